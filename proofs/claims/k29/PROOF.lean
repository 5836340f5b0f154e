
import PyProof.Rows.All
import Wide.All
import OpenK.AllK
import Wide.FinOn
import Lean
import PyProof.EqAt
import PyProof.EqKinds
import PyProof.TupleCall
import PyProof.NeKinds
import PyProof.RaisesMany
import PyProof.RulesAs
import PyProof.NsDelKeeps
import PyProof.InstStoreFacts
import PyProof.ExcClass3
import PyProof.ExcInit
import KE.KTryMore
import PyProof.AutoSeq1
import PyProof.WalkInts
import PyProof.DictIter
import PyProof.DictWalks
import PyProof.DictItems
import PyProof.DictItemsLoops
import KE.KPairComp
import PyProof.DictValues
import PyProof.SumAny
import PyProof.Rows.SumAny
import PyProof.Rows.RuleDivmod
import KE.KRevIter
import PyProof.TupleOfGen
import KE.KMinKey
import PyProof.Rows.CallKwBuiltin
import KE.KDictSum
import KE.IntBitsLaws
import PySem.Challenge.RW_mumtrial_k29_trials_or_not
noncomputable section
open PySem.Value renaming isStrOf->DY,builtin->p8
open PySem renaming Program->bu,reduceHash->FA,wpAny_mono->cM,wpAny_bind->ak,wpAny_specialOf->HX,wpAny_call_entry->wL,wpAny_forIn_list->CU,wpAny_pure->ap,wpAny_rule->oP,Builtin->b_,isInstance->vH,wpAny_holding->gE,wpAny_truthy_bool->mW,wpAny_seqItems->jG,sizeLine->ai,sysModules->jF,Within->zK,mainGlobals->bh,bootBuiltins->ix,starEach->aA,compareOp->eJ,behindInMarks->kY,standAt->oM,holding->jf,wpAny_execs_nil->mU,wpAny_execs_cons->CO,swapsWith->mT,assignEach->vG,wpAny_standAt->zJ,PassesOwn->vF,wpAny_passesOwn->fZ,letOwnedTupleGo->CN,wpAny_pyIter_list->sW,wpAny_pyIter_tuple->CM,foldedSetIterable->rD,binaryOp->iP,sizeLine_eq->vD,getAttr->zG,getMethod->oJ,wpAny_loadPart->CJ,codeAny->zzl87,attributeBase->vC,FuncData->iw,BindsTo->nG,wpAny_call->j7,codeAny_mono->qD,wpAny_Call_Name_kw->qC,callWith->nF,backToKw->j6,keywordEach->j5,NameKind->gM,mem_of_lookup->qA,richCompare->xL,concat_meets->xK,noFill_tuple_add->xJ,seq_tuple_add->xI,wpAny_field->ca,getItem->gK,wpAny_callSpecial?_slot->nC,wpAny_typeOf->nu,wpAny_newObj_type->gJ,typeLookup->qw,subscripted->xz,sliceBounds->nr,valueAt->nk,callerA->lp,noteFrame->qq,ZipApart->qp,wpAny_pyIter_zip->xv,seqItems?->tO,wpAny_setField->ni,wpAny_setField_rec->qk,wpAny_onRaise->tL,wpAny_letGo->nh,wpAny_attempt->tK,getAttr?->xh,codeAny_builtin->tG,wpAny_tryCatch->tE,plainId_quiet->tD,excClassObj->dh,checkBuiltinCall->w_,wpAny_loadPart_at->jZ,wpAny_isSubtype_exc->tz,codeAny_call_builtin->w8,onTheHeap->wY,setFlight->tu,ExceptHandler->wX,intItems->qg
open PySem.Builtin.Tuple renaming tupleHashOf->Bj,tupleItemsOf->CV,tupleExact->lr
open Bool renaming false_ne_true->iO,not_true->CS,false_eq_true->tI,eq_iff_iff->vE,and_eq_true->tS,and_false->tJ,true_and->s_
open Nat renaming add_assoc->CT,le_refl->ay,lt_of_lt_of_le->f6,lt_irrefl->rE,ne_of_lt->bX,le_trans->bo,le_of_lt->df,ne_of_gt->fX,zero_le->cp,le_succ->j4,lt_of_le_of_lt->xx,sub_zero->xa,not_le_of_lt->js,min_eq_left->wU,min_eq_right->wS,mod_lt->tj,sub_self->wQ
open List renaming append_nil->eM,range->iQ,filterMap_cons->oO,mem_cons_self->fh,mem_cons_of_mem->eK,mem_cons->cz,mem_append->cG,mem_append_left->gD,getElem?_eq_some_iff->cV,getElem?_set_self->CQ,getElem?_set_ne->CP,mem_append_right->dE,length_cons->dD,lookup->iN,map_cons->cw,length_map->ao,nodup_cons->nE,of_mem_zip->tU,replicate->dz,length_take->aK,getElem?_append_right->qz,getElem?_map->dj,mem_of_getElem?->dw,length_append->aP,length_replicate->fG,length_nil->lz,size_toArray->bD,length_drop->cA,length_set->qt,reverse_cons->xy,find?_cons->nq,any_cons->qr,lookup_cons->iT,forIn_cons->tQ,mem_map->bA,not_mem_nil->tP,any_toArray->xk,drop_zero->qj,take_length->cv,getElem?_eq_getElem->bI,mem_singleton->eD,map_append->aQ,nodup_append->f_,drop_of_length_le->qi,drop_eq_getElem_cons->xf,contains_cons->f8,length_reverse->jY,take_of_length_le->jr,eq_nil_of_length_eq_zero->wV,map_take->tq,map_drop->tm,drop_length->wR,mem_of_mem_take->gG,mem_of_mem_drop->lg,append_assoc->iR,map_map->tf,mem_map_of_mem->qa,take_zero->sZ,length_filter_le->p_,filter_append->sY,map_eq_nil_iff->sX,zipWith->dg,length_zipWith->wO,length_zip->lc,mem_reverse->wN,length_pos_iff->ng,replicate_succ'->wM
open Option.some renaming inj->fx
open PySem.W renaming instObj->rF,lookIn->CL,plainGet->zH,hasDictIn->CK,findIn->az,isFn->rC,makesIn->zF,emptyDict->oH,keepIn->cU,specialIn->CI,kitOne->mS,kia_one->je,callWith_K->tV,fnOf->iU,codeIn->nD,looks_findIn->tw,exmOne->wW,kitAny->qh,nsIn->bf,mg_of->bz,mg_none_of->eB
open PySem.Heap renaming lt_size->aS,SameBut->jE,get?_push_of_some->bc,get?_push_size->db,size_push->kW,get?_update_self->jt,get?_update_other->gH
open PyProof.Rows renaming AllBare->mV,callWith_type1->zI,IntsAre->gL,slicePart_none->xE,slot_tuple_getitem->j3,Subscript_->xC,subscriptTail->xB
open Ne renaming symm->dJ
open Array renaming length_toList->oK,getElem?_eq_some_iff->ic
open False renaming elim->de
open True renaming intro->g8
open Option renaming isSome_iff_exists->tT,map_some->tR,map_eq_some_iff->ib
open PySem.SeqAt renaming EqAt->bp
open PySem.F renaming slot_tuple_add->xH,entry_tuple_add->xG,args_tuple_add_2->xF,slot_tuple_iterator_next->xu,slot_zip_next->xm,plain_min_loop->qe,plainAttrs_list->h_,slot_list_append->jq,type_list_append->jp
open Int renaming toNat_natCast->qy,emod_nonneg->qd,emod_lt_of_pos->qb,eq_ofNat_of_zero_le->ia,toNat->wP
open PySem.Builtin.Slice renaming sliceAdjust->qx,slicePlaces->lu,sliceApplied->xD
open PySem.Str renaming ofString->nB
open PyProof.Rows.IsTup renaming new->xA
open PySem.Obj renaming mapSeq->qv,isFreed_of_fields->tM,data_mapFields->lh,mapFields->iS
open PySem.Paired renaming snoc->eE
open ForInStep renaming yield->xw
open PySem.NameKind renaming free->ln
open PySem.Builtin.SmallTypes renaming nextOf->lm,ownedTupleIsFree->xr
open PySem.Heap.SameBut renaming update->tN
open PySem.Builtin.Str renaming strSliceIndices->tH
open PySem.Txt renaming join->xj
open PySem.Walks renaming list->xi
open PySem.Around renaming under_plainId->tF
open PySem.Builtin.ObjectAttr renaming storeInDict->wZ
open Prod renaming fst->p9,snd->lb
open PySem.PassesOwn renaming never->bY
theorem Q0:0<=PySem.sizeLine:=by decide
theorem Q1:1<=PySem.sizeLine:=by decide
theorem Q2:2<=PySem.sizeLine:=by decide
theorem Q3:3<=PySem.sizeLine:=by decide
theorem Q4:4<=PySem.sizeLine:=by decide
theorem Q6:6<=PySem.sizeLine:=by decide
theorem zzr0{p:Prop}[Decidable p](h:¬p):decide p=false:=decide_eq_false h
theorem zzr1{p:Prop}[Decidable p](h:p):decide p=true:=decide_eq_true h
abbrev Za:=PySem.W.Frag
abbrev Zb:=List PySem.Str
abbrev Zc:=PySem.Value->PySem.Shared->Prop
abbrev Zd:=List (PySem.Addr×PySem.Obj)
abbrev Ze:=List PySem.Addr
abbrev Zf:=List PySem.Value
section
set_option Elab.async false
set_option linter.all false
set_option maxRecDepth 100000
set_option maxHeartbeats 4000000
namespace L2
open PySem PySem.Spec PyProof.Rows
open Sem (wp)
abbrev fA:=Sum Int Str
def dH:fA->Value->Bool
 |.inl k,v=>Value.isInt k v
 |.inr x,v=>DY x v
def Lx(w:World):fA->Int
 |.inl k=>hashInt k
 |.inr x=>hashStr w x
theorem aB:∀{k:fA}{v:Value},dH k v=true->(∃i t,k=Sum.inl i/\v=Value.int i t)∨(∃x t,k=Sum.inr x/\v=Value.str x t)
 |.inl i,v,h=>by
  obtain⟨t,e⟩:=Value.isInt_shape (k:=i) (v:=v) h;exact .inl ⟨i,t,rfl,e⟩
 |.inr x,v,h=>by
  obtain⟨t,e⟩:=Value.isStrOf_shape (x:=x) (v:=v) h;exact .inr ⟨x,t,rfl,e⟩
theorem mv(i:Int)(t:Tok):dH (.inl i) (.int i t)=true:=by simp[dH,Value.isInt]
theorem mr(x:Str)(t:Tok):dH (.inr x) (.str x t)=true:=by simp[dH,DY]
theorem yP(a b:Int):decide ((Sum.inl a:fA)=Sum.inl b)=(a==b):=by
 by_cases e:a=b
 ·subst e;simp
 ·have h:¬(Sum.inl a:fA)=Sum.inl b:=fun q=>e (Sum.inl.inj q);rw[zzr0 h];exact(beq_eq_false_iff_ne.mpr e).symm
theorem yM(a b:Str):decide ((Sum.inr a:fA)=Sum.inr b)=decide (a=b):=by
 by_cases e:a=b
 ·subst e;simp
 ·have h:¬(Sum.inr a:fA)=Sum.inr b:=fun q=>e (Sum.inr.inj q);rw[zzr0 h,zzr0 e]
theorem yO(a:Int)(b:Str):decide ((Sum.inl a:fA)=Sum.inr b)=false:=zzr0 (fun q=>nomatch q)
theorem yN(a:Str)(b:Int):decide ((Sum.inr a:fA)=Sum.inl b)=false:=zzr0 (fun q=>nomatch q)
def cI(prog:bu)(w:World):PySem.KeyKind prog w fA where
 is:=dH
 hash:=Lx w
 inj:=fun v a b ha hb=>by
  rcases aB ha with⟨i,t,rfl,rfl⟩|⟨x,t,rfl,rfl⟩
  ·rcases aB hb with⟨j,u,rfl,e⟩|⟨y,u,rfl,e⟩
   ·injection e with e1 _;rw[e1]
   ·exact nomatch e
  ·rcases aB hb with⟨j,u,rfl,e⟩|⟨y,u,rfl,e⟩
   ·exact nomatch e
   ·injection e with e1 _;rw[e1]
 byValue:=fun k v h=>by
  rcases aB h with⟨i,t,rfl,rfl⟩|⟨x,t,rfl,rfl⟩<;>rfl
 pyHash:=fun hv h=>by
  rcases aB hv with⟨i,t,rfl,rfl⟩|⟨x,t,rfl,rfl⟩
  ·exact wpAny_pyHash_int h
  ·exact wpAny_pyHash_str h
 eqBool:=fun hu hv h=>by
  rcases aB hu with⟨i,t,rfl,rfl⟩|⟨x,t,rfl,rfl⟩
  ·rcases aB hv with⟨j,u,rfl,rfl⟩|⟨y,u,rfl,rfl⟩
   ·rw[yP]at h;exact wpAny_eqBool_int h
   ·rw[yO]at h;exact bp.int_str i t y u _ _ _ _ h
  ·rcases aB hv with⟨j,u,rfl,rfl⟩|⟨y,u,rfl,rfl⟩
   ·rw[yN]at h;exact bp.str_int x t j u _ _ _ _ h
   ·rw[yM]at h;exact wpAny_eqBool_str h
 «strs»:=fun k x t v h=>by
  rcases aB h with⟨i,u,rfl,e⟩|⟨y,u,rfl,e⟩
  ·exact nomatch e
  ·injection e with e1 _;subst e1;cases v<;>rfl
theorem Ay(a:bu)(w:World)(i:Int)(t:Tok):(cI a w).is (.inl i) (.int i t)=true:=mv i t
theorem Ax(a:bu)(w:World)(x:Str)(t:Tok):(cI a w).is (.inr x) (.str x t)=true:=mr x t
end L2
namespace L2
open PySem PySem.Spec PyProof.Rows
open Sem (wp)
abbrev ou:=Option fA
def i3:ou->Value->Bool
 |none,v=>match v with
  |.none=>true
  |_=>false
 |some k,v=>dH k v
def JM(w:World):ou->Int
 |none=>FA 4238894112
 |some k=>Lx w k
theorem bR:∀{k:ou}{v:Value},i3 k v=true->(∃i t,k=some (Sum.inl i)/\v=Value.int i t)∨(∃x t,k=some (Sum.inr x)/\v=Value.str x t)∨(k=none/\v=Value.none)
 |none,v,h=>by
  refine .inr (.inr ⟨rfl,?_⟩);cases v<;>first|rfl|cases h
 |some k,v,h=>by
  rcases aB (show dH k v=true from h)with⟨i,t,rfl,rfl⟩|⟨i,t,rfl,rfl⟩
  ·exact .inl ⟨i,t,rfl,rfl⟩
  ·exact .inr (.inl ⟨i,t,rfl,rfl⟩)
theorem uD{a b:ou}{v:Value}(f:i3 a v=true)(g:i3 b v=true):a=b:=by
 rcases bR f with⟨i,t,rfl,rfl⟩|⟨i,t,rfl,rfl⟩|⟨rfl,rfl⟩<;>rcases bR g with⟨j,u,rfl,e⟩|⟨j,u,rfl,e⟩|⟨rfl,e⟩<;>first|rfl|(cases e;rfl)|cases e
def Aw(prog:bu)(w:World):PySem.KeyKind prog w ou where
 is:=i3
 hash:=JM w
 inj:=fun v a b ha hb=>uD ha hb
 byValue:=fun k v h=>by
  rcases bR h with⟨i,t,rfl,rfl⟩|⟨x,t,rfl,rfl⟩|⟨rfl,rfl⟩<;>rfl
 pyHash:=fun{A E s k v Q} hv h=>by
  rcases bR hv with⟨i,t,rfl,rfl⟩|⟨x,t,rfl,rfl⟩|⟨rfl,rfl⟩
  ·exact wpAny_pyHash_int h
  ·exact wpAny_pyHash_str h
  ·refine PySem.W.pyHash_slot (T:="NoneType") rfl F.slot_NoneType_hash F.entry_NoneType_hash (F.args_NoneType_hash_1 _) (by rw[beq_builtin_none]) (.inl rfl) ?_;show wpAny _ _ (retInt 4238894112) _ _ _;refine cM (wpAny_ret_mkInt (Q:=fun v s'=>∃n t,v=Value.int n t/\Q (FA n) s') ⟨_,_,rfl,h⟩) (fun fin s' ⟨v,e,n,t,e2,q⟩=>⟨n,t,by rw[e,e2],q⟩) (fun _ _ z=>z)
 eqBool:=fun{A E s a b u v Q} hu hv h=>by
  rcases bR hu with⟨i,t,rfl,rfl⟩|⟨x,t,rfl,rfl⟩|⟨rfl,rfl⟩
  ·rcases bR hv with⟨j,u,rfl,rfl⟩|⟨y,u,rfl,rfl⟩|⟨rfl,rfl⟩
   ·exact(cI prog w).eqBool (a:=.inl i) (b:=.inl j) (mv i t) (mv j u) (by rw[show decide ((Sum.inl i:fA)=Sum.inl j)=decide ((some (Sum.inl i):ou)=some (Sum.inl j))from decide_eq_decide.mpr ⟨fun z=>by rw[z],fun z=>by injection z⟩];exact h)
   ·rw[zzr0 (by intro z;injection z with z;cases z)]at h;exact bp.int_str i t y u _ _ _ _ h
   ·rw[zzr0 (by intro z;cases z)]at h;exact bp.int_none i t _ _ _ _ h
  ·rcases bR hv with⟨j,u,rfl,rfl⟩|⟨y,u,rfl,rfl⟩|⟨rfl,rfl⟩
   ·rw[zzr0 (by intro z;injection z with z;cases z)]at h;exact bp.str_int x t j u _ _ _ _ h
   ·exact(cI prog w).eqBool (a:=.inr x) (b:=.inr y) (mr x t) (mr y u) (by rw[show decide ((Sum.inr x:fA)=Sum.inr y)=decide ((some (Sum.inr x):ou)=some (Sum.inr y))from decide_eq_decide.mpr ⟨fun z=>by rw[z],fun z=>by injection z⟩];exact h)
   ·rw[zzr0 (by intro z;cases z)]at h;exact bp.str_none x t _ _ _ _ h
  ·rcases bR hv with⟨j,u,rfl,rfl⟩|⟨y,u,rfl,rfl⟩|⟨rfl,rfl⟩
   ·rw[zzr0 (by intro z;cases z)]at h;exact bp.none_int j u _ _ _ _ h
   ·rw[zzr0 (by intro z;cases z)]at h;exact bp.none_str y u _ _ _ _ h
   ·rw[zzr1 rfl]at h;exact bp.same _ _ _ _ _ h
 «strs»:=fun k x t v h=>by
  rcases bR h with⟨i,u,rfl,e⟩|⟨y,u,rfl,e⟩|⟨rfl,e⟩
  ·exact nomatch e
  ·injection e with e1 _;subst e1;cases v<;>rfl
  ·exact nomatch e
inductive TK where
 |k (a:ou)
 |t (l:List TK)
mutual
def JU:(x y:TK)->Decidable (x=y)
 |.k a,.k b=>if h:a=b then Decidable.isTrue (by rw[h])else Decidable.isFalse fun e=>h (by injection e)
 |.t l,.t m=>match decTKs l m with
  |Decidable.isTrue h=>Decidable.isTrue (by rw[h])
  |Decidable.isFalse h=>Decidable.isFalse fun e=>h (by injection e)
 |.k _,.t _=>Decidable.isFalse nofun
 |.t _,.k _=>Decidable.isFalse nofun
def decTKs:(x y:List TK)->Decidable (x=y)
 |[],[]=>Decidable.isTrue rfl
 |[],_::_=>Decidable.isFalse nofun
 |_::_,[]=>Decidable.isFalse nofun
 |a::l,b::m=>match JU a b with
  |Decidable.isTrue h=>match decTKs l m with
   |Decidable.isTrue h'=>Decidable.isTrue (by rw[h,h'])
   |Decidable.isFalse h'=>Decidable.isFalse fun e=>h' (by injection e)
  |Decidable.isFalse h=>Decidable.isFalse fun e=>h (by injection e)
end
instance:DecidableEq TK:=JU
mutual
def TK.depth:TK->Nat
 |.k _=>0
 |.t l=>TK.depths l+1
def TK.depths:List TK->Nat
 |[]=>0
 |a::r=>max (TK.depth a) (TK.depths r)
end
mutual
def TK.hash(w:World):TK->Int
 |.k a=>JM w a
 |.t l=>FA (Bj (TK.hashs w l))
def TK.hashs(w:World):List TK->List Int
 |[]=>[]
 |a::r=>TK.hash w a::TK.hashs w r
end
mutual
def TK.draws:TK->Nat
 |.k _=>1
 |.t l=>TK.drawss l+1
def TK.drawss:List TK->Nat
 |[]=>0
 |a::r=>TK.draws a+TK.drawss r
end
mutual
def mO(h:Heap):TK->Value->Prop
 |.k a,v=>i3 a v=true
 |.t l,v=>∃a o items n,v=.ref a/\h.get? a=some o/\o.cls=.type "tuple"/\o.data=.seq items n/\TAts h l items.toList
def TAts(h:Heap):List TK->List Value->Prop
 |[],vs=>vs=[]
 |k::r,vs=>∃v us,vs=v::us/\mO h k v/\TAts h r us
end
theorem mO.inj{h:Heap}:∀(d:Nat) {x y:TK}{v:Value},x.depth<=d->mO h x v->mO h y v->x=y:=by
 have w:∀(d:Nat) (s:∀{x y:TK}{v:Value},x.depth<=d->mO h x v->mO h y v->x=y) (xs i:List TK) (m:Zf),TK.depths xs<=d->TAts h xs m->TAts h i m->xs=i:=by
  intro d s xs
  induction xs with
  |nil =>
   intro i m _ hx f;have z:m=[]:=hx;subst z;cases i with
   |nil=>rfl
   |cons y i=>obtain⟨_,_,e,_⟩:=f;cases e
  |cons x xs A =>
   intro i m p hx f;obtain⟨v,L,rfl,B,C⟩:=hx;cases i with
   |nil=>have D:v::L=[]:=f;cases D
   |cons y i =>
    obtain⟨v',N,e,E,G⟩:=f;cases e;have O:max x.depth (TK.depths xs)<=d:=p;rw[s (by omega) B E,A i L (by omega) C G]
 have g:∀(a:ou) (l:List TK) (v:Value),mO h (.k a) v->mO h (.t l) v->False:=by
  intro a l v q H;obtain⟨b,o,items,n,rfl,_⟩:=H;rcases bR (show i3 a (.ref b)=true from q)with⟨_,_,_,e⟩|⟨_,_,_,e⟩|⟨_,e⟩<;>cases e
 have M:∀(a b:ou) (v:Value),i3 a v=true->i3 b v=true->a=b:=fun a b v q H=>uD q H;intro d
 induction d with
 |zero =>
  intro x y v p hx f;cases x with
  |t l=>exact absurd p (by show ¬(TK.depths l+1<=0);omega)
  |k a =>
   cases y with
   |k b=>rw[M a b v hx f]
   |t l=>exact(g a l v hx f).elim
 |succ d s =>
  intro x y v p hx f;cases x with
  |k a =>
   cases y with
   |k b=>rw[M a b v hx f]
   |t l=>exact(g a l v hx f).elim
  |t l =>
   cases y with
   |k b=>exact(g b l v f hx).elim
   |t Q =>
    obtain⟨a,o,items,n,rfl,T,hc,I,hi⟩:=hx;obtain⟨a',o',u,n',e,r,U,j,J⟩:=f;cases e;rw[T]at r;cases r;rw[I]at j;injection j with Y _;subst Y;rw[w d (fun q=>s q) l Q items.toList (by have:TK.depths l+1<=d+1:=p;omega) hi J]
theorem mO.mono{h g:Heap}(k:∀a o items n,h.get? a=some o->o.cls=.type "tuple"->o.data=.seq items n->g.get? a=some o):∀(d:Nat) {x:TK}{v:Value},x.depth<=d->mO h x v->mO g x v:=by
 have m:∀(d:Nat) (i:∀{x:TK}{v:Value},x.depth<=d->mO h x v->mO g x v) (xs:List TK) (j:Zf),TK.depths xs<=d->TAts h xs j->TAts g xs j:=by
  intro d i xs
  induction xs with
  |nil=>intro j _ hx;exact hx
  |cons x xs p =>
   intro j e hx;obtain⟨v,s,rfl,q,r⟩:=hx;have w:max x.depth (TK.depths xs)<=d:=e;exact⟨v,s,rfl,i (by omega) q,p s (by omega) r⟩
 intro d
 induction d with
 |zero =>
  intro x v e hx;cases x with
  |t l=>exact absurd e (by show ¬(TK.depths l+1<=0);omega)
  |k a=>exact hx
 |succ d i =>
  intro x v e hx;cases x with
  |k a=>exact hx
  |t l =>
   obtain⟨a,o,items,n,rfl,y,u,f,hi⟩:=hx;exact⟨a,o,items,n,rfl,k a o items n y u f,u,f,m d (fun z=>i z) l _ (by have:TK.depths l+1<=d+1:=e;omega) hi⟩
section
variable{prog:bu}{w:World}
theorem Ik:∀(d:Nat) {A:Around}{E:Zc}{s:Shared}{k:TK}{v:Value}{Q:Int->Shared->Prop},k.depth<=d->A.units+d<cLine->mO s.heap k v->Q (k.hash w) { s with toks:=s.toks+k.draws } ->
  wpAny (model prog w) A (pyHash v) Q E s:=by
 intro d
 induction d with
 |zero =>
  intro A E s k v Q C hu u h;cases k with
  |t l=>exact absurd C (by show ¬(TK.depths l+1<=0);omega)
  |k a=>exact(Aw prog w).pyHash (k:=a) u h
 |succ d ih =>
  intro A E s k v Q C hu u h;cases k with
  |k a=>exact(Aw prog w).pyHash (k:=a) u h
  |t l =>
   obtain⟨a,o,items,n,rfl,U,hc,D,hi⟩:=u;have y:s.TypeIs (.ref a) "tuple":=⟨o,U,hc⟩;have G:TK.depths l<=d:=by have:TK.depths l+1<=d+1:=C;omega
   unfold pyHash
   first|unfold pyHashByItsType|skip
   first|refine ak (wpAny_cRoomFor_or (.inr (by omega)) ?_)|skip
   refine ak (HX y F.slot_tuple_hash.lookup ?_);show wpAny _ _ (if(some (p8 "tuple.__hash__")==some Value.none)=true then _ else _) Q E s
   rw[if_neg (by rw[beq_builtin_none];exact iO)];refine ak (HX y F.slot_tuple_hash.lookup ?_);show wpAny _ _ (callSpecialIfBoundUnlessNone? (.ref a) "__hash__" _ >>= _) Q E s;refine ak (wpAny_callSpecialIfBoundUnlessNone?_slot y F.slot_tuple_hash (wL F.slot_tuple_hash y F.entry_tuple_hash ?_ (F.args_tuple_hash_1 _)));show wpAny _ _ (CV (.ref a) >>= _) _ _ s;refine ak (wpAny_tupleItemsOf U D ?_);refine ak ?_;rw[<-Array.forIn_toList];refine CU _
    (fun g (b:Array Int) H=>∃done left,l=done++left/\TAts s.heap left g/\b.toList=TK.hashs w done/\H={ s with toks:=s.toks+TK.drawss done })
    _ ?_ ?_ _ _ ⟨[],l,rfl,hi,rfl,rfl⟩
   ·rintro x g b H ⟨done,left,e,z,j,rfl⟩;cases left with
    |nil=>have I:x::g=[]:=z;cases I
    |cons f left =>
     obtain⟨x',J,L,h1,Y⟩:=z;cases L;have M:f.depth<=d:=by
      have gen:∀(p:List TK),TK.depths (p++f::left)<=d->f.depth<=d:=by
       intro p
       induction p with
       |nil=>intro N;have O:max f.depth (TK.depths left)<=d:=N;omega
       |cons q p i=>intro N;have O:max q.depth (TK.depths (p++f::left))<=d:=N;exact i (by omega)
      exact gen done (by rw[<-e];exact G)
     have T:TK.hashs w (done++[f])=TK.hashs w done++[f.hash w]:=by
      clear e j
      induction done with
      |nil=>rfl
      |cons q p i=>show _::TK.hashs w (p++[f])=_;rw[i];rfl
     have m:TK.drawss (done++[f])=TK.drawss done+f.draws:=by
      clear e j T
      induction done with
      |nil=>show f.draws+0=0+f.draws;omega
      |cons q p i=>show q.draws+TK.drawss (p++[f])=q.draws+TK.drawss p+f.draws;rw[i];omega
     refine ak (ih (k:=f) M (by show A.units+1+d<cLine;omega) h1 ?_)
     first
      |exact ap ⟨done++[f],left,by rw[e];simp,Y,by rw[T];simp[j],by rw[m];simp[CT]⟩
      |exact ak (ap (ap ⟨done++[f],left,by rw[e];simp,Y,by rw[T];simp[j],by rw[m];simp[CT]⟩))
   ·rintro b H ⟨done,left,e,z,j,rfl⟩;cases left with
    |cons f left=>obtain⟨_,_,L,_⟩:=z;cases L
    |nil =>
     rw[eM]at e;subst e;show wpAny _ _ (retInt (Bj b.toList)) _ _ _;rw[j];refine wpAny_ret_mkInt ?_;have r:Q (FA (Bj (TK.hashs w l))) { s with toks:=s.toks+(TK.drawss l+1) }:=h;show wpAny _ _ (if(decide (-(2:Int) ^ 63<=Bj (TK.hashs w l)) && decide (Bj (TK.hashs w l)<2 ^ 63))=true then _ else _) Q E _
     unfold FA at r;by_cases B:(decide (-(2:Int) ^ 63<=Bj (TK.hashs w l)) && decide (Bj (TK.hashs w l)<2 ^ 63))=true
     ·rw[if_pos B];rw[if_pos B]at r;exact ap (by simpa[CT]using r)
     ·rw[if_neg B];rw[if_neg B]at r;exact ak (oP (ap (by simpa[CT]using r)))
theorem Ed(d:Nat)(ih:∀{A:Around}{E:Zc}{s:Shared}{x y:TK}{u v:Value}{Q:Bool->Shared->Prop},x.depth<=d->y.depth<=d->A.units+d<cLine->mO s.heap x u->mO s.heap y v->Q (decide (x=y)) s->wpAny (model prog w) A (eqBool u v) Q E s)
  {A:Around}{E:Zc}{s:Shared}{x y:List TK}{a b:Addr}{P:Fin->Shared->Prop}{oa J:Obj}{xs q:Array Value}{na nb:Nat}(hx:TK.depths x<=d) (hy:TK.depths y<=d) (hu:A.units+d<cLine)
  (M:s.heap.get? a=some oa) (N:oa.data=.seq xs na) (O:TAts s.heap x xs.toList) (z:s.heap.get? b=some J) (T:J.cls=.type "tuple") (U:J.data=.seq q nb) (Y:TAts s.heap y q.toList)
  (h:P (.done (.ret (.bool (decide (x=y))))) s):wpAny (model prog w) A (b_.«tuple.__eq__» ⟨[.ref a,.ref b],[]⟩) P E s:=by
 have ab:s.TypeIs (.ref b) "tuple":=⟨J,z,T⟩;show wpAny _ _ (vH (.ref b) (.type "tuple") >>= _) _ _ s;refine ak (wpAny_isInstance ab isSubtype_tuple_tuple ?_);simp only[CS,tI,if_false];refine ak (wpAny_tupleItemsOf M N ?_);refine ak (wpAny_tupleItemsOf z U ?_);refine ak ?_;refine CU _
  (fun l r L=>r.1=none/\L=s/\∃n m xs' f,l=List.zip xs' f/\TAts s.heap n xs'/\TAts s.heap m f/\TK.depths n<=d/\TK.depths m<=d/\decide (n=m)=decide (x=y)/\(xs'.length==f.length)=(xs.size==q.size))
  _ ?_ ?_ _ _ ⟨rfl,rfl,x,y,xs.toList,q.toList,rfl,O,Y,hx,hy,rfl,by simp⟩
 ·rintro⟨u,v⟩ l r L ⟨hr,rfl,n,m,xs',f,t,j,g,dx,dy,i,k⟩;cases n with
  |nil =>
   have e:xs'=[]:=j;subst e;simp at t
  |cons k1 o =>
   obtain⟨u',B,rfl,h1,C⟩:=j;cases m with
   |nil =>
    have e:f=[]:=g;subst e;simp at t
   |cons k2 p =>
    obtain⟨v',D,rfl,h2,G⟩:=g;simp only[List.zip_cons_cons,List.cons.injEq,Prod.mk.injEq]at t;obtain⟨⟨rfl,rfl⟩,rfl⟩:=t;have al:max k1.depth (TK.depths o)<=d:=dx;have an:max k2.depth (TK.depths p)<=d:=dy;refine ak (ih (x:=k1) (y:=k2) (by omega) (by omega) hu h1 h2 ?_);by_cases hk:k1=k2
    ·subst hk;rw[zzr1 rfl];simp only[CS,tI,if_false];refine ap ⟨rfl,rfl,o,p,B,D,rfl,C,G,by omega,by omega,?_,by simpa using k⟩;rw[<-i];by_cases H:o=p
     ·simp[H]
     ·simp[H]
    ·rw[zzr0 hk];simp only[Bool.not_false,if_true];have hf:decide (x=y)=false:=by rw[<-i];simp[hk]
     rw[hf]at h;exact ak (ap (ap (ap h)))
 ·rintro⟨r1,r2⟩ L ⟨hr,rfl,n,m,xs',f,t,j,g,dx,dy,i,k⟩;simp only at hr;subst hr;refine ap ?_;have I:(xs.size==q.size)=decide (x=y):=by
   rw[<-i,<-k];cases n with
   |nil =>
    have e:xs'=[]:=j;subst e;cases m with
    |nil=>have e:f=[]:=g;subst e;simp
    |cons _ _=>obtain⟨_,_,rfl,_⟩:=g;simp
   |cons _ _ =>
    obtain⟨_,_,rfl,_⟩:=j;cases m with
    |nil=>have e:f=[]:=g;subst e;simp
    |cons _ _=>obtain⟨_,_,rfl,_⟩:=g;simp at t
  show P (.done (.ret (.bool (xs.size==q.size)))) L;rw[I];exact h
theorem La:∀(d:Nat) {A:Around}{E:Zc}{s:Shared}{x y:TK}{u v:Value}{Q:Bool->Shared->Prop},x.depth<=d->y.depth<=d->A.units+d<cLine->mO s.heap x u->mO s.heap y v->Q (decide (x=y)) s ->
  wpAny (model prog w) A (eqBool u v) Q E s:=by
 have g:∀{A:Around}{E:Zc}{s:Shared}{a:ou}{l:List TK}{u v:Value}{Q:Bool->Shared->Prop},A.units<cLine->mO s.heap (.k a) u->mO s.heap (.t l) v->Q false s->wpAny (model prog w) A (eqBool u v) Q E s:=by
  intro A E s a l u v Q j hx f h;obtain⟨b,o,items,n,rfl,L,M,q,hi⟩:=f;have r:s.heap.IsTuple b items:=⟨o,L,M,n,q⟩;rcases bR (show i3 a u=true from hx)with⟨i,t,rfl,rfl⟩|⟨i,t,rfl,rfl⟩|⟨rfl,rfl⟩
  ·exact bp.int_tuple i t r j prog w E Q h
  ·exact bp.str_tuple i t r j prog w E Q h
  ·exact bp.none_tuple r j prog w E Q h
 have p:∀{A:Around}{E:Zc}{s:Shared}{a:ou}{l:List TK}{u v:Value}{Q:Bool->Shared->Prop},A.units<cLine->mO s.heap (.t l) u->mO s.heap (.k a) v->Q false s->wpAny (model prog w) A (eqBool u v) Q E s:=by
  intro A E s a l u v Q j hx f h;obtain⟨b,o,items,n,rfl,L,M,q,hi⟩:=hx;have r:s.heap.IsTuple b items:=⟨o,L,M,n,q⟩;rcases bR (show i3 a v=true from f)with⟨i,t,rfl,rfl⟩|⟨i,t,rfl,rfl⟩|⟨rfl,rfl⟩
  ·exact bp.tuple_int i t r j prog w E Q h
  ·exact bp.tuple_str i t r j prog w E Q h
  ·exact bp.tuple_none r j prog w E Q h
 have leaves:∀{A:Around}{E:Zc}{s:Shared}{a b:ou}{u v:Value}{Q:Bool->Shared->Prop},mO s.heap (.k a) u->mO s.heap (.k b) v->Q (decide (TK.k a=TK.k b)) s->wpAny (model prog w) A (eqBool u v) Q E s:=by
  intro A E s a b u v Q hx f h;refine(Aw prog w).eqBool (a:=a) (b:=b) hx f ?_;by_cases e:a=b
  ·subst e;simpa using h
  ·have:¬(TK.k a=TK.k b):=fun z=>e (by injection z);rw[zzr0 this]at h;rw[zzr0 e];exact h
 intro d
 induction d with
 |zero =>
  intro A E s x y u v Q B C j hx f h;cases x with
  |t l=>exact absurd B (by show ¬(TK.depths l+1<=0);omega)
  |k a =>
   cases y with
   |t l=>exact absurd C (by show ¬(TK.depths l+1<=0);omega)
   |k b=>exact leaves hx f h
 |succ d ih =>
  intro A E s x y u v Q B C j hx f h;cases x with
  |k a =>
   cases y with
   |k b=>exact leaves hx f h
   |t l =>
    rw[zzr0 (by intro z;cases z)]at h;exact g (by omega) hx f h
  |t l =>
   cases y with
   |k b =>
    rw[zzr0 (by intro z;cases z)]at h;exact p (by omega) hx f h
   |t m =>
    have hl:TK.depths l<=d:=by have:TK.depths l+1<=d+1:=B;omega
    have hm:TK.depths m<=d:=by have:TK.depths m+1<=d+1:=C;omega
    have N:=hx;have O:=f;obtain⟨a,oa,xs,na,rfl,G,T,U,Y⟩:=hx;obtain⟨b,ob,ys,nb,rfl,H,I,ab,al⟩:=f;have J:s.TypeIs (.ref a) "tuple":=⟨oa,G,T⟩;have an:s.TypeIs (.ref b) "tuple":=⟨ob,H,I⟩;have as:decide (TK.t l=TK.t m)=decide (l=m):=by
     by_cases e:l=m
     ·subst e;simp
     ·have:¬(TK.t l=TK.t m):=fun z=>e (by injection z);rw[zzr0 this,zzr0 e]
    unfold eqBool
    try with_reducible refine gE ?_
    show wpAny _ _ (if(Value.ref a==Value.ref b)=true then _ else _) Q E s
    by_cases D:(Value.ref a==Value.ref b)=true
    ·rw[if_pos D];have e:a=b:=by have:=eq_of_beq D;injection this
     subst e;have e2:TK.t l=TK.t m:=mO.inj _ (ay _) N O;rw[zzr1 e2]at h;exact ak (oP (ap h))
    ·rw[if_neg D];rw[as]at h;exact ak (wpAny_richCompare_same_room (op:=.Eq) J an F.slot_tuple_eq
      (wL F.slot_tuple_eq J F.entry_tuple_eq (Ed d (fun h1 h2 h3 h4 h5 h6=>ih h1 h2 h3 h4 h5 h6) hl hm (by show A.units+1+d<cLine;omega) G U Y H I ab al ⟨_,rfl,(fun e=>nomatch e),mW h⟩) (F.args_tuple_eq_2 _ _)) (by omega))
theorem FQ:∀(d:Nat) {A:Around}{E:Zc}{s:Shared}{k:TK}{v:Value}{Q:Bool->Shared->Prop},k.depth<=d->mO s.heap k v->Q true s->wpAny (model prog w) A (eqIsQuiet d v) Q E s:=by
 intro d
 induction d with
 |zero =>
  intro A E s k v Q j i h;cases k with
  |t l=>exact absurd j (by show ¬(TK.depths l+1<=0);omega)
  |k a=>rw[eqIsQuiet_byValue _ ((Aw prog w).byValue a v i)];exact ap h
 |succ d D =>
  intro A E s k v Q j i h;cases k with
  |k a=>rw[eqIsQuiet_byValue _ ((Aw prog w).byValue a v i)];exact ap h
  |t l =>
   have G:TK.depths l<=d:=by have:TK.depths l+1<=d+1:=j;omega
   obtain⟨a,o,items,n,rfl,y,H,m,hi⟩:=i;have z:s.TypeIs (.ref a) "tuple":=⟨o,y,H⟩;unfold eqIsQuiet;refine ak (HX z F.slot_tuple_eq.lookup ?_);show wpAny _ _ (vH (.ref a) (.type "tuple") >>= _) _ _ s;refine ak (wpAny_isInstance z isSubtype_tuple_tuple ?_);simp only[CS,tI,if_false];refine ak (jG y m ?_);refine ak ?_;show wpAny _ _ (forIn items _ _) _ _ s;rw[<-Array.forIn_toList];refine CU _ (fun f r p=>r.1=none/\p=s/\∃left,TAts s.heap left f/\TK.depths left<=d) _ ?_ ?_ _ _ ⟨rfl,rfl,l,hi,G⟩
   ·rintro v f r p ⟨q,rfl,left,g,u⟩;cases left with
    |nil=>have e:v::f=[]:=g;cases e
    |cons B left =>
     obtain⟨L,x,e,I,J⟩:=g;cases e;have C:max B.depth (TK.depths left)<=d:=u;refine ak (D (k:=B) (by omega) I ?_);simp only[CS,tI,if_false];exact ap ⟨rfl,rfl,left,J,by omega⟩
   ·rintro⟨M,N⟩ p ⟨q,rfl,_⟩;simp only at q;subst q;exact ap h
def gb(prog:bu)(w:World):HeapKind prog w TK where
 is:=fun h k a=>mO h k (.ref a)/\k.depth<=8
 hash:=TK.hash w
 draws:=TK.draws
 room:=fun A=>A.units+8<cLine
 inj:=fun hx hy=>mO.inj 8 hx.2 hx.1 hy.1
 keeps:=fun{h h' k a d o es ep} x ho hd hs=>⟨mO.mono (fun b ob items n hb _ hdb=>(hs.2 b fun e=>by
  subst e;rw[ho]at hb;cases hb;rw[hd]at hdb;cases hdb).trans hb) 8 x.2 x.1,x.2⟩
 pyHash:=fun hu hk h=>Ik 8 hk.2 hu hk.1 h
 eqBool:=fun hu hx hy h=>La 8 hx.2 hy.2 hu hx.1 hy.1 h
 quiet:=fun hk h=>FQ 8 hk.2 hk.1 h
end
end L2
namespace L2
open PySem PySem.Spec PyProof.Rows
inductive V where
 |non|bl (b:Bool)|int (i:Int)|str (x:Str)|byt (b:Array UInt8)|flt (b:UInt64)|ref (a:Addr)|ty (n:String)
 deriving DecidableEq
def RelV:V->Value->Prop
 |.non,u=>u=Value.none
 |.bl b,u=>u=Value.bool b
 |.int i,u=>∃t,u=Value.int i t
 |.str x,u=>∃t,u=Value.str x t
 |.byt b,u=>∃t,u=Value.bytes b t
 |.flt b,u=>∃t,u=Value.float b t
 |.ref a,u=>u=Value.ref a
 |.ty n,u=>u=Value.type n
abbrev bj:List V->List Value->Prop:=Paired RelV
theorem bj.length{xs:List V}{a:Zf}(r:bj xs a):xs.length=a.length:=Paired.length r
theorem bj.get:∀{xs:List V}{a:Zf}{i:Nat}{x:V},bj xs a->xs[i]?=some x->∃u,a[i]?=some u/\RelV x u
 |_,_,_,_,.nil,e=>by simp at e
 |_,_,0,_,.cons r _,e=>by simp at e;subst e;exact⟨_,rfl,r⟩
 |_,_,i+1,x,.cons _ t,e=>by
  obtain⟨u,f,g⟩:=bj.get (i:=i) (x:=x) t (by simpa using e);exact⟨u,by simpa using f,g⟩
theorem bj.set{x:V}{u:Value}(r:RelV x u):∀{xs:List V}{a:Zf}(i:Nat),bj xs a->bj (xs.set i x) (a.set i u)
 |_,_,_,.nil=>.nil
 |_,_,0,.cons _ t=>.cons r t
 |_,_,i+1,.cons q t=>.cons q (bj.set r i t)
theorem bj.append{xs a:List V}{e f:Zf}(h:bj xs e)(s:bj a f):bj (xs++a) (e++f):=by
 induction h with
 |nil=>exact s
 |cons r _ g=>exact .cons r g
theorem bj.take:∀{xs:List V}{a:Zf}(n:Nat),bj xs a->bj (xs.take n) (a.take n)
 |_,_,0,_=>.nil
 |_,_,_+1,.nil=>.nil
 |_,_,n+1,.cons r t=>.cons r (bj.take n t)
theorem bj.drop:∀{xs:List V}{a:Zf}(n:Nat),bj xs a->bj (xs.drop n) (a.drop n)
 |_,_,0,r=>r
 |_,_,_+1,.nil=>.nil
 |_,_,n+1,.cons _ t=>bj.drop n t
def i7:Option V->Option Value->Prop
 |some v,some u=>RelV v u
 |none,none=>True
 |_,_=>False
def KV{κ:Type}:List (κ×V)->List (κ×Value)->Prop:=Paired fun(p:κ×V) (q:κ×Value)=>p.1=q.1/\RelV p.2 q.2
def kV:fA->V
 |.inl i=>.int i
 |.inr x=>.str x
def JN:ou->V
 |none=>.non
 |some k=>kV k
inductive HO where
 |lst (xs:List V)
 |tup (xs:List V)
 |dK (kvs:List (fA×V))|dT (kvs:List (TK×V))
 |set (S:Int->Bool) (n:Nat)
 |ins (C dx:Addr) (fs:List (Str×V))
 |own (x:Addr)
 |xd (fs:List (Str×V))
 |met (f x:Addr)
 |rng (lo hi:Int)
 |frz (o:Obj) (u:HO)
 |tbl (ps:Array Value)
 |ext (φ:Heap->Prop)
abbrev Hp:=Addr->Option HO
mutual
def i6(H:Hp):TK->V->Prop
 |.k a,v=>v=JN a
 |.t l,v=>∃b xs,v=.ref b/\H b=some (.tup xs)/\TKAts H l xs
def TKAts(H:Hp):List TK->List V->Prop
 |[],vs=>vs=[]
 |k::r,vs=>∃v us,vs=v::us/\i6 H k v/\TKAts H r us
end
def aH(K:Za)(H:Hp)(a:Addr)(xs:List V):Prop :=
 H a=some (.tup xs)∨∃(o:Obj) (its:Array Value) (n:Nat),K.lookup a=some o/\o.cls=.type "tuple"/\o.data=.seq its n/\its.size<=ai/\bj xs its.toList
theorem aH.keeps{K:Za}{H e:Hp}{a:Addr}{xs:List V}(h:aH K H a xs)(f:∀b xs,H b=some (.tup xs)->e b=some (.tup xs)):aH K e a xs:=h.imp (f a xs) id
mutual
def Bi(K:Za)(H:Hp):TK->V->Prop
 |.k a,v=>v=JN a
 |.t l,v=>∃b xs,v=.ref b/\aH K H b xs/\TKCs K H l xs
def TKCs(K:Za)(H:Hp):List TK->List V->Prop
 |[],vs=>vs=[]
 |k::r,vs=>∃v us,vs=v::us/\Bi K H k v/\TKCs K H r us
end
theorem Bi.keeps{K:Za}{H f:Hp}(p:∀b xs,H b=some (.tup xs)->f b=some (.tup xs)):∀(d:Nat) {k:TK}{v:V},k.depth<=d->Bi K H k v->Bi K f k v:=by
 have i:∀(d:Nat) (g:∀{k:TK}{v:V},k.depth<=d->Bi K H k v->Bi K f k v) (xs:List TK) (h:List V),TK.depths xs<=d->TKCs K H xs h->TKCs K f xs h:=by
  intro d g xs
  induction xs with
  |nil=>intro h _ hx;exact hx
  |cons x xs j =>
   intro h e hx;obtain⟨v,o,rfl,m,n⟩:=hx;have q:max x.depth (TK.depths xs)<=d:=e;exact⟨v,o,rfl,g (by omega) m,j o (by omega) n⟩
 intro d
 induction d with
 |zero =>
  intro k v e hx;cases k with
  |t l=>exact absurd e (by show ¬(TK.depths l+1<=0);omega)
  |k a=>exact hx
 |succ d g =>
  intro k v e hx;cases k with
  |k a=>exact hx
  |t l =>
   obtain⟨b,xs,rfl,r,hi⟩:=hx;exact⟨b,xs,rfl,r.keeps p,i d (fun s=>g s) l xs (by have:TK.depths l+1<=d+1:=e;omega) hi⟩
theorem i6.c{K:Za}{H:Hp}:∀(d:Nat) {k:TK}{v:V},k.depth<=d->i6 H k v->Bi K H k v:=by
 have h:∀(d:Nat) (f:∀{k:TK}{v:V},k.depth<=d->i6 H k v->Bi K H k v) (xs:List TK) (g:List V),TK.depths xs<=d->TKAts H xs g->TKCs K H xs g:=by
  intro d f xs
  induction xs with
  |nil=>intro g _ hx;exact hx
  |cons x xs i =>
   intro g e hx;obtain⟨v,n,rfl,j,m⟩:=hx;have o:max x.depth (TK.depths xs)<=d:=e;exact⟨v,n,rfl,f (by omega) j,i n (by omega) m⟩
 intro d
 induction d with
 |zero =>
  intro k v e hx;cases k with
  |t l=>exact absurd e (by show ¬(TK.depths l+1<=0);omega)
  |k a=>exact hx
 |succ d f =>
  intro k v e hx;cases k with
  |k a=>exact hx
  |t l =>
   obtain⟨b,xs,rfl,p,hi⟩:=hx;exact⟨b,xs,rfl,.inl p,h d (fun q=>f q) l xs (by have:TK.depths l+1<=d+1:=e;omega) hi⟩
def upd(H:Hp)(a:Addr)(o:HO):Hp:=fun b=>if b=a then some o else H b
theorem aa{H:Hp}{a:Addr}{o:HO}:upd H a o a=some o:=by unfold upd;rw[if_pos rfl]
theorem am{H:Hp}{a b:Addr}{o:HO}(h:b≠a):upd H a o b=H b:=by unfold upd;rw[if_neg h]
theorem sG{H:Hp}{a:Addr}{o u:HO}:upd (upd H a o) a u=upd H a u:=by
 funext b;unfold upd;split<;>rfl
theorem JK{H:Hp}{a b:Addr}{o u:HO}(h:H a=some o)(f:H b=some u)(d:o≠u):a≠b:=by
 intro e;subst e;rw[h]at f;exact d (fx f)
theorem ah{H:Hp}{a b:Addr}{o:HO}(h:H a=some o)(f:H b=none):a≠b:=by
 intro e;subst e;rw[h]at f;cases f
section
variable(P:bu)(w:World)(K:Za)
def cF(H:Hp)(h:Heap)(a:Addr):HO->Prop
 |.lst xs=>xs.length<=ai/\∃(its:Zf) (n:Nat),bj xs its/\h.get? a=some { cls:=.type "list",data:=.seq its.toArray n }
 |.tup xs=>xs.length<=ai/\∃its:List Value,bj xs its/\IsTup h a its.toArray
 |.dK kvs=>kvs.length<=ai/\(a==jF)=false/\∃vs,KV kvs vs/\h.DictOf (cI P w) a vs
 |.dT kvs=>kvs.length<=ai/\(a==jF)=false/\∃xs:List (TK×Addr×Value),
   Paired (fun(p:TK×V) (q:TK×Addr×Value)=>p.1=q.1/\Bi K H p.1 (.ref q.2.1)/\p.1.depth<=8/\RelV p.2 q.2.2) kvs xs /\
   ∃o es ep,h.get? a=some o/\o.ExactDict/\o.data=.dict es ep/\es.toList=xs.map (entryOfKey (gb P w))/\(xs.map (·.1)).Nodup
 |.set S n=>h.SetOf (intKind P w) a S n
 |.ins C dx fs=>H dx=some (.own a)/\fs.length<=1000/\dx≠a/\h.get? a=some (rF C dx) /\
   ∃mA,h.Ns1 dx mA/\(∀f,i7 (fs.lookup f) (mA f))/\zK mA (fs.map (·.1))
 |.own _=>∃o,h.get? a=some o
 |.xd fs=>∃mA,h.Ns1 a mA/\∀f,i7 (fs.lookup f) (mA f)
 |.rng lo hi=>∃t u v,h.get? a=some { cls:=.type "range",data:=.fields #[.int lo t,.int hi u,.int 1 v] }
 |.frz o u=>h.get? a=some o/\cF H h a u
 |.tbl ps=>h.get? a=some { cls:=.none,data:=.fields ps }
 |.met f x=>h.get? a=some (PySem.W.methodObj (.ref f) (.ref x))
 |.ext φ=>φ h/\(∃o,h.get? a=some o)/\∀h1 h2:Heap,φ h1->(∀o,h1.get? a=some o->h2.get? a=some o)->φ h2
def k_(H:Hp)(h:Heap):Prop:=∀a o,H a=some o->cF P w K H h a o
end
section
variable{P:bu}{w:World}{K:Za}{H H':Hp}{h h':Heap}{a:Addr}{o:HO}
theorem cF.lt(x:cF P w K H h a o):a<h.objs.size:=by
 cases o with
 |lst xs=>obtain⟨_,_,_,_,e⟩:=x;exact aS e
 |tup xs=>obtain⟨_,_,_,p⟩:=x;exact p.lt
 |dK g=>obtain⟨_,_,_,_,o,_,_,e,_⟩:=x;exact aS e
 |dT g=>obtain⟨_,_,_,_,o,_,_,e,_⟩:=x;exact aS e
 |set S n=>obtain⟨o,_,_,_,e,_⟩:=x;exact aS e
 |ins C i fs=>obtain⟨_,_,_,e,_⟩:=x;exact aS e
 |own y=>obtain⟨_,e⟩:=x;exact aS e
 |xd fs=>obtain⟨_,⟨_,_,_,e,_⟩,_⟩:=x;exact aS e
 |rng lo hi=>obtain⟨_,_,_,e⟩:=x;exact aS e
 |frz j u=>obtain⟨e,_⟩:=x;exact aS e
 |tbl k=>exact aS (show h.get? a=some _ from x)
 |met f y=>exact aS (show h.get? a=some _ from x)
 |ext φ=>obtain⟨_,⟨_,e⟩,_⟩:=x;exact aS e
theorem Paired.mapP{α β:Type}{F G:α->β->Prop}{e:List α}{g:List β}(h:Paired F e g)(f:∀a b,F a b->G a b):Paired G e g:=by
 induction h with
 |nil=>exact .nil
 |cons r _ i=>exact .cons (f _ _ r) i
theorem cF.stay(x:cF P w K H h a o)(k:∀b u,(b=a∨H b=some (.own a))->h.get? b=some u->h'.get? b=some u)
  (D:∀b,H b=some (.own a)->H' b=some (.own a)) (E:∀b xs,H b=some (.tup xs)->H' b=some (.tup xs)):cF P w K H' h' a o:=by
 induction o with
 |lst xs=>obtain⟨z,l,n,r,e⟩:=x;exact⟨z,l,n,r,k _ _ (.inl rfl) e⟩
 |tup xs=>obtain⟨z,l,r,g,e,c⟩:=x;exact⟨z,l,r,g,k _ _ (.inl rfl) e,c⟩
 |dK m=>obtain⟨z,y,G,r,g,i,j,e,c⟩:=x;exact⟨z,y,G,r,g,i,j,k _ _ (.inl rfl) e,c⟩
 |dT m =>
  obtain⟨z,y,xs,r,g,i,j,e,c⟩:=x;exact⟨z,y,xs,Paired.mapP r fun p q z=>⟨z.1,Bi.keeps E 8 z.2.2.1 z.2.1,z.2.2⟩,g,i,j,k _ _ (.inl rfl) e,c⟩
 |set S n=>obtain⟨g,i,j,t,e,c⟩:=x;exact⟨g,i,j,t,k _ _ (.inl rfl) e,c⟩
 |ins C L fs =>
  obtain⟨d,z,ne,e,s,⟨A,i,j,I,c⟩,r⟩:=x;exact⟨D _ d,z,ne,k _ _ (.inl rfl) e,s,⟨A,i,j,k _ _ (.inr d) I,c⟩,r⟩
 |own y=>obtain⟨g,e⟩:=x;exact⟨g,k _ _ (.inl rfl) e⟩
 |xd fs=>obtain⟨s,⟨A,i,j,e,c⟩,r⟩:=x;exact⟨s,⟨A,i,j,k _ _ (.inl rfl) e,c⟩,r⟩
 |rng lo hi=>obtain⟨t,u,v,e⟩:=x;exact⟨t,u,v,k _ _ (.inl rfl) e⟩
 |frz g u J=>obtain⟨e,q⟩:=x;exact⟨k _ _ (.inl rfl) e,J q⟩
 |tbl B =>
  have e:h.get? a=some { cls:=.none,data:=.fields B }:=x;show h'.get? a=some { cls:=.none,data:=.fields B };exact k a _ (.inl rfl) e
 |met f y =>
  have e:h.get? a=some (PySem.W.methodObj (.ref f) (.ref y)):=x;show h'.get? a=some (PySem.W.methodObj (.ref f) (.ref y));exact k a _ (.inl rfl) e
 |ext φ=>obtain⟨p,⟨o,e⟩,st⟩:=x;exact⟨st _ _ p fun o q=>k _ _ (.inl rfl) q,⟨o,k _ _ (.inl rfl) e⟩,st⟩
theorem k_.lt(x:k_ P w K H h)(e:H a=some o):a<h.objs.size:=(x a o e).lt
theorem k_.fresh(x:k_ P w K H h)(e:h.objs.size<=a):H a=none:=by
 cases q:H a with
 |none=>rfl
 |some u=>exact absurd (f6 (x.lt q) e) (rE _)
theorem k_.kept(x:k_ P w K H h)(k:∀b u,h.get? b=some u->h'.get? b=some u):k_ P w K H h':=fun a o e =>
 (x a o e).stay (fun b u _ q=>k b u q) (fun _ q=>q) fun _ _ q=>q
theorem k_.laid(x:k_ P w K H h)(k:∀b u,h.get? b=some u->h'.get? b=some u)(i:h.objs.size<=a)(new:cF P w K (upd H a o) h' a o):k_ P w K (upd H a o) h':=fun b u e=>by
 have f:=x.fresh i;by_cases g:b=a
 ·subst g;rw[aa]at e;cases e;exact new
 ·rw[am g]at e;exact(x b u e).stay (fun c v _ q=>k c v q) (fun c q=>by rw[am (ah q f)];exact q) fun c xs q=>by rw[am (ah q f)];exact q
end
def Rd(H:Hp)(a:Addr)(u:HO):Prop:=H a=some u∨∃o,H a=some (.frz o u)
theorem Rd.ok{P:bu}{w:World}{K:Za}{H:Hp}{h:Heap}{a:Addr}{u:HO}(r:Rd H a u)(x:k_ P w K H h):cF P w K H h a u:=by
 rcases r with r|⟨o,r⟩
 ·exact x a u r
 ·obtain⟨_,q⟩:=x a _ r;exact q
def LK:Option HO->Prop
 |some (.lst _)=>True
 |some (.dK _)=>True
 |some (.dT _)=>True
 |some (.set _ _)=>True
 |some (.ins _ _ _)=>True
 |some (.ext _)=>True
 |_=>False
section
variable{P:bu}{w:World}{K:Za}{H:Hp}{h h':Heap}{x e:Addr}{o':HO}
theorem k_.write(ok:k_ P w K H h)(i:LK (H x))(m:e=x∨H e=some (.own x))(k:∀b u,b≠e->h.get? b=some u->h'.get? b=some u)(l:∃u,h'.get? e=some u)
  (new:cF P w K (upd H x o') h' x o'):k_ P w K (upd H x o') h':=fun b u q=>by
 have f:∀c y,H c=some (.own y)->c≠x:=fun c y r z=>by subst z;rw[r]at i;exact i
 have g:∀c xs,H c=some (.tup xs)->c≠x:=fun c xs r z=>by subst z;rw[r]at i;exact i
 by_cases j:b=x
 ·subst j;rw[aa]at q;cases q;exact new
 ·rw[am j]at q;by_cases a:b=e
  ·have n:H b=some (.own x):=by
    rcases m with z|z
    ·exact absurd (a.trans z) j
    ·rw[a];exact z
   rw[q]at n;cases n;obtain⟨v,o⟩:=l;exact⟨v,by rw[a];exact o⟩
  ·refine(ok b u q).stay (fun c v hc r=>k c v ?_ r) (fun c r=>by rw[am (f c b r)];exact r) fun c xs r=>by rw[am (g c xs r)];exact r
   rcases hc with rfl|hc
   ·exact a
   ·rintro rfl;rcases m with z|z
    ·exact f c b hc z
    ·rw[hc]at z;cases z;exact j rfl
end
structure Un(fs ex:Ze)(H H':Hp)(h h':Heap):Prop where
 keep:∀b o,h.get? b=some o->H b=none->b∉fs->b∉ex->h'.get? b=some o
 slot:∀b o,h.get? b=some o->H b=none->b∈fs->b∉ex->∃sl,h'.get? b=some { o with slots:=sl }
 free:∀b o,h.get? b=some o->H b=none->b∉ex->H' b=none
 there:∀b o,h.get? b=some o->b∉ex->∃o',h'.get? b=some o'
 tups:∀b xs,H b=some (.tup xs)->H' b=some (.tup xs)
 frzs:∀b o u,H b=some (.frz o u)->H' b=some (.frz o u)
 tbls:∀b ps,H b=some (.tbl ps)->∃more,H' b=some (.tbl (ps++more))
section
variable{fs fs' ex ex':Ze}{H H1 H2:Hp}{h h1 h2 h':Heap}{a x e:Addr}{o:HO}
theorem Un.any(u:Un fs ex H H1 h h1){b:Addr}{f:Obj}(q:h.get? b=some f)(n:H b=none)(hx:b∉ex):∃i,h1.get? b=some { f with slots:=i }:=by
 by_cases g:b∈fs
 ·exact u.slot b f q n g hx
 ·exact⟨f.slots,u.keep b f q n g hx⟩
theorem Un.kept(k:∀b u,h.get? b=some u->h'.get? b=some u):Un fs ex H H h h' :=
 ⟨fun b f q _ _ _=>k b f q,fun b f q _ _ _=>⟨f.slots,k b f q⟩,fun _ _ _ n _=>n,fun b f q _=>⟨f,k b f q⟩,fun _ _ q=>q,fun _ _ _ q=>q,fun _ g q=>⟨#[],by rw[q];simp⟩⟩
theorem Un.refl:Un fs ex H H h h:=Un.kept fun _ _ q=>q
theorem Un.laid(k:∀b u,h.get? b=some u->h'.get? b=some u)(g:h.objs.size<=a)(f:H a=none):Un fs ex H (upd H a o) h h' where
 keep:=fun b u q _ _ _=>k b u q
 slot:=fun b u q _ _ _=>⟨u.slots,k b u q⟩
 free:=fun b u q n _=>by rw[am (bX (f6 (aS q) g))];exact n
 there:=fun b u q _=>⟨u,k b u q⟩
 tups:=fun b xs q=>by rw[am (ah q f)];exact q
 frzs:=fun b u xs q=>by rw[am (ah q f)];exact q
 tbls:=fun b i q=>⟨#[],by rw[am (ah q f),q];simp⟩
theorem Un.write(g:LK (H x))(m:e=x∨H e=some (.own x))(k:∀b u,b≠e->h.get? b=some u->h'.get? b=some u)(i:∃u,h'.get? e=some u):Un fs ex H (upd H x o) h h':=by
 have hx:∀b,H b=none->b≠x:=fun b n z=>by subst z;rw[n]at g;exact g
 have l:∀b,H b=none->b≠e:=fun b n z=>by
  subst z;rcases m with r|r
  ·exact hx b n r
  ·rw[n]at r;cases r
 have j:∀b u,H b=some u->¬LK (some u)->b≠x:=fun b u q p z=>by subst z;rw[q]at g;exact p g
 refine⟨fun b u q n _ _=>k b u (l b n) q,fun b u q n _ _=>⟨u.slots,k b u (l b n) q⟩,fun b u q n _=>by rw[am (hx b n)];exact n,fun b u q _=>?_,
  fun b xs q=>by rw[am (j b _ q fun z=>z)];exact q,fun b u xs q=>by rw[am (j b _ q fun z=>z)];exact q,fun b s q=>⟨#[],by rw[am (j b _ q fun z=>z),q];simp⟩⟩
 by_cases f:b=e
 ·subst f;exact i
 ·exact⟨u,k b u f q⟩
end
def trk(h:Heap)(H:Hp):List Addr:=(iQ h.objs.size).filter fun a=>(H a).isSome
def yS(h:Heap)(H:Hp):Heap:=PySem.W.hideAll h (trk h H)
theorem EV(h:Heap)(H:Hp):(yS h H).objs.size=h.objs.size:=PySem.W.hideAll_size _ _
theorem Hf{h:Heap}{H:Hp}{b:Addr}{o:Obj}(e:h.get? b=some o)(n:H b=none):(yS h H).get? b=some o :=
 PySem.W.hideAll_get _ e fun a=>by
  have q:(H b).isSome=true:=(List.mem_filter.mp a).2;rw[n]at q;simp at q
theorem IV{h:Heap}{H:Hp}{b:Addr}{o:Obj}(e:(yS h H).get? b=some o):h.get? b=some o/\H b=none:=by
 have a:h.get? b=some o:=PySem.W.of_hideAll (trk h H) e;refine⟨a,?_⟩;cases q:H b with
 |none=>rfl
 |some x =>
  have f:b∈trk h H:=List.mem_filter.mpr ⟨List.mem_range.mpr (aS a),by simp[q]⟩;have z:(yS h H).get? b=none:=PySem.W.hideAll_none (trk h H) f;rw[z]at e;cases e
end L2
namespace L2
open PySem PySem.Spec PyProof.Rows
structure Mod(K:Za)(mg:Str->Option Value)(base:Heap):Prop where
 kin:K.In base
 glob:base.Ns bh mg
 blt:∃mb,base.Ns builtinsNs mb/\∀x:Str,x≠"__name__"->mb x=ix x
 nolimit:base.NoLimit
structure Cx where
 prog:bu
 w:World
 K:Za
 mg:Str->Option Value
 base:Heap
 A:Around
 N:List Str
 s₀:Shared
 H₀:Hp
 env:Env
 outer:List Env
 stack:List Env
 ex:List Addr
 fn:Str->Bool
 calm:Bool
 pn:List (Addr×Obj)
 xe:Value->Shared->Prop
def u4(l:List Env):List Addr:=l.filterMap (·.frame)
abbrev Cx.fs(X:Cx):List Addr:=u4 X.outer
def Vis(sc:Scope)(x:Str):Prop:=sc.names.lookup x=some .local∨sc.names.lookup x=some .cell∨sc.names.lookup x=some .free
def Loc(sc:Scope)(x:Str):Prop:=sc.names.lookup x=some .local∨sc.names.lookup x=some .cell
def Look(env:Env)(h:Heap)(m:Str->Option Value)(x:Str)(u:Value):Prop :=
 (env.kindOf x=some .local/\m x=some u)∨((env.kindOf x=some .cell∨env.kindOf x=some .free)/\∃c,env.cells.lookup x=some c/\h.IsCell c (some u))
structure Cx.Ok(X:Cx):Prop where
 mod:Mod X.K X.mg X.base
 kind:X.env.scope.kind=.function
 glob:X.env.globals=bh
 blt:X.env.builtins=builtinsNs
 above:X.s₀.heap.objs.size<=X.env.locals
 inj:∀x y c,X.env.cells.lookup x=some c->X.env.cells.lookup y=some c->x=y
 has:∀x,(X.env.kindOf x=some .cell∨X.env.kindOf x=some .free)->∃c,X.env.cells.lookup x=some c
 cab:∀x c,X.fn x=true->X.env.cells.lookup x=some c->X.s₀.heap.objs.size<=c
 hd:X.calm=true->X.A.handled=none
 frames:X.A.frames=some X.stack
 stk:X.stack=X.outer∨(X.stack=X.env::X.outer/\X.env.frame=some X.env.locals)
 exf:∀b∈X.ex,b≠X.env.locals/\∀x c,X.env.cells.lookup x=some c->c≠b
 bs:∀b o,X.base.get? b=some o->X.s₀.heap.get? b=some o/\X.H₀ b=none
 bsz:X.base.objs.size<=X.s₀.heap.objs.size
 noex:∀b o,X.base.get? b=some o->b∉X.ex
 exfs:∀b∈X.ex,b∉X.fs
 funs:X.s₀.heap.FunFrames X.base X.outer
 frf:∀b∈X.fs,X.H₀ b=none
structure Inv(X:Cx)(J5:Zd)(σ:List (Option V))(H:Hp)(s:Shared):Prop where
 ok:X.Ok
 os:s.os=X.s₀.os
 bare:mV s.gens
 base:Un X.fs X.ex X.H₀ H X.s₀.heap s.heap
 loc:∃m,s.heap.Ns X.env.locals m/\∀(i:Nat) (x:Str) (v:V),X.N[i]?=some x->σ[i]?=some (some v)->Vis X.env.scope x->∃u,RelV v u/\Look X.env s.heap m x u
 cell:∀x c,X.env.cells.lookup x=some c->∃v,s.heap.IsCell c v
 free:H X.env.locals=none
 freeC:∀x c,X.env.cells.lookup x=some c->H c=none
 pin:∀p∈X.pn++J5,s.heap.get? p.1=some p.2/\H p.1=none/\p.1≠X.env.locals/\p.1∉X.fs/\∀v,p.2.data≠.cell v
 hok:k_ X.prog X.w X.K H s.heap
 len:σ.length=X.N.length
section
variable{X:Cx}{J5:Zd}{σ:List (Option V)}{H H':Hp}{s:Shared}{h':Heap}
theorem Cx.Ok.nofr(ok:X.Ok){b:Addr}{o:Obj}(e:X.base.get? b=some o):b∉X.fs:=fun a=>by
 have:=(ok.funs.mem a).1;rw[e]at this;cases this
theorem Inv.bs(I:Inv X J5 σ H s):∀b o,X.base.get? b=some o->s.heap.get? b=some o/\H b=none:=fun b o e =>
 ⟨I.base.keep b o (I.ok.bs b o e).1 (I.ok.bs b o e).2 (I.ok.nofr e) (I.ok.noex b o e),I.base.free b o (I.ok.bs b o e).1 (I.ok.bs b o e).2 (I.ok.noex b o e)⟩
theorem Inv.bk(I:Inv X J5 σ H s):∀b o,X.base.get? b=some o->s.heap.get? b=some o:=fun b o e=>(I.bs b o e).1
theorem Inv.mod(I:Inv X J5 σ H s):Mod X.K X.mg X.base:=I.ok.mod
theorem Inv.kIn(I:Inv X J5 σ H s):X.K.In s.heap:=I.ok.mod.kin.keeps I.bk
theorem Inv.lt(I:Inv X J5 σ H s):X.env.locals<s.heap.objs.size:=let⟨_,a,_⟩:=I.loc;a.lt
theorem Inv.sz(I:Inv X J5 σ H s):X.s₀.heap.objs.size<=s.heap.objs.size:=bo I.ok.above (df I.lt)
theorem Inv.nofs(I:Inv X J5 σ H s){a:Addr}(h:s.heap.objs.size<=a):a∉X.fs:=fun e=>by
 obtain⟨_,o,f,_⟩:=I.ok.funs.mem e;exact absurd (f6 (aS f) (bo I.sz h)) (rE _)
theorem Inv.cne(I:Inv X J5 σ H s):∀x c,X.env.cells.lookup x=some c->c≠X.env.locals:=fun x c e z=>by
 obtain⟨v,o,g,h⟩:=I.cell x c e;obtain⟨m,⟨i,j,k,a,f,_⟩,_⟩:=I.loc;rw[z,a]at g;cases g;rw[f]at h;cases h
theorem Inv.funs(I:Inv X J5 σ H s):s.heap.FunFrames X.base X.outer:=by
 have all:∀(l:List Env),(∀b∈u4 l,b∈X.fs)->X.s₀.heap.FunFrames X.base l->s.heap.FunFrames X.base l:=by
  intro l
  induction l with
  |nil=>intro _ _;trivial
  |cons h r i =>
   intro g j;obtain⟨k,⟨L,o,hf,m,n,p⟩,q⟩:=j;have a:L∈X.fs:=g L (by unfold u4;rw[oO,hf];exact fh);obtain⟨t,e⟩:=I.base.slot L o n (I.ok.frf L a) a fun z=>I.ok.exfs L z a;exact⟨k,⟨L,_,hf,m,e,p⟩,i (fun b f=>g b (by unfold u4;rw[oO,hf];exact eK _ f)) q⟩
 exact all X.outer (fun _ f=>f) I.ok.funs
theorem Inv.stack(I:Inv X J5 σ H s):s.heap.FunFrames X.base X.stack:=by
 rcases I.ok.stk with e|⟨e,hf⟩
 ·rw[e];exact I.funs
 ·rw[e];obtain⟨m,a,_⟩:=I.loc;refine .cons (by rw[I.ok.kind];decide) hf a ?_ I.funs;exact Heap.get?_none_of_le (bo I.ok.bsz I.ok.above)
theorem Inv.stkSub(I:Inv X J5 σ H s):∀b∈u4 X.stack,b∈X.env.locals::X.fs:=fun b a=>by
 rcases I.ok.stk with e|⟨e,hf⟩
 ·rw[e]at a;exact eK _ a
 ·rw[e]at a;unfold u4 at a;rw[oO,hf]at a;exact a
theorem Inv.stkFree(I:Inv X J5 σ H s):∀b∈u4 X.stack,H b=none:=fun b hb=>by
 rcases cz.mp (I.stkSub b hb)with e|hb
 ·rw[e];exact I.free
 ·obtain⟨_,o,a,_⟩:=I.ok.funs.mem hb;exact I.base.free b o a (I.ok.frf b hb) fun z=>I.ok.exfs b z hb
theorem Inv.step{g':Array GenState}{t':Nat}{d':Drawn}{ch:Ze}(I:Inv X J5 σ H s)
  (a:∀b∈ch,(b∈X.ex∨X.s₀.heap.objs.size<=b)/\b≠X.env.locals/\(∀x c,X.env.cells.lookup x=some c->c≠b)/\∀p∈X.pn++J5,p.1≠b)
  (f:∀b o,b≠X.env.locals->b∉X.fs->b∉ch->s.heap.get? b=some o->H b=none->h'.get? b=some o)
  (t:∀b o,b≠X.env.locals->b∈X.fs->b∉ch->s.heap.get? b=some o->H b=none->∃N,h'.get? b=some { o with slots:=N }) (free:∀b o,b∉ch->s.heap.get? b=some o->H b=none->H' b=none)
  (there:∀b o,b∉ch->s.heap.get? b=some o->∃B,h'.get? b=some B)
  (C:∀b xs,H b=some (.tup xs)->H' b=some (.tup xs)) (D:∀b o u,H b=some (.frz o u)->H' b=some (.frz o u)) (E:∀b M,H b=some (.tbl M)->∃G,H' b=some (.tbl (M++G)))
  (ns:∀m,s.heap.Ns X.env.locals m->h'.Ns X.env.locals m) (O:k_ X.prog X.w X.K H' h') (hg:mV g') :
  Inv X J5 σ H' { s with heap:=h',gens:=g',drawn:=d',toks:=t' }:=by
 have J:∀b o,X.s₀.heap.get? b=some o->b≠X.env.locals:=fun b o e=>bX (f6 (aS e) I.ok.above);have h:∀b o,X.s₀.heap.get? b=some o->b∉X.ex->b∉ch:=fun b o e hx y=>by
  rcases(a b y).1 with z|z
  ·exact hx z
  ·exact absurd (f6 (aS e) z) (rE _)
 have cellK:∀x c,X.env.cells.lookup x=some c->∀v,s.heap.IsCell c v->h'.IsCell c v:=fun x c e v ⟨o,A,Q⟩=>by
  have g:c∉ch:=fun z=>(a c z).2.2.1 x c e rfl;by_cases U:c∈X.fs
  ·obtain⟨N,q⟩:=t c o (I.cne x c e) U g A (I.freeC x c e);exact⟨_,q,Q⟩
  ·exact⟨o,f c o (I.cne x c e) U g A (I.freeC x c e),Q⟩
 refine⟨I.ok,I.os,hg,⟨fun b o e n y hx=>?_,fun b o e n y hx=>?_,fun b o e n hx=>?_,fun b o e hx=>?_,fun b xs e=>C b xs (I.base.tups b xs e),fun b o xs e=>D b o xs (I.base.frzs b o xs e),fun b M e=>?_⟩,?_,fun x c e=>?_,?_,fun x c e=>?_,fun p Y=>?_,O,I.len⟩
 ·exact f b o (J b o e) y (h b o e hx) (I.base.keep b o e n y hx) (I.base.free b o e n hx)
 ·obtain⟨N,j⟩:=I.base.slot b o e n y hx;obtain⟨T,L⟩:=t b _ (J b o e) y (h b o e hx) j (I.base.free b o e n hx);exact⟨T,L⟩
 ·obtain⟨B,j⟩:=I.base.there b o e hx;exact free b B (h b o e hx) j (I.base.free b o e n hx)
 ·obtain⟨B,j⟩:=I.base.there b o e hx;exact there b B (h b o e hx) j
 ·obtain⟨m1,j⟩:=I.base.tbls b M e;obtain⟨m2,L⟩:=E b _ j;exact⟨m1++m2,by rw[L,Array.append_assoc]⟩
 ·obtain⟨m,hn,hl⟩:=I.loc;refine⟨m,ns m hn,fun i x v j L e3=>?_⟩;obtain⟨u,r,l⟩:=hl i x v j L e3;refine⟨u,r,?_⟩;rcases l with l|⟨k,c,e,z⟩
  ·exact .inl l
  ·exact .inr ⟨k,c,e,cellK x c e _ z⟩
 ·obtain⟨v,z⟩:=I.cell x c e;exact⟨v,cellK x c e v z⟩
 ·obtain⟨m,⟨o,_,_,A,_⟩,_⟩:=I.loc;exact free _ o (fun z=>(a _ z).2.1 rfl) A I.free
 ·obtain⟨v,o,A,Q⟩:=I.cell x c e;exact free c o (fun z=>(a c z).2.2.1 x c e rfl) A (I.freeC x c e)
 ·obtain⟨e,n,ne,nf,d⟩:=I.pin p Y;have g:p.1∉ch:=fun z=>(a p.1 z).2.2.2 p Y rfl;exact⟨f p.1 p.2 ne nf g e n,free p.1 p.2 g e n,ne,nf,d⟩
theorem Inv.un{t':Nat}(I:Inv X J5 σ H s)(u:Un X.fs [] H H' s.heap h')(f:k_ X.prog X.w X.K H' h'):Inv X J5 σ H' { s with heap:=h',toks:=t' }:=by
 obtain⟨m,⟨o,q,t,j,r⟩,_⟩:=id I.loc;obtain⟨v,k⟩:=u.any j I.free (by simp);exact I.step (g':=s.gens) (d':=s.drawn) (ch:=[]) (fun _ z=>nomatch z) (fun b o _ g _ e n=>u.keep b o e n g (by simp)) (fun b o _ g _ e n=>u.slot b o e n g (by simp)) (fun b o _ e n=>u.free b o e n (by simp)) (fun b o _ e=>u.there b o e (by simp)) u.tups u.frzs u.tbls (fun x l=>by
  obtain⟨y,h,i,a,p⟩:=l;rw[j]at a;cases a;exact⟨_,h,i,k,p⟩) f I.bare
theorem Inv.call{g':Array GenState}{t':Nat}{d':Drawn}{ch:Ze}(I:Inv X J5 σ H s)(u:Un (u4 X.stack) ch H H' s.heap h')(h:k_ X.prog X.w X.K H' h')(q:mV g')
  (f:∀b∈ch,(b∈X.ex∨X.s₀.heap.objs.size<=b)/\b≠X.env.locals/\(∀x c,X.env.cells.lookup x=some c->c≠b)/\∀p∈X.pn++J5,p.1≠b) :
  Inv X J5 σ H' { s with heap:=h',gens:=g',drawn:=d',toks:=t' }:=by
 obtain⟨m,⟨o,A,B,l,r⟩,_⟩:=id I.loc;obtain⟨C,i⟩:=u.any l I.free fun z=>(f _ z).2.1 rfl;exact I.step (ch:=ch) f (fun b o i t a e n=>u.keep b o e n (fun z=>(cz.mp (I.stkSub b z)).elim i t) a) (fun b o _ _ a e n=>u.any e n a) (fun b o a e n=>u.free b o e n a) (fun b o a e=>u.there b o e a) u.tups u.frzs u.tbls (fun D v=>by
  obtain⟨E,j,k,g,y⟩:=v;rw[l]at g;cases g;exact⟨_,j,k,i,y⟩) h q
theorem Inv.turned{t':Nat}{it:Addr}(I:Inv X J5 σ H s)(k:∀b o,b≠it->s.heap.get? b=some o->h'.get? b=some o)(h:H it=none)(g:it≠X.env.locals)
  (i:it∈X.ex∨X.s₀.heap.objs.size<=it) (j:∀x c,X.env.cells.lookup x=some c->c≠it) (l:∀p∈X.pn++J5,p.1≠it):Inv X J5 σ H { s with heap:=h',toks:=t' }:=by
 have f:∀b u,H b=some u->b≠it:=fun b u e z=>by rw[z,h]at e;cases e
 refine I.step (g':=s.gens) (d':=s.drawn) (ch:=[it]) (fun b t=>?_) (fun b o _ _ a e _=>k b o (fun z=>a (by simp[z])) e) (fun b o _ _ a e _=>⟨o.slots,k b o (fun z=>a (by simp[z])) e⟩) (fun _ _ _ _ n=>n)
  (fun b o a e=>⟨o,k b o (fun z=>a (by simp[z])) e⟩) (fun _ _ e=>e) (fun _ _ _ e=>e) (fun b C e=>⟨#[],by rw[e];simp⟩) (fun m w=>?_) (fun b u e=>?_) I.bare
 ·have e:b=it:=by simpa using t
  subst e;exact⟨i,g,j,l⟩
 ·obtain⟨o,y,A,B,r⟩:=w;exact⟨o,y,A,k _ o (dJ g) B,r⟩
 ·refine(I.hok b u e).stay (fun c v a q=>k c v ?_ q) (fun _ q=>q) fun _ _ q=>q;rcases a with z|z
  ·rw[z];exact f b u e
  ·exact f c _ z
theorem Inv.tok(I:Inv X J5 σ H s)(t:Nat):Inv X J5 σ H { s with toks:=t }:=I.un (h':=s.heap) (t':=t) Un.refl I.hok
theorem Inv.kept{t':Nat}(I:Inv X J5 σ H s)(k:∀b u,s.heap.get? b=some u->h'.get? b=some u):Inv X J5 σ H { s with heap:=h',toks:=t' }:=I.un (Un.kept k) (I.hok.kept k)
theorem Inv.laid{a:Addr}{o:HO}{t':Nat}(I:Inv X J5 σ H s)(k:∀b u,s.heap.get? b=some u->h'.get? b=some u)(e:s.heap.objs.size<=a)(new:cF X.prog X.w X.K (upd H a o) h' a o):
  Inv X J5 σ (upd H a o) { s with heap:=h',toks:=t' }:=I.un (Un.laid k e (I.hok.fresh e)) (I.hok.laid k e new)
theorem Inv.write{x e:Addr}{o:HO}{t':Nat}(I:Inv X J5 σ H s)(f:LK (H x))(g:e=x∨H e=some (.own x))(k:∀b u,b≠e->s.heap.get? b=some u->h'.get? b=some u)(a:∃u,h'.get? e=some u)
  (new:cF X.prog X.w X.K (upd H x o) h' x o):Inv X J5 σ (upd H x o) { s with heap:=h',toks:=t' }:=I.un (Un.write f g k a) (I.hok.write f g k a new)
theorem Inv.weak{σ':List (Option V)}(I:Inv X J5 σ H s)(e:σ'.length=σ.length)(w:∀(i:Nat) v,σ'[i]?=some (some v)->σ[i]?=some (some v)):Inv X J5 σ' H s :=
 ⟨I.ok,I.os,I.bare,I.base,let⟨m,f,a⟩:=I.loc;⟨m,f,fun i x v g h j=>a i x v g (w i v h) j⟩,I.cell,I.free,I.freeC,I.pin,I.hok,e.trans I.len⟩
theorem Inv.pins_of{a:Zd}(I:Inv X J5 σ H s)(h:∀p∈a,s.heap.get? p.1=some p.2/\H p.1=none/\p.1≠X.env.locals/\p.1∉X.fs/\∀v,p.2.data≠.cell v):Inv X a σ H s :=
 ⟨I.ok,I.os,I.bare,I.base,I.loc,I.cell,I.free,I.freeC,fun p e=>(cG.mp e).elim (fun z=>I.pin p (gD _ z)) (h p),I.hok,I.len⟩
theorem uz{N:Zb}(e:N.Nodup){i j:Nat}{x:Str}(a:N[i]?=some x)(b:N[j]?=some x):i=j:=by
 obtain⟨h,f⟩:=cV.mp a;obtain⟨k,g⟩:=cV.mp b;exact(List.getElem_inj e).mp (f.trans g.symm)
theorem vQ{M:Model}{A:Around}{E:Zc}{i:Nat}{x:Str}{v:V}{u:Value}{Q:Unit->Shared->Prop}(I:Inv X J5 σ H s)(hN:X.N.Nodup)(hi:X.N[i]?=some x)(hx:Loc X.env.scope x)(r:RelV v u)
  (h:∀s',Inv X J5 (σ.set i (some v)) H s'->(∃a,jE a s.heap s'.heap/\(a=X.env.locals∨X.env.cells.lookup x=some a))->Q () s') (hf:X.fn x=true∨X.env.scope.names.lookup x=some .local:=by first|exact .inl rfl|exact .inr rfl|assumption):wpAny M A (storeName X.env x u) Q E s:=by
 obtain⟨m,hn,hl⟩:=id I.loc;have G:(X.env.scope.kind==.class || (X.env.scope.kind==.module && X.env.locals != X.env.globals))=false:=by rw[I.ok.kind];rfl
 have hiσ:i<σ.length:=by rw[I.len];exact(cV.mp hi).1
 have cne:=I.cne;have tracked:∀{a:Addr}{h':Heap},(∃o,s.heap.get? a=some o/\H a=none)->jE a s.heap h'->k_ X.prog X.w X.K H h':=fun{a h'} ha f b ob e=>by
  obtain⟨_,_,l⟩:=ha;refine(I.hok b ob e).stay (fun c U hc q=>(f.2 c ?_).trans q) (fun _ q=>q) fun _ _ q=>q;rintro rfl;rcases hc with rfl|hc
  ·rw[l]at e;cases e
  ·rw[l]at hc;cases hc
 rcases hx with hk|hk
 ·refine wpAny_storeName_local hk hn (fun h' ab f=>?_) G;obtain⟨oL,_,_,al,_⟩:=id hn;refine h _ ⟨I.ok,I.os,I.bare,⟨fun b o e n B hx=>?_,fun b o e n B hx=>?_,I.base.free,fun b o e hx=>?_,I.base.tups,I.base.frzs,I.base.tbls⟩,⟨_,ab,fun j y v' g t e3=>?_⟩,fun y c e=>?_,I.free,I.freeC,fun p hp=>?_,tracked ⟨oL,al,I.free⟩ f,by simpa using I.len⟩ ⟨_,f,.inl rfl⟩
  ·exact(f.2 b (bX (f6 (aS e) I.ok.above))).trans (I.base.keep b o e n B hx)
  ·obtain⟨sl,g⟩:=I.base.slot b o e n B hx;exact⟨sl,(f.2 b (bX (f6 (aS e) I.ok.above))).trans g⟩
  ·obtain⟨o',g⟩:=I.base.there b o e hx;exact⟨o',(f.2 b (bX (f6 (aS e) I.ok.above))).trans g⟩
  ·by_cases C:j=i
   ·subst C;rw[hi]at g;cases g;rw[CQ hiσ]at t;cases t;exact⟨u,r,.inl ⟨hk,by simp⟩⟩
   ·rw[CP (dJ C)]at t;obtain⟨u',r',q⟩:=hl j y v' g t e3;refine⟨u',r',?_⟩;rcases q with⟨k,e⟩|⟨k,c,e,z⟩
    ·refine .inl ⟨k,?_⟩;have:y≠x:=fun e=>C (uz hN g (e▸hi));simp[this,e]
    ·exact .inr ⟨k,c,e,z.sameBut f (cne y c e)⟩
  ·obtain⟨U,z⟩:=I.cell y c e;exact⟨U,z.sameBut f (cne y c e)⟩
  ·obtain⟨e,n,ne,nf,d⟩:=I.pin p hp;exact⟨(f.2 p.1 ne).trans e,n,ne,nf,d⟩
 ·have D:X.fn x=true:=by
   rcases hf with z|z
   ·exact z
   ·rw[z]at hk;cases hk
  obtain⟨c,hc⟩:=I.ok.has x (.inl hk);obtain⟨U,z⟩:=I.cell x c hc;refine wpAny_storeName_cell I.ok.kind hk hc z (fun h' J f=>?_);obtain⟨oc,L,O⟩:=id z;refine h { s with heap:=h' } ⟨I.ok,I.os,I.bare,⟨fun b o e n B hx=>?_,fun b o e n B hx=>?_,I.base.free,fun b o e hx=>?_,I.base.tups,I.base.frzs,I.base.tbls⟩,⟨m,hn.sameBut f (dJ (cne x c hc)),fun j y v' g t e3=>?_⟩,fun y Y e=>?_,I.free,I.freeC,fun p hp=>?_,tracked ⟨oc,L,I.freeC x c hc⟩ f,by simpa using I.len⟩ ⟨c,f,.inr hc⟩
  ·exact(f.2 b (bX (f6 (aS e) (I.ok.cab x c D hc)))).trans (I.base.keep b o e n B hx)
  ·obtain⟨sl,g⟩:=I.base.slot b o e n B hx;exact⟨sl,(f.2 b (bX (f6 (aS e) (I.ok.cab x c D hc)))).trans g⟩
  ·obtain⟨o',g⟩:=I.base.there b o e hx;exact⟨o',(f.2 b (bX (f6 (aS e) (I.ok.cab x c D hc)))).trans g⟩
  ·by_cases C:j=i
   ·subst C;rw[hi]at g;cases g;rw[CQ hiσ]at t;cases t;exact⟨u,r,.inr ⟨.inl hk,c,hc,J⟩⟩
   ·rw[CP (dJ C)]at t;obtain⟨u',r',q⟩:=hl j y v' g t e3;refine⟨u',r',?_⟩;rcases q with q|⟨k,Y,e,z'⟩
    ·exact .inl q
    ·refine .inr ⟨k,Y,e,z'.sameBut f ?_⟩;rintro rfl;exact C (uz hN g (I.ok.inj _ _ _ e hc▸hi))
  ·by_cases T:Y=c
   ·subst T;exact⟨_,J⟩
   ·obtain⟨w2,z2⟩:=I.cell y Y e;exact⟨w2,z2.sameBut f T⟩
  ·obtain⟨e,n,ne,nf,d⟩:=I.pin p hp;refine⟨(f.2 p.1 ?_).trans e,n,ne,nf,d⟩;intro q;rw[q,L]at e;have q':oc=p.2:=fx e;exact d U (by rw[<-q'];exact O)
theorem o7{M:Model}{A:Around}{E:Zc}{i:Nat}{x:Str}{v:V}{u:Value}{Q:Unit->Shared->Prop}(I:Inv X J5 σ H s)(e:X.N.Nodup)(hi:X.N[i]?=some x)(hx:Loc X.env.scope x)(r:RelV v u)
  (h:∀a,Inv X J5 (σ.set i (some v)) H a->Q () a) (hf:X.fn x=true∨X.env.scope.names.lookup x=some .local:=by first|exact .inl rfl|exact .inr rfl|assumption):wpAny M A (storeName X.env x u) Q E s :=
 vQ I e hi hx r (fun a f _=>h a f) hf
theorem Inv.call'{a:Shared}{ch:Ze}(I:Inv X J5 σ H s)(h:a.os=s.os)(u:Un (u4 X.stack) ch H H' s.heap a.heap)(f:k_ X.prog X.w X.K H' a.heap)(i:mV a.gens)
  (g:∀b∈ch,(b∈X.ex∨X.s₀.heap.objs.size<=b)/\b≠X.env.locals/\(∀x c,X.env.cells.lookup x=some c->c≠b)/\∀p∈X.pn++J5,p.1≠b):Inv X J5 σ H' a:=by
 obtain⟨h',j,k,l,m⟩:=a;have e:m=s.os:=h;subst e;exact I.call (g':=j) (t':=l) (d':=k) u f i g
end
abbrev XK:=Value->Option Addr->Hp->Prop
abbrev St:=List (Option V)
abbrev VK:=V->Hp->Prop
abbrev TE:=St->Hp->VK->Prop
abbrev TT:=St->Hp->(Bool->Hp->Prop)->Prop
abbrev TA:=St->Hp->(List V->Hp->Prop)->Prop
structure gC where
 nx:St->Hp->Prop
 rt:VK
 bk:St->Hp->Prop:=fun _ _=>False
 ct:St->Hp->Prop:=fun _ _=>False
abbrev bq(Q:VK):gC:={ nx:=fun _ H=>Q .non H,rt:=Q }
abbrev TS:=gC->St->Hp->Prop
def EP(X:Cx)(J5:Zd)(σ:St)(Q:VK)(u:Value)(s':Shared):Prop:=∃v H',Inv X J5 σ H' s'/\RelV v u/\Q v H'
def TP(X:Cx)(J5:Zd)(σ:St)(Q:Bool->Hp->Prop)(b:Bool)(s':Shared):Prop:=∃H',Inv X J5 σ H' s'/\Q b H'
def AP(X:Cx)(J5:Zd)(σ:St)(Q:List V->Hp->Prop)(us:Zf)(s':Shared):Prop:=∃vs H',Inv X J5 σ H' s'/\bj vs us/\Q vs H'
def SP(X:Cx)(J5:Zd)(D:gC)(f:Flow)(s':Shared):Prop :=
 match f with
 |.next=>∃σ' H',Inv X J5 σ' H' s'/\D.nx σ' H'
 |.brk=>∃σ' H',Inv X J5 σ' H' s'/\D.bk σ' H'
 |.cont=>∃σ' H',Inv X J5 σ' H' s'/\D.ct σ' H'
 |.ret u=>∃v σ' H',Inv X J5 σ' H' s'/\RelV v u/\D.rt v H'
def PE(X:Cx)(e:Expr)(t:TE):Prop :=
 ∀(J5:Zd) (s:Shared) (σ:St) (H:Hp) (Q:VK),Inv X J5 σ H s->t σ H Q->wpAny (model X.prog X.w) X.A (eval e X.env) (EP X J5 σ Q) X.xe s
def PT(X:Cx)(e:Expr)(t:TT):Prop :=
 ∀(J5:Zd) (s:Shared) (σ:St) (H:Hp) (Q:Bool->Hp->Prop),Inv X J5 σ H s->t σ H Q->wpAny (model X.prog X.w) X.A (isTrue e X.env (eval e X.env)) (TP X J5 σ Q) X.xe s
def PW(X:Cx)(e:Expr)(t:TT):Prop :=
 ∀(whole:Sem Value) (J5:Zd) (s:Shared) (σ:St) (H:Hp) (Q:Bool->Hp->Prop),Inv X J5 σ H s->t σ H Q->wpAny (model X.prog X.w) X.A (isTrue e X.env whole) (TP X J5 σ Q) X.xe s
theorem PW.pt{X:Cx}{e:Expr}{t:TT}(h:PW X e t):PT X e t:=h _
def PA(X:Cx)(es:List Expr)(t:TA):Prop :=
 ∀(pos:Pos) (J5:Zd) (s:Shared) (σ:St) (H:Hp) (Q:List V->Hp->Prop),Inv X J5 σ H s->t σ H Q->wpAny (model X.prog X.w) X.A (spliced (backTo pos (aA es X.env))) (AP X J5 σ Q) X.xe s
def PS(X:Cx)(st:Stmt)(t:TS):Prop :=
 ∀(J5:Zd) (s:Shared) (σ:St) (H:Hp) (D:gC),Inv X J5 σ H s->t D σ H->wpAny (model X.prog X.w) X.A (exec st X.env) (SP X J5 D) X.xe s
def zc(X:Cx)(st:List Stmt)(t:TS):Prop :=
 ∀(J5:Zd) (s:Shared) (σ:St) (H:Hp) (D:gC),Inv X J5 σ H s->t D σ H->wpAny (model X.prog X.w) X.A (execs st X.env) (SP X J5 D) X.xe s
theorem cR{α:Type}{t:Sem α}{Q e:α->Shared->Prop}{M:Model}{A:Around}{E:Zc}{s:Shared}(h:wpAny M A t Q E s)(f:∀a s,Q a s->e a s):wpAny M A t e E s:=cM h f fun _ _ x=>x
end L2
namespace L2
open PySem PySem.Spec PyProof.Rows
section
variable{X:Cx}
def mG(i:Nat):TE:=fun σ H Q=>∃v,σ[i]?=some (some v)/\Q v H
abbrev V0:TE:=mG 0
abbrev V1:TE:=mG 1
abbrev V2:TE:=mG 2
abbrev V3:TE:=mG 3
abbrev V4:TE:=mG 4
abbrev V5:TE:=mG 5
abbrev V6:TE:=mG 6
abbrev V7:TE:=mG 7
abbrev V8:TE:=mG 8
abbrev V9:TE:=mG 9
abbrev Jj:TE:=mG 10
abbrev V11:TE:=mG 11
abbrev V12:TE:=mG 12
def tC(v:V):TE:=fun _ H Q=>Q v H
theorem Kv{i:Nat}{x:Str}{g:Pos}(o:X.N[i]?=some x)(p:Vis X.env.scope x)(j:(x==("__debug__":Str))=false:=by decide)(k:(x==("__classdict__":Str))=false:=by decide):PE X (.Name x g) (mG i):=by
 intro J5 s σ H Q I h;obtain⟨v,e,h⟩:=h;obtain⟨m,q,t⟩:=I.loc;obtain⟨u,r,l⟩:=t i x v o e p;have f:EP X J5 σ Q u s:=⟨v,H,I,r,h⟩;rcases l with⟨hk,w⟩|⟨hk,c,n,a⟩
 ·exact wpAny_Name (wpAny_loadName_local I.ok.kind hk q w f) j
 ·rcases hk with hk|hk
  ·exact wpAny_Name (wpAny_loadName_cell I.ok.kind hk n a f) j
  ·exact wpAny_Name (wpAny_loadName_free I.ok.kind hk n a f k) j
theorem ae{i j a}:PE X (.Constant (.int i) j a) (tC (.int i)):=fun _ _ _ H _ I h=>wpAny_Constant_int ⟨.int i,H,I.tok _,⟨_,rfl⟩,h⟩
theorem jj{b j a}:PE X (.Constant (.bool b) j a) (tC (.bl b)):=fun _ _ _ H _ I h=>Constant_bool ⟨.bl b,H,I,rfl,h⟩
theorem yC{j a}:PE X (.Constant .none j a) (tC .non):=fun _ _ _ H _ I h=>Constant_none ⟨.non,H,I,rfl,h⟩
theorem aI{x j a}:PE X (.Constant (.str x) j a) (tC (.str x)):=fun _ _ _ H _ I h=>Calls.Constant_str ⟨.str x,H,I.tok _,⟨_,rfl⟩,h⟩
def Gl(X:Cx)(x:Str):Prop:=X.env.kindOf x=some .globalImplicit
theorem kI{E:Zc}{e:Zd}{s:Shared}{σ:St}{H:Hp}{x:Str}{u:Value}{a:Pos}{Q:Zc}(I:Inv X e σ H s)(f:Gl X x)(g:X.mg x=some u)(h:Q u s)
  (i:(x==("__debug__":Str))=false:=by decide):wpAny (model X.prog X.w) X.A (eval (.Name x a) X.env) Q E s :=
 Calls.Name_function_global I.ok.kind f (Calls.loadGlobal_global (by rw[I.ok.glob];exact I.mod.glob.keeps I.bk) g h) i
theorem nW{E:Zc}{e:Zd}{s:Shared}{σ:St}{H:Hp}{x:Str}{u:Value}{a:Pos}{Q:Zc}(I:Inv X e σ H s)(f:Gl X x)(g:X.mg x=none)(i:ix x=some u)(h:Q u s)
  (j:x≠"__name__":=by decide) (k:(x==("__debug__":Str))=false:=by decide):wpAny (model X.prog X.w) X.A (eval (.Name x a) X.env) Q E s:=by
 obtain⟨n,l,m⟩:=I.mod.blt;exact Calls.Name_function_global I.ok.kind f (Calls.loadGlobal_builtin (by rw[I.ok.glob];exact I.mod.glob.keeps I.bk) g (by rw[I.ok.blt];exact l.keeps I.bk) ((m x j).trans i) h) k
theorem ff{x:Str}{v:V}{u:Value}{a:Pos}(e:Gl X x)(f:X.mg x=some u)(r:RelV v u)(g:(x==("__debug__":Str))=false:=by decide):PE X (.Name x a) (tC v) :=
 fun _ _ _ H _ I h=>kI I e f ⟨v,H,I,r,h⟩ g
theorem mn{x:Str}{v:V}{u:Value}{a:Pos}(e:Gl X x)(f:X.mg x=none)(g:ix x=some u)(r:RelV v u)(i:x≠"__name__":=by decide)(j:(x==("__debug__":Str))=false:=by decide):PE X (.Name x a) (tC v) :=
 fun _ _ _ H _ I h=>nW I e f g ⟨v,H,I,r,h⟩ i j
variable{a b:Expr}{ta tb:TE}{pos:Pos}
def PC(X:Cx)(op:CmpOp)(a b:Expr)(t:TE):Prop :=
 ∀(J5:Zd) (s:Shared) (σ:St) (H:Hp) (Q:VK),Inv X J5 σ H s->t σ H Q ->
  wpAny (model X.prog X.w) X.A (eval a X.env) (fun v s₁=>wpAny (model X.prog X.w) X.A (eval b X.env) (fun u s₂=>wpAny (model X.prog X.w) X.A (eJ op v u) (EP X J5 σ Q) X.xe s₂) X.xe s₁) X.xe s
theorem Av(b:Expr){e:CmpOp}(h:e≠.In)(f:e≠.NotIn):kY e b=false:=by
 have g:(e==CmpOp.In)=false:=by cases e<;>first|rfl|exact absurd rfl h
 have i:(e==CmpOp.NotIn)=false:=by cases e<;>first|rfl|exact absurd rfl f
 cases b<;>simp[kY,g,i]
def Bw(ta:TE):TE:=fun σ H Q=>ta σ H fun x H1=>Q (.bl (decide (x=.non))) H1
def vP(ta:TE):TE:=fun σ H Q=>ta σ H fun x H1=>Q (.bl (!decide (x=.non))) H1
theorem RelV.none_iff{x:V}{v:Value}(r:RelV x v):(v==Value.none)=decide (x=.non):=by
 cases x with
 |non=>cases r;rfl
 |bl _=>cases r;rfl
 |int _=>obtain⟨t,rfl⟩:=r;rfl
 |str _=>obtain⟨t,rfl⟩:=r;rfl
 |byt _=>obtain⟨t,rfl⟩:=r;rfl
 |flt _=>obtain⟨t,rfl⟩:=r;rfl
 |ref _=>cases r;rfl
 |ty _=>cases r;rfl
theorem yF{j e}(g:PE X a ta):PC X .Is a (.Constant .none j e) (Bw ta):=by
 intro i s σ H Q I h;refine cR (g i s σ H _ I h) fun v o f=>?_;obtain⟨x,k,l,m,n⟩:=f;exact Constant_none (is_none_gen ⟨.bl _,k,l,by rw[m.none_iff];rfl,n⟩)
theorem yE{j e}(g:PE X a ta):PC X .IsNot a (.Constant .none j e) (vP ta):=by
 intro i s σ H Q I h;refine cR (g i s σ H _ I h) fun v o f=>?_;obtain⟨x,k,l,m,n⟩:=f;exact Constant_none (isnot_none_gen ⟨.bl _,k,l,by rw[m.none_iff];rfl,n⟩)
def tB(t:TE):TT:=fun σ H Q=>t σ H fun x H1=>∃c,x=.bl c/\Q c H1
theorem Kz{e:CmpOp}{t:TE}(h:PC X e a b t)(f:kY e b=false:=by first|exact Av _ (by decide) (by decide)|rfl):PE X (.Compare a [e] [b] pos) t:=fun g s σ H Q I i=>wpAny_Compare1 (h g s σ H Q I i) f
theorem ig{e:CmpOp}{t:TE}(h:PC X e a b t)(f:kY e b=false:=by first|exact Av _ (by decide) (by decide)|rfl):PT X (.Compare a [e] [b] pos) (tB t):=by
 intro i s σ H Q I j;refine wpAny_isTrue_Compare1 (cR (h i s σ H _ I j) fun v p f=>cR f fun u r k=>cR k fun c w g=>?_) f;obtain⟨x,l,m,n,o⟩:=g;obtain⟨d,rfl,q⟩:=o;cases n;exact mW ⟨l,m,q⟩
theorem d7{e:Expr}{t:TE}(h:PE X e t)(g:∀whole,isTrue e X.env whole=(do let v <- whole;oM e.pos;jf [v] (truthy v)):=by intro _;rfl):PT X e (tB t):=by
 intro i s σ H Q I j;refine isTrue_plain (cR (h i s σ H _ I j) fun v o f=>?_) (g _);obtain⟨x,k,l,m,n⟩:=f;obtain⟨d,rfl,q⟩:=n;cases m;exact mW ⟨k,l,q⟩
variable{tA tB':TT}{rest:List Expr}
def jI(t u:TT):TT:=fun σ H Q=>t σ H fun c H1=>if c=true then u σ H1 Q else Q false H1
def Bv(t u:TT):TT:=fun σ H Q=>t σ H fun c H1=>if c=true then Q true H1 else u σ H1 Q
def qN(t:TT):TT:=fun σ H Q=>t σ H fun c H1=>Q (!c) H1
theorem fD(f:PT X a tA):PW X (.BoolOp .And [a] pos) tA:=by
 intro i g s σ H Q I h;refine isTrue_and (cR (f g s σ H Q I h) fun c j e=>?_);cases c with
 |true=>exact isTrue_and_nil e
 |false=>exact e
theorem jw(f:PT X a tA):PW X (.BoolOp .Or [a] pos) tA:=by
 intro i g s σ H Q I h;refine isTrue_or (cR (f g s σ H Q I h) fun c j e=>?_);cases c with
 |false=>exact isTrue_or_nil e
 |true=>exact e
theorem ie(k:PT X a tA)(l:PW X (.BoolOp .And (b::rest) pos) tB'):PW X (.BoolOp .And (a::b::rest) pos) (jI tA tB'):=by
 intro m f s σ H Q I h;refine isTrue_and (cR (k f s σ H _ I h) fun c n e=>?_);obtain⟨g,i,j⟩:=e;cases c with
 |true=>exact l m f n σ g Q i j
 |false=>exact⟨g,i,j⟩
theorem jM(k:PT X a tA)(l:PW X (.BoolOp .Or (b::rest) pos) tB'):PW X (.BoolOp .Or (a::b::rest) pos) (Bv tA tB'):=by
 intro m f s σ H Q I h;refine isTrue_or (cR (k f s σ H _ I h) fun c n e=>?_);obtain⟨g,i,j⟩:=e;cases c with
 |true=>exact⟨g,i,j⟩
 |false=>exact l m f n σ g Q i j
theorem kE(e:PT X a tA):PT X (.UnaryOp .Not a pos) (qN tA):=by
 intro f s σ H Q I h;exact isTrue_not (e f s σ H (fun c g=>Q (!c) g) I h)
def iX(ta tb:TE):TE:=fun σ H Q=>ta σ H fun x H1=>∃c,x=.bl c/\if c=true then tb σ H1 Q else Q (.bl false) H1
def Bu(ta tb:TE):TE:=fun σ H Q=>ta σ H fun x H1=>∃c,x=.bl c/\if c=true then Q (.bl true) H1 else tb σ H1 Q
def C5(ta:TE):TE:=fun σ H Q=>ta σ H fun x H1=>∃c,x=.bl c/\Q (.bl (!c)) H1
theorem ii{e}{t:TE}(h:PE X a t):PE X (.BoolOp e [a] pos) t:=fun f s σ H Q I g=>BoolOp_one (h f s σ H Q I g)
theorem ik(k:PE X a ta)(l:PE X (.BoolOp .And (b::rest) pos) tb):PE X (.BoolOp .And (a::b::rest) pos) (iX ta tb):=by
 intro g s σ H Q I h;refine BoolOp_and (cR (k g s σ H _ I h) fun v m f=>?_);obtain⟨x,i,j,n,e⟩:=f;obtain⟨c,rfl,e⟩:=e;cases n;refine mW ?_;cases c with
 |true=>exact l g m σ i Q j e
 |false=>exact⟨.bl false,i,j,rfl,e⟩
theorem GH(k:PE X a ta)(l:PE X (.BoolOp .Or (b::rest) pos) tb):PE X (.BoolOp .Or (a::b::rest) pos) (Bu ta tb):=by
 intro g s σ H Q I h;refine BoolOp_or (cR (k g s σ H _ I h) fun v m f=>?_);obtain⟨x,i,j,n,e⟩:=f;obtain⟨c,rfl,e⟩:=e;cases n;refine mW ?_;cases c with
 |false=>exact l g m σ i Q j e
 |true=>exact⟨.bl true,i,j,rfl,e⟩
theorem GI(g:PE X a ta):PE X (.UnaryOp .Not a pos) (C5 ta):=by
 intro i s σ H Q I h;refine UnaryOp_ (cR (g i s σ H _ I h) fun v m e=>?_);obtain⟨x,j,k,l,f⟩:=e;obtain⟨c,rfl,f⟩:=f;cases l;exact not_of (mW ⟨.bl (!c),j,k,rfl,f⟩)
end
end L2
namespace L2
open PySem PySem.Spec PyProof.Rows
def aF(K:Za)(H:Hp)(a:Addr)(xs:List V):Prop :=
 Rd H a (.lst xs) ∨
  ∃(o:Obj) (its:Array Value) (n:Nat),K.lookup a=some o/\o.cls=.type "list"/\o.dict=none/\o.data=.seq its n/\its.size<=ai/\bj xs its.toList
def bE(K:Za)(H:Hp)(a:Addr)(xs:List V):Prop :=
 Rd H a (.tup xs) ∨
  ∃(o:Obj) (its:Array Value) (n:Nat),K.lookup a=some o/\o.cls=.type "tuple"/\o.data=.seq its n/\its.size<=ai/\bj xs its.toList
def absV:Value->Option V
 |.none=>some .non
 |.bool b=>some (.bl b)
 |.int i _=>some (.int i)
 |.str x _=>some (.str x)
 |.bytes b _=>some (.byt b)
 |.float b _=>some (.flt b)
 |.ref a=>some (.ref a)
 |.type n=>some (.ty n)
 |_=>none
theorem RelV.abs{x:V}{u:Value}(r:RelV x u):absV u=some x:=by
 cases x with
 |non=>cases r;rfl
 |bl _=>cases r;rfl
 |int _=>obtain⟨t,rfl⟩:=r;rfl
 |str _=>obtain⟨t,rfl⟩:=r;rfl
 |byt _=>obtain⟨t,rfl⟩:=r;rfl
 |flt _=>obtain⟨t,rfl⟩:=r;rfl
 |ref _=>cases r;rfl
 |ty _=>cases r;rfl
theorem RelV.inj{x y:V}{u:Value}(r:RelV x u)(q:RelV y u):x=y:=fx (r.abs.symm.trans q.abs)
theorem bj.inj{xs a:List V}{e:Zf}(h:bj xs e)(f:bj a e):xs=a:=by
 induction h generalizing a with
 |nil=>cases f;rfl
 |cons r _ g =>
  cases f with
  |cons i j=>rw[r.inj i,g j]
section
variable{X:Cx}{J5:Zd}{σ:St}{H:Hp}{s:Shared}{a:Addr}{xs ys:List V}
theorem aF.of{K:Za}(h:H a=some (.lst xs)):aF K H a xs:=.inl (.inl h)
theorem bE.of{K:Za}(h:H a=some (.tup xs)):bE K H a xs:=.inl (.inl h)
theorem Inv.list(I:Inv X J5 σ H s)(h:aF X.K H a xs):∃f:List Value,bj xs f/\PlainL s.heap a f.toArray/\xs.length<=ai:=by
 rcases h with h|⟨o,f,n,g,i,j,k,l,r⟩
 ·obtain⟨z,f,n,r,e⟩:=h.ok I.hok;exact⟨f,r,⟨_,n,e,rfl,rfl,rfl⟩,z⟩
 ·refine⟨f.toList,r,⟨o,n,I.kIn a o g,i,j,by simpa using k⟩,?_⟩;have e:=r.length;simp only[oK]at e;omega
theorem Inv.tuple(I:Inv X J5 σ H s)(h:bE X.K H a xs):∃f:List Value,bj xs f/\IsTup s.heap a f.toArray/\xs.length<=ai:=by
 rcases h with h|⟨o,f,n,g,i,j,k,r⟩
 ·obtain⟨z,f,r,p⟩:=h.ok I.hok;exact⟨f,r,p,z⟩
 ·refine⟨f.toList,r,⟨o,I.kIn a o g,i,n,by simpa using j⟩,?_⟩;have e:=r.length;simp only[oK]at e;omega
theorem Inv.list_inj(I:Inv X J5 σ H s)(h:aF X.K H a xs)(k:aF X.K H a ys):xs=ys:=by
 obtain⟨g,r,⟨o,n,e,_,_,d⟩,_⟩:=I.list h;obtain⟨f,l,⟨p,q,i,_,_,j⟩,_⟩:=I.list k;rw[e]at i;cases i;rw[d]at j;injection j with m _;have:g=f:=by simpa using congrArg Array.toList m
 subst this;exact r.inj l
theorem Inv.tuple_inj(I:Inv X J5 σ H s)(h:bE X.K H a xs)(k:bE X.K H a ys):xs=ys:=by
 obtain⟨g,r,⟨o,e,_,n,d⟩,_⟩:=I.tuple h;obtain⟨f,l,⟨p,i,_,q,j⟩,_⟩:=I.tuple k;rw[e]at i;cases i;rw[d]at j;injection j with m _;have:g=f:=by simpa using congrArg Array.toList m
 subst this;exact r.inj l
end
abbrev Cx.wish(X:Cx)(E:Zc):Cx:={ X with xe:=E }
abbrev Cx.nox(X:Cx):Cx:=X.wish fun _ _=>False
theorem Cx.Ok.wish{X:Cx}(ok:X.Ok)(E:Zc):(X.wish E).Ok :=
 ⟨ok.mod,ok.kind,ok.glob,ok.blt,ok.above,ok.inj,ok.has,ok.cab,ok.hd,ok.frames,ok.stk,ok.exf,ok.bs,ok.bsz,ok.noex,ok.exfs,ok.funs,ok.frf⟩
theorem Cx.Ok.unwish{X:Cx}{E:Zc}(ok:(X.wish E).Ok):X.Ok :=
 ⟨ok.mod,ok.kind,ok.glob,ok.blt,ok.above,ok.inj,ok.has,ok.cab,ok.hd,ok.frames,ok.stk,ok.exf,ok.bs,ok.bsz,ok.noex,ok.exfs,ok.funs,ok.frf⟩
section
variable{X:Cx}{J5:Zd}{σ:St}{H:Hp}{s:Shared}{E:Zc}
theorem Inv.wish(I:Inv X J5 σ H s)(E:Zc):Inv (X.wish E) J5 σ H s:=⟨I.ok.wish E,I.os,I.bare,I.base,I.loc,I.cell,I.free,I.freeC,I.pin,I.hok,I.len⟩
theorem Inv.unwish(I:Inv (X.wish E) J5 σ H s):Inv X J5 σ H s:=⟨I.ok.unwish,I.os,I.bare,I.base,I.loc,I.cell,I.free,I.freeC,I.pin,I.hok,I.len⟩
theorem SP.unwish{D:gC}{f:Flow}{e:Shared}(h:SP (X.wish E) J5 D f e):SP X J5 D f e:=by
 cases f with
 |next=>obtain⟨σ',a,I,q⟩:=h;exact⟨σ',a,I.unwish,q⟩
 |brk=>obtain⟨σ',a,I,q⟩:=h;exact⟨σ',a,I.unwish,q⟩
 |cont=>obtain⟨σ',a,I,q⟩:=h;exact⟨σ',a,I.unwish,q⟩
 |ret u=>obtain⟨v,σ',a,I,r,q⟩:=h;exact⟨v,σ',a,I.unwish,r,q⟩
theorem zc.nox{st:List Stmt}{t:TS}(h:zc X.nox st t):zc X st t:=fun J5 s σ H D I a =>
 cM (h J5 s σ H D (I.wish _) a) (fun _ _ q=>q.unwish) fun _ _ z=>de z
end
section
variable{X:Cx}{st:Stmt}{rest:List Stmt}{t u:TS}{e:Expr}{te:TE}{pos:Pos}
def ba:TS:=fun D σ H=>D.nx σ H
def ar(t u:TS):TS:=fun D σ H=>t { D with nx:=u D } σ H
theorem aL:zc X [] ba:=fun _ _ σ H _ I h=>mU ⟨σ,H,I,h⟩
theorem af(g:PS X st t)(i:zc X rest u):zc X (st::rest) (ar t u):=by
 intro a s σ H D I h;refine CO (cR (g a s σ H { D with nx:=u D } I h) fun f j q=>?_);cases f with
 |next =>
  obtain⟨σ',k,l,q⟩:=q;exact i a j σ' k D l q
 |ret v=>exact q
 |brk=>exact q
 |cont=>exact q
theorem ag(a:PS X st t):zc X [st] t:=by
 intro g s σ H D I h;refine CO (cR (a g s σ H D I h) fun f i q=>?_);cases f with
 |next=>exact mU q
 |ret v=>exact q
 |brk=>exact q
 |cont=>exact q
theorem Inv.quiet{a:Zd}{σ:St}{H:Hp}{s:Shared}(I:Inv X a σ H s):interactive X.env=false:=by simp[interactive,I.ok.kind]
def d_(te:TE):TS:=fun D σ H=>te σ H fun _ H1=>D.nx σ H1
theorem bU(a:PE X e te)(f:mT e none pos.line X.env=pure false:=by rfl):PS X (.Expr e pos) (d_ te):=by
 intro g s σ H D I h;exact wpAny_Expr_any (cR (a g s σ H _ I h) fun v l ⟨x,i,j,m,k⟩=>⟨σ,i,j,k⟩) I.quiet f
def aR(te:TE):TS:=fun D σ H=>te σ H D.rt
theorem av(a:PE X e te):PS X (.Return (some e) pos) (aR te):=by
 intro f s σ H D I h;exact wpAny_Return_some (cR (a f s σ H _ I h) fun v l ⟨x,g,i,j,k⟩=>⟨x,σ,g,i,j,k⟩)
def bQ(c:TT)(t u:TS):TS:=fun D σ H=>c σ H fun b H1=>if b=true then t D σ H1 else u D σ H1
theorem bw{c:Expr}{a b:List Stmt}{i:TT}(n:PT X c i)(o:zc X a t)(p:zc X b u):PS X (.If c a b pos) (bQ i t u):=by
 intro f s σ H D I h;refine wpAny_If (cR (n f s σ H _ I h) fun d j g=>?_);obtain⟨k,l,m⟩:=g;cases d with
 |true=>exact o f j σ k D l m
 |false=>exact p f j σ k D l m
def ka:TS:=fun _ _ _=>False
theorem um:PS X st ka:=fun _ _ _ _ _ _ h=>h.elim
end
abbrev TG:=V->St->Hp->(St->Hp->Prop)->Prop
abbrev Fy:=List V->St->Hp->(St->Hp->Prop)->Prop
def PG(X:Cx)(target:Expr)(t:TG):Prop :=
 ∀(J5:Zd) (s:Shared) (σ:St) (H:Hp) (v:V) (u:Value) (Q:St->Hp->Prop),Inv X J5 σ H s->RelV v u->t v σ H Q ->
  wpAny (model X.prog X.w) X.A (assign target X.env u) (fun _ s'=>∃σ' H',Inv X J5 σ' H' s'/\Q σ' H') X.xe s
def Mc(X:Cx)(ts:List Expr)(t:Fy):Prop :=
 ∀(J5:Zd) (s:Shared) (σ:St) (H:Hp) (vs:List V) (us:Zf) (Q:St->Hp->Prop),Inv X J5 σ H s->bj vs us->t vs σ H Q ->
  wpAny (model X.prog X.w) X.A (assignInOrder ((vG ts X.env).map (·.2)) us) (fun _ s'=>∃σ' H',Inv X J5 σ' H' s'/\Q σ' H') X.xe s
abbrev KU:=V->V->V->Hp->(Hp->Prop)->Prop
def LI(X:Cx)(t:KU):Prop :=
 ∀(J5:Zd) (s:Shared) (σ:St) (H:Hp) (o i v:V) (ov iv u:Value) (Q:Hp->Prop),Inv X J5 σ H s->RelV o ov->RelV i iv->RelV v u->t o i v H Q ->
  wpAny (model X.prog X.w) X.A (setItem ov iv u) (fun _ s'=>∃H',Inv X J5 σ H' s'/\Q H') X.xe s
section
variable{X:Cx}{pos:Pos}
def ei(i:Nat):TG:=fun v σ H Q=>Q (σ.set i (some v)) H
abbrev U0:TG:=ei 0
abbrev U1:TG:=ei 1
abbrev U2:TG:=ei 2
abbrev U3:TG:=ei 3
abbrev U4:TG:=ei 4
abbrev U5:TG:=ei 5
abbrev U6:TG:=ei 6
abbrev U7:TG:=ei 7
abbrev U8:TG:=ei 8
abbrev U9:TG:=ei 9
abbrev Mb:TG:=ei 10
abbrev U11:TG:=ei 11
abbrev U12:TG:=ei 12
theorem pD{i:Nat}{x:Str}(a:X.N.Nodup)(hi:X.N[i]?=some x)(hx:Loc X.env.scope x)(hf:X.fn x=true∨X.env.scope.names.lookup x=some .local:=by first|exact .inl rfl|exact .inr rfl|assumption):PG X (.Name x pos) (ei i):=by
 intro f s σ H v u Q I r h;exact wpAny_assign_Name (o7 I a hi hx r (fun g e=>⟨_,H,e,h⟩) hf)
def jC:Fy:=fun vs σ H Q=>vs=[]/\Q σ H
def bM(t:TG)(u:Fy):Fy:=fun vs σ H Q=>∃v r,vs=v::r/\t v σ H fun σ' H'=>u r σ' H' Q
theorem dv:Mc X [] jC:=by
 intro a s σ H f g Q I r h;obtain⟨e,h⟩:=h;subst e;cases r;exact assignInOrder_nil ⟨σ,H,I,h⟩
theorem aN{e:Expr}{a:List Expr}{t:TG}{u:Fy}(i:PG X e t)(j:Mc X a u)
  (k:(vG (e::a) X.env).map (·.2)=assign e X.env::(vG a X.env).map (·.2):=by rfl):Mc X (e::a) (bM t u):=by
 intro g s σ H w x Q I r h;obtain⟨v,y,l,h⟩:=h;subst l;cases r with
 |cons r m =>
  rw[k];refine assignInOrder_cons (cR (i g s σ H _ _ _ I r h) fun _ n f=>?_);obtain⟨σ1,o,p,q⟩:=f;exact j g n σ1 o _ _ Q p m q
def jR(K:Za)(n:Nat)(t:Fy):TG:=fun v σ H Q=>∃a xs,v=.ref a/\bE K H a xs/\xs.length=n/\t xs σ H Q
theorem eX{f:List Expr}{k:Nat}{t:Fy}{n:Nat}(m:X.calm=true)(h:Mc X f t)
  (p:(vG f X.env).length=n:=by rfl) (g:(vG f X.env).findIdx? (·.1)=none:=by rfl):PG X (.Tuple f k pos) (jR X.K n t):=by
 intro j s σ H v u Q I r i;obtain⟨a,xs,q,w,x,i⟩:=i;subst q;cases r;obtain⟨y,l,z,C⟩:=I.tuple w;refine assign_Tuple_tuple (I.ok.hd m) z (by simp[p,<-x,l.length]) g fun A hx=>?_;have B:Inv X j σ H { s with heap:=A }:=I.kept (t':=s.toks) fun b o e=>hx b o (bX (aS e)) e;exact h j _ σ H xs _ Q B (by simpa using l) i
def uG(to ti:TE)(t:KU):TG:=fun v σ H Q=>to σ H fun o H1=>ti σ H1 fun i H2=>t o i v H2 fun H3=>Q σ H3
theorem lN{o i:Expr}{to j:TE}{t:KU}(k:PE X o to)(hi:PE X i j)(l:LI X t)
  (m:∀v,assign (.Subscript o i pos) X.env v=(do
   let e <- jf [v] (eval o X.env)
   let f <- jf [v,e] (eval i X.env)
   oM pos
   jf [v,e,f] (setItem e f v)
   release [v,e,f] []):=by intro _;rfl):PG X (.Subscript o i pos) (uG to j t):=by
 intro g s σ H v u Q I r h;rw[m];refine ak (gE (cR (k g s σ H _ I h) fun e n a=>?_));obtain⟨x,p,q,w,z⟩:=a;refine ak (gE (cR (hi g n σ p _ q z) fun f A a=>?_));obtain⟨y,B,C,D,E⟩:=a;refine ak (zJ (ak (gE (cR (l g A σ B x y v e f u _ C w D r E) fun _ M a=>?_))));obtain⟨G,J,L⟩:=a;exact wpAny_release ⟨σ,G,J,L⟩
def aO(te:TE)(g:TG):TS:=fun D σ H=>te σ H fun x H1=>g x σ H1 D.nx
theorem jx{tg e:Expr}{f:TE}{g:TG}(j:PE X e f)(k:PG X tg g)(l:swapsWithSole [tg] e pos.line X.env=pure false:=by rfl)(m:swappedStores [tg] e X.env=pure none:=by rfl)
  (n:(vG [tg] X.env).map (·.2)=[assign tg X.env]:=by rfl):PS X (.Assign [tg] e pos) (aO f g):=by
 intro i s σ H D I h;refine wpAny_Assign_stores (cR (j i s σ H _ I h) fun v o a=>?_) l m;obtain⟨x,p,r,t,u⟩:=a;rw[n];exact cR (k i o σ p x v _ r t u) fun _ w q=>q
theorem Kq{i:Nat}{x:Str}{e:Expr}{g:TE}{a:Pos}(j:X.N.Nodup)(hi:X.N[i]?=some x)(hx:Loc X.env.scope x)(k:PE X e g)(l:mT e (some (.Name x a)) pos.line X.env=pure false:=by rfl)(hf:X.fn x=true∨X.env.scope.names.lookup x=some .local:=by first|exact .inl rfl|exact .inr rfl|assumption):
  PS X (.Assign [.Name x a] e pos) (aO g (ei i)):=by
 intro m s σ H D I h;refine wpAny_Assign_Name (cR (k m s σ H _ I h) fun v t f=>?_) l;obtain⟨y,n,o,p,q⟩:=f;exact o7 o j hi hx p (fun u r=>⟨_,n,r,q⟩) hf
end
section
variable{X:Cx}{pos:Pos}
def Bt(c:TT)(tb:TS):TS:=fun D σ H=>∃W:Nat->St->Hp->Prop,(∃m,W m σ H)/\∀m σ H,W m σ H ->
 c σ H fun b H1=>if b=true then ∃N:St->Hp->Prop,(∀σ' H',N σ' H'->∃m',m'<m/\W m' σ' H')/\tb { D with nx:=N,ct:=N,bk:=D.nx } σ H1 else D.nx σ H1
theorem GA{c:Expr}{a:List Stmt}{q:TT}{r:TS}(t:vF (model X.prog X.w) X.A X.env X.xe)(C:PT X c q)(E:zc X a r):PS X (.While c a [] pos) (Bt q r):=by
 intro J5 s σ H D I h;obtain⟨W,⟨G,J⟩,turn⟩:=h;refine wpAny_While (codeAny_whileLoop (fun n L=>∃σ' u,Inv X J5 σ' u L/\W n σ' u) ?_ G ⟨σ,H,I,J⟩);rintro n M ⟨σ1,x,O,Q⟩;refine fZ t (cR (C J5 M σ1 x _ O (turn n σ1 x Q)) fun b T j=>?_);obtain⟨y,z,g⟩:=j;cases b with
 |true =>
  obtain⟨N,B,g⟩:=g;rw[if_pos rfl];refine fZ t (cR (E J5 T σ1 y _ z g) fun f U i=>?_);cases f with
  |next =>
   obtain⟨σ3,e,k,l⟩:=i;obtain⟨m,o,p⟩:=B σ3 e l;exact⟨m,o,σ3,e,k,p⟩
  |cont =>
   obtain⟨σ3,e,k,l⟩:=i;obtain⟨m,o,p⟩:=B σ3 e l;exact⟨m,o,σ3,e,k,p⟩
  |brk=>exact i
  |ret v=>exact i
 |false =>
  rw[if_neg iO];exact mU ⟨σ1,y,z,g⟩
end
structure It where
 go:Nat->Hp->Prop
 yld:Nat->Hp->V->Hp->Prop
 stop:Nat->Hp->Prop
def kP(X:Cx)(J5:Zd)(H:Hp)(b:Addr):Prop :=
 H b=none/\b≠X.env.locals/\b∉X.fs/\(b∈X.ex∨X.s₀.heap.objs.size<=b)/\(∀x c,X.env.cells.lookup x=some c->c≠b)/\∀p∈X.pn++J5,p.1≠b
theorem Inv.fpOk{X:Cx}{f:Zd}{σ:St}{H g:Hp}{s:Shared}{b:Addr}(I:Inv X f σ H s)(a:s.heap.objs.size<=b)(h:g b=none):kP X f g b:=by
 refine⟨h,fX (f6 I.lt a),I.nofs a,.inr (bo I.sz a),fun x c e z=>?_,fun p i z=>?_⟩
 ·obtain⟨v,q⟩:=I.cell x c e;exact absurd (f6 q.lt (by rw[z];exact a)) (rE _)
 ·exact absurd (f6 (aS (I.pin p i).1) (by rw[z];exact a)) (rE _)
structure uP(P:bu)(w:World)(K:Za)(tg:Expr)(J:It)(fp:Ze)(it:Addr)(tn:Nat->Heap->Prop):Prop where
 mem:it∈fp
 obj:∀i h,tn i h->∀b∈fp,∃o,h.get? b=some o/\∀v,o.data≠.cell v
 keep:∀i h h',tn i h->(∀b∈fp,∀o,h.get? b=some o->h'.get? b=some o)->tn i h'
 item:∀(X:Cx),X.prog=P->X.w=w->X.K=K->X.calm=true->∀(i:Nat) (J5:Zd) (s:Shared) (σ:St) (H:Hp) (E:Zc),Inv X J5 σ H s->(∀b∈fp,kP X J5 H b)->tn i s.heap->J.go i H ->
  wpAny (model P w) X.A (pyNext (.ref it)) (fun r s1=>∃u,r=some u /\
   wpAny (model P w) X.A (CN tg (.ref it) u) (fun _ s2=>∃x H',Inv X J5 σ H' s2/\RelV x u/\J.yld i H x H'/\tn (i+1) s2.heap/\∀b∈fp,H' b=none) E s1) E s
 done:∀(X:Cx),X.prog=P->X.w=w->X.K=K->X.calm=true->∀(i:Nat) (J5:Zd) (s:Shared) (σ:St) (H:Hp) (E:Zc),Inv X J5 σ H s->(∀b∈fp,kP X J5 H b)->tn i s.heap->J.stop i H ->
  wpAny (model P w) X.A (pyNext (.ref it)) (fun r s1=>r=none/\Inv X J5 σ H s1) E s
 self:∀(A:Around) (i:Nat) (s:Shared) (Q:Zc) (E:Zc),tn i s.heap->Q (.ref it) s->wpAny (model P w) A (pyIter (.ref it)) Q E s
abbrev TI:=St->Hp->(It->Hp->Prop)->Prop
def PIE(X:Cx)(J5:Zd)(σ:St)(tg:Expr)(R:It->Hp->Prop)(itv:Value)(s2:Shared):Prop :=
 ∃(it:Addr) (fp:Ze) (tn:Nat->Heap->Prop) (J:It) (H':Hp),itv=.ref it/\Inv X J5 σ H' s2/\uP X.prog X.w X.K tg J fp it tn/\tn 0 s2.heap/\(∀b∈fp,kP X J5 H' b)/\R J H'
def PI(X:Cx)(tg iter:Expr)(wi:TI):Prop :=
 ∀(J5:Zd) (s:Shared) (σ:St) (H:Hp) (R:It->Hp->Prop),Inv X J5 σ H s->wi σ H R ->
  wpAny (model X.prog X.w) X.A (eval iter X.env) (fun v s1=>wpAny (model X.prog X.w) X.A (pyIter v) (PIE X J5 σ tg R) X.xe s1) X.xe s
theorem ww{M:Model}{A:Around}{E:Zc}{s:Shared}{e:Expr}{it:Addr}{u:Value}{o:Obj}{n:String}{f:Array Value}{Q:Unit->Shared->Prop}(g:s.heap.get? it=some o)(i:o.cls=.type n)(j:o.data=.fields f)
    (k:["enumerate","zip","dict_itemiterator","dict_reverseitemiterator","odict_iterator","itertools.zip_longest","itertools.pairwise"].contains n=false) (a:Q () s):wpAny M A (CN e (.ref it) u) Q E s:=by
  unfold CN;cases e<;>first
    |exact ap a
    | (cases u <;> first
        |exact ap a
        | (refine ak (wpAny_load g ?_)
           rw[i,j];show wpAny M A (if(["enumerate","zip","dict_itemiterator","dict_reverseitemiterator","odict_iterator","itertools.zip_longest","itertools.pairwise"].contains n && f[0]?==some (rawInt _))=true then _ else _) Q E s
           rw[if_neg (by intro h;rw[k,Bool.false_and]at h;cases h)];exact ap a))
def Fz(K:Za)(a:Addr):It :=
 ⟨fun i H=>∃xs x,aF K H a xs/\xs[i]?=some x,fun i H x H'=>H'=H/\∀xs,aF K H a xs->xs[i]?=some x,fun i H=>∃xs,aF K H a xs/\xs.length<=i⟩
def HW(K:Za)(a:Addr):It :=
 ⟨fun i H=>∃xs x,bE K H a xs/\xs[i]?=some x,fun i H x H'=>H'=H/\∀xs,bE K H a xs->xs[i]?=some x,fun i H=>∃xs,bE K H a xs/\xs.length<=i⟩
def JX(lo:Int)(n:Nat):It:=⟨fun i _=>i<n,fun i H x H'=>H'=H/\x=.int (lo+i),fun i _=>n<=i⟩
theorem qH{P:bu}{w:World}{K:Za}{M:Expr}(a it:Addr):uP P w K M (Fz K a) [it] it (fun i h=>h.IsListIter it a i) where
 mem:=by simp
 obj:=fun i h st b f=>by
  have e:b=it:=by simpa using f
  subst e;obtain⟨o,e,c,d⟩:=st;exact⟨o,e,fun v z=>by rw[d]at z;cases z⟩
 keep:=fun i h j st k=>st.at fun o e=>k it (by simp) o e
 item:=by
  intro X m n q J i L s σ H E I hf st r;subst m n q;obtain⟨xs,x,l,hx⟩:=r;obtain⟨t,y,p,N⟩:=I.list l;obtain⟨u,O,Q⟩:=y.get hx;obtain⟨A,B,T,C,D,G⟩:=hf it (by simp);refine wpAny_pyNext_list_item st p.isList (x:=u) (by simpa using O) fun j g U=>?_;have Y:Inv X L σ H { s with heap:=j }:=I.turned (t':=s.toks) (fun b o f e=>(U.2 b f).trans e) A B C D G;obtain⟨o,e,c,d⟩:=id g;exact⟨u,rfl,ww (s:={ s with heap:=j }) e c d (by decide) ⟨x,H,Y,Q,⟨rfl,fun ys hy=>by rw[I.list_inj hy l];exact hx⟩,g,fun b f=>(hf b f).1⟩⟩
 done:=by
  intro X m n q J i L s σ H E I hf st r;subst m n q;obtain⟨xs,l,hx⟩:=r;obtain⟨t,y,p,N⟩:=I.list l;obtain⟨A,B,T,C,D,G⟩:=hf it (by simp);have hl:=y.length;exact wpAny_pyNext_list_end (I.ok.hd J) st p.isList (by simp;omega) fun j eb=>⟨rfl,I.turned (t':=s.toks) (fun b o f e=>eb b o f e) A B C D G⟩
 self:=fun _ _ _ _ _ st h=>wpAny_pyIter_listiter st h
theorem tX{P:bu}{w:World}{K:Za}{M:Expr}(a it:Addr):uP P w K M (HW K a) [it] it (fun i h=>h.IsTupleIter it a i) where
 mem:=by simp
 obj:=fun i h st b f=>by
  have e:b=it:=by simpa using f
  subst e;obtain⟨o,e,c,d⟩:=st;exact⟨o,e,fun v z=>by rw[d]at z;cases z⟩
 keep:=fun i h l st k=>st.at fun o e=>k it (by simp) o e
 item:=by
  intro X n q r J i L s σ H E I hf st t;subst n q r;obtain⟨xs,x,m,hx⟩:=t;obtain⟨g,y,p,N⟩:=I.tuple m;obtain⟨u,O,Q⟩:=y.get hx;obtain⟨A,B,T,C,D,G⟩:=hf it (by simp);refine wpAny_pyNext_tuple_item st (show s.heap.IsTuple a g.toArray from p) (x:=u) (by simpa using O) fun l j U=>?_;have Y:Inv X L σ H { s with heap:=l }:=I.turned (t':=s.toks) (fun b o f e=>(U.2 b f).trans e) A B C D G;obtain⟨o,e,c,d⟩:=id j;exact⟨u,rfl,ww (s:={ s with heap:=l }) e c d (by decide) ⟨x,H,Y,Q,⟨rfl,fun ys hy=>by rw[I.tuple_inj hy m];exact hx⟩,j,fun b f=>(hf b f).1⟩⟩
 done:=by
  intro X n q r J i L s σ H E I hf st t;subst n q r;obtain⟨xs,m,hx⟩:=t;obtain⟨g,y,p,N⟩:=I.tuple m;obtain⟨A,B,T,C,D,G⟩:=hf it (by simp);have hl:=y.length;exact wpAny_pyNext_tuple_end (I.ok.hd J) st (show s.heap.IsTuple a g.toArray from p) (by simp;omega) fun l eb=>⟨rfl,I.turned (t':=s.toks) (fun b o f e=>eb b o f e) A B C D G⟩
 self:=fun _ _ _ _ _ st h=>wpAny_pyIter_tupleiter st h
theorem Bl{P:bu}{w:World}{K:Za}{C:Expr}(it:Addr)(lo:Int)(n:Nat):uP P w K C (JX lo n) [it] it (fun i h=>IsRangeIter h it (lo+(i:Nat) * 1) ((n:Int)-(i:Nat)) 1) where
 mem:=by simp
 obj:=fun i h st b a=>by
  have e:b=it:=by simpa using a
  subst e;exact⟨_,st,fun v z=>by
   have D:Data.fields _=Data.cell v:=z;cases D⟩
 keep:=fun i h g st k=>k it (by simp) _ st
 item:=by
  intro X j l m p i B s σ H E I hf st q;subst j l m;obtain⟨r,u,G,x,y,A⟩:=hf it (by simp);have W:=Walks.range (prog:=X.prog) (w:=X.w) (I.ok.hd p) it lo 1 n;refine W.item i s _ _ q st fun v g tk J f L=>?_;obtain⟨t,rfl⟩:=J;have M:Inv X B σ H { s with heap:=g,toks:=tk }:=I.turned (fun b o a e=>L b o (by simpa using a) e) r u x y A;refine⟨_,rfl,ww (s:={ s with heap:=g,toks:=tk }) (n:="range_iterator") f rfl rfl (by decide) ⟨.int (lo+i),H,M,⟨t,?_⟩,⟨rfl,rfl⟩,f,fun b a=>(hf b a).1⟩⟩;rw[Int.mul_one]
 done:=by
  intro X j l m p i B s σ H E I hf st q;subst j l m;obtain⟨r,u,G,x,y,A⟩:=hf it (by simp);exact wpAny_pyNext_range_end (I.ok.hd p) st (by have:n<=i:=q;omega) fun g N=>⟨rfl,I.turned (t':=s.toks) (fun b o a e=>N b o a e) r u x y A⟩
 self:=fun _ _ _ _ _ st h=>wpAny_pyIter_rangeiter st h
end L2
namespace L2
open PySem PySem.Spec PyProof.Rows
section
variable{X:Cx}{tg:Expr}
def eh(K:Za)(tl:TE):TI:=fun σ H R=>tl σ H fun x H1=>∃a,x=.ref a/\(∃xs,aF K H1 a xs)/\R (Fz K a) H1
def uE(K:Za)(tl:TE):TI:=fun σ H R=>tl σ H fun x H1=>∃a,x=.ref a/\(∃xs,bE K H1 a xs)/\R (HW K a) H1
theorem cx{l:Expr}{j:TE}(k:PE X l j):PI X tg l (eh X.K j):=by
 intro m s σ H R I h;refine cR (k m s σ H _ I h) fun v f i=>?_;obtain⟨x,n,g,r,t⟩:=i;obtain⟨a,e,⟨xs,u⟩,q⟩:=t;subst e;cases r;obtain⟨w,z,p,A⟩:=g.list u;refine sW p.isList ?_;refine⟨f.heap.objs.size,[f.heap.objs.size],_,_,n,rfl,g.kept (t':=f.toks) fun b o e=>bc _ e,qH a _,⟨_,db _ rfl,rfl,rfl⟩,fun b y=>?_,q⟩;have e:b=f.heap.objs.size:=by simpa using y
 subst e;exact g.fpOk (ay _) (g.hok.fresh (ay _))
theorem lM{l:Expr}{k:TE}(m:PE X l k):PI X tg l (uE X.K k):=by
 intro n s σ H R I h;refine cR (m n s σ H _ I h) fun v f i=>?_;obtain⟨x,r,g,t,u⟩:=i;obtain⟨a,e,⟨xs,w⟩,q⟩:=u;subst e;cases t;obtain⟨j,z,p,A⟩:=g.tuple w;refine CM (show f.heap.IsTuple a j.toArray from p) ?_;refine⟨f.heap.objs.size,[f.heap.objs.size],_,_,r,rfl,g.kept (t':=f.toks) fun b o e=>bc _ e,tX a _,⟨_,db _ rfl,rfl,rfl⟩,fun b y=>?_,q⟩;have e:b=f.heap.objs.size:=by simpa using y
 subst e;exact g.fpOk (ay _) (g.hok.fresh (ay _))
theorem Gr{a:Zd}{σ:St}{H:Hp}{s:Shared}{R:It->Hp->Prop}{E:Zc}{lo hi:Int}{t u v:Tok}{tk:Nat}(I:Inv X a σ H s)(g:-(2 ^ 62)<=lo)(h:lo<2 ^ 62)(i:-(2 ^ 62)<=hi)(j:hi<2 ^ 62)
  (q:R (JX lo (hi-lo).toNat) H):wpAny (model X.prog X.w) X.A (pyIter (.ref s.heap.objs.size)) (PIE X a σ tg R) E { s with heap:=s.heap.push { cls:=.type "range",data:=.fields #[.int lo t,.int hi u,.int 1 v] },toks:=tk }:=by
 refine wpAny_pyIter_range (IsRange.new ..) (small_one g h i j) ?_;have f:Inv X a σ H { s with heap:=s.heap.push { cls:=.type "range",data:=.fields #[.int lo t,.int hi u,.int 1 v] },toks:=tk }:=I.kept fun b o e=>bc _ e;refine⟨(s.heap.push { cls:=.type "range",data:=.fields #[.int lo t,.int hi u,.int 1 v] }).objs.size,[(s.heap.push { cls:=.type "range",data:=.fields #[.int lo t,.int hi u,.int 1 v] }).objs.size],_,_,H,rfl,
  f.kept (t':=tk) fun b o e=>bc _ e,Bl _ lo (hi-lo).toNat,?_,fun b k=>?_,q⟩
 ·have l:lo+((0:Nat):Int) * 1=lo:=by simp
  have m:(((hi-lo).toNat:Nat):Int)-((0:Nat):Int)=b_.Range.rangeSize lo hi 1:=by rw[rangeSize_one];split<;>omega
  show IsRangeIter _ _ (lo+((0:Nat):Int) * 1) ((((hi-lo).toNat:Nat):Int)-((0:Nat):Int)) 1;rw[l,m];exact db _ rfl
 ·have e:b=(s.heap.push { cls:=.type "range",data:=.fields #[.int lo t,.int hi u,.int 1 v] }).objs.size:=by simpa using k
  subst e;exact f.fpOk (ay _) (f.hok.fresh (ay _))
def gF(ta:TA):TI:=fun σ H R=>ta σ H fun vs H1=>∃j:Int,vs=[.int j]/\-(2 ^ 62)<=j/\j<2 ^ 62/\R (JX 0 j.toNat) H1
theorem cH{a:Expr}{k:TA}{p f:Pos}(l:Gl X "range")(m:X.mg "range"=none)(n:PA X [a] k)(o:aA [a] X.env=[(false,eval a X.env)]:=by rfl):PI X tg (.Call (.Name "range" p) [a] [] f) (gF k):=by
 intro u s σ H R I h;refine Call_ (nW I l m boot_range (zI (cR (n f u s σ H _ I h) fun z A g=>?_) o rfl));obtain⟨B,C,v,w,i⟩:=g;obtain⟨j,e,i,x,q⟩:=i;subst e;cases w with
 |cons r y =>
  cases y;obtain⟨t,rfl⟩:=r;exact call_range_1 (Gr v (by omega) (by omega) i x (by simpa using q))
def fe(wi:TI)(g:TG)(tb:TS):TS:=fun D σ H=>wi σ H fun J H1=>∃W:Nat->Nat->St->Hp->Prop,(∃m,W 0 m σ H1)/\∀i m σ H,W i m σ H ->
 (J.stop i H/\D.nx σ H)∨(J.go i H/\∃N:St->Hp->Prop,(∀σ' H',N σ' H'->∃m',m'<m/\W (i+1) m' σ' H')/\∀x H',J.yld i H x H'->g x σ H' fun σ2 H2=>tb { D with nx:=N,ct:=N,bk:=D.nx } σ2 H2)
def nU(fp:Ze)(h:Heap):List (Addr×Obj):=fp.filterMap fun b=>(h.get? b).map fun o=>(b,o)
theorem eZ{fp:Ze}{h:Heap}{b:Addr}{o:Obj}(a:b∈fp)(e:h.get? b=some o):(b,o)∈nU fp h:=List.mem_filterMap.mpr ⟨b,a,by rw[e];rfl⟩
theorem EN{a:Ze}{h:Heap}{p:Addr×Obj}(f:p∈nU a h):p.1∈a/\h.get? p.1=some p.2:=by
 obtain⟨b,g,e⟩:=List.mem_filterMap.mp f;cases q:h.get? b with
 |none=>rw[q]at e;cases e
 |some o =>
  rw[q]at e;have i:(b,o)=p:=fx e;subst i;exact⟨g,q⟩
theorem Inv.pinned{a:Zd}{σ:St}{H:Hp}{s:Shared}{f:Ze}(I:Inv X a σ H s)(hf:∀b∈f,kP X a H b)(i:∀b∈f,∃o,s.heap.get? b=some o/\∀v,o.data≠.cell v):Inv X (a++nU f s.heap) σ H s :=
 I.pins_of fun p j=>(cG.mp j).elim (fun z=>I.pin p (dE _ z)) fun z=>by
  obtain⟨g,e⟩:=EN z;obtain⟨k,l,m,_⟩:=hf p.1 g;obtain⟨o,h,d⟩:=i p.1 g;rw[e]at h;cases h;exact⟨e,k,l,m,d⟩
theorem Inv.unpinned{a e:Zd}{σ:St}{H:Hp}{s:Shared}(I:Inv X (a++e) σ H s):Inv X a σ H s:=I.pins_of fun p f=>I.pin p (dE _ (gD _ f))
theorem cf{j:Expr}{y:List Stmt}{wi:TI}{g:TG}{tb:TS}{U:Pos}(E:vF (model X.prog X.w) X.A X.env X.xe)(hc:X.calm=true)(hi:PI X tg j wi)(hg:PG X tg g)(k:zc X y tb)
  (hs:∀x,rD j X.env x=pure x:=by intro _;rfl):PS X (.For tg j y [] U) (fe wi g tb):=by
 intro B s σ H D I h;refine wpAny_For (cR (hi B s σ H _ I h) fun v s1 h1=>cR h1 fun an s2 h2=>?_) hs;obtain⟨it,G,tn,J,H2,e,I2,T,Y,f2,W,⟨m0,w0⟩,turn⟩:=h2;subst e;have l:∀{t:Hp},(∀b∈G,t b=none)->∀b∈G,kP X B t b:=fun hn b k=>⟨hn b k,(f2 b k).2⟩;refine codeAny_forLoop_any (fun n s'=>∃i σ' t,Inv X B σ' t s'/\tn i s'.heap/\(∀b∈G,t b=none)/\W i n σ' t) ?_ m0 ⟨0,σ,H2,I2,Y,fun b k=>(f2 b k).1,w0⟩;rintro n s3 ⟨i,σ3,Q,I3,L,M,w3⟩;rcases turn i n σ3 Q w3 with⟨stop,qn⟩|⟨go,N,hN,step⟩
 ·refine fZ E (cR (T.done X rfl rfl rfl hc i B s3 σ3 Q X.xe I3 (l M) L stop) fun r s4 a=>?_);obtain⟨hr,I4⟩:=a;subst hr;exact mU ⟨σ3,Q,I4,qn⟩
 ·refine fZ E (cR (T.item X rfl rfl rfl hc i B s3 σ3 Q X.xe I3 (l M) L go) fun r s4 a=>?_);obtain⟨u,hr,h4⟩:=a;subst hr;refine fZ E (cR h4 fun _ s5 a=>?_);obtain⟨x,H5,I5,r5,y5,C,ab⟩:=a;have al:=I5.pinned (l ab) (T.obj _ _ C);refine fZ E (cR (hg _ s5 σ3 H5 x u _ al r5 (step x H5 y5)) fun _ s6 a=>?_);obtain⟨σ6,H6,I6,q6⟩:=a;refine fZ E (cR (k _ s6 σ6 H6 _ I6 q6) fun f s7 z=>?_);have again:∀{σ7:St}{p:Hp},Inv X (B++nU G s5.heap) σ7 p s7->N σ7 p->∃m,m<n/\∃i σ' t,Inv X B σ' t s7/\tn i s7.heap/\(∀b∈G,t b=none)/\W i m σ' t:=fun{σ7 p} q O=>by
   obtain⟨m',hm,w7⟩:=hN σ7 p O;refine⟨m',hm,i+1,σ7,p,q.unpinned,T.keep _ _ _ C fun b k o e=>(q.pin (b,o) (dE _ (dE _ (eZ k e)))).1,fun b k=>?_,w7⟩;obtain⟨o,e,d⟩:=T.obj _ _ C b k;exact(q.pin (b,o) (dE _ (dE _ (eZ k e)))).2.1
  cases f with
  |next=>obtain⟨σ7,p,q,O⟩:=z;exact again q O
  |cont=>obtain⟨σ7,p,q,O⟩:=z;exact again q O
  |brk=>obtain⟨σ7,p,q,z⟩:=z;exact⟨σ7,p,q.unpinned,z⟩
  |ret v=>obtain⟨x7,σ7,p,q,r7,z⟩:=z;exact⟨x7,σ7,p,q.unpinned,r7,z⟩
end
theorem fz{K:Za}{a:Addr}{xs:List V}{g:TG}{k:TS}{D:gC}{σ:St}{H:Hp}(Pv:Nat->St->Hp->Prop)(n:Pv 0 σ H)(o:∀i σ H,i<=xs.length->Pv i σ H->aF K H a xs)
  (r:∀i x σ H,xs[i]?=some x->Pv i σ H->g x σ H fun σ2 j=>k { D with nx:=Pv (i+1),ct:=Pv (i+1),bk:=D.nx } σ2 j) (s:∀σ H,Pv xs.length σ H->D.nx σ H) :
  ∃W:Nat->Nat->St->Hp->Prop,(∃m,W 0 m σ H)/\∀i m σ H,W i m σ H ->
   ((Fz K a).stop i H/\D.nx σ H)∨((Fz K a).go i H/\∃N:St->Hp->Prop,(∀σ' f,N σ' f->∃l,l<m/\W (i+1) l σ' f)/\∀x f,(Fz K a).yld i H x f->g x σ f fun σ2 j=>k { D with nx:=N,ct:=N,bk:=D.nx } σ2 j):=by
 refine⟨fun i m σ H=>m=xs.length-i/\i<=xs.length/\Pv i σ H,⟨xs.length,by simp,cp _,n⟩,?_⟩;rintro i m σ H ⟨rfl,hi,p⟩;have q:=o i σ H hi p;by_cases h:i<xs.length
 ·refine .inr ⟨⟨xs,xs[i],q,by simp[h]⟩,Pv (i+1),fun σ' f t=>⟨xs.length-(i+1),by omega,rfl,h,t⟩,fun x f y=>?_⟩;obtain⟨e,y⟩:=y;subst e;exact r i x σ _ (y xs q) p
 ·have e:i=xs.length:=by omega
  subst e;exact .inl ⟨⟨xs,q,ay _⟩,s σ H p⟩
theorem Jc{K:Za}{a:Addr}{xs:List V}{g:TG}{k:TS}{D:gC}{σ:St}{H:Hp}(Pv:Nat->St->Hp->Prop)(n:Pv 0 σ H)(o:∀i σ H,i<=xs.length->Pv i σ H->bE K H a xs)
  (r:∀i x σ H,xs[i]?=some x->Pv i σ H->g x σ H fun σ2 j=>k { D with nx:=Pv (i+1),ct:=Pv (i+1),bk:=D.nx } σ2 j) (s:∀σ H,Pv xs.length σ H->D.nx σ H) :
  ∃W:Nat->Nat->St->Hp->Prop,(∃m,W 0 m σ H)/\∀i m σ H,W i m σ H ->
   ((HW K a).stop i H/\D.nx σ H)∨((HW K a).go i H/\∃N:St->Hp->Prop,(∀σ' f,N σ' f->∃l,l<m/\W (i+1) l σ' f)/\∀x f,(HW K a).yld i H x f->g x σ f fun σ2 j=>k { D with nx:=N,ct:=N,bk:=D.nx } σ2 j):=by
 refine⟨fun i m σ H=>m=xs.length-i/\i<=xs.length/\Pv i σ H,⟨xs.length,by simp,cp _,n⟩,?_⟩;rintro i m σ H ⟨rfl,hi,p⟩;have q:=o i σ H hi p;by_cases h:i<xs.length
 ·refine .inr ⟨⟨xs,xs[i],q,by simp[h]⟩,Pv (i+1),fun σ' f t=>⟨xs.length-(i+1),by omega,rfl,h,t⟩,fun x f y=>?_⟩;obtain⟨e,y⟩:=y;subst e;exact r i x σ _ (y xs q) p
 ·have e:i=xs.length:=by omega
  subst e;exact .inl ⟨⟨xs,q,ay _⟩,s σ H p⟩
theorem dS{lo:Int}{n:Nat}{g:TG}{j:TS}{D:gC}{σ:St}{H:Hp}(Pv:Nat->St->Hp->Prop)(l:Pv 0 σ H)
  (o:∀i σ H,i<n->Pv i σ H->g (.int (lo+i)) σ H fun σ2 h=>j { D with nx:=Pv (i+1),ct:=Pv (i+1),bk:=D.nx } σ2 h) (q:∀σ H,Pv n σ H->D.nx σ H) :
  ∃W:Nat->Nat->St->Hp->Prop,(∃m,W 0 m σ H)/\∀i m σ H,W i m σ H ->
   ((JX lo n).stop i H/\D.nx σ H)∨((JX lo n).go i H/\∃N:St->Hp->Prop,(∀σ' a,N σ' a->∃k,k<m/\W (i+1) k σ' a)/\∀x a,(JX lo n).yld i H x a->g x σ a fun σ2 h=>j { D with nx:=N,ct:=N,bk:=D.nx } σ2 h):=by
 refine⟨fun i m σ H=>m=n-i/\i<=n/\Pv i σ H,⟨n,by simp,cp _,l⟩,?_⟩;rintro i m σ H ⟨rfl,hi,p⟩;by_cases f:i<n
 ·refine .inr ⟨f,Pv (i+1),fun σ' a r=>⟨n-(i+1),by omega,rfl,f,r⟩,fun x a y=>?_⟩;obtain⟨e,y⟩:=y;subst e y;exact o i σ _ f p
 ·have e:i=n:=by omega
  subst e;exact .inl ⟨ay _,q σ H p⟩
end L2
namespace L2
open PySem PySem.Spec PyProof.Rows
abbrev R2:=V->V->Hp->VK->Prop
def kN(X:Cx)(f:Value->Value->Sem Value)(r:R2):Prop :=
 ∀(J5:Zd) (s:Shared) (σ:St) (H:Hp) (x y:V) (v u:Value) (Q:VK),Inv X J5 σ H s->RelV x v->RelV y u->r x y H Q ->
  wpAny (model X.prog X.w) X.A (f v u) (EP X J5 σ Q) X.xe s
def UnR(X:Cx)(f:Value->Sem Value)(r:V->Hp->VK->Prop):Prop :=
 ∀(J5:Zd) (s:Shared) (σ:St) (H:Hp) (x:V) (v:Value) (Q:VK),Inv X J5 σ H s->RelV x v->r x H Q ->
  wpAny (model X.prog X.w) X.A (f v) (EP X J5 σ Q) X.xe s
def eQ(X:Cx)(f:Value)(r:List V->Hp->VK->Prop):Prop :=
 ∀(J5:Zd) (s:Shared) (σ:St) (H:Hp) (xs:List V) (us:Zf) (Q:VK),Inv X J5 σ H s->bj xs us->r xs H Q ->
  wpAny (model X.prog X.w) X.A (call f us) (EP X J5 σ Q) X.xe s
def aq(r:R2)(ta tb:TE):TE:=fun σ H Q=>ta σ H fun x H1=>tb σ H1 fun y H2=>r x y H2 Q
def Ju(r:V->Hp->VK->Prop)(ta:TE):TE:=fun σ H Q=>ta σ H fun x H1=>r x H1 Q
def rI(C:Int->Int->Prop)(g:Int->Int->V):R2:=fun x y H Q=>∃i j,x=.int i/\y=.int j/\C i j/\Q (g i j) H
def De(g:Int->Int->V):R2:=fun x y H Q=>∃i j,x=.int i/\y=.int j/\Q (g i j) H
def rU(g:Int->V):V->Hp->VK->Prop:=fun x H Q=>∃i,x=.int i/\Q (g i) H
section
variable{X:Cx}{a b c:Expr}{ta tb tc:TE}{pos:Pos}
theorem KN(n:PE X a ta)(o:PE X b tb){k:Zd}{s:Shared}{σ:St}{H:Hp}{R:V->V->Hp->Prop}(I:Inv X k σ H s)
  (h:ta σ H fun x m=>tb σ m fun y g=>R x y g) {Q:Zc}{f:Value->Value->Sem Value}
  (hf:∀v u l x y g,Inv X k σ g l->RelV x v->RelV y u->R x y g->wpAny (model X.prog X.w) X.A (f v u) Q X.xe l) :
  wpAny (model X.prog X.w) X.A (eval a X.env) (fun v i=>wpAny (model X.prog X.w) X.A (eval b X.env) (fun u j=>wpAny (model X.prog X.w) X.A (f v u) Q X.xe j) X.xe i) X.xe s:=by
 refine cR (n k s σ H _ I h) fun v p e=>?_;obtain⟨x,m,q,r,t⟩:=e;refine cR (o k p σ m _ q t) fun u l e=>?_;obtain⟨y,g,z,B,C⟩:=e;exact hf v u l x y g z r B C
theorem aG{e:Operator}{r:R2}(f:kN X (iP e) r)(g:PE X a ta)(i:PE X b tb):PE X (.BinOp a e b pos) (aq r ta tb):=by
 intro j s σ H Q I h;exact wpAny_BinOp (KN g i I h fun v u k x y l m n o q=>f j k σ l x y v u Q m n o q)
theorem v3{e:UnaryOp}{r:V->Hp->VK->Prop}(g:UnR X (unaryOp e) r)(i:PE X a ta):PE X (.UnaryOp e a pos) (Ju r ta):=by
 intro f s σ H Q I h;exact UnaryOp_ (cR (i f s σ H _ I h) fun v j ⟨x,k,l,m,n⟩=>g f j σ k x v Q l m n)
theorem L_{f:Value->Value->Sem Value}{C:Int->Int->Prop}{g:Int->Int->Int}
  (rule:∀(i j:Int) (t u:Tok) (s:Shared) (Q:Zc) (E:Zc),C i j->Q (.int (g i j) s.toks) { s with toks:=s.toks+1 }->wpAny (model X.prog X.w) X.A (f (.int i t) (.int j u)) Q E s) :
  kN X f (rI C fun i j=>.int (g i j)):=by
 intro n s σ H x y v u Q I e k h;obtain⟨i,j,rfl,rfl,l,q⟩:=h;obtain⟨t,rfl⟩:=e;obtain⟨m,rfl⟩:=k;exact rule i j t m s _ _ l ⟨.int (g i j),H,I.tok _,⟨_,rfl⟩,q⟩
theorem Lp{f:Value->Value->Sem Value}{g:Int->Int->Int}
  (rule:∀(i j:Int) (t u:Tok) (s:Shared) (Q:Zc) (E:Zc),Q (.int (g i j) s.toks) { s with toks:=s.toks+1 }->wpAny (model X.prog X.w) X.A (f (.int i t) (.int j u)) Q E s) :
  kN X f (De fun i j=>.int (g i j)):=by
 intro m s σ H x y v u Q I e k h;obtain⟨i,j,rfl,rfl,q⟩:=h;obtain⟨t,rfl⟩:=e;obtain⟨l,rfl⟩:=k;exact rule i j t l s _ _ ⟨.int (g i j),H,I.tok _,⟨_,rfl⟩,q⟩
theorem IU{f:Value->Value->Sem Value}{g:Int->Int->Bool}
  (rule:∀(i j:Int) (t u:Tok) (s:Shared) (Q:Zc) (E:Zc),Q (.bool (g i j)) s->wpAny (model X.prog X.w) X.A (f (.int i t) (.int j u)) Q E s) :
  kN X f (De fun i j=>.bl (g i j)):=by
 intro m s σ H x y v u Q I e k h;obtain⟨i,j,rfl,rfl,q⟩:=h;obtain⟨t,rfl⟩:=e;obtain⟨l,rfl⟩:=k;exact rule i j t l s _ _ ⟨.bl (g i j),H,I,rfl,q⟩
def LU(i j:Int):Prop:=0<j/\j<1073741824
def LS(i j:Int):Prop:=0<=j/\j<=1000000/\i.natAbs<2 ^ 64
def HR(i j:Int):Prop:=(-(2 ^ 64)<i/\i<2 ^ 64)∨(-(2 ^ 64)<j/\j<2 ^ 64)
theorem HR.ok{i j:Int}(h:HR i j):IntMulOk i j:=by
 rcases h with⟨e,f⟩|⟨e,f⟩
 ·exact .of_left (intBits_le_64 e f)
 ·exact .of_right (intBits_le_64 e f)
theorem bV:kN X (iP .Add) (De fun i j=>.int (i+j)):=Lp fun _ _ _ _ _ _ _ q=>add_int q
theorem kG:kN X (iP .Sub) (De fun i j=>.int (i-j)):=Lp fun _ _ _ _ _ _ _ q=>sub_int q
theorem im:kN X (iP .Mult) (rI HR fun i j=>.int (i * j)):=L_ fun _ _ _ _ _ _ _ e q=>mul_int q e.ok
theorem pF:kN X (iP .FloorDiv) (rI LU fun i j=>.int (i / j)):=L_ fun i j _ _ _ _ _ e q=>by
 have f:(0:Int)<j:=e.1;have g:j<1073741824:=e.2;exact floordiv_int (by omega) (by rw[Int.fdiv_eq_ediv_of_nonneg i (by omega)];exact q) (.inl (PyProof.noPylong_small (by omega)))
theorem gp:kN X (iP .Mod) (rI (fun _ j=>0<j) fun i j=>.int (i % j)):=L_ fun i j _ _ _ _ _ e q=>by
 have f:(0:Int)<j:=e;exact mod_int' (by omega) (by rw[Int.fmod_eq_emod_of_nonneg i (by omega)];exact q)
theorem GO:kN X (iP .Pow) (rI LS fun i j=>.int (i ^ j.toNat)):=L_ fun _ _ _ _ _ _ _ e q=>pow_int_small e.1 e.2.1 e.2.2 q
theorem unI{f:Value->Sem Value}{g:Int->Int}
  (rule:∀(i:Int) (t:Tok) (s:Shared) (Q:Zc) (E:Zc),Q (.int (g i) s.toks) { s with toks:=s.toks+1 }->wpAny (model X.prog X.w) X.A (f (.int i t)) Q E s) :
  UnR X f (rU fun i=>.int (g i)):=by
 intro j s σ H x v Q I e h;obtain⟨i,rfl,q⟩:=h;obtain⟨t,rfl⟩:=e;exact rule i t s _ _ ⟨.int (g i),H,I.tok _,⟨_,rfl⟩,q⟩
theorem qG:UnR X (unaryOp .USub) (rU fun i=>.int (-i)):=unI fun _ _ _ _ _ q=>neg_int q
end
def Lf:V->V->Bool
 |.non,.non=>true | .non,.int _=>true | .int _,.non=>true | .non,.bl _=>true | .bl _,.non=>true | .non,.str _=>true | .str _,.non=>true
 |.int _,.int _=>true | .bl _,.bl _=>true | .str _,.str _=>true | .byt _,.byt _=>true
 |.int _,.str _=>true | .str _,.int _=>true | .bl _,.str _=>true | .str _,.bl _=>true
 |_,_=>false
def iL:R2:=fun x y H Q=>Lf x y=true/\Q (.bl (decide (x=y))) H
def Lj:R2:=fun x y H Q=>Lf x y=true/\Q (.bl (!decide (x=y))) H
theorem DJ{i j:Int}:decide (V.int i=V.int j)=(i==j):=by
 rw[vE];simp
theorem Hs{i j:Bool}:decide (V.bl i=V.bl j)=(i==j):=by
 rw[vE];simp
theorem dec_str{i j:Str}:decide (V.str i=V.str j)=(i==j):=by
 rw[vE];simp
theorem DK{i j:Array UInt8}:decide (V.byt i=V.byt j)=(i.toList==j.toList):=by
 rw[vE];cases i;cases j;simp
section
variable{X:Cx}{a b c:Expr}{ta tb tc:TE}{pos:Pos}
theorem bS{f:Zd}{σ:St}{H:Hp}{s:Shared}{Q:VK}{k g:Bool}(I:Inv X f σ H s)(q:Q (.bl k) H)(e:k=g):EP X f σ Q (.bool g) s:=by
 subst e;exact⟨.bl k,H,I,rfl,q⟩
theorem cr:kN X (eJ .Eq) iL:=by
 intro l s σ H x y v u Q I k e h;obtain⟨g,q⟩:=h;cases x with
 |non =>
  cases k;cases y with
  |non=>cases e;exact PySem.EqNone.eq_none_none (bS I q (by simp))
  |bl j=>cases e;exact PySem.EqNone.eq_none_bool (bS I q (by simp))
  |int j=>obtain⟨f,rfl⟩:=e;exact PySem.EqNone.eq_none_int (bS I q (by simp))
  |str j=>obtain⟨f,rfl⟩:=e;exact PySem.EqNone.eq_none_str (bS I q (by simp))
  |_=>exact absurd (show false=true from g) iO
 |bl i =>
  cases k;cases y with
  |non=>cases e;exact PySem.EqNone.eq_bool_none (bS I q (by simp))
  |bl j=>cases e;exact eq_bool (bS I q Hs)
  |str j=>obtain⟨f,rfl⟩:=e;exact PySem.EqMixed.eq_bool_str (bS I q (by simp))
  |_=>exact absurd (show false=true from g) iO
 |int i =>
  obtain⟨t,rfl⟩:=k;cases y with
  |non=>cases e;exact PySem.EqNone.eq_int_none (bS I q (by simp))
  |int j=>obtain⟨f,rfl⟩:=e;exact eq_int (bS I q DJ)
  |str j=>obtain⟨f,rfl⟩:=e;exact PySem.EqMixed.eq_int_str (bS I q (by simp))
  |_=>exact absurd (show false=true from g) iO
 |str i =>
  obtain⟨t,rfl⟩:=k;cases y with
  |non=>cases e;exact PySem.EqNone.eq_str_none (bS I q (by simp))
  |bl j=>cases e;exact PySem.EqMixed.eq_str_bool (bS I q (by simp))
  |int j=>obtain⟨f,rfl⟩:=e;exact PySem.EqMixed.eq_str_int (bS I q (by simp))
  |str j=>obtain⟨f,rfl⟩:=e;exact eq_str (bS I q dec_str)
  |_=>exact absurd (show false=true from g) iO
 |byt i =>
  obtain⟨t,rfl⟩:=k;cases y with
  |byt j=>obtain⟨f,rfl⟩:=e;exact PySem.W.eq_bytes (bS I q DK)
  |_=>exact absurd (show false=true from g) iO
 |_=>cases y<;>exact absurd (show false=true from g) iO
theorem GP:kN X (eJ .NotEq) Lj:=by
 intro l s σ H x y v u Q I k e h;obtain⟨g,q⟩:=h;cases x with
 |non =>
  cases k;cases y with
  |non=>cases e;exact PySem.EqNone.ne_none_none (bS I q (by simp))
  |bl j=>cases e;exact PySem.EqNone.ne_none_bool (bS I q (by simp))
  |int j=>obtain⟨f,rfl⟩:=e;exact PySem.EqNone.ne_none_int (bS I q (by simp))
  |str j=>obtain⟨f,rfl⟩:=e;exact PySem.EqNone.ne_none_str (bS I q (by simp))
  |_=>exact absurd (show false=true from g) iO
 |bl i =>
  cases k;cases y with
  |non=>cases e;exact PySem.EqNone.ne_bool_none (bS I q (by simp))
  |bl j=>cases e;exact ne_bool (bS I q (congrArg not Hs))
  |str j=>obtain⟨f,rfl⟩:=e;exact PySem.EqMixed.ne_bool_str (bS I q (by simp))
  |_=>exact absurd (show false=true from g) iO
 |int i =>
  obtain⟨t,rfl⟩:=k;cases y with
  |non=>cases e;exact PySem.EqNone.ne_int_none (bS I q (by simp))
  |int j=>obtain⟨f,rfl⟩:=e;exact ne_int (bS I q (congrArg not DJ))
  |str j=>obtain⟨f,rfl⟩:=e;exact PySem.EqMixed.ne_int_str (bS I q (by simp))
  |_=>exact absurd (show false=true from g) iO
 |str i =>
  obtain⟨t,rfl⟩:=k;cases y with
  |non=>cases e;exact PySem.EqNone.ne_str_none (bS I q (by simp))
  |bl j=>cases e;exact PySem.EqMixed.ne_str_bool (bS I q (by simp))
  |int j=>obtain⟨f,rfl⟩:=e;exact PySem.EqMixed.ne_str_int (bS I q (by simp))
  |str j=>obtain⟨f,rfl⟩:=e;exact ne_str (bS I q (congrArg not dec_str))
  |_=>exact absurd (show false=true from g) iO
 |byt i =>
  obtain⟨t,rfl⟩:=k;cases y with
  |byt j=>obtain⟨f,rfl⟩:=e;exact PySem.W.ne_bytes (bS I q (congrArg not DK))
  |_=>exact absurd (show false=true from g) iO
 |_=>cases y<;>exact absurd (show false=true from g) iO
theorem uv:kN X (eJ .Lt) (De fun i j=>.bl (decide (i<j))):=IU fun _ _ _ _ _ _ _ q=>lt_int q
theorem Ln:kN X (eJ .LtE) (De fun i j=>.bl (decide (i<=j))):=IU fun _ _ _ _ _ _ _ q=>le_int q
theorem rN:kN X (eJ .Gt) (De fun i j=>.bl (decide (j<i))):=IU fun _ _ _ _ _ _ _ q=>gt_int q
theorem Lo:kN X (eJ .GtE) (De fun i j=>.bl (decide (j<=i))):=IU fun _ _ _ _ _ _ _ q=>ge_int q
theorem EM:kN X (eJ .In) (fun x y H Q=>∃i j,x=.str i/\y=.str j/\Q (.bl (!(b_.Str.occurrences j i 0 j.length 1).isEmpty)) H):=by
 intro g s σ H x y v u Q I e f h;obtain⟨i,j,rfl,rfl,q⟩:=h;obtain⟨t,rfl⟩:=e;obtain⟨k,rfl⟩:=f;exact in_str (bS I q rfl)
theorem kN.or{f:Value->Value->Sem Value}{r e:R2}(h:kN X f r)(k:kN X f e):kN X f (fun x y H Q=>r x y H Q∨e x y H Q):=by
 intro g s σ H x y v u Q I i j q;rcases q with q|q
 ·exact h g s σ H x y v u Q I i j q
 ·exact k g s σ H x y v u Q I i j q
theorem GR(b:Expr){e:CmpOp}(h:e≠.In:=by decide)(f:e≠.NotIn:=by decide):kY e b=false:=by
 have g:(e==CmpOp.In)=false:=by cases e<;>first|rfl|exact absurd rfl h
 have i:(e==CmpOp.NotIn)=false:=by cases e<;>first|rfl|exact absurd rfl f
 cases b<;>simp[kY,g,i]
theorem Dj{e:CmpOp}{r:R2}(f:kN X (eJ e) r)(g:PE X a ta)(i:PE X b tb)(j:kY e b=false):PE X (.Compare a [e] [b] pos) (aq r ta tb):=by
 intro k s σ H Q I h;exact wpAny_Compare1 (KN g i I h fun v u l x y m n o p q=>f k l σ m x y v u Q n o p q) j
def aV(t:TE):TT:=fun σ H Q=>t σ H fun x H'=>∃k,x=.bl k/\Q k H'
theorem Df{f:CmpOp}{r:R2}(i:kN X (eJ f) r)(j:PE X a ta)(l:PE X b tb)(m:kY f b=false):PT X (.Compare a [f] [b] pos) (aV (aq r ta tb)):=by
 intro g s σ H Q I h;refine wpAny_isTrue_Compare1 (cR (j g s σ H _ I h) fun v n ⟨x,o,p,q,t⟩=>cR (l g n σ o _ p t) fun u w ⟨y,A,B,C,D⟩ =>
  cR (i g w σ A x y v u _ B q C D) fun c M ⟨z,E,G,J,k,e,L⟩=>?_) m
 subst e;cases J;exact mW ⟨E,G,L⟩
theorem qZ:(ai:Nat)<2 ^ 63:=by rw[vD];decide
theorem uw:kN X (iP .Add) (fun x y H Q=>∃i j,x=.str i/\y=.str j/\i.length+j.length<=ai/\Q (.str (i++j)) H):=by
 intro l s σ H x y v u Q I e f h;obtain⟨i,j,rfl,rfl,g,q⟩:=h;obtain⟨t,rfl⟩:=e;obtain⟨k,rfl⟩:=f;exact add_str (fun k tk=>⟨.str (i++j),H,I.tok _,⟨_,rfl⟩,q⟩) g
theorem vals1{x:V}{e:Zf}(r:bj [x] e):∃u,e=[u]/\RelV x u:=by
 cases r with
 |cons f g=>cases g;exact⟨_,rfl,f⟩
theorem vals2{x y:V}{e:Zf}(r:bj [x,y] e):∃u f,e=[u,f]/\RelV x u/\RelV y f:=by
 cases r with
 |cons g h =>
  cases h with
  |cons i j=>cases j;exact⟨_,_,rfl,g,i⟩
theorem Fl:eQ X (.type "int") (fun xs H Q=>(∃i,xs=[.int i]/\Q (.int i) H)∨∃k,xs=[.bl k]/\Q (.int (if k then 1 else 0)) H):=by
 intro f s σ H xs g Q I r h;rcases h with⟨i,rfl,q⟩|⟨k,rfl,q⟩
 ·obtain⟨u,rfl,t,rfl⟩:=vals1 r;exact call_int_int ⟨.int i,H,I,⟨_,rfl⟩,q⟩
 ·obtain⟨u,rfl,e⟩:=vals1 r;cases e;exact call_int_bool ⟨.int (if k then 1 else 0),H,I.tok _,⟨_,rfl⟩,q⟩
end
end L2
namespace L2
open PySem PySem.Spec PyProof.Rows
structure CA(h:Heap)(x dx C:Addr)(mA:Str->Option Value):Prop where
 obj:h.get? x=some (rF C dx)
 ns:h.Ns1 dx mA
 ne:dx≠x
theorem qY{h:Heap}{g:Addr}{i:Str->Option Value}(n:h.Ns1 g i):∃j,h.get? g=some j/\∀name,CL name j=some (i name):=by
 obtain⟨o,k,v,l,m,p,_,r⟩:=n;refine⟨o,l,fun name=>?_⟩;have e:=r name;unfold nsFind findBy at e;rw[<-Array.find?_toList]at e;unfold CL;rw[m];dsimp only;split
 ·rename_i y q;rw[q]at e;exact congrArg some e
 ·rename_i q;rw[q]at e;have a:k.toList.any (·.refKey)=false:=by
   rw[List.any_eq_false];intro y s;obtain⟨z,t,f⟩:=p y (Array.mem_toList_iff.mp s);simp[DictEntry.refKey,f]
  have u:¬k.toList.any (·.refKey)=true:=by rw[a];exact iO
  rw[if_neg u];exact congrArg some e
theorem CA.look{h:Heap}{x e C:Addr}{f:Str->Option Value}(I:CA h x e C f):∃a,PySem.W.InstAt h x (rF C e) C (some a)/\∀name,CL name a=some (f name) :=
 let⟨a,g,i⟩:=qY I.ns
 ⟨a,⟨I.obj,rfl,rfl,g⟩,i⟩
section
variable{prog:bu}{w:World}{A:Around}{E:Zc}{s:Shared}{K:Za}{x dx C f:Addr}{mA:Str->Option Value}{name:Str}{v:Value}
theorem Ja{a:Bool}{Q:Zc}(X:K.In s.heap)(I:CA s.heap x dx C mA)(g:zH K C name=true)(i:CK K C=true)
  (j:az K (.ref C) name=some none) (k:mA name=some v) (e:PySem.W.handedIn v=true) (h:Q v { s with toks:=s.toks+1 }) :
  wpAny (model prog w) A (zG (.ref x) name a) Q E s:=by
 obtain⟨m,J,l⟩:=I.look;exact PySem.W.get_value X J (PySem.W.plainGet_of g).1 (PySem.W.findObj_own i j rfl (by rw[l,k])) e h
theorem Hi{e:Sem Bool}{Q:Value×List Value->Shared->Prop}(X:K.In s.heap)(I:CA s.heap x dx C mA)(a:zH K C name=true)
  (hf:az K (.ref C) name=some (some (.ref f))) (g:rC K (.ref f)=true) (i:mA name=none) (h:Q (.ref f,[.ref x]) s) :
  wpAny (model prog w) A (oJ (.ref x) name e) Q E s:=by
 obtain⟨j,J,k⟩:=I.look;exact PySem.W.method_fn X J (PySem.W.plainGet_of a).1 (PySem.W.plainGet_of a).2 hf (beq_iff_eq.mp g) (by show(CL name j).map (·.isSome)=some false;rw[k,i];rfl) h
theorem Ix{n:Zb}{Q:Unit->Shared->Prop}(X:K.In s.heap)(I:CA s.heap x dx C mA)
  (o:az K (.ref C) "__setattr__"=some (some (.builtin "object.__setattr__"))) (p:PySem.W.plainOver K C=true) (q:PySem.W.takerIn K C name=some none) (t:CK K C=true)
  (u:zK mA n) (z:n.length<=ai)
  (h:∀i,CA i x dx C (fun y=>if y=name then some v else mA y)->jE dx s.heap i->Q () { s with heap:=i,toks:=s.toks+2 }) :
  wpAny (model prog w) A (setAttr (.ref x) name v) Q E s:=by
 obtain⟨H,J,L⟩:=I.look;refine PySem.W.set_plain X J o (PySem.W.osa_open (s:={ s with toks:=s.toks+1 }) (r:=none) X J p q fun b=>?_);obtain⟨cd,B,j⟩:=PySem.W.any_some t;have hx:s.heap.get? x=some ⟨.ref C,some dx,.plain,#[]⟩:=I.obj;refine ak (ap (ak (ak (CJ hx (ak (PySem.W.Looks.here (s:={ s with toks:=s.toks+1 }) (PySem.W.looks_clsIn X B) ?_))))));rw[j];refine ap (a:=some dx) (ak (ap (ak ?_)));refine wpAny_nsSet1 (s:={ s with toks:=s.toks+1 }) I.ns fun i e g=>?_;obtain⟨M,D,G,k,l,m⟩:=e.count (zK.cons name v u);refine ak (wpAny_lookBehind k (by rw[l];exact pastItsLine_dict (bo m (by rw[dD];omega))) ?_);exact ap (h _ ⟨(g.2 _ (dJ I.ne)).trans I.obj,e,I.ne⟩ g)
theorem GX{R:Result->Shared->Prop}{a:Zf}{e:List (Str×Value)}(X:K.In s.heap)(i:zF K C=true)
  (hi:az K (.ref C) "__init__"=some (some (.ref f))) (hf:PySem.W.typeIn K (.ref f)=some (.type "function"))
  (h:zzl87 (model prog w) (A.under (.builtin "type.__call__" ⟨.ref C::a,e⟩)) (.call (.ref f) ⟨.ref (s.heap.objs.size+1)::a,e⟩) (PySem.W.InitBack (s.heap.objs.size+1) R)
   { s with heap:=(s.heap.push oH).push (rF C s.heap.objs.size) }) :
  zzl87 (model prog w) A (.call (.ref C) ⟨a,e⟩) R s:=by
 obtain⟨j,g,d,t,os⟩:=s;exact PySem.W.make_core (PySem.W.makes_of X i) (PySem.W.looks_findIn X hi) (fun self=>PySem.W.bind_fn X self hf) (.inl rfl) h
end
def dC(f:Str)(v:V):List (Str×V)->List (Str×V)
 |[]=>[(f,v)]
 | (g,x)::r=>if g=f then(g,v)::r else(g,x)::dC f v r
theorem e_(f g:Str)(v:V):∀fs:List (Str×V),(dC f v fs).lookup g=if g=f then some v else fs.lookup g
 |[]=>by
  show iN g [(f,v)]=_;by_cases h:g=f
  ·have a:(g==f)=true:=beq_iff_eq.mpr h;simp only[iN,a,if_pos h]
  ·have a:(g==f)=false:=beq_eq_false_iff_ne.mpr h;simp only[iN,a,if_neg h]
 | (k,x)::r=>by
  have j:=e_ f g v r;rw[show dC f v ((k,x)::r)=(if k=f then(k,v)::r else(k,x)::dC f v r)from rfl]
  by_cases i:k=f
  ·rw[if_pos i];by_cases h:g=k
   ·have a:(g==k)=true:=beq_iff_eq.mpr h;simp only[iN,a,if_pos (h.trans i)]
   ·have a:(g==k)=false:=beq_eq_false_iff_ne.mpr h;simp only[iN,a,if_neg (fun e:g=f=>h (e.trans i.symm))]
  ·rw[if_neg i];by_cases h:g=k
   ·have a:(g==k)=true:=beq_iff_eq.mpr h;simp only[iN,a,if_neg (fun e:g=f=>i (h.symm.trans e))]
   ·have a:(g==k)=false:=beq_eq_false_iff_ne.mpr h;simp only[iN,a];exact j
theorem rc(f:Str)(v:V):∀fs:List (Str×V),f∈(dC f v fs).map (·.1)/\∀g,g∈fs.map (·.1)->g∈(dC f v fs).map (·.1)
 |[]=>⟨by simp[dC],fun g h=>by simp at h⟩
 | (k,x)::r=>by
  obtain⟨i,j⟩:=rc f v r;rw[show dC f v ((k,x)::r)=(if k=f then(k,v)::r else(k,x)::dC f v r)from rfl]
  by_cases a:k=f
  ·rw[if_pos a];subst a;exact⟨by simp,fun g h=>by simpa using h⟩
  ·rw[if_neg a];refine⟨?_,fun g h=>?_⟩
   ·rw[cw];exact eK _ i
   ·rw[cw]at h ⊢;rcases cz.mp h with e|e
    ·exact cz.mpr (.inl e)
    ·exact eK _ (j g e)
theorem rQ(f:Str)(v:V):∀fs:List (Str×V),(dC f v fs).length<=fs.length+1
 |[]=>by simp[dC]
 | (k,x)::r=>by
  have e:=rQ f v r;rw[show dC f v ((k,x)::r)=(if k=f then(k,v)::r else(k,x)::dC f v r)from rfl]
  by_cases a:k=f
  ·rw[if_pos a,dD,dD];omega
  ·rw[if_neg a,dD,dD];omega
theorem i7.some_of{v:V}{o:Option Value}(r:i7 (some v) o):∃u,o=some u/\RelV v u:=by
 cases o with
 |none=>exact(show False from r).elim
 |some u=>exact⟨u,rfl,r⟩
theorem i7.none_of{o:Option Value}(r:i7 none o):o=none:=by
 cases o with
 |none=>rfl
 |some u=>exact(show False from r).elim
theorem wu{v:V}{u:Value}(r:RelV v u):PySem.W.handedIn u=true:=by
 cases v with
 |non=>cases(show u=Value.none from r);rfl
 |bl b=>cases(show u=Value.bool b from r);rfl
 |int i=>obtain⟨t,e⟩:=(show ∃t,u=Value.int i t from r);cases e;rfl
 |str x=>obtain⟨t,e⟩:=(show ∃t,u=Value.str x t from r);cases e;rfl
 |byt b=>obtain⟨t,e⟩:=(show ∃t,u=Value.bytes b t from r);cases e;rfl
 |flt b=>obtain⟨t,e⟩:=(show ∃t,u=Value.float b t from r);cases e;rfl
 |ref a=>cases(show u=Value.ref a from r);rfl
 |ty n=>cases(show u=Value.type n from r);rfl
section
variable{P:bu}{w:World}{H H':Hp}{h h':Heap}{a C dx:Addr}{fs fs':List (Str×V)}
theorem sR{K:Za}(i:k_ P w K H h)(e:H a=some (.ins C dx fs)):∃g,CA h a dx C g/\(∀f,i7 (fs.lookup f) (g f))/\zK g (fs.map (·.1))/\fs.length<=1000/\H dx=some (.own a):=by
 obtain⟨d,z,ne,j,g,n,r,q⟩:=(show cF P w K H h a (.ins C dx fs)from i a _ e);exact⟨g,⟨j,n,ne⟩,r,q,z,d⟩
end
structure Fu(K:Za)(C:Addr):Prop where
 pg:zH K C Str.empty=true
 hd:CK K C=true
 po:PySem.W.plainOver K C=true
 sa:az K (.ref C) "__setattr__"=some (some (.builtin "object.__setattr__"))
theorem Fu.get{K:Za}{C:Addr}(c:Fu K C)(f:Str):zH K C f=true:=c.pg
def bZ(K:Za)(C:Addr)(f:Str):Prop:=az K (.ref C) f=some none
theorem bZ.taker{K:Za}{C:Addr}{f:Str}(n:bZ K C f):PySem.W.takerIn K C f=some none:=by
 unfold PySem.W.takerIn;rw[show az K (.ref C) f=some none from n]
 rfl
structure Jq(K:Za)(C:Addr)(m:Str)(f:Addr):Prop where
 at_:az K (.ref C) m=some (some (.ref f))
 fn:rC K (.ref f)=true
 kp:cU K (.ref f)=true
section
variable{X:Cx}{J5:Zd}{σ:St}{H:Hp}{s:Shared}{a C dx:Addr}{fs:List (Str×V)}{f:Str}{v:V}{A:Around}{E:Zc}
theorem Ci{b:Bool}{Q:Zc}(I:Inv X J5 σ H s)(e:H a=some (.ins C dx fs))(c:Fu X.K C)(n:bZ X.K C f)(l:fs.lookup f=some v)
  (h:∀u g,Inv X J5 σ H g->RelV v u->Q u g):wpAny (model X.prog X.w) A (zG (.ref a) f b) Q E s:=by
 obtain⟨j,O,r,_,_,_⟩:=sR I.hok e;obtain⟨u,k,i⟩:=i7.some_of (v:=v) (o:=j f) (by rw[<-l];exact r f);exact Ja I.kIn O (c.get f) c.hd n k (wu i) (h u _ (I.tok _) i)
theorem uF{m:Str}{g:Addr}{i:Sem Bool}{Q:Value×List Value->Shared->Prop}(I:Inv X J5 σ H s)(e:H a=some (.ins C dx fs))(c:Fu X.K C)(k:Jq X.K C m g)(l:fs.lookup m=none)
  (h:Q (.ref g,[.ref a]) s):wpAny (model X.prog X.w) A (oJ (.ref a) m i) Q E s:=by
 obtain⟨j,O,r,_,_,_⟩:=sR I.hok e;have n:j m=none:=i7.none_of (by rw[<-l];exact r m);exact Hi I.kIn O (c.get m) k.at_ k.fn n h
theorem BK{y:V}{u:Value}{Q:Unit->Shared->Prop}(I:Inv X J5 σ H s)(e:H a=some (.ins C dx fs))(c:Fu X.K C)(n:bZ X.K C f)(N:fs.length<1000)(p:RelV y u)
  (h:∀j,Inv X J5 σ (upd H a (.ins C dx (dC f y fs))) j->Q () j):wpAny (model X.prog X.w) A (setAttr (.ref a) f u) Q E s:=by
 obtain⟨k,O,r,l,_,m⟩:=sR I.hok e;have t:(fs.map (·.1)).length<=ai:=by rw[ao,vD];omega
 refine Ix I.kIn O c.sa c.po n.taker c.hd l t fun B i D=>h _ ?_;have G:∃o,B.get? dx=some o:=let⟨o,_,_,J,_⟩:=i.ns;⟨o,J⟩;refine I.write (x:=a) (e:=dx) (by rw[e];exact g8) (.inr m) (fun b q L z=>(D.2 b L).trans z) G ?_;refine⟨by rw[am O.ne];exact m,?_,O.ne,i.obj,_,i.ns,fun g=>?_,fun g M=>?_⟩
 ·have:=rQ f y fs;omega
 ·show i7 ((dC f y fs).lookup g) (if g=f then some u else k g)
  rw[e_];by_cases q:g=f
  ·rw[if_pos q,if_pos q];exact p
  ·rw[if_neg q,if_neg q];exact r g
 ·by_cases q:g=f
  ·rw[q];exact(rc f y fs).1
  ·refine(rc f y fs).2 g (l g fun z=>M ?_);show(if g=f then some u else k g)=none
   rw[if_neg q];exact z
theorem Inv.made(I:Inv X J5 σ H s):Inv X J5 σ (upd (upd H s.heap.objs.size (.own (s.heap.objs.size+1))) (s.heap.objs.size+1) (.ins C s.heap.objs.size []))
  { s with heap:=(s.heap.push oH).push (rF C s.heap.objs.size) }:=by
 have g:(s.heap.push oH).get? s.heap.objs.size=some oH:=db s.heap rfl;have h:((s.heap.push oH).push (rF C s.heap.objs.size)).get? (s.heap.objs.size+1)=some (rF C s.heap.objs.size):=by
  have:=db (s.heap.push oH) (o:=rF C s.heap.objs.size) rfl;rwa[kW]at this
 have i:(s.heap.push oH).Ns s.heap.objs.size (fun _=>none):=⟨oH,#[],_,g,rfl,(fun e j=>absurd j (by simp)),fun _=>rfl⟩;have k:=I.laid (a:=s.heap.objs.size) (o:=.own (s.heap.objs.size+1)) (h':=s.heap.push oH) (t':=s.toks) (fun b u q=>bc _ q) (ay _) ⟨_,g⟩;refine k.laid (a:=s.heap.objs.size+1) (o:=.ins C s.heap.objs.size []) (t':=s.toks) (fun b u q=>bc _ q) (Nat.le_of_eq (kW _ _)) ?_;have ne:s.heap.objs.size≠s.heap.objs.size+1:=bX (Nat.lt_succ_self _);refine⟨by rw[am ne,aa],cp _,ne,h,fun _=>none,(Heap.Ns1.of_empty i).at fun o q=>bc _ q,fun _=>g8,fun y l=>absurd rfl l⟩
theorem DQ{g:bu}{w:World}{i:Env}{e:Expr}{f:Str}{k:Pos}{s:Shared}{Q:Zc}(l:vC e f i (eval e i)=eval e i)
  (h:wpAny (model g w) A (eval e i) (fun o j=>wpAny (model g w) A (zG o f true) Q E j) E s):wpAny (model g w) A (eval (.Attribute e f k) i) Q E s :=
 Attribute_any_ h (by rw[arm_eval_Attribute,l])
end
def xZ(K:Za)(ta:TE)(f:Str):TE:=fun σ H Q=>ta σ H fun x H1=>∃a C dx fs v,x=.ref a/\H1 a=some (.ins C dx fs)/\Fu K C/\bZ K C f/\fs.lookup f=some v/\Q v H1
def yu(K:Za)(ta tv:TE)(f:Str):TS:=fun D σ H=>tv σ H fun y H1=>ta σ H1 fun x H2=>∃a C dx fs,x=.ref a/\H2 a=some (.ins C dx fs)/\Fu K C/\bZ K C f/\fs.length<1000 /\
 D.nx σ (upd H2 a (.ins C dx (dC f y fs)))
section
variable{X:Cx}{o e value:Expr}{f:Str}{pos pos' J9:Pos}{ta tv:TE}
theorem lO(i:PE X e ta)(j:vC e f X.env (eval e X.env)=eval e X.env):PE X (.Attribute e f pos) (xZ X.K ta f):=by
 intro k s σ H Q I h;refine DQ j (cR (i k s σ H _ I h) fun u z g=>?_);obtain⟨x,m,p,r,a,C,A,fs,v,ex,t,c,n,l,q⟩:=g;subst ex;obtain rfl:u=Value.ref a:=r;exact Ci p t c n l fun B D w y=>⟨v,m,w,y,q⟩
theorem lL(j:PE X o ta)(k:PE X value tv)(m:mT value (some (.Attribute o f pos')) pos.line X.env=pure false):PS X (.Assign [.Attribute o f pos'] value pos) (yu X.K ta tv f):=by
 intro i s σ H D I h;refine plainObj_wpAny_Assign_Attribute (cR (k i s σ H _ I h) fun u p ⟨y,r,t,v,q⟩=>cR (j i p σ r _ t q) fun w J g=>?_) m;obtain⟨x,L,z,A,a,C,M,fs,ex,B,c,n,l,E⟩:=g;subst ex;obtain rfl:w=Value.ref a:=A;exact BK z B c n l v fun N G=>⟨σ,_,G,E⟩
end
section
variable{X:Cx}{J5:Zd}{σ:St}{H:Hp}{s:Shared}{A:Around}{E:Zc}{Q:Zc}{c:Value}{b:Bool}
inductive jW(K:Za)(H:Hp):V->Value->Prop where
 |non:jW K H .non (.type "NoneType")
 |bl (x:Bool):jW K H (.bl x) (.type "bool")
 |int (i:Int):jW K H (.int i) (.type "int")
 |str (x:Str):jW K H (.str x) (.type "str")
 |flt (x:UInt64):jW K H (.flt x) (.type "float")
 |lst {a:Addr}{xs:List V}(e:H a=some (.lst xs)):jW K H (.ref a) (.type "list")
 |frz {a:Addr}{o:Obj}{xs:List V}(e:H a=some (.frz o (.lst xs))):jW K H (.ref a) (.type "list")
 |tup {a:Addr}{xs:List V}(e:H a=some (.tup xs)):jW K H (.ref a) (.type "tuple")
 |dK {a:Addr}{kvs:List (fA×V)}(e:H a=some (.dK kvs)):jW K H (.ref a) (.type "dict")
 |dT {a:Addr}{kvs:List (TK×V)}(e:H a=some (.dT kvs)):jW K H (.ref a) (.type "dict")
 |ins {a C dx:Addr}{fs:List (Str×V)}(e:H a=some (.ins C dx fs)) (cl:Fu K C) (ha:az K (.ref C) "__class__"=some (some (.builtin "object.__class__")))
   (hn:CI K (.builtin "object.__class__") "__get__"=some (some (.builtin "getset_descriptor.__get__"))) (htk:PySem.W.takesIn K (.builtin "object.__class__")=some true)
   (hm:PySem.W.mroIn K C (.type "object")=some true):jW K H (.ref a) (.ref C)
theorem ES{x:V}{u t:Value}(I:Inv X J5 σ H s)(f:RelV x u)(ty:jW X.K H x t)(e:mS X.K t c=some b)(h:∀tk,Q (.bool b) { s with toks:=tk }):
  wpAny (model X.prog X.w) A (call (.builtin "isinstance") [u,c]) Q E s:=by
 cases ty with
 |non=>cases(show u=Value.none from f);exact je PySem.W.kitx_none I.kIn g8 e (fun z=>nomatch z) h
 |bl y=>cases(show u=Value.bool y from f);exact je PySem.W.kitx_bool I.kIn g8 e (fun z=>nomatch z) h
 |int i=>obtain⟨t,q⟩:=(show ∃t,u=Value.int i t from f);cases q;exact je PySem.W.kitx_int I.kIn g8 e (fun z=>nomatch z) h
 |str y=>obtain⟨t,q⟩:=(show ∃t,u=Value.str y t from f);cases q;exact je PySem.W.kitx_str I.kIn g8 e (fun z=>nomatch z) h
 |flt y=>obtain⟨t,q⟩:=(show ∃t,u=Value.float y t from f);cases q;exact je PySem.W.kitx_float I.kIn g8 e (fun z=>nomatch z) h
 |@lst a xs g =>
  cases(show u=Value.ref a from f);obtain⟨_,_,n,_,j⟩:=(show cF X.prog X.w X.K H s.heap a (.lst xs)from I.hok a _ g);exact je PySem.W.kitx_list I.kIn ⟨_,j,rfl⟩ e (fun z=>nomatch z) h
 |@frz a v xs g =>
  cases(show u=Value.ref a from f);obtain⟨_,_,_,n,_,j⟩:=(show cF X.prog X.w X.K H s.heap a (.frz v (.lst xs))from I.hok a _ g);exact je PySem.W.kitx_list I.kIn ⟨_,j,rfl⟩ e (fun z=>nomatch z) h
 |@tup a xs g =>
  cases(show u=Value.ref a from f);obtain⟨_,_,_,p⟩:=(show cF X.prog X.w X.K H s.heap a (.tup xs)from I.hok a _ g);obtain⟨o,j,l,_⟩:=p;exact je PySem.W.kitx_tuple I.kIn ⟨o,j,l⟩ e (fun z=>nomatch z) h
 |@dK a k g =>
  cases(show u=Value.ref a from f);obtain⟨_,_,N,_,p⟩:=(show cF X.prog X.w X.K H s.heap a (.dK k)from I.hok a _ g);obtain⟨o,B,D,j,l,_⟩:=p;exact je PySem.W.kitx_dict I.kIn ⟨o,j,l.1⟩ e (fun z=>nomatch z) h
 |@dT a k g =>
  cases(show u=Value.ref a from f);obtain⟨_,_,xs,_,o,B,D,j,l,_⟩:=(show cF X.prog X.w X.K H s.heap a (.dT k)from I.hok a _ g);exact je PySem.W.kitx_dict I.kIn ⟨o,j,l.1⟩ e (fun z=>nomatch z) h
 |@ins a C T fs g r G L m M =>
  cases(show u=Value.ref a from f);obtain⟨U,O,_⟩:=sR I.hok g;obtain⟨Y,J,_⟩:=O.look;exact je (PySem.W.kitx_own (r.get _) r.hd G L m M) I.kIn J e (fun z=>nomatch z) h
end
end L2
namespace L2
open PySem PySem.Spec PyProof.Rows
structure dU(k:Nat)(A:Around):Prop where
 hd:A.handled=none
 dp:A.depth+3 * k+5<recursionLimit
 un:A.units+16 * k+200<cLine
theorem dU.mono{j k:Nat}{A:Around}(r:dU k A)(h:j<=k):dU j A:=⟨r.hd,by have:=r.dp;omega,by have:=r.un;omega⟩
theorem dU.deeper{k:Nat}{A:Around}(r:dU (k+1) A)(a:Env):dU k (A.deeper a) :=
 ⟨r.hd,by have:=r.dp;show A.depth+1+3 * k+5<_;omega,by have:=r.un;show A.units+3+16 * k+200<_;omega⟩
theorem B9{A:Around}{C:Addr}{a:Zf}{e:List (Str×Value)}:(A.under (.builtin "type.__call__" ⟨.ref C::a,e⟩)).depth=A.depth+1:=by
 first|rfl|simp[Around.under,Code.weight,Code.isCreation,Code.isGuard,Code.isCaller,Code.frames,Code.isFrame,guardIds]
theorem B8{A:Around}{C:Addr}{a:Zf}{e:List (Str×Value)}:(A.under (.builtin "type.__call__" ⟨.ref C::a,e⟩)).units=A.units+1:=by
 first|rfl|simp[Around.under,Code.cUnits,Code.frames,Code.isFrame]
theorem dU.make{k:Nat}{A:Around}(r:dU (k+1) A)(C:Addr)(a:Zf)(e:List (Str×Value)):dU k (A.under (.builtin "type.__call__" ⟨.ref C::a,e⟩)) :=
 ⟨r.hd,by have:=r.dp;rw[B9];omega,by have:=r.un;rw[B8];omega⟩
theorem dU.depth{k:Nat}{A:Around}(r:dU k A):A.depth<recursionLimit:=by have:=r.dp;omega
theorem dU.units{k:Nat}{A:Around}(r:dU k A):A.units+64<cLine:=by have:=r.un;omega
def aU:TA:=fun _ H Q=>Q [] H
def aj(ta:TE)(tr:TA):TA:=fun σ H Q=>ta σ H fun x H1=>tr σ H1 fun xs H2=>Q (x::xs) H2
abbrev au(a:TE):TA:=aj a aU
abbrev aE(a b:TE):TA:=aj a (aj b aU)
abbrev cq(a b c:TE):TA:=aj a (aj b (aj c aU))
section
variable{X:Cx}{e:Expr}{es:List Expr}{te:TE}{t:TA}{pos:Pos}
theorem cE:PA X [] aU:=fun _ _ _ _ H Q I h=>Calls.spliced_nil ⟨[],H,I,.nil,h⟩
theorem a_(g:PE X e te)(i:PA X es t)(j:aA (e::es) X.env=(false,eval e X.env)::aA es X.env:=by rfl):PA X (e::es) (aj te t):=by
 intro pos f s σ H Q I h;rw[j];show wpAny _ _ (spliced ((false,eval e X.env)::backTo pos (aA es X.env))) _ _ s;refine Calls.spliced_cons (cR (g f s σ H _ I h) fun u k a=>?_);obtain⟨x,l,m,n,o⟩:=a;exact cR (i pos f k σ l _ m o) fun w y ⟨xs,p,q,r,v⟩=>⟨x::xs,p,q,.cons n r,v⟩
def aW(t:TA):TE:=fun σ H Q=>t σ H fun xs H1=>xs.length<=ai/\∀p,H1 p=none->Q (.ref p) (upd H1 p (.tup xs))
def bW(t:TA):TE:=fun σ H Q=>t σ H fun xs H1=>xs.length<=ai/\∀p,H1 p=none->Q (.ref p) (upd H1 p (.lst xs))
theorem aD{i}(h:PA X es t):PE X (.Tuple es i pos) (aW t):=by
 intro j s σ H Q I k;refine wpAny_Tuple_spliced (cR (h pos j s σ H _ I k) fun l a ⟨xs,f,g,r,z,q⟩=>⟨by rw[<-r.length];exact z,?_⟩);have hf:f a.heap.objs.size=none:=g.hok.fresh (ay _);refine⟨.ref a.heap.objs.size,upd f a.heap.objs.size (.tup xs),g.laid (t':=a.toks) (fun b u e=>bc _ e) (ay _) ?_,rfl,q _ hf⟩;exact⟨z,l,r,⟨_,db _ rfl,rfl,_,rfl⟩⟩
theorem bb(h:PA X es t):PE X (.List es pos) (bW t):=by
 intro i s σ H Q I j;refine wpAny_List_spliced (cR (h pos i s σ H _ I j) fun k a ⟨xs,f,g,r,z,q⟩=>⟨by rw[<-r.length];exact z,?_⟩);have hf:f a.heap.objs.size=none:=g.hok.fresh (ay _);refine⟨.ref a.heap.objs.size,upd f a.heap.objs.size (.lst xs),g.laid (t':=a.toks) (fun b u e=>bc _ e) (ay _) ?_,rfl,q _ hf⟩;exact⟨z,k,0,r,db _ rfl⟩
end
abbrev Sp:=List V->Hp->VK->XK->Prop
abbrev Fv:=List Env->Hp->Shared->XK->Value->Shared->Prop
structure CH(P:bu)(w:World)(K:Za)(mg:Str->Option Value)(base:Heap)(A:Around)(outer:List Env)(s:Shared)(H:Hp):Prop where
 frames:A.frames=some outer
 mod:Mod K mg base
 bs:∀b o,base.get? b=some o->s.heap.get? b=some o/\H b=none
 bsz:base.objs.size<=s.heap.objs.size
 funs:s.heap.FunFrames base outer
 frf:∀b∈u4 outer,H b=none
 hok:k_ P w K H s.heap
 bare:mV s.gens
def CE(outer:List Env)(P:bu)(w:World)(K:Za)(H:Hp)(s:Shared)(Q:VK)(u:Value)(s':Shared):Prop :=
 ∃v H',s'.os=s.os/\mV s'.gens/\Un (u4 outer) [] H H' s.heap s'.heap/\k_ P w K H' s'.heap/\RelV v u/\Q v H'
def CR(CX:Fv)(outer:List Env)(P:bu)(w:World)(K:Za)(H:Hp)(s:Shared)(Q:VK)(E:XK)(r:Result)(s':Shared):Prop :=
 match r with
 |.ok (.ret u)=>CE outer P w K H s Q u s'
 |.ok _=>False
 |.error e=>CX outer H s E e s'
structure i8(P:bu)(w:World)(K:Za)(mg:Str->Option Value)(base:Heap)(CX:Fv)(k:Nat)(f:Addr)(fd:iw)(ps:Zb)(sp:Sp):Prop where
 len:∀vs H Q E,sp vs H Q E->vs.length=ps.length
 run:∀(A:Around) (outer:List Env) (s:Shared) (H:Hp) (args:Args) (us:Zf) (vs:List V) (Q:VK) (E:XK),dU k A->CH P w K mg base A outer s H->nG s fd args (ps.zip us)->bj vs us->sp vs H Q E ->
  zzl87 (model P w) A (.call (.ref f) args) (CR CX outer P w K H s Q E) s
theorem CH.make{P:bu}{w:World}{K:Za}{a:Str->Option Value}{base:Heap}{A:Around}{outer:List Env}{s:Shared}{H:Hp}(e:CH P w K a base A outer s H)(C:Addr)(f:Zf)(g:List (Str×Value)):
  CH P w K a base (A.under (.builtin "type.__call__" ⟨.ref C::f,g⟩)) outer s H:=⟨by first|exact e.frames|(simpa[Around.under,Code.envs,Code.isFrame,pushEnvs]using e.frames),e.mod,e.bs,e.bsz,e.funs,e.frf,e.hok,e.bare⟩
section
variable{X:Cx}{J5:Zd}{σ:St}{H:Hp}{s s':Shared}
theorem Inv.env0(I:Inv X J5 σ H s):CH X.prog X.w X.K X.mg X.base X.A X.stack s H :=
 ⟨I.ok.frames,I.ok.mod,I.bs,bo I.ok.bsz I.sz,I.stack,I.stkFree,I.hok,I.bare⟩
theorem Inv.after{Q:VK}{u:Value}(I:Inv X J5 σ H s)(h:CE X.stack X.prog X.w X.K H s Q u s'):EP X J5 σ Q u s':=by
 obtain⟨v,i,os,a,un,e,r,q⟩:=h;obtain⟨j,g,d,t,f⟩:=s';obtain rfl:f=s.os:=os;exact⟨v,i,I.call (h':=j) (g':=g) (d':=d) (t':=t) (ch:=[]) un e a (fun b z=>absurd z (by simp)),r,q⟩
end
def iW(sp:Sp)(dvs:List V)(E:XK)(t:TA):TE:=fun σ H Q=>t σ H fun vs H1=>sp (vs++dvs) H1 Q E
def iy(C:Addr)(m:Str)(sp:Sp)(dvs:List V)(E:XK)(ta:TE)(t:TA):TE:=fun σ H Q=>ta σ H fun x H1=>∃a dx fs,x=.ref a/\H1 a=some (.ins C dx fs)/\fs.lookup m=none /\
 t σ H1 fun vs H2=>sp (x::(vs++dvs)) H2 Q E
def C6(C:Addr)(sp:Sp)(dvs:List V)(E:XK)(t:TA):TE:=fun σ H Q=>t σ H fun vs H1=>∀x dx,H1 x=none->H1 dx=none->dx≠x ->
 sp (.ref x::(vs++dvs)) (upd (upd H1 dx (.own x)) x (.ins C dx [])) (fun v H2=>v=.non/\Q (.ref x) H2) E
def Binds(K:Za)(fd:iw)(ps:Zb)(ds:Zf):Prop :=
 ∀(s:Shared) (us:Zf),K.In s.heap->(us++ds).length=ps.length->nG s fd ⟨us,[]⟩ (ps.zip (us++ds))
theorem Binds.all{K:Za}{f:iw}{e:Zb}(h:∀a:List Value,a.length=e.length->bindArgs f ⟨a,[]⟩=pure (e.zip a)):Binds K f e []:=fun s a _ g=>by
 rw[eM]at g ⊢;exact .of_eq (h a g)
def lV(CX:Fv)(X:Cx)(E:XK):Prop:=∀(J5:Zd) (σ:St) (H:Hp) (s:Shared) (e:Value) (s':Shared),Inv X J5 σ H s->CX X.stack H s E e s'->X.xe e s'
section
variable{X:Cx}{CX:Fv}{k:Nat}{f C:Addr}{fd:iw}{ps:Zb}{sp:Sp}{dvs:List V}{ds:Zf}{E:XK}{x m:Str}{p pos J7:Pos}{e o:Expr}{es:List Expr}{ta:TE}{t:TA}
theorem BL{g:Zd}{σ:St}{H:Hp}{s:Shared}{Q:VK}{us:Zf}{vs:List V}(F:i8 X.prog X.w X.K X.mg X.base CX k f fd ps sp)(j:dU k X.A)(l:Binds X.K fd ps ds)(n:bj dvs ds)(hx:lV CX X E)
  (I:Inv X g σ H s) (r:bj vs us) (h:sp (vs++dvs) H Q E):wpAny (model X.prog X.w) X.A (call (.ref f) us) (EP X g σ Q) X.xe s:=by
 have i:bj (vs++dvs) (us++ds):=r.append n;have q:(us++ds).length=ps.length:=by rw[<-i.length];exact F.len _ _ _ _ h
 refine j7 (qD (F.run X.A X.stack s H ⟨us,[]⟩ (us++ds) (vs++dvs) Q E j I.env0 (l s us I.kIn q) i h) fun r v a=>?_);cases r with
 |error e=>exact hx g σ H s e v I a
 |ok y =>
  cases y with
  |ret u=>exact I.after a
  |next=>exact de a
  |brk=>exact de a
  |cont=>exact de a
theorem Dk(F:i8 X.prog X.w X.K X.mg X.base CX k f fd ps sp)(j:dU k X.A)(l:Gl X x)(n:X.mg x=some (.ref f))(u:cU X.K (.ref f)=true)(v:Binds X.K fd ps ds)(y:bj dvs ds)(hx:lV CX X E)
  (z:PA X (e::es) t) (a:(x==("__debug__":Str))=false:=by decide) (B:aA (e::es) X.env=(false,eval e X.env)::aA es X.env:=by rfl) (g:(backTo pos (aA es X.env)).any (·.1)=false:=by rfl) :
  PE X (.Call (.Name x p) (e::es) [] pos) (iW sp dvs E t):=by
 intro D s σ H Q I h;refine qC (kI I l n ?_ a);refine tV (h₀:=X.base) I.ok.mod.kin u (cR (z pos D s σ H _ I h) fun G J ⟨L,M,i,r,q⟩=>⟨i.kIn,?_⟩) B g;exact BL F j v y hx i r q
theorem IQ{pl:Sem Bool}(D:PE X o ta)(c:Fu X.K C)(n:Jq X.K C m f)(F:i8 X.prog X.w X.K X.mg X.base CX k f fd ps sp)(G:dU k X.A)(J:Binds X.K fd ps ds)(L:bj dvs ds)(hx:lV CX X E)(M:PA X (e::es) t)
  (g:aA (e::es) X.env=(false,eval e X.env)::aA es X.env:=by rfl) (i:(backTo pos (aA es X.env)).any (·.1)=false:=by rfl)
  (N:eval (.Call (.Attribute o m J7) (e::es) [] pos) X.env=(do
   let v <- eval o X.env
   oM J7.atName
   let(f,first) <- jf [v] (oJ v m pl)
   nF pos f first (backTo pos (aA (e::es) X.env)) (j6 pos (j5 [] X.env))):=by rfl) :
  PE X (.Call (.Attribute o m J7) (e::es) [] pos) (iy C m sp dvs E ta t):=by
 intro y s σ H Q I h;refine PySem.W.methodCall_KW (pl:=pl) (cR (D y s σ H _ I h) fun u O j=>?_) N;obtain⟨x,T,z,U,a,dx,fs,ex,Y,l,q⟩:=j;subst ex;obtain rfl:u=Value.ref a:=U;refine uF z Y c n l ?_;refine tV (first:=[.ref a]) (h₀:=X.base) I.ok.mod.kin n.kp (cR (M pos y O σ T _ z q) fun us s2 ⟨vs,H2,B,r,q2⟩=>⟨B.kIn,?_⟩) g i
 exact BL (us:=.ref a::us) (vs:=.ref a::vs) F G J L hx B (.cons rfl r) q2
theorem GK{pl:Sem Bool}(r:PE X o ta)(c:Fu X.K C)(j:Jq X.K C m f)(F:i8 X.prog X.w X.K X.mg X.base CX k f fd ps sp)(v:dU k X.A)(y:Binds X.K fd ps ds)(z:bj dvs ds)(hx:lV CX X E)
  (B:eval (.Call (.Attribute o m J7) [] [] pos) X.env=(do
   let n <- eval o X.env
   oM J7.atName
   let(f,first) <- jf [n] (oJ n m pl)
   nF pos f first (backTo pos (aA [] X.env)) (j6 pos (j5 [] X.env))):=by rfl) :
  PE X (.Call (.Attribute o m J7) [] [] pos) (iy C m sp dvs E ta aU):=by
 intro D s σ H Q I h;refine PySem.W.methodCall_KW (pl:=pl) (cR (r D s σ H _ I h) fun u L g=>?_) B;obtain⟨x,M,i,G,a,N,fs,ex,J,l,q⟩:=g;subst ex;obtain rfl:u=Value.ref a:=G;refine uF i J c j l ?_;exact PySem.W.callWith_K0 (first:=[.ref a]) i.kIn j.kp (BL (us:=[.ref a]) (vs:=[.ref a]) F v y z hx i (.cons rfl .nil) q)
structure Mk(K:Za)(C f:Addr):Prop where
 makes:zF K C=true
 init:az K (.ref C) "__init__"=some (some (.ref f))
 fn:rC K (.ref f)=true
 kp:cU K (.ref C)=true
theorem Gb{l:Zd}{σ:St}{H:Hp}{s:Shared}{Q:VK}{g:Zf}{n:List V}(M:Mk X.K C f)(F:i8 X.prog X.w X.K X.mg X.base CX k f fd ps sp)(z:dU (k+1) X.A)(B:Binds X.K fd ps ds)(D:bj dvs ds)
  (hx:lV CX X E) (I:Inv X l σ H s) (r:bj n g)
  (h:∀x i,H x=none->H i=none->i≠x->sp (.ref x::(n++dvs)) (upd (upd H i (.own x)) x (.ins C i [])) (fun v G=>v=.non/\Q (.ref x) G) E) :
  wpAny (model X.prog X.w) X.A (call (.ref C) g) (EP X l σ Q) X.xe s:=by
 have q:=h (s.heap.objs.size+1) s.heap.objs.size (I.hok.fresh (j4 _)) (I.hok.fresh (ay _)) (bX (Nat.lt_succ_self _));have j:=Inv.made (C:=C) I;have y:bj (V.ref (s.heap.objs.size+1)::(n++dvs)) (Value.ref (s.heap.objs.size+1)::(g++ds)):=.cons rfl (r.append D);have J:(Value.ref (s.heap.objs.size+1)::g++ds).length=ps.length:=by
  have e:=y.length;rw[F.len _ _ _ _ q]at e;exact e.symm
 refine j7 (GX (f:=f) I.kIn M.makes M.init (beq_iff_eq.mp M.fn) (qD (F.run _ X.stack _ _ ⟨Value.ref (s.heap.objs.size+1)::g,[]⟩ (Value.ref (s.heap.objs.size+1)::(g++ds)) _ _ E (z.make C g [])
  (j.env0.make C g []) (B _ (Value.ref (s.heap.objs.size+1)::g) j.kIn J) y q) fun r L a=>?_))
 cases r with
 |error e=>exact hx l σ _ _ e L j a
 |ok N =>
  cases N with
  |ret u =>
   obtain⟨v,O,T,U,Y,q3⟩:=j.after a;subst Y;exact⟨U,⟨V.ref (s.heap.objs.size+1),O,T,rfl,q3⟩⟩
  |next=>exact de a
  |brk=>exact de a
  |cont=>exact de a
theorem IR(M:Mk X.K C f)(F:i8 X.prog X.w X.K X.mg X.base CX k f fd ps sp)(j:dU (k+1) X.A)(l:Gl X x)(n:X.mg x=some (.ref C))(u:Binds X.K fd ps ds)(v:bj dvs ds)(hx:lV CX X E)
  (y:PA X (e::es) t) (a:(x==("__debug__":Str))=false:=by decide) (z:aA (e::es) X.env=(false,eval e X.env)::aA es X.env:=by rfl) (g:(backTo pos (aA es X.env)).any (·.1)=false:=by rfl) :
  PE X (.Call (.Name x p) (e::es) [] pos) (C6 C sp dvs E t):=by
 intro B s σ H Q I h;refine qC (kI I l n ?_ a);refine tV (h₀:=X.base) I.ok.mod.kin M.kp (cR (y pos B s σ H _ I h) fun D G ⟨J,L,i,r,q⟩=>⟨i.kIn,?_⟩) z g;exact Gb M F j u v hx i r q
end
structure g7(N P:Zb)(sc:Scope):Prop where
 kind:sc.kind=.function
 co:sc.isCoroutine=false
 gen:sc.isGenerator=false
 nd:N.Nodup
 pre:N.take P.length=P
 par:∀x∈P,sc.names.lookup x=some .local∨sc.names.lookup x=some .cell
 nofree:∀y∈sc.names,y.2≠.free
theorem wE{kindOf:Str->Option gM}{x:Str}:∀{binds:List (Str×Value)}{m:Str->Option Value},(∀v,(x,v)∉binds)->bindL kindOf binds m x=m x
 |[],_,_=>rfl
 | (n,v)::r,m,h=>by
  unfold bindL;rw[wE fun w a=>h w (eK _ a)];split
  ·have:x≠n:=by rintro rfl;exact h v fh
   simp[this]
  ·rfl
theorem wH{kindOf:Str->Option gM}{x:Str}:∀{binds:List (Str×Value)}{m:Str->Option Value},(∀v,(x,v)∉binds)->bindC kindOf binds m x=m x
 |[],_,_=>rfl
 | (n,v)::r,m,h=>by
  unfold bindC;rw[wH fun w a=>h w (eK _ a)];split
  ·rfl
  ·have:x≠n:=by rintro rfl;exact h v fh
   simp[this]
theorem wF{kindOf:Str->Option gM}{x:Str}{v:Value}:∀{P:Zb}{a:Zf}{i:Nat}{m:Str->Option Value},P.Nodup->P[i]?=some x->a[i]?=some v->kindOf x=some .local ->
  bindL kindOf (P.zip a) m x=some v
 |[],_,_,_,_,h,_,_=>by simp at h
 |_::_,[],_,_,_,_,h,_=>by simp at h
 |p::P,w::a,0,m,g,e,f,j=>by
  simp at e f;subst e;subst f;show bindL kindOf ((p,w)::P.zip a) m p=_;unfold bindL;rw[wE fun v k=>(nE.mp g).1 (tU k).1,if_pos j];simp
 |p::P,w::a,i+1,m,g,e,f,j=>by
  show bindL kindOf ((p,w)::P.zip a) m x=_;unfold bindL;exact wF (i:=i) (nE.mp g).2 (by simpa using e) (by simpa using f) j
theorem wI{kindOf:Str->Option gM}{x:Str}{v:Value}:∀{P:Zb}{a:Zf}{i:Nat}{m:Str->Option Value},P.Nodup->P[i]?=some x->a[i]?=some v->kindOf x≠some .local ->
  bindC kindOf (P.zip a) m x=some v
 |[],_,_,_,_,h,_,_=>by simp at h
 |_::_,[],_,_,_,_,h,_=>by simp at h
 |p::P,w::a,0,m,g,e,f,j=>by
  simp at e f;subst e;subst f;show bindC kindOf ((p,w)::P.zip a) m p=_;unfold bindC;rw[wH fun v k=>(nE.mp g).1 (tU k).1,if_neg j];simp
 |p::P,w::a,i+1,m,g,e,f,j=>by
  show bindC kindOf ((p,w)::P.zip a) m x=_;unfold bindC;exact wI (i:=i) (nE.mp g).2 (by simpa using e) (by simpa using f) j
def start(N:Zb)(vs:List V):St:=vs.map some++dz (N.length-vs.length) none
def vq(CX:Fv)(P:bu)(w:World)(K:Za)(mg:Str->Option Value)(base:Heap)(N:Zb)(qual:Str)(scope:Scope)(f:Addr)(cd:Value)(A:Around)(outer:List Env)(s:Shared)(H:Hp)(E:XK):Cx where
 prog:=P
 w:=w
 K:=K
 mg:=mg
 base:=base
 A:=A.deeper (envOfC qual scope s.heap.objs.size f cd)
 N:=N
 s₀:=s
 H₀:=H
 env:=envOfC qual scope s.heap.objs.size f cd
 outer:=outer
 stack:=envOfC qual scope s.heap.objs.size f cd::outer
 ex:=[]
 calm:=true
 fn:=fun _=>true
 pn:=[]
 xe:=fun e s'=>wpAny (model P w) (A.deeper (envOfC qual scope s.heap.objs.size f cd)) (leaving (envOfC qual scope s.heap.objs.size f cd) e) (fun _ s''=>CX outer H s E e s'') (fun e' s''=>CX outer H s E e' s'') s'
theorem AO{a:Scope}{n:Nat}{x:Str}(h:a.names.lookup x=some .cell):∃c,(cellsFrom n a.names []).lookup x=some c:=by
 have q:=PySem.W.cellsFrom_some a.names n [] (.inl h);exact tT.mp q
theorem EU{J:Fv}{P:bu}{w:World}{K:Za}{G:Str->Option Value}{base:Heap}{N m:Zb}{g:Str}{scope:Scope}{f:Addr}{cd:Value}{A:Around}{outer:List Env}{s L:Shared}{H:Hp}{E:XK}{I:Zf}{o:List V}
  (S:g7 N m scope) (Q:A.handled=none) (l:CH P w K G base A outer s H) (hl:o.length=m.length) (r:bj o I)
  (x:InCallC s s.heap.objs.size (bindL (envOfC g scope s.heap.objs.size f cd).kindOf (m.zip I) fun _=>none) (cellsFrom (s.heap.objs.size+1) scope.names []) (bindC (envOfC g scope s.heap.objs.size f cd).kindOf (m.zip I) fun _=>none) L) :
  Inv (vq J P w K G base N g scope f cd A outer s H E) [] (start N o) H L:=by
 have T:m.length<=N.length:=by have:=congrArg List.length S.pre;rw[aK]at this;omega
 obtain⟨D,tk,rfl,M⟩:=x.done;have t:∀b:Addr,b∉(vq J P w K G base N g scope f cd A outer s H E).ex:=fun b z=>absurd (show b∈([]:Ze)from z) (by simp);refine⟨⟨l.mod,S.kind,rfl,rfl,ay _,fun y z c D j=>?_,fun y hy=>?_,fun y c _ h=>?_,fun _=>Q,Around.frames_deeper l.frames,.inr ⟨rfl,rfl⟩,fun b z=>absurd z (t b),l.bs,l.bsz,fun b _ _=>t b,fun b z=>absurd z (t b),l.funs,l.frf⟩,
  rfl,l.bare,Un.kept M,⟨_,x.toInCall.ns,fun i y v D j h3=>?_⟩,fun y c h=>⟨_,x.cell y c h⟩,l.hok.fresh (ay _),fun y c h=>?_,fun p B=>absurd (show p∈([]:Zd)from B) (by simp),l.hok.kept M,?_⟩
 ·exact name_of_addr x.apart (qA D) (qA j)
 ·have hy:scope.names.lookup y=some .cell∨scope.names.lookup y=some .free:=hy;rcases hy with hy|hy
  ·exact AO hy
  ·exact absurd rfl (S.nofree _ (qA hy))
 ·exact df (x.above y c (qA h))
 ·have hi:i<o.length:=by
   unfold start at j;by_cases hi:i<o.length
   ·exact hi
   ·rw[qz (by simpa using hi)]at j;rw[List.getElem?_replicate]at j;split at j<;>cases j
  have U:o[i]?=some v:=by
   unfold start at j;rw[List.getElem?_append_left (by simpa using hi),dj]at j;cases e:o[i]? with
   |none=>rw[e]at j;cases j
   |some a=>rw[e]at j;cases j;rfl
  obtain⟨u,O,Y⟩:=r.get U;have B:m[i]?=some y:=by
   rw[<-S.pre,List.getElem?_take_of_lt (by omega)];exact D
  have C:m.Nodup:=by rw[<-S.pre];exact S.nd.sublist (List.take_sublist _ _)
  refine⟨u,Y,?_⟩;rcases S.par y (dw B)with k|k
  ·exact .inl ⟨k,wF C B O k⟩
  ·obtain⟨c,e⟩:=AO (n:=s.heap.objs.size+1) k;refine .inr ⟨.inl k,c,e,?_⟩;have q:=x.cell y c e;rw[wI C B O (by show scope.names.lookup y≠_;rw[k];decide)]at q;exact q
 ·exact l.hok.fresh (df (x.above y c (qA h)))
 ·unfold start;show _=N.length;rw[aP,ao,fG];omega
theorem JO{G:Fv}{P:bu}{w:World}{K:Za}{L:Str->Option Value}{base:Heap}{k:Nat}{f:Addr}{name a:Str}{params:Arguments}{h:List Stmt}{scope:Scope}{dV kV doc pm g ct oc:Value}{an od:Option Addr}
  {M:Array (Option Value)}{N ps:Zb}{O:Sp}(lk:K.lookup f=some ⟨oc,od,.func (iU name a params h scope dV kV doc pm an g ct),M⟩) (T:nD K g a=true) (S:g7 N ps scope)
  (z:∀i H Q E,O i H Q E->i.length=ps.length)
  (j:∀(A:Around) (outer:List Env) (s:Shared) (H:Hp) (i:List V) (Q:VK) (E:XK),dU k (A.deeper (envOfC a scope s.heap.objs.size f g))->O i H Q E ->
   ∃t,zc (vq G P w K L base N a scope f g A outer s H E) h t/\t (bq Q) (start N i) H) :
  i8 P w K L base G (k+1) f (iU name a params h scope dV kV doc pm an g ct) ps O:=by
 refine⟨z,fun A outer s H args us i Q E U B hb r C=>?_⟩;have hl:=z _ _ _ _ C;have KX:K.In s.heap:=B.mod.kin.keeps fun b o e=>(B.bs b o e).1;have Y:s.heap.NoLimit:=B.mod.nolimit.keeps fun b o e=>(B.bs b o e).1;have l:∀y∈ps.zip us,scope.names.lookup y.1=some .local∨(scope.names.lookup y.1=some .cell/\((cellsFrom (s.heap.objs.size+1) scope.names []).lookup y.1).isSome=true):=fun⟨n,v⟩ hy=>by
  rcases S.par n (tU hy).1 with q|q
  ·exact .inl q
  ·exact .inr ⟨q,PySem.W.cellsFrom_some _ _ _ (.inl q)⟩
 refine codeAny_call_function U.depth (KX _ _ lk) rfl S.co S.gen rfl (PySem.W.codeRec_of KX T) (hb _ _ _ _ ?_);refine wpAny_newFunctionEnv_cells S.kind l fun ab he s1 x=>?_;subst he;refine⟨Y.keeps x.toInCall.keep,codeAny_func ?_⟩;obtain⟨t,ht,hq⟩:=j A outer s H i Q E (U.deeper _) C;have I:Inv (vq G P w K L base N a scope f g A outer s H E) [] (start N i) H s1:=EU S U.hd B hl r x;refine cM (ht [] s1 (start N i) H _ I hq) (fun fl s' m=>?_) fun e s' m=>m;have D:∀{σ':St}{p:Hp}{v:V}{u:Value},Inv (vq G P w K L base N a scope f g A outer s H E) [] σ' p s'->RelV v u->Q v p->CE outer P w K H s Q u s' :=
  fun{σ' p v u} J rv q=>⟨v,p,J.os,J.bare,J.base,J.hok,rv,q⟩
 cases fl with
 |ret u =>
  obtain⟨v,σ',p,J,rv,q⟩:=m;exact D J rv q
 |next =>
  obtain⟨σ',p,J,q⟩:=m;exact D (v:=V.non) (u:=Value.none) J rfl q
 |brk =>
  obtain⟨_,_,_,q⟩:=m;exact de q
 |cont =>
  obtain⟨_,_,_,q⟩:=m;exact de q
end L2
namespace L2
open PySem PySem.Spec PyProof.Rows
section
variable{X:Cx}{x:Str}{p pos:Pos}{e:Expr}{es:List Expr}{t:TA}{id T:String}{r:List V->Hp->VK->Prop}
def cS(r:List V->Hp->VK->Prop)(t:TA):TE:=fun σ H Q=>t σ H fun vs H1=>r vs H1 Q
theorem Au(i:eQ X (.builtin id) r)(j:Gl X x)(k:X.mg x=none)(l:ix x=some (.builtin id))(m:PA X (e::es) t)(n:x≠"__name__":=by decide)(a:(x==("__debug__":Str))=false:=by decide)
  (o:aA (e::es) X.env=(false,eval e X.env)::aA es X.env:=by rfl) (f:(backTo pos (aA es X.env)).any (·.1)=false:=by rfl):PE X (.Call (.Name x p) (e::es) [] pos) (cS r t):=by
 intro g s σ H Q I h;refine qC (nW I j k l ?_ n a);exact PyProof.Rows.callWith_builtin1 (cR (m pos g s σ H _ I h) fun q u ⟨v,w,y,z,A⟩=>i g u σ w v q Q y z A) o f
theorem ml(i:eQ X (.type T) r)(j:Gl X x)(k:X.mg x=none)(l:ix x=some (.type T))(m:PA X (e::es) t)(n:x≠"__name__":=by decide)(a:(x==("__debug__":Str))=false:=by decide)
  (o:aA (e::es) X.env=(false,eval e X.env)::aA es X.env:=by rfl) (f:(backTo pos (aA es X.env)).any (·.1)=false:=by rfl):PE X (.Call (.Name x p) (e::es) [] pos) (cS r t):=by
 intro g s σ H Q I h;refine qC (nW I j k l ?_ n a);exact zI (cR (m pos g s σ H _ I h) fun q u ⟨v,w,y,z,A⟩=>i g u σ w v q Q y z A) o f
end
end L2
namespace HT
open PySem PyProof.Rows
def lexLt:List Int->List Int->Bool
 |[],[]=>false
 |[],_::_=>true
 |_::_,[]=>false
 |x::xs,y::ys=>if x=y then lexLt xs ys else decide (x<y)
theorem lexLt_cons(x y:Int)(xs a:List Int):lexLt (x::xs) (y::a)=if x=y then lexLt xs a else decide (x<y):=rfl
theorem lexLt_nil_nil:lexLt [] []=false:=rfl
theorem lexLt_nil_cons(y:Int)(a:List Int):lexLt [] (y::a)=true:=rfl
theorem lexLt_cons_nil(x:Int)(xs:List Int):lexLt (x::xs) []=false:=rfl
theorem eqAt_int(A:Around)(s:Shared)(a:Int)(t:Tok)(c:Int)(u:Tok):∃e,bp A s (.int a t) (.int c u) e/\(e=true↔a=c) :=
 ⟨(a==c),bp.int_int a t c u,by simp⟩
theorem rcLt_int(A:Around)(s:Shared)(a:Int)(t:Tok)(c:Int)(u:Tok)(e:bu)(w:World)(E:Zc)(Q:Zc)(h:Q (.bool (decide (a<c))) s):
  wpAny (model e w) A (xL .Lt (.int a t) (.int c u)) Q E s :=
 (PyProof.Rows.lt_int h:wpAny (model e w) A (eJ .Lt (.int a t) (.int c u)) Q E s)
section
open PySem.SeqAt
open PySem.AutoSeq1 (wpAny_loadPart')
open PySem.MeetsSeq PySem.MeetsSeq2 PySem.MeetsSeq3
theorem tuple_lt_ints(l b:Addr)(items f:Array Value)(n n2:Nat)(dd N:Option Addr)(sl O:Array (Option Value))(H I:List Int)(hi:gL items.toList H)(Y:gL f.toList I):
  Meets (b_.«tuple.__lt__» ⟨[.ref l,.ref b],[]⟩)
   (fun _ R s=>s.heap.get? l=some { cls:=.type "tuple",dict:=dd,data:=.seq items n,slots:=sl }/\s.heap.get? b=some { cls:=.type "tuple",dict:=N,data:=.seq f n2,slots:=O } /\
    R (.ok (.ret (.bool (lexLt H I)))) s) :=
 .of_wp fun p w A R s h=>by
  obtain⟨J,g,d,tk,os⟩:=s;obtain⟨hl,hb,h⟩:=h;have f2:=AutoSeq1.sub_tuple_tuple;have z1:items.size=H.length:=by rw[<-hi.length];simp
  have z2:f.size=I.length:=by rw[<-Y.length];simp
  wp_walk using wpAny_loadPart' hl,wpAny_loadPart' hb,CU _ (fun r b Q=>b.1=none/\Q=⟨J,g,d,tk,os⟩/\∃(L M:Zf) (j k:List Int),r=L.zip M /\
   gL L j/\gL M k/\j.length+f.size=k.length+items.size/\R (.ok (.ret (.bool (lexLt j k)))) ⟨J,g,d,tk,os⟩) _
  case turn =>
   rintro⟨y,x⟩ r b Q ⟨B,rfl,L,M,j,k,m,C,o,i,v⟩;cases C with
   |nil=>rw[List.zip_nil_left]at m;cases m
   |cons a t E =>
    cases o with
    |nil=>rw[List.zip_nil_right]at m;cases m
    |cons c u G =>
     rw[List.zip_cons_cons]at m;injection m with T D;injection T with hy hx;subst hy hx;rw[lexLt_cons]at v;simp only[dD]at i;obtain⟨e,he,z⟩:=eqAt_int A.in1 ⟨J,g,d,tk,os⟩ a t c u;refine ak (he p w _ _ ?_);cases e with
     |true =>
      rw[if_pos (z.mp rfl)]at v
      wp_walk
      exact⟨rfl,rfl,_,_,_,_,D,E,G,by omega,v⟩
     |false =>
      rw[if_neg (fun q=>absurd (z.mpr q) iO)]at v;have U:=rcLt_int A.in1 ⟨J,g,d,tk,os⟩ a t c u p w
      wp_walk using U
      exact⟨_,rfl,by simpa using v⟩
  case fin =>
   rintro⟨b1,b2⟩ Q ⟨B,rfl,L,M,j,k,m,C,o,i,v⟩;simp only at B;subst B;have hv:lexLt j k=decide (items.size<f.size):=by
    cases C with
    |nil =>
     cases o with
     |nil =>
      simp only[lz]at i;rw[lexLt_nil_nil];exact(zzr0 (by omega)).symm
     |cons c u hw =>
      simp only[lz,dD]at i;rw[lexLt_nil_cons];exact(zzr1 (by omega)).symm
    |cons a t hv =>
     cases o with
     |nil =>
      simp only[lz,dD]at i;rw[lexLt_cons_nil];exact(zzr0 (by omega)).symm
     |cons c u hw =>
      rw[List.zip_cons_cons]at m;cases m
   rw[hv]at v
   wp_walk
   exact⟨_,rfl,by simpa[b_.Tuple.tupleCompareSizes]using v⟩
  case h =>
   exact⟨rfl,rfl,items.toList,f.toList,H,I,rfl,hi,Y,by omega,h⟩
end
section
variable{prog:bu}{w:World}{A:Around}{E:Zc}{s:Shared}
theorem lt_tupInts{l b:Addr}{items a:Array Value}{e f:List Int}{Q:Zc}(u:IsTup s.heap l items)(v:IsTup s.heap b a)(hi:gL items.toList e)(y:gL a.toList f)
  (z:A.units<cLine) (h:Q (.bool (lexLt e f)) s):wpAny (model prog w) A (eJ .Lt (.ref l) (.ref b)) Q E s:=by
 obtain⟨⟨cls,B,o,C⟩,p,q,n,r⟩:=id u;obtain⟨⟨t,k,data2,m⟩,g,i,D,j⟩:=id v;simp only at q r i j;subst q r i j;exact richCompare_meets_room (op:=.Lt) ⟨_,p,rfl⟩ ⟨_,g,rfl⟩ PySem.F.slot_tuple_lt PySem.F.entry_tuple_lt (PySem.F.args_tuple_lt_2 _ _) (tuple_lt_ints l b items a n D B k C m e f hi y)
  ⟨p,g,show Value.bool (lexLt e f)≠Value.notImplemented/\Q (.bool (lexLt e f)) s from⟨(fun x=>nomatch x),h⟩⟩ z
theorem cat_tup{t b:Addr}{g a:Zf}{Q:Zc}(z:IsTup s.heap t g.toArray)(B:IsTup s.heap b a.toArray)(p:g≠[])
  (C:a=[]->Q (.ref t) s) (D:a≠[]->Q (.ref s.heap.objs.size) { s with heap:=s.heap.push { cls:=.type "tuple",data:=.seq (g++a).toArray } })
  (o:g.length+a.length<=ai):wpAny (model prog w) A (iP .Add (.ref t) (.ref b)) Q E s:=by
 obtain⟨⟨cls,q,data,r⟩,l,u,n,v⟩:=id z;obtain⟨⟨x,h,data2,i⟩,f,j,y,k⟩:=id B;simp only at u v j k;subst u v j k;have e:g.toArray++a.toArray=(g++a).toArray:=by simp
 by_cases m:a=[]
 ·exact xK ⟨_,l,rfl⟩ ⟨_,f,rfl⟩ xJ xI xH xG (xF _ _)
   (tuple_addW1 t b g.toArray a.toArray n y q h r i (by simpa using p) (by simp[m])) ⟨l,f,C m⟩
 ·refine xK ⟨_,l,rfl⟩ ⟨_,f,rfl⟩ xJ xI xH xG (xF _ _)
   (tuple_addW2 t b g.toArray a.toArray n y q h r i (by simpa using p) (by simpa using m) (by rw[bD,bD];exact o)) ⟨l,f,?_⟩
  rw[e];exact D m
def sIx(n d:Nat):Option Int->Nat
 |none=>d
 |some v=>if v<0 then(v+(n:Int)).toNat else min v.toNat n
theorem sIx_none(n d:Nat):sIx n d none=d:=rfl
theorem sIx_nat(n d k:Nat):sIx n d (some (k:Int))=min k n:=by
 show(if(k:Int)<0 then((k:Int)+(n:Int)).toNat else min (k:Int).toNat n)=min k n
 rw[if_neg (by omega),qy]
theorem sIx_le(n d:Nat)(e:d<=n)(o:Option Int):sIx n d o<=n:=by
 cases o with
 |none=>exact e
 |some v =>
  show(if v<0 then(v+(n:Int)).toNat else min v.toNat n)<=n
  by_cases a:v<0
  ·rw[if_pos a];omega
  ·rw[if_neg a];exact Nat.min_le_right _ _
theorem clip_eq(v:Int)(n d:Nat):(if v<0 then max (v+(n:Int)) 0 else min v (n:Int))=((sIx n d (some v):Nat):Int):=by
 show(if v<0 then max (v+(n:Int)) 0 else min v (n:Int))=(((if v<0 then(v+(n:Int)).toNat else min v.toNat n):Nat):Int)
 by_cases a:v<0
 ·simp only[if_pos a];omega
 ·simp only[if_neg a];omega
theorem adjust_gen(lo hi:Option Int)(n:Nat):qx lo hi 1 (n:Int)=(((sIx n 0 lo:Nat):Int),((sIx n n hi:Nat):Int)):=by
 have a:¬((1:Int)<0):=by omega
 unfold qx;simp only[a,if_false];refine Prod.ext ?_ ?_
 ·cases lo with
  |none=>rfl
  |some v=>exact clip_eq v n 0
 ·cases hi with
  |none=>rfl
  |some v=>exact clip_eq v n n
theorem places_gen(i j:Nat):lu (i:Int) (j:Int) 1=j-i:=by
 unfold lu;have a:(1:Int) > 0:=by omega
 simp only[a,if_true,Int.ediv_one];split<;>omega
theorem slicePart_{v:Value}{o:Option Int}{Q:Option Int->Shared->Prop}(p:IsPart v o)(h:Q o s):wpAny (model prog w) A (b_.Slice.slicePartIndex v) Q E s:=by
 cases p with
 |none=>exact xE h
 |int i t=>exact slicePart_int h
theorem sliceApplied_gen{i:Addr}{f g:Value}{lo hi:Option Int}{n:Nat}{Q:Int×Int×Nat->Shared->Prop}(j:s.heap.IsSliceOf i f g .none)(k:IsPart f lo)(l:IsPart g hi)
  (h:Q (((sIx n 0 lo:Nat):Int),1,sIx n n hi-sIx n 0 lo) s):wpAny (model prog w) A (xD (.ref i) (pure (n:Int))) Q E s:=by
 obtain⟨os,a,m,e⟩:=id j;unfold xD b_.Slice.sliceFields;refine ak (ak (ca a e (x:=f) rfl (ak (ca a e (x:=g) rfl (ak (ca a e (x:=.none) rfl (ap ?_)))))));refine ak (xE ?_);show wpAny _ _ (if((1:Int)==0)=true then _ else _) _ _ s
 rw[if_neg (by decide)];refine ak (slicePart_ k (ak (slicePart_ l (ak (ap ?_)))));show wpAny _ _ (match qx lo hi 1 (n:Int)with|(lo,hi)=>pure (lo,(1:Int),lu lo hi 1)) _ _ s
 rw[adjust_gen lo hi n];show wpAny _ _ (pure (((sIx n 0 lo:Nat):Int),(1:Int),lu ((sIx n 0 lo:Nat):Int) ((sIx n n hi:Nat):Int) 1)) _ _ s;rw[places_gen];exact ap h
theorem pick_gen(xs:Array Value)(i k:Nat):((iQ k).filterMap fun(m:Nat)=>xs[((i:Int)+(m:Int) * 1).toNat]?).toArray=((xs.toList.drop i).take k).toArray:=by
 have e:(fun(m:Nat)=>xs[((i:Int)+(m:Int) * 1).toNat]?)=fun m=>xs[i+m]?:=by
  funext m;have:((i:Int)+(m:Int) * 1).toNat=i+m:=by omega
  rw[this]
 rw[e];have:=pick_run xs i k;rw[List.filterMap_map]at this;have a:((fun x=>xs[x]?) ∘ fun x=>i+x)=fun m=>xs[i+m]?:=rfl;rw[a]at this;rw[this]
theorem getItem_tuple_cut{t f:Addr}{items:Array Value}{l n:Value}{lo hi:Option Int}{Q:Zc}(e:IsTup s.heap t items)(o:s.heap.IsSliceOf f l n .none)(p:IsPart l lo)(r:IsPart n hi)
  (u:¬(sIx items.size 0 lo=0/\sIx items.size items.size hi=items.size))
  (h:Q (.ref s.heap.objs.size) { s with heap:=s.heap.push { cls:=.type "tuple",data:=.seq ((items.toList.drop (sIx items.size 0 lo)).take (sIx items.size items.size hi-sIx items.size 0 lo)).toArray } })
  (v:items.size<=ai):wpAny (model prog w) A (gK (.ref t) (.ref f)) Q E s:=by
 have a:sizeOk (.seq ((items.toList.drop (sIx items.size 0 lo)).take (sIx items.size items.size hi-sIx items.size 0 lo)).toArray):=by
  show((items.toList.drop (sIx items.size 0 lo)).take (sIx items.size items.size hi-sIx items.size 0 lo)).toArray.size<=ai;rw[bD,aK,cA,oK];omega
 have y:sIx items.size items.size hi<=items.size:=sIx_le _ _ (ay _) hi;obtain⟨os,g,i,x⟩:=id o;have j:s.TypeIs (.ref f) "slice":=⟨os,g,i⟩;unfold gK
 try with_reducible refine gE ?_
 first|refine ak (ap ?_)|skip
 refine ak (wpAny_sequenceKey e.typeIs (by decide) ?_);refine ak (nC (name:=nB "__getitem__") e.typeIs j3
  (wL j3 e.typeIs entry_tuple_getitem ?_ (args_tuple_getitem _ _)))
 show wpAny _ _ (CV (.ref t) >>= _) _ _ s;refine ak (tupleItemsOf_ e ?_);refine ak (nu j ?_);rw[if_pos (by decide)];refine ak (sliceApplied_gen o p r ?_);have k:¬((((sIx items.size 0 lo:Nat):Int)==0 && (1:Int)==1 && (sIx items.size items.size hi-sIx items.size 0 lo)==items.size)=true):=by
  intro q;rw[tS,tS]at q;have z:((sIx items.size 0 lo:Nat):Int)=0:=eq_of_beq q.1.1;have B:sIx items.size items.size hi-sIx items.size 0 lo=items.size:=eq_of_beq q.2;exact u ⟨by omega,by omega⟩
 show wpAny _ _ (if(((sIx items.size 0 lo:Nat):Int)==0 && (1:Int)==1 && (sIx items.size items.size hi-sIx items.size 0 lo)==items.size)=true then _ else _) _ _ s
 rw[if_neg k,pick_gen]
 first
  |exact ak (m:=lr _) (gJ (ap ⟨_,rfl,ap h⟩) a)
  |exact ak (m:=lr _) (gJ (ak (ap (ap ⟨_,rfl,ap h⟩))) a)
  |exact ak (ak (m:=lr _) (gJ (ap (ap ⟨_,rfl,ap h⟩)) a))
  |exact ak (ak (m:=lr _) (gJ (ap ⟨_,rfl,ap h⟩) a))
end
end HT
namespace L2
open PySem PySem.Spec PyProof.Rows
abbrev TO:=St->Hp->(Option Int->Hp->Prop)->Prop
def PO(X:Cx)(e:Option Expr)(t:TO):Prop :=
 ∀(J5:Zd) (s:Shared) (σ:St) (H:Hp) (Q:Option Int->Hp->Prop),Inv X J5 σ H s->t σ H Q ->
  wpAny (model X.prog X.w) X.A (evalPart e X.env) (fun u s'=>∃o H',Inv X J5 σ H' s'/\IsPart u o/\Q o H') X.xe s
def cg:TO:=fun _ H Q=>Q none H
def dX(t:TE):TO:=fun σ H Q=>t σ H fun x H1=>∃i,x=.int i/\Q (some i) H1
theorem intsAre_of{a:List Int}:∀{us:Zf},bj (a.map V.int) us->gL us a:=by
 induction a with
 |nil=>intro us r;rw[List.map_nil]at r;cases r;exact .nil
 |cons n a f =>
  intro us r;rw[cw]at r;cases r with
  |cons g h =>
   obtain⟨t,e⟩:=g;subst e;exact .cons n t (f h)
section
variable{X:Cx}{e:Expr}{te:TE}{lo hi:Option Expr}{tl th:TO}{pos p2:Pos}
theorem eO:PO X none cg:=by
 intro a s σ H Q I h;rw[evalPart_none];exact ap ⟨none,H,I,.none,h⟩
theorem da(h:PE X e te):PO X (some e) (dX te):=by
 intro f s σ H Q I g;rw[evalPart_some];refine cR (h f s σ H _ I g) fun u n a=>?_;obtain⟨x,j,k,l,m⟩:=a;obtain⟨i,rfl,q⟩:=m;obtain⟨t,rfl⟩:=l;exact⟨some i,j,k,.int i t,q⟩
def HI(X:Cx)(r:V->Option Int->Option Int->Hp->VK->Prop):Prop :=
 ∀(J5:Zd) (s:Shared) (σ:St) (H:Hp) (x:V) (v vl vu:Value) (lo hi:Option Int) (sl:Addr) (Q:VK),Inv X J5 σ H s->RelV x v->s.heap.IsSliceOf sl vl vu .none->IsPart vl lo->IsPart vu hi->r x lo hi H Q ->
  ∃T id,qw (.type T) "__getitem__"=pure (some (.builtin id))/\s.TypeIs v T/\wpAny (model X.prog X.w) X.A (gK v (.ref sl)) (EP X J5 σ Q) X.xe s
theorem HI.or{r a:V->Option Int->Option Int->Hp->VK->Prop}(h:HI X r)(o:HI X a):HI X (fun x lo hi H Q=>r x lo hi H Q∨a x lo hi H Q):=by
 intro f s σ H x v g i lo hi j Q I k l m n q;rcases q with q|q
 ·exact h f s σ H x v g i lo hi j Q I k l m n q
 ·exact o f s σ H x v g i lo hi j Q I k l m n q
def sI(r:V->Option Int->Option Int->Hp->VK->Prop)(te:TE)(tl th:TO):TE:=fun σ H Q=>te σ H fun x H1=>tl σ H1 fun l H2=>th σ H2 fun u H3=>r x l u H3 Q
theorem cO{r:V->Option Int->Option Int->Hp->VK->Prop}(m:HI X r)(n:PE X e te)(o:PO X lo tl)(p:PO X hi th):PE X (.Subscript e (.Slice lo hi none p2) pos) (sI r te tl th):=by
 intro g s σ H Q I h;refine xC (cR (n g s σ H _ I h) fun v t f=>?_);obtain⟨x,y,z,B,C⟩:=f;refine wpAny_Slice (cR (o g t σ y _ z C) fun i D ⟨l,E,G,J,L⟩=>cR (p g D σ E _ G L) fun j a f=>?_);obtain⟨u,k,M,N,O⟩:=f;rw[evalPart_none];refine ap ?_;have U:Inv X g σ k { a with heap:=a.heap.push { cls:=.type "slice",data:=.fields #[i,j,.none] } }:=M.kept (t':=a.toks) fun b ob q=>bc _ q;obtain⟨T,id,Y,ht,hg⟩:=m g { a with heap:=a.heap.push { cls:=.type "slice",data:=.fields #[i,j,.none] } } σ k x v i j l u a.heap.objs.size Q U B (Heap.IsSliceOf.new ..) J N O;show wpAny (model X.prog X.w) X.A (xB e (.Slice lo hi none p2) v (.ref a.heap.objs.size)) (EP X g σ Q) X.xe { a with heap:=a.heap.push { cls:=.type "slice",data:=.fields #[i,j,.none] } };exact tail_any (ops:=[.ref a.heap.objs.size,v]) ht Y hg (by with_unfolding_all rfl)
def gq(xs:List V)(lo hi:Option Int):List V:=(xs.drop (HT.sIx xs.length 0 lo)).take (HT.sIx xs.length xs.length hi-HT.sIx xs.length 0 lo)
theorem rY(xs:List V)(lo hi:Option Int):(gq xs lo hi).length<=xs.length:=by
 unfold gq;rw[aK,cA];omega
def Li(K:Za):V->Option Int->Option Int->Hp->VK->Prop:=fun x lo hi H Q=>∃a xs,x=.ref a/\bE K H a xs /\
 ¬(HT.sIx xs.length 0 lo=0/\HT.sIx xs.length xs.length hi=xs.length)/\∀p,H p=none->Q (.ref p) (upd H p (.tup (gq xs lo hi)))
theorem Kh:HI X (Li X.K):=by
 intro t s σ H x v u w lo hi y Q I k l m n h;obtain⟨a,xs,rfl,hx,p,q⟩:=h;cases k;obtain⟨g,r,i,j⟩:=I.tuple hx;have f:g.toArray.size=xs.length:=by rw[bD];exact r.length.symm
 refine⟨"tuple",_,j3.lookup,i.typeIs,?_⟩;refine HT.getItem_tuple_cut i l m n (by rw[f];exact p) ?_ (by rw[f];exact j);rw[f];refine⟨.ref s.heap.objs.size,_,I.laid (t':=s.toks) (o:=.tup (gq xs lo hi)) (fun b z q=>bc _ q) (ay _) ?_,rfl,q _ (I.hok.fresh (ay _))⟩;exact⟨bo (rY xs lo hi) j,_,(r.drop (HT.sIx xs.length 0 lo)).take (HT.sIx xs.length xs.length hi-HT.sIx xs.length 0 lo),xA _ _⟩
def JF(K:Za):R2:=fun x y H Q=>∃a b xs ys,x=.ref a/\y=.ref b/\bE K H a xs/\bE K H b ys/\xs≠[]/\xs.length+ys.length<=ai /\
 (ys=[]->Q (.ref a) H)/\(ys≠[]->∀p,H p=none->Q (.ref p) (upd H p (.tup (xs++ys))))
theorem bj.nil_iff{xs:List V}{a:Zf}(r:bj xs a):a=[]↔xs=[]:=by
 cases r with
 |nil=>simp
 |cons _ _=>simp
theorem Dm:kN X (iP .Add) (JF X.K):=by
 intro C s σ H x y v u Q I k l h;obtain⟨a,b,xs,m,rfl,rfl,n,p,hx,i,r,t⟩:=h;cases k;cases l;obtain⟨A,g,B,_⟩:=I.tuple n;obtain⟨j,f,p2,_⟩:=I.tuple p;refine HT.cat_tup B p2 (fun z=>hx (g.nil_iff.mp z)) (fun z=>⟨.ref a,H,I,rfl,r (f.nil_iff.mp z)⟩) (fun z=>?_) (by rw[<-g.length,<-f.length];exact i);refine⟨.ref s.heap.objs.size,_,I.laid (t':=s.toks) (o:=.tup (xs++m)) (fun b D q=>bc _ q) (ay _) ?_,rfl,t (fun w=>z (f.nil_iff.mpr w)) _ (I.hok.fresh (ay _))⟩;exact⟨by rw[aP];exact i,_,g.append f,xA _ _⟩
end
end L2
namespace L2
open PySem PySem.Spec PyProof.Rows
def Dx(n:Nat)(i:Int):Option Nat:=if 0<=i then(if i<n then some i.toNat else none)else if -(n:Int)<=i then some (i+n).toNat else none
def vv{α:Type}(xs:List α)(i:Int):Option α:=(Dx xs.length i).bind fun j=>xs[j]?
theorem Dw{n:Nat}{i:Int}{j:Nat}(h:Dx n i=some j):seqIndex? i n=some j/\j<n/\-(n:Int)<=i/\i<n:=by
 unfold Dx at h;by_cases f:0<=i
 ·rw[if_pos f]at h;by_cases a:i<n
  ·rw[if_pos a]at h;have e:i.toNat=j:=fx h;exact⟨by rw[seqIndex_of f a,e],by omega,by omega,a⟩
  ·rw[if_neg a]at h;cases h
 ·rw[if_neg f]at h;by_cases a:-(n:Int)<=i
  ·rw[if_pos a]at h;have e:(i+n).toNat=j:=fx h;exact⟨by rw[seqIndex_neg (by omega) a,e],by omega,a,by omega⟩
  ·rw[if_neg a]at h;cases h
theorem y6{α:Type}{xs:List α}{i:Int}{v:α}(h:vv xs i=some v):∃j,seqIndex? i xs.length=some j/\xs[j]?=some v/\j<xs.length/\-(xs.length:Int)<=i/\i<xs.length:=by
 unfold vv at h;cases e:Dx xs.length i with
 |none=>rw[e]at h;cases h
 |some j =>
  rw[e]at h;obtain⟨a,f,g,k⟩:=Dw e;exact⟨j,a,h,f,g,k⟩
theorem aM{α:Type}{xs:List α}{j:Nat}{v:α}(h:xs[j]?=some v):vv xs (j:Int)=some v:=by
 have a:j<xs.length:=(cV.mp h).1;have e:Dx xs.length (j:Int)=some j:=by
  unfold Dx;rw[if_pos (by omega),if_pos (by omega)];simp
 unfold vv;rw[e];exact h
theorem HF{α:Type}(xs:List α)(v:α):vv (xs++[v]) (-1)=some v:=by
 have a:(xs++[v]).length=xs.length+1:=by simp
 have e:Dx (xs++[v]).length (-1)=some xs.length:=by
  unfold Dx;rw[a,if_neg (by decide),if_pos (by omega)];congr 1;omega
 unfold vv;rw[e];show(xs++[v])[xs.length]?=some v;simp
def Jl(b:Expr):Prop:=∀o i,xz b false o i=operate [o,i] (gK o i)
def Jr(X:Cx)(r:R2):Prop :=
 ∀(value slice:Expr) (J5:Zd) (s:Shared) (σ:St) (H:Hp) (x y:V) (v u:Value) (Q:VK),Inv X J5 σ H s->RelV x v->RelV y u->r x y H Q ->
  xz slice false v u=operate [v,u] (gK v u)->wpAny (model X.prog X.w) X.A (xB value slice v u) (EP X J5 σ Q) X.xe s
def MtR(X:Cx)(id:String)(r:V->List V->Hp->VK->Prop):Prop :=
 ∀(J5:Zd) (s:Shared) (σ:St) (H:Hp) (x:V) (xs:List V) (v:Value) (us:Zf) (Q:VK),Inv X J5 σ H s->RelV x v->bj xs us->r x xs H Q ->
  wpAny (model X.prog X.w) X.A (call (.builtin id) (v::us)) (EP X J5 σ Q) X.xe s
section
variable{X:Cx}{a b:Expr}{ta tb:TE}{pos:Pos}
theorem Jr.or{r e:R2}(h:Jr X r)(k:Jr X e):Jr X (fun x y H Q=>r x y H Q∨e x y H Q):=by
 intro value slice f s σ H x y v u Q I g i q j;rcases q with q|q
 ·exact h value slice f s σ H x y v u Q I g i q j
 ·exact k value slice f s σ H x y v u Q I g i q j
theorem Di{r:R2}(e:Jr X r)(f:PE X a ta)(g:PE X b tb)(i:Jl b):PE X (.Subscript a b pos) (aq r ta tb):=by
 intro j s σ H Q I h;exact xC (KN f g I h fun v u k x y l m n o q=>e a b j k σ l x y v u Q m n o q (i _ _))
def bF(K:Za):R2:=fun x y H Q=>∃p xs i v,x=.ref p/\y=.int i/\aF K H p xs/\vv xs i=some v/\Q v H
def bg(K:Za):R2:=fun x y H Q=>∃p xs i v,x=.ref p/\y=.int i/\bE K H p xs/\vv xs i=some v/\Q v H
def Gu:R2:=fun x y H Q=>∃z i c,x=.str z/\y=.int i/\z.length<=ai/\vv z.cps.toList i=some c/\Q (.str ⟨#[c]⟩) H
theorem Dv:Jr X (bF X.K):=by
 intro value slice n s σ H x y v u Q I C D h o;obtain⟨p,xs,i,z,rfl,rfl,E,G,q⟩:=h;cases C;obtain⟨t,rfl⟩:=D;obtain⟨g,r,k,T⟩:=I.list E;obtain⟨j,f,J,U,L,M⟩:=y6 G;obtain⟨w,A,l⟩:=r.get J;have N:=r.length;have Y:=qZ;have e:EP X n σ Q w s:=⟨z,H,I,l,q⟩;by_cases B:0<=i
 ·have m:i.toNat=j:=by
   rw[seqIndex_of B M]at f;exact fx f
  exact item_listR k.isList B (by omega) (by rw[m];simpa using A) e o
 ·have m:(i+(g.toArray.size:Int)).toNat=j:=by
   rw[seqIndex_neg (by omega) L]at f;rw[bD,<-N];exact fx f
  exact subscriptTail_builtinR (x:=w) k.isList.typeIs slot_list_getitem.lookup
   (wpAny_getItem_list_neg (Q:=fun r O=>r=w/\EP X n σ Q r O) k.isList (by omega) (by rw[bD]<;>omega) (by omega) (by rw[m];simpa using A) ⟨rfl,e⟩) o
theorem Hb:Jr X (bg X.K):=by
 intro value slice g s σ H x y v u Q I l m h n;obtain⟨p,xs,i,z,rfl,rfl,o,A,q⟩:=h;cases l;obtain⟨t,rfl⟩:=m;obtain⟨B,r,k,L⟩:=I.tuple o;obtain⟨j,C,D,M,N,O⟩:=y6 A;obtain⟨w,E,e⟩:=r.get D;have G:=r.length;have T:=qZ;have f:EP X g σ Q w s:=⟨z,H,I,e,q⟩;exact subscriptTail_builtinR (x:=w) k.typeIs slot_tuple_getitem.lookup
  (getItem_tuple (j:=j) (Q:=fun r J=>r=w/\EP X g σ Q r J) k (by omega) (by omega) (by rw[bD,<-G];exact C) (by simpa using E) ⟨rfl,f⟩) n
theorem Hc:Jr X Gu:=by
 intro value slice A s σ H x y v u Q I f g h k;obtain⟨z,i,c,rfl,rfl,B,l,q⟩:=h;obtain⟨t,rfl⟩:=f;obtain⟨C,rfl⟩:=g;obtain⟨j,e,m,D,n,o⟩:=y6 l;have p:z.cps.toList.length=z.length:=by simp[Str.length]
 rw[p]at e n o;have E:=qZ;exact tail_any (typeIs_str s z t) slot_str_getitem.lookup (getItem_str (c:=c) (by
  have r:decide (i < -(2 ^ 63:Int))=false:=zzr0 (by omega);have w:decide (i ≥ 2 ^ 63)=false:=zzr0 (by omega);rw[r,w,Bool.or_false]) (by rw[e];simpa using m) ⟨.str ⟨#[c]⟩,H,I.tok _,⟨_,rfl⟩,q⟩) k
def EK(K:Za):R2:=fun x y H Q=>bF K x y H Q∨bg K x y H Q∨Gu x y H Q
theorem KF:Jr X (EK X.K):=Dv.or (Hb.or Hc)
theorem B7(e:Zf)(n j:Nat)(u:Value):qv (·.setIfInBounds j u) { cls:=.type "list",data:=.seq e.toArray n }={ cls:=.type "list",data:=.seq (e.set j u).toArray n }:=by
 simp[qv]
theorem Inv.lst{g:Zd}{σ:St}{H:Hp}{s:Shared}{p:Addr}{xs:List V}(I:Inv X g σ H s)(h:H p=some (.lst xs)):
  ∃(f:Zf) (n:Nat),bj xs f/\s.heap.get? p=some { cls:=.type "list",data:=.seq f.toArray n }/\xs.length<=ai:=by
 obtain⟨z,f,n,r,e⟩:=I.hok p _ h;exact⟨f,n,r,e,z⟩
theorem Inv.lstUpd{l:Zd}{σ:St}{H:Hp}{s:Shared}{p:Addr}{xs j:List V}{i g:Zf}{n k:Nat}{f:Obj->Obj}(I:Inv X l σ H s)(h:H p=some (.lst xs))
  (m:s.heap.get? p=some { cls:=.type "list",data:=.seq i.toArray n }) (hf:f { cls:=.type "list",data:=.seq i.toArray n }={ cls:=.type "list",data:=.seq g.toArray k }) (r:bj j g) (o:j.length<=ai) (t:Nat) :
  Inv X l σ (upd H p (.lst j)) { s with heap:=s.heap.update p f,toks:=t }:=by
 have e:(s.heap.update p f).get? p=some { cls:=.type "list",data:=.seq g.toArray k }:=by
  rw[jt f m (by rw[hf]<;>rfl),hf]
 refine I.write (x:=p) (e:=p) (by rw[h];trivial) (.inl rfl) (fun b u v q=>(gH _ _ (dJ v)).trans q) ⟨_,e⟩ ?_;exact⟨o,g,k,r,e⟩
def lK:V->V->V->Hp->(Hp->Prop)->Prop:=fun o i v H Q=>∃p xs k j,o=.ref p/\i=.int k/\H p=some (.lst xs)/\Dx xs.length k=some j/\Q (upd H p (.lst (xs.set j v)))
theorem g_:LI X lK:=by
 intro B s σ H o i v L M u Q I C D E h;obtain⟨p,xs,k,j,rfl,rfl,w,G,q⟩:=h;cases C;obtain⟨t,rfl⟩:=D;obtain⟨e,n,r,g,J⟩:=I.lst w;obtain⟨f,N,x,y⟩:=Dw G;have l:=r.length;have O:=qZ;have z:Inv X B σ (upd H p (.lst (xs.set j v))) { s with heap:=s.heap.update p (qv (·.setIfInBounds j u)) } :=
  I.lstUpd w g (B7 e n j u) (r.set E j) (by rw[qt];exact J) s.toks
 by_cases A:0<=k
 ·have m:k.toNat=j:=by
   rw[seqIndex_of A y]at f;exact fx f
  exact PySem.W.ki_setAt g A (by omega) (by rw[bD,<-l];exact y) (by rw[m];exact⟨_,z,q⟩)
 ·have m:(k+(e.toArray.size:Int)).toNat=j:=by
   rw[seqIndex_neg (by omega) x]at f;rw[bD,<-l];exact fx f
  exact PySem.W.ki_setBack g (by omega) (by rw[bD,<-l];exact x) (by omega) (by rw[m];exact⟨_,z,q⟩)
theorem yr(lo hi:Option Int)(n:Nat):(nr lo hi none n).1=((HT.sIx n 0 lo:Nat):Int)/\(nr lo hi none n).2.1=((HT.sIx n n hi:Nat):Int)/\(nr lo hi none n).2.2=1:=by
 refine⟨?_,?_,rfl⟩
 ·cases lo with
  |none=>simp[nr,HT.sIx]
  |some i =>
   simp only[nr,HT.sIx,Option.getD_none,show(1:Int) > 0 by decide,if_true];by_cases h:i<0
   ·simp only[h,if_true]<;>omega
   ·simp only[h,if_false]<;>omega
 ·cases hi with
  |none=>simp[nr,HT.sIx]
  |some i =>
   simp only[nr,HT.sIx,Option.getD_none,show(1:Int) > 0 by decide,if_true];by_cases h:i<0
   ·simp only[h,if_true]<;>omega
   ·simp only[h,if_false]<;>omega
theorem vi(e:Zf)(lo hi:Option Int):slicePick e.toArray lo hi none=((e.drop (HT.sIx e.length 0 lo)).take (HT.sIx e.length e.length hi-HT.sIx e.length 0 lo)).toArray:=by
 obtain⟨f,g,h⟩:=yr lo hi e.toArray.size;unfold slicePick;rw[f,g,h];simp only[sliceRange_one,pick_run,bD]<;>rfl
def uh(K:Za):V->Option Int->Option Int->Hp->VK->Prop:=fun x lo hi H Q=>∃a xs,x=.ref a/\aF K H a xs/\∀p,H p=none->Q (.ref p) (upd H p (.lst (gq xs lo hi)))
theorem iF:HI X (uh X.K):=by
 intro n s σ H x v p t lo hi u Q I g i j k h;obtain⟨a,xs,rfl,hx,q⟩:=h;cases g;obtain⟨l,r,f,m⟩:=I.list hx;have e:=r.length;refine⟨"list",_,slot_list_getitem.lookup,f.isList.typeIs,?_⟩;refine wpAny_getItem_list_slice f.isList i j k .none (by simp) ?_ (by rw[bD]<;>omega);rw[vi,<-e];refine⟨.ref s.heap.objs.size,_,I.laid (t':=s.toks) (o:=.lst (gq xs lo hi)) (fun b w q=>bc _ q) (ay _) ?_,rfl,q _ (I.hok.fresh (ay _))⟩;exact⟨bo (rY xs lo hi) m,_,0,(r.drop (HT.sIx xs.length 0 lo)).take (HT.sIx xs.length xs.length hi-HT.sIx xs.length 0 lo),db _ rfl⟩
theorem y3:eQ X (.builtin "len") (fun xs H Q=>∃p f,xs=[.ref p]/\(aF X.K H p f∨bE X.K H p f)/\Q (.int f.length) H):=by
 intro m s σ H xs n Q I r h;obtain⟨p,f,rfl,hq,q⟩:=h;obtain⟨u,rfl,k⟩:=vals1 r;cases k;have o:=qZ;rcases hq with hq|hq
 ·obtain⟨g,i,j,l⟩:=I.list hq;have e:=i.length;exact Calls.call_len_list j.isList (by simp only[bD]<;>omega) ⟨.int f.length,H,I.tok _,⟨s.toks+1,by rw[bD,e]⟩,q⟩
 ·obtain⟨g,i,j,l⟩:=I.tuple hq;have e:=i.length;exact len_tuple j (by simp only[bD]<;>omega) ⟨.int f.length,H,I.tok _,⟨s.toks+1,by rw[bD,e]⟩,q⟩
theorem y2:eQ X (.builtin "len") (fun xs H Q=>∃z,xs=[.str z]/\z.length<=ai/\Q (.int z.length) H):=by
 intro e s σ H xs f Q I r h;obtain⟨z,rfl,g,q⟩:=h;obtain⟨u,rfl,t,rfl⟩:=vals1 r;have i:=qZ;exact len_str (by omega) ⟨.int z.length,H,I.tok _,⟨_,rfl⟩,q⟩
theorem eQ.or{f:Value}{r e:List V->Hp->VK->Prop}(h:eQ X f r)(k:eQ X f e):eQ X f (fun xs H Q=>r xs H Q∨e xs H Q):=by
 intro g s σ H xs i Q I j q;rcases q with q|q
 ·exact h g s σ H xs i Q I j q
 ·exact k g s σ H xs i Q I j q
theorem y1:eQ X (.type "list") (fun xs H Q=>∃p i,xs=[.ref p]/\(aF X.K H p i∨bE X.K H p i)/\∀l,H l=none->Q (.ref l) (upd H l (.lst i))):=by
 intro C s σ H xs E Q I r h;obtain⟨p,i,rfl,hq,q⟩:=h;obtain⟨u,rfl,D⟩:=vals1 r;cases D;have m:∀(f:Zf),bj i f->i.length<=ai->∀(g:Heap) (j:Nat),(∀b B,s.heap.get? b=some B->g.get? b=some B) ->
   g.get? s.heap.objs.size=some { cls:=.type "list",dict:=none,data:=.seq f.toArray j,slots:=#[] }->EP X C σ Q (.ref s.heap.objs.size) { s with heap:=g }:=fun f k t g j kp e =>
  ⟨.ref s.heap.objs.size,_,I.laid (t':=s.toks) kp (ay _) (show cF X.prog X.w X.K _ g _ (.lst i)from⟨t,f,j,k,e⟩),rfl,q _ (I.hok.fresh (ay _))⟩
 rcases hq with hq|hq
 ·obtain⟨f,k,x,t⟩:=I.list hq;have v:=k.length;obtain⟨o,y,z,n,A⟩:=x.isList;exact call_list_seq p (.inl rfl) y z A (fun g j kp e=>m f k t g j kp e) (by simp only[bD]<;>omega)
 ·obtain⟨f,k,x,t⟩:=I.tuple hq;have v:=k.length;obtain⟨o,y,z,n,A⟩:=x;exact call_list_seq p (.inr rfl) y z A (fun g j kp e=>m f k t g j kp e) (by simp only[bD]<;>omega)
theorem vt:eQ X (.type "tuple") (fun xs H Q=>∃p g,xs=[.ref p]/\((aF X.K H p g/\∀l,H l=none->Q (.ref l) (upd H l (.tup g)))∨(bE X.K H p g/\Q (.ref p) H))):=by
 intro n s σ H xs A Q I r h;obtain⟨p,g,rfl,h⟩:=h;obtain⟨u,rfl,y⟩:=vals1 r;cases y;rcases h with⟨j,q⟩|⟨j,q⟩
 ·obtain⟨f,k,m,t⟩:=I.list j;have v:=k.length;refine call_tuple_list m.isList (fun i kp=>?_) (by simp only[bD]<;>omega);have x:Inv X n σ H { s with heap:=i }:=I.kept (t':=s.toks) kp;have z:Inv X n σ (upd H i.objs.size (.tup g)) { s with heap:=i.push { cls:=.type "tuple",data:=.seq f.toArray } } :=
   x.laid (t':=s.toks) (fun b o e=>bc _ e) (ay _) (show cF X.prog X.w X.K _ _ _ (.tup g)from⟨t,f,k,xA _ _⟩)
  exact⟨.ref i.objs.size,_,z,rfl,q _ (x.hok.fresh (ay _))⟩
 ·obtain⟨f,k,m,t⟩:=I.tuple j;exact call_tuple_same m ⟨.ref p,H,I,rfl,q⟩
def tyV(K:Za)(T:String)(x:V)(H:Hp):Prop:=match x with
 |.str _=>T="str"
 |.int _=>T="int"
 |.ref p=>(T="list"/\∃xs,aF K H p xs)∨(T="tuple"/\∃o,K.lookup p=some o/\o.cls=.type "tuple"/\o.dict=none) ∨
   (T="dict"/\((∃kvs,H p=some (.dK kvs))∨∃kvs,H p=some (.dT kvs)))∨(T="set"/\∃S n,H p=some (.set S n))
 |_=>False
theorem FN{m:Zd}{σ:St}{H:Hp}{s:Shared}{T:String}{x:V}{v:Value}(I:Inv X m σ H s)(r:RelV x v)(ty:tyV X.K T x H):
  s.TypeIs v T/\∀a,v=.ref a->∃k,s.heap.get? a=some k/\k.dict=none:=by
 cases x with
 |str z =>
  obtain⟨t,rfl⟩:=r;cases(show T="str" from ty);exact⟨typeIs_str s z t,fun _ e=>nomatch e⟩
 |int i =>
  obtain⟨t,rfl⟩:=r;cases(show T="int" from ty);exact⟨typeIs_int s i t,fun _ e=>nomatch e⟩
 |ref p =>
  cases r;rcases ty with⟨rfl,xs,q⟩|⟨rfl,o,f,u,g⟩|⟨rfl,f⟩|⟨rfl,S,n,f⟩
  ·obtain⟨w,_,l,_⟩:=I.list q;refine⟨l.isList.typeIs,fun a e=>?_⟩;cases e;obtain⟨o,n,e,c,g,_⟩:=l;exact⟨o,e,g⟩
  ·refine⟨⟨o,I.kIn p o f,u⟩,fun a e=>?_⟩;cases e;exact⟨o,I.kIn _ o f,g⟩
  ·have z:∃o,s.heap.get? p=some o/\o.ExactDict:=by
    rcases f with⟨h,f⟩|⟨h,f⟩
    ·obtain⟨_,_,_,_,o,_,_,e,ex,_⟩:=I.hok p _ f;exact⟨o,e,ex⟩
    ·obtain⟨_,_,_,_,o,_,_,e,ex,_⟩:=I.hok p _ f;exact⟨o,e,ex⟩
   obtain⟨o,e,ex⟩:=z;refine⟨⟨o,e,ex.1⟩,fun a j=>?_⟩;cases j;exact⟨o,e,ex.2.1⟩
  ·obtain⟨o,_,_,_,e,ex,_⟩:=I.hok p _ f;refine⟨⟨o,e,ex.1⟩,fun a j=>?_⟩;cases j;exact⟨o,e,ex.2.1⟩
 |_=>exact de ty
def Kg(K:Za)(T:String)(r:V->List V->Hp->VK->Prop)(to:TE):TE:=fun σ H Q=>to σ H fun x H1=>tyV K T x H1/\r x [] H1 Q
def Er(K:Za)(T:String)(r:V->List V->Hp->VK->Prop)(to:TE)(t:TA):TE:=fun σ H Q=>to σ H fun x H1=>tyV K T x H1/\t σ H1 fun xs H2=>r x xs H2 Q
variable{o e:Expr}{es:List Expr}{to:TE}{t:TA}{name:Str}{J7 J6:Pos}{T id:String}{r:V->List V->Hp->VK->Prop}
theorem GL(p:PlainAttrs T)(i:Slot T name id)(j:typeOf (.builtin id)=pure (.type "method_descriptor"))(q:MtR X id r)(u:PE X o to)
  (f:vC o name X.env (eval o X.env)=eval o X.env:=by rfl) (g:(J7.endLine==J6.line)=true:=by rfl):PE X (.Call (.Attribute o name J7) [] [] J6) (Kg X.K T r to):=by
 intro l s σ H Q I h;refine wpAny_Call_method0_late f g (cR (u l s σ H _ I h) fun v w k=>?_);obtain⟨x,y,m,n,ty,z⟩:=k;obtain⟨A,B⟩:=FN m n ty;exact⟨T,id,p,i,j,A,B,Calls.callWith_builtin rfl (PySem.evalArgs_none (q l w σ y x [] v [] Q m n .nil z))⟩
theorem kZ(w:PlainAttrs T)(j:Slot T name id)(l:typeOf (.builtin id)=pure (.type "method_descriptor"))(y:MtR X id r)(z:PE X o to)(A:PA X (e::es) t)
  (g:vC o name X.env (eval o X.env)=eval o X.env:=by rfl)
  (k:((backTo J6 (aA (e::es) X.env)).all (fun x=>!x.1) && (j6 J6 (j5 [] X.env)).all (fun x=>x.1.isSome)
   && decide ((e::es).length+([]:List Keyword).length+(if([]:List Keyword).isEmpty then 0 else 1)<30))=true:=by rfl)
  (i:(J7.endLine==J6.line)=true:=by rfl) (B:aA (e::es) X.env=(false,eval e X.env)::aA es X.env:=by rfl) (f:(backTo J6 (aA es X.env)).any (·.1)=false:=by rfl) :
  PE X (.Call (.Attribute o name J7) (e::es) [] J6) (Er X.K T r to t):=by
 intro m s σ H Q I h;refine wpAny_Call_method_late g k i rfl (cR (z m s σ H _ I h) fun v C n=>?_);obtain⟨x,D,p,q,ty,E⟩:=n;obtain⟨G,J⟩:=FN p q ty;refine⟨T,id,w,j,l,G,J,?_⟩;have u:=A J6 m C σ D _ p E;rw[B]at u ⊢;refine Calls.callWith_builtin (by show(false || (backTo J6 (aA es X.env)).any (·.1))=false;rw[f]<;>rfl) (Calls.evalArgs_plain ?_);exact cR u fun L M ⟨N,O,U,Y,q2⟩=>y m M σ O x N v L Q U q Y q2
end
end L2
namespace L2
open PySem PySem.Spec PyProof.Rows
def Me(X:Cx)(id:String)(r:V->List V->Hp->VK->Prop):Prop :=
 ∀(J5:Zd) (s:Shared) (σ:St) (H:Hp) (x:V) (xs:List V) (v:Value) (us:Zf) (Q:VK),Inv X J5 σ H s->RelV x v->bj xs us->r x xs H Q ->
  wpAny (model X.prog X.w) X.A (call (.builtin id) (v::us)) (EP X J5 σ Q) X.xe s
theorem bj.one{x:V}{a:Zf}(h:bj [x] a):∃u,a=[u]/\RelV x u:=by
 cases h with
 |cons r t=>cases t;exact⟨_,rfl,r⟩
theorem bj.two{x y:V}{a:Zf}(h:bj [x,y] a):∃u v,a=[u,v]/\RelV x u/\RelV y v:=by
 cases h with
 |cons r t =>
  obtain⟨v,e,q⟩:=bj.one t;exact⟨_,v,by rw[e],r,q⟩
theorem bj.zero:∀{a:Zf},bj [] a->a=[]
 |_,.nil=>rfl
theorem bj.dropLast{xs:List V}{a:Zf}(h:bj xs a):bj xs.dropLast a.dropLast:=by
 induction h with
 |nil=>exact .nil
 |cons r t e =>
  cases t with
  |nil=>exact .nil
  |cons q f=>exact .cons r e
theorem bj.reverse{xs:List V}{a:Zf}(h:bj xs a):bj xs.reverse a.reverse:=by
 induction h with
 |nil=>exact .nil
 |cons r t e=>rw[xy,xy];exact bj.append e (.cons r .nil)
theorem Co{α:Type}(l:List α):l.eraseIdx (l.length-1)=l.dropLast:=by
 induction l with
 |nil=>rfl
 |cons a r f =>
  cases r with
  |nil=>rfl
  |cons b r =>
   have e:(a::b::r).length-1=((b::r).length-1)+1:=by
    have g:(a::b::r).length=r.length+2:=rfl;have h:(b::r).length=r.length+1:=rfl;omega
   rw[e,List.eraseIdx_cons_succ,f]
   all_goals rfl
section
variable{X:Cx}{J5:Zd}{σ:St}{H:Hp}{s:Shared}{l b:Addr}{xs ys zs:List V}
theorem Inv.lset{a its':Zf}{n:Nat}{f:Array Value->Array Value}{g:Nat}(I:Inv X J5 σ H s)(h:H l=some (.lst xs))
  (e:s.heap.get? l=some { cls:=.type "list",data:=.seq a.toArray n }) (hf:f a.toArray=its'.toArray) (i:bj ys its') (j:ys.length<=ai) :
  Inv X J5 σ (upd H l (.lst ys)) { s with heap:=s.heap.update l (qv f),toks:=g }:=by
 have q:=PySem.IsL.update e f;rw[hf]at q;refine I.write (x:=l) (e:=l) (by rw[h];exact trivial) (.inl rfl) (fun o u k m=>(gH s.heap (qv f) (dJ k)).trans m) ⟨_,q⟩ ?_;exact⟨j,its',_,i,q⟩
theorem Inv.lnew{a:Zf}{t':Nat}(I:Inv X J5 σ H s)(e:bj ys a)(f:ys.length<=ai):
  Inv X J5 σ (upd H s.heap.objs.size (.lst ys)) { s with heap:=s.heap.push { cls:=.type "list",data:=.seq a.toArray },toks:=t' } :=
 I.laid (fun _ _ q=>bc _ q) (ay _) ⟨f,a,0,e,db _ rfl⟩
theorem Inv.fresh(I:Inv X J5 σ H s):H s.heap.objs.size=none:=I.hok.fresh (ay _)
theorem Inv.lstM(I:Inv X J5 σ H s)(f:H l=some (.lst xs)):xs.length<=ai/\∃(a:Zf) (n:Nat),bj xs a/\xs.length=a.length/\s.heap.get? l=some { cls:=.type "list",data:=.seq a.toArray n }:=by
 obtain⟨z,a,n,r,e⟩:=I.hok l _ f;exact⟨z,a,n,r,r.length,e⟩
end
section
variable{X:Cx}
def gj:V->List V->Hp->VK->Prop:=fun x vs H Q=>∃l xs y,x=.ref l/\vs=[y]/\H l=some (.lst xs)/\xs.length<ai/\Q .non (upd H l (.lst (xs++[y])))
theorem dQ:Me X "list.append" gj:=by
 intro k s σ H x m v o Q I g i h;obtain⟨l,xs,y,rfl,rfl,f,p,q⟩:=h;cases g;obtain⟨u,rfl,j⟩:=i.one;obtain⟨z,a,n,r,t,e⟩:=I.lstM f;refine call_meets F.slot_list_append ⟨_,e,rfl⟩ F.entry_list_append (F.args_list_append_2 _ _) (PySem.list_append l a.toArray n u (by rw[bD];omega)) ⟨e,?_⟩;refine⟨.non,_,I.lset (its':=a++[u]) f e (by simp) (r.append (.cons j .nil)) ?_,rfl,q⟩;rw[aP,List.length_singleton];omega
def Kl:V->List V->Hp->VK->Prop:=fun x vs H Q=>∃l xs y,x=.ref l/\vs=[]/\H l=some (.lst xs)/\xs[xs.length-1]?=some y/\Q y (upd H l (.lst xs.dropLast))
theorem GW:Me X "list.pop" Kl:=by
 intro w s σ H x A v B Q I j k h;obtain⟨l,xs,y,rfl,rfl,i,m,q⟩:=h;cases j;have f:=k.zero;subst f;obtain⟨z,a,n,r,o,e⟩:=I.lstM i;obtain⟨u,p,t⟩:=r.get m;have g:a.toArray[a.toArray.size-1]?=some u:=by
  show a.toArray[a.length-1]?=some u;rw[<-Array.getElem?_toList,<-o];exact p
 refine call_meets F.slot_list_pop ⟨_,e,rfl⟩ F.entry_list_pop (F.args_list_pop_1 _) (MeetsSeq.list_pop_last l a.toArray n u g (by rw[bD];omega)) ⟨e,?_⟩;refine⟨y,_,I.lset (its':=a.dropLast) i e ?_ r.dropLast ?_,t,q⟩
 ·show a.toArray.eraseIdxIfInBounds (a.toArray.size-1)=a.dropLast.toArray;rw[bD,List.eraseIdxIfInBounds_toArray,Co]
 ·rw[List.length_dropLast];omega
def qS:R2:=fun x y H Q=>∃l b xs zs,x=.ref l/\y=.ref b/\H l=some (.lst xs)/\H b=some (.lst zs)/\xs.length+zs.length<=ai/\∀p,H p=none->Q (.ref p) (upd H p (.lst (xs++zs)))
theorem jz:kN X (iP .Add) qS:=by
 intro t s σ H x y v u Q I g i h;obtain⟨l,b,xs,w,rfl,rfl,j,hB,A,q⟩:=h;cases g;cases i;obtain⟨z,f,n,r,B,e⟩:=I.lstM j;obtain⟨C,a,D,k,m,o⟩:=I.lstM hB;refine PySem.P.add_list e o ?_ (by rw[bD,bD];omega);have p:f.toArray++a.toArray=(f++a).toArray:=by simp
 rw[p];exact⟨.ref _,_,I.lnew (t':=s.toks) (r.append k) (by rw[aP];omega),rfl,q _ I.fresh⟩
end
end L2
namespace L2
open PySem PySem.Spec PyProof.Rows
section
variable{κ:Type}[DecidableEq κ]
def d4(kvs:List (κ×V))(k:κ):Option V:=(kvs.find? fun kv=>decide (kv.1=k)).map (·.2)
def hV(kvs:List (κ×V))(k:κ)(v:V):List (κ×V) :=
 if(kvs.any fun kv=>decide (kv.1=k))=true then kvs.map (fun kv=>if kv.1=k then(kv.1,v)else kv)else kvs++[(k,v)]
theorem d9{p:κ×V}{r:List (κ×V)}{k:κ}(e:p.1=k):d4 (p::r) k=some p.2:=by simp[d4,nq,e]
theorem dL{p:κ×V}{r:List (κ×V)}{k:κ}(e:¬p.1=k):d4 (p::r) k=d4 r k:=by simp[d4,nq,e]
theorem lC(k:κ):∀a:List (κ×V),(a.any fun f=>decide (f.1=k))=(d4 a k).isSome
 |[]=>rfl
 |p::r=>by
  rw[qr];by_cases e:p.1=k
  ·simp only[d9 e,zzr1 e,Bool.true_or,Option.isSome_some]
  ·rw[dL e,zzr0 e,Bool.false_or];exact lC k r
theorem zR(k j:κ)(y:V):∀a:List (κ×V),d4 (a.map fun f=>if f.1=k then(f.1,y)else f) j=(d4 a j).map fun x=>if j=k then y else x
 |[]=>rfl
 |p::r=>by
  have g:=zR k j y r;rw[cw];by_cases h:p.1=k
  ·rw[if_pos h];by_cases e:p.1=j
   ·rw[d9 (p:=(p.1,y)) e,d9 e,tR,if_pos (e.symm.trans h)]
   ·rw[dL (p:=(p.1,y)) e,dL e,g]
  ·rw[if_neg h];by_cases e:p.1=j
   ·rw[d9 (p:=p) e,d9 e,tR,if_neg (fun z=>h (e.trans z))]
   ·rw[dL (p:=p) e,dL e,g]
theorem vM(k j:κ)(y:V):∀a:List (κ×V),d4 a k=none->d4 (a++[(k,y)]) j=if j=k then some y else d4 a j
 |[],_=>by
  by_cases e:k=j
  ·rw[if_pos e.symm];exact d9 (p:=(k,y)) e
  ·rw[if_neg (fun z=>e z.symm)];exact dL (p:=(k,y)) e
 |p::r,f=>by
  rw[List.cons_append];have g:¬p.1=k:=fun z=>by rw[d9 z]at f;cases f
  rw[dL g]at f;have h:=vM k j y r f;by_cases e:p.1=j
  ·rw[d9 e,d9 e,if_neg (fun z=>g (e.trans z))]
  ·rw[dL e,dL e,h]
theorem zQ(f:List (κ×V))(k j:κ)(y:V):d4 (hV f k y) j=if j=k then some y else d4 f j:=by
 unfold hV;by_cases a:(f.any fun g=>decide (g.1=k))=true
 ·rw[if_pos a,zR];rw[lC]at a;by_cases e:j=k
  ·obtain⟨x,hx⟩:=tT.mp a;rw[if_pos e,e,hx,tR,if_pos rfl]
  ·rw[if_neg e];cases d4 f j with
   |none=>rfl
   |some x=>rw[tR,if_neg e]
 ·rw[if_neg a];refine vM k j y f ?_;rw[lC]at a;cases q:d4 f k with
  |none=>rfl
  |some x=>rw[q]at a;exact(a rfl).elim
theorem lQ(a:List (κ×V))(k:κ)(v:V):(hV a k v).length<=a.length+1:=by
 unfold hV;split
 ·rw[ao];omega
 ·rw[aP,dD,lz];omega
theorem ul{a:List (κ×V)}{k:κ}(v:V)(h:d4 a k=none):hV a k v=a++[(k,v)]:=by
 unfold hV;rw[lC,h];exact if_neg (by decide)
theorem i7.isSome_eq{o:Option V}{u:Option Value}(r:i7 o u):o.isSome=u.isSome:=by
 cases o with
 |none=>cases u with
  |none=>rfl
  |some _=>exact(show False from r).elim
 |some _=>cases u with
  |none=>exact(show False from r).elim
  |some _=>rfl
theorem i7.getD{o:Option V}{u:Option Value}{d:V}{a:Value}(r:i7 o u)(e:RelV d a):RelV (o.getD d) (u.getD a):=by
 cases o with
 |none=>cases u with
  |none=>exact e
  |some _=>exact(show False from r).elim
 |some _=>cases u with
  |none=>exact(show False from r).elim
  |some _=>exact r
theorem KV.val{a:List (κ×V)}{g:List (κ×Value)}(r:KV a g)(k:κ):i7 (d4 a k) (nk g k):=by
 unfold KV at r
 induction r with
 |nil=>exact g8
 |@cons p q m qs h t j =>
  obtain⟨i,l⟩:=h;by_cases e:p.1=k
  ·have f:q.1=k:=i.symm.trans e;have b:nk (q::qs) k=some q.2:=by simp[nk,nq,f]
   rw[d9 e,b];exact l
  ·have f:¬q.1=k:=fun z=>e (i.trans z);have b:nk (q::qs) k=nk qs k:=by simp[nk,nq,f]
   rw[dL e,b];exact j
theorem KV.any{a:List (κ×V)}{f:List (κ×Value)}(r:KV a f)(k:κ):(a.any fun e=>decide (e.1=k))=f.any fun e=>decide (e.1=k):=by
 unfold KV at r
 induction r with
 |nil=>rfl
 |cons h t g=>rw[qr,qr,g,h.1]
theorem KV.repl{f:List (κ×V)}{i:List (κ×Value)}(r:KV f i)(k:κ){y:V}{u:Value}(j:RelV y u):
  KV (f.map fun a=>if a.1=k then(a.1,y)else a) (i.map fun a=>if a.1=k then(a.1,u)else a):=by
 unfold KV at r ⊢
 induction r with
 |nil=>exact .nil
 |@cons p q n qs h t l =>
  rw[cw,cw];refine .cons ?_ l;obtain⟨g,m⟩:=h;by_cases e:p.1=k
  ·rw[if_pos e,if_pos (g.symm.trans e)];exact⟨g,j⟩
  ·rw[if_neg e,if_neg (fun z=>e (g.trans z))];exact⟨g,m⟩
theorem KV.put{a:List (κ×V)}{f:List (κ×Value)}(r:KV a f)(k:κ){y:V}{u:Value}(g:RelV y u):KV (hV a k y) (stored f k u):=by
 unfold hV stored;rw[r.any k];by_cases e:(f.any fun h=>decide (h.1=k))=true
 ·rw[if_pos e,if_pos e];exact r.repl k g
 ·rw[if_neg e,if_neg e];exact eE r ⟨rfl,g⟩
theorem KV.length{a:List (κ×V)}{e:List (κ×Value)}(r:KV a e):a.length=e.length:=Paired.length r
end
theorem rS{P:bu}{w:World}{k:fA}{u:Value}(r:RelV (kV k) u):(cI P w).is k u=true:=by
 cases k with
 |inl i=>obtain⟨t,e⟩:=(show ∃t,u=Value.int i t from r);subst e;exact Ay P w i t
 |inr x=>obtain⟨t,e⟩:=(show ∃t,u=Value.str x t from r);subst e;exact Ax P w x t
theorem yR:∀{k:ou}{u:Value},RelV (JN k) u->i3 k u=true
 |none,u,r=>by cases(show u=Value.none from r);rfl
 |some (.inl i),u,r=>by obtain⟨t,rfl⟩:=r;exact mv i t
 |some (.inr x),u,r=>by obtain⟨t,rfl⟩:=r;exact mr x t
abbrev KT(K:Za)(H:Hp):List (TK×V)->List (TK×Addr×Value)->Prop:=Paired fun p q=>p.1=q.1/\Bi K H p.1 (.ref q.2.1)/\p.1.depth<=8/\RelV p.2 q.2.2
theorem KT.val{K:Za}{H:Hp}{a:List (TK×V)}{xs:List (TK×Addr×Value)}(r:KT K H a xs)(k:TK):i7 (d4 a k) ((atKey xs k).map (·.2)):=by
 induction r with
 |nil=>exact g8
 |@cons p q l qs h t i =>
  obtain⟨g,_,_,j⟩:=h;by_cases e:p.1=k
  ·have f:q.1=k:=g.symm.trans e;have b:atKey (q::qs) k=some q.2:=by simp[atKey,nq,f]
   rw[d9 e,b];exact j
  ·have f:¬q.1=k:=fun z=>e (g.trans z);have b:atKey (q::qs) k=atKey qs k:=by simp[atKey,nq,f]
   rw[dL e,b];exact i
theorem KT.repl{K:Za}{H:Hp}{a:List (TK×V)}{xs:List (TK×Addr×Value)}(r:KT K H a xs)(k:TK){y:V}{u:Value}(l:RelV y u):
  KT K H (a.map fun g=>if g.1=k then(g.1,y)else g) (xs.map (putAt k u)):=by
 induction r with
 |nil=>exact .nil
 |@cons p q n qs h t m =>
  rw[cw,cw];refine .cons ?_ m;obtain⟨f,i,j⟩:=h;unfold putAt;by_cases e:p.1=k
  ·rw[if_pos e,if_pos (f.symm.trans e)];exact⟨f,i,j.1,l⟩
  ·rw[if_neg e,if_neg (fun z=>e (f.trans z))];exact⟨f,i,j⟩
theorem KT.put{K:Za}{H:Hp}{a:List (TK×V)}{xs:List (TK×Addr×Value)}(r:KT K H a xs)(k:TK){b:Addr}{y:V}{u:Value}(g:Bi K H k (.ref b))(h:k.depth<=8)(f:RelV y u):
  KT K H (hV a k y) (storedH xs k b u):=by
 have e:(a.any fun i=>decide (i.1=k))=(atKey xs k).isSome:=by
  rw[lC,(r.val k).isSome_eq,Option.isSome_map]
 unfold hV storedH;rw[e];by_cases q:(atKey xs k).isSome=true
 ·rw[if_pos q,if_pos q];exact r.repl k f
 ·rw[if_neg q,if_neg q];exact eE r ⟨rfl,g,h,f⟩
theorem KT.keeps{K:Za}{H a:Hp}{kvs:List (TK×V)}{xs:List (TK×Addr×Value)}(r:KT K H kvs xs)(f:∀b e,H b=some (.tup e)->a b=some (.tup e)):KT K a kvs xs :=
 Paired.mapP r fun _ _ z=>⟨z.1,Bi.keeps f 8 z.2.2.1 z.2.1,z.2.2⟩
section
variable{P:bu}{w:World}{K:Za}{H:Hp}{h:Heap}{a:Addr}
theorem Jz{u:HO}(ok:k_ P w K H h)(e:Rd H a u):cF P w K H h a u:=e.ok ok
theorem rX{f:List (fA×V)}(ok:k_ P w K H h)(e:Rd H a (.dK f)):f.length<=ai/\(a==jF)=false/\∃g,KV f g/\h.DictOf (cI P w) a g :=
 show cF P w K H h a (.dK f)from Jz ok e
theorem LD{f:List (fA×V)}(ok:k_ P w K H h)(e:H a=some (.dK f)):f.length<=ai/\(a==jF)=false/\∃g,KV f g/\h.DictOf (cI P w) a g:=rX ok (.inl e)
theorem Kd(ok:k_ P w K H h)(y:K.In h):∀(d:Nat) {k:TK}{v:V}{u:Value},k.depth<=d->Bi K H k v->RelV v u->mO h k u:=by
 have z:∀(d:Nat) (s:∀{k:TK}{v:V}{u:Value},k.depth<=d->Bi K H k v->RelV v u->mO h k u) (g:List TK) (i:List V) (x:Zf),TK.depths g<=d->TKCs K H g i->bj i x->TAts h g x:=by
  intro d s g
  induction g with
  |nil =>
   intro i x _ hx r;have e:i=[]:=hx;subst e;cases r
   rfl
  |cons k g A =>
   intro i x j hx r;obtain⟨v,B,rfl,m,C⟩:=hx;cases r with
   |@cons _ u _ q G I =>
    have J:max k.depth (TK.depths g)<=d:=j;exact⟨u,q,rfl,s (by omega) m G,A B q (by omega) C I⟩
 intro d
 induction d with
 |zero =>
  intro k v u j hx r;cases k with
  |t l=>exact absurd j (by show ¬(TK.depths l+1<=0);omega)
  |k b =>
   have e:v=JN b:=hx;subst e;exact yR r
 |succ d s =>
  intro k v u j hx r;cases k with
  |k b =>
   have e:v=JN b:=hx;subst e;exact yR r
  |t l =>
   obtain⟨b,xs,rfl,D,hi⟩:=hx;cases(show u=Value.ref b from r);obtain⟨f,E,L,m,C,n,M⟩:∃f:List Value,bj xs f/\IsTup h b f.toArray:=by
    rcases D with D|⟨o,f,n,N,O,Q,T,r⟩
    ·obtain⟨_,f,E,p⟩:=(show cF P w K H h b (.tup xs)from ok b _ D);exact⟨f,E,p⟩
    ·exact⟨f.toList,r,o,y b o N,O,n,by simpa using Q⟩
   exact⟨b,L,f.toArray,n,rfl,m,C,M,by simpa using z d (fun m=>s m) l xs f (by have:TK.depths l+1<=d+1:=j;omega) hi E⟩
theorem Cb{k:TK}(ok:k_ P w K H h)(f:K.In h)(e:Bi K H k (.ref a))(g:k.depth<=8):(gb P w).is h k a:=⟨Kd ok f 8 g e rfl,g⟩
theorem uH{f:List (TK×V)}(ok:k_ P w K H h)(i:K.In h)(e:Rd H a (.dT f)):f.length<=ai/\(a==jF)=false /\
  ∃xs,KT K H f xs/\h.DictOfH (gb P w) a xs:=by
 obtain⟨z,y,xs,r,o,j,k,n,s,u,v,A⟩:=(show cF P w K H h a (.dT f)from Jz ok e);refine⟨z,y,xs,r,o,j,k,n,s,u,v,fun x hx=>?_,A⟩;have all:∀{l:List (TK×V)}{m:List (TK×Addr×Value)},KT K H l m->∀x∈m,(gb P w).is h x.1 x.2.1:=by
  intro l m q
  induction q with
  |nil=>intro x hx;exact nomatch hx
  |@cons p q C qs g t B =>
   intro x hx;rcases cz.mp hx with e|hx
   ·subst e;exact Cb ok i (by rw[<-g.1];exact g.2.1) (by rw[<-g.1];exact g.2.2.1)
   ·exact B x hx
 exact all r x hx
theorem JR{f:List (TK×V)}(ok:k_ P w K H h)(g:K.In h)(e:H a=some (.dT f)):f.length<=ai/\(a==jF)=false /\
  ∃xs,KT K H f xs/\h.DictOfH (gb P w) a xs:=uH ok g (.inl e)
end
mutual
def mN(K:Za)(H:Hp):TK->V->Prop
 |.k a,v=>v=JN a
 |.t l,v=>∃b xs,v=.ref b/\bE K H b xs/\TKIns K H l xs
def TKIns(K:Za)(H:Hp):List TK->List V->Prop
 |[],vs=>vs=[]
 |k::r,vs=>∃v us,vs=v::us/\mN K H k v/\TKIns K H r us
end
theorem i6.isIn{K:Za}{H:Hp}:∀(d:Nat) {k:TK}{v:V},k.depth<=d->i6 H k v->mN K H k v:=by
 have h:∀(d:Nat) (f:∀{k:TK}{v:V},k.depth<=d->i6 H k v->mN K H k v) (xs:List TK) (g:List V),TK.depths xs<=d->TKAts H xs g->TKIns K H xs g:=by
  intro d f xs
  induction xs with
  |nil=>intro g _ hx;exact hx
  |cons x xs i =>
   intro g e hx;obtain⟨v,n,rfl,j,m⟩:=hx;have o:max x.depth (TK.depths xs)<=d:=e;exact⟨v,n,rfl,f (by omega) j,i n (by omega) m⟩
 intro d
 induction d with
 |zero =>
  intro k v e hx;cases k with
  |t l=>exact absurd e (by show ¬(TK.depths l+1<=0);omega)
  |k a=>exact hx
 |succ d f =>
  intro k v e hx;cases k with
  |k a=>exact hx
  |t l =>
   obtain⟨b,xs,rfl,p,hi⟩:=hx;exact⟨b,xs,rfl,bE.of p,h d (fun q=>f q) l xs (by have:TK.depths l+1<=d+1:=e;omega) hi⟩
theorem Il{X:Cx}{y:Zd}{σ:St}{H:Hp}{s:Shared}(I:Inv X y σ H s):∀(d:Nat) {k:TK}{v:V}{u:Value},k.depth<=d->mN X.K H k v->RelV v u->mO s.heap k u:=by
 have p:∀(d:Nat) (m:∀{k:TK}{v:V}{u:Value},k.depth<=d->mN X.K H k v->RelV v u->mO s.heap k u) (a:List TK) (f:List V) (o:Zf),TK.depths a<=d->TKIns X.K H a f->bj f o->TAts s.heap a o:=by
  intro d m a
  induction a with
  |nil =>
   intro f o _ hx r;have e:f=[]:=hx;subst e;cases r
   rfl
  |cons k a q =>
   intro f o g hx r;obtain⟨v,w,rfl,h,x⟩:=hx;cases r with
   |@cons _ u _ i z A =>
    have B:max k.depth (TK.depths a)<=d:=g;exact⟨u,i,rfl,m (by omega) h z,q w i (by omega) x A⟩
 intro d
 induction d with
 |zero =>
  intro k v u g hx r;cases k with
  |t l=>exact absurd g (by show ¬(TK.depths l+1<=0);omega)
  |k b =>
   have e:v=JN b:=hx;subst e;exact yR r
 |succ d m =>
  intro k v u g hx r;cases k with
  |k b =>
   have e:v=JN b:=hx;subst e;exact yR r
  |t l =>
   obtain⟨b,xs,rfl,C,hi⟩:=hx;cases(show u=Value.ref b from r);obtain⟨j,D,⟨E,h,x,n,G⟩,_⟩:=I.tuple C;exact⟨b,E,j.toArray,n,rfl,h,x,G,by simpa using p d (fun h=>m h) l xs j (by have:TK.depths l+1<=d+1:=g;omega) hi D⟩
theorem yQ{X:Cx}{f:Zd}{σ:St}{H:Hp}{s:Shared}{k:TK}{b:Addr}(I:Inv X f σ H s)(e:mN X.K H k (.ref b))(a:k.depth<=8):(gb X.prog X.w).is s.heap k b:=⟨Il I 8 a e rfl,a⟩
theorem iJ{P:bu}{w:World}{A:Around}(a:A.units+16<cLine):(gb P w).room A.in1:=by
 show A.units+1+8<cLine;omega
def zC(K:Za)(H:Hp)(a:Addr)(y:V)(r:Option V):Prop :=
 (∃kvs k,Rd H a (.dK kvs)/\y=kV k/\r=d4 kvs k)∨∃kvs k b,Rd H a (.dT kvs)/\y=.ref b/\mN K H k (.ref b)/\k.depth<=8/\r=d4 kvs k
def LR(H:Hp)(a:Addr)(y v:V)(H':Hp):Prop :=
 (∃kvs k,H a=some (.dK kvs)/\y=kV k/\kvs.length<ai/\H'=upd H a (.dK (hV kvs k v))) ∨
 ∃kvs k b,H a=some (.dT kvs)/\y=.ref b/\i6 H k (.ref b)/\k.depth<=8/\kvs.length<ai/\H'=upd H a (.dT (hV kvs k v))
section
variable{X:Cx}{J5:Zd}{σ:St}{H:Hp}{s:Shared}{a:Addr}{y v:V}{u r:Value}{o:Option V}{A:Around}{E:Zc}
theorem Inv.big(I:Inv X J5 σ H s):jF<s.heap.objs.size:=by
 have h:bh<s.heap.objs.size:=(I.mod.glob.keeps I.bk).lt;exact Nat.lt_trans (by decide) h
theorem Fa{Q:Zc}(D:A.units+16<cLine)(I:Inv X J5 σ H s)(g:zC X.K H a y (some v))(B:RelV y u)(h:∀j C,Inv X J5 σ H C->RelV v j->Q j C):
  wpAny (model X.prog X.w) A (gK (.ref a) u) Q E s:=by
 rcases g with⟨m,k,e,n,l⟩|⟨m,k,b,e,n,G,J,l⟩
 ·subst n;obtain⟨z,L,M,f,q⟩:=rX I.hok e;obtain⟨j,t,i⟩:=i7.some_of (v:=v) (o:=nk M k) (by rw[l];exact f.val k);exact wpAny_getItem_of (rS B) q.mapOf t (h j _ (I.tok _) i)
 ·subst n;cases(show u=Value.ref b from B);obtain⟨z,L,xs,f,q⟩:=uH I.hok I.kIn e;obtain⟨j,t,i⟩:=i7.some_of (v:=v) (o:=(atKey xs k).map (·.2)) (by rw[l];exact f.val k);obtain⟨p,N,x⟩:=ib.mp t;refine wpAny_getItem_heap (iJ D) (yQ I G J) q N ?_;rw[x];exact h j _ (I.tok _) i
theorem d_in{Q:Zc}(t:A.units+16<cLine)(I:Inv X J5 σ H s)(g:zC X.K H a y o)(n:RelV y u)(h:∀p,Inv X J5 σ H p->Q (.bool o.isSome) p):
  wpAny (model X.prog X.w) A (eJ .In u (.ref a)) Q E s:=by
 rcases g with⟨i,k,e,j,l⟩|⟨i,k,b,e,j,x,B,l⟩
 ·subst j;obtain⟨z,hd,C,f,m⟩:=rX I.hok e;refine wpAny_in_of (rS n) hd m.mapOf ?_;rw[<-(f.val k).isSome_eq,<-l];exact h _ (I.tok _)
 ·subst j;cases(show u=Value.ref b from n);obtain⟨z,hd,xs,f,m⟩:=uH I.hok I.kIn e;refine wpAny_in_heap (iJ t) (yQ I x B) hd m ?_;have q:=(f.val k).isSome_eq;rw[Option.isSome_map]at q;rw[<-q,<-l];exact h _ (I.tok _)
theorem Jf{Q:Zc}(t:A.units+16<cLine)(I:Inv X J5 σ H s)(g:zC X.K H a y o)(n:RelV y u)(h:∀p,Inv X J5 σ H p->Q (.bool (!o.isSome)) p):
  wpAny (model X.prog X.w) A (eJ .NotIn u (.ref a)) Q E s:=by
 rcases g with⟨i,k,e,j,l⟩|⟨i,k,b,e,j,x,B,l⟩
 ·subst j;obtain⟨z,hd,C,f,m⟩:=rX I.hok e;refine wpAny_notIn_of (rS n) hd m.mapOf ?_;rw[<-(f.val k).isSome_eq,<-l];exact h _ (I.tok _)
 ·subst j;cases(show u=Value.ref b from n);obtain⟨z,hd,xs,f,m⟩:=uH I.hok I.kIn e;refine wpAny_notIn_heap (iJ t) (yQ I x B) hd m ?_;have q:=(f.val k).isSome_eq;rw[Option.isSome_map]at q;rw[<-q,<-l];exact h _ (I.tok _)
theorem yY{f:Heap}{g:Nat}{ob:HO}(I:Inv X J5 σ H s)(h:LK (H a))(i:jE a s.heap f)(j:∃q,f.get? a=some q)(new:cF X.prog X.w X.K (upd H a ob) f a ob):
  Inv X J5 σ (upd H a ob) { s with heap:=f,toks:=g } :=
 I.write (x:=a) (e:=a) h (.inl rfl) (fun b q k z=>(i.2 b k).trans z) j new
theorem Ho{P:bu}{w:World}{K:Za}{i:Hp}{h:Heap}{e:List (fA×V)}{f:List (fA×Value)}(z:e.length<=ai)(j:(a==jF)=false)(g:KV e f)(k:h.DictOf (cI P w) a f):
  cF P w K i h a (.dK e):=⟨z,j,f,g,k⟩
theorem E_{J:Hp}{Q:Unit->Shared->Prop}(Y:A.units+16<cLine)(I:Inv X J5 σ H s)(g:LR H a y v J)(L:RelV y u)(M:RelV v r)(h:∀N,Inv X J5 σ J N->Q () N):
  wpAny (model X.prog X.w) A (setItem (.ref a) u r) Q E s:=by
 rcases g with⟨f,k,e,p,l,t⟩|⟨f,k,b,e,p,O,m,l,t⟩
 ·subst p t;obtain⟨z,x,vs,i,B⟩:=LD I.hok e;have C:vs.length<=ai:=by rw[<-i.length];exact z
  have D:(hV f k v).length<=ai:=by have:=lQ f k v;omega
  refine wpAny_setItem_pairs (hsz:=C) (rS L) B fun T j G=>h _ ?_;have he:∃q,T.get? a=some q:=let⟨q,_,_,n,_⟩:=j;⟨q,n⟩;exact yY I (by rw[e];exact g8) G he (Ho D x (i.put k M) j)
 ·subst p t;cases(show u=Value.ref b from L);obtain⟨z,x,xs,i,B⟩:=JR I.hok I.kIn e;have C:xs.length<=ai:=by rw[<-Paired.length i];exact z
  have D:(hV f k v).length<=ai:=by have:=lQ f k v;omega
  refine wpAny_setItem_heap (hsz:=C) (iJ Y) (Cb I.hok I.kIn (i6.c 8 m O) m) B fun T j G=>h _ ?_;obtain⟨q,es,ep,n,h2,h3,h4,_,h5⟩:=j;refine yY I (by rw[e];exact g8) G ⟨q,n⟩ ⟨D,x,_,(i.put k (i6.c 8 m O) m M).keeps fun c ys U=>?_,q,es,ep,n,h2,h3,h4,h5⟩;rw[am (JK U e (fun z=>nomatch z))];exact U
end
def Fn(i:Expr):Prop:=∀ov iv,xz i false ov iv=operate [ov,iv] (gK ov iv)
theorem Iu{a:bu}{w:World}{A:Around}{E:Zc}{s:Shared}{k:Env}{value slice:Expr}{p:Pos}{T id:String}{Q:Zc}
  (t:qw (.type T) "__getitem__"=pure (some (.builtin id))) (u:Fn slice)
  (h:wpAny (model a w) A (eval value k) (fun o g=>wpAny (model a w) A (eval slice k) (fun i e=>e.TypeIs o T/\wpAny (model a w) A (gK o i) Q E e) E g) E s) :
  wpAny (model a w) A (eval (.Subscript value slice p) k) Q E s:=by
 refine xC (cM h (fun o g m=>cM m (fun i e f=>?_) fun _ _ x=>x) fun _ _ x=>x);obtain⟨q,f⟩:=f;unfold xB;refine ak ?_;rw[getitemInPython_of_ne q.not_modules];refine ak (HX q t ?_);have l:wpAny (model a w) A (xz slice false o i) (fun r j=>wpAny (model a w) A (letTemporaryGo value o r >>= fun _=>pure r) Q E j) E e:=by
  rw[u o i];exact wpAny_operating (cM f (fun r j n=>ak (wpAny_letTemporaryGo (ap n))) fun _ _ x=>x)
 first
  |exact ap (ak l)
  |exact ak (ap (ak l))
  |exact ak l
theorem AK{X:Cx}{i:Zd}{σ:St}{H:Hp}{s:Shared}{a:Addr}{y:V}{o:Option V}(I:Inv X i σ H s)(g:zC X.K H a y o):s.TypeIs (.ref a) "dict":=by
 rcases g with⟨f,k,e,_,_⟩|⟨f,k,b,e,_,_,_⟩
 ·obtain⟨_,_,j,_,h⟩:=rX I.hok e;exact h.typeIs
 ·obtain⟨_,_,xs,_,h⟩:=uH I.hok I.kIn e;exact h.typeIs
def C7(K:Za)(td ty:TE):TE:=fun σ H Q=>td σ H fun x H1=>ty σ H1 fun y H2=>∃a v,x=.ref a/\zC K H2 a y (some v)/\Q v H2
def Iq(K:Za)(ty td:TE):TE:=fun σ H Q=>ty σ H fun y H1=>td σ H1 fun x H2=>∃a o,x=.ref a/\zC K H2 a y o/\Q (.bl o.isSome) H2
def sJ(K:Za)(ty td:TE):TE:=fun σ H Q=>ty σ H fun y H1=>td σ H1 fun x H2=>∃a o,x=.ref a/\zC K H2 a y o/\Q (.bl (!o.isSome)) H2
def vS(td ty tv:TE):TS:=fun D σ H=>tv σ H fun v H1=>td σ H1 fun x H2=>ty σ H2 fun y H3=>∃a H4,x=.ref a/\LR H3 a y v H4/\D.nx σ H4
section
variable{X:Cx}{o i e value:Expr}{pos pos' J9:Pos}{td ty tv:TE}
theorem yD(m:X.A.units+16<cLine)(n:PE X o td)(hi:PE X i ty)(p:Fn i):PE X (.Subscript o i pos) (C7 X.K td ty):=by
 intro k s σ H Q I h;refine Iu PySem.F.slot_dict_getitem.lookup p (cR (n k s σ H _ I h) fun u q ⟨x,r,t,w,z⟩=>cR (hi k q σ r _ t z) fun G J f=>?_);obtain⟨y,B,l,C,a,v,ex,g,D⟩:=f;subst ex;obtain rfl:u=Value.ref a:=w;exact⟨AK l g,Fa m l g C fun L M E j=>⟨v,B,E,j,D⟩⟩
theorem B2(k:X.A.units+16<cLine)(hi:PE X i ty)(l:PE X o td):PC X .In i o (Iq X.K ty td):=by
 intro j s σ H Q I h;refine cR (hi j s σ H _ I h) fun D m ⟨y,n,p,q,r⟩=>cR (l j m σ n _ p r) fun u E f=>?_;obtain⟨x,t,v,w,a,z,ex,g,B⟩:=f;subst ex;obtain rfl:u=Value.ref a:=w;exact d_in k v g q fun G C=>⟨.bl z.isSome,t,C,rfl,B⟩
theorem qU(k:X.A.units+16<cLine)(hi:PE X i ty)(l:PE X o td):PC X .NotIn i o (sJ X.K ty td):=by
 intro j s σ H Q I h;refine cR (hi j s σ H _ I h) fun D m ⟨y,n,p,q,r⟩=>cR (l j m σ n _ p r) fun u E f=>?_;obtain⟨x,t,v,w,a,z,ex,g,B⟩:=f;subst ex;obtain rfl:u=Value.ref a:=w;exact Jf k v g q fun G C=>⟨.bl (!z.isSome),t,C,rfl,B⟩
theorem pB(k:X.A.units+16<cLine)(l:PE X o td)(hi:PE X i ty)(m:PE X value tv)(n:mT value (some (.Subscript o i pos')) pos.line X.env=pure false):
  PS X (.Assign [.Subscript o i pos'] value pos) (vS td ty tv):=by
 intro f s σ H D I h;refine wpAny_Assign_Subscript (cR (m f s σ H _ I h) fun r p ⟨v,q,t,w,z⟩=>cR (l f p σ q _ t z) fun u B ⟨x,C,E,G,J⟩=>cR (hi f B σ C _ E J) fun T U j=>?_) n;obtain⟨y,Y,L,M,a,N,ex,g,O⟩:=j;subst ex;obtain rfl:u=Value.ref a:=G;exact E_ k L g M w fun s4 Q=>⟨σ,N,Q,O⟩
end
theorem Hq{P:bu}{w:World}{K:Za}{H:Hp}(h:Heap)(a:jF<h.objs.size):cF P w K H (h.push { cls:=.type "dict",data:=.dict #[] }) h.objs.size (.dK []) :=
 ⟨cp _,beq_eq_false_iff_ne.mpr (dJ (bX a)),[],.nil,Heap.DictOf.new h⟩
theorem Hn{P:bu}{w:World}{K:Za}{H:Hp}(h:Heap)(a:jF<h.objs.size):cF P w K H (h.push { cls:=.type "dict",data:=.dict #[] }) h.objs.size (.dT []) :=
 ⟨cp _,beq_eq_false_iff_ne.mpr (dJ (bX a)),[],.nil,_,#[],0,db _ rfl,⟨rfl,rfl,rfl⟩,rfl,rfl,List.nodup_nil⟩
def yk:TE:=fun _ H Q=>∀p,H p=none->Q (.ref p) (upd H p (.dK []))
def BH:TE:=fun _ H Q=>∀p,H p=none->Q (.ref p) (upd H p (.dT []))
section
variable{X:Cx}{pos:Pos}
theorem ut:PE X (.Dict [] [] pos) yk:=fun e s σ H Q I h =>
 wpAny_Dict_empty ⟨.ref s.heap.objs.size,_,I.laid (a:=s.heap.objs.size) (o:=.dK []) (t':=s.toks) (fun _ _ q=>bc _ q) (ay _) (Hq s.heap I.big),rfl,h _ (I.hok.fresh (ay _))⟩
theorem At:PE X (.Dict [] [] pos) BH:=fun e s σ H Q I h =>
 wpAny_Dict_empty ⟨.ref s.heap.objs.size,_,I.laid (a:=s.heap.objs.size) (o:=.dT []) (t':=s.toks) (fun _ _ q=>bc _ q) (ay _) (Hn s.heap I.big),rfl,h _ (I.hok.fresh (ay _))⟩
end
def jA(kvs more:List (fA×V)):List (fA×V):=more.foldl (fun acc kv=>hV acc kv.1 kv.2) kvs
theorem KV.merge:∀{a:List (fA×V)}{i:List (fA×Value)}{f:List (fA×V)}{g:List (fA×Value)},KV a i->KV f g->KV (jA f a) (merged g i):=by
 intro a i f g r;unfold KV at r
 induction r generalizing f g with
 |nil=>intro q;exact q
 |@cons p q l qs h t j =>
  intro k;have e:KV (hV f p.1 p.2) (stored g q.1 q.2):=by
   have:=k.put p.1 h.2;rw[<-h.1];exact this
  exact j e
theorem m8:∀(e a:List (fA×V)),(jA a e).length<=a.length+e.length
 |[],a=>by show a.length<=a.length+0;omega
 |p::r,a=>by
  have f:=m8 r (hV a p.1 p.2);have g:=lQ a p.1 p.2;show(jA (hV a p.1 p.2) r).length<=_;rw[dD];omega
structure M2(X:Cx)(o:Expr)(m:Str)(J7:Pos)(e f:Expr)(J6:Pos):Prop where
 base:vC o m X.env (eval o X.env)=eval o X.env
 few:((backTo J6 (aA [e,f] X.env)).all (fun x=>!x.1) && (j6 J6 (j5 [] X.env)).all (fun x=>x.1.isSome)
  && decide (([e,f]:List Expr).length+([]:List Keyword).length+(if([]:List Keyword).isEmpty then 0 else 1)<30))=true
 line:(J7.endLine==J6.line)=true
 trees:backTo J6 (aA [e,f] X.env)=[(false,eval e X.env),(false,eval f X.env)]
def IsD(H:Hp)(a:Addr):Prop:=(∃kvs,Rd H a (.dK kvs))∨∃kvs,Rd H a (.dT kvs)
theorem KG{X:Cx}{l:Zd}{σ:St}{H:Hp}{s:Shared}{a:Addr}(I:Inv X l σ H s)(d:IsD H a):
  s.TypeIs (.ref a) "dict"/\(∀b,Value.ref a=.ref b->∃f,s.heap.get? b=some f/\f.dict=none)/\(a==jF)=false:=by
 rcases d with⟨h,e⟩|⟨h,e⟩
 ·obtain⟨_,i,m,_,g⟩:=rX I.hok e;refine⟨g.typeIs,fun b q=>?_,i⟩;cases q;obtain⟨f,_,_,j,k,_⟩:=g;exact⟨f,j,k.2.1⟩
 ·obtain⟨_,i,xs,_,g⟩:=uH I.hok I.kIn e;refine⟨g.typeIs,fun b q=>?_,i⟩;cases q;obtain⟨f,_,_,j,k,_⟩:=g;exact⟨f,j,k.2.1⟩
section
variable{X:Cx}{J5:Zd}{σ:St}{H:Hp}{s:Shared}{a:Addr}{y d:V}{u r:Value}{o:Option V}{A:Around}{E:Zc}
theorem KL{Q:Zc}(x:A.units+16<cLine)(I:Inv X J5 σ H s)(g:zC X.K H a y o)(p:RelV y u)(q:RelV d r)(h:∀t v,Inv X J5 σ H v->RelV (o.getD d) t->Q t v):
  wpAny (model X.prog X.w) A (call (.builtin "dict.get") [.ref a,u,r]) Q E s:=by
 rcases g with⟨j,k,e,m,l⟩|⟨j,k,b,e,m,B,C,l⟩
 ·subst m;obtain⟨z,n,D,f,i⟩:=rX I.hok e;refine call_meetsIn PySem.F.slot_dict_get i.typeIs PySem.F.entry_dict_get (PySem.F.args_dict_get_3 _ _ _) (meets_dict_get_default (cI X.prog X.w) a (rS p) n r) ⟨_,i.mapOf,h _ _ (I.tok _) ?_⟩;rw[l];exact(f.val k).getD q
 ·subst m;cases(show u=Value.ref b from p);obtain⟨z,n,xs,f,i⟩:=uH I.hok I.kIn e;refine call_meetsIn PySem.F.slot_dict_get i.typeIs PySem.F.entry_dict_get (PySem.F.args_dict_get_3 _ _ _) (meetsH_dict_get_default (gb X.prog X.w) a b n r) ⟨iJ x,k,xs,yQ I B C,i,h _ _ (I.tok _) ?_⟩;rw[l];exact(f.val k).getD q
end
def ym(K:Za)(td ty tx:TE):TE:=fun σ H Q=>td σ H fun x H1=>∃a,x=.ref a/\IsD H1 a/\ty σ H1 fun y H2=>tx σ H2 fun z H3=>∃o,zC K H3 a y o/\Q (o.getD z) H3
section
variable{X:Cx}{o e f:Expr}{J7 J6:Pos}{td ty tx:TE}
theorem uu(n:X.A.units+16<cLine)(p:PE X o td)(q:PE X e ty)(hf:PE X f tx)(m:M2 X o "get" J7 e f J6):PE X (.Call (.Attribute o "get" J7) [e,f] [] J6) (ym X.K td ty tx):=by
 intro i s σ H Q I h;refine wpAny_Call_method m.base m.few m.line PySem.F.plainAttrs_dict PySem.F.slot_dict_get PySem.F.type_dict_get (cR (p i s σ H _ I h) fun u r j=>?_);obtain⟨x,t,l,v,a,ex,d,w⟩:=j;subst ex;obtain rfl:u=Value.ref a:=v;obtain⟨B,C,_⟩:=KG l d;refine⟨B,C,?_⟩;rw[m.trees];refine Calls.callWith_builtin rfl (Calls.evalArgs_plain (Calls.spliced_cons (cR (q i r σ t _ l w) fun Y D ⟨y,E,G,J,L⟩ =>
  Calls.spliced_cons (cR (hf i D σ E _ G L) fun fv s3 ⟨z,M,N,O,ov,g,T⟩=>Calls.spliced_nil ?_))))
 exact KL n N g J O fun w' s4 U k=>⟨_,M,U,k,T⟩
end
end L2
namespace Att
open PySem PySem.W PySem.Calls PyProof.Rows
theorem ints_of_wellAll{P:Params}{h:Heap}:∀(e:List Int) (vs:Zf),WellAll P h vs (e.map WData.int)->gL vs e:=by
 intro e
 induction e with
 |nil =>
  intro vs w;rw[List.map_nil]at w;cases w;exact .nil
 |cons n e f =>
  intro vs w;rw[cw]at w;cases w with
  |cons a b =>
   cases a;exact .cons _ _ (f _ b)
theorem script_of{l:OpenLaw}{n:Nat}(u:l.most=some n){P:Params}{h:Heap}{args:List WData}{f:Zf}
  (g:l.row.toRowW.claim.pre args=true) (o:WellAll P h f args) :
  ∃a s e,f=[Value.ref a]/\args=[WData.list (e.map WData.int)]/\h.get? a=some { cls:=.type "list",data:=.seq s.toArray }/\gL s e/\e.length<=n:=by
 have p:WShape.hasAll [] args [.list .int]=true:=(pre_splitW g).1;have t:l.pre.holds [] { args:=args }=true:=(pre_splitW g).2;obtain⟨d,r,rfl,v,w⟩:=hasAllW_cons p;obtain rfl:=hasAllW_nil w;obtain⟨xs,rfl,x⟩:=hasW_list v;obtain⟨e,rfl⟩:=items_int x;have i:e.length<=n:=by
  unfold OpenLaw.pre at t;have k:(WTm.not (.lt (.lit (.int (n:Int))) (.len (.arg 0)))).holds [] { args:=[.list (e.map .int)] }=true:=by
   have k:=(holds_andW t).1;rw[u]at k;exact k
  have m:=condW_of k (w_not (w_lt w_lit (w_len_list (w_arg rfl))));rw[ao]at m;refine Nat.le_of_not_lt fun q=>?_;have y:(n:Int)<((e.length:Nat):Int):=by omega
  first
   | (rw[zzr1 y]at m;exact absurd m (by decide))
   | (simp at m;omega)
 cases o with
 |cons z A =>
  cases A;cases z with
  |list B j=>exact⟨_,_,e,rfl,rfl,B,ints_of_wellAll e _ j,i⟩
theorem post_true(l:OpenLaw)(args:List WData):l.row.toRowW.claim.post args (.bool true) args=true :=
 postW_of (r:=l.row.toRowW) (X:=(true==true))
  (show WShape.has [] (.bool true) .bool=true by first|rfl|decide|simp[WShape.has,WShape.arms,WShape.armsAll])
  (show(WTm.eq .res (.lit (.bool true))).value [] { args:=args,res:=some (.bool true),after:=args }=some (.bool (true==true))from w_eq_bool (w_res rfl) w_lit) rfl
theorem attach_call{l:OpenLaw}{n:Nat}{q:bu}{loose:Zb}{B:(Str->Option Value)->Heap->Prop}{C:World->Heap->Prop}{d:DefRec}
  (I:l.most=some n) (u:d.params.defaults=[])
  (call:∀(w:World) (g e:Shared) (p v:Str->Option Value) (i:Addr) (o:Obj) (x cd doc:Value) (a:Addr) (h:Zf) (s:List Int),
   Ground q loose [] B w g p v e.heap->C w e.heap ->
   e.heap.get? i=some o->o.data=.func (docDef d.name d.params d.body d.scope x cd doc)->e.heap.CodeRec cd d.name->p d.name=some (.ref i) ->
   e.heap.get? a=some { cls:=.type "list",data:=.seq h.toArray }->gL h s->s.length<=n->e.gens=#[] ->
   zzl87 (model l.prog w) lp (.call (.ref i) ⟨[.ref a],[]⟩) (fun r t=>r=.ok (.ret (.bool true))/\OldK e.heap t.heap/\t.os=e.os/\mV t.gens) e) :
  WalkO q loose B C l.row.toRowW d [] (fun f h=>PySem.call f h):=by
 intro w g e p v G Y i o x cd doc J kV L M y D z N args E as j H O A Q;obtain rfl:J=.none:=Dflts.none D u;obtain rfl:kV=.none:=Dflts.noKw D;obtain⟨a,h,s,rfl,rfl,k,hints,m⟩:=script_of I j A;refine enter_call (qD (call w g e p v i o x cd doc a h s G Y L (fd_plain M) y z k hints m N) fun r t T=>?_);obtain⟨rfl,U,h3,h4⟩:=T;exact⟨.inl ⟨.bool true,.bool true,[],rfl,fun _=>rfl,.bool true,post_true l _,fun _=>⟨List.Pairwise.nil,fun _ hm=>(nomatch hm)⟩⟩,U,h3,h4⟩
end Att
namespace L2
open PySem PySem.Spec PyProof.Rows
theorem vL:∀{a:Zf}{e:List Int},gL a e->bj (e.map V.int) a
 |_,_,.nil=>.nil
 |_,_,.cons n t h=>.cons ⟨t,rfl⟩ (vL h)
def Jn(H:Hp):Prop:=∀b,H b=none∨∃o xs,H b=some (.frz o (.lst xs))
theorem GY{P:bu}{w:World}{K:Za}{A T:Str->Option Value}{CX:Fv}{k:Nat}{U a:Addr}{fd:iw}{x:Str}{sp:Sp}{f:Shared}{t:Zf}{B:List Int}
  (KX:K.In f.heap) (C:f.heap.Ns bh A) (i:f.heap.Ns builtinsNs T) (Y:∀x:Str,x≠"__name__"->T x=ix x) (D:f.heap.NoLimit) (hg:f.gens=#[])
  (Q:f.heap.get? a=some { cls:=.type "list",data:=.seq t.toArray }) (hi:gL t B) (hl:B.length<=ai) (hr:dU k lp)
  (F:∀base:Heap,K.In base->base.Ns bh A->i8 P w K A base CX k U fd [x] sp) (y:∀(s:Shared) (u:Value),nG s fd ⟨[u],[]⟩ [(x,u)])
  (ab:∀H:Hp,Jn H->aF K H a (B.map V.int)->sp [.ref a] H (fun v _=>v=.bl true) fun _ _ _=>False)
  (al:∀H e j,CX [] H f (fun _ _ _=>False) e j->False) :
  zzl87 (model P w) lp (.call (.ref U) ⟨[.ref a],[]⟩) (fun r j=>r=.ok (.ret (.bool true))/\OldK f.heap j.heap/\j.os=f.os/\mV j.gens) f:=by
 have rv:=vL hi;have E:=hi.length;have p:∀H:Hp,Jn H->aF K H a (B.map V.int)->k_ P w K H f.heap->(∀b,H b≠none->b=a)->(H a≠none->K.lookup a=none) ->
   zzl87 (model P w) lp (.call (.ref U) ⟨[.ref a],[]⟩) (fun r j=>r=.ok (.ret (.bool true))/\OldK f.heap j.heap/\j.os=f.os/\mV j.gens) f:=by
  intro H hO hS G hA hK;have g:∀{b:Addr}{o:Obj},f.heap.get? b=some o->H b=none->(yS f.heap H).get? b=some o:=fun e n=>Hf e n;have an:∀{b:Addr}{o:Obj}{I:Array DictEntry}{J:Nat},f.heap.get? b=some o->o.data=.dict I J->H b=none:=fun{b o I J} e d=>by
   cases q:H b with
   |none=>rfl
   |some u =>
    have e':b=a:=hA b (by rw[q];simp);subst e';rw[Q]at e;cases e;have d':Data.seq t.toArray _=Data.dict I J:=d;cases d'
  have l:∀{b:Addr}{m:Str->Option Value},f.heap.Ns b m->(yS f.heap H).Ns b m:=fun{b m} ⟨o,I,J,e,d,r⟩=>⟨o,I,J,g e (an e d),d,r⟩;have L:K.In (yS f.heap H):=fun b o e=>g (KX b o e) (by
   cases q:H b with
   |none=>rfl
   |some u =>
    have e':b=a:=hA b (by rw[q];simp);subst e';rw[hK (by rw[q];simp)]at e;cases e)
  have hM:Mod K A (yS f.heap H):=⟨L,l C,⟨T,l i,Y⟩,let⟨mc,h1,h2⟩:=D;⟨mc,l h1,h2⟩⟩;have e0:CH P w K A (yS f.heap H) lp [] f H:=⟨rfl,hM,fun b o e=>IV e,Nat.le_of_eq (EV _ _),trivial,fun b i=>absurd (show b∈([]:Ze)from i) (by simp),G,.of_eq hg⟩;refine qD ((F _ L (l C)).run lp [] f H ⟨[.ref a],[]⟩ [.ref a] [.ref a] _ _ hr e0 (y f (.ref a)) (.cons rfl .nil) (ab H hO hS)) fun r j h=>?_;cases r with
  |error e=>exact(al H e j h).elim
  |ok fl =>
   cases fl with
   |next=>exact de h
   |brk=>exact de h
   |cont=>exact de h
   |ret u =>
    obtain⟨v,H',os,M,un,N,r',q⟩:=h;have q':v=.bl true:=q;subst q';obtain rfl:u=Value.bool true:=r';refine⟨rfl,OldK.of_keep fun b o e=>?_,os,M⟩;cases q:H b with
    |none=>exact un.keep b o e q (by intro z;exact absurd (show b∈([]:Ze)from z) (by simp)) (by simp)
    |some u =>
     rcases hO b with z|⟨ob,xs,z⟩
     ·rw[q]at z;cases z
     ·have z2:=un.frzs b ob _ z;obtain⟨e1,_⟩:=G b _ z;obtain⟨e2,_⟩:=N b _ z2;rw[e]at e1;cases e1;exact e2
 cases hk:K.lookup a with
 |some o =>
  have e:=KX a o hk;rw[Q]at e;cases e;refine p (fun _=>none) (fun _=>.inl rfl) (.inr ⟨_,t.toArray,_,hk,rfl,rfl,rfl,by rw[bD,E];exact hl,by simpa using rv⟩) (fun b u z=>by have O:(none:Option HO)=some u:=z;cases O) (fun b z=>absurd rfl z) fun z=>absurd rfl z
 |none =>
  refine p (fun b=>if b=a then some (.frz { cls:=.type "list",data:=.seq t.toArray } (.lst (B.map V.int)))else none) (fun b=>?_) (.inl (.inr ⟨{ cls:=.type "list",data:=.seq t.toArray },if_pos rfl⟩)) (fun b u z=>?_) (fun b z=>?_) fun _=>hk
  ·by_cases i:b=a
   ·exact .inr ⟨_,_,if_pos i⟩
   ·exact .inl (if_neg i)
  ·by_cases i:b=a
   ·have O:=(if_pos i).symm.trans z;cases O;subst i;exact⟨Q,by rw[ao];exact hl,t,_,rv,Q⟩
   ·have O:=(if_neg i).symm.trans z;cases O
  ·by_cases i:b=a
   ·exact i
   ·exact absurd (if_neg i) z
end L2
namespace L2
open PySem PySem.Spec PyProof.Rows
theorem Ii{l:PySem.W.OpenLaw}{n k:Nat}{q:bu}{loose:Zb}{N:(Str->Option Value)->Heap->Prop}{I:World->Heap->Prop}{d:DefRec}{K:Params->Za}{CX:World->Fv}{sp:World->Sp}{x:Str}
  (O:l.most=some n) (y:n<=ai) (z:d.params.defaults=[]) (Q:dU k lp)
  (U:∀(w:World) (h:Heap),I w h->(K w.params).In h)
  (F:∀(w:World) (j:Str->Option Value) (r:Addr) (h:Heap),(K w.params).In h->h.Ns bh j->j d.name=some (.ref r) ->
   ∃A:iw,(∀(s:Shared) (u:Value),nG s A ⟨[u],[]⟩ [(x,u)]) /\
    ∀base:Heap,(K w.params).In base->base.Ns bh j->i8 l.prog w (K w.params) j base (CX w) k r A [x] (sp w))
  (B:∀(w:World) (H:Hp) (a:Addr) (t:List Int),t.length<=n->Jn H->aF (K w.params) H a (t.map V.int)->sp w [.ref a] H (fun v _=>v=.bl true) fun _ _ _=>False)
  (C:∀(w:World) (H:Hp) (s:Shared) (e:Value) (D:Shared),CX w [] H s (fun _ _ _=>False) e D->False) :
  PySem.W.WalkO q loose N I l.row.toRowW d [] (fun f J=>PySem.call f J):=by
 refine Att.attach_call O z fun w L m j mb r o pm cd doc a J t G Y ho hd ab E p hints i hg=>?_;have M:=U w _ Y;obtain⟨A,hb,hF⟩:=F w j r _ M G.T.g E;exact GY M G.T.g G.T.b G.T.builtins G.T.nolimit hg p hints (bo i y) Q hF hb (fun H hO hS=>B w H a t i hO hS) fun H e D=>C w H m e D
theorem walk_ofK{l:PySem.W.OpenLaw}{n k:Nat}{q:bu}{loose:Zb}{A:(Str->Option Value)->Heap->Prop}{t:World->Heap->Prop}{d:DefRec}{K:Params->Za}{CX:Fv}{sp:Za->Sp}{x:Str}
  (B:l.most=some n) (j:n<=ai) (m:d.params.defaults=[]) (C:dU k lp)
  (D:∀(w:World) (h:Heap),t w h->(K w.params).In h)
  (F:∀(w:World) (g:Str->Option Value) (y:Addr) (h:Heap),(K w.params).In h->h.Ns bh g->g d.name=some (.ref y) ->
   ∃z:iw,(∀(s:Shared) (u:Value),nG s z ⟨[u],[]⟩ [(x,u)]) /\
    ∀base:Heap,(K w.params).In base->base.Ns bh g->i8 l.prog w (K w.params) g base CX k y z [x] (sp (K w.params)))
  (o:∀(K:Za) (H:Hp) (a:Addr) (i:List Int),i.length<=n->Jn H->aF K H a (i.map V.int)->sp K [.ref a] H (fun v _=>v=.bl true) fun _ _ _=>False)
  (p:∀(H:Hp) (s:Shared) (e:Value) (r:Shared),CX [] H s (fun _ _ _=>False) e r->False) :
  PySem.W.WalkO q loose A t l.row.toRowW d [] (fun f E=>PySem.call f E) :=
 Ii (K:=K) (CX:=fun _=>CX) (sp:=fun w=>sp (K w.params)) B j m C D F (fun w H a i G I J=>o (K w.params) H a i G I J) fun _ H s e r=>p H s e r
end L2
namespace L2
open PySem PySem.Spec PyProof.Rows
def kJ(s:Stmt)(j:Nat):Stmt:=match s with
 |.ClassDef _ _ _ body _ _ _ _ _ _ _=>body.getD j (.Pass ⟨0,0,0,0⟩)
 |_=>.Pass ⟨0,0,0,0⟩
def iH(s:Stmt):Arguments:=match s with
 |.FunctionDef _ a _ _ _ _ _ _ _ _=>a
 |_=>{ posonlyargs:=[],args:=[],vararg:=none,kwonlyargs:=[],kw_defaults:=[],kwarg:=none,defaults:=[] }
def fF(s:Stmt):List Stmt:=match s with
 |.FunctionDef _ _ b _ _ _ _ _ _ _=>b
 |_=>[]
def bC(s:Stmt):Scope:=match s with
 |.FunctionDef _ _ _ _ _ _ sc _ _ _=>sc
 |_=>{ kind:=.function,names:=[],isGenerator:=false,isCoroutine:=false }
abbrev CX0:Fv:=fun _ _ _ _ _ _=>False
abbrev E0:XK:=fun _ _ _=>False
abbrev aw(sp:Sp)(a:TA):TE:=iW sp [] E0 a
theorem Dl{X:Cx}:lV CX0 X E0:=fun _ _ _ _ _ _ _ h=>h.elim
structure JZ(K:Za)(x qual:Str)(st:Stmt)(f:Addr)(fd:iw):Prop where
 ex:∃(oc:Value) (od:Option Addr) (kV doc pm:Value) (an:Option Addr) (cdv ct:Value) (osl:Array (Option Value)),
  fd=iU x qual (iH st) (fF st) (bC st) .none kV doc pm an cdv ct/\K.lookup f=some ⟨oc,od,.func fd,osl⟩/\nD K cdv qual=true
 kp:cU K (.ref f)=true
section
variable{P:bu}{w:World}{K:Za}{mg:Str->Option Value}{base:Heap}
theorem JZ.ok{x a:Str}{st:Stmt}{f:Addr}{p:iw}{N j:Zb}{k:Nat}{l:Sp}(F:JZ K x a st f p)(S:g7 N j (bC st))(m:∀g H Q E,l g H Q E->g.length=j.length)
  (i:∀(e:Value) (A:Around) (outer:List Env) (s:Shared) (H:Hp) (g:List V) (Q:VK) (E:XK),dU k (A.deeper (envOfC a (bC st) s.heap.objs.size f e))->l g H Q E ->
   ∃t,zc (vq CX0 P w K mg base N a (bC st) f e A outer s H E).nox (fF st) t/\t (bq Q) (start N g) H):i8 P w K mg base CX0 (k+1) f p j l:=by
 obtain⟨v,y,kV,doc,z,B,e,C,r,rfl,lk,n⟩:=F.ex;refine JO lk n S m fun A outer s H g Q E u o=>?_;obtain⟨t,h,q⟩:=i e A outer s H g Q E u o;exact⟨t,h.nox,q⟩
theorem JZ.binds{x a:Str}{st:Stmt}{f:Addr}{l:iw}{ps:Zb}(F:JZ K x a st f l)
  (h:∀(kV doc g:Value) (i:Option Addr) (e j:Value) (k:Zf),k.length=ps.length->bindArgs (iU x a (iH st) (fF st) (bC st) .none kV doc g i e j) ⟨k,[]⟩=pure (ps.zip k)):Binds K l ps []:=by
 obtain⟨o,p,kV,doc,g,i,e,j,m,rfl,lk,n⟩:=F.ex;exact .all (h kV doc g i e j)
theorem Hk{x a:Str}{st:Stmt}{f:Addr}{m:Value}{n h:Option Addr}{g:Array (Option Value)}{kV doc i e j:Value}(l:K.lookup f=some ⟨m,n,.func (iU x a (iH st) (fF st) (bC st) .none kV doc i h e j),g⟩)
  (c:nD K e a=true) (k:cU K (.ref f)=true):JZ K x a st f (iU x a (iH st) (fF st) (bC st) .none kV doc i h e j):=⟨⟨m,n,kV,doc,i,h,e,j,g,rfl,l,c⟩,k⟩
end
theorem wg{A:Around}{k:Nat}(a:dU k A):A.units+16<cLine:=xx (Nat.add_le_add_left (by decide:16<=64) _) a.units
theorem ax{n:Nat}(h:n<=1000):n<ai:=xx h (by decide)
section
variable{X:Cx}
theorem pv(i:Nat){x:Str}{a:Pos}(f:X.N[i]?=some x:=by rfl)(g:Vis X.env.scope x:=by first|exact Or.inl rfl|exact Or.inr (Or.inl rfl)|exact Or.inr (Or.inr rfl))(h:(x==("__debug__":Str))=false:=by decide)
  (e:(x==("__classdict__":Str))=false:=by decide):PE X (.Name x a) (mG i):=Kv f g h e
end
theorem aZ{A B:Prop}(h:B):if false=true then A else B:=by
 rw[if_neg iO];exact h
theorem br{A B:Prop}(h:A):if true=true then A else B:=by
 rw[if_pos rfl];exact h
theorem pK{c A B:Prop}[Decidable c](a:c->A)(e:¬c->B):if c then A else B:=by
 by_cases h:c
 ·rw[if_pos h];exact a h
 ·rw[if_neg h];exact e h
def ac(H H':Hp):Prop:=∀b o,H b=some o->H' b=some o
theorem ac.refl(H:Hp):ac H H:=fun _ _ h=>h
theorem ac.trans{H e f:Hp}(a:ac H e)(b:ac e f):ac H f:=fun c o h=>b c o (a c o h)
theorem ac.free{H a:Hp}(e:ac H a){l:Addr}(h:a l=Option.none):H l=Option.none:=by
 cases q:H l with
 |none=>rfl
 |some o =>
  rw[e l o q]at h;cases h
theorem ac.seq{K:Za}{H f:Hp}{a:Addr}{xs:List V}(e:ac H f)(h:aF K H a xs):aF K f a xs:=by
 rcases h with(h|⟨o,h⟩)|h
 ·exact .inl (.inl (e _ _ h))
 ·exact .inl (.inr ⟨o,e _ _ h⟩)
 ·exact .inr h
section
variable{prog:bu}{w:World}{A:Around}{R:Result->Shared->Prop}{s:Shared}
abbrev XF:Value->Shared->Prop:=fun _ _=>False
abbrev Ch(ifs:List Expr)(env:Env):Sem Bool:=forIn ifs true fun c r=>if r=true then do let ok <- isTrue c env (eval c env);pure (xw ok)else pure (xw r)
theorem y0{t target j:Expr}{u:List Expr}{scope:Scope}{B:Pos}{it y:Value}{a:Env}(I:Nat->Shared->Prop)
  (turn:∀n s,I n s->wpAny (model prog w) A (pyNext it) (fun r e=>match r with
   |none=>R (.ok .next) e
   |some v=>wpAny (model prog w) A (CN target it v) (fun _ f=>wpAny (model prog w) A (assign target a v) (fun _ k =>
     wpAny (model prog w) A (Ch u a) (fun ok g =>
      if ok=true then wpAny (model prog w) A (eval t a) (fun x l =>
       wpAny (model prog w) A (call (.builtin "list.append") [y,x]) (fun _ o=>∃m,m<n/\I m o) XF l) XF g
      else ∃m,m<n/\I m g) XF k) XF f) XF e) XF s)
  (n:Nat) (h:I n s):zzl87 (model prog w) A (.compLoop (.ListComp t [⟨target,j,u,0⟩] scope B) 0 it y a) R s:=by
 refine codeAny_loop rfl I (fun n s G=>?_) n h;show wpAny _ A ((compTurn (.ListComp t [⟨target,j,u,0⟩] scope B) 0 it y a).onRaise (fun x=>do qq x a;theTreesLotGoes x)) _ _ s
 refine wpAny_noted ?_;rw[compTurn_list];refine ak (zJ (ak (cM (turn n s G) (fun r e p=>?_) fun _ _ i=>i.elim)));cases r with
 |none=>exact ap p
 |some v =>
  refine ak (cM p (fun _ f z=>?_) fun _ _ i=>i.elim);refine ak (cM z (fun _ k C=>ak (cM C (fun ok g q=>?_) fun _ _ i=>i.elim)) fun _ _ i=>i.elim);cases ok with
  |false=>exact ap ⟨rfl,q⟩
  |true =>
   exact ak (ak (cM q (fun x l D=>ak (cM D (fun _ o E=>ap (ap ⟨rfl,E⟩)) fun _ _ i=>i.elim)) fun _ _ i=>i.elim))
end
theorem oj{env:Env}:∀(names:List (Str×gM)) (a:List (Str×Addr)),(∀y∈names,y.2=.free->∃c,env.cells.lookup y.1=some c)->(∀x c,a.lookup x=some c->env.cells.lookup x=some c) ->
  ∃f:List (Str×Addr),(forIn names a fun(x:Str×gM) (r:List (Str×Addr))=>if(x.2==ln)=true then(cellOf env x.1 >>= fun c=>(pure (xw ((x.1,c)::r)):Sem (ForInStep (List (Str×Addr)))))else pure (xw r))=pure f /\
   (∀x c,f.lookup x=some c->env.cells.lookup x=some c)/\(∀x,(a.lookup x).isSome=true->(f.lookup x).isSome=true)/\∀y∈names,y.2=.free->(f.lookup y.1).isSome=true
 |[],a,_,m=>⟨a,rfl,m,fun _ h=>h,fun _ h=>nomatch h⟩
 | (n,k)::r,a,has,m=>by
  have t:∀y∈r,y.2=.free->∃c,env.cells.lookup y.1=some c:=fun y hy=>has y (eK _ hy);by_cases p:k=.free
  ·subst p;obtain⟨c,u⟩:=has (n,.free) fh rfl;obtain⟨f,e,q,o,s⟩:=oj r ((n,c)::a) t (fun x d l=>by
    rw[iT]at l;cases hx:x==n with
    |true =>
     rw[hx]at l;have:x=n:=by simpa using hx
     subst this;cases l;exact u
    |false=>rw[hx]at l;exact m x d l)
   have g:(((n,c)::a).lookup n).isSome=true:=by rw[iT,beq_self_eq_true];rfl
   have i:∀x,(a.lookup x).isSome=true->(((n,c)::a).lookup x).isSome=true:=fun x hx=>by
    rw[iT];cases x==n with
    |true=>rfl
    |false=>exact hx
   refine⟨f,?_,q,fun x hx=>o x (i x hx),fun y hy hf=>?_⟩
   ·rw[tQ];have j:cellOf env n=pure c:=by unfold cellOf;rw[u]
    simp only[beq_self_eq_true,if_true,j];exact e
   ·rcases cz.mp hy with rfl|hy
    ·exact o _ g
    ·exact s y hy hf
  ·obtain⟨f,e,q,o,s⟩:=oj r a t m;refine⟨f,?_,q,o,fun y hy hf=>?_⟩
   ·rw[tQ];have v:(k==ln)=false:=by simpa using p
    simp only[v,tI,if_false];exact e
   ·rcases cz.mp hy with rfl|hy
    ·exact absurd hf p
    ·exact s y hy hf
theorem oh{env:Env}{scope:Scope}(has:∀y∈scope.names,y.2=.free->∃c,env.cells.lookup y.1=some c):
  ∃a:List (Str×Addr),closureFor scope env=pure a/\(∀x c,a.lookup x=some c->env.cells.lookup x=some c)/\∀y∈scope.names,y.2=.free->(a.lookup y.1).isSome=true:=by
 obtain⟨a,e,f,_,g⟩:=oj (env:=env) scope.names [] has (fun _ _ h=>nomatch h);refine⟨a,?_,f,g⟩;unfold closureFor
 first
  |exact e
  | (simp only[bind_pure];exact e)
  | (rw[show(forIn scope.names [] _:Sem (List (Str×Addr)))=pure a from e];rfl)
def dq(X:Cx)(N:Zb)(scope:Scope)(C:Addr)(cl:List (Str×Addr))(s₀:Shared)(H₀:Hp)(ex:Ze)(pn:Zd):Cx where
 prog:=X.prog
 w:=X.w
 K:=X.K
 mg:=X.mg
 base:=X.base
 A:=X.A
 N:=N
 s₀:=s₀
 H₀:=H₀
 env:=compEnvC scope cl C X.env
 outer:=X.stack
 stack:=X.stack
 ex:=ex
 fn:=fun _=>false
 calm:=X.calm
 pn:=pn
 xe:=XF
def kM(sc scope:Scope)(k:Nat)(N XN:Zb)(fi:List Nat):Bool :=
 decide (scope.kind=.function) &&
 (scope.names.all fun y=>decide (y.2≠.cell) && (decide (y.2≠.local) || decide (scope.names.lookup y.1=some .local)) && (decide (y.2≠.free) || decide (sc.names.lookup y.1=some .cell) || decide (sc.names.lookup y.1=some .free))) &&
 decide (N.length=k+fi.length) &&
 ((iQ fi.length).all fun j=>match fi[j]? with
  |some i=>match N[k+j]?,XN[i]? with
   |some x,some y=>decide (x=y) && decide (scope.names.lookup x=some .free)
   |_,_=>false
  |none=>false)
structure lZ(sc scope:Scope)(k:Nat)(N XN:Zb)(fi:List Nat):Prop where
 kind:scope.kind=.function
 cell:∀y∈scope.names,y.2≠.cell
 nm:∀y∈scope.names,y.2=.local->scope.names.lookup y.1=some .local
 fr:∀y∈scope.names,y.2=.free->sc.names.lookup y.1=some .cell∨sc.names.lookup y.1=some .free
 len:N.length=k+fi.length
 sl:∀j i,fi[j]?=some i->∃x,N[k+j]?=some x/\XN[i]?=some x/\scope.names.lookup x=some .free
theorem lZ.of{sc scope:Scope}{k:Nat}{N g:Zb}{l:List Nat}(h:kM sc scope k N g l=true):lZ sc scope k N g l:=by
 unfold kM at h;simp only[tS,List.all_eq_true,Bool.or_eq_true,decide_eq_true_eq]at h;obtain⟨⟨⟨n,m⟩,o⟩,p⟩:=h;refine⟨n,fun y f=>(m y f).1.1,fun y f e=>((m y f).1.2).resolve_left fun z=>z e,fun y f e=>?_,o,fun j i e=>?_⟩
 ·rcases(m y f).2 with(z|z)|z
  ·exact absurd e z
  ·exact .inl z
  ·exact .inr z
 ·have r:j<l.length:=(cV.mp e).1;have q:=p j (List.mem_range.mpr r);rw[e]at q;dsimp only at q;cases a:N[k+j]? with
  |none=>rw[a]at q;cases q
  |some x =>
   cases b:g[i]? with
   |none=>rw[a,b]at q;cases q
   |some y =>
    rw[a,b]at q;simp only[tS,decide_eq_true_eq]at q;exact⟨x,rfl,by rw[q.1],q.2⟩
theorem iA{a:Env}:∀{names:List (Str×gM)}{x:Str},names.lookup x=some .free ->
  (names.map fun(n,k)=>if(k==ln && a.scope.kind==.function && a.kindOf n==some .cell)then(n,gM.cell)else(n,k)).lookup x=some .cell ∨
  (names.map fun(n,k)=>if(k==ln && a.scope.kind==.function && a.kindOf n==some .cell)then(n,gM.cell)else(n,k)).lookup x=some .free
 |[],_,h=>by simp at h
 | (n,k)::r,x,h=>by
  have f:=@iA a r x;simp only[cw];cases hx:x==n with
  |true =>
   simp only[iT,hx]at h;cases h;by_cases e:(ln==ln && a.scope.kind==.function && a.kindOf n==some .cell)=true
   ·left;rw[if_pos e];simp[iT,hx]
   ·right;rw[if_neg e];simp[iT,hx]
  |false =>
   simp only[iT,hx]at h;by_cases e:(k==ln && a.scope.kind==.function && a.kindOf n==some .cell)=true
   ·rw[if_pos e];simp only[iT,hx];exact f h
   ·rw[if_neg e];simp only[iT,hx];exact f h
def cL(k:Nat)(fi:List Nat)(σ:St):St:=dz k none++fi.map fun i=>(σ[i]?).join
theorem Cp(k:Nat)(a:List Nat)(σ:St):(cL k a σ).length=k+a.length:=by simp[cL]
theorem uL{k:Nat}{f:List Nat}{σ:St}{i:Nat}{v:V}(h:(cL k f σ)[i]?=some (some v)):∃j t,i=k+j/\f[j]?=some t/\σ[t]?=some (some v):=by
 unfold cL at h;by_cases hi:i<k
 ·rw[List.getElem?_append_left (by simpa using hi),List.getElem?_replicate_of_lt hi]at h;cases h
 ·rw[qz (by simp;omega),fG,dj]at h;refine⟨i-k,?_⟩;cases e:f[i-k]? with
  |none=>rw[e]at h;cases h
  |some t =>
   rw[e]at h;simp only[tR]at h;refine⟨t,by omega,rfl,?_⟩;have a:=fx h;cases g:σ[t]? with
   |none=>rw[g]at a;cases a
   |some o=>rw[g]at a;simp only[Option.join]at a;first|(rw[a])|(subst a;rfl)|(simpa using a)
def zf(k:Nat)(g:TG):Prop:=∀x σ H Q,g x σ H Q->g x σ H fun σ2 H2=>Q σ2 H2/\σ2.length=σ.length/\∀i,k<=i->σ2[i]?=σ[i]?
def DW(k:Nat)(g:Fy):Prop:=∀x σ H Q,g x σ H Q->g x σ H fun σ2 H2=>Q σ2 H2/\σ2.length=σ.length/\∀i,k<=i->σ2[i]?=σ[i]?
theorem aY{k i:Nat}(h:i<k):zf k (ei i):=fun x σ H Q q=>⟨q,by simp,fun j a=>by rw[CP (by omega)]⟩
theorem lP{k:Nat}:DW k jC:=fun x σ H Q ⟨e,q⟩=>⟨e,q,rfl,fun _ _=>rfl⟩
def HN(g:TG):Prop:=∀x σ H Q Q',(∀σ2 H2,Q σ2 H2->Q' σ2 H2)->g x σ H Q->g x σ H Q'
def zB(g:Fy):Prop:=∀x σ H Q Q',(∀σ2 H2,Q σ2 H2->Q' σ2 H2)->g x σ H Q->g x σ H Q'
theorem bO{i:Nat}:HN (ei i):=fun _ _ _ _ _ f q=>f _ _ q
theorem dR:zB jC:=fun _ _ _ _ _ f ⟨e,q⟩=>⟨e,f _ _ q⟩
theorem fM{g:TG}{u:Fy}(a:HN g)(h:zB u):zB (bM g u):=fun _ _ _ _ _ f ⟨v,r,e,q⟩=>⟨v,r,e,a _ _ _ _ _ (fun _ _ q=>h _ _ _ _ _ f q) q⟩
theorem dP{k:Nat}{g:TG}{u:Fy}(a:zf k g)(f:HN g)(h:DW k u)(j:zB u):DW k (bM g u):=fun x σ H Q ⟨v,r,e,q⟩ =>
 ⟨v,r,e,f _ _ _ _ _ (fun σ2 p ⟨q,l,s⟩=>j _ _ _ _ _ (fun σ3 t ⟨m,n,o⟩=>⟨m,n.trans l,fun i hi=>(o i hi).trans (s i hi)⟩) (h _ _ _ _ q)) (a _ _ _ _ q)⟩
theorem pE{K:Za}{k n:Nat}{t:Fy}(h:DW k t):zf k (jR K n t):=fun x σ H Q ⟨a,xs,e,f,g,q⟩=>⟨a,xs,e,f,g,h _ _ _ _ q⟩
def Jm(X:Cx)(ifs:List Expr)(t:TT):Prop :=
 ∀(J5:Zd) (s:Shared) (σ:St) (H:Hp) (Q:Bool->Hp->Prop),Inv X J5 σ H s->t σ H Q->wpAny (model X.prog X.w) X.A (Ch ifs X.env) (TP X J5 σ Q) X.xe s
def d6:TT:=fun _ H Q=>Q true H
theorem bv{X:Cx}:Jm X [] d6:=fun a s σ H Q I h=>ap ⟨H,I,h⟩
theorem Dg{X:Cx}{c:Expr}{t:TT}(h:PT X c t):Jm X [c] t:=by
 intro a s σ H Q I e;unfold Ch;rw[tQ];simp only[if_true];refine ak (ak (cR (h a s σ H Q I e) fun b f q=>ap ?_));exact ap q
def cD(k:Nat)(fi:List Nat)(wi:TI)(g:TG)(tc:TT)(te:TE):TE:=fun σ H Q=>wi σ H fun J H1=>∀l,H1 l=none->∃W:Nat->Nat->List V->Hp->Prop,(∃m,W 0 m [] (upd H1 l (.lst [])))/\∀i m vs H2,W i m vs H2->H2 l=some (.lst vs) /\
 ((J.stop i H2/\Q (.ref l) H2)∨(J.go i H2/\∀x H3,J.yld i H2 x H3->g x (cL k fi σ) H3 fun σ2 H4=>tc σ2 H4 fun b H5 =>
  if b=true then te σ2 H5 fun v H6=>H6 l=some (.lst vs)/\vs.length<ai/\∃m',m'<m/\W (i+1) m' (vs++[v]) (upd H6 l (.lst (vs++[v])))else ∃m',m'<m/\W (i+1) m' vs H5))
section
variable{X:Cx}{J5:Zd}{σ:St}
theorem Ji{k:Nat}{N:Zb}{scope:Scope}{G:List Nat}{H:Hp}{s:Shared}{u:List (Str×Addr)}{v:Ze}(S:lZ X.env.scope scope k N X.N G)(I:Inv X J5 σ H s)
  (i:∀x c,u.lookup x=some c->X.env.cells.lookup x=some c) (w:∀y∈scope.names,y.2=.free->(u.lookup y.1).isSome=true) (hf:∀b∈v,kP X J5 H b) (A:∀b∈v,b<s.heap.objs.size) :
  (dq X N scope s.heap.objs.size u s H v (X.pn++J5)).Ok where
 mod:=I.ok.mod
 kind:=S.kind
 glob:=I.ok.glob
 blt:=I.ok.blt
 above:=ay _
 inj:=fun x y c J L=>I.ok.inj x y c (i x c J) (i y c L)
 has:=fun x h=>by
  have B:∃y∈scope.names,y.1=x/\y.2=.free:=by
   have h':(relabel scope X.env).names.lookup x=some .cell∨(relabel scope X.env).names.lookup x=some .free:=h;have m:∀(l:List (Str×gM)) (f:gM),l.lookup x=some f->(x,f)∈l:=by
    intro l
    induction l with
    |nil=>intro f e;cases e
    |cons a r M =>
     intro f e;obtain⟨n,C⟩:=a;rw[iT]at e;cases hx:x==n with
     |true =>
      rw[hx]at e;have:x=n:=by simpa using hx
      subst this;cases e;exact fh
     |false=>rw[hx]at e;exact eK _ (M f e)
   have g:∀f,(x,f)∈(relabel scope X.env).names->f=.cell∨f=.free->∃y∈scope.names,y.1=x/\y.2=.free:=by
    intro f O D;obtain⟨⟨n,C⟩,p,e⟩:=bA.mp O;dsimp only at e;by_cases t:(C==ln && X.env.scope.kind==.function && X.env.kindOf n==some .cell)=true
    ·have E:C=.free:=by
      simp only[tS]at t;simpa using t.1.1
     rw[if_pos t]at e;cases e;exact⟨_,p,rfl,E⟩
    ·rw[if_neg t]at e;cases e;rcases D with rfl|rfl
     ·exact absurd rfl (S.cell _ p)
     ·exact⟨_,p,rfl,rfl⟩
   rcases h' with h'|h'
   ·exact g _ (m _ _ h') (.inl rfl)
   ·exact g _ (m _ _ h') (.inr rfl)
  obtain⟨y,p,rfl,D⟩:=B;exact tT.mp (w y p D)
 cab:=fun x c h=>by cases h
 hd:=I.ok.hd
 frames:=I.ok.frames
 stk:=.inl rfl
 exf:=fun b j=>⟨bX (A b j),fun x c e=>(hf b j).2.2.2.2.1 x c (i x c e)⟩
 bs:=I.bs
 bsz:=bo I.ok.bsz I.sz
 noex:=fun b o e j=>by
  rcases(hf b j).2.2.2.1 with z|z
  ·exact I.ok.noex b o e z
  ·exact absurd (f6 (aS (I.ok.bs b o e).1) z) (rE _)
 exfs:=fun b j z=>by
  obtain⟨_,Q,T,_⟩:=hf b j;rcases cz.mp (I.stkSub b z)with q|q
  ·exact Q q
  ·exact T q
 funs:=I.stack
 frf:=I.stkFree
theorem HB{k:Nat}{N:Zb}{scope:Scope}{U:List Nat}{H:Hp}{s:Shared}{G:List (Str×Addr)}{J:Ze}{f:Heap}{t':Nat}{m:Str->Option Value}(S:lZ X.env.scope scope k N X.N U)(I:Inv X J5 σ H s)
  (h:∀x c,G.lookup x=some c->X.env.cells.lookup x=some c) (B:∀y∈scope.names,y.2=.free->(G.lookup y.1).isSome=true) (hf:∀b∈J,kP X J5 H b) (L:∀b∈J,b<s.heap.objs.size)
  (hn:f.Ns s.heap.objs.size m) (g:∀b o,s.heap.get? b=some o->f.get? b=some o) :
  Inv (dq X N scope s.heap.objs.size G s H J (X.pn++J5)) [] (cL k U σ) H { s with heap:=f,toks:=t' }:=by
 have A:∀(l:List (Str×gM)) (x:Str) (C:gM),l.lookup x=some C->(x,C)∈l:=by
  intro l
  induction l with
  |nil=>intro x C e;cases e
  |cons a r ih =>
   intro x C e;obtain⟨n,k'⟩:=a;rw[iT]at e;cases hx:x==n with
   |true =>
    rw[hx]at e;have:x=n:=by simpa using hx
    subst this;cases e;exact fh
   |false=>rw[hx]at e;exact eK _ (ih x C e)
 refine⟨Ji S I h B hf L,rfl,I.bare,Un.kept g,⟨m,hn,fun i x v e1 e2 e3=>?_⟩,fun x c e=>?_,I.hok.fresh (ay _),fun x c e=>I.freeC x c (h x c e),fun p Y=>?_,I.hok.kept g,?_⟩
 ·obtain⟨j,t,rfl,ht,hv⟩:=uL e2;obtain⟨y,hy,M,D⟩:=S.sl j t ht;have E:N[k+j]?=some x:=e1;rw[hy]at E;cases E;have w:=A _ _ _ D;obtain⟨c,hc⟩:=tT.mp (B _ w rfl);have hX:=h _ _ hc;obtain⟨mX,ab,O⟩:=I.loc;have kX:=S.fr _ w rfl;obtain⟨u,ru,lk⟩:=O t x v M hv (by rcases kX with z|z;exact .inr (.inl z);exact .inr (.inr z));refine⟨u,ru,.inr ⟨?_,c,hc,?_⟩⟩
  ·exact iA D
  ·rcases lk with⟨z,_⟩|⟨_,c',e',q⟩
   ·have z':X.env.scope.names.lookup x=some .local:=z;rcases kX with kX|kX<;>rw[z']at kX<;>cases kX
   ·rw[hX]at e';cases e';obtain⟨o,Q,T⟩:=q;exact⟨o,g _ o Q,T⟩
 ·obtain⟨v,o,Q,T⟩:=I.cell x c (h x c e);exact⟨v,o,g _ o Q,T⟩
 ·rw[eM]at Y;obtain⟨e,n,ne,nf,d⟩:=I.pin p Y;refine⟨g _ _ e,n,bX (aS e),fun z=>?_,d⟩;rcases cz.mp (I.stkSub _ z)with q|q
  ·exact ne q
  ·exact nf q
 ·rw[Cp];exact S.len.symm
structure zD(X:Cx)(J5:Zd)(H:Hp)(C:Addr):Prop where
 free:H C=none
 loc:C≠X.env.locals
 young:X.s₀.heap.objs.size<=C
 cells:∀x c,X.env.cells.lookup x=some c->c≠C
 pin:∀p∈X.pn++J5,p.1≠C
theorem og{elt iter tg:Expr}{ifs:List Expr}{scope:Scope}{pos:Pos}{k:Nat}{N:Zb}{fi:List Nat}{cl:List (Str×Addr)}{g:TG}{tc:TT}{te:TE}{it:Addr}{fp:Ze}{tn:Nat->Heap->Prop}{J:It}{s:Hp}{s2:Shared}{Q:VK}
  {E:Zc}{RR:Value->Addr->Result->Shared->Prop}
  (S:lZ X.env.scope scope k N X.N fi) (hc:X.calm=true) (bd:∀x c,cl.lookup x=some c->X.env.cells.lookup x=some c) (b7:∀y∈scope.names,y.2=.free->(cl.lookup y.1).isSome=true)
  (hg:∀C cl G H ex pn,PG (dq X N scope C cl G H ex pn) tg g) (ho:zf k g) (ht:∀C cl G H ex pn,Jm (dq X N scope C cl G H ex pn) ifs tc) (he:∀C cl G H ex pn,PE (dq X N scope C cl G H ex pn) elt te)
  (I2:Inv X J5 σ s s2) (T:uP X.prog X.w X.K tg J fp it tn) (bi:tn 0 s2.heap) (f2:∀b∈fp,kP X J5 s b)
  (hw:∀l,s l=none->∃W:Nat->Nat->List V->Hp->Prop,(∃m,W 0 m [] (upd s l (.lst [])))/\∀i m O s,W i m O s->s l=some (.lst O) /\
   ((J.stop i s/\Q (.ref l) s)∨(J.go i s/\∀x H3,J.yld i s x H3->g x (cL k fi σ) H3 fun σ2 H4=>tc σ2 H4 fun b H5 =>
    if b=true then te σ2 H5 fun v H6=>H6 l=some (.lst O)/\O.length<ai/\∃U,U<m/\W (i+1) U (O++[v]) (upd H6 l (.lst (O++[v])))else ∃U,U<m/\W (i+1) U O H5)))
  (hR:∀D C L s' U,Inv X J5 σ L s'->s'.heap.Ns C U->zD X J5 L C->Q (.ref D) L->RR (.ref D) C (.ok .next) s') :
  wpAny (model X.prog X.w) X.A (newList []) (fun acc s₃=>wpAny (model X.prog X.w) X.A (newFunctionEnv scope X.env.globals cl [] X.env.qual none .none (some X.env)) (fun aC s₄ =>
   zzl87 (model X.prog X.w) X.A (.compStart (.ListComp elt [⟨tg,iter,ifs,0⟩] scope pos) 0 (.ref it) acc { aC with scope:=relabel scope X.env }) (RR acc aC.locals) s₄) E s₃) E s2:=by
 have an:s s2.heap.objs.size=none:=I2.fresh;obtain⟨W,⟨m0,w0⟩,turn⟩:=hw _ an;refine gJ (wpAny_newFunctionEnv S.cell (by intro y hy;simp at hy) (fun I ab al=>?_) S.kind);dsimp only at ab al ⊢;have I3:Inv X J5 σ (upd s s2.heap.objs.size (.lst [])) { s2 with heap:=s2.heap.push { cls:=.type "list",data:=.seq ([]:Zf).toArray },toks:=s2.toks }:=I2.lnew (ys:=[]) .nil (cp _);generalize bl:({ s2 with heap:=s2.heap.push { cls:=.type "list",data:=.seq ([]:Zf).toArray },toks:=s2.toks }:Shared)=B at I3;have as:B.heap=s2.heap.push { cls:=.type "list",data:=.seq ([]:Zf).toArray }:=by rw[<-bl]
 have b8:B.heap.objs.size=s2.heap.objs.size+1:=by rw[as,kW]
 have bm:∀b∈fp,b<s2.heap.objs.size:=fun b f=>by
  obtain⟨o,e,_⟩:=T.obj 0 _ bi b f;exact aS e
 have f3:∀b∈fp,kP X J5 (upd s s2.heap.objs.size (.lst [])) b:=fun b f=>⟨by rw[am (bX (bm b f))];exact(f2 b f).1,(f2 b f).2⟩;have aT:∀b∈fp,b<B.heap.objs.size:=fun b f=>by rw[b8];exact Nat.lt_succ_of_lt (bm b f)
 have bn:∀b o,B.heap.get? b=some o->I.get? b=some o:=fun b o e=>by
  have f:b≠B.heap.objs.size:=bX (aS e);rw[as]at e f;exact al.extBut b o f (bc _ e)
 have b9:I.Ns B.heap.objs.size (fun x=>([]:List (Str×Value)).reverse.lookup x):=by rw[as];exact ab
 have I4:Inv (dq X N scope B.heap.objs.size cl B (upd s s2.heap.objs.size (.lst [])) fp (X.pn++J5)) [] (cL k fi σ) (upd s s2.heap.objs.size (.lst [])) { B with heap:=I,toks:=s2.toks+([]:List (Str×Value)).length } :=
  HB S I3 bd b7 f3 aT b9 bn
 have bG:tn 0 I:=T.keep _ _ _ bi fun b f o e=>bn b o (by rw[as];exact bc _ e);generalize M:dq X N scope B.heap.objs.size cl B (upd s s2.heap.objs.size (.lst [])) fp (X.pn++J5)=Y at I4;have yp:Y.prog=X.prog:=by rw[<-M];rfl
 have yw:Y.w=X.w:=by rw[<-M];rfl
 have yK:Y.K=X.K:=by rw[<-M];rfl
 have yA:Y.A=X.A:=by rw[<-M];rfl
 have yx:Y.xe=XF:=by rw[<-M];rfl
 have yc:Y.calm=true:=by rw[<-M];exact hc
 have gY:PG Y tg g:=by rw[<-M];exact hg _ _ _ _ _ _
 have tY:Jm Y ifs tc:=by rw[<-M];exact ht _ _ _ _ _ _
 have eY:PE Y elt te:=by rw[<-M];exact he _ _ _ _ _ _
 have bL:Y.env=compEnvC scope cl B.heap.objs.size X.env:=by rw[<-M];rfl
 have fY:∀{L:Hp},(∀b∈fp,L b=none)->∀b∈fp,kP Y [] L b:=fun hn b f=>by
  obtain⟨f0,f1,bN,bP,f4,f5⟩:=f3 b f;rw[<-M];refine⟨hn b f,bX (aT b f),fun z=>?_,.inl f,fun x c e=>f4 x c (bd x c e),fun p hp=>?_⟩
  ·rcases cz.mp (I3.stkSub _ z)with q|q
   ·exact f1 q
   ·exact bN q
  ·rw[eM]at hp;exact f5 p hp
 have aX:∀s4:Shared,s4={ B with heap:=I,toks:=s2.toks+([]:List (Str×Value)).length } ->
   zzl87 (model X.prog X.w) X.A (.compLoop (.ListComp elt [⟨tg,iter,ifs,0⟩] scope pos) 0 (.ref it) (.ref s2.heap.objs.size) Y.env) (RR (.ref s2.heap.objs.size) B.heap.objs.size) s4:=by
  rintro s4 rfl;refine y0 (fun n s'=>∃i O L,Inv Y [] (cL k fi σ) L s'/\tn i s'.heap/\(∀b∈fp,L b=none)/\W i n O L) ?_ m0 ⟨0,[],_,I4,bG,fun b f=>(f3 b f).1,w0⟩;rintro n s5 ⟨i,O,H5,I5,bT,b0,w5⟩;obtain⟨cB,a0⟩:=turn i n O H5 w5;rcases a0 with⟨stop,q⟩|⟨go,step⟩
  ·have d:=T.done Y yp yw yK yc i [] s5 _ H5 XF I5 (fY b0) bT stop;rw[yA]at d;refine cR d fun r s6 a=>?_;obtain⟨hr,I6⟩:=a;subst hr;have hu:Un (u4 X.stack) fp (upd s s2.heap.objs.size (.lst [])) H5 B.heap s6.heap:=by have:=I6.base;rw[<-M]at this;exact this
   have cb:s6.os=B.os:=by have:=I6.os;rw[<-M]at this;exact this
   have b1:k_ X.prog X.w X.K H5 s6.heap:=by have:=I6.hok;rw[<-M]at this;exact this
   have ce:H5 B.heap.objs.size=none:=by have:=I6.free;rw[<-M]at this;exact this
   obtain⟨m6,b2,_⟩:=I6.loc;have b3:s6.heap.Ns B.heap.objs.size m6:=by rw[<-M]at b2;exact b2
   have IX:Inv X J5 σ H5 s6:=I3.call' cb hu b1 I6.bare fun b f=>by
    obtain⟨f0,f1,bN,bP,f4,f5⟩:=f3 b f;exact⟨bP,f1,f4,f5⟩
   refine hR _ _ H5 s6 m6 IX b3 ⟨ce,fX I3.lt,I3.sz,fun x c e z=>?_,fun p hp z=>?_⟩ q
   ·obtain⟨v,o,ho,_⟩:=I3.cell x c e;exact absurd (aS ho) (by rw[z];exact rE _)
   ·exact absurd (aS (I3.pin p hp).1) (by rw[z];exact rE _)
  ·have d:=T.item Y yp yw yK yc i [] s5 _ H5 XF I5 (fY b0) bT go;rw[yA]at d;refine cR d fun r s6 a=>?_;obtain⟨u,hr,h6⟩:=a;subst hr;refine cR h6 fun _ s7 a=>?_;obtain⟨x,H7,I7,r7,y7,a4,ch⟩:=a;have ci:=I7.pinned (fY ch) (T.obj _ _ a4);have a7:=gY _ s7 _ H7 x u _ ci r7 (ho _ _ _ _ (step x H7 y7));rw[yp,yw,yA,yx]at a7;refine cR a7 fun _ s8 a=>?_;obtain⟨σ8,H8,I8,q8,l8,k8⟩:=a;have a8:=tY _ s8 σ8 H8 _ I8 q8;rw[yp,yw,yA,yx]at a8;have again:∀{H9:Hp}{s9:Shared}{a5:List V}{U:Nat},Inv Y ([]++nU fp s7.heap) σ8 H9 s9->U<n->W (i+1) U a5 H9->∃m,m<n/\∃i O L,Inv Y [] (cL k fi σ) L s9/\tn i s9.heap/\(∀b∈fp,L b=none)/\W i m O L:=fun{H9 s9 a5 U} I9 hm w9=>by
    refine⟨U,hm,i+1,a5,H9,(I9.unpinned).weak l8.symm (fun j v e=>?_),T.keep _ _ _ a4 fun b f o e=>(I9.pin (b,o) (dE _ (dE _ (eZ f e)))).1,fun b f=>?_,w9⟩
    ·obtain⟨j',t,rfl,_,_⟩:=uL e;rw[k8 _ (Nat.le_add_right _ _)];exact e
    ·obtain⟨o,e,_⟩:=T.obj _ _ a4 b f;exact(I9.pin (b,o) (dE _ (dE _ (eZ f e)))).2.1
   refine cR a8 fun b s9 a=>?_;obtain⟨H9,I9,q9⟩:=a;cases b with
   |false =>
    rw[if_neg iO]at q9 ⊢;obtain⟨U,hm,w9⟩:=q9;exact again I9 hm w9
   |true =>
    rw[if_pos rfl]at q9 ⊢;have a9:=eY _ s9 σ8 H9 _ I9 q9;rw[yp,yw,yA,yx]at a9;refine cR a9 fun y ck a=>?_;obtain⟨v,b4,cm,cn,b5,a6,U,hm,co⟩:=a;have b6:=dQ (X:=Y) _ ck σ8 b4 (.ref s2.heap.objs.size) [v] (.ref s2.heap.objs.size) [y] (fun z L=>z=.non/\L=upd b4 s2.heap.objs.size (.lst (O++[v]))) cm rfl (.cons cn .nil) ⟨_,O,v,rfl,rfl,b5,a6,rfl,rfl⟩;rw[yp,yw,yA,yx]at b6;refine cR b6 fun _ cC a=>?_;obtain⟨_,c0,cs,_,_,ct⟩:=a;subst ct;exact again cs hm co
 have h:=codeAny_compStart_list (prog:=X.prog) (w:=X.w) (A:=X.A) (elt:=elt) (target:=tg) (iter:=iter) (ifs:=ifs) (rest:=[]) (scope:=scope) (pos:=pos) (it:=.ref it) (acc:=.ref s2.heap.objs.size) (env:=Y.env) (aX _ rfl) (T.self _ 0 _ _ _ bG (aX _ rfl));rw[bL]at h;rw[<-bl]at h;exact h
end
section
variable{X:Cx}
theorem zD.turned{a:Zd}{σ:St}{H:Hp}{s:Shared}{C:Addr}{f:Heap}(c:zD X a H C)(I:Inv X a σ H s)(g:jE C s.heap f):Inv X a σ H { s with heap:=f } :=
 I.turned (t':=s.toks) (fun b o h e=>g.extBut b o h e) c.free c.loc (.inr c.young) c.cells c.pin
theorem IS{m i p:Expr}{n:List Expr}{scope:Scope}{r:Pos}{k:Nat}{N:Zb}{G:List Nat}{L:TI}{g:TG}{M:TT}{O:TE}(Y:kM X.env.scope scope k N X.N G=true)(hc:X.calm=true)(hi:PI X p i L)
  (hg:∀C l a f ex o,PG (dq X N scope C l a f ex o) p g) (ho:zf k g) (ht:∀C l a f ex o,Jm (dq X N scope C l a f ex o) n M) (he:∀C l a f ex o,PE (dq X N scope C l a f ex o) m O)
  (hs:∀x,rD i X.env x=pure x:=by intro _;rfl):PE X (.ListComp m [⟨p,i,n,0⟩] scope r) (cD k G L g M O):=by
 intro U s σ H Q I h;have S:=lZ.of Y;obtain⟨l,j,t,u⟩:=oh (env:=X.env) (scope:=scope) fun y hy e=>I.ok.has y.1 (S.fr y hy e);rw[eval_ListComp];refine wpAny_comprehension_free (use:=none) rfl hs j S.kind S.nm (cR (hi U s σ H _ I h) fun v s1 h1=>cR h1 fun ab s2 h2=>?_);obtain⟨it,fp,tn,J,H2,e,I2,T,z,f2,hw⟩:=h2;subst e;refine og (RR:=fun B C=>compPost (model X.prog X.w) X.A X.xe none (EP X U σ Q) B C) S hc t u hg ho ht he I2 T z f2 hw ?_;intro D C H' s' m' I' hn ce q;exact⟨m',hn,fun h' E=>⟨.ref D,H',ce.turned I' E,rfl,q⟩⟩
theorem B1{m f B:Expr}{n:List Expr}{scope:Scope}{p o t:Pos}{k:Nat}{N:Zb}{fi:List Nat}{wi:TI}{g:TG}{tc:TT}{te:TE}{j:Nat}{y:Str}(hN:X.N.Nodup)(hj:X.N[j]?=some y)(L:Loc X.env.scope y)(hS:kM X.env.scope scope k N X.N fi=true)(hc:X.calm=true)(hi:PI X B f wi)
  (hg:∀C u i l ex E,PG (dq X N scope C u i l ex E) B g) (ho:zf k g) (ht:∀C u i l ex E,Jm (dq X N scope C u i l ex E) n tc) (he:∀C u i l ex E,PE (dq X N scope C u i l ex E) m te)
  (M:mT (.ListComp m [⟨B,f,n,0⟩] scope p) (some (.Name y t)) o.line X.env=pure true:=by rfl)
  (hs:∀x,rD f X.env x=pure x:=by intro _;rfl) (hf:X.fn y=true∨X.env.scope.names.lookup y=some .local:=by first|exact .inl rfl|exact .inr rfl|assumption) :
  PS X (.Assign [.Name y t] (.ListComp m [⟨B,f,n,0⟩] scope p) o) (aO (cD k fi wi g tc te) (ei j)):=by
 intro O s σ H D I h;have S:=lZ.of hS;obtain⟨u,r,U,Y⟩:=oh (env:=X.env) (scope:=scope) fun y L e=>I.ok.has y.1 (S.fr y L e);rw[exec_Assign_Name_used _ _ _ _ M];refine ak (zJ (ak ?_));show wpAny _ X.A (do let _ <- comprehension (.ListComp m [⟨B,f,n,0⟩] scope p) scope X.env _ (newList []) false (eval f X.env) (some (assign (.Name y t) X.env))) _ _ s
 refine ak (cM (wpAny_comprehension_free (use:=some (assign (.Name y t) X.env)) (Q:=fun _ G=>SP X O D .next G) rfl hs r S.kind S.nm
  (cR (hi O s σ H _ I h) fun v s1 h1=>cR h1 fun a0 s2 h2=>?_)) (fun _ G hq=>ap (ap hq)) fun _ _ e=>e)
 obtain⟨it,fp,tn,J,H2,e,I2,T,ab,f2,hw⟩:=h2;subst e;refine og (RR:=fun al C=>compPost (model X.prog X.w) X.A X.xe (some (assign (.Name y t) X.env)) (fun _ G=>SP X O D .next G) al C) (Q:=fun x H1=>ei j x σ H1 D.nx) S hc U Y hg ho ht he I2 T ab f2 hw ?_;intro A C H' G m' I' hn ce q;show wpAny _ X.A (assign (.Name y t) X.env (.ref A)) _ _ _;refine wpAny_assign_Name (vQ I' hN hj L (v:=.ref A) rfl (fun a4 an as=>?_) hf);obtain⟨a,aC,ha⟩:=as;have aT:C≠a:=by
  rcases ha with z|z
  ·rw[z];exact ce.loc
  ·exact dJ (ce.cells y a z)
 refine⟨m',hn.sameBut aC aT,fun h' aX=>?_⟩;exact⟨_,H',ce.turned an aX,q⟩
end
theorem Inv.turnedNew{X:Cx}{i:Zd}{σ:St}{H:Hp}{s:Shared}{g:Heap}{p:Nat}{ch:Ze}{o:HO}(I:Inv X i σ H s)(hf:∀b∈ch,kP X i H b)
  (k:∀b q,b∉ch->s.heap.get? b=some q->g.get? b=some q) (L:∃q,g.get? s.heap.objs.size=some q) (t:∀y,o≠.own y) (new:cF X.prog X.w X.K (upd H s.heap.objs.size o) g s.heap.objs.size o) :
  Inv X i σ (upd H s.heap.objs.size o) { s with heap:=g,toks:=p }:=by
 have a:H s.heap.objs.size=none:=I.fresh;have j:∀b q,s.heap.get? b=some q->b≠s.heap.objs.size:=fun b q e=>bX (aS e);have l:∀b u,H b=some u->b∉ch:=fun b u e z=>by rw[(hf b z).1]at e;cases e
 refine I.step (g':=s.gens) (d':=s.drawn) (ch:=ch) (fun b h=>?_) (fun b q _ _ f e _=>k b q f e) (fun b q _ _ f e _=>⟨q.slots,k b q f e⟩) (fun b q _ e n=>by rw[am (j b q e)];exact n) (fun b q f e=>⟨q,k b q f e⟩)
  (fun b xs e=>by rw[am (ah e a)];exact e) (fun b q u e=>by rw[am (ah e a)];exact e) (fun b M e=>⟨#[],by rw[am (ah e a),e];simp⟩) (fun m x=>?_) (fun b u e=>?_) I.bare
 ·obtain⟨N,A,O,B,C,D⟩:=hf b h;exact⟨B,A,C,D⟩
 ·obtain⟨q,E,G,J,r⟩:=x;exact⟨q,E,G,k _ q (fun z=>(hf _ z).2.1 rfl) J,r⟩
 ·by_cases h:b=s.heap.objs.size
  ·subst h;rw[aa]at e;cases e;exact new
  ·rw[am h]at e;refine(I.hok b u e).stay (fun c v f q=>k c v ?_ q) (fun c q=>by rw[am (ah q a)];exact q) fun c xs q=>by rw[am (ah q a)];exact q
   rcases f with z|z
   ·subst z;exact l _ _ e
   ·exact l _ _ z
def LN(K:Za)(a:Addr):It :=
 ⟨fun i H=>∃xs x,aF K H a xs/\xs[i]?=some x,fun i H x H'=>∃p v,x=.ref p/\H p=none/\(∀xs,aF K H a xs->xs[i]?=some v)/\H'=upd H p (.tup [.int i,v]),fun i H=>∃xs,aF K H a xs/\xs.length<=i⟩
theorem Ec{P:bu}{w:World}{K:Za}{es:List Expr}{kx:Nat}{J9:Pos}(a e it:Addr)(n:e≠it):
  uP P w K (.Tuple es kx J9) (LN K a) [e,it] e (fun i h=>(∃f,IsEnum h e it i f)/\h.IsListIter it a i) where
 mem:=by simp
 obj:=fun i h st b m=>by
  obtain⟨⟨f,j⟩,o,G,J,hd⟩:=st;rcases cz.mp m with z|z
  ·subst z;exact⟨_,j,fun v z=>by cases z⟩
  ·have L:b=it:=by simpa using z
   subst L;exact⟨o,G,fun v z=>by rw[hd]at z;cases z⟩
 keep:=fun i h C st k=>⟨let⟨f,j⟩:=st.1;⟨f,k e (by simp) _ j⟩,st.2.at fun o e=>k it (by simp) o e⟩
 item:=by
  intro X M N O J i J5 s σ H E I hf st Q;subst M N O;obtain⟨⟨f,j⟩,l⟩:=st;obtain⟨xs,x,D,hx⟩:=Q;obtain⟨T,U,p,hz⟩:=I.list D;obtain⟨u,hu,ru⟩:=U.get hx;obtain⟨e0,e1,e2,e3,e4,e5⟩:=hf e (by simp);obtain⟨Y,f1,f2,f3,f4,f5⟩:=hf it (by simp);refine wpAny_pyNext_enum_item j l p.isList (x:=u) (by simpa using hu) n fun C ab r al a6 an=>?_;refine⟨_,rfl,wpAny_letOwnedTupleGo_enum (s:={ s with heap:=C,toks:=s.toks+1 }) ab fun h2 as aC=>?_⟩;have g:jE e C h2:=aC;have t:s.heap.objs.size≠e:=fX (aS j);have A:h2.get? s.heap.objs.size=some { cls:=.type "tuple",data:=.seq #[.int i s.toks,u] }:=g.extBut _ _ t al;have aT:H s.heap.objs.size=none:=I.fresh;have aX:upd H s.heap.objs.size (.tup [.int i,x]) e=none:=by rw[am (dJ t)];exact e0
  have a0:s.heap.objs.size≠it:=by
   obtain⟨o,G,_⟩:=l;exact fX (aS G)
  have a4:upd H s.heap.objs.size (.tup [.int i,x]) it=none:=by rw[am (dJ a0)];exact Y
  have I2:Inv X J5 σ (upd H s.heap.objs.size (.tup [.int i,x])) { s with heap:=h2,toks:=s.toks+1 }:=by
   refine I.turnedNew (ch:=[e,it]) hf (fun b o m q=>?_) ⟨_,A⟩ (fun _ z=>nomatch z) ⟨by show 2<=ai;decide,[.int i s.toks,u],.cons ⟨_,rfl⟩ (.cons ru .nil),⟨_,A,rfl,_,rfl⟩⟩;have B:b≠e:=fun z=>m (by simp[z]);have a5:b≠it:=fun z=>m (by simp[z]);exact g.extBut _ _ B (an b o B a5 q)
  refine⟨.ref s.heap.objs.size,_,I2,rfl,⟨_,x,rfl,aT,fun ys hy=>by rw[I.list_inj hy D];exact hx,rfl⟩,⟨⟨u,by simpa using as⟩,r.at fun o y=>(g.2 it (dJ n)).trans y⟩,fun b m=>?_⟩;rcases cz.mp m with z|z
  ·subst z;exact aX
  ·have L:b=it:=by simpa using z
   subst L;exact a4
 done:=by
  intro X M N O J i J5 s σ H E I hf st Q;subst M N O;obtain⟨⟨f,j⟩,l⟩:=st;obtain⟨xs,D,hx⟩:=Q;obtain⟨T,U,p,hz⟩:=I.list D;obtain⟨Y,f1,f2,f3,f4,f5⟩:=hf it (by simp);have hl:=U.length;exact wpAny_pyNext_enum_end (I.ok.hd J) j l p.isList (by simp;omega) fun C eb=>⟨rfl,I.turned (t':=s.toks) (fun b o m e=>eb b o m e) Y f1 f3 f4 f5⟩
 self:=fun _ _ _ _ _ st h=>let⟨_,j⟩:=st.1;wpAny_pyIter_enum j h
section
variable{X:Cx}{p pos:Pos}{es:List Expr}{kx:Nat}{J9:Pos}
def pL(K:Za)(ta:TA):TI:=fun σ H R=>ta σ H fun vs H1=>∃a,vs=[.ref a]/\(∃xs,aF K H1 a xs)/\R (LN K a) H1
theorem kF{a:Expr}{n:TA}(w:Gl X "enumerate")(x:X.mg "enumerate"=none)(y:PA X [a] n)(A:aA [a] X.env=[(false,eval a X.env)]:=by rfl):PI X (.Tuple es kx J9) (.Call (.Name "enumerate" p) [a] [] pos) (pL X.K n):=by
 intro r s σ H R I h;refine Call_ (nW I w x boot_enumerate (zI (cR (y pos r s σ H _ I h) fun T s1 i=>?_) A rfl));obtain⟨U,t,g,B,C⟩:=i;obtain⟨l,e,⟨xs,D⟩,q⟩:=C;subst e;obtain⟨u,rfl,E⟩:=vals1 B;cases E;obtain⟨G,Y,J,hz⟩:=g.list D;refine call_enumerate_list J.isList fun j v k L M=>?_;refine wpAny_pyIter_enum (s:={ s1 with heap:=j }) v ?_;have m:∀b o,s1.heap.get? b=some o->j.get? b=some o:=M;have N:Inv X r σ t { s1 with heap:=j }:=g.kept (t':=s1.toks) m;refine⟨_,[s1.heap.objs.size+1,s1.heap.objs.size],_,_,t,rfl,N,Ec l _ _ (Nat.succ_ne_self _),⟨⟨_,v⟩,k⟩,fun b O=>?_,q⟩;have f:s1.heap.objs.size<=b:=by
  rcases cz.mp O with z|z
  ·rw[z];exact j4 _
  ·have Q:b=s1.heap.objs.size:=by simpa using z
   rw[Q];exact ay _
 exact g.fpOk f (g.hok.fresh f)
end
def Mf(x:Str):It:=⟨fun i _=>i<x.cps.size,fun i H y H'=>H'=H/\∃c,x.cps[i]?=some c/\y=.str ⟨#[c]⟩,fun i _=>x.cps.size<=i⟩
theorem Bm{P:bu}{w:World}{K:Za}{D:Expr}(x:Str)(t:Tok)(it:Addr):uP P w K D (Mf x) [it] it (fun i h=>h.IsStrIter it "str_ascii_iterator" x t i) where
 mem:=by simp
 obj:=fun i h st b a=>by
  have e:b=it:=by simpa using a
  subst e;obtain⟨o,e,c,d⟩:=st;exact⟨o,e,fun v z=>by rw[d]at z;cases z⟩
 keep:=fun i h g st k=>by
  obtain⟨o,e,c,d⟩:=st;exact⟨o,k it (by simp) o e,c,d⟩
 item:=by
  intro X j l m B i C s σ H E I hf st n;subst j l m;have p:i<x.cps.size:=n;obtain⟨q,r,G,u,y,A⟩:=hf it (by simp);have hx:x.cps[i]?=some x.cps[i]:=by simp[p]
  refine wpAny_pyNext_ascii_item st hx fun g f J=>?_;have L:Inv X C σ H { s with heap:=g,toks:=s.toks+1 }:=I.turned (t':=s.toks+1) (fun b o a e=>(J.2 b a).trans e) q r u y A;obtain⟨o,e,c,d⟩:=id f;exact⟨_,rfl,ww (s:={ s with heap:=g,toks:=s.toks+1 }) e c d (by decide) ⟨.str ⟨#[x.cps[i]]⟩,H,L,⟨_,rfl⟩,⟨rfl,_,hx,rfl⟩,f,fun b a=>(hf b a).1⟩⟩
 done:=by
  intro X j l m B i C s σ H E I hf st n;subst j l m;have M:x.cps.size<=i:=n;obtain⟨q,r,G,u,y,A⟩:=hf it (by simp);exact wpAny_pyNext_ascii_end (I.ok.hd B) st (by simp;omega) fun g N=>⟨rfl,I.turned (t':=s.toks) (fun b o a e=>N b o a e) q r u y A⟩
 self:=fun _ _ _ _ _ st h=>wpAny_pyIter_striter_ascii st h
theorem Eb{P:bu}{w:World}{K:Za}{D:Expr}(x:Str)(t:Tok)(it:Addr):uP P w K D (Mf x) [it] it (fun i h=>h.IsStrIter it "str_iterator" x t i) where
 mem:=by simp
 obj:=fun i h st b a=>by
  have e:b=it:=by simpa using a
  subst e;obtain⟨o,e,c,d⟩:=st;exact⟨o,e,fun v z=>by rw[d]at z;cases z⟩
 keep:=fun i h g st k=>by
  obtain⟨o,e,c,d⟩:=st;exact⟨o,k it (by simp) o e,c,d⟩
 item:=by
  intro X j l m B i C s σ H E I hf st n;subst j l m;have p:i<x.cps.size:=n;obtain⟨q,r,G,u,y,A⟩:=hf it (by simp);have hx:x.cps[i]?=some x.cps[i]:=by simp[p]
  refine wpAny_pyNext_wide_item st hx fun g f J=>?_;have L:Inv X C σ H { s with heap:=g,toks:=s.toks+1 }:=I.turned (t':=s.toks+1) (fun b o a e=>(J.2 b a).trans e) q r u y A;obtain⟨o,e,c,d⟩:=id f;exact⟨_,rfl,ww (s:={ s with heap:=g,toks:=s.toks+1 }) e c d (by decide) ⟨.str ⟨#[x.cps[i]]⟩,H,L,⟨_,rfl⟩,⟨rfl,_,hx,rfl⟩,f,fun b a=>(hf b a).1⟩⟩
 done:=by
  intro X j l m B i C s σ H E I hf st n;subst j l m;have M:x.cps.size<=i:=n;obtain⟨q,r,G,u,y,A⟩:=hf it (by simp);exact wpAny_pyNext_wide_end (I.ok.hd B) st (by simp;omega) fun g N=>⟨rfl,I.turned (t':=s.toks) (fun b o a e=>N b o a e) q r u y A⟩
 self:=fun _ _ _ _ _ st h=>wpAny_pyIter_striter_wide st h
section
variable{X:Cx}{p pos:Pos}{tg:Expr}
def Lz(tl:TE):TI:=fun σ H R=>tl σ H fun v H1=>∃x,v=.str x/\R (Mf x) H1
theorem Kr{l:Expr}{k:TE}(r:PE X l k):PI X tg l (Lz k):=by
 intro m s σ H R I h;refine cR (r m s σ H _ I h) fun v a i=>?_;obtain⟨y,j,g,u,w⟩:=i;obtain⟨x,e,q⟩:=w;subst e;obtain⟨t,rfl⟩:=u;have f:∀b∈[a.heap.objs.size],kP X m j b:=fun b z=>by
  have e:b=a.heap.objs.size:=by simpa using z
  subst e;exact g.fpOk (ay _) (g.hok.fresh (ay _))
 cases n:x.cps.all (·<128)
 ·refine wpAny_pyIter_wide n ?_;exact⟨a.heap.objs.size,[a.heap.objs.size],_,_,j,rfl,g.kept (t':=a.toks) fun b o e=>bc _ e,Eb x t _,⟨_,db _ rfl,rfl,rfl⟩,f,q⟩
 ·refine wpAny_pyIter_ascii n ?_;exact⟨a.heap.objs.size,[a.heap.objs.size],_,_,j,rfl,g.kept (t':=a.toks) fun b o e=>bc _ e,Bm x t _,⟨_,db _ rfl,rfl,rfl⟩,f,q⟩
end
def Itz(K:Za)(a b:Addr):It :=
  ⟨fun i H=>∃xs ys x y,aF K H a xs/\aF K H b ys/\xs[i]?=some x/\ys[i]?=some y,
   fun i H x H'=>∃p u v,x=.ref p/\H p=none/\(∀xs,aF K H a xs->xs[i]?=some u)/\(∀ys,aF K H b ys->ys[i]?=some v)/\H'=upd H p (.tup [u,v]),
   fun i H=>∃xs ys,aF K H a xs/\aF K H b ys/\(xs.length<=i∨ys.length<=i)⟩
theorem FO{P:bu}{w:World}{K:Za}{es:List Expr}{kx:Nat}{J9:Pos}(a b z TI TO t A:Addr)(D:qp z TI TO t A a b):
  uP P w K (.Tuple es kx J9) (Itz K a b) [z,TI,TO,t,A] z (fun i h=>IsZip h z TI TO .none/\IsPair h TI (.ref t) (.ref A)/\(∃a b,IsPair h TO a b)/\h.IsListIter t a i/\h.IsListIter A b i) where
 mem:=by simp
 obj:=fun i h st c f=>by
  obtain⟨p,j,⟨u,v,l⟩,G,J⟩:=st;simp only[cz,tP,or_false]at f;rcases f with rfl|rfl|rfl|rfl|rfl
  ·exact⟨_,p,fun v z=>by cases z⟩
  ·exact⟨_,j,fun v z=>by cases z⟩
  ·exact⟨_,l,fun v z=>by cases z⟩
  ·obtain⟨o,e,c,d⟩:=G;exact⟨o,e,fun v z=>by rw[d]at z;cases z⟩
  ·obtain⟨o,e,c,d⟩:=J;exact⟨o,e,fun v z=>by rw[d]at z;cases z⟩
 keep:=fun i h M st k=>by
  obtain⟨p,j,⟨u,v,l⟩,G,J⟩:=st;exact⟨k z (by simp) _ p,k TI (by simp) _ j,⟨u,v,k TO (by simp) _ l⟩,G.at fun o e=>k t (by simp) o e,J.at fun o e=>k A (by simp) o e⟩
 item:=by
  intro X hP hw hK f i J5 s σ H E I hf st hg;subst hP hw hK;obtain⟨p,j,⟨u0,v0,l⟩,G,J⟩:=st;obtain⟨xs,ys,x,y,B,C,hx,hy⟩:=hg;obtain⟨an,rx,px,zx⟩:=I.list B;obtain⟨as,ry,py,zy⟩:=I.list C;obtain⟨u,hu,ru⟩:=rx.get hx;obtain⟨v,hv,rv⟩:=ry.get hy;refine wpAny_pyNext_zip_item D p j l G J px.isList py.isList (x:=u) (y:=v) (by simpa using hu) (by simpa using hv) fun M a1 a2 a3 a4 a5 a6 hk=>?_;refine⟨_,rfl,wpAny_letOwnedTupleGo_zip (s:={ s with heap:=M }) a1 fun L aC aT=>?_⟩;have g:jE z M L:=aT;have N:s.heap.objs.size≠z:=fX (aS p);have O:s.heap.objs.size≠TO:=fX (aS l);have Q:s.heap.objs.size≠TI:=fX (aS j);have T:s.heap.objs.size≠t:=by obtain⟨o,U,_⟩:=G;exact fX (aS U)
  have Y:s.heap.objs.size≠A:=by obtain⟨o,U,_⟩:=J;exact fX (aS U)
  have ab:IsPair L s.heap.objs.size u v:=g.extBut _ _ N a5;have I2:Inv X J5 σ (upd H s.heap.objs.size (.tup [x,y])) { s with heap:=L,toks:=s.toks }:=by
   refine I.turnedNew (ch:=[z,TI,TO,t,A]) hf (fun c o f q=>?_) ⟨_,ab⟩ (fun _ z=>nomatch z) ⟨by show 2<=ai;decide,[u,v],.cons ru (.cons rv .nil),⟨_,ab,rfl,_,rfl⟩⟩;have n1:c≠z:=fun q=>f (by simp[q]);exact g.extBut _ _ n1 (hk c o n1 (fun q=>f (by simp[q])) (fun q=>f (by simp[q])) (fun q=>f (by simp[q])) q)
  refine⟨.ref s.heap.objs.size,_,I2,rfl,⟨_,x,y,rfl,I.fresh,fun zs p=>by rw[I.list_inj p B];exact hx,fun zs p=>by rw[I.list_inj p C];exact hy,rfl⟩,⟨aC,g.extBut _ _ D.TIz (hk _ _ D.TIz D.TITO D.TIi1 D.TIi2 j),⟨_,_,g.extBut _ _ D.TOz a2⟩,a3.at fun o e=>g.extBut _ _ D.i1z e,a4.at fun o e=>g.extBut _ _ D.i2z e⟩,fun c f=>?_⟩;have aX:=(hf c f).1;simp only[cz,tP,or_false]at f;have ne:c≠s.heap.objs.size:=by
   rcases f with rfl|rfl|rfl|rfl|rfl
   ·exact N.symm
   ·exact Q.symm
   ·exact O.symm
   ·exact T.symm
   ·exact Y.symm
  rw[am ne];exact aX
 done:=by
  intro X hP hw hK f i J5 s σ H E I hf st hg;subst hP hw hK;obtain⟨p,j,⟨u0,v0,l⟩,G,J⟩:=st;obtain⟨xs,ys,B,C,al⟩:=hg;obtain⟨an,rx,px,zx⟩:=I.list B;obtain⟨as,ry,py,zy⟩:=I.list C;have lx:=rx.length;have ly:=ry.length;refine wpAny_pyNext_zip_end (I.ok.hd f) D p j l G J px.isList py.isList (by rcases al with q|q;exact .inl (by simp;omega);exact .inr (by simp;omega)) fun M hk=>⟨rfl,?_⟩;have tr:∀c q,H c=some q->c∉[z,TI,TO,t,A]:=fun c q e m=>by rw[(hf c m).1]at e;cases e
  have kk:∀c o,c∉[z,TI,TO,t,A]->s.heap.get? c=some o->M.get? c=some o:=fun c o f q=>hk c o (fun q=>f (by simp[q])) (fun q=>f (by simp[q])) (fun q=>f (by simp[q])) (fun q=>f (by simp[q])) q;refine I.step (g':=s.gens) (d':=s.drawn) (t':=s.toks) (ch:=[z,TI,TO,t,A]) (fun c f=>?_) (fun c o _ _ f e _=>kk c o f e) (fun c o _ _ f e _=>⟨o.slots,kk c o f e⟩) (fun _ _ _ _ n=>n) (fun c o f e=>⟨o,kk c o f e⟩) (fun _ _ e=>e) (fun _ _ _ e=>e) (fun c ps e=>⟨#[],by rw[e];simp⟩) (fun m hm=>?_) (fun c q e=>?_) I.bare
  ·obtain⟨f0,f1,f2,f3,f4,f5⟩:=hf c f;exact⟨f3,f1,f4,f5⟩
  ·obtain⟨q,a0,ep,U,r⟩:=hm;exact⟨q,a0,ep,kk _ q (fun z=>(hf _ z).2.1 rfl) U,r⟩
  ·refine(I.hok c q e).stay (fun d v hd q'=>kk d v ?_ q') (fun _ q=>q) fun _ _ q=>q;rcases hd with z|z
   ·subst z;exact tr _ _ e
   ·exact tr _ _ z
 self:=fun _ _ _ _ _ st h=>xv st.1 h
section
variable{prog:bu}{w:World}{A:Around}{E:Zc}{s:Shared}
theorem kH{it t:Addr}{i:Nat}{items:Array Value}{x:Value}{Q:Zc}(st:s.heap.IsTupleIter it t i)(g:s.heap.IsTuple t items)(hx:items[i]?=some x)
  (k:∀f,f.IsTupleIter it t (i+1)->jE it s.heap f->Q x { s with heap:=f }):wpAny (model prog w) A (lm (.ref it)) Q E s:=by
 obtain⟨l,e,h,a⟩:=id st;obtain⟨m,j,_,n,dt⟩:=g;unfold lm;refine ak (nC (name:=nB "__next__") st.typeIs xu
  (wL xu st.typeIs F.entry_tuple_iterator_next ?_ (F.args_tuple_iterator_next_1 _)))
 show wpAny _ _ (field (.ref it) 0 >>= _) _ _ s;refine ak (ca e a (x:=.ref t) rfl ?_);show wpAny _ _ (if(Value.ref t==Value.none)=true then _ else _) _ _ s
 rw[if_neg (show ¬((Value.ref t==Value.none)=true)from iO)];show wpAny _ _ (field (.ref it) 1 >>= _) _ _ s;refine ak (ca e a (x:=.int i 0) rfl ?_);show wpAny _ _ (tO (.ref t) >>= _) _ _ s;refine ak (jG j dt ?_);simp only[qy,hx];refine ak (ni e a (by simp) (ap ⟨x,rfl,ap (k _ ?_ (tN ..))⟩));exact⟨_,jt _ e (tM (lh a _)),(Obj.cls_mapFields ..).trans h,by
  rw[lh a];simp[rawInt]⟩
theorem rO{it t:Addr}{i:Nat}{items:Array Value}{Q:Zc}(j:A.handled=none)(st:s.heap.IsTupleIter it t i)(l:s.heap.IsTuple t items)(hx:items[i]?=none)
  (k:∀f e,Heap.ExtBut it s.heap f->(∃o,f.get? e=some o/\o.cls=.type "StopIteration")->E (.ref e) { s with heap:=f }):wpAny (model prog w) A (lm (.ref it)) Q E s:=by
 obtain⟨p,g,q,h⟩:=id st;obtain⟨r,n,_,u,dt⟩:=l;unfold lm;refine ak (nC (name:=nB "__next__") st.typeIs xu
  (wL xu st.typeIs F.entry_tuple_iterator_next ?_ (F.args_tuple_iterator_next_1 _)))
 show wpAny _ _ (field (.ref it) 0 >>= _) _ _ s;refine ak (ca g h (x:=.ref t) rfl ?_);show wpAny _ _ (if(Value.ref t==Value.none)=true then _ else _) _ _ s
 rw[if_neg (show ¬((Value.ref t==Value.none)=true)from iO)];show wpAny _ _ (field (.ref it) 1 >>= _) _ _ s;refine ak (ca g h (x:=.int i 0) rfl ?_);show wpAny _ _ (tO (.ref t) >>= _) _ _ s;refine ak (jG n dt ?_);simp only[qy,hx];refine ak (oP (ak (ni g h (by simp) ?_)));show wpAny _ _ (newExc (.type "StopIteration") [] >>= _) _ _ _;refine ak ?_;simp only[newExc,newTuple];refine ak (gJ ?_ (by size_fits));refine ak (m:=firstArgMember _ _) (wpAny_of_eq (a:=Value.none) (by first|rfl|(simp only[firstArgMember];rfl)) ?_)
 refine gJ ?_ (by size_fits);simp only[raiseNew];refine ak (wpAny_handled ?_)
 first|rw[show A.in1.handled=none from j] | rw[j]
 refine ak (ap (wpAny_throw ?_));exact k _ _ (((tN ..).extBut.push _).push _) ⟨_,db _ rfl,rfl⟩
theorem DZ{z TI TO L M l1 l2:Addr}{k1 k2:Nat}{xs ys:Array Value}{x y a b:Value}{Q:Zc}(D:qp z TI TO L M l1 l2)
  (gz:IsZip s.heap z TI TO .none) (gI:IsPair s.heap TI (.ref L) (.ref M)) (gO:IsPair s.heap TO a b)
  (g1:s.heap.IsTupleIter L l1 k1) (g2:s.heap.IsTupleIter M l2 k2) (t1:s.heap.IsTuple l1 xs) (t2:s.heap.IsTuple l2 ys) (hx:xs[k1]?=some x) (hy:ys[k2]?=some y)
  (k:∀N,IsZip N z TI TO (rawInt s.heap.objs.size)->IsPair N TO x y->N.IsTupleIter L l1 (k1+1)->N.IsTupleIter M l2 (k2+1)->IsPair N s.heap.objs.size x y->N.objs.size=s.heap.objs.size+1 ->
   (∀c o,c≠z->c≠TO->c≠L->c≠M->s.heap.get? c=some o->N.get? c=some o)->Q (.ref s.heap.objs.size) { s with heap:=N }) :
  wpAny (model prog w) A (b_.«zip.__next__» ⟨[.ref z],[]⟩) (fun aX s'=>∃v,aX=.done (.ret v)/\Q v s') E s:=by
 show wpAny _ _ (field (.ref z) 2 >>= _) _ _ _;refine ak (ca gz rfl (x:=.bool false) rfl ?_);show wpAny _ _ (field (.ref z) 3 >>= _) _ _ _;refine ak (ca gz rfl (x:=.ref TI) rfl ?_);refine ak (jG gI rfl ?_);show wpAny _ _ (xr (.ref z) >>= _) _ _ _;refine ak ?_;unfold xr;refine ak (ca gz rfl (x:=.none) rfl (ap ?_));simp only[if_true];refine ak (oP ?_);refine ak (ca gz rfl (x:=.ref TO) rfl ?_);refine ak (qk gz (by simp) fun m₁ q g=>?_)
 replace q:IsZip m₁ z TI TO .ellipsis:=q
 refine ak ?_;simp only[List.zipIdx_cons,List.zipIdx_nil,tQ,List.forIn_nil];refine ak (ak (tL ?_));show wpAny _ _ (lm (.ref L) >>= _) _ _ _;refine ak (kH (g1.extBut g.extBut D.i1z) (t1.extBut g.extBut D.l1z) hx fun m₂ O h=>ap ?_);have B:IsPair m₂ TO a b:=h.extBut _ _ D.TOi1 (g.extBut _ _ D.TOz gO);refine ak (jG B rfl ?_);refine ak (wpAny_updateSeq_pair B fun m₃ t i=>?_)
 replace t:IsPair m₃ TO x b:=t
 refine ak (nh (ap ?_));refine ak (ak (tL ?_));show wpAny _ _ (lm (.ref M) >>= _) _ _ _;refine ak (kH (((g2.extBut g.extBut D.i2z).extBut h.extBut D.i12.symm).extBut i.extBut D.TOi2.symm)
  (((t2.extBut g.extBut D.l2z).extBut h.extBut D.l2i1).extBut i.extBut D.l2TO) hy fun m₄ T m=>ap ?_)
 have C:IsPair m₄ TO x b:=m.extBut _ _ D.TOi2 t;refine ak (jG C rfl ?_);refine ak (wpAny_updateSeq_pair C fun f j n=>?_)
 replace j:IsPair f TO x y:=j
 refine ak (nh (ap (ap ?_)));refine ak (jG j rfl ?_);refine ak (wpAny_newTuple ?_);have as:f.objs.size=s.heap.objs.size:=by rw[n.1,m.1,i.1,h.1,g.1]
 have G:IsZip f z TI TO .ellipsis:=n.extBut _ _ D.TOz.symm (m.extBut _ _ D.i2z.symm (i.extBut _ _ D.TOz.symm (h.extBut _ _ D.i1z.symm q)));have U:∀c o,c≠z->c≠TO->c≠L->c≠M->s.heap.get? c=some o->f.get? c=some o:=fun c o Y c2 c3 c4 e =>
  n.extBut _ _ c2 (m.extBut _ _ c4 (i.extBut _ _ c2 (h.extBut _ _ c3 (g.extBut _ _ Y e))))
 have ab:f.IsTupleIter L l1 (k1+1):=((O.extBut i.extBut D.TOi1.symm).extBut m.extBut D.i12).extBut n.extBut D.TOi1.symm;have al:f.IsTupleIter M l2 (k2+1):=T.extBut n.extBut D.TOi2.symm;have aC:z<f.objs.size:=aS G;show wpAny _ _ (b_.SmallTypes.ownedTupleHandOut (.ref z) (.ref f.objs.size) >>= _) _ _ _;refine ak ?_;unfold b_.SmallTypes.ownedTupleHandOut;have an:IsZip (f.push { cls:=.type "tuple",data:=.seq #[x,y] }) z TI TO .ellipsis:=bc _ G;refine ak (qk an (by simp) fun m₇ u H=>?_)
 replace u:IsZip m₇ z TI TO (rawInt f.objs.size):=u
 refine qk u (by simp) fun p l I=>?_
 replace l:IsZip p z TI TO (rawInt f.objs.size):=l
 have up:∀c o,c≠z->f.get? c=some o->p.get? c=some o:=fun c o Y e=>I.extBut _ _ Y (H.extBut _ _ Y (bc _ e));have J:IsPair p f.objs.size x y:=I.extBut _ _ (fX aC) (H.extBut _ _ (fX aC) (db _ rfl));have aT:p.objs.size=f.objs.size+1:=by rw[I.1,H.1,kW]
 rw[as]at l J aT;refine ap ⟨_,rfl,?_⟩;show Q (.ref f.objs.size) _;rw[as];refine k p l (up _ _ D.TOz j) ?_ ?_ J aT fun c o Y c2 c3 c4 e=>up c o Y (U c o Y c2 c3 c4 e)
 ·obtain⟨o,e,r⟩:=ab;exact⟨o,up _ o D.i1z e,r⟩
 ·obtain⟨o,e,r⟩:=al;exact⟨o,up _ o D.i2z e,r⟩
theorem FB{z TI TO v y J L:Addr}{M N:Nat}{xs O:Array Value}{a b:Value}{Q:Fin->Shared->Prop}(hh:A.handled=none)(D:qp z TI TO v y J L)
  (B:IsZip s.heap z TI TO .none) (gI:IsPair s.heap TI (.ref v) (.ref y)) (gO:IsPair s.heap TO a b)
  (g1:s.heap.IsTupleIter v J M) (g2:s.heap.IsTupleIter y L N) (t1:s.heap.IsTuple J xs) (t2:s.heap.IsTuple L O) (T:xs[M]?=none∨O[N]?=none)
  (k:∀U e,(∀c o,c≠z->c≠TO->c≠v->c≠y->s.heap.get? c=some o->U.get? c=some o)->(∃o,U.get? e=some o/\o.cls=.type "StopIteration")->E (.ref e) { s with heap:=U }) :
  wpAny (model prog w) A (b_.«zip.__next__» ⟨[.ref z],[]⟩) Q E s:=by
 show wpAny _ _ (field (.ref z) 2 >>= _) _ _ _;refine ak (ca B rfl (x:=.bool false) rfl ?_);show wpAny _ _ (field (.ref z) 3 >>= _) _ _ _;refine ak (ca B rfl (x:=.ref TI) rfl ?_);refine ak (jG gI rfl ?_);show wpAny _ _ (xr (.ref z) >>= _) _ _ _;refine ak ?_;unfold xr;refine ak (ca B rfl (x:=.none) rfl (ap ?_));simp only[if_true];refine ak (oP ?_);refine ak (ca B rfl (x:=.ref TO) rfl ?_);refine ak (qk B (by simp) fun m₁ i f=>?_)
 replace i:IsZip m₁ z TI TO .ellipsis:=i
 refine ak ?_;simp only[List.zipIdx_cons,List.zipIdx_nil,tQ,List.forIn_nil];refine ak (ak (tL ?_));show wpAny _ _ (lm (.ref v) >>= _) _ _ _;cases hx:xs[M]? with
 |none =>
  refine ak (rO hh (g1.extBut f.extBut D.i1z) (t1.extBut f.extBut D.l1z) hx fun m₂ e g Y=>?_);obtain⟨oe,t,C⟩:=Y;have j:IsZip m₂ z TI TO .ellipsis:=g _ _ D.i1z.symm i;have u:e≠z:=fun q=>by subst q;rw[j]at t;cases t;simp at C
  refine qk j (by simp) fun n _ h=>k n e (fun c o G _ c3 _ q=>h.extBut _ _ G (g _ _ c3 (f.extBut _ _ G q))) ⟨oe,h.extBut _ _ u t,C⟩
 |some x =>
  have hy:O[N]?=none:=by rcases T with q|q;rw[hx]at q;cases q;exact q
  refine ak (kH (g1.extBut f.extBut D.i1z) (t1.extBut f.extBut D.l1z) hx fun m₂ ab g=>ap ?_);have l:IsPair m₂ TO a b:=g.extBut _ _ D.TOi1 (f.extBut _ _ D.TOz gO);refine ak (jG l rfl ?_);refine ak (wpAny_updateSeq_pair l fun n al h=>?_);refine ak (nh (ap ?_));refine ak (ak (tL ?_));show wpAny _ _ (lm (.ref y) >>= _) _ _ _;refine ak (rO hh (((g2.extBut f.extBut D.i2z).extBut g.extBut D.i12.symm).extBut h.extBut D.TOi2.symm)
   (((t2.extBut f.extBut D.l2z).extBut g.extBut D.l2i1).extBut h.extBut D.l2TO) hy fun H e p Y=>?_)
  obtain⟨oe,t,C⟩:=Y;have m:IsZip H z TI TO .ellipsis:=p _ _ D.i2z.symm (h.extBut _ _ D.TOz.symm (g.extBut _ _ D.i1z.symm i));have u:e≠z:=fun q=>by subst q;rw[m]at t;cases t;simp at C
  refine qk m (by simp) fun I _ r=>k I e (fun c o G c2 c3 c4 q=>r.extBut _ _ G (p _ _ c4 (h.extBut _ _ c2 (g.extBut _ _ c3 (f.extBut _ _ G q))))) ⟨oe,r.extBut _ _ u t,C⟩
theorem vo{z TI TO f g h i:Addr}{j l:Nat}{xs ys:Array Value}{x y a b:Value}{Q:Option Value->Shared->Prop}(D:qp z TI TO f g h i)
  (m:IsZip s.heap z TI TO .none) (p:IsPair s.heap TI (.ref f) (.ref g)) (q:IsPair s.heap TO a b)
  (r:s.heap.IsTupleIter f h j) (t:s.heap.IsTupleIter g i l) (u:s.heap.IsTuple h xs) (v:s.heap.IsTuple i ys) (hx:xs[j]?=some x) (B:ys[l]?=some y)
  (k:∀e,IsZip e z TI TO (rawInt s.heap.objs.size)->IsPair e TO x y->e.IsTupleIter f h (j+1)->e.IsTupleIter g i (l+1)->IsPair e s.heap.objs.size x y->e.objs.size=s.heap.objs.size+1 ->
   (∀c o,c≠z->c≠TO->c≠f->c≠g->s.heap.get? c=some o->e.get? c=some o)->Q (some (.ref s.heap.objs.size)) { s with heap:=e }) :
  wpAny (model prog w) A (pyNext (.ref z)) Q E s:=by
 have n:s.TypeIs (.ref z) "zip":=⟨_,m,rfl⟩;unfold pyNext;exact ak (tK (nC (name:=nB "__next__") n xm
  (wL xm n F.entry_zip_next
   (DZ D m p q r t u v hx B fun e a1 a2 a3 C G H I=>ap (k e a1 a2 a3 C G H I)) (F.args_zip_next_1 _))))
theorem yJ{z TI TO f g h i:Addr}{m n:Nat}{xs ys:Array Value}{a b:Value}{Q:Option Value->Shared->Prop}(r:A.handled=none)(D:qp z TI TO f g h i)
  (p:IsZip s.heap z TI TO .none) (t:IsPair s.heap TI (.ref f) (.ref g)) (u:IsPair s.heap TO a b)
  (v:s.heap.IsTupleIter f h m) (x:s.heap.IsTupleIter g i n) (y:s.heap.IsTuple h xs) (B:s.heap.IsTuple i ys) (j:xs[m]?=none∨ys[n]?=none)
  (k:∀l,(∀c o,c≠z->c≠TO->c≠f->c≠g->s.heap.get? c=some o->l.get? c=some o)->Q none { s with heap:=l }):wpAny (model prog w) A (pyNext (.ref z)) Q E s:=by
 have q:s.TypeIs (.ref z) "zip":=⟨_,p,rfl⟩;unfold pyNext;refine ak (tK (nC (name:=nB "__next__") q xm
  (wL xm q F.entry_zip_next (FB r D p t u v x y B j fun l e kp C=>?_) (F.args_zip_next_1 _))))
 obtain⟨o,G,H⟩:=C;refine ak (wpAny_isInstance (T:="StopIteration") (b:=true) ⟨o,G,H⟩ isSubtype_stop ?_);exact ap (k _ kp)
end
abbrev LY(h:Heap)(l1:Addr):Heap:=h.push { cls:=.type "tuple_iterator",data:=.fields #[.ref l1,.int 0 0] }
abbrev LX(h:Heap)(l1 l2:Addr):Heap:=(LY h l1).push { cls:=.type "tuple_iterator",data:=.fields #[.ref l2,.int 0 0] }
abbrev LW(h:Heap)(l1 l2:Addr):Heap:=(LX h l1 l2).push { cls:=.type "tuple",data:=.seq #[.ref h.objs.size,.ref (LY h l1).objs.size] }
abbrev LV(h:Heap)(l1 l2:Addr):Heap:=(LW h l1 l2).push { cls:=.type "tuple",data:=.seq #[.none,.none] }
abbrev K4(h:Heap)(l1 l2:Addr):Heap:=(LV h l1 l2).push { cls:=.type "zip",data:=.fields #[.none,.bool false,.bool false,.ref (LX h l1 l2).objs.size,.ref (LW h l1 l2).objs.size] }
theorem B5(l1 l2:Addr)(xs a:Array Value):
  Meets (b_.«zip.__new__» ⟨[.type "zip",.ref l1,.ref l2],[]⟩) (fun _ R s=>s.heap.IsTuple l1 xs/\s.heap.IsTuple l2 a /\
   R (.ok (.ret (.ref (LV s.heap l1 l2).objs.size))) { s with heap:=K4 s.heap l1 l2 }) :=
 .of_wp fun e w A R s h=>by
  obtain⟨f,g,d,tk,os⟩:=s;obtain⟨j,k,h⟩:=h;have i:=sub_zip;have l:Heap.IsTuple (Shared.heap ⟨f,g,d,tk,os⟩) l1 xs:=j;have m:Heap.IsTuple (Shared.heap ⟨f.push { cls:=.type "tuple_iterator",data:=.fields #[.ref l1,.int 0 0] },g,d,tk,os⟩) l2 a:=Heap.IsTuple.push k _
  wp_walk using CM l,CM m
  exact⟨_,rfl,h⟩
section
variable{prog:bu}{w:World}{A:Around}{E:Zc}{s:Shared}
theorem Ff{a e:Addr}{xs ys:Array Value}{Q:Zc}(r:s.heap.IsTuple a xs)(t:s.heap.IsTuple e ys)
  (k:∀f,IsZip f (s.heap.objs.size+4) (s.heap.objs.size+2) (s.heap.objs.size+3) .none->IsPair f (s.heap.objs.size+2) (.ref s.heap.objs.size) (.ref (s.heap.objs.size+1)) ->
   IsPair f (s.heap.objs.size+3) .none .none->f.IsTupleIter s.heap.objs.size a 0->f.IsTupleIter (s.heap.objs.size+1) e 0->(∀c o,s.heap.get? c=some o->f.get? c=some o)->Q (.ref (s.heap.objs.size+4)) { s with heap:=f }) :
  wpAny (model prog w) A (call (.type "zip") [.ref a,.ref e]) Q E s:=by
 refine callType_new F.called_zip (by decide) (F.typeCall_zip_2 _ _) (F.newCall_zip_2 _ _) (fun g=>F.args_object_init_3 g _ _) F.entry_zip_new
  (B5 a e xs ys) ⟨r,t,?_⟩
 have h:(LY s.heap a).objs.size=s.heap.objs.size+1:=kW ..;have i:(LX s.heap a e).objs.size=s.heap.objs.size+2:=by rw[kW,h]
 have j:(LW s.heap a e).objs.size=s.heap.objs.size+3:=by rw[kW,i]
 have m:(LV s.heap a e).objs.size=s.heap.objs.size+4:=by rw[kW,j]
 have l:(K4 s.heap a e).get? (LV s.heap a e).objs.size=some _:=db _ rfl;have n:(K4 s.heap a e).get? (LW s.heap a e).objs.size=some _:=bc _ (db _ rfl);have p:(K4 s.heap a e).get? (LX s.heap a e).objs.size=some _:=bc _ (bc _ (db _ rfl));have q:(K4 s.heap a e).get? (LY s.heap a).objs.size=some _:=bc _ (bc _ (bc _ (db _ rfl)));have u:(K4 s.heap a e).get? s.heap.objs.size=some _:=bc _ (bc _ (bc _ (bc _ (db _ rfl))));show _/\_;rw[i,j,m]at l;rw[h,i]at p;rw[j]at n;rw[h]at q;rw[m];exact⟨⟨_,l,rfl⟩,k _ l p n ⟨_,u,rfl,rfl⟩ ⟨_,q,rfl,rfl⟩ fun c o x =>
  bc _ (bc _ (bc _ (bc _ (bc _ x))))⟩
end
def K1(K:Za)(a b:Addr):It :=
  ⟨fun i H=>∃xs ys x y,bE K H a xs/\bE K H b ys/\xs[i]?=some x/\ys[i]?=some y,
   fun i H x H'=>∃p u v,x=.ref p/\H p=none/\(∀xs,bE K H a xs->xs[i]?=some u)/\(∀ys,bE K H b ys->ys[i]?=some v)/\H'=upd H p (.tup [u,v]),
   fun i H=>∃xs ys,bE K H a xs/\bE K H b ys/\(xs.length<=i∨ys.length<=i)⟩
theorem Ea{P:bu}{w:World}{K:Za}{es:List Expr}{kx:Nat}{J9:Pos}(a b z TI TO t A:Addr)(D:qp z TI TO t A a b):
  uP P w K (.Tuple es kx J9) (K1 K a b) [z,TI,TO,t,A] z (fun i h=>IsZip h z TI TO .none/\IsPair h TI (.ref t) (.ref A)/\(∃a b,IsPair h TO a b)/\h.IsTupleIter t a i/\h.IsTupleIter A b i) where
 mem:=by simp
 obj:=fun i h st c f=>by
  obtain⟨p,j,⟨u,v,l⟩,M,N⟩:=st;simp only[cz,tP,or_false]at f;rcases f with rfl|rfl|rfl|rfl|rfl
  ·exact⟨_,p,fun v z=>by cases z⟩
  ·exact⟨_,j,fun v z=>by cases z⟩
  ·exact⟨_,l,fun v z=>by cases z⟩
  ·obtain⟨o,e,c,d⟩:=M;exact⟨o,e,fun v z=>by rw[d]at z;cases z⟩
  ·obtain⟨o,e,c,d⟩:=N;exact⟨o,e,fun v z=>by rw[d]at z;cases z⟩
 keep:=fun i h O st k=>by
  obtain⟨p,j,⟨u,v,l⟩,⟨o1,e1,r1⟩,⟨o2,e2,r2⟩⟩:=st;exact⟨k z (by simp) _ p,k TI (by simp) _ j,⟨u,v,k TO (by simp) _ l⟩,⟨o1,k t (by simp) o1 e1,r1⟩,⟨o2,k A (by simp) o2 e2,r2⟩⟩
 item:=by
  intro X hP hw hK f i J5 s σ H E I hf st hg;subst hP hw hK;obtain⟨p,j,⟨u0,v0,l⟩,M,N⟩:=st;obtain⟨xs,ys,x,y,C,G,hx,hy⟩:=hg;obtain⟨J,rx,px,zx⟩:=I.tuple C;obtain⟨L,ry,py,zy⟩:=I.tuple G;obtain⟨u,hu,ru⟩:=rx.get hx;obtain⟨v,hv,rv⟩:=ry.get hy;refine vo D p j l M N (xs:=J.toArray) (ys:=L.toArray) px py (x:=u) (y:=v) (by simpa using hu) (by simpa using hv) fun O a1 a2 a3 a4 a5 a6 hk=>?_;refine⟨_,rfl,wpAny_letOwnedTupleGo_zip (s:={ s with heap:=O }) a1 fun B as aC=>?_⟩;have g:jE z O B:=aC;have Q:s.heap.objs.size≠z:=fX (aS p);have T:s.heap.objs.size≠TO:=fX (aS l);have U:s.heap.objs.size≠TI:=fX (aS j);have Y:s.heap.objs.size≠t:=by obtain⟨o,ho,_⟩:=M;exact fX (aS ho)
  have ab:s.heap.objs.size≠A:=by obtain⟨o,ho,_⟩:=N;exact fX (aS ho)
  have al:IsPair B s.heap.objs.size u v:=g.extBut _ _ Q a5;have I2:Inv X J5 σ (upd H s.heap.objs.size (.tup [x,y])) { s with heap:=B,toks:=s.toks }:=by
   refine I.turnedNew (ch:=[z,TI,TO,t,A]) hf (fun c o f q=>?_) ⟨_,al⟩ (fun _ z=>nomatch z) ⟨by show 2<=ai;decide,[u,v],.cons ru (.cons rv .nil),⟨_,al,rfl,_,rfl⟩⟩;have n1:c≠z:=fun q=>f (by simp[q]);exact g.extBut _ _ n1 (hk c o n1 (fun q=>f (by simp[q])) (fun q=>f (by simp[q])) (fun q=>f (by simp[q])) q)
  have aT:B.IsTupleIter t a (i+1):=by obtain⟨o,e,r⟩:=a3;exact⟨o,g.extBut _ _ D.i1z e,r⟩
  have aX:B.IsTupleIter A b (i+1):=by obtain⟨o,e,r⟩:=a4;exact⟨o,g.extBut _ _ D.i2z e,r⟩
  refine⟨.ref s.heap.objs.size,_,I2,rfl,⟨_,x,y,rfl,I.fresh,fun zs p=>by rw[I.tuple_inj p C];exact hx,fun zs p=>by rw[I.tuple_inj p G];exact hy,rfl⟩,⟨as,g.extBut _ _ D.TIz (hk _ _ D.TIz D.TITO D.TIi1 D.TIi2 j),⟨_,_,g.extBut _ _ D.TOz a2⟩,aT,aX⟩,fun c f=>?_⟩;have a0:=(hf c f).1;simp only[cz,tP,or_false]at f;have ne:c≠s.heap.objs.size:=by
   rcases f with rfl|rfl|rfl|rfl|rfl
   ·exact Q.symm
   ·exact U.symm
   ·exact T.symm
   ·exact Y.symm
   ·exact ab.symm
  rw[am ne];exact a0
 done:=by
  intro X hP hw hK f i J5 s σ H E I hf st hg;subst hP hw hK;obtain⟨p,j,⟨u0,v0,l⟩,M,N⟩:=st;obtain⟨xs,ys,C,G,an⟩:=hg;obtain⟨J,rx,px,zx⟩:=I.tuple C;obtain⟨L,ry,py,zy⟩:=I.tuple G;have lx:=rx.length;have ly:=ry.length;refine yJ (I.ok.hd f) D p j l M N (xs:=J.toArray) (ys:=L.toArray) px py (by rcases an with q|q;exact .inl (by simp;omega);exact .inr (by simp;omega)) fun O hk=>⟨rfl,?_⟩;have tr:∀c q,H c=some q->c∉[z,TI,TO,t,A]:=fun c q e m=>by rw[(hf c m).1]at e;cases e
  have kk:∀c o,c∉[z,TI,TO,t,A]->s.heap.get? c=some o->O.get? c=some o:=fun c o f q=>hk c o (fun q=>f (by simp[q])) (fun q=>f (by simp[q])) (fun q=>f (by simp[q])) (fun q=>f (by simp[q])) q;refine I.step (g':=s.gens) (d':=s.drawn) (t':=s.toks) (ch:=[z,TI,TO,t,A]) (fun c f=>?_) (fun c o _ _ f e _=>kk c o f e) (fun c o _ _ f e _=>⟨o.slots,kk c o f e⟩) (fun _ _ _ _ n=>n) (fun c o f e=>⟨o,kk c o f e⟩) (fun _ _ e=>e) (fun _ _ _ e=>e) (fun c ps e=>⟨#[],by rw[e];simp⟩) (fun m hm=>?_) (fun c q e=>?_) I.bare
  ·obtain⟨f0,f1,f2,f3,f4,f5⟩:=hf c f;exact⟨f3,f1,f4,f5⟩
  ·obtain⟨q,a7,ep,ho,r⟩:=hm;exact⟨q,a7,ep,kk _ q (fun z=>(hf _ z).2.1 rfl) ho,r⟩
  ·refine(I.hok c q e).stay (fun d v hd q'=>kk d v ?_ q') (fun _ q=>q) fun _ _ q=>q;rcases hd with z|z
   ·subst z;exact tr _ _ e
   ·exact tr _ _ z
 self:=fun _ _ _ _ _ st h=>xv st.1 h
section
variable{X:Cx}{p pos:Pos}{es:List Expr}{kx:Nat}{J9:Pos}
def Hd(K:Za)(ta:TA):TI:=fun σ H R=>ta σ H fun vs H1=>∃a b,vs=[.ref a,.ref b]/\(((∃xs,aF K H1 a xs)/\(∃ys,aF K H1 b ys)/\R (Itz K a b) H1)∨((∃xs,bE K H1 a xs)/\(∃ys,bE K H1 b ys)/\R (K1 K a b) H1))
theorem Dh{a b:Expr}{J:TA}(O:Gl X "zip")(Q:X.mg "zip"=none)(T:PA X [a,b] J)(U:aA [a,b] X.env=[(false,eval a X.env),(false,eval b X.env)]:=by rfl)(j:aA [b] X.env=[(false,eval b X.env)]:=by rfl):
  PI X (.Tuple es kx J9) (.Call (.Name "zip" p) [a,b] [] pos) (Hd X.K J):=by
 intro x s σ H R I h;refine Call_ (nW I O Q boot_zip (zI (cR (T pos x s σ H _ I h) fun us s1 y=>?_) (by rw[U,j]) (by rw[j];rfl)));obtain⟨vs,k,f,Y,q1⟩:=y;obtain⟨L,M,e,q⟩:=q1;subst e;obtain⟨u,v,rfl,ru,rv⟩:=vals2 Y;cases ru;cases rv;have l:∀b∈[s1.heap.objs.size+4,s1.heap.objs.size+2,s1.heap.objs.size+3,s1.heap.objs.size,s1.heap.objs.size+1],kP X x k b:=fun b N=>by
  have m:s1.heap.objs.size<=b:=by
   simp only[cz,tP,or_false]at N;rcases N with rfl|rfl|rfl|rfl|rfl<;>omega
  exact f.fpOk m (f.hok.fresh m)
 rcases q with⟨⟨xs,hx⟩,⟨ys,z⟩,q⟩|⟨⟨xs,hx⟩,⟨ys,z⟩,q⟩
 ·obtain⟨n,rx,r,zx⟩:=f.list hx;obtain⟨t,ry,w,zy⟩:=f.list z;obtain⟨o1,n1,A,_⟩:=id r;obtain⟨o2,n2,B,_⟩:=id w;refine call_zip_2 r.isList w.isList fun g a1 a2 a3 C D a6 E=>?_;refine xv (s:={ s1 with heap:=g }) a1 ?_;have i:∀b o,s1.heap.get? b=some o->g.get? b=some o:=E;have G:Inv X x σ k { s1 with heap:=g }:=f.kept (t':=s1.toks) i;exact⟨_,_,_,_,k,rfl,G,FO L M _ _ _ _ _ (zipApart_new (aS A) (aS B)),⟨a1,a2,⟨_,_,a3⟩,C,D⟩,l,q⟩
 ·obtain⟨n,rx,r,zx⟩:=f.tuple hx;obtain⟨t,ry,w,zy⟩:=f.tuple z;obtain⟨o1,A,_⟩:=id r;obtain⟨o2,B,_⟩:=id w;refine Ff (xs:=n.toArray) (ys:=t.toArray) r w fun g a1 a2 a3 C D E=>?_;refine xv (s:={ s1 with heap:=g }) a1 ?_;have i:∀b o,s1.heap.get? b=some o->g.get? b=some o:=E;have G:Inv X x σ k { s1 with heap:=g }:=f.kept (t':=s1.toks) i;exact⟨_,_,_,_,k,rfl,G,Ea L M _ _ _ _ _ (zipApart_new (aS A) (aS B)),⟨a1,a2,⟨_,_,a3⟩,C,D⟩,l,q⟩
end
inductive DT where
 |k (a:fA)
 |t (l:List DT)
 |s (l:List DT)
mutual
def JV:(x y:DT)->Decidable (x=y)
 |.k a,.k b=>if h:a=b then Decidable.isTrue (by rw[h])else Decidable.isFalse fun e=>h (by injection e)
 |.t l,.t m=>match decDTs l m with
  |Decidable.isTrue h=>Decidable.isTrue (by rw[h])
  |Decidable.isFalse h=>Decidable.isFalse fun e=>h (by injection e)
 |.s l,.s m=>match decDTs l m with
  |Decidable.isTrue h=>Decidable.isTrue (by rw[h])
  |Decidable.isFalse h=>Decidable.isFalse fun e=>h (by injection e)
 |.k _,.t _=>Decidable.isFalse nofun
 |.k _,.s _=>Decidable.isFalse nofun
 |.t _,.k _=>Decidable.isFalse nofun
 |.t _,.s _=>Decidable.isFalse nofun
 |.s _,.k _=>Decidable.isFalse nofun
 |.s _,.t _=>Decidable.isFalse nofun
def decDTs:(x y:List DT)->Decidable (x=y)
 |[],[]=>Decidable.isTrue rfl
 |[],_::_=>Decidable.isFalse nofun
 |_::_,[]=>Decidable.isFalse nofun
 |a::l,b::m=>match JV a b with
  |Decidable.isTrue h=>match decDTs l m with
   |Decidable.isTrue h'=>Decidable.isTrue (by rw[h,h'])
   |Decidable.isFalse h'=>Decidable.isFalse fun e=>h' (by injection e)
  |Decidable.isFalse h=>Decidable.isFalse fun e=>h (by injection e)
end
instance:DecidableEq DT:=JV
mutual
def DT.depth:DT->Nat
 |.k _=>0
 |.t l=>DT.depths l+1
 |.s l=>DT.depths l+1
def DT.depths:List DT->Nat
 |[]=>0
 |a::r=>max (DT.depth a) (DT.depths r)
end
mutual
def sV(h:Heap):DT->Value->Prop
 |.k a,v=>dH a v=true
 |.t l,v=>∃a items,v=.ref a/\h.IsTuple a items/\DAts h l items.toList
 |.s l,v=>∃a items,v=.ref a/\h.IsList a items/\DAts h l items.toList
def DAts(h:Heap):List DT->List Value->Prop
 |[],vs=>vs=[]
 |k::r,vs=>∃v us,vs=v::us/\sV h k v/\DAts h r us
end
theorem DAts.length{h:Heap}:∀{xs:List DT}{a:Zf},DAts h xs a->xs.length=a.length
 |[],a,e=>by have f:a=[]:=e;rw[f];rfl
 |x::xs,a,e=>by
  obtain⟨v,i,rfl,_,g⟩:=e;simp[DAts.length g]
theorem DAts.get{h:Heap}:∀{xs:List DT}{a:Zf}{i:Nat}{v:Value},DAts h xs a->a[i]?=some v->∃x,xs[i]?=some x/\sV h x v
 |[],a,i,v,e,q=>by have f:a=[]:=e;subst f;simp at q
 |x::xs,a,i,v,e,q=>by
  obtain⟨u,m,rfl,g,j⟩:=e;cases i with
  |zero =>
   simp at q;subst q;exact⟨x,rfl,g⟩
  |succ i =>
   obtain⟨y,k,l⟩:=DAts.get j (i:=i) (v:=v) (by simpa using q);exact⟨y,by simpa using k,l⟩
theorem DT.depths_get{l:List DT}{x:DT}{i d:Nat}(h:DT.depths l<=d)(e:l[i]?=some x):x.depth<=d:=by
 induction l generalizing i with
 |nil=>simp at e
 |cons a r f =>
  have g:max a.depth (DT.depths r)<=d:=h;cases i with
  |zero=>simp at e;subst e;omega
  |succ i=>exact f (by omega) (by simpa using e)
theorem Cg{h:Heap}{a:Addr}{i j:Array Value}(x:h.IsList a i)(y:h.IsList a j):i=j:=by
 obtain⟨o,g,_,n,k⟩:=x;obtain⟨l,e,_,m,f⟩:=y;rw[g]at e;cases e;rw[k]at f;injection f
theorem AD{h:Heap}{a:Addr}{i j:Array Value}(x:h.IsTuple a i)(y:h.IsTuple a j):i=j:=by
 obtain⟨o,g,_,n,k⟩:=x;obtain⟨l,e,_,m,f⟩:=y;rw[g]at e;cases e;rw[k]at f;injection f
theorem jP{h:Heap}{a:Addr}{i j:Array Value}(x:h.IsList a i)(y:h.IsTuple a j):False:=by
 obtain⟨o,g,k,_⟩:=x;obtain⟨l,e,f,_⟩:=y;rw[g]at e;cases e;rw[k]at f;simp at f
theorem wc{a b:fA}{v:Value}(g:dH a v=true)(f:dH b v=true):a=b:=by
 rcases aB g with⟨i,t,rfl,rfl⟩|⟨i,t,rfl,rfl⟩
 ·rcases aB f with⟨j,u,rfl,e⟩|⟨j,u,rfl,e⟩
  ·cases e;rfl
  ·cases e
 ·rcases aB f with⟨j,u,rfl,e⟩|⟨j,u,rfl,e⟩
  ·cases e
  ·cases e;rfl
theorem iM{a:fA}{b:Addr}(h:dH a (.ref b)=true):False:=by
 rcases aB h with⟨_,_,_,e⟩|⟨_,_,_,e⟩<;>cases e
theorem sV.inj{h:Heap}:∀(d:Nat) {x y:DT}{v:Value},x.depth<=d->sV h x v->sV h y v->x=y:=by
 have p:∀(d:Nat) (q:∀{x y:DT}{v:Value},x.depth<=d->sV h x v->sV h y v->x=y) (xs g:List DT) (r:Zf),DT.depths xs<=d->DAts h xs r->DAts h g r->xs=g:=by
  intro d q xs
  induction xs with
  |nil =>
   intro g r _ hx f;have u:r=[]:=hx;subst u;cases g with
   |nil=>rfl
   |cons y g=>obtain⟨_,_,e,_⟩:=f;cases e
  |cons x xs w =>
   intro g r n hx f;obtain⟨v,H,rfl,z,A⟩:=hx;cases g with
   |nil=>have B:v::H=[]:=f;cases B
   |cons y g =>
    obtain⟨L,I,e,C,D⟩:=f;cases e;have J:max x.depth (DT.depths xs)<=d:=n;rw[q (by omega) z C,w g H (by omega) A D]
 intro d
 induction d with
 |zero =>
  intro x y v n hx f;cases x with
  |t l=>exact absurd n (by show ¬(DT.depths l+1<=0);omega)
  |s l=>exact absurd n (by show ¬(DT.depths l+1<=0);omega)
  |k a =>
   cases y with
   |k b=>rw[wc hx f]
   |t l=>obtain⟨b,_,rfl,_⟩:=f;exact(iM hx).elim
   |s l=>obtain⟨b,_,rfl,_⟩:=f;exact(iM hx).elim
 |succ d q =>
  intro x y v n hx f;cases x with
  |k a =>
   cases y with
   |k b=>rw[wc hx f]
   |t l=>obtain⟨b,_,rfl,_⟩:=f;exact(iM hx).elim
   |s l=>obtain⟨b,_,rfl,_⟩:=f;exact(iM hx).elim
  |t l =>
   obtain⟨a,i,rfl,hi,hx⟩:=hx;cases y with
   |k b=>exact(iM f).elim
   |t m =>
    obtain⟨E,j,e,o,f⟩:=f;cases e;rw[AD o hi]at f;rw[p d (fun G=>q G) l m i.toList (by have:DT.depths l+1<=d+1:=n;omega) hx f]
   |s m =>
    obtain⟨E,j,e,o,f⟩:=f;cases e;exact(jP o hi).elim
  |s l =>
   obtain⟨a,i,rfl,hi,hx⟩:=hx;cases y with
   |k b=>exact(iM f).elim
   |s m =>
    obtain⟨E,j,e,o,f⟩:=f;cases e;rw[Cg o hi]at f;rw[p d (fun G=>q G) l m i.toList (by have:DT.depths l+1<=d+1:=n;omega) hx f]
   |t m =>
    obtain⟨E,j,e,o,f⟩:=f;cases e;exact(jP hi o).elim
theorem gr{l m:List DT}(f:l.length=m.length):((iQ l.length).all fun j=>decide (l[j]?=m[j]?))=decide (l=m):=by
 by_cases e:l=m
 ·subst e;simp
 ·rw[zzr0 e];rw[List.all_eq_false];apply Classical.byContradiction;intro h;apply e;apply List.ext_getElem?;intro i;by_cases hi:i<l.length
  ·apply Classical.byContradiction;intro a;exact h ⟨i,List.mem_range.mpr hi,by simpa using a⟩
  ·rw[List.getElem?_eq_none (by omega),List.getElem?_eq_none (by omega)]
section
variable{s:Shared}
theorem dt_eq:∀(d:Nat) {A:Around}{x y:DT}{u v:Value},y.depth<=d->A.units+d<cLine->sV s.heap x u->sV s.heap y v->bp A s u v (decide (x=y)):=by
 have leaves:∀{A:Around}{a b:fA}{u v:Value},dH a u=true->dH b v=true->bp A s u v (decide (DT.k a=DT.k b)):=by
  intro A a b u v B G;have J:decide (DT.k a=DT.k b)=decide (a=b):=by
   by_cases e:a=b
   ·subst e;simp
   ·have:¬(DT.k a=DT.k b):=fun z=>e (by injection z);rw[zzr0 this,zzr0 e]
  rw[J];rcases aB B with⟨i,t,rfl,rfl⟩|⟨i,t,rfl,rfl⟩
  ·rcases aB G with⟨j,u,rfl,rfl⟩|⟨j,u,rfl,rfl⟩
   ·rw[yP];exact bp.int_int i t j u
   ·rw[yO];exact bp.int_str i t j u
  ·rcases aB G with⟨j,u,rfl,rfl⟩|⟨j,u,rfl,rfl⟩
   ·rw[yN];exact bp.str_int i t j u
   ·rw[yM];have:=bp.str_str (A:=A) (s:=s) i t j u;rwa[show(i==j)=decide (i=j)from by by_cases e:i=j<;>simp[e]]at this
 have kt:∀{A:Around}{a:fA}{u:Value}{b:Addr}{items:Array Value},A.units<cLine->dH a u=true->s.heap.IsTuple b items->bp A s u (.ref b) false/\bp A s (.ref b) u false:=by
  intro A a u b items h B w;rcases aB B with⟨i,t,rfl,rfl⟩|⟨i,t,rfl,rfl⟩
  ·exact⟨bp.int_tuple i t w h,bp.tuple_int i t w h⟩
  ·exact⟨bp.str_tuple i t w h,bp.tuple_str i t w h⟩
 have L:∀{A:Around}{a:fA}{u:Value}{b:Addr}{items:Array Value},A.units<cLine->dH a u=true->s.heap.IsList b items->bp A s u (.ref b) false/\bp A s (.ref b) u false:=by
  intro A a u b items h B w;rcases aB B with⟨i,t,rfl,rfl⟩|⟨i,t,rfl,rfl⟩
  ·exact⟨bp.int_list i t w h,bp.list_int i t w h⟩
  ·exact⟨bp.str_list i t w h,bp.list_str i t w h⟩
 intro d
 induction d with
 |zero =>
  intro A x y u v o h hx f;cases y with
  |t l=>exact absurd o (by show ¬(DT.depths l+1<=0);omega)
  |s l=>exact absurd o (by show ¬(DT.depths l+1<=0);omega)
  |k b =>
   cases x with
   |t l =>
    obtain⟨a,i,rfl,hi,_⟩:=hx;rw[zzr0 (by intro z;cases z)];exact(kt (by omega) f hi).2
   |s l =>
    obtain⟨a,i,rfl,hi,_⟩:=hx;rw[zzr0 (by intro z;cases z)];exact(L (by omega) f hi).2
   |k a=>exact leaves hx f
 |succ d Q =>
  intro A x y u v o h hx f;have items:∀{l m:List DT}{i j:Array Value},DT.depths m<=d->DAts s.heap l i.toList->DAts s.heap m j.toList->∀n (B:n<i.size) (G:n<j.size),bp A.in1 s i[n] j[n] (decide (l[n]?=m[n]?)):=by
   intro l m i j H hi p n B G;obtain⟨x,ex,hx⟩:=hi.get (i:=n) (v:=i[n]) (by simp[B]);obtain⟨y,O,f⟩:=p.get (i:=n) (v:=j[n]) (by simp[G]);rw[ex,O];have J:decide ((some x:Option DT)=some y)=decide (x=y):=by
    by_cases e:x=y
    ·subst e;simp
    ·rw[zzr0 e,zzr0 fun z=>e (fx z)]
   rw[J];exact Q (DT.depths_get H O) (by show A.units+1+d<cLine;omega) hx f
  cases x with
  |k a =>
   cases y with
   |k b=>exact leaves hx f
   |t l =>
    obtain⟨b,i,rfl,hi,_⟩:=f;rw[zzr0 (by intro z;cases z)];exact(kt (by omega) hx hi).1
   |s l =>
    obtain⟨b,i,rfl,hi,_⟩:=f;rw[zzr0 (by intro z;cases z)];exact(L (by omega) hx hi).1
  |t l =>
   have C:=hx;obtain⟨a,i,rfl,hi,hx⟩:=hx;cases y with
   |k b =>
    rw[zzr0 (by intro z;cases z)];exact(kt (by omega) f hi).2
   |s m =>
    obtain⟨b,j,rfl,p,_⟩:=f;rw[zzr0 (by intro z;cases z)];exact bp.tuple_list hi p (by omega)
   |t m =>
    have H:DT.depths m<=d:=by have:DT.depths m+1<=d+1:=o;omega
    have D:=f;obtain⟨b,j,rfl,p,f⟩:=f;by_cases g:a=b
    ·subst g;have e:DT.t l=DT.t m:=sV.inj _ (ay _) C D;rw[zzr1 e];exact bp.same _
    ·have r:=SeqAt.RcAt.tuples (A:=A) hi p (by omega) (items H hx f);have I:=hx.length;have M:=f.length;simp only[oK]at I M;have q:((iQ (min i.size j.size)).all (fun n=>decide (l[n]?=m[n]?)) && i.size==j.size)=decide (DT.t l=DT.t m):=by
      by_cases e:l.length=m.length
      ·have N:i.size=j.size:=by omega
       rw[<-N,Nat.min_self,<-I,gr e];by_cases E:l=m
       ·subst E;simp
       ·have:¬(DT.t l=DT.t m):=fun z=>E (by injection z);rw[zzr0 this,zzr0 E];rfl
      ·have N:(i.size==j.size)=false:=by simp;omega
       have:¬(DT.t l=DT.t m):=fun z=>e (by injection z with z;rw[z]);rw[N,zzr0 this,tJ]
     rw[q]at r;exact .of_refs g r
  |s l =>
   have C:=hx;obtain⟨a,i,rfl,hi,hx⟩:=hx;cases y with
   |k b =>
    rw[zzr0 (by intro z;cases z)];exact(L (by omega) f hi).2
   |t m =>
    obtain⟨b,j,rfl,p,_⟩:=f;rw[zzr0 (by intro z;cases z)];exact bp.list_tuple hi p (by omega)
   |s m =>
    have H:DT.depths m<=d:=by have:DT.depths m+1<=d+1:=o;omega
    have D:=f;obtain⟨b,j,rfl,p,f⟩:=f;by_cases g:a=b
    ·subst g;have e:DT.s l=DT.s m:=sV.inj _ (ay _) C D;rw[zzr1 e];exact bp.same _
    ·have I:=hx.length;have M:=f.length;simp only[oK]at I M;by_cases e:l.length=m.length
     ·have r:=SeqAt.RcAt.lists (A:=A) hi p (by omega) (by omega) (items H hx f);rw[<-I,gr e]at r;have q:decide (l=m)=decide (DT.s l=DT.s m):=by
       by_cases E:l=m
       ·subst E;simp
       ·have:¬(DT.s l=DT.s m):=fun z=>E (by injection z);rw[zzr0 this,zzr0 E]
      rw[q]at r;exact .of_refs g r
     ·have:¬(DT.s l=DT.s m):=fun z=>e (by injection z with z;rw[z]);rw[zzr0 this];exact .of_refs g (SeqAt.RcAt.lists_lengths hi p (by simp;omega) (by omega))
end
theorem DH(a b:fA):decide (DT.k a=DT.k b)=decide (a=b):=by
 by_cases e:a=b
 ·subst e;simp
 ·rw[zzr0 e,zzr0 fun z=>e (by injection z)]
theorem JS(l m:List DT):decide (DT.t l=DT.t m)=decide (l=m):=by
 by_cases e:l=m
 ·subst e;simp
 ·rw[zzr0 e,zzr0 fun z=>e (by injection z)]
theorem JT(l m:List DT):decide (DT.s l=DT.s m)=decide (l=m):=by
 by_cases e:l=m
 ·subst e;simp
 ·rw[zzr0 e,zzr0 fun z=>e (by injection z)]
theorem Hr(x y:DT):decide ((some x:Option DT)=some y)=decide (x=y):=by
 by_cases e:x=y
 ·subst e;simp
 ·rw[zzr0 e,zzr0 fun z=>e (fx z)]
section
variable{A:Around}{s:Shared}
theorem pO{d:Nat}(g:A.units+1+d<cLine){l m:List DT}{i j:Array Value}(h:DT.depths m<=d)(hi:DAts s.heap l i.toList)(k:DAts s.heap m j.toList):
  ∀n (a:n<i.size) (e:n<j.size),bp A.in1 s i[n] j[n] (decide (l[n]?=m[n]?)):=by
 intro n a e;obtain⟨x,ex,hx⟩:=hi.get (i:=n) (v:=i[n]) (by simp[a]);obtain⟨y,f,o⟩:=k.get (i:=n) (v:=j[n]) (by simp[e]);rw[ex,f,Hr];exact dt_eq d (DT.depths_get h f) g hx o
theorem C0{l m:List DT}{i j:Array Value}(hi:DAts s.heap l i.toList)(g:DAts s.heap m j.toList):((iQ (min i.size j.size)).all (fun n=>decide (l[n]?=m[n]?)) && i.size==j.size)=decide (l=m):=by
 have f:=hi.length;have h:=g.length;simp only[oK]at f h;by_cases e:l.length=m.length
 ·have a:i.size=j.size:=by omega
  rw[<-a,Nat.min_self,<-f,gr e];simp
 ·have a:(i.size==j.size)=false:=by simp;omega
  rw[a,zzr0 fun z=>e (by rw[z]),tJ]
theorem JQ{x y:DT}{u v:Value}(o:y.depth<=14)(w:A.units+16<cLine)(hx:sV s.heap x u)(f:sV s.heap y v):SeqAt.RcAt A s u v (decide (x=y)):=by
 cases x with
 |k a =>
  rcases aB (show dH a u=true from hx)with⟨i,t,rfl,rfl⟩|⟨i,t,rfl,rfl⟩
  ·cases y with
   |k b =>
    rw[DH];rcases aB (show dH b v=true from f)with⟨j,h,rfl,rfl⟩|⟨j,h,rfl,rfl⟩
    ·rw[yP];exact SeqAt.RcAt.int_int i t j h
    ·rw[yO];exact SeqAt.RcAt.int_str i t j h
   |t m=>obtain⟨b,j,rfl,g,_⟩:=f;rw[zzr0 (by intro z;cases z)];exact SeqAt.RcAt.int_tuple i t g (by omega)
   |s m=>obtain⟨b,j,rfl,g,_⟩:=f;rw[zzr0 (by intro z;cases z)];exact SeqAt.RcAt.int_list i t g (by omega)
  ·cases y with
   |k b =>
    rw[DH];rcases aB (show dH b v=true from f)with⟨j,h,rfl,rfl⟩|⟨j,h,rfl,rfl⟩
    ·rw[yN];exact SeqAt.RcAt.str_int i t j h
    ·rw[yM];have:=SeqAt.RcAt.str_str (A:=A) (s:=s) i t j h;rwa[show(i==j)=decide (i=j)from by by_cases e:i=j<;>simp[e]]at this
   |t m=>obtain⟨b,j,rfl,g,_⟩:=f;rw[zzr0 (by intro z;cases z)];exact SeqAt.RcAt.str_tuple i t g (by omega)
   |s m=>obtain⟨b,j,rfl,g,_⟩:=f;rw[zzr0 (by intro z;cases z)];exact SeqAt.RcAt.str_list i t g (by omega)
 |t l =>
  obtain⟨a,i,rfl,hi,hx⟩:=hx;cases y with
  |k b =>
   rw[zzr0 (by intro z;cases z)];rcases aB (show dH b v=true from f)with⟨j,h,rfl,rfl⟩|⟨j,h,rfl,rfl⟩
   ·exact SeqAt.RcAt.tuple_int j h hi (by omega)
   ·exact SeqAt.RcAt.tuple_str j h hi (by omega)
  |t m =>
   obtain⟨b,j,rfl,g,f⟩:=f;have n:DT.depths m<=13:=by have:DT.depths m+1<=14:=o;omega
   have r:=SeqAt.RcAt.tuples (A:=A) hi g (by omega) (pO (by omega) n hx f);rw[C0 hx f]at r;rw[JS];exact r
  |s m=>obtain⟨b,j,rfl,g,_⟩:=f;rw[zzr0 (by intro z;cases z)];exact SeqAt.RcAt.tuple_list hi g (by omega)
 |s l =>
  obtain⟨a,i,rfl,hi,hx⟩:=hx;cases y with
  |k b =>
   rw[zzr0 (by intro z;cases z)];rcases aB (show dH b v=true from f)with⟨j,h,rfl,rfl⟩|⟨j,h,rfl,rfl⟩
   ·exact SeqAt.RcAt.list_int j h hi (by omega)
   ·exact SeqAt.RcAt.list_str j h hi (by omega)
  |t m=>obtain⟨b,j,rfl,g,_⟩:=f;rw[zzr0 (by intro z;cases z)];exact SeqAt.RcAt.list_tuple hi g (by omega)
  |s m =>
   obtain⟨b,j,rfl,g,f⟩:=f;have n:DT.depths m<=13:=by have:DT.depths m+1<=14:=o;omega
   have p:=hx.length;have q:=f.length;simp only[oK]at p q;rw[JT];by_cases e:l.length=m.length
   ·have r:=SeqAt.RcAt.lists (A:=A) hi g (by omega) (by omega) (pO (by omega) n hx f);rw[<-p,gr e]at r;exact r
   ·rw[zzr0 fun z=>e (by rw[z])];exact SeqAt.RcAt.lists_lengths hi g (by simp;omega) (by omega)
theorem LC{x y:DT}{u v:Value}(o:y.depth<=14)(w:A.units+16<cLine)(hx:sV s.heap x u)(f:sV s.heap y v):SeqAt.RcNeAt A s u v (!decide (x=y)):=by
 cases x with
 |k a =>
  rcases aB (show dH a u=true from hx)with⟨i,t,rfl,rfl⟩|⟨i,t,rfl,rfl⟩
  ·cases y with
   |k b =>
    rw[DH];rcases aB (show dH b v=true from f)with⟨j,h,rfl,rfl⟩|⟨j,h,rfl,rfl⟩
    ·rw[yP];exact SeqAt.RcNeAt.int_int i t j h
    ·rw[yO];exact SeqAt.RcNeAt.int_str i t j h
   |t m=>obtain⟨b,j,rfl,g,_⟩:=f;rw[zzr0 (by intro z;cases z)];exact SeqAt.RcNeAt.int_tuple i t g (by omega)
   |s m=>obtain⟨b,j,rfl,g,_⟩:=f;rw[zzr0 (by intro z;cases z)];exact SeqAt.RcNeAt.int_list i t g (by omega)
  ·cases y with
   |k b =>
    rw[DH];rcases aB (show dH b v=true from f)with⟨j,h,rfl,rfl⟩|⟨j,h,rfl,rfl⟩
    ·rw[yN];exact SeqAt.RcNeAt.str_int i t j h
    ·rw[yM];have:=SeqAt.RcNeAt.str_str (A:=A) (s:=s) i t j h;rwa[show(i==j)=decide (i=j)from by by_cases e:i=j<;>simp[e]]at this
   |t m=>obtain⟨b,j,rfl,g,_⟩:=f;rw[zzr0 (by intro z;cases z)];exact SeqAt.RcNeAt.str_tuple i t g (by omega)
   |s m=>obtain⟨b,j,rfl,g,_⟩:=f;rw[zzr0 (by intro z;cases z)];exact SeqAt.RcNeAt.str_list i t g (by omega)
 |t l =>
  obtain⟨a,i,rfl,hi,hx⟩:=hx;cases y with
  |k b =>
   rw[zzr0 (by intro z;cases z)];rcases aB (show dH b v=true from f)with⟨j,h,rfl,rfl⟩|⟨j,h,rfl,rfl⟩
   ·exact SeqAt.RcNeAt.tuple_int j h hi (by omega)
   ·exact SeqAt.RcNeAt.tuple_str j h hi (by omega)
  |t m =>
   obtain⟨b,j,rfl,g,f⟩:=f;have n:DT.depths m<=13:=by have:DT.depths m+1<=14:=o;omega
   have r:=SeqAt.RcNeAt.tuples (A:=A) hi g (by omega) (pO (by omega) n hx f);rw[C0 hx f]at r;rw[JS];exact r
  |s m=>obtain⟨b,j,rfl,g,_⟩:=f;rw[zzr0 (by intro z;cases z)];exact SeqAt.RcNeAt.tuple_list hi g (by omega)
 |s l =>
  obtain⟨a,i,rfl,hi,hx⟩:=hx;cases y with
  |k b =>
   rw[zzr0 (by intro z;cases z)];rcases aB (show dH b v=true from f)with⟨j,h,rfl,rfl⟩|⟨j,h,rfl,rfl⟩
   ·exact SeqAt.RcNeAt.list_int j h hi (by omega)
   ·exact SeqAt.RcNeAt.list_str j h hi (by omega)
  |t m=>obtain⟨b,j,rfl,g,_⟩:=f;rw[zzr0 (by intro z;cases z)];exact SeqAt.RcNeAt.list_tuple hi g (by omega)
  |s m =>
   obtain⟨b,j,rfl,g,f⟩:=f;have n:DT.depths m<=13:=by have:DT.depths m+1<=14:=o;omega
   have p:=hx.length;have q:=f.length;simp only[oK]at p q;rw[JT];by_cases e:l.length=m.length
   ·have r:=SeqAt.RcNeAt.lists (A:=A) hi g (by omega) (by omega) (pO (by omega) n hx f);rw[<-p,gr e]at r;exact r
   ·rw[zzr0 fun z=>e (by rw[z])];exact SeqAt.RcNeAt.lists_lengths hi g (by simp;omega) (by omega)
end
mutual
def oy(K:Za)(H:Hp):DT->V->Prop
 |.k a,v=>v=kV a
 |.t l,v=>∃b xs,v=.ref b/\bE K H b xs/\DIns K H l xs
 |.s l,v=>∃b xs,v=.ref b/\aF K H b xs/\DIns K H l xs
def DIns(K:Za)(H:Hp):List DT->List V->Prop
 |[],vs=>vs=[]
 |k::r,vs=>∃v us,vs=v::us/\oy K H k v/\DIns K H r us
end
section
variable{X:Cx}{J5:Zd}{σ:St}{H:Hp}{s:Shared}
theorem kK(I:Inv X J5 σ H s):∀(d:Nat) {k:DT}{v:V}{u:Value},k.depth<=d->oy X.K H k v->RelV v u->sV s.heap k u:=by
 have h:∀(d:Nat) (i:∀{k:DT}{v:V}{u:Value},k.depth<=d->oy X.K H k v->RelV v u->sV s.heap k u) (f:List DT) (j:List V) (o:Zf),DT.depths f<=d->DIns X.K H f j->bj j o->DAts s.heap f o:=by
  intro d i f
  induction f with
  |nil =>
   intro j o _ hx r;have e:j=[]:=hx;subst e;cases r
   rfl
  |cons k f p =>
   intro j o g hx r;obtain⟨v,q,rfl,m,A⟩:=hx;cases r with
   |@cons _ u _ n B C =>
    have D:max k.depth (DT.depths f)<=d:=g;exact⟨u,n,rfl,i (by omega) m B,p q n (by omega) A C⟩
 intro d
 induction d with
 |zero =>
  intro k v u g hx r;cases k with
  |t l=>exact absurd g (by show ¬(DT.depths l+1<=0);omega)
  |s l=>exact absurd g (by show ¬(DT.depths l+1<=0);omega)
  |k b =>
   have e:v=kV b:=hx;subst e;exact rS (P:=X.prog) (w:=X.w) r
 |succ d i =>
  intro k v u g hx r;cases k with
  |k b =>
   have e:v=kV b:=hx;subst e;exact rS (P:=X.prog) (w:=X.w) r
  |t l =>
   obtain⟨b,xs,rfl,x,hi⟩:=hx;cases(show u=Value.ref b from r);obtain⟨a,y,z,_⟩:=I.tuple x;exact⟨b,a.toArray,rfl,z,by simpa using h d (fun m=>i m) l xs a (by have:DT.depths l+1<=d+1:=g;omega) hi y⟩
  |s l =>
   obtain⟨b,xs,rfl,x,hi⟩:=hx;cases(show u=Value.ref b from r);obtain⟨a,y,z,_⟩:=I.list x;exact⟨b,a.toArray,rfl,z.isList,by simpa using h d (fun m=>i m) l xs a (by have:DT.depths l+1<=d+1:=g;omega) hi y⟩
theorem pP(I:Inv X J5 σ H s):∀{a:List DT}{f:List V}{g:Zf},DT.depths a<=8->DIns X.K H a f->bj f g->DAts s.heap a g
 |[],f,g,_,hx,r=>by
  have e:f=[]:=hx;subst e;cases r
  rfl
 |k::a,f,g,i,hx,r=>by
  obtain⟨v,j,rfl,l,m⟩:=hx;cases r with
  |@cons _ u _ h n o =>
   have p:max k.depth (DT.depths a)<=8:=i;exact⟨u,h,rfl,kK I 8 (by omega) l n,pP I (by omega) m o⟩
end
def k6(K:Za):R2:=fun x y H Q=>∃d e:DT,oy K H d x/\oy K H e y/\d.depth<=8/\e.depth<=8/\Q (.bl (decide (d=e))) H
def Gs(K:Za):R2:=fun x y H Q=>∃d e:DT,oy K H d x/\oy K H e y/\d.depth<=8/\e.depth<=8/\Q (.bl (!decide (d=e))) H
section
variable{X:Cx}
theorem jy(f:X.A.units+16<cLine):kN X (eJ .Eq) (k6 X.K):=by
 intro l s σ H x y v u Q I g i h;obtain⟨d,e,hx,j,k,a,q⟩:=h;exact JQ (bo a (by decide)) f (kK I 8 k hx g) (kK I 8 a j i) X.prog X.w X.xe _ ⟨.bl _,H,I,rfl,q⟩
theorem B3(f:X.A.units+16<cLine):kN X (eJ .NotEq) (Gs X.K):=by
 intro l s σ H x y v u Q I g i h;obtain⟨d,e,hx,j,k,a,q⟩:=h;exact LC (bo a (by decide)) f (kK I 8 k hx g) (kK I 8 a j i) X.prog X.w X.xe _ ⟨.bl _,H,I,rfl,q⟩
def Km(K:Za):R2:=fun x y H Q=>∃d e:DT,oy K H d x/\oy K H e y/\d.depth<=40/\e.depth<=14/\Q (.bl (decide (d=e))) H
theorem KA(f:X.A.units+16<cLine):kN X (eJ .Eq) (Km X.K):=by
 intro l s σ H x y v u Q I g i h;obtain⟨d,e,hx,j,k,a,q⟩:=h;exact JQ a f (kK I 40 k hx g) (kK I 14 a j i) X.prog X.w X.xe _ ⟨.bl _,H,I,rfl,q⟩
def EL(K:Za)(neg:Bool):R2:=fun x y H Q=>∃(d:DT) (ds:List DT) (p:Addr) (xs:List V),oy K H d x/\y=.ref p/\(aF K H p xs∨bE K H p xs)/\DIns K H ds xs/\d.depth<=8/\DT.depths ds<=8/\Q (.bl (if neg then !decide (d∈ds)else decide (d∈ds))) H
open Classical in
theorem pT{h:Heap}{d:DT}(g:d.depth<=8):∀{a:List DT}{f:Zf},DAts h a f->DT.depths a<=8->f.any (fun u=>@decide (sV h d u) (propDecidable _))=decide (d∈a)
 |[],f,e,_=>by
  have j:f=[]:=e;subst j
  rfl
 |x::a,f,e,k=>by
  obtain⟨u,l,rfl,i,m⟩:=e;have o:max x.depth (DT.depths a)<=8:=k;rw[qr,pT g m (by omega)];by_cases q:d=x
  ·subst q;simp[i]
  ·have n:¬sV h d u:=fun z=>q (sV.inj 8 g z i);simp[n,q]
open Classical in
theorem uB{A:Around}{s:Shared}{d:DT}{v:Value}(g:d.depth<=8)(i:A.units+8<cLine)(j:sV s.heap d v):∀{f:List DT}{a:Zf},DAts s.heap f a->DT.depths f<=8->∀u∈a,bp A s u v (@decide (sV s.heap d u) (propDecidable _))
 |[],a,e,_,u,hm=>by
  have k:a=[]:=e;subst k;cases hm
 |x::f,a,e,l,u,hm=>by
  obtain⟨r,m,rfl,h,o⟩:=e;have p:max x.depth (DT.depths f)<=8:=l;rcases cz.mp hm with rfl|hm
  ·have q:=dt_eq 8 (A:=A) g i h j;by_cases z:x=d
   ·subst z;rw[zzr1 h];rwa[zzr1 rfl]at q
   ·have n:¬sV s.heap d u:=fun w=>z (sV.inj 8 g w h).symm;rw[zzr0 n];rwa[zzr0 z]at q
  ·exact uB g i j o (by omega) u hm
theorem GQ(t:X.A.units+16<cLine):kN X (eJ .In) (EL X.K false):=by
 intro z s σ H x y v u Q I m n h;obtain⟨d,B,p,xs,hx,rfl,hq,e,f,a,q⟩:=h;cases n;have l:=kK I 8 f hx m;have g:X.A.in1.units+8<cLine:=by show X.A.units+1+8<cLine;omega
 rcases hq with hq|hq
 ·obtain⟨i,r,j,o⟩:=I.list hq;have hi:=pP I a e r;refine SeqAt.in_listAt _ j.isList (fun w k=>uB f g l hi a w (by simpa using k)) ⟨.bl _,H,I,rfl,?_⟩;rw[xk,pT f hi a];exact q
 ·obtain⟨i,r,j,o⟩:=I.tuple hq;have hi:=pP I a e r;refine SeqAt.in_tupleAt _ j (fun w k=>uB f g l hi a w (by simpa using k)) ⟨.bl _,H,I,rfl,?_⟩;rw[xk,pT f hi a];exact q
theorem v6(t:X.A.units+16<cLine):kN X (eJ .NotIn) (EL X.K true):=by
 intro z s σ H x y v u Q I m n h;obtain⟨d,B,p,xs,hx,rfl,hq,e,f,a,q⟩:=h;cases n;have l:=kK I 8 f hx m;have g:X.A.in1.units+8<cLine:=by show X.A.units+1+8<cLine;omega
 rcases hq with hq|hq
 ·obtain⟨i,r,j,o⟩:=I.list hq;have hi:=pP I a e r;refine SeqAt.notIn_listAt _ j.isList (fun w k=>uB f g l hi a w (by simpa using k)) ⟨.bl _,H,I,rfl,?_⟩;rw[xk,pT f hi a];exact q
 ·obtain⟨i,r,j,o⟩:=I.tuple hq;have hi:=pP I a e r;refine SeqAt.notIn_tupleAt _ j (fun w k=>uB f g l hi a w (by simpa using k)) ⟨.bl _,H,I,rfl,?_⟩;rw[xk,pT f hi a];exact q
end
def uJ(z:Str)(lo hi:Option Int):Str:=⟨((z.cps.toList.drop (HT.sIx z.length 0 lo)).take (HT.sIx z.length z.length hi-HT.sIx z.length 0 lo)).toArray⟩
theorem sliceRange_one(a b:Nat):sliceRange (a:Int) (b:Int) 1=(iQ (b-a)).map (fun k=>a+k):=by
 unfold sliceRange;simp only[show(1:Int) > 0 from by decide,if_true];by_cases h:(a:Int)<(b:Int)
 ·have e:(if(a:Int)<(b:Int)then((b:Int)-a+1-1) / 1 else 0).toNat=b-a:=by rw[if_pos h];omega
  rw[e];exact List.map_congr_left fun k _=>by omega
 ·have e:(if(a:Int)<(b:Int)then((b:Int)-a+1-1) / 1 else 0).toNat=b-a:=by rw[if_neg h];omega
  rw[e];exact List.map_congr_left fun k _=>by omega
theorem AN(v:Option Int)(n d:Nat):(match v with|none=>(d:Int)|some i=>max 0 (min (if i<0 then i+(n:Int)else i) (n:Int)))=((HT.sIx n d v:Nat):Int):=by
 cases v with
 |none=>rfl
 |some i =>
  rw[<-HT.clip_eq i n d];dsimp only;by_cases h:i<0
  ·rw[if_pos h,if_pos h];omega
  ·rw[if_neg h,if_neg h];omega
theorem pk(lo hi:Option Int)(n:Nat):tH lo hi 1 n=(iQ (HT.sIx n n hi-HT.sIx n 0 lo)).map (fun k=>HT.sIx n 0 lo+k):=by
 have a:=AN lo n 0;have e:=AN hi n n;rw[<-sliceRange_one,<-a,<-e];unfold tH;simp only[show(1:Int) > 0 from by decide,if_true];cases lo<;>cases hi<;>rfl
theorem Es(z:Str)(lo hi:Option Int):Txt.slice z lo hi=uJ z lo hi:=by
 have k:HT.sIx z.length 0 lo<=z.length:=HT.sIx_le _ _ (cp _) _;have l:HT.sIx z.length z.length hi<=z.length:=HT.sIx_le _ _ (ay _) _;have f:z.cps.toList.length=z.length:=by simp[Str.length]
 have e:(tH lo hi 1 z.length).filterMap (z.cps[·]?)=(z.cps.toList.drop (HT.sIx z.length 0 lo)).take (HT.sIx z.length z.length hi-HT.sIx z.length 0 lo):=by
  rw[pk];generalize HT.sIx z.length 0 lo=a at *;generalize HT.sIx z.length z.length hi=b at *;have h:=StrLaws.picks z.cps.toList (b-a) a (by omega);simpa using h
 unfold Txt.slice;by_cases h:((1:Int)==1 && (tH lo hi 1 z.length).length==z.length)=true
 ·rw[if_pos h];have g:(tH lo hi 1 z.length).length=z.length:=by simpa using h
  rw[pk,ao,List.length_range]at g;unfold uJ;have i:HT.sIx z.length 0 lo=0:=by omega
  have j:HT.sIx z.length z.length hi-HT.sIx z.length 0 lo=z.cps.toList.length:=by omega
  rw[j,i,qj,cv]
 ·rw[if_neg h];unfold uJ;rw[e]
section
variable{X:Cx}
def IG:V->Option Int->Option Int->Hp->VK->Prop:=fun x lo hi H Q=>∃z,x=.str z/\z.length<=ai/\Q (.str (uJ z lo hi)) H
theorem BJ:HI X IG:=by
 intro g s σ H x v m n lo hi p Q I r y B f h;obtain⟨z,rfl,C,q⟩:=h;obtain⟨t,rfl⟩:=r;rw[<-Es]at q;refine⟨"str",_,F.slot_str_getitem.lookup,typeIs_str _ _ _,?_⟩;obtain⟨o,D,E,G⟩:=y;have a:∀(l u:Option (Int×Tok)),m=partValue l->n=partValue u->lo=l.map (·.1)->hi=u.map (·.1)->wpAny (model X.prog X.w) X.A (gK (.str z t) (.ref p)) (EP X g σ Q) X.xe s:=by
  rintro l u rfl rfl rfl rfl;refine wpAny_getItem_str_slice (l:=l) (u:=u) (st:=none) ⟨o,D,E,G⟩ rfl (post_val_or_str ⟨bo (Txt.slice_le z _ _) C,fun e k=>⟨.str _,H,I.tok _,⟨_,rfl⟩,q⟩⟩)
 cases B with
 |none =>
  cases f with
  |none=>exact a none none rfl rfl rfl rfl
  |int j u=>exact a none (some (j,u)) rfl rfl rfl rfl
 |int i e =>
  cases f with
  |none=>exact a (some (i,e)) none rfl rfl rfl rfl
  |int j u=>exact a (some (i,e)) (some (j,u)) rfl rfl rfl rfl
def JE(K:Za):V->List V->Hp->VK->Prop:=fun x vs H Q=>∃z p ys,x=.str z/\vs=[.ref p]/\aF K H p (ys.map V.str)/\(ys.map (·.length)).sum+ys.length * z.length<=16777216/\Q (.str (xj z ys)) H
theorem Iv{a:Zb}:∀{us:Zf},bj (a.map V.str) us->StrsAre us a:=by
 induction a with
 |nil=>intro us r;cases r;exact .nil
 |cons y a e =>
  intro us r;cases r with
  |cons f g =>
   obtain⟨t,rfl⟩:=f;exact .cons _ _ (e g)
theorem IW:Me X "str.join" (JE X.K):=by
 intro m s σ H x n v o Q I a e h;obtain⟨z,p,w,rfl,rfl,f,g,q⟩:=h;obtain⟨t,rfl⟩:=a;obtain⟨u,rfl,i⟩:=e.one;cases i;obtain⟨j,r,l,_⟩:=I.list f;exact join_list l.isList (by simpa using Iv r) g fun y k=>⟨.str _,H,I.tok _,⟨_,rfl⟩,q⟩
end
section
variable{X:Cx}
def LH(K:Za)(H:Hp)(x:V)(t:Value):Prop:=jW K H x t∨(∃a xs,x=.ref a/\t=.type "tuple"/\bE K H a xs)∨(∃a xs,x=.ref a/\t=.type "list"/\aF K H a xs)
theorem Cf{k:Zd}{σ:St}{H:Hp}{s:Shared}{A:Around}{E:Zc}{Q:Zc}{c:Value}{b:Bool}{x:V}{u t:Value}(I:Inv X k σ H s)(f:RelV x u)(ty:LH X.K H x t)(e:mS X.K t c=some b)(h:∀tk,Q (.bool b) { s with toks:=tk }):
  wpAny (model X.prog X.w) A (call (.builtin "isinstance") [u,c]) Q E s:=by
 rcases ty with ty|⟨a,xs,rfl,rfl,q⟩|⟨a,xs,rfl,rfl,q⟩
 ·exact ES I f ty e h
 ·cases(show u=Value.ref a from f);obtain⟨g,l,p,m⟩:=I.tuple q;obtain⟨o,i,j,_⟩:=p;exact je PySem.W.kitx_tuple I.kIn ⟨o,i,j⟩ e (fun z=>nomatch z) h
 ·cases(show u=Value.ref a from f);obtain⟨g,l,p,m⟩:=I.list q;obtain⟨o,n,i,j,_⟩:=p;exact je PySem.W.kitx_list I.kIn ⟨o,i,j⟩ e (fun z=>nomatch z) h
theorem fb:eQ X (.builtin "isinstance") (fun xs H Q=>∃x c t b,xs=[x,.ty c]/\LH X.K H x t/\mS X.K t (.type c)=some b/\Q (.bl b) H):=by
 intro g s σ H xs i Q I r h;obtain⟨x,c,t,b,rfl,ty,a,q⟩:=h;obtain⟨u,v,rfl,e,f⟩:=vals2 r;cases(show v=Value.type c from f);exact Cf I e ty a fun tk=>⟨.bl b,H,I.tok _,rfl,q⟩
theorem HE{bs:List Bool}{a:Zf}(r:bj (bs.map V.bl) a){i:Nat}{v:Value}(h:a[i]?=some v):v=.bool ((bs[i]?).getD false)/\i<bs.length:=by
 have hi:i<a.length:=(cV.mp h).1;have g:=r.length;rw[ao]at g;have e:i<bs.length:=by omega
 obtain⟨u,f,j⟩:=r.get (i:=i) (x:=V.bl bs[i]) (by simp[e]);rw[h]at f;cases f;refine⟨?_,e⟩;rw[bI e];exact j
theorem y_(bs:List Bool):((iQ bs.length).all fun i=>(bs[i]?).getD false)=bs.all id:=by
 induction bs with
 |nil=>rfl
 |cons b bs a =>
  rw[dD,List.range_succ_eq_map,List.all_cons,List.all_map,List.all_cons,<-a]
  rfl
theorem y9(bs:List Bool):((iQ bs.length).any fun i=>(bs[i]?).getD false)=bs.any id:=by
 induction bs with
 |nil=>rfl
 |cons b bs a =>
  rw[dD,List.range_succ_eq_map,qr,List.any_map,qr,<-a]
  rfl
theorem lT(l:X.calm=true):eQ X (.builtin "all") (fun xs H Q=>∃(p:Addr) (bs:List Bool),xs=[.ref p]/\aF X.K H p (bs.map V.bl)/\Q (.bl (bs.all id)) H):=by
 intro m s σ H xs E Q I r h;obtain⟨p,bs,rfl,t,q⟩:=h;obtain⟨u,rfl,x⟩:=vals1 r;cases x;obtain⟨a,j,f,G⟩:=I.list t;obtain⟨o,n,y,_⟩:=id f;have k:=j.length;rw[ao]at k;refine call_all_walk (sW f.isList ?_);refine⟨s.heap.objs.size,_,_,_,_,_,fun i=>(bs[i]?).getD false,rfl,xi (prog:=X.prog) (w:=X.w) (A:=X.A.in1) (I.ok.hd l) s.heap.objs.size p (bX (aS y)) a.toArray,⟨⟨_,db _ rfl,rfl,rfl⟩,f.isList.push _⟩,?_,?_⟩
 ·intro i v J L M z g;obtain⟨e,_⟩:=HE j (i:=i) (v:=v) (by simpa using z);rw[e];exact mW g
 ·intro B tk C;have D:Inv X m σ H { s with heap:=B,toks:=tk }:=I.kept fun b o e=>C b o (by simp;exact bX (aS e)) (bc _ e);rw[bD,<-k,y_];exact⟨.bl _,H,D,rfl,q⟩
theorem AR(l:X.calm=true):eQ X (.builtin "any") (fun xs H Q=>∃(p:Addr) (bs:List Bool),xs=[.ref p]/\aF X.K H p (bs.map V.bl)/\Q (.bl (bs.any id)) H):=by
 intro m s σ H xs E Q I r h;obtain⟨p,bs,rfl,t,q⟩:=h;obtain⟨u,rfl,x⟩:=vals1 r;cases x;obtain⟨a,j,f,G⟩:=I.list t;obtain⟨o,n,y,_⟩:=id f;have k:=j.length;rw[ao]at k;refine call_any_walk (sW f.isList ?_);refine⟨s.heap.objs.size,_,_,_,_,_,fun i=>(bs[i]?).getD false,rfl,xi (prog:=X.prog) (w:=X.w) (A:=X.A.in1) (I.ok.hd l) s.heap.objs.size p (bX (aS y)) a.toArray,⟨⟨_,db _ rfl,rfl,rfl⟩,f.isList.push _⟩,?_,?_⟩
 ·intro i v J L M z g;obtain⟨e,_⟩:=HE j (i:=i) (v:=v) (by simpa using z);rw[e];exact mW g
 ·intro B tk C;have D:Inv X m σ H { s with heap:=B,toks:=tk }:=I.kept fun b o e=>C b o (by simp;exact bX (aS e)) (bc _ e);rw[bD,<-k,y9];exact⟨.bl _,H,D,rfl,q⟩
theorem B4:kN X (eJ .In) (fun x y H Q=>∃c j,x=.str ⟨#[c]⟩/\y=.str j/\Q (.bl (decide (c∈j.cps.toList))) H):=by
 intro a s σ H x y v u Q I e f h;obtain⟨c,j,rfl,rfl,q⟩:=h;rw[<-StrLaws.found_one]at q;exact EM a s σ H _ _ v u Q I e f ⟨_,_,rfl,rfl,q⟩
theorem uM(O:X.calm=true):eQ X (.type "list") (fun xs H Q=>∃(d:Addr) (f:List (fA×V)),xs=[.ref d]/\Rd H d (.dK f)/\∀l,H l=none->Q (.ref l) (upd H l (.lst (f.map fun g=>kV g.1)))):=by
 intro J5 s σ H xs us Q I r h;obtain⟨d,f,rfl,T,q⟩:=h;obtain⟨u,rfl,U⟩:=vals1 r;cases U;obtain⟨z,n,M,y,Y⟩:=rX I.hok T;obtain⟨ep,E⟩:=Y.dictAt;have hl:=y.length;refine PySem.W.kdl_call (PySem.W.kdl_dict (knd:=cI X.prog X.w) (kvs:=M) (ep:=ep) n) (I.ok.hd O) E (by rw[<-hl];exact z) fun h' tk m c G hD A=>?_;have B:bj (f.map fun g=>kV g.1) m.toList:=by
  obtain⟨hn,hP⟩:=A;have J:∀(a:Zf) (L:List (fA×V)) (C:List (fA×Value)),KV L C->a.length=C.length->(∀(j:Nat) (v:Value),a[j]?=some v->∃k x,C[j]?=some (k,x)/\(cI X.prog X.w).is k v=true)->bj (L.map fun g=>kV g.1) a:=by
   intro a L C rl
   induction rl generalizing a with
   |nil=>intro D _;cases a with
    |nil=>exact .nil
    |cons _ _=>cases D
   |@cons p w' ps ab hp _ ih =>
    intro D N;cases a with
    |nil=>cases D
    |cons v a =>
     obtain⟨k,x,e,G⟩:=N 0 v rfl;have e':w'=(k,x):=by simpa using e
     refine .cons ?_ (ih a (by simpa using D) fun j v B=>by simpa using N (j+1) v (by simpa using B));have ek:p.1=k:=by rw[hp.1,e']
     show RelV (kV p.1) v;rw[ek];rcases aB (show dH k v=true from G)with⟨i,t,rfl,rfl⟩|⟨i,t,rfl,rfl⟩
     ·exact⟨t,rfl⟩
     ·exact⟨t,rfl⟩
  exact J m.toList f M y (by rw[oK];exact hn) fun j v B=>hP j v (by rw[<-Array.getElem?_toList];exact B)
 refine⟨.ref s.heap.objs.size,_,I.laid (o:=.lst (f.map fun g=>kV g.1)) G (ay _) ⟨by rw[ao];exact z,m.toList,c,B,by rw[Array.toArray_toList];exact hD⟩,rfl,q _ I.fresh⟩
end
section
variable{prog:bu}{w:World}{K:Type}[DecidableEq K]{knd:HeapKind prog w K}{A:Around}{E:Zc}{s:Shared}
theorem tW{d a:Addr}{xs:List (K×Addr×Value)}{k:K}{v:Value}{Q:Zc}(t:knd.room A)(f:knd.is s.heap k a)(B:s.heap.DictOfH knd d xs)
  (there:∀p,atKey xs k=some p->Q p.2 { s with toks:=s.toks+knd.draws k })
  (new:atKey xs k=none->∀q,q.DictOfH knd d (xs++[(k,a,v)])->jE d s.heap q->Q v { s with heap:=q,toks:=s.toks+knd.draws k })
  (C:xs.length<=ai):wpAny (model prog w) A (dictSetDefault d (.ref a) v) Q E s:=by
 obtain⟨o,H,D,h,G,g,n,i,r⟩:=B;unfold dictSetDefault
 try with_reducible refine gE ?_
 refine ak (knd.pyHash t f ?_);refine ak (wpAny_dictFind_heap (s:={ s with toks:=s.toks+knd.draws k }) t f h g n i r ?_ ?_)
 ·intro l;have m:k∉xs.map (·.1):=not_mem_keys_of_get l;refine ak (oP (ak (wpAny_updateDictKeys (hz:=by have e:=size_of_entries n;omega) (s:={ s with toks:=s.toks+knd.draws k }) h g (ap (new (atKey_none_of_get l) _ ⟨_,_,D+1,jt _ h (Obj.isFreed_of_dict (Obj.data_mapDictKeys g _)),
   G.mapDictKeys _,Obj.data_mapDictKeys g _,?_,?_,?_⟩ (tN ..))))))
  ·simp[n,entryOfKey]
  ·intro x hx;rcases cG.mp hx with hx|hx
   ·exact knd.keeps (i x hx) h g (tN ..)
   ·simp only[eD]at hx;subst hx;exact knd.keeps f h g (tN ..)
  ·rw[aQ,f_];refine⟨r,by simp,?_⟩;intro x hx y u;simp only[cw,List.map_nil,eD]at u;subst u;exact fun e=>m (e▸hx)
 ·intro j p z;refine ak (wpAny_dictEntries (s:={ s with toks:=s.toks+knd.draws k }) h g ?_);rw[entry_at n j,z];exact ak (oP (ap (there p (atKey_of_get r z))))
theorem pH(knd:HeapKind prog w K)(d a:Addr)(j:(d==jF)=false)(dflt:Value):
  MeetsIn prog w (b_.«dict.setdefault» ⟨[.ref d,.ref a,dflt],[]⟩) (fun A R s=>knd.room A.in1/\∃k xs,knd.is s.heap k a/\s.heap.DictOfH knd d xs/\xs.length<=ai /\
   (∀p,atKey xs k=some p->R (.ok (.ret p.2)) { s with toks:=s.toks+knd.draws k }) /\
   (atKey xs k=none->∀e,e.DictOfH knd d (xs++[(k,a,dflt)])->jE d s.heap e->R (.ok (.ret dflt)) { s with heap:=e,toks:=s.toks+knd.draws k })) :=
 .of_wp fun A R s ⟨l,k,xs,f,i,m,n,o⟩=>by
  unfold b_.«dict.setdefault»;refine ak ?_;unfold b_.Dict.keyAndDefault;refine ak (wpAny_notOrdered_dict i.typeIs ?_);show wpAny _ _ (pure (d,Value.ref a,some dflt)) _ _ s;refine ap ?_;show wpAny _ _ (if(d==jF)=true then _ else(dictSetDefault d (.ref a) dflt >>= _)) _ _ s
  rw[if_neg (by rw[j];exact iO)];exact ak (tW l f i (fun p q=>ap ⟨p.2,rfl,n p q⟩) (fun r e g h=>ap ⟨dflt,rfl,o r e g h⟩) m)
end
section
variable{X:Cx}
def Dd:V->List V->Hp->VK->Prop:=fun x vs H Q=>∃(d b:Addr) (kvs:List (TK×V)) (k:TK) (z:V),x=.ref d/\vs=[.ref b,z]/\H d=some (.dT kvs)/\i6 H k (.ref b)/\k.depth<=8/\kvs.length<ai /\
 (∀v,d4 kvs k=some v->Q v H)/\(d4 kvs k=none->Q z (upd H d (.dT (kvs++[(k,z)]))))
theorem EO(C:X.A.units+16<cLine):Me X "dict.setdefault" Dd:=by
 intro J5 s σ H x vs v us Q I D E h;obtain⟨d,b,a,k,z,rfl,rfl,l,n,j,hz,G,J⟩:=h;cases D;obtain⟨u,v,rfl,L,q⟩:=E.two;cases L;obtain⟨_,g,xs,f,r⟩:=JR I.hok I.kIn l;have hl:a.length=xs.length:=Paired.length f;refine call_meetsIn PySem.F.slot_dict_setdefault r.typeIs PySem.F.entry_dict_setdefault (PySem.F.args_dict_setdefault_3 _ _ _) (pH (gb X.prog X.w) d b g v)
  ⟨iJ C,k,xs,Cb I.hok I.kIn (i6.c 8 j n) j,r,by omega,fun p M=>?_,fun N h' m O=>?_⟩
 ·have e:=f.val k;rw[M]at e;cases i:d4 a k with
  |none=>rw[i]at e;exact e.elim
  |some y =>
   rw[i]at e;exact⟨y,H,I.tok _,e,G y i⟩
 ·have e:=f.val k;rw[N]at e;have i:d4 a k=none:=by
   cases i:d4 a k with
   |none=>rfl
   |some y=>rw[i]at e;exact e.elim
  obtain⟨o,T,U,t,Y,h3,h4,_,h5⟩:=m;refine⟨z,_,yY (ob:=.dT (a++[(k,z)])) I (by rw[l];exact g8) O ⟨o,t⟩ ⟨by rw[aP,List.length_singleton];omega,g,_,KT.keeps (kvs:=a++[(k,z)]) (xs:=xs++[(k,b,v)]) (eE f ⟨rfl,i6.c 8 j n,j,q⟩) fun c ys B=>?_,o,T,U,t,Y,h3,h4,h5⟩,q,J i⟩;rw[am (JK B l (fun z=>nomatch z))];exact B
end
theorem lS:entryFor table "dict.update.loop"=some b_.«dict.update.loop»:=entryFor_of_fast (by kernel_rfl)
theorem gk:plainId "dict.update.loop"=true:=by decide +kernel
theorem yI:qw (.type "list") "keys"=pure none:=am_miss_of_fast (by decide +kernel)
section
variable{prog:bu}{w:World}{A:Around}{E:Zc}{s:Shared}
theorem EQ{a:Addr}{o:Obj}{xs:Array Value}{k:Nat}{Q:Option Value->Shared->Prop}(hx:s.heap.get? a=some o)(m:o.cls=.type "list")(f:o.data=.seq xs k)(n:o.dict=none)(r:A.handled=none)
  (h:∀l tk,(∀b p,s.heap.get? b=some p->l.get? b=some p)->Q none { s with heap:=l,toks:=tk }):wpAny (model prog w) A (xh (.ref a) "keys") Q E s:=by
 obtain⟨c,t,u,v⟩:=o;simp only at m f n;subst m f n;obtain⟨x,g,d,tk,os⟩:=s;have q:∀i,(⟨x,g,d,i,os⟩:Shared).TypeIs (.ref a) "list":=fun _=>⟨_,hx,rfl⟩;have y:=sub_AttributeError;have z:=F.slot_list_getattribute.lookup;have B:=F.slot_list_getattribute.bind (.ref a);have C:=am_list_getattr_none;unfold xh getAttrBy? getAttrBy
 repeat (any_goals (first|assumption|exact q _|((with_reducible show wpAny _ _ (call (p8 "list.__getattribute__") _ _) _ _ _);refine call_meets F.slot_list_getattribute (q _) am_entry_list_getattribute (F.args_list_getattribute_2 _ _) (meets_getattribute_miss_list a xs k v "keys" _ yI (by decide +kernel) (by decide +kernel)) ⟨hx,r,fun l i e j=>?_⟩)|wp_step))
 obtain⟨D,G,H⟩:=j.there;show wpAny _ _ (getattributeRaised _ _ _ _ _ _ _) _ _ _;unfold getattributeRaised hookOrError attributeErrorLeaves
 repeat (any_goals (first|assumption|wp_step))
 all_goals first|exact h _ _ j.keeps|trace_state
def Cz(h:Heap)(u:Value)(kv:fA×Value):Prop:=∃t ku,u=.ref t/\h.IsTuple t #[ku,kv.2]/\dH kv.1 ku=true
theorem BI{κ:Type}[DecidableEq κ](a:List (κ×Value))(k:κ)(v:Value):(stored a k v).length<=a.length+1:=by
 unfold stored;split
 ·rw[ao];omega
 ·rw[aP,List.length_singleton];exact ay _
theorem FL{R:Result->Shared->Prop}(hh:A.handled=none){D it l:Addr}{items:Array Value}{ps:List (fA×Value)}(B:D≠it)(T:l≠it)(U:l≠D)(a8:ps.length=items.size):
  ∀(n i:Nat) (s:Shared) (a:List (fA×Value)),items.size-i=n->i<=items.size->a.length+(items.size-i)<=ai->s.heap.IsListIter it l i->s.heap.IsList l items->s.heap.DictOf (cI prog w) D a ->
   (∀(j:Nat) (u:Value) (N:fA×Value),items[j]?=some u->ps[j]?=some N->Cz s.heap u N) ->
   (∀z tk,z.DictOf (cI prog w) D (merged a (ps.drop i))->(∀b o,b≠D->b≠it->s.heap.get? b=some o->z.get? b=some o)->R (.ok (.ret .none)) { s with heap:=z,toks:=tk }) ->
   zzl87 (model prog w) A (.builtin "dict.update.loop" ⟨[.ref D,.ref it,rawInt i,.none],[]⟩) R s:=by
 intro n
 induction n with
 |zero =>
  intro i s a hn hi hz p O Q Y hR;have e:i=items.size:=by omega
  subst e;refine tG lS ?_;rw[tF gk _];show wpAny _ A.in1 (pyNext (.ref it) >>= _) _ _ s;refine ak (wpAny_pyNext_list_end hh p O (by simp) fun z eb=>?_);show wpAny _ _ (b_.Dict.addKeywords D [] >>= _) _ _ _;refine ak (ap (ap ?_));have C:z.DictOf (cI prog w) D a:=Q.extBut eb B;have q:=hR z s.toks (by rw[qi (by omega)];exact C) fun b o _ hb e=>eb b o hb e;exact q
 |succ n ih =>
  intro i s a hn hi hz p O Q Y hR;have I:i<items.size:=by omega
  refine tG lS ?_;rw[tF gk _];show wpAny _ A.in1 (pyNext (.ref it) >>= _) _ _ s;have hu:items[i]?=some items[i]:=by simp[I]
  have hk:ps[i]?=some ps[i]:=bI (by omega);obtain⟨t,ku,eu,ht,ab⟩:=Y i _ _ hu hk;refine ak (wpAny_pyNext_list_item p O (x:=items[i]) hu fun h J al=>?_);rw[eu];have m:jE it s.heap h:=al;have nt:t≠it:=by
   rintro rfl;obtain⟨o,G,L,_⟩:=ht;obtain⟨o',f,g,_⟩:=p;rw[G]at f;cases f;rw[L]at g;simp at g
  have M:h.IsTuple t #[ku,ps[i].2]:=ht.extBut m.extBut nt;have an:Shared.TypeIs { s with heap:=h } (.ref t) "tuple":=M.typeIs (s:={ s with heap:=h });obtain⟨ot,as,a9,bd,aC⟩:=id M;refine ak (gE ?_);refine ak (tE ?_);unfold b_.Dict.pairItems;refine ak (nu an ?_);rw[if_pos (by decide)];refine ak (jG as aC (ap ?_));show wpAny _ _ (jf [ku,ps[i].2] (dictSet D ku ps[i].2)) _ _ _;have aT:h.DictOf (cI prog w) D a:=Q.extBut m.extBut B;refine gE (wpAny_dictSet_pairs (knd:=cI prog w) (k:=ps[i].1) ab aT (fun y aX a0=>?_) (by omega));have v:jE D h y:=a0;show wpAny _ _ (again _) _ _ _;refine ap ⟨tD gk _,?_⟩;have a4:h.IsList l items:=O.extBut m.extBut T;have kp:∀b o,b≠D->b≠it->s.heap.get? b=some o->y.get? b=some o:=fun b o h y e=>v.extBut b o h (m.extBut b o y e);refine ih (i+1) _ (stored a ps[i].1 ps[i].2) (by omega) I (by have:=BI a ps[i].1 ps[i].2;omega) (J.extBut v.extBut (dJ B)) (a4.extBut v.extBut U) aX (fun j u N h y=>?_) fun z tk C a5=>?_
  ·obtain⟨t2,a6,e2,H,a7⟩:=Y j u N h y;have n1:t2≠it:=by
    rintro rfl;obtain⟨o,G,L,_⟩:=H;obtain⟨o',f,g,_⟩:=p;rw[G]at f;cases f;rw[L]at g;simp at g
   have n2:t2≠D:=by
    rintro rfl;obtain⟨o,G,L,_⟩:=H;obtain⟨o',_,_,f,g,_⟩:=Q;rw[G]at f;cases f;have:=g.1;rw[L]at this;simp at this
   obtain⟨o,G,r⟩:=H;exact⟨t2,a6,e2,⟨o,kp _ o n2 n1 G,r⟩,a7⟩
  ·refine hR z tk ?_ fun b o h y e=>a5 b o h y (kp b o h y e);have ed:ps.drop i=ps[i]::ps.drop (i+1):=xf (by omega);rw[ed];exact C
theorem sC{l:Addr}{o:Obj}{items:Array Value}{n:Nat}{ps:List (fA×Value)}{Q:Zc}(T:A.handled=none)(U:s.heap.get? l=some o)(J:o.cls=.type "list")(v:o.data=.seq items n)(L:o.dict=none)
  (M:ps.length=items.size) (hp:∀(j:Nat) (u:Value) (H:fA×Value),items[j]?=some u->ps[j]?=some H->Cz s.heap u H) (hz:items.size<=ai)
  (h:∀x tk,x.DictOf (cI prog w) s.heap.objs.size (merged [] ps)->(∀b o,s.heap.get? b=some o->x.get? b=some o)->Q (.ref s.heap.objs.size) { s with heap:=x,toks:=tk }) :
  wpAny (model prog w) A (call (.type "dict") [.ref l]) Q E s:=by
 refine callType_codes (Q₁:=fun y m=>y=.ref s.heap.objs.size/\m={ s with heap:=s.heap.push { cls:=.type "dict",data:=.dict #[] } }) F.kt_called_dict (F.kt_typeCall_dict_1 _) F.entry_dict_init (kt_code_dict_new _ ⟨rfl,rfl⟩) ?_;rintro y m ⟨rfl,rfl⟩;have f:(s.heap.push { cls:=.type "dict",data:=.dict #[] }).DictOf (cI prog w) s.heap.objs.size []:=Heap.DictOf.new s.heap;have p:(s.heap.push { cls:=.type "dict",data:=.dict #[] }).get? l=some o:=bc _ U;have z:l<s.heap.objs.size:=aS U;refine⟨f.typeIs,F.args_dict_init_2 _ _,?_⟩;unfold b_.«dict.__init__»;refine ak ?_;unfold b_.Dict.selfAndRest;refine ak (wpAny_notOrdered_dict f.typeIs ?_);show wpAny _ _ (pure (s.heap.objs.size,[Value.ref l])) _ _ _;refine ap ?_;show wpAny _ _ (b_.Dict.updateFrom "dict.__init__" s.heap.objs.size (.ref l) [] .none) _ _ _;unfold b_.Dict.updateFrom;have N:Shared.TypeIs { s with heap:=s.heap.push { cls:=.type "dict",data:=.dict #[] } } (.ref l) "list":=⟨o,p,J⟩;refine ak (nu N ?_);rw[if_pos (by decide)];refine ak (EQ p J v L T fun q O k1=>?_);have k:∀b I,(s.heap.push { cls:=.type "dict",data:=.dict #[] }).get? b=some I->q.get? b=some I:=k1;rw[if_pos (by rfl:(none:Option Value).isNone=true)];refine ak (oP ?_);have B:q.IsList l items:=⟨o,k _ _ p,J,n,v⟩;refine ak (sW (s:={ s with heap:=q,toks:=O }) B ?_);have C:q.DictOf (cI prog w) s.heap.objs.size []:=by
  obtain⟨Y,es,ep,g,r⟩:=f;exact⟨Y,es,ep,k _ _ g,r⟩
 have i:s.heap.objs.size<q.objs.size:=by
  obtain⟨Y,es,ep,g,r⟩:=C;exact aS g
 refine ap ⟨tD gk _,?_⟩;refine FL (A:=A.in1) (prog:=prog) (w:=w) T (D:=s.heap.objs.size) (it:=q.objs.size) (l:=l) (items:=items) (ps:=ps) (bX i) (bX (Nat.lt_trans z i)) (bX z) M items.size 0 _ [] (xa _) (cp _) (by rw[lz];omega)
  ⟨_,db _ rfl,rfl,rfl⟩ (B.push _) (C.push _) (fun j u H a b=>?_) fun x tk G kp=>?_
 ·obtain⟨t,ku,e,ht,hk⟩:=hp j u H a b;obtain⟨ot,g,r⟩:=ht;exact⟨t,ku,e,⟨ot,bc _ (k _ _ (bc _ g)),r⟩,hk⟩
 ·rw[qj]at G;refine⟨rfl,h x tk G fun b I e=>kp b I (bX (aS e)) (bX (Nat.lt_trans (aS e) i)) (bc _ (k _ _ (bc _ e)))⟩
end
section
variable{X:Cx}
theorem y4(hc:X.calm=true):eQ X (.type "dict") (fun xs H Q=>∃(l:Addr) (k:Ze) (f:List (fA×V)),xs=[.ref l]/\aF X.K H l (k.map V.ref)/\k.length=f.length /\
  (∀(j:Nat) (t:Addr) (g:fA×V),k[j]?=some t->f[j]?=some g->H t=some (.tup [kV g.1,g.2]))/\∀p,H p=none->Q (.ref p) (upd H p (.dK (jA [] f)))):=by
 intro J5 s σ H xs us Q I r h;obtain⟨l,k,f,rfl,v,z,D,q⟩:=h;obtain⟨u,rfl,ru⟩:=vals1 r;cases ru;obtain⟨E,Y,⟨o,n,ho,G,J,L⟩,M⟩:=I.list v;have N:∀(k:Ze) (f:List (fA×V)),k.length=f.length->(∀(j:Nat) (t:Addr) (g:fA×V),k[j]?=some t->f[j]?=some g->H t=some (.tup [kV g.1,g.2]))->∃y:List (fA×Value),KV f y/\∀(j:Nat) (t:Addr) (g:fA×Value),k[j]?=some t->y[j]?=some g->Cz s.heap (.ref t) g:=by
  intro k
  induction k with
  |nil =>
   intro f v _;cases f with
   |nil=>exact⟨[],.nil,fun j t g e=>by simp at e⟩
   |cons _ _=>cases v
  |cons t k ih =>
   intro f v D;cases f with
   |nil=>cases v
   |cons g f =>
    obtain⟨y,O,r2⟩:=ih f (by simpa using v) fun j T m a b=>D (j+1) T m (by simpa using a) (by simpa using b);obtain⟨_,ab,rt,p⟩:=(show cF X.prog X.w X.K H s.heap t (.tup [kV g.1,g.2])from I.hok t _ (D 0 t g rfl rfl));obtain⟨a,b,e,ra,rb⟩:=rt.two;subst e;refine⟨(g.1,b)::y,.cons ⟨rfl,rb⟩ O,fun j T m A U=>?_⟩;cases j with
    |zero =>
     simp at A U;subst A U;exact⟨t,a,rfl,p,rS (P:=X.prog) (w:=X.w) ra⟩
    |succ j=>exact r2 j T m (by simpa using A) (by simpa using U)
 obtain⟨y,B,pa⟩:=N k f z D;have C:=Y.length;rw[ao]at C;have al:=B.length;refine sC (prog:=X.prog) (w:=X.w) (ps:=y) (I.ok.hd hc) ho G L J (by rw[bD];omega) (fun j u g a b=>?_) (by rw[bD,<-C];rw[ao]at M;exact M) fun h' tk hD kp=>?_
 ·have a':E[j]?=some u:=by simpa using a
  have hj:j<k.length:=by
   have:=(cV.mp a').1;omega
  obtain⟨u',e1,O⟩:=Y.get (i:=j) (x:=V.ref k[j]) (by simp[hj]);rw[a']at e1;cases e1;cases(show u=Value.ref k[j]from O);exact pa j k[j] g (by simp[hj]) b
 ·have hm:(jA [] f).length<=ai:=by
   have A:=m8 f [];rw[lz]at A;rw[ao]at M;omega
  exact⟨.ref s.heap.objs.size,_,I.laid (o:=.dK (jA [] f)) kp (ay _) (Ho hm (beq_eq_false_iff_ne.mpr (dJ (bX I.big))) (B.merge .nil) hD),rfl,q _ I.fresh⟩
end
abbrev cN:R2:=De fun i j=>.int (i+j)
abbrev m5:R2:=De fun i j=>.int (i-j)
abbrev jL:R2:=rI HR fun i j=>.int (i * j)
abbrev iz:R2:=rI (fun _ j=>0<j) fun i j=>.int (i % j)
abbrev uk:R2:=rI LU fun i j=>.int (i / j)
abbrev JB:R2:=rI LS fun i j=>.int (i ^ j.toNat)
abbrev yB:R2:=De fun i j=>.bl (decide (i<j))
abbrev rLeI:R2:=De fun i j=>.bl (decide (i<=j))
abbrev Ao:R2:=De fun i j=>.bl (decide (j<i))
abbrev rGeI:R2:=De fun i j=>.bl (decide (j<=i))
abbrev JH:R2:=fun x y H Q=>∃i j,x=.str i/\y=.str j/\i.length+j.length<=ai/\Q (.str (i++j)) H
abbrev rInS:R2:=fun x y H Q=>∃c j,x=.str ⟨#[c]⟩/\y=.str j/\Q (.bl (decide (c∈j.cps.toList))) H
abbrev ui(K:Za):List V->Hp->VK->Prop:=fun xs H Q=>∃x c t b,xs=[x,.ty c]/\LH K H x t/\mS K t (.type c)=some b/\Q (.bl b) H
abbrev Kn(K:Za):List V->Hp->VK->Prop:=fun xs H Q=>∃(p:Addr) (bs:List Bool),xs=[.ref p]/\aF K H p (bs.map V.bl)/\Q (.bl (bs.all id)) H
abbrev rAny(K:Za):List V->Hp->VK->Prop:=fun xs H Q=>∃(p:Addr) (bs:List Bool),xs=[.ref p]/\aF K H p (bs.map V.bl)/\Q (.bl (bs.any id)) H
abbrev Lg(K:Za):List V->Hp->VK->Prop:=fun xs H Q=>∃p ys,xs=[.ref p]/\((aF K H p ys/\∀l,H l=none->Q (.ref l) (upd H l (.tup ys)))∨(bE K H p ys/\Q (.ref p) H))
abbrev IH(K:Za):List V->Hp->VK->Prop:=fun xs H Q=>∃(l:Addr) (ts:Ze) (kvs:List (fA×V)),xs=[.ref l]/\aF K H l (ts.map V.ref)/\ts.length=kvs.length /\
  (∀(j:Nat) (t:Addr) (kv:fA×V),ts[j]?=some t->kvs[j]?=some kv->H t=some (.tup [kV kv.1,kv.2]))/\∀p,H p=none->Q (.ref p) (upd H p (.dK (jA [] kvs)))
abbrev eF(K:Za):List V->Hp->VK->Prop:=fun xs H Q =>
 (∃p ys,xs=[.ref p]/\(aF K H p ys∨bE K H p ys)/\∀l,H l=none->Q (.ref l) (upd H l (.lst ys))) ∨
 (∃(d:Addr) (kvs:List (fA×V)),xs=[.ref d]/\Rd H d (.dK kvs)/\∀l,H l=none->Q (.ref l) (upd H l (.lst (kvs.map fun kv=>kV kv.1))))
abbrev cK(K:Za):List V->Hp->VK->Prop:=fun xs H Q =>
 (∃p ys,xs=[.ref p]/\(aF K H p ys∨bE K H p ys)/\Q (.int ys.length) H)∨(∃z,xs=[.str z]/\z.length<=ai/\Q (.int z.length) H)
theorem cZ:ix "isinstance"=some (.builtin "isinstance"):=by decide +kernel
theorem uO:ix "list"=some (.type "list"):=by decide +kernel
theorem rZ:ix "tuple"=some (.type "tuple"):=by decide +kernel
theorem Cv:ix "dict"=some (.type "dict"):=by decide +kernel
theorem Cy:ix "bool"=some (.type "bool"):=by decide +kernel
theorem wD:ix "int"=some (.type "int"):=by decide +kernel
theorem Fm:ix "str"=some (.type "str"):=by decide +kernel
section
variable{X:Cx}{p pos:Pos}
theorem Fk:eQ X (.builtin "len") (cK X.K):=y3.or y2
theorem Cu(a:X.calm=true):eQ X (.type "list") (eF X.K):=y1.or (uM a)
theorem nV(a:Gl X "bool")(e:X.mg "bool"=none):PE X (.Name "bool" pos) (tC (.ty "bool")):=mn a e Cy rfl
theorem v5(a:Gl X "int")(e:X.mg "int"=none):PE X (.Name "int" pos) (tC (.ty "int")):=mn a e wD rfl
theorem v4(a:Gl X "str")(e:X.mg "str"=none):PE X (.Name "str" pos) (tC (.ty "str")):=mn a e Fm rfl
theorem ur(a:Gl X "list")(e:X.mg "list"=none):PE X (.Name "list" pos) (tC (.ty "list")):=mn a e uO rfl
theorem rK(a:Gl X "tuple")(e:X.mg "tuple"=none):PE X (.Name "tuple" pos) (tC (.ty "tuple")):=mn a e rZ rfl
end
def Gc(mg:Str->Option Value)(x:Str)(v:V):Prop:=∃u,mg x=some u/\RelV v u
theorem jN{X:Cx}{x:Str}{v:V}{a:Pos}(e:Gl X x)(h:Gc X.mg x v)(f:(x==("__debug__":Str))=false:=by decide):PE X (.Name x a) (tC v):=by
 obtain⟨u,g,r⟩:=h;exact ff e g r f
structure eR(P:bu)(w:World)(K:Za)(mg:Str->Option Value)(base:Heap)(x:Str)(ps:Zb)(k:Nat)(sp:Sp):Prop where
 ex:∃f fd,i8 P w K mg base CX0 k f fd ps sp/\mg x=some (.ref f)/\cU K (.ref f)=true/\Binds K fd ps []
structure New(P:bu)(w:World)(K:Za)(mg:Str->Option Value)(base:Heap)(x:Str)(C:Addr)(ps:Zb)(k:Nat)(sp:Sp):Prop where
 ex:∃f fd,i8 P w K mg base CX0 k f fd ps sp/\mg x=some (.ref C)/\Mk K C f/\Binds K fd ps []
structure HV(P:bu)(w:World)(K:Za)(mg:Str->Option Value)(base:Heap)(C:Addr)(m:Str)(ps:Zb)(k:Nat)(sp:Sp):Prop where
 ex:∃f fd,i8 P w K mg base CX0 k f fd ps sp/\Fu K C/\Jq K C m f/\Binds K fd ps []
section
variable{X:Cx}{k:Nat}{ps:Zb}{sp:Sp}{x m:Str}{C:Addr}{p pos J7:Pos}{o e:Expr}{es:List Expr}{t:TA}{ta:TE}
theorem rM(D:eR X.prog X.w X.K X.mg X.base x ps k sp)(h:dU k X.A)(i:Gl X x)(j:PA X (e::es) t)(a:(x==("__debug__":Str))=false:=by decide)
  (l:aA (e::es) X.env=(false,eval e X.env)::aA es X.env:=by rfl) (g:(backTo pos (aA es X.env)).any (·.1)=false:=by rfl) :
  PE X (.Call (.Name x p) (e::es) [] pos) (aw sp t):=by
 obtain⟨f,s,F,n,q,r⟩:=D.ex;exact Dk F h i n q r .nil Dl j a l g
theorem GJ(D:New X.prog X.w X.K X.mg X.base x C ps k sp)(h:dU (k+1) X.A)(i:Gl X x)(j:PA X (e::es) t)(a:(x==("__debug__":Str))=false:=by decide)
  (l:aA (e::es) X.env=(false,eval e X.env)::aA es X.env:=by rfl) (g:(backTo pos (aA es X.env)).any (·.1)=false:=by rfl) :
  PE X (.Call (.Name x p) (e::es) [] pos) (C6 C sp [] E0 t):=by
 obtain⟨f,r,F,n,M,q⟩:=D.ex;exact IR M F h i n q .nil Dl j a l g
theorem Kw{pl:Sem Bool}(M:HV X.prog X.w X.K X.mg X.base C m ps k sp)(i:dU k X.A)(j:PE X o ta)(l:PA X (e::es) t)
  (a:aA (e::es) X.env=(false,eval e X.env)::aA es X.env:=by rfl) (g:(backTo pos (aA es X.env)).any (·.1)=false:=by rfl)
  (n:eval (.Call (.Attribute o m J7) (e::es) [] pos) X.env=(do
   let h <- eval o X.env
   oM J7.atName
   let(f,first) <- jf [h] (oJ h m pl)
   nF pos f first (backTo pos (aA (e::es) X.env)) (j6 pos (j5 [] X.env))):=by rfl) :
  PE X (.Call (.Attribute o m J7) (e::es) [] pos) (iy C m sp [] E0 ta t):=by
 obtain⟨f,s,F,c,q,r⟩:=M.ex;exact IQ j c q F i r .nil Dl l a g n
theorem IP{pl:Sem Bool}(M:HV X.prog X.w X.K X.mg X.base C m ps k sp)(g:dU k X.A)(h:PE X o ta)
  (i:eval (.Call (.Attribute o m J7) [] [] pos) X.env=(do
   let a <- eval o X.env
   oM J7.atName
   let(f,first) <- jf [a] (oJ a m pl)
   nF pos f first (backTo pos (aA [] X.env)) (j6 pos (j5 [] X.env))):=by rfl) :
  PE X (.Call (.Attribute o m J7) [] [] pos) (iy C m sp [] E0 ta aU):=by
 obtain⟨f,n,F,c,j,l⟩:=M.ex;exact GK h c j F g l .nil Dl i
end
def LA(K:Za)(tl:TE):TI:=fun σ H R=>tl σ H fun x H1=>∃a,x=.ref a/\(((∃xs,aF K H1 a xs)/\R (Fz K a) H1)∨((∃xs,bE K H1 a xs)/\R (HW K a) H1))
theorem Ks{X:Cx}{u l:Expr}{r:TE}(w:PE X l r):PI X u l (LA X.K r):=by
 intro t s σ H R I h;refine cR (w t s σ H _ I h) fun v f j=>?_;obtain⟨x,k,g,y,z⟩:=j;obtain⟨a,e,q⟩:=z;subst e;cases y;have i:∀b∈[f.heap.objs.size],kP X t k b:=fun b A=>by
  have e:b=f.heap.objs.size:=by simpa using A
  subst e;exact g.fpOk (ay _) (g.hok.fresh (ay _))
 rcases q with⟨⟨xs,m⟩,q⟩|⟨⟨xs,m⟩,q⟩
 ·obtain⟨n,B,p,C⟩:=g.list m;refine sW p.isList ?_;exact⟨f.heap.objs.size,[f.heap.objs.size],_,_,k,rfl,g.kept (t':=f.toks) fun b o e=>bc _ e,qH a _,⟨_,db _ rfl,rfl,rfl⟩,i,q⟩
 ·obtain⟨n,B,p,C⟩:=g.tuple m;refine CM p ?_;exact⟨f.heap.objs.size,[f.heap.objs.size],_,_,k,rfl,g.kept (t':=f.toks) fun b o e=>bc _ e,tX a _,⟨_,db _ rfl,rfl,rfl⟩,i,q⟩
theorem i4{K:Za}{a:Addr}{xs:List V}{g:TG}{k:TS}{D:gC}{σ:St}{H:Hp}(Pv:Nat->St->Hp->Prop)(n:Pv 0 σ H)(o:∀i σ H,i<=xs.length->Pv i σ H->aF K H a xs)
  (r:∀i x σ H p,xs[i]?=some x->Pv i σ H->H p=none->g (.ref p) σ (upd H p (.tup [.int i,x])) fun σ2 j=>k { D with nx:=Pv (i+1),ct:=Pv (i+1),bk:=D.nx } σ2 j) (s:∀σ H,Pv xs.length σ H->D.nx σ H) :
  ∃W:Nat->Nat->St->Hp->Prop,(∃m,W 0 m σ H)/\∀i m σ H,W i m σ H ->
   ((LN K a).stop i H/\D.nx σ H)∨((LN K a).go i H/\∃N:St->Hp->Prop,(∀σ' f,N σ' f->∃l,l<m/\W (i+1) l σ' f)/\∀x f,(LN K a).yld i H x f->g x σ f fun σ2 j=>k { D with nx:=N,ct:=N,bk:=D.nx } σ2 j):=by
 refine⟨fun i m σ H=>m=xs.length-i/\i<=xs.length/\Pv i σ H,⟨xs.length,by simp,cp _,n⟩,?_⟩;rintro i m σ H ⟨rfl,hi,p⟩;have q:=o i σ H hi p;by_cases h:i<xs.length
 ·refine .inr ⟨⟨xs,xs[i],q,by simp[h]⟩,Pv (i+1),fun σ' f u=>⟨xs.length-(i+1),by omega,rfl,h,u⟩,fun x f y=>?_⟩;obtain⟨t,v,rfl,w,z,rfl⟩:=y;exact r i v σ H t (z xs q) p w
 ·have e:i=xs.length:=by omega
  subst e;exact .inl ⟨⟨xs,q,ay _⟩,s σ H p⟩
def Wc(n:Nat)(Pv:Nat->List V->Hp->Prop):Nat->Nat->List V->Hp->Prop:=fun i m vs H=>m=n-i/\i<=n/\Pv i vs H
theorem vn{n i:Nat}{Pv:Nat->List V->Hp->Prop}{a:List V}{H:Hp}(hi:i<n)(p:Pv (i+1) a H):∃e,e<n-i/\Wc n Pv (i+1) e a H:=⟨n-(i+1),by omega,rfl,hi,p⟩
abbrev cP(k:Nat)(fi:List Nat)(σ:St)(J:It)(g:TG)(tc:TT)(te:TE)(H1:Hp)(l:Addr)(Q:Hp->Prop):Prop :=
 ∃W:Nat->Nat->List V->Hp->Prop,(∃m,W 0 m [] (upd H1 l (.lst [])))/\∀i m vs H2,W i m vs H2->H2 l=some (.lst vs) /\
  ((J.stop i H2/\Q H2)∨(J.go i H2/\∀x H3,J.yld i H2 x H3->g x (cL k fi σ) H3 fun σ2 H4=>tc σ2 H4 fun b H5 =>
   if b=true then te σ2 H5 fun v H6=>H6 l=some (.lst vs)/\vs.length<ai/\∃m',m'<m/\W (i+1) m' (vs++[v]) (upd H6 l (.lst (vs++[v])))else ∃m',m'<m/\W (i+1) m' vs H5))
theorem jU{k:Nat}{r:List Nat}{J:It}{g:TG}{s:TT}{t:TE}{σ:St}{u:Hp}{Q:Hp->Prop}{l:Addr}(n:Nat)(Pv:Nat->List V->Hp->Prop)(A:Pv 0 [] (upd u l (.lst [])))
  (B:∀i a H,i<=n->Pv i a H->H l=some (.lst a)) (o:∀i a H,i<n->Pv i a H->J.go i H) (q:∀a H,Pv n a H->J.stop n H/\Q H)
  (C:∀i a H x j,i<n->Pv i a H->J.yld i H x j->g x (cL k r σ) j fun σ2 D=>s σ2 D fun b w =>
   if b=true then t σ2 w fun v z=>z l=some (.lst a)/\a.length<ai/\∃f,f<n-i/\Wc n Pv (i+1) f (a++[v]) (upd z l (.lst (a++[v])))else ∃f,f<n-i/\Wc n Pv (i+1) f a w) :
  cP k r σ J g s t u l Q:=by
 refine⟨Wc n Pv,⟨n,by simp[Wc],cp _,A⟩,?_⟩;rintro i m a H ⟨rfl,hi,p⟩;refine⟨B i a H hi p,?_⟩;by_cases h:i<n
 ·exact .inr ⟨o i a H h p,fun x j y=>C i a H x j h p y⟩
 ·have e:i=n:=by omega
  subst e;exact .inl (q a H p)
section
variable{K:Za}{k:Nat}{fi:List Nat}{g:TG}{tc:TT}{te:TE}{σ:St}{H1:Hp}{Q:Hp->Prop}{l:Addr}
theorem eA{a:Addr}{xs:List V}(Pv:Nat->List V->Hp->Prop)(n:Pv 0 [] (upd H1 l (.lst [])))
  (h:∀i e H,i<=xs.length->Pv i e H->H l=some (.lst e)/\aF K H a xs) (o:∀e H,Pv xs.length e H->Q H)
  (q:∀i e H x,xs[i]?=some x->i<xs.length->Pv i e H->g x (cL k fi σ) H fun σ2 r=>tc σ2 r fun b j =>
   if b=true then te σ2 j fun v m=>m l=some (.lst e)/\e.length<ai/\∃f,f<xs.length-i/\Wc xs.length Pv (i+1) f (e++[v]) (upd m l (.lst (e++[v])))else ∃f,f<xs.length-i/\Wc xs.length Pv (i+1) f e j) :
  cP k fi σ (Fz K a) g tc te H1 l Q:=by
 refine jU xs.length Pv n (fun i e H hi p=>(h i e H hi p).1) (fun i e H hi p=>⟨xs,xs[i],(h i e H (df hi) p).2,by simp[hi]⟩) (fun e H p=>⟨⟨xs,(h _ e H (ay _) p).2,ay _⟩,o e H p⟩) fun i e H x s hi p y=>?_;obtain⟨rfl,y⟩:=y;exact q i e _ x (y xs (h i e _ (df hi) p).2) hi p
theorem uK{a:Addr}{xs:List V}(Pv:Nat->List V->Hp->Prop)(n:Pv 0 [] (upd H1 l (.lst [])))
  (h:∀i e H,i<=xs.length->Pv i e H->H l=some (.lst e)/\bE K H a xs) (o:∀e H,Pv xs.length e H->Q H)
  (q:∀i e H x,xs[i]?=some x->i<xs.length->Pv i e H->g x (cL k fi σ) H fun σ2 r=>tc σ2 r fun b j =>
   if b=true then te σ2 j fun v m=>m l=some (.lst e)/\e.length<ai/\∃f,f<xs.length-i/\Wc xs.length Pv (i+1) f (e++[v]) (upd m l (.lst (e++[v])))else ∃f,f<xs.length-i/\Wc xs.length Pv (i+1) f e j) :
  cP k fi σ (HW K a) g tc te H1 l Q:=by
 refine jU xs.length Pv n (fun i e H hi p=>(h i e H hi p).1) (fun i e H hi p=>⟨xs,xs[i],(h i e H (df hi) p).2,by simp[hi]⟩) (fun e H p=>⟨⟨xs,(h _ e H (ay _) p).2,ay _⟩,o e H p⟩) fun i e H x s hi p y=>?_;obtain⟨rfl,y⟩:=y;exact q i e _ x (y xs (h i e _ (df hi) p).2) hi p
theorem n_{lo:Int}{n:Nat}(Pv:Nat->List V->Hp->Prop)(j:Pv 0 [] (upd H1 l (.lst [])))
  (m:∀i a H,i<=n->Pv i a H->H l=some (.lst a)) (o:∀a H,Pv n a H->Q H)
  (q:∀i a H,i<n->Pv i a H->g (.int (lo+i)) (cL k fi σ) H fun σ2 r=>tc σ2 r fun b f =>
   if b=true then te σ2 f fun v h=>h l=some (.lst a)/\a.length<ai/\∃e,e<n-i/\Wc n Pv (i+1) e (a++[v]) (upd h l (.lst (a++[v])))else ∃e,e<n-i/\Wc n Pv (i+1) e a f) :
  cP k fi σ (JX lo n) g tc te H1 l Q:=by
 refine jU n Pv j m (fun i a H hi p=>hi) (fun a H p=>⟨ay _,o a H p⟩) fun i a H x s hi p y=>?_;obtain⟨rfl,rfl⟩:=y;exact q i a _ hi p
theorem HA{x:Str}(Pv:Nat->List V->Hp->Prop)(j:Pv 0 [] (upd H1 l (.lst [])))
  (m:∀i a H,i<=x.cps.size->Pv i a H->H l=some (.lst a)) (n:∀a H,Pv x.cps.size a H->Q H)
  (o:∀i a H c,x.cps[i]?=some c->i<x.cps.size->Pv i a H->g (.str ⟨#[c]⟩) (cL k fi σ) H fun σ2 q=>tc σ2 q fun b f =>
   if b=true then te σ2 f fun v h=>h l=some (.lst a)/\a.length<ai/\∃e,e<x.cps.size-i/\Wc x.cps.size Pv (i+1) e (a++[v]) (upd h l (.lst (a++[v])))else ∃e,e<x.cps.size-i/\Wc x.cps.size Pv (i+1) e a f) :
  cP k fi σ (Mf x) g tc te H1 l Q:=by
 refine jU x.cps.size Pv j m (fun i a H hi p=>hi) (fun a H p=>⟨ay _,n a H p⟩) fun i a H y t hi p r=>?_;obtain⟨rfl,c,s,rfl⟩:=r;exact o i a _ c s hi p
end
theorem gN{j:Nat}{x:V}{σ:St}{H:Hp}{Q:St->Hp->Prop}(h:Q (σ.set j (some x)) H):ei j x σ H Q:=h
theorem lA{σ:St}{H:Hp}{A B:Hp->Prop}(h:A H):d6 σ H (fun b a=>if b=true then A a else B a):=by
 show(if(true:Bool)=true then A H else B H)
 exact h
inductive Md{T0 T1:Type}(P:T0->T1->Prop):Prop
 |mk (x0:T0) (x1:T1):P x0 x1->Md P
inductive Jp{T0 T1 T2:Type}(P:T0->T1->T2->Prop):Prop
 |mk (x0:T0) (x1:T1) (x2:T2):P x0 x1 x2->Jp P
inductive NE4{T0 T1 T2 T3:Type}(P:T0->T1->T2->T3->Prop):Prop
 |mk (x0:T0) (x1:T1) (x2:T2) (x3:T3):P x0 x1 x2 x3->NE4 P
inductive NE5{T0 T1 T2 T3 T4:Type}(P:T0->T1->T2->T3->T4->Prop):Prop
 |mk (x0:T0) (x1:T1) (x2:T2) (x3:T3) (x4:T4):P x0 x1 x2 x3 x4->NE5 P
inductive NA3(p0 p1 p2:Prop):Prop
 |mk:p0->p1->p2->NA3 p0 p1 p2
inductive NA4(p0 p1 p2 p3:Prop):Prop
 |mk:p0->p1->p2->p3->NA4 p0 p1 p2 p3
inductive K0(p0 p1 p2 p3 p4:Prop):Prop
 |mk:p0->p1->p2->p3->p4->K0 p0 p1 p2 p3 p4
inductive LJ(p0 p1 p2 p3 p4 p5:Prop):Prop
 |mk:p0->p1->p2->p3->p4->p5->LJ p0 p1 p2 p3 p4 p5
theorem Obj.mapF{o:Obj}{a:Array Value}(e:o.data=.fields a)(f:Array Value->Array Value):o.mapFields f={ o with data:=.fields (f a) }:=by
 obtain⟨c,d,dt,g⟩:=o;cases e
 rfl
structure K2(fs:Ze)(e:Addr)(T:Option Addr)(h h':Heap):Prop where
 keep:∀b o,h.get? b=some o->b≠e->some b≠T->b∉fs->h'.get? b=some o
 slot:∀b o,h.get? b=some o->b≠e->some b≠T->b∈fs->∃sl,h'.get? b=some { o with slots:=sl }
 there:∀b o,h.get? b=some o->∃o',h'.get? b=some o'
def Trc(n:Nat)(h:Heap)(e:Addr)(vs:Array Value)(T:Option Addr):Prop :=
 (vs[1]?=some .none/\T=none)∨∃t oT ts,T=some t/\vs[1]?=some (.ref t)/\n<=t/\t≠e/\h.get? t=some oT/\oT.data=.fields ts/\ts[3]?=some .none
def ip(a C:Addr)(od:Option Addr):Heap->Prop:=fun h=>∃vs,h.get? a=some { cls:=.ref C,dict:=od,data:=.fields vs }/\1<vs.size
def eG(a C:Addr)(od:Option Addr):Heap->Prop:=fun h=>∃vs,h.get? a=some { cls:=.ref C,dict:=od,data:=.fields vs }/\vs[1]?=some .none
theorem wz{P:bu}{w:World}{K:Za}{H:Hp}{h:Heap}{a C:Addr}{g:Option Addr}{f:Array Value}(e:h.get? a=some { cls:=.ref C,dict:=g,data:=.fields f })(z:1<f.size):cF P w K H h a (.ext (ip a C g)) :=
 ⟨⟨f,e,z⟩,⟨_,e⟩,fun _ _ ⟨i,q,y⟩ k=>⟨i,k _ q,y⟩⟩
theorem rf{P:bu}{w:World}{K:Za}{H:Hp}{h:Heap}{a C:Addr}{g:Option Addr}{f:Array Value}(e:h.get? a=some { cls:=.ref C,dict:=g,data:=.fields f })(z:f[1]?=some .none):cF P w K H h a (.ext (eG a C g)) :=
 ⟨⟨f,e,z⟩,⟨_,e⟩,fun _ _ ⟨i,q,y⟩ k=>⟨i,k _ q,y⟩⟩
structure lX(n:Nat)(h:Heap)(H:Hp)(a C:Addr)(od:Option Addr):Prop where
 trk:H a=some (.ext (ip a C od))
 new:n<=a
 tr:∃vs T,h.get? a=some { cls:=.ref C,dict:=od,data:=.fields vs }/\1<vs.size/\Trc n h a vs T/\∀t,T=some t->H t=none
theorem lX.mono{n g:Nat}{h:Heap}{H:Hp}{a C:Addr}{i:Option Addr}(x:lX n h H a C i)(l:g<=n):lX g h H a C i :=
 ⟨x.trk,bo l x.new,let⟨j,T,e,z,k,f⟩:=x.tr;⟨j,T,e,z,by
  rcases k with q|⟨t,m,o,p,r,s,u⟩
  ·exact .inl q
  ·exact .inr ⟨t,m,o,p,r,bo l s,u⟩,f⟩⟩
theorem He{P:bu}{w:World}{K:Za}{H:Hp}{h f:Heap}{fs:Ze}{a C:Addr}{j T:Option Addr}{e:Array Value}(ok:k_ P w K H h)(k:H a=some (.ext (ip a C j)))(n:∀t,T=some t->H t=none)(i:∀b∈fs,H b=none)
  (p:K2 fs a T h f) (s:f.get? a=some { cls:=.ref C,dict:=j,data:=.fields e }) (z:1<e.size):k_ P w K H f:=fun b u q=>by
 by_cases l:b=a
 ·subst l;rw[k]at q;cases q;exact wz s z
 ·have m:∀c o v,H c=some v->c≠a->h.get? c=some o->f.get? c=some o:=fun c o v hc x g =>
   p.keep c o g x (fun z=>by rw[n c z.symm]at hc;cases hc) fun z=>by rw[i c z]at hc;cases hc
  refine(ok b u q).stay (fun c o hc g=>?_) (fun _ r=>r) fun _ _ r=>r;rcases hc with rfl|hc
  ·exact m c o u q l g
  ·exact m c o _ hc (fun z=>by rw[z,k]at hc;cases hc) g
structure pU(X:Cx)(J5:Zd)(n:Nat):Prop where
 s0:X.s₀.heap.objs.size<=n
 loc:X.env.locals<n
 cell:∀x c,X.env.cells.lookup x=some c->c<n
 pin:∀p∈X.pn++J5,p.1<n
theorem Inv.young{X:Cx}{a:Zd}{σ:St}{H:Hp}{s:Shared}(I:Inv X a σ H s):pU X a s.heap.objs.size :=
 ⟨I.sz,I.lt,fun x c e=>let⟨_,_,q,_⟩:=I.cell x c e;aS q,fun p f=>aS (I.pin p f).1⟩
section
variable{X:Cx}{J5:Zd}{σ:St}{H:Hp}{s:Shared}{n:Nat}{a C:Addr}{od:Option Addr}
def Js(P:bu)(w:World)(K:Za):Fv:=fun outer H s E e s'=>∃a C od H',e=.ref a/\s'.os=s.os/\mV s'.gens/\Un (u4 outer) [] H H' s.heap s'.heap/\k_ P w K H' s'.heap/\lX s.heap.objs.size s'.heap H' a C od/\E (.ref C) (some a) H'
end
abbrev dA:List Value:=[.type "ValueError",.type "Exception",.type "BaseException",.type "object"]
inductive ft:List Value->Prop
 |base:ft dA
 |own {a:Addr}{r:Zf}:ft r->ft (.ref a::r)
theorem ft.has{l:Zf}(x:ft l){n:String}{b:Bool}(e:dA.contains (.type n)=b):l.contains (.type n)=b:=by
 induction x with
 |base=>exact e
 |own _ a=>rw[f8,a];rfl
section
variable{prog:bu}{w:World}{A:Around}{E:Zc}{h:Heap}{g:Array GenState}{d:Drawn}{t:Nat}{os:OsState}
variable{nm q:Str}{C N:Addr}{bs bm:Zf}{hdct:Bool}{sn:Zb}{sub:Zf}{ab:Bool}{col:Option Bool}{dd:Option Addr}{k0 k1 k2 k3 k5:Option Value}
theorem Ic{M:Model}(e:ft bm){f:Zf}{Q:Unit->Shared->Prop}(a:h.get? C=some (dh nm q C N bs bm hdct sn sub ab col dd k0 k1 k2 k3 k5 "ValueError.__new__"))
  (i:Q () ⟨h,g,d,t,os⟩):wpAny M A (w_ "ValueError.__new__" ⟨.ref C::f,[]⟩) Q E ⟨h,g,d,t,os⟩:=by
 have G:=PySem.F.excBase_ValueError;have j:(Value.ref C::bm).contains (.type "ValueError")=true:=by rw[f8,e.has (b:=true) (by decide +kernel)];rfl
 have k:=G.noStar;simp only[w_,G.newKind,G.newSplit,G.newRow]
 repeat (first|refine jZ a ?_|(refine tz a ?_;rw[j])|refine wpAny_staticBase_exc a ?_|refine wpAny_madeBy_exc a ?_|simp only[bne_self_eq_false,tI,if_false] | wp_step)
 exact i
theorem K8{R:Result->Shared->Prop}(a:ft bm){e:Zf}(f:h.get? C=some (dh nm q C N bs bm hdct sn sub ab col dd k0 k1 k2 k3 k5 "ValueError.__new__"))(m:e.length<=ai)
  (i:R (.ok (.ret (.ref (h.objs.size+1)))) ⟨(h.push { cls:=.type "tuple",data:=.seq e.toArray }).push { cls:=.ref C,data:=.fields #[.ref h.objs.size,.none,.none,.none,.bool false,.none] },g,d,t,os⟩) :
  zzl87 (model prog w) A (.builtin "ValueError.__new__" ⟨.ref C::e,[]⟩) R ⟨h,g,d,t,os⟩:=by
 have G:=PySem.F.excBase_ValueError;have n:=G.ends;have j:(Value.ref C::bm).contains (.type "ValueError")=true:=by rw[f8,a.has (b:=true) (by decide +kernel)];rfl
 have k:(Value.ref C::bm).contains (.type "AttributeError")=false:=by rw[f8,a.has (b:=false) (by decide +kernel)];rfl
 have l:(Value.ref C::bm).contains (.type "NameError")=false:=by rw[f8,a.has (b:=false) (by decide +kernel)];rfl
 refine codeAny_builtinAt G.entry ?_;unfold b_.«BaseException.__new__»;refine PySem.wpAt_bind ?_;show PySem.wpAt _ _ _ (stack >>= _) _ _ _;refine PySem.wpAt_bind (PySem.wpAt_stack fun p below=>PySem.wpAt_of_wpAny ?_)
 wp_walk
 refine PySem.wpAt_of_wpAny ?_;rw[G.owner]
 repeat (first|with_reducible refine wpAny_madeHere_exc G.canon f ?_|with_reducible refine jZ f ?_|(with_reducible refine tz f ?_;first|rw[j] | rw[k] | rw[l])|wp_step)
 show R _ _;rw[kW];exact i
theorem HZ(m:ft bm){a:Zf}{j:Addr}{n:Obj}{Q:Fin->Shared->Prop}(f:h.get? C=some (dh nm q C N bs bm hdct sn sub ab col dd k0 k1 k2 k3 k5 "ValueError.__new__"))
  (hi:PySem.W.Looks (model prog w) h (qw (.ref C) "__init__") (some (.ref j))) (k:h.get? j=some n) (l:n.cls=.type "function") (u:a.length<=ai)
  (v:∀i,(∀b o,h.get? b=some o->i.get? b=some o)->i.objs.size=h.objs.size+2->i.get? (h.objs.size+1)=some { cls:=.ref C,data:=.fields #[.ref h.objs.size,.none,.none,.none,.bool false,.none] } ->
   wpAny (model prog w) A (call (.ref j) (.ref (h.objs.size+1)::a)) (fun r p=>r=.none/\Q (.done (.ret (.ref (h.objs.size+1)))) p) E ⟨i,g,d,t,os⟩) :
  wpAny (model prog w) A (b_.«type.__call__» ⟨.ref C::a,[]⟩) Q E ⟨h,g,d,t,os⟩:=by
 repeat (first|with_reducible refine jZ f ?_|with_reducible refine wpAny_madeBy_exc f ?_|wp_step)
 refine codeAny_call_builtin_code (Code.quiet_builtin _ PySem.F.excBase_ValueError.quiet) (Ic m f (K8 m f u ?_));show wpAny _ _ _ _ _ _;have kp:∀b o,h.get? b=some o->((h.push { cls:=.type "tuple",data:=.seq a.toArray }).push { cls:=.ref C,data:=.fields #[.ref h.objs.size,.none,.none,.none,.bool false,.none] }).get? b=some o :=
  fun b o e=>bc _ (bc _ e)
 have y:=kp _ _ f;have s:((h.push { cls:=.type "tuple",data:=.seq a.toArray }).push { cls:=.ref C,data:=.fields #[.ref h.objs.size,.none,.none,.none,.bool false,.none] }).get? (h.objs.size+1)
  =some { cls:=.ref C,data:=.fields #[.ref h.objs.size,.none,.none,.none,.bool false,.none] }:=by heap_get
 have z:(Value.ref C::bm).contains (.ref C)=true:=by simp
 unfold vH
 repeat (first|with_reducible refine jZ s ?_|(with_reducible refine tz y ?_;rw[z])|wp_step)
 show wpAny _ _ (qw (.ref C) _) _ _ _;refine hi _ _ _ _ kp ?_;refine gE (ak ?_);unfold bindSpecial;refine ak (nu (T:="function") ⟨_,kp _ _ k,l⟩ ?_);rw[if_pos (by decide)];refine ap (ak (cM (v _ kp (by rw[kW,kW]) s) (fun r p B=>?_) fun _ _ x=>x));obtain⟨rfl,D⟩:=B
 wp_walk
 exact D
theorem Kb(m:ft bm){e:Zf}{i:Addr}{l:Obj}{Q:Zc}(f:h.get? C=some (dh nm q C N bs bm hdct sn sub ab col dd k0 k1 k2 k3 k5 "ValueError.__new__"))
  (hi:PySem.W.Looks (model prog w) h (qw (.ref C) "__init__") (some (.ref i))) (j:h.get? i=some l) (k:l.cls=.type "function") (n:e.length<=ai)
  (p:∀a,(∀b o,h.get? b=some o->a.get? b=some o)->a.objs.size=h.objs.size+2->a.get? (h.objs.size+1)=some { cls:=.ref C,data:=.fields #[.ref h.objs.size,.none,.none,.none,.bool false,.none] } ->
   wpAny (model prog w) (A.under (.builtin "type.__call__" ⟨.ref C::e,[]⟩)) (call (.ref i) (.ref (h.objs.size+1)::e)) (fun r s=>r=.none/\Q (.ref (h.objs.size+1)) s) E ⟨a,g,d,t,os⟩) :
  wpAny (model prog w) A (call (.ref C) e) Q E ⟨h,g,d,t,os⟩:=by
 have u:=tc_lookup;have v:=tc_bind (.ref C);have x:(⟨h,g,d,t,os⟩:Shared).TypeIs (.ref C) "type":=⟨_,f,rfl⟩;refine j7 (codeAny_of_tree ?_);show wpAny _ _ (callAny (.ref C) _) _ _ _
 repeat (any_goals (first|assumption|with_reducible refine jZ f ?_|wp_step))
 exact⟨rfl,codeAny_call_builtin_at (Code.quiet_builtin _ (by decide +kernel)) entry_typeCall (wpAny_check_type_call_sub f (HZ m f hi j k n fun a a1 a2 a3=>p a a1 a2 a3))⟩
end
structure jV(K:Za)(C:Addr):Prop where
 obj:∃nm q N bs bm sn sub ab col dd k0 k1 k2 k3 k5,K.lookup C=some (dh nm q C N bs bm true sn sub ab col dd k0 k1 k2 k3 k5 "ValueError.__new__")/\ft bm
 sa:az K (.ref C) "__setattr__"=some (some (.builtin "object.__setattr__"))
 ga:az K (.ref C) "__getattribute__"=some (some (.builtin "BaseException.__getattribute__"))
 gx:az K (.ref C) "__getattr__"=some none
theorem jV.cd{K:Za}{C:Addr}(c:jV K C):∃cd,PySem.W.clsIn K C=some cd/\ft cd.mro/\cd.hasDict=true:=by
 obtain⟨f,q,N,bs,g,h,sub,i,a,j,k,l,m,n,o,e,v⟩:=c.obj;exact⟨_,by unfold PySem.W.clsIn;rw[e],.own v,rfl⟩
theorem ft.ne{l:Zf}(x:ft l):l.isEmpty=false:=by cases x<;>rfl
theorem Ag(self:Value){l:Zf}(x:ft l):refuseLoop self "__setattr__" l=pure ():=by
 induction x with
 |base=>exact PySem.F.store_ValueError.passes self
 |own _ a=>rw[refuseLoop_ref];exact a
section
variable{prog:bu}{w:World}{A:Around}{E:Zc}{s:Shared}{K:Za}{x C:Addr}{od:Option Addr}{vs:Array Value}{name:Str}{v:Value}
open PySem.W
theorem FE{M:Model}{h:Heap}{cd:ClassData}(X:K.In h)(e:clsIn K C=some cd)(a:ft cd.mro){n:String}(f:dA.contains (.type n)=true):Looks M h (isSubtype (.ref C) (.type n)) true :=
 looks_mroIn X (by unfold mroIn;rw[e,Option.bind_some,if_neg (by rw[a.ne];decide),a.has f])
theorem Ka{M:Model}{h:Heap}(hx:h.get? x=some { cls:=.ref C,dict:=od,data:=.fields vs }):Looks M h (typeOf (.ref x)) (.ref C):=(Looks.ld hx).andThen .now
theorem Ie{f:Zf}{Q:Zc}(X:K.In s.heap)(c:jV K C)(hx:s.heap.get? x=some { cls:=.ref C,dict:=od,data:=.fields vs })(T:f.length<=ai)(u:0<vs.size)
  (h:∀l,(∀b o,b≠x->s.heap.get? b=some o->l.get? b=some o)->l.get? x=some { cls:=.ref C,dict:=od,data:=.fields (vs.setIfInBounds 0 (.ref s.heap.objs.size)) }->Q .none { s with heap:=l }) :
  wpAny (model prog w) A (call (.builtin "ValueError.__init__") (.ref x::f)) Q E s:=by
 obtain⟨U,q,N,bs,B,Y,sub,ab,D,dd,k0,k1,k2,k3,k5,e,H⟩:=c.obj;have G:=PySem.F.excBase_ValueError;have m:=X _ _ e;have I:(Value.ref C::B).contains (.type "ValueError")=true:=by rw[f8,H.has (b:=true) (by decide +kernel)];rfl
 have c2:=G.noStar;obtain⟨i,g,d,t,os⟩:=s;dsimp only at hx m;refine j7 (w8 G.init.plain G.initEntry ?_);have J:∀(p:Unit->Shared->Prop),p () ⟨i,g,d,t,os⟩->wpAny (model prog w) A.in1 (w_ "ValueError.__init__" ⟨.ref x::f,[]⟩) p (fun e z=>match (Except.error e:Result)with | .ok (.ret v)=>Q v z | .ok _=>False | .error e=>E e z) ⟨i,g,d,t,os⟩:=fun p L=>by
  simp only[w_,G.initKind,G.initSplit,G.initRow]
  repeat (first|with_reducible refine jZ hx ?_|with_reducible refine jZ m ?_|(with_reducible refine tz m ?_;rw[I])|wp_step)
  refine tL ?_;rw[show ∀(a b:String) (n:Nat),Bind.check ⟨.positional,"*","ValueError",.self,[⟨"args",.varPos,false⟩]⟩ a b n (List.map (fun y=>y.fst) ({ pos:=Value.ref x::f }:Args).kw)=pure ()from fun a b n=>check_star_args _ _ _ _ _ _];exact ap L
 refine J _ ?_;unfold b_.«BaseException.__init__»;have j:(i.push { cls:=.type "tuple",data:=.seq f.toArray }).get? x=some { cls:=.ref C,dict:=od,data:=.fields vs }:=bc _ hx;obtain⟨r,M⟩:∃r,vs[0]?=some r:=⟨vs[0],by simp[u]⟩
 wp_walk
 rw[M];have k:Q .none ⟨(i.push { cls:=.type "tuple",data:=.seq f.toArray }).update x (iS (·.setIfInBounds 0 (.ref i.objs.size))),g,d,t,os⟩:=by
  refine h _ (fun b o O e=>?_) ?_
  ·rw[gH _ _ (dJ O)];exact bc _ e
  ·rw[jt _ j rfl];rfl
 refine ap (ak (ni j rfl u ?_));cases r<;>first|exact nh (ap k)|exact ap (ap k)
theorem xO{h:Heap}{e:Addr}{a:Obj}(hx:h.get? x=some { cls:=.ref C,dict:=some e,data:=.fields vs })(f:h.get? e=some a):InstAt h x { cls:=.ref C,dict:=some e,data:=.fields vs } C (some a):=⟨hx,rfl,rfl,f⟩
theorem xN{h:Heap}(hx:h.get? x=some { cls:=.ref C,dict:=none,data:=.fields vs }):InstAt h x { cls:=.ref C,dict:=none,data:=.fields vs } C none:=⟨hx,rfl,rfl,g8⟩
theorem K6{R:Result->Shared->Prop}{n:Obj}{od:Option Obj}{tk:Tok}(X:K.In s.heap)(c:jV K C)(I:InstAt s.heap x n C od)(o:takerIn K C name=some none)
  (h:∀b,wpAny (model prog w) A.in1 (b_.ObjectAttr.storeInOwnDict (.ref x) (.ref C) (.str name tk) name v b) (fun j i=>match j with | .done f=>R (.ok f) i | .again k=>k.quiet=true/\zzl87 (model prog w) A k R i) (fun e i=>R (.error e) i) s) :
  zzl87 (model prog w) A (.call (.builtin "object.__setattr__") ⟨[.ref x,.str name tk,v],[]⟩) R s:=by
 have SF:=PySem.F.store_object;obtain⟨cd,l,m,_⟩:=c.cd;have sub:Looks (model prog w) s.heap (vH (.ref x) (.type "object")) true:=I.type.andThen (FE X l m (by decide +kernel));refine w8 SF.slot.plain SF.entry (@check_slot (model prog w) _ _ s "object.__setattr__" "object" "__setattr__" (.ref x) [.str name tk,v] [] _ SF.kind SF.split sub (SF.args (.ref x) (.str name tk) v) ?_);obtain⟨g,p,q⟩:=Option.bind_eq_some_iff.mp o;have r:Looks (model prog w) s.heap (mroOf (.ref C)) cd.mro:=(looks_clsIn X l).andThen .now;have t:Looks (model prog w) s.heap (b_.ObjectAttr.storeTaker? g) none:=by
  cases g with
  |none=>exact .now
  |some a =>
   obtain⟨b,u,e⟩:=ib.mp q;refine(looks_takesIn X u).andThen ?_;cases b with
   |true=>cases e
   |false=>exact .now
 rw[osa_eq,refuse_eq];refine ak (ak (I.type.here (ak (r.here ?_))));rw[Ag _ m];refine ap (ak (I.type.here (ak ((tw X p).here (ak (t.here ?_))))));exact h _
theorem D_{Q:Unit->Shared->Prop}(X:K.In s.heap)(c:jV K C)(hx:s.heap.get? x=some { cls:=.ref C,dict:=none,data:=.fields vs })(p:takerIn K C name=some none)
  (h:∀f tk,(∀b o,b≠x->s.heap.get? b=some o->f.get? b=some o)->f.get? x=some { cls:=.ref C,dict:=some s.heap.objs.size,data:=.fields vs } ->
   f.Ns1 s.heap.objs.size (fun y=>if y=name then some v else none)->Q () { s with heap:=f,toks:=tk }) :
  wpAny (model prog w) A (setAttr (.ref x) name v) Q E s:=by
 obtain⟨cd,q,_,r⟩:=c.cd;have I:=xN hx;refine set_plain X I c.sa (K6 (s:={ s with toks:=s.toks+1 }) X c I p fun b=>?_);obtain⟨a,g,d,t,os⟩:=s;dsimp only at hx I X;have i:(a.push { cls:=.type "dict",data:=.dict #[] }).get? x=some { cls:=.ref C,dict:=none,data:=.fields vs }:=bc _ hx;have xs:x≠a.objs.size:=bX (aS hx);refine ak (ap (ak (ak (CJ hx (ak ((looks_clsIn X q).here ?_))))));rw[r];refine ak (wpAny_alloc' (ak (wpAny_update' i ?_)));refine ap ?_;have u:((a.push { cls:=.type "dict",data:=.dict #[] }).update x fun o=>{ o with dict:=some a.objs.size }).get? a.objs.size=some { cls:=.type "dict",data:=.dict #[] } :=
  (gH _ _ xs).trans (Heap.get?_push_at rfl rfl)
 have z:((a.push { cls:=.type "dict",data:=.dict #[] }).update x fun o=>{ o with dict:=some a.objs.size }).Ns a.objs.size (fun _=>none):=⟨_,#[],_,u,rfl,fun e B=>absurd B (by simp),fun _=>rfl⟩;show wpAny _ _ (wZ a.objs.size (.str name _) name v) _ _ _;unfold wZ b_.ObjectAttr.newKeyGuard;refine ak (ap (ak (wpAny_nsSet1 (Heap.Ns1.of_empty z) fun f j n=>?_)));obtain⟨J,D,G,k,l,m⟩:=j.count (Within.cons name v Within.nil);refine ak (wpAny_lookBehind k (by rw[l];exact pastItsLine_dict (bo m (by rw[dD,lz,vD];omega))) ?_);refine ap (h f _ (fun b o H e=>?_) ?_ j)
 ·exact(n.2 b (bX (aS e))).trans ((gH _ _ (dJ H)).trans (bc _ e))
 ·exact(n.2 x xs).trans (jt _ i rfl)
theorem D0{Q:Unit->Shared->Prop}{f:Addr}{k:Str->Option Value}{q:Zb}(X:K.In s.heap)(c:jV K C)(hx:s.heap.get? x=some { cls:=.ref C,dict:=some f,data:=.fields vs })(l:s.heap.Ns1 f k)
  (r:Within k q) (N:q.length<ai) (u:takerIn K C name=some none)
  (h:∀i tk,(∀b o,b≠f->s.heap.get? b=some o->i.get? b=some o)->i.Ns1 f (fun y=>if y=name then some v else k y)->Q () { s with heap:=i,toks:=tk }) :
  wpAny (model prog w) A (setAttr (.ref x) name v) Q E s:=by
 obtain⟨cd,z,_,B⟩:=c.cd;obtain⟨D,G,_⟩:=qY l;have I:=xO hx G;refine set_plain X I c.sa (K6 (s:={ s with toks:=s.toks+1 }) X c I u fun b=>?_);obtain⟨O,g,d,t,os⟩:=s;dsimp only at hx I X l;refine ak (ap (ak (ak (CJ hx (ak ((looks_clsIn X z).here ?_))))));rw[B];refine ap (a:=some f) ?_;show wpAny _ _ (wZ f (.str name _) name v) _ _ _;unfold wZ b_.ObjectAttr.newKeyGuard;refine ak (ap (ak (wpAny_nsSet1 l fun i j H=>?_)));obtain⟨T,J,L,m,n,p⟩:=j.count (Within.cons name v r);refine ak (wpAny_lookBehind m (by rw[n];exact pastItsLine_dict (bo p (by rw[dD];omega))) ?_);exact ap (h i _ (fun b o M e=>(H.2 b M).trans e) j)
theorem xget{Q:Zc}{j:Addr}{k:Str->Option Value}{a:Bool}(X:K.In s.heap)(c:jV K C)(hx:s.heap.get? x=some { cls:=.ref C,dict:=some j,data:=.fields vs })(n:s.heap.Ns1 j k)
  (o:findIn K (.ref C) name=some none) (p:k name=some v) (q:handedIn v=true) (h:Q v { s with toks:=s.toks+1 }):wpAny (model prog w) A (zG (.ref x) name a) Q E s:=by
 obtain⟨cd,l,e,r⟩:=c.cd;obtain⟨f,u,y⟩:=qY n;have I:=xO hx u;have G:=PySem.F.attrBase_ValueError;obtain⟨m,g,d,t,os⟩:=s;dsimp only at hx I X;have i:=I.type (M:=model prog w);have z:=tw (M:=model prog w) X c.ga;have L2:=tw (M:=model prog w) X c.gx;have hf:findObj K C (some f) name=some (.value v):=findObj_own (by unfold hasDictIn;rw[l];exact r) o rfl (by rw[y,p]);have B:=looks_find (M:=model prog w) X I hf;have sub:Looks (model prog w) m (vH (.ref x) (.type "BaseException")) true:=i.andThen (FE X l e (by decide +kernel));unfold zG getAttrBy;refine ak (wpAny_mkText (gE (ak (i.at (ak (z.at ?_))))));have ne:(wY (Value.ref C) && p8 "BaseException.__getattribute__"==p8 "object.__getattribute__")=false:=by
  rw[show(p8 "BaseException.__getattribute__"==p8 "object.__getattribute__")=false from by decide +kernel,tJ]
 dsimp only;rw[ne,if_neg (by decide)];have D:Looks (model prog w) m (hookBefore (.ref C)) none:=L2;refine ak (D.at (ak (tK (gE ?_))));unfold callGetattribute;rw[show(a && wY (p8 "BaseException.__getattribute__"))=false from tJ _,if_neg (by decide)];unfold boundAndCalled;rw[G.ga.bind];refine ak (ap ?_);show wpAny _ _ (call (.builtin "BaseException.__getattribute__") [.ref x,.str name _]) _ _ _;refine j7 (w8 G.ga.plain PySem.F.entry_bexc_ga ?_);refine @check_slot (model prog w) _ _ _ "BaseException.__getattribute__" "BaseException" "__getattribute__" (.ref x) [.str name _] [] _ (by decide +kernel) (by decide +kernel) sub (PySem.F.args_bexc_ga _ _) ?_;unfold b_.«object.__getattribute__»;refine ak (ap (ak (ap (ak (i.at (ak (B.at ?_)))))));refine ap ?_;show wpAny _ _ (handedOut v) _ _ _;rw[handedOut_of q];exact ap h
end
theorem upd_id{H:Hp}{a:Addr}{o:HO}(e:H a=some o):upd H a o=H:=by
 funext b;unfold upd;split
 ·rename_i q;rw[q,e]
 ·rfl
def jl(d:Addr)(fs:List (Str×V)):Heap->Prop:=fun h=>∃mA,h.Ns1 d mA/\∀f,i7 (fs.lookup f) (mA f)
theorem zM{P:bu}{w:World}{K:Za}{H:Hp}{h:Heap}{d:Addr}{fs:List (Str×V)}{a:Str->Option Value}(n:h.Ns1 d a)(r:∀f,i7 (fs.lookup f) (a f)):cF P w K H h d (.ext (jl d fs)):=by
 refine⟨⟨a,n,r⟩,?_,fun j l ⟨m,⟨o,g,i,e,q⟩,z⟩ k=>⟨m,⟨o,g,i,k _ e,q⟩,z⟩⟩;obtain⟨o,g,i,e,_⟩:=n;exact⟨o,e⟩
structure JW(K:Za)(T:Addr):Prop where
 rd:PySem.W.readsIn K T (.type "type")=true
 fi:PySem.W.findCls K (.ref T) (.type "type") "__init__"=some (.val (.builtin "ValueError.__init__"))
 ga:CI K (.ref T) "__getattribute__"=some (some (.builtin "type.__getattribute__"))
section
variable{X:Cx}{J5:Zd}{σ:St}{H:Hp}{s:Shared}{a C:Addr}{od:Option Addr}
theorem Inv.exc(I:Inv X J5 σ H s)(e:H a=some (.ext (ip a C od))):∃f,s.heap.get? a=some { cls:=.ref C,dict:=od,data:=.fields f }/\1<f.size:=(I.hok a _ e).1
theorem Inv.excN(I:Inv X J5 σ H s)(e:H a=some (.ext (eG a C od))):∃f,s.heap.get? a=some { cls:=.ref C,dict:=od,data:=.fields f }/\f[1]?=some .none:=(I.hok a _ e).1
def FX(K:Za)(t:TA):TE:=fun σ H Q=>t σ H fun vs H1=>∃a C od us,vs=.ref a::us/\H1 a=some (.ext (eG a C od))/\jV K C/\us.length<=ai/\Q .non H1
theorem GN{T:Addr}{x:Str}{p l i:Pos}{e:Expr}{j:List Expr}{t:TA}{pl:Sem Bool}(B:JW X.K T)(G:Gl X x)(J:X.mg x=some (.ref T))(L:PA X (e::j) t)(m:(x==("__debug__":Str))=false:=by decide)
  (n:aA (e::j) X.env=(false,eval e X.env)::aA j X.env:=by rfl) (v:(backTo i (aA j X.env)).any (·.1)=false:=by rfl)
  (M:eval (.Call (.Attribute (.Name x p) "__init__" l) (e::j) [] i) X.env=(do
   let D <- eval (.Name x p) X.env
   oM l.atName
   let(f,first) <- jf [D] (oJ D "__init__" pl)
   nF i f first (backTo i (aA (e::j) X.env)) (j6 i (j5 [] X.env))):=by rfl) :
  PE X (.Call (.Attribute (.Name x p) "__init__" l) (e::j) [] i) (FX X.K t):=by
 intro J5 s σ H Q I h;refine PySem.W.methodCall_KW (pl:=pl) (kI I G J ?_ m) M;refine PySem.W.method_cls I.kIn B.ga (PySem.W.cls_value I.kIn B.rd B.fi rfl ?_);refine callWith_builtin1 (cR (L i J5 _ σ H _ (I.tok _) h) fun us N w=>?_) n v;obtain⟨vs,O,y,r,a,C,od,U,Y,A,c,hz,q⟩:=w;subst Y;cases r with
 |cons ra rr =>
  obtain rfl:=(show _=Value.ref a from ra);obtain⟨ws,ew,k⟩:=y.excN A;have h0:0<ws.size:=f6 Nat.zero_lt_one (df (ic.mp k).1);refine Ie y.kIn c ew (by rw[<-rr.length];exact hz) h0 fun h' kp E=>⟨.non,O,?_,rfl,q⟩;have z:=y.write (x:=a) (e:=a) (o:=.ext (eG a C od)) (h':=h') (t':=N.toks) (by rw[A];exact g8) (.inl rfl) (fun b u nb g=>kp b u nb g) ⟨_,E⟩ (rf E (by rw[Array.getElem?_setIfInBounds_ne (by decide)];exact k));rw[upd_id A]at z;exact z
def Jy(K:Za)(ta tv:TE)(f:Str):TS:=fun D σ H=>tv σ H fun y H1=>ta σ H1 fun x H2=>∃a C,x=.ref a/\jV K C/\bZ K C f /\
  ((H2 a=some (.ext (eG a C none))/\∀d,H2 d=none->d≠a->D.nx σ (upd (upd H2 d (.ext (jl d [(f,y)]))) a (.ext (eG a C (some d))))) ∨
   (∃d fs,H2 a=some (.ext (eG a C (some d)))/\H2 d=some (.ext (jl d fs))/\fs.length<1000/\D.nx σ (upd H2 d (.ext (jl d (dC f y fs))))))
theorem IJ{o value:Expr}{f:Str}{J A:Pos}{U Y:TE}(ha:PE X o U)(hv:PE X value Y)(hs:mT value (some (.Attribute o f A)) J.line X.env=pure false):PS X (.Assign [.Attribute o f A] value J) (Jy X.K U Y f):=by
 intro J5 s σ H D I h;refine plainObj_wpAny_Assign_Attribute (cR (hv J5 s σ H _ I h) fun u s1 ⟨y,H1,I1,ry,q⟩=>cR (ha J5 s1 σ H1 _ I1 q) fun ov j O=>?_) hs;obtain⟨x,m,p,rx,a,C,ex,c,n,L⟩:=O;subst ex;obtain rfl:ov=Value.ref a:=rx;rcases L with⟨e,L⟩|⟨d,fs,e,ed,hl,L⟩
 ·obtain⟨vs,g,g1⟩:=p.excN e;refine D_ p.kIn c g n.taker fun h' tk kp gx N=>?_;have nd:j.heap.objs.size≠a:=fX (aS g);have hn:m j.heap.objs.size=none:=p.hok.fresh (ay _);have other:∀b u,m b=some u->(∀φ,u≠.ext φ)->b≠a:=fun b u z nz i=>nz _ (by rw[i,e]at z;exact(fx z).symm);have B:∀b,b≠a->b≠j.heap.objs.size->upd (upd m j.heap.objs.size (.ext (jl j.heap.objs.size [(f,y)]))) a (.ext (eG a C (some j.heap.objs.size))) b=m b:=fun b h1 h2=>by rw[am h1,am h2]
  have M:∀b u,m b=some u->b≠j.heap.objs.size:=fun b u z i=>by rw[i,hn]at z;cases z
  have un:Un X.fs [] m (upd (upd m j.heap.objs.size (.ext (jl j.heap.objs.size [(f,y)]))) a (.ext (eG a C (some j.heap.objs.size)))) j.heap h':=by
   have Q:∀b,m b=none->b≠a:=fun b z i=>by rw[i,e]at z;cases z
   refine⟨fun b o z G _ _=>kp b o (Q b G) z,fun b o z G _ _=>⟨o.slots,kp b o (Q b G) z⟩,fun b o z G _=>by rw[B b (Q b G) (bX (aS z))];exact G,fun b o z _=>?_,
    fun b xs z=>by rw[B b (other b _ z (by intro φ i;cases i)) (M b _ z)];exact z,fun b ob u z=>by rw[B b (other b _ z (by intro φ i;cases i)) (M b _ z)];exact z,
    fun b ps z=>⟨#[],by rw[B b (other b _ z (by intro φ i;cases i)) (M b _ z),z];simp⟩⟩
   by_cases E:b=a
   ·rw[E];exact⟨_,gx⟩
   ·exact⟨o,kp b o E z⟩
  have ok:k_ X.prog X.w X.K (upd (upd m j.heap.objs.size (.ext (jl j.heap.objs.size [(f,y)]))) a (.ext (eG a C (some j.heap.objs.size)))) h':=fun b u z=>by
   by_cases E:b=a
   ·subst E;rw[aa]at z;cases z;exact rf gx g1
   ·by_cases hd:b=j.heap.objs.size
    ·subst hd;rw[am E,aa]at z;cases z;refine zM N fun k=>?_;show i7 (iN k [(f,y)]) _;by_cases q:k=f
     ·rw[q,if_pos rfl];simp[iN];exact ry
     ·rw[if_neg q];have:(k==f)=false:=beq_eq_false_iff_ne.mpr q;simp only[iN,this];exact g8
    ·rw[B b E hd]at z;refine(p.hok b u z).stay (fun l v hc t=>kp l v ?_ t) (fun l t=>by rw[B l (other l _ t (by intro φ i;cases i)) (M l _ t)];exact t) fun l xs t=>by rw[B l (other l _ t (by intro φ i;cases i)) (M l _ t)];exact t
     rcases hc with rfl|hc
     ·exact E
     ·exact other l _ hc (by intro φ i;cases i)
  exact⟨σ,_,p.un (t':=tk) un ok,L _ hn nd⟩
 ·obtain⟨vs,g,g1⟩:=p.excN e;obtain⟨mA,nA,rA⟩:=(p.hok d _ ed).1;have wi:zK mA (fs.map (·.1)):=fun k hg=>by
   have r:=rA k;cases q:fs.lookup k with
   |none=>rw[q]at r;exact absurd (i7.none_of r) hg
   |some y'=>exact bA.mpr ⟨(k,y'),qA q,rfl⟩
  refine D0 p.kIn c g nA wi (by rw[ao,vD];omega) n.taker fun h' tk kp N=>?_;have T:∃o,h'.get? d=some o:=let⟨o,_,_,e',_⟩:=N;⟨o,e'⟩;refine⟨σ,_,p.write (x:=d) (e:=d) (h':=h') (t':=tk) (by rw[ed];exact g8) (.inl rfl) (fun b u nb z=>kp b u nb z) T (zM N fun k=>?_),L⟩;rw[e_];by_cases q:k=f
  ·rw[if_pos q,if_pos q];exact ry
  ·rw[if_neg q,if_neg q];exact rA k
def FS(K:Za)(ta:TE)(f:Str):TE:=fun σ H Q=>ta σ H fun x H1=>∃a C d fs v,x=.ref a/\H1 a=some (.ext (ip a C (some d)))/\H1 d=some (.ext (jl d fs))/\jV K C/\bZ K C f/\fs.lookup f=some v/\Q v H1
theorem IM{e:Expr}{f:Str}{j:Pos}{m:TE}(r:PE X e m)(t:vC e f X.env (eval e X.env)=eval e X.env):PE X (.Attribute e f j) (FS X.K m f):=by
 intro J5 s σ H Q I h;refine DQ t (cR (r J5 s σ H _ I h) fun u J k=>?_);obtain⟨x,w,i,y,a,C,d,fs,v,ex,z,A,c,n,l,q⟩:=k;subst ex;obtain rfl:u=Value.ref a:=y;obtain⟨L,g,_⟩:=i.exc z;obtain⟨B,D,E⟩:=(i.hok d _ A).1;obtain⟨M,G,p⟩:=i7.some_of (v:=v) (o:=B f) (by rw[<-l];exact E f);exact xget i.kIn c g D n G (wu p) ⟨v,w,i.tok _,p,q⟩
end
section
variable{M:Model}{A:Around}{E:Zc}{s:Shared}{env:Env}{nm q:Str}{C N a:Addr}{bs bm:Zf}{hdct:Bool}{sn:Zb}{sub:Zf}{ab:Bool}{col:Option Bool}{dd od:Option Addr}{k0 k1 k2 k3 k5:Option Value}{newId:String}{vs:Array Value}
theorem Ia{x:Sem Value}{Q:Flow->Shared->Prop}(j:ft bm)(k:A.handled=none)
  (h:wpAny M A x (fun v e=>∃a od vs,v=.ref a/\e.heap.get? C=some (dh nm q C N bs bm hdct sn sub ab col dd k0 k1 k2 k3 k5 newId)/\e.heap.get? a=some { cls:=.ref C,dict:=od,data:=.fields vs }/\vs[1]?=some .none/\E (.ref a) e) E s) :
  wpAny M A (raiseStmt env (some x) none) Q E s:=by
 have l:(Value.ref C::bm).contains (.type "BaseException")=true:=by rw[f8,j.has (b:=true) (by decide +kernel)];rfl
 unfold raiseStmt;refine ak (cM h (fun v e m=>?_) fun _ _ y=>y);obtain⟨a,od,vs,rfl,f,i,n,o⟩:=m;obtain⟨p,g,d,tk,os⟩:=e
 repeat (first|with_reducible refine ca i rfl n ?_|with_reducible refine jZ i ?_|with_reducible refine jZ f ?_|(with_reducible refine tz f ?_;rw[l])|wp_step)
 exact wpAny_raiseNew_none k o
end
section
variable{X:Cx}{J5:Zd}{σ:St}{H:Hp}{s:Shared}{C f:Addr}{k:Nat}{fd:iw}{ps:Zb}{sp:Sp}
theorem Et{i:Zf}{n:List V}{J:Hp->Prop}(c:jV X.K C)(hi:az X.K (.ref C) "__init__"=some (some (.ref f)))(hf:rC X.K (.ref f)=true)
  (F:i8 X.prog X.w X.K X.mg X.base CX0 k f fd ps sp) (Q:dU (k+1) X.A) (T:Binds X.K fd ps []) (I:Inv X J5 σ H s) (r:bj n i) (U:i.length<=ai)
  (h:sp (.ref (s.heap.objs.size+1)::n) (upd H (s.heap.objs.size+1) (.ext (eG (s.heap.objs.size+1) C none))) (fun v m=>v=.non/\J m) E0) {E:Zc} :
  wpAny (model X.prog X.w) X.A (call (.ref C) i) (fun u L=>u=.ref (s.heap.objs.size+1)/\∃m,Inv X J5 σ m L/\J m) E s:=by
 obtain⟨nm,q,N,bs,bm,sn,sub,ab,Y,dd,k0,k1,k2,k3,k5,e,hv⟩:=c.obj;have p:=I.kIn;obtain⟨x,y,B⟩:∃x,X.K.lookup f=some x/\x.cls=.type "function":=by
  obtain⟨o,ho,e⟩:=ib.mp (beq_iff_eq.mp hf);exact⟨o,ho,e⟩
 obtain⟨j,g,d,t,os⟩:=s;refine Kb (q:=q) (h:=j) hv (p _ _ e) (PySem.W.looks_findIn p hi) (p _ _ y) B U fun h' kp z gx=>?_;dsimp only at h I;have D:=I.laid (a:=j.objs.size+1) (o:=.ext (eG (j.objs.size+1) C none)) (h':=h') (t':=t) kp (j4 _) (rf gx rfl);have M:bj (V.ref (j.objs.size+1)::n) (Value.ref (j.objs.size+1)::i):=.cons rfl r;have hl:((Value.ref (j.objs.size+1)::i)++[]).length=ps.length:=by rw[eM,<-M.length];exact F.len _ _ _ _ h
 have O:=T _ (Value.ref (j.objs.size+1)::i) D.kIn hl;rw[eM]at O;refine j7 (qD (F.run _ X.stack _ _ ⟨Value.ref (j.objs.size+1)::i,[]⟩ (Value.ref (j.objs.size+1)::i) _ _ E0 (Q.make C i []) (D.env0.make C i []) O M h) fun G L l=>?_);cases G with
 |error e=>exact l.elim
 |ok fl =>
  cases fl with
  |ret u =>
   obtain⟨v,H',I3,rv,ev,q3⟩:=D.after l;subst ev;exact⟨rv,rfl,H',I3,q3⟩
  |next=>exact de l
  |brk=>exact de l
  |cont=>exact de l
end
abbrev Cx.hnd(X:Cx)(v:Value):Cx:={ X with A:=X.A.mark (some v),calm:=false,xe:=fun _ _=>False }
section
variable{X:Cx}{J5:Zd}{σ:St}{H:Hp}{s:Shared}{n:Nat}{a C:Addr}{od:Option Addr}{v:Value}
theorem Inv.hnd(I:Inv X J5 σ H s)(v:Value):Inv (X.hnd v) J5 σ H s :=
 ⟨⟨I.ok.mod,I.ok.kind,I.ok.glob,I.ok.blt,I.ok.above,I.ok.inj,I.ok.has,I.ok.cab,(fun z=>nomatch z),I.ok.frames,I.ok.stk,I.ok.exf,I.ok.bs,I.ok.bsz,I.ok.noex,I.ok.exfs,I.ok.funs,I.ok.frf⟩,I.os,I.bare,I.base,I.loc,I.cell,I.free,I.freeC,I.pin,I.hok,I.len⟩
theorem Inv.unhnd(e:Inv (X.hnd v) J5 σ H s)(ok:X.Ok):Inv X J5 σ H s:=⟨ok,e.os,e.bare,e.base,e.loc,e.cell,e.free,e.freeC,e.pin,e.hok,e.len⟩
theorem H_{M:Model}{A:Around}{Q:Unit->Shared->Prop}{E:Zc}(I:Inv X J5 σ H s)(y:pU X J5 n)(l:lX n s.heap H a C od)(h:∀r,Inv X J5 σ H r->lX n r.heap H a C od->Q () r):
  wpAny M A (tu (.ref a) none) Q E s:=by
 obtain⟨G,T,e,z,J,w⟩:=l.tr;unfold tu;rcases J with⟨m,rfl⟩|⟨t,O,U,rfl,m,j,k,B,i,D⟩
 ·refine ak (ca e rfl m ?_);rw[if_neg (by decide)];exact ap (h s I l)
 ·refine ak (ca e rfl m ?_);rw[if_pos (show(Value.ref t != Value.none)=true from by simp)];refine ni B i (ic.mp D).1 ?_;have kp:∀b o,b≠t->s.heap.get? b=some o->(s.heap.update t (iS (·.setIfInBounds 3 ((none:Option Addr).elim Value.none fun f=>rawInt f)))).get? b=some o:=fun b o L g=>by
   rw[gH _ _ (dJ L)];exact g
  have u:=(ic.mp D).1;refine h _ (I.turned (t':=s.toks) (it:=t) kp (w t rfl) (fun q=>absurd j (js (q▸y.loc))) (.inr (bo y.s0 j)) (fun x c g q=>absurd j (js (q▸y.cell x c g))) (fun p N q=>absurd j (js (q▸y.pin p N))))
   ⟨l.trk,l.new,G,some t,kp a _ (dJ k) e,z,.inr ⟨t,_,_,rfl,m,j,k,jt _ B (tM (lh i _)),lh i _,by simp[u]⟩,w⟩
theorem sS{M:Model}{A:Around}{E:Zc}{i:Nat}{x:Str}{t:Pos}{Q:Unit->Shared->Prop}(I:Inv X J5 σ H s)(O:X.N.Nodup)(hi:X.N[i]?=some x)(hx:X.env.scope.names.lookup x=some .local)
  (h:∀G,Inv X J5 (σ.set i none) H G->Q () G):wpAny M A (do bindName X.env x .none;unbindBehindTheSuite X.env x t) Q E s:=by
 obtain⟨m,J,T⟩:=id I.loc;have l:(X.env.scope.kind==.class || (X.env.scope.kind==.module && X.env.locals != X.env.globals))=false:=by rw[I.ok.kind];rfl
 have hiσ:i<σ.length:=by rw[I.len];exact(cV.mp hi).1
 have cne:=I.cne;refine wpAny_nameGoes_keeps hx J l fun U v u f=>?_;obtain⟨oL,_,_,Y,_⟩:=id J;have tracked:k_ X.prog X.w X.K H U:=fun b ob e=>by
  refine(I.hok b ob e).stay (fun c L hc q=>(f.2 c ?_).trans q) (fun _ q=>q) fun _ _ q=>q;rintro rfl;rcases hc with rfl|hc
  ·rw[I.free]at e;cases e
  ·rw[I.free]at hc;cases hc
 refine h _ ⟨I.ok,I.os,I.bare,⟨fun b o e n B hx=>?_,fun b o e n B hx=>?_,I.base.free,fun b o e hx=>?_,I.base.tups,I.base.frzs,I.base.tbls⟩,⟨_,u,fun j y v' g r e3=>?_⟩,fun y c e=>?_,I.free,I.freeC,fun p hp=>?_,tracked,by simpa using I.len⟩
 ·exact(f.2 b (bX (f6 (aS e) I.ok.above))).trans (I.base.keep b o e n B hx)
 ·obtain⟨sl,g⟩:=I.base.slot b o e n B hx;exact⟨sl,(f.2 b (bX (f6 (aS e) I.ok.above))).trans g⟩
 ·obtain⟨o',g⟩:=I.base.there b o e hx;exact⟨o',(f.2 b (bX (f6 (aS e) I.ok.above))).trans g⟩
 ·by_cases D:j=i
  ·subst D;rw[CQ hiσ]at r;cases r
  ·rw[CP (dJ D)]at r;obtain⟨u',r',q⟩:=T j y v' g r e3;refine⟨u',r',?_⟩;rcases q with⟨k,e⟩|⟨k,c,e,z⟩
   ·refine .inl ⟨k,?_⟩;have:y≠x:=fun e=>D (uz O g (e▸hi));simp[this,e]
   ·exact .inr ⟨k,c,e,z.sameBut f (cne y c e)⟩
 ·obtain⟨L,z⟩:=I.cell y c e;exact⟨L,z.sameBut f (cne y c e)⟩
 ·obtain⟨e,n,ne,nf,d⟩:=I.pin p hp;exact⟨(f.2 p.1 ne).trans e,n,ne,nf,d⟩
def XE(X:Cx)(J5:Zd)(σ:St)(W:XK)(e:Value)(s':Shared):Prop:=∃n a C od H',e=.ref a/\pU X J5 n/\Inv X J5 σ H' s'/\lX n s'.heap H' a C od/\W (.ref C) (some a) H'
def XS(X:Cx)(J5:Zd)(W:St->XK)(e:Value)(s':Shared):Prop:=∃n a C od σ' H',e=.ref a/\pU X J5 n/\Inv X J5 σ' H' s'/\lX n s'.heap H' a C od/\W σ' (.ref C) (some a) H'
def KZ(X:Cx)(e:Expr)(t:XK->TE):Prop:=∀(J5:Zd) (s:Shared) (σ:St) (H:Hp) (Q:VK) (W:XK),Inv X J5 σ H s->t W σ H Q->wpAny (model X.prog X.w) X.A (eval e X.env) (EP X J5 σ Q) (XE X J5 σ W) s
def PH(X:Cx)(hs:List wX)(t:gC->St->XK):Prop:=∀(J5:Zd) (n:Nat) (s:Shared) (σ:St) (H:Hp) (D:gC) (a C:Addr) (od:Option Addr),Inv X J5 σ H s->pU X J5 n->lX n s.heap H a C od->t D σ (.ref C) (some a) H ->
 wpAny (model X.prog X.w) X.A (handleBy (.ref a) X.env hs) (SP X J5 D) X.xe s
def Lc(tb:(St->XK)->TS)(th:gC->St->XK):TS:=fun D σ H=>tb (th D) D σ H
def FT(te:XK->TE)(i:Nat):(St->XK)->TS:=fun W D σ H=>te (W σ) σ H fun v H1=>D.nx (σ.set i (some v)) H1
def lG(te:XK->TE):(St->XK)->TS:=fun W D σ H=>te (W σ) σ H fun _ H1=>D.nx σ H1
def Bx(tc:TT)(ta tb:(St->XK)->TS):(St->XK)->TS:=fun W=>bQ tc (ta W) (tb W)
def lF(t:TS):(St->XK)->TS:=fun _=>t
def KY(X:Cx)(b:Stmt)(t:(St->XK)->TS):Prop:=∀(J5:Zd) (s:Shared) (σ:St) (H:Hp) (D:gC) (W:St->XK),Inv X J5 σ H s->t W D σ H->wpAny (model X.prog X.w) X.A (exec b X.env) (SP X J5 D) (XS X J5 W) s
theorem XE.xs{e:Value}{W:St->XK}(h:XE X J5 σ (W σ) e s):XS X J5 W e s:=let⟨n,a,C,od,f,g,y,I,i,q⟩:=h;⟨n,a,C,od,σ,f,g,y,I,i,q⟩
theorem Gy{e:Expr}{j:XK->TE}{x:Str}{i:Nat}{k f:Pos}(l:X.N.Nodup)(hi:X.N[i]?=some x)(hx:Loc X.env.scope x)(m:KZ X e j)
  (o:mT e (some (.Name x k)) f.line X.env=pure false:=by rfl) (hf:X.fn x=true∨X.env.scope.names.lookup x=some .local:=by first|exact .inl rfl|exact .inr rfl|assumption) :
  KY X (.Assign [.Name x k] e f) (FT j i):=by
 intro J5 s σ H D W I h;refine wpAny_Assign_Name (cM (m J5 s σ H _ (W σ) I h) (fun v w g=>?_) fun _ _ z=>z.xs) o;obtain⟨y,p,q,r,t⟩:=g;exact o7 q l hi hx r (fun A u=>⟨_,p,u,t⟩) hf
theorem kD{e:Expr}{g:XK->TE}{f:Pos}(i:KZ X e g)(j:mT e none f.line X.env=pure false:=by rfl):KY X (.Expr e f) (lG g):=by
 intro J5 s σ H D W I h;exact wpAny_Expr_any (cM (i J5 s σ H _ (W σ) I h) (fun v o ⟨x,k,l,p,m⟩=>⟨σ,k,l,m⟩) fun _ _ z=>z.xs) I.quiet j
section
variable{f:Addr}{k:Nat}{fd:iw}{ps:Zb}{sp:Sp}{x:Str}{p pos:Pos}{e:Expr}{es:List Expr}{t:TA}
theorem XE.of{W:XK}{j:Value}{l:Hp}{m o:Shared}(r:Inv X J5 σ l m)(h:Js X.prog X.w X.K X.stack l m W j o):XE X J5 σ W j o:=by
 obtain⟨a,C,od,u,y,os,g,un,i,A,q⟩:=h;exact⟨_,a,C,od,u,y,r.young,r.call' (ch:=[]) os un i g (fun b z=>absurd z (by simp)),A,q⟩
theorem GG(F:i8 X.prog X.w X.K X.mg X.base (Js X.prog X.w X.K) k f fd ps sp)(E:dU k X.A)(G:Gl X x)(J:X.mg x=some (.ref f))(L:cU X.K (.ref f)=true)(M:Binds X.K fd ps [])
  (N:PA X.nox (e::es) t) (m:(x==("__debug__":Str))=false:=by decide) (O:aA (e::es) X.env=(false,eval e X.env)::aA es X.env:=by rfl) (o:(backTo pos (aA es X.env)).any (·.1)=false:=by rfl) :
  KZ X (.Call (.Name x p) (e::es) [] pos) (fun W=>iW sp [] W t):=by
 intro J5 s σ H Q W I h;refine qC (kI I G J ?_ m);refine tV (h₀:=X.base) I.ok.mod.kin L (cM (N pos J5 s σ H _ (I.wish _) h) (fun j B ⟨T,U,g,r,q⟩=>⟨g.kIn,?_⟩) fun _ _ z=>de z) O o;have l:=g.unwish;dsimp only at q;rw[eM]at q;have Y:(j++[]).length=ps.length:=by rw[eM,<-r.length];exact F.len _ _ _ _ q
 have D:=M B j l.kIn Y;rw[eM]at D;refine j7 (qD (F.run X.A X.stack B U ⟨j,[]⟩ j T Q W E l.env0 D r q) fun y s' i=>?_);cases y with
 |error ev=>exact XE.of l i
 |ok fl =>
  cases fl with
  |ret u=>exact l.after i
  |next=>exact de i
  |brk=>exact de i
  |cont=>exact de i
end
section
variable{cn nme:Str}{Dc:Addr}{np hpos:Pos}{b0:Stmt}{suite:List Stmt}{rest:List wX}{th:TS}{tr:gC->St->XK}{i:Nat}
def Kf(K:Za)(Dc:Addr)(i:Nat)(th:TS)(tr:gC->St->XK):gC->St->XK:=fun D σ cls oa H=>∃C a b,cls=.ref C/\oa=some a/\wW K (.ref C) (.ref Dc)=some b /\
 if b=true then th { nx:=fun σ' H'=>D.nx (σ'.set i none) H',rt:=D.rt,bk:=fun σ' H'=>D.bk (σ'.set i none) H',ct:=fun σ' H'=>D.ct (σ'.set i none) H' } (σ.set i (some (.ref a))) H else tr D σ cls oa H
def Ke:gC->St->XK:=fun _ _ _ _ _=>False
theorem Ku:PH X [] Ke:=fun _ _ _ _ _ _ _ _ _ _ _ _ h=>h.elim
theorem Ll(l:X.N.Nodup)(hi:X.N[i]?=some nme)(hx:X.env.scope.names.lookup nme=some .local)(A:Gl X cn)(B:X.mg cn=some (.ref Dc))(o:∀a:Addr,zc (X.hnd (.ref a)) (b0::suite) th)(p:PH X rest tr)
  (r:(cn==("__debug__":Str))=false:=by decide):PH X (.ExceptHandler (some (.Name cn np)) (some nme) (b0::suite) hpos::rest) (Kf X.K Dc i th tr):=by
 intro J5 n s σ H D a C od I y t ⟨U,Y,b,E,G,ex,h⟩;cases E;cases G;obtain⟨vs,g,_⟩:=I.exc t.trk;refine wpAny_handleBy_cons (codeAny_handlers_test ?_) (by intro q;cases q);refine kI (X:=X.hnd (.ref a)) (I.hnd (.ref a)) A B ?_ r;refine(PySem.W.exm_one (M:=model X.prog X.w) I.kIn (Ka g) ex).here ?_;cases b with
 |false=>exact p J5 n s σ H D a C od I y t h
 |true =>
  refine codeAny_handlers_suite_as (H_ I y t fun s1 J L=>?_);refine o7 (X:=X) J l hi (.inl hx) (v:=.ref a) (u:=.ref a) rfl (fun O Q=>?_) (.inr hx);refine cM (o a J5 O _ H _ (Q.hnd (.ref a)) h) (fun f s3 m=>?_) fun _ _ z=>de z;cases f with
  |next=>obtain⟨σ',e,j,q⟩:=m;exact sS (j.unhnd I.ok) l hi hx fun x k=>⟨_,e,k,q⟩
  |brk=>obtain⟨σ',e,j,q⟩:=m;exact sS (j.unhnd I.ok) l hi hx fun x k=>⟨_,e,k,q⟩
  |cont=>obtain⟨σ',e,j,q⟩:=m;exact sS (j.unhnd I.ok) l hi hx fun x k=>⟨_,e,k,q⟩
  |ret u=>obtain⟨v,σ',e,j,T,q⟩:=m;exact sS (j.unhnd I.ok) l hi hx fun x k=>⟨v,_,e,k,T,q⟩
end
end
structure vB(P:bu)(w:World)(K:Za)(mg:Str->Option Value)(base:Heap)(x:Str)(ps:Zb)(k:Nat)(sp:Sp):Prop where
 ex:∃f fd,i8 P w K mg base (Js P w K) k f fd ps sp/\mg x=some (.ref f)/\cU K (.ref f)=true/\Binds K fd ps []
structure KR(P:bu)(w:World)(K:Za)(mg:Str->Option Value)(base:Heap)(x:Str)(C:Addr)(ps:Zb)(k:Nat)(sp:Sp):Prop where
 ex:∃f fd,i8 P w K mg base CX0 k f fd ps sp/\mg x=some (.ref C)/\jV K C/\az K (.ref C) "__init__"=some (some (.ref f))/\rC K (.ref f)=true/\cU K (.ref C)=true/\Binds K fd ps []
section
variable{X:Cx}{k:Nat}{ps:Zb}{sp:Sp}{E:XK}{x:Str}{C:Addr}{p pos np J6:Pos}{e:Expr}{es:List Expr}{t:TA}{st:Stmt}{ts:TS}
theorem iZ(D:vB X.prog X.w X.K X.mg X.base x ps k sp)(h:dU k X.A)(i:Gl X x)(j:PA X.nox (e::es) t)(a:(x==("__debug__":Str))=false:=by decide)
  (l:aA (e::es) X.env=(false,eval e X.env)::aA es X.env:=by rfl) (g:(backTo pos (aA es X.env)).any (·.1)=false:=by rfl) :
  KZ X (.Call (.Name x p) (e::es) [] pos) (fun W=>iW sp [] W t):=by
 obtain⟨f,q,F,m,n,o⟩:=D.ex;exact GG F h i m n o j a l g
end
section
variable{P:bu}{w:World}{K:Za}{mg:Str->Option Value}{base:Heap}
theorem JZ.okX{x a:Str}{st:Stmt}{f:Addr}{o:iw}{N i:Zb}{k:Nat}{j:Sp}(F:JZ K x a st f o)(S:g7 N i (bC st))(l:∀g H Q E,j g H Q E->g.length=i.length)
  (h:∀(e:Value) (A:Around) (outer:List Env) (s:Shared) (H:Hp) (g:List V) (Q:VK) (E:XK),dU k (A.deeper (envOfC a (bC st) s.heap.objs.size f e))->j g H Q E ->
   ∃t,zc (vq (Js P w K) P w K mg base N a (bC st) f e A outer s H E) (fF st) t/\t (bq Q) (start N g) H):i8 P w K mg base (Js P w K) (k+1) f o i j:=by
 obtain⟨r,u,kV,doc,v,y,e,z,p,rfl,lk,m⟩:=F.ex;refine JO lk m S l fun A outer s H g Q E q n=>?_;exact h e A outer s H g Q E q n
end
end L2
namespace L2
open PySem PySem.W
theorem KJ{K:Frag}{C D:Addr}{b:Bool}(e:subIn K (.ref D) (.type "BaseException")=some true)(f:isClsIn K D=true)(g:typeIn K (.ref D)=some (.type "type"))(h:subIn K (.ref C) (.ref D)=some b):exmOne K (.ref C) (.ref D)=some b:=by
 have a:(clsIn K D).isSome=true:=f;unfold exmOne;rw[e,if_pos (by decide)];show(if((clsIn K D).isSome && typeIn K (.ref D)==some (.type "type"))=true then subIn K (.ref C) (.ref D)else none)=some b
 rw[if_pos (by rw[a,g];decide)];exact h
section
variable{X:Cx}{k:Nat}{ps:Zb}{sp:Sp}{x:Str}{C:Addr}{p pos:Pos}{e:Expr}{es:List Expr}{t:TA}
theorem Lm:lV (Js X.prog X.w X.K) X E0:=fun _ _ _ _ _ _ _ ⟨_,_,_,_,_,_,_,_,_,_,q⟩=>q.elim
theorem Ky(D:vB X.prog X.w X.K X.mg X.base x ps k sp)(h:dU k X.A)(i:Gl X x)(j:PA X (e::es) t)(a:(x==("__debug__":Str))=false:=by decide)
  (l:aA (e::es) X.env=(false,eval e X.env)::aA es X.env:=by rfl) (g:(backTo pos (aA es X.env)).any (·.1)=false:=by rfl) :
  PE X (.Call (.Name x p) (e::es) [] pos) (aw sp t):=by
 obtain⟨f,q,F,m,n,o⟩:=D.ex;exact Dk F h i m n o .nil Lm j a l g
end
section
variable{X:Cx}
theorem xQ:∀{e:List Int}{a:Zf},bj (e.map V.int) a->∃xs:List (Int×Tok),a=xs.map (fun p=>Value.int p.1 p.2)/\xs.map (·.1)=e
 |[],_,r=>by cases r;exact⟨[],rfl,rfl⟩
 |n::e,_,r=>by
  cases r with
  |cons f g =>
   obtain⟨t,rfl⟩:=f;obtain⟨xs,h,i⟩:=xQ g;exact⟨(n,t)::xs,by rw[h];rfl,by rw[cw,i]⟩
end
section
variable{X:Cx}{J5:Zd}{σ:St}{H:Hp}{s:Shared}{k:Nat}{f C:Addr}{fd:iw}{ps:Zb}{sp:Sp}
def j_(C:Addr)(sp:Sp)(t:TA):(St->XK)->TS:=fun W _ σ H=>t σ H fun vs H1=>vs.length<=ai/\∀a,H1 a=none ->
 sp (.ref a::vs) (upd H1 a (.ext (eG a C none))) (fun v H2=>v=.non/\∃od,H2 a=some (.ext (eG a C od))/\W σ (.ref C) (some a) (upd H2 a (.ext (ip a C od)))) E0
theorem Gz{x:Str}{np B G:Pos}{e:Expr}{l:List Expr}{t:TA}(c:jV X.K C)(hi:az X.K (.ref C) "__init__"=some (some (.ref f)))(hf:rC X.K (.ref f)=true)(kp:cU X.K (.ref C)=true)
  (F:i8 X.prog X.w X.K X.mg X.base CX0 k f fd ps sp) (hr:dU (k+1) X.A) (hb:Binds X.K fd ps []) (hc:X.calm=true) (hg:Gl X x) (hm:X.mg x=some (.ref C)) (ha:PA X.nox (e::l) t) (J:(x==("__debug__":Str))=false:=by decide)
  (he:aA (e::l) X.env=(false,eval e X.env)::aA l X.env:=by rfl) (L:(backTo B (aA l X.env)).any (·.1)=false:=by rfl) :
  KY X (.Raise (some (.Call (.Name x np) (e::l) [] B)) none G) (j_ C sp t):=by
 intro J5 s σ H D W I h;obtain⟨nm,q,N,bs,bm,sn,sub,ab,col,dd,k0,k1,k2,k3,k5,eC,hv⟩:=c.obj;rw[arm_exec_Raise];simp only[evalOpt,Option.map];refine ak (zJ (Ia (C:=C) (nm:=nm) (q:=q) (N:=N) (bs:=bs) (bm:=bm) (hdct:=true) (sn:=sn) (sub:=sub) (ab:=ab) (col:=col) (dd:=dd) (k0:=k0) (k1:=k1) (k2:=k2) (k3:=k3) (k5:=k5) (newId:="ValueError.__new__") hv (I.ok.hd hc) ?_));refine ak (cM (Q:=fun v i=>∃a m M,v=.ref a/\i.heap.get? C=some (dh nm q C N bs bm true sn sub ab col dd k0 k1 k2 k3 k5 "ValueError.__new__")/\i.heap.get? a=some { cls:=.ref C,dict:=m,data:=.fields M }/\M[1]?=some .none/\XS X J5 W (.ref a) i) ?_ (fun v s3 h3=>ak (zJ (ap h3))) fun _ _ y=>y);refine qC (kI I hg hm ?_ J);refine tV (h₀:=X.base) I.ok.mod.kin kp (cM (ha B J5 s σ H _ (I.wish _) h) (fun us i ⟨M,H1,n,r,hz,q1⟩=>⟨n.kIn,?_⟩) fun _ _ z=>de z) he L;have O:=n.unwish;refine cM (Et (E:=XS X J5 W) c hi hf F hr hb O r (by rw[<-r.length];exact hz) (q1 (i.heap.objs.size+1) (O.hok.fresh (j4 _)))) (fun u s2 T=>?_) fun _ _ z=>z;obtain⟨eu,H2,U,m,e2,q2⟩:=T;obtain⟨Y,p,j⟩:=U.excN e2;refine⟨i.heap.objs.size+1,m,Y,eu,U.kIn _ _ eC,p,j,?_⟩;have w1:1<Y.size:=(ic.mp j).1;have I3:=U.write (x:=i.heap.objs.size+1) (e:=i.heap.objs.size+1) (o:=.ext (ip (i.heap.objs.size+1) C m)) (h':=s2.heap) (t':=s2.toks) (by rw[e2];exact g8) (.inl rfl) (fun b u _ g=>g) ⟨_,p⟩ (wz p w1);exact⟨i.heap.objs.size,_,C,m,σ,_,rfl,O.young,I3,⟨aa,j4 _,Y,none,p,w1,.inl ⟨j,rfl⟩,fun t z=>by cases z⟩,q2⟩
theorem vW{x:Str}{l j g:Pos}{e:Expr}{a:List Expr}{t:TA}(D:KR X.prog X.w X.K X.mg X.base x C ps k sp)(m:dU (k+1) X.A)(n:X.calm=true)(o:Gl X x)(p:PA X.nox (e::a) t)(h:(x==("__debug__":Str))=false:=by decide)
  (q:aA (e::a) X.env=(false,eval e X.env)::aA a X.env:=by rfl) (i:(backTo j (aA a X.env)).any (·.1)=false:=by rfl) :
  KY X (.Raise (some (.Call (.Name x l) (e::a) [] j)) none g) (j_ C sp t):=by
 obtain⟨f,fd,F,r,c,hi,hf,kp,u⟩:=D.ex;exact Gz c hi hf kp F m u n o r p h q i
end
section
variable{prog:bu}{w:World}{A:Around}{E:Zc}{s:Shared}{K:Za}{x C:Addr}{ox:Obj}{odo:Option Obj}
open PySem.W
theorem Ib{Q:Option Value->Shared->Prop}(X:K.In s.heap)(c:jV K C)(I:InstAt s.heap x ox C odo)(hf:findObj K C odo "__class__"=some (.bind (.builtin "getset_descriptor.__get__") (.builtin "object.__class__")))
  (i:mroIn K C (.type "object")=some true) (h:Q (some (.ref C)) { s with toks:=s.toks+1 }):wpAny (model prog w) A (xh (.ref x) "__class__") Q E s:=by
 obtain⟨cd,j,a,n⟩:=c.cd;have G:=PySem.F.attrBase_ValueError;obtain⟨f,g,d,t,os⟩:=s;dsimp only at I X;have e:=I.type (M:=model prog w);have k:=tw (M:=model prog w) X c.ga;have L2:=tw (M:=model prog w) X c.gx;have l:=looks_find (M:=model prog w) X I hf;have sub:Looks (model prog w) f (vH (.ref x) (.type "BaseException")) true:=e.andThen (FE X j a (by decide +kernel));unfold xh getAttrBy? getAttrBy;refine ak (wpAny_mkText (ak (tK (gE (ak (e.at (ak (k.at ?_))))))));have ne:(wY (Value.ref C) && p8 "BaseException.__getattribute__"==p8 "object.__getattribute__")=false:=by
  rw[show(p8 "BaseException.__getattribute__"==p8 "object.__getattribute__")=false from by decide +kernel,tJ]
 dsimp only;rw[ne,if_neg (by decide)];have m:Looks (model prog w) f (hookBefore (.ref C)) none:=L2;refine ak (m.at (ak (tK (gE ?_))));unfold callGetattribute;rw[show(false && wY (p8 "BaseException.__getattribute__"))=false from rfl,if_neg (by decide)];unfold boundAndCalled;rw[G.ga.bind];refine ak (ap ?_);show wpAny _ _ (call (.builtin "BaseException.__getattribute__") [.ref x,.str "__class__" _]) _ _ _;refine j7 (w8 G.ga.plain PySem.F.entry_bexc_ga ?_);refine @check_slot (model prog w) _ _ _ "BaseException.__getattribute__" "BaseException" "__getattribute__" (.ref x) [.str "__class__" _] [] _ (by decide +kernel) (by decide +kernel) sub (PySem.F.args_bexc_ga _ _) ?_;unfold b_.«object.__getattribute__»;refine ak (ap (ak (ap (ak (e.at (ak (l.at ?_)))))));show wpAny _ _ (b_.ObjectAttr.bindTo (.builtin "getset_descriptor.__get__") (.builtin "object.__class__") (.ref x) (.ref C)) _ _ _;unfold b_.ObjectAttr.bindTo;show wpAny _ _ (jf [p8 "object.__class__"] (call (.builtin "getset_descriptor.__get__") [.builtin "object.__class__",.ref x,.ref C]) >>= ret) _ _ _;refine ak (gE (j7 (class_get (ox:=ox) (od:=odo) X I i ?_)));show wpAny _ _ (ret (Value.ref C)) _ _ _;refine ap ?_;show wpAny _ _ (handedOut (Value.ref C)) _ _ _;rw[handedOut_of (by rfl)];exact ap (ap h)
theorem AJ(e:(clsIn K C).isSome=true)(f:findIn K (.ref C) "__class__"=some (some (.builtin "object.__class__")))(g:specialIn K (.builtin "object.__class__") "__get__"=some (some (.builtin "getset_descriptor.__get__")))(a:takesIn K (.builtin "object.__class__")=some true):
  findObj K C odo "__class__"=some (.bind (.builtin "getset_descriptor.__get__") (.builtin "object.__class__")):=by
 cases odo with
 |some o=>exact findObj_data e f g a
 |none =>
  obtain⟨cd,e⟩:=tT.mp e;unfold findObj;rw[e,Option.bind_some,f,Option.bind_some];simp[g,a]
structure LQ(K:Frag)(C:Addr):Prop where
 cls:jV K C
 ha:findIn K (.ref C) "__class__"=some (some (.builtin "object.__class__"))
 hn:specialIn K (.builtin "object.__class__") "__get__"=some (some (.builtin "getset_descriptor.__get__"))
 htk:takesIn K (.builtin "object.__class__")=some true
 hm:mroIn K C (.type "object")=some true
theorem Az(k:LQ K C):KitX K (.ref x) (.ref C) (fun h=>∃ox odo,InstAt h x ox C odo):=by
 obtain⟨r,q,N,bs,t,u,sub,v,g,i,y,B,D,G,H,f,J⟩:=k.cls.obj;obtain⟨cd,j,l,L⟩:=k.cls.cd;refine⟨fun _ _ _ ⟨_,_,I⟩=>I.type,fun M h X _=>?_,fun h m i o n O X a=>?_,fun X ⟨_,_,I⟩ q=>Ib X k.cls I (AJ (by rw[j];rfl) k.ha k.hn k.htk) k.hm q⟩
 ·intro Q T U Y p q;unfold isType loadHead;exact ak (CJ (p _ _ (X _ _ f)) (ap q))
 ·refine Bool.eq_false_iff.mpr fun q=>?_;have e:C=m:=Value.ref.inj (beq_iff_eq.mp q);subst e;have z:=(X _ _ f).symm.trans a;simp[dh]at z
end
def Gv(K:Za):List V->Hp->VK->Prop:=fun xs H Q=>∃(a C:Addr) (od:Option Addr) (c:V) (u:Value) (b:Bool),xs=[.ref a,c]/\((∃d,c=.ref d/\u=.ref d)∨∃n,c=.ty n/\u=.type n)/\H a=some (.ext (ip a C od)) /\
 (od=none∨∃d fs,od=some d/\H d=some (.ext (jl d fs)))/\LQ K C/\mS K (.ref C) u=some b/\Q (.bl b) H
theorem AQ{X:Cx}:eQ X (.builtin "isinstance") (Gv X.K):=by
 intro B s σ H xs D Q I r h;obtain⟨a,C,E,c,u,b,rfl,l,m,p,k,e,q⟩:=h;obtain⟨G,t,rfl,v,j⟩:=vals2 r;cases v;have x:t=u:=by
  rcases l with⟨d,rfl,rfl⟩|⟨n,rfl,rfl⟩
  ·exact j
  ·exact j
 subst x;obtain⟨J,g,_⟩:=I.exc m;have inst:∃y f,PySem.W.InstAt s.heap a y C f:=by
  rcases p with rfl|⟨d,fs,rfl,i⟩
  ·exact⟨_,_,xN g⟩
  ·obtain⟨_,⟨o,A⟩,_⟩:=(show cF X.prog X.w X.K H s.heap d (.ext (jl d fs))from I.hok d _ i);exact⟨_,_,xO g A⟩
 exact je (Az k) I.kIn inst e (fun z=>nomatch z) fun tk=>⟨.bl b,H,I.tok _,rfl,q⟩
section
variable{X:Cx}
def jH(t u:(St->XK)->TS):(St->XK)->TS:=fun W=>ar (t W) (u W)
end
end L2
end

section
set_option Elab.async false
set_option linter.all false
set_option maxRecDepth 100000
namespace L2
open PySem PySem.Spec PyProof.Rows PySem.W
structure XO(K:Frag)(C:Addr)(bm:Zf):Prop where
 ex:∃nm q N bs sn sub ab col dd k0 k1 k2 k3 k5,K.lookup C=some (dh nm q C N bs bm true sn sub ab col dd k0 k1 k2 k3 k5 "ValueError.__new__")
structure XG(K:Frag):Prop where
 hn:specialIn K (.builtin "object.__class__") "__get__"=some (some (.builtin "getset_descriptor.__get__"))
 htk:takesIn K (.builtin "object.__class__")=some true
structure XX(K:Frag)(mg:Str->Option Value)(x:Str)(C Ct:Addr):Prop where
 g:mg x=some (.ref C)
 o:XO K C (.ref Ct::dA)
 sa:findIn K (.ref C) "__setattr__"=some (some (.builtin "object.__setattr__"))
 ga:findIn K (.ref C) "__getattribute__"=some (some (.builtin "BaseException.__getattribute__"))
 gx:findIn K (.ref C) "__getattr__"=some none
 kp:keepIn K (.ref C)=true
 cl:findIn K (.ref C) "__class__"=some (some (.builtin "object.__class__"))
section
variable{K:Frag}{mg:Str->Option Value}{x y:Str}{C D Ct:Addr}{bm:Zf}
theorem XO.cls(h:XO K C bm):∃cd,clsIn K C=some cd/\cd.mro=.ref C::bm:=by
 obtain⟨f,q,N,bs,g,sub,i,a,j,k,l,m,n,o,e⟩:=h.ex;exact⟨_,by unfold clsIn;rw[e],rfl⟩
theorem XO.ty(h:XO K C bm):typeIn K (.ref C)=some (.type "type"):=by
 obtain⟨f,q,N,bs,g,sub,i,a,j,k,l,m,n,o,e⟩:=h.ex;show(K.lookup C).map (·.cls)=_;rw[e];rfl
theorem XO.sub(h:XO K C bm)(v:Value):subIn K (.ref C) v=some ((Value.ref C::bm).contains v):=by
 obtain⟨cd,e,m⟩:=h.cls;unfold subIn mroIn;dsimp only;rw[e];show(if cd.mro.isEmpty then none else some (cd.mro.contains v))=_
 rw[m];rfl
theorem XO.kitC(h:XO K C bm){a:Zf}(g:XO K D a):kitCls K (.ref C) (.ref D)=some ((Value.ref C::bm).contains (.ref D)):=by
 obtain⟨cd,e,m⟩:=g.cls;unfold kitCls;dsimp only;rw[e,g.ty,if_pos (show((some cd).isSome && some (Value.type "type")==some (Value.type "type"))=true by show(some (Value.type "type")==some (Value.type "type"))=true;decide)];exact h.sub _
theorem kC(a b:Addr):((Value.ref a)==(Value.ref b))=decide (b=a):=by
 by_cases e:b=a
 ·subst e;simp
 ·rw[zzr0 e];exact beq_false_of_ne fun z=>e (by injection z with z;exact z.symm)
theorem FK(a:Addr):dA.contains (Value.ref a)=false:=rfl
theorem XX.cls(h:XX K mg x C Ct):jV K C:=by
 obtain⟨f,q,N,bs,g,sub,i,a,j,k,l,m,n,p,e⟩:=h.o.ex;exact⟨⟨f,q,N,bs,_,g,sub,i,a,j,k,l,m,n,p,e,.own .base⟩,h.sa,h.ga,h.gx⟩
theorem XX.exk(h:XX K mg x C Ct)(g:XG K):LQ K C:=by
 refine⟨h.cls,h.cl,g.hn,g.htk,?_⟩;have:=h.o.sub (.type "object");exact this
theorem XX.is(h:XX K mg x C Ct)(g:XX K mg y D Ct)(a:D≠Ct):kitOne K (.ref C) (.ref D)=some (decide (D=C)):=by
 unfold kitOne;by_cases e:D=C
 ·subst e;rw[if_pos (by simp),zzr1 rfl]
 ·rw[if_neg (by rw[kC,zzr0 e];decide),h.o.kitC g.o,zzr0 e,f8,f8,FK];have f:((Value.ref D)==(Value.ref C))=false:=by rw[kC];exact zzr0 fun z=>e z.symm
  have i:((Value.ref D)==(Value.ref Ct))=false:=by rw[kC];exact zzr0 fun z=>a z.symm
  rw[f,i];rfl
theorem XX.ve(h:XX K mg x C Ct):kitOne K (.ref C) (.type "ValueError")=some true:=by
 unfold kitOne;rw[if_neg (fun z=>by cases z)];unfold kitCls;dsimp only;rw[if_pos (by decide +kernel)];exact h.o.sub _
theorem XO.exm(h:XO K C bm){a:Zf}(g:XO K D a)(b:a.contains (.type "BaseException")=true):exmOne K (.ref C) (.ref D)=some ((Value.ref C::bm).contains (.ref D)):=by
 unfold exmOne;rw[g.sub,f8,b,if_pos (by simp)];exact h.kitC g
theorem XX.exm(h:XX K mg x C Ct)(g:XX K mg y D Ct)(a:D≠Ct):exmOne K (.ref C) (.ref D)=some (decide (D=C)):=by
 have f:((Value.ref D)==(Value.ref Ct))=false:=by rw[kC];exact zzr0 fun z=>a z.symm
 rw[h.o.exm g.o rfl,f8,f8,FK,f,kC];by_cases e:C=D
 ·subst e;simp
 ·rw[zzr0 e,zzr0 fun z=>e z.symm];rfl
end
theorem HD:ix "ValueError"=some (.type "ValueError"):=by decide +kernel
theorem ji{X:Cx}{b:Stmt}{t:TS}(h:PS X.nox b t):KY X b (lF t):=fun a s σ H D W I q=>cM (h a s σ H D (I.wish _) q) (fun _ _ z=>z.unwish) fun _ _ z=>de z
structure CG(n:Nat)(h:Heap)(H:Hp)(a C:Addr)(od:Option Addr)(L:Addr):Prop where
 trk:H a=some (.ext (ip a C od))
 new:n<=a
 tr:∃vs t oT ts,h.get? a=some { cls:=.ref C,dict:=od,data:=.fields vs }/\vs[1]?=some (.ref t)/\n<=t/\t≠a/\h.get? t=some oT/\oT.data=.fields ts/\ts[3]?=some (rawInt L)/\H t=none
section
variable{M:Model}{A:Around}{E:Zc}{s:Shared}{base:Heap}{env:Env}{outer:List Env}{L e:Addr}{oe:Obj}{vs:Array Value}{Q:Unit->Shared->Prop}
theorem CY{f:Value}{g:Bool}(u:A.frames=some (env::outer))(x:s.heap.FunFrames base (env::outer))(hf:env.frame=some L)
  (y:s.heap.get? e=some oe) (r:oe.data=.fields vs) (n:1<vs.size)
  (h:∀t p B C,K2 (u4 (env::outer)) e none s.heap t->t.get? e=some { oe with data:=.fields p }->p[1]?=some (.ref s.heap.objs.size) ->
   t.get? s.heap.objs.size=some B->B.data=.fields C->C[3]?=some (rawInt L)->Q () { s with heap:=t }) :
  wpAny M A (do let T <- frameOf env;let l <- entryPlaceOf L g;let U <- EntryCells.newEntry f T .none (rawInt L) .none l;setField (.ref e) 1 U) Q E s:=by
 have v:e∉u4 (env::outer):=fun z=>by
  obtain⟨_,o,m,Y⟩:=x.mem z;rw[y]at m;cases m;exact Y vs r
 refine ak (wpAny_frameOf_fun u x hf fun a so=>ak (wpAny_entryPlaceOf fun l w=>?_));unfold EntryCells.newEntry newFields;refine ak (gJ ?_ (w.sizeOk5 _ _ _ _ _));generalize D:({ cls:=.type "traceback",dict:=none,data:=.fields ([f,.ref L,.none,rawInt L,.none]++(if l.isEmpty then dz 6 Value.none else l)).toArray }:Obj)=i
 have dN:i.data=.fields ([f,.ref L,.none,rawInt L,.none]++(if l.isEmpty then dz 6 Value.none else l)).toArray:=by rw[<-D]
 have fN:i.isFreed=false:=by rw[<-D];rfl
 have G:a.get? e=some oe:=(so.2.1 e v).trans y;have H:=bc (h:=a) i G;have I:a.objs.size=s.heap.objs.size:=so.1;refine ni H r n ?_;have ne:a.objs.size≠e:=fX (aS G);have d3:=lh r (·.setIfInBounds 1 (Value.ref a.objs.size));have e3:=jt (iS (·.setIfInBounds 1 (Value.ref a.objs.size))) H (tM d3);have t3:((a.push i).update e (iS (·.setIfInBounds 1 (Value.ref a.objs.size)))).get? a.objs.size=some i:=(gH (a.push i) _ (dJ ne)).trans (db a fN);have k:∀b o,b≠e->a.get? b=some o->((a.push i).update e (iS (·.setIfInBounds 1 (Value.ref a.objs.size)))).get? b=some o:=fun b o j q=>by
  rw[gH _ _ (dJ j)];exact bc _ q
 have J:((a.push i).update e (iS (·.setIfInBounds 1 (Value.ref a.objs.size)))).get? e=some { oe with data:=.fields (vs.setIfInBounds 1 (Value.ref a.objs.size)) }:=by
  rw[e3,Obj.mapF r]
 refine h _ _ _ _ ⟨fun b o q j _ N=>k b o j ((so.2.1 b N).trans q),fun b o q j _ N=>?_,fun b o q=>?_⟩ J ?_ (by rw[<-I];exact t3) dN ?_
 ·obtain⟨O,m⟩:=so.2.2 b o q;exact⟨O,k b _ j m⟩
 ·by_cases j:b=e
  ·rw[j];exact⟨_,J⟩
  ·obtain⟨O,m⟩:=so.2.2 b o q;exact⟨_,k b _ j m⟩
 ·rw[<-I];simp[n]
 ·simp
theorem HY{n:Nat}{T:Option Addr}(l:A.frames=some (env::outer))(J:s.heap.FunFrames base (env::outer))(hf:env.frame=some L)
  (r:s.heap.get? e=some oe) (u:oe.data=.fields vs) (Y:Trc n s.heap e vs T)
  (h:∀k g y v,K2 (u4 (env::outer)) e T s.heap k->k.get? e=some { oe with data:=.fields g }->g[1]?=some (.ref s.heap.objs.size) ->
   k.get? s.heap.objs.size=some y->y.data=.fields v->v[3]?=some (rawInt L)->Q () { s with heap:=k }):wpAny M A (qq (.ref e) env) Q E s:=by
 unfold qq;simp only[hf];rcases Y with⟨m,rfl⟩|⟨t,y,v,rfl,m,_,B,w,i,N⟩
 ·refine ak (ca r u m ?_);rw[if_neg (by decide)];exact CY l J hf r u (ic.mp m).1 h
 ·refine ak (ca r u m ?_);rw[if_pos (show(Value.ref t != Value.none)=true from by simp)];refine ak (ca w i N ?_);rw[if_neg (show ¬((Value.none==rawInt L)=true)from by simp[rawInt])];refine ak (ni w i (ic.mp N).1 ?_);have a:∀b,b≠t->(s.heap.update t (iS (·.setIfInBounds 3 Value.none))).get? b=s.heap.get? b:=fun b f=>gH _ _ (dJ f);have tt:=jt (iS (·.setIfInBounds 3 Value.none)) w (tM (lh i _));have p:∀b o,s.heap.get? b=some o->(∀ws,o.data≠.fields ws)->b≠t:=fun b o f j q=>by
   rw[q,w]at f;cases f;exact j v i
  have sz:(s.heap.update t (iS (·.setIfInBounds 3 Value.none))).objs.size=s.heap.objs.size:=Heap.size_after_update ..;refine CY (s:={ s with heap:=s.heap.update t (iS (·.setIfInBounds 3 Value.none)) }) l (J.of_keeps fun b o f j=>⟨o,(a b (p b o f j)).trans f,rfl⟩) hf ((a e (dJ B)).trans r) u (ic.mp m).1 ?_;intro k g C D x q1 O U q4 q5;rw[sz]at O U;refine h k g C D ⟨fun b o q G H I=>x.keep b o ((a b fun z=>H (by rw[z])).trans q) G (by simp) I,fun b o q G H I=>x.slot b o ((a b fun z=>H (by rw[z])).trans q) G (by simp) I,fun b o q=>?_⟩ q1 O U q4 q5;by_cases f:b=t
  ·rw[f];exact x.there t _ tt
  ·exact x.there b o ((a b f).trans q)
end
section
variable{X:Cx}{J5:Zd}{σ:St}{H:Hp}{s:Shared}{n:Nat}{a C:Addr}{od:Option Addr}
def Fly(X:Cx)(n:Nat)(h:Heap)(H:Hp)(a C:Addr)(od:Option Addr):Prop:=lX n h H a C od∨CG n h H a C od X.env.locals
theorem FC{M:Model}{Q:Unit->Shared->Prop}{E:Zc}(I:Inv X J5 σ H s)(y:pU X J5 n)(st:X.stack=X.env::X.outer)(j:X.env.frame=some X.env.locals)(fl:Fly X n s.heap H a C od)
  (h:∀L,Inv X J5 σ H L->CG n L.heap H a C od X.env.locals->Q () L):wpAny M X.A (qq (.ref a) X.env) Q E s:=by
 rcases fl with fl|fl
 ·obtain⟨vs,T,e,z,tr,fT⟩:=fl.tr;have k:=I.stack;rw[st]at k;refine HY (n:=n) (base:=X.base) (by rw[I.ok.frames,st]) k j e rfl tr fun h' r oT ts u q1 q2 q3 q4 q5=>?_;have z':1<r.size:=(ic.mp q2).1;have N:∀b∈u4 (X.env::X.outer),H b=none:=fun b f=>I.stkFree b (by rw[st];exact f);have O:=He I.hok fl.trk fT N u q1 z';have nT:∀t,T=some t->n<=t:=fun t J=>by
   rcases tr with⟨_,q⟩|⟨t',_,_,q,_,l,_⟩
   ·rw[q]at J;cases J
   ·rw[q]at J;cases J;exact l
  have U:∀b,b≠X.env.locals->b∉X.fs->b∉u4 (X.env::X.outer):=fun b Y h2 f=>by
   unfold u4 at f;rw[oO,j]at f;exact(cz.mp f).elim Y h2
  have i:∀b,H b=none->b≠a:=fun b f q=>by rw[q,fl.trk]at f;cases f
  obtain⟨m0,⟨oL,aT,aX,v,rL⟩,_⟩:=id I.loc;have w:X.env.locals∈u4 (X.env::X.outer):=by unfold u4;rw[oO,j];exact fh
  have ab:some X.env.locals≠T:=fun q=>absurd (nT _ q.symm) (js y.loc);obtain⟨a0,al⟩:=u.slot _ oL v (i _ I.free) ab w;refine h _ (I.step (g':=s.gens) (d':=s.drawn) (t':=s.toks) (ch:=T.toList) (fun b f=>?_) (fun b o hL hf hc g B=>?_) (fun b o hL hf hc g B=>?_) (fun b o _ _ B=>B) (fun b o _ g=>u.there b o g)
   (fun _ _ g=>g) (fun _ _ _ g=>g) (fun b ps g=>⟨#[],by rw[g];simp⟩) (fun m hm=>?_) O I.bare) ⟨fl.trk,fl.new,r,s.heap.objs.size,oT,ts,q1,q2,?_,?_,q3,q4,q5,?_⟩
  ·have hT:T=some b:=by cases T with
    |none=>simp at f
    |some t=>simp at f;rw[f]
   have D:=nT b hT;exact⟨.inr (bo y.s0 D),fun q=>absurd D (js (q▸y.loc)),fun x c g q=>absurd D (js (q▸y.cell x c g)),fun p hp q=>absurd D (js (q▸y.pin p hp))⟩
  ·exact u.keep b o g (i b B) (fun q=>hc (by rw[<-q];simp)) (U b hL hf)
  ·refine u.slot b o g (i b B) (fun q=>hc (by rw[<-q];simp)) ?_;unfold u4;rw[oO,j];exact eK _ hf
  ·obtain⟨o',an,as,G,r'⟩:=hm;rw[v]at G;cases G;exact⟨_,an,as,al,r'⟩
  ·exact bo (bo fl.new (df (aS e))) (ay _)
  ·exact fX (aS e)
  ·exact I.hok.fresh (ay _)
 ·obtain⟨vs,t,oT,ts,e,Y,D,a4,hT,aC,h3,nt⟩:=fl.tr;unfold qq;simp only[j];refine ak (ca e rfl Y ?_);rw[if_pos (show(Value.ref t != Value.none)=true from by simp)];refine ak (ca hT aC h3 ?_);rw[if_pos (show(rawInt X.env.locals==rawInt X.env.locals)=true from by simp)];exact ap (h s I fl)
theorem FD{M:Model}{A:Around}{Q:Unit->Shared->Prop}{E:Zc}{L:Addr}(r:Option Addr)(I:Inv X J5 σ H s)(y:pU X J5 n)(J:CG n s.heap H a C od L)
  (h:∀l m t u v,Inv X J5 σ H l->l.heap.get? a=some { cls:=.ref C,dict:=od,data:=.fields m }->m[1]?=some (.ref t)->n<=t->t≠a->l.heap.get? t=some u->u.data=.fields v->v[3]?=some (r.elim Value.none fun f=>rawInt f)->H t=none->Q () l) :
  wpAny M A (tu (.ref a) r) Q E s:=by
 obtain⟨m,t,u,v,e,z,j,k,B,i,D,G⟩:=J.tr;unfold tu;refine ak (ca e rfl z ?_);rw[if_pos (show(Value.ref t != Value.none)=true from by simp)];refine ni B i (ic.mp D).1 ?_;have kp:∀b o,b≠t->s.heap.get? b=some o->(s.heap.update t (iS (·.setIfInBounds 3 (r.elim Value.none fun f=>rawInt f)))).get? b=some o:=fun b o N g=>by
  rw[gH _ _ (dJ N)];exact g
 have w:=(ic.mp D).1;exact h _ m t _ _ (I.turned (t':=s.toks) (it:=t) kp G (fun q=>absurd j (js (q▸y.loc))) (.inr (bo y.s0 j)) (fun x c g q=>absurd j (js (q▸y.cell x c g))) (fun p O q=>absurd j (js (q▸y.pin p O))))
  (kp a _ (dJ k) e) z j k (jt _ B (tM (lh i _))) (lh i _) (by simp[w]) G
theorem CW{M:Model}{Q:Unit->Shared->Prop}{E:Zc}(I:Inv X J5 σ H s)(y:pU X J5 n)(st:X.stack=X.env::X.outer)(i:X.env.frame=some X.env.locals)(j:Fly X n s.heap H a C od)
  (h:∀e,Inv X J5 σ H e->lX n e.heap H a C od->Q () e):wpAny M X.A (qq (.ref a) X.env) (fun _ e=>wpAny M X.A (tu (.ref a) none) Q E e) E s:=by
 refine FC I y st i j fun G k f=>FD none k y f fun l m t o p q r g u v w x z B=>h l q ⟨f.trk,f.new,m,some t,r,(ic.mp g).1,.inr ⟨t,o,p,rfl,g,u,v,w,x,z⟩,fun J D=>by cases D;exact B⟩
def HU(X:Cx)(J5:Zd)(W:St->XK)(e:Value)(s':Shared):Prop:=∃n a C od σ' H',e=.ref a/\pU X J5 n/\Inv X J5 σ' H' s'/\Fly X n s'.heap H' a C od/\W σ' (.ref C) (some a) H'
theorem XS.two{W:St->XK}{e:Value}{f:Shared}(h:XS X J5 W e f):HU X J5 W e f:=let⟨n,a,C,od,σ',g,i,y,I,j,q⟩:=h;⟨n,a,C,od,σ',g,i,y,I,.inl j,q⟩
theorem nH{W:St->XK}{M:Model}(st:X.stack=X.env::X.outer)(g:X.env.frame=some X.env.locals):vF M X.A X.env (HU X J5 W):=by
 rintro e L ⟨n,a,C,od,σ',k,rfl,y,I,l,q⟩;refine FC I y st g l fun N m f=>?_;obtain⟨h,t,i,j,o,p,O,r,Q,u,T,U⟩:=id f.tr;refine ak (ca o rfl p ?_);rw[if_neg (show ¬((Value.ref t==Value.none)=true)from by simp)];rw[g];exact FD (some X.env.locals) m y f fun Y h t i j v w x z B D E G J=>⟨n,a,C,od,σ',k,rfl,y,v,.inr ⟨f.trk,f.new,h,t,i,j,w,x,z,B,D,E,G,J⟩,q⟩
end
def PY(X:Cx)(b:List Stmt)(t:(St->XK)->TS):Prop:=∀(J5:Zd) (s:Shared) (σ:St) (H:Hp) (D:gC) (W:St->XK),Inv X J5 σ H s->t W D σ H->wpAny (model X.prog X.w) X.A (execs b X.env) (SP X J5 D) (HU X J5 W) s
def KW(X:Cx)(b:Stmt)(t:(St->XK)->TS):Prop:=∀(J5:Zd) (s:Shared) (σ:St) (H:Hp) (D:gC) (W:St->XK),Inv X J5 σ H s->t W D σ H->wpAny (model X.prog X.w) X.A (exec b X.env) (SP X J5 D) (HU X J5 W) s
section
variable{X:Cx}{J5:Zd}{σ:St}{H:Hp}{s:Shared}{t u:(St->XK)->TS}{b:Stmt}{bs:List Stmt}{pos:Pos}
theorem vV(h:KY X b t):KW X b t:=fun J5 s σ H D W I q=>cM (h J5 s σ H D W I q) (fun _ _ z=>z) fun _ _ z=>z.two
theorem eW(h:KW X b t):PY X [b] t:=by
 intro J5 s σ H D W I q;refine CO (cM (h J5 s σ H D W I q) (fun f a q=>?_) fun _ _ y=>y);cases f with
 |next=>exact mU q
 |ret v=>exact q
 |brk=>exact q
 |cont=>exact q
theorem fC(h:KW X b t)(a:PY X bs u):PY X (b::bs) (jH t u):=by
 intro J5 s σ H D W I q;refine CO (cM (h J5 s σ H _ W I q) (fun f e q=>?_) fun _ _ y=>y);cases f with
 |next=>obtain⟨σ1,g,i,j⟩:=q;exact a J5 e σ1 g D W i j
 |ret v=>exact q
 |brk=>exact q
 |cont=>exact q
theorem Gx:PY X [] (lF ba):=fun _ _ σ H _ _ I h=>mU ⟨σ,H,I,h⟩
theorem vU{c:Expr}{a b:List Stmt}{f:TT}{g i:(St->XK)->TS}(n:PT X.nox c f)(o:PY X a g)(p:PY X b i):KW X (.If c a b pos) (Bx f g i):=by
 intro J5 s σ H D W I h;refine wpAny_If (cM (n J5 s σ H _ (I.wish _) h) (fun d j e=>?_) fun _ _ z=>de z);obtain⟨k,l,m⟩:=e;cases d with
 |true=>exact o J5 j σ k D W l.unwish m
 |false=>exact p J5 j σ k D W l.unwish m
def Jv(te:XK->TE):(St->XK)->TS:=fun W D σ H=>te (W σ) σ H fun v H1=>D.rt v H1
def Jw(wi:TI)(g:TG)(tb:(St->XK)->TS):(St->XK)->TS:=fun W=>fe wi g (tb W)
def C4(tc:TT)(tb:(St->XK)->TS):(St->XK)->TS:=fun W=>Bt tc (tb W)
theorem HU.unpinned{g:Zd}{W:St->XK}{e:Value}{f:Shared}(h:HU X (J5++g) W e f):HU X J5 W e f:=by
 obtain⟨n,a,C,i,σ',j,k,y,I,l,q⟩:=h;exact⟨n,a,C,i,σ',j,k,⟨y.s0,y.loc,y.cell,fun p m=>y.pin p (by rcases cG.mp m with z|z;exact gD _ z;exact dE _ (gD _ z))⟩,I.unpinned,l,q⟩
theorem Gw{c:Expr}{a:List Stmt}{r:TT}{x:(St->XK)->TS}(M:PT X.nox c r)(O:PY X a x)(st:X.stack=X.env::X.outer:=by rfl)(Q:X.env.frame=some X.env.locals:=by rfl):KW X (.While c a [] pos) (C4 r x):=by
 intro J5 s σ H D E I h;obtain⟨W,⟨T,U⟩,turn⟩:=h;have y:vF (model X.prog X.w) X.A X.env (HU X J5 E):=nH st Q;refine wpAny_While (codeAny_whileLoop (fun n Y=>∃σ' B,Inv X J5 σ' B Y/\W n σ' B) ?_ T ⟨σ,H,I,U⟩);rintro n s1 ⟨σ1,C,I1,w1⟩;refine fZ y (cM (M J5 s1 σ1 C _ (I1.wish _) (turn n σ1 C w1)) (fun b s2 j=>?_) fun _ _ z=>de z);obtain⟨G,k,g⟩:=j;have J:=k.unwish;cases b with
 |true =>
  obtain⟨N,L,g⟩:=g;rw[if_pos rfl];refine fZ y (cM (O J5 s2 σ1 G _ E J g) (fun f s3 i=>?_) fun _ _ z=>z);cases f with
  |next =>
   obtain⟨σ3,e,l,m⟩:=i;obtain⟨o,p,q⟩:=L σ3 e m;exact⟨o,p,σ3,e,l,q⟩
  |cont =>
   obtain⟨σ3,e,l,m⟩:=i;obtain⟨o,p,q⟩:=L σ3 e m;exact⟨o,p,σ3,e,l,q⟩
  |brk=>exact i
  |ret v=>exact i
 |false =>
  rw[if_neg iO];exact mU ⟨σ1,G,J,g⟩
theorem Ko{tg j:Expr}{B:List Stmt}{wi:TI}{g:TG}{tb:(St->XK)->TS}(hc:X.calm=true)(hi:PI X.nox tg j wi)(hg:PG X.nox tg g)(k:PY X B tb)
  (hs:∀x,rD j X.env x=pure x:=by intro _;rfl) (st:X.stack=X.env::X.outer:=by rfl) (sf:X.env.frame=some X.env.locals:=by rfl):KW X (.For tg j B [] pos) (Jw wi g tb):=by
 intro J5 s σ H D E I h;have M:vF (model X.prog X.w) X.A X.env (HU X J5 E):=nH st sf;refine wpAny_For (cM (hi J5 s σ H _ (I.wish _) h) (fun v s1 h1=>cM h1 (fun aT s2 h2=>?_) fun _ _ z=>de z) fun _ _ z=>de z) hs;obtain⟨it,L,tn,J,H2,e,ab,T,al,an,W,⟨m0,w0⟩,turn⟩:=h2;subst e;have I2:=ab.unwish;have f2:∀b∈L,kP X J5 H2 b:=an;have l:∀{y:Hp},(∀b∈L,y b=none)->∀b∈L,kP X J5 y b:=fun hn b k=>⟨hn b k,(f2 b k).2⟩;refine codeAny_forLoop_any (fun n s'=>∃i σ' y,Inv X J5 σ' y s'/\tn i s'.heap/\(∀b∈L,y b=none)/\W i n σ' y) ?_ m0 ⟨0,σ,H2,I2,al,fun b k=>(f2 b k).1,w0⟩;rintro n s3 ⟨i,σ3,Y,I3,O,Q,w3⟩;rcases turn i n σ3 Y w3 with⟨stop,qn⟩|⟨go,N,hN,step⟩
 ·refine fZ M (cM (T.done X rfl rfl rfl hc i J5 s3 σ3 Y _ I3 (l Q) O stop) (fun r s4 a=>?_) fun _ _ z=>z);obtain⟨hr,I4⟩:=a;subst hr;exact mU ⟨σ3,Y,I4,qn⟩
 ·refine fZ M (cM (T.item X rfl rfl rfl hc i J5 s3 σ3 Y _ I3 (l Q) O go) (fun r s4 a=>?_) fun _ _ z=>z);obtain⟨u,hr,h4⟩:=a;subst hr;refine fZ M (cM h4 (fun _ s5 a=>?_) fun _ _ z=>z);obtain⟨x,H5,I5,r5,y5,G,as⟩:=a;have aC:=I5.pinned (l as) (T.obj _ _ G);refine fZ M (cM (hg _ s5 σ3 H5 x u _ (aC.wish _) r5 (step x H5 y5)) (fun _ s6 a=>?_) fun _ _ z=>de z);obtain⟨σ6,H6,I6,q6⟩:=a;refine fZ M (cM (k _ s6 σ6 H6 _ E I6.unwish q6) (fun f s7 C=>?_) fun _ _ z=>z.unpinned);have again:∀{σ7:St}{p:Hp},Inv X (J5++nU L s5.heap) σ7 p s7->N σ7 p->∃m,m<n/\∃i σ' y,Inv X J5 σ' y s7/\tn i s7.heap/\(∀b∈L,y b=none)/\W i m σ' y:=fun{σ7 p} q U=>by
   obtain⟨m',hm,w7⟩:=hN σ7 p U;refine⟨m',hm,i+1,σ7,p,q.unpinned,T.keep _ _ _ G fun b k o e=>(q.pin (b,o) (dE _ (dE _ (eZ k e)))).1,fun b k=>?_,w7⟩;obtain⟨o,e,d⟩:=T.obj _ _ G b k;exact(q.pin (b,o) (dE _ (dE _ (eZ k e)))).2.1
  cases f with
  |next=>obtain⟨σ7,p,q,U⟩:=C;exact again q U
  |cont=>obtain⟨σ7,p,q,U⟩:=C;exact again q U
  |brk=>obtain⟨σ7,p,q,C⟩:=C;exact⟨σ7,p,q.unpinned,C⟩
  |ret v=>obtain⟨x7,σ7,p,q,r7,C⟩:=C;exact⟨x7,σ7,p,q.unpinned,r7,C⟩
theorem IK{g:List Stmt}{k:wX}{l:List wX}{m:(St->XK)->TS}{i:gC->St->XK}(o:PY X g m)(p:PH X (k::l) i)(st:X.stack=X.env::X.outer:=by rfl)(r:X.env.frame=some X.env.locals:=by rfl):
  PS X (.Try g (k::l) [] [] pos) (Lc m i):=by
 intro J5 s σ H D I h;refine wpAny_Try_except (cM (o J5 s σ H D (i D) I h) (fun f w q=>?_) fun e w ⟨n,a,C,x,σ',z,A,y,B,E,q⟩=>?_)
 ·cases f with
  |next=>exact mU q
  |ret v=>exact q
  |brk=>exact q
  |cont=>exact q
 ·subst A;exact CW B y st r E fun G J j=>p J5 _ G σ' z D a C x J y j q
end
theorem nS{P:bu}{w:World}{K:Za}{l:Str->Option Value}{base:Heap}{N:Zb}{i:Str}{scope:Scope}{f:Addr}{cd:Value}{A:Around}{outer:List Env}{m:Shared}{o:Hp}{E:XK}{b:List Stmt}{t:(St->XK)->TS}
  (h:PY (vq (Js P w K) P w K l base N i scope f cd A outer m o E) b t):zc (vq (Js P w K) P w K l base N i scope f cd A outer m o E) b (t fun _=>E):=by
 intro p s σ H D I q;refine cM (h p s σ H D (fun _=>E) I q) (fun _ _ z=>z) fun e J k=>?_;obtain⟨n,a,C,r,σ',u,v,y,x,B,q⟩:=k;subst v;show wpAny _ _ _ _ _ _;unfold leaving;exact ak (CW x y rfl rfl B fun G g j=>⟨a,C,r,u,rfl,g.os,g.bare,g.base,g.hok,j.mono y.s0,q⟩)
section
variable{X:Cx}{k:Nat}{ps:Zb}{sp:Sp}{x m:Str}{C:Addr}{p pos J7:Pos}{o e:Expr}{es:List Expr}{t:TA}{ta:TE}
theorem Kp{a:XK->TE}(f:KZ X e a):KY X (.Return (some e) pos) (Jv a):=by
 intro g s σ H D W I h;exact wpAny_Return_some (cM (f g s σ H _ (W σ) I h) (fun v q ⟨x,i,j,l,n⟩=>⟨x,σ,i,j,l,n⟩) fun _ _ z=>z.xs)
end
def Jt:Expr->List Str
 |.Name x _=>[x]
 |.Tuple es _ _=>es.filterMap fun e=>match e with | .Name x _=>some x|_=>none
 |_=>[]
theorem bK{X:Cx}{b:List Stmt}{t:TS}{D:gC}{σ:St}{H:Hp}(r:t D σ H)(p:zc X b t):∃t,zc X b t/\t D σ H:=⟨t,p,r⟩
section
variable{X:Cx}{k k0:Nat}{ps:Zb}{sp:Sp}{x m:Str}{C:Addr}{p pos J7:Pos}{o e a b:Expr}{es:List Expr}{t:TA}{ta tb te:TE}
theorem qf(h:dU k0 X.A)(D:eR X.prog X.w X.K X.mg X.base x ps k sp)(i:PA X (e::es) t)(j:k<=k0:=by decide)(l:Gl X x:=by rfl)(f:(x==("__debug__":Str))=false:=by decide)
  (n:aA (e::es) X.env=(false,eval e X.env)::aA es X.env:=by rfl) (g:(backTo pos (aA es X.env)).any (·.1)=false:=by rfl) :
  PE X (.Call (.Name x p) (e::es) [] pos) (aw sp t):=rM D (h.mono j) l i f n g
theorem qm{pl:Sem Bool}(j:dU k0 X.A)(M:HV X.prog X.w X.K X.mg X.base C m ps k sp)(l:PE X o ta)(n:PA X (e::es) t)(q:k<=k0:=by decide)
  (g:aA (e::es) X.env=(false,eval e X.env)::aA es X.env:=by rfl) (h:(backTo pos (aA es X.env)).any (·.1)=false:=by rfl)
  (r:eval (.Call (.Attribute o m J7) (e::es) [] pos) X.env=(do
   let i <- eval o X.env
   oM J7.atName
   let(f,first) <- jf [i] (oJ i m pl)
   nF pos f first (backTo pos (aA (e::es) X.env)) (j6 pos (j5 [] X.env))):=by rfl) :
  PE X (.Call (.Attribute o m J7) (e::es) [] pos) (iy C m sp [] E0 ta t):=Kw (pl:=pl) M (j.mono q) l n g h r
theorem JI{pl:Sem Bool}(h:dU k0 X.A)(M:HV X.prog X.w X.K X.mg X.base C m ps k sp)(i:PE X o ta)(j:k<=k0:=by decide)
  (l:eval (.Call (.Attribute o m J7) [] [] pos) X.env=(do
   let g <- eval o X.env
   oM J7.atName
   let(f,first) <- jf [g] (oJ g m pl)
   nF pos f first (backTo pos (aA [] X.env)) (j6 pos (j5 [] X.env))):=by rfl) :
  PE X (.Call (.Attribute o m J7) [] [] pos) (iy C m sp [] E0 ta aU):=IP (pl:=pl) M (h.mono j) i l
theorem xl(f:PE X a ta)(g:PE X b tb)(h:Fn b:=by exact fun _ _=>rfl):PE X (.Subscript a b pos) (aq (bF X.K) ta tb):=Di Dv f g h
theorem xt(f:PE X a ta)(g:PE X b tb)(h:Fn b:=by exact fun _ _=>rfl):PE X (.Subscript a b pos) (aq (bg X.K) ta tb):=Di Hb f g h
theorem xq(f:PE X a ta)(g:PE X b tb)(h:Fn b:=by exact fun _ _=>rfl):PE X (.Subscript a b pos) (aq (EK X.K) ta tb):=Di KF f g h
theorem xs'(f:PE X a ta)(g:PE X b tb)(h:Fn b:=by exact fun _ _=>rfl):PE X (.Subscript a b pos) (aq Gu ta tb):=Di Hc f g h
theorem h9{f:CmpOp}{r:R2}(g:kN X (eJ f) r)(h:PE X a ta)(i:PE X b tb)(j:kY f b=false:=by exact GR _):PT X (.Compare a [f] [b] pos) (aV (aq r ta tb)):=Df g h i j
theorem yX{f:CmpOp}{r:R2}(g:kN X (eJ f) r)(h:PE X a ta)(i:PE X b tb)(j:kY f b=false:=by exact GR _):PE X (.Compare a [f] [b] pos) (aq r ta tb):=Dj g h i j
theorem tci{f:CmpOp}{r:R2}(g:kN X (eJ f) r)(h:PE X a ta)(i:PE X b tb)(j:kY f b=false:=by with_unfolding_all rfl):PT X (.Compare a [f] [b] pos) (aV (aq r ta tb)):=Df g h i j
theorem eci{f:CmpOp}{r:R2}(g:kN X (eJ f) r)(h:PE X a ta)(i:PE X b tb)(j:kY f b=false:=by with_unfolding_all rfl):PE X (.Compare a [f] [b] pos) (aq r ta tb):=Dj g h i j
theorem qB{id:String}{r:List V->Hp->VK->Prop}(h:eQ X (.builtin id) r)(i:X.mg x=none)(j:ix x=some (.builtin id))(l:PA X (e::es) t)(n:Gl X x:=by rfl)(q:x≠"__name__":=by decide)(f:(x==("__debug__":Str))=false:=by decide)
  (s:aA (e::es) X.env=(false,eval e X.env)::aA es X.env:=by rfl) (g:(backTo pos (aA es X.env)).any (·.1)=false:=by rfl):PE X (.Call (.Name x p) (e::es) [] pos) (cS r t):=Au h n i j l q f s g
theorem qL(g:X.calm=true)(h:X.mg "list"=none)(i:PA X (e::es) t)(j:Gl X "list":=by rfl)
  (l:aA (e::es) X.env=(false,eval e X.env)::aA es X.env:=by rfl) (f:(backTo pos (aA es X.env)).any (·.1)=false:=by rfl):PE X (.Call (.Name "list" p) (e::es) [] pos) (cS (eF X.K) t):=ml (Cu g) j h uO i (by decide) (by decide) l f
theorem ql(g:X.mg "len"=none)(h:PA X (e::es) t)(i:Gl X "len":=by rfl)
  (j:aA (e::es) X.env=(false,eval e X.env)::aA es X.env:=by rfl) (f:(backTo pos (aA es X.env)).any (·.1)=false:=by rfl):PE X (.Call (.Name "len" p) (e::es) [] pos) (cS (cK X.K) t):=Au Fk i g PySem.boot_len h (by decide) (by decide) j f
theorem qs(i:Nat){f:Pos}(g:X.N.Nodup)(h:PE X e te)(hi:X.N[i]?=some x:=by rfl)(hx:Loc X.env.scope x:=by first|exact Or.inl rfl|exact Or.inr rfl)(j:mT e (some (.Name x f)) pos.line X.env=pure false:=by rfl)(hf:X.fn x=true∨X.env.scope.names.lookup x=some .local:=by first|exact .inl rfl|exact .inr rfl|assumption):
  PS X (.Assign [.Name x f] e pos) (aO te (ei i)):=Kq g hi hx h j hf
theorem gn(i:Nat)(f:X.N.Nodup)(hi:X.N[i]?=some x:=by rfl)(hx:Loc X.env.scope x:=by first|exact Or.inl rfl|exact Or.inr rfl)(hf:X.fn x=true∨X.env.scope.names.lookup x=some .local:=by first|exact .inl rfl|exact .inr rfl|assumption):PG X (.Name x pos) (ei i):=pD f hi hx hf
theorem gc(i:Nat)(f:X.N.Nodup:=by exact of_decide_eq_true (by with_unfolding_all rfl))(hi:X.N[i]?=some x:=by rfl)(hx:Loc X.env.scope x:=by exact Or.inl rfl)(hf:X.fn x=true∨X.env.scope.names.lookup x=some .local:=by first|exact .inl rfl|exact .inr rfl|assumption):PG X (.Name x pos) (ei i):=pD f hi hx hf
theorem a1(f:PE X a ta)(g:aA [a] X.env=(false,eval a X.env)::aA [] X.env:=by rfl):PA X [a] (aj ta aU):=a_ f cE g
theorem a2(g:PE X a ta)(h:PE X b tb)(i:aA [a,b] X.env=(false,eval a X.env)::aA [b] X.env:=by rfl)(f:aA [b] X.env=(false,eval b X.env)::aA [] X.env:=by rfl):PA X [a,b] (aj ta (aj tb aU)):=a_ g (a_ h cE f) i
theorem a3{c:Expr}{h:TE}(i:PE X a ta)(j:PE X b tb)(l:PE X c h)(n:aA [a,b,c] X.env=(false,eval a X.env)::aA [b,c] X.env:=by rfl)(f:aA [b,c] X.env=(false,eval b X.env)::aA [c] X.env:=by rfl)(g:aA [c] X.env=(false,eval c X.env)::aA [] X.env:=by rfl):PA X [a,b,c] (aj ta (aj tb (aj h aU))):=a_ i (a2 j l f g) n
variable{elt iter tg:Expr}{ifs:List Expr}{scope:Scope}{fi:List Nat}{wi:TI}{g:TG}{tc:TT}
theorem qc(hi:PI X tg iter wi)(q:zf k g)
  (h:∀C l f j ex n,PG (dq X (Jt tg++fi.map fun i=>X.N.getD i "") scope C l f j ex n) tg g/\Jm (dq X (Jt tg++fi.map fun i=>X.N.getD i "") scope C l f j ex n) ifs tc/\PE (dq X (Jt tg++fi.map fun i=>X.N.getD i "") scope C l f j ex n) elt te)
  (r:kM X.env.scope scope k (Jt tg++fi.map fun i=>X.N.getD i "") X.N fi=true:=by with_unfolding_all rfl) (s:X.calm=true:=by rfl)
  (u:∀x,rD iter X.env x=pure x:=by intro _;rfl):PE X (.ListComp elt [⟨tg,iter,ifs,0⟩] scope pos) (cD k fi wi g tc te) :=
 IS r s hi (fun _ _ _ _ _ _=>(h _ _ _ _ _ _).1) q (fun _ _ _ _ _ _=>(h _ _ _ _ _ _).2.1) (fun _ _ _ _ _ _=>(h _ _ _ _ _ _).2.2) u
theorem LZ(j:Nat){y:Str}{n u:Pos}(v:X.N.Nodup)(hi:PI X tg iter wi)(w:zf k g)
  (h:∀C q f l ex r,PG (dq X (Jt tg++fi.map fun i=>X.N.getD i "") scope C q f l ex r) tg g/\Jm (dq X (Jt tg++fi.map fun i=>X.N.getD i "") scope C q f l ex r) ifs tc/\PE (dq X (Jt tg++fi.map fun i=>X.N.getD i "") scope C q f l ex r) elt te)
  (z:X.N[j]?=some y:=by rfl) (A:Loc X.env.scope y:=by first|exact Or.inl rfl|exact Or.inr rfl)
  (B:kM X.env.scope scope k (Jt tg++fi.map fun i=>X.N.getD i "") X.N fi=true:=by with_unfolding_all rfl) (D:X.calm=true:=by rfl)
  (s:mT (.ListComp elt [⟨tg,iter,ifs,0⟩] scope pos) (some (.Name y u)) n.line X.env=pure true:=by rfl)
  (E:∀x,rD iter X.env x=pure x:=by intro _;rfl) (hf:X.fn y=true∨X.env.scope.names.lookup y=some .local:=by first|exact .inl rfl|exact .inr rfl|assumption) :
  PS X (.Assign [.Name y u] (.ListComp elt [⟨tg,iter,ifs,0⟩] scope pos) n) (aO (cD k fi wi g tc te) (ei j)) :=
 B1 v z A B D hi (fun _ _ _ _ _ _=>(h _ _ _ _ _ _).1) w (fun _ _ _ _ _ _=>(h _ _ _ _ _ _).2.1) (fun _ _ _ _ _ _=>(h _ _ _ _ _ _).2.2) s E hf
end
def An(K:Za):List V->Hp->VK->Prop:=fun xs H Q=>∃(a C t:Addr) (od:Option Addr) (Ds:Ze) (b:Bool),xs=[.ref a,.ref t]/\H t=some (.tup (Ds.map V.ref))/\H a=some (.ext (ip a C od)) /\
 (od=none∨∃d fs,od=some d/\H d=some (.ext (jl d fs)))/\LQ K C/\qh K (.ref C) (Ds.map Value.ref)=some b/\Q (.bl b) H
theorem vK:∀{a:Ze}{e:Zf},bj (a.map V.ref) e->e=a.map Value.ref
 |[],_,h=>by cases h;rfl
 |d::i,_,h=>by
  cases h with
  |cons f g =>
   have:=vK g;rw[this];cases(show _=Value.ref d from f)
   rfl
theorem wC{X:Cx}:eQ X (.builtin "isinstance") (An X.K):=by
 intro G s σ H xs J Q I r h;obtain⟨a,C,t,L,M,b,rfl,m,p,u,k,e,q⟩:=h;obtain⟨N,O,rfl,v,x⟩:=vals2 r;cases v;cases x;obtain⟨T,g,_⟩:=I.exc p;have inst:∃y f,PySem.W.InstAt s.heap a y C f:=by
  rcases u with rfl|⟨d,fs,rfl,i⟩
  ·exact⟨_,_,xN g⟩
  ·obtain⟨_,⟨o,j⟩,_⟩:=(show cF X.prog X.w X.K H s.heap d (.ext (jl d fs))from I.hok d _ i);exact⟨_,_,xO g j⟩
 obtain⟨A,B,⟨o,j,D,n,l⟩,_⟩:=I.tuple (bE.of m);rw[vK B]at l;obtain⟨U,E,dt,Y⟩:=o;cases D;cases l;exact PySem.W.kia_tup (Az k) I.kIn inst j e (fun z=>nomatch z) fun tk=>⟨.bl b,H,I.tok _,rfl,q⟩
theorem v9{K:Za}{t:Value}:∀{a:Zf},(∀c∈a,mS K t c=some false)->qh K t a=some false
 |[],_=>rfl
 |c::r,h=>by
  unfold qh;rw[h c fh];exact v9 fun d e=>h d (eK _ e)
end L2
end

section
set_option Elab.async false
set_option linter.all false
set_option maxRecDepth 100000
namespace L2
open PySem PySem.Spec PyProof.Rows
end L2
end

section
set_option Elab.async false
set_option linter.all false
set_option maxRecDepth 100000
namespace L2
open PySem PySem.Spec PyProof.Rows
end L2
end

section
set_option Elab.async false
set_option linter.all false
set_option maxRecDepth 100000
namespace HT
open PySem PySem.Spec PyProof.Rows
section
variable{prog:bu}{w:World}{A:Around}{E:Zc}{s:Shared}
theorem applied_rev{g:Addr}{u:Tok}{n:Nat}{Q:Int×Int×Nat->Shared->Prop}(i:s.heap.IsSliceOf g .none .none (.int (-1) u))(h:Q ((n:Int)-1,-1,n) s):
  wpAny (model prog w) A (xD (.ref g) (pure (n:Int))) Q E s:=by
 obtain⟨os,e,_,f⟩:=id i;unfold xD b_.Slice.sliceFields;refine ak <| ak <| ca e f (x:=.none) rfl <| ak <| ca e f (x:=.none) rfl <| ak <| ca e f (x:=.int (-1) u) rfl <| ap ?_;refine ak <| slicePart_int ?_;show wpAny _ _ (if((-1:Int)==0)=true then _ else _) _ _ s
 rw[if_neg (by decide)];refine ak <| xE <| ak <| xE <| ak <| ap ?_;have j:qx none none (-1) (n:Int)=((n:Int)-1,-1):=by
  unfold qx;simp
 have k:lu ((n:Int)-1) (-1) (-1)=n:=by
  unfold lu;simp;omega
 show wpAny _ _ (match qx none none (-1) (n:Int)with|(a,b)=>pure (a,(-1:Int),lu a b (-1))) _ _ s
 rw[j];show wpAny _ _ (pure ((n:Int)-1,(-1:Int),lu ((n:Int)-1) (-1) (-1))) _ _ s;rw[k];exact ap h
theorem fm_congr{f g:Nat->Option Value}:∀{l:List Nat},(∀m∈l,f m=g m)->l.filterMap f=l.filterMap g
 |[],_=>rfl
 |a::l,h=>by rw[oO,oO,h a fh,fm_congr fun m e=>h m (eK _ e)]
theorem pick_rev(xs:Zf):((iQ xs.length).filterMap fun(m:Nat)=>xs.toArray[((xs.length:Int)-1+(m:Int) * (-1)).toNat]?).toArray=xs.reverse.toArray:=by
 congr 1;apply List.ext_getElem?;intro i;have e:((iQ xs.length).filterMap fun(m:Nat)=>xs.toArray[((xs.length:Int)-1+(m:Int) * (-1)).toNat]?)=(iQ xs.length).filterMap fun m=>xs.reverse[m]?:=by
  refine fm_congr fun m f=>?_;have lt:=List.mem_range.1 f;have g:((xs.length:Int)-1+(m:Int) * (-1)).toNat=xs.length-1-m:=by omega
  rw[g,List.getElem?_reverse lt,List.getElem?_toArray]
 rw[e];have:∀a:List Value,(iQ a.length).filterMap (fun m=>a[m]?)=a:=by
  intro a
  induction a with
  |nil=>rfl
  |cons y a j =>
   rw[dD,List.range_succ_eq_map,oO,List.filterMap_map];simp only[List.getElem?_cons_zero];congr 1
 have h:=this xs.reverse;rw[jY]at h;rw[h]
theorem getItem_tuple_rev{t e:Addr}{xs:Zf}{u:Tok}{Q:Zc}(a:IsTup s.heap t xs.toArray)(f:s.heap.IsSliceOf e .none .none (.int (-1) u))
  (h:Q (.ref s.heap.objs.size) { s with heap:=s.heap.push { cls:=.type "tuple",data:=.seq xs.reverse.toArray } }) (g:xs.length<=ai):wpAny (model prog w) A (gK (.ref t) (.ref e)) Q E s:=by
 have ok:sizeOk (.seq xs.reverse.toArray):=by
  show xs.reverse.toArray.size<=ai;rw[bD,jY];exact g
 obtain⟨os,i,j,n⟩:=id f;have ty:s.TypeIs (.ref e) "slice":=⟨os,i,j⟩;unfold gK
 try with_reducible refine gE ?_
 first|refine ak (ap ?_)|skip
 refine ak <| wpAny_sequenceKey a.typeIs (by decide) <| ?_;refine ak <| nC (name:=nB "__getitem__") a.typeIs j3 <| wL j3 a.typeIs entry_tuple_getitem ?_ (args_tuple_getitem _ _);show wpAny _ _ (CV (.ref t) >>= _) _ _ s;refine ak <| tupleItemsOf_ a <| ak <| nu ty <| ?_;rw[if_pos (by decide)];have k:xs.toArray.size=xs.length:=bD ..;rw[k];refine ak <| applied_rev f ?_;have l:¬((((xs.length:Int)-1)==0 && (-1:Int)==1 && xs.length==xs.length)=true):=by simp
 show wpAny _ _ (if(((xs.length:Int)-1)==0 && (-1:Int)==1 && xs.length==xs.length)=true then _ else _) _ _ s
 rw[if_neg l,pick_rev]
 first
  |exact ak (m:=lr _) <| gJ (ap ⟨_,rfl,ap h⟩) ok
  |exact ak (m:=lr _) <| gJ (ak (ap (ap ⟨_,rfl,ap h⟩))) ok
  |exact ak <| ak (m:=lr _) <| gJ (ap (ap ⟨_,rfl,ap h⟩)) ok
  |exact ak <| ak (m:=lr _) <| gJ (ap ⟨_,rfl,ap h⟩) ok
end
end HT
namespace L2
open PySem PySem.Spec PyProof.Rows
def FU(K:Za)(te:TE):TE:=fun σ H Q=>te σ H fun x H1=>∃a xs,x=.ref a/\bE K H1 a xs/\∀p,H1 p=none->Q (.ref p) (upd H1 p (.tup xs.reverse))
theorem IN{X:Cx}{e st:Expr}{n:TE}{p k:Pos}(C:PE X e n)(l:PE X st (Ju (rU fun i=>.int (-i)) (tC (.int 1)))):PE X (.Subscript e (.Slice none none (some st) p) k) (FU X.K n):=by
 intro j s σ H Q I h;refine xC (cR (C j s σ H _ I h) fun v D g=>?_);obtain⟨x,t,E,G,a,xs,J,hx,q⟩:=g;subst J;cases G;refine wpAny_Slice ?_;rw[evalPart_none];refine ap ?_;refine ap ?_;rw[evalPart_some];refine cR (l j D σ t (fun x L=>x=.int (-1)/\L=t) E ⟨_,rfl,rfl,rfl⟩) fun vu f g=>?_;obtain⟨y,M,N,O,T,U⟩:=g;subst T U;obtain⟨u,rfl⟩:=O;have m:Inv X j σ M { f with heap:=f.heap.push { cls:=.type "slice",data:=.fields #[.none,.none,.int (-1) u] } }:=N.kept (t':=f.toks) fun b Y q=>bc _ q;obtain⟨ab,r,z,B⟩:=m.tuple hx;show wpAny (model X.prog X.w) X.A (xB e (.Slice none none (some st) p) (.ref a) (.ref f.heap.objs.size)) (EP X j σ Q) X.xe { f with heap:=f.heap.push { cls:=.type "slice",data:=.fields #[.none,.none,.int (-1) u] } };refine tail_any (ops:=[.ref a,.ref f.heap.objs.size]) z.typeIs j3.lookup (HT.getItem_tuple_rev z (Heap.IsSliceOf.new ..) ?_ (by rw[<-r.length];exact B)) (by with_unfolding_all rfl);refine⟨.ref _,_,m.laid (t':=f.toks) (o:=.tup xs.reverse) (fun b Y q=>bc _ q) (ay _) ?_,rfl,q _ (m.hok.fresh (ay _))⟩;exact⟨by rw[jY];exact B,_,r.reverse,xA _ _⟩
end L2
namespace HT
open PySem PySem.Spec PyProof.Rows
section
variable{prog:bu}{w:World}{A:Around}{E:Zc}{s:Shared}
theorem getItem_tuple_all{t e:Addr}{items:Array Value}{f g:Value}{lo hi:Option Int}{Q:Zc}(a:IsTup s.heap t items)(i:s.heap.IsSliceOf e f g .none)(j:IsPart f lo)(k:IsPart g hi)
  (l:sIx items.size 0 lo=0) (m:sIx items.size items.size hi=items.size) (h:Q (.ref t) s):wpAny (model prog w) A (gK (.ref t) (.ref e)) Q E s:=by
 obtain⟨os,n,o,p⟩:=id i;have ty:s.TypeIs (.ref e) "slice":=⟨os,n,o⟩;unfold gK
 try with_reducible refine gE ?_
 first|refine ak (ap ?_)|skip
 refine ak <| wpAny_sequenceKey a.typeIs (by decide) <| ?_;refine ak <| nC (name:=nB "__getitem__") a.typeIs j3 <| wL j3 a.typeIs entry_tuple_getitem ?_ (args_tuple_getitem _ _);show wpAny _ _ (CV (.ref t) >>= _) _ _ s;refine ak <| tupleItemsOf_ a <| ak <| nu ty <| ?_;rw[if_pos (by decide)];refine ak <| sliceApplied_gen i j k ?_;rw[l,m];show wpAny _ _ (if(((0:Nat):Int)==0 && (1:Int)==1 && (items.size-0)==items.size)=true then _ else _) _ _ s
 rw[if_pos (by simp)];unfold b_.Tuple.tupleIsExact;refine ak <| ak <| nu a.typeIs <| ap ?_;rw[if_pos (by decide)];exact ak (oP (ap ⟨_,rfl,ap h⟩))
end
end HT
namespace L2
open PySem PySem.Spec PyProof.Rows
def Lh(K:Za):V->Option Int->Option Int->Hp->VK->Prop:=fun x lo hi H Q=>∃a xs,x=.ref a/\bE K H a xs/\HT.sIx xs.length 0 lo=0/\HT.sIx xs.length xs.length hi=xs.length/\Q (.ref a) H
theorem F_{X:Cx}:HI X (Lh X.K):=by
 intro o s σ H x v p t lo hi u Q I i j k l h;obtain⟨a,xs,rfl,hx,m,n,q⟩:=h;cases i;obtain⟨f,r,g,w⟩:=I.tuple hx;have e:f.toArray.size=xs.length:=by rw[bD];exact r.length.symm
 exact⟨"tuple",_,j3.lookup,g.typeIs,HT.getItem_tuple_all g j k l (by rw[e];exact m) (by rw[e];exact n) ⟨.ref a,H,I,rfl,q⟩⟩
abbrev mM(K:Za):V->Option Int->Option Int->Hp->VK->Prop:=fun x lo hi H Q=>Li K x lo hi H Q∨Lh K x lo hi H Q
theorem sL{X:Cx}:HI X (mM X.K):=HI.or Kh F_
end L2
end

section
set_option Elab.async false
set_option linter.all false
set_option maxRecDepth 100000
namespace L2
open PySem PySem.Spec PyProof.Rows
abbrev JA(K:Za):List V->Hp->VK->Prop:=fun xs H Q=>∃(p:Addr) (ns:List Int),xs=[.ref p]/\aF K H p (ns.map V.int)/\Q (.int ns.sum) H
section
variable{X:Cx}
theorem Fg(i:X.calm=true):eQ X (.builtin "sum") (JA X.K):=by
 intro w s σ H xs x Q I r h;obtain⟨p,j,rfl,k,q⟩:=h;obtain⟨u,rfl,l⟩:=vals1 r;cases l;obtain⟨m,n,o,y⟩:=I.list k;obtain⟨a,rfl,f⟩:=xQ n;have g:s.heap.IsList p (qg a.toArray):=by
  have:=o.isList;have e:qg a.toArray=(a.map fun p=>Value.int p.1 p.2).toArray:=by simp[qg]
  rw[e];exact this
 refine sum_intListG (I.ok.hd i) g fun z tk t v=>?_;rw[preSum_eq,jr (by simp)];exact⟨.int j.sum,H,I.kept v,⟨t,by rw[<-f]⟩,q⟩
end
def HP(K:Za)(a:Addr)(n:Nat):It :=
 ⟨fun i H=>i<n/\∃xs,aF K H a xs/\xs.length=n,fun i H x H'=>H'=H/\∀xs,aF K H a xs->xs[n-1-i]?=some x,fun i _=>n<=i⟩
def LB(K:Za)(ta:TA):TI:=fun σ H R=>ta σ H fun vs H1=>∃a xs,vs=[.ref a]/\aF K H1 a xs/\R (HP K a xs.length) H1
theorem Jd{K:Za}{a:Addr}{xs:List V}{g:TG}{j:TS}{D:gC}{σ:St}{H:Hp}(Pv:Nat->St->Hp->Prop)(l:Pv 0 σ H)(n:∀i σ H,i<=xs.length->Pv i σ H->aF K H a xs)
  (o:∀i x σ H,xs[xs.length-1-i]?=some x->i<xs.length->Pv i σ H->g x σ H fun σ2 h=>j { D with nx:=Pv (i+1),ct:=Pv (i+1),bk:=D.nx } σ2 h) (r:∀σ H,Pv xs.length σ H->D.nx σ H) :
  ∃W:Nat->Nat->St->Hp->Prop,(∃m,W 0 m σ H)/\∀i m σ H,W i m σ H ->
   ((HP K a xs.length).stop i H/\D.nx σ H)∨((HP K a xs.length).go i H/\∃N:St->Hp->Prop,(∀σ' f,N σ' f->∃k,k<m/\W (i+1) k σ' f)/\∀x f,(HP K a xs.length).yld i H x f->g x σ f fun σ2 h=>j { D with nx:=N,ct:=N,bk:=D.nx } σ2 h):=by
 refine⟨fun i m σ H=>m=xs.length-i/\i<=xs.length/\Pv i σ H,⟨xs.length,by simp,cp _,l⟩,?_⟩;rintro i m σ H ⟨rfl,hi,p⟩;have q:=n i σ H hi p;by_cases lt:i<xs.length
 ·refine .inr ⟨⟨lt,xs,q,rfl⟩,Pv (i+1),fun σ' f s=>⟨xs.length-(i+1),by omega,rfl,lt,s⟩,fun x f y=>?_⟩;obtain⟨rfl,y⟩:=y;exact o i x σ _ (y xs q) lt p
 ·have e:i=xs.length:=by omega
  subst e;exact .inl ⟨ay _,r σ H p⟩
theorem uN:ix "reversed"=some (.type "reversed"):=by decide +kernel
section
variable{X:Cx}
theorem FP{P:bu}{w:World}{K:Za}{O:Expr}(a it:Addr)(n:Nat):uP P w K O (HP K a n) [it] it (fun i h=>i<=n/\h.IsRevIter it a ((n:Int)-1-(i:Int))) where
 mem:=by simp
 obj:=fun i h st b g=>by
  have e:b=it:=by simpa using g
  subst e;obtain⟨_,o,e,c,d⟩:=st;exact⟨o,e,fun v z=>by rw[d]at z;cases z⟩
 keep:=fun i h l st k=>⟨st.1,st.2.at fun o e=>k it (by simp) o e⟩
 item:=by
  intro X q r t J i L s σ H E I hf st m;subst q r t;obtain⟨hi,xs,M,hx⟩:=m;obtain⟨Q,N,p,hz⟩:=I.list M;have hl:=N.length;obtain⟨x,ex⟩:∃x,xs[n-1-i]?=some x:=⟨_,bI (by omega)⟩;obtain⟨u,T,U⟩:=N.get ex;obtain⟨y,A,Y,B,C,D⟩:=hf it (by simp);have G:(n:Int)-1-(i:Int)=((n-1-i:Nat):Int):=by omega
  have f:=st.2;rw[G]at f;refine wpAny_pyNext_rev_item f p.isList (x:=u) (by simpa using T) fun l j sb=>?_;have I1:Inv X L σ H { s with heap:=l }:=I.turned (t':=s.toks) (fun b o g e=>(sb.2 b g).trans e) y A B C D;have e2:((n-1-i:Nat):Int)-1=(n:Int)-1-((i+1:Nat):Int):=by omega
  rw[e2]at j;obtain⟨o,e,c,d⟩:=id j;exact⟨u,rfl,ww (s:={ s with heap:=l }) e c d (by decide) ⟨x,H,I1,U,⟨rfl,fun ys hy=>by rw[I.list_inj hy M];exact ex⟩,⟨hi,j⟩,fun b g=>(hf b g).1⟩⟩
 done:=by
  intro X q r t J i L s σ H E I hf st m;subst q r t;obtain⟨y,A,Y,B,C,D⟩:=hf it (by simp);have m:n<=i:=m;have G:(n:Int)-1-(i:Int)=-1:=by have:=st.1;omega
  have f:=st.2;rw[G]at f;exact wpAny_pyNext_rev_end (I.ok.hd J) f fun l eb=>⟨rfl,I.turned (t':=s.toks) (fun b o g e=>eb b o g e) y A B C D⟩
 self:=fun _ _ _ _ _ st h=>wpAny_pyIter_revIter st.2 h
variable{tg l:Expr}{ta:TA}{p pos:Pos}
theorem Kt(r:Gl X "reversed")(t:X.mg "reversed"=none)(v:PA X [l] ta)(w:aA [l] X.env=[(false,eval l X.env)]:=by rfl):PI X tg (.Call (.Name "reversed" p) [l] [] pos) (LB X.K ta):=by
 intro m s σ H R I h;refine Call_ (nW I r t uN (zI (cR (v pos m s σ H _ I h) fun G s1 i=>?_) (by rw[w];rfl) (by rfl)));obtain⟨J,n,g,x,y⟩:=i;obtain⟨a,xs,e,z,q⟩:=y;subst e;obtain⟨u,rfl,A⟩:=vals1 x;cases A;obtain⟨j,B,C,L⟩:=g.list z;have D:=B.length;refine call_reversed_list C.isList ?_;have e:((j.toArray.size:Nat):Int)-1=(xs.length:Int)-1-((0:Nat):Int):=by rw[bD,D];omega
 rw[e];have f:(s1.heap.push (revObj a ((xs.length:Int)-1-((0:Nat):Int)))).IsRevIter s1.heap.objs.size a ((xs.length:Int)-1-((0:Nat):Int)):=⟨_,db _ rfl,rfl,rfl⟩;refine wpAny_pyIter_revIter (s:={ s1 with heap:=s1.heap.push (revObj a ((xs.length:Int)-1-((0:Nat):Int))) }) f ?_;have k:∀b∈[s1.heap.objs.size],kP X m n b:=fun b E=>by
  have e:b=s1.heap.objs.size:=by simpa using E
  subst e;exact g.fpOk (ay _) (g.hok.fresh (ay _))
 exact⟨s1.heap.objs.size,[s1.heap.objs.size],_,_,n,rfl,g.kept (t':=s1.toks) fun b o e=>bc _ e,FP a _ _,⟨cp _,f⟩,k,q⟩
end
end L2
namespace L2
open PySem PySem.Spec PyProof.Rows
end L2
end

section
set_option Elab.async false
set_option linter.all false
set_option maxRecDepth 100000
namespace L2
open PySem PySem.Spec PyProof.Rows
def Ap(K:Za):R2:=fun x y H Q=>∃a b xs ys,x=.ref a/\y=.ref b/\bE K H a xs/\bE K H b ys/\ys≠[]/\xs.length+ys.length<=ai /\
 (xs=[]->Q (.ref b) H)/\(xs≠[]->∀p,H p=none->Q (.ref p) (upd H p (.tup (xs++ys))))
section
variable{X:Cx}
theorem Dn:kN X (iP .Add) (Ap X.K):=by
 intro C s σ H x y v u Q I m o h;obtain⟨a,b,xs,D,rfl,rfl,p,q,E,G,J,L⟩:=h;by_cases hx:xs=[]
 ·cases m;cases o;obtain⟨j,M,N,_⟩:=I.tuple p;obtain⟨e,r2,O,_⟩:=I.tuple q;have T:j=[]:=M.nil_iff.mpr hx;subst T;obtain⟨⟨cls,U,r,Y⟩,t,w,n,A⟩:=id N;obtain⟨⟨B,k,data2,l⟩,f,g,n2,i⟩:=id O;simp only at w A g i;subst w A g i;exact xK ⟨_,t,rfl⟩ ⟨_,f,rfl⟩ xJ xI xH xG (xF _ _)
   (tuple_addW0 a b _ e.toArray n n2 U k Y l (by simp)) ⟨t,f,⟨.ref b,H,I,rfl,J hx⟩⟩
 ·exact Dm C s σ H _ _ v u Q I m o ⟨a,b,xs,D,rfl,rfl,p,q,hx,G,fun z=>absurd z E,fun _=>L hx⟩
end
section
variable{prog:bu}{w:World}{A:Around}{it l B:Addr}{zs:Array (Int×Tok)}{R:Result->Shared->Prop}{kw:List (Str×Value)}
theorem B6:(toString "min"++toString ".loop":String)="min.loop":=by decide
end
end L2
end

section
set_option Elab.async false
set_option linter.all false
set_option maxRecDepth 100000
namespace HT
open PySem PyProof.Rows
end HT
namespace L2
open PySem PySem.Spec PyProof.Rows
end L2
end

section
set_option Elab.async false
set_option linter.all false
set_option maxRecDepth 100000
namespace HT
open PySem PyProof.Rows
def WayAt(h:Heap)(ns:List Int)(v:Value):Prop:=∃a items c wits,v=.ref a/\h.IsTuple a items/\items[0]?=some (.ref c)/\h.IsTuple c wits/\gL wits.toList ns
inductive Ways(h:Heap):List (List Int)->List Value->Prop
 |nil:Ways h [] []
 |cons {ns nss v vs}:WayAt h ns v->Ways h nss vs->Ways h (ns::nss) (v::vs)
end HT
namespace L2
open PySem PySem.Spec PyProof.Rows
def K_(ns:List Int)(r:List DT):DT:=.t (.t (ns.map fun n=>DT.k (.inl n))::r)
end L2
end

section
set_option Elab.async false
set_option linter.all false
set_option maxRecDepth 100000
namespace HT
open PySem PyProof.Rows
section
variable{prog:bu}{w:World}{A:Around}{E:Zc}{s:Shared}
theorem eqS{x y:Str}{t u:Tok}{Q:Bool->Shared->Prop}(a:A.units+8<cLine)(h:Q (decide (x=y)) s):wpAny (model prog w) A (eqBool (.str x t) (.str y u)) Q E s:=by
 have q:=L2.dt_eq (s:=s) 8 (A:=A) (x:=.k (.inr x)) (y:=.k (.inr y)) (u:=.str x t) (v:=.str y u) (cp _) a (by show DY x (.str x t)=true;simp[DY]) (by show DY y (.str y u)=true;simp[DY]);refine q prog w _ _ ?_;have:decide (L2.DT.k (.inr x)=L2.DT.k (.inr y))=decide (x=y):=decide_eq_decide.2 ⟨fun z=>by injection z with z;injection z,fun z=>by rw[z]⟩;rw[this];exact h
end
end HT
end

section
set_option Elab.async false
set_option linter.all false
set_option maxRecDepth 100000
namespace L2
open PySem PySem.Spec PyProof.Rows
end L2
end

section
set_option Elab.async false
set_option linter.all false
set_option maxRecDepth 100000
namespace HT
open PySem PyProof.Rows
end HT
end

section
set_option Elab.async false
set_option linter.all false
set_option maxRecDepth 100000
namespace L2
open PySem PySem.Spec PyProof.Rows
section
variable{X:Cx}{J5:Zd}{σ:St}{H:Hp}{s:Shared}{pos:Pos}
def PIX(X:Cx)(tg iter:Expr)(wi:XK->TI):Prop :=
 ∀(J5:Zd) (s:Shared) (σ:St) (H:Hp) (R:It->Hp->Prop) (W:XK),Inv X J5 σ H s->wi W σ H R ->
  wpAny (model X.prog X.w) X.A (eval iter X.env) (fun v s1=>wpAny (model X.prog X.w) X.A (pyIter v) (PIE X J5 σ tg R) (XE X J5 σ W) s1) (XE X J5 σ W) s
theorem As{k l:Expr}{j:XK->TE}(m:KZ X l j):PIX X k l (fun W=>eh X.K (j W)):=by
 intro J5 s σ H R W I h;refine cM (m J5 s σ H _ W I h) (fun v f i=>?_) fun _ _ z=>z;obtain⟨x,n,g,r,t⟩:=i;obtain⟨a,e,⟨xs,u⟩,q⟩:=t;subst e;cases r;obtain⟨w,A,p,B⟩:=g.list u;refine sW p.isList ?_;refine⟨f.heap.objs.size,[f.heap.objs.size],_,_,n,rfl,g.kept (t':=f.toks) fun b o e=>bc _ e,qH a _,⟨_,db _ rfl,rfl,rfl⟩,fun b y=>?_,q⟩;have e:b=f.heap.objs.size:=by simpa using y
 subst e;exact g.fpOk (ay _) (g.hok.fresh (ay _))
theorem GF{m i p:Expr}{n:List Expr}{scope:Scope}{pos:Pos}{k:Nat}{N:Zb}{fi:List Nat}{L:XK->TI}{g:TG}{M:TT}{O:TE}(U:kM X.env.scope scope k N X.N fi=true)(Y:X.calm=true)(hi:PIX X p i L)
  (hg:∀C l a f ex o,PG (dq X.nox N scope C l a f ex o) p g) (ho:zf k g) (ht:∀C l a f ex o,Jm (dq X.nox N scope C l a f ex o) n M) (he:∀C l a f ex o,PE (dq X.nox N scope C l a f ex o) m O)
  (hs:∀x,rD i X.env x=pure x:=by intro _;rfl):KZ X (.ListComp m [⟨p,i,n,0⟩] scope pos) (fun W=>cD k fi (L W) g M O):=by
 intro J5 s σ H Q W I h;have S:=lZ.of U;obtain⟨l,j,r,t⟩:=oh (env:=X.env) (scope:=scope) fun y hy e=>I.ok.has y.1 (S.fr y hy e);rw[eval_ListComp];refine wpAny_comprehension_free (use:=none) (E:=XE X J5 σ W) rfl hs j S.kind S.nm (cM (hi J5 s σ H _ W I h) (fun v s1 h1=>cM h1 (fun ab s2 h2=>?_) fun _ _ z=>z) fun _ _ z=>z);obtain⟨it,fp,tn,J,H2,e,I2,T,u,f2,hw⟩:=h2;subst e;refine og (X:=X.nox) (RR:=fun B C=>compPost (model X.prog X.w) X.A (XE X J5 σ W) none (EP X J5 σ Q) B C) S Y r t hg ho ht he (I2.wish _) T u f2 hw ?_;intro D C H' s' m' I' hn ce q;exact⟨m',hn,fun h' G=>⟨.ref D,H',(ce.turned I' G).unwish,rfl,q⟩⟩
def FV(wi:XK->TI)(g:TG)(tb:(St->XK)->TS):(St->XK)->TS:=fun W D σ H=>fe (wi (W σ)) g (tb W) D σ H
theorem II{Y j:Expr}{y:List Stmt}{wi:XK->TI}{g:TG}{tb:(St->XK)->TS}(hc:X.calm=true)(hi:PIX X Y j wi)(hg:PG X.nox Y g)(k:PY X y tb)
  (hs:∀x,rD j X.env x=pure x:=by intro _;rfl) (st:X.stack=X.env::X.outer:=by rfl) (sf:X.env.frame=some X.env.locals:=by rfl):KW X (.For Y j y [] pos) (FV wi g tb):=by
 intro J5 s σ H D E I h;have G:vF (model X.prog X.w) X.A X.env (HU X J5 E):=nH st sf;refine wpAny_For (cM (hi J5 s σ H _ (E σ) I h) (fun v s1 h1=>cM h1 (fun as s2 h2=>?_) fun _ _ z=>z.xs.two) fun _ _ z=>z.xs.two) hs;obtain⟨it,L,tn,J,H2,e,I2,T,ab,f2,W,⟨m0,w0⟩,turn⟩:=h2;subst e;have l:∀{t:Hp},(∀b∈L,t b=none)->∀b∈L,kP X J5 t b:=fun hn b k=>⟨hn b k,(f2 b k).2⟩;refine codeAny_forLoop_any (fun n s'=>∃i σ' t,Inv X J5 σ' t s'/\tn i s'.heap/\(∀b∈L,t b=none)/\W i n σ' t) ?_ m0 ⟨0,σ,H2,I2,ab,fun b k=>(f2 b k).1,w0⟩;rintro n s3 ⟨i,σ3,U,I3,M,O,w3⟩;rcases turn i n σ3 U w3 with⟨stop,qn⟩|⟨go,N,hN,step⟩
 ·refine fZ G (cM (T.done X rfl rfl rfl hc i J5 s3 σ3 U _ I3 (l O) M stop) (fun r s4 a=>?_) fun _ _ z=>z);obtain⟨hr,I4⟩:=a;subst hr;exact mU ⟨σ3,U,I4,qn⟩
 ·refine fZ G (cM (T.item X rfl rfl rfl hc i J5 s3 σ3 U _ I3 (l O) M go) (fun r s4 a=>?_) fun _ _ z=>z);obtain⟨u,hr,h4⟩:=a;subst hr;refine fZ G (cM h4 (fun _ s5 a=>?_) fun _ _ z=>z);obtain⟨x,H5,I5,r5,y5,C,al⟩:=a;have an:=I5.pinned (l al) (T.obj _ _ C);refine fZ G (cM (hg _ s5 σ3 H5 x u _ (an.wish _) r5 (step x H5 y5)) (fun _ s6 a=>?_) fun _ _ z=>de z);obtain⟨σ6,H6,I6,q6⟩:=a;refine fZ G (cM (k _ s6 σ6 H6 _ E I6.unwish q6) (fun f s7 B=>?_) fun _ _ z=>z.unpinned);have again:∀{σ7:St}{p:Hp},Inv X (J5++nU L s5.heap) σ7 p s7->N σ7 p->∃m,m<n/\∃i σ' t,Inv X J5 σ' t s7/\tn i s7.heap/\(∀b∈L,t b=none)/\W i m σ' t:=fun{σ7 p} q Q=>by
   obtain⟨m',hm,w7⟩:=hN σ7 p Q;refine⟨m',hm,i+1,σ7,p,q.unpinned,T.keep _ _ _ C fun b k o e=>(q.pin (b,o) (dE _ (dE _ (eZ k e)))).1,fun b k=>?_,w7⟩;obtain⟨o,e,d⟩:=T.obj _ _ C b k;exact(q.pin (b,o) (dE _ (dE _ (eZ k e)))).2.1
  cases f with
  |next=>obtain⟨σ7,p,q,Q⟩:=B;exact again q Q
  |cont=>obtain⟨σ7,p,q,Q⟩:=B;exact again q Q
  |brk=>obtain⟨σ7,p,q,B⟩:=B;exact⟨σ7,p,q.unpinned,B⟩
  |ret v=>obtain⟨x7,σ7,p,q,r7,B⟩:=B;exact⟨x7,σ7,p,q.unpinned,r7,B⟩
end
theorem pA{X:Cx}{b:List Stmt}:PY X b (lF ka):=fun _ _ _ _ _ _ _ h=>de h
abbrev JD(K:Za):List V->Hp->VK->Prop:=fun xs H Q=>∃(p:Addr) (ns:List Int),xs=[.ref p]/\aF K H p (ns.map V.int)/\ns≠[]/\∀m,m∈ns->(∀a∈ns,a<=m)->Q (.int m) H
section
variable{X:Cx}
theorem Fj(y:X.calm=true):eQ X (.builtin "max") (JD X.K):=by
 intro O s σ H xs T Q I r h;obtain⟨p,U,rfl,A,ne,q⟩:=h;obtain⟨u,rfl,B⟩:=vals1 r;cases B;obtain⟨C,D,E,Y⟩:=I.list A;obtain⟨f,rfl,g⟩:=xQ D;have l:0<f.toArray.size:=by
  rw[bD];rcases Nat.eq_zero_or_pos f.length with z|z
  ·exact absurd (by rw[<-g,wV z];rfl) ne
  ·exact z
 have n:s.heap.IsList p (qg f.toArray):=by
  have:=E.isList;have e:qg f.toArray=(f.map fun p=>Value.int p.1 p.2).toArray:=by simp[qg]
  rw[e];exact this
 have m:∀j,j<f.length->numAt f.toArray j=(f.map (·.1)).getD j 0/\(f.map (·.1)).getD j 0∈f.map (·.1):=fun j k=>by
  refine⟨?_,?_⟩
  ·unfold numAt;simp[List.getD_eq_getElem?_getD,k]
  ·rw[List.getD_eq_getElem?_getD,bI (by rw[ao];exact k)];exact List.getElem_mem _
 refine max_intList (I.ok.hd y) n l fun v h' tk G J=>?_;obtain⟨t,rfl⟩:=intItems_at G;obtain⟨L,o⟩:=argBest_gt (numAt f.toArray) (f.toArray.size-1);rw[bD]at L o l;have w:(f.toArray.size-1)=f.length-1:=by rw[bD]
 refine⟨.int (numAt f.toArray (argBest (fun i j=>decide (numAt f.toArray i > numAt f.toArray j)) (f.toArray.size-1))),H,I.kept J,⟨t,rfl⟩,q _ ?_ fun a x=>?_⟩
 ·obtain⟨M,N⟩:=m (argBest (fun i j=>decide (numAt f.toArray i > numAt f.toArray j)) (f.length-1)) (by omega);rw[<-g,w,M];exact N
 ·rw[<-g]at x;obtain⟨j,k,rfl⟩:=List.mem_iff_getElem.mp x;rw[ao]at k;have:=o j (by omega);have e:(f.map (·.1))[j]=numAt f.toArray j:=by
   rw[(m j k).1,List.getD_eq_getElem?_getD,bI (by rw[ao];exact k)];rfl
  rw[e,w];exact this
end
section
variable{prog:bu}{w:World}{A:Around}{it l B:Addr}{xs:Array Value}{R:Result->Shared->Prop}{v0:Value}{h0:Heap}
abbrev LM(it B:Addr)(h0 h:Heap):Prop:=∀b o,b≠it->b≠B->h0.get? b=some o->h.get? b=some o
theorem Lu(D:A.handled=none)(ne:l≠it)(x:B≠it)(T:B≠l)(r:∀(i:Nat) (u:Value) (s:Shared) (Q:Zc) (E:Zc),0<i->xs[i]?=some u->LM it B h0 s.heap->Q (.bool false) s->wpAny (model prog w) A.in1 (xL .Lt u v0) Q E s):∀(k j:Nat) (s:Shared) (c:Nat),xs.size-(j+1)=k->j+1<=xs.size->s.heap.IsListIter it l (j+1)->s.heap.IsList l xs ->
  s.heap.get? B=some { cls:=.type "list",dict:=none,data:=.seq #[v0,v0] c,slots:=#[] }->LM it B h0 s.heap->(∀y G,LM it B h0 y->R (.ok (.ret v0)) { s with heap:=y,toks:=G }) ->
  zzl87 (model prog w) A (.builtin "min.loop" ⟨[.ref it,.none,.ref B],[]⟩) R s:=by
 have W:=xi (prog:=prog) (w:=w) (A:=A.in1) D it l ne xs;intro k
 induction k with
 |zero =>
  intro j s c H I st t hB kp v;have g:j+1=xs.size:=by omega
  refine tG F.entry_min_loop ?_;rw[tF qe _];show wpAny _ A.in1 (tO (.ref B) >>= _) _ _ s;refine ak (jG hB rfl ?_);show wpAny _ A.in1 (tryCatch (pyNext (.ref it)) _ >>= _) _ _ s;refine ak (tE (W.done s _ _ (by rw[<-g];exact⟨st,t⟩) fun z C h=>?_));have f:=h B _ (by simpa using x) hB;show wpAny _ A.in1 (updateSeq B (fun _=>#[]) >>= _) _ _ _;refine ak (wpAny_updateSeq f rfl (ak (nh (ap ?_))));exact v _ C fun b o m q e=>(gH _ _ q.symm).trans (h b o (by simpa using m) (kp b o m q e))
 |succ k J =>
  intro j s c H I st t hB kp v;have a:j+1<xs.size:=by omega
  refine tG F.entry_min_loop ?_;rw[tF qe _];show wpAny _ A.in1 (tO (.ref B) >>= _) _ _ s;refine ak (jG hB rfl ?_);show wpAny _ A.in1 (tryCatch (pyNext (.ref it)) _ >>= _) _ _ s;refine ak (tE (W.item (j+1) s _ _ a ⟨st,t⟩ fun u z C L n h=>?_));have f:=h B _ (by simpa using x) hB;have p:LM it B h0 z:=fun b o m q e=>h b o (by simpa using m) (kp b o m q e);show wpAny _ A.in1 (tryCatch (jf [u,u] (xL .Lt u v0 >>= _)) _ >>= _) _ _ _;refine ak (tE (gE (ak (r (j+1) u _ _ _ (Nat.succ_pos _) L p ?_))));refine ak (gE (mW ?_));refine ak (nh (ap ?_));simp only[tI,if_false];refine ak (nh ?_);rw[B6];refine ap ⟨tD qe _,J (j+1) _ c (by omega) a n.1 n.2 f p fun M N O=>?_⟩;exact v M N O
theorem Fi{E:Zc}{Q:Zc}{s:Shared}(t:A.handled=none)(m:s.heap.IsList l xs)(v:xs[0]?=some v0)
  (n:∀(i:Nat) (u:Value) (f:Shared) (Q:Zc) (E:Zc),0<i->xs[i]?=some u->(∀b o,s.heap.get? b=some o->f.heap.get? b=some o)->Q (.bool false) f->wpAny (model prog w) A.in1 (xL .Lt u v0) Q E f)
  (G:∀a H,(∀b o,s.heap.get? b=some o->a.get? b=some o)->Q v0 { s with heap:=a,toks:=H }) :
  wpAny (model prog w) A (call (.builtin "min") [.ref l]) Q E s:=by
 refine call_function_tree F.kind_min F.plain_min F.entry_min (F.args_min1 _) ?_;show wpAny _ A.in1 (b_.Builtins.bindParams "min" ["key","default"] 0 ⟨[],[]⟩ >>= _) _ _ s;refine ak (wpAny_of_eq (show b_.Builtins.bindParams "min" ["key","default"] 0 ⟨[],[]⟩=pure [none,none]from rfl) ?_);refine ak (ap ?_);have x:l<s.heap.objs.size:=by obtain⟨_,e,_⟩:=m;exact aS e
 have ne:l≠s.heap.objs.size:=bX x;refine ak (sW m ?_);refine ak (gJ ?_);rw[B6];have sz:(s.heap.push { cls:=.type "list_iterator",data:=.fields #[.ref l,.int 0 0] }).objs.size=s.heap.objs.size+1:=kW ..;have W:=xi (prog:=prog) (w:=w) (A:=A.in1) t s.heap.objs.size l ne xs;have g:∀{a:Heap},LM s.heap.objs.size (s.heap.push { cls:=.type "list_iterator",data:=.fields #[.ref l,.int 0 0] }).objs.size s.heap a->∀b o,s.heap.get? b=some o->a.get? b=some o:=fun{a} k b o e =>
  k b o (bX (aS e)) (by rw[sz];exact bX (Nat.lt_succ_of_lt (aS e))) e
 have p:(s.heap.push { cls:=.type "list_iterator",data:=.fields #[.ref l,.int 0 0] }).objs.size≠s.heap.objs.size:=by rw[sz];exact Nat.succ_ne_self _
 have y:(s.heap.push { cls:=.type "list_iterator",data:=.fields #[.ref l,.int 0 0] }).objs.size≠l:=by rw[sz];exact(bX (Nat.lt_succ_of_lt x)).symm
 have z:0<xs.size:=(ic.1 v).1;refine ap ⟨tD qe _,?_⟩;refine tG F.entry_min_loop ?_;rw[tF qe _];show wpAny _ A.in1 (tO (.ref (s.heap.push { cls:=.type "list_iterator",data:=.fields #[.ref l,.int 0 0] }).objs.size) >>= _) _ _ _;refine ak (jG (db _ rfl) rfl ?_);show wpAny _ A.in1 (tryCatch (pyNext (.ref s.heap.objs.size)) _ >>= _) _ _ _;refine ak (tE (W.item 0 _ _ _ z ⟨⟨_,bc _ (db _ rfl),rfl,rfl⟩,(m.push _).push _⟩ fun u I t1 j r C=>?_));rw[v]at j;cases j;have h:=C _ _ (by simpa using p) (db _ rfl);show wpAny _ A.in1 (updateSeq _ (fun _=>#[v0,v0]) >>= _) _ _ _;refine ak (wpAny_updateSeq h rfl ?_);rw[B6];have D:=W.frame _ _ (I.update _ (qv fun _=>#[v0,v0])) r fun b J o e=>(gH _ _ (fun z=>by rcases cz.mp J with q|q;exact p (z.trans q);rw[eD.mp q]at z;exact y z)).trans e;refine ap ⟨tD qe _,Lu (h0:=s.heap) t ne p y (fun i u f Q E L j kp M=>n i u f Q E L j (g kp) M) _ 0 _ _ rfl z D.1 D.2 (jt _ h rfl) (fun b o N O e=>(gH _ _ O.symm).trans (C b o (by simpa using N) (bc _ (bc _ e)))) fun T U Y=>?_⟩;exact G T U (g Y)
end
abbrev JC(K:Za):List V->Hp->VK->Prop:=fun xs H Q=>∃(p:Addr) (qs:Ze) (ws:List (List Int)) (q0:Addr) (w0:List Int),xs=[.ref p]/\aF K H p (qs.map V.ref)/\Paired (fun q w=>bE K H q (w.map V.int)) qs ws/\qs[0]?=some q0/\ws[0]?=some w0/\(∀(i:Nat) (w:List Int),0<i->ws[i]?=some w->HT.lexLt w w0=false)/\Q (.ref q0) H
theorem pget{α β:Type}{R:α->β->Prop}{xs:List α}{a:List β}(g:PySem.Paired R xs a):∀{i:Nat}{y:β},a[i]?=some y->∃x,xs[i]?=some x/\R x y:=by
 induction g with
 |nil=>intro i y h;cases h
 |cons r t e =>
  intro i y h;cases i with
  |zero=>cases h;exact⟨_,rfl,r⟩
  |succ i=>exact e h
theorem GD{α β:Type}{R:α->β->Prop}{xs:List α}{a:List β}(g:PySem.Paired R xs a):∀{i:Nat}{x:α},xs[i]?=some x->∃y,a[i]?=some y/\R x y:=by
 induction g with
 |nil=>intro i y h;cases h
 |cons r t e =>
  intro i y h;cases i with
  |zero=>cases h;exact⟨_,rfl,r⟩
  |succ i=>exact e h
theorem Fh{X:Cx}(J:X.calm=true)(a:X.A.units+16<cLine):eQ X (.builtin "min") (JC X.K):=by
 intro J5 s σ H xs us Q I r h;obtain⟨p,qs,L,k,w0,rfl,m,D,E,M,n,q⟩:=h;obtain⟨u,rfl,N⟩:=vals1 r;cases N;obtain⟨f,G,O,hz⟩:=I.list m;have g:∀(i:Nat) (u:Value),f.toArray[i]?=some u->∃q w,u=.ref q/\qs[i]?=some q/\L[i]?=some w/\bE X.K H q (w.map V.int):=fun i u a=>by
  rw[List.getElem?_toArray]at a;obtain⟨x,hx,T⟩:=pget G a;rw[dj]at hx;obtain⟨q,m,rfl⟩:=ib.1 hx;cases T;obtain⟨w,t,v⟩:=GD D m;exact⟨q,w,rfl,m,t,v⟩
 have U:f.toArray[0]?=some (.ref k):=by
  obtain⟨y,Y,ry⟩:=GD G (show(qs.map V.ref)[0]?=some (.ref k) by rw[dj,E];rfl);cases ry;rw[List.getElem?_toArray];exact Y
 obtain⟨ab,j,B⟩:=GD D E;rw[M]at j;cases j;refine Fi (I.ok.hd J) O.isList U (fun i u s1 Q1 E1 i0 a kp C=>?_) fun h' tk hk=>⟨.ref k,H,I.kept hk,rfl,q⟩;obtain⟨q,w,rfl,_,t,v⟩:=g i u a;obtain⟨a1,r1,p1,_⟩:=I.tuple v;obtain⟨a2,r2,p2,_⟩:=I.tuple B;have:=n i w i0 t;refine HT.lt_tupInts (l:=q) (b:=k) (by obtain⟨o,e,z⟩:=p1;exact⟨o,kp _ _ e,z⟩) (by obtain⟨o,e,z⟩:=p2;exact⟨o,kp _ _ e,z⟩) (intsAre_of r1) (intsAre_of r2) (by show X.A.units+1<cLine;omega) ?_;rw[this];exact C
def JG(K:Za):R2:=fun x y H Q=>∃a b ys,x=.ref a/\y=.ref b/\bE K H a []/\bE K H b ys/\Q (.ref b) H
theorem HC{a:bu}{w:World}{A:Around}{E:Zc}{s:Shared}{t b:Addr}{k:Zf}{Q:Zc}(r:IsTup s.heap t ([]:Zf).toArray)(u:IsTup s.heap b k.toArray)(h:Q (.ref b) s):wpAny (model a w) A (iP .Add (.ref t) (.ref b)) Q E s:=by
 obtain⟨⟨cls,v,l,x⟩,m,o,n,p⟩:=id r;obtain⟨⟨q,i,data2,j⟩,e,f,y,g⟩:=id u;simp only at o p f g;subst o p f g;exact xK ⟨_,m,rfl⟩ ⟨_,e,rfl⟩ xJ xI xH xG (xF _ _)
   (tuple_addW0 t b ([]:Zf).toArray k.toArray n y v i x j (by simp)) ⟨m,e,h⟩
theorem IT{X:Cx}:kN X (iP .Add) (JG X.K):=by
 intro o s σ H x y v u Q I f g h;obtain⟨a,b,p,rfl,rfl,i,j,q⟩:=h;cases f;cases g;obtain⟨k,l,m,_⟩:=I.tuple i;obtain⟨e,r,n,_⟩:=I.tuple j;cases l;exact HC m n ⟨.ref b,H,I,rfl,q⟩
abbrev m7(K:Za):R2:=fun x y H Q=>JF K x y H Q∨JG K x y H Q
theorem yG{X:Cx}:kN X (iP .Add) (m7 X.K):=Dm.or IT
end L2
end
set_option Elab.async false
set_option linter.all false
set_option maxRecDepth 100000
set_option maxHeartbeats 4000000
namespace Mum
open PySem PySem.Spec PyProof.Rows L2
def xU(K:Za):TS :=
 ar (bQ (aV (aq rGeI V0 (aq JB (tC (.int 10)) (tC (.int 18))))) (aR V0) (ba))
 (ar (aO (aq iz (aq cN (aq cN (aq jL (aq iz V0 (tC (.int 1000000007))) (tC (.int 69069))) (aq jL V1 (tC (.int 40503)))) (tC (.int 977))) (tC (.int 2147483629))) U2)
 (ar (aO (aq iz (aq cN (aq cN (aq jL V2 V2) (aq jL V1 (tC (.int 7919)))) (aq iz V0 (tC (.int 65537)))) (tC (.int 2147483587))) U3)
 (ar (aO (aq iz (aq cN (aq cN (aq jL V3 V3) (aq jL V2 (tC (.int 31)))) (tC (.int 5))) (tC (.int 2147483563))) U4)
 (aR (aq cN (aq jL (aq cN (aq jL V2 (tC (.int 2147483659))) V3) (tC (.int 2147483693))) V4)))))
def zj:List Str:=["cell","at","one","two","three"]
def Bq(K:Za):TS :=
 ar (aO (cS (eF K) (au (sI (uh K) V0 (cg) (dX (tC (.int 12)))))) U1)
 (ar (fe (pL K (au (sI (uh K) V0 (dX (tC (.int 12))) (dX (tC (.int 63)))))) (jR K 2 (bM U2 (bM U3 (jC)))) (aO (aq cN (aq (bF K) V1 (aq iz V2 (tC (.int 12)))) V3) (uG V1 (aq iz V2 (tC (.int 12))) lK)))
 (aR (bW (cq V1 (tC (.int 0)) (tC (.int 0))))))
def CC:List Str:=["script","cells","k","cell"]
def Bs(K:Za):TS :=
 ar (aO (tC (.int 0)) (uG V0 (tC (.int 2)) lK))
 (aR V0)
def CF:List Str:=["pen"]
def Bp(K:Za)(sp_law_spread:Sp):TS :=
 ar (bQ (aV (aq yB (aq (bF K) V0 (tC (.int 2))) V1)) (ar (aO (aq (bF K) V0 (tC (.int 1))) U2)
 (ar (aO (tC (.int 0)) U3)
 (ar (bQ (aV (aq yB V2 (cS (cK K) (au (aq (bF K) V0 (tC (.int 0))))))) (aO (aq (bF K) (aq (bF K) V0 (tC (.int 0))) V2) U3) (bQ (aV (aq Ao (cS (cK K) (au (aq (bF K) V0 (tC (.int 0))))) (tC (.int 0)))) (aO (aq iz (aq (bF K) (aq (bF K) V0 (tC (.int 0))) (aq iz (aq cN (aq jL V2 (tC (.int 5))) (tC (.int 3))) (cS (cK K) (au (aq (bF K) V0 (tC (.int 0))))))) (aq cN (aq JB (tC (.int 10)) (tC (.int 17))) V2)) U3) (ba)))
 (ar (aO (aq cN V2 (tC (.int 1))) (uG V0 (tC (.int 1)) lK))
 (aO (aw sp_law_spread (aE V3 V2)) (uG V0 (tC (.int 2)) lK)))))) (ba))
 (ar (aO (aq iz (aq (bF K) V0 (tC (.int 2))) V1) U4)
 (ar (aO (aq uk (aq (bF K) V0 (tC (.int 2))) V1) (uG V0 (tC (.int 2)) lK))
 (aR V4)))
def CB:List Str:=["pen","many","at","cell","found"]
def zX(K:Za)(sp_law_take:Sp):TS :=
 ar (aO (tC (.str "abcdefghijklmnopqrstuvwxyz")) U2)
 (ar (aO (Er K "str" (JE K) (tC (.str "")) (aj (cD 1 [2,0] (gF (au (tC (.int 7)))) U0 (d6) (aq Gu V1 (aw sp_law_take (aE V2 (tC (.int 26)))))) aU)) U3)
 (ar (aO (aw sp_law_take (aE V0 (tC (.int 3)))) U4)
 (ar (aO (aw sp_law_take (aE V0 (tC (.int 26)))) U5)
 (ar (aO (aw sp_law_take (aE V0 (tC (.int 8)))) U6)
 (ar (aO (bW (aU)) U7)
 (ar (fe (gF (au V1)) U8 (ar (aO (aq Gu V2 (aq iz (aq cN V5 (aq jL (tC (.int 3)) V8)) (tC (.int 26)))) U9)
 (ar (aO (sI IG V3 (cg) (dX (aq iz (aq cN V6 (aq jL V8 (aq iz V4 (tC (.int 2))))) (tC (.int 8))))) Mb)
 (ar (aO (aq (bF K) (bW (cq (tC (.int 0)) (cS (cK K) (au Jj)) (aq uk (cS (cK K) (au Jj)) (tC (.int 2))))) V4) U11)
 (d_ (Er K "list" gj V7 (au (aq JH (aq JH (sI IG Jj (cg) (dX V11)) V9) (sI IG Jj (dX V11) (cg))))))))))
 (aR V7)))))))
def A_:List Str:=["pen","many","letters","base","way","turn","size","found","k","sign","part","at"]
def Eh(K:Za):TS :=
 bQ (aV (aq (EL K true) V1 V0)) (d_ (Er K "list" gj V0 (au V1))) (ba)
def Fo:List Str:=["doors","door"]
def qJ(K:Za)(sp_law_take:Sp)(sp_law_put:Sp):TS :=
 ar (aO (bW (aU)) U5)
 (ar (aO (aw sp_law_take (aE V0 (tC (.int 2)))) U6)
 (ar (fe (pL K (au V3)) (jR K 2 (bM U7 (bM U8 (jC)))) (ar (fe (gF (aj (aq (bF K) (bW (aj (tC (.int 0)) (cq (tC (.int 1)) (tC (.int 1)) (tC (.int 2))))) (aw sp_law_take (aE V0 (tC (.int 4))))) aU)) U9 (ar (aO (aW (aj (tC (.str "say")) (aj (aq (bF K) V2 (aw sp_law_take (aE V0 (cS (cK K) (au V2))))) aU))) Mb)
 (d_ (aw sp_law_put (aj V5 (aj (aW (aj V8 (aj Jj (aj (aq (bF K) V3 (aw sp_law_take (aE V0 (cS (cK K) (au V3))))) aU)))) aU))))))
 (ar (fe (eh K V1) U11 (fe (gF (aj (aq (bF K) (bW (aj V4 (cq (tC (.int 1)) (tC (.int 1)) (tC (.int 2))))) (aw sp_law_take (aE V0 (tC (.int 4))))) aU)) U9 (d_ (aw sp_law_put (aj V5 (aj (aW (aj V8 (aj (aW (aE (tC (.str "ask")) V11)) (aj (aq (bF K) V3 (aw sp_law_take (aE V0 (cS (cK K) (au V3))))) aU)))) aU))))))
 (ar (aO (aq (bF K) (bW (aj (sI (uh K) V3 (dX (aq cN V7 (tC (.int 1)))) (cg)) (au (sI (uh K) V3 (cg) (dX V7))))) V6) U12)
 (bQ (jI (aV (aq (Gs K) V12 (bW (aU)))) (aV (aq iL (aw sp_law_take (aE V0 (tC (.int 3)))) (tC (.int 0))))) (d_ (aw sp_law_put (aj V5 (aj (aW (aj V8 (aj (aW (au (tC (.str "still")))) (aj (aq (EK K) V12 (aw sp_law_take (aE V0 (cS (cK K) (au V12))))) aU)))) aU)))) (ba))))))
 (aR V5)))
def rj:List Str:=["pen","asks","says","rooms","full","doors","down","k","room","turn","sign","ask","later"]
def zY(K:Za)(sp_law_draw_doors:Sp)(sp_law_names:Sp)(sp_law_take:Sp)(sp_law_anew:Sp):TS :=
 ar (d_ (aw sp_law_anew (au V0)))
 (ar (aO (aw sp_law_names (aE V0 (tC (.int 8)))) U3)
 (ar (aO (sI (uh K) V3 (cg) (dX (aq cN (tC (.int 1)) (aq (bF K) (bW (aj (tC (.int 0)) (aj (tC (.int 1)) (aj (tC (.int 1)) (cq (tC (.int 2)) (tC (.int 2)) (tC (.int 3))))))) (aw sp_law_take (aE V0 (tC (.int 6)))))))) U4)
 (ar (aO (sI (uh K) V3 (dX (tC (.int 4))) (dX (aq cN (tC (.int 5)) (aq (bF K) (bW (aj (tC (.int 0)) (aj (tC (.int 1)) (aj (tC (.int 1)) (cq (tC (.int 2)) (tC (.int 2)) (tC (.int 3))))))) (aw sp_law_take (aE V0 (tC (.int 6)))))))) U5)
 (ar (aO (aw sp_law_names (aE V0 (aq cN (tC (.int 1)) (aw sp_law_take (aj V0 (au V1)))))) U6)
 (ar (aO (aw sp_law_draw_doors (aj V0 (aj V4 (cq V5 V6 V2)))) U7)
 (aR (aW (aj V4 (cq V5 V6 V7)))))))))
def Ba:List Str:=["pen","most","full","words","asks","says","rooms","doors"]
def u_(K:Za)(C_Machine:Addr)(sp_Machine_init:Sp):TS :=
 aR (C6 C_Machine sp_Machine_init [] E0 (aj (cS (eF K) (au (aq (EK K) V0 (tC (.int 0))))) (aj (cS (eF K) (au (aq (EK K) V0 (tC (.int 1))))) (aj (cS (eF K) (au (aq (EK K) V0 (tC (.int 2))))) (aj (cS (eF K) (au (aq (EK K) V0 (tC (.int 3))))) aU)))))
def vA:List Str:=["told"]
def Ek(K:Za):TS :=
 aR (iX (aq Lj V0 (tC (.str ""))) (iX (aq rLeI (cS (cK K) (au V0)) (tC (.int 8))) (cS (Kn K) (au (cD 1 [] (Lz V0) U0 (d6) (aq rInS V0 (tC (.str "abcdefghijklmnopqrstuvwxyz"))))))))
def Fs:List Str:=["text"]
def Em(K:Za):TS :=
 ar (aO (yk) U1)
 (ar (fe (eh K V0) U2 (vS V1 V2 (tC (.bl true))))
 (aR V1))
def Ft:List Str:=["things","keys","thing"]
def nI(K:Za)(sp_is_name:Sp)(sp_as_keys:Sp):TS :=
 ar (bQ (aV (aq iL (cS (cK K) (au V0)) (tC (.int 0)))) (aR (tC (.int 0))) (ba))
 (ar (aO (aw sp_as_keys (au V2)) U3)
 (ar (fe (pL K (au V0)) (jR K 2 (bM U4 (bM U5 (jC)))) (ar (bQ (Bv (aV (aq iL V4 V1)) (Bv (tB (Iq K V5 V3)) (qN (tB (aw sp_is_name (au V5)))))) (aR V4) (ba))
 (vS V3 V5 (tC (.bl true)))))
 (aR (tC .non))))
def om:List Str:=["names","most","taken","ahead","number","name"]
def xY(K:Za)(a_STILL:Addr):TS :=
 aR (aq qS (aq qS (cD 1 [] (eh K V0) U0 (d6) (aW (aE (tC (.str "ask")) V0))) (cD 1 [] (eh K V1) U0 (d6) (aW (aE (tC (.str "say")) V0)))) (bW (au (tC (.ref a_STILL)))))
def zA:List Str:=["asks","says"]
def nJ(K:Za)(sp_as_keys:Sp):TS :=
 ar (aO (aw sp_as_keys (au V1)) U3)
 (ar (aO (BH) U4)
 (ar (fe (pL K (au V0)) (jR K 2 (bM U5 (bM U6 (jC)))) (ar (bQ (Bv (aV (aq iL V5 (tC (.int 2000)))) (tB (Iq K V6 V4))) (aR V5) (ba))
 (ar (bQ (Bv (tB (sJ K (aq (EK K) V6 (tC (.int 0))) V3)) (Bv (aV (aq (EL K true) (aq (EK K) V6 (tC (.int 1))) V2)) (tB (sJ K (aq (EK K) V6 (tC (.int 2))) V3)))) (aR V5) (ba))
 (vS V4 V6 (tC (.bl true))))))
 (aR (tC .non))))
def on:List Str:=["doors","rooms","signs","own_rooms","ahead","number","door"]
def jc(K:Za):TS :=
 ar (aO (BH) U1)
 (ar (fe (eh K V0) (jR K 3 (bM U2 (bM U3 (bM U4 (jC))))) (d_ (Er K "list" gj (Er K "dict" Dd V1 (aE (aW (aj V2 (au V3))) (bW (aU)))) (au V4))))
 (aR V1))
def jd:List Str:=["doors","goals","start","sign","goal"]
def t8(K:Za)(a_STILL:Addr):TS :=
 ar (aO (yk) U2)
 (ar (aO (bW (au V1)) U3)
 (ar (Bt (aV (aq Ao (cS (cK K) (au V3)) (tC (.int 0)))) (ar (aO (Kg K "list" Kl V3) U4)
 (fe (LA K (ym K V0 (aW (aE V4 (tC (.ref a_STILL)))) (aW (aU)))) U5 (bQ (tB (sJ K V5 V2)) (ar (vS V2 V5 (tC (.bl true)))
 (d_ (Er K "list" gj V3 (au V5)))) (ba)))))
 (aR V2)))
def uT:List Str:=["goals","room","led","waiting","here","goal"]
def oY(K:Za):TS :=
 ar (fe (pL K (au V0)) (jR K 2 (bM U2 (bM U3 (jC)))) (bQ (tB (Iq K V3 (C7 K V1 V3))) (aR V2) (ba)))
 (aR (tC .non))
def pZ:List Str:=["rooms","led","number","room"]
def zU(K:Za):TS :=
 bQ (tB (vP V1)) (ka) (ba)
def AX:List Str:=["part","number"]
def xT(K:Za)(sp_need_none:Sp)(sp_first_wrong_door:Sp)(sp_door_signs:Sp)(sp_first_wrong_name:Sp):TS :=
 ar (d_ (aw sp_need_none (aE (tC (.str "asks")) (aw sp_first_wrong_name (cq V0 (tC (.int 4)) (bW (aU)))))))
 (ar (d_ (aw sp_need_none (aE (tC (.str "says")) (aw sp_first_wrong_name (cq V1 (tC (.int 4)) V0)))))
 (ar (d_ (aw sp_need_none (aE (tC (.str "rooms")) (aw sp_first_wrong_name (cq V2 (tC (.int 150)) (bW (aU)))))))
 (d_ (aw sp_need_none (aj (tC (.str "doors")) (au (aw sp_first_wrong_door (cq V3 V2 (aw sp_door_signs (aE V0 V1))))))))))
def zi:List Str:=["asks","says","rooms","doors"]
def qM(K:Za):TS :=
 ar (aO (yk) U2)
 (ar (fe (eh K V0) U3 (vS V2 V3 (bW (aU))))
 (ar (fe (eh K V1) U4 (d_ (Er K "list" gj (C7 K V2 (aq (EK K) V4 (tC (.int 0)))) (au V4))))
 (aR V2)))
def rm:List Str:=["rooms","doors","leaving","room","door"]
def qK(K:Za):TS :=
 aR (cS (Kn K) (aj (cD 1 [] (eh K V0) U0 (d6) (aq iL (aq (EK K) (aq (EK K) V0 (tC (.int 1))) (tC (.int 0))) (tC (.str "ask")))) aU))
def rk:List Str:=["doors"]
def nL(K:Za)(sp_need_none:Sp)(sp_first_led_round:Sp)(sp_led_by_still:Sp)(sp_goals_by_start_and_sign:Sp)(sp_as_keys:Sp)(sp_has_asks_alone:Sp)(sp_doors_by_start:Sp)(sp_need_parts:Sp):TS :=
 ar (d_ (aw sp_need_parts (aj V1 (cq V2 V3 V4))))
 (ar (yu K V0 (cS (eF K) (au V1)) "own_asks")
 (ar (yu K V0 (cS (eF K) (au V2)) "own_says")
 (ar (yu K V0 (cS (eF K) (au V3)) "own_rooms")
 (ar (yu K V0 (cS (eF K) (au V4)) "own_doors")
 (ar (yu K V0 (aw sp_doors_by_start (aE V3 V4)) "leaving")
 (ar (yu K V0 (aw sp_as_keys (aj (cD 1 [0] (eh K V3) U0 (tB (aw sp_has_asks_alone (au (C7 K (xZ K V1 "leaving") V0)))) V0) aU)) "quiet")
 (ar (yu K V0 (aw sp_goals_by_start_and_sign (au V4)) "sign_goals")
 (ar (yu K V0 (cS (IH K) (aj (cD 1 [0] (eh K V3) U0 (d6) (aW (aE V0 (aw sp_led_by_still (aj (xZ K V1 "sign_goals") (au V0)))))) aU)) "still_led")
 (d_ (aw sp_need_none (aE (tC (.str "still")) (aw sp_first_led_round (aj V3 (au (xZ K V0 "still_led")))))))))))))))
def oq:List Str:=["self","asks","says","rooms","doors"]
def cQ(p:Addr)(H H':Hp):Prop:=∀b o,H b=some o->b≠p->H' b=some o
theorem cQ.refl(p:Addr)(H:Hp):cQ p H H:=fun _ _ h _=>h
theorem cQ.trans{p:Addr}{H e f:Hp}(a:cQ p H e)(b:cQ p e f):cQ p H f:=fun c o h n=>b c o (a c o h n) n
theorem ac.exB{p:Addr}{H e:Hp}(a:ac H e):cQ p H e:=fun b o h _=>a b o h
theorem cQ.upd(p:Addr)(H:Hp)(o:HO):cQ p H (upd H p o):=fun b u h n=>by rw[am n];exact h
theorem ac.new{H:Hp}{a:Addr}{o:HO}(h:H a=none):ac H (upd H a o):=fun b u e=>by rw[am (ah e h)];exact e
theorem cQ.free{p:Addr}{H a:Hp}(e:cQ p H a){u:HO}(f:a p=some u){l:Addr}(h:a l=none):H l=none:=by
 cases q:H l with
 |none=>rfl
 |some o =>
  by_cases z:l=p
  ·subst z;rw[f]at h;cases h
  ·rw[e l o q z]at h;cases h
theorem kp{H:Hp}{a b:Addr}{o x:HO}(h:H b=some o)(n:H a=none):upd H a x b=some o:=by rw[am (ah h n)];exact h
structure DV(H:Hp)(p c:Addr)(at_ rest:Int)(ns:List Int):Prop where
 pen:H p=some (.lst [.ref c,.int at_,.int rest])
 cells:H c=some (.lst (ns.map V.int))
 at0:0<=at_
 rest0:0<=rest
theorem DV.ne{H:Hp}{p c:Addr}{a r:Int}{g:List Int}(h:DV H p c a r g):c≠p:=by
 intro e;have i:=h.pen;have f:=h.cells;rw[e,i]at f;injection f with f;injection f with f;cases g with
 |nil=>cases f
 |cons n g=>injection f with f;cases f
def dW(H:Hp)(p c:Addr):Prop:=∃a r ns,DV H p c a r ns
theorem dW.ex{H H':Hp}{p c:Addr}(h:dW H p c)(e:ac H H'):dW H' p c:=by
 obtain⟨a,r,f,g,i,j,k⟩:=h;exact⟨a,r,f,e _ _ g,e _ _ i,j,k⟩
theorem dW.pen{H:Hp}{p c:Addr}(h:dW H p c):∃o,H p=some o:=by
 obtain⟨a,r,f,e,_⟩:=h;exact⟨_,e⟩
theorem dW.cell{H:Hp}{p c:Addr}(h:dW H p c):∃o,H c=some o:=by
 obtain⟨a,r,f,_,e,_⟩:=h;exact⟨_,e⟩
theorem dW.upd{H:Hp}{p c l:Addr}{o:HO}(h:dW H p c)(e:p≠l)(f:c≠l):dW (upd H l o) p c:=by
 obtain⟨a,r,g,i,j,k,m⟩:=h;exact⟨a,r,g,by rw[am e];exact i,by rw[am f];exact j,k,m⟩
theorem dW.nep{H:Hp}{p c l:Addr}(h:dW H p c)(a:H l=none):p≠l:=let⟨_,e⟩:=h.pen;ah e a
theorem dW.nec{H:Hp}{p c l:Addr}(h:dW H p c)(a:H l=none):c≠l:=let⟨_,e⟩:=h.cell;ah e a
theorem cQ.new{p:Addr}{H:Hp}{a:Addr}{o:HO}(h:H a=none):cQ p H (L2.upd H a o):=fun b u e _=>by rw[am (ah e h)];exact e
inductive me (vs:List V)(H:Hp)(Q:VK)(E:XK):Prop
 |mk (c a:Int):(vs=[.int c,.int a])->(0<=a)->(∀r:Int,0<=r->Q (.int r) H)->me  vs H Q E
theorem pR{i j:Int}(a:-(2 ^ 64)<j)(e:j<2 ^ 64):HR i j:=.inr ⟨a,e⟩
theorem Ex{K:Za}{f:List V}{H:Hp}{Q:VK}{E:XK}(h:me f H Q E):xU K (bq Q) (start zj f) H:=by
 obtain⟨c,a,rfl,x,k⟩:=h;refine⟨_,rfl,_,_,rfl,rfl,⟨by decide,by decide,by decide⟩,_,_,rfl,rfl,_,rfl,?_⟩;refine pK (fun h=>?_) (fun _=>?_)
 ·refine⟨_,rfl,k _ ?_⟩;have:=of_decide_eq_true h;have e:((10:Int) ^ (18:Int).toNat)=1000000000000000000:=by decide
  omega
 ·have one:∀z:Int,0<=z % 2147483629/\z % 2147483629<2147483629:=fun z=>⟨qd _ (by decide),qb _ (by decide)⟩;have two:∀z:Int,0<=z % 2147483587/\z % 2147483587<2147483587:=fun z=>⟨qd _ (by decide),qb _ (by decide)⟩;have three:∀z:Int,0<=z % 2147483563/\z % 2147483563<2147483563:=fun z=>⟨qd _ (by decide),qb _ (by decide)⟩;refine⟨_,rfl,_,_,rfl,rfl,(by show(0:Int)<1000000007;decide),_,_,rfl,rfl,pR (by decide) (by decide),_,rfl,_,_,rfl,rfl,pR (by decide) (by decide),_,_,rfl,rfl,_,_,rfl,rfl,_,_,rfl,rfl,(by show(0:Int)<2147483629;decide),?_⟩;generalize l:(c % 1000000007 * 69069+a * 40503+977)=g;obtain⟨m,n⟩:=one g;generalize g % 2147483629=o at m n ⊢;refine⟨_,rfl,_,rfl,_,_,rfl,rfl,pR (by omega) (by omega),_,rfl,_,_,rfl,rfl,pR (by decide) (by decide),_,_,rfl,rfl,_,rfl,_,_,rfl,rfl,(by show(0:Int)<65537;decide),_,_,rfl,rfl,_,_,rfl,rfl,(by show(0:Int)<2147483587;decide),?_⟩;generalize p:(o * o+a * 7919+c % 65537)=i;obtain⟨s,t⟩:=two i;generalize i % 2147483587=q at s t ⊢;refine⟨_,rfl,_,rfl,_,_,rfl,rfl,pR (by omega) (by omega),_,rfl,_,_,rfl,rfl,pR (by decide) (by decide),_,_,rfl,rfl,_,_,rfl,rfl,_,_,rfl,rfl,(by show(0:Int)<2147483563;decide),?_⟩;generalize u:(q * q+o * 31+5)=j;obtain⟨v,w⟩:=three j;generalize j % 2147483563=r at v w ⊢;refine⟨_,rfl,_,_,rfl,rfl,pR (by decide) (by decide),_,rfl,_,_,rfl,rfl,_,_,rfl,rfl,pR (by decide) (by decide),_,rfl,_,_,rfl,rfl,k _ ?_⟩;omega
def yq:Sp:=fun vs H Q _=>∃p c,vs=[.ref p]/\dW H p c/\∀H',dW H' p c->cQ p H H'->Q (.ref p) H'
theorem IF{K:Za}{e:List V}{H:Hp}{Q:VK}{E:XK}(h:yq e H Q E):Bs K (bq Q) (start CF e) H:=by
 obtain⟨p,c,rfl,⟨a,r,f,h⟩,k⟩:=h;refine⟨_,rfl,p,_,_,_,rfl,rfl,h.pen,rfl,_,rfl,k _ ⟨a,0,f,aa,?_,h.at0,Int.le_refl 0⟩ (cQ.upd _ _ _)⟩;rw[am h.ne];exact h.cells
theorem DR{ns:List Int}{a:Int}(e:0<=a)(g:a<ns.length):∃z,vv (ns.map V.int) a=some (.int z):=by
 obtain⟨n,rfl⟩:=ia e;have f:n<ns.length:=by omega
 exact⟨ns[n],aM (by simp[f])⟩
inductive bB (vs:List V)(H:Hp)(Q:VK)(E:XK):Prop
 |mk (p c:Addr) (m:Int):(vs=[.ref p,.int m])->(dW H p c)->(0<m)->(m<1073741824)->(∀(r:Int) (H':Hp),0<=r->r<m->dW H' p c->cQ p H H'->Q (.int r) H')->bB  vs H Q E
theorem cc{H:Hp}{Q:VK}{E:XK}{p c:Addr}{m:Int}(e:dW H p c)(f:0<m)(g:m<1073741824)(k:∀(r:Int) (a:Hp),0<=r->r<m->dW a p c->cQ p H a->Q (.int r) a):bB [.ref p,.int m] H Q E:=by
 exact⟨p,c,m,rfl,e,f,g,k⟩
theorem Iy{K:Za}{t:List V}{H:Hp}{Q:VK}{E:XK}(h:bB t H Q E):Bp K me (bq Q) (start CB t) H:=by
 obtain⟨p,c,m,rfl,⟨a,r,ns,h⟩,j,l,k⟩:=h;have f:∀(H':Hp) (n u:Int) (x y:Option V),DV H' p c n u ns->cQ p H H' ->
   (ar (aO (aq iz (aq (bF K) V0 (tC (.int 2))) V1) U4) (ar (aO (aq uk (aq (bF K) V0 (tC (.int 2))) V1) (uG V0 (tC (.int 2)) lK)) (aR V4)))
    (bq Q) [some (.ref p),some (.int m),x,y,none] H':=by
  intro H' n u x y g ex;refine⟨_,rfl,p,_,2,_,rfl,rfl,aF.of g.pen,rfl,_,rfl,_,_,rfl,rfl,j,?_⟩;refine⟨_,rfl,p,_,2,_,rfl,rfl,aF.of g.pen,rfl,_,rfl,_,_,rfl,rfl,⟨j,l⟩,_,rfl,p,_,_,_,rfl,rfl,g.pen,rfl,?_⟩;refine⟨_,rfl,k _ _ (qd _ (by omega)) (qb _ j) ⟨n,_,ns,aa,?_,g.at0,Int.ediv_nonneg g.rest0 (by omega)⟩ (ex.trans (cQ.upd _ _ _))⟩;rw[am g.ne];exact g.cells
 refine⟨_,rfl,p,_,2,_,rfl,rfl,aF.of h.pen,rfl,_,rfl,_,_,rfl,rfl,_,rfl,?_⟩;refine pK (fun B=>?_) (fun B=>?_)
 ·-- at=pen[1];cell=0;if at<C(pen[0])
  refine⟨_,rfl,p,_,1,_,rfl,rfl,aF.of h.pen,rfl,?_⟩;have o:(V.int ((ns.map V.int).length:Nat))=V.int (ns.length:Nat):=by rw[ao]
  refine⟨_,rfl,_,rfl,p,_,0,_,rfl,rfl,aF.of h.pen,rfl,.inl ⟨c,_,rfl,.inl (aF.of h.cells),_,_,rfl,o,_,rfl,?_⟩⟩;refine pK (fun v=>?_) (fun v=>?_)
  ·obtain⟨z,s⟩:=DR (ns:=ns) h.at0 (of_decide_eq_true v);refine⟨_,rfl,p,_,0,_,rfl,rfl,aF.of h.pen,rfl,_,rfl,c,_,_,_,rfl,rfl,aF.of h.cells,s,?_⟩;refine⟨_,rfl,_,_,rfl,rfl,_,rfl,p,_,_,_,rfl,rfl,h.pen,rfl,?_⟩;refine⟨_,rfl,_,rfl,_,_,rfl,h.at0,fun q i=>⟨_,rfl,p,_,_,_,rfl,rfl,aa,rfl,?_⟩⟩;rw[sG];refine f _ (a+1) q _ _ ⟨aa,by rw[am h.ne];exact h.cells,by have:=h.at0;omega,i⟩ (cQ.upd _ _ _)
  ·refine⟨_,rfl,p,_,0,_,rfl,rfl,aF.of h.pen,rfl,.inl ⟨c,_,rfl,.inl (aF.of h.cells),_,_,o,rfl,_,rfl,?_⟩⟩;refine pK (fun w=>?_) (fun w=>?_)
   ·have A:(0:Int)<ns.length:=of_decide_eq_true w;obtain⟨z,s⟩:=DR (ns:=ns) (a:=(a * 5+3) % (ns.length:Int)) (qd _ (by omega)) (qb _ A);refine⟨_,rfl,p,_,0,_,rfl,rfl,aF.of h.pen,rfl,_,rfl,_,_,rfl,rfl,pR (by decide) (by decide),_,_,rfl,rfl,_,rfl,p,_,0,_,rfl,rfl,aF.of h.pen,rfl,.inl ⟨c,_,rfl,.inl (aF.of h.cells),_,_,rfl,o,A,c,_,_,_,rfl,rfl,aF.of h.cells,s,?_⟩⟩;refine⟨_,_,rfl,rfl,⟨by decide,by decide,by decide⟩,_,rfl,_,_,rfl,rfl,_,_,rfl,rfl,?_,?_⟩
    ·have e:((10:Int) ^ (17:Int).toNat)=100000000000000000:=by decide
     have:=h.at0;show(0:Int)<10 ^ (17:Int).toNat+a;omega
    refine⟨_,rfl,_,_,rfl,rfl,_,rfl,p,_,_,_,rfl,rfl,h.pen,rfl,?_⟩;refine⟨_,rfl,_,rfl,_,_,rfl,h.at0,fun q i=>⟨_,rfl,p,_,_,_,rfl,rfl,aa,rfl,?_⟩⟩;rw[sG];refine f _ (a+1) q _ _ ⟨aa,by rw[am h.ne];exact h.cells,by have:=h.at0;omega,i⟩ (cQ.upd _ _ _)
   ·refine⟨_,rfl,_,_,rfl,rfl,_,rfl,p,_,_,_,rfl,rfl,h.pen,rfl,?_⟩;refine⟨_,rfl,_,rfl,_,_,rfl,h.at0,fun q i=>⟨_,rfl,p,_,_,_,rfl,rfl,aa,rfl,?_⟩⟩;rw[sG];refine f _ (a+1) q _ _ ⟨aa,by rw[am h.ne];exact h.cells,by have:=h.at0;omega,i⟩ (cQ.upd _ _ _)
 ·exact f H a r _ _ h (cQ.refl _ _)
inductive sK(K:Za)(vs:List V)(H:Hp)(Q:VK)(E:XK):Prop
 |mk (a:Addr) (ns:List Int):(vs=[.ref a])->(aF K H a (ns.map V.int))->(ns.length<=63)->(∀(p c:Addr) (H':Hp),H p=none->dW H' p c->ac H H'->Q (.ref p) H')->sK K vs H Q E
theorem wB(a:List Int)(lo hi:Option Int):∃e:List Int,gq (a.map V.int) lo hi=e.map V.int/\e.length=(gq (a.map V.int) lo hi).length:=by
 refine⟨(a.drop (HT.sIx (a.map V.int).length 0 lo)).take (HT.sIx (a.map V.int).length (a.map V.int).length hi-HT.sIx (a.map V.int).length 0 lo),?_,?_⟩
 ·unfold gq;rw[tq,tm]
 ·unfold gq;rw[aK,aK,cA,cA,ao]
theorem IB{K:Za}{vs:List V}{H:Hp}{Q:VK}{E:XK}(h:sK K vs H Q E):Bq K (bq Q) (start CC vs) H:=by
 obtain⟨a,s,rfl,hs,hn,k⟩:=h;obtain⟨D,e0,l0⟩:=wB s none (some 12);obtain⟨B,e1,l1⟩:=wB s (some 12) (some 63);have G:B≠[]->D.length=12:=by
  intro L;have l:0<B.length:=by cases B with|nil=>exact absurd rfl L|cons _ _=>simp
  rw[l1]at l;rw[l0];unfold gq at l ⊢;rw[aK,cA,ao]at l;rw[aK,cA,ao];have s1:HT.sIx s.length 0 (some 12)=min 12 s.length:=HT.sIx_nat _ _ 12;have s2:HT.sIx s.length s.length (some 12)=min 12 s.length:=HT.sIx_nat _ _ 12;rw[HT.sIx_none,s2];rw[s1]at l;omega
 refine⟨_,rfl,_,rfl,a,_,rfl,hs,fun q hq=>.inl ⟨q,_,rfl,.inl (aF.of aa),fun c C=>?_⟩⟩;rw[e0]at C ⊢;have M:H c=none:=by
  have:c≠q:=fun z=>by subst z;rw[aa]at C;cases C
  rw[am this]at C;exact C
 have hS:ac H (upd (upd H q (.lst (D.map V.int))) c (.lst (D.map V.int))):=(ac.new hq).trans (ac.new C);refine⟨_,rfl,_,rfl,_,rfl,a,_,rfl,hS.seq hs,fun r N=>⟨r,rfl,⟨_,aF.of aa⟩,?_⟩⟩;rw[e1];have O:c≠r:=ah aa N
 let T:Nat->L2.St->Hp->Prop:=fun i σ w=>Jp fun(j:List Int) (x y:Option V)=>K0 (σ=[some (.ref a),some (.ref c),x,y]) (w c=some (.lst (j.map V.int))) (j.length=D.length) (w r=some (.lst (B.map V.int))) (ac H w)
 refine i4 (xs:=B.map V.int) T
  ⟨D,none,none,rfl,kp aa N,rfl,aa,hS.trans (ac.new N)⟩ (fun i σ w _ zq=>by obtain⟨j,x,y,_,_,_,h,_⟩:=zq;exact aF.of h) ?_ ?_
 ·rintro i x σ w t hi ⟨j,u,v,rfl,f,I,J,m⟩ U;have A:i<B.length:=by
   have:=(cV.mp hi).1;rwa[ao]at this
  have al:=G (fun z=>by rw[z]at A;simp at A);obtain⟨z,rfl⟩:∃z,x=V.int z:=by
   rw[dj,bI A]at hi;exact⟨_,(fx hi).symm⟩
  have g:upd w t (.tup [.int i,.int z]) c=some (.lst (j.map V.int)):=kp f U;have n:(i:Int) % 12=((i % 12:Nat):Int):=by omega
  have Y:i % 12<j.length:=by omega
  refine⟨t,_,rfl,bE.of aa,rfl,_,_,rfl,_,_,rfl,rfl,?_⟩;have ab:vv (j.map V.int) ((i:Int) % 12)=some (.int j[i % 12]):=by rw[n];exact aM (by simp[Y])
  refine⟨_,rfl,_,rfl,_,_,rfl,rfl,(by show(0:Int)<12;decide),c,_,_,_,rfl,rfl,aF.of g,ab,_,rfl,_,_,rfl,rfl,_,rfl,_,rfl,_,_,rfl,rfl,(by show(0:Int)<12;decide),c,_,_,i % 12,rfl,rfl,g,?_,?_⟩
  ·rw[n];unfold Dx;rw[if_pos (by omega),if_pos (by rw[ao];omega)];rw[qy]
  ·refine⟨j.set (i % 12) (j[i % 12]+z),_,_,rfl,?_,by rw[qt];exact I,?_,?_⟩
   ·rw[aa,List.map_set]
   ·rw[am O.symm];exact kp J U
   ·intro b o e;rw[am (ah e M)];exact kp (m b o e) U
 ·rintro σ w ⟨j,x,y,rfl,f,I,J,m⟩;refine⟨_,rfl,(by show 3<=ai;decide),fun p hp=>k p c _ (m.free hp) ⟨0,0,j,aa,kp f hp,Int.le_refl _,Int.le_refl _⟩ (m.trans (ac.new hp))⟩
def yL(c:Nat):Prop:=97<=c/\c<=122
structure ow(w:Str):Prop where
 lo:1<=w.length
 hi:w.length<=8
 al:∀c∈w.cps.toList,yL c
theorem DU:∀n:Nat,n<26->(("abcdefghijklmnopqrstuvwxyz":Str).cps.toList)[n]?=some (97+n):=by decide +kernel
theorem DS:("abcdefghijklmnopqrstuvwxyz":Str).length<=ai:=by decide +kernel
theorem HG{r:Int}(a:0<=r)(e:r<26):vv (("abcdefghijklmnopqrstuvwxyz":Str).cps.toList) r=some (97+r.toNat):=by
 obtain⟨n,rfl⟩:=ia a;rw[qy];exact aM (DU n (by omega))
theorem vp(f:List Nat):∀a:Array Nat,((f.map fun c=>(⟨#[c]⟩:Str)).foldl (fun a p=>a++("":Str).cps++p.cps) a).toList=a.toList++f:=by
 have e:("":Str).cps=#[]:=by decide +kernel
 induction f with
 |nil=>intro a;simp
 |cons c f g =>
  intro a;rw[cw,List.foldl_cons,g,e];simp
theorem Cc(a:List Nat):(xj "" (a.map fun c=>(⟨#[c]⟩:Str))).cps.toList=a:=by
 unfold xj b_.Str.glued;cases a with
 |nil=>rfl
 |cons c a =>
  rw[cw];show((a.map fun c=>(⟨#[c]⟩:Str)).foldl (fun e p=>e++("":Str).cps++p.cps) #[c]).toList=_;rw[vp]
  rfl
theorem Iw{a b:Str}(h:a.cps.toList=b.cps.toList):a=b:=by
 cases a with|mk x=>cases b with|mk y=>exact congrArg Str.mk (Array.toList_inj.mp h)
theorem fB(a:Str):a.length=a.cps.toList.length:=by simp[Str.length]
theorem y8(a b:Str):(a++b).cps.toList=a.cps.toList++b.cps.toList:=by
 show(a.cps++b.cps).toList=_;simp
theorem Hv(z:Str)(m:Nat):(uJ z none (some (m:Int))).cps.toList=z.cps.toList.take m:=by
 unfold uJ;rw[HT.sIx_none,HT.sIx_nat,qj,xa,fB];show List.take _ _=_;rw[List.take_eq_take_iff];omega
theorem Hw(z:Str)(m:Nat):(uJ z (some (m:Int)) none).cps.toList=z.cps.toList.drop m:=by
 unfold uJ;rw[HT.sIx_none,HT.sIx_nat,fB];show List.take _ _=_;rw[jr (by rw[cA];omega)];by_cases h:m<=z.cps.toList.length
 ·rw[wU h]
 ·rw[wS (by omega),wR,qi (by omega)]
def fj(way size k:Nat):Nat:=(size+k * (way % 2)) % 8
def Bh(way m:Nat):Nat:=if way=0 then 0 else if way=1 then m else m / 2
def mY(b:List Nat)(way turn size k:Nat):List Nat :=
 (b.take (fj way size k)).take (Bh way (fj way size k))++[97+(turn+3 * k) % 26]++(b.take (fj way size k)).drop (Bh way (fj way size k))
def zO(b:List Nat)(way turn size k:Nat):Str:=⟨(mY b way turn size k).toArray⟩
theorem qF{b:List Nat}(e:b.length=7)(way turn a k:Nat):(mY b way turn a k).length=fj way a k+1:=by
 have f:fj way a k<8:=tj _ (by decide);unfold mY;rw[aP,aP,aK,cA,aK,e];have:Bh way (fj way a k)<=fj way a k:=by unfold Bh;split;omega;split;omega;omega
 simp;omega
theorem Ih{b:List Nat}(h:b.length=7)(f:∀c∈b,yL c)(way turn a k:Nat):ow (zO b way turn a k):=by
 have i:fj way a k<8:=tj _ (by decide);have g:=qF h way turn a k;have e:(zO b way turn a k).cps.toList=mY b way turn a k:=by simp[zO]
 refine⟨?_,?_,?_⟩
 ·rw[fB,e];omega
 ·rw[fB,e];omega
 ·rw[e];intro c hc;unfold mY at hc;rcases cG.mp hc with hc|hc
  ·rcases cG.mp hc with hc|hc
   ·exact f c (gG (gG hc))
   ·have:c=97+(turn+3 * k) % 26:=by simpa using hc
    subst this;have:(turn+3 * k) % 26<26:=tj _ (by decide);exact⟨by omega,by omega⟩
  ·exact f c (gG (lg hc))
theorem FH{b:List Nat}(f:b.length=7){way turn a:Nat}(r:way<3){j k:Nat}(t:j<26)(u:k<26)(h:zO b way turn a j=zO b way turn a k):j=k:=by
 have n:∀i,fj way a i<8:=fun i=>tj _ (by decide);have e:mY b way turn a j=mY b way turn a k:=by
  have:=congrArg (fun s=>Str.cps s |>.toList) h;simpa[zO]using this
 have o:fj way a j=fj way a k:=by
  have:=congrArg List.length e;rw[qF f,qF f]at this;omega
 have p:97+(turn+3 * j) % 26=97+(turn+3 * k) % 26:=by
  have g:∀i,Bh way (fj way a i)<=fj way a i:=fun i=>by unfold Bh;split;omega;split;omega;omega
  have get:∀i,(mY b way turn a i)[Bh way (fj way a i)]?=some (97+(turn+3 * i) % 26):=by
   intro i;unfold mY;have q:((b.take (fj way a i)).take (Bh way (fj way a i))).length=Bh way (fj way a i):=by
    rw[aK,aK,f];have:=n i;have:=g i;omega
   rw[iR,qz (by omega),q,wQ]
   rfl
  have l:=get j;have m:=get k;rw[e,o]at l;rw[l]at m;exact fx m
 omega
def mz(ws:Zb):Prop:=ws.Nodup/\∀w∈ws,ow w
def j8(b:List Nat)(way turn size n:Nat):List Str:=(iQ n).map (zO b way turn size)
theorem Bk{b:List Nat}(g:b.length=7)(i:∀c∈b,yL c){a turn e n:Nat}(l:a<3)(q:n<=26):mz (j8 b a turn e n):=by
 refine⟨?_,fun w m=>?_⟩
 ·unfold j8;rw[List.nodup_iff_pairwise_ne,List.pairwise_map];refine(List.nodup_range (n:=n)).imp_of_mem ?_;intro j k o p f h;exact f (FH g l (by have:=List.mem_range.mp o;omega) (by have:=List.mem_range.mp p;omega) h)
 ·obtain⟨k,_,rfl⟩:=bA.mp m;exact Ih g i _ _ _ _
inductive pb (vs:List V)(H:Hp)(Q:VK)(E:XK):Prop
 |mk (p c:Addr) (n:Nat):(vs=[.ref p,.int n])->(dW H p c)->(n<=26)->(∀(l:Addr) (ws:Zb) (H':Hp),mz ws->ws.length=n->H l=none->H' l=some (.lst (ws.map V.str))->dW H' p c->cQ p H H'->Q (.ref l) H')->pb  vs H Q E
theorem Gj{K:Za}{A:List V}{H:Hp}{Q:VK}{E:XK}(h:pb A H Q E):zX K bB (bq Q) (start A_ A) H:=by
 obtain⟨p,c,n,rfl,C,hn,k⟩:=h;refine⟨rfl,7,rfl,by decide,by decide,fun l I=>?_⟩
 let aC:Nat->List V->Hp->Prop:=fun i A u=>∃o:List Nat,A=o.map (fun c=>V.str ⟨#[c]⟩)/\o.length=i/\(∀c∈o,yL c)/\dW u p c/\cQ p H u/\u l=some (.lst A)
 refine n_ (lo:=0) (n:=wP 7) aC
  ⟨[],rfl,rfl,(fun _ h=>nomatch h),C.ex (ac.new I),cQ.new I,aa⟩ (fun i A u _ zq=>by obtain⟨_,_,_,_,_,_,h⟩:=zq;exact h) ?_ ?_
 rotate_left
 ·rintro i A u hi ⟨o,rfl,g,w,v,aT,aX⟩;have J:=C.nep I;have a0:=C.nec I;refine gN (lA ?_);refine⟨_,rfl,_,rfl,cc v (by decide) (by decide) fun r H2 h0 h1 D s=>⟨_,r,_,rfl,rfl,DS,HG h0 h1,?_⟩⟩;have a4:=s l _ aX J.symm;refine⟨a4,by rw[ao,g];exact ax (by omega),vn hi ⟨o++[97+r.toNat],by rw[aQ];rfl,by rw[aP,g];rfl,?_,D.upd J a0,?_,aa⟩⟩
  ·intro x hc;rcases cG.mp hc with hc|hc
   ·exact w x hc
   ·have:x=97+r.toNat:=by simpa using hc
    subst this;exact⟨by omega,by omega⟩
  ·intro b o' e nb;rw[am (ah e I)];exact s b o' (aT b o' e nb) nb
 ·rintro A H1 ⟨o,rfl,g,w,a5,L,a6⟩;refine⟨"",l,o.map fun c=>(⟨#[c]⟩:Str),rfl,rfl,aF.of (by rw[a6,tf];rfl),?_,?_⟩
  ·have e0:("":Str).length=0:=by decide +kernel
   rw[e0,Nat.mul_zero,tf];have:∀o:List Nat,(o.map ((fun x=>Str.length x) ∘ fun c=>(⟨#[c]⟩:Str))).sum=o.length:=by
    intro o
    induction o with
    |nil=>rfl
    |cons c o ih=>rw[cw,List.sum_cons,ih,dD];show 1+_=_;omega
   rw[this,g];decide
  refine⟨_,rfl,cc a5 (by decide) (by decide) fun bl H2 w0 w1 D s=>?_⟩;refine⟨_,rfl,cc D (by decide) (by decide) fun turn H3 t0 t1 a7 M=>?_⟩;refine⟨_,rfl,cc a7 (by decide) (by decide) fun bi H4 s0 s1 N O=>?_⟩;have T:cQ p H H4:=((L.trans s).trans M).trans O;obtain⟨j,rfl⟩:=ia w0;obtain⟨G,rfl⟩:=ia t0;obtain⟨sz,rfl⟩:=ia s0;have hb:=Cc o;generalize xj "" (o.map fun c=>(⟨#[c]⟩:Str))=base at hb ⊢;refine⟨(by show 0<=ai;decide),fun f hf=>?_⟩;obtain⟨op,a8⟩:=N.pen;have y:H f=none:=T.free a8 hf;have U:=C.nep y;have Y:=C.nec y;refine⟨_,rfl,n,rfl,by omega,by omega,dS (lo:=0) (n:=((n:Int)).toNat) (fun i σ u=>∃(a b c' d:Option V),σ=[some (.ref p),some (.int n),some (.str "abcdefghijklmnopqrstuvwxyz"),some (.str base),some (.int j),some (.int G),some (.int sz),some (.ref f),a,b,c',d] /\
   dW u p c/\cQ p H u/\u f=some (.lst ((j8 o j G sz i).map V.str)))
   ⟨_,_,_,_,rfl,N.upd U Y,T.trans (cQ.new hf),aa⟩ ?_ ?_⟩
  ·rintro i σ u hi ⟨a,b,c',d,rfl,v,t,z⟩;have bm:i<n:=by omega
   have bn:j<3:=by omega
   have a9:((G:Int)+3 * (0+(i:Int))) % 26=(((G+3 * i) % 26:Nat):Int):=by omega
   refine⟨_,rfl,_,rfl,_,rfl,_,_,rfl,rfl,.inl ⟨by decide,by decide⟩,_,_,rfl,rfl,_,_,rfl,rfl,(by show(0:Int)<26;decide),_,_,_,rfl,rfl,DS,HG (qd _ (by decide)) (qb _ (by decide)),?_⟩;have ab:base.length<=ai:=by rw[fB,hb,g];decide
   have e8:((sz:Int)+(0+(i:Int)) * ((j:Int) % 2)) % 8=((fj j sz i:Nat):Int):=by
    unfold fj;have:j=0∨j=1∨j=2:=by omega
    rcases this with rfl|rfl|rfl<;>simp<;>omega
   refine⟨_,rfl,_,rfl,_,rfl,_,rfl,_,_,rfl,rfl,(by show(0:Int)<2;decide),_,_,rfl,rfl,.inr ⟨by omega,by omega⟩,_,_,rfl,rfl,_,_,rfl,rfl,(by show(0:Int)<8;decide),_,rfl,base,rfl,ab,?_⟩;rw[e8];have m:=Hv base (fj j sz i);rw[hb]at m;generalize uJ base none (some ((fj j sz i:Nat):Int))=part at m ⊢;have h8:fj j sz i<8:=tj _ (by decide);have B:part.length=fj j sz i:=by rw[fB,m,aK,g];omega
   have pz:part.length<=ai:=by rw[B];exact df (ax (by omega))
   refine⟨_,rfl,.inr ⟨part,rfl,pz,_,rfl,.inr ⟨part,rfl,pz,_,_,rfl,rfl,⟨by decide,by decide⟩,(by show 3<=ai;decide),fun q hq=>?_⟩⟩⟩;have al:H q=none:=by
    obtain⟨bG,an⟩:=v.pen;exact t.free an hq
   have bd:vv [V.int 0,V.int (part.length:Nat),V.int ((part.length:Int) / 2)] (j:Int)=some (.int (Bh j (fj j sz i):Nat)):=by
    rw[B];have:j=0∨j=1∨j=2:=by omega
    rcases this with rfl|rfl|rfl
    ·rfl
    ·rfl
    ·show some (V.int (((fj 2 sz i:Nat):Int) / 2))=some (V.int ((Bh 2 (fj 2 sz i):Nat):Int));have:Bh 2 (fj 2 sz i)=fj 2 sz i / 2:=rfl;rw[this];congr 2
   refine⟨_,rfl,q,_,_,_,rfl,rfl,aF.of aa,bd,?_⟩;have as:upd u q (.lst [V.int 0,V.int (part.length:Nat),V.int ((part.length:Int) / 2)]) f=some (.lst ((j8 o j G sz i).map V.str)):=kp z hq;have c1:=Hv part (Bh j (fj j sz i));have c2:=Hw part (Bh j (fj j sz i));have l1:(uJ part none (some ((Bh j (fj j sz i):Nat):Int))).length<=8:=by rw[fB,c1,aK,m,aK,g];omega
   have l2:(uJ part (some ((Bh j (fj j sz i):Nat):Int)) none).length<=8:=by rw[fB,c2,cA,m,aK,g];omega
   refine⟨_,rfl,.inl ⟨rfl,_,aF.of as⟩,_,rfl,_,rfl,_,rfl,part,rfl,pz,_,rfl,_,_,rfl,rfl,?_,_,rfl,_,rfl,_,rfl,part,rfl,pz,_,_,rfl,rfl,?_,f,_,_,rfl,rfl,as,?_,?_⟩
   ·have:Str.length ⟨#[97+(((G:Int)+3 * (0+(i:Int))) % 26).toNat]⟩=1:=rfl;rw[this];exact df (ax (by omega))
   ·rw[fB,y8,aP,<-fB,<-fB];have:Str.length ⟨#[97+(((G:Int)+3 * (0+(i:Int))) % 26).toNat]⟩=1:=rfl;rw[this];exact df (ax (by omega))
   ·rw[ao];unfold j8;rw[ao,List.length_range];exact ax (by omega)
   ·refine⟨_,_,_,_,rfl,(v.upd (C.nep al) (C.nec al)).upd U Y,?_,?_⟩
    ·intro b' o' e nb;rw[am (ah e y)];exact kp (t b' o' e nb) hq
    ·rw[aa];unfold j8;rw[List.range_succ,aQ,aQ];congr 3;show[V.str _]=[V.str _];congr 2;refine Iw ?_;rw[y8,y8,c1,c2,m,a9,qy];simp[zO,mY]
  ·rintro σ u ⟨a,b,c',d,rfl,v,t,z⟩;have en:((n:Int)).toNat=n:=by omega
   rw[en]at z;exact⟨_,rfl,k f _ u (Bk g w (by omega) hn) (by unfold j8;rw[ao,List.length_range]) y z v t⟩
structure aJ where
 a:Str
 sg:List Str
 b:Str
deriving DecidableEq
def SignAt(H:Hp)(s:Addr)(sg:Zb):Prop:=H s=some (.tup (sg.map V.str))
def i9(H:Hp)(t:Addr)(d:aJ):Prop:=∃s,H t=some (.tup [.str d.a,.ref s,.str d.b])/\SignAt H s d.sg
def gB(H H':Hp):Prop:=∀b xs,H b=some (.tup xs)->H' b=some (.tup xs)
theorem i9.kt{H H':Hp}{t:Addr}{d:aJ}(k:gB H H')(h:i9 H t d):i9 H' t d:=by
 obtain⟨s,a,e⟩:=h;exact⟨s,k _ _ a,k _ _ e⟩
theorem cQ.kt{p:Addr}{H a:Hp}{xs:List V}(e:cQ p H a)(f:H p=some (.lst xs)):gB H a:=fun b g h=>e b _ h (fun z=>by rw[z,f]at h;cases h)
theorem ac.kt{H a:Hp}(e:ac H a):gB H a:=fun b f h=>e b _ h
theorem gB.trans{H e f:Hp}(a:gB H e)(b:gB e f):gB H f:=fun x xs h=>b x xs (a x xs h)
theorem fo{H:Hp}{l:Addr}{xs:List V}{o:HO}(h:H l=some (.lst xs)):gB H (upd H l o):=fun b a e=>by
 rw[am (fun z=>by rw[z,h]at e;cases e)];exact e
abbrev eP(H:Hp)(ts:Ze)(ds:List aJ):Prop:=Paired (i9 H) ts ds
theorem Paired.get{α β:Type}{R:α->β->Prop}{xs:List α}{a:List β}{i:Nat}{y:β}(g:Paired R xs a)(h:a[i]?=some y):∃x,xs[i]?=some x/\R x y:=by
 induction g generalizing i with
 |nil=>cases h
 |cons r _ e =>
  cases i with
  |zero=>injection h with h;subst h;exact⟨_,rfl,r⟩
  |succ i=>exact e h
theorem Paired.getL{α β:Type}{R:α->β->Prop}{xs:List α}{a:List β}{i:Nat}{x:α}(g:Paired R xs a)(h:xs[i]?=some x):∃y,a[i]?=some y/\R x y:=by
 induction g generalizing i with
 |nil=>cases h
 |cons r _ e =>
  cases i with
  |zero=>injection h with h;subst h;exact⟨_,rfl,r⟩
  |succ i=>exact e h
theorem eP.kt{H H':Hp}{a:Ze}{e:List aJ}(k:gB H H')(h:eP H a e):eP H' a e:=Paired.mapP h fun _ _ r=>r.kt k
theorem upd_id{H:Hp}{a:Addr}{o:HO}(h:H a=some o):upd H a o=H:=by
 funext b;by_cases e:b=a
 ·subst e;rw[aa,h]
 ·rw[am e]
def eN(x:Str):DT:=.k (.inr x)
def Fb(d:aJ):DT:=.t [eN d.a,.t (d.sg.map eN),eN d.b]
theorem sN{x y:Str}(h:eN x=eN y):x=y:=by
 unfold eN at h;injection h with h;injection h
theorem dY:∀{x y:Zb},x.map eN=y.map eN->x=y
 |[],[],_=>rfl
 |[],_::_,h=>by cases h
 |_::_,[],h=>by cases h
 |a::x,b::y,h=>by
  rw[cw,cw]at h;injection h with e f;rw[sN e,dY f]
theorem Jh{x y:aJ}(h:Fb x=Fb y):x=y:=by
 unfold Fb at h;injection h with h;injection h with e h;injection h with a h;injection h with f h;injection a with a;cases x;cases y;simp only at *;rw[sN e,dY a,sN f]
theorem jT(xs:Zb):DT.depths (xs.map eN)=0:=by
 induction xs with
 |nil=>rfl
 |cons x xs a=>rw[cw];show max (DT.depth (eN x)) (DT.depths _)=0;rw[a];rfl
theorem DF(d:aJ):(Fb d).depth=2:=by
 show DT.depths [eN d.a,.t (d.sg.map eN),eN d.b]+1=2;show max (DT.depth (eN d.a)) (max (DT.depths (d.sg.map eN)+1) (max (DT.depth (eN d.b)) 0))+1=2;rw[jT]
 rfl
theorem EZ(a:List aJ):DT.depths (a.map Fb)<=8:=by
 induction a with
 |nil=>exact cp _
 |cons x xs e=>rw[cw];show max (DT.depth (Fb x)) (DT.depths _)<=8;rw[DF];omega
theorem yZ{K:Za}{H:Hp}:∀xs:List Str,DIns K H (xs.map eN) (xs.map V.str)
 |[]=>by show DIns K H [] [];unfold DIns;rfl
 |x::xs=>by
  rw[cw,cw];unfold DIns;refine⟨_,_,rfl,?_,yZ xs⟩;unfold eN oy
  rfl
theorem Ht{K:Za}{H:Hp}(x:Str):oy K H (eN x) (.str x):=by unfold eN oy;rfl
theorem i5{K:Za}{H:Hp}{s:Addr}{a:Zb}(h:bE K H s (a.map V.str)):oy K H (.t (a.map eN)) (.ref s):=by
 unfold oy;exact⟨s,_,rfl,h,yZ _⟩
theorem i9.dIn{K:Za}{H:Hp}{t:Addr}{d:aJ}(h:i9 H t d):oy K H (Fb d) (.ref t):=by
 obtain⟨s,a,e⟩:=h;unfold Fb;unfold oy;refine⟨t,_,rfl,bE.of a,?_⟩;unfold DIns;refine⟨_,_,rfl,Ht _,?_⟩;unfold DIns;refine⟨_,_,rfl,i5 (bE.of e),?_⟩;unfold DIns;refine⟨_,_,rfl,Ht _,?_⟩;unfold DIns
 rfl
theorem eP.dIns{K:Za}{H:Hp}{a:Ze}{e:List aJ}(h:eP H a e):DIns K H (e.map Fb) (a.map V.ref):=by
 induction h with
 |nil=>show DIns K H [] [];unfold DIns;rfl
 |cons r _ f =>
  rw[cw,cw];unfold DIns;exact⟨_,_,rfl,r.dIn,f⟩
theorem Dt{d:aJ}{a:List aJ}:Fb d∈a.map Fb↔d∈a:=by
 constructor
 ·intro h;obtain⟨x,hx,e⟩:=bA.mp h;rw[<-Jh e];exact hx
 ·exact qa
def B0(ds:List aJ)(d:aJ):List aJ:=if d∈ds then ds else ds++[d]
inductive ud (vs:List V)(H:Hp)(Q:VK)(E:XK):Prop
 |mk (l t:Addr) (ts:Ze) (ds:List aJ) (d:aJ):(vs=[.ref l,.ref t])->(H l=some (.lst (ts.map V.ref)))->(eP H ts ds)->(i9 H t d)->(ds.length<=1000)->(∀ts':List Addr,eP H ts' (B0 ds d)->Q .non (upd H l (.lst (ts'.map V.ref))))->ud  vs H Q E
theorem Kk{K:Za}{i:List V}{H:Hp}{Q:VK}{E:XK}(h:ud i H Q E):Eh K (bq Q) (start Fo i) H:=by
 obtain⟨l,t,j,g,d,rfl,a,e,m,n,k⟩:=h;refine⟨_,rfl,_,rfl,Fb d,g.map Fb,l,_,m.dIn,rfl,.inl (aF.of a),e.dIns,by rw[DF];decide,EZ g,_,rfl,?_⟩;by_cases f:d∈g
 ·rw[if_pos rfl,zzr1 (Dt.mpr f)];refine aZ ?_;have:=k j (by unfold B0;rw[if_pos f];exact e);rw[upd_id a]at this;exact this
 ·rw[if_pos rfl,zzr0 (fun z=>f (Dt.mp z))];refine br ?_;refine⟨_,rfl,.inl ⟨rfl,_,aF.of a⟩,_,rfl,l,_,_,rfl,rfl,a,?_,?_⟩
  ·rw[ao,Paired.length e];exact ax n
  ·have:=k (j++[t]) (by unfold B0;rw[if_neg f];exact eE e m);rw[aQ]at this;exact this
structure DI(R:aJ->Prop)(H0:Hp)(p c l:Addr)(m:Nat)(H:Hp):Prop where
 pen:dW H p c
 ds:∃ts ds,H l=some (.lst (ts.map V.ref))/\eP H ts ds/\ds.Nodup/\(∀d∈ds,R d)/\ds.length<=m
 ex:cQ p H0 H
 fr:H0 l=none
 pl:p≠l
 cl:c≠l
section
variable{R:aJ->Prop}{H0 H H':Hp}{p c l:Addr}{m:Nat}
theorem dW.lst{H:Hp}{p c:Addr}(h:dW H p c):∃xs,H p=some (.lst xs):=by
 obtain⟨a,r,f,e,_⟩:=h;exact⟨_,e⟩
theorem DI.took(h:DI R H0 p c l m H)(a:dW H' p c)(e:cQ p H H'):DI R H0 p c l m H':=by
 obtain⟨f,g,i,j,k⟩:=h.ds;obtain⟨xs,hx⟩:=h.pen.lst;exact⟨a,⟨f,g,e _ _ i h.pl.symm,j.kt (e.kt hx),k⟩,h.ex.trans e,h.fr,h.pl,h.cl⟩
theorem DI.new(h:DI R H0 p c l m H){q:Addr}{o:HO}(a:H q=none):DI R H0 p c l m (upd H q o) :=
 h.took (h.pen.ex (ac.new a)) (cQ.new a)
theorem DI.up(h:DI R H0 p c l m H){n:Nat}(a:m<=n):DI R H0 p c l n H:=by
 obtain⟨e,f,g,i,j,k,o⟩:=h.ds;exact⟨h.pen,⟨e,f,g,i,j,k,bo o a⟩,h.ex,h.fr,h.pl,h.cl⟩
theorem DI.put(h:DI R H0 p c l m H){t:Addr}{d:aJ}{Q:VK}{E:XK}(r:i9 H t d)(s:R d)(u:m<=1000)(k:∀H',DI R H0 p c l (m+1) H'->Q .non H'):ud [.ref l,.ref t] H Q E:=by
 obtain⟨v,f,i,w,j,q,y⟩:=h.ds;refine⟨l,t,v,f,d,rfl,i,w,r,bo y u,fun g z=>k _ ⟨h.pen.upd h.pl h.cl,⟨g,B0 f d,aa,z.kt (fo i),?_,?_,?_⟩,?_,h.fr,h.pl,h.cl⟩⟩
 ·unfold B0;split
  ·exact j
  ·next A =>
   rw[f_];refine⟨j,by simp,?_⟩;intro a B b C e;have:b=d:=by simpa using C
   subst this;exact A (e▸B)
 ·intro x hx;unfold B0 at hx;split at hx
  ·exact q x hx
  ·rcases cG.mp hx with hx|hx
   ·exact q x hx
   ·have:x=d:=by simpa using hx
    rw[this];exact s
 ·unfold B0;split
  ·omega
  ·rw[aP];show f.length+1<=m+1;omega
 ·intro b o e n;rw[am (ah e h.fr)];exact h.ex b o e n
end
theorem dW.ne_strs{H:Hp}{p c a:Addr}{g:Zb}(h:dW H p c)(f:H a=some (.lst (g.map V.str))):a≠p:=by
 intro e;obtain⟨x,y,j,i,_⟩:=h;rw[e,i]at f;injection f with f;injection f with f;cases g with
 |nil=>cases f
 |cons w g=>injection f with f;cases f
theorem sO{K:Za}{r:R2}(B:∀x y H Q,bF K x y H Q->r x y H Q){σ:L2.St}{H:Hp}{Q:VK}{p c a:Addr}{j:Nat}{e:Zb}(C:σ[0]?=some (some (.ref p)))(o:σ[j]?=some (some (.ref a)))(q:dW H p c)
  (g:H a=some (.lst (e.map V.str))) (h:e≠[]) (s:e.length<=1000) (k:∀w∈e,∀H',dW H' p c->cQ p H H'->Q (.str w) H') :
  ∃v,σ[j]?=some (some v)/\∃t,σ[0]?=some (some t)/\∃u,σ[j]?=some (some u)/\cK K [u] H fun y D=>bB [t,y] D (fun y E=>r v y E Q) E0:=by
 have I:0<e.length:=by cases e with|nil=>exact absurd rfl h|cons _ _=>simp
 have G:(V.int ((e.map V.str).length:Nat))=V.int (e.length:Nat):=by rw[ao]
 have i:=q.ne_strs g;have l:∀(x:Int) (H':Hp),0<=x->x<(e.length:Int)->dW H' p c->cQ p H H'->bF K (.ref a) (.int x) H' Q:=by
  intro x H' m z f ex;obtain⟨n,rfl⟩:=ia m;have A:n<e.length:=by omega
  exact⟨a,_,(n:Int),.str e[n],rfl,rfl,aF.of (ex _ _ g i),aM (by simp[A]),k _ (List.getElem_mem A) H' f ex⟩
 exact⟨_,o,_,C,_,o,.inl ⟨a,_,rfl,.inl (aF.of g),by rw[G];exact cc q (by omega) (by omega) fun x H' m z f ex=>B _ _ _ _ (l x H' m z f ex)⟩⟩
def Up(up:Bool)(J4:Zb)(a b:Str):Prop:=∃i j:Nat,J4[i]?=some a/\J4[j]?=some b/\(if up=true then i<j else j<i)
structure lW(J0 J2 J4:Zb)(up:Bool)(d:aJ):Prop where
 a:d.a∈J4
 b:d.b∈J4
 sg:(∃w∈J0,d.sg=[("ask":Str),w])∨(∃w∈J2,d.sg=[("say":Str),w])∨(d.sg=[("still":Str)]/\Up up J4 d.a d.b)
def cj:List Str:=[("still":Str)]
structure JY(J0 J2 J4:Zb)(d:aJ):Prop where
 a:d.a∈J4
 b:d.b∈J4
 sg:(∃w∈J0,d.sg=[("ask":Str),w])∨(∃w∈J2,d.sg=[("say":Str),w])∨d.sg=cj
theorem lW.d{J0 e f:Zb}{up:Bool}{d:aJ}(h:lW J0 e f up d):JY J0 e f d:=⟨h.a,h.b,h.sg.imp id (Or.imp id And.left)⟩
inductive Reach(ds:List aJ)(a:Str):Str->Prop
 |one {b:Str}(h:(⟨a,cj,b⟩:aJ)∈ds):Reach ds a b
 |step {b c:Str}(r:Reach ds a b) (h:(⟨b,cj,c⟩:aJ)∈ds):Reach ds a c
theorem DC{e:Zb}(n:e.Nodup){i j:Nat}{a:Str}(hi:e[i]?=some a)(o:e[j]?=some a):i=j:=by
 obtain⟨f,g⟩:=cV.mp hi;obtain⟨k,l⟩:=cV.mp o;have m:=List.pairwise_iff_getElem.mp n;rcases Nat.lt_trichotomy i j with h|h|h
 ·exact absurd (g.trans l.symm) (m i j f k h)
 ·exact h
 ·exact absurd (l.trans g.symm) (m j i k f h)
theorem Up.trans{up:Bool}{e:Zb}(g:e.Nodup){a b c:Str}(l:Up up e a b)(m:Up up e b c):Up up e a c:=by
 obtain⟨i,j,n,o,h⟩:=l;obtain⟨r,k,p,q,f⟩:=m;have:=DC g o p;subst this;refine⟨i,k,n,q,?_⟩;cases up
 ·simp at h f ⊢;omega
 ·simp at h f ⊢;omega
theorem Up.irr{up:Bool}{e:Zb}(f:e.Nodup){a:Str}(h:Up up e a a):False:=by
 obtain⟨i,j,g,k,h⟩:=h;have:=DC f g k;subst this;cases up
 ·simp at h
 ·simp at h
theorem FM{j k g:Zb}{i:List aJ}{up:Bool}(l:g.Nodup)(m:∀d∈i,lW j k g up d){a b:Str}(h:Reach i a b):Up up g a b:=by
 have f:∀{a b:Str},(⟨a,cj,b⟩:aJ)∈i->Up up g a b:=by
  intro a b h;rcases(m _ h).sg with⟨w,_,e⟩|⟨w,_,e⟩|⟨_,e⟩
  ·cases e
  ·cases e
  ·exact e
 induction h with
 |one h=>exact f h
 |step r h n=>exact n.trans l (f h)
inductive g6 (vs:List V)(H:Hp)(Q:VK)(E:XK):Prop
 |mk (p c l1 l2 l3:Addr) (J0 J2 J4:Zb) (full:Int):(vs=[.ref p,.ref l1,.ref l2,.ref l3,.int full])->(dW H p c)->(H l1=some (.lst (J0.map V.str)))->(H l2=some (.lst (J2.map V.str)))->(H l3=some (.lst (J4.map V.str)))->(J0.length<=4)->(J2≠[])->(J2.length<=4)->(J4≠[])->(J4.length<=26)->(0<=full)->(full<=2)->(∀(l:Addr) (ts:Ze) (ds:List aJ) (up:Bool) (H':Hp),H l=none->H' l=some (.lst (ts.map V.ref))->eP H' ts ds->ds.Nodup->(∀d∈ds,lW J0 J2 J4 up d)->ds.length<=600->dW H' p c->cQ p H H'->Q (.ref l) H')->g6  vs H Q E
theorem at4{x r:Int}(a:0<=x)(e:x<=2)(f:0<=r)(g:r<4):∃j:Int,vv [V.int x,.int 1,.int 1,.int 2] r=some (.int j)/\0<=j/\j<=2:=by
 have:r=0∨r=1∨r=2∨r=3:=by omega
 rcases this with rfl|rfl|rfl|rfl
 ·exact⟨x,rfl,a,e⟩
 ·exact⟨1,rfl,by decide,by decide⟩
 ·exact⟨1,rfl,by decide,by decide⟩
 ·exact⟨2,rfl,by decide,by decide⟩
theorem Fc(a:Zb)(k:Nat):gq (a.map V.str) (some (k:Int)) none=(a.drop k).map V.str:=by
 unfold gq;rw[HT.sIx_none,HT.sIx_nat,ao,jr (by rw[cA,ao];omega),tm];by_cases h:k<=a.length
 ·rw[wU h]
 ·rw[wS (by omega),qi (by simp),qi (by rw[ao];omega)]
theorem DO(a:Zb)(k:Nat):gq (a.map V.str) none (some (k:Int))=(a.take k).map V.str:=by
 unfold gq;rw[HT.sIx_none,HT.sIx_nat,ao,qj,xa,tq,List.take_eq_take_iff,ao];omega
theorem uI{K:Za}{H:Hp}{a:Addr}{e:Zb}(h:aF K H a (e.map V.str)):oy K H (.s (e.map eN)) (.ref a):=by
 unfold oy;exact⟨a,_,rfl,h,yZ _⟩
theorem DN{K:Za}{H:Hp}{a:Addr}(h:aF K H a []):oy K H (.s []) (.ref a):=by
 unfold oy;refine⟨a,_,rfl,h,?_⟩;unfold DIns
 rfl
inductive DdI(G:aJ->Prop)(H:Hp)(p c l l1 l2 l3:Addr)(full dn:Int)(i:Nat)(σ:L2.St)(H':Hp):Prop
 |mk (a7 a8 a9 a10 a11 a12:Option V):σ=[some (.ref p),some (.ref l1),some (.ref l2),some (.ref l3),some (.int full),some (.ref l),some (.int dn),a7,a8,a9,a10,a11,a12]->DI G H p c l (11 * i) H'->DdI G H p c l l1 l2 l3 full dn i σ H'
theorem vk{K:Za}{vs:List V}{H:Hp}{Q:VK}{E:XK}(h:g6 vs H Q E):qJ K bB ud (bq Q) (start rj vs) H:=by
 obtain⟨p,c,l1,l2,l3,J0,J2,J4,a,rfl,hp,h1,h2,h3,ha,b1,hs,aX,hr,f0,f2,k⟩:=h;have n1:=hp.ne_strs h1;have n2:=hp.ne_strs h2;have n3:=hp.ne_strs h3;refine⟨(by show 0<=ai;decide),fun l hl=>?_⟩;have a0:=hp.nep hl;have b2:=hp.nec hl;refine⟨_,rfl,cc (hp.ex (ac.new hl)) (by decide) (by decide) fun M H1 d0 d1 b3 a4=>?_⟩;generalize hG:lW J0 J2 J4 (decide (M=0))=G;have base:DI G H p c l 0 H1:=⟨b3,⟨[],[],a4 _ _ aa a0.symm,.nil,List.nodup_nil,by simp,cp _⟩,(cQ.new hl).trans a4,hl,a0,b2⟩;refine⟨_,rfl,l3,rfl,⟨_,aF.of (base.ex _ _ h3 n3)⟩,?_⟩;refine i4 (xs:=J4.map V.str) (DdI G H p c l l1 l2 l3 a M)
  ⟨_,_,_,_,_,_,rfl,base⟩ (fun i σ H' _ zq=>by obtain⟨_,_,_,_,_,_,_,D⟩:=zq;exact aF.of (D.ex _ _ h3 n3)) ?_ ?_
 ·rintro i x σ H' t hi ⟨a7,a8,C,m,v,A,rfl,D⟩ ht;obtain⟨room,f,rfl⟩:∃room,J4[i]?=some room/\x=V.str room:=by
   rw[dj]at hi;cases q:J4[i]? with
   |none=>rw[q]at hi;cases hi
   |some r=>rw[q]at hi;exact⟨r,rfl,(fx hi).symm⟩
  have cC:i<J4.length:=(cV.mp f).1;have N:room∈J4:=dw f;refine⟨t,_,rfl,bE.of aa,rfl,_,_,rfl,_,_,rfl,rfl,?_⟩;have D1:=D.new ht (o:=.tup [.int i,.str room]);refine⟨(by show 4<=ai;decide),fun q hq=>⟨_,rfl,cc (D1.new hq).pen (by decide) (by decide) fun r H2 r0 r1 b4 a5=>?_⟩⟩;obtain⟨j,hj,j0,j2⟩:=at4 (x:=0) (by decide) (by decide) r0 r1;have D2:=(D1.new hq).took b4 a5;refine⟨q,_,_,_,rfl,rfl,aF.of (a5 q _ aa (D1.pen.nep hq).symm),hj,j,rfl,by omega,by omega,?_⟩
  let b5:Nat->L2.St->Hp->Prop:=fun i' σ O=>Md fun(C m:Option V)=>σ=[some (.ref p),some (.ref l1),some (.ref l2),some (.ref l3),some (.int a),some (.ref l),some (.int M),some (.int i),some (.str room),C,m,v,A]/\DI G H p c l (11 * i+i') O
  refine dS (lo:=0) (n:=j.toNat) b5
   ⟨_,_,rfl,D2⟩ ?_ ?_
  ·rintro i' σ H3 I ⟨C,m,rfl,D3⟩;refine sO (fun _ _ _ _ h=>h) rfl rfl D3.pen (D3.ex _ _ h2 n2) b1 (by omega) fun w hw H4 b6 b7=>?_;have D4:=D3.took b6 b7;refine⟨(by show 2<=ai;decide),fun L g=>?_⟩;have D5:=D4.new g (o:=.tup [.str "say",.str w]);refine⟨_,rfl,_,rfl,_,rfl,sO (fun _ _ _ _ h=>h) rfl rfl D5.pen (D5.ex _ _ h3 n3) aX (by omega) fun U J H6 b8 a6=>?_⟩;have D6:=D5.took b8 a6;refine⟨(by show 3<=ai;decide),fun dr u=>?_⟩;have D7:=D6.new u (o:=.tup [.str room,.ref L,.str U]);have bd:H6 L=some (.tup [.str "say",.str w]):=a6 _ _ aa (D4.pen.nep g).symm;refine D7.put (d:=⟨room,["say",w],U⟩) ⟨L,aa,kp bd u⟩ ?_ (by omega) fun H8 Y=>⟨_,_,rfl,Y⟩;rw[<-hG];exact⟨N,J,.inr (.inl ⟨w,hw,rfl⟩)⟩
  rintro σ H3 ⟨C,m,rfl,bi⟩;have D3:DI G H p c l (11 * i+2) H3:=bi.up (by omega);clear bi;refine⟨_,rfl,l1,rfl,⟨_,aF.of (D3.ex _ _ h1 n1)⟩,?_⟩
  let b9:Nat->L2.St->Hp->Prop:=fun i' σ O=>Md fun(C v:Option V)=>σ=[some (.ref p),some (.ref l1),some (.ref l2),some (.ref l3),some (.int a),some (.ref l),some (.int M),some (.int i),some (.str room),C,m,v,A]/\DI G H p c l (11 * i+2+2 * i') O
  refine fz (xs:=J0.map V.str) b9
   ⟨_,_,rfl,D3⟩ (fun i σ H' _ zq=>by obtain⟨_,_,_,D⟩:=zq;exact aF.of (D.ex _ _ h1 n1)) ?_ ?_
  ·rintro i' x σ H4 I ⟨C,v,rfl,D4⟩;obtain⟨ask,al,rfl⟩:∃ask,J0[i']?=some ask/\x=V.str ask:=by
    rw[dj]at I;cases q:J0[i']? with
    |none=>rw[q]at I;cases I
    |some r=>rw[q]at I;exact⟨r,rfl,(fx I).symm⟩
   have c0:i'<J0.length:=(cV.mp al).1;have cb:ask∈J0:=dw al;refine⟨_,rfl,(by show 4<=ai;decide),fun q hq=>⟨_,rfl,cc (D4.new hq).pen (by decide) (by decide) fun r H5 r0 r1 ce bl=>?_⟩⟩;obtain⟨j,hj,j0,j2⟩:=at4 f0 f2 r0 r1;have D5:=(D4.new hq).took ce bl;refine⟨q,_,_,_,rfl,rfl,aF.of (bl q _ aa (D4.pen.nep hq).symm),hj,j,rfl,by omega,by omega,?_⟩
   let ch:Nat->L2.St->Hp->Prop:=fun bm σ O=>∃C:Option V,σ=[some (.ref p),some (.ref l1),some (.ref l2),some (.ref l3),some (.int a),some (.ref l),some (.int M),some (.int i),some (.str room),C,m,some (.str ask),A]/\DI G H p c l (11 * i+2+2 * i'+bm) O
   refine dS (lo:=0) (n:=j.toNat) ch
    ⟨_,rfl,D5⟩ ?_ ?_
   ·rintro bm σ H6 cB ⟨C,rfl,D6⟩;refine⟨_,rfl,_,rfl,_,rfl,(by show 2<=ai;decide),fun L g=>?_⟩;have D7:=D6.new g (o:=.tup [.str "ask",.str ask]);refine sO (fun _ _ _ _ h=>h) rfl rfl D7.pen (D7.ex _ _ h3 n3) aX (by omega) fun U J H8 ci bn=>?_;have Y:=D7.took ci bn;refine⟨(by show 3<=ai;decide),fun dr u=>?_⟩;have D9:=Y.new u (o:=.tup [.str room,.ref L,.str U]);have bG:H8 L=some (.tup [.str "ask",.str ask]):=bn _ _ aa (D6.pen.nep g).symm;refine D9.put (d:=⟨room,["ask",ask],U⟩) ⟨L,aa,kp bG u⟩ ?_ (by omega) fun H8 Y=>⟨_,rfl,Y⟩;rw[<-hG];exact⟨N,J,.inl ⟨ask,cb,rfl⟩⟩
   ·rintro σ H6 ⟨C,rfl,D6⟩;exact⟨_,_,rfl,D6.up (by omega)⟩
  rintro σ H4 ⟨C,v,rfl,bL⟩;have D4:DI G H p c l (11 * i+10) H4:=bL.up (by rw[ao];omega);clear bL;have B:∀(H9:Hp) (A:Option V),DI G H p c l (11 * i+11) H9->DdI G H p c l l1 l2 l3 a M (i+1) [some (.ref p),some (.ref l1),some (.ref l2),some (.ref l3),some (.int a),some (.ref l),some (.int M),some (.int i),some (.str room),C,m,v,A] H9:=fun H9 A D9=>⟨_,_,_,_,_,_,rfl,D9.up (by omega)⟩;refine⟨_,rfl,_,rfl,_,_,rfl,rfl,_,rfl,l3,_,rfl,aF.of (D4.ex _ _ h3 n3),fun q1 ck=>?_⟩;have D5:=D4.new ck (o:=.lst (gq (J4.map V.str) (some ((i:Int)+1)) none));refine⟨_,rfl,_,rfl,_,rfl,l3,_,rfl,aF.of (D5.ex _ _ h3 n3),fun q2 bN=>?_⟩;have e1:gq (J4.map V.str) (some ((i:Int)+1)) none=(J4.drop (i+1)).map V.str:=Fc J4 (i+1);rw[DO];have D6:=D5.new bN (o:=.lst ((J4.take i).map V.str));refine⟨(by show 2<=ai;decide),fun q3 as=>?_⟩;have D7:=D6.new as (o:=.lst [.ref q1,.ref q2]);obtain⟨lt,q,hq,ab,T⟩:∃(lt:Zb) (q:Addr),vv [V.ref q1,.ref q2] M=some (.ref q) /\
    upd (upd (upd H4 q1 (.lst (gq (J4.map V.str) (some ((i:Int)+1)) none))) q2 (.lst ((J4.take i).map V.str))) q3 (.lst [.ref q1,.ref q2]) q=some (.lst (lt.map V.str))/\lt.length<=26 /\
    ∀w∈lt,w∈J4/\Up (decide (M=0)) J4 room w:=by
   have:M=0∨M=1:=by omega
   rcases this with rfl|rfl
   ·refine⟨J4.drop (i+1),q1,rfl,?_,by rw[cA];omega,fun w hw=>⟨lg hw,?_⟩⟩
    ·refine(kp (kp aa bN) as).trans ?_;rw[e1]
    ·obtain⟨n,hn⟩:=List.getElem?_of_mem hw;rw[List.getElem?_drop]at hn;exact⟨i,i+1+n,f,hn,by rw[if_pos (by decide)];omega⟩
   ·refine⟨J4.take i,q2,rfl,?_,by rw[aK];omega,fun w hw=>⟨gG hw,?_⟩⟩
    ·exact kp aa as
    ·obtain⟨n,hn⟩:=List.getElem?_of_mem hw;have cl:n<i:=by
      have:=(cV.mp hn).1;rw[aK]at this;omega
     rw[List.getElem?_take_of_lt cl]at hn;exact⟨i,n,f,hn,by rw[if_neg (by decide)];omega⟩
  refine⟨_,rfl,q3,_,_,_,rfl,rfl,aF.of aa,hq,?_⟩;generalize upd (upd (upd H4 q1 (.lst (gq (J4.map V.str) (some ((i:Int)+1)) none))) q2 (.lst ((J4.take i).map V.str))) q3 (.lst [.ref q1,.ref q2])=H7 at D7 ab ⊢;refine⟨_,rfl,(by show 0<=ai;decide),fun e he=>⟨.s (lt.map eN),.s [],uI (aF.of (kp ab he)),DN (aF.of aa),?_,by decide,_,rfl,?_⟩⟩
  ·show DT.depths (lt.map eN)+1<=8;rw[jT];decide
  have Y:=D7.new he (o:=.lst []);by_cases hz:lt=[]
  ·have ez:(!decide (DT.s (lt.map eN)=DT.s []))=false:=by rw[hz,zzr1 (by rfl)];rfl
   rw[ez];exact aZ (aZ (B _ _ (Y.up (by omega))))
  ·have ez:(!decide (DT.s (lt.map eN)=DT.s []))=true:=by
    rw[zzr0 (fun z=>hz (dY (y:=[]) (by injection z)))];rfl
   rw[ez];refine br ?_;refine⟨_,rfl,cc Y.pen (by decide) (by decide) fun r H9 r0 r1 cm bP=>⟨rfl,_,rfl,?_⟩⟩;have D9:=Y.took cm bP;refine pK (fun _=>?_) (fun _=>B _ _ (D9.up (by omega)));refine⟨_,rfl,_,rfl,(by show 1<=ai;decide),fun L g=>?_⟩;have bT:=D9.new g (o:=.tup [.str "still"]);have aC:upd H9 L (.tup [.str "still"]) q=some (.lst (lt.map V.str)):=kp (bP _ _ (kp ab he) (Y.pen.ne_strs (kp ab he))) g;refine sO (fun _ _ _ _ h=>.inl h) rfl rfl bT.pen aC hz (by omega) fun U J cn b0 an=>?_;have co:=bT.took b0 an;refine⟨(by show 3<=ai;decide),fun dr u=>?_⟩;have cs:=co.new u (o:=.tup [.str room,.ref L,.str U]);have aT:cn L=some (.tup [.str "still"]):=an _ _ aa (D9.pen.nep g).symm;refine cs.put (d:=⟨room,[("still":Str)],U⟩) ⟨L,aa,kp aT u⟩ ?_ (by omega) fun c1 ct=>B _ _ ct;rw[<-hG];exact⟨N,(T.2 U J).1,.inr (.inr ⟨rfl,(T.2 U J).2⟩)⟩
 ·rintro σ H' ⟨a7,a8,C,m,v,A,rfl,D⟩;obtain⟨ts,ds,g1,g2,g3,g4,g5⟩:=D.ds;rw[ao]at g5;rw[<-hG]at g4;exact⟨_,rfl,k l ts ds _ H' hl g1 g2 g3 g4 (by omega) D.pen D.ex⟩
structure cy(J0 J2 J4:Zb)(ds:List aJ):Prop where
 okA:mz J0
 okS:mz J2
 apart:∀w∈J2,w∉J0
 okR:mz J4
 asks0:J0≠[]
 says0:J2≠[]
 rooms0:J4≠[]
 asks4:J0.length<=4
 says4:J2.length<=4
 rooms26:J4.length<=150
 nodup:ds.Nodup
 good:∀d∈ds,JY J0 J2 J4 d
 few:ds.length<=1000
 noround:∀r,¬Reach ds r r
structure gV(H:Hp)(t l1 l2 l3 l4:Addr)(ts:Ze)(J0 J2 J4:Zb)(ds:List aJ):Prop where
 t:H t=some (.tup [.ref l1,.ref l2,.ref l3,.ref l4])
 a1:H l1=some (.lst (J0.map V.str))
 a2:H l2=some (.lst (J2.map V.str))
 a3:H l3=some (.lst (J4.map V.str))
 a4:H l4=some (.lst (ts.map V.ref))
 ds:eP H ts ds
theorem dW.ne_refs{H:Hp}{p c a:Addr}{g:Ze}(i:dW H p c)(f:H a=some (.lst (g.map V.ref))):a≠p:=by
 intro e;obtain⟨x,y,k,j,_⟩:=i;rw[e,j]at f;injection f with f;injection f with f;cases g with
 |nil=>cases f
 |cons w h =>
  injection f with _ f;cases h with
  |nil=>cases f
  |cons w h=>injection f with f;cases f
theorem gV.ex{H f:Hp}{p c t g i l3 j:Addr}{k:Ze}{l m n:Zb}{o:List aJ}(h:gV H t g i l3 j k l m n o)(a:dW H p c)(e:cQ p H f):gV f t g i l3 j k l m n o:=by
 obtain⟨xs,hx⟩:=a.lst;exact⟨e.kt hx _ _ h.t,e _ _ h.a1 (a.ne_strs h.a1),e _ _ h.a2 (a.ne_strs h.a2),e _ _ h.a3 (a.ne_strs h.a3),e _ _ h.a4 (a.ne_refs h.a4),h.ds.kt (e.kt hx)⟩
theorem gV.same{H a:Hp}{t f g l3 i:Addr}{j:Ze}{k l m:Zb}{n:List aJ}(h:gV H t f g l3 i j k l m n)(e:ac H a):gV a t f g l3 i j k l m n :=
 ⟨e _ _ h.t,e _ _ h.a1,e _ _ h.a2,e _ _ h.a3,e _ _ h.a4,h.ds.kt (ac.kt e)⟩
inductive pc (vs:List V)(H:Hp)(Q:VK)(E:XK):Prop
 |mk (p c:Addr) (most full:Int):(vs=[.ref p,.int most,.int full])->(dW H p c)->(0<most)->(most<=25)->(0<=full)->(full<=2)->(∀(t l1 l2 l3 l4:Addr) (ts:Ze) (J0 J2 J4:Zb) (ds:List aJ) (H':Hp),gV H' t l1 l2 l3 l4 ts J0 J2 J4 ds->cy J0 J2 J4 ds->J4.length<=most.toNat->ds.length<=600->dW H' p c->cQ p H H'->Q (.ref t) H')->pc  vs H Q E
theorem at6{r:Int}(a:0<=r)(e:r<6):∃n:Nat,vv [V.int 0,.int 1,.int 1,.int 2,.int 2,.int 3] r=some (.int n)/\n<=3:=by
 have:r=0∨r=1∨r=2∨r=3∨r=4∨r=5:=by omega
 rcases this with rfl|rfl|rfl|rfl|rfl|rfl
 ·exact⟨0,rfl,by decide⟩
 ·exact⟨1,rfl,by decide⟩
 ·exact⟨1,rfl,by decide⟩
 ·exact⟨2,rfl,by decide⟩
 ·exact⟨2,rfl,by decide⟩
 ·exact⟨3,rfl,by decide⟩
theorem Hz{a:Zb}(e:a.length=8){n:Nat}(j:n<=3):gq (a.map V.str) (some 4) (some (5+(n:Int)))=((a.drop 4).take (1+n)).map V.str:=by
 unfold gq;have f:HT.sIx (a.map V.str).length 0 (some 4)=min 4 (a.map V.str).length:=HT.sIx_nat _ _ 4;have g:HT.sIx (a.map V.str).length (a.map V.str).length (some (5+(n:Int)))=min (5+n) (a.map V.str).length:=HT.sIx_nat _ _ (5+n);rw[f,g,ao,e,tq,tm];have h:min 4 8=4:=by decide
 have i:min (5+n) 8-4=1+n:=by omega
 rw[h,i]
theorem Gk{K:Za}{vs:List V}{H:Hp}{Q:VK}{E:XK}(h:pc vs H Q E):zY K g6 pb bB yq (bq Q) (start Ba vs) H:=by
 obtain⟨p,c,bT,al,rfl,hp,m0,m1,f0,f2,k⟩:=h;refine⟨_,rfl,p,c,rfl,hp,fun H1 a5 a6=>?_⟩;refine⟨_,rfl,p,c,8,rfl,a5,by decide,fun lw a H2 ok A fr hl B a7=>?_⟩;have e2:=a6.trans a7;have nw:=B.ne_strs hl;refine⟨_,rfl,(by show 6<=ai;decide),fun q f=>⟨_,rfl,cc (B.ex (ac.new f)) (by decide) (by decide) fun r C r0 r1 a8 D=>?_⟩⟩;obtain⟨n,hn,n3⟩:=at6 r0 r1;have an:C lw=some (.lst (a.map V.str)):=D _ _ (kp hl f) nw;refine⟨q,_,_,_,rfl,rfl,aF.of (D _ _ aa (B.nep f).symm),hn,_,_,rfl,rfl,_,rfl,lw,_,rfl,aF.of an,fun g G=>?_⟩;have ea:gq (a.map V.str) none (some (1+(n:Int)))=(a.take (1+n)).map V.str:=DO a (1+n);rw[ea];have e3:cQ p H C:=e2.trans ((cQ.new f).trans D);have i:dW (upd C g (.lst ((a.take (1+n)).map V.str))) p c:=a8.ex (ac.new G);have e4:cQ p H (upd C g (.lst ((a.take (1+n)).map V.str))):=e3.trans (cQ.new G);have as:upd C g (.lst ((a.take (1+n)).map V.str)) lw=some (.lst (a.map V.str)):=kp an G;have I:upd C g (.lst ((a.take (1+n)).map V.str)) g=some (.lst ((a.take (1+n)).map V.str)):=aa;generalize upd C g (.lst ((a.take (1+n)).map V.str))=H4 at i e4 as I ⊢;refine⟨_,rfl,_,rfl,(by show 6<=ai;decide),fun q f=>⟨_,rfl,cc (i.ex (ac.new f)) (by decide) (by decide) fun r u r0 r1 a9 j=>?_⟩⟩;obtain⟨m,hm,m3⟩:=at6 r0 r1;have bd:u lw=some (.lst (a.map V.str)):=j _ _ (kp as f) nw;have bi:u g=some (.lst ((a.take (1+n)).map V.str)):=j _ _ (kp I f) (i.ne_strs I);refine⟨q,_,_,_,rfl,rfl,aF.of (j _ _ aa (i.nep f).symm),hm,_,_,rfl,rfl,_,rfl,lw,_,rfl,aF.of bd,fun v J=>?_⟩;rw[Hz A m3];have e5:cQ p H u:=e4.trans ((cQ.new f).trans j);have l:dW (upd u v (.lst (((a.drop 4).take (1+m)).map V.str))) p c:=a9.ex (ac.new J);have e6:cQ p H (upd u v (.lst (((a.drop 4).take (1+m)).map V.str))):=e5.trans (cQ.new J);have L:upd u v (.lst (((a.drop 4).take (1+m)).map V.str)) g=some (.lst ((a.take (1+n)).map V.str)):=kp bi J;have M:upd u v (.lst (((a.drop 4).take (1+m)).map V.str)) v=some (.lst (((a.drop 4).take (1+m)).map V.str)):=aa;generalize upd u v (.lst (((a.drop 4).take (1+m)).map V.str))=H6 at l e6 L M ⊢;refine⟨_,rfl,_,rfl,_,rfl,cc l m0 (by omega) fun r H7 r0 r1 N O=>?_⟩;obtain⟨rn,rfl⟩:=ia r0;have aC:=O _ _ L (l.ne_strs L);have aT:=O _ _ M (l.ne_strs M);refine⟨_,_,rfl,rfl,p,c,1+rn,rfl,N,by omega,fun l3 J4 H8 T x b0 e o U=>?_⟩;have Y:=U _ _ aC (N.ne_strs aC);have ab:=U _ _ aT (N.ne_strs aT);have aX:(a.drop 4).take (1+m)≠[]:=by
  intro z;have:=congrArg List.length z;rw[aK,cA,A]at this;simp at this
 have bl:a.take (1+n)≠[]:=by
  intro z;have:=congrArg List.length z;rw[aK,A]at this;simp at this
 have a0:J4≠[]:=by
  intro z;rw[z]at x;simp at x;omega
 refine⟨_,rfl,_,rfl,_,rfl,_,rfl,_,rfl,p,c,g,v,l3,_,_,J4,al,rfl,o,Y,ab,e,by rw[aK];omega,aX,by rw[aK];omega,a0,by omega,f0,f2,fun l4 ts ds up H9 b1 a4 bm bn y few bG s=>?_⟩;have bL:=s _ _ Y (o.ne_strs Y);have bN:=s _ _ ab (o.ne_strs ab);have bP:=s _ _ e (o.ne_strs e);refine⟨_,rfl,_,rfl,_,rfl,_,rfl,(by show 4<=ai;decide),fun t ht=>k t g v l3 l4 ts _ _ J4 ds _ ⟨aa,kp bL ht,kp bN ht,kp bP ht,kp a4 ht,bm.kt (ac.kt (ac.new ht))⟩ ?_ ?_ few (bG.ex (ac.new ht)) ?_⟩
 ·refine⟨⟨?_,fun w h=>ok.2 w (gG h)⟩,⟨?_,fun w h=>ok.2 w (lg (gG h))⟩,?_,T,bl,aX,a0,by rw[aK];omega,by rw[aK];omega,by omega,bn,fun d hd=>(y d hd).d,by omega,fun r z=>(FM T.1 y z).irr T.1⟩
  ·exact ok.1.sublist (List.take_sublist _ _)
  ·exact ok.1.sublist ((List.take_sublist _ _).trans (List.drop_sublist _ _))
  ·intro w h1 h2;have h3:w∈a.drop 4:=gG h1;have h4:w∈a.take 4:=by
    have:a.take (1+n)=(a.take 4).take (1+n):=by rw[List.take_take];congr 1;omega
    rw[this]at h2;exact gG h2
   have:=ok.1;rw[<-List.take_append_drop 4 a,f_]at this;exact this.2.2 w h4 w h3 rfl
 ·omega
 ·exact(((e6.trans O).trans U).trans s).trans (cQ.new ht)
theorem cX{a:Zb}{i:Nat}{x:V}(h:(a.map V.str)[i]?=some x):∃w,a[i]?=some w/\x=.str w:=by
 rw[dj]at h;cases q:a[i]? with
 |none=>rw[q]at h;cases h
 |some r=>rw[q]at h;exact⟨r,rfl,(fx h).symm⟩
theorem take_snoc{α:Type}{a:List α}{i:Nat}{w:α}(h:a[i]?=some w):a.take (i+1)=a.take i++[w]:=by
 obtain⟨hi,rfl⟩:=cV.mp h;rw[List.take_succ_eq_append_getElem hi]
def pG(w:Str):Bool:=!decide (w=("":Str)) && (decide (w.length<=8) && w.cps.toList.all fun c=>decide (c∈("abcdefghijklmnopqrstuvwxyz":Str).cps.toList))
theorem ow.b{w:Str}(h:ow w):pG w=true:=by
 unfold pG;have a:¬(w=("":Str)):=fun e=>by
  have:=h.lo;rw[e]at this;exact absurd this (by decide +kernel)
 rw[zzr0 a,zzr1 h.hi,Bool.not_false,s_,s_,List.all_eq_true];intro c f;obtain⟨g,i⟩:=h.al c f;refine zzr1 ?_;have:=DU (c-97) (by omega);have e:97+(c-97)=c:=by omega
 rw[e]at this;exact dw this
inductive sp_is_name (vs:List V)(H:Hp)(Q:VK)(E:XK):Prop
 |mk (w:Str):(vs=[.str w])->(w.length<=1000)->(∀H',ac H H'->Q (.bl (pG w)) H')->sp_is_name  vs H Q E
theorem BV{K:Za}{a:List V}{H:Hp}{Q:VK}{E:XK}(h:sp_is_name a H Q E):Ek K (bq Q) (start Fs a) H:=by
 obtain⟨w,rfl,s,k⟩:=h;refine⟨_,rfl,rfl,_,rfl,?_⟩;have t:(!decide (V.str w=V.str ("":Str)))=!decide (w=("":Str)):=by
  congr 1;by_cases e:w=("":Str)
  ·rw[zzr1 e,zzr1 (by rw[e])]
  ·rw[zzr0 e,zzr0 (fun z=>e (by injection z))]
 rw[t];refine pK (fun m=>?_) (fun m=>?_)
 ·refine⟨_,rfl,.inr ⟨w,rfl,df (ax s),_,_,rfl,rfl,_,rfl,?_⟩⟩;refine pK (fun n=>?_) (fun n=>?_)
  ·refine⟨_,rfl,w,rfl,fun l r=>?_⟩
   let p:Nat->List V->Hp->Prop:=fun i a j=>a=((w.cps.toList.take i).map fun c=>V.bl (decide (c∈("abcdefghijklmnopqrstuvwxyz":Str).cps.toList)))/\ac H j/\j l=some (.lst a)
   refine HA p
    ⟨rfl,ac.new r,aa⟩ (fun i a j _ h=>h.2.2) ?_ ?_
   ·rintro a j ⟨rfl,q,f⟩;refine⟨l,w.cps.toList.map fun c=>decide (c∈("abcdefghijklmnopqrstuvwxyz":Str).cps.toList),rfl,aF.of ?_,?_⟩
    ·rw[f,tf];have:w.cps.toList.take w.cps.size=w.cps.toList:=by
      rw[jr];simp
     rw[this]
     rfl
    ·have:=k j q;have g:decide (w.length<=8)=true:=zzr1 (by have:=of_decide_eq_true n;omega);unfold pG at this;rw[m,g,s_,s_]at this;rw[List.all_map];exact this
   ·rintro i a j c u hi ⟨rfl,q,f⟩;refine gN (lA ?_);refine⟨_,rfl,c,_,rfl,rfl,f,?_,vn hi ⟨?_,?_,aa⟩⟩
    ·rw[ao,aK];have:w.length=w.cps.toList.length:=fB w;exact ax (by omega)
    ·rw[take_snoc (by rw[<-u];simp),aQ]
     rfl
    ·intro b o e;rw[am (ah e r)];exact q b o e
  ·have:=k H (ac.refl H);have g:decide (w.length<=8)=false:=zzr0 (fun z=>n (zzr1 (by omega)));unfold pG at this;rw[m,g,s_,Bool.false_and]at this;exact this
 ·have:=k H (ac.refl H);unfold pG at this;rw[Bool.eq_false_iff.mpr m,Bool.false_and]at this;exact this
def bH(ws:Zb):List (fA×V):=ws.foldl (fun acc w=>hV acc (.inr w) (.bl true)) []
theorem fV(a:Zb)(w:Str):bH (a++[w])=hV (bH a) (.inr w) (.bl true):=by
 unfold bH;rw[List.foldl_append]
 rfl
theorem Aq{κ:Type}[DecidableEq κ](a:List (κ×V))(k:κ)(v:V):(hV a k v).length<=a.length+1:=by
 unfold hV;split
 ·rw[ao];omega
 ·rw[aP];exact ay _
theorem lD{α:Type}(P:List α->Prop)(f:P [])(g:∀a w,P a->P (a++[w]))(a:List α):P a:=by
 have:∀n (a:List α),a.length=n->P a:=by
  intro n
  induction n with
  |zero=>intro a h;rw[List.length_eq_zero_iff.mp h];exact f
  |succ n i =>
   intro a h;have e:a≠[]:=fun z=>by rw[z]at h;cases h
   rw[<-List.dropLast_concat_getLast e];exact g _ _ (i _ (by rw[List.length_dropLast,h];rfl))
 exact this _ a rfl
theorem nY(a:Zb):(bH a).length<=a.length:=by
 refine lD (fun a=>(bH a).length<=a.length) (ay _) (fun a w h=>?_) a;show(bH (a++[w])).length<=(a++[w]).length;rw[fV,aP];have:=Aq (bH a) (.inr w) (.bl true);show _<=a.length+1;omega
theorem uC(a:Zb)(x:Str):d4 (bH a) (.inr x)=if x∈a then some (.bl true)else none:=by
 refine lD (fun a=>d4 (bH a) (.inr x)=if x∈a then some (.bl true)else none) rfl (fun a w h=>?_) a
 show d4 (bH (a++[w])) (.inr x)=_;rw[fV,zQ,h];by_cases e:x=w
 ·subst e;rw[if_pos rfl,if_pos (by simp)]
 ·have f:¬((Sum.inr x:fA)=.inr w):=fun z=>e (by injection z);rw[if_neg f];by_cases m:x∈a
  ·rw[if_pos m,if_pos (gD _ m)]
  ·rw[if_neg m,if_neg (fun z=>by rcases cG.mp z with z|z;exact m z;exact e (by simpa using z))]
theorem jO(a:Zb)(x:Str):(d4 (bH a) (.inr x)).isSome=decide (x∈a):=by
 rw[uC];by_cases m:x∈a
 ·rw[if_pos m,zzr1 m];rfl
 ·rw[if_neg m,zzr0 m];rfl
inductive sp_as_keys(K:Za)(vs:List V)(H:Hp)(Q:VK)(E:XK):Prop
 |mk (l:Addr) (ws:Zb):(vs=[.ref l])->(aF K H l (ws.map V.str))->(ws.length<=1000)->(∀d,H d=none->Q (.ref d) (upd H d (.dK (bH ws))))->sp_as_keys K vs H Q E
theorem BY{K:Za}{o:List V}{H:Hp}{Q:VK}{E:XK}(h:sp_as_keys K o H Q E):Em K (bq Q) (start Ft o) H:=by
 obtain⟨l,j,rfl,q,t,k⟩:=h;refine fun d p=>?_;have a:∀f,aF K (upd H d (.dK f)) l (j.map V.str):=fun f=>(ac.new p).seq q;refine⟨_,rfl,l,rfl,⟨_,a _⟩,?_⟩
 let n:Nat->L2.St->Hp->Prop:=fun i σ m=>∃x,σ=[some (.ref l),some (.ref d),x]/\m=upd H d (.dK (bH (j.take i)))
 refine fz (xs:=j.map V.str) n ⟨_,rfl,rfl⟩ (fun i σ m _ r=>by obtain⟨_,_,e⟩:=r;exact by rw[e];exact a _) ?_ ?_
 ·rintro i x σ m hi ⟨y,rfl,rfl⟩;obtain⟨w,s,rfl⟩:=cX hi;have g:(bH (j.take i)).length<ai:=ax (bo (nY _) (by rw[aK];omega));refine⟨_,rfl,_,rfl,d,_,rfl,.inl ⟨_,.inr w,aa,rfl,g,rfl⟩,_,rfl,?_⟩;rw[sG,take_snoc s,fV]
 ·rintro σ m ⟨x,rfl,rfl⟩;rw[ao,cv];exact⟨_,rfl,k d p⟩
def Hj(most:Nat):Nat->List Str->List Str->Option Nat
 |_,_,[]=>none
 |i,ahead,n::ns=>if i=most∨n∈ahead∨pG n=false then some i else Hj most (i+1) (ahead++[n]) ns
def cY(names:Zb)(most:Nat)(taken:Zb):Option Nat:=if names=[]then some 0 else Hj most 0 taken names
def oV:Option Nat->V
 |none=>.non
 |some i=>.int i
inductive sp_first_wrong_name(K:Za)(vs:List V)(H:Hp)(Q:VK)(E:XK):Prop
 |mk (l t:Addr) (names taken:Zb) (most:Nat):(vs=[.ref l,.int most,.ref t])->(aF K H l (names.map V.str))->(aF K H t (taken.map V.str))->(names.length+taken.length<=1000)->((∀w∈names,w.length<=1000))->(∀H',ac H H'->Q (oV (cY names most taken)) H')->sp_first_wrong_name K vs H Q E
theorem rg{K:Za}{H:Hp}{Q:VK}{E:XK}{l:Addr}{ws:Zb}(a:aF K H l (ws.map V.str))(e:ws.length<=1000)(k:∀d,H d=none->Q (.ref d) (upd H d (.dK (bH ws)))):sp_as_keys K [.ref l] H Q E:=by
 exact⟨l,ws,rfl,a,e,k⟩
theorem ET{H:Hp}{Q:VK}{E:XK}{w:Str}(e:w.length<=1000)(k:∀a,ac H a->Q (.bl (pG w)) a):sp_is_name [.str w] H Q E:=by
 exact⟨w,rfl,e,k⟩
theorem mK{K:Za}{M:List V}{H:Hp}{Q:VK}{E:XK}(h:sp_first_wrong_name K M H Q E):nI K sp_is_name (sp_as_keys K) (bq Q) (start om M) H:=by
 obtain⟨l,t,names,taken,a,rfl,v,U,hz,Y,k⟩:=h;refine⟨_,rfl,.inl ⟨l,_,rfl,.inl v,rfl,_,rfl,?_⟩⟩;by_cases A:names=[]
 ·subst A;refine br ?_;have:=k H (ac.refl H);exact this
 have e0:decide (V.int ((names.map V.str).length:Nat)=V.int 0)=false:=zzr0 (fun z=>A (by
  injection z with z;rw[ao]at z;exact List.length_eq_zero_iff.mp (by omega)))
 rw[e0];refine aZ ?_;have r:∀H',ac H H'->Q (oV (Hj a 0 taken names)) H':=by
  unfold cY at k;rw[if_neg A]at k;exact k
 refine⟨_,rfl,rg U (by omega) fun d B=>?_⟩;refine⟨_,rfl,l,rfl,⟨_,(ac.new B).seq v⟩,?_⟩
 let C:Nat->L2.St->Hp->Prop:=fun i σ H'=>∃x y,σ=[some (.ref l),some (.int a),some (.ref t),some (.ref d),x,y]/\ac H H'/\H' d=some (.dK (bH (taken++names.take i)))/\Hj a i (taken++names.take i) (names.drop i)=Hj a 0 taken names
 refine i4 (xs:=names.map V.str) C
  ⟨_,_,rfl,ac.new B,by rw[sZ,eM];exact aa,by rw[sZ,eM,qj]⟩ (fun i σ H' _ zq=>by obtain⟨_,_,_,n,_⟩:=zq;exact n.seq v) ?_ ?_
 ·rintro i x σ H' q hi ⟨x4,x5,rfl,n,D,hf⟩ N;obtain⟨w,f,rfl⟩:=cX hi;have G:i<names.length:=(cV.mp f).1;have ed:names.drop i=w::names.drop (i+1):=by
   rw[xf G];congr 1;exact(cV.mp f).2
  rw[ed]at hf;have j:upd H' q (.tup [.int i,.str w]) d=some (.dK (bH (taken++names.take i))):=kp D N;have g:ac H (upd H' q (.tup [.int i,.str w])):=n.trans (ac.new N);have I:w.length<=1000:=Y w (dw f);refine⟨q,_,rfl,bE.of aa,rfl,_,_,rfl,_,_,rfl,rfl,?_⟩;generalize upd H' q (.tup [.int i,.str w])=O at j g ⊢;refine⟨_,rfl,_,rfl,rfl,_,rfl,?_⟩;by_cases s:i=a
  ·have J:decide (V.int (i:Nat)=V.int (a:Nat))=true:=zzr1 (by rw[s]);rw[J];refine br (br ?_);refine⟨_,rfl,?_⟩;have:=r O g;rw[<-hf]at this;unfold Hj at this;rw[if_pos (.inl s)]at this;exact this
  have J:decide (V.int (i:Nat)=V.int (a:Nat))=false:=zzr0 (fun z=>s (by injection z with z;omega));rw[J];refine aZ ?_;refine⟨_,rfl,_,rfl,d,_,rfl,.inl ⟨_,.inr w,.inl j,rfl,rfl⟩,_,rfl,?_⟩;rw[jO];by_cases u:w∈taken++names.take i
  ·rw[zzr1 u];refine br (br ?_);refine⟨_,rfl,?_⟩;have:=r O g;rw[<-hf]at this;unfold Hj at this;rw[if_pos (.inr (.inl u))]at this;exact this
  rw[zzr0 u];refine aZ ?_;refine⟨_,rfl,ET I fun H3 m=>⟨_,rfl,?_⟩⟩;have L:=m _ _ j;cases T:pG w with
  |false =>
   refine br ?_;refine⟨_,rfl,?_⟩;have:=r H3 (g.trans m);rw[<-hf]at this;unfold Hj at this;rw[if_pos (.inr (.inr T))]at this;exact this
  |true =>
   refine aZ ?_;have p:(bH (taken++names.take i)).length<ai:=ax (bo (nY _) (by rw[aP,aK];omega));refine⟨_,rfl,_,rfl,d,_,rfl,.inl ⟨_,.inr w,L,rfl,p,rfl⟩,_,_,rfl,?_,?_,?_⟩
   ·intro b o e;rw[am (ah e B)];exact m _ _ (g _ _ e)
   ·rw[aa,take_snoc f,<-iR,fV]
   ·rw[<-hf,take_snoc f,<-iR]
    conv=>rhs;unfold Hj
    rw[if_neg];rintro(z|z|z)
    ·exact s z
    ·exact u z
    ·rw[T]at z;cases z
 ·rintro σ H' ⟨x,y,rfl,n,_,hf⟩;rw[ao,wR]at hf;have:=r H' n;rw[<-hf]at this;exact this
theorem AG{a:Nat}:∀(e ahead:Zb) (i:Nat),i+e.length<=a->(ahead++e).Nodup->(∀w∈e,ow w)->Hj a i ahead e=none
 |[],_,_,_,_,_=>rfl
 |n::e,ahead,i,h,f,g=>by
  rw[dD]at h;unfold Hj;rw[if_neg]
  ·refine AG e (ahead++[n]) (i+1) (by omega) (by rw[iR];exact f) fun w j=>g w (eK _ j)
  ·rintro(z|z|z)
   ·omega
   ·rw[f_]at f;exact f.2.2 n z n (fh) rfl
   ·rw[(g n fh).b]at z;cases z
theorem io{a:Nat}{e taken:Zb}(f:e≠[])(i:e.length<=a)(g:(taken++e).Nodup)(h:∀w∈e,ow w):cY e a taken=none:=by
 unfold cY;rw[if_neg f];exact AG e taken 0 (by omega) g h
theorem iK{n:Nat}(h:n<=9000):n<ai:=xx h (by decide)
def sy(x:Str):TK:=.k (some (.inr x))
def Fx(sg:Zb):TK:=.t (sg.map sy)
def DM(d:aJ):TK:=.t [sy d.a,Fx d.sg,sy d.b]
theorem sM{x y:Str}(h:sy x=sy y):x=y:=by
 unfold sy at h;injection h with h;injection h with h;injection h
theorem rP:∀{x y:Zb},x.map sy=y.map sy->x=y
 |[],[],_=>rfl
 |[],_::_,h=>by cases h
 |_::_,[],h=>by cases h
 |a::x,b::y,h=>by
  rw[cw,cw]at h;injection h with e f;rw[sM e,rP f]
theorem DD{x y:Zb}(h:Fx x=Fx y):x=y:=by
 unfold Fx at h;injection h with h;exact rP h
theorem Jg{x y:aJ}(h:DM x=DM y):x=y:=by
 unfold DM at h;injection h with h;injection h with a h;injection h with e h;injection h with f h;cases x;cases y;simp only at *;rw[sM a,DD e,sM f]
theorem Bn(xs:Zb):TK.depths (xs.map sy)=0:=by
 induction xs with
 |nil=>rfl
 |cons x xs a=>rw[cw];show max (TK.depth (sy x)) (TK.depths _)=0;rw[a];rfl
theorem vN(a:Zb):(Fx a).depth=1:=by
 show TK.depths (a.map sy)+1=1;rw[Bn]
theorem vO(d:aJ):(DM d).depth=2:=by
 show max (TK.depth (sy d.a)) (max (TK.depth (Fx d.sg)) (max (TK.depth (sy d.b)) 0))+1=2;rw[vN]
 rfl
theorem C3{H:Hp}:∀xs:List Str,TKAts H (xs.map sy) (xs.map V.str)
 |[]=>by show TKAts H [] [];unfold TKAts;rfl
 |x::xs=>by
  rw[cw,cw];unfold TKAts;refine⟨_,_,rfl,?_,C3 xs⟩;unfold sy i6
  rfl
theorem Bo{H:Hp}(x:Str):i6 H (sy x) (.str x):=by unfold sy i6;rfl
theorem SignAt.tk{H:Hp}{s:Addr}{a:Zb}(h:SignAt H s a):i6 H (Fx a) (.ref s):=by
 unfold Fx i6;exact⟨s,_,rfl,h,C3 _⟩
theorem i9.tk{H:Hp}{t:Addr}{d:aJ}(h:i9 H t d):i6 H (DM d) (.ref t):=by
 obtain⟨s,a,e⟩:=h;unfold DM i6;refine⟨t,_,rfl,a,?_⟩;unfold TKAts;refine⟨_,_,rfl,Bo _,?_⟩;unfold TKAts;refine⟨_,_,rfl,SignAt.tk e,?_⟩;unfold TKAts;refine⟨_,_,rfl,Bo _,?_⟩;unfold TKAts
 rfl
section
variable{κ:Type}[DecidableEq κ]
def k4(ks:List κ):List (κ×V):=ks.foldl (fun acc k=>hV acc k (.bl true)) []
theorem nZ(a:List κ)(w:κ):k4 (a++[w])=hV (k4 a) w (.bl true):=by
 unfold k4;rw[List.foldl_append]
 rfl
theorem ER(a:List κ):(k4 a).length<=a.length:=by
 refine lD (fun a=>(k4 a).length<=a.length) (ay _) (fun a w h=>?_) a;show(k4 (a++[w])).length<=(a++[w]).length;rw[nZ,aP];have:=Aq (k4 a) w (.bl true);show _<=a.length+1;omega
theorem Ha(a:List κ)(x:κ):(d4 (k4 a) x).isSome=decide (x∈a):=by
 refine lD (fun a=>(d4 (k4 a) x).isSome=decide (x∈a)) rfl (fun a w h=>?_) a;show(d4 (k4 (a++[w])) x).isSome=_;rw[nZ,zQ];by_cases e:x=w
 ·subst e;rw[if_pos rfl,zzr1 (by simp)]
  rfl
 ·rw[if_neg e,h];by_cases m:x∈a
  ·rw[zzr1 m,zzr1 (gD _ m)]
  ·rw[zzr0 m,zzr0 (fun z=>by rcases cG.mp z with z|z;exact m z;exact e (by simpa using z))]
end
theorem Dr{d:aJ}{a:List aJ}:DM d∈a.map DM↔d∈a:=by
 constructor
 ·intro h;obtain⟨x,hx,e⟩:=bA.mp h;rw[<-Jg e];exact hx
 ·exact qa
def ol(K:Za)(H:Hp)(v:V)(sg:Zb):Prop:=∃s,v=.ref s/\bE K H s (sg.map V.str)
theorem ac.sqT{K:Za}{H f:Hp}{a:Addr}{xs:List V}(e:ac H f)(h:bE K H a xs):bE K f a xs:=by
 rcases h with(h|⟨o,h⟩)|h
 ·exact .inl (.inl (e _ _ h))
 ·exact .inl (.inr ⟨o,e _ _ h⟩)
 ·exact .inr h
theorem Signs.same{K:Za}{H f:Hp}(e:ac H f){xs:List V}{a:List (List Str)}(h:Paired (ol K H) xs a):Paired (ol K f) xs a :=
 Paired.mapP h fun _ _ ⟨s,g,i⟩=>⟨s,g,ac.sqT e i⟩
def k7(sg:Zb):DT:=.t (sg.map eN)
theorem DE{x y:Zb}(h:k7 x=k7 y):x=y:=by
 unfold k7 at h;injection h with h;exact dY h
theorem fE(a:Zb):(k7 a).depth=1:=by
 show DT.depths (a.map eN)+1=1;rw[jT]
theorem EY(a:List (List Str)):DT.depths (a.map k7)<=8:=by
 induction a with
 |nil=>exact cp _
 |cons x xs e=>rw[cw];show max (DT.depth (k7 x)) (DT.depths _)<=8;rw[fE];omega
theorem Signs.dIns{K:Za}{H:Hp}{xs:List V}{a:List (List Str)}(h:Paired (ol K H) xs a):DIns K H (a.map k7) xs:=by
 induction h with
 |nil=>show DIns K H [] [];unfold DIns;rfl
 |cons q _ f =>
  obtain⟨s,e,r⟩:=q;rw[cw];unfold DIns;refine⟨_,_,rfl,?_,f⟩;rw[e];exact i5 r
theorem Dq{d:Zb}{a:List (List Str)}:k7 d∈a.map k7↔d∈a:=by
 constructor
 ·intro h;obtain⟨x,hx,e⟩:=bA.mp h;rw[<-DE e];exact hx
 ·exact qa
theorem Paired.app{α β:Type}{R:α->β->Prop}{a:List α}{b:List β}{c:List α}{d:List β}(g:Paired R a b)(h:Paired R c d):Paired R (a++c) (b++d):=by
 induction g with
 |nil=>exact h
 |cons r _ e=>exact .cons r e
def iB(w:Str):List Str:=[("ask":Str),w]
def rJ(w:Str):List Str:=[("say":Str),w]
def jS(J0 J2:Zb):List (List Str):=J0.map iB++J2.map rJ++[cj]
theorem ue{K:Za}{h:Str}{σ:L2.St}{H:Hp}{a l:Addr}{j:Zb}{Q:Hp->Prop}(B:H a=some (.lst (j.map V.str)))(A:H l=none)(J:j.length<=1000)
  (k:∀(xs:List V) (f:Hp),Paired (ol K f) xs (j.map fun w=>[h,w])->ac H f->f l=some (.lst xs)->Q f) :
  cP 1 [] σ (Fz K a) U0 d6 (aW (aE (tC (.str h)) V0)) H l Q:=by
 let r:Nat->List V->Hp->Prop:=fun i g f=>Paired (ol K f) g ((j.take i).map fun w=>[h,w])/\ac H f/\f l=some (.lst g)
 refine eA (xs:=j.map V.str) r
  ⟨.nil,ac.new A,aa⟩ (fun i g f _ C=>by obtain⟨_,D,E⟩:=C;exact⟨E,aF.of (D _ _ B)⟩) ?_ ?_
 ·rintro g f ⟨m,u,n⟩;rw[ao,cv]at m;exact k g f m u n
 ·rintro i g f x hx hi ⟨m,u,n⟩;obtain⟨w,G,rfl⟩:=cX hx;refine gN (lA ?_);refine⟨_,rfl,(by show 2<=ai;decide),fun t p=>⟨kp n p,?_,vn hi ⟨?_,?_,aa⟩⟩⟩
  ·rw[Paired.length m,ao,aK];exact ax (by omega)
  ·rw[take_snoc G,aQ];have q:gB (upd f t (.tup [.str h,.str w])) (upd (upd f t (.tup [.str h,.str w])) l (.lst (g++[.ref t]))):=fo (kp n p);have y:gB f (upd (upd f t (.tup [.str h,.str w])) l (.lst (g++[.ref t]))):=(ac.kt (ac.new p)).trans q;refine Paired.app (Paired.mapP m fun v L ⟨s,I,e2⟩=>⟨s,I,?_⟩) (.cons ⟨t,rfl,bE.of (q _ _ aa)⟩ .nil);rcases e2 with(e2|⟨o,e2⟩)|e2
   ·exact .inl (.inl (y _ _ e2))
   ·refine .inl (.inr ⟨o,?_⟩);rw[am (fun z=>by rw[z,n]at e2;cases e2)];exact kp e2 p
   ·exact .inr e2
  ·intro b o e;rw[am (ah e A)];exact kp (u _ _ e) p
inductive sp_door_signs(K:Za)(vs:List V)(H:Hp)(Q:VK)(E:XK):Prop
 |mk (l1 l2:Addr) (J0 J2:Zb):(vs=[.ref l1,.ref l2])->(H l1=some (.lst (J0.map V.str)))->(H l2=some (.lst (J2.map V.str)))->(J0.length<=100)->(J2.length<=100)->(∀(l:Addr) (xs:List V) (H':Hp),Paired (ol K H') xs (jS J0 J2)->ac H H'->H' l=some (.lst xs)->Q (.ref l) H')->sp_door_signs K vs H Q E
theorem vm{K:Za}{st:Addr}(i:∀H,bE K H st (cj.map V.str)){n:List V}{H:Hp}{Q:VK}{E:XK}(h:sp_door_signs K n H Q E):xY K st (bq Q) (start zA n) H:=by
 obtain⟨y,z,J,L,rfl,o,p,A,B,k⟩:=h;refine⟨_,rfl,y,rfl,⟨_,aF.of o⟩,fun a C=>?_⟩;refine ue o C (by omega) fun f M q j D=>?_;refine⟨_,rfl,z,rfl,⟨_,aF.of (j _ _ p)⟩,fun b G=>?_⟩;refine ue (j _ _ p) G (by omega) fun g r s l I=>?_;have t:f.length<=100:=by rw[Paired.length q,ao];exact A
 have u:g.length<=100:=by rw[Paired.length s,ao];exact B
 refine⟨a,b,f,g,rfl,rfl,l _ _ D,I,df (ax (by omega)),fun c v=>?_⟩;refine⟨(by show 1<=ai;decide),fun d m=>?_⟩;refine⟨c,d,_,_,rfl,rfl,kp aa m,aa,?_,fun e w=>k e _ _ ?_ ?_ aa⟩
 ·rw[aP];show _+1<=ai;exact df (ax (by omega))
 ·have x:ac r (upd (upd (upd r c (.lst (f++g))) d (.lst [.ref st])) e (.lst (f++g++[.ref st]))):=((ac.new v).trans (ac.new m)).trans (ac.new w);exact Paired.app (Paired.app (Signs.same (l.trans x) q) (Signs.same x s)) (.cons ⟨st,rfl,i _⟩ .nil)
 ·exact(((j.trans l).trans (ac.new v)).trans (ac.new m)).trans (ac.new w)
def Jb(J4:Zb)(sgs:List (List Str)):Nat->List aJ->List aJ->Option Nat
 |_,_,[]=>none
 |i,ahead,d::ds=>if i=2000∨d∈ahead∨d.a∉J4∨d.sg∉sgs∨d.b∉J4 then some i else Jb J4 sgs (i+1) (ahead++[d]) ds
inductive sp_first_wrong_door(K:Za)(vs:List V)(H:Hp)(Q:VK)(E:XK):Prop
 |mk (l l3 sl:Addr) (ts:Ze) (ds:List aJ) (J4:Zb) (xs:List V) (sgs:List (List Str)):(vs=[.ref l,.ref l3,.ref sl])->(H l=some (.lst (ts.map V.ref)))->(eP H ts ds)->(H l3=some (.lst (J4.map V.str)))->(J4.length<=1000)->(H sl=some (.lst xs))->(Paired (ol K H) xs sgs)->(ds.length<=9000)->(∀H',ac H H'->Q (oV (Jb J4 sgs 0 [] ds)) H')->sp_first_wrong_door K vs H Q E
theorem hJ{a:Ze}{i:Nat}{x:V}(h:(a.map V.ref)[i]?=some x):∃w,a[i]?=some w/\x=.ref w:=by
 rw[dj]at h;cases q:a[i]? with
 |none=>rw[q]at h;cases h
 |some r=>rw[q]at h;exact⟨r,rfl,(fx h).symm⟩
theorem mL{K:Za}{vs:List V}{H:Hp}{Q:VK}{E:XK}(h:sp_first_wrong_door K vs H Q E):nJ K (sp_as_keys K) (bq Q) (start on vs) H:=by
 obtain⟨l,l3,sl,ts,p,w,xs,m,rfl,hl,B,h3,hr,U,Y,hz,k⟩:=h;refine⟨_,rfl,rg (aF.of h3) hr fun d hd=>?_⟩;refine fun e he=>?_;have C:ac H (upd (upd H d (.dK (bH w))) e (.dT [])):=(ac.new hd).trans (ac.new he);have ab:H e=none:=(ac.new hd).free he;refine⟨_,rfl,l,rfl,⟨_,aF.of (C _ _ hl)⟩,?_⟩
 let al:Nat->L2.St->Hp->Prop:=fun i σ H'=>∃x y,σ=[some (.ref l),some (.ref l3),some (.ref sl),some (.ref d),some (.ref e),x,y]/\ac H H'/\H' d=some (.dK (bH w))/\H' e=some (.dT (k4 ((p.take i).map DM)))/\Jb w m i (p.take i) (p.drop i)=Jb w m 0 [] p
 refine i4 (xs:=ts.map V.ref) al
  ⟨_,_,rfl,C,kp aa he,aa,rfl⟩ (fun i σ H' _ zq=>by obtain⟨_,_,_,D,_⟩:=zq;exact aF.of (D _ _ hl)) ?_ ?_
 ·rintro i x σ H' q hi ⟨x5,x6,rfl,D,an,as,hf⟩ hq;obtain⟨t,ht,rfl⟩:=hJ hi;obtain⟨f,r,aC⟩:=Paired.getL B ht;have aT:i<p.length:=(cV.mp r).1;have ed:p.drop i=f::p.drop (i+1):=by
   rw[xf aT];congr 1;exact(cV.mp r).2
  rw[ed]at hf;have g:ac H (upd H' q (.tup [.int i,.ref t])):=D.trans (ac.new hq);have j:upd H' q (.tup [.int i,.ref t]) d=_:=kp an hq;have u:upd H' q (.tup [.int i,.ref t]) e=_:=kp as hq;refine⟨q,_,rfl,bE.of aa,rfl,_,_,rfl,_,_,rfl,rfl,?_⟩;generalize upd H' q (.tup [.int i,.ref t])=H2 at j u g ⊢;have A:=aC.kt (ac.kt g);have aX:mN K H2 (DM f) (.ref t):=i6.isIn 8 (by rw[vO];decide) A.tk;have G:(DM f).depth<=8:=by rw[vO];decide
  obtain⟨s,v,I⟩:=A;have n:(i=2000∨f∈p.take i∨f.a∉w∨f.sg∉m∨f.b∉w)->Q (.int i) H2:=by
   intro c;have:=k H2 g;rw[<-hf]at this;unfold Jb at this;rw[if_pos c]at this;exact this
  refine⟨_,rfl,rfl,_,rfl,?_⟩;by_cases L:i=2000
  ·have e1:decide (V.int (i:Nat)=V.int 2000)=true:=zzr1 (by rw[L];rfl);rw[e1];exact br (br ⟨_,rfl,n (.inl L)⟩)
  have e1:decide (V.int (i:Nat)=V.int 2000)=false:=zzr0 (fun z=>L (by injection z with z;omega));rw[e1];refine aZ ?_;refine⟨_,rfl,_,rfl,e,_,rfl,.inr ⟨_,DM f,t,.inl u,rfl,aX,G,rfl⟩,_,rfl,?_⟩;rw[Ha];by_cases M:f∈p.take i
  ·rw[zzr1 (Dr.mpr M)];exact br ⟨_,rfl,n (.inr (.inl M))⟩
  rw[zzr0 (fun z=>M (Dr.mp z))];refine aZ ?_;refine⟨_,rfl,.inr (.inl ⟨t,_,0,_,rfl,rfl,bE.of v,rfl,_,rfl,d,_,rfl,.inl ⟨_,.inr f.a,.inl j,rfl,rfl⟩,_,rfl,?_⟩)⟩;rw[jO];by_cases N:f.a∈w;rotate_left
  ·rw[zzr0 N];exact br (br ⟨_,rfl,n (.inr (.inr (.inl N)))⟩)
  rw[zzr1 N];refine aZ ?_;refine⟨_,rfl,.inr (.inl ⟨t,_,1,_,rfl,rfl,bE.of v,rfl,_,rfl,k7 f.sg,m.map k7,sl,xs,i5 (bE.of I),rfl,.inl (aF.of (g _ _ U)),Signs.dIns (Signs.same g Y),by rw[fE];decide,EY _,_,rfl,?_⟩)⟩;rw[if_pos rfl];by_cases O:f.sg∈m;rotate_left
  ·rw[zzr0 (fun z=>O (Dq.mp z))];exact br (br ⟨_,rfl,n (.inr (.inr (.inr (.inl O))))⟩)
  rw[zzr1 (Dq.mpr O)];refine aZ ?_;refine⟨_,rfl,.inr (.inl ⟨t,_,2,_,rfl,rfl,bE.of v,rfl,_,rfl,d,_,rfl,.inl ⟨_,.inr f.b,.inl j,rfl,rfl⟩,_,rfl,?_⟩)⟩;rw[jO];by_cases T:f.b∈w;rotate_left
  ·rw[zzr0 T];exact br ⟨_,rfl,n (.inr (.inr (.inr (.inr T))))⟩
  rw[zzr1 T];refine aZ ?_;have J:(k4 ((p.take i).map DM)).length<ai:=iK (bo (ER _) (by rw[ao,aK];omega));refine⟨_,rfl,_,rfl,e,_,rfl,.inr ⟨_,DM f,t,u,rfl,i9.tk ⟨s,v,I⟩,G,J,rfl⟩,_,_,rfl,?_,?_,?_,?_⟩
  ·intro b o q;rw[am (ah q ab)];exact g _ _ q
  ·rw[am (fun z=>by rw[z,u]at j;cases j)];exact j
  ·rw[aa,take_snoc r,aQ];exact congrArg (fun z=>some (HO.dT z)) (nZ _ _).symm
  ·rw[<-hf,take_snoc r]
   conv=>rhs;unfold Jb
   rw[if_neg];rintro(z|z|z|z|z)
   ·exact L z
   ·exact M z
   ·exact z N
   ·exact z O
   ·exact z T
 ·rintro σ H' ⟨x,y,rfl,D,_,_,hf⟩;have:=k H' D;rw[<-hf,ao,Paired.length B,wR]at this;exact this
theorem AH{g:Zb}{e:List (List Str)}:∀(f ahead:List aJ) (i:Nat),i+f.length<=2000->(ahead++f).Nodup->(∀d∈f,d.a∈g/\d.sg∈e/\d.b∈g)->Jb g e i ahead f=none
 |[],_,_,_,_,_=>rfl
 |n::k,ahead,i,l,h,j=>by
  rw[dD]at l;unfold Jb;rw[if_neg]
  ·refine AH k (ahead++[n]) (i+1) (by omega) (by rw[iR];exact h) fun w m=>j w (eK _ m)
  ·have:=j n fh;rintro(z|z|z|z|z)
   ·omega
   ·rw[f_]at h;exact h.2.2 n z n (fh) rfl
   ·exact z this.1
   ·exact z this.2.1
   ·exact z this.2.2
inductive sp_need_none (vs:List V)(H:Hp)(Q:VK)(E:XK):Prop
 |mk (x:V):(vs=[x,.non])->(Q .non H)->sp_need_none  vs H Q E
theorem yy{K:Za}{a:List V}{H:Hp}{Q:VK}{E:XK}(h:sp_need_none a H Q E):zU K (bq Q) (start AX a) H:=by
 obtain⟨x,rfl,k⟩:=h;refine⟨_,rfl,_,rfl,?_⟩;have e:(!decide (V.non=V.non))=false:=by rw[zzr1 rfl];rfl
 rw[e];exact aZ k
structure Lists(H:Hp)(l1 l2 l3 l4:Addr)(ts:Ze)(J0 J2 J4:Zb)(ds:List aJ):Prop where
 a1:H l1=some (.lst (J0.map V.str))
 a2:H l2=some (.lst (J2.map V.str))
 a3:H l3=some (.lst (J4.map V.str))
 a4:H l4=some (.lst (ts.map V.ref))
 ds:eP H ts ds
theorem Lists.same{H a:Hp}{f g l3 i:Addr}{j:Ze}{k l m:Zb}{n:List aJ}(h:Lists H f g l3 i j k l m n)(e:ac H a):Lists a f g l3 i j k l m n :=
 ⟨e _ _ h.a1,e _ _ h.a2,e _ _ h.a3,e _ _ h.a4,h.ds.kt (ac.kt e)⟩
inductive sp_need_parts (vs:List V)(H:Hp)(Q:VK)(E:XK):Prop
 |mk (l1 l2 l3 l4:Addr) (ts:Ze) (J0 J2 J4:Zb) (ds:List aJ):(vs=[.ref l1,.ref l2,.ref l3,.ref l4])->(Lists H l1 l2 l3 l4 ts J0 J2 J4 ds)->(cy J0 J2 J4 ds)->(∀H',ac H H'->Q .non H')->sp_need_parts  vs H Q E
theorem cy.signs{J0 i f:Zb}{j:List aJ}(m:cy J0 i f j):∀d∈j,d.a∈f/\d.sg∈jS J0 i/\d.b∈f:=by
 intro d k;have g:=m.good d k;refine⟨g.a,?_,g.b⟩;unfold jS;rcases g.sg with⟨w,h,e⟩|⟨w,h,e⟩|e
 ·rw[e];exact gD _ (gD _ (bA.mpr ⟨w,h,rfl⟩))
 ·rw[e];exact gD _ (dE _ (bA.mpr ⟨w,h,rfl⟩))
 ·rw[e];exact dE _ (by simp[cj])
theorem qW{a:Zb}(h:mz a):∀w∈a,w.length<=1000:=fun w e=>bo (h.2 w e).hi (by decide)
theorem vj{K:Za}{s:List V}{H:Hp}{Q:VK}{E:XK}(h:sp_need_parts s H Q E):xT K sp_need_none (sp_first_wrong_door K) (sp_door_signs K) (sp_first_wrong_name K) (bq Q) (start zi s) H:=by
 obtain⟨l,t,u,x,y,f,g,j,n,rfl,L,m,k⟩:=h;have z:cY f 4 []=none:=io m.asks0 m.asks4 m.okA.1 m.okA.2;have A:cY g 4 f=none:=io m.says0 m.says4 (by
  rw[f_];exact⟨m.okA.1,m.okS.1,fun a B b C e=>m.apart b C (e▸B)⟩) m.okS.2
 have D:cY j 150 []=none:=io m.rooms0 (by have:=m.rooms26;omega) m.okR.1 m.okR.2;have G:Jb j (jS f g) 0 [] n=none:=AH n [] 0 (by have:=m.few;omega) m.nodup m.signs;have Y:=m.asks4;have z2:=m.says4;have z3:=m.rooms26;have z4:=m.few;refine⟨_,rfl,(by show 0<=ai;decide),fun e i=>⟨l,e,f,[],4,rfl,aF.of (kp L.a1 i),aF.of aa,by simp;omega,qW m.okA,fun H1 I=>?_⟩⟩;rw[z];refine⟨_,rfl,?_⟩;have o:=(ac.new i).trans I;refine⟨_,rfl,_,rfl,t,l,g,f,4,rfl,aF.of (o _ _ L.a2),aF.of (o _ _ L.a1),by omega,qW m.okS,fun H2 J=>?_⟩;rw[A];refine⟨_,rfl,?_⟩;have v:=o.trans J;refine⟨_,rfl,(by show 0<=ai;decide),fun e i=>⟨u,e,j,[],150,rfl,aF.of (kp (v _ _ L.a3) i),aF.of aa,by simp;omega,qW m.okR,fun H3 M=>?_⟩⟩;rw[D];refine⟨_,rfl,?_⟩;have p:=(v.trans (ac.new i)).trans M;refine⟨_,rfl,_,rfl,_,rfl,_,rfl,l,t,f,g,rfl,p _ _ L.a1,p _ _ L.a2,by omega,by omega,fun N xs H4 hx O q=>?_⟩;have w:=p.trans O;have r:=L.same w;refine⟨x,u,N,y,n,j,xs,jS f g,rfl,r.a4,r.ds,r.a3,by omega,q,hx,by omega,fun T U=>?_⟩;rw[G];exact⟨_,rfl,k T (w.trans U)⟩
section
variable{κ ι:Type}[DecidableEq κ]{e:ι->κ}
def eg(e:ι->κ)(ps:List (ι×Addr)):List (κ×V):=ps.map fun x=>(e x.1,V.ref x.2)
theorem mq(inj:∀x y,e x=e y->x=y){i:ι}:∀{a:List (ι×Addr)},i∉a.map (·.1)->d4 (eg e a) (e i)=none
 |[],_=>rfl
 |x::a,h=>by
  rw[cw,cz]at h;show d4 ((e x.1,V.ref x.2)::eg e a) (e i)=none;rw[dL (fun z=>h (.inl (inj _ _ z).symm))];exact mq inj (fun z=>h (.inr z))
theorem fg(inj:∀x y,e x=e y->x=y){i:ι}{a:Addr}:∀{f:List (ι×Addr)},(f.map (·.1)).Nodup->(i,a)∈f->d4 (eg e f) (e i)=some (.ref a)
 |[],_,h=>by cases h
 |x::f,g,h=>by
  rw[cw,nE]at g;show d4 ((e x.1,V.ref x.2)::eg e f) (e i)=_;rcases cz.mp h with h|h
  ·rw[<-h];exact d9 rfl
  ·rw[dL (fun z=>g.1 (by rw[inj _ _ z];exact bA.mpr ⟨_,h,rfl⟩))];exact fg inj g.2 h
theorem v8(f:List (ι×Addr))(i:ι)(a:Addr):eg e (f++[(i,a)])=eg e f++[(e i,.ref a)]:=by
 unfold eg;rw[aQ]
 rfl
end
structure DL{ι:Type}(H0 H:Hp)(d:Addr)(ps:List (ι×Addr)):Prop where
 nd:(ps.map (·.1)).Nodup
 na:(ps.map (·.2)).Nodup
 fr:∀x∈ps,H0 x.2=none
 frd:H0 d=none
 ned:∀x∈ps,x.2≠d
 same:ac H0 H
theorem DL.snoc{ι:Type}{f H k:Hp}{d:Addr}{g:List (ι×Addr)}{i:ι}{a:Addr}(h:DL f H d g)(hi:i∉g.map (·.1))(l:∀x∈g,x.2≠a)(m:f a=none)(n:a≠d)(s:ac f k):DL f k d (g++[(i,a)]):=by
 refine⟨?_,?_,?_,h.frd,?_,s⟩
 ·rw[aQ,f_];refine⟨h.nd,by simp,fun x hx y j e=>?_⟩;have:y=i:=by simpa using j
  exact hi (by rw[<-this,<-e];exact hx)
 ·rw[aQ,f_];refine⟨h.na,by simp,fun x hx y j e=>?_⟩;have:y=a:=by simpa using j
  obtain⟨z,o,rfl⟩:=bA.mp hx;exact l z o (e.trans this)
 ·intro x hx;rcases cG.mp hx with hx|hx
  ·exact h.fr x hx
  ·have:x=(i,a):=by simpa using hx
   rw[this];exact m
 ·intro x hx;rcases cG.mp hx with hx|hx
  ·exact h.ned x hx
  ·have:x=(i,a):=by simpa using hx
   rw[this];exact n
theorem GV{ι:Type}:∀{a:List (ι×Addr)},(a.map (·.2)).Nodup->∀{x y:ι×Addr},x∈a->y∈a->x.2=y.2->x=y
 |[],_,x,_,h,_,_=>by cases h
 |p::a,f,x,y,hx,g,e=>by
  rw[cw,nE]at f;rcases cz.mp hx with hx'|hx'<;>rcases cz.mp g with hy'|hy'
  ·rw[hx',hy']
  ·exact absurd (bA.mpr ⟨y,hy',by rw[<-e,hx']⟩) f.1
  ·exact absurd (bA.mpr ⟨x,hx',by rw[e,hy']⟩) f.1
  ·exact GV f.2 hx' hy' e
theorem jk:∀x y:Str,(Sum.inr x:fA)=Sum.inr y->x=y:=fun x y h=>by injection h
def cT(ds:List aJ)(r:Str):List aJ:=ds.filter fun d=>decide (d.a=r)
inductive sp_doors_by_start (vs:List V)(H:Hp)(Q:VK)(E:XK):Prop
 |mk (l3 l4:Addr) (ts:Ze) (J4:Zb) (ds:List aJ):(vs=[.ref l3,.ref l4])->(H l3=some (.lst (J4.map V.str)))->(H l4=some (.lst (ts.map V.ref)))->(eP H ts ds)->(J4.Nodup)->(J4.length<=1000)->(ds.length<=9000)->((∀d∈ds,d.a∈J4))->(∀(d:Addr) (ps:List (Str×Addr)) (H':Hp),ps.map (·.1)=J4->H' d=some (.dK (eg Sum.inr ps))->(∀x∈ps,∃us,H' x.2=some (.lst (us.map V.ref))/\eP H' us (cT ds x.1))->ac H H'->Q (.ref d) H')->sp_doors_by_start  vs H Q E
theorem pq{K:Za}{vs:List V}{H:Hp}{Q:VK}{E:XK}(h:sp_doors_by_start vs H Q E):qM K (bq Q) (start rm vs) H:=by
 obtain⟨l3,l4,ts,J4,L,rfl,h3,h4,M,aC,hz,bi,aT,k⟩:=h;refine fun d hd=>?_;refine⟨_,rfl,l3,rfl,⟨_,aF.of (kp h3 hd)⟩,?_⟩
 let aX:Nat->L2.St->Hp->Prop:=fun i σ j=>∃x y,σ=[some (.ref l3),some (.ref l4),some (.ref d),x,y]/\∃l:List (Str×Addr),l.map (·.1)=J4.take i/\j d=some (.dK (eg Sum.inr l))/\DL H j d l/\∀x∈l,j x.2=some (.lst [])
 refine fz (xs:=J4.map V.str) aX
  ⟨_,_,rfl,[],rfl,aa,⟨by simp,by simp,by simp,hd,by simp,ac.new hd⟩,by simp⟩ (fun i σ j _ zq=>by obtain⟨_,_,_,_,_,_,D,_⟩:=zq;exact aF.of (D.same _ _ h3)) ?_ ?_
 ·rintro i x σ j hi ⟨x3,N,rfl,l,m,n,D,g⟩;obtain⟨w,hw,rfl⟩:=cX hi;have v:w∉l.map (·.1):=by
   rw[m];intro z;have:=aC;rw[<-List.take_append_drop (i+1) J4,take_snoc hw,f_]at this;have:=this.1;rw[f_]at this;exact this.2.2 w z w (by simp) rfl
  refine⟨(by show 0<=ai;decide),fun a G=>?_⟩;have O:(eg (Sum.inr:Str->fA) l).length<ai:=ax (by
   unfold eg;rw[ao,<-ao (f:=(·.1)) (as:=l),m,aK];omega)
  have a0:H a=none:=D.same.free G;have T:a≠d:=(ah n G).symm;have U:∀x∈l,x.2≠a:=fun x hx=>ah (g x hx) G;refine⟨_,rfl,_,rfl,d,_,rfl,.inl ⟨_,.inr w,kp n G,rfl,O,rfl⟩,_,_,rfl,l++[(w,a)],?_,?_,?_,?_⟩
  ·rw[aQ,m,take_snoc hw];rfl
  ·rw[aa,ul _ (mq jk v),v8]
  ·refine D.snoc v U a0 T ?_;intro b o q;rw[am (ah q hd)];exact kp (D.same _ _ q) G
  ·intro x hx;rcases cG.mp hx with hx|hx
   ·rw[am (D.ned x hx)];exact kp (g x hx) G
   ·have:x=(w,a):=by simpa using hx
    rw[this,am T];exact aa
 ·rintro σ H1 ⟨x3,N,rfl,l,m,a4,D1,g⟩;rw[ao,cv]at m;refine⟨_,rfl,l4,rfl,⟨_,aF.of (D1.same _ _ h4)⟩,?_⟩
  let a5:Nat->L2.St->Hp->Prop:=fun i σ j=>∃N,σ=[some (.ref l3),some (.ref l4),some (.ref d),x3,N]/\j d=some (.dK (eg Sum.inr l))/\DL H j d l/\∀x∈l,∃I,j x.2=some (.lst (I.map V.ref))/\eP j I (cT (L.take i) x.1)
  refine fz (xs:=ts.map V.ref) a5
   ⟨_,rfl,a4,D1,fun x hx=>⟨[],g x hx,.nil⟩⟩ (fun i σ j _ zq=>by obtain⟨_,_,_,D,_⟩:=zq;exact aF.of (D.same _ _ h4)) ?_ ?_
  ·rintro i x σ j hi ⟨N,rfl,n,D,g⟩;obtain⟨t,ht,rfl⟩:=hJ hi;obtain⟨u,B,a6⟩:=Paired.getL M ht;have A:=a6.kt (ac.kt D.same);have Y:=A;obtain⟨s,a7,bl⟩:=A;have ab:u.a∈l.map (·.1):=by rw[m];exact aT u (dw B)
   obtain⟨⟨r,a⟩,p,er⟩:=bA.mp ab;obtain rfl:r=u.a:=er;obtain⟨I,C,al⟩:=g _ p;have bm:i<L.length:=(cV.mp B).1;have a8:I.length<=9000:=by
    rw[Paired.length al];refine bo (p_ _ _) ?_;rw[aK];omega
   have KT:gB j (upd j a (.lst (I.map V.ref++[.ref t]))):=fo C;refine⟨_,rfl,_,rfl,.inr (.inl ⟨t,_,0,_,rfl,rfl,bE.of a7,rfl,d,.ref a,rfl,.inl ⟨_,.inr u.a,.inl n,rfl,(fg jk D.nd p).symm⟩,.inl ⟨rfl,_,aF.of C⟩,_,rfl,a,_,_,rfl,rfl,C,?_,_,rfl,?_,?_,?_⟩)⟩
   ·rw[ao];exact iK a8
   ·rw[am (D.ned _ p).symm];exact n
   ·refine⟨D.nd,D.na,D.fr,D.frd,D.ned,fun b o q=>?_⟩;rw[am (ah q (D.fr _ p))];exact D.same _ _ q
   ·intro x hx;have an:∀r',cT (L.take (i+1)) r'=cT (L.take i) r'++(if u.a=r' then[u]else[]):=by
     intro r';unfold cT;rw[take_snoc B,sY];congr 1;by_cases c:u.a=r'
     ·rw[if_pos c];simp[c]
     ·rw[if_neg c];simp[c]
    by_cases c:x.2=a
    ·have ex:=GV D.na hx p c;subst ex;refine⟨I++[t],?_,?_⟩
     ·show upd j a _ a=_;rw[aa,aQ];rfl
     ·rw[an];show eP _ _ (cT (L.take i) u.a++(if u.a=u.a then[u]else[]))
      rw[if_pos rfl];exact Paired.app (al.kt KT) (.cons (Y.kt KT) .nil)
    ·obtain⟨a9,h1,h2⟩:=g x hx;have bd:¬(u.a=x.1):=fun z=>by
      have e1:=fg (e:=(Sum.inr:Str->fA)) jk D.nd p;have J:=fg (e:=(Sum.inr:Str->fA)) (i:=x.1) (a:=x.2) jk D.nd hx;rw[<-z,e1]at J;injection J with J;injection J with J;exact c J.symm
     refine⟨a9,by rw[am c];exact h1,?_⟩;rw[an,if_neg bd,eM];exact h2.kt KT
  ·rintro σ j ⟨N,rfl,n,D,g⟩;rw[ao,Paired.length M,cv]at g;exact⟨_,rfl,k d l j m n g D.same⟩
def wd(d:aJ):Bool:=match d.sg with
 |s::_=>decide (s=("ask":Str))
 |[]=>false
inductive sp_has_asks_alone (vs:List V)(H:Hp)(Q:VK)(E:XK):Prop
 |mk (a:Addr) (us:Ze) (ds:List aJ):(vs=[.ref a])->(H a=some (.lst (us.map V.ref)))->(eP H us ds)->(ds.length<=9000)->((∀d∈ds,d.sg≠[]))->(∀H',ac H H'->Q (.bl (ds.all wd)) H')->sp_has_asks_alone  vs H Q E
theorem pp{K:Za}{f:List V}{H:Hp}{Q:VK}{E:XK}(h:sp_has_asks_alone f H Q E):qK K (bq Q) (start rk f) H:=by
 obtain⟨a,O,L,rfl,M,v,Y,C,k⟩:=h;refine⟨_,rfl,a,rfl,⟨_,aF.of M⟩,fun l N=>?_⟩
 let D:Nat->List V->Hp->Prop:=fun i f n=>f=(L.take i).map (fun d=>V.bl (wd d))/\ac H n/\n l=some (.lst f)
 refine eA (xs:=O.map V.ref) D
  ⟨rfl,ac.new N,aa⟩ (fun i f n _ T=>by obtain⟨_,p,r⟩:=T;exact⟨r,aF.of (p _ _ M)⟩) ?_ ?_
 ·rintro f n ⟨rfl,p,r⟩;rw[ao,Paired.length v,cv]at r;refine⟨l,L.map wd,rfl,aF.of (by rw[r,tf];rfl),?_⟩;rw[List.all_map];exact k n p
 ·rintro i f n x hx hi ⟨rfl,p,r⟩;obtain⟨t,U,rfl⟩:=hJ hx;obtain⟨G,w,I⟩:=Paired.getL v U;obtain⟨s,J,m⟩:=I.kt (ac.kt p);have A:=dw w;obtain⟨u,g,B⟩:∃u g,G.sg=u::g:=by
   cases q:G.sg with
   |nil=>exact absurd q (C G A)
   |cons x y=>exact⟨x,y,rfl⟩
  unfold SignAt at m;rw[B]at m;refine gN (lA ?_);refine⟨_,rfl,.inr (.inl ⟨t,_,1,_,rfl,rfl,bE.of J,rfl,.inr (.inl ⟨s,_,0,.str u,rfl,rfl,bE.of m,aM (j:=0) rfl,rfl,r,?_,vn hi ⟨?_,?_,aa⟩⟩)⟩)⟩
  ·rw[ao,aK];exact iK (by omega)
  ·rw[take_snoc w,aQ];congr 1;show[V.bl _]=[V.bl _];congr 2;unfold wd;rw[B];show decide (V.str u=V.str _)=decide (u=_);by_cases c:u=("ask":Str)
   ·rw[zzr1 c,zzr1 (by rw[c])]
   ·rw[zzr0 c,zzr0 (fun z=>c (by injection z))]
  ·intro b o e;rw[am (ah e N)];exact p _ _ e
def u3(x:Str×List Str):TK:=.t [sy x.1,Fx x.2]
theorem iG:∀x y:Str×List Str,u3 x=u3 y->x=y:=by
 intro x y h;unfold u3 at h;injection h with h;injection h with a h;injection h with e h;cases x;cases y;simp only at *;rw[sM a,DD e]
theorem qR(x:Str×List Str):(u3 x).depth<=8:=by
 show max (TK.depth (sy x.1)) (max (TK.depth (Fx x.2)) 0)+1<=8;rw[vN];show max 0 (max 1 0)+1<=8
 decide
def bJ(ds:List aJ)(x:Str×List Str):List Str:=(ds.filter fun d=>decide (d.a=x.1/\d.sg=x.2)).map (·.b)
theorem yV(e:List aJ)(d:aJ)(x:Str×List Str):bJ (e++[d]) x=bJ e x++(if(d.a,d.sg)=x then[d.b]else[]):=by
 unfold bJ;rw[sY,aQ];congr 1;by_cases c:(d.a,d.sg)=x
 ·subst c;simp
 ·rw[if_neg c];have:¬(d.a=x.1/\d.sg=x.2):=fun z=>c (by cases x;simp only at z;rw[z.1,z.2]);simp[List.filter_cons];intro f g;exact this ⟨f,g⟩
theorem lR{e:List aJ}{x:Str×List Str}(h:∀d∈e,(d.a,d.sg)≠x):bJ e x=[]:=by
 unfold bJ;rw[sX,List.filter_eq_nil_iff];intro d f;have:¬(d.a=x.1/\d.sg=x.2):=fun z=>h d f (by cases x;simp only at z;rw[z.1,z.2]);simp;intro g i;exact this ⟨g,i⟩
theorem h7{a:List aJ}{x:Str×List Str}{b:Str}:b∈bJ a x↔(⟨x.1,x.2,b⟩:aJ)∈a:=by
 unfold bJ;rw[bA];constructor
 ·rintro⟨d,e,rfl⟩;rw[List.mem_filter]at e;obtain⟨i,j⟩:=e;obtain⟨f,g⟩:=of_decide_eq_true j;cases d;simp only at f g;rw[<-f,<-g];exact i
 ·intro h;exact⟨_,List.mem_filter.mpr ⟨h,zzr1 ⟨rfl,rfl⟩⟩,rfl⟩
structure jm(H:Hp)(g:Addr)(ps:List ((Str×List Str)×Addr))(ds:List aJ):Prop where
 nd:(ps.map (·.1)).Nodup
 g:H g=some (.dT (eg u3 ps))
 ls:∀x∈ps,H x.2=some (.lst ((bJ ds x.1).map V.str))
 all:∀d∈ds,(d.a,d.sg)∈ps.map (·.1)
theorem jm.same{H H':Hp}{g:Addr}{a:List ((Str×List Str)×Addr)}{e:List aJ}(h:jm H g a e)(s:ac H H'):jm H' g a e:=⟨h.nd,s _ _ h.g,fun x hx=>s _ _ (h.ls x hx),h.all⟩
inductive pi (vs:List V)(H:Hp)(Q:VK)(E:XK):Prop
 |mk (l4:Addr) (ts:Ze) (ds:List aJ):(vs=[.ref l4])->(H l4=some (.lst (ts.map V.ref)))->(eP H ts ds)->(ds.length<=9000)->(∀(g:Addr) (ps:List ((Str×List Str)×Addr)) (H':Hp),jm H' g ps ds->ac H H'->Q (.ref g) H')->pi  vs H Q E
theorem iY{K:Za}{vs:List V}{H:Hp}{Q:VK}{E:XK}(h:pi vs H Q E):jc K (bq Q) (start jd vs) H:=by
 obtain⟨l4,ts,T,rfl,h4,ab,hz,k⟩:=h;refine fun g hg=>?_;refine⟨_,rfl,l4,rfl,⟨_,aF.of (kp h4 hg)⟩,?_⟩
 let aX:Nat->L2.St->Hp->Prop:=fun i σ u=>∃x y z,σ=[some (.ref l4),some (.ref g),x,y,z]/\∃p:List ((Str×List Str)×Addr),DL H u g p/\u g=some (.dT (eg u3 p))/\p.length<=i/\(∀x∈p,u x.2=some (.lst ((bJ (T.take i) x.1).map V.str)))/\∀d∈T.take i,(d.a,d.sg)∈p.map (·.1)
 refine fz (xs:=ts.map V.ref) aX
  ⟨_,_,_,rfl,[],⟨by simp,by simp,by simp,hg,by simp,ac.new hg⟩,aa,by simp,by simp,by simp⟩ (fun i σ u _ zq=>by obtain⟨_,_,_,_,_,D,_⟩:=zq;exact aF.of (D.same _ _ h4)) ?_ ?_
 ·rintro i x σ u hi ⟨x2,x3,x4,rfl,p,D,w,al,m,l⟩;obtain⟨t,ht,rfl⟩:=hJ hi;obtain⟨f,C,a0⟩:=Paired.getL ab ht;have a9:i<T.length:=(cV.mp C).1;obtain⟨s,a4,a5⟩:=a0.kt (ac.kt D.same);refine⟨t,_,rfl,bE.of a4,rfl,_,_,rfl,_,_,rfl,_,_,rfl,rfl,?_⟩;refine⟨_,rfl,.inr (.inr (.inl ⟨rfl,.inr ⟨_,w⟩⟩)),_,rfl,_,rfl,(by show 2<=ai;decide),fun kt an=>⟨(by show 0<=ai;decide),fun nl U=>?_⟩⟩;have G:ac u (upd (upd u kt (.tup [.str f.a,.ref s])) nl (.lst [])):=(ac.new an).trans (ac.new U);have L:upd (upd u kt (.tup [.str f.a,.ref s])) nl (.lst []) kt=some (.tup [.str f.a,.ref s]):=kp aa U;have M:upd (upd u kt (.tup [.str f.a,.ref s])) nl (.lst []) nl=some (.lst []):=aa;have j:u nl=none:=(ac.new an).free U;generalize upd (upd u kt (.tup [.str f.a,.ref s])) nl (.lst [])=H2 at G L M ⊢;have a6:i6 H2 (u3 (f.a,f.sg)) (.ref kt):=by
   unfold u3 i6;refine⟨kt,_,rfl,L,?_⟩;unfold TKAts;refine⟨_,_,rfl,Bo _,?_⟩;unfold TKAts;refine⟨_,_,rfl,SignAt.tk (G _ _ a5),?_⟩;unfold TKAts
   rfl
  have a7:(eg u3 p).length<ai:=iK (by unfold eg;rw[ao];omega);have I:∀x,bJ (T.take (i+1)) x=bJ (T.take i) x++(if(f.a,f.sg)=x then[f.b]else[]):=fun x=>by rw[take_snoc C,yV]
  have a8:∀x,(bJ (T.take i) x).length<=9000:=fun x=>by
   unfold bJ;rw[ao];refine bo (p_ _ _) ?_;rw[aK];omega
  refine⟨g,kt,_,u3 (f.a,f.sg),.ref nl,rfl,rfl,G _ _ w,a6,qR _,a7,fun v J=>?_,fun J=>?_⟩
  ·-- there as
   have N:(f.a,f.sg)∈p.map (·.1):=by
    refine Classical.byContradiction fun z=>?_;rw[mq iG z]at J;cases J
   obtain⟨⟨r,a⟩,n,er⟩:=bA.mp N;obtain rfl:r=(f.a,f.sg):=er;rw[fg iG D.nd n]at J;injection J with J;subst J;have aC:=G _ _ (m _ n);refine⟨.inl ⟨rfl,_,aF.of aC⟩,_,rfl,a,_,_,rfl,rfl,aC,by rw[ao];exact iK (a8 _),_,_,_,rfl,p,⟨D.nd,D.na,D.fr,D.frd,D.ned,fun b o q=>?_⟩,?_,by omega,?_,?_⟩
   ·rw[am (ah q (D.fr _ n))];exact G _ _ (D.same _ _ q)
   ·rw[am (D.ned _ n).symm];exact G _ _ w
   ·intro x hx;by_cases c:x.2=a
    ·have ex:=GV D.na hx n c;subst ex;show upd H2 a _ a=_;rw[aa,I,if_pos rfl,aQ];rfl
    ·have Y:¬((f.a,f.sg)=x.1):=fun z=>by
      have e1:=fg (e:=u3) iG D.nd n;have e2:=fg (e:=u3) (i:=x.1) (a:=x.2) iG D.nd hx;rw[<-z,e1]at e2;injection e2 with e2;injection e2 with e2;exact c e2.symm
     rw[am c,I,if_neg Y,eM];exact G _ _ (m x hx)
   ·intro d hd;rw[take_snoc C]at hd;rcases cG.mp hd with hd|hd
    ·exact l d hd
    ·have:d=f:=by simpa using hd
     rw[this];exact N
  ·-- a new list
   have A:(f.a,f.sg)∉p.map (·.1):=by
    intro z;obtain⟨⟨r,a⟩,n,er⟩:=bA.mp z;obtain rfl:r=(f.a,f.sg):=er;rw[fg iG D.nd n]at J;cases J
   have B:nl≠g:=(ah w j).symm;have O:upd H2 g (.dT (eg u3 p++[(u3 (f.a,f.sg),.ref nl)])) nl=some (.lst []):=by rw[am B];exact M
   refine⟨.inl ⟨rfl,_,aF.of O⟩,_,rfl,nl,_,_,rfl,rfl,O,(by show 0<ai;decide),_,_,_,rfl,p++[((f.a,f.sg),nl)],?_,?_,?_,?_,?_⟩
   ·refine D.snoc A (fun x hx=>ah (m x hx) j) (D.same.free j) B ?_;intro b o q;rw[am (ah q (D.same.free j)),am (ah q hg)];exact G _ _ (D.same _ _ q)
   ·rw[am B.symm,aa,v8]
   ·rw[aP];show _+1<=_;omega
   ·intro x hx;rcases cG.mp hx with hx|hx
    ·have Y:¬((f.a,f.sg)=x.1):=fun z=>A (by rw[z];exact bA.mpr ⟨x,hx,rfl⟩);rw[am (ah (m x hx) j),am (D.ned x hx),I,if_neg Y,eM];exact G _ _ (m x hx)
    ·have:x=((f.a,f.sg),nl):=by simpa using hx
     subst this;have aT:bJ (T.take i) (f.a,f.sg)=[]:=lR fun d hd z=>A (by rw[<-z];exact l d hd);show upd _ nl _ nl=_;rw[aa,I,if_pos rfl,aT]
     rfl
   ·intro d hd;rw[aQ];rw[take_snoc C]at hd;rcases cG.mp hd with hd|hd
    ·exact gD _ (l d hd)
    ·have:d=f:=by simpa using hd
     rw[this];exact dE _ (by simp)
 ·rintro σ u ⟨x2,x3,x4,rfl,p,D,w,al,m,l⟩;rw[ao,Paired.length ab,cv]at m l;exact⟨_,rfl,k g p u ⟨D.nd,w,m,l⟩ D.same⟩
theorem uy:∀{L R:Zb},L.Nodup->(∀y∈L,y∈R)->L.length<=R.length
 |[],_,_,_=>cp _
 |x::L,R,a,h=>by
  rw[nE]at a;have hx:=h x fh;have:=uy (L:=L) (R:=R.erase x) a.2 fun y f=>(List.mem_erase_of_ne (fun e:y=x=>a.1 (by rw[<-e];exact f))).mpr (h y (eK _ f));rw[List.length_erase_of_mem hx]at this;have:0<R.length:=List.length_pos_of_mem hx;rw[dD];omega
theorem Reach.in_{e:List aJ}{a b:Str}{f:Zb}(g:∀d∈e,d.b∈f)(h:Reach e a b):b∈f:=by
 cases h with
 |one h=>exact g _ h
 |step r h=>exact g _ h
inductive yn (vs:List V)(H:Hp)(Q:VK)(E:XK):Prop
 |mk (g:Addr) (room:Str) (ps:List ((Str×List Str)×Addr)) (ds:List aJ) (J4:Zb):(vs=[.ref g,.str room])->(jm H g ps ds)->((∀d∈ds,d.b∈J4))->(J4.length<=1000)->(∀(d:Addr) (L:Zb) (H':Hp),H' d=some (.dK (bH L))->L.Nodup->(∀w,w∈L↔Reach ds room w)->H d=none->ac H H'->Q (.ref d) H')->yn  vs H Q E
structure K5(H0 H:Hp)(ds:List aJ)(room:Str)(d w:Addr)(L W:Zb)(open_:Str->Prop):Prop where
 d:H d=some (.dK (bH L))
 w:H w=some (.lst (W.map V.str))
 same:ac H0 H
 nd:L.Nodup
 sound:∀y∈L,Reach ds room y
 wait:∀y∈W,y=room∨y∈L
 closed:∀y,(y=room∨y∈L)->y∉W->¬open_ y->∀c∈bJ ds (y,cj),c∈L
theorem sB{K:Za}{st:Addr}(bn:∀H,bE K H st (cj.map V.str)){vs:List V}{H:Hp}{Q:VK}{E:XK}(h:yn vs H Q E):t8 K st (bq Q) (start uT vs) H:=by
 obtain⟨g,room,ps,ds,t,rfl,G,bG,hz,k⟩:=h;refine fun d hd=>?_;refine⟨_,rfl,(by show 1<=ai;decide),fun w hw=>?_⟩;have aT:H w=none:=(ac.new hd).free hw;have Y:d≠w:=ah aa hw;refine⟨fun m σ C=>∃(L W:Zb) (x y:Option V),σ=[some (.ref g),some (.str room),some (.ref d),some (.ref w),x,y]/\K5 H C ds room d w L W (fun _=>False)/\m=2 * (t.length-L.length)+W.length/\m<=2 * t.length+1,
  ⟨_,[],[room],_,_,rfl,⟨kp aa hw,aa,(ac.new hd).trans (ac.new hw),List.nodup_nil,by simp,by simp,?_⟩,rfl,ay _⟩,?_⟩
 ·intro y hy T;rcases hy with rfl|hy
  ·simp at T
  ·cases hy
 rintro m σ H1 ⟨L,W,x4,x5,rfl,D,rfl,hbound⟩;have U:∀{l:Zb},l.Nodup->(∀y∈l,Reach ds room y)->l.length<=t.length:=fun nd sd=>uy nd fun y hy=>(sd y hy).in_ bG;refine⟨_,rfl,.inl ⟨w,_,rfl,.inl (aF.of D.w),_,_,rfl,rfl,_,rfl,?_⟩⟩;refine pK (fun B=>?_) (fun B=>?_)
 ·have aX:W≠[]:=by
   intro z;rw[z]at B;exact absurd (of_decide_eq_true B) (by decide)
  obtain⟨s,f,rfl⟩:∃s f,W=s++[f]:=⟨W.dropLast,W.getLast aX,(List.dropLast_concat_getLast aX).symm⟩;have ab:f=room∨f∈L:=D.wait f (by simp);refine⟨fun σ' C=>∃(l n:Zb) (x y:Option V),σ'=[some (.ref g),some (.str room),some (.ref d),some (.ref w),x,y]/\K5 H C ds room d w l n (fun _=>False)/\2 * (t.length-l.length)+n.length<2 * (t.length-L.length)+(s++[f]).length,
   fun σ' C ⟨l,n,x,y,e,D',hm⟩=>⟨_,hm,l,n,x,y,e,D',rfl,by omega⟩,?_⟩
  have al:((s++[f]).map V.str)[((s++[f]).map V.str).length-1]?=some (.str f):=by simp
  have an:((s++[f]).map V.str).dropLast=s.map V.str:=by rw[aQ];simp
  refine⟨_,rfl,.inl ⟨rfl,_,aF.of D.w⟩,w,_,_,rfl,rfl,D.w,al,?_⟩;rw[an];have a0:upd H1 w (.lst (s.map V.str)) d=some (.dK (bH L)):=by rw[am Y];exact D.d
  have a4:upd H1 w (.lst (s.map V.str)) w=some (.lst (s.map V.str)):=aa;have S1:ac H (upd H1 w (.lst (s.map V.str))):=fun b o q=>by rw[am (ah q aT)];exact D.same _ _ q
  generalize upd H1 w (.lst (s.map V.str))=H2 at a0 a4 S1 ⊢;have G2:=G.same S1;refine⟨_,rfl,g,rfl,.inr ⟨_,.inl G2.g⟩,_,rfl,(by show 2<=ai;decide),fun kt a5=>⟨(by show 0<=ai;decide),fun et as=>⟨d4 (eg u3 ps) (u3 (f,cj)),.inr ⟨_,u3 (f,cj),kt,.inl ?_,rfl,?_,qR _,rfl⟩,?_⟩⟩⟩
  ·exact kp (kp G2.g a5) as
  ·unfold u3 mN;refine⟨kt,_,rfl,bE.of (kp aa as),?_⟩;unfold TKIns;refine⟨_,_,rfl,?_,?_⟩
   ·unfold sy mN;rfl
   unfold TKIns;refine⟨_,_,rfl,?_,?_⟩
   ·unfold Fx mN;refine⟨st,_,rfl,bn _,?_⟩;unfold cj;show TKIns K _ [sy _] [V.str _];unfold TKIns;refine⟨_,_,rfl,?_,?_⟩
    ·unfold sy mN;rfl
    unfold TKIns;rfl
   unfold TKIns;rfl
  have S3:ac H2 (upd (upd H2 kt (.tup [.str f,.ref st])) et (.tup [])):=(ac.new a5).trans (ac.new as);have I:upd (upd H2 kt (.tup [.str f,.ref st])) et (.tup []) et=some (.tup []):=aa;generalize upd (upd H2 kt (.tup [.str f,.ref st])) et (.tup [])=H3 at S3 I ⊢;have D3:K5 H H3 ds room d w L s (fun y=>y=f):=⟨S3 _ _ a0,S3 _ _ a4,S1.trans S3,D.nd,D.sound,fun y hy=>D.wait y (gD _ hy),fun y hy T ho=>D.closed y hy (fun z=>by rcases cG.mp z with z|z;exact T z;exact ho (by simpa using z)) (fun z=>z)⟩;have a6:2 * (t.length-L.length)+s.length<2 * (t.length-L.length)+(s++[f]).length:=by rw[aP];show _<_+(_+1);omega
  have a7:∀(H4:Hp) (l n:Zb) (x y:Option V),K5 H H4 ds room d w l n (fun y=>y=f)->(∀c∈bJ ds (f,cj),c∈l)->2 * (t.length-l.length)+n.length<2 * (t.length-L.length)+(s++[f]).length ->
    ∃(l n:Zb) (x' y':Option V),[some (V.ref g),some (.str room),some (.ref d),some (.ref w),x,y]=[some (.ref g),some (.str room),some (.ref d),some (.ref w),x',y']/\K5 H H4 ds room d w l n (fun _=>False)/\2 * (t.length-l.length)+n.length<2 * (t.length-L.length)+(s++[f]).length:=by
   intro H4 l n x y p hc hm;refine⟨l,n,x,y,rfl,⟨p.d,p.w,p.same,p.nd,p.sound,p.wait,fun y hy T _=>?_⟩,hm⟩;by_cases e:y=f
   ·rw[e];exact hc
   ·exact p.closed y hy T e
  by_cases J:(f,cj)∈ps.map (·.1)
  ·obtain⟨⟨r,a⟩,a8,er⟩:=bA.mp J;obtain rfl:r=(f,cj):=er;rw[fg iG G.nd a8];have a9:=G.ls _ a8;refine⟨a,rfl,.inl ⟨⟨_,aF.of ((S1.trans S3) _ _ a9)⟩,?_⟩⟩
   let aC:Nat->L2.St->Hp->Prop:=fun j σ C=>Jp fun(l n:Zb) (y:Option V)=>K0 (σ=[some (.ref g),some (.str room),some (.ref d),some (.ref w),some (.str f),y]) (K5 H C ds room d w l n (fun y=>y=f)) ((f=room∨f∈l)) ((∀c∈(bJ ds (f,cj)).take j,c∈l)) (2 * (t.length-l.length)+n.length<2 * (t.length-L.length)+(s++[f]).length)
   refine fz (xs:=(bJ ds (f,cj)).map V.str) aC
    ⟨L,s,_,rfl,D3,ab,by simp,a6⟩ (fun j σ C _ zq=>by obtain⟨_,_,_,_,D',_,_,_⟩:=zq;exact aF.of (D'.same _ _ a9)) ?_ ?_
   ·rintro j x σ H4 hj ⟨l,n,y,rfl,p,hh,hc,hm⟩;obtain⟨i,u,rfl⟩:=cX hj;have v:(⟨f,cj,i⟩:aJ)∈ds:=h7.mp (dw u);have O:Reach ds room i:=by
     rcases hh with hh|hh
     ·rw[hh]at v;exact .one v
     ·exact .step (p.sound _ hh) v
    have bL:=U p.nd p.sound;refine⟨_,rfl,_,rfl,d,_,rfl,.inl ⟨_,.inr i,.inl p.d,rfl,rfl⟩,_,rfl,?_⟩;rw[jO];by_cases c:i∈l
    ·rw[zzr1 c];refine aZ ⟨l,n,_,rfl,p,hh,?_,hm⟩;intro c' A;rw[take_snoc u]at A;rcases cG.mp A with h|h
     ·exact hc c' h
     ·have:c'=i:=by simpa using h
      rw[this];exact c
    ·rw[zzr0 c];refine br ?_;have bd:(l++[i]).Nodup:=by
      rw[f_];refine⟨p.nd,by simp,fun a ha b hb e=>?_⟩;have:b=i:=by simpa using hb
      exact c (by rw[<-this,<-e];exact ha)
     have bi:∀y∈l++[i],Reach ds room y:=by
      intro y hy;rcases cG.mp hy with hy|hy
      ·exact p.sound y hy
      ·have:y=i:=by simpa using hy
       rw[this];exact O
     have M:=U bd bi;rw[aP]at M;have bN:l.length+1<=t.length:=M;have bP:n.length<=9000:=by omega
     refine⟨_,rfl,_,rfl,d,_,rfl,.inl ⟨_,.inr i,p.d,rfl,ax (bo (nY _) (by omega)),rfl⟩,?_⟩;have bm:upd H4 d (.dK (hV (bH l) (.inr i) (.bl true))) w=some (.lst (n.map V.str)):=by rw[am Y.symm];exact p.w
     refine⟨_,rfl,.inl ⟨rfl,_,aF.of bm⟩,_,rfl,w,_,_,rfl,rfl,bm,by rw[ao];exact iK bP,l++[i],n++[i],_,rfl,⟨?_,?_,?_,bd,bi,?_,?_⟩,?_,?_,?_⟩
     ·rw[am Y,aa,fV]
     ·rw[aa,aQ];rfl
     ·intro b o q;rw[am (ah q aT),am (ah q hd)];exact p.same _ _ q
     ·intro y hy;rcases cG.mp hy with hy|hy
      ·rcases p.wait y hy with h|h
       ·exact .inl h
       ·exact .inr (gD _ h)
      ·exact .inr (dE _ hy)
     ·intro y hy T ho c' A;have bT:y∉n:=fun z=>T (gD _ z);have b0:y≠i:=fun z=>T (dE _ (by simp[z]));refine gD _ (p.closed y ?_ bT ho c' A);rcases hy with hy|hy
      ·exact .inl hy
      ·rcases cG.mp hy with hy|hy
       ·exact .inr hy
       ·exact absurd (by simpa using hy) b0
     ·rcases hh with h|h
      ·exact .inl h
      ·exact .inr (gD _ h)
     ·intro c' A;rw[take_snoc u]at A;rcases cG.mp A with h|h
      ·exact gD _ (hc c' h)
      ·exact dE _ h
     ·rw[aP,aP];show 2 * (t.length-(l.length+1))+(n.length+1)<_;omega
   ·rintro σ H4 ⟨l,n,y,rfl,p,hh,hc,hm⟩;rw[ao,cv]at hc;exact a7 H4 l n _ _ p hc hm
  ·rw[mq iG J];refine⟨et,rfl,.inr ⟨⟨_,bE.of I⟩,?_⟩⟩;have N:bJ ds (f,cj)=[]:=lR fun x hx z=>J (by rw[<-z];exact G.all x hx)
   let aC:Nat->L2.St->Hp->Prop:=fun j σ C=>σ=[some (.ref g),some (.str room),some (.ref d),some (.ref w),some (.str f),x5]/\C=H3
   refine Jc (xs:=[]) aC ⟨rfl,rfl⟩ (fun j σ C _ zq=>by obtain⟨_,e⟩:=zq;exact by rw[e];exact bE.of I) (fun j x σ C hj=>by cases hj) ?_;rintro σ C ⟨rfl,rfl⟩;exact a7 _ L s _ _ D3 (by rw[N];simp) a6
 ·have N:W=[]:=by
   cases W with
   |nil=>rfl
   |cons a W=>exact absurd (zzr1 (by rw[ao,dD];omega)) B
  subst N;refine⟨_,rfl,k d L H1 D.d D.nd (fun w=>⟨D.sound w,fun hr=>?_⟩) hd D.same⟩
  induction hr with
  |one h=>exact D.closed room (.inl rfl) (by simp) (fun z=>z) _ (h7.mpr h)
  |step r h ih=>exact D.closed _ (.inr ih) (by simp) (fun z=>z) _ (h7.mpr h)
inductive sp_first_led_round (vs:List V)(H:Hp)(Q:VK)(E:XK):Prop
 |mk (l3 d:Addr) (J4:Zb) (ps:List (Str×Addr)):(vs=[.ref l3,.ref d])->(H l3=some (.lst (J4.map V.str)))->(H d=some (.dK (eg Sum.inr ps)))->(ps.map (·.1)=J4)->(J4.Nodup)->((∀x∈ps,∃L,H x.2=some (.dK (bH L))/\x.1∉L))->(∀H',ac H H'->Q .non H')->sp_first_led_round  vs H Q E
theorem nQ{K:Za}{p:List V}{H:Hp}{Q:VK}{E:XK}(h:sp_first_led_round p H Q E):oY K (bq Q) (start pZ p) H:=by
 obtain⟨q,d,u,v,rfl,s,z,f,m,A,k⟩:=h;refine⟨_,rfl,q,rfl,⟨_,aF.of s⟩,?_⟩
 let n:Nat->L2.St->Hp->Prop:=fun i σ e=>∃x y,σ=[some (.ref q),some (.ref d),x,y]/\ac H e
 refine i4 (xs:=u.map V.str) n ⟨_,_,rfl,ac.refl H⟩ (fun i σ e _ B=>by obtain⟨_,_,_,S⟩:=B;exact aF.of (S _ _ s)) ?_ ?_
 ·rintro i x σ e t hi ⟨J,M,rfl,S⟩ C;obtain⟨w,D,rfl⟩:=cX hi;refine⟨t,_,rfl,bE.of aa,rfl,_,_,rfl,_,_,rfl,rfl,?_⟩;have l:ac H (upd e t (.tup [.int i,.str w])):=S.trans (ac.new C);generalize upd e t (.tup [.int i,.str w])=N at l ⊢;have g:w∈v.map (·.1):=by rw[f];exact dw D
  obtain⟨⟨r,a⟩,j,G⟩:=bA.mp g;obtain rfl:r=w:=G;obtain⟨L,o,I⟩:=A _ j;refine⟨_,rfl,_,rfl,_,rfl,d,.ref a,rfl,.inl ⟨_,.inr r,.inl (l _ _ z),rfl,(fg jk (by rw[f];exact m) j).symm⟩,a,_,rfl,.inl ⟨_,.inr r,.inl (l _ _ o),rfl,rfl⟩,_,rfl,?_⟩;rw[jO,zzr0 I];exact aZ ⟨_,_,rfl,l⟩
 ·rintro σ e ⟨x,y,rfl,S⟩;exact k e S
abbrev lk(f:Str)(fs:List (Str×V)):Option V:=fs.lookup f
def nR(ds:List aJ)(r:Str):Bool:=(cT ds r).all wd
structure bt(C:Addr)(H:Hp)(x:Addr)(J0 J2 J4:Zb)(ds:List aJ):Prop where
 at_:∃(dx:Addr) (fs:List (Str×V)) (o1 o2 o3 o4 lv qu sg sl:Addr) (ts:Ze) (lps:List (Str×Addr)) (gps:List ((Str×List Str)×Addr)) (sps:List (Str×Addr)),
  H x=some (.ins C dx fs)/\lk "is_quiet" fs=none/\lk "goals" fs=none/\lk "led_from" fs=none/\lk "rooms" fs=none /\
  lk "own_asks" fs=some (.ref o1)/\lk "own_says" fs=some (.ref o2)/\lk "own_rooms" fs=some (.ref o3)/\lk "own_doors" fs=some (.ref o4) /\
  lk "leaving" fs=some (.ref lv)/\lk "quiet" fs=some (.ref qu)/\lk "sign_goals" fs=some (.ref sg)/\lk "still_led" fs=some (.ref sl) /\
  Lists H o1 o2 o3 o4 ts J0 J2 J4 ds /\
  lps.map (·.1)=J4/\H lv=some (.dK (eg Sum.inr lps))/\(∀x∈lps,∃us,H x.2=some (.lst (us.map V.ref))/\eP H us (cT ds x.1)) /\
  H qu=some (.dK (bH (J4.filter (nR ds))))/\jm H sg gps ds /\
  sps.map (·.1)=J4/\H sl=some (.dK (eg Sum.inr sps))/\(∀x∈sps,∃L,H x.2=some (.dK (bH L))/\L.Nodup/\∀w,w∈L↔Reach ds x.1 w)
 ok:cy J0 J2 J4 ds
 more:∃(dx:Addr) (fs:List (Str×V)),H x=some (.ins C dx fs)/\lk "asks" fs=none/\lk "says" fs=none/\lk "doors" fs=none/\lk "doors_from" fs=none
theorem hZ(f:Str)(v:V):∀fs:List (Str×V),(dC f v fs).length<=fs.length+1
 |[]=>ay _
 | (g,x)::r=>by
  unfold dC;split
  ·exact j4 _
  ·rw[dD,dD];have:=hZ f v r;omega
theorem uA:∀(a qs:List (Str×Addr)),((qs++a).map (·.1)).Nodup->jA (eg Sum.inr qs) (eg Sum.inr a)=eg Sum.inr (qs++a)
 |[],qs,_=>by rw[eM];rfl
 |p::a,qs,g=>by
  show jA (hV (eg Sum.inr qs) (Sum.inr p.1) (.ref p.2)) (eg Sum.inr a)=_;have e:qs++p::a=(qs++[p])++a:=by simp
  rw[e]at g ⊢;have f:p.1∉qs.map (·.1):=by
   rw[aQ,aQ,f_]at g;have:=g.1;rw[f_]at this;intro z;exact this.2.2 _ z _ (by simp) rfl
  rw[ul _ (mq jk f)];have:=uA a (qs++[p]) g;rw[<-this];have h:eg (Sum.inr:Str->fA) (qs++[p])=eg Sum.inr qs++[(Sum.inr p.1,V.ref p.2)]:=by
   unfold eg;rw[aQ];rfl
  rw[h]
inductive pf(C:Addr)(vs:List V)(H:Hp)(Q:VK)(E:XK):Prop
 |mk (x dx l1 l2 l3 l4:Addr) (ts:Ze) (J0 J2 J4:Zb) (ds:List aJ):(vs=[.ref x,.ref l1,.ref l2,.ref l3,.ref l4])->(H x=some (.ins C dx []))->(Lists H l1 l2 l3 l4 ts J0 J2 J4 ds)->(cy J0 J2 J4 ds)->(∀H',bt C H' x J0 J2 J4 ds->cQ x H H'->Q .non H')->pf C vs H Q E
theorem Lists.exI{H f:Hp}{x C p:Addr}{fs:List (Str×V)}{g i l3 j:Addr}{k:Ze}{l m n:Zb}{o:List aJ}(h:Lists H g i l3 j k l m n o)(hx:H x=some (.ins C p fs))(e:cQ x H f):Lists f g i l3 j k l m n o:=by
 have ne:∀{b:Addr}{xs:List V},H b=some (.lst xs)->b≠x:=fun a z=>by rw[z,hx]at a;cases a
 exact⟨e _ _ h.a1 (ne h.a1),e _ _ h.a2 (ne h.a2),e _ _ h.a3 (ne h.a3),e _ _ h.a4 (ne h.a4),h.ds.kt fun b xs a=>e _ _ a fun z=>by rw[z,hx]at a;cases a⟩
theorem cQ.ktI{H f:Hp}{x C g:Addr}{fs:List (Str×V)}(e:cQ x H f)(hx:H x=some (.ins C g fs)):gB H f:=fun b xs a=>e _ _ a fun z=>by rw[z,hx]at a;cases a
theorem cQ.neI{H:Hp}{x C e:Addr}{fs:List (Str×V)}(hx:H x=some (.ins C e fs)){b:Addr}{xs:List V}(a:H b=some (.lst xs)):b≠x:=fun z=>by rw[z,hx]at a;cases a
theorem GU{H:Hp}{x C f:Addr}{fs:List (Str×V)}(hx:H x=some (.ins C f fs)){b:Addr}{a:List (fA×V)}(e:H b=some (.dK a)):b≠x:=fun z=>by rw[z,hx]at e;cases e
theorem JL{H:Hp}{x C f:Addr}{fs:List (Str×V)}(hx:H x=some (.ins C f fs)){b:Addr}{a:List (TK×V)}(e:H b=some (.dT a)):b≠x:=fun z=>by rw[z,hx]at e;cases e
structure MC(K:Za)(C:Addr):Prop where
 cls:Fu K C
 a1:bZ K C "own_asks"
 a2:bZ K C "own_says"
 a3:bZ K C "own_rooms"
 a4:bZ K C "own_doors"
 a5:bZ K C "leaving"
 a6:bZ K C "quiet"
 a7:bZ K C "sign_goals"
 a8:bZ K C "still_led"
theorem AI{H:Hp}{x C a:Addr}{fs:List (Str×V)}(f:Str)(y:V)(hx:H x=some (.ins C a fs)):∃e,e=upd H x (.ins C a (dC f y fs))/\e x=some (.ins C a (dC f y fs))/\cQ x H e :=
 ⟨_,rfl,aa,cQ.upd _ _ _⟩
theorem rV{p:Str->Bool}{a:Zb}{i:Nat}{w:Str}(h:a[i]?=some w):(a.take (i+1)).filter p=(a.take i).filter p++(if p w=true then[w]else[]):=by
 rw[take_snoc h,sY];congr 1;by_cases c:p w=true
 ·rw[if_pos c];simp[c]
 ·rw[if_neg c];simp[c]
theorem B_(a:List aJ)(r:Str):(cT a r).length<=a.length:=p_ _ _
theorem cy.sg0{a f g:Zb}{ds:List aJ}(m:cy a f g ds){r:Str}:∀d∈cT ds r,d.sg≠[]:=by
 intro d h;have:=m.good d (List.mem_filter.mp h).1;rcases this.sg with⟨w,_,e⟩|⟨w,_,e⟩|e<;>rw[e]<;>exact List.cons_ne_nil _ _
theorem IC{K:Za}{C:Addr}(M:MC K C){B:List V}{H:Hp}{Q:VK}{E:XK}(h:pf C B H Q E):
  nL K sp_need_none sp_first_led_round yn pi (sp_as_keys K) sp_has_asks_alone sp_doors_by_start sp_need_parts (bq Q) (start oq B) H:=by
 obtain⟨x,G,l1,l2,l3,l4,ts,J0,J2,I,ds,rfl,hx,L,m,k⟩:=h;have z3:=m.rooms26;have z4:=m.few;refine⟨_,rfl,_,rfl,_,rfl,_,rfl,l1,l2,l3,l4,ts,J0,J2,I,ds,rfl,L,m,fun H1 S1=>?_⟩;have aT:=S1 _ _ hx;have L1:=L.same S1;have E1:cQ x H H1:=ac.exB S1;refine⟨_,rfl,.inl ⟨l1,_,rfl,.inl (aF.of L1.a1),fun o1 aX=>⟨_,rfl,x,C,G,_,rfl,kp aT aX,M.cls,M.a1,(by show 0<1000;decide),?_⟩⟩⟩;obtain⟨H2,e2,a0,F2⟩:=AI "own_asks" (.ref o1) (kp (x:=.lst (J0.map V.str)) aT aX);rw[<-e2];have n1:o1≠x:=(ah aT aX).symm;have f1:=F2 _ _ aa n1;have E2:cQ x H1 H2:=(cQ.new aX).trans F2;have b7:=L1.exI aT E2;have di:(dC ("own_asks":Str) (.ref o1) []).length<=1:=hZ _ _ _;clear e2 F2;refine⟨_,rfl,.inl ⟨l2,_,rfl,.inl (aF.of b7.a2),fun o2 a9=>⟨_,rfl,x,C,G,_,rfl,kp a0 a9,M.cls,M.a2,by omega,?_⟩⟩⟩;obtain⟨H3,e3,bd,F3⟩:=AI "own_says" (.ref o2) (kp (x:=.lst (J2.map V.str)) a0 a9);rw[<-e3];have n2:o2≠x:=(ah a0 a9).symm;have f2:=F3 _ _ aa n2;have E3:cQ x H2 H3:=(cQ.new a9).trans F3;have L3:=b7.exI a0 E3;have dk:=hZ ("own_says":Str) (.ref o2) (dC ("own_asks":Str) (.ref o1) []);clear e3 F3;refine⟨_,rfl,.inl ⟨l3,_,rfl,.inl (aF.of L3.a3),fun o3 bi=>⟨_,rfl,x,C,G,_,rfl,kp bd bi,M.cls,M.a3,by omega,?_⟩⟩⟩;obtain⟨H4,e4,bl,F4⟩:=AI "own_rooms" (.ref o3) (kp (x:=.lst (I.map V.str)) bd bi);rw[<-e4];have n3:o3≠x:=(ah bd bi).symm;have f3:=F4 _ _ aa n3;have E4:cQ x H3 H4:=(cQ.new bi).trans F4;have L4:=L3.exI bd E4;have dm:=hZ ("own_rooms":Str) (.ref o3) (dC ("own_says":Str) (.ref o2) (dC ("own_asks":Str) (.ref o1) []));clear e4 F4;refine⟨_,rfl,.inl ⟨l4,_,rfl,.inl (aF.of L4.a4),fun o4 bm=>⟨_,rfl,x,C,G,_,rfl,kp bl bm,M.cls,M.a4,by omega,?_⟩⟩⟩;obtain⟨H5,e5,n,F5⟩:=AI "own_doors" (.ref o4) (kp (x:=.lst (ts.map V.ref)) bl bm);rw[<-e5];have n4:o4≠x:=(ah bl bm).symm;have f4:=F5 _ _ aa n4;have E5:cQ x H4 H5:=(cQ.new bm).trans F5;have L5:=L4.exI bl E5;generalize bT:dC ("own_doors":Str) (.ref o4) (dC ("own_rooms":Str) (.ref o3) (dC ("own_says":Str) (.ref o2) (dC ("own_asks":Str) (.ref o1) [])))=s at n;have dn:s.length<=4:=by
  rw[<-bT];have:=hZ ("own_doors":Str) (.ref o4) (dC ("own_rooms":Str) (.ref o3) (dC ("own_says":Str) (.ref o2) (dC ("own_asks":Str) (.ref o1) [])));omega
 clear e5 F5;refine⟨_,rfl,_,rfl,l3,l4,ts,I,ds,rfl,L5.a3,L5.a4,L5.ds,m.okR.1,by omega,by omega,fun d hd=>(m.good d hd).a,fun O bn dT T U b0 S6=>⟨_,rfl,x,C,G,s,rfl,S6 _ _ n,M.cls,M.a5,by omega,?_⟩⟩;obtain⟨H6,e6,u,F6⟩:=AI "leaving" (.ref O) (S6 _ _ n);rw[<-e6];have E6:cQ x H5 H6:=(ac.exB S6).trans F6;have L6:=L5.exI n E6;have b1:=F6 _ _ U (GU (S6 _ _ n) U);have b8:∀y∈bn,∃A,H6 y.2=some (.lst (A.map V.ref))/\eP H6 A (cT ds y.1):=fun y hy=>by
  obtain⟨A,J,g2⟩:=b0 y hy;exact⟨A,F6 _ _ J (cQ.neI (S6 _ _ n) J),g2.kt (F6.ktI (S6 _ _ n))⟩
 have co:(bn.map (·.1)).Nodup:=by rw[T];exact m.okR.1
 have dp:=hZ ("leaving":Str) (.ref O) s;have cs:lk "leaving" (dC ("leaving":Str) (.ref O) s)=some (.ref O):=by
  show iN _ _=_;rw[e_,if_pos rfl]
 clear e6 F6 U b0;refine⟨_,rfl,l3,rfl,⟨_,aF.of L6.a3⟩,fun f hf=>?_⟩
 let ct:Nat->List V->Hp->Prop:=fun i B H'=>B=((I.take i).filter (nR ds)).map V.str/\ac H6 H'/\H' f=some (.lst B)
 refine eA (xs:=I.map V.str) ct ⟨rfl,ac.new hf,aa⟩ (fun i B H' _ zq=>by obtain⟨_,S,h'⟩:=zq;exact⟨h',aF.of (S _ _ L6.a3)⟩) ?_ ?_;rotate_left
 ·rintro i B H' x' b2 hi ⟨rfl,S,f'⟩;obtain⟨r,hr,rfl⟩:=cX b2;obtain⟨⟨r',a⟩,b9,er⟩:=bA.mp (show r∈bn.map (·.1) by rw[T];exact dw hr);obtain rfl:r'=r:=er;obtain⟨A,cB,cC⟩:=b8 _ b9;refine gN ?_;refine⟨_,rfl,x,C,G,_,.ref O,rfl,S _ _ u,M.cls,M.a5,cs,_,rfl,O,.ref a,rfl,.inl ⟨_,.inr r',.inl (S _ _ b1),rfl,(fg jk co b9).symm⟩,a,A,cT ds r',rfl,S _ _ cB,cC.kt (ac.kt S),bo (B_ _ _) (by omega),m.sg0,fun bG l=>⟨_,rfl,?_⟩⟩;have cb:(((I.take i).filter (nR ds)).map V.str).length<ai:=by
   rw[ao];refine ax (bo (p_ _ _) ?_);rw[aK];omega
  refine pK (fun hq=>?_) (fun hq=>?_)
  ·refine⟨_,rfl,l _ _ f',cb,vn hi ⟨?_,?_,aa⟩⟩
   ·rw[rV hr,if_pos (show nR ds r'=true from hq),aQ];rfl
   ·intro b o q;rw[am (ah q hf)];exact l _ _ (S _ _ q)
  ·refine vn hi ⟨?_,S.trans l,?_⟩
   ·rw[rV hr,if_neg (show ¬nR ds r'=true from hq),eM]
   ·exact l _ _ f'
 rintro B dV ⟨rfl,S7,f7⟩;rw[ao,cv]at f7;refine rg (ws:=I.filter (nR ds)) (aF.of f7) (bo (p_ _ _) (by omega)) fun qu bL=>⟨_,rfl,x,C,G,_,rfl,kp (S7 _ _ u) bL,M.cls,M.a6,by omega,?_⟩;obtain⟨H7,e7,ab,F7⟩:=AI "quiet" (.ref qu) (kp (x:=.dK (bH (I.filter (nR ds)))) (S7 _ _ u) bL);rw[<-e7];have n7:qu≠x:=(ah (S7 _ _ u) bL).symm;have c0:=F7 _ _ aa n7;have E7:cQ x H6 H7:=((ac.exB S7).trans (cQ.new bL)).trans F7;have L7:=L6.exI u E7;have dr:=hZ ("quiet":Str) (.ref qu) (dC ("leaving":Str) (.ref O) s);clear e7 F7;refine⟨_,rfl,l4,ts,ds,rfl,L7.a4,L7.ds,by omega,fun sg b3 d0 G' S8=>⟨_,rfl,x,C,G,_,rfl,S8 _ _ ab,M.cls,M.a7,by omega,?_⟩⟩;obtain⟨H8,e8,v,F8⟩:=AI "sign_goals" (.ref sg) (S8 _ _ ab);rw[<-e8];have E8:cQ x H7 H8:=(ac.exB S8).trans F8;have L8:=L7.exI ab E8;have G8:jm H8 sg b3 ds:=⟨G'.nd,F8 _ _ G'.g (JL (S8 _ _ ab) G'.g),fun y hy=>F8 _ _ (G'.ls y hy) (cQ.neI (S8 _ _ ab) (G'.ls y hy)),G'.all⟩;have dy:=hZ ("sign_goals":Str) (.ref sg) (dC ("quiet":Str) (.ref qu) (dC ("leaving":Str) (.ref O) s));have c1:lk "sign_goals" (dC ("sign_goals":Str) (.ref sg) (dC ("quiet":Str) (.ref qu) (dC ("leaving":Str) (.ref O) s)))=some (.ref sg):=by
  show iN _ _=_;rw[e_,if_pos rfl]
 clear e8 F8 G';refine⟨_,rfl,l3,rfl,⟨_,aF.of L8.a3⟩,fun bN ce=>?_⟩
 let c2:Nat->List V->Hp->Prop:=fun i B H'=>Md fun(A:Ze) (pl:List (Str×Addr))=>LJ (B=A.map V.ref) (Paired (fun t (p:Str×Addr)=>H' t=some (.tup [.str p.1,.ref p.2])) A pl) (pl.map (·.1)=I.take i) ((∀p∈pl,∃L,H' p.2=some (.dK (bH L))/\L.Nodup/\∀w,w∈L↔Reach ds p.1 w)) (ac H8 H') (H' bN=some (.lst B))
 refine eA (xs:=I.map V.str) c2
  ⟨[],[],rfl,.nil,rfl,by simp,ac.new ce,aa⟩ (fun i B H' _ zq=>by obtain⟨_,_,_,_,_,_,S,h'⟩:=zq;exact⟨h',aF.of (S _ _ L8.a3)⟩) ?_ ?_
 rotate_left
 ·rintro i B H' x' b2 hi ⟨A,pl,rfl,al,ch,c3,S,f'⟩;obtain⟨r,hr,rfl⟩:=cX b2;have c4:A.length<=150:=by
   rw[Paired.length al,<-ao (f:=(·.1)) (as:=pl),ch,aK];omega
  refine gN (lA ?_);refine⟨_,rfl,_,rfl,x,C,G,_,.ref sg,rfl,S _ _ v,M.cls,M.a7,c1,_,rfl,sg,r,b3,ds,I,rfl,G8.same S,fun d hd=>(m.good d hd).b,by omega,fun ld Lr bG c5 nd c6 d1 l=>⟨(by show 2<=ai;decide),fun t ht=>⟨?_,?_,vn hi ⟨A++[t],pl++[(r,ld)],?_,?_,?_,?_,?_,aa⟩⟩⟩⟩
  ·exact kp (l _ _ f') ht
  ·rw[ao];exact ax (by omega)
  ·rw[aQ];rfl
  ·have KT:gB (upd bG t (.tup [.str r,.ref ld])) (upd (upd bG t (.tup [.str r,.ref ld])) bN (.lst (A.map V.ref++[.ref t]))):=fo (kp (l _ _ f') ht);exact Paired.app (Paired.mapP al fun t' p' e=>KT _ _ (kp (l _ _ e) ht)) (.cons (KT _ _ aa) .nil)
  ·rw[aQ,ch,take_snoc hr];rfl
  ·have ci:∀{b:Addr}{c8:List (fA×V)},upd bG t (.tup [.str r,.ref ld]) b=some (.dK c8)->b≠bN:=fun hb z=>by rw[z,kp (l _ _ f') ht]at hb;cases hb
   intro p hp;rcases cG.mp hp with hp|hp
   ·obtain⟨L0,J,g2⟩:=c3 p hp;refine⟨L0,?_,g2⟩;have:=kp (x:=.tup [.str r,.ref ld]) (l _ _ J) ht;rw[am (ci this)];exact this
   ·have:p=(r,ld):=by simpa using hp
    subst this;refine⟨Lr,?_,nd,c6⟩;have:=kp (x:=.tup [.str r,.ref ld]) c5 ht;rw[am (ci this)];exact this
  ·intro b o q;rw[am (ah q ce)];exact kp (l _ _ (S _ _ q)) ht
 rintro B d2 ⟨A,sps,rfl,al,D,ck,S9,f9⟩;rw[ao,cv]at D;have c9:(sps.map (·.1)).Nodup:=by rw[D];exact m.okR.1
 refine⟨bN,A,eg Sum.inr sps,rfl,aF.of f9,?_,?_,fun sl N=>⟨_,rfl,x,C,G,_,rfl,kp (S9 _ _ v) N,M.cls,M.a8,by omega,?_⟩⟩
 ·rw[Paired.length al];unfold eg;rw[ao]
 ·intro j t kv hj b4;obtain⟨p,hp,e⟩:=Paired.getL al hj;unfold eg at b4;rw[dj,hp]at b4;have:=fx b4;rw[<-this];exact e
 have bP:jA [] (eg Sum.inr sps)=eg Sum.inr sps:=uA sps [] c9;rw[bP];obtain⟨H9,e9,b5,F9⟩:=AI "still_led" (.ref sl) (kp (x:=.dK (eg Sum.inr sps)) (S9 _ _ v) N);rw[<-e9];have n9:sl≠x:=(ah (S9 _ _ v) N).symm;have cl:=F9 _ _ aa n9;have E9:cQ x H8 H9:=((ac.exB S9).trans (cQ.new N)).trans F9;have L9:=L8.exI v E9;have an:∀p∈sps,∃L,H9 p.2=some (.dK (bH L))/\L.Nodup/\∀w,w∈L↔Reach ds p.1 w:=fun p hp=>by
  obtain⟨L0,J,g2⟩:=ck p hp;have g3:=kp (x:=.dK (eg Sum.inr sps)) J N;exact⟨L0,F9 _ _ g3 (GU (kp (S9 _ _ v) N) g3),g2⟩
 clear e9 F9;have cm:lk "still_led" (dC ("still_led":Str) (.ref sl) (dC ("sign_goals":Str) (.ref sg) (dC ("quiet":Str) (.ref qu) (dC ("leaving":Str) (.ref O) s))))=some (.ref sl):=by
  show iN _ _=_;rw[e_,if_pos rfl]
 refine⟨_,rfl,_,rfl,x,C,G,_,.ref sl,rfl,b5,M.cls,M.a8,cm,l3,sl,I,sps,rfl,L9.a3,cl,D,m.okR.1,fun p hp=>?_,fun cn aC=>⟨_,rfl,k cn ?_ ?_⟩⟩
 ·obtain⟨L0,J,g2,g3⟩:=an p hp;exact⟨L0,J,fun z=>m.noround _ ((g3 _).mp z)⟩
 ·have b6:cQ x H6 H9:=(E7.trans E8).trans E9;have dc:=((E6.trans E7).trans E8).trans E9;have Y:∀{b:Addr}{o:HO},H9 b=some o->cn b=some o:=fun h=>aC _ _ h;have LL:Lists H5 o1 o2 o3 o4 ts J0 J2 I ds:=⟨(E3.trans (E4.trans E5)) _ _ f1 n1,(E4.trans E5) _ _ f2 n2,E5 _ _ f3 n3,f4,L5.ds⟩;refine⟨⟨G,_,o1,o2,o3,o4,O,qu,sg,sl,ts,bn,b3,sps,Y b5,?_,?_,?_,?_,?_,?_,?_,?_,?_,?_,?_,cm,(LL.exI n dc).same aC,T,?_,?_,?_,?_,D,Y cl,fun p hp=>?_⟩,m,⟨G,_,Y b5,?_,?_,?_,?_⟩⟩
  rotate_right 9
  ·exact Y (b6 _ _ b1 (GU u b1))
  ·intro y hy;obtain⟨dd,J,g2⟩:=b8 y hy;exact⟨dd,Y (b6 _ _ J (cQ.neI u J)),(g2.kt (b6.ktI u)).kt (ac.kt aC)⟩
  ·exact Y ((E8.trans E9) _ _ c0 n7)
  ·exact jm.same ⟨G8.nd,E9 _ _ G8.g (JL v G8.g),fun y hy=>E9 _ _ (G8.ls y hy) (cQ.neI v (G8.ls y hy)),G8.all⟩ aC
  ·obtain⟨L0,J,g2⟩:=an p hp;exact⟨L0,Y J,g2⟩
  all_goals(show iN _ _=_;subst bT;repeat (rw[e_];first|rw[if_pos rfl] | rw[if_neg (by decide +kernel)]))
  all_goals rfl
 ·exact((((((((E1.trans E2).trans E3).trans E4).trans E5).trans E6).trans E7).trans E8).trans E9).trans (ac.exB aC)
theorem bt.by{C:Addr}{H e:Hp}{x:Addr}{s t u:Zb}{v:List aJ}(h:bt C H x s t u v)
  (j:∀b w,H b=some (.lst (List.map V.str w))->e b=some (.lst (List.map V.str w))) (z:∀b k,H b=some (.lst (List.map V.ref k))->e b=some (.lst (List.map V.ref k))) (A:gB H e)
  (l:∀b a,H b=some (.dK a)->e b=some (.dK a)) (B:∀b a,H b=some (.dT a)->e b=some (.dT a)) (hi:∀b C f fs,H b=some (.ins C f fs)->e b=some (.ins C f fs)):bt C e x s t u v:=by
 obtain⟨f,fs,D,E,I,J,M,N,O,Q,k,m,n,o,T,a1,a2,a3,U,Y,b2,b3,b4,b5,b6,b7,b8,L,c1,c2,c3,c4,G,d1,d2,d3⟩:=h.at_;refine⟨⟨f,fs,D,E,I,J,M,N,O,Q,k,m,n,o,hi _ _ _ _ T,a1,a2,a3,U,Y,b2,b3,b4,b5,b6,b7,b8,⟨j _ _ L.a1,j _ _ L.a2,j _ _ L.a3,z _ _ L.a4,L.ds.kt A⟩,c1,l _ _ c2,fun y i=>?_,l _ _ c4,⟨G.nd,B _ _ G.g,fun y i=>j _ _ (G.ls y i),G.all⟩,d1,l _ _ d2,fun y i=>?_⟩,h.ok,by obtain⟨f,fs,g,r⟩:=h.more;exact⟨f,fs,hi _ _ _ _ g,r⟩⟩
 ·obtain⟨us,p,q⟩:=c3 y i;exact⟨us,z _ _ p,q.kt A⟩
 ·obtain⟨L0,p,q⟩:=d3 y i;exact⟨L0,l _ _ p,q⟩
theorem bt.same{C:Addr}{H a:Hp}{x:Addr}{f g i:Zb}{j:List aJ}(h:bt C H x f g i j)(S:ac H a):bt C a x f g i j :=
 h.by (fun _ _ e=>S _ _ e) (fun _ _ e=>S _ _ e) (ac.kt S) (fun _ _ e=>S _ _ e) (fun _ _ e=>S _ _ e) (fun _ _ _ _ e=>S _ _ e)
theorem bt.ex{C:Addr}{H f:Hp}{x p c:Addr}{g i j:Zb}{k:List aJ}(h:bt C H x g i j k)(a:dW H p c)(S:cQ p H f):bt C f x g i j k:=by
 obtain⟨xs,hx⟩:=a.lst;exact h.by (fun _ _ e=>S _ _ e (a.ne_strs e)) (fun _ _ e=>S _ _ e (a.ne_refs e)) (S.kt hx) (fun _ _ e=>S _ _ e (fun z=>by rw[z,hx]at e;cases e)) (fun _ _ e=>S _ _ e (fun z=>by rw[z,hx]at e;cases e)) (fun _ _ _ _ e=>S _ _ e (fun z=>by rw[z,hx]at e;cases e))
def n6:List Str:=[("hush":Str)]
inductive kq(C:Addr)(vs:List V)(H:Hp)(Q:VK)(E:XK):Prop
 |mk (t l1 l2 l3 l4:Addr) (ts:Ze) (J0 J2 J4:Zb) (ds:List aJ):(vs=[.ref t])->(gV H t l1 l2 l3 l4 ts J0 J2 J4 ds)->(cy J0 J2 J4 ds)->(∀(x:Addr) (H':Hp),bt C H' x J0 J2 J4 ds->ac H H'->Q (.ref x) H')->kq C vs H Q E
theorem BT{K:Za}{C:Addr}{D:List V}{H:Hp}{Q:VK}{E:XK}(h:kq C D H Q E):u_ K C (pf C) (bq Q) (start vA D) H:=by
 obtain⟨t,L,N,O,U,f,g,i,j,Y,rfl,T,m,k⟩:=h;refine⟨_,rfl,.inr (.inl ⟨t,_,0,_,rfl,rfl,bE.of T.t,rfl,.inl ⟨L,_,rfl,.inl (aF.of T.a1),fun s G=>?_⟩⟩)⟩;have u:=T.same (ac.new (o:=.lst (g.map V.str)) G);refine⟨_,rfl,.inr (.inl ⟨t,_,1,_,rfl,rfl,bE.of u.t,rfl,.inl ⟨N,_,rfl,.inl (aF.of u.a2),fun v w=>?_⟩⟩)⟩;have y:=u.same (ac.new (o:=.lst (i.map V.str)) w);refine⟨_,rfl,.inr (.inl ⟨t,_,2,_,rfl,rfl,bE.of y.t,rfl,.inl ⟨O,_,rfl,.inl (aF.of y.a3),fun z p=>?_⟩⟩)⟩;have A:=y.same (ac.new (o:=.lst (j.map V.str)) p);refine⟨_,rfl,.inr (.inl ⟨t,_,3,_,rfl,rfl,bE.of A.t,rfl,.inl ⟨U,_,rfl,.inl (aF.of A.a4),fun B l=>?_⟩⟩)⟩;have T4:=A.same (ac.new (o:=.lst (f.map V.ref)) l);have I:=(((ac.new (o:=.lst (g.map V.str)) G).trans (ac.new (o:=.lst (i.map V.str)) w)).trans (ac.new (o:=.lst (j.map V.str)) p)).trans (ac.new (o:=.lst (f.map V.ref)) l);refine fun x r hx a n=>?_;have J:ac H (upd (upd (upd (upd (upd (upd H s (.lst (g.map V.str))) v (.lst (i.map V.str))) z (.lst (j.map V.str))) B (.lst (f.map V.ref))) r (.own x)) x (.ins C r [])) :=
  (I.trans (ac.new a)).trans (ac.new (by rw[am n.symm];exact hx))
 have e:upd (upd (upd (upd (upd H s (.lst (g.map V.str))) v (.lst (i.map V.str))) z (.lst (j.map V.str))) B (.lst (f.map V.ref))) r (.own x) x=none:=by rw[am n.symm];exact hx
 refine⟨x,r,s,v,z,B,f,g,i,j,Y,rfl,aa,⟨?_,?_,?_,?_,T.ds.kt (ac.kt J)⟩,m,fun H' M ex=>⟨rfl,k x H' M fun b o q=>?_⟩⟩
 ·exact kp (kp (kp (kp (kp aa w) p) l) a) e
 ·exact kp (kp (kp (kp aa p) l) a) e
 ·exact kp (kp (kp aa l) a) e
 ·exact kp (kp aa a) e
 ·have hq:=J _ _ q;exact ex _ _ hq (ah (I.trans (ac.new a) _ _ q) e)
def KB(ds:List aJ):List Str:=(ds.filter fun d=>!wd d).map (·.a)
theorem Dp{w:Str}{a:Zb}:eN w∈a.map eN↔w∈a:=by
 constructor
 ·intro h;obtain⟨x,hx,e⟩:=bA.mp h;rw[<-sN e];exact hx
 ·exact qa
def sj(K:Za):TS :=
 aR (cS (eF K) (au (xZ K V0 "own_rooms")))
def sE:List Str:=["self"]
def nK(K:Za):TS :=
 aR (cS (eF K) (au (ym K (xZ K V0 "still_led") V1 (aW (aU)))))
def oo:List Str:=["self","room"]
def sk(K:Za):TS :=
 aR (cS (eF K) (au (ym K (xZ K V0 "sign_goals") (aW (aE V1 V2)) (aW (aU)))))
def sF:List Str:=["self","room","sign"]
inductive o_(C:Addr)(vs:List V)(H:Hp)(Q:VK)(E:XK):Prop
 |mk (x:Addr) (J0 J2 J4:Zb) (ds:List aJ):(vs=[.ref x])->(bt C H x J0 J2 J4 ds)->(∀l,H l=none->Q (.ref l) (upd H l (.lst (J4.map V.str))))->o_ C vs H Q E
theorem Gi{K:Za}{C:Addr}(M:MC K C){a:List V}{H:Hp}{Q:VK}{E:XK}(h:o_ C a H Q E):sj K (bq Q) (start sE a) H:=by
 obtain⟨x,n,o,p,q,rfl,h,k⟩:=h;obtain⟨f,fs,r,s,e,t,u,v,w,y,z,g,i,j,l,a1,a2,a3,A,B,D,m,G,I,J,N,O,L,_⟩:=h.at_;exact⟨_,rfl,x,C,f,fs,.ref e,rfl,l,M.cls,M.a3,m,.inl ⟨e,_,rfl,.inl (aF.of L.a3),k⟩⟩
theorem AC:∀{L:Zb},L.Nodup->(bH L).map (fun a=>kV a.1)=L.map V.str:=by
 intro L;refine lD (fun L=>L.Nodup->(bH L).map (fun a=>kV a.1)=L.map V.str) (fun _=>rfl) (fun f w g e=>?_) L;rw[f_]at e;have h:d4 (bH f) (.inr w)=none:=by
  rw[uC,if_neg (fun z=>e.2.2 w z w (by simp) rfl)]
 show(bH (f++[w])).map _=_;rw[fV,ul _ h,aQ,g e.1,aQ]
 rfl
inductive jg(C:Addr)(vs:List V)(H:Hp)(Q:VK)(E:XK):Prop
 |mk (x:Addr) (r:Str) (J0 J2 J4:Zb) (ds:List aJ):(vs=[.ref x,.str r])->(bt C H x J0 J2 J4 ds)->(r∈J4)->(∀(l:Addr) (L:Zb) (H':Hp),H' l=some (.lst (L.map V.str))->L.Nodup->(∀w,w∈L↔Reach ds r w)->H l=none->ac H H'->Q (.ref l) H')->jg C vs H Q E
theorem Ak{K:Za}{C:Addr}(M:MC K C){j:List V}{H:Hp}{Q:VK}{E:XK}(h:jg C j H Q E):nK K (bq Q) (start oo j) H:=by
 obtain⟨x,r,N,O,T,U,rfl,h,t,k⟩:=h;obtain⟨u,fs,Y,o2,o3,o4,lv,qu,sg,m,ts,v,w,g,y,a1,a2,a3,a4,b1,b2,b3,b4,b5,b6,b7,z,L,c1,c2,c3,c4,G,n,o,A⟩:=h.at_;have i:=h.ok.okR.1;obtain⟨⟨p,a⟩,f,B⟩:=bA.mp (show r∈g.map (·.1) by rw[n];exact t);obtain rfl:p=r:=B;obtain⟨D,I,q,J⟩:=A _ f;refine⟨_,rfl,x,C,u,fs,.ref m,rfl,y,M.cls,M.a8,z,m,rfl,.inl ⟨_,.inl o⟩,_,rfl,(by show 0<=ai;decide),fun et e=>⟨_,.inl ⟨_,.inr p,.inl (kp o e),rfl,rfl⟩,?_⟩⟩;rw[fg jk (by rw[n];exact i) f];refine .inr ⟨a,_,rfl,.inl (kp I e),fun l s=>k l D _ ?_ q J ((ac.new e).free s) ((ac.new e).trans (ac.new s))⟩;rw[aa,AC q]
def From(ds:List aJ)(gs:Zb)(w:Str):Prop:=∃g∈gs,w=g∨Reach ds g w
theorem sT(a b:Zb):decide (k7 a=k7 b)=decide (a=b):=by
 by_cases e:a=b
 ·rw[zzr1 e,zzr1 (by rw[e])]
 ·rw[zzr0 e,zzr0 (fun z=>e (DE z))]
def Hh(ds:List aJ)(sg:Zb)(J8:Zb):List Str:=J8.flatMap fun r=>bJ ds (r,sg)
theorem Je(o:Str)(L:Zb):decide (eN o∈L.map eN)=decide (o∈L):=by
 by_cases c:o∈L
 ·rw[zzr1 (Dp.mpr c),zzr1 c]
 ·rw[zzr0 (fun z=>c (Dp.mp z)),zzr0 c]
theorem bE.same{K:Za}{H e:Hp}{a:Addr}{xs:List V}(S:ac H e)(h:bE K H a xs):bE K e a xs:=by
 rcases h with(h|⟨o,h⟩)|h
 ·exact .inl (.inl (S _ _ h))
 ·exact .inl (.inr ⟨o,S _ _ h⟩)
 ·exact .inr h
theorem aF.same{K:Za}{H e:Hp}{a:Addr}{xs:List V}(S:ac H e)(h:aF K H a xs):aF K e a xs:=by
 rcases h with(h|⟨o,h⟩)|h
 ·exact .inl (.inl (S _ _ h))
 ·exact .inl (.inr ⟨o,S _ _ h⟩)
 ·exact .inr h
mutual
theorem oy.same{K:Za}{H f:Hp}(S:ac H f):∀{d:DT}{v:V},oy K H d v->oy K f d v
 |.k a,v,h=>by unfold oy at h ⊢;exact h
 |.t l,v,h=>by
  unfold oy at h ⊢;obtain⟨b,xs,e,q,r⟩:=h;exact⟨b,xs,e,bE.same S q,DIns.same S r⟩
 |.s l,v,h=>by
  unfold oy at h ⊢;obtain⟨b,xs,e,q,r⟩:=h;exact⟨b,xs,e,aF.same S q,DIns.same S r⟩
theorem DIns.same{K:Za}{H g:Hp}(S:ac H g):∀{f:List DT}{a:List V},DIns K H f a->DIns K g f a
 |[],a,h=>by unfold DIns at h ⊢;exact h
 |d::f,a,h=>by
  unfold DIns at h ⊢;obtain⟨v,i,e,q,r⟩:=h;exact⟨v,i,e,oy.same S q,DIns.same S r⟩
end
open Classical in
def closF(J4:Zb)(ds:List aJ)(gs:Zb):List Str:=J4.filter fun r=>decide (From ds gs r)
def behF(J4:Zb)(ds:List aJ)(J8 sg:Zb):List Str:=if sg=n6 then J8.filter (fun r=>decide (r∉KB ds))else closF J4 ds (Hh ds sg J8)
def GZ(J0 J2:Zb):List (List Str):=J0.map iB++J2.map rJ++[n6]
theorem Hy(xs:List V)(k:Nat):gq xs none (some (k:Int))=xs.take k:=by
 unfold gq;rw[HT.sIx_none,HT.sIx_nat,qj,xa,List.take_eq_take_iff];omega
theorem kL(xs:List V)(k:Nat):gq xs (some (k:Int)) none=xs.drop k:=by
 unfold gq;rw[HT.sIx_none,HT.sIx_nat,jr (by rw[cA];omega)];by_cases h:k<=xs.length
 ·rw[wU h]
 ·rw[wS (by omega),qi (by simp),qi (by omega)]
theorem Paired.takeP{α β:Type}{R:α->β->Prop}:∀(n:Nat) {xs:List α}{a:List β},Paired R xs a->Paired R (xs.take n) (a.take n)
 |0,_,_,_=>by rw[sZ,sZ];exact .nil
 |_+1,_,_,.nil=>.nil
 |n+1,_,_,.cons r t=>.cons r (Paired.takeP n t)
theorem Paired.dropP{α β:Type}{R:α->β->Prop}:∀(n:Nat) {xs:List α}{a:List β},Paired R xs a->Paired R (xs.drop n) (a.drop n)
 |0,_,_,h=>h
 |_+1,_,_,.nil=>.nil
 |n+1,_,_,.cons r t=>Paired.dropP n t
def ua(K:Za):TS :=
 aR (cS (eF K) (au (xZ K V0 "own_asks")))
def uW:List Str:=["self"]
def t_(K:Za):TS :=
 aR (cS (eF K) (au (xZ K V0 "own_says")))
def uV:List Str:=["self"]


theorem yo{C x:Addr}{H:Hp}{k l m:Zb}{n:List aJ}(h:bt C H x k l m n):∃(j:Addr) (fs:List (Str×V)) (f g i:Addr) (a:List (Str×Addr)),H x=some (.ins C j fs)/\lk "asks" fs=none/\lk "says" fs=none/\lk "doors_from" fs=none/\lk "is_quiet" fs=none/\lk "own_asks" fs=some (.ref f)/\lk "own_says" fs=some (.ref g)/\lk "leaving" fs=some (.ref i) /\
  H f=some (.lst (k.map V.str))/\H g=some (.lst (l.map V.str))/\a.map (·.1)=m/\H i=some (.dK (eg Sum.inr a))/\(∀x∈a,∃o,H x.2=some (.lst (o.map V.ref))/\eP H o (cT n x.1)):=by
 obtain⟨j,fs,f,g,I,J,i,M,N,O,Q,a,q,r,p,a1,a2,a3,T,s,t,U,Y,u,b6,b7,b8,L,v,w,y,c4,G,d1,d2,d3⟩:=h.at_;obtain⟨z,A,e,B,D,e3,E⟩:=h.more;rw[p]at e;cases e;exact⟨j,fs,f,g,i,a,p,B,D,E,a1,s,t,u,L.a1,L.a2,v,w,y⟩
inductive mj(C:Addr)(vs:List V)(H:Hp)(Q:VK)(E:XK):Prop
 |mk (x:Addr) (J0 J2 J4:Zb) (ds:List aJ):(vs=[.ref x])->(bt C H x J0 J2 J4 ds)->(∀l,H l=none->Q (.ref l) (upd H l (.lst (J0.map V.str))))->mj C vs H Q E
theorem IE{K:Za}{C:Addr}(M:MC K C){a:List V}{H:Hp}{Q:VK}{E:XK}(h:mj C a H Q E):ua K (bq Q) (start uW a) H:=by
 obtain⟨x,m,n,o,p,rfl,h,k⟩:=h;obtain⟨f,fs,e,q,r,g,i,a1,a2,a3,s,j,t,u,l,v,_⟩:=yo h;exact⟨_,rfl,x,C,f,fs,.ref e,rfl,i,M.cls,M.a1,j,.inl ⟨e,_,rfl,.inl (aF.of l),k⟩⟩
inductive o9(C:Addr)(vs:List V)(H:Hp)(Q:VK)(E:XK):Prop
 |mk (x:Addr) (J0 J2 J4:Zb) (ds:List aJ):(vs=[.ref x])->(bt C H x J0 J2 J4 ds)->(∀l,H l=none->Q (.ref l) (upd H l (.lst (J2.map V.str))))->o9 C vs H Q E
theorem Iz{K:Za}{C:Addr}(M:MC K C){a:List V}{H:Hp}{Q:VK}{E:XK}(h:o9 C a H Q E):t_ K (bq Q) (start uV a) H:=by
 obtain⟨x,m,n,o,p,rfl,h,k⟩:=h;obtain⟨f,fs,q,e,r,g,i,a1,a2,a3,s,t,j,u,v,l,_⟩:=yo h;exact⟨_,rfl,x,C,f,fs,.ref e,rfl,i,M.cls,M.a2,j,.inl ⟨e,_,rfl,.inl (aF.of l),k⟩⟩
inductive Ce where
 |lst (xs:List Sl)
 |dk (kvs:List (fA×Sl))
 |dt (kvs:List (TK×Sl))
 |ins (C:Addr) (fs:List (Str×Sl))
 |fk (o:Obj) (l:List (fA×V)) (kvs:List (fA×Sl))







abbrev Lk:List V->Hp->VK->Prop:=fun xs H Q=>(∃i,xs=[.int i]/\Q (.int i) H)∨∃k,xs=[.bl k]/\Q (.int (if k then 1 else 0)) H

def Io(K:Za)(C_Machine:Addr)(sp_Machine_led_from:Sp)(sp_Machine_goals:Sp):TS :=
 aR (cS (rAny K) (aj (cD 1 [0,2] (eh K (aq qS (bW (au V1)) (iy C_Machine "led_from" sp_Machine_led_from [] E0 V0 (au V1)))) U0 (d6) (aq Ao (cS (cK K) (aj (iy C_Machine "goals" sp_Machine_goals [] E0 V1 (aE V0 (aW (aj (tC (.str "ask")) (au V2))))) aU)) (tC (.int 0)))) aU))
def Jo:List Str:=["I","room","ask"]
def u7(K:Za)(C_Machine:Addr)(sp_Machine_says:Sp)(sp_Machine_asks:Sp):TS :=
 bQ (Bv (aV (aq (Gs K) (iy C_Machine "asks" sp_Machine_asks [] E0 V0 aU) (iy C_Machine "asks" sp_Machine_asks [] E0 V1 aU))) (aV (aq (Gs K) (iy C_Machine "says" sp_Machine_says [] E0 V0 aU) (iy C_Machine "says" sp_Machine_says [] E0 V1 aU)))) (ka) (ba)
def vx:List Str:=["M","I"]
def j9(K:Za)(C_Machine:Addr)(sp_Machine_rooms:Sp)(sp_Machine_asks:Sp)(sp_takes:Sp):TS :=
 fe (eh K (iy C_Machine "rooms" sp_Machine_rooms [] E0 V0 aU)) U1 (fe (eh K (iy C_Machine "asks" sp_Machine_asks [] E0 V0 aU)) U2 (bQ (qN (tB (aw sp_takes (cq V0 V1 V2)))) (ka) (ba)))
def kO:List Str:=["I","room","ask"]
def u6(K:Za)(sp_need_all_asks_taken:Sp)(sp_need_match:Sp):TS :=
 ar (d_ (aw sp_need_match (aE V0 V1)))
 (d_ (aw sp_need_all_asks_taken (au V1)))
def vw:List Str:=["M","I"]


structure XC(K:Za)(Cx:Addr):Prop where
 cls:jV K Cx
 p:bZ K Cx "part"
 n:bZ K Cx "number"
 self:wW K (.ref Cx) (.ref Cx)=some true
def Lb(K:Za)(f:Str):TS:=ar (d_ (FX K (aE V0 V1))) (Jy K V0 V1 f)
def KS(a:Addr)(H H':Hp):Prop:=∀b o,H b=some o->b≠a->H' b=some o
inductive kf(Cx:Addr)(f:Str)(vs:List V)(H:Hp)(Q:VK)(E:XK):Prop
 |mk (a:Addr) (x:V):(vs=[.ref a,x])->(H a=some (.ext (eG a Cx none)))->(∀d H',H' a=some (.ext (eG a Cx (some d)))->H' d=some (.ext (jl d [(f,x)]))->d≠a->KS a H H'->Q .non H')->kf Cx f vs H Q E
theorem Kj{K:Za}{Cx:Addr}{f n0 n1:Str}(c:jV K Cx)(l:bZ K Cx f){g:List V}{H:Hp}{Q:VK}{E:XK}(h:kf Cx f g H Q E):Lb K f (bq Q) (start [n0,n1] g) H:=by
 obtain⟨a,x,rfl,i,k⟩:=h;refine⟨_,rfl,_,rfl,a,Cx,none,[x],rfl,i,c,(by show 1<=ai;decide),?_⟩;refine⟨_,rfl,_,rfl,a,Cx,rfl,c,l,.inl ⟨i,fun d m j=>?_⟩⟩;refine k d _ aa (by rw[am j,aa]) j fun b o e n=>?_;rw[am n,am (fun z=>by rw[z,m]at e;cases e)];exact e
structure XF(K:Za)(C:Addr)(fs:Zb):Prop where
 cls:jV K C
 no:∀f∈fs,bZ K C f
 self:wW K (.ref C) (.ref C)=some true
section
variable{K:Za}{mg:Str->Option Value}{Ct:Addr}
theorem K7{x:Str}{C:Addr}{fs:Zb}(h:XX K mg x C Ct)(a:C≠Ct)(e:∀f∈fs,bZ K C f):XF K C fs:=⟨h.cls,e,by rw[h.exm h a,zzr1 rfl]⟩
theorem no1{C:Addr}{f:Str}(h:bZ K C f):∀g∈[f],bZ K C g:=fun g a=>by
 have:g=f:=by simpa using a
 rw[this];exact h
end
def uQ(ds:List aJ)(r a:Str):Prop:=∃h,(h=r∨Reach ds r h)/\∃b,(⟨h,iB a,b⟩:aJ)∈ds
open Classical in
def takesB(ds:List aJ)(r a:Str):Bool:=decide (uQ ds r a)
theorem rH{ds:List aJ}{r a:Str}:takesB ds r a=true↔uQ ds r a:=by unfold takesB;exact @decide_eq_true_iff _ (Classical.propDecidable _)
theorem rT{e:List aJ}{h:Str}{f:Zb}:0<(bJ e (h,f)).length↔∃b,(⟨h,f,b⟩:aJ)∈e:=by
 rw[List.length_pos_iff_exists_mem];constructor
 ·rintro⟨b,a⟩;exact⟨b,h7.mp a⟩
 ·rintro⟨b,a⟩;exact⟨b,h7.mpr a⟩
theorem Ee{ds:List aJ}{r a:Str}{L:Zb}(i:∀w,w∈L↔Reach ds r w):((r::L).map fun h=>decide ((0:Int)<(bJ ds (h,iB a)).length)).any id=takesB ds r a:=by
 rw[vE,rH,List.any_eq_true];constructor
 ·rintro⟨b,f,e⟩;obtain⟨h,g,rfl⟩:=bA.mp f;have:=of_decide_eq_true e;refine⟨h,?_,rT.mp (by omega)⟩;rcases cz.mp g with e|e
  ·exact .inl e
  ·exact .inr ((i h).mp e)
 ·rintro⟨h,g,f⟩;refine⟨true,bA.mpr ⟨h,?_,zzr1 (by have:=rT.mpr f;omega)⟩,rfl⟩;rcases g with e|e
  ·rw[e];exact fh
  ·exact eK _ ((i h).mpr e)
inductive sp_takes(C:Addr)(vs:List V)(H:Hp)(Q:VK)(E:XK):Prop
 |mk (x:Addr) (r a:Str) (J0 J2 J4:Zb) (ds:List aJ):(vs=[.ref x,.str r,.str a])->(bt C H x J0 J2 J4 ds)->(r∈J4)->(∀H',ac H H'->Q (.bl (takesB ds r a)) H')->sp_takes C vs H Q E
theorem Do{K:Za}{H:Hp}{l m:Addr}{a b:Zb}{Q:VK}(e:H l=some (.lst (a.map V.str)))(f:H m=some (.lst (b.map V.str)))(k:Q (.bl (!decide (a=b))) H):Gs K (.ref l) (.ref m) H Q:=by
 refine⟨.s (a.map eN),.s (b.map eN),uI (aF.of e),uI (aF.of f),?_,?_,?_⟩
 ·show DT.depths _+1<=8;rw[jT];decide
 ·show DT.depths _+1<=8;rw[jT];decide
 ·rw[decide_eq_decide.mpr (show DT.s (a.map eN)=DT.s (b.map eN)↔a=b from⟨fun h=>dY (by injection h),fun h=>by rw[h]⟩)];exact k
abbrev Sg:=List Str
def stepsF(J0 J2 J4:Zb)(ds:List aJ)(J8:Zb):List (Sg×List Str):=((GZ J0 J2).map fun sg=>(sg,behF J4 ds J8 sg)).filter fun p=>decide (p.2≠[])
structure FMs where
 fs:List (List Str)
 ss:List (List Sg)
abbrev FMst:=FMs×List (List (Sg×Nat))
def IsFc(J4 f:Zb):Prop:=∃p:Str->Bool,f=J4.filter p
structure Good(J4:Zb)(m:FMs):Prop where
 nd:m.fs.Nodup
 len:m.ss.length=m.fs.length
 isF:∀f∈m.fs,IsFc J4 f
 sl:∀(i:Nat) (s:List Sg),m.ss[i]?=some s->s.length<=i
structure FmOk(J0 J2 J4:Zb)(ds:List aJ)(S:FMst):Prop where
 good:Good J4 S.1
 le:S.2.length<=S.1.fs.length
 zero:S.1.fs[0]?=some (closF J4 ds (J4.take 1))
 st:∀(i:Nat) (l:List (Sg×Nat)),S.2[i]?=some l->∃f,S.1.fs[i]?=some f/\Paired (fun(a:Sg×Nat) (p:Sg×List Str)=>a.1=p.1/\S.1.fs[a.2]?=some p.2) l (stepsF J0 J2 J4 ds f)
theorem Ij{K:Za}{a:Addr}{xs:List V}(h:∀H,bE K H a xs)(H:Hp):aH K H a xs:=by
 rcases h (fun _=>none)with(h|⟨o,h⟩)|h
 ·cases h
 ·cases h
 ·exact .inr h
abbrev zb(K:Za)(H:Hp)(w:Addr)(s:List Sg):Prop:=∃gs:List Addr,H w=some (.lst (gs.map V.ref))/\Paired (fun g (sg:Sg)=>aH K H g (sg.map V.str)) gs s
theorem aH.kt{K:Za}{H e:Hp}{a:Addr}{xs:List V}(k:gB H e)(h:aH K H a xs):aH K e a xs:=h.keeps k
theorem preSum_eq{α:Type}(c:List (α×Int))(val:Nat->Int)(f:∀(i:Nat) p,c[i]?=some p->val i=p.2):preSum val c.length=(c.map (·.2)).sum:=by
 have a:∀j,j<=c.length->preSum val j=((c.take j).map (·.2)).sum:=by
  intro j
  induction j with
  |zero=>intro _;rfl
  |succ j g =>
   intro h;have e:c[j]?=some c[j]:=bI (by omega);rw[take_snoc e,aQ,List.sum_append];show preSum val j+val j=_;rw[g (by omega),f j _ e];simp
 have:=a c.length (ay _);rw[cv]at this;exact this
theorem aH.sq{K:Za}{H:Hp}{a:Addr}{xs:List V}(h:aH K H a xs):bE K H a xs:=h.imp .inl id
abbrev Pr:=Nat×Nat
structure K3 where
 key:Pr
 from_:Option (Pr×Sg)
 story:List Sg
def hasP(P:List K3)(k:Pr):Bool:=P.any fun c=>decide (c.key=k)
def Lv(l:List (Sg×Nat))(sg:Sg):Option Nat:=(l.find? fun p=>decide (p.1=sg)).map (·.2)
theorem Paired.rev{α β:Type}{R:α->β->Prop}:∀{a:List α}{b:List β},Paired R a b->Paired R a.reverse b.reverse
 |_,_,.nil=>.nil
 |_,_,.cons r t=>by
  rw[xy,xy];exact Paired.app (Paired.rev t) (.cons r .nil)
def RowOk(ms ws:List (List (Sg×Nat)))(P:List K3)(c:K3):Prop:=∀p∈ms.getD c.key.2 [],match Lv (ws.getD c.key.1 []) p.1 with
 |none=>p.1.head?=some ("ask":Str)
 |some w=>hasP P (w,p.2)=true
inductive gh(C:Addr)(vs:List V)(H:Hp)(Q:VK)(E:XK):Prop
 |mk (x y:Addr) (J0 J2 J4 rooms':Zb) (ds ds':List aJ):(vs=[.ref x,.ref y])->(bt C H x J0 J2 J4 ds)->(bt C H y J0 J2 rooms' ds')->(∀H',ac H H'->Q .non H')->gh C vs H Q E
theorem ug{K:Za}{C:Addr}{p:List V}{H:Hp}{Q:VK}{E:XK}(h:gh C p H Q E):u7 K C (o9 C) (mj C) (bq Q) (start vx p) H:=by
 obtain⟨x,y,e,f,q,a,r,g,rfl,M,N,k⟩:=h;obtain⟨s,fs,t,a1,a2,_⟩:=id M.more;obtain⟨u,v,w,J,L,_⟩:=id N.more;refine⟨_,rfl,x,s,fs,rfl,t,a1,x,e,f,q,r,rfl,M,fun i O=>?_⟩;have j:ac H (upd H i (.lst (e.map V.str))):=ac.new O;have z:upd H i (.lst (e.map V.str)) i=some (.lst (e.map V.str)):=aa;generalize upd H i (.lst (e.map V.str))=A at j z ⊢;refine⟨_,rfl,y,u,v,rfl,j _ _ w,J,y,e,f,a,g,rfl,N.same j,fun B D=>?_⟩;have l:ac H (upd A B (.lst (e.map V.str))):=j.trans (ac.new D);refine Do (kp z D) aa ⟨_,rfl,?_⟩;generalize upd A B (.lst (e.map V.str))=o at l ⊢;rw[zzr1 rfl];refine aZ ?_;refine⟨_,rfl,x,s,fs,rfl,l _ _ t,a2,x,e,f,q,r,rfl,M.same l,fun m T=>?_⟩;have n:ac H (upd o m (.lst (f.map V.str))):=l.trans (ac.new T);have G:upd o m (.lst (f.map V.str)) m=some (.lst (f.map V.str)):=aa;generalize upd o m (.lst (f.map V.str))=U at n G ⊢;refine⟨_,rfl,y,u,v,rfl,n _ _ w,L,y,e,f,a,g,rfl,N.same n,fun Y I=>?_⟩;have S4:ac H (upd U Y (.lst (f.map V.str))):=n.trans (ac.new I);refine Do (kp G I) aa ⟨_,rfl,?_⟩;rw[zzr1 rfl];exact aZ (k _ S4)
inductive iE(C:Addr)(vs:List V)(H:Hp)(Q:VK)(E:XK):Prop
 |mk (x:Addr) (J0 J2 J4:Zb) (ds:List aJ):(vs=[.ref x])->(bt C H x J0 J2 J4 ds)->((∀r∈J4,∀a∈J0,uQ ds r a))->(∀H',ac H H'->Q .non H')->iE C vs H Q E
theorem yz{K:Za}{C:Addr}{L:List V}{H:Hp}{Q:VK}{E:XK}(h:iE C L H Q E):j9 K C (o_ C) (mj C) (sp_takes C) (bq Q) (start kO L) H:=by
 obtain⟨x,e,s,f,t,rfl,M,tk,k⟩:=h;obtain⟨u,fs,o1,o2,o3,o4,lv,qu,T,sl,ts,U,Y,ab,w,a1,a2,a3,a4,_⟩:=id M.at_;refine⟨_,rfl,x,u,fs,rfl,w,a4,x,e,s,f,t,rfl,M,fun g h1=>?_⟩;have o:ac H (upd H g (.lst (f.map V.str))):=ac.new h1;have A:upd H g (.lst (f.map V.str)) g=some (.lst (f.map V.str)):=aa;generalize upd H g (.lst (f.map V.str))=N at o A ⊢;refine⟨g,rfl,⟨_,aF.of A⟩,?_⟩
 let B:Nat->L2.St->Hp->Prop:=fun i σ l=>∃y z,σ=[some (.ref x),y,z]/\ac N l
 refine fz (xs:=f.map V.str) B ⟨_,_,rfl,ac.refl _⟩ (fun i σ l _ D=>by obtain⟨_,_,_,S⟩:=D;exact aF.of (S _ _ A)) ?_ ?_
 ·rintro i v σ m hi ⟨y,z,rfl,p⟩;obtain⟨r,O,rfl⟩:=cX hi;have M2:=M.same (o.trans p);obtain⟨u,fs,w,a1,_⟩:=id M2.more;refine⟨_,rfl,x,u,fs,rfl,w,a1,x,e,s,f,t,rfl,M2,fun n h2=>?_⟩;have G:ac N (upd m n (.lst (e.map V.str))):=p.trans (ac.new h2);have I:upd m n (.lst (e.map V.str)) n=some (.lst (e.map V.str)):=aa;generalize upd m n (.lst (e.map V.str))=H3 at G I ⊢;refine⟨n,rfl,⟨_,aF.of I⟩,?_⟩
  let J:Nat->L2.St->Hp->Prop:=fun j σ l=>∃z,σ=[some (.ref x),some (.str r),z]/\ac H3 l
  refine fz (xs:=e.map V.str) J ⟨_,rfl,ac.refl _⟩ (fun i σ l _ D=>by obtain⟨_,_,S⟩:=D;exact aF.of (S _ _ I)) ?_ ?_
  ·rintro j v σ H4 hj ⟨z,rfl,q⟩;obtain⟨a,ha,rfl⟩:=cX hj;refine⟨_,rfl,_,rfl,_,rfl,x,r,a,e,s,f,t,rfl,M.same ((o.trans G).trans q),dw O,fun H5 S5=>⟨_,rfl,?_⟩⟩;rw[rH.2 (tk r (dw O) a (dw ha))];exact aZ ⟨_,rfl,q.trans S5⟩
  ·rintro σ H4 ⟨z,rfl,q⟩;exact⟨_,_,rfl,G.trans q⟩
 ·rintro σ m ⟨y,z,rfl,p⟩;exact k m (o.trans p)
inductive gg(C:Addr)(vs:List V)(H:Hp)(Q:VK)(E:XK):Prop
 |mk (x y:Addr) (J0 J2 J4 rooms':Zb) (ds ds':List aJ):(vs=[.ref x,.ref y])->(bt C H x J0 J2 J4 ds)->(bt C H y J0 J2 rooms' ds')->((∀r∈rooms',∀a∈J0,uQ ds' r a))->(∀H',ac H H'->Q .non H')->gg C vs H Q E
theorem uf{K:Za}{C:Addr}{f:List V}{H:Hp}{Q:VK}{E:XK}(h:gg C f H Q E):u6 K (iE C) (gh C) (bq Q) (start vw f) H:=by
 obtain⟨x,y,g,i,l,a,m,e,rfl,M,N,tk,k⟩:=h;exact⟨_,rfl,_,rfl,x,y,g,i,l,a,m,e,rfl,M,N,fun p j=>⟨_,rfl,y,g,i,a,e,rfl,N.same j,tk,fun n o=>k n (j.trans o)⟩⟩
abbrev LP:=(List Str×List Str)×List Sg
abbrev FPr:=List Str×List Str
open Builtin.Int (intBits)
def pM(H:Hp)(a:Addr):Hp:=fun b=>if b=a then none else H b
theorem mw(H:Hp)(a:Addr):pM H a a=none:=if_pos rfl
theorem mx{H:Hp}{a b:Addr}(h:b≠a):pM H a b=H b:=if_neg h
theorem jQ{H:Hp}{a:Addr}:ac (pM H a) H:=fun b o e=>by
 by_cases c:b=a
 ·rw[c,mw]at e;cases e
 ·rw[mx c]at e;exact e
def gm(J2:Zb):Option Str->List Sg
 |none=>J2.map rJ++[n6]
 |some a=>iB a::J2.map rJ
def lB:Nat->Nat
 |0=>0
 |d+1=>30+25 * lB d
theorem qV(e:Zb)(ask:Option Str):(gm e ask).length=e.length+1:=by
 cases ask with
 |none=>unfold gm;rw[aP,ao];rfl
 |some a=>unfold gm;rw[dD,ao]

mutual
def bx(K:Za)(H:Hp):DT->V->Prop
 |.k a,v=>v=kV a
 |.t l,v=>∃b xs,v=.ref b/\aH K H b xs/\TrCs K H l xs
 |.s _,_=>False
def TrCs(K:Za)(H:Hp):List DT->List V->Prop
 |[],vs=>vs=[]
 |k::r,vs=>∃v us,vs=v::us/\bx K H k v/\TrCs K H r us
end
mutual
theorem bx.kt{K:Za}{H a:Hp}(k:gB H a):∀(d:DT) (v:V),bx K H d v->bx K a d v
 |.k _,_,h=>h
 |.t l,v,h=>by
  obtain⟨b,xs,e,t,r⟩:=h;exact⟨b,xs,e,aH.kt k t,TrCs.kt k l xs r⟩
 |.s _,_,h=>h
theorem TrCs.kt{K:Za}{H f:Hp}(k:gB H f):∀(l:List DT) (a:List V),TrCs K H l a->TrCs K f l a
 |[],_,h=>h
 |d::r,a,h=>by
  obtain⟨v,g,e,t,q⟩:=h;exact⟨v,g,e,bx.kt k d v t,TrCs.kt k r g q⟩
end
mutual
theorem bx.dIn{K:Za}{H:Hp}:∀(d:DT) (v:V),bx K H d v->oy K H d v
 |.k _,_,h=>h
 |.t l,v,h=>by
  obtain⟨b,xs,e,t,r⟩:=h;exact⟨b,xs,e,aH.sq t,TrCs.dIn l xs r⟩
 |.s _,_,h=>h.elim
theorem TrCs.dIn{K:Za}{H:Hp}:∀(l:List DT) (a:List V),TrCs K H l a->DIns K H l a
 |[],_,h=>h
 |d::r,a,h=>by
  obtain⟨v,f,e,t,q⟩:=h;exact⟨v,f,e,bx.dIn d v t,TrCs.dIn r f q⟩
end
abbrev c7(K:Za)(H:Hp)(vs:List V)(ps:List DT):Prop:=Paired (fun v d=>bx K H d v) vs ps
theorem c7.kt{K:Za}{H a:Hp}{e:List V}{f:List DT}(k:gB H a)(h:c7 K H e f):c7 K a e f:=Paired.mapP h fun v d r=>bx.kt k d v r
theorem c7.all{K:Za}{H:Hp}{vs:List V}{e:List DT}(f:c7 K H vs e):TrCs K H e vs:=by
 have h:Paired (fun v d=>bx K H d v) vs e:=f;clear f
 induction h with
 |nil=>rfl
 |cons a _ g=>exact⟨_,_,rfl,a,g⟩
theorem iC{K:Za}{H:Hp}(s:Str):bx K H (eN s) (.str s):=rfl
def cJ:Sg:=["blame"]
def cu:Sg:=["end"]
theorem jv{K:Za}{H:Hp}{b:Addr}:∀{a:Sg},aH K H b (a.map V.str)->bx K H (k7 a) (.ref b):=fun{a} h=>by
 refine⟨b,_,rfl,h,?_⟩;clear h
 induction a with
 |nil=>rfl
 |cons s r e=>exact⟨_,_,rfl,iC s,e⟩
def dF(w:Str)(d:DT):DT:=.t [eN w,d]
def cW(J2:Zb):Option Str->List DT->DT
 |none,ps=>.t [eN "wait",.t (dg dF J2 (ps.take J2.length)),(ps[J2.length]?).getD (k7 cu)]
 |some a,ps=>.t [eN "tell",eN a,(ps[0]?).getD (k7 cu),.t (dg dF J2 (ps.drop 1))]
def dB:Nat->Nat
 |0=>1
 |d+1=>dB d+3
theorem qE{b:Nat}:∀(e:Zb) (a:List DT),(∀p∈a,p.depth<=b)->DT.depths (dg dF e a)<=b+1
 |[],_,_=>by simp[DT.depths]
 |_::_,[],_=>by simp[DT.depths]
 |w::e,p::a,h=>by
  show max (dF w p).depth (DT.depths (dg dF e a))<=b+1;have g:=qE e a fun q f=>h q (eK _ f);have i:=h p fh;have j:(dF w p).depth=max 0 (max p.depth 0)+1:=rfl;omega
theorem zS{g:Zb}{a:Option Str}{f:List DT}{b:Nat}(l:1<=b)(h:∀p∈f,p.depth<=b):(cW g a f).depth<=b+3:=by
 have k:∀i:Nat,((f[i]?).getD (k7 cu)).depth<=b:=fun i=>by
  cases e:f[i]? with
  |none=>show(k7 cu).depth<=b;rw[fE];exact l
  |some p=>exact h p (dw e)
 cases a with
 |none =>
  have m:=qE g (f.take g.length) fun p j=>h p (gG j);have n:=k g.length;show max 0 (max (DT.depths _+1) (max _ 0))+1<=b+3;omega
 |some a =>
  have m:=qE g (f.drop 1) fun p j=>h p (lg j);have n:=k 0;show max 0 (max 0 (max _ (max (DT.depths _+1) 0)))+1<=b+3;omega
theorem Hu:∀d,1<=dB d
 |0=>ay _
 |d+1=>by show 1<=dB d+3;omega
theorem Fe{K:Za}{k:Nat}{o:List Nat}{g:TG}{q:TT}{r:TE}{σ:L2.St}{s:Hp}{Q:Hp->Prop}{l a b:Addr}{xs ys:List V}(A:xs.length<=ys.length)(Pv:Nat->List V->Hp->Prop)(B:Pv 0 [] (upd s l (.lst [])))
  (m:∀i e H,i<=xs.length->Pv i e H->H l=some (.lst e)/\aF K H a xs/\aF K H b ys) (C:∀e H,Pv xs.length e H->Q H)
  (D:∀i e H x y p,xs[i]?=some x->ys[i]?=some y->i<xs.length->Pv i e H->H p=none->g (.ref p) (cL k o σ) (upd H p (.tup [x,y])) fun σ2 E=>q σ2 E fun b w =>
   if b=true then r σ2 w fun v z=>z l=some (.lst e)/\e.length<ai/\∃f,f<xs.length-i/\Wc xs.length Pv (i+1) f (e++[v]) (upd z l (.lst (e++[v])))else ∃f,f<xs.length-i/\Wc xs.length Pv (i+1) f e w) :
  cP k o σ (Itz K a b) g q r s l Q:=by
 refine jU xs.length Pv B (fun i e H hi p=>(m i e H hi p).1) (fun i e H hi p=>?_) (fun e H p=>?_) fun i e H x L hi p y=>?_
 ·obtain⟨_,h,j⟩:=m i e H (df hi) p;have n:i<ys.length:=by omega
  exact⟨xs,ys,xs[i],ys[i],h,j,by simp[hi],by simp[n]⟩
 ·obtain⟨_,h,j⟩:=m _ e H (ay _) p;exact⟨⟨xs,ys,h,j,.inl (ay _)⟩,C e H p⟩
 ·obtain⟨_,h,j⟩:=m i e H (df hi) p;obtain⟨t,u,v,rfl,G,I,J,rfl⟩:=y;exact D i e H u v t (I xs h) (J ys j) hi p G
theorem sU{xs:List V}{n:Nat}{v:V}(a:n+1=xs.length)(h:xs[n]?=some v):vv xs (-1)=some v:=by
 have e:xs=xs.take n++[v]:=by rw[<-take_snoc h,a,cv]
 rw[e];exact HF _ _
theorem fS{a:Zb}{e:List DT}{d:DT}(h:e[a.length]?=some d):cW a none e=.t [eN "wait",.t (dg dF a (e.take a.length)),d]:=by
 show DT.t [_,_,(e[a.length]?).getD _]=_;rw[h];rfl
theorem fR{f:Zb}{e:List DT}{a:Str}{d:DT}(h:e[0]?=some d):cW f (some a) e=.t [eN "tell",eN a,d,.t (dg dF f (e.drop 1))]:=by
 show DT.t [_,_,(e[0]?).getD _,_]=_;rw[h];rfl
open Builtin.Int (intBits)
theorem dW.hid2{H:Hp}{p c a:Addr}(h:dW H p c)(e:p≠a)(f:c≠a):dW (pM H a) p c:=by
 obtain⟨x,r,g,i⟩:=h;refine⟨x,r,g,?_⟩;cases i;constructor<;>first|assumption|(rw[mx e];assumption)|(rw[mx f];assumption)
def Ej(K:Za):TS :=
 aR (iX (aq iL (cS (cK K) (au V0)) (tC (.int 4))) (aq iL (aq (bg K) V0 (tC (.int 0))) (tC (.str "tell"))))
def Fq:List Str:=["trial"]
def Ei(K:Za):TS :=
 aR (iX (aq iL (cS (cK K) (au V0)) (tC (.int 3))) (aq iL (aq (bg K) V0 (tC (.int 0))) (tC (.str "wait"))))
def Fp:List Str:=["trial"]
def qI(K:Za):TS :=
 aR (cD 2 [] (uE K V0) (jR K 2 (bM U0 (bM U1 (jC)))) (d6) (aW (aE (aW (aj (tC (.str "say")) (au V0))) V1)))
def rh:List Str:=["pairs"]
def tZ(K:Za)(sp_is_wait:Sp)(sp_says_and_parts:Sp)(a_HUSH:Addr)(sp_is_tell:Sp):TS :=
 ar (bQ (tB (aw sp_is_tell (au V0))) (aR (aq qS (bW (aj (aW (aj (aW (aE (tC (.str "ask")) (aq (bg K) V0 (tC (.int 1))))) (au (aq (bg K) V0 (tC (.int 2)))))) aU)) (aw sp_says_and_parts (au (aq (bg K) V0 (tC (.int 3))))))) (ba))
 (ar (bQ (tB (aw sp_is_wait (au V0))) (aR (aq qS (aw sp_says_and_parts (au (aq (bg K) V0 (tC (.int 1))))) (bW (aj (aW (aE (tC (.ref a_HUSH)) (aq (bg K) V0 (tC (.int 2))))) aU)))) (ba))
 (aR (bW (aU))))
def uR:List Str:=["trial"]
def t4(K:Za)(sp_signed_parts:Sp):TS :=
 ar (aO (bW (aU)) U3)
 (ar (fe (pL K (au (aw sp_signed_parts (au V2)))) (jR K 2 (bM U4 (bM U5 (jC)))) (ar (aO V5 (jR K 2 (bM U6 (bM U7 (jC)))))
 (d_ (Er K "list" gj V3 (aj (aW (cq (aq (Ap K) V0 (aW (au V4))) (aq qS V1 (bW (au V6))) V7)) aU)))))
 (aR V3))
def uS:List Str:=["way","story","trial","behind","number","signed","sign","part"]
def AV:List Str:=["trial","found","waiting","way","story","here","one"]
def mF(K:Za)(C_Machine:Addr)(sp_Machine_says:Sp):TS :=
 aR (aq (k6 K) (cD 2 [] (uE K V1) (jR K 2 (bM U0 (bM U1 (jC)))) (d6) V0) (iy C_Machine "says" sp_Machine_says [] E0 V0 aU))
def mQ:List Str:=["M","pairs"]
def oX(K:Za)(a_BLAME:Addr)(a_END:Addr)(sp_is_wait:Sp)(sp_has_says_in_order:Sp)(sp_is_tell:Sp)(C_Machine:Addr)(sp_Machine_asks:Sp):TS :=
 ar (bQ (tB (aw sp_is_tell (au V1))) (aR (iX (aq (EL K false) (aq (bg K) V1 (tC (.int 1))) (iy C_Machine "asks" sp_Machine_asks [] E0 V0 aU)) (aw sp_has_says_in_order (aE V0 (aq (bg K) V1 (tC (.int 3))))))) (ba))
 (ar (bQ (tB (aw sp_is_wait (au V1))) (aR (aw sp_has_says_in_order (aE V0 (aq (bg K) V1 (tC (.int 1)))))) (ba))
 (aR (Bu (aq (k6 K) V1 (tC (.ref a_END))) (aq (k6 K) V1 (tC (.ref a_BLAME))))))
def pY:List Str:=["M","trial"]
def mR:List Str:=["M","trial","found","way","story","here"]
def zg:List Str:=["M","trial"]
def AW:List Str:=["M","d","trial"]
inductive Tr where
 |bl
 |en
 |nd (a:Option Str) (ps:List Tr)
mutual
def Tr.dt(J2:Zb):Tr->DT
 |.bl=>k7 cJ
 |.en=>k7 cu
 |.nd a ps=>cW J2 a (Tr.dts J2 ps)
def Tr.dts(J2:Zb):List Tr->List DT
 |[]=>[]
 |t::r=>Tr.dt J2 t::Tr.dts J2 r
end
theorem Tr.dts_map(a:Zb):∀l:List Tr,Tr.dts a l=l.map (Tr.dt a)
 |[]=>rfl
 |t::r=>by rw[Tr.dts,Tr.dts_map a r];rfl
mutual
def Tr.wf(J0 J2:Zb):Tr->Prop
 |.bl=>True
 |.en=>True
 |.nd a ps=>ps.length=J2.length+1/\(∀w,a=some w->w∈J0)/\Tr.wfs J0 J2 ps
def Tr.wfs(J0 J2:Zb):List Tr->Prop
 |[]=>True
 |t::r=>Tr.wf J0 J2 t/\Tr.wfs J0 J2 r
end
theorem Tr.wfs_mem{a e:Zb}:∀{l:List Tr},Tr.wfs a e l↔∀t∈l,Tr.wf a e t
 |[]=>by simp[Tr.wfs]
 |t::r=>by
  rw[Tr.wfs,Tr.wfs_mem (l:=r)];simp
mutual
def Tr.hgt:Tr->Nat
 |.bl=>0
 |.en=>0
 |.nd _ ps=>Tr.hgts ps+1
def Tr.hgts:List Tr->Nat
 |[]=>0
 |t::r=>max t.hgt (Tr.hgts r)
end
theorem c7.of{K:Za}{H:Hp}:∀{e:List DT}{a:List V},TrCs K H e a->c7 K H a e
 |[],a,h=>by
  have h:a=[]:=h;rw[h];exact .nil
 |p::e,a,h=>by
  obtain⟨v,i,rfl,f,g⟩:=h;exact .cons f (c7.of g)
inductive kr(K:Za)(n:Nat)(w:Str)(vs:List V)(H:Hp)(Q:VK)(E:XK):Prop
 |mk (v:V) (s:Str) (r:List DT):(vs=[v])->(bx K H (.t (eN s::r)) v)->(Q (.bl (decide (r.length+1=n) && decide (s=w))) H)->kr K n w vs H Q E
theorem DG{xs:List V}{r:List DT}{n:Nat}(h:xs.length=r.length+1):decide (V.int (xs.length:Nat)=V.int (n:Nat))=decide (r.length+1=n):=by
 rw[h];exact decide_eq_decide.2 ⟨fun z=>by injection z with z;omega,fun z=>by rw[z]⟩
theorem dec_str{s w:Str}:decide (V.str s=V.str w)=decide (s=w):=decide_eq_decide.2 ⟨fun z=>by injection z,fun z=>by rw[z]⟩
theorem EE{K:Za}{e:List V}{H:Hp}{Q:VK}{E:XK}(h:kr K 4 "tell" e H Q E):Ej K (bq Q) (start Fq e) H:=by
 obtain⟨v,s,r,rfl,⟨b,xs,rfl,f,hx⟩,k⟩:=h;have g:=c7.of hx;have i:=Paired.length g;obtain⟨y,l,rfl,a,_⟩:=hx;have a:y=V.str s:=a;subst a;refine⟨_,rfl,.inl ⟨b,_,rfl,.inr (aH.sq f),rfl,_,rfl,?_⟩⟩;rw[show decide (V.int ((V.str s::l).length:Nat)=V.int 4)=decide (r.length+1=4)from DG (n:=4) i];by_cases c:r.length+1=4
 ·rw[zzr1 c]at k ⊢;refine br ⟨_,rfl,b,_,0,.str s,rfl,rfl,aH.sq f,aM (j:=0) rfl,rfl,?_⟩;rw[dec_str];exact k
 ·rw[zzr0 c]at k ⊢;exact aZ k
theorem ED{K:Za}{e:List V}{H:Hp}{Q:VK}{E:XK}(h:kr K 3 "wait" e H Q E):Ei K (bq Q) (start Fp e) H:=by
 obtain⟨v,s,r,rfl,⟨b,xs,rfl,f,hx⟩,k⟩:=h;have g:=c7.of hx;have i:=Paired.length g;obtain⟨y,l,rfl,a,_⟩:=hx;have a:y=V.str s:=a;subst a;refine⟨_,rfl,.inl ⟨b,_,rfl,.inr (aH.sq f),rfl,_,rfl,?_⟩⟩;rw[show decide (V.int ((V.str s::l).length:Nat)=V.int 3)=decide (r.length+1=3)from DG (n:=3) i];by_cases c:r.length+1=3
 ·rw[zzr1 c]at k ⊢;refine br ⟨_,rfl,b,_,0,.str s,rfl,rfl,aH.sq f,aM (j:=0) rfl,rfl,?_⟩;rw[dec_str];exact k
 ·rw[zzr0 c]at k ⊢;exact aZ k
def Jk(K:Za)(H:Hp)(q:Addr)(p:Sg×DT):Prop:=∃s v,H q=some (.tup [.ref s,v])/\aH K H s (p.1.map V.str)/\bx K H p.2 v
theorem Jk.kt{K:Za}{H a:Hp}{q:Addr}{p:Sg×DT}(k:gB H a)(h:Jk K H q p):Jk K a q p:=by
 obtain⟨s,v,e,f,g⟩:=h;exact⟨s,v,k _ _ e,aH.kt k f,bx.kt k _ _ g⟩
abbrev lU(K:Za)(H:Hp)(qs:Ze)(L:List (Sg×DT)):Prop:=Paired (Jk K H) qs L
theorem lU.kt{K:Za}{H a:Hp}{qs:Ze}{L:List (Sg×DT)}(k:gB H a)(h:lU K H qs L):lU K a qs L:=Paired.mapP h fun _ _ r=>r.kt k
inductive iD(K:Za)(vs:List V)(H:Hp)(Q:VK)(E:XK):Prop
 |mk (v:V) (ws:Zb) (ps:List DT):(vs=[v])->(bx K H (.t (dg dF ws ps)) v)->(ws.length=ps.length)->(ws.length<=1000)->(∀(l:Addr) (qs:Ze) (H':Hp),H' l=some (.lst (qs.map V.ref))->lU K H' qs ((ws.map rJ).zip ps)->ac H H'->Q (.ref l) H')->iD K vs H Q E
theorem yv{K:Za}{O:List V}{H:Hp}{Q:VK}{E:XK}(h:iD K O H Q E):qI K (bq Q) (start rh O) H:=by
 obtain⟨v,A,T,rfl,⟨b,xs,rfl,U,hx⟩,zl,z,k⟩:=h;have Y:=c7.of hx;have hl:=Paired.length Y;rw[wO]at hl;refine⟨_,rfl,b,rfl,⟨_,aH.sq U⟩,fun l m=>?_⟩
 let B:Nat->List V->Hp->Prop:=fun i n g=>∃qs:List Addr,n=qs.map V.ref/\ac H g/\g l=some (.lst n)/\lU K g qs (((A.take i).map rJ).zip (T.take i))
 refine uK (xs:=xs) B ⟨[],rfl,ac.new m,aa,.nil⟩ (fun i n g _ zq=>by obtain⟨_,_,S,C,_⟩:=zq;exact⟨C,aH.sq (aH.kt (ac.kt S) U)⟩) ?_ ?_
 ·rintro n g ⟨qs,rfl,S,C,r⟩;have e1:xs.length=A.length:=by omega
  rw[e1,cv,zl,cv]at r;exact k l qs g C r S
 ·rintro i n a x D hi ⟨qs,rfl,S,h1,r⟩;obtain⟨d,hd⟩:∃d,T[i]?=some d:=⟨_,bI (by omega)⟩;obtain⟨w,hw⟩:∃w,A[i]?=some w:=⟨_,bI (by omega)⟩;obtain⟨y,u,s⟩:=Paired.getL Y D;rw[List.getElem?_zipWith,hw,hd]at u;injection u with u;rw[<-u]at s;obtain⟨c,ab,rfl,hc,x1,al,rfl,G,j,I,rfl,J,L⟩:=s;have L:I=[]:=L;subst L;cases G;have M:=aH.kt (ac.kt S) hc;refine⟨c,_,rfl,aH.sq M,rfl,_,_,rfl,_,_,rfl,rfl,lA ?_⟩;refine⟨_,rfl,(by show 2<=ai;decide),fun p N=>⟨_,rfl,(by show 2<=ai;decide),fun q t=>?_⟩⟩;have S2:ac a (upd a p (.tup [.str "say",.str w])):=ac.new N;have p2:upd a p (.tup [.str "say",.str w]) p=some (.tup ((rJ w).map V.str)):=aa
  change upd a p (.tup [.str "say",.str w]) q=none at t
  have S3:ac (upd a p (.tup [.str "say",.str w])) (upd (upd a p (.tup [.str "say",.str w])) q (.tup [.ref p,j])):=ac.new t;have q3:upd (upd a p (.tup [.str "say",.str w])) q (.tup [.ref p,j]) q=some (.tup [.ref p,j]):=aa;have p3:=S3 _ _ p2;have f:=S2.trans S3;have h3:=f _ _ h1;refine⟨h3,?_,vn hi ⟨qs++[q],by rw[aQ];rfl,fun b o e=>?_,aa,?_⟩⟩
  ·rw[ao,Paired.length r,lc,ao,aK];exact ax (by omega)
  ·rw[am (ah e m)];exact f _ _ (S _ _ e)
  ·have kt:gB (upd (upd a p (.tup [.str "say",.str w])) q (.tup [.ref p,j])) (upd (upd (upd a p (.tup [.str "say",.str w])) q (.tup [.ref p,j])) l (.lst (qs.map V.ref++[.ref q]))):=fo h3;rw[take_snoc hw,take_snoc hd,aQ,List.zip_append (by rw[ao,aK,aK];omega)];refine eE (lU.kt (fun b xs e=>kt _ _ (ac.kt f _ _ e)) r) ?_;exact⟨p,j,kt _ _ q3,.inl (kt _ _ p3),bx.kt (fun b xs e=>kt _ _ (ac.kt (S.trans f) _ _ e)) _ _ J⟩
def fH(w:List Nat):List V:=w.map fun(n:Nat)=>V.int n
theorem DP{K:Za}{H:Hp}{f e:Addr}{a:List Nat}{i:Nat}{R:VK}(l:H f=some (.tup (fH a)))(h:H e=some (.tup [.int (i:Nat)]))(n:a.length<=999)(k:∀(j:Addr) (g:Hp),g j=some (.tup (fH (a++[i])))->ac H g->R (.ref j) g):Ap K (.ref f) (.ref e) H R:=by
 refine⟨f,e,_,_,rfl,rfl,bE.of l,bE.of h,(by intro z;cases z),?_,fun z=>?_,fun z p m=>?_⟩
 ·have:(fH a).length=a.length:=ao _;rw[this];exact df (ax (by show _+1<=1000;omega))
 ·have:a=[]:=sX.1 z;subst this;exact k e H h (ac.refl _)
 ·refine k p _ ?_ (ac.new m);rw[aa];unfold fH;rw[aQ];rfl
def HJ(H:Hp)(c:Addr)(H' J:Hp):Prop:=(∀b o,H' b=some o->H b=none->b≠c->J b=some o)/\gB H' J
def pN(H:Hp)(f w:Addr):Hp:=fun b=>if b=f∨b=w then none else H b
theorem yU{H:Hp}{f w b:Addr}(a:b≠f)(e:b≠w):pN H f w b=H b:=if_neg (by rintro(z|z)<;>contradiction)
theorem wn{H:Hp}{f w b:Addr}{o:HO}(h:pN H f w b=some o):b≠f/\b≠w/\H b=some o:=by
 unfold pN at h;split at h
 ·cases h
 ·next c=>exact⟨fun z=>c (.inl z),fun z=>c (.inr z),h⟩
theorem wo{H:Hp}{f w:Addr}:ac (pN H f w) H:=fun b o e=>(wn e).2.2
theorem I_{H a:Hp}{f w:Addr}(S:ac H a):ac (pN H f w) (pN a f w):=fun b o e=>by
 obtain⟨g,h,i⟩:=wn e;rw[yU g h];exact S _ _ i
theorem EX{H:Hp}{f w:Addr}{o:HO}:pN (upd H f o) f w=pN H f w:=funext fun b=>by
 unfold pN;split
 ·rfl
 ·next c=>exact am fun z=>c (.inl z)
theorem wm{H:Hp}{f w:Addr}{o:HO}:pN (upd H w o) f w=pN H f w:=funext fun b=>by
 unfold pN;split
 ·rfl
 ·next c=>exact am fun z=>c (.inr z)
def hidL(H0 G:Hp):Hp:=fun b=>open Classical in if ∃xs,H0 b=some (.lst xs)then none else G b
theorem EW{a G:Hp}{b:Addr}(h:a b=none):hidL a G b=G b:=if_neg fun⟨xs,e⟩=>by rw[h]at e;cases e
theorem wj{a G:Hp}{b:Addr}{o:HO}(h:hidL a G b=some o):(∀xs,a b≠some (.lst xs))/\G b=some o:=by
 unfold hidL at h;split at h
 ·cases h
 ·next c=>exact⟨fun xs e=>c ⟨xs,e⟩,h⟩
theorem Dz{a G:Hp}{b:Addr}(h:∀xs,a b≠some (.lst xs)):hidL a G b=G b:=if_neg fun⟨xs,e⟩=>h xs e
theorem wk{a G:Hp}:ac (hidL a G) G:=fun b o e=>(wj e).2
theorem Dy{a G f:Hp}(S:ac G f):ac (hidL a G) (hidL a f):=fun b o e=>by
 obtain⟨g,h⟩:=wj e;rw[Dz g];exact S _ _ h
noncomputable abbrev hid3(H0 H:Hp)(f w:Addr):Hp:=hidL H0 (pN H f w)
theorem yT{a H:Hp}{f w b:Addr}(e:a b=none)(g:b≠f)(h:b≠w):hid3 a H f w b=H b:=(EW e).trans (yU g h)
theorem re{a H:Hp}{f w:Addr}:ac (hid3 a H f w) H:=wk.trans wo
theorem DA{a H e:Hp}{f w:Addr}(S:ac H e):ac (hid3 a H f w) (hid3 a e f w):=Dy (I_ S)
inductive Gt where
 |lf (w:Str)
 |nd (a:Option Str) (ws:Zb) (ps:List Gt)
mutual
def Gt.dt:Gt->DT
 |.lf w=>k7 [w]
 |.nd a ws ps=>cW ws a (Gt.dts ps)
def Gt.dts:List Gt->List DT
 |[]=>[]
 |t::r=>Gt.dt t::Gt.dts r
end
theorem Gt.dts_map:∀l:List Gt,Gt.dts l=l.map Gt.dt
 |[]=>rfl
 |t::r=>by rw[Gt.dts,Gt.dts_map r];rfl
mutual
def Gt.wf:Gt->Prop
 |.lf _=>True
 |.nd a ws ps=>ps.length=ws.length+1/\ws.length<=8/\Gt.wfs ps
def Gt.wfs:List Gt->Prop
 |[]=>True
 |t::r=>Gt.wf t/\Gt.wfs r
end
theorem Gt.wfs_mem:∀{l:List Gt},Gt.wfs l↔∀t∈l,Gt.wf t
 |[]=>by simp[Gt.wfs]
 |t::r=>by
  rw[Gt.wfs,Gt.wfs_mem (l:=r)];simp
structure Eg where
 way:List Nat
 story:List Sg
 tr:Gt
mutual
def fL(w:List Nat)(s:List Sg):Gt->List Eg
 |.lf v=>[⟨w,s,.lf v⟩]
 |.nd a ws ps=>⟨w,s,.nd a ws ps⟩::preGs w s (gm ws a) 0 ps
def preGs(w:List Nat)(s:List Sg)(sgs:List Sg)(i:Nat):List Gt->List Eg
 |[]=>[]
 |p::ps=>fL (w++[i]) (s++(sgs.take 1)) p++preGs w s (sgs.drop 1) (i+1) ps
end
def m9(w:List Nat)(s:List Sg)(sgs:List Sg)(i:Nat):List Gt->List Eg
 |[]=>[]
 |p::ps=>⟨w++[i],s++sgs.take 1,p⟩::m9 w s (sgs.drop 1) (i+1) ps
def nX(e:Eg):List Eg :=
 match e.tr with
 |.nd a ws ps=>m9 e.way e.story (gm ws a) 0 ps
 |_=>[]
def uo(e:Eg):List Eg:=fL e.way e.story e.tr
theorem uq(w:List Nat)(s:List Sg):∀(e:List Gt) (a:List Sg) (i:Nat),preGs w s a i e=(m9 w s a i e).flatMap uo
 |[],_,_=>rfl
 |p::e,a,i=>by
  rw[preGs,uq w s e];show _=List.flatMap _ (_::_);rw[List.flatMap_cons];rfl
theorem vX(e:Eg):uo e=e::(nX e).flatMap uo:=by
 obtain⟨w,s,t⟩:=e;unfold uo nX;cases t with
 |lf v=>rfl
 |nd a f g =>
  show _::preGs w s (gm f a) 0 g=_;rw[uq];rfl
theorem GC(e:Eg):0<(uo e).length:=by rw[vX];exact Nat.succ_pos _
theorem AA{w:List Nat}{s:List Sg}:∀{f:List Gt}{a:List Sg}{i:Nat},(∀p∈f,Gt.wf p)->∀e∈m9 w s a i f,Gt.wf e.tr
 |[],_,_,_,e,he=>by cases he
 |p::f,a,i,h,e,he=>by
  rcases cz.1 he with rfl|he
  ·exact h p fh
  ·exact AA (fun q g=>h q (eK _ g)) e he
theorem I0{e:Eg}(h:Gt.wf e.tr):∀k∈nX e,Gt.wf k.tr:=by
 obtain⟨w,s,t⟩:=e;cases t with
 |lf v=>intro k f;cases f
 |nd a i j =>
  obtain⟨_,_,g⟩:=h;exact AA (Gt.wfs_mem.1 g)
mutual
def Gt.hgt:Gt->Nat
 |.lf _=>0
 |.nd _ _ ps=>Gt.hgts ps+1
def Gt.hgts:List Gt->Nat
 |[]=>0
 |t::r=>max t.hgt (Gt.hgts r)
end
mutual
theorem pC{P:Sg->Prop}(l:∀f a,∀g∈gm f a,P g):∀(t:Gt) (w:List Nat) (s:List Sg),Gt.wf t->(∀g∈s,P g)->s.length<=w.length->∀e∈fL w s t,e.way.length<=w.length+t.hgt/\e.story.length<=e.way.length/\(∀g∈e.story,P g)/\Gt.wf e.tr
 |.lf v,w,s,i,h,j,e,he=>by rw[eD.1 he];exact⟨Nat.le_add_right _ _,j,h,i⟩
 |.nd a f k,w,s,i,h,j,e,he=>by
  rcases cz.1 he with rfl|he
  ·exact⟨Nat.le_add_right _ _,j,h,i⟩
  ·have:=preGs_way l k w s (gm f a) 0 i.2.2 h (l f a) j e he;have m:(Gt.nd a f k).hgt=Gt.hgts k+1:=rfl;exact⟨by omega,this.2⟩
theorem preGs_way{P:Sg->Prop}(l:∀o a,∀f∈gm o a,P f):∀(j:List Gt) (w:List Nat) (s g:List Sg) (i:Nat),Gt.wfs j->(∀f∈s,P f)->(∀f∈g,P f)->s.length<=w.length->∀e∈preGs w s g i j,e.way.length<=w.length+1+Gt.hgts j/\e.story.length<=e.way.length/\(∀f∈e.story,P f)/\Gt.wf e.tr
 |[],_,_,_,_,_,_,_,_,e,he=>by cases he
 |p::j,w,s,g,i,m,h,n,r,e,he=>by
  have u:Gt.hgts (p::j)=max p.hgt (Gt.hgts j):=rfl;have t:(w++[i]).length=w.length+1:=by rw[aP];rfl
  rcases cG.1 he with he|he
  ·have:=pC l p (w++[i]) (s++g.take 1) m.1 (fun f k=>(cG.1 k).elim (h f) fun q=>n f (gG q)) (by rw[t,aP,aK];omega) e he;exact⟨by omega,this.2⟩
  ·have:=preGs_way l j w s (g.drop 1) (i+1) m.2 h (fun f k=>n f (lg k)) r e he;exact⟨by omega,this.2⟩
end
mutual
def Gt.sz:Gt->Nat
 |.lf _=>1
 |.nd _ _ ps=>Gt.szs ps+1
def Gt.szs:List Gt->Nat
 |[]=>0
 |t::r=>t.sz+Gt.szs r
end
mutual
theorem sP:∀(t:Gt) (w:List Nat) (s:List Sg),(fL w s t).length=t.sz
 |.lf v,w,s=>rfl
 |.nd a f e,w,s=>by show(preGs w s (gm f a) 0 e).length+1=Gt.szs e+1;rw[preGs_sz e]
theorem preGs_sz:∀(e:List Gt) (w:List Nat) (s a:List Sg) (i:Nat),(preGs w s a i e).length=Gt.szs e
 |[],_,_,_,_=>rfl
 |p::e,w,s,a,i=>by
  show(fL _ _ p++preGs w s (a.drop 1) (i+1) e).length=p.sz+Gt.szs e;rw[aP,sP p,preGs_sz e]
end
mutual
theorem vZ:∀(t:Gt) (w:List Nat) (s:List Sg),t.wf->∃e∈fL w s t,e.way.length=w.length+t.hgt
 |.lf v,w,s,_=>⟨_,eD.2 rfl,rfl⟩
 |.nd a g f,w,s,h=>by
  obtain⟨e,i,j⟩:=preGs_deep f w s (gm g a) 0 h.2.2 (fun z=>by have:=h.1;rw[z]at this;cases this);exact⟨e,eK _ i,by rw[j];show _=w.length+(Gt.hgts f+1);omega⟩
theorem preGs_deep:∀(a:List Gt) (w:List Nat) (s f:List Sg) (i:Nat),Gt.wfs a->a≠[]->∃e∈preGs w s f i a,e.way.length=w.length+1+Gt.hgts a
 |[],_,_,_,_,_,h=>absurd rfl h
 |p::a,w,s,f,i,h,_=>by
  have k:Gt.hgts (p::a)=max p.hgt (Gt.hgts a):=rfl;have l:(w++[i]).length=w.length+1:=by rw[aP];rfl
  by_cases c:a=[]∨Gt.hgts a<=p.hgt
  ·obtain⟨e,g,j⟩:=vZ p (w++[i]) (s++f.take 1) h.1;refine⟨e,gD _ g,?_⟩;have:Gt.hgts a<=p.hgt:=by
    rcases c with c|c
    ·subst c;exact cp _
    ·exact c
   omega
  ·obtain⟨e,g,j⟩:=preGs_deep a w s (f.drop 1) (i+1) h.2 (fun z=>c (.inl z));refine⟨e,dE _ g,?_⟩;have:¬Gt.hgts a<=p.hgt:=fun z=>c (.inr z);omega
end
def Gt.so(J0 J2:Zb):Gt->Prop
 |.lf w=>w="end"∨w="blame"
 |.nd a ws _=>(∀w,a=some w->w∈J0)/\ws=J2
open Classical in
def soB(J0 J2:Zb)(t:Gt):Bool:=decide (t.so J0 J2)
mutual
def Gt.of(J2:Zb):Tr->Gt
 |.bl=>.lf "blame"
 |.en=>.lf "end"
 |.nd a ps=>.nd a J2 (Gt.ofs J2 ps)
def Gt.ofs(J2:Zb):List Tr->List Gt
 |[]=>[]
 |t::r=>Gt.of J2 t::Gt.ofs J2 r
end
theorem Gt.ofs_len(a:Zb):∀l:List Tr,(Gt.ofs a l).length=l.length
 |[]=>rfl
 |t::r=>by show(Gt.ofs a r).length+1=r.length+1;rw[Gt.ofs_len a r]
mutual
theorem Gt.of_dt(e:Zb):∀t:Tr,(Gt.of e t).dt=t.dt e
 |.bl=>rfl
 |.en=>rfl
 |.nd a f=>by show cW e a (Gt.dts (Gt.ofs e f))=cW e a (Tr.dts e f);rw[Gt.ofs_dt e f]
theorem Gt.ofs_dt(a:Zb):∀l:List Tr,Gt.dts (Gt.ofs a l)=Tr.dts a l
 |[]=>rfl
 |t::r=>by show _::_=_::_;rw[Gt.of_dt a t,Gt.ofs_dt a r]
end
mutual
theorem Gt.of_wf{J0 J2:Zb}(z:J2.length<=8):∀t:Tr,t.wf J0 J2->(Gt.of J2 t).wf/\(Gt.of J2 t).hgt=t.hgt
 |.bl,_=>⟨trivial,rfl⟩
 |.en,_=>⟨trivial,rfl⟩
 |.nd a e,h=>by
  have:=Gt.ofs_wf z e h.2.2;exact⟨⟨by rw[Gt.ofs_len];exact h.1,z,this.1⟩,by show Gt.hgts _+1=Tr.hgts e+1;rw[this.2]⟩
theorem Gt.ofs_wf{g a:Zb}(z:a.length<=8):∀l:List Tr,Tr.wfs g a l->Gt.wfs (Gt.ofs a l)/\Gt.hgts (Gt.ofs a l)=Tr.hgts l
 |[],_=>⟨trivial,rfl⟩
 |t::r,h=>by
  have e:=Gt.of_wf z t h.1;have f:=Gt.ofs_wf z r h.2;exact⟨⟨e.1,f.1⟩,by show max _ _=max _ _;rw[e.2,f.2]⟩
end
def HL:List Str:=["M","trial"]
def HM:List Str:=["M","trial","I","way","story","word","walk"]
def zW(K:Za):TS :=
 aR (cS (Lg K) (aj (cD 2 [] (Hd K (aE V0 V1)) (jR K 2 (bM U0 (bM U1 (jC)))) (d6) (aW (aE V0 V1))) aU))
def AZ:List Str:=["says","some"]
def zV(K:Za)(sp_law_pairs:Sp)(sp_law_take:Sp)(sp_law_trial:Sp):TS :=
 ar (aO (aq m5 (aq (bF K) V3 (tC (.int 0))) (tC (.int 1))) (uG V3 (tC (.int 0)) lK))
 (ar (aO (aw sp_law_take (aE V0 (tC (.int 6)))) U4)
 (ar (bQ (Bv (aV (aq iL V2 (tC (.int 0)))) (Bv (aV (aq yB (aq (bF K) V3 (tC (.int 0))) (tC (.int 0)))) (aV (aq iL V4 (tC (.int 0)))))) (aR (aq (bF K) (bW (aE (aW (au (tC (.str "end")))) (aW (au (tC (.str "blame")))))) (aw sp_law_take (aE V0 (tC (.int 2)))))) (ba))
 (ar (aO (cD 1 [0,1,3,2] (gF (aj (aq cN (cS (cK K) (au (aq (bg K) V1 (tC (.int 1))))) (tC (.int 1))) aU)) U0 (d6) (aw sp_law_trial (aj V1 (cq V2 (aq m5 V4 (tC (.int 1))) V3)))) U5)
 (ar (bQ (aV (aq yB V4 (tC (.int 4)))) (ar (aO (aq (bF K) (aq (bg K) V1 (tC (.int 0))) (aw sp_law_take (aj V0 (aj (cS (cK K) (au (aq (bg K) V1 (tC (.int 0))))) aU)))) U6)
 (aR (aW (aj (tC (.str "tell")) (aj V6 (aj (aq (bF K) V5 (tC (.int 0))) (aj (aw sp_law_pairs (aE (aq (bg K) V1 (tC (.int 1))) (sI (uh K) V5 (dX (tC (.int 1))) (cg)))) aU))))))) (ba))
 (aR (aW (aj (tC (.str "wait")) (aj (aw sp_law_pairs (aE (aq (bg K) V1 (tC (.int 1))) V5)) (au (aq (bF K) V5 (Ju (rU fun i=>.int (-i)) (tC (.int 1)))))))))))))
def AY:List Str:=["pen","told","deep","left","way","some","ask"]


def xR(K:Za)(C_NoTrial:Addr)(sp_NoTrial_init:Sp)(sp_parts_behind:Sp):(L2.St->XK)->TS :=
 jH (lF (aO (bW (aU)) U1))
 (jH (lF (aO (bW (au (aW (cq (aW (aU)) (bW (aU)) V0)))) U2))
 (jH (C4 (aV (aq Ao (cS (cK K) (au V2)) (tC (.int 0)))) (jH (lF (aO (Kg K "list" Kl V2) (jR K 3 (bM U3 (bM U4 (bM U5 (jC)))))))
 (jH (lF (d_ (Er K "list" gj V1 (au (aW (cq V3 V4 V5))))))
 (jH (lF (fe (LB K (au (aw sp_parts_behind (cq V3 V4 V5)))) U6 (d_ (Er K "list" gj V2 (au V6)))))
 (Bx (Bv (aV (aq iL (cS (cK K) (au V3)) (tC (.int 8)))) (aV (aq Ao (aq cN (cS (cK K) (au V1)) (cS (cK K) (au V2))) (tC (.int 1000))))) (j_ C_NoTrial sp_NoTrial_init (au (aW (aU)))) (lF ba))))))
 (lF (aR V1))))
def lE(K:Za)(sp_is_so_by_itself:Sp)(C_NoTrial:Addr)(sp_NoTrial_init:Sp)(sp_with_ways:Sp):(L2.St->XK)->TS :=
 jH (FT (fun W=>iW sp_with_ways [] W (au V1)) 2)
 (jH (Jw (eh K V2) (jR K 3 (bM U3 (bM U4 (bM U5 (jC))))) (Bx (qN (tB (aw sp_is_so_by_itself (aE V0 V5)))) (j_ C_NoTrial sp_NoTrial_init (au V3)) (lF ba)))
 (lF (aR V2)))
def u5(K:Za)(sp_checked_with_ways:Sp):(L2.St->XK)->TS :=
 lG (fun W=>iW sp_checked_with_ways [] W (aE V0 V1))
def Ef(K:Za)(sp_checked_with_ways:Sp):(L2.St->XK)->TS :=
 Jv (fun W=>cD 3 [] (eh K ((fun W=>iW sp_checked_with_ways [] W (aE V0 V1)) W)) (jR K 3 (bM U0 (bM U1 (bM U2 (jC))))) (aV (aq iL (cS (cK K) (au V2)) (tC (.int 1)))) (aW (cq V0 V1 (aq (bg K) V2 (tC (.int 0))))))
def El(K:Za)(sp_leaves:Sp)(sp_need_taker:Sp):(L2.St->XK)->TS :=
 jH (lF (d_ (aw sp_need_taker (aE V0 V2))))
 (jH (FV (fun W=>eh K ((fun W=>iW sp_leaves [] W (aE V0 V1)) W)) (jR K 3 (bM U3 (bM U4 (bM U5 (jC))))) (lF ka))
 (lF ka))
def xS(K:Za)(sp_need_trial:Sp):(L2.St->XK)->TS :=
 jH (lG (fun W=>iW sp_need_trial [] W (aE V0 V2)))
 (lF ka)
def FR(K:Za)(sp_leaves:Sp):(L2.St->XK)->TS :=
 jH (FT (fun W=>iW sp_leaves [] W (aE V0 V1)) 2)
 (lF ka)
def HK:List Str:=["M","trial","told","rights","number","leaf","way","story","word"]
def mZ(K:Za):TS :=
 ar (bQ (jI (aV (aq iL (aq (bg K) V0 (tC (.int 0))) (tC (.str "tell")))) (aV (aq iL (cS (cK K) (au V0)) (tC (.int 4))))) (aR (aq qS (bW (au (aq (bg K) V0 (tC (.int 2))))) (cD 1 [] (uE K (aq (bg K) V0 (tC (.int 3)))) U0 (d6) (aq (bg K) V0 (tC (.int 1)))))) (ba))
 (ar (bQ (jI (aV (aq iL (aq (bg K) V0 (tC (.int 0))) (tC (.str "wait")))) (aV (aq iL (cS (cK K) (au V0)) (tC (.int 3))))) (aR (aq qS (cD 1 [] (uE K (aq (bg K) V0 (tC (.int 1)))) U0 (d6) (aq (bg K) V0 (tC (.int 1)))) (bW (au (aq (bg K) V0 (tC (.int 2))))))) (ba))
 (aR (bW (aU))))
def m_:List Str:=["trial"]
def xV(K:Za)(sp_law_inner:Sp)(sp_law_size:Sp):TS :=
 aR (aq cN (tC (.int 1)) (cS (JA K) (au (cD 1 [] (eh K (aw sp_law_inner (au V0))) U0 (d6) (aw sp_law_size (au V0))))))
def zm:List Str:=["trial"]
def xW(K:Za)(sp_law_inner:Sp)(sp_law_deep:Sp):TS :=
 aR (aq cN (tC (.int 1)) (cS (JD K) (aj (aq qS (bW (au (tC (.int 0)))) (cD 1 [] (eh K (aw sp_law_inner (au V0))) U0 (d6) (aw sp_law_deep (au V0)))) aU)))
def zo:List Str:=["trial"]
def si(K:Za):TS :=
 ar (bQ (jI (aV (aq iL (aq (bg K) V1 (tC (.int 0))) (tC (.str "tell")))) (aV (aq iL (cS (cK K) (au V1)) (tC (.int 4))))) (aR (iX (aq (EL K false) (aq (bg K) V1 (tC (.int 1))) (aq (bg K) V0 (tC (.int 0)))) (aq (k6 K) (cD 1 [] (uE K (aq (bg K) V1 (tC (.int 3)))) U0 (d6) (aq (bg K) V0 (tC (.int 0)))) (aq (bg K) V0 (tC (.int 1)))))) (ba))
 (ar (bQ (jI (aV (aq iL (aq (bg K) V1 (tC (.int 0))) (tC (.str "wait")))) (aV (aq iL (cS (cK K) (au V1)) (tC (.int 3))))) (aR (aq (k6 K) (cD 1 [] (uE K (aq (bg K) V1 (tC (.int 1)))) U0 (d6) (aq (bg K) V0 (tC (.int 0)))) (aq (bg K) V0 (tC (.int 1))))) (ba))
 (aR (Bu (aq (k6 K) V1 (aW (au (tC (.str "end"))))) (aq (k6 K) V1 (aW (au (tC (.str "blame"))))))))
def sD:List Str:=["told","trial"]
def u8(K:Za)(sp_law_inner:Sp)(sp_law_wrong:Sp)(sp_law_good_here:Sp):TS :=
 ar (aO (bW (aU)) U3)
 (ar (bQ (qN (tB (aw sp_law_good_here (aE V0 V1)))) (d_ (Er K "list" gj V3 (au V2))) (ba))
 (ar (fe (pL K (au (aw sp_law_inner (au V1)))) (jR K 2 (bM U4 (bM U5 (jC)))) (aO (aq qS V3 (aw sp_law_wrong (cq V0 V5 (aq (Ap K) V2 (aW (au V4)))))) U3))
 (aR V3)))
def vy:List Str:=["told","trial","way","found","k","part"]
def z5(K:Za)(sp_law_wrong:Sp)(sp_law_size:Sp)(sp_law_deep:Sp):TS :=
 ar (bQ (Bv (aV (aq Ao (aw sp_law_deep (au V1)) (tC (.int 8)))) (aV (aq Ao (aw sp_law_size (au V1)) (tC (.int 1000))))) (aR (aW (aU))) (ba))
 (ar (aO (aw sp_law_wrong (cq V0 V1 (aW (aU)))) U2)
 (ar (bQ (aV (aq (k6 K) V2 (bW (aU)))) (aR (tC .non)) (ba))
 (aR (cS (JC K) (au V2)))))
def Be:List Str:=["told","trial","some"]
def xX(K:Za)(sp_law_take:Sp)(sp_law_pairs:Sp):TS :=
 ar (aO (aw sp_law_pairs (aj (aq (bg K) V1 (tC (.int 1))) (aj (cD 1 [] (eh K (aq (bg K) V1 (tC (.int 1)))) U0 (d6) (aW (au (tC (.str "end"))))) aU))) U3)
 (ar (aO (aw sp_law_take (aE V0 (tC (.int 9)))) U4)
 (ar (bQ (jI (aV (aq yB V4 (tC (.int 3)))) (aV (aq Ao (cS (cK K) (au V2)) (tC (.int 1))))) (ar (aO (aq (bF K) (bW (aE (aq (bg K) V2 (Ju (rU fun i=>.int (-i)) (tC (.int 1)))) (aq (bg K) V2 (tC (.int 1))))) (cS Lk (au (aq iL (aq (bg K) V2 (tC (.int 0))) (tC (.str "wait")))))) U3)
 (aO (aq (bF K) (bW (aj (sI (mM K) V3 (dX (tC (.int 1))) (cg)) (aj (FU K V3) (aj (aq (m7 K) V3 (sI (mM K) V3 (cg) (dX (tC (.int 1))))) aU)))) V4) U3)) (ba))
 (ar (bQ (aV (aq iL V4 (tC (.int 3)))) (ar (aO (aw sp_law_take (aE V0 (cS (cK K) (au V3)))) U5)
 (aO (aq (m7 K) (aq (m7 K) (sI (mM K) V3 (cg) (dX V5)) (aW (aj (aW (aj (aq (bF K) (bW (cq (aq (bF K) (aq (bg K) V1 (tC (.int 0))) (tC (.int 0))) (tC (.str "q")) (tC (.str "Q")))) (aw sp_law_take (aE V0 (tC (.int 3))))) (au (aW (au (tC (.str "blame"))))))) aU))) (sI (mM K) V3 (dX (aq cN V5 (tC (.int 1)))) (cg))) U3)) (ba))
 (ar (bQ (aV (aq yB V4 (tC (.int 6)))) (ar (bQ (aV (aq iL (aw sp_law_take (aE V0 (tC (.int 2)))) (tC (.int 0)))) (aR (aW (cq (tC (.str "wait")) V3 V2))) (ba))
 (aR (aW (aj (tC (.str "tell")) (aj (aq (bF K) (aq (bg K) V1 (tC (.int 0))) (aw sp_law_take (aj V0 (aj (cS (cK K) (au (aq (bg K) V1 (tC (.int 0))))) aU)))) (aE V2 V3)))))) (ba))
 (ar (bQ (aV (aq yB V4 (tC (.int 8)))) (aR (aW (aj (tC (.str "tell")) (aj (aq (bF K) (bW (cq (aq (bF K) (aq (bg K) V1 (tC (.int 1))) (tC (.int 0))) (tC (.str "q")) (tC (.str "tell")))) (aw sp_law_take (aE V0 (tC (.int 3))))) (aE V2 V3))))) (ba))
 (aR (aW (aj (aq (bF K) (bW (aj (tC (.str "stop")) (aj (tC (.str "tell")) (cq (tC (.str "wait")) (tC (.str "ends")) (tC (.str "")))))) (aw sp_law_take (aE V0 (tC (.int 5))))) aU))))))))
def zz:List Str:=["pen","told","trial","pairs","way","at"]
def t9(K:Za)(sp_law_pairs:Sp)(sp_law_spoilt:Sp)(sp_law_take:Sp)(sp_law_bent:Sp)(sp_law_inner:Sp):TS :=
 ar (aO (aw sp_law_inner (au V2)) U3)
 (ar (bQ (Bv (aV (aq (Km K) V3 (bW (aU)))) (aV (aq iL (aw sp_law_take (aE V0 (tC (.int 4)))) (tC (.int 0))))) (aR (aw sp_law_bent (cq V0 V1 V2))) (ba))
 (ar (aO (aw sp_law_take (aE V0 (cS (cK K) (au V3)))) U4)
 (ar (aO (aw sp_law_spoilt (cq V0 V1 (aq (bF K) V3 V4))) (uG V3 V4 lK))
 (ar (bQ (aV (aq iL (aq (bg K) V2 (tC (.int 0))) (tC (.str "wait")))) (ar (aO (cD 1 [] (uE K (aq (bg K) V2 (tC (.int 1)))) U0 (d6) (aq (bg K) V0 (tC (.int 0)))) U5)
 (aR (aW (cq (tC (.str "wait")) (aw sp_law_pairs (aE V5 V3)) (aq (bF K) V3 (Ju (rU fun i=>.int (-i)) (tC (.int 1)))))))) (ba))
 (aR (aW (aj (tC (.str "tell")) (aj (aq (bg K) V2 (tC (.int 1))) (aj (aq (bF K) V3 (tC (.int 0))) (aj (aw sp_law_pairs (aj (cD 1 [] (uE K (aq (bg K) V2 (tC (.int 3)))) U0 (d6) (aq (bg K) V0 (tC (.int 0)))) (au (sI (uh K) V3 (dX (tC (.int 1))) (cg))))) aU))))))))))
def uU:List Str:=["pen","told","trial","some","at","words"]
def Br(K:Za)(sp_law_pairs:Sp)(sp_law_even:Sp):TS :=
 ar (bQ (aV (aq iL V1 (tC (.int 0)))) (aR (aW (au (tC (.str "end"))))) (ba))
 (ar (aO (bW (aU)) U2)
 (ar (aO (aq m5 V1 (tC (.int 1))) U3)
 (ar (fe (gF (aj (aq cN (cS (cK K) (au (aq (bg K) V0 (tC (.int 1))))) (tC (.int 1))) aU)) U4 (ar (aO (aq uk V3 (aq m5 (aq cN (cS (cK K) (au (aq (bg K) V0 (tC (.int 1))))) (tC (.int 1))) V4)) U5)
 (ar (d_ (Er K "list" gj V2 (au (aw sp_law_even (aE V0 V5)))))
 (aO (aq m5 V3 V5) U3))))
 (aR (aW (aj (tC (.str "wait")) (aj (aw sp_law_pairs (aE (aq (bg K) V0 (tC (.int 1))) V2)) (au (aq (bF K) V2 (Ju (rU fun i=>.int (-i)) (tC (.int 1))))))))))))
def CD:List Str:=["told","many","some","left","k","part"]
def zZ(K:Za)(sp_law_take:Sp)(sp_law_pairs:Sp)(sp_law_even:Sp):TS :=
 ar (aO (aW (au (tC (.str "end")))) U2)
 (ar (aO (aw sp_law_take (aE V0 (tC (.int 3)))) U3)
 (ar (bQ (aV (aq iL V3 (tC (.int 2)))) (aR (aw sp_law_even (aj V1 (aj (aq m5 (aq cN (aq uk (tC (.int 999)) (aq cN (cS (cK K) (au (aq (bg K) V1 (tC (.int 1))))) (tC (.int 1)))) (aw sp_law_take (aE V0 (tC (.int 3))))) (tC (.int 1))) aU)))) (ba))
 (ar (bQ (aV (aq iL V3 (tC (.int 0)))) (ar (fe (gF (aj (aq cN (tC (.int 6)) (aw sp_law_take (aE V0 (tC (.int 4))))) aU)) U4 (aO (aW (aj (tC (.str "wait")) (aj (aw sp_law_pairs (aj (aq (bg K) V1 (tC (.int 1))) (aj (cD 1 [] (eh K (aq (bg K) V1 (tC (.int 1)))) U0 (d6) (aW (au (tC (.str "end"))))) aU))) (au V2)))) U2))
 (aR V2)) (ba))
 (ar (fe (gF (aj (aq m5 (aq (bF K) (bW (aj (tC (.int 9)) (cq (tC (.int 6)) (tC (.int 5)) (tC (.int 5))))) (aq m5 (cS (cK K) (au (aq (bg K) V1 (tC (.int 1))))) (tC (.int 1)))) (aw sp_law_take (aE V0 (tC (.int 2))))) aU)) U4 (aO (aW (aj (tC (.str "wait")) (aj (aw sp_law_pairs (aj (aq (bg K) V1 (tC (.int 1))) (aj (cD 1 [2] (eh K (aq (bg K) V1 (tC (.int 1)))) U0 (d6) V1) aU))) (au V2)))) U2))
 (aR V2)))))
def Bb:List Str:=["pen","told","trial","way","turn"]
def u9(K:Za)(sp_need_trial:Sp)(sp_leaves:Sp)(sp_blames:Sp)(sp_number_of:Sp)(sp_unfair:Sp)(C_NoTrial:Addr)(C_TrialError:Addr)(C_TooWide:Addr)(C_NoWord:Addr)(C_NoText:Addr)(C_NoTaker:Addr)(C_NoSign:Addr)(C_NoRight:Addr)(C_NoNumber:Addr)(C_NoMatch:Addr)(C_NoMachine:Addr)(C_NoJoin:Addr)(C_NoDepth:Addr):TS :=
 ar (aO (tC (.str "none")) U4)
 (ar (Lc (Bx (aV (aq iL V2 (tC (.int 0)))) (lG (fun W=>iW sp_need_trial [] W (aE V0 V1))) (Bx (aV (aq iL V2 (tC (.int 1)))) (lG (fun W=>iW sp_leaves [] W (aE V0 V1))) (Bx (aV (aq iL V2 (tC (.int 2)))) (lG (fun W=>iW sp_blames [] W (cq V0 V1 V3))) (Bx (aV (aq iL V2 (tC (.int 3)))) (lG (fun W=>iW sp_number_of [] W (cq V0 (tC (.int 2)) V1))) (lG (fun W=>iW sp_unfair [] W (aE V3 V1))))))) (Kf K C_NoTrial 5 (ar (aO (cS (An K) (aj V5 (aj (aW (aj (tC (.ref C_NoDepth)) (aj (tC (.ref C_NoJoin)) (aj (tC (.ref C_NoMachine)) (aj (tC (.ref C_NoMatch)) (cq (tC (.ref C_NoNumber)) (tC (.ref C_NoRight)) (tC (.ref C_NoSign)))))))) aU))) U6)
 (ar (aO (Bu V6 (cS (An K) (aj V5 (aj (aW (aj (tC (.ref C_NoTaker)) (cq (tC (.ref C_NoText)) (tC (.ref C_NoWord)) (tC (.ref C_TooWide))))) aU)))) U6)
 (aO (aW (aj (FS K V5 "way") (aj (iX (cS (Gv K) (aE V5 (tC (.ref C_TrialError)))) (iX (cS (Gv K) (aE V5 (tC (.ty "ValueError")))) (C5 V6))) aU))) U4))) (Ke)))
 (aR V4))
def vz:List Str:=["model","trial","kind","taker","found","e","others"]
def z0(K:Za)(sp_law_take:Sp)(sp_law_pairs:Sp):TS :=
 ar (aO (aq (bF K) (bW (aE (aW (au (tC (.str "end")))) (aW (au (tC (.str "blame")))))) (aw sp_law_take (aE V0 (tC (.int 2))))) U3)
 (ar (aO (aq (bF K) (aq (bg K) V1 (tC (.int 0))) (aw sp_law_take (aj V0 (aj (cS (cK K) (au (aq (bg K) V1 (tC (.int 0))))) aU)))) U4)
 (ar (aO (aw sp_law_take (aE V0 (tC (.int 4)))) U5)
 (ar (fe (gF (aj (aq m5 (aq (bF K) (bW (aE (tC (.int 3000)) (tC (.int 40)))) V2) (aw sp_law_take (aE V0 (tC (.int 9))))) aU)) U6 (ar (aO (cD 1 [2,3] (gF (aj (aq cN (cS (cK K) (au (aq (bg K) V1 (tC (.int 1))))) (tC (.int 1))) aU)) U0 (d6) (aq (bF K) (bW (aE (aW (au (tC (.str "end")))) V2)) V1)) U7)
 (ar (aO V3 (uG V7 (aq jL (aq uk V5 (tC (.int 2))) (cS (cK K) (au (aq (bg K) V1 (tC (.int 1)))))) lK))
 (bQ (aV (aq iL (aq iz V5 (tC (.int 2))) (tC (.int 0)))) (aO (aW (aj (tC (.str "wait")) (aj (aw sp_law_pairs (aE (aq (bg K) V1 (tC (.int 1))) V7)) (au (aq (bF K) V7 (Ju (rU fun i=>.int (-i)) (tC (.int 1)))))))) U3) (aO (aW (aj (tC (.str "tell")) (aj V4 (aj (aq (bF K) V7 (tC (.int 0))) (aj (aw sp_law_pairs (aE (aq (bg K) V1 (tC (.int 1))) (sI (uh K) V7 (dX (tC (.int 1))) (cg)))) aU))))) U3)))))
 (aR V3))))
def Bc:List Str:=["pen","told","tall","trial","ask","way","turn","some"]
def oU(K:Za)(sp_law_take:Sp)(sp_law_same:Sp)(sp_law_refused:Sp)(sp_law_far:Sp)(C_Machine:Addr)(sp_Machine_init:Sp):TS :=
 ar (aO (cD 1 [] (eh K (aq (bg K) V1 (tC (.int 0)))) U0 (d6) (aW (cq (tC (.str "r")) (aW (aE (tC (.str "ask")) V0)) (tC (.str "r"))))) U3)
 (ar (aO (C6 C_Machine sp_Machine_init [] E0 (aj (cS (eF K) (au (aq (bg K) V1 (tC (.int 0))))) (aj (cS (eF K) (au (aq (bg K) V1 (tC (.int 1))))) (aE (bW (au (tC (.str "r")))) V3)))) U4)
 (ar (fe (gF (au (tC (.int 2)))) U5 (ar (aO (aw sp_law_far (cq V0 V1 V5)) U6)
 (fe (eh K (bW (aj (tC (.int 0)) (aj (aq cN (tC (.int 1)) (aw sp_law_take (aE V0 (tC (.int 4))))) aU)))) U7 (bQ (qN (tB (aw sp_law_same (aj (aw sp_law_refused (aj V2 (cq V6 V7 V4))) (au (aW (aE (aW (aU)) (tC (.bl true))))))))) (aR (tC (.bl false))) (ba)))))
 (aR (tC (.bl true)))))
def pX:List Str:=["pen","told","model","doors","taker","tall","trial","kind"]
def Ip(K:Za)(sp_law_far_refused:Sp)(sp_need_trial:Sp)(sp_law_same:Sp)(sp_law_refused:Sp)(sp_law_due:Sp)(sp_law_take:Sp)(sp_law_great:Sp)(sp_law_spoilt:Sp)(sp_law_trial:Sp)(sp_law_machine:Sp)(sp_law_model:Sp)(sp_law_open:Sp):TS :=
 ar (aO (aw sp_law_open (au V0)) U1)
 (ar (aO (aw sp_law_take (aE V1 (tC (.int 4)))) U2)
 (ar (fe (gF (au (tC (.int 4)))) U3 (ar (aO (aw sp_law_model (cq V1 (tC (.int 6)) (tC (.int 1)))) U4)
 (ar (aO (aw sp_law_machine (au V4)) U5)
 (ar (aO (aw sp_law_trial (aj V1 (cq V4 (tC (.int 4)) (bW (au (tC (.int 15))))))) U6)
 (ar (fe (gF (aj (aq (bF K) (bW (aj (tC (.int 1)) (aj (tC (.int 1)) (aj (tC (.int 2)) (cq (tC (.int 0)) (tC (.int 1)) (tC (.int 2))))))) (aw sp_law_take (aE V1 (tC (.int 6))))) aU)) U7 (aO (aw sp_law_spoilt (cq V1 V4 V6)) U6))
 (ar (bQ (aV (aq iL (aw sp_law_take (aE V1 (tC (.int 4)))) (tC (.int 0)))) (aO (aw sp_law_great (aE V1 V4)) U6) (ba))
 (ar (aO (aw sp_law_due (aE V4 V6)) U8)
 (ar (fe (gF (au (tC (.int 2)))) U9 (ar (aO (aw sp_law_refused (aj V5 (cq V6 V9 V5))) Mb)
 (bQ (Bv (jI (tB (Bw V8)) (aV (aq Lj Jj (tC (.str "none"))))) (jI (tB (vP V8)) (qN (tB (aw sp_law_same (aj Jj (au (aW (aE V8 (tC (.bl true))))))))))) (aR (tC (.bl false))) (ba))))
 (ar (bQ (jI (tB (Bw V8)) (tB (vP (aw sp_need_trial (aE V5 V6))))) (aR (tC (.bl false))) (ba))
 (bQ (jI (aV (aq iL V3 V2)) (qN (tB (aw sp_law_far_refused (cq V1 V4 V5))))) (aR (tC (.bl false))) (ba)))))))))))
 (aR (tC (.bl true)))))
def DX:List Str:=["script","pen","far","turn","told","model","trial","again","due","kind","found"]
def GB:List Str:=["script"]
def oS(K:Za)(sp_law_same:Sp):TS :=
 ar (bQ (tB (Bw V1)) (aR (Bw V0)) (ba))
 (ar (bQ (tB (cS (ui K) (aE V1 (tC (.ty "bool"))))) (aR (iX (cS (ui K) (aE V0 (tC (.ty "bool")))) (aq iL V0 V1))) (ba))
 (ar (bQ (tB (cS (ui K) (aE V1 (tC (.ty "str"))))) (aR (iX (cS (ui K) (aE V0 (tC (.ty "str")))) (aq (k6 K) V0 V1))) (ba))
 (ar (bQ (tB (cS (ui K) (aE V1 (tC (.ty "int"))))) (aR (iX (cS (ui K) (aE V0 (tC (.ty "int")))) (iX (C5 (cS (ui K) (aE V0 (tC (.ty "bool"))))) (aq (k6 K) V0 V1)))) (ba))
 (ar (bQ (jI (tB (cS (ui K) (aE V1 (tC (.ty "tuple"))))) (qN (tB (cS (ui K) (aE V0 (tC (.ty "tuple"))))))) (aR (tC (.bl false))) (ba))
 (ar (bQ (Bv (jI (tB (cS (ui K) (aE V1 (tC (.ty "list"))))) (qN (tB (cS (ui K) (aE V0 (tC (.ty "list"))))))) (aV (aq Lj (cS (cK K) (au V0)) (cS (cK K) (au V1))))) (aR (tC (.bl false))) (ba))
 (aR (cS (Kn K) (aj (cD 2 [] (Hd K (aE V0 V1)) (jR K 2 (bM U0 (bM U1 (jC)))) (d6) (aw sp_law_same (aE V0 V1))) aU))))))))
def pW:List Str:=["found","due"]
theorem XX.upk{K:Za}{e:Str->Option Value}{x:Str}{C a:Addr}(h:XX K e x C a)(g:XO K a dA):mS K (.ref C) (.ref a)=some true:=by
 unfold mS;split
 ·rfl
 ·rw[h.o.kitC g,f8,f8,kC,kC];simp
def Le:Gt->List (Sg×DT)
 |.nd a ws ps=>(gm ws a).zip (Gt.dts ps)
 |_=>[]
def Gt.ok:Gt->Prop
 |.nd _ ws ps=>ps.length=ws.length+1/\ws.length<=8
 |_=>True
theorem Gt.wf.ok:∀{t:Gt},t.wf->t.ok
 |.lf _,_=>trivial
 |.nd _ _ _,h=>⟨h.1,h.2.1⟩
inductive ko(K:Za)(vs:List V)(H:Hp)(Q:VK)(E:XK):Prop
 |mk (v:V) (T:Gt):(vs=[v])->(bx K H (T.dt) v)->(T.ok)->(∀(l:Addr) (qs:Ze) (H':Hp),H' l=some (.lst (qs.map V.ref))->lU K H' qs (Le T)->ac H H'->Q (.ref l) H')->ko K vs H Q E
theorem BP{K:Za}{s:Addr}(hh:∀H,bE K H s (n6.map V.str)){vs:List V}{H:Hp}{Q:VK}{E:XK}(h:ko K vs H Q E):tZ K (kr K 3 "wait") (iD K) s (kr K 4 "tell") (bq Q) (start uR vs) H:=by
 obtain⟨v,T,rfl,q,ok,k⟩:=h;cases T with
 |lf w =>
  refine⟨_,rfl,v,w,[],rfl,q,_,rfl,?_⟩;refine aZ ⟨_,rfl,v,w,[],rfl,q,_,rfl,?_⟩;refine aZ ⟨(by show 0<=ai;decide),fun l N=>k l [] _ aa .nil (ac.new N)⟩
 |nd a t O =>
  have ok:O.length=t.length+1/\t.length<=8:=ok;have z4:=ok.2;have zd:(Gt.dts O).length=t.length+1:=by rw[Gt.dts_map,ao,ok.1]
  have q:bx K H (cW t a (Gt.dts O)) v:=q;have k:∀(l:Addr) (qs:Ze) (H':Hp),H' l=some (.lst (qs.map V.ref))->lU K H' qs ((gm t a).zip (Gt.dts O))->ac H H'->Q (.ref l) H':=k;generalize Gt.dts O=g at zd q k;cases a with
  |some a =>
   obtain⟨d0,i⟩:∃d,g[0]?=some d:=⟨_,bI (by omega)⟩;rw[fR i]at q;have ec:g=d0::g.drop 1:=by
    cases g with
    |nil=>cases i
    |cons x r=>injection i with i;rw[i];rfl
   refine⟨_,rfl,v,"tell",_,rfl,q,_,rfl,?_⟩;obtain⟨b,xs,rfl,L,x0,ab,rfl,e0,x1,al,rfl,e1,f,U,rfl,e2,x3,an,rfl,e3,B⟩:=q;have B:an=[]:=B;subst B;cases e0;cases e1;refine br ?_;refine⟨_,rfl,b,_,1,.str a,rfl,rfl,aH.sq L,aM (j:=1) rfl,(by show 2<=ai;decide),fun o as=>?_⟩;have C:ac H (upd H o (.tup [.str "ask",.str a])):=ac.new as;have Y:upd H o (.tup [.str "ask",.str a]) o=some (.tup ((iB a).map V.str)):=aa;generalize upd H o (.tup [.str "ask",.str a])=m at C Y ⊢;refine⟨_,rfl,b,_,2,f,rfl,rfl,aH.sq (aH.kt (ac.kt C) L),aM (j:=2) rfl,(by show 2<=ai;decide),fun e D=>⟨(by show 1<=ai;decide),fun p u=>?_⟩⟩;have S2:ac m (upd m e (.tup [.ref o,f])):=ac.new D;have G:upd m e (.tup [.ref o,f]) e=some (.tup [.ref o,f]):=aa
   change upd m e (.tup [.ref o,f]) p=none at u
   have S3:ac (upd m e (.tup [.ref o,f])) (upd (upd m e (.tup [.ref o,f])) p (.lst [.ref e])):=ac.new u;have y:upd (upd m e (.tup [.ref o,f])) p (.lst [.ref e]) p=some (.lst [.ref e]):=aa;have z:=S3 _ _ G;have n:=S2.trans S3;generalize upd (upd m e (.tup [.ref o,f])) p (.lst [.ref e])=H3 at n y z ⊢;have A:=C.trans n;refine⟨_,rfl,b,_,3,x3,rfl,rfl,aH.sq (aH.kt (ac.kt A) L),aM (j:=3) rfl,x3,t,g.drop 1,rfl,bx.kt (ac.kt A) _ _ e3,by rw[cA];omega,by omega,fun l2 qs H4 h4 hq S4=>?_⟩;have zq:qs.length<=8:=by rw[Paired.length hq,lc,ao];omega
   refine⟨p,l2,_,_,rfl,rfl,S4 _ _ y,h4,by rw[ao];exact df (ax (by show 1+_<=1000;omega)),fun l N=>?_⟩;have M:ac H4 (upd H4 l (.lst ([V.ref e]++qs.map V.ref))):=ac.new N;refine k l (e::qs) _ aa ?_ ((A.trans S4).trans M);rw[ec];have I:=S4.trans M;exact .cons ⟨o,f,I _ _ z,.inl (I _ _ (n _ _ Y)),bx.kt (ac.kt (A.trans I)) _ _ e2⟩ (lU.kt (ac.kt M) hq)
  |none =>
   obtain⟨d0,i⟩:∃d,g[t.length]?=some d:=⟨_,bI (by omega)⟩;rw[fS i]at q;have ec:g=g.take t.length++[d0]:=by rw[<-take_snoc i,<-zd,cv]
   refine⟨_,rfl,v,"wait",_,rfl,q,_,rfl,?_⟩;refine aZ ⟨_,rfl,v,"wait",_,rfl,q,_,rfl,?_⟩;obtain⟨b,xs,rfl,L,x0,ab,rfl,e0,x1,al,rfl,e1,f,U,rfl,e2,B⟩:=q;have B:U=[]:=B;subst B;cases e0;refine br ?_;refine⟨_,rfl,b,_,1,x1,rfl,rfl,aH.sq L,aM (j:=1) rfl,x1,t,g.take t.length,rfl,e1,by rw[aK];omega,by omega,fun l2 qs m h1 hq C=>?_⟩;have zq:qs.length<=8:=by rw[Paired.length hq,lc,ao];omega
   refine⟨_,rfl,b,_,2,f,rfl,rfl,aH.sq (aH.kt (ac.kt C) L),aM (j:=2) rfl,(by show 2<=ai;decide),fun e D=>⟨(by show 1<=ai;decide),fun p u=>?_⟩⟩;have S2:ac m (upd m e (.tup [.ref s,f])):=ac.new D;have G:upd m e (.tup [.ref s,f]) e=some (.tup [.ref s,f]):=aa
   change upd m e (.tup [.ref s,f]) p=none at u
   have S3:ac (upd m e (.tup [.ref s,f])) (upd (upd m e (.tup [.ref s,f])) p (.lst [.ref e])):=ac.new u;have y:upd (upd m e (.tup [.ref s,f])) p (.lst [.ref e]) p=some (.lst [.ref e]):=aa;have z:=S3 _ _ G;have n:=S2.trans S3;generalize upd (upd m e (.tup [.ref s,f])) p (.lst [.ref e])=H3 at n y z ⊢;refine⟨l2,p,_,_,rfl,rfl,n _ _ h1,y,by rw[ao];exact df (ax (by show _+1<=1000;omega)),fun l N=>?_⟩;have M:ac H3 (upd H3 l (.lst (qs.map V.ref++[.ref e]))):=ac.new N;have J:=n.trans M;refine k l (qs++[e]) _ (by rw[aa,aQ];rfl) ?_ (C.trans J);rw[ec];show lU K _ _ ((t.map rJ++[n6]).zip _);rw[List.zip_append (by rw[ao,aK];omega)];exact eE (lU.kt (ac.kt J) hq) ⟨s,f,M _ _ z,Ij hh _,bx.kt (ac.kt (C.trans J)) _ _ e2⟩
def lY(K:Za)(J:Hp)(q:Addr)(e:Eg):Prop:=∃(wr st:Addr) (v:V),J q=some (.tup [.ref wr,.ref st,v])/\J wr=some (.tup (fH e.way))/\zb K J st e.story/\bx K J (e.tr.dt) v
theorem lY.same{K:Za}{J a:Hp}{q:Addr}{e:Eg}(S:ac J a)(h:lY K J q e):lY K a q e:=by
 obtain⟨f,st,v,g,i,⟨j,k,l⟩,m⟩:=h;exact⟨f,st,v,S _ _ g,S _ _ i,⟨j,S _ _ k,Paired.mapP l fun _ _ r=>aH.kt (ac.kt S) r⟩,bx.kt (ac.kt S) _ _ m⟩
theorem wb{w:List Nat}{s:List Sg}:∀{ps:List Gt}{sgs:List Sg}{i j:Nat}{p:Gt}{sg:Sg},ps[j]?=some p->sgs[j]?=some sg->(m9 w s sgs i ps)[j]?=some ⟨w++[i+j],s++[sg],p⟩
 |[],_,_,_,_,_,h,_=>by cases h
 |p0::ps,[],_,_,_,_,_,h=>by cases h
 |p0::ps,sg0::sgs,i,0,p,sg,a,e=>by
  injection a with a;injection e with e;rw[<-a,<-e];rfl
 |p0::ps,sg0::sgs,i,j+1,p,sg,a,e=>by
  have:=wb (w:=w) (s:=s) (i:=i+1) (ps:=ps) (sgs:=sgs) (j:=j) (p:=p) (sg:=sg) a e;rw[show i+(j+1)=i+1+j by omega];exact this
theorem wa{w:List Nat}{s:List Sg}:∀{e:List Gt}{a:List Sg}{i:Nat},(m9 w s a i e).length=e.length
 |[],_,_=>rfl
 |p0::e,a,i=>by
  show(m9 w s (a.drop 1) (i+1) e).length+1=e.length+1;rw[wa]
theorem AB{e:Eg}(h:e.tr.ok):(nX e).length=(Le e.tr).length:=by
 obtain⟨w,s,t⟩:=e;cases t with
 |lf w=>rfl
 |nd a f g =>
  have h:g.length=f.length+1:=h.1;show(m9 w s (gm f a) 0 g).length=((gm f a).zip (Gt.dts g)).length;rw[wa,lc,qV,Gt.dts_map,ao];omega
theorem G_{e:Eg}{i:Nat}{x:Sg×DT}(h:e.tr.ok)(hx:(Le e.tr)[i]?=some x):∃p:Gt,(nX e)[i]?=some ⟨e.way++[i],e.story++[x.1],p⟩/\p.dt=x.2:=by
 obtain⟨w,s,t⟩:=e;cases t with
 |lf w=>cases hx
 |nd a f g =>
  have h:g.length=f.length+1:=h.1;have hx:((gm f a).zip (Gt.dts g))[i]?=some x:=hx;rw[List.getElem?_zip_eq_some]at hx;obtain⟨k,j⟩:=hx;rw[Gt.dts_map,dj]at j;obtain⟨p,l,m⟩:=ib.1 j;refine⟨p,?_,m⟩;have:=wb (w:=w) (s:=s) (i:=0) l k;rw[Nat.zero_add]at this;exact this
inductive mf(K:Za)(vs:List V)(H:Hp)(Q:VK)(E:XK):Prop
 |mk (wr st:Addr) (v:V) (e:Eg):(vs=[.ref wr,.ref st,v])->(H wr=some (.tup (fH e.way)))->(zb K H st e.story)->(bx K H (e.tr.dt) v)->(e.tr.ok)->(e.way.length<=900)->(e.story.length<=900) ->
  (∀(l:Addr) (qs:Ze) (H':Hp),H' l=some (.lst (qs.map V.ref))->H l=none->(∀J,HJ H l H' J->Paired (lY K J) qs (nX e))->ac H H'->Q (.ref l) H')->mf K vs H Q E
theorem EA{K:Za}{vs:List V}{H:Hp}{Q:VK}{E:XK}(h:mf K vs H Q E):t4 K (ko K) (bq Q) (start uS vs) H:=by
 obtain⟨wr,st,v,e,rfl,hw,⟨I,aT,M⟩,hv,ok,zw,zs,k⟩:=h;refine⟨(by show 0<=ai;decide),fun g m=>?_⟩;have S1:ac H (upd H g (.lst [])):=ac.new m;have b1:upd H g (.lst []) g=some (.lst []):=aa;generalize upd H g (.lst [])=H1 at S1 b1 ⊢;refine⟨_,rfl,v,e.tr,rfl,bx.kt (ac.kt S1) _ _ hv,ok,fun sl sq H2 f N S2=>⟨sl,rfl,⟨_,aF.of f⟩,?_⟩⟩;have B:=S1.trans S2;have b2:=S2 _ _ b1;have aX:sl≠g∨sq=[]:=by
  by_cases c:sl=g
  ·right
   rw[c,b2]at f;injection f with f;injection f with f;exact sX.1 f.symm
  ·exact .inl c
 have kl:=AB  (e:=e) ok;have ql:=Paired.length N;have q5:(Le e.tr).length<=9:=by
  generalize e.tr=T at ok;cases T with
  |lf w=>exact cp _
  |nd a J2 ps=>show((gm J2 a).zip _).length<=9;rw[lc,qV];have z:J2.length<=8:=ok.2;omega
 let a0:Nat->L2.St->Hp->Prop:=fun i σ H'=>NE5 fun(qs:Ze) (x4 x5 x6 x7:Option V)=>K0 (σ=[some (.ref wr),some (.ref st),some v,some (.ref g),x4,x5,x6,x7]) (H' g=some (.lst (qs.map V.ref))) (qs.length=i) ((∀b o,H2 b=some o->b≠g->H' b=some o)) (∀J,HJ H g H' J->Paired (lY K J) qs ((nX e).take i))
 refine i4 (xs:=sq.map V.ref) a0
  ⟨[],_,_,_,_,rfl,b2,rfl,fun _ _ q _=>q,fun J _=>.nil⟩ (fun i σ H' hi ⟨qs,_,_,_,_,_,A,O,ex,_⟩=>?_) ?_ ?_
 ·rcases aX with n|n
  ·exact aF.of (ex _ _ f n)
  ·rw[n]at hi f ⊢;by_cases c:sl=g
   ·have:qs=[]:=by cases qs with|nil=>rfl|cons a r=>exact absurd hi (by rw[<-O];show ¬_<=0;simp)
    rw[this]at A;rw[c];exact aF.of A
   ·exact aF.of (ex _ _ f c)
 ·rintro i x σ t p hi ⟨qs,x4,x5,x6,x7,rfl,A,O,ex,hk⟩ hp;obtain⟨q,hq,rfl⟩:=hJ hi;obtain⟨y,hy,s,pv,a4,hs,a5⟩:=Paired.getL N hq;obtain⟨T,hT,eT⟩:=G_ ok hy;have il:i<(Le e.tr).length:=(cV.1 hy).1;have nb:∀{b xs},H2 b=some (.tup xs)->t b=some (.tup xs):=fun{b xs} q=>ex _ _ q fun z=>by rw[z,b2]at q;cases q
  have S4:ac t (upd t p (.tup [.int (i:Nat),.ref q])):=ac.new hp;have p4:upd t p (.tup [.int (i:Nat),.ref q]) p=some (.tup [.int (i:Nat),.ref q]):=aa;generalize upd t p (.tup [.int (i:Nat),.ref q])=H4 at S4 p4 ⊢;refine⟨p,_,rfl,bE.of p4,rfl,_,_,rfl,_,_,rfl,rfl,?_⟩;refine⟨_,rfl,q,_,rfl,bE.of (S4 _ _ (nb a4)),rfl,_,_,rfl,_,_,rfl,rfl,?_⟩;refine⟨_,rfl,.inl ⟨rfl,_,aF.of (S4 _ _ A)⟩,_,rfl,_,rfl,(by show 1<=ai;decide),fun t1 a6=>?_⟩;have S5:ac H4 (upd H4 t1 (.tup [.int (i:Nat)])):=ac.new a6;have t5:upd H4 t1 (.tup [.int (i:Nat)]) t1=some (.tup [.int (i:Nat)]):=aa;generalize upd H4 t1 (.tup [.int (i:Nat)])=H5 at S5 t5 ⊢;have U:=S4.trans S5;have C:∀{b o},H b=some o->t b=some o:=fun{b o} q=>ex _ _ (B _ _ q) (ah q m);refine DP (U _ _ (C hw)) t5 (by omega) fun Y H6 a7 S6=>?_;have a8:=U.trans S6;refine⟨_,rfl,_,rfl,(by show 1<=ai;decide),fun l1 a9=>?_⟩;have S7:ac H6 (upd H6 l1 (.lst [.ref s])):=ac.new a9;have ab:upd H6 l1 (.lst [.ref s]) l1=some (.lst [.ref s]):=aa;generalize upd H6 l1 (.lst [.ref s])=H7 at S7 ab ⊢;have u:=a8.trans S7;have gl:I.length=e.story.length:=Paired.length M;refine⟨st,l1,_,_,rfl,rfl,u _ _ (C aT),ab,by rw[ao];exact df (ax (by show _+1<=1000;omega)),fun j D=>?_⟩;have S8:ac H7 (upd H7 j (.lst (I.map V.ref++[.ref s]))):=ac.new D;have al:upd H7 j (.lst (I.map V.ref++[.ref s])) j=some (.lst ((I++[s]).map V.ref)):=by rw[aa,aQ];rfl
  have bd:H j=none:=by
   cases c:H j with
   |none=>rfl
   |some o=>have:=u _ _ (C c);rw[D]at this;cases this
  generalize upd H7 j (.lst (I.map V.ref++[.ref s]))=H8 at S8 al ⊢;have bi:=u.trans S8;refine⟨_,rfl,(by show 3<=ai;decide),fun L bm=>?_⟩;have S9:ac H8 (upd H8 L (.tup [.ref Y,.ref j,pv])):=ac.new bm;have an:upd H8 L (.tup [.ref Y,.ref j,pv]) L=some (.tup [.ref Y,.ref j,pv]):=aa;generalize upd H8 L (.tup [.ref Y,.ref j,pv])=H9 at S9 an ⊢;have l:=bi.trans S9;have as:=l _ _ A;have aC:j≠g:=fun z=>by have:=u _ _ A;rw[<-z,D]at this;cases this
  have bn:gB H9 (upd H9 g (.lst (qs.map V.ref++[.ref L]))):=fo as;refine⟨g,_,_,rfl,rfl,as,by rw[ao,O];exact ax (by omega),qs++[L],_,_,_,_,rfl,by rw[aa,aQ];rfl,by rw[aP,O];rfl,fun b o q n=>?_,fun J nj=>?_⟩
  ·rw[am n];exact l _ _ (ex _ _ q n)
  ·have kj:gB H9 J:=fun b xs q=>nj.2 _ _ (bn _ _ q);have bG:HJ H g t J:=⟨fun b o q n1 n2=>nj.1 b o (by rw[am n2];exact l _ _ q) n1 n2,fun b xs q=>kj _ _ (ac.kt l _ _ q)⟩;rw[take_snoc hT];refine eE (hk J bG) ?_;have G:gB H2 J:=fun b xs q=>kj _ _ (ac.kt l _ _ (nb q));refine⟨Y,j,pv,kj _ _ an,kj _ _ (S9 _ _ (S8 _ _ (S7 _ _ a7))),⟨I++[s],nj.1 j _ (by rw[am aC];exact S9 _ _ al) bd aC,?_⟩,?_⟩
   ·exact eE (Paired.mapP M fun _ _ r=>aH.kt (fun b xs q=>G _ _ (ac.kt B _ _ q)) r) (aH.kt G hs)
   ·show bx K J (T.dt) pv;rw[eT];exact bx.kt G _ _ a5
 ·rintro σ t ⟨qs,x4,x5,x6,x7,rfl,A,O,ex,hk⟩;rw[ao,ql,<-kl,cv]at hk;exact⟨_,rfl,k g qs t A m hk fun b o q=>ex _ _ (B _ _ q) (ah q m)⟩
theorem EgAts.same{K:Za}{J a:Hp}{qs:Ze}{L:List Eg}(S:ac J a)(h:Paired (lY K J) qs L):Paired (lY K a) qs L:=Paired.mapP h fun _ _ r=>r.same S
theorem wx:∀L:List Eg,L.length<=(L.flatMap uo).length
 |[]=>ay _
 |e::r=>by
  rw[List.flatMap_cons,aP,dD];have:=GC e;have:=wx  r;omega
theorem rR{w:List Nat}{s:List Sg}(h:s.length<=w.length):∀{f:List Gt}{a:List Sg}{i:Nat},∀e∈m9 w s a i f,e.story.length<=e.way.length
 |[],_,_,e,he=>by cases he
 |p::f,a,i,e,he=>by
  rcases cz.1 he with rfl|he
  ·show(s++a.take 1).length<=(w++[i]).length;rw[aP,aP,aK];have:([i]:List Nat).length=1:=rfl;omega
  ·exact rR h e he
theorem Ca{e:Eg}(h:e.story.length<=e.way.length):∀k∈nX e,k.story.length<=k.way.length:=by
 obtain⟨w,s,t⟩:=e;cases t with
 |lf w=>intro k f;cases f
 |nd a g i=>exact rR h
theorem vR{n:Nat}(h:n<=1100):n<ai:=xx h (by rw[vD];decide)
theorem v_{w:List Nat}{s:List Sg}:∀{f:List Gt}{a:List Sg}{i:Nat},∀e∈m9 w s a i f,e.way.length=w.length+1
 |[],_,_,e,he=>by cases he
 |p::f,a,i,e,he=>by
  rcases cz.1 he with rfl|he
  ·show(w++[i]).length=_;rw[aP];rfl
  ·exact v_ e he
theorem G9{e:Eg}:∀k∈nX e,k.way.length=e.way.length+1:=by
 obtain⟨w,s,t⟩:=e;cases t with
 |lf v=>intro k f;cases f
 |nd a g h=>exact v_
def pV(Cn:Addr)(way:List Nat)(H H':Hp)(e:Addr):Prop:=ac H H'/\∃d wr,H' e=some (.ext (ip e Cn (some d)))/\H' d=some (.ext (jl d [("way",.ref wr)]))/\H' wr=some (.tup (fH way))
theorem pV.from{Cn:Addr}{a:List Nat}{f H g:Hp}{e:Addr}(S:ac f H)(h:pV Cn a H g e):pV Cn a f g e:=⟨S.trans h.1,h.2⟩
theorem Db{Cn:Addr}{W:L2.St->XK}{σ:L2.St}{H:Hp}{f:Addr}{way:List Nat}(h:H f=some (.tup (fH way)))(k:∀e g,pV Cn way H g e->W σ (.ref Cn) (some e) g):
  ([V.ref f].length<=ai/\∀e,H e=none->kf Cn "way" (.ref e::[V.ref f]) (upd H e (.ext (eG e Cn none))) (fun v g=>v=.non/\∃i,g e=some (.ext (eG e Cn i))/\W σ (.ref Cn) (some e) (upd g e (.ext (ip e Cn i)))) E0):=by
 refine⟨(by show 1<=ai;decide),fun e j=>⟨e,_,rfl,aa,fun d g l m n kp=>⟨rfl,some d,l,k e _ ⟨fun b o q=>?_,d,f,aa,by rw[am n];exact m,?_⟩⟩⟩⟩
 ·have a:b≠e:=ah q j;rw[am a];exact kp b o (by rw[am a];exact q) a
 ·have a:f≠e:=ah h j;rw[am a];exact kp f _ (by rw[am a];exact h) a
theorem EJ{Cn:Addr}{W:L2.St->XK}{D:gC}{σ:L2.St}{H:Hp}{i1:Nat}{f:Addr}{a:List Nat}(h:σ[i1]?=some (some (.ref f)))(i:H f=some (.tup (fH a)))(k:∀e g,pV Cn a H g e->W σ (.ref Cn) (some e) g):
  j_ Cn (kf Cn "way") (au (mG i1)) W D σ H:=⟨_,h,Db i k⟩
theorem BZ{Cn:Addr}{W:L2.St->XK}{D:gC}{σ:L2.St}{H:Hp}(k:∀e a,pV Cn [] H a e->W σ (.ref Cn) (some e) a):
  j_ Cn (kf Cn "way") (au (aW (aU))) W D σ H:=⟨(by show 0<=ai;decide),fun g f=>Db (way:=[]) aa fun e a X=>k e a (X.from (ac.new f))⟩
inductive o8(K:Za)(Cn:Addr)(vs:List V)(H:Hp)(Q:VK)(E:XK):Prop
 |mk (v:V) (T:Gt):(vs=[v])->(bx K H T.dt v)->(T.wf) ->
  (T.hgt<8->T.sz<=1000->∀(l:Addr) (qs:Ze) (H':Hp),H' l=some (.lst (qs.map V.ref))->H l=none->Paired (lY K (hidL H H')) qs (fL [] [] T)->(∀e∈fL [] [] T,e.tr.wf)->ac H H'->Q (.ref l) H') ->
  ((8<=T.hgt∨1000<T.sz)->∀x H',pV Cn [] H H' x->E (.ref Cn) (some x) H')->o8 K Cn vs H Q E
theorem Gh{K:Za}{Cn:Addr}{vs:List V}{H:Hp}{Q:VK}{E:XK}(h:o8 K Cn vs H Q E):xR K Cn (kf Cn "way") (mf K) (fun _=>E) (bq Q) (start AV vs) H:=by
 obtain⟨v,T,rfl,hv,wf,k,kx⟩:=h;have K_:∀e∈fL [] [] T,e.way.length<=T.hgt:=fun e he=>by
  have:=(pC (P:=fun _=>True) (fun _ _ _ _=>trivial) T [] [] wf (fun _ _=>trivial) (ay _) e he).1;have z:([]:List Nat).length=0:=rfl;omega
 have bL:=sP T [] [];refine⟨(by show 0<=ai;decide),fun g a8=>?_⟩;have S1:ac H (upd H g (.lst [])):=ac.new a8;have f1:upd H g (.lst []) g=some (.lst []):=aa;generalize upd H g (.lst [])=H1 at S1 f1 ⊢;refine⟨(by show 0<=ai;decide),fun L cm=>?_⟩;have S2:ac H1 (upd H1 L (.tup [])):=ac.new cm;have w2:upd H1 L (.tup []) L=some (.tup (fH [])):=aa;generalize upd H1 L (.tup [])=H2 at S2 w2 ⊢;refine⟨(by show 0<=ai;decide),fun st a9=>?_⟩;have S3:ac H2 (upd H2 st (.lst [])):=ac.new a9;have s3:upd H2 st (.lst []) st=some (.lst (([]:Ze).map V.ref)):=aa;generalize upd H2 st (.lst [])=H3 at S3 s3 ⊢;refine⟨_,rfl,(by show 3<=ai;decide),fun J cn=>⟨(by show 1<=ai;decide),fun f N=>?_⟩⟩;have S4:ac H3 (upd H3 J (.tup [.ref L,.ref st,v])):=ac.new cn;have q4:upd H3 J (.tup [.ref L,.ref st,v]) J=some (.tup [.ref L,.ref st,v]):=aa
 change upd H3 J (.tup [.ref L,.ref st,v]) f=none at N
 have S5:ac (upd H3 J (.tup [.ref L,.ref st,v])) (upd (upd H3 J (.tup [.ref L,.ref st,v])) f (.lst [.ref J])):=ac.new N;have l5:upd (upd H3 J (.tup [.ref L,.ref st,v])) f (.lst [.ref J]) f=some (.lst (([J]:Ze).map V.ref)):=aa;have co:st≠g:=(ah (S2 _ _ f1) a9).symm;have cs:st≠f:=ah (S4 _ _ s3) N;have al:g≠f:=ah (S4 _ _ (S3 _ _ (S2 _ _ f1))) N;have bN:H f=none:=(S1.trans (S2.trans (S3.trans S4))).free N;have f5:=S5 _ _ (S4 _ _ (S3 _ _ (S2 _ _ f1)));have s5:=S5 _ _ (S4 _ _ s3);have w5:=S5 _ _ (S4 _ _ (S3 _ _ w2));have q5:=S5 _ _ q4;have an:ac H _:=S1.trans (S2.trans (S3.trans (S4.trans S5)));generalize upd (upd H3 J (.tup [.ref L,.ref st,v])) f (.lst [.ref J])=H5 at an l5 f5 s5 w5 q5 ⊢;have bP:∀{G:Hp}{xs ys:List V},ac H G->G g=some (.lst xs)->G f=some (.lst ys)->gB G (hid3 H G g f):=fun{G xs ys} S e1 e2 b zs q=>by
  show hidL H (pN G g f) b=_;rw[Dz (fun ys e=>by have:=S _ _ e;rw[q]at this;cases this),yU (fun z=>by rw[z,e1]at q;cases q) (fun z=>by rw[z,e2]at q;cases q)];exact q
 have bd:=bP an f5 l5;have ct:lY K (hid3 H H5 g f) J ⟨[],[],T⟩:=⟨L,st,v,bd _ _ q5,bd _ _ w5,⟨[],by rw[yT ((S1.trans S2).free a9) co cs];exact s5,.nil⟩,bx.kt (fun b xs q=>bd _ _ (ac.kt an _ _ q)) _ _ hv⟩;refine⟨fun m σ G=>∃(t C:Ze) (F W:List Eg) (x3 x4 x5 O:Option V),σ=[some v,some (.ref g),some (.ref f),x3,x4,x5,O]/\G g=some (.lst (t.map V.ref))/\G f=some (.lst (C.map V.ref))/\Paired (lY K (hid3 H G g f)) t F/\Paired (lY K (hid3 H G g f)) C W/\F++W.reverse.flatMap uo=fL [] [] T/\m=1001-F.length/\(∀e∈W,e.tr.wf/\e.story.length<=e.way.length/\e.way.length<=8)/\(∀e∈F,e.tr.wf/\e.way.length<8)/\ac H G/\F.length+W.length<=1000,
  ⟨_,[],[J],[],[⟨[],[],T⟩],_,_,_,_,rfl,f5,l5,.nil,.cons ct .nil,by show _++List.flatMap _ [_]=_;rw[List.nil_append,List.flatMap_singleton];rfl,rfl,fun e he=>?_,fun e he=>(by cases he),an,by show 0+1<=1000;decide⟩,?_⟩
 ·rw[eD.1 he];exact⟨wf,ay _,cp _⟩
 rintro m σ G ⟨t,C,F,W,x3,x4,x5,O,rfl,gf,gw,hF,hW,eq,em,oW,oF,SG,zt⟩;have lw:=Paired.length hW;have lf:=Paired.length hF;refine⟨_,rfl,.inl ⟨f,_,rfl,.inl (aF.of gw),_,_,rfl,rfl,_,rfl,?_⟩⟩;rw[ao];rcases List.eq_nil_or_concat W with e0|⟨I,e,e1⟩
 ·rw[e0]at lw;rw[zzr0 (by show ¬(0:Int)<(C.length:Nat);rw[lw];decide)];refine aZ ⟨_,rfl,?_⟩;rw[e0]at eq;have eq:F++[]=_:=eq;rw[eM]at eq;rw[eq]at hF oF zt;have z1:T.sz<=1000:=by rw[bL]at zt;omega
  have z2:T.hgt<8:=by
   obtain⟨e,he,hw⟩:=vZ T [] [] wf;have:=(oF e he).2;have z:([]:List Nat).length=0:=rfl;omega
  exact k z2 z1 g t G gf a8 (EgAts.same (Dy wo) hF) (fun e he=>(oF e he).1) SG
 rw[List.concat_eq_append]at e1;subst e1;rw[zzr1 (by show(0:Int)<(C.length:Nat);rw[lw,aP];show(0:Int)<((I.length+1:Nat));omega)];refine br ?_;obtain⟨q,hq,ea⟩:=Paired.get (i:=I.length) (y:=e) hW (by rw[qz (ay _),wQ];rfl);have cB:C.length=I.length+1:=by rw[lw,aP];rfl
 have bT:C=C.take I.length++[q]:=by rw[<-take_snoc hq,<-cB,cv]
 have as:Paired (lY K (hid3 H G g f)) (C.take I.length) I:=by
  have:=Paired.takeP I.length hW;rw[List.take_left' rfl]at this;exact this
 generalize C.take I.length=j at bT as;subst bT;obtain⟨oe,se,dm⟩:=oW e (dE _ (eD.2 rfl));obtain⟨u,A,v1,a1,a2,a3,a4⟩:=id ea;have bi:(I++[e]).reverse.flatMap uo=e::((nX e)++I.reverse).flatMap uo:=by
  rw[List.reverse_append];show List.flatMap _ (e::I.reverse)=_;rw[List.flatMap_cons,vX,List.flatMap_append];rfl
 rw[bi]at eq;rw[aP,show([e]:List Eg).length=1 from rfl]at zt;have cC:e∈fL [] [] T:=by rw[<-eq];exact dE _ fh
 have we:=K_ e cC;have k9:(nX e).length<=9:=by
  rw[AB oe.ok];generalize e.tr=T' at oe;cases T' with
  |lf w=>exact cp _
  |nd a ws ps=>show((gm ws a).zip _).length<=9;rw[lc,qV];have z:ws.length<=8:=oe.2.1;omega
 have dn:F.length+1+((nX e).length+I.length)<=T.sz:=by
  have h1:(F++e::((nX e)++I.reverse).flatMap uo).length=T.sz:=by rw[eq];exact bL
  have h2:=wx ((nX e)++I.reverse);rw[aP,jY]at h2;rw[aP,dD]at h1;omega
 refine⟨fun σ' B=>∃(t C:Ze) (F W:List Eg) (x3 x4 x5 O:Option V),σ'=[some v,some (.ref g),some (.ref f),x3,x4,x5,O]/\B g=some (.lst (t.map V.ref))/\B f=some (.lst (C.map V.ref))/\Paired (lY K (hid3 H B g f)) t F/\Paired (lY K (hid3 H B g f)) C W/\F++W.reverse.flatMap uo=fL [] [] T/\1001-F.length<m/\(∀e∈W,e.tr.wf/\e.story.length<=e.way.length/\e.way.length<=8)/\(∀e∈F,e.tr.wf/\e.way.length<8)/\ac H B/\F.length+W.length<=1000,?_,?_⟩
 ·rintro σ' B ⟨t,C,F,W,x3,x4,x5,O,rfl,b1,b2,b3,b4,b5,b6,b7,b8,b9⟩;exact⟨_,b6,t,C,F,W,x3,x4,x5,O,rfl,b1,b2,b3,b4,b5,rfl,b7,b8,b9⟩
 refine⟨_,rfl,.inl ⟨rfl,_,aF.of gw⟩,f,_,.ref q,rfl,rfl,gw,?_,?_⟩
 ·rw[aQ,aP,qz (by show _<=_+1-1;omega)];show[V.ref q][_+1-1-_]?=_;rw[Nat.add_sub_cancel,wQ];rfl
 have c0:((j++[q]).map V.ref).dropLast=j.map V.ref:=by
  rw[aQ];exact List.dropLast_concat
 rw[c0];have b0:g≠f:=al;have bl:upd G f (.lst (j.map V.ref)) f=some (.lst (j.map V.ref)):=aa;have aC:upd G f (.lst (j.map V.ref)) g=some (.lst (t.map V.ref)):=by rw[am al];exact gf
 have J1:hid3 H (upd G f (.lst (j.map V.ref))) g f=hid3 H G g f:=congrArg (hidL H) wm;have bm:ac H (upd G f (.lst (j.map V.ref))):=fun b o q=>by rw[am (ah q bN)];exact SG _ _ q
 generalize upd G f (.lst (j.map V.ref))=G1 at bl aC J1 bm ⊢;rw[<-J1]at hF as ea a1 a2 a3 a4;have b1:=re _ _ a1;refine⟨q,_,rfl,bE.of b1,rfl,_,_,rfl,_,_,rfl,_,_,rfl,rfl,?_⟩;refine⟨_,rfl,.inl ⟨rfl,_,aF.of aC⟩,_,rfl,_,rfl,_,rfl,(by show 3<=ai;decide),fun p hp=>?_⟩;have U:ac G1 (upd G1 p (.tup [.ref u,.ref A,v1])):=ac.new hp;have p2:upd G1 p (.tup [.ref u,.ref A,v1]) p=some (.tup [.ref u,.ref A,v1]):=aa;have c1:p≠g:=(ah aC hp).symm;have c2:p≠f:=(ah bl hp).symm;generalize upd G1 p (.tup [.ref u,.ref A,v1])=G2 at U p2 ⊢;have c3:=U _ _ aC;have c4:=U _ _ bl;refine⟨g,_,_,rfl,rfl,c3,by rw[ao,lf];exact vR (by omega),?_⟩;have aT:upd G2 g (.lst (t.map V.ref++[.ref p])) g=some (.lst ((t++[p]).map V.ref)):=by rw[aa,aQ];rfl
 have aX:upd G2 g (.lst (t.map V.ref++[.ref p])) f=some (.lst (j.map V.ref)):=by rw[am al.symm];exact c4
 have J3:hid3 H (upd G2 g (.lst (t.map V.ref++[.ref p]))) g f=hid3 H G2 g f:=congrArg (hidL H) EX;have a0:ac H (upd G2 g (.lst (t.map V.ref++[.ref p]))):=fun b o q=>by rw[am (ah q a8)];exact U _ _ (bm _ _ q)
 generalize upd G2 g (.lst (t.map V.ref++[.ref p]))=G3 at aT aX J3 a0 ⊢;have s:ac (hid3 H G1 g f) (hid3 H G3 g f):=by rw[J3];exact DA U
 have ep:lY K (hid3 H G3 g f) p e:=by
  have:=ea.same s;obtain⟨bn,h1,h2⟩:=a3;exact⟨u,A,v1,by rw[J3,yT (bm.free hp) c1 c2];exact p2,s _ _ a2,⟨bn,s _ _ h1,Paired.mapP h2 fun _ _ r=>aH.kt (ac.kt s) r⟩,bx.kt (ac.kt s) _ _ a4⟩
 have c5:=EgAts.same s hF;have c6:=EgAts.same s as;have a5:ac (hid3 H G1 g f) G3:=s.trans re;have dc:zb K G3 A e.story:=by
  obtain⟨bn,h1,h2⟩:=a3;exact⟨bn,a5 _ _ h1,Paired.mapP h2 fun _ _ r=>aH.kt (ac.kt a5) r⟩
 refine⟨_,rfl,_,rfl,_,rfl,u,A,v1,e,rfl,a5 _ _ a2,dc,bx.kt (ac.kt a5) _ _ a4,oe.ok,by omega,by omega,fun l qs G4 hl cb hk Y=>⟨l,_,rfl,aF.of hl,?_⟩⟩;have ce:=Y _ _ aT;have ch:=Y _ _ aX;have dp:l≠g:=(ah aT cb).symm;have b0:l≠f:=(ah aX cb).symm;have ab:=hk (hid3 H G4 g f) ⟨fun b o q n1 n2=>by rw[yT (a0.free n1) (fun z=>by rw[z,aT]at n1;cases n1) (fun z=>by rw[z,aX]at n1;cases n1)];exact q,bP (a0.trans Y) ce ch⟩;have a7:ac (hid3 H G3 g f) (hid3 H G4 g f):=DA Y;have lq:=Paired.length ab;have dr:=Paired.length as
 let dd:Nat->L2.St->Hp->Prop:=fun i σ' B=>∃O:Option V,σ'=[some v,some (.ref g),some (.ref f),some (.ref u),some (.ref A),some v1,O]/\B f=some (.lst ((j++qs.reverse.take i).map V.ref))/\(∀b o,G4 b=some o->b≠f->B b=some o)/\hid3 H B g f=hid3 H G4 g f
 refine Jd (xs:=qs.map V.ref) dd
  ⟨_,rfl,by rw[sZ,eM];exact ch,fun _ _ q _=>q,rfl⟩ (fun i σ' B _ zq=>by obtain⟨_,_,_,ex,_⟩:=zq;exact aF.of (ex _ _ hl b0)) ?_ ?_
 ·rintro i x σ' B hx hi ⟨O,rfl,M,a6,J'⟩;rw[ao]at hx hi;obtain⟨y,hy,rfl⟩:=hJ hx;have ci:qs.reverse[i]?=some y:=by rw[List.getElem?_reverse hi];exact hy
  refine⟨_,rfl,.inl ⟨rfl,_,aF.of M⟩,_,rfl,f,_,_,rfl,rfl,M,?_,_,rfl,?_,fun b o q n=>?_,?_⟩
  ·rw[ao,aP,aK,jY];exact vR (by omega)
  ·rw[aa,take_snoc ci,<-iR,aQ (l₂:=[y])];rfl
  ·rw[am n];exact a6 _ _ q n
  ·rw[show hid3 H _ g f=_ from congrArg (hidL H) wm];exact J'
 ·rintro σ' B ⟨O,rfl,M,a6,J'⟩;rw[ao,<-jY,cv]at M;have ck:=a6 _ _ ce al;have di:ac (hid3 H G1 g f) (hid3 H B g f):=by rw[J'];exact s.trans a7
  have dk:=re _ _ (di _ _ a2);have cl:ac H B:=fun b o q=>a6 _ _ (Y _ _ (a0 _ _ q)) (ah q bN);refine⟨_,rfl,.inl ⟨u,_,rfl,.inr (bE.of dk),rfl,_,rfl,?_⟩⟩;have ew:(fH e.way).length=e.way.length:=ao _;rw[ew];have rs:∀D:gC,(8<=T.hgt∨1000<T.sz)->(j_ Cn (kf Cn "way") (au (aW (aU)))) (fun _=>E) D [some v,some (.ref g),some (.ref f),some (.ref u),some (.ref A),some v1,O] B:=fun D c=>BZ fun x H' X'=>kx c x H' (X'.from cl);by_cases c8:e.way.length=8
  ·rw[zzr1 (by rw[c8];rfl)];exact br (br (rs _ (.inl (by omega))))
  rw[zzr0 (by intro z;injection z with z;omega)];refine aZ ⟨_,rfl,.inl ⟨g,_,rfl,.inl (aF.of ck),_,rfl,.inl ⟨f,_,rfl,.inl (aF.of M),_,_,rfl,rfl,_,_,rfl,rfl,_,rfl,?_⟩⟩⟩;rw[ao,ao,aP,aP,jY];by_cases c9:1000<t.length+1+(j.length+qs.length)
  ·rw[zzr1 (by show(1000:Int)<((t.length+1:Nat):Int)+((j.length+qs.length:Nat):Int);omega)];exact br (rs _ (.inr (by omega)))
  rw[zzr0 (by show ¬(1000:Int)<((t.length+1:Nat):Int)+((j.length+qs.length:Nat):Int);omega)];refine aZ ?_;have bG:ac (hid3 H G3 g f) (hid3 H B g f):=by rw[J'];exact a7
  refine⟨t++[p],j++qs.reverse,F++[e],I++(nX e).reverse,_,_,_,_,rfl,ck,M,eE (EgAts.same bG c5) (ep.same bG),Paired.app (EgAts.same bG c6) (Paired.rev (by rw[J'];exact ab)),?_,?_,fun x hx=>?_,fun x hx=>?_,cl,?_⟩
  ·rw[List.reverse_append,List.reverse_reverse,iR];exact eq
  ·rw[aP,show([e]:List Eg).length=1 from rfl,em];omega
  ·rcases cG.1 hx with hx|hx
   ·exact oW x (gD _ hx)
   ·exact⟨I0 oe x (wN.1 hx),Ca se x (wN.1 hx),by rw[G9 x (wN.1 hx)];omega⟩
  ·rcases cG.1 hx with hx|hx
   ·exact oF x hx
   ·rw[eD.1 hx];exact⟨oe,by omega⟩
  ·rw[aP,aP,jY,show([e]:List Eg).length=1 from rfl];omega
theorem jK{K:Za}{H:Hp}:∀a:List Str,DIns K H (a.map eN) (a.map V.str)
 |[]=>rfl
 |w::a=>⟨_,_,rfl,rfl,jK a⟩
theorem gU:∀a:List Str,DT.depths (a.map eN)=0
 |[]=>rfl
 |w::a=>by
  show max 0 (DT.depths (a.map eN))=0;rw[gU a];rfl
open Builtin.Int (intBits)
open Builtin.Int (intBits)
open Builtin.Int (intBits)
def hB:Nat->Nat
 |0=>0
 |d+1=>12+25 * hB d
open Builtin.Int (intBits)
open Builtin.Int (intBits)
theorem AE{H:Hp}{a:Addr}{o:HO}(h:H a=none):pM (upd H a o) a=H:=funext fun b=>by
 by_cases c:b=a
 ·rw[c,mw,h]
 ·rw[mx c,am c]
mutual
def Tr.sz:Tr->Nat
 |.bl=>1
 |.en=>1
 |.nd _ ps=>Tr.szs ps+1
def Tr.szs:List Tr->Nat
 |[]=>0
 |t::r=>t.sz+Tr.szs r
end
theorem DB{n:Nat}:∀{l:List Tr},(∀t∈l,t.hgt<=n)->Tr.hgts l<=n
 |[],_=>cp _
 |t::r,h=>by
  have e:=h t fh;have f:=DB fun q a=>h q (eK _ a);show max t.hgt (Tr.hgts r)<=n;omega

def nP(K:Za)(C:Addr):Sp:=fun vs H Q _=>∃(x s:Addr) (r:Str) (sg J0 J2 J4:Zb) (ds:List aJ),vs=[.ref x,.str r,.ref s]/\bt C H x J0 J2 J4 ds/\bE K H s (sg.map V.str) /\
 ∀(l:Addr) (H':Hp),H' l=some (.lst ((bJ ds (r,sg)).map V.str))->H l=none->ac H H'->Q (.ref l) H'
theorem C2{K:Za}{H:Hp}:∀xs:List Str,TKIns K H (xs.map sy) (xs.map V.str)
 |[]=>by unfold TKIns;rfl
 |x::xs=>by
  rw[cw,cw];unfold TKIns;exact⟨_,_,rfl,by unfold sy mN;rfl,C2 xs⟩
theorem BS{K:Za}{C:Addr}(M:MC K C){t:List V}{H:Hp}{Q:VK}{E:XK}(h:nP K C t H Q E):sk K (bq Q) (start sF t) H:=by
 obtain⟨x,s,r,e,Y,J2,J4,w,rfl,h,A,k⟩:=h;obtain⟨B,fs,o1,o2,o3,o4,lv,qu,u,sl,ts,D,m,I,J,a1,a2,a3,a4,b1,b2,b3,b4,b5,b6,N,b8,L,c1,c2,c3,c4,G,d1,d2,d3⟩:=h.at_;have O:=h.ok.okR.1;refine⟨_,rfl,x,C,B,fs,.ref u,rfl,J,M.cls,M.a7,N,u,rfl,.inr ⟨_,.inl G.g⟩,_,rfl,_,rfl,(by show 2<=ai;decide),fun kt j=>⟨(by show 0<=ai;decide),fun v i=>⟨d4 (eg u3 m) (u3 (r,e)),.inr ⟨_,u3 (r,e),kt,.inl (kp (kp G.g j) i),rfl,?_,qR _,rfl⟩,?_⟩⟩⟩
 ·unfold u3 mN;refine⟨kt,_,rfl,bE.of (kp aa i),?_⟩;unfold TKIns;refine⟨_,_,rfl,by unfold sy mN;rfl,?_⟩;unfold TKIns;refine⟨_,_,rfl,?_,by unfold TKIns;rfl⟩;unfold Fx mN;exact⟨s,_,rfl,bE.same ((ac.new j).trans (ac.new i)) A,C2 e⟩
 have n:ac H (upd (upd H kt (.tup [.str r,.ref s])) v (.tup [])):=(ac.new j).trans (ac.new i);by_cases f:(r,e)∈m.map (·.1)
 ·obtain⟨⟨y,a⟩,o,T⟩:=bA.mp f;obtain rfl:y=(r,e):=T;rw[fg iG G.nd o];exact .inl ⟨a,_,rfl,.inl (aF.of (n _ _ (G.ls _ o))),fun l p=>k l _ aa (n.free p) (n.trans (ac.new p))⟩
 ·rw[mq iG f];have q:bJ w (r,e)=[]:=lR fun y U z=>f (by rw[<-z];exact G.all y U);refine .inl ⟨v,[],rfl,.inr (bE.of aa),fun l p=>k l _ ?_ (n.free p) (n.trans (ac.new p))⟩;rw[q];exact aa
theorem AM{K:Za}{G:List Nat}{I:TE}{σ:L2.St}{H:Hp}{b l:Addr}{xs:List V}{h:Zb}{q:List DT}{Q:Hp->Prop}(T:aH K H b xs)(J:c7 K H xs (dg dF h q))(zl:h.length=q.length)(z:h.length<=1000)(s:H l=none)
  (W:Nat->List V->Hp->Prop) (U:∀f,ac H f->W 0 [] f) (Y:∀i a f,W i a f->a.length<=i)
  (step:∀i w d c v a g (R:VK),h[i]?=some w->q[i]?=some d->aH K g c [.str w,v]->bx K g d v->W i a g->(∀y m,ac g m->(∀L,gB m L->W (i+1) (a++[y]) L)->R y m)->I ((cL 1 G σ).set 0 (some (.ref c))) g R)
  (k:∀(a:List V) (f:Hp),f l=some (.lst a)->W h.length a f->ac H f->Q f):cP 1 G σ (HW K b) U0 d6 I H l Q:=by
 have hz:=Paired.length J;rw[wO]at hz
 let t:Nat->List V->Hp->Prop:=fun i a f=>ac H f/\f l=some (.lst a)/\W i a f
 refine uK (xs:=xs) t ⟨ac.new s,aa,U _ (ac.new s)⟩ (fun i a f _ zq=>by obtain⟨S,u,_⟩:=zq;exact⟨u,aH.sq (aH.kt (ac.kt S) T)⟩) ?_ ?_
 ·rintro a f ⟨S,u,n⟩;have e1:xs.length=h.length:=by omega
  rw[e1]at n;exact k a f u n S
 ·rintro i a g x A hi ⟨S,M,n⟩;obtain⟨d,N⟩:∃d,q[i]?=some d:=⟨_,bI (by omega)⟩;obtain⟨w,O⟩:∃w,h[i]?=some w:=⟨_,bI (by omega)⟩;obtain⟨y,r,p⟩:=Paired.getL J A;rw[List.getElem?_zipWith,O,N]at r;injection r with r;rw[<-r]at p;obtain⟨c,ab,rfl,hc,x1,al,rfl,j,x2,B,rfl,C,D⟩:=p;have D:B=[]:=D;have j:x1=.str w:=j;subst D j;refine gN (lA (step i w d c x2 a g _ O N (aH.kt (ac.kt S) hc) (bx.kt (ac.kt S) _ _ C) n fun y m E kk=>?_));have kt:gB m (upd m l (.lst (a++[y]))):=fo (E _ _ M);refine⟨E _ _ M,?_,vn hi ⟨fun b o e=>?_,aa,kk _ kt⟩⟩
  ·have:=Y i a g n;exact ax (by omega)
  ·rw[am (ah e s)];exact E _ _ (S _ _ e)
theorem AL{K:Za}{σ:L2.St}{H:Hp}{b l:Addr}{xs:List V}{ws:Zb}{ps:List DT}{Q:Hp->Prop}(m:aH K H b xs)(n:c7 K H xs (dg dF ws ps))(f:ws.length=ps.length)(z:ws.length<=1000)(o:H l=none)
  (k:∀(e:List V) (a:Hp),a l=some (.lst e)->c7 K a e ps->ac H a->Q a):cP 1 [] σ (HW K b) U0 d6 (aq (bg K) V0 (tC (.int 1))) H l Q:=by
 refine AM m n f z o (fun i e a=>c7 K a e (ps.take i)) (fun _ _=>.nil) (fun i e a h=>by rw[Paired.length h,aK];omega) (fun i w d c v e p R y q r s t u=>?_) fun e a x g S=>?_
 ·exact⟨_,rfl,c,_,1,v,rfl,rfl,aH.sq r,aM (j:=1) rfl,u v p (ac.refl _) fun A kt=>by rw[take_snoc q];exact eE (c7.kt kt t) (bx.kt kt _ _ s)⟩
 ·rw[f,cv]at g;exact k e a x g S
theorem pQ{K:Za}{σ:L2.St}{H:Hp}{b l:Addr}{xs:List V}{ws:Zb}{ps:List DT}{Q:Hp->Prop}(g:aH K H b xs)(m:c7 K H xs (dg dF ws ps))(n:ws.length=ps.length)(z:ws.length<=1000)(o:H l=none)
  (k:∀(a:Hp),a l=some (.lst (ws.map V.str))->ac H a->Q a):cP 1 [] σ (HW K b) U0 d6 (aq (bg K) V0 (tC (.int 0))) H l Q:=by
 refine AM g m n z o (fun i e a=>e=(ws.take i).map V.str) (fun _ _=>rfl) (fun i e a h=>by rw[h,ao,aK];omega) (fun i w d c v e p R q x r y s t=>?_) fun e a u f S=>?_
 ·exact⟨_,rfl,c,_,0,.str w,rfl,rfl,aH.sq r,aM (j:=0) rfl,t _ p (ac.refl _) fun A kt=>by rw[take_snoc q,aQ,s];rfl⟩
 ·rw[cv]at f;exact k a (by rw[<-f];exact u) S
theorem pI{K:Za}{H:Hp}{w:Str}{v:V}(h:bx K H (k7 [w]) v):∃b,v=.ref b/\aH K H b [.str w]:=by
 obtain⟨b,xs,rfl,g,i,a,rfl,e,f⟩:=h;have f:a=[]:=f;have e:i=V.str w:=e;subst f e;exact⟨b,rfl,g⟩
theorem oR{K:Za}{H:Hp}{l:Zb}{a:Str}{g:List DT}{v:V}(D:g.length=l.length+1)(h:bx K H (cW l (some a) g) v):∃b i j f k,v=.ref b/\aH K H b [.str "tell",.str a,i,.ref j]/\aH K H j f/\bx K H k i/\c7 K H f (dg dF l (g.drop 1))/\g=k::g.drop 1:=by
 obtain⟨k,e⟩:∃d,g[0]?=some d:=⟨_,bI (by omega)⟩;rw[fR e]at h;obtain⟨b,xs,rfl,t,u,w,rfl,m,y,z,rfl,n,i,A,rfl,B,E,o,rfl,C,p⟩:=h;have p:o=[]:=p;have m:u=V.str "tell":=m;have n:y=V.str a:=n;subst p m n;obtain⟨j,f,rfl,q,s⟩:=C;refine⟨b,i,j,f,k,rfl,t,q,B,c7.of s,?_⟩;cases g with
 |nil=>cases e
 |cons x r=>injection e with e;rw[e];rfl
theorem oQ{K:Za}{H:Hp}{e:Zb}{f:List DT}{v:V}(q:f.length=e.length+1)(h:bx K H (cW e none f) v):∃b i a j k,v=.ref b/\aH K H b [.str "wait",.ref i,j]/\aH K H i a/\bx K H k j/\c7 K H a (dg dF e (f.take e.length))/\f=f.take e.length++[k]:=by
 obtain⟨k,g⟩:∃d,f[e.length]?=some d:=⟨_,bI (by omega)⟩;rw[fS g]at h;obtain⟨b,xs,rfl,r,s,t,rfl,l,y,u,rfl,w,j,m,rfl,x,n⟩:=h;have n:m=[]:=n;have l:s=V.str "wait":=l;subst n l;obtain⟨i,a,rfl,o,p⟩:=w;exact⟨b,i,a,j,k,rfl,r,o,x,c7.of p,by rw[<-take_snoc g,<-q,cv]⟩
inductive dO(K:Za)(vs:List V)(H:Hp)(Q:VK)(E:XK):Prop
 |mk (a b:Addr) (ws:Zb) (us:List V) (ps:List DT):(vs=[.ref a,.ref b])->(H a=some (.lst (ws.map V.str)))->(H b=some (.lst us))->(c7 K H us ps)->(ws.length<=ps.length)->(ws.length<=8)->(∀(q:Addr) (xs:List V) (H':Hp),H' q=some (.tup xs)->c7 K H' xs (dg dF ws (ps.take ws.length))->ac H H'->Q (.ref q) H')->dO K vs H Q E
theorem EB{K:Za}{f:List V}{H:Hp}{Q:VK}{E:XK}(h:dO K f H Q E):zW K (bq Q) (start AZ f) H:=by
 obtain⟨a,b,B,C,Y,rfl,D,G,I,zl,z4,k⟩:=h;have zu:=Paired.length I;refine⟨_,rfl,_,rfl,a,b,rfl,.inl ⟨⟨_,aF.of D⟩,⟨_,aF.of G⟩,fun l J=>?_⟩⟩
 let u:Nat->List V->Hp->Prop:=fun i f r=>ac H r/\r l=some (.lst f)/\c7 K r f (dg dF (B.take i) (Y.take i))
 refine Fe (xs:=B.map V.str) (ys:=C) (by rw[ao];omega) u ⟨ac.new J,aa,.nil⟩ (fun i C r _ zq=>by obtain⟨S,h',_⟩:=zq;exact⟨h',aF.of (S _ _ D),aF.of (S _ _ G)⟩) ?_ ?_
 ·rintro f j ⟨S,y,m⟩;rw[ao,cv]at m;refine⟨l,f,rfl,.inl ⟨aF.of y,fun q s=>k q f _ aa (c7.kt (ac.kt (ac.new s)) m) (S.trans (ac.new s))⟩⟩
 ·rintro i f j x v p hx hv hi ⟨S,y,m⟩ z;obtain⟨w,hw,rfl⟩:=cX hx;obtain⟨d,hd,A⟩:=Paired.getL I hv;have L:ac j (upd j p (.tup [.str w,v])):=ac.new z;have M:upd j p (.tup [.str w,v]) p=some (.tup [.str w,v]):=aa;generalize upd j p (.tup [.str w,v])=t at L M ⊢;refine⟨p,_,rfl,bE.of M,rfl,_,_,rfl,_,_,rfl,rfl,lA ?_⟩;refine⟨_,rfl,_,rfl,(by show 2<=ai;decide),fun q s=>?_⟩;have N:ac t (upd t q (.tup [.str w,v])):=ac.new s;have O:upd t q (.tup [.str w,v]) q=some (.tup [.str w,v]):=aa;generalize upd t q (.tup [.str w,v])=T at N O ⊢;have g:=L.trans N;have U:=g _ _ y;have kt:gB T (upd T l (.lst (f++[.ref q]))):=fo U;have n:f.length<=1000:=by
   rw[Paired.length m,wO,aK];omega
  refine⟨U,ax n,vn hi ⟨fun b o e=>?_,aa,?_⟩⟩
  ·rw[am (ah e J)];exact g _ _ (S _ _ e)
  ·rw[take_snoc hw,take_snoc hd,List.zipWith_append (by rw[aK,aK];rw[ao]at hi;omega)];refine eE (c7.kt (fun b xs e=>kt _ _ (ac.kt g _ _ e)) m) ?_;exact⟨q,_,rfl,.inl (kt _ _ O),_,_,rfl,iC w,_,_,rfl,bx.kt (fun b xs e=>kt _ _ (ac.kt g _ _ (ac.kt S _ _ e))) _ _ A,rfl⟩
theorem FI(w:List Nat):(fH w).length=w.length:=by unfold fH;rw[ao]
open Classical in
theorem FY{J0 a:Zb}{t:Gt}:soB J0 a t=true↔t.so J0 a:=by unfold soB;exact @decide_eq_true_iff _ (Classical.propDecidable _)
theorem kB{a e:Zb}{t:Gt}{b:Bool}(h:t.so a e↔b=true):soB a e t=b:=by rw[vE,FY];exact h
inductive jh(K:Za)(C:Addr)(vs:List V)(H:Hp)(Q:VK)(E:XK):Prop
 |mk (M:Addr) (v:V) (ws:Zb) (ps:List DT) (J0 J2 J4:Zb) (ds:List aJ):(vs=[.ref M,v])->(bt C H M J0 J2 J4 ds)->(bx K H (.t (dg dF ws ps)) v)->(ws.length=ps.length)->(ws.length<=8)->(∀H',ac H H'->Q (.bl (decide (ws=J2))) H')->jh K C vs H Q E
theorem Al{K:Za}{C:Addr}{G:List V}{H:Hp}{Q:VK}{E:XK}(h:jh K C G H Q E):mF K C (o9 C) (bq Q) (start mQ G) H:=by
 obtain⟨M,v,a,O,T,g,U,Y,rfl,I,⟨b,xs,rfl,J,hx⟩,zl,z4,k⟩:=h;have L:=c7.of hx;have hl:=Paired.length L;rw[wO]at hl;refine⟨_,rfl,b,rfl,⟨_,aH.sq J⟩,fun l j=>?_⟩
 let t:Nat->List V->Hp->Prop:=fun i m u=>m=(a.take i).map V.str/\ac H u/\u l=some (.lst m)
 refine uK (xs:=xs) t ⟨rfl,ac.new j,aa⟩ (fun i m u _ zq=>by obtain⟨_,S,h'⟩:=zq;exact⟨h',aH.sq (aH.kt (ac.kt S) J)⟩) ?_ ?_
 ·rintro m z ⟨rfl,S,p⟩;have e1:xs.length=a.length:=by omega
  rw[e1,cv]at p;obtain⟨dm,fm,o1,o2,lv,ab,g1,a1,a2,_⟩:=yo (I.same S);refine⟨_,rfl,M,dm,fm,rfl,g1,a2,M,T,g,U,Y,rfl,I.same S,fun w q=>?_⟩;have N:ac z (upd z w (.lst (g.map V.str))):=ac.new q;refine⟨.s (a.map eN),.s (g.map eN),⟨l,_,rfl,aF.of (N _ _ p),jK a⟩,⟨w,_,rfl,aF.of aa,jK g⟩,?_,?_,?_⟩
  ·show DT.depths _+1<=8;rw[gU];decide
  ·show DT.depths _+1<=8;rw[gU];decide
  ·rw[decide_eq_decide.mpr (show DT.s (a.map eN)=DT.s (g.map eN)↔a=g from⟨fun h=>dY (by injection h),fun h=>by rw[h]⟩)];exact k _ (S.trans N)
 ·rintro i m z x A hi ⟨rfl,S,p⟩;obtain⟨d,hd⟩:∃d,O[i]?=some d:=⟨_,bI (by omega)⟩;obtain⟨w,q⟩:∃w,a[i]?=some w:=⟨_,bI (by omega)⟩;obtain⟨y,r,n⟩:=Paired.getL L A;rw[List.getElem?_zipWith,q,hd]at r;injection r with r;rw[<-r]at n;obtain⟨c,al,rfl,hc,x1,an,rfl,f,x2,B,rfl,as,D⟩:=n;have D:B=[]:=D;subst D;have f:x1=V.str w:=f;subst f;refine⟨c,_,rfl,aH.sq (aH.kt (ac.kt S) hc),rfl,_,_,rfl,_,_,rfl,rfl,lA ?_⟩;refine⟨_,rfl,p,?_,vn hi ⟨by rw[take_snoc q,aQ];rfl,fun b o e=>?_,aa⟩⟩
  ·rw[ao,aK];exact ax (by omega)
  ·rw[am (ah e j)];exact S _ _ e
inductive pd(K:Za)(C:Addr)(vs:List V)(H:Hp)(Q:VK)(E:XK):Prop
 |mk (M:Addr) (v:V) (T:Gt) (J0 J2 J4:Zb) (ds:List aJ):(vs=[.ref M,v])->(bt C H M J0 J2 J4 ds)->(bx K H T.dt v)->(T.ok)->(∀H',ac H H'->Q (.bl (soB J0 J2 T)) H')->pd K C vs H Q E
theorem Gn{K:Za}{C U Y:Addr}(hb:∀H,bE K H U (cJ.map V.str))(he:∀H,bE K H Y (cu.map V.str)){vs:List V}{H:Hp}{Q:VK}{E:XK}(h:pd K C vs H Q E):oX K U Y (kr K 3 "wait") (jh K C) (kr K 4 "tell") C (mj C) (bq Q) (start pY vs) H:=by
 obtain⟨M,v,T,g,p,B,D,rfl,u,f,ok,k⟩:=h;cases T with
 |lf w =>
  refine⟨_,rfl,v,w,[],rfl,f,_,rfl,?_⟩;refine aZ ⟨_,rfl,v,w,[],rfl,f,_,rfl,?_⟩;have f:bx K H (k7 [w]) v:=f;refine aZ ⟨_,rfl,k7 [w],k7 cu,bx.dIn _ _ f,i5 (he H),by rw[fE];decide,by rw[fE];decide,_,rfl,?_⟩;rw[sT];by_cases c:w="end"
  ·rw[zzr1 (by rw[c];rfl)];have:=k H (ac.refl _);rw[kB (t:=.lf w) (b:=true) ⟨fun _=>rfl,fun _=>Or.inl c⟩]at this;exact br this
  rw[zzr0 (fun z=>c (by injection z))];refine aZ ⟨_,rfl,k7 [w],k7 cJ,bx.dIn _ _ f,i5 (hb H),by rw[fE];decide,by rw[fE];decide,?_⟩;have:=k H (ac.refl _);rw[kB (t:=.lf w) (b:=decide ([w]=cJ)) ⟨fun z=>zzr1 (by rcases(show w="end"∨w="blame" from z)with z|z;exact absurd z c;rw[z];rfl),fun z=>Or.inr (by have:=of_decide_eq_true z;injection this)⟩]at this;rw[sT];exact this
 |nd a i m =>
  obtain⟨ok,z4⟩:=(show m.length=i.length+1/\i.length<=8 from ok);have zd:(Gt.dts m).length=i.length+1:=by rw[Gt.dts_map,ao,ok]
  have f:bx K H (cW i a (Gt.dts m)) v:=f;generalize Gt.dts m=l at zd f;cases a with
  |some a =>
   obtain⟨d0,n⟩:∃d,l[0]?=some d:=⟨_,bI (by omega)⟩;rw[fR n]at f;refine⟨_,rfl,v,"tell",_,rfl,f,_,rfl,?_⟩;obtain⟨b,xs,rfl,x,x0,G,rfl,e0,A,I,rfl,q,x2,r,rfl,e2,x3,J,rfl,e3,o⟩:=f;have o:J=[]:=o;subst o;have q:A=V.str a:=q;subst q;refine br ?_;obtain⟨dm,fm,o1,o2,lv,ab,g1,a1,a2,_⟩:=yo u;refine⟨_,rfl,b,_,1,.str a,rfl,rfl,aH.sq x,aM (j:=1) rfl,_,rfl,M,dm,fm,rfl,g1,a1,M,g,p,B,D,rfl,u,fun w hw=>?_⟩;have s:ac H (upd H w (.lst (g.map V.str))):=ac.new hw;refine⟨eN a,g.map eN,w,_,rfl,rfl,.inl (aF.of aa),jK g,cp _,by rw[gU];decide,_,rfl,?_⟩;have hm:eN a∈g.map eN↔a∈g:=⟨fun z=>by obtain⟨y,hy,e⟩:=bA.1 z;rw[<-List.singleton_inj.1 (dY (show[y].map eN=[a].map eN by show[eN y]=[eN a];rw[e]))];exact hy,fun z=>qa z⟩;by_cases c:a∈g
   ·have L:(if false=true then !decide (eN a∈g.map eN)else decide (eN a∈g.map eN))=true:=zzr1 (hm.2 c)
    rw[L];refine br ⟨_,rfl,_,rfl,b,_,3,x3,rfl,rfl,aH.sq (aH.kt (ac.kt s) x),aM (j:=3) rfl,M,x3,i,l.drop 1,g,p,B,D,rfl,u.same s,bx.kt (ac.kt s) _ _ e3,by rw[cA];omega,z4,fun N O=>?_⟩;have:=k N (s.trans O);rw[kB (t:=.nd _ i m) (b:=decide (i=p)) ⟨fun z=>zzr1 z.2,fun z=>⟨fun w e=>by cases e;exact c,of_decide_eq_true z⟩⟩]at this;exact this
   ·have L:(if false=true then !decide (eN a∈g.map eN)else decide (eN a∈g.map eN))=false:=zzr0 (fun z=>c (hm.1 z))
    rw[L];have:=k _ s;rw[kB (t:=.nd _ i m) (b:=false) ⟨fun z=>absurd (z.1 a rfl) c,fun z=>by cases z⟩]at this;exact aZ this
  |none =>
   obtain⟨d0,n⟩:∃d,l[i.length]?=some d:=⟨_,bI (by omega)⟩;rw[fS n]at f;refine⟨_,rfl,v,"wait",_,rfl,f,_,rfl,?_⟩;refine aZ ⟨_,rfl,v,"wait",_,rfl,f,_,rfl,?_⟩;obtain⟨b,xs,rfl,x,x0,G,rfl,e0,A,I,rfl,q,x2,r,rfl,e2,o⟩:=f;have o:r=[]:=o;subst o;refine br ⟨_,rfl,_,rfl,b,_,1,A,rfl,rfl,aH.sq x,aM (j:=1) rfl,M,A,i,l.take i.length,g,p,B,D,rfl,u,q,by rw[aK];omega,z4,fun N O=>?_⟩;have:=k N O;rw[kB (t:=.nd _ i m) (b:=decide (i=p)) ⟨fun z=>zzr1 z.2,fun z=>⟨fun w e=>(by cases e),of_decide_eq_true z⟩⟩]at this;exact this
def badE(J0 J2:Zb)(L:List Eg):Option Eg:=L.find? fun e=>!soB J0 J2 e.tr
open Classical in
def refW(J0 J2:Zb)(T:Gt):Option (List Nat):=if 8<=T.hgt∨1000<T.sz then some []else(badE J0 J2 (fL [] [] T)).map fun e=>e.way
theorem Eu{a e:Zb}{T:Gt}(h:refW a e T=none):T.hgt<8/\T.sz<=1000/\badE a e (fL [] [] T)=none:=by
 unfold refW at h;split at h
 ·cases h
 ·rename_i c;exact⟨by omega,by omega,Option.map_eq_none_iff.1 h⟩
theorem Ah{a e:Zb}{T:Gt}(h:8<=T.hgt∨1000<T.sz):refW a e T=some []:=by unfold refW;rw[if_pos h]
theorem Ai{a f:Zb}{T:Gt}{e:Eg}(g:T.hgt<8)(i:T.sz<=1000)(h:badE a f (fL [] [] T)=some e):refW a f T=some e.way:=by unfold refW;rw[if_neg (by omega),h];rfl
theorem vT{J0 J2:Zb}{T:Gt}(a:T.hgt<8)(e:T.sz<=1000)(h:badE J0 J2 (fL [] [] T)=none):refW J0 J2 T=none:=by unfold refW;rw[if_neg (by omega),h];rfl
inductive g9(K:Za)(C Cn:Addr)(vs:List V)(H:Hp)(Q:VK)(E:XK):Prop
 |mk (M:Addr) (v:V) (T:Gt) (J0 J2 J4:Zb) (ds:List aJ):(vs=[.ref M,v])->(bt C H M J0 J2 J4 ds)->(bx K H T.dt v)->(T.wf) ->
  (refW J0 J2 T=none->∀(l:Addr) (qs:Ze) (H':Hp),H' l=some (.lst (qs.map V.ref))->Paired (lY K H') qs (fL [] [] T)->ac H H'->Q (.ref l) H') ->
  (∀w,refW J0 J2 T=some w->∀x H',pV Cn w H H' x->E (.ref Cn) (some x) H')->g9 K C Cn vs H Q E
theorem IL{T:Gt}(wf:T.wf):∀e∈fL [] [] T,e.tr.wf:=fun e a=>(pC (P:=fun _=>True) (fun _ _ _ _=>trivial) T [] [] wf (fun _ _=>trivial) (ay _) e a).2.2.2
theorem Am{K:Za}{C Cn:Addr}{A:List V}{H:Hp}{Q:VK}{E:XK}(h:g9 K C Cn A H Q E):lE K (pd K C) Cn (kf Cn "way") (o8 K Cn) (fun _=>E) (bq Q) (start mR A) H:=by
 obtain⟨M,v,T,J0,J2,U,Y,rfl,MA,hv,wf,k,B⟩:=h;refine⟨_,rfl,v,T,rfl,hv,wf,fun D G l qs I p ab g j r=>?_,fun c x m X'=>B [] (Ah c) x m X'⟩;have n:Paired (lY K I) qs (fL [] [] T):=EgAts.same wk g;have J:∀e,badE J0 J2 (fL [] [] T)=some e->refW J0 J2 T=some e.way:=fun e o=>Ai D G o;have N:=vT (J0:=J0) (J2:=J2) D G;generalize fL [] [] T=L at n j J N k;refine⟨_,rfl,l,rfl,⟨_,aF.of p⟩,?_⟩
 let s:Nat->L2.St->Hp->Prop:=fun i σ m=>Jp fun(t u w:Option V)=>NA3 (σ=[some (.ref M),some v,some (.ref l),t,u,w]) (ac I m) (badE J0 J2 L=badE J0 J2 (L.drop i))
 refine fz (xs:=qs.map V.ref) s ⟨_,_,_,rfl,ac.refl _,rfl⟩ (fun i σ m _ zq=>by obtain⟨_,_,_,_,S,_⟩:=zq;exact aF.of (S _ _ p)) ?_ ?_
 ·rintro i x σ O hi ⟨t,u,w,rfl,f,a⟩;obtain⟨q,g,rfl⟩:=hJ hi;obtain⟨e,o,y⟩:=Paired.getL n g;obtain⟨wr,st,v1,a1,a2,a3,a4⟩:=y.same f;have ed:L.drop i=e::L.drop (i+1):=by
   obtain⟨h1,h2⟩:=cV.1 o;rw[xf h1,h2]
  rw[ed]at a;unfold badE at a;rw[nq]at a;refine⟨q,_,rfl,bE.of a1,rfl,_,_,rfl,_,_,rfl,_,_,rfl,rfl,?_⟩;refine⟨_,rfl,_,rfl,M,v1,e.tr,J0,J2,U,Y,rfl,MA.same (r.trans f),a4,(j e (dw o)).ok,fun H3 z=>⟨_,rfl,?_⟩⟩;cases c:soB J0 J2 e.tr with
  |true =>
   rw[c]at a;exact aZ ⟨_,_,_,rfl,f.trans z,a⟩
  |false =>
   rw[c]at a;exact br (EJ (i1:=3) rfl (z _ _ a2) fun x H4 X4=>B _ (J e a) x H4 (X4.from ((r.trans f).trans z)))
 ·rintro σ O ⟨t,u,w,rfl,f,a⟩;rw[ao,Paired.length n,wR]at a;exact⟨_,rfl,k (N a) l qs O (f _ _ p) (EgAts.same f n) (r.trans f)⟩
inductive eU(K:Za)(C Cn:Addr)(vs:List V)(H:Hp)(Q:VK)(E:XK):Prop
 |mk (M:Addr) (v:V) (T:Gt) (J0 J2 J4:Zb) (ds:List aJ):(vs=[.ref M,v])->(bt C H M J0 J2 J4 ds)->(bx K H T.dt v)->(T.wf) ->
  (refW J0 J2 T=none->∀H',ac H H'->Q .non H')->(∀w,refW J0 J2 T=some w->∀x H',pV Cn w H H' x->E (.ref Cn) (some x) H')->eU K C Cn vs H Q E
theorem BR{K:Za}{C Cn:Addr}{a:List V}{H:Hp}{Q:VK}{E:XK}(h:eU K C Cn a H Q E):u5 K (g9 K C Cn) (fun _=>E) (bq Q) (start zg a) H:=by
 obtain⟨M,v,T,e,f,g,i,rfl,j,m,wf,k,n⟩:=h;exact⟨_,rfl,_,rfl,M,v,T,e,f,g,i,rfl,j,m,wf,fun o l qs p _ _ S=>k o p S,n⟩
inductive gQ(K:Za)(C Cn:Addr)(vs:List V)(H:Hp)(Q:VK)(E:XK):Prop
 |mk (M:Addr) (v:V) (T:Gt) (J0 J2 J4:Zb) (ds:List aJ):(vs=[.ref M,v])->(bt C H M J0 J2 J4 ds)->(bx K H T.dt v)->(T.wf) ->
  (refW J0 J2 T=none->∀u H',ac H H'->Q u H')->(∀w,refW J0 J2 T=some w->∀x H',pV Cn w H H' x->E (.ref Cn) (some x) H')->gQ K C Cn vs H Q E
theorem KH{K:Za}{H:Hp}{T:Gt}{v:V}(ok:T.ok)(h:bx K H T.dt v):∃b xs,v=.ref b/\aH K H b xs/\((∃w,xs=[.str w])∨xs.length=3∨xs.length=4):=by
 cases T with
 |lf w =>
  obtain⟨b,e,i⟩:=pI (w:=w) h;exact⟨b,_,e,i,.inl ⟨w,rfl⟩⟩
 |nd a l m =>
  have ok:m.length=l.length+1:=ok.1;have q:(Gt.dts m).length=l.length+1:=by rw[Gt.dts_map,ao,ok]
  have h:bx K H (cW l a (Gt.dts m)) v:=h;generalize Gt.dts m=j at q h;cases a with
  |none =>
   obtain⟨r,f⟩:∃d,j[l.length]?=some d:=⟨_,bI (by omega)⟩;rw[fS f]at h;obtain⟨b,xs,rfl,i,s,n,rfl,t,u,o,rfl,x,y,k,rfl,z,g⟩:=h;have g:k=[]:=g;subst g;exact⟨b,_,rfl,i,.inr (.inl rfl)⟩
  |some a =>
   obtain⟨r,f⟩:∃d,j[0]?=some d:=⟨_,bI (by omega)⟩;rw[fR f]at h;obtain⟨b,xs,rfl,i,s,n,rfl,t,u,o,rfl,x,y,k,rfl,z,A,p,rfl,B,g⟩:=h;have g:p=[]:=g;subst g;exact⟨b,_,rfl,i,.inr (.inr rfl)⟩
theorem BU{K:Za}{C Cn:Addr}{n:List V}{H:Hp}{Q:VK}{E:XK}(h:gQ K C Cn n H Q E):Ef K (g9 K C Cn) (fun _=>E) (bq Q) (start HL n) H:=by
 obtain⟨M,v,T,J,N,O,U,rfl,Y,hv,wf,k,kx⟩:=h;refine⟨_,rfl,_,rfl,M,v,T,J,N,O,U,rfl,Y,hv,wf,fun y cl qs H1 a A S1=>⟨cl,rfl,⟨_,aF.of a⟩,fun l B=>?_⟩,kx⟩;have k:=k y;have zp:(fL [] [] T).length<=1000:=by rw[sP];exact(Eu y).2.1
 have D:=IL wf;generalize fL [] [] T=L at zp A D
 let p:Nat->List V->Hp->Prop:=fun i m r=>ac H1 r/\r l=some (.lst m)/\m.length<=i
 refine eA (xs:=qs.map V.ref) p ⟨ac.new B,aa,ay _⟩ (fun i n r _ zq=>by obtain⟨S,h',_⟩:=zq;exact⟨h',aF.of (S _ _ a)⟩) ?_ ?_
 ·rintro m f ⟨S,s,_⟩;exact k _ f (S1.trans S)
 ·rintro i m f x hx hi ⟨S,s,zr⟩;obtain⟨q,hq,rfl⟩:=hJ hx;obtain⟨e,G,t⟩:=Paired.getL A hq;have i1:i<L.length:=(cV.1 G).1;obtain⟨wr,st,ab,g1,g2,g3,g4⟩:=t;refine⟨q,_,rfl,bE.of (S _ _ g1),rfl,_,_,rfl,_,_,rfl,_,_,rfl,rfl,?_⟩;obtain⟨b,xs,rfl,ht,hc⟩:=KH (D e (dw G)).ok g4;have g:aH K f b xs:=aH.kt (ac.kt S) ht;refine⟨_,rfl,.inl ⟨b,xs,rfl,.inr (aH.sq g),rfl,_,rfl,?_⟩⟩;by_cases c:∃w,xs=[.str w]
  ·obtain⟨w,rfl⟩:=c;rw[zzr1 (by rfl)];refine br ⟨_,rfl,_,rfl,_,rfl,b,_,0,_,rfl,rfl,aH.sq g,aM (j:=0) rfl,(by show 3<=ai;decide),fun q' u=>?_⟩;have I:ac f (upd f q' (.tup [.ref wr,.ref st,.str w])):=ac.new u;refine⟨I _ _ s,ax (by omega),vn hi ⟨fun b o e=>?_,aa,by rw[aP];exact Nat.succ_le_succ zr⟩⟩;rw[am (ah e B)];exact I _ _ (S _ _ e)
  ·rw[zzr0 (by intro z;injection z with z;rcases hc with hc|hc|hc;exact c hc;omega;omega)];exact aZ (vn hi ⟨S,s,by omega⟩)
inductive kA(K:Za)(C Cn:Addr)(vs:List V)(H:Hp)(Q:VK)(E:XK):Prop
 |mk (M I:Addr) (v:V) (T:Gt) (J0 J2 J4 r1:Zb) (ds d1:List aJ) (w:List Nat):(vs=[.ref M,v,.ref I])->(bt C H M J0 J2 J4 ds)->(bt C H I J0 J2 r1 d1)->(∀r∈r1,∀a∈J0,uQ d1 r a)->(bx K H T.dt v)->(T.wf)->(refW J0 J2 T=some w)->(∀x H',pV Cn w H H' x->E (.ref Cn) (some x) H')->kA K C Cn vs H Q E
theorem BX{K:Za}{C Cn:Addr}{f:List V}{H:Hp}{Q:VK}{E:XK}(h:kA K C Cn f H Q E):El K (gQ K C Cn) (gg C) (fun _=>E) (bq Q) (start HM f) H:=by
 obtain⟨M,I,v,T,g,i,j,m,k,n,w,rfl,l,o,tk,p,wf,a,q⟩:=h;refine⟨_,rfl,_,rfl,M,I,g,i,j,m,k,n,rfl,l,o,tk,fun t e=>?_⟩;exact⟨_,rfl,_,rfl,M,v,T,g,i,j,k,rfl,l.same e,bx.kt (ac.kt e) _ _ p,wf,(fun z=>by rw[a]at z;cases z),fun u z x r s=>by rw[a]at z;cases z;exact q x r (s.from e)⟩
inductive mh(K:Za)(C Cn:Addr)(vs:List V)(H:Hp)(Q:VK)(E:XK):Prop
 |mk (M:Addr) (d v:V) (T:Gt) (J0 J2 J4:Zb) (ds:List aJ) (w:List Nat):(vs=[.ref M,d,v])->(bt C H M J0 J2 J4 ds)->(bx K H T.dt v)->(T.wf)->(refW J0 J2 T=some w)->(∀x H',pV Cn w H H' x->E (.ref Cn) (some x) H')->mh K C Cn vs H Q E
theorem EC{K:Za}{C Cn:Addr}{e:List V}{H:Hp}{Q:VK}{E:XK}(h:mh K C Cn e H Q E):xS K (eU K C Cn) (fun _=>E) (bq Q) (start AW e) H:=by
 obtain⟨M,d,v,T,f,g,i,j,w,rfl,k,l,wf,a,m⟩:=h;exact⟨_,rfl,_,rfl,M,v,T,f,g,i,j,rfl,k,l,wf,(fun z=>by rw[a]at z;cases z),fun p z x n o=>by rw[a]at z;cases z;exact m x n o⟩
inductive km(K:Za)(C Cn:Addr)(vs:List V)(H:Hp)(Q:VK)(E:XK):Prop
 |mk (M:Addr) (v:V) (T:Gt) (J0 J2 J4:Zb) (ds:List aJ) (w:List Nat):(vs=[.ref M,v])->(bt C H M J0 J2 J4 ds)->(bx K H T.dt v)->(T.wf)->(refW J0 J2 T=some w)->(∀x H',pV Cn w H H' x->E (.ref Cn) (some x) H')->km K C Cn vs H Q E
theorem BO{K:Za}{C Cn:Addr}{e:List V}{H:Hp}{Q:VK}{E:XK}(h:km K C Cn e H Q E):FR K (gQ K C Cn) (fun _=>E) (bq Q) (start HK e) H:=by
 obtain⟨M,v,T,f,g,i,j,w,rfl,k,l,wf,a,m⟩:=h;exact⟨_,rfl,_,rfl,M,v,T,f,g,i,j,rfl,k,l,wf,(fun z=>by rw[a]at z;cases z),fun p z x n o=>by rw[a]at z;cases z;exact m x n o⟩
def Fw(n:Nat):DT:=.k (.inl n)
theorem zP{K:Za}{H:Hp}:∀w:List Nat,DIns K H (w.map Fw) (fH w)
 |[]=>by show DIns K H [] [];unfold DIns;rfl
 |n::w=>by
  show DIns K H (Fw n::w.map Fw) (.int n::fH w);unfold DIns;refine⟨_,_,rfl,?_,zP w⟩;unfold Fw oy
  rfl
theorem vJ:∀w:List Nat,DT.depths (w.map Fw)=0
 |[]=>rfl
 |n::w=>by
  show max (Fw n).depth (DT.depths (w.map Fw))=0;rw[vJ w];rfl
theorem yH{K:Za}{H:Hp}{f:Zb}{a:Str}{g:List DT}{q h:Addr}{i:V}{e:List V}{j:DT}(k:H q=some (.tup [.str "tell",.str a,i,.ref h]))(l:H h=some (.tup e))(m:g[0]?=some j)(n:bx K H j i)(hx:c7 K H e (dg dF f ((g.drop 1).take f.length)))(o:g.length=f.length+1):bx K H (cW f (some a) g) (.ref q):=by
 rw[fR m];rw[jr (by rw[cA];omega)]at hx;exact⟨q,_,rfl,.inl k,_,_,rfl,iC _,_,_,rfl,iC _,_,_,rfl,n,_,_,rfl,⟨h,_,rfl,.inl l,c7.all hx⟩,rfl⟩
theorem sQ{K:Za}{H:Hp}{e:Zb}{f:List DT}{q g:Addr}{h:V}{a:List V}{i:DT}(j:H q=some (.tup [.str "wait",.ref g,h]))(k:H g=some (.tup a))(l:f[e.length]?=some i)(m:bx K H i h)(hx:c7 K H a (dg dF e (f.take e.length))):bx K H (cW e none f) (.ref q):=by
 rw[fS l];exact⟨q,_,rfl,.inl j,_,_,rfl,iC _,_,_,rfl,⟨g,_,rfl,.inl k,c7.all hx⟩,_,_,rfl,m,rfl⟩
def Bg(p f:Addr)(H H':Hp):Prop:=∀b o,H b=some o->b≠p->b≠f->H' b=some o
theorem Bg.trs{p f:Addr}{H h g:Hp}(a:Bg p f H h)(b:Bg p f h g):Bg p f H g:=fun x o e i j=>b x o (a x o e i j) i j
theorem Bg.ofS{p f:Addr}{H g:Hp}(a:ac H g):Bg p f H g:=fun x o e _ _=>a x o e
theorem Bg.ofB{p f:Addr}{H g:Hp}(a:cQ p H g):Bg p f H g:=fun x o e n _=>a x o e n
theorem Bg.hid{p f:Addr}{H g:Hp}(a:Bg p f H g):cQ p (pM H f) (pM g f):=fun b o e n=>by
 by_cases c:b=f
 ·rw[c,mw]at e;cases e
 ·rw[mx c]at e ⊢;exact a b o e n c
theorem Bg.kt{p f:Addr}{H g:Hp}{xs h:List V}(a:Bg p f H g)(i:H p=some (.lst xs))(hf:H f=some (.lst h)):gB H g:=fun b j e=>a b _ e (fun z=>by rw[z,i]at e;cases e) (fun z=>by rw[z,hf]at e;cases e)
inductive fU(K:Za)(D:Nat)(vs:List V)(H:Hp)(Q:VK)(E:XK):Prop
 |mk (p c t l1 l2 l3 l4 lf:Addr) (ts:Ze) (d:Nat) (n:Int) (J0 J2 J4:Zb) (ds:List aJ):(vs=[.ref p,.ref t,.int (d:Nat),.ref lf])->(d<=D)->(dW H p c)->(lf≠p)->(lf≠c)->(gV (pM H lf) t l1 l2 l3 l4 ts J0 J2 J4 ds)->(cy J0 J2 J4 ds)->(H lf=some (.lst [.int n])) ->
  (∀(v:V) (T:Tr) (n':Int) (H':Hp),bx K H' (T.dt J2) v->T.wf J0 J2->T.hgt<=d->dW H' p c->H' lf=some (.lst [.int n'])->Bg p lf H H'->Q v H')->fU K D vs H Q E
theorem Ev{K:Za}{D:Nat}{bG:Sp}(d5:D<=4)(hR:∀m,D=m+1->bG=fU K m){vs:List V}{H:Hp}{Q:VK}{E:XK}(h:fU K D vs H Q E):zV K (dO K) bB bG (bq Q) (start AY vs) H:=by
 obtain⟨p,c,t,l1,M,l3,l4,f,ts,d,n,J0,s,J4,ds,rfl,hd,hp,n1,n2,Tt,m,bL,k⟩:=h;have z1:=m.asks4;have z2:=m.says4;have za:0<J0.length:=ng.2 m.asks0;refine⟨_,rfl,f,_,0,.int n,rfl,rfl,aF.of bL,rfl,_,_,rfl,rfl,_,rfl,f,[.int n],0,0,rfl,rfl,bL,rfl,?_⟩;have bN:dW (upd H f (.lst [.int (n-1)])) p c:=hp.upd n1.symm n2.symm;have bP:upd H f (.lst [.int (n-1)]) f=some (.lst [.int (n-1)]):=aa;have bT:Bg p f H (upd H f (.lst [.int (n-1)])):=fun b o e _ nf=>by rw[am nf];exact e
 show(ar _ _) _ _ (upd H f (.lst [.int (n-1)]));generalize upd H f (.lst [.int (n-1)])=H1 at bN bP bT ⊢;refine⟨_,rfl,p,c,6,rfl,bN,by decide,by decide,fun w N w0 w6 G a4=>?_⟩;have a5:=bT.trs (.ofB a4);have an:=a4 _ _ bP n1;have T2:gV (pM N f) t l1 M l3 l4 ts J0 s J4 ds:=Tt.ex (hp.hid2 n1.symm n2.symm) a5.hid;have g:(aR (aq (bF K) (bW (aE (aW (au (tC (.str "end")))) (aW (au (tC (.str "blame")))))) (aw bB (aE V0 (tC (.int 2)))))) (bq Q) [some (.ref p),some (.ref t),some (.int (d:Nat)),some (.ref f),some (.int w),none,none] N:=by
  refine⟨(by show 1<=ai;decide),fun y b0=>⟨(by show 1<=ai;decide),fun A a6=>⟨(by show 2<=ai;decide),fun l hl=>?_⟩⟩⟩;have S4:ac N (upd (upd (upd N y (.tup [.str "end"])) A (.tup [.str "blame"])) l (.lst [.ref y,.ref A])):=((ac.new b0).trans (ac.new a6)).trans (ac.new hl);have b1:upd (upd (upd N y (.tup [.str "end"])) A (.tup [.str "blame"])) l (.lst [.ref y,.ref A]) y=some (.tup (cu.map V.str)):=kp (kp aa a6) hl;have b2:upd (upd (upd N y (.tup [.str "end"])) A (.tup [.str "blame"])) l (.lst [.ref y,.ref A]) A=some (.tup (cJ.map V.str)):=kp aa hl;have a7:upd (upd (upd N y (.tup [.str "end"])) A (.tup [.str "blame"])) l (.lst [.ref y,.ref A]) l=some (.lst [.ref y,.ref A]):=aa;have b3:l≠p:=((G.ex ((ac.new b0).trans (ac.new a6))).nep hl).symm;show(aw bB (aE V0 (tC (.int 2)))) _ (upd (upd (upd N y (.tup [.str "end"])) A (.tup [.str "blame"])) l (.lst [.ref y,.ref A])) _;generalize upd (upd (upd N y (.tup [.str "end"])) A (.tup [.str "blame"])) l (.lst [.ref y,.ref A])=L at S4 b1 b2 a7 ⊢;have I:=G.ex S4;refine⟨_,rfl,p,c,2,rfl,I,by decide,by decide,fun r H5 r0 r2 b4 O=>?_⟩;have b5:gB L H5:=by obtain⟨xs,hx⟩:=I.lst;exact O.kt hx
  have b6:Bg p f H H5:=(a5.trs (.ofS S4)).trs (.ofB O);have b7:=O _ _ (S4 _ _ an) n1;have:r=0∨r=1:=by omega
  rcases this with rfl|rfl
  ·exact⟨l,_,0,.ref y,rfl,rfl,aF.of (O _ _ a7 b3),rfl,k _ .en _ H5 (jv (.inl (b5 _ _ b1))) trivial (cp _) b4 b7 b6⟩
  ·exact⟨l,_,1,.ref A,rfl,rfl,aF.of (O _ _ a7 b3),rfl,k _ .bl _ H5 (jv (.inl (b5 _ _ b2))) trivial (cp _) b4 b7 b6⟩
 refine⟨_,rfl,rfl,_,rfl,?_⟩
 match d,hd,k,g with
 |0,_,_,g=>exact br (br g)
 |d+1,hd,k,g =>
 rw[zzr0 (by intro z;injection z with z;omega)];refine aZ ?_;refine⟨_,rfl,f,_,0,.int (n-1),rfl,rfl,aF.of an,rfl,_,_,rfl,rfl,_,rfl,?_⟩;by_cases c1:n-1<0
 ·rw[zzr1 c1];exact br (br g)
 rw[zzr0 c1];refine aZ ?_;refine⟨_,rfl,rfl,_,rfl,?_⟩;by_cases c2:w=0
 ·rw[zzr1 (by rw[c2])];exact br g
 rw[zzr0 (fun z=>c2 (by injection z))];refine aZ ?_;clear g;obtain⟨w',rfl⟩:∃w',D=w'+1:=⟨D-1,by omega⟩;cases hR w' rfl;have b8:=T2.same jQ;refine⟨_,rfl,t,_,1,.ref M,rfl,rfl,bE.of b8.t,rfl,.inl ⟨M,_,rfl,.inl (aF.of b8.a2),_,_,rfl,rfl,(s.length:Int)+1,by rw[ao],by omega,by omega,fun cl as=>?_⟩⟩;have aC:cl≠p:=(G.nep as).symm;have b9:cl≠c:=(G.nec as).symm;have a8:cl≠f:=(ah an as).symm;have ce:∀{b:Addr}{o:HO},N b=some o->b≠cl:=fun e=>ah e as
 let cn:Nat->List V->Hp->Prop:=fun i x B=>Jp fun(Ts:List Tr) (n':Int) (_:Unit)=>LJ (B cl=some (.lst x)) (c7 K B x (Tr.dts s Ts)) (Ts.length=i/\∀T∈Ts,T.wf J0 s/\T.hgt<=d) (dW B p c) (B f=some (.lst [.int n'])) (∀b o,N b=some o->b≠p->b≠f->B b=some o)
 refine n_ (lo:=0) (n:=s.length+1) cn ⟨[],_,(),aa,.nil,⟨rfl,fun _ h=>(by cases h)⟩,G.upd aC.symm b9.symm,by rw[am a8.symm];exact an,fun b o e _ _=>by rw[am (ce e)];exact e⟩ (fun i x B _ zq=>by obtain⟨_,_,_,h',_,_,_,_,_⟩:=zq;exact h') ?_ ?_;rotate_left
 ·rintro i x H3 hi ⟨Ts,n',_,h3,hP,⟨zt,hT⟩,J,U,aT⟩;have T3:gV (pM H3 f) t l1 M l3 l4 ts J0 s J4 ds:=by
   refine T2.ex (G.hid2 n1.symm n2.symm) fun b o e nb=>?_;by_cases cb:b=f
   ·rw[cb,mw]at e;cases e
   ·rw[mx cb]at e ⊢;exact aT b o e nb cb
  refine gN (lA ?_);refine⟨_,rfl,_,rfl,_,rfl,_,_,rfl,rfl,_,rfl,p,c,t,l1,M,l3,l4,f,ts,d,n',J0,s,J4,ds,?_,by omega,J,n1,n2,T3,m,U,fun v T n4 L hv wT co I cs u=>?_⟩
  ·show[V.ref p,V.ref t,V.int (((d+1:Nat):Int)-1),V.ref f]=_;rw[show(((d+1:Nat):Int)-1)=(d:Nat) by omega]
  have h4:=u _ _ h3 aC a8;have Y:gB H3 L:=by obtain⟨xs,hx⟩:=J.lst;exact u.kt hx U
  have kt:gB L (upd L cl (.lst (x++[v]))):=fo h4;have zu:x.length=i:=by rw[Paired.length hP,Tr.dts_map,ao,zt]
  refine⟨h4,ax (by omega),vn hi ⟨Ts++[T],n4,(),aa,?_,⟨by rw[aP,zt];rfl,fun X hX=>?_⟩,I.upd aC.symm b9.symm,by rw[am a8.symm];exact cs,fun b o e nb nf=>by rw[am (ce e)];exact u _ _ (aT _ _ e nb nf) nb nf⟩⟩
  ·rw[Tr.dts_map,aQ,<-Tr.dts_map];exact eE (c7.kt (fun b xs e=>kt _ _ (Y _ _ e)) hP) (bx.kt kt _ _ hv)
  ·rcases cG.1 hX with hX|hX
   ·exact hT X hX
   ·rw[eD.1 hX];exact⟨wT,co⟩
 rintro x H3 ⟨Ts,n',_,h3,hP,⟨zt,hT⟩,J,U,aT⟩;have C:Bg p f H H3:=a5.trs aT;have T3:gV (pM H3 f) t l1 M l3 l4 ts J0 s J4 ds:=Tt.ex (hp.hid2 n1.symm n2.symm) C.hid;have ab:=T3.same jQ;have zp:(Tr.dts s Ts).length=s.length+1:=by rw[Tr.dts_map,ao,zt]
 have zv:x.length=s.length+1:=by rw[Paired.length hP,zp]
 have ch:∀a:Option Str,(∀w,a=some w->w∈J0)->(Tr.nd a Ts).wf J0 s:=fun a ha=>⟨zt,ha,Tr.wfs_mem.2 fun T h=>(hT T h).1⟩;have ci:∀a:Option Str,(Tr.nd a Ts).hgt<=d+1:=fun a=>Nat.succ_le_succ (DB fun T h=>(hT T h).2);have k2:∀(a:Option Str) (v:V) (n':Int) (B:Hp),(∀w,a=some w->w∈J0)->bx K B (cW s a (Tr.dts s Ts)) v->dW B p c->B f=some (.lst [.int n'])->Bg p f H B->Q v B:=fun a v n' B ha hv q1 q2 q3=>k v (.nd a Ts) n' B hv (ch a ha) (ci a) q1 q2 q3;clear k hT ch ci;generalize Tr.dts s Ts=dp at hP zp k2;refine⟨_,rfl,_,_,rfl,rfl,_,rfl,?_⟩;by_cases c4:w<4
 ·rw[zzr1 c4];refine br ?_;refine⟨_,rfl,t,_,0,.ref l1,rfl,rfl,bE.of ab.t,rfl,_,rfl,_,rfl,t,_,0,.ref l1,rfl,rfl,bE.of ab.t,rfl,.inl ⟨l1,_,rfl,.inl (aF.of ab.a1),p,c,J0.length,(by rw[ao];rfl),J,by omega,by omega,fun r L r0 r1 I u=>?_⟩⟩;have T4:gV (pM L f) t l1 M l3 l4 ts J0 s J4 ds:=Tt.ex (hp.hid2 n1.symm n2.symm) (C.trs (.ofB u)).hid;have a9:=T4.same jQ;obtain⟨j,rfl⟩:∃j:Nat,r=j:=⟨r.toNat,by omega⟩;obtain⟨a,ha⟩:∃w,J0[j]?=some w:=⟨_,bI (by omega)⟩;refine⟨l1,_,j,.str a,rfl,rfl,aF.of a9.a1,aM (by rw[dj,ha];rfl),?_⟩;have h4:=u _ _ h3 aC;have Y:gB H3 L:=by obtain⟨xs,hx⟩:=J.lst;exact u.kt hx
  have ck:=c7.kt Y hP;obtain⟨v0,al⟩:∃v,x[0]?=some v:=⟨_,bI (by omega)⟩;obtain⟨d1,bd,bi⟩:=Paired.getL ck al;refine⟨_,rfl,_,rfl,cl,_,0,v0,rfl,rfl,aF.of h4,aM (j:=0) al,_,rfl,t,_,1,.ref M,rfl,rfl,bE.of a9.t,rfl,_,rfl,_,rfl,cl,_,rfl,aF.of h4,fun dl ct=>?_⟩;rw[show gq x (some 1) none=x.drop 1 from kL _ 1];have S5:ac L (upd L dl (.lst (x.drop 1))):=ac.new ct;have cm:upd L dl (.lst (x.drop 1)) dl=some (.lst (x.drop 1)):=aa;generalize upd L dl (.lst (x.drop 1))=H5 at S5 cm ⊢;refine⟨M,dl,s,x.drop 1,dp.drop 1,rfl,S5 _ _ a9.a2,cm,Paired.dropP 1 (c7.kt (ac.kt S5) ck),by rw[cA];omega,by omega,fun q xs H6 hq bm S6=>⟨(by show 4<=ai;decide),fun r bn=>?_⟩⟩;have S7:ac H6 (upd H6 r (.tup [.str "tell",.str a,v0,.ref q])):=ac.new bn;have aX:=S5.trans (S6.trans S7);exact k2 (some a) _ _ _ (fun w e=>by injection e with e;rw[<-e];exact dw ha) (yH aa (S7 _ _ hq) bd (bx.kt (ac.kt aX) _ _ bi) (c7.kt (ac.kt S7) bm) zp) (I.ex aX) (aX _ _ (u _ _ U n1)) ((C.trs (.ofB u)).trs (.ofS aX))
 ·rw[zzr0 c4];refine aZ ?_;obtain⟨v0,al⟩:∃v,x[s.length]?=some v:=⟨_,bI (by omega)⟩;obtain⟨d1,bd,bi⟩:=Paired.getL hP al;refine⟨_,rfl,t,_,1,.ref M,rfl,rfl,bE.of ab.t,rfl,_,rfl,M,cl,s,x,dp,rfl,ab.a2,h3,hP,by omega,by omega,fun q xs H6 hq bm S6=>?_⟩;refine⟨_,rfl,_,rfl,cl,_,-1,v0,rfl,rfl,aF.of (S6 _ _ h3),sU zv.symm al,(by show 3<=ai;decide),fun r bn=>?_⟩;have S7:ac H6 (upd H6 r (.tup [.str "wait",.ref q,v0])):=ac.new bn;have a0:=S6.trans S7;exact k2 none _ _ _ (fun w e=>(by cases e)) (sQ aa (S7 _ _ hq) bd (bx.kt (ac.kt a0) _ _ bi) (c7.kt (ac.kt S7) bm)) (J.ex a0) (a0 _ _ U) (C.trs (.ofS a0))
theorem Ew{K:Za}{C:Addr}{f:List V}{H:Hp}{Q:VK}{E:XK}(h:sp_takes C f H Q E):Io K C (jg C) (nP K C) (bq Q) (start Jo f) H:=by
 obtain⟨x,r,a,J0,J2,t,p,rfl,M,hr,k⟩:=h;refine⟨_,rfl,(by show 1<=ai;decide),fun l u=>?_⟩;have v:ac H (upd H l (.lst [.str r])):=ac.new u;have e1:upd H l (.lst [.str r]) l=some (.lst [.str r]):=aa;generalize upd H l (.lst [.str r])=H1 at v e1 ⊢;have M1:=M.same v;obtain⟨z,fs,o1,o2,o3,o4,lv,qu,A,sl,ts,B,D,G,I,a1,a2,a3,a4,_⟩:=id M1.at_;refine⟨_,rfl,x,z,fs,rfl,I,a3,_,rfl,x,r,J0,J2,t,p,rfl,M1,hr,fun l2 L J e2 nd hL _ S2=>?_⟩;have N:∀w∈L,w∈t:=fun w O=>((hL w).mp O).in_ fun d hd=>(M.ok.good d hd).b;have zL:=uy nd N;have z3:=M.ok.rooms26;refine⟨l,l2,_,_,rfl,rfl,S2 _ _ e1,e2,by rw[ao];show 1+L.length<=ai;exact df (ax (by omega)),fun m T=>?_⟩;have eq:([.str r]++L.map V.str:List V)=(r::L).map V.str:=rfl;rw[eq];have U:ac H (upd J m (.lst ((r::L).map V.str))):=(v.trans S2).trans (ac.new T);have Y:upd J m (.lst ((r::L).map V.str)) m=some (.lst ((r::L).map V.str)):=aa;generalize upd J m (.lst ((r::L).map V.str))=H3 at U Y ⊢;refine⟨m,rfl,⟨_,aF.of Y⟩,fun q hq=>?_⟩
 let ab:Nat->List V->Hp->Prop:=fun i f j=>f=(((r::L).take i).map fun h=>decide ((0:Int)<(bJ p (h,iB a)).length)).map V.bl/\ac H3 j/\j q=some (.lst f)
 refine eA (xs:=(r::L).map V.str) ab ⟨rfl,ac.new hq,aa⟩ (fun i f j _ zq=>by obtain⟨_,S,h⟩:=zq;exact⟨h,aF.of (S _ _ Y)⟩) ?_ ?_
 ·rintro f j ⟨rfl,S,h⟩;rw[ao,cv]at h;refine⟨q,_,rfl,aF.of h,?_⟩;rw[Ee hL];exact k j (U.trans S)
 ·rintro i f j y hy hi ⟨rfl,S,h⟩;obtain⟨w,O,rfl⟩:=cX hy;refine gN (lA ?_);have M':=M.same (U.trans S);obtain⟨z,fs,o1,o2,o3,o4,lv,qu,A,sl,ts,B,D,G,I,a1,a2,a3,a4,_⟩:=id M'.at_;refine⟨_,rfl,x,z,fs,rfl,I,a2,_,rfl,_,rfl,(by show 2<=ai;decide),fun s hs=>?_⟩;have S4:ac j (upd j s (.tup ((iB a).map V.str))):=ac.new hs;refine⟨x,s,w,iB a,J0,J2,t,p,rfl,M'.same S4,bE.of aa,fun g H5 hg _ S5=>?_⟩;have n:=S4.trans S5;refine .inl ⟨g,_,rfl,.inl (aF.of hg),_,_,rfl,rfl,n _ _ h,?_,?_⟩
  ·rw[ao,ao,aK];exact ax (by rw[dD];omega)
  refine vn hi ⟨?_,fun b o e=>?_,aa⟩
  ·rw[take_snoc O,aQ,aQ];show _++[V.bl (decide ((0:Int)<(((bJ p (w,iB a)).map V.str).length:Nat)))]=_;rw[ao];rfl
  ·rw[am (ah e hq)];exact n _ _ (S _ _ e)
theorem Fd{K:Za}{k:Nat}{o:List Nat}{g:TG}{q:TT}{r:TE}{σ:L2.St}{s:Hp}{Q:Hp->Prop}{l a b:Addr}{xs ys:List V}(A:xs.length<=ys.length)(Pv:Nat->List V->Hp->Prop)(B:Pv 0 [] (upd s l (.lst [])))
  (m:∀i e H,i<=xs.length->Pv i e H->H l=some (.lst e)/\bE K H a xs/\bE K H b ys) (C:∀e H,Pv xs.length e H->Q H)
  (D:∀i e H x y p,xs[i]?=some x->ys[i]?=some y->i<xs.length->Pv i e H->H p=none->g (.ref p) (cL k o σ) (upd H p (.tup [x,y])) fun σ2 E=>q σ2 E fun b w =>
   if b=true then r σ2 w fun v z=>z l=some (.lst e)/\e.length<ai/\∃f,f<xs.length-i/\Wc xs.length Pv (i+1) f (e++[v]) (upd z l (.lst (e++[v])))else ∃f,f<xs.length-i/\Wc xs.length Pv (i+1) f e w) :
  cP k o σ (K1 K a b) g q r s l Q:=by
 refine jU xs.length Pv B (fun i e H hi p=>(m i e H hi p).1) (fun i e H hi p=>?_) (fun e H p=>?_) fun i e H x L hi p y=>?_
 ·obtain⟨_,h,j⟩:=m i e H (df hi) p;have n:i<ys.length:=by omega
  exact⟨xs,ys,xs[i],ys[i],h,j,by simp[hi],by simp[n]⟩
 ·obtain⟨_,h,j⟩:=m _ e H (ay _) p;exact⟨⟨xs,ys,h,j,.inl (ay _)⟩,C e H p⟩
 ·obtain⟨_,h,j⟩:=m i e H (df hi) p;obtain⟨t,u,v,rfl,G,I,J,rfl⟩:=y;exact D i e H u v t (I xs h) (J ys j) hi p G
mutual
def DT.few:DT->Prop
 |.k _=>True
 |.t l=>l.length<=1000/\DT.fews l
 |.s l=>l.length<=1000/\DT.fews l
def DT.fews:List DT->Prop
 |[]=>True
 |a::r=>DT.few a/\DT.fews r
end
theorem AU:∀n:Nat,(dz n true).all id=true
 |0=>rfl
 |n+1=>AU n
theorem Ge{α:Type}(a:α)(n:Nat):dz n a++[a]=dz (n+1) a:=by
 rw[wM]
def ju(w:List Nat):List Int:=w.map fun(n:Nat)=>(n:Int)
def WLt(x y:List Nat):Prop:=∃(p u v:List Nat) (a b:Nat),x=p++a::u/\y=p++b::v/\a<b
theorem WLt.lex{x y:List Nat}(h:WLt x y):HT.lexLt (ju y) (ju x)=false/\ju y≠ju x:=by
 obtain⟨p,u,v,a,b,rfl,rfl,f⟩:=h
 induction p with
 |nil =>
  have ne:¬(b:Int)=(a:Int):=by omega
  refine⟨?_,fun z=>?_⟩
  ·show(if(b:Int)=(a:Int)then _ else decide ((b:Int)<(a:Int)))=false
   rw[if_neg ne];exact zzr0 (by omega)
  ·injection z with z;exact ne z
 |cons c p e =>
  refine⟨?_,fun z=>?_⟩
  ·show(if(c:Int)=(c:Int)then HT.lexLt (ju (p++b::v)) (ju (p++a::u))else _)=false
   rw[if_pos rfl];exact e.1
  ·injection z with _ z;exact e.2 z
def jB:Gt->List Gt
 |.nd _ _ ps=>ps
 |_=>[]
inductive eV(K:Za)(vs:List V)(H:Hp)(Q:VK)(E:XK):Prop
 |mk (v:V) (T:Gt):(vs=[v])->(bx K H T.dt v)->(T.ok)->(∀(l:Addr) (us:List V) (H':Hp),H' l=some (.lst us)->H l=none->c7 K H' us (Gt.dts (jB T))->ac H H'->Q (.ref l) H')->eV K vs H Q E
theorem BW{K:Za}{vs:List V}{H:Hp}{Q:VK}{E:XK}(h:eV K vs H Q E):mZ K (bq Q) (start m_ vs) H:=by
 obtain⟨v,T,rfl,A,ok,k⟩:=h;cases T with
 |lf w =>
  obtain⟨b,rfl,e⟩:=pI A;have M:mZ K (bq Q) (start m_ [.ref b]) H:=by
   have m:(ar (bQ (jI (aV (aq iL (aq (bg K) V0 (tC (.int 0))) (tC (.str "wait")))) (aV (aq iL (cS (cK K) (au V0)) (tC (.int 3))))) (aR (aq qS (cD 1 [] (uE K (aq (bg K) V0 (tC (.int 1)))) U0 (d6) (aq (bg K) V0 (tC (.int 1)))) (bW (au (aq (bg K) V0 (tC (.int 2))))))) (ba)) (aR (bW (aU)))) (bq Q) [some (.ref b)] H:=by
    have n:(aR (bW (aU))) (bq Q) [some (.ref b)] H:=⟨(by show 0<=ai;decide),fun l hl=>k l [] _ aa hl .nil (ac.new hl)⟩;refine⟨_,rfl,b,_,0,_,rfl,rfl,aH.sq e,aM (j:=0) rfl,rfl,_,rfl,?_⟩;by_cases c:w="wait"
    ·rw[zzr1 (by rw[c])];exact br ⟨_,rfl,.inl ⟨b,_,rfl,.inr (aH.sq e),rfl,_,rfl,aZ n⟩⟩
    ·rw[zzr0 (fun z=>c (by injection z))];exact aZ (aZ n)
   refine⟨_,rfl,b,_,0,_,rfl,rfl,aH.sq e,aM (j:=0) rfl,rfl,_,rfl,?_⟩;by_cases c:w="tell"
   ·rw[zzr1 (by rw[c])];exact br ⟨_,rfl,.inl ⟨b,_,rfl,.inr (aH.sq e),rfl,_,rfl,aZ m⟩⟩
   ·rw[zzr0 (fun z=>c (by injection z))];exact aZ (aZ m)
  exact M
 |nd a p ps =>
  obtain⟨ok,z8⟩:=(show ps.length=p.length+1/\p.length<=8 from ok);have N:(Gt.dts ps).length=p.length+1:=by rw[Gt.dts_map,ao,ok]
  have A:bx K H (cW p a (Gt.dts ps)) v:=A;have O:∀(l:Addr) (i:List V) (H':Hp),H' l=some (.lst i)->H l=none->c7 K H' i (Gt.dts ps)->ac H H'->Q (.ref l) H':=k;generalize Gt.dts ps=dp at N A O;cases a with
  |some a =>
   obtain⟨b,f,b3,ab,d0,rfl,e,B,U,Y,ec⟩:=oR N A;refine⟨_,rfl,b,_,0,_,rfl,rfl,aH.sq e,aM (j:=0) rfl,rfl,_,rfl,?_⟩;rw[zzr1 rfl];refine br ⟨_,rfl,.inl ⟨b,_,rfl,.inr (aH.sq e),rfl,_,rfl,?_⟩⟩;refine br ?_;refine⟨_,rfl,b,_,2,f,rfl,rfl,aH.sq e,aM (j:=2) rfl,(by show 1<=ai;decide),fun g q=>?_⟩;have s:ac H (upd H g (.lst [f])):=ac.new q;have C:upd H g (.lst [f]) g=some (.lst [f]):=aa;generalize upd H g (.lst [f])=H1 at s C ⊢;refine⟨_,rfl,b,_,3,.ref b3,rfl,rfl,aH.sq (aH.kt (ac.kt s) e),aM (j:=3) rfl,b3,rfl,⟨_,aH.sq (aH.kt (ac.kt s) B)⟩,fun cl t=>?_⟩;refine AL (ws:=p) (ps:=dp.drop 1) (aH.kt (ac.kt s) B) (c7.kt (ac.kt s) Y) (by rw[cA];omega) (by omega) t fun i u c2 D o=>?_;have zu:i.length<=8:=by rw[Paired.length D,cA];omega
   refine⟨g,cl,_,_,rfl,rfl,o _ _ C,c2,df (ax (by show 1+_<=1000;omega)),fun r G=>?_⟩;have x:ac u (upd u r (.lst ([f]++i))):=ac.new G;have I:=s.trans (o.trans x);refine O r (f::i) _ aa ((s.trans o).free G) ?_ I;rw[ec];exact .cons (bx.kt (ac.kt I) _ _ U) (c7.kt (ac.kt x) D)
  |none =>
   obtain⟨b,b1,al,f,d0,rfl,e,J,U,Y,ec⟩:=oQ N A;refine⟨_,rfl,b,_,0,_,rfl,rfl,aH.sq e,aM (j:=0) rfl,rfl,_,rfl,?_⟩;rw[zzr0 (by intro z;injection z with z;exact absurd z (by decide))];refine aZ (aZ ?_);refine⟨_,rfl,b,_,0,_,rfl,rfl,aH.sq e,aM (j:=0) rfl,rfl,_,rfl,?_⟩;rw[zzr1 rfl];refine br ⟨_,rfl,.inl ⟨b,_,rfl,.inr (aH.sq e),rfl,_,rfl,?_⟩⟩;refine br ?_;refine⟨_,rfl,b,_,1,.ref b1,rfl,rfl,aH.sq e,aM (j:=1) rfl,b1,rfl,⟨_,aH.sq J⟩,fun cl t=>?_⟩;refine AL (ws:=p) (ps:=dp.take p.length) J Y (by rw[aK];omega) (by omega) t fun i u c2 D o=>?_;have zu:i.length<=8:=by rw[Paired.length D,aK];omega
   refine⟨_,rfl,b,_,2,f,rfl,rfl,aH.sq (aH.kt (ac.kt o) e),aM (j:=2) rfl,(by show 1<=ai;decide),fun g q=>?_⟩;have x:ac u (upd u g (.lst [f])):=ac.new q;have L:upd u g (.lst [f]) g=some (.lst [f]):=aa;generalize upd u g (.lst [f])=H3 at x L ⊢;refine⟨cl,g,_,_,rfl,rfl,x _ _ c2,L,df (ax (by show _+1<=1000;omega)),fun r G=>?_⟩;have S4:ac H3 (upd H3 r (.lst (i++[f]))):=ac.new G;have y:=x.trans S4;refine O r (i++[f]) _ aa ((o.trans x).free G) ?_ (o.trans y);rw[ec];exact eE (c7.kt (ac.kt y) D) (bx.kt (ac.kt (o.trans y)) _ _ U)
theorem q_{T:Gt}(h:T.wf):(∀t∈jB T,t.wf)/\(jB T).length<=9:=by
 cases T with
 |lf w=>exact⟨fun t g=>(by cases g),cp _⟩
 |nd a e f=>exact⟨Gt.wfs_mem.1 h.2.2,by have i:f.length=e.length+1:=h.1;have j:e.length<=8:=h.2.1;show f.length<=9;omega⟩
theorem my:∀{l:List Gt}{t:Gt},t∈l->t.hgt<=Gt.hgts l
 |x::r,t,h=>by
  have a:Gt.hgts (x::r)=max x.hgt (Gt.hgts r):=rfl;rcases cz.1 h with rfl|h
  ·omega
  ·have:=my h;omega
theorem pJ{T:Gt}{n:Nat}(h:T.hgt<=n):∀t∈jB T,t.hgt+1<=n:=by
 cases T with
 |lf w=>intro t e;cases e
 |nd a f ps=>intro t e;have q:t.hgt<=Gt.hgts ps:=my e;have z:Gt.hgts ps+1<=n:=h;omega
theorem C8:∀l:List Gt,((Gt.szs l:Nat):Int)=(l.map fun t=>((t.sz:Nat):Int)).sum
 |[]=>rfl
 |t::r=>by rw[cw,List.sum_cons,<-C8 r];show((t.sz+Gt.szs r:Nat):Int)=_;omega
theorem Ir(T:Gt):((T.sz:Nat):Int)=1+((jB T).map fun t=>((t.sz:Nat):Int)).sum:=by
 rw[<-C8];cases T with
 |lf w=>rfl
 |nd a f e=>show((Gt.szs e+1:Nat):Int)=_;show _=1+((Gt.szs e:Nat):Int);omega
theorem v7{K:Za}{q:Sp}{f:Gt->Int}{g:Hp}{l r:Addr}{m:List V}{Ts:List Gt}{σ:L2.St}{Q:Hp->Prop}(s:g l=none)(n:g r=some (.lst m))(t:c7 K g m (Gt.dts Ts))(D:Ts.length<=9)
  (one:∀(T:Gt) (v:V) (H:Hp) (Q:VK),T∈Ts->bx K H T.dt v->(∀a,ac H a->Q (.int (f T)) a)->q [v] H Q E0) (k:∀a,a l=some (.lst ((Ts.map f).map V.int))->ac g a->Q a) :
  cP 1 [] σ (Fz K r) U0 (d6) (aw q (au V0)) g l Q:=by
 have z:m.length=Ts.length:=by rw[Paired.length t,Gt.dts_map,ao]
 let p:Nat->List V->Hp->Prop:=fun i j a=>j=((Ts.take i).map f).map V.int/\ac g a/\a l=some (.lst j)
 refine eA (xs:=m) p ⟨rfl,ac.new s,aa⟩ (fun i j a _ A=>by obtain⟨_,S,h⟩:=A;exact⟨h,aF.of (S _ _ n)⟩) ?_ ?_
 ·rintro j a ⟨rfl,S,h⟩;rw[z,cv]at h;exact k a h S
 ·rintro i j a y B hi ⟨rfl,S,h⟩;obtain⟨d,u,C⟩:=Paired.getL t B;rw[Gt.dts_map,dj]at u;obtain⟨T,w,rfl⟩:=ib.1 u;refine gN (lA ⟨_,rfl,one T y a _ (dw w) (bx.kt (ac.kt S) _ _ C) fun E x=>?_⟩);refine⟨x _ _ h,?_,vn hi ⟨?_,fun b o e=>?_,aa⟩⟩
  ·rw[ao,ao,aK];exact ax (by omega)
  ·rw[take_snoc w,aQ,aQ];rfl
  ·rw[am (ah e s)];exact x _ _ (S _ _ e)
inductive gP(K:Za)(n:Nat)(vs:List V)(H:Hp)(Q:VK)(E:XK):Prop
 |mk (v:V) (T:Gt):(vs=[v])->(bx K H T.dt v)->(T.wf)->(T.hgt<=n)->(∀H',ac H H'->Q (.int (T.sz:Nat)) H')->gP K n vs H Q E
theorem Ey{K:Za}{n:Nat}{g:Sp}(e:∀m,n=m+1->g=gP K m){i:List V}{H:Hp}{Q:VK}{E:XK}(h:gP K n i H Q E):xV K (eV K) g (bq Q) (start zm i) H:=by
 obtain⟨v,T,rfl,o,wf,p,k⟩:=h;refine⟨_,rfl,v,T,rfl,o,wf.ok,fun q D I a _ r s=>⟨q,rfl,⟨_,aF.of a⟩,fun l w=>?_⟩⟩;refine v7 (f:=fun t=>((t.sz:Nat):Int)) w a r (q_ wf).2 (fun t u G R j x y=>?_) fun A B C=>⟨l,_,rfl,aF.of B,_,_,rfl,rfl,?_⟩
 ·have z:=pJ p t j;obtain⟨m,rfl⟩:∃m,n=m+1:=⟨n-1,by omega⟩;rw[e m rfl];exact⟨u,t,rfl,x,(q_ wf).1 t j,by omega,y⟩
 ·have:=k A (s.trans C);rw[Ir]at this;exact this
theorem IZ{f:List Gt}{m:Int}(ne:f≠[])(h:m∈(0:Int)::f.map fun t=>((t.hgt+1:Nat):Int))(i:∀a∈(0:Int)::f.map fun t=>((t.hgt+1:Nat):Int),a<=m):m=((Gt.hgts f+1:Nat):Int):=by
 have up:∀t∈f,((t.hgt+1:Nat):Int)<=m:=fun t g=>i _ (eK _ (qa g));have hi:((Gt.hgts f+1:Nat):Int)<=m:=by
  clear h i
  induction f with
  |nil=>exact absurd rfl ne
  |cons x r j =>
   have k:Gt.hgts (x::r)=max x.hgt (Gt.hgts r):=rfl;have hx:=up x fh;by_cases c:r=[]
   ·subst c;have:Gt.hgts ([]:List Gt)=0:=rfl;omega
   ·have:=j c fun t g=>up t (eK _ g);omega
 rcases cz.1 h with z|z
 ·omega
 ·obtain⟨t,g,e⟩:=bA.1 z;have:=my g;have e:((t.hgt+1:Nat):Int)=m:=e;omega
inductive gS(K:Za)(n:Nat)(vs:List V)(H:Hp)(Q:VK)(E:XK):Prop
 |mk (v:V) (T:Gt):(vs=[v])->(bx K H T.dt v)->(T.wf)->(T.hgt<=n)->(∀H',ac H H'->Q (.int (T.hgt+1:Nat)) H')->gS K n vs H Q E
theorem EH{K:Za}{n:Nat}{r:Sp}(i:∀m,n=m+1->r=gS K m){s:List V}{H:Hp}{Q:VK}{E:XK}(h:gS K n s H Q E):xW K (eV K) r (bq Q) (start zo s) H:=by
 obtain⟨v,T,rfl,I,wf,J,k⟩:=h;refine⟨(by show 1<=ai;decide),fun e j=>?_⟩;have p:ac H (upd H e (.lst [.int 0])):=ac.new j;have x:upd H e (.lst [.int 0]) e=some (.lst [.int 0]):=aa;generalize upd H e (.lst [.int 0])=H0 at p x ⊢;refine⟨_,rfl,v,T,rfl,bx.kt (ac.kt p) _ _ I,wf.ok,fun L us H1 g _ M y=>⟨L,rfl,⟨_,aF.of g⟩,fun l N=>?_⟩⟩;refine v7 (f:=fun t=>((t.hgt+1:Nat):Int)) N g M (q_ wf).2 (fun t u G R A O U=>?_) fun H2 Y B=>?_
 ·have z:=pJ J t A;obtain⟨m,rfl⟩:∃m,n=m+1:=⟨n-1,by omega⟩;rw[i m rfl];exact⟨u,t,rfl,O,(q_ wf).1 t A,by omega,U⟩
 have z9:=(q_ wf).2;refine⟨e,l,_,_,rfl,rfl,(y.trans B) _ _ x,Y,?_,fun c hc=>?_⟩
 ·rw[ao,ao];exact df (ax (by show 1+_<=1000;omega))
 have S3:=ac.new (o:=.lst ([V.int 0]++((jB T).map fun t=>((t.hgt+1:Nat):Int)).map V.int)) hc;refine⟨c,(0:Int)::(jB T).map (fun t=>((t.hgt+1:Nat):Int)),rfl,aF.of (aa),List.cons_ne_nil _ _,fun m C hM=>⟨_,_,rfl,rfl,?_⟩⟩;have:=k _ (((p.trans y).trans B).trans S3);have em:(1:Int)+m=((T.hgt+1:Nat):Int):=by
  cases T with
  |lf w =>
   have z:m=0:=eD.1 C;rw[z];rfl
  |nd a ws q =>
   have ne:q≠[]:=fun z=>by have D:q.length=ws.length+1:=wf.1;rw[z]at D;cases D
   have:=IZ ne C hM;show 1+m=((Gt.hgts q+1+1:Nat):Int);omega
 rw[<-em]at this;exact this
inductive mi(K:Za)(vs:List V)(H:Hp)(Q:VK)(E:XK):Prop
 |mk (t l1 l2 l3 l4:Addr) (ts:Ze) (J0 J2 J4:Zb) (ds:List aJ) (v:V) (T:Gt):(vs=[.ref t,v])->(gV H t l1 l2 l3 l4 ts J0 J2 J4 ds)->(bx K H T.dt v)->(T.ok)->(∀H',ac H H'->Q (.bl (soB J0 J2 T)) H')->mi K vs H Q E
theorem EF{K:Za}{L:List V}{H:Hp}{Q:VK}{E:XK}(h:mi K L H Q E):si K (bq Q) (start sD L) H:=by
 obtain⟨t,M,B,l3,l4,ts,C,q,J4,ds,v,T,rfl,TT,m,ok,k⟩:=h;cases T with
 |lf w =>
  obtain⟨b,rfl,i⟩:=pI m;have m:bx K H (k7 [w]) (.ref b):=m;have o:(aR (Bu (aq (k6 K) V1 (aW (au (tC (.str "end"))))) (aq (k6 K) V1 (aW (au (tC (.str "blame"))))))) (bq Q) [some (.ref t),some (.ref b)] H:=by
   refine⟨_,rfl,(by show 1<=ai;decide),fun e he=>?_⟩;have r:ac H (upd H e (.tup (cu.map V.str))):=ac.new he;have N:upd H e (.tup (cu.map V.str)) e=some (.tup (cu.map V.str)):=aa;have e0:(.tup [.str "end"]:HO)=.tup (cu.map V.str):=rfl;rw[e0];generalize upd H e (.tup (cu.map V.str))=u at r N ⊢;refine⟨k7 [w],k7 cu,bx.dIn _ _ (bx.kt (ac.kt r) _ _ m),i5 (bE.of N),by rw[fE];decide,by rw[fE];decide,_,rfl,?_⟩;rw[sT];by_cases c:w="end"
   ·rw[zzr1 (by rw[c];rfl)];have:=k u r;rw[kB (t:=.lf w) (b:=true) ⟨fun _=>rfl,fun _=>Or.inl c⟩]at this;exact br this
   rw[zzr0 (fun z=>c (by injection z))];refine aZ ⟨_,rfl,(by show 1<=ai;decide),fun f hf=>?_⟩;have n:ac u (upd u f (.tup (cJ.map V.str))):=ac.new hf;have O:upd u f (.tup (cJ.map V.str)) f=some (.tup (cJ.map V.str)):=aa;have f0:(.tup [.str "blame"]:HO)=.tup (cJ.map V.str):=rfl;rw[f0];generalize upd u f (.tup (cJ.map V.str))=x at n O ⊢;refine⟨k7 [w],k7 cJ,bx.dIn _ _ (bx.kt (ac.kt (r.trans n)) _ _ m),i5 (bE.of O),by rw[fE];decide,by rw[fE];decide,?_⟩;have:=k x (r.trans n);rw[kB (t:=.lf w) (b:=decide ([w]=cJ)) ⟨fun z=>zzr1 (by rcases(show w="end"∨w="blame" from z)with z|z;exact absurd z c;rw[z];rfl),fun z=>Or.inr (by have:=of_decide_eq_true z;injection this)⟩]at this;rw[sT];exact this
  have mid:(ar (bQ (jI (aV (aq iL (aq (bg K) V1 (tC (.int 0))) (tC (.str "wait")))) (aV (aq iL (cS (cK K) (au V1)) (tC (.int 3))))) (aR (aq (k6 K) (cD 1 [] (uE K (aq (bg K) V1 (tC (.int 1)))) U0 (d6) (aq (bg K) V0 (tC (.int 0)))) (aq (bg K) V0 (tC (.int 1))))) (ba)) (aR (Bu (aq (k6 K) V1 (aW (au (tC (.str "end"))))) (aq (k6 K) V1 (aW (au (tC (.str "blame")))))))) (bq Q) [some (.ref t),some (.ref b)] H:=by
   refine⟨_,rfl,b,_,0,_,rfl,rfl,aH.sq i,aM (j:=0) rfl,rfl,_,rfl,?_⟩;by_cases c:w="wait"
   ·rw[zzr1 (by rw[c])];exact br ⟨_,rfl,.inl ⟨b,_,rfl,.inr (aH.sq i),rfl,_,rfl,aZ o⟩⟩
   ·rw[zzr0 (fun z=>c (by injection z))];exact aZ (aZ o)
  refine⟨_,rfl,b,_,0,_,rfl,rfl,aH.sq i,aM (j:=0) rfl,rfl,_,rfl,?_⟩;by_cases c:w="tell"
  ·rw[zzr1 (by rw[c])];exact br ⟨_,rfl,.inl ⟨b,_,rfl,.inr (aH.sq i),rfl,_,rfl,aZ mid⟩⟩
  ·rw[zzr0 (fun z=>c (by injection z))];exact aZ (aZ mid)
 |nd a g ps =>
  obtain⟨ok,z8⟩:=(show ps.length=g.length+1/\g.length<=8 from ok);have D:(Gt.dts ps).length=g.length+1:=by rw[Gt.dts_map,ao,ok]
  have m:bx K H (cW g a (Gt.dts ps)) v:=m;generalize Gt.dts ps=U at D m;have eqS:∀(l:Addr) (H':Hp),H' l=some (.lst (g.map V.str))->ac H H'->(∀w,a=some w->w∈C)->k6 K (.ref l) (.ref B) H' Q:=fun l H' hl S ha=>by
   refine⟨.s (g.map eN),.s (q.map eN),⟨l,_,rfl,aF.of hl,jK g⟩,⟨B,_,rfl,aF.of (S _ _ TT.a2),jK q⟩,?_,?_,?_⟩
   ·show DT.depths _+1<=8;rw[gU];decide
   ·show DT.depths _+1<=8;rw[gU];decide
   ·rw[decide_eq_decide.mpr (show DT.s (g.map eN)=DT.s (q.map eN)↔g=q from⟨fun h=>dY (by injection h),fun h=>by rw[h]⟩)];have:=k H' S;rw[kB (t:=.nd a g ps) (b:=decide (g=q)) ⟨fun z=>zzr1 z.2,fun z=>⟨ha,of_decide_eq_true z⟩⟩]at this;exact this
  cases a with
  |some a =>
   obtain⟨b,x2,Y,ab,d0,rfl,i,y,h2,G,ec⟩:=oR D m;refine⟨_,rfl,b,_,0,_,rfl,rfl,aH.sq i,aM (j:=0) rfl,rfl,_,rfl,?_⟩;rw[zzr1 rfl];refine br ⟨_,rfl,.inl ⟨b,_,rfl,.inr (aH.sq i),rfl,_,rfl,?_⟩⟩;refine br ⟨_,rfl,b,_,1,.str a,rfl,rfl,aH.sq i,aM (j:=1) rfl,_,rfl,t,_,0,.ref M,rfl,rfl,bE.of TT.t,rfl,?_⟩;refine⟨eN a,C.map eN,M,_,Ht _,rfl,.inl (aF.of TT.a1),yZ _,(by show 0<=8;decide),by rw[jT];decide,_,rfl,?_⟩;rw[if_neg iO,Je];by_cases c:a∈C
   ·rw[zzr1 c];refine br ⟨_,rfl,b,_,3,.ref Y,rfl,rfl,aH.sq i,aM (j:=3) rfl,Y,rfl,⟨_,aH.sq y⟩,fun I p=>?_⟩;refine pQ (ws:=g) (ps:=U.drop 1) y G (by rw[cA];omega) (by omega) p fun x J n=>?_;exact⟨_,rfl,t,_,1,.ref B,rfl,rfl,bE.of (n _ _ TT.t),rfl,eqS I x J n fun w e=>by cases e;exact c⟩
   ·rw[zzr0 c];have:=k H (ac.refl _);rw[kB (t:=.nd (some a) g ps) (b:=false) ⟨fun z=>absurd (z.1 a rfl) c,fun z=>by cases z⟩]at this;exact aZ this
  |none =>
   obtain⟨b,b1,al,x2,d0,rfl,i,A,h2,G,ec⟩:=oQ D m;refine⟨_,rfl,b,_,0,_,rfl,rfl,aH.sq i,aM (j:=0) rfl,rfl,_,rfl,?_⟩;rw[zzr0 (by intro z;injection z with z;exact absurd z (by decide))];refine aZ (aZ ?_);refine⟨_,rfl,b,_,0,_,rfl,rfl,aH.sq i,aM (j:=0) rfl,rfl,_,rfl,?_⟩;rw[zzr1 rfl];refine br ⟨_,rfl,.inl ⟨b,_,rfl,.inr (aH.sq i),rfl,_,rfl,?_⟩⟩;refine br ⟨_,rfl,b,_,1,.ref b1,rfl,rfl,aH.sq i,aM (j:=1) rfl,b1,rfl,⟨_,aH.sq A⟩,fun I p=>?_⟩;refine pQ (ws:=g) (ps:=U.take g.length) A G (by rw[aK];omega) (by omega) p fun x J n=>?_;exact⟨_,rfl,t,_,1,.ref B,rfl,rfl,bE.of (n _ _ TT.t),rfl,eqS I x J n fun w e=>by cases e⟩
def wrong1(J0 J2:Zb)(w:List Nat)(T:Gt):List (List Nat):=if soB J0 J2 T=true then[]else[w]
mutual
def wrG(J0 J2:Zb)(w:List Nat):Gt->List (List Nat)
 |.lf v=>wrong1 J0 J2 w (.lf v)
 |.nd a ws ps=>wrong1 J0 J2 w (.nd a ws ps)++wrGs J0 J2 w 0 ps
def wrGs(J0 J2:Zb)(w:List Nat)(i:Nat):List Gt->List (List Nat)
 |[]=>[]
 |p::ps=>wrG J0 J2 (w++[i]) p++wrGs J0 J2 w (i+1) ps
end
theorem FF(a f:Zb)(w:List Nat)(s:List Sg)(T:Gt):(([⟨w,s,T⟩]:List Eg).filter fun e=>!soB a f e.tr).map (fun e=>e.way)=wrong1 a f w T:=by
 unfold wrong1;cases c:soB a f T with
 |true=>rw[List.filter_cons,if_neg (by show ¬(!soB a f T)=true;rw[c];decide)];rfl
 |false=>rw[List.filter_cons,if_pos (by show(!soB a f T)=true;rw[c];rfl)];rfl
mutual
theorem xP(f g:Zb):∀(t:Gt) (w:List Nat) (s:List Sg),((fL w s t).filter fun e=>!soB f g e.tr).map (fun e=>e.way)=wrG f g w t
 |.lf v,w,s=>FF f g w s _
 |.nd a i h,w,s=>by
  show(((([⟨w,s,.nd a i h⟩]:List Eg)++preGs w s (gm i a) 0 h).filter fun e=>!soB f g e.tr).map _)=_;rw[sY,aQ,FF,wrs_pre f g h];rfl
theorem wrs_pre(f g:Zb):∀(h:List Gt) (w:List Nat) (s a:List Sg) (i:Nat),((preGs w s a i h).filter fun e=>!soB f g e.tr).map (fun e=>e.way)=wrGs f g w i h
 |[],_,_,_,_=>rfl
 |p::h,w,s,a,i=>by
  show((fL _ _ p++preGs w s (a.drop 1) (i+1) h).filter _).map _=wrG f g (w++[i]) p++_;rw[sY,aQ,xP f g p,wrs_pre f g h]
end
theorem Kc(a e:Zb)(t:Gt)(w:List Nat):(wrG a e w t).length<=t.sz:=by
 rw[<-xP a e t w [],ao,<-sP t w []];exact p_ _ _
theorem CZ(e f:Zb)(w:List Nat)(T:Gt):wrG e f w T=wrong1 e f w T++wrGs e f w 0 (jB T):=by
 cases T with
 |lf v=>show _=_++[];rw[eM];rfl
 |nd a g h=>rfl
theorem zN(a e:Zb)(w:List Nat)(p:Gt):∀(l:List Gt) (i:Nat),wrGs a e w i (l++[p])=wrGs a e w i l++wrG a e (w++[i+l.length]) p
 |[],i=>by show wrG a e (w++[i]) p++[]=[]++wrG a e (w++[i+0]) p;rw[eM,List.nil_append,Nat.add_zero]
 |x::l,i=>by
  show wrG a e (w++[i]) x++wrGs a e w (i+1) (l++[p])=_;rw[zN a e w p l (i+1),<-iR,dD,show i+1+l.length=i+(l.length+1) by omega];rfl
theorem C9:∀{l:List Gt}{t:Gt},t∈l->t.sz<=Gt.szs l
 |x::r,t,h=>by
  have a:Gt.szs (x::r)=x.sz+Gt.szs r:=rfl;rcases cz.1 h with rfl|h
  ·omega
  ·have:=C9 h;omega
theorem KD{T:Gt}:∀t∈jB T,t.sz+1<=T.sz:=by
 cases T with
 |lf w=>intro t e;cases e
 |nd a f ps=>intro t e;have q:t.sz<=Gt.szs ps:=C9 e;show t.sz+1<=Gt.szs ps+1;omega
abbrev Ways(H:Hp)(qs:Ze)(L:List (List Nat)):Prop:=Paired (fun q u=>H q=some (.tup (fH u))) qs L
inductive fJ(K:Za)(n:Nat)(vs:List V)(H:Hp)(Q:VK)(E:XK):Prop
 |mk (t l1 l2 l3 l4:Addr) (ts:Ze) (J0 J2 J4:Zb) (ds:List aJ) (v:V) (T:Gt) (wr:Addr) (w:List Nat):(vs=[.ref t,v,.ref wr])->(gV H t l1 l2 l3 l4 ts J0 J2 J4 ds)->(bx K H T.dt v)->(T.wf)->(T.hgt<=n)->(T.sz<=1000)->(H wr=some (.tup (fH w)))->(w.length+T.hgt<=900) ->
  (∀(l:Addr) (qs:Ze) (H':Hp),H' l=some (.lst (qs.map V.ref))->Ways H' qs (wrG J0 J2 w T)->ac H H'->Q (.ref l) H')->fJ K n vs H Q E
theorem Ways.kt{H H':Hp}{qs:Ze}{L:List (List Nat)}(k:gB H H')(h:Ways H qs L):Ways H' qs L:=Paired.mapP h fun _ _ r=>k _ _ r
theorem BN{K:Za}{n:Nat}{sp:Sp}(ab:∀m,n=m+1->sp=fJ K m){vs:List V}{H:Hp}{Q:VK}{E:XK}(h:fJ K n vs H Q E):u8 K (eV K) sp (mi K) (bq Q) (start vy vs) H:=by
 obtain⟨t,l1,l2,l3,l4,ts,f,g,J4,ds,v,T,wr,w,rfl,TT,hv,wf,hg,zs,hw,zw,k⟩:=h;refine⟨(by show 0<=ai;decide),fun q s=>?_⟩;have M:ac H (upd H q (.lst [])):=ac.new s;have f1:upd H q (.lst []) q=some (.lst []):=aa;generalize upd H q (.lst [])=H1 at M f1 ⊢;refine⟨_,rfl,_,rfl,t,l1,l2,l3,l4,ts,f,g,J4,ds,v,T,rfl,TT.same M,bx.kt (ac.kt M) _ _ hv,wf.ok,fun H2 S2=>⟨_,rfl,?_⟩⟩;have f2:=S2 _ _ f1;have go:∀(qs:Ze) (A:Hp),A q=some (.lst (qs.map V.ref))->Ways A qs (wrong1 f g w T)->ac H A->(ar (fe (pL K (au (aw (eV K) (au V1)))) (jR K 2 (bM U4 (bM U5 (jC)))) (aO (aq qS V3 (aw sp (cq V0 V5 (aq (Ap K) V2 (aW (au V4)))))) U3)) (aR V3)) (bq Q) [some (.ref t),some v,some (.ref wr),some (.ref q),none,none] A:=fun B A f3 h0 S3=>by
  refine⟨_,rfl,v,T,rfl,bx.kt (ac.kt S3) _ _ hv,wf.ok,fun il us H4 C a0 hU N=>⟨il,rfl,⟨_,aF.of C⟩,?_⟩⟩;have zu:us.length=(jB T).length:=by rw[Paired.length hU,Gt.dts_map,ao]
  let al:Nat->L2.St->Hp->Prop:=fun i σ G=>NE4 fun(l:Addr) (qs:Ze) (x4 x5:Option V)=>NA4 (σ=[some (.ref t),some v,some (.ref wr),some (.ref l),x4,x5]) (G l=some (.lst (qs.map V.ref))) (Ways G qs (wrong1 f g w T++wrGs f g w 0 ((jB T).take i))) (ac H4 G)
  refine i4 (xs:=us) al ⟨q,B,_,_,rfl,N _ _ f3,?_,ac.refl _⟩ (fun i σ G hi ⟨l,qs,_,_,_,_,_,S⟩=>aF.of (S _ _ C)) ?_ ?_
  ·show Ways H4 B (wrong1 f g w T++[]);rw[eM];exact h0.kt (ac.kt N)
  ·rintro i x σ G p hi ⟨l,qs,x4,x5,rfl,hl,D,S⟩ hp;obtain⟨d,hd,hx⟩:=Paired.getL hU hi;rw[Gt.dts_map,dj]at hd;obtain⟨P,hP,rfl⟩:=ib.1 hd;have O:=dw hP;have U:ac G (upd G p (.tup [.int (i:Nat),x])):=ac.new hp;have p5:upd G p (.tup [.int (i:Nat),x]) p=some (.tup [.int (i:Nat),x]):=aa;generalize upd G p (.tup [.int (i:Nat),x])=Y at U p5 ⊢;refine⟨p,_,rfl,bE.of p5,rfl,_,_,rfl,_,_,rfl,rfl,?_⟩;refine⟨_,rfl,_,rfl,_,rfl,_,rfl,_,rfl,(by show 1<=ai;decide),fun t1 an=>?_⟩;have S6:ac Y (upd Y t1 (.tup [.int (i:Nat)])):=ac.new an;have t6:upd Y t1 (.tup [.int (i:Nat)]) t1=some (.tup [.int (i:Nat)]):=aa;generalize upd Y t1 (.tup [.int (i:Nat)])=G6 at S6 t6 ⊢;have I:=((S3.trans N).trans S).trans (U.trans S6);refine DP (I _ _ hw) t6 (by omega) fun wt G7 as S7=>?_;have aC:=I.trans S7;have zh:=pJ hg P O;have zk:=KD P O;obtain⟨m,rfl⟩:∃m,n=m+1:=⟨n-1,by omega⟩;rw[ab m rfl];have a4:=pJ (ay T.hgt) P O;refine⟨t,l1,l2,l3,l4,ts,f,g,J4,ds,x,P,wt,w++[i],rfl,TT.same aC,bx.kt (ac.kt ((S.trans U).trans (S6.trans S7))) _ _ hx,(q_ wf).1 P O,by omega,by omega,as,by rw[aP];show w.length+1+P.hgt<=900;omega,fun l' J G8 aT L S8=>?_⟩;have u:=(U.trans S6).trans (S7.trans S8);have zt:(wrong1 f g w T++wrGs f g w 0 ((jB T).take (i+1))).length<=1000:=by
    refine bo ?_ (bo (Kc f g T w) zs);rw[CZ,aP,aP];refine Nat.add_le_add_left ?_ _;have e1:jB T=(jB T).take (i+1)++(jB T).drop (i+1):=(List.take_append_drop _ _).symm;have mono:∀(a b:List Gt) (j:Nat),(wrGs f g w j a).length<=(wrGs f g w j (a++b)).length:=fun a b=>by
     induction a with
     |nil=>intro j;exact cp _
     |cons y r ih=>intro j;show(wrG f g (w++[j]) y++wrGs f g w (j+1) r).length<=(wrG f g (w++[j]) y++wrGs f g w (j+1) (r++b)).length;rw[aP,aP];exact Nat.add_le_add_left (ih (j+1)) _
    conv=>rhs;rw[e1]
    exact mono _ _ 0
   have es:wrong1 f g w T++wrGs f g w 0 ((jB T).take (i+1))=(wrong1 f g w T++wrGs f g w 0 ((jB T).take i))++wrG f g (w++[i]) P:=by
    have il:i<(jB T).length:=(cV.1 hP).1;rw[take_snoc hP,zN,iR,aK,wU (df il),Nat.zero_add]
   rw[es]at zt;refine⟨l,l',_,_,rfl,rfl,u _ _ hl,aT,?_,fun nl aX=>?_⟩
   ·rw[ao,ao,Paired.length D,Paired.length L,<-aP];exact df (ax zt)
   have S9:ac G8 (upd G8 nl (.lst (qs.map V.ref++J.map V.ref))):=ac.new aX;refine⟨nl,qs++J,_,_,rfl,by rw[aa,aQ],?_,S.trans (u.trans S9)⟩;rw[es];exact Paired.app (D.kt (ac.kt (u.trans S9))) (L.kt (ac.kt S9))
  ·rintro σ G ⟨l,qs,x4,x5,rfl,hl,D,S⟩;rw[zu,cv,<-CZ]at D;exact⟨_,rfl,k l qs G hl D ((S3.trans N).trans S)⟩
 have z:=M.trans S2;cases c:soB f g T with
 |true =>
  refine aZ (go [] H2 f2 ?_ z);unfold wrong1;rw[if_pos c];exact .nil
 |false =>
  refine br ⟨_,rfl,.inl ⟨rfl,_,aF.of f2⟩,_,rfl,q,_,_,rfl,rfl,f2,(by show 0<ai;rw[vD];decide),?_⟩;refine go [wr] _ aa ?_ fun b o e=>by rw[am (ah e s)];exact z _ _ e
  unfold wrong1;rw[if_neg (by rw[c];decide)];exact .cons (by rw[am (ah hw s)];exact z _ _ hw) .nil
theorem Du(u:List Nat):∀x:List Nat,HT.lexLt (ju (x++u)) (ju x)=false
 |[]=>by cases u<;>rfl
 |c::x=>by
  show(if(c:Int)=(c:Int)then HT.lexLt (ju (x++u)) (ju x)else _)=false
  rw[if_pos rfl];exact Du u x
mutual
theorem Ar:∀(t:Gt) (w:List Nat) (s:List Sg),∀e∈fL w s t,∃u,e.way=w++u
 |.lf v,w,s,e,he=>by rw[eD.1 he];exact⟨[],(eM _).symm⟩
 |.nd a g f,w,s,e,he=>by
  rcases cz.1 he with rfl|he
  ·exact⟨[],(eM _).symm⟩
  ·obtain⟨j,u,_,h⟩:=preGs_pre f w s _ 0 e he;exact⟨_,h⟩
theorem preGs_pre:∀(f:List Gt) (w:List Nat) (s a:List Sg) (i:Nat),∀e∈preGs w s a i f,∃(j:Nat) (u:List Nat),i<=j/\e.way=w++j::u
 |[],_,_,_,_,e,he=>by cases he
 |p::f,w,s,a,i,e,he=>by
  rcases cG.1 he with he|he
  ·obtain⟨u,h⟩:=Ar p (w++[i]) (s++a.take 1) e he;exact⟨i,u,ay _,by rw[h,iR];rfl⟩
  ·obtain⟨j,u,g,k⟩:=preGs_pre f w s (a.drop 1) (i+1) e he;exact⟨j,u,Nat.le_of_succ_le g,k⟩
end
mutual
theorem vY:∀(t:Gt) (w:List Nat) (s:List Sg),(fL w s t).Pairwise fun x y=>HT.lexLt (ju y.way) (ju x.way)=false
 |.lf v,w,s=>List.pairwise_singleton _ _
 |.nd a i f,w,s=>by
  refine List.pairwise_cons.2 ⟨fun e g=>?_,preGs_rise f w s _ 0⟩;obtain⟨j,u,_,h⟩:=preGs_pre f w s _ 0 e g;rw[h];exact Du _ w
theorem preGs_rise:∀(e:List Gt) (w:List Nat) (s a:List Sg) (i:Nat),(preGs w s a i e).Pairwise fun x y=>HT.lexLt (ju y.way) (ju x.way)=false
 |[],_,_,_,_=>List.Pairwise.nil
 |p::e,w,s,a,i=>by
  show(fL _ _ p++preGs _ _ _ _ e).Pairwise _;refine List.pairwise_append.2 ⟨vY p _ _,preGs_rise e w s _ (i+1),fun x hx y f=>?_⟩;obtain⟨u,h⟩:=Ar p (w++[i]) (s++a.take 1) x hx;obtain⟨j,v,g,k⟩:=preGs_pre e w s (a.drop 1) (i+1) y f;exact(WLt.lex ⟨w,u,v,i,j,by rw[h,iR];rfl,k,g⟩).1
end
theorem FG{J0 J2:Zb}{T:Gt}:(wrG J0 J2 [] T)[0]?=(badE J0 J2 (fL [] [] T)).map fun e=>e.way:=by
 rw[<-xP J0 J2 T [] [],dj];unfold badE;rw[<-List.head?_filter,List.head?_eq_getElem?]
theorem Ig{f J2:Zb}{T:Gt}{h:List Nat}(g:(wrG f J2 [] T)[0]?=some h):∀(i:Nat) (w:List Nat),0<i->(wrG f J2 [] T)[i]?=some w->HT.lexLt (ju w) (ju h)=false:=by
 rw[<-xP f J2 T [] []]at g ⊢;have j:=(vY T [] []).filter (fun e=>!soB f J2 e.tr);generalize(fL [] [] T).filter (fun e=>!soB f J2 e.tr)=L at g j;intro i w hi k;rw[dj]at g k;obtain⟨a,l,rfl⟩:=ib.1 g;obtain⟨b,m,rfl⟩:=ib.1 k;obtain⟨n,o⟩:=cV.1 l;obtain⟨p,q⟩:=cV.1 m;have:=List.pairwise_iff_getElem.1 j 0 i n p hi;rw[o,q]at this;exact this
theorem FJ(w:List Nat):fH w=(ju w).map V.int:=by unfold fH ju;rw[tf];rfl
def K9(w:List Nat):DT:=.t (w.map Fw)
theorem vI{K:Za}{H:Hp}:∀{qs:Ze}{L:List (List Nat)},Ways H qs L->DIns K H (L.map K9) (qs.map V.ref)
 |_,_,.nil=>rfl
 |_,_,.cons h t=>⟨_,_,rfl,⟨_,_,rfl,bE.of h,zP _⟩,vI t⟩
theorem rG:∀L:List (List Nat),DT.depths (L.map K9)<=1
 |[]=>cp _
 |w::L=>by
  have a:DT.depths (w.map Fw)=0:=vJ w;have:=rG L;show max (DT.depths (w.map Fw)+1) (DT.depths (L.map K9))<=1;omega
inductive lJ(K:Za)(vs:List V)(H:Hp)(Q:VK)(E:XK):Prop
 |mk (t l1 l2 l3 l4:Addr) (ts:Ze) (J0 J2 J4:Zb) (ds:List aJ) (v:V) (T:Gt):(vs=[.ref t,v])->(gV H t l1 l2 l3 l4 ts J0 J2 J4 ds)->(bx K H T.dt v)->(T.wf)->(T.hgt<=12)->(refW J0 J2 T=none->∀H',ac H H'->Q .non H')->(∀w,refW J0 J2 T=some w->∀q H',H' q=some (.tup (fH w))->ac H H'->Q (.ref q) H')->lJ K vs H Q E
theorem Gq{K:Za}{M:List V}{H:Hp}{Q:VK}{E:XK}(h:lJ K M H Q E):z5 K (fJ K 12) (gP K 12) (gS K 12) (bq Q) (start Be M) H:=by
 obtain⟨t,l1,l2,l3,l4,ts,J0,J2,J4,ds,v,T,rfl,TT,A,wf,B,k0,N⟩:=h;have big:∀C:Hp,ac H C->(8<=T.hgt∨1000<T.sz)->(aR (aW (aU))) (bq Q) [some (.ref t),some v,none] C:=fun C S c=>⟨(by show 0<=ai;decide),fun q hq=>N [] (Ah c) q _ aa (S.trans (ac.new hq))⟩;refine⟨_,rfl,v,T,rfl,A,wf,B,fun H1 D=>⟨_,_,rfl,rfl,_,rfl,?_⟩⟩;by_cases c1:8<=T.hgt
 ·rw[zzr1 (by show(8:Int)<((T.hgt+1:Nat):Int);omega)];exact br (br (big H1 D (.inl c1)))
 rw[zzr0 (by show ¬(8:Int)<((T.hgt+1:Nat):Int);omega)];refine aZ ⟨_,rfl,v,T,rfl,bx.kt (ac.kt D) _ _ A,wf,B,fun j S2=>⟨_,_,rfl,rfl,_,rfl,?_⟩⟩;have k:=D.trans S2;by_cases c2:1000<T.sz
 ·rw[zzr1 (by show(1000:Int)<((T.sz:Nat):Int);omega)];exact br (big j k (.inr c2))
 rw[zzr0 (by show ¬(1000:Int)<((T.sz:Nat):Int);omega)];refine aZ ⟨_,rfl,_,rfl,(by show 0<=ai;decide),fun m G=>?_⟩;have O:ac j (upd j m (.tup (fH []))):=ac.new G;have U:upd j m (.tup (fH [])) m=some (.tup (fH [])):=aa;have e0:(.tup []:HO)=.tup (fH []):=rfl;rw[e0];generalize upd j m (.tup (fH []))=H3 at O U ⊢;have f:=k.trans O;refine⟨t,l1,l2,l3,l4,ts,J0,J2,J4,ds,v,T,m,[],rfl,TT.same f,bx.kt (ac.kt f) _ _ A,wf,B,by omega,U,by show 0+T.hgt<=900;omega,fun l qs n Y hW S4=>?_⟩;refine⟨_,rfl,(by show 0<=ai;decide),fun e he=>?_⟩;have o:ac n (upd n e (.lst [])):=ac.new he;have e5:upd n e (.lst []) e=some (.lst []):=aa;show k6 K (.ref l) (.ref e) (upd n e (.lst [])) _;generalize upd n e (.lst [])=x at o e5 ⊢;have g:=hW.kt (ac.kt o);have p:=(f.trans S4).trans o;refine⟨.s ((wrG J0 J2 [] T).map K9),.s [],⟨l,_,rfl,aF.of (o _ _ Y),vI g⟩,⟨e,_,rfl,aF.of e5,rfl⟩,?_,by decide,_,rfl,?_⟩
 ·show DT.depths _+1<=8;have:=rG (wrG J0 J2 [] T);omega
 rw[decide_eq_decide.mpr (show DT.s ((wrG J0 J2 [] T).map K9)=DT.s []↔wrG J0 J2 [] T=[]from⟨fun z=>sX.mp (by injection z),fun z=>by rw[z];rfl⟩)];have fst:=FG (J0:=J0) (J2:=J2) (T:=T);cases y:badE J0 J2 (fL [] [] T)with
 |none =>
  rw[y]at fst;have en:wrG J0 J2 [] T=[]:=by
   cases hz:wrG J0 J2 [] T with
   |nil=>rfl
   |cons a r=>rw[hz]at fst;cases fst
  rw[zzr1 en];exact br (k0 (vT (by omega) (by omega) y) x p)
 |some b =>
  rw[y]at fst;have fst:(wrG J0 J2 [] T)[0]?=some b.way:=fst;rw[zzr0 (fun z=>by rw[z]at fst;cases fst)];obtain⟨q0,I,J⟩:=Paired.get g fst;refine aZ ⟨_,rfl,l,qs,(wrG J0 J2 [] T).map ju,q0,ju b.way,rfl,aF.of (o _ _ Y),?_,I,by rw[dj,fst];rfl,fun i w hi hw=>?_,N b.way (Ai (by omega) (by omega) y) q0 x J p⟩
  ·have conv:∀{qs:Ze}{L:List (List Nat)},Ways x qs L->Paired (fun q w=>bE K x q (w.map V.int)) qs (L.map ju):=fun h=>by
    induction h with
    |nil=>exact .nil
    |cons r _ ih=>exact .cons (bE.of (by rw[<-FJ];exact r)) ih
   exact conv g
  ·rw[dj]at hw;obtain⟨u,hu,rfl⟩:=ib.1 hw;exact Ig fst i u hi hu
def HS(p:Str×Gt):DT:=dF p.1 p.2.dt
theorem xM:∀(a:Zb) (e:List Gt),dg dF a (Gt.dts e)=(a.zip e).map HS
 |[],_=>rfl
 |_::_,[]=>rfl
 |w::a,p::e=>by show dF w p.dt::dg dF a (Gt.dts e)=HS (w,p)::_;rw[xM a e];rfl
def wJ(K:Za)(H:Hp)(q:Addr)(L:List (Str×Gt)):Prop:=∃xs,aH K H q xs/\c7 K H xs (L.map HS)
theorem wJ.kt{K:Za}{H a:Hp}{q:Addr}{L:List (Str×Gt)}(k:gB H a)(h:wJ K H q L):wJ K a q L:=by
 obtain⟨xs,e,f⟩:=h;exact⟨xs,aH.kt k e,c7.kt k f⟩
def Ls(L:List (Str×Gt))(G:Gt):Gt:=.nd none (L.map p9) (L.map lb++[G])
def Ma(a:Str)(L:List (Str×Gt))(G:Gt):Gt:=.nd (some a) (L.map p9) (G::L.map lb)
theorem J_:∀L:List (Str×Gt),dg dF (L.map p9) (Gt.dts (L.map lb))=L.map HS
 |[]=>rfl
 |p::L=>by show dF p.1 p.2.dt::_=HS p::_;rw[J_ L];rfl
theorem GS{K:Za}{H:Hp}{L:List (Str×Gt)}{G:Gt}{u q:Addr}{x:V}(e:H u=some (.tup [.str "wait",.ref q,x]))(f:wJ K H q L)(hx:bx K H G.dt x):bx K H (Ls L G).dt (.ref u):=by
 obtain⟨xs,g,h⟩:=f;have a:(Gt.dts (L.map lb)).length=(L.map p9).length:=by rw[Gt.dts_map,ao,ao,ao]
 have i:Gt.dts (L.map lb++[G])=Gt.dts (L.map lb)++[G.dt]:=by rw[Gt.dts_map,aQ,<-Gt.dts_map];rfl
 show bx K H (cW (L.map p9) none (Gt.dts (L.map lb++[G]))) _;rw[i,fS (d:=G.dt) (by rw[<-a,qz (ay _),wQ];rfl),List.take_left' a,J_];exact⟨u,_,rfl,.inl e,_,_,rfl,iC _,_,_,rfl,⟨q,_,rfl,g,c7.all h⟩,_,_,rfl,hx,rfl⟩
theorem JJ{K:Za}{H:Hp}{L:List (Str×Gt)}{G:Gt}{a:Str}{u q:Addr}{x:V}(e:H u=some (.tup [.str "tell",.str a,x,.ref q]))(f:wJ K H q L)(hx:bx K H G.dt x):bx K H (Ma a L G).dt (.ref u):=by
 obtain⟨xs,g,h⟩:=f;show bx K H (cW (L.map p9) (some a) (G.dt::Gt.dts (L.map lb))) _;rw[fR (d:=G.dt) rfl,List.drop_one,List.tail_cons,J_];exact⟨u,_,rfl,.inl e,_,_,rfl,iC _,_,_,rfl,iC _,_,_,rfl,hx,_,_,rfl,⟨q,_,rfl,g,c7.all h⟩,rfl⟩
mutual
def Gt.few(n:Nat):Gt->Prop
 |.lf _=>True
 |.nd _ ws ps=>ws.length<=n/\Gt.fews n ps
def Gt.fews(n:Nat):List Gt->Prop
 |[]=>True
 |t::r=>Gt.few n t/\Gt.fews n r
end
theorem Gt.fews_mem{n:Nat}:∀{l:List Gt},Gt.fews n l↔∀t∈l,Gt.few n t
 |[]=>by simp[Gt.fews]
 |t::r=>by
  rw[Gt.fews,Gt.fews_mem (l:=r)];simp
mutual
theorem Gt.few_up{n m:Nat}(h:n<=m):∀t:Gt,t.few n->t.few m
 |.lf _,_=>trivial
 |.nd _ e a,z=>⟨bo z.1 h,Gt.fews_up h a z.2⟩
theorem Gt.fews_up{n m:Nat}(h:n<=m):∀l:List Gt,Gt.fews n l->Gt.fews m l
 |[],_=>trivial
 |t::r,z=>⟨Gt.few_up h t z.1,Gt.fews_up h r z.2⟩
end
structure Bd(n h:Nat)(T:Gt):Prop where
 wf:T.wf
 few:T.few n
 hg:T.hgt<=h
theorem Bd.up{n h a e:Nat}{T:Gt}(b:Bd n h T)(f:n<=a)(g:h<=e):Bd a e T:=⟨b.wf,Gt.few_up f T b.few,bo b.hg g⟩
theorem pS{n h:Nat}(w:Str):Bd n h (.lf w):=⟨trivial,trivial,cp _⟩
theorem Hg{n:Nat}:∀{l:List Gt},(∀t∈l,t.hgt<=n)->Gt.hgts l<=n
 |[],_=>cp _
 |t::r,h=>by
  have e:=h t fh;have f:=Hg fun q a=>h q (eK _ a);show max t.hgt (Gt.hgts r)<=n;omega
theorem AS{n h:Nat}{a:Option Str}{g:Zb}{i:List Gt}(j:n<=8)(e:i.length=g.length+1)(z:g.length<=n)(k:∀p∈i,Bd n h p):Bd n (h+1) (.nd a g i) :=
 ⟨⟨e,bo z j,Gt.wfs_mem.2 fun p f=>(k p f).wf⟩,⟨z,Gt.fews_mem.2 fun p f=>(k p f).few⟩,Nat.succ_le_succ (Hg fun p f=>(k p f).hg)⟩
theorem KO{n h:Nat}{L:List (Str×Gt)}{G:Gt}(a:n<=8)(z:L.length<=n)(k:∀p∈L,Bd n h p.2)(g:Bd n h G):Bd n (h+1) (Ls L G) :=
 AS a (by rw[aP,ao,ao];rfl) (by rw[ao];exact z) fun p hp=>by
  rcases cG.1 hp with hp|hp
  ·obtain⟨x,hx,rfl⟩:=bA.1 hp;exact k x hx
  ·rw[eD.1 hp];exact g
theorem LF{n h:Nat}{a:Str}{L:List (Str×Gt)}{G:Gt}(e:n<=8)(z:L.length<=n)(k:∀p∈L,Bd n h p.2)(g:Bd n h G):Bd n (h+1) (Ma a L G) :=
 AS e (by rw[dD,ao,ao]) (by rw[ao];exact z) fun p hp=>by
  rcases cz.1 hp with rfl|hp
  ·exact g
  ·obtain⟨x,hx,rfl⟩:=bA.1 hp;exact k x hx
theorem Bd.kid{n h:Nat}{a:Option Str}{g:Zb}{e:List Gt}(b:Bd n h (.nd a g e)):g.length<=n/\∀p∈e,Bd n h p/\p.hgt+1<=h:=by
 refine⟨b.few.1,fun p f=>?_⟩;have z:Gt.hgts e+1<=h:=b.hg;have:=my f;exact⟨⟨Gt.wfs_mem.1 b.wf.2.2 p f,Gt.fews_mem.1 b.few.2 p f,by omega⟩,by omega⟩
theorem c7.drop{K:Za}{H:Hp}{xs:List V}{L:List (Str×Gt)}(k:Nat)(h:c7 K H xs (L.map HS)):c7 K H (xs.drop k) ((L.drop k).map HS):=by
 have:=Paired.dropP k h;rw[<-tm]at this;exact this
theorem c7.take{K:Za}{H:Hp}{xs:List V}{L:List (Str×Gt)}(k:Nat)(h:c7 K H xs (L.map HS)):c7 K H (xs.take k) ((L.take k).map HS):=by
 have:=Paired.takeP k h;rw[<-tq]at this;exact this
theorem Jx{K:Za}{H:Hp}{q:Addr}{L:List (Str×Gt)}{Q:VK}(k:Nat)(h:wJ K H q L)(e:∀f a,wJ K a f (L.take k)->ac H a->Q (.ref f) a):mM K (.ref q) none (some (k:Int)) H Q:=by
 obtain⟨xs,g,i⟩:=id h;have l:xs.length=L.length:=by rw[Paired.length i,ao]
 by_cases c:xs.length<=k
 ·refine .inr ⟨q,xs,rfl,aH.sq g,rfl,by rw[HT.sIx_nat];exact wS c,e q H ?_ (ac.refl _)⟩;rw[jr (by omega)];exact h
 ·refine .inl ⟨q,xs,rfl,aH.sq g,fun z=>?_,fun p j=>?_⟩
  ·have:=z.2;rw[HT.sIx_nat]at this;omega
  ·rw[Hy];have S:=ac.new (o:=.tup (xs.take k)) j;exact e p _ ⟨_,.inl aa,c7.kt (ac.kt S) (c7.take k i)⟩ S
theorem C_{K:Za}{H:Hp}{q:Addr}{L:List (Str×Gt)}{Q:VK}(k:Nat)(h:wJ K H q L)(e:∀f a,wJ K a f (L.drop k)->ac H a->Q (.ref f) a):mM K (.ref q) (some (k:Int)) none H Q:=by
 obtain⟨xs,g,i⟩:=id h;have l:xs.length=L.length:=by rw[Paired.length i,ao]
 by_cases c:min k xs.length=0
 ·refine .inr ⟨q,xs,rfl,aH.sq g,by rw[HT.sIx_nat];exact c,rfl,e q H ?_ (ac.refl _)⟩;have:L.drop k=L:=by
   rcases Nat.eq_zero_or_pos k with z|z
   ·rw[z];rfl
   ·have:L.length=0:=by omega
    rw[wV this];exact List.drop_nil
  rw[this];exact h
 ·refine .inl ⟨q,xs,rfl,aH.sq g,fun z=>?_,fun p j=>?_⟩
  ·have:=z.1;rw[HT.sIx_nat]at this;omega
  ·rw[kL];have S:=ac.new (o:=.tup (xs.drop k)) j;exact e p _ ⟨_,.inl aa,c7.kt (ac.kt S) (c7.drop k i)⟩ S
theorem Cq{K:Za}{H:Hp}{q a:Addr}{L f:List (Str×Gt)}{Q:VK}(h:wJ K H q L)(k:wJ K H a f)(z:L.length+f.length<=1000)(i:∀u j,wJ K j u (L++f)->ac H j->Q (.ref u) j):m7 K (.ref q) (.ref a) H Q:=by
 obtain⟨xs,m,n⟩:=id h;obtain⟨g,p,r⟩:=id k;have s:xs.length=L.length:=by rw[Paired.length n,ao]
 have t:g.length=f.length:=by rw[Paired.length r,ao]
 by_cases c:xs=[]
 ·subst c;refine .inr ⟨q,a,g,rfl,rfl,aH.sq m,aH.sq p,i a H ?_ (ac.refl _)⟩;rw[wV (l:=L) s.symm];exact k
 ·refine .inl ⟨q,a,xs,g,rfl,rfl,aH.sq m,aH.sq p,c,df (ax (by omega)),fun e=>?_,fun e u v=>?_⟩
  ·refine i q H ?_ (ac.refl _);subst e;rw[wV (l:=f) t.symm,eM];exact h
  ·have S:=ac.new (o:=.tup (xs++g)) v;refine i u _ ⟨_,.inl aa,?_⟩ S;rw[aQ];exact Paired.app (c7.kt (ac.kt S) n) (c7.kt (ac.kt S) r)
theorem atS{ws:Zb}{r:Int}(a:0<=r)(f:r<(ws.length:Int)):∃w,vv (ws.map V.str) r=some (.str w):=by
 obtain⟨j,rfl⟩:=ia a;obtain⟨w,e⟩:∃w,ws[j]?=some w:=⟨_,bI (by omega)⟩;exact⟨w,aM (by rw[dj,e];rfl)⟩
theorem wA{K:Za}{σ:L2.St}{h:Hp}{l s:Addr}{j:Zb}{Q:Hp->Prop}(m:h s=some (.lst (j.map V.str)))(G:j.length<=4)(t:h l=none)(k:∀(a:List V) (f:Hp),f l=some (.lst a)->c7 K f a (dz j.length (k7 cu))->ac h f->Q f):
  cP 1 [] σ (Fz K s) U0 (d6) (aW (au (tC (.str "end")))) h l Q:=by
 let r:Nat->List V->Hp->Prop:=fun i a f=>ac h f/\f l=some (.lst a)/\c7 K f a (dz i (k7 cu))
 refine eA (xs:=j.map V.str) r ⟨ac.new t,aa,.nil⟩ (fun i a f _ y=>by obtain⟨S,z,_⟩:=y;exact⟨z,aF.of (S _ _ m)⟩) ?_ ?_
 ·rintro a g ⟨A,m,n⟩;rw[ao]at n;exact k a g m n A
 ·rintro i a g x hx hi ⟨S,m,n⟩;obtain⟨w,B,rfl⟩:=cX hx;have C:i<j.length:=(cV.mp B).1;refine gN (lA ⟨(by show 1<=ai;decide),fun q D=>?_⟩);have p:ac g (upd g q (.tup (cu.map V.str))):=ac.new D;have u:upd g q (.tup (cu.map V.str)) q=some (.tup (cu.map V.str)):=aa;have E:(.tup [.str "end"]:HO)=.tup (cu.map V.str):=rfl;rw[E];generalize upd g q (.tup (cu.map V.str))=H at p u ⊢;have v:=p _ _ m;have kt:=fo (o:=.lst (a++[.ref q])) v;have I:a.length=i:=by rw[Paired.length n,fG]
  refine⟨v,ax (by omega),vn hi ⟨fun b o e=>by rw[am (ah e t)];exact p _ _ (S _ _ e),aa,?_⟩⟩;rw[wM];exact eE (c7.kt (fun b xs e=>kt _ _ (ac.kt p _ _ e)) n) (jv (.inl (kt _ _ u)))
def yW(J2:Zb):List (Str×Gt):=J2.map fun w=>(w,.lf "end")
theorem md(g:Gt):∀a:List Str,dg dF a (dz a.length g.dt)=(a.map fun w=>(w,g)).map HS
 |[]=>rfl
 |w::r=>by show dF w _::dg dF r (dz r.length _)=_;rw[md g r];rfl
abbrev KP(K:Za)(sp_law_take:Sp):TS :=
 (ar (bQ (aV (aq yB V4 (tC (.int 6)))) (ar (bQ (aV (aq iL (aw sp_law_take (aE V0 (tC (.int 2)))) (tC (.int 0)))) (aR (aW (cq (tC (.str "wait")) V3 V2))) (ba))
 (aR (aW (aj (tC (.str "tell")) (aj (aq (bF K) (aq (bg K) V1 (tC (.int 0))) (aw sp_law_take (aj V0 (aj (cS (cK K) (au (aq (bg K) V1 (tC (.int 0))))) aU)))) (aE V2 V3)))))) (ba))
 (ar (bQ (aV (aq yB V4 (tC (.int 8)))) (aR (aW (aj (tC (.str "tell")) (aj (aq (bF K) (bW (cq (aq (bF K) (aq (bg K) V1 (tC (.int 1))) (tC (.int 0))) (tC (.str "q")) (tC (.str "tell")))) (aw sp_law_take (aE V0 (tC (.int 3))))) (aE V2 V3))))) (ba))
 (aR (aW (aj (aq (bF K) (bW (aj (tC (.str "stop")) (aj (tC (.str "tell")) (cq (tC (.str "wait")) (tC (.str "ends")) (tC (.str "")))))) (aw sp_law_take (aE V0 (tC (.int 5))))) aU)))))
theorem AT{K:Za}{σ:L2.St}{H:Hp}{Q:VK}{p c t e s u v:Addr}{x:Ze}{f j l:Zb}{n:List aJ}(y:σ[0]?=some (some (.ref p)))(o:σ[1]?=some (some (.ref t)))(q:dW H p c)(T:gV H t e s u v x f j l n)(m:cy f j l n)(k:∀a h,dW h p c->cQ p H h->Q (.str a) h):
  (aq (bF K) (aq (bg K) V1 (tC (.int 0))) (aw bB (aj V0 (aj (cS (cK K) (au (aq (bg K) V1 (tC (.int 0))))) aU)))) σ H Q:=by
 have D:=m.asks4;have E:0<f.length:=ng.2 m.asks0;refine⟨_,o,t,_,0,.ref e,rfl,rfl,bE.of T.t,rfl,_,y,_,o,t,_,0,.ref e,rfl,rfl,bE.of T.t,rfl,.inl ⟨e,_,rfl,.inl (aF.of T.a1),p,c,f.length,(by rw[ao];rfl),q,by omega,by omega,fun r z A B i g=>?_⟩⟩;obtain⟨w,C⟩:=atS (ws:=f) A B;exact⟨e,_,r,.str w,rfl,rfl,aF.of (g _ _ T.a1 (q.ne_strs T.a1)),C,k w z i g⟩
inductive jJ(K:Za)(vs:List V)(H:Hp)(Q:VK)(E:XK):Prop
 |mk (p c t l1 l2 l3 l4:Addr) (ts:Ze) (J0 J2 J4:Zb) (ds:List aJ) (v:V) (T:Gt) (n h:Nat):(vs=[.ref p,.ref t,v])->(dW H p c)->(gV H t l1 l2 l3 l4 ts J0 J2 J4 ds)->(cy J0 J2 J4 ds)->(bx K H T.dt v)->(Bd n h T)->(4<=n)->(n<=7)->(∀v' T' H',bx K H' T'.dt v'->Bd (n+1) (h+1) T'->dW H' p c->cQ p H H'->Q v' H')->jJ K vs H Q E
theorem EI{K:Za}{vs:List V}{H:Hp}{Q:VK}{E:XK}(h:jJ K vs H Q E):xX K bB (dO K) (bq Q) (start zz vs) H:=by
 obtain⟨p,c,t,l1,l2,l3,l4,ts,J0,J2,J4,ds,v,T,n,h,rfl,hp,TT,m,hv,bd,n4,n7,k⟩:=h;have z2:=m.says4;have zs:0<J2.length:=ng.2 m.says0;have as:∀{H':Hp},cQ p H H'->gB H H':=fun{H'} ex=>by obtain⟨xs,hx⟩:=hp.lst;exact ex.kt hx
 have bi:Bd (n+1) h T:=bd.up (j4 _) (ay _);have b4:∀(f:Int) (q:Addr) (L:List (Str×Gt)) (H':Hp) (x5:Option V),0<=f->f<9->wJ K H' q L->L.length<=n+1->(∀y∈L,Bd (n+1) h y.2)->dW H' p c->cQ p H H'->KP K bB (bq Q) [some (.ref p),some (.ref t),some v,some (.ref q),some (.int f),x5] H':=fun f q L H' x5 w0 w9 hq zl bl s ex=>by
  have T':=TT.ex hp ex;refine⟨_,rfl,_,_,rfl,rfl,_,rfl,?_⟩;by_cases c6:f<6
  ·rw[zzr1 c6];refine br ⟨_,rfl,cc s (by decide) (by decide) fun r H1 r0 r2 U N=>⟨rfl,_,rfl,?_⟩⟩;have x:=ex.trans N;have aC:gB H' H1:=by obtain⟨xs,hx⟩:=s.lst;exact N.kt hx
   refine pK (fun _=>?_) (fun _=>?_)
   ·refine⟨_,rfl,_,rfl,(by show 3<=ai;decide),fun u hu=>?_⟩;have S:=ac.new (o:=.tup [.str "wait",.ref q,v]) hu;exact k _ (Ls L T) _ (GS aa ((hq.kt aC).kt (ac.kt S)) (bx.kt (fun b xs e=>ac.kt S _ _ (as x _ _ e)) _ _ hv)) (KO (by omega) zl bl bi) (U.ex S) (x.trans (ac.exB S))
   ·refine AT rfl rfl U (T'.ex s N) m fun a Y A B=>?_;have D:=x.trans B;have bm:gB H1 Y:=by obtain⟨xs,hx⟩:=U.lst;exact B.kt hx
    refine⟨_,rfl,_,rfl,(by show 4<=ai;decide),fun u hu=>?_⟩;have S:=ac.new (o:=.tup [.str "tell",.str a,v,.ref q]) hu;exact k _ (Ma a L T) _ (JJ aa (((hq.kt aC).kt bm).kt (ac.kt S)) (bx.kt (fun b xs e=>ac.kt S _ _ (as D _ _ e)) _ _ hv)) (LF (by omega) zl bl bi) (A.ex S) (D.trans (ac.exB S))
  rw[zzr0 c6];refine aZ ⟨_,rfl,_,_,rfl,rfl,_,rfl,?_⟩;by_cases c8:f<8
  ·rw[zzr1 c8];obtain⟨s0,ck⟩:∃w,J2[0]?=some w:=⟨_,bI zs⟩;refine br ⟨_,rfl,t,_,1,.ref l2,rfl,rfl,bE.of T'.t,rfl,l2,_,0,.str s0,rfl,rfl,aF.of T'.a2,aM (j:=0) (by rw[dj,ck];rfl),(by show 3<=ai;decide),fun g i=>?_⟩;have S1:ac H' (upd H' g (.lst (([s0,"q","tell"]:Zb).map V.str))):=ac.new i;have e1:upd H' g (.lst (([s0,"q","tell"]:Zb).map V.str)) g=some (.lst (([s0,"q","tell"]:Zb).map V.str)):=aa;have e0:(.lst [.str s0,.str "q",.str "tell"]:HO)=.lst (([s0,"q","tell"]:Zb).map V.str):=rfl;rw[e0];generalize upd H' g (.lst (([s0,"q","tell"]:Zb).map V.str))=H1 at S1 e1 ⊢;refine⟨_,rfl,cc (s.ex S1) (by decide) (by decide) fun r Y r0 r2 A B=>?_⟩;obtain⟨w,hw⟩:=atS (ws:=[s0,"q","tell"]) r0 r2;have np:g≠p:=(s.nep i).symm;have D:=(ex.trans (ac.exB S1)).trans B;have bm:gB H' Y:=fun b xs e=>by obtain⟨ys,hy⟩:=(s.ex S1).lst;exact B.kt hy _ _ (ac.kt S1 _ _ e)
   refine⟨g,_,r,.str w,rfl,rfl,aF.of (B _ _ e1 np),hw,_,rfl,_,rfl,(by show 4<=ai;decide),fun u hu=>?_⟩;have S:=ac.new (o:=.tup [.str "tell",.str w,v,.ref q]) hu;exact k _ (Ma w L T) _ (JJ aa ((hq.kt bm).kt (ac.kt S)) (bx.kt (fun b xs e=>ac.kt S _ _ (as D _ _ e)) _ _ hv)) (LF (by omega) zl bl bi) (A.ex S) (D.trans (ac.exB S))
  rw[zzr0 c8];refine aZ ⟨(by show 5<=ai;decide),fun g i=>?_⟩;have S1:ac H' (upd H' g (.lst ((["stop","tell","wait","ends",""]:Zb).map V.str))):=ac.new i;have e1:upd H' g (.lst ((["stop","tell","wait","ends",""]:Zb).map V.str)) g=some (.lst ((["stop","tell","wait","ends",""]:Zb).map V.str)):=aa;have e0:(.lst [.str "stop",.str "tell",.str "wait",.str "ends",.str ""]:HO)=.lst ((["stop","tell","wait","ends",""]:Zb).map V.str):=rfl;rw[e0];generalize upd H' g (.lst ((["stop","tell","wait","ends",""]:Zb).map V.str))=H1 at S1 e1 ⊢;refine⟨_,rfl,cc (s.ex S1) (by decide) (by decide) fun r Y r0 r2 A B=>?_⟩;obtain⟨w,hw⟩:=atS (ws:=["stop","tell","wait","ends",""]) r0 r2;have np:g≠p:=(s.nep i).symm;refine⟨g,_,r,.str w,rfl,rfl,aF.of (B _ _ e1 np),hw,(by show 1<=ai;decide),fun u hu=>?_⟩;have S:=ac.new (o:=.tup [.str w]) hu;exact k _ (.lf w) _ (jv (.inl aa)) (pS w) (A.ex S) (((ex.trans (ac.exB S1)).trans B).trans (ac.exB S))
 refine⟨_,rfl,t,_,1,.ref l2,rfl,rfl,bE.of TT.t,rfl,_,rfl,t,_,1,.ref l2,rfl,rfl,bE.of TT.t,rfl,l2,rfl,⟨_,aF.of TT.a2⟩,fun l hl=>?_⟩;refine wA TT.a2 z2 hl fun us Y h2 hP S2=>?_;refine⟨l2,l,J2,us,_,rfl,S2 _ _ TT.a2,h2,hP,by rw[fG];exact ay _,by omega,fun q xs H3 bn a5 S3=>?_⟩;rw[jr (by rw[fG];exact ay _),show k7 cu=(Gt.lf "end").dt from rfl,md]at a5;have b6:=S2.trans S3;have b7:=hp.ex b6;refine⟨_,rfl,cc b7 (by decide) (by decide) fun f C w0 w9 aT O=>?_⟩;have J:=(ac.exB b6 (p:=p)).trans O;have T4:=TT.ex hp J;have a6:gB H3 C:=by obtain⟨ys,hy⟩:=b7.lst;exact O.kt hy
 have cl:wJ K C q (yW J2):=⟨xs,.inl (a6 _ _ bn),c7.kt a6 a5⟩;have ze:(yW J2).length=J2.length:=ao _;have be:∀y∈yW J2,Bd (n+1) h y.2:=fun y hy=>by obtain⟨w,_,rfl⟩:=bA.1 hy;exact pS _
 have ab:=bx.kt (as J) _ _ hv;have mid:∀(q:Addr) (L:List (Str×Gt)) (H':Hp),wJ K H' q L->L.length<=n+1->(∀y∈L,Bd (n+1) h y.2)->dW H' p c->cQ p H H'->(f=3->L=yW J2)->(ar (bQ (aV (aq iL V4 (tC (.int 3)))) (ar (aO (aw bB (aE V0 (cS (cK K) (au V3)))) U5)
   (aO (aq (m7 K) (aq (m7 K) (sI (mM K) V3 (cg) (dX V5)) (aW (aj (aW (aj (aq (bF K) (bW (cq (aq (bF K) (aq (bg K) V1 (tC (.int 0))) (tC (.int 0))) (tC (.str "q")) (tC (.str "Q")))) (aw bB (aE V0 (tC (.int 3))))) (au (aW (au (tC (.str "blame"))))))) aU))) (sI (mM K) V3 (dX (aq cN V5 (tC (.int 1)))) (cg))) U3)) (ba)) (KP K bB)) (bq Q) [some (.ref p),some (.ref t),some v,some (.ref q),some (.int f),none] H':=fun q L H' hq zl bl s ex e3=>by
  refine⟨_,rfl,rfl,_,rfl,?_⟩;by_cases c3:f=3;rotate_left
  ·rw[zzr0 (fun z=>c3 (by injection z))];exact aZ (b4 f q L H' _ w0 w9 hq zl bl s ex)
  rw[zzr1 (by rw[c3])];have eL:=e3 c3;subst eL;obtain⟨xs,g1,g2⟩:=id hq;have zx:xs.length=J2.length:=by rw[Paired.length g2,ao];exact ze
  refine br ⟨_,rfl,_,rfl,.inl ⟨q,xs,rfl,.inr (aH.sq g1),p,c,J2.length,(by rw[zx];rfl),s,by omega,by omega,fun dc H1 a0 a1 U N=>?_⟩⟩;obtain⟨j,rfl⟩:=ia a0;have aC:gB H' H1:=by obtain⟨ys,hy⟩:=s.lst;exact N.kt hy
  have aX:=hq.kt aC;have x:=ex.trans N;have T1:=TT.ex hp x;refine⟨_,rfl,_,rfl,_,rfl,Jx j aX fun q1 Y bG S2=>?_⟩;have T2:=T1.same S2;obtain⟨a',cm⟩:∃a,J0[0]?=some a:=⟨_,bI (ng.2 m.asks0)⟩;refine⟨_,rfl,t,_,0,.ref l1,rfl,rfl,bE.of T2.t,rfl,l1,_,0,.str a',rfl,rfl,aF.of T2.a1,aM (j:=0) (by rw[dj,cm];rfl),(by show 3<=ai;decide),fun g i=>?_⟩;have S3:ac Y (upd Y g (.lst (([a',"q","Q"]:Zb).map V.str))):=ac.new i;have e3:upd Y g (.lst (([a',"q","Q"]:Zb).map V.str)) g=some (.lst (([a',"q","Q"]:Zb).map V.str)):=aa;have e0:(.lst [.str a',.str "q",.str "Q"]:HO)=.lst (([a',"q","Q"]:Zb).map V.str):=rfl;rw[e0];have A:=U.ex S2;have np:g≠p:=(A.nep i).symm;generalize upd Y g (.lst (([a',"q","Q"]:Zb).map V.str))=H3 at S3 e3 ⊢;refine⟨_,rfl,cc (A.ex S3) (by decide) (by decide) fun r C r0 r2 aT O=>?_⟩;obtain⟨w,hw⟩:=atS (ws:=[a',"q","Q"]) r0 r2;have b8:gB Y C:=fun b xs e=>by obtain⟨ys,hy⟩:=(A.ex S3).lst;exact O.kt hy _ _ (ac.kt S3 _ _ e)
  refine⟨g,_,r,.str w,rfl,rfl,aF.of (O _ _ e3 np),hw,(by show 1<=ai;decide),fun G cn=>?_⟩;have I:ac C (upd C G (.tup (cJ.map V.str))):=ac.new cn;have b5:upd C G (.tup (cJ.map V.str)) G=some (.tup (cJ.map V.str)):=aa;have f0:(.tup [.str "blame"]:HO)=.tup (cJ.map V.str):=rfl;rw[f0];generalize upd C G (.tup (cJ.map V.str))=M at I b5 ⊢;refine⟨(by show 2<=ai;decide),fun pr co=>?_⟩;have S6:ac M (upd M pr (.tup [.str w,.ref G])):=ac.new co;have p6:upd M pr (.tup [.str w,.ref G]) pr=some (.tup [.str w,.ref G]):=aa;generalize upd M pr (.tup [.str w,.ref G])=H6 at S6 p6 ⊢;refine⟨(by show 1<=ai;decide),fun tp cs=>?_⟩;have S7:ac H6 (upd H6 tp (.tup [.ref pr])):=ac.new cs;have t7:upd H6 tp (.tup [.ref pr]) tp=some (.tup [.ref pr]):=aa;generalize upd H6 tp (.tup [.ref pr])=H7 at S7 t7 ⊢;have bN:=I.trans (S6.trans S7);have ct:wJ K H7 q1 ((yW J2).take j):=(bG.kt b8).kt (ac.kt bN);have cB:wJ K H7 tp [(w,.lf "blame")]:=⟨_,.inl t7,.cons ⟨pr,_,rfl,.inl (S7 _ _ p6),_,_,rfl,iC _,_,_,rfl,jv (.inl ((S6.trans S7) _ _ b5)),rfl⟩ .nil⟩;refine Cq ct cB (by rw[aK,ze];show _+1<=1000;omega) fun q2 H8 cC S8=>?_;have c0:wJ K H8 q (yW J2):=aX.kt fun b xs e=>ac.kt S8 _ _ (ac.kt bN _ _ (b8 _ _ (ac.kt S2 _ _ e)));refine⟨_,rfl,_,rfl,_,_,rfl,rfl,_,rfl,?_⟩;show mM K (.ref q) (some ((j+1:Nat):Int)) none H8 _;refine C_ (j+1) c0 fun q3 H9 c1 S9=>?_;refine Cq (cC.kt (ac.kt S9)) c1 (by rw[aP,aK,cA,ze];show _+1+_<=1000;omega) fun q4 al b9 an=>?_;have a7:=bN.trans ((S8.trans S9).trans an);have j1:j<J2.length:=by omega
  refine b4 f q4 _ al _ w0 w9 b9 ?_ (fun y hy=>?_) (aT.ex a7) ((((x.trans (ac.exB S2)).trans (ac.exB S3)).trans O).trans (ac.exB a7))
  ·rw[aP,aP,aK,cA,ze];show _+1+_<=n+1;omega
  ·rcases cG.1 hy with hy|hy
   ·rcases cG.1 hy with hy|hy
    ·exact be y (gG hy)
    ·rw[eD.1 hy];exact pS _
   ·exact be y (lg hy)
 have skip:=mid q (yW J2) C cl (by omega) be aT J fun _=>rfl;refine⟨_,rfl,_,_,rfl,rfl,_,rfl,?_⟩;by_cases c3:f<3;rotate_left
 ·rw[zzr0 c3];exact aZ (aZ skip)
 rw[zzr1 c3];refine br ?_;cases T with
 |lf w =>
  obtain⟨b,rfl,ht⟩:=pI ab;exact⟨_,rfl,.inl ⟨b,_,rfl,.inr (aH.sq ht),_,_,rfl,rfl,_,rfl,aZ skip⟩⟩
 |nd a ws ps =>
  have e1:ps.length=ws.length+1:=bd.wf.1;obtain⟨zw,bk⟩:=bd.kid;have zd:(Gt.dts ps).length=ws.length+1:=by rw[Gt.dts_map,ao,e1]
  have ab:bx K C (cW ws a (Gt.dts ps)) v:=ab;have three:∀(qo:Addr) (L:List (Str×Gt)) (M:Hp),wJ K M qo L->L.length<=n->(∀y∈L,Bd (n+1) h y.2)->ac C M->(aO (aq (bF K) (bW (aj (sI (mM K) V3 (dX (tC (.int 1))) (cg)) (aj (FU K V3) (aj (aq (m7 K) V3 (sI (mM K) V3 (cg) (dX (tC (.int 1))))) aU)))) V4) U3) { nx:=(ar (bQ (aV (aq iL V4 (tC (.int 3)))) (ar (aO (aw bB (aE V0 (cS (cK K) (au V3)))) U5)
   (aO (aq (m7 K) (aq (m7 K) (sI (mM K) V3 (cg) (dX V5)) (aW (aj (aW (aj (aq (bF K) (bW (cq (aq (bF K) (aq (bg K) V1 (tC (.int 0))) (tC (.int 0))) (tC (.str "q")) (tC (.str "Q")))) (aw bB (aE V0 (tC (.int 3))))) (au (aW (au (tC (.str "blame"))))))) aU))) (sI (mM K) V3 (dX (aq cN V5 (tC (.int 1)))) (cg))) U3)) (ba)) (KP K bB)) (bq Q),rt:=Q } [some (.ref p),some (.ref t),some v,some (.ref qo),some (.int f),none] M:=fun qo L M cb zL bL I=>by
   refine⟨_,rfl,_,rfl,?_⟩;show mM K (.ref qo) (some ((1:Nat):Int)) none M _;refine C_ 1 cb fun q1 H6 aX S6=>?_;have a8:=cb.kt (ac.kt S6);obtain⟨xo,o1,o2⟩:=id a8;refine⟨_,rfl,qo,xo,rfl,aH.sq o1,fun q2 bG=>?_⟩;have S7:ac H6 (upd H6 q2 (.tup xo.reverse)):=ac.new bG;have ce:wJ K (upd H6 q2 (.tup xo.reverse)) q2 L.reverse:=⟨_,.inl aa,by rw[List.map_reverse];exact Paired.rev (c7.kt (ac.kt S7) o2)⟩;generalize upd H6 q2 (.tup xo.reverse)=H7 at S7 ce ⊢;have a9:=a8.kt (ac.kt S7);refine⟨_,rfl,_,rfl,_,rfl,?_⟩;show mM K (.ref qo) none (some ((1:Nat):Int)) H7 _;refine Jx 1 a9 fun q3 H8 bn S8=>?_;refine Cq (a9.kt (ac.kt S8)) bn (by rw[aK];omega) fun q4 H9 c2 S9=>⟨(by show 3<=ai;decide),fun g i=>?_⟩;have an:ac H9 (upd H9 g (.lst [.ref q1,.ref q2,.ref q4])):=ac.new i;have a4:upd H9 g (.lst [.ref q1,.ref q2,.ref q4]) g=some (.lst [.ref q1,.ref q2,.ref q4]):=aa;generalize upd H9 g (.lst [.ref q1,.ref q2,.ref q4])=al at an a4 ⊢;have bP:=(S8.trans S9).trans an;have c4:=(S6.trans S7).trans bP;have ch:=I.trans c4;have bT:=aT.ex ch;have b0:=J.trans (ac.exB ch (p:=p));have b2:f=3->∀L:List (Str×Gt),L=yW J2:=fun z=>by omega
   refine⟨_,rfl,?_⟩;have:f=0∨f=1∨f=2:=by omega
   rcases this with e|e|e
   ·refine⟨g,_,f,.ref q1,rfl,rfl,aF.of a4,by rw[e];rfl,mid q1 _ al (aX.kt (ac.kt (S7.trans bP))) (by rw[cA];omega) (fun y hy=>bL y (lg hy)) bT b0 fun z=>b2 z _⟩
   ·refine⟨g,_,f,.ref q2,rfl,rfl,aF.of a4,by rw[e];rfl,mid q2 _ al (ce.kt (ac.kt bP)) (by rw[jY];omega) (fun y hy=>bL y (wN.1 hy)) bT b0 fun z=>b2 z _⟩
   ·refine⟨g,_,f,.ref q4,rfl,rfl,aF.of a4,by rw[e];rfl,mid q4 _ al (c2.kt (ac.kt an)) (by rw[aP,aK];omega) (fun y hy=>bL y ((cG.1 hy).elim id gG)) bT b0 fun z=>b2 z _⟩
  have ci:∀y∈ps,Bd (n+1) h y:=fun y hy=>(bk y hy).1.up (j4 _) (ay _);cases a with
  |some a =>
   obtain⟨b,x2,b3,dd,d0,rfl,ht,c5,h2,h3,ec⟩:=oR zd ab;refine⟨_,rfl,.inl ⟨b,_,rfl,.inr (aH.sq ht),_,_,rfl,rfl,_,rfl,br ?_⟩⟩;refine⟨_,rfl,_,rfl,b,_,-1,.ref b3,rfl,rfl,aH.sq ht,rfl,_,rfl,b,_,1,.str a,rfl,rfl,aH.sq ht,rfl,(by show 2<=ai;decide),fun g i=>?_⟩;have I:ac C (upd C g (.lst [.ref b3,.str a])):=ac.new i;have l5:upd C g (.lst [.ref b3,.str a]) g=some (.lst [.ref b3,.str a]):=aa;generalize upd C g (.lst [.ref b3,.str a])=M at I l5 ⊢;refine⟨_,rfl,b,_,0,_,rfl,rfl,aH.sq (aH.kt (ac.kt I) ht),rfl,rfl,.inr ⟨_,rfl,?_⟩⟩;refine⟨g,_,0,.ref b3,rfl,rfl,aF.of l5,rfl,?_⟩;rw[Gt.dts_map,<-tm,<-Gt.dts_map,xM]at h3;exact three b3 _ M ⟨_,aH.kt (ac.kt I) c5,c7.kt (ac.kt I) h3⟩ (by rw[lc];omega) (fun y hy=>ci _ (lg (tU hy).2)) I
  |none =>
   obtain⟨b,G,di,x2,d0,rfl,ht,c9,h2,h3,ec⟩:=oQ zd ab;refine⟨_,rfl,.inl ⟨b,_,rfl,.inr (aH.sq ht),_,_,rfl,rfl,_,rfl,br ?_⟩⟩;refine⟨_,rfl,_,rfl,b,_,-1,x2,rfl,rfl,aH.sq ht,rfl,_,rfl,b,_,1,.ref G,rfl,rfl,aH.sq ht,rfl,(by show 2<=ai;decide),fun g i=>?_⟩;have I:ac C (upd C g (.lst [x2,.ref G])):=ac.new i;have l5:upd C g (.lst [x2,.ref G]) g=some (.lst [x2,.ref G]):=aa;generalize upd C g (.lst [x2,.ref G])=M at I l5 ⊢;refine⟨_,rfl,b,_,0,_,rfl,rfl,aH.sq (aH.kt (ac.kt I) ht),rfl,rfl,.inr ⟨_,rfl,?_⟩⟩;refine⟨g,_,1,.ref G,rfl,rfl,aF.of l5,rfl,?_⟩;rw[Gt.dts_map,<-tq,<-Gt.dts_map,xM]at h3;exact three G _ M ⟨_,aH.kt (ac.kt I) c9,c7.kt (ac.kt I) h3⟩ (by rw[lc];omega) (fun y hy=>ci _ (gG (tU hy).2)) I
theorem AF:∀(h:Nat) (T:Gt),T.hgt<=h->T.dt.depth<=dB h
 |h,.lf w,_=>by show(k7 [w]).depth<=_;rw[fE];exact Hu h
 |0,.nd a g e,f=>absurd f (by show ¬Gt.hgts e+1<=0;omega)
 |h+1,.nd a g e,f=>by
  have f:Gt.hgts e+1<=h+1:=f;show(cW g a (Gt.dts e)).depth<=dB h+3;refine zS (Hu h) fun p i=>?_;rw[Gt.dts_map]at i;obtain⟨t,j,rfl⟩:=bA.1 i;have:=my j;exact AF h t (by omega)
theorem wv{h:Nat}:∀{ps:List Gt},(∀t∈ps,t.hgt<=h)->DT.depths (Gt.dts ps)<=dB h
 |[],_=>cp _
 |p::ps,a=>by
  have f:=AF h p (a p fh);have g:=wv (h:=h) (ps:=ps) fun t e=>a t (eK _ e);show max p.dt.depth (DT.depths (Gt.dts ps))<=dB h;omega
theorem yt{K:Za}{H:Hp}{v:V}{T:Gt}(g:bx K H T.dt v):∀{e:List V}{f:List Gt}(j:Nat),c7 K H e (Gt.dts f)->c7 K H (e.set j v) (Gt.dts (f.set j T))
 |[],[],_,_=>.nil
 |[],p::f,_,h=>by cases h
 |u::e,[],_,h=>by cases h
 |u::e,p::f,0,h=>by cases h with|cons a b=>exact .cons g b
 |u::e,p::f,j+1,h=>by cases h with|cons a b=>exact .cons a (yt g j b)
inductive eS(K:Za)(D:Nat)(vs:List V)(H:Hp)(Q:VK)(E:XK):Prop
 |mk (p c t l1 l2 l3 l4:Addr) (ts:Ze) (J0 J2 J4:Zb) (ds:List aJ) (v:V) (T:Gt) (n h:Nat):(vs=[.ref p,.ref t,v])->(dW H p c)->(gV H t l1 l2 l3 l4 ts J0 J2 J4 ds)->(cy J0 J2 J4 ds)->(bx K H T.dt v)->(Bd n h T)->(4<=n)->(n<=7)->(h<=D)->(∀v' T' H',bx K H' T'.dt v'->Bd (n+1) (h+1) T'->dW H' p c->cQ p H H'->Q v' H')->eS K D vs H Q E
theorem Aj{K:Za}{D:Nat}{b2:Sp}(c1:D<=12)(hR:∀m,D=m+1->b2=eS K m){vs:List V}{H:Hp}{Q:VK}{E:XK}(h:eS K D vs H Q E):t9 K (dO K) b2 bB (jJ K) (eV K) (bq Q) (start uU vs) H:=by
 obtain⟨p,c,t,l1,l2,l3,l4,ts,J0,J2,J4,ds,v,T,n,h,rfl,hp,TT,m,hv,bd,n4,n7,hD,k⟩:=h;have b4:∀{H':Hp},cQ p H H'->gB H H':=fun{H'} ex=>by obtain⟨xs,hx⟩:=hp.lst;exact ex.kt hx
 have U:∀(f:Addr) (H':Hp),dW H' p c->cQ p H H'->(aR (aw (jJ K) (cq V0 V1 V2))) (bq Q) [some (.ref p),some (.ref t),some v,some (.ref f),none,none] H':=fun f H' cn ex=>⟨_,rfl,_,rfl,_,rfl,p,c,t,l1,l2,l3,l4,ts,J0,J2,J4,ds,v,T,n,h,rfl,cn,TT.ex hp ex,m,bx.kt (b4 ex) _ _ hv,bd,n4,n7,fun B T' H2 a4 b' C co=>k B T' H2 a4 b' C (ex.trans co)⟩;refine⟨_,rfl,v,T,rfl,hv,bd.wf.ok,fun f i H1 cs G hU S1=>?_⟩;refine⟨_,rfl,(by show 0<=ai;decide),fun e he=>?_⟩;have S2:ac H1 (upd H1 e (.lst [])):=ac.new he;have e2:upd H1 e (.lst []) e=some (.lst []):=aa;show Km K (.ref f) (.ref e) (upd H1 e (.lst [])) _;generalize upd H1 e (.lst [])=H2 at S2 e2 ⊢;have b5:=S1.trans S2;have M:=c7.kt (ac.kt S2) hU;have Y:=S2 _ _ cs;have N:f≠p:=(hp.nep G).symm;have kh:=pJ (T:=T) bd.hg;refine⟨.s (Gt.dts (jB T)),.s [],?_,DN (aF.of e2),?_,by decide,_,rfl,?_⟩
 ·unfold oy;exact⟨f,i,rfl,aF.of Y,TrCs.dIn _ _ (c7.all M)⟩
 ·show DT.depths _+1<=40;have:=wv (h:=12) (ps:=jB T) fun t ht=>by have:=kh t ht;omega
  have:dB 12=37:=rfl;omega
 have C:=hp.ex b5;have ab:cQ p H H2:=ac.exB b5;cases T with
 |lf w =>
  rw[zzr1 (show DT.s (Gt.dts (jB (Gt.lf w)))=DT.s []from rfl)];exact br (br (U f H2 C ab))
 |nd a l ps =>
 have e1:ps.length=l.length+1:=bd.wf.1;have M:c7 K H2 i (Gt.dts ps):=M;rw[zzr0 (fun z=>by injection z with z;rw[Gt.dts_map]at z;have z:=sX.1 z;have z:ps=[]:=z;rw[z]at e1;cases e1)];refine aZ ⟨_,rfl,cc C (by decide) (by decide) fun r H3 r0 r4 a5 a6=>⟨rfl,_,rfl,?_⟩⟩;have al:=ab.trans a6;refine pK (fun _=>U f H3 a5 al) (fun _=>?_);have b6:gB H2 H3:=by obtain⟨xs,hx⟩:=C.lst;exact a6.kt hx
 have an:=a6 _ _ Y N;have b7:=c7.kt b6 M;have zu:i.length=l.length+1:=by rw[Paired.length b7,Gt.dts_map,ao,e1]
 obtain⟨zw,bk⟩:=bd.kid;refine⟨_,rfl,_,rfl,.inl ⟨f,i,rfl,.inl (aF.of an),p,c,(l.length+1:Nat),(by rw[zu];rfl),a5,by omega,by omega,fun c2 H4 a0 a1 b8 a7=>?_⟩⟩;obtain⟨j,rfl⟩:=ia a0;have hj:j<i.length:=by omega
 have as:=al.trans a7;have b9:gB H3 H4:=by obtain⟨xs,hx⟩:=a5.lst;exact a7.kt hx
 have aC:=a7 _ _ an N;have cb:=c7.kt b9 b7;obtain⟨x,hx⟩:∃x,i[j]?=some x:=⟨_,bI hj⟩;obtain⟨d,hd,ct⟩:=Paired.getL cb hx;rw[Gt.dts_map,dj]at hd;obtain⟨P,hP,rfl⟩:=ib.1 hd;have O:=dw hP;obtain⟨h0,rfl⟩:∃h0,h=h0+1:=⟨h-1,by have:=(bk P O).2;omega⟩;obtain⟨D',rfl⟩:∃D',D=D'+1:=⟨D-1,by omega⟩;cases hR D' rfl;have bP:Bd n h0 P:=⟨(bk P O).1.wf,(bk P O).1.few,by have:=(bk P O).2;omega⟩;refine⟨_,rfl,_,rfl,_,rfl,_,rfl,f,i,j,x,rfl,rfl,aF.of aC,aM hx,p,c,t,l1,l2,l3,l4,ts,J0,J2,J4,ds,x,P,n,h0,rfl,b8,TT.ex hp as,m,ct,bP,n4,n7,by omega,fun B P' H5 a4 cB cC a8=>?_⟩;have aT:=a8 _ _ aC N;have ce:gB H4 H5:=by obtain⟨xs,hx⟩:=b8.lst;exact a8.kt hx
 have ij:Dx i.length (j:Int)=some j:=by unfold Dx;rw[if_pos (by omega),if_pos (by omega)];rfl
 refine⟨_,rfl,_,rfl,f,i,j,j,rfl,rfl,aT,ij,?_⟩;have aX:gB H5 (upd H5 f (.lst (i.set j B))):=fo aT;have A:upd H5 f (.lst (i.set j B)) f=some (.lst (i.set j B)):=aa;have u:=c7.kt aX (yt a4 j (c7.kt ce cb));have a9:dW (upd H5 f (.lst (i.set j B))) p c:=cC.upd N.symm (by have:=hp.nec G;exact this);have y:cQ p H (upd H5 f (.lst (i.set j B))):=fun b o e np=>by rw[am (ah e G)];exact a8 _ _ (as _ _ e np) np
 show(ar _ _) _ _ (upd H5 f (.lst (i.set j B)));generalize upd H5 f (.lst (i.set j B))=H6 at aX A u a9 y ⊢;have zp:(ps.set j P').length=l.length+1:=by rw[qt,e1]
 have zs:(i.set j B).length=l.length+1:=by rw[qt,zu]
 have bs:∀q∈ps.set j P',Bd (n+1) (h0+1) q:=fun q hq=>by
  rcases List.mem_or_eq_of_mem_set hq with hq|rfl
  ·exact(bk q hq).1.up (j4 _) (ay _)
  ·exact cB
 have bN:Bd (n+1) (h0+1+1) (.nd a l (ps.set j P')):=AS (by omega) zp (by omega) bs;have k2:∀(r:V) (H':Hp),bx K H' (cW l a (Gt.dts (ps.set j P'))) r->dW H' p c->cQ p H H'->Q r H':=fun r H' hr q1 q2=>k r (.nd a l (ps.set j P')) H' hr bN q1 q2;have ch:bx K H6 (cW l a (Gt.dts ps)) v:=bx.kt (b4 y) _ _ hv;have zd:(Gt.dts ps).length=l.length+1:=by rw[Gt.dts_map,ao,e1]
 have ci:(Gt.dts (ps.set j P')).length=l.length+1:=by rw[Gt.dts_map,ao,zp]
 generalize Gt.dts (ps.set j P')=dp at u k2 ci;generalize i.set j B=g at A u zs;clear k bs bN;cases a with
 |some a =>
  obtain⟨b,x2,b3,c3,d0,rfl,ht,ck,_,h3,_⟩:=oR zd ch;refine⟨_,rfl,b,_,0,_,rfl,rfl,aH.sq ht,aM (j:=0) rfl,rfl,_,rfl,?_⟩;rw[zzr0 (by intro z;injection z with z;exact absurd z (by decide))];refine aZ ?_;obtain⟨v0,I⟩:∃v,g[0]?=some v:=⟨_,bI (by omega)⟩;obtain⟨d1,bi,bl⟩:=Paired.getL u I;refine⟨_,rfl,b,_,1,.str a,rfl,rfl,aH.sq ht,aM (j:=1) rfl,_,rfl,f,_,0,v0,rfl,rfl,aF.of A,aM (j:=0) I,_,rfl,b,_,3,.ref b3,rfl,rfl,aH.sq ht,aM (j:=3) rfl,b3,rfl,⟨_,aH.sq ck⟩,fun wl bm=>?_⟩;refine pQ (ws:=l) (ps:=(Gt.dts ps).drop 1) ck h3 (by rw[cA];omega) (by omega) bm fun H7 bn S7=>?_;refine⟨_,rfl,_,rfl,f,_,rfl,aF.of (S7 _ _ A),fun dl c0=>?_⟩;rw[show gq g (some 1) none=g.drop 1 from kL _ 1];have S8:ac H7 (upd H7 dl (.lst (g.drop 1))):=ac.new c0;have cl:upd H7 dl (.lst (g.drop 1)) dl=some (.lst (g.drop 1)):=aa;generalize upd H7 dl (.lst (g.drop 1))=H8 at S8 cl ⊢;have J:=S7.trans S8;refine⟨wl,dl,l,g.drop 1,dp.drop 1,rfl,S8 _ _ bn,cl,Paired.dropP 1 (c7.kt (ac.kt J) u),by rw[cA];omega,by omega,fun q xs H9 hq bG S9=>⟨(by show 4<=ai;decide),fun r bL=>?_⟩⟩;have bT:ac H9 (upd H9 r (.tup [.str "tell",.str a,v0,.ref q])):=ac.new bL;have L:=J.trans (S9.trans bT);exact k2 _ _ (yH aa (bT _ _ hq) bi (bx.kt (ac.kt L) _ _ bl) (c7.kt (ac.kt bT) bG) ci) (a9.ex L) (y.trans (ac.exB L))
 |none =>
  obtain⟨b,b1,c4,x2,d0,rfl,ht,cm,_,h3,_⟩:=oQ zd ch;refine⟨_,rfl,b,_,0,_,rfl,rfl,aH.sq ht,aM (j:=0) rfl,rfl,_,rfl,?_⟩;rw[zzr1 rfl];refine br ?_;obtain⟨v0,I⟩:∃v,g[l.length]?=some v:=⟨_,bI (by omega)⟩;obtain⟨d1,bi,bl⟩:=Paired.getL u I;refine⟨_,rfl,b,_,1,.ref b1,rfl,rfl,aH.sq ht,aM (j:=1) rfl,b1,rfl,⟨_,aH.sq cm⟩,fun wl bm=>?_⟩;refine pQ (ws:=l) (ps:=(Gt.dts ps).take l.length) cm h3 (by rw[aK];omega) (by omega) bm fun H7 bn S7=>?_;refine⟨_,rfl,_,rfl,wl,f,l,g,dp,rfl,bn,S7 _ _ A,c7.kt (ac.kt S7) u,by omega,by omega,fun q xs H8 hq bG S8=>?_⟩;have J:=S7.trans S8;refine⟨_,rfl,_,rfl,f,_,-1,v0,rfl,rfl,aF.of (J _ _ A),sU zs.symm I,(by show 3<=ai;decide),fun r bL=>?_⟩;have S9:ac H8 (upd H8 r (.tup [.str "wait",.ref q,v0])):=ac.new bL;have b0:=J.trans S9;exact k2 _ _ (sQ aa (S9 _ _ hq) bi (bx.kt (ac.kt b0) _ _ bl) (c7.kt (ac.kt S9) bG)) (a9.ex b0) (y.trans (ac.exB b0))
theorem Ld{l B r:Int}(e:0<=l)(a:r=1∨r=2∨r=3∨r=4∨r=5)(h:l<=r * B):0<=l / r/\l / r<=B/\0<=l-l / r/\l-l / r<=(r-1) * B:=by
 rcases a with rfl|rfl|rfl|rfl|rfl<;>omega
inductive kz(K:Za)(D:Nat)(vs:List V)(H:Hp)(Q:VK)(E:XK):Prop
 |mk (t l1 l2 l3 l4:Addr) (ts:Ze) (J0 J2 J4:Zb) (ds:List aJ) (m:Nat):(vs=[.ref t,.int (m:Nat)])->(gV H t l1 l2 l3 l4 ts J0 J2 J4 ds)->(cy J0 J2 J4 ds)->(m<2 ^ D)->(∀v' T' H',bx K H' T'.dt v'->Bd 4 D T'->ac H H'->Q v' H')->kz K D vs H Q E
theorem ID{K:Za}{D:Nat}{w:Sp}(hR:∀m,D=m+1->w=kz K m){vs:List V}{H:Hp}{Q:VK}{E:XK}(h:kz K D vs H Q E):Br K (dO K) w (bq Q) (start CD vs) H:=by
 obtain⟨t,l1,j,l3,l4,ts,J0,a,J4,ds,m,rfl,TT,L,hm,k⟩:=h;have z2:=L.says4;have zs:0<a.length:=ng.2 L.says0;refine⟨_,rfl,rfl,_,rfl,?_⟩;by_cases c0:m=0
 ·rw[zzr1 (by rw[c0];rfl)];refine br ⟨(by show 1<=ai;decide),fun u hu=>?_⟩;exact k _ (.lf "end") _ (jv (.inl aa)) (pS _) (ac.new hu)
 rw[zzr0 (fun z=>c0 (by injection z with z;omega))];obtain⟨l,rfl⟩:∃l,D=l+1:=⟨D-1,by cases D with|zero=>(have:m<1:=hm;omega)|succ D=>rfl⟩;cases hR l rfl;have hB:0<2 ^ l:=Nat.two_pow_pos l;rw[Nat.pow_succ]at hm;refine aZ ⟨(by show 0<=ai;decide),fun f x=>?_⟩;have M:ac H (upd H f (.lst [])):=ac.new x;have s1:upd H f (.lst []) f=some (.lst []):=aa;show(ar _ _) _ _ (upd H f (.lst []));generalize upd H f (.lst [])=H1 at M s1 ⊢;have T1:=TT.same M;refine⟨_,rfl,_,_,rfl,rfl,?_⟩;refine⟨_,rfl,t,_,1,.ref j,rfl,rfl,bE.of T1.t,rfl,.inl ⟨j,_,rfl,.inl (aF.of T1.a2),_,_,rfl,rfl,(a.length:Int)+1,by rw[ao],by omega,by omega,?_⟩⟩;generalize hb:((2 ^ l:Nat):Int)-1=B
 let N:Nat->L2.St->Hp->Prop:=fun i σ G=>NE5 fun(g:List V) (Ts:List Gt) (left:Int) (O U:Option V)=>LJ (σ=[some (.ref t),some (.int (m:Nat)),some (.ref f),some (.int left),O,U]) (G f=some (.lst g)) (c7 K G g (Gt.dts Ts)) (Ts.length=i/\∀T∈Ts,Bd 4 l T) (0<=left/\left<=((a.length:Int)+1-i) * B) (ac H G)
 refine dS (lo:=0) (n:=((a.length:Int)+1).toNat) N ⟨[],[],_,_,_,rfl,s1,.nil,⟨rfl,fun _ h=>(by cases h)⟩,⟨by omega,?_⟩,M⟩ ?_ ?_
 ·have:a.length=1∨a.length=2∨a.length=3∨a.length=4:=by omega
  rcases this with e|e|e|e<;>rw[e]<;>omega
 ·rintro i σ G hi ⟨g,Ts,left,O,U,rfl,y,s,⟨p,Y⟩,⟨l0,lB⟩,S⟩;have hi:i<a.length+1:=by omega
  have TG:=TT.same S;have st:=Ld (r:=(a.length:Int)+1-i) l0 (by omega) lB;obtain⟨pt,A⟩:=ia st.1;refine⟨_,rfl,_,rfl,t,_,1,.ref j,rfl,rfl,bE.of TG.t,rfl,.inl ⟨j,_,rfl,.inl (aF.of TG.a2),_,_,rfl,rfl,_,rfl,_,_,rfl,rfl,_,_,rfl,rfl,?_⟩⟩;have e0:(((a.map V.str).length:Nat):Int)+1-(0+(i:Int))=(a.length:Int)+1-i:=by rw[ao];omega
  rw[e0];refine⟨⟨by omega,by omega⟩,?_⟩;show ei 5 (V.int (left / ((a.length:Int)+1-i))) _ _ _;rw[A];refine⟨_,rfl,.inl ⟨rfl,_,aF.of y⟩,_,rfl,_,rfl,t,l1,j,l3,l4,ts,J0,a,J4,ds,pt,rfl,TG,L,by omega,fun v' T' G2 ab al S2=>?_⟩;have zu:g.length=i:=by rw[Paired.length s,Gt.dts_map,ao,p]
  have C:=S2 _ _ y;refine⟨f,g,v',rfl,rfl,C,ax (by omega),?_⟩;have kt:gB G2 (upd G2 f (.lst (g++[v']))):=fo C;refine⟨_,rfl,_,rfl,_,_,rfl,rfl,g++[v'],Ts++[T'],_,_,_,rfl,aa,?_,⟨by rw[aP,p];rfl,fun X hX=>?_⟩,⟨by omega,?_⟩,fun b o e=>by rw[am (ah e x)];exact S2 _ _ (S _ _ e)⟩
  ·rw[Gt.dts_map,aQ,<-Gt.dts_map];exact eE (c7.kt (fun b xs e=>kt _ _ (ac.kt S2 _ _ e)) s) (bx.kt kt _ _ ab)
  ·rcases cG.1 hX with hX|hX
   ·exact Y X hX
   ·rw[eD.1 hX];exact al
  ·have:=st.2.2.2;rw[A]at this;rw[show(a.length:Int)+1-((i+1:Nat):Int)=(a.length:Int)+1-i-1 by omega];exact this
 ·rintro σ G ⟨g,Ts,left,O,U,rfl,y,s,⟨p,Y⟩,_,S⟩;have p:Ts.length=a.length+1:=by omega
  have TG:=TT.same S;have zu:g.length=a.length+1:=by rw[Paired.length s,Gt.dts_map,ao,p]
  have zp:(Gt.dts Ts).length=a.length+1:=by rw[Gt.dts_map,ao,p]
  obtain⟨v0,I⟩:∃v,g[a.length]?=some v:=⟨_,bI (by omega)⟩;obtain⟨d1,an,as⟩:=Paired.getL s I;refine⟨_,rfl,t,_,1,.ref j,rfl,rfl,bE.of TG.t,rfl,_,rfl,j,f,a,g,Gt.dts Ts,rfl,TG.a2,y,s,by omega,by omega,fun q xs H6 hq aC S6=>?_⟩;refine⟨_,rfl,_,rfl,f,_,-1,v0,rfl,rfl,aF.of (S6 _ _ y),sU zu.symm I,(by show 3<=ai;decide),fun r aT=>?_⟩;have S7:ac H6 (upd H6 r (.tup [.str "wait",.ref q,v0])):=ac.new aT;have J:=S6.trans S7;exact k _ (.nd none a Ts) _ (sQ aa (S7 _ _ hq) an (bx.kt (ac.kt J) _ _ as) (c7.kt (ac.kt S7) aC)) (AS (by decide) p z2 Y) (S.trans J)
theorem Ga{K:Za}{σ:L2.St}{g:Hp}{l p:Addr}{j:Zb}{d:DT}{v:V}{Q:Hp->Prop}(s:σ[2]?=some (some v))(t:bx K g d v)(h:g p=some (.lst (j.map V.str)))(C:j.length<=4)(q:g l=none)(k:∀(a:List V) (f:Hp),f l=some (.lst a)->c7 K f a (dz j.length d)->ac g f->Q f):
  cP 1 [2] σ (Fz K p) U0 (d6) V1 g l Q:=by
 let n:Nat->List V->Hp->Prop:=fun i a f=>ac g f/\f l=some (.lst a)/\c7 K f a (dz i d)
 refine eA (xs:=j.map V.str) n ⟨ac.new q,aa,.nil⟩ (fun i a f _ u=>by obtain⟨S,y,_⟩:=u;exact⟨y,aF.of (S _ _ h)⟩) ?_ ?_
 ·rintro a r ⟨z,h,m⟩;rw[ao]at m;exact k a r h m z
 ·rintro i a r x hx hi ⟨S,h,m⟩;obtain⟨w,A,rfl⟩:=cX hx;have B:i<j.length:=(cV.mp A).1;have kt:=fo (o:=.lst (a++[v])) h;have D:a.length=i:=by rw[Paired.length m,fG]
  refine gN (lA ⟨v,by show(cL 1 [2] σ)[1]?=_;unfold cL;simp[s],h,ax (by omega),vn hi ⟨fun b o e=>by rw[am (ah e q)];exact S _ _ e,aa,?_⟩⟩);rw[wM];exact eE (c7.kt kt m) (bx.kt (fun b xs e=>kt _ _ (ac.kt S _ _ e)) _ _ t)
theorem KQ{r:Int}(a:0<=r)(e:r<4):∃n:Nat,vv [V.int 9,.int 6,.int 5,.int 5] r=some (.int n)/\5<=n/\n<=9:=by
 have:r=0∨r=1∨r=2∨r=3:=by omega
 rcases this with rfl|rfl|rfl|rfl
 ·exact⟨9,rfl,by decide,by decide⟩
 ·exact⟨6,rfl,by decide,by decide⟩
 ·exact⟨5,rfl,by decide,by decide⟩
 ·exact⟨5,rfl,by decide,by decide⟩
inductive ph(K:Za)(vs:List V)(H:Hp)(Q:VK)(E:XK):Prop
 |mk (p c t l1 l2 l3 l4:Addr) (ts:Ze) (J0 J2 J4:Zb) (ds:List aJ):(vs=[.ref p,.ref t])->(dW H p c)->(gV H t l1 l2 l3 l4 ts J0 J2 J4 ds)->(cy J0 J2 J4 ds)->(∀v' T' H',bx K H' T'.dt v'->Bd 4 9 T'->dW H' p c->cQ p H H'->Q v' H')->ph K vs H Q E
theorem Go{K:Za}{vs:List V}{H:Hp}{Q:VK}{E:XK}(h:ph K vs H Q E):zZ K bB (dO K) (kz K 9) (bq Q) (start Bb vs) H:=by
 obtain⟨p,c,t,l1,B,l3,l4,ts,J0,j,J4,ds,rfl,O,TT,m,k⟩:=h;have z2:=m.says4;have zs:0<j.length:=ng.2 m.says0;have zl:(j.map V.str).length=j.length:=ao _;refine⟨(by show 1<=ai;decide),fun e0 aX=>?_⟩;have S0:ac H (upd H e0 (.tup (cu.map V.str))):=ac.new aX;have h0:bx K (upd H e0 (.tup (cu.map V.str))) (Gt.lf "end").dt (.ref e0):=jv (.inl aa);have ee:(.tup [.str "end"]:HO)=.tup (cu.map V.str):=rfl;rw[ee];show(ar _ _) _ _ (upd H e0 (.tup (cu.map V.str)));generalize upd H e0 (.tup (cu.map V.str))=H0 at S0 h0 ⊢;refine⟨_,rfl,cc (O.ex S0) (by decide) (by decide) fun L H1 w0 w3 M al=>?_⟩;have A:=(ac.exB S0 (p:=p)).trans al;have T1:=TT.ex O A;have a0:gB H0 H1:=by obtain⟨xs,hx⟩:=(O.ex S0).lst;exact al.kt hx
 have h1:=bx.kt a0 _ _ h0;have an:∀{G G':Hp},dW G p c->cQ p G G'->gB G G':=fun{G G'} hq ex=>by obtain⟨xs,hx⟩:=hq.lst;exact ex.kt hx
 refine⟨_,rfl,rfl,_,rfl,?_⟩;by_cases c2:L=2
 ·rw[zzr1 (by rw[c2])];refine br ⟨_,rfl,_,rfl,t,_,1,.ref B,rfl,rfl,bE.of T1.t,rfl,.inl ⟨B,_,rfl,.inl (aF.of T1.a2),_,_,rfl,rfl,_,_,rfl,rfl,⟨by omega,by omega⟩,_,rfl,cc M (by decide) (by decide) fun r H2 r0 r3 C N=>⟨_,_,rfl,rfl,_,_,rfl,rfl,?_⟩⟩⟩;have a:=A.trans N;have q1:0<=(999:Int) / (((j.map V.str).length:Nat)+1)+r-1/\(999:Int) / (((j.map V.str).length:Nat)+1)+r-1<512:=by
   rw[zl];have:j.length=1∨j.length=2∨j.length=3∨j.length=4:=by omega
   rcases this with e|e|e|e<;>rw[e]<;>omega
  obtain⟨mm,a4⟩:=ia q1.1;refine⟨t,l1,B,l3,l4,ts,J0,j,J4,ds,mm,congrArg (fun z=>[V.ref t,V.int z]) a4,TT.ex O a,m,by show mm<512;omega,fun v' T' H3 D I S3=>k v' T' H3 D I (C.ex S3) (a.trans (ac.exB S3))⟩
 rw[zzr0 (fun z=>c2 (by injection z))];refine aZ ⟨_,rfl,rfl,_,rfl,?_⟩;by_cases c0:L=0
 ·rw[zzr1 (by rw[c0])];refine br ⟨_,rfl,cc M (by decide) (by decide) fun r H2 r0 r4 C N=>⟨_,_,rfl,rfl,_,rfl,by omega,by omega,?_⟩⟩;have a:=A.trans N
  let U:Nat->L2.St->Hp->Prop:=fun i σ G=>Jp fun(v:V) (T:Gt) (Y:Option V)=>K0 (σ=[some (.ref p),some (.ref t),some v,some (.int L),Y]) (bx K G T.dt v) (Bd 4 i T) (dW G p c) (cQ p H G)
  refine dS (lo:=0) (n:=(6+r).toNat) U ⟨_,.lf "end",_,rfl,bx.kt (an M N) _ _ h1,pS _,C,a⟩ ?_ ?_
  ·rintro i σ G hi ⟨v,T,Y,rfl,D,I,s,f⟩;have TG:=TT.ex O f;refine⟨_,rfl,t,_,1,.ref B,rfl,rfl,bE.of TG.t,rfl,_,rfl,t,_,1,.ref B,rfl,rfl,bE.of TG.t,rfl,B,rfl,⟨_,aF.of TG.a2⟩,fun l hl=>?_⟩;refine wA TG.a2 z2 hl fun us G2 h2 hP J=>?_;refine⟨B,l,j,us,_,rfl,J _ _ TG.a2,h2,hP,by rw[fG];exact ay _,by omega,fun q xs G3 ab g S3=>?_⟩;rw[jr (by rw[fG];exact ay _),show k7 cu=(Gt.lf "end").dt from rfl,md]at g;refine⟨_,rfl,(by show 3<=ai;decide),fun u hu=>?_⟩;have S4:=ac.new (o:=.tup [.str "wait",.ref q,v]) hu;have x:=(J.trans S3).trans S4;refine⟨_,Ls (yW j) T,_,rfl,GS aa ⟨xs,.inl (S4 _ _ ab),c7.kt (ac.kt S4) g⟩ (bx.kt (ac.kt x) _ _ D),KO (by decide) (by show(j.map _).length<=4;rw[ao];exact z2) (fun y hy=>by obtain⟨w,_,rfl⟩:=bA.1 hy;exact pS _) I,s.ex x,f.trans (ac.exB x)⟩
  ·rintro σ G ⟨v,T,Y,rfl,D,I,s,f⟩;exact⟨_,rfl,k v T G D (I.up (ay _) (by omega)) s f⟩
 rw[zzr0 (fun z=>c0 (by injection z))];refine aZ ⟨(by show 4<=ai;decide),fun ll a5=>?_⟩;have J:ac H1 (upd H1 ll (.lst [.int 9,.int 6,.int 5,.int 5])):=ac.new a5;have as:upd H1 ll (.lst [.int 9,.int 6,.int 5,.int 5]) ll=some (.lst [.int 9,.int 6,.int 5,.int 5]):=aa;generalize upd H1 ll (.lst [.int 9,.int 6,.int 5,.int 5])=H2 at J as ⊢;have C:=M.ex J;have a:=A.trans (ac.exB J (p:=p));have T2:=TT.ex O a;obtain⟨nn,a6,n5,n9⟩:=KQ (r:=(((j.map V.str).length:Nat):Int)-1) (by rw[zl];omega) (by rw[zl];omega);refine⟨_,rfl,t,_,1,.ref B,rfl,rfl,bE.of T2.t,rfl,.inl ⟨B,_,rfl,.inl (aF.of T2.a2),_,_,rfl,rfl,ll,_,_,_,rfl,rfl,aF.of as,a6,_,rfl,cc C (by decide) (by decide) fun r H3 r0 r2 a7 aC=>⟨_,_,rfl,rfl,_,rfl,by omega,by omega,?_⟩⟩⟩;have aT:=a.trans aC
 let U:Nat->L2.St->Hp->Prop:=fun i σ G=>Jp fun(v:V) (T:Gt) (Y:Option V)=>K0 (σ=[some (.ref p),some (.ref t),some v,some (.int L),Y]) (bx K G T.dt v) (Bd 4 i T) (dW G p c) (cQ p H G)
 refine dS (lo:=0) (n:=((nn:Int)-r).toNat) U ⟨_,.lf "end",_,rfl,bx.kt (an C aC) _ _ (bx.kt (ac.kt J) _ _ h1),pS _,a7,aT⟩ ?_ ?_
 ·rintro i σ G hi ⟨v,T,Y,rfl,D,I,s,f⟩;have TG:=TT.ex O f;refine⟨_,rfl,t,_,1,.ref B,rfl,rfl,bE.of TG.t,rfl,_,rfl,t,_,1,.ref B,rfl,rfl,bE.of TG.t,rfl,B,rfl,⟨_,aF.of TG.a2⟩,fun l hl=>?_⟩;refine Ga (d:=T.dt) (v:=v) rfl D TG.a2 z2 hl fun us G2 h2 hP J=>?_;refine⟨B,l,j,us,_,rfl,J _ _ TG.a2,h2,hP,by rw[fG];exact ay _,by omega,fun q xs G3 ab g S3=>?_⟩;rw[jr (by rw[fG];exact ay _),md]at g;refine⟨_,rfl,(by show 3<=ai;decide),fun u hu=>?_⟩;have S4:=ac.new (o:=.tup [.str "wait",.ref q,v]) hu;have x:=(J.trans S3).trans S4;refine⟨_,Ls (j.map fun w=>(w,T)) T,_,rfl,GS aa ⟨xs,.inl (S4 _ _ ab),c7.kt (ac.kt S4) g⟩ (bx.kt (ac.kt x) _ _ D),KO (by decide) (by rw[ao];exact z2) (fun y hy=>by obtain⟨w,_,rfl⟩:=bA.1 hy;exact I) I,s.ex x,f.trans (ac.exB x)⟩
 ·rintro σ G ⟨v,T,Y,rfl,D,I,s,f⟩;exact⟨_,rfl,k v T G D (I.up (ay _) (by omega)) s f⟩
theorem Hm{K:Za}{σ:L2.St}{m:Hp}{l:Addr}{n:Nat}{T:Gt}{v:V}{tall:Nat}{Q:Hp->Prop}(D:σ[2]?=some (some (.int (tall:Nat))))(E:σ[3]?=some (some v))(G:tall<2)(H:bx K m T.dt v)(z:n<=5)(A:m l=none)(k:∀(a:List V) (g:Hp),g l=some (.lst a)->c7 K g a (dz n (if tall=0 then Gt.lf "end" else T).dt)->ac m g->Q g):
  cP 1 [2,3] σ (JX 0 n) U0 (d6) (aq (bF K) (bW (aE (aW (au (tC (.str "end")))) V2)) V1) m l Q:=by
 let p:Nat->List V->Hp->Prop:=fun i a g=>ac m g/\g l=some (.lst a)/\c7 K g a (dz i (if tall=0 then Gt.lf "end" else T).dt)
 refine n_ (lo:=0) (n:=n) p ⟨ac.new A,aa,.nil⟩ (fun i a g _ I=>by obtain⟨S,J,_⟩:=I;exact J) ?_ ?_
 ·rintro a h ⟨L,u,t⟩;exact k a h u t L
 ·rintro i a h hi ⟨S,u,t⟩;have M:∀x,(List.set (cL 1 [2,3] σ) 0 x)[1]?=some (some (.int (tall:Nat))):=fun x=>by unfold cL;simp[D]
  have N:∀x,(List.set (cL 1 [2,3] σ) 0 x)[2]?=some (some v):=fun x=>by unfold cL;simp[E]
  refine gN (lA ⟨(by show 1<=ai;decide),fun e O=>⟨v,N _,(by show 2<=ai;decide),fun j q=>⟨_,M _,?_⟩⟩⟩);have r:ac h (upd (upd h e (.tup (cu.map V.str))) j (.lst [.ref e,v])):=(ac.new O).trans (ac.new q);have B:upd (upd h e (.tup (cu.map V.str))) j (.lst [.ref e,v]) e=some (.tup (cu.map V.str)):=kp aa q;have w:upd (upd h e (.tup (cu.map V.str))) j (.lst [.ref e,v]) j=some (.lst [.ref e,v]):=aa;have U:(.tup [.str "end"]:HO)=.tup (cu.map V.str):=rfl;rw[U];generalize upd (upd h e (.tup (cu.map V.str))) j (.lst [.ref e,v])=y at r B w ⊢;have s:=r _ _ u;have Y:a.length=i:=by rw[Paired.length t,fG]
  have f:∀x,bx K y (if tall=0 then Gt.lf "end" else T).dt x->y l=some (.lst a)/\a.length<ai/\∃C,C<n-i/\L2.Wc n p (i+1) C (a++[x]) (upd y l (.lst (a++[x]))):=fun x hx=>by
   have kt:=fo (o:=.lst (a++[x])) s;refine⟨s,ax (by omega),vn hi ⟨fun b o e=>by rw[am (ah e A)];exact r _ _ (S _ _ e),aa,?_⟩⟩;rw[wM];exact eE (c7.kt (fun b xs e=>kt _ _ (ac.kt r _ _ e)) t) (bx.kt kt _ _ hx)
  match tall,G,f with
  |0,_,f=>exact⟨j,_,0,.ref e,rfl,rfl,aF.of w,rfl,f _ (jv (.inl B))⟩
  |1,_,f=>exact⟨j,_,1,v,rfl,rfl,aF.of w,rfl,f _ (bx.kt (ac.kt (S.trans r)) _ _ H)⟩
inductive pj(K:Za)(vs:List V)(H:Hp)(Q:VK)(E:XK):Prop
 |mk (p c t l1 l2 l3 l4:Addr) (ts:Ze) (J0 J2 J4:Zb) (ds:List aJ) (tall:Nat):(vs=[.ref p,.ref t,.int (tall:Nat)])->(tall<2)->(dW H p c)->(gV H t l1 l2 l3 l4 ts J0 J2 J4 ds)->(cy J0 J2 J4 ds)->(∀(v':V) (T':Gt) (H':Hp),bx K H' T'.dt v'->T'.wf->8<=T'.hgt->dW H' p c->cQ p H H'->Q v' H')->pj K vs H Q E
theorem Gp{K:Za}{vs:List V}{H:Hp}{Q:VK}{E:XK}(h:pj K vs H Q E):z0 K bB (dO K) (bq Q) (start Bc vs) H:=by
 obtain⟨p,c,t,l1,l2,l3,l4,ts,J0,f,J4,ds,s,rfl,t2,hp,TT,m,k⟩:=h;have z2:=m.says4;have zs:0<f.length:=ng.2 m.says0;have zl:(f.map V.str).length=f.length:=ao _;refine⟨(by show 1<=ai;decide),fun u a4=>⟨(by show 1<=ai;decide),fun y an=>⟨(by show 2<=ai;decide),fun l hl=>?_⟩⟩⟩;have S4:ac H (upd (upd (upd H u (.tup [.str "end"])) y (.tup [.str "blame"])) l (.lst [.ref u,.ref y])):=((ac.new a4).trans (ac.new an)).trans (ac.new hl);have a5:upd (upd (upd H u (.tup [.str "end"])) y (.tup [.str "blame"])) l (.lst [.ref u,.ref y]) u=some (.tup (cu.map V.str)):=kp (kp aa an) hl;have a6:upd (upd (upd H u (.tup [.str "end"])) y (.tup [.str "blame"])) l (.lst [.ref u,.ref y]) y=some (.tup (cJ.map V.str)):=kp aa hl;have as:upd (upd (upd H u (.tup [.str "end"])) y (.tup [.str "blame"])) l (.lst [.ref u,.ref y]) l=some (.lst [.ref u,.ref y]):=aa;have a7:l≠p:=((hp.ex ((ac.new a4).trans (ac.new an))).nep hl).symm;show(aw bB (aE V0 (tC (.int 2)))) _ (upd (upd (upd H u (.tup [.str "end"])) y (.tup [.str "blame"])) l (.lst [.ref u,.ref y])) _;generalize upd (upd (upd H u (.tup [.str "end"])) y (.tup [.str "blame"])) l (.lst [.ref u,.ref y])=H4 at S4 a5 a6 as ⊢;have a8:=hp.ex S4;have L:∀{G G':Hp},dW G p c->cQ p G G'->gB G G':=fun{G G'} M ex=>by obtain⟨xs,hx⟩:=M.lst;exact ex.kt hx
 refine⟨_,rfl,p,c,2,rfl,a8,by decide,by decide,fun r H5 r0 r2 a9 N=>?_⟩;have bd:=L a8 N;have ab:=(ac.exB S4 (p:=p)).trans N;have go:∀(x:Addr) (w:Str),bx K H5 (Gt.lf w).dt (.ref x)->(ar (aO (aq (bF K) (aq (bg K) V1 (tC (.int 0))) (aw bB (aj V0 (aj (cS (cK K) (au (aq (bg K) V1 (tC (.int 0))))) aU)))) U4)
  (ar (aO (aw bB (aE V0 (tC (.int 4)))) U5)
  (ar (fe (gF (aj (aq m5 (aq (bF K) (bW (aE (tC (.int 3000)) (tC (.int 40)))) V2) (aw bB (aE V0 (tC (.int 9))))) aU)) U6 (ar (aO (cD 1 [2,3] (gF (aj (aq cN (cS (cK K) (au (aq (bg K) V1 (tC (.int 1))))) (tC (.int 1))) aU)) U0 (d6) (aq (bF K) (bW (aE (aW (au (tC (.str "end")))) V2)) V1)) U7)
  (ar (aO V3 (uG V7 (aq jL (aq uk V5 (tC (.int 2))) (cS (cK K) (au (aq (bg K) V1 (tC (.int 1)))))) lK))
  (bQ (aV (aq iL (aq iz V5 (tC (.int 2))) (tC (.int 0)))) (aO (aW (aj (tC (.str "wait")) (aj (aw (dO K) (aE (aq (bg K) V1 (tC (.int 1))) V7)) (au (aq (bF K) V7 (Ju (rU fun i=>.int (-i)) (tC (.int 1)))))))) U3) (aO (aW (aj (tC (.str "tell")) (aj V4 (aj (aq (bF K) V7 (tC (.int 0))) (aj (aw (dO K) (aE (aq (bg K) V1 (tC (.int 1))) (sI (uh K) V7 (dX (tC (.int 1))) (cg)))) aU))))) U3)))))
  (aR V3)))) (bq Q) [some (.ref p),some (.ref t),some (.int (s:Nat)),some (.ref x),none,none,none,none] H5:=fun x w hx=>by
  refine AT rfl rfl a9 (TT.ex hp ab) m fun a H6 bi bl=>?_;refine⟨_,rfl,cc bi (by decide) (by decide) fun O H7 w0 w4 b9 bm=>?_⟩;refine⟨(by show 2<=ai;decide),fun ll cb=>?_⟩;have S8:ac H7 (upd H7 ll (.lst [.int 3000,.int 40])):=ac.new cb;have bn:upd H7 ll (.lst [.int 3000,.int 40]) ll=some (.lst [.int 3000,.int 40]):=aa;generalize upd H7 ll (.lst [.int 3000,.int 40])=H8 at S8 bn ⊢;obtain⟨nn,ce,cs,n3⟩:∃n:Nat,vv [V.int 3000,.int 40] (s:Int)=some (.int n)/\40<=n/\n<=3000:=by
   match s,t2 with
   |0,_=>exact⟨3000,rfl,by decide,by decide⟩
   |1,_=>exact⟨40,rfl,by decide,by decide⟩
  have bL:=b9.ex S8;refine⟨_,rfl,ll,_,_,_,rfl,rfl,aF.of bn,ce,_,rfl,cc bL (by decide) (by decide) fun r H9 r0 r9 ch bP=>⟨_,_,rfl,rfl,_,rfl,by omega,by omega,?_⟩⟩;have b0:gB H5 H9:=fun b xs e=>L bL bP _ _ (ac.kt S8 _ _ (L bi bm _ _ (L a9 bl _ _ e)));have b1:=(((ab.trans bl).trans bm).trans (ac.exB S8)).trans bP
  let ci:Nat->L2.St->Hp->Prop:=fun i σ G=>NE4 fun(v:V) (T:Gt) (x6 x7:Option V)=>LJ (σ=[some (.ref p),some (.ref t),some (.int (s:Nat)),some v,some (.str a),some (.int O),x6,x7]) (bx K G T.dt v) (Bd 4 i T) (i<=T.hgt) (dW G p c) (cQ p H G)
  refine dS (lo:=0) (n:=((nn:Int)-r).toNat) ci ⟨_,.lf w,_,_,rfl,bx.kt b0 _ _ hx,pS _,cp _,ch,b1⟩ ?_ ?_;rotate_left
  ·rintro σ G ⟨v,T,x6,x7,rfl,hv,bT,hT,U,B⟩;exact⟨_,rfl,k v T G hv bT.wf (by omega) U B⟩
  rintro i σ G hi ⟨v,T,x6,x7,rfl,hv,bT,hT,U,B⟩;have TG:=TT.ex hp B;refine⟨_,rfl,t,_,1,.ref l2,rfl,rfl,bE.of TG.t,rfl,.inl ⟨l2,_,rfl,.inl (aF.of TG.a2),_,_,rfl,rfl,(f.length:Int)+1,by rw[ao],by omega,by omega,fun J b2=>?_⟩⟩;have en:((f.length:Int)+1).toNat=f.length+1:=by omega
  rw[en];refine Hm (T:=T) (v:=v) (tall:=s) rfl rfl t2 hv (by omega) b2 fun C G2 h2 hP S2=>?_;have ej:∃j:Nat,O / 2 * ((f.map V.str).length:Nat)=(j:Nat)/\j<f.length+1:=by
   rw[zl];have:O / 2=0∨O / 2=1:=by omega
   rcases this with e|e<;>rw[e]
   ·exact⟨0,by omega,by omega⟩
   ·exact⟨f.length,by omega,by omega⟩
  obtain⟨j,hj,ck⟩:=ej;have b3:=TG.same S2;have zu:C.length=f.length+1:=by rw[Paired.length hP,fG]
  have ij:Dx C.length (j:Int)=some j:=by unfold Dx;rw[if_pos (by omega),if_pos (by omega)];rfl
  refine⟨_,rfl,_,rfl,_,rfl,_,_,rfl,rfl,⟨by decide,by decide⟩,_,rfl,t,_,1,.ref l2,rfl,rfl,bE.of b3.t,rfl,.inl ⟨l2,_,rfl,.inl (aF.of b3.a2),_,_,rfl,rfl,.inl ⟨by omega,by omega⟩,J,C,j,j,rfl,by rw[<-hj],h2,ij,?_⟩⟩;have cm:=bx.kt (ac.kt S2) _ _ hv;have al:gB G2 (upd G2 J (.lst (C.set j v))):=fo h2;have A:upd G2 J (.lst (C.set j v)) J=some (.lst (C.set j v)):=aa;have S3:ac G (upd G2 J (.lst (C.set j v))):=fun b o e=>by rw[am (ah e b2)];exact S2 _ _ e
  generalize hg:(if s=0 then Gt.lf "end" else T)=Gg at hP
  have bG:Bd 4 i Gg:=by
   rw[<-hg];split
   ·exact pS _
   ·exact bT
  have cn:c7 K G2 C (Gt.dts (dz (f.length+1) Gg)):=by rw[Gt.dts_map,List.map_replicate];exact hP
  have z:=c7.kt al (yt cm j cn);have zt:((dz (f.length+1) Gg).set j T).length=f.length+1:=by rw[qt,fG]
  have b4:∀q∈(dz (f.length+1) Gg).set j T,Bd 4 i q:=fun q M=>by
   rcases List.mem_or_eq_of_mem_set M with M|rfl
   ·rw[(List.mem_replicate.1 M).2];exact bG
   ·exact bT
  have hm:T.hgt<=Gt.hgts ((dz (f.length+1) Gg).set j T):=my (dw (i:=j) (by rw[CQ (by rw[fG];exact ck)]));have b5:(C.set j v).length=f.length+1:=by rw[qt,zu]
  generalize upd G2 J (.lst (C.set j v))=G3 at al A S3 z ⊢;generalize(dz (f.length+1) Gg).set j T=Ts at z zt b4 hm;generalize C.set j v=g at A z b5;have Y:=TG.same S3;have zp:(Gt.dts Ts).length=f.length+1:=by rw[Gt.dts_map,ao,zt]
  have bN:∀o:Option Str,Bd 4 (i+1) (.nd o f Ts):=fun o=>AS (by decide) zt z2 b4;have hN:∀o:Option Str,i+1<=(Gt.nd o f Ts).hgt:=fun o=>by show i+1<=Gt.hgts Ts+1;omega
  refine⟨_,rfl,_,_,rfl,rfl,(by show(0:Int)<2;decide),rfl,_,rfl,?_⟩;refine pK (fun _=>?_) (fun _=>?_)
  ·obtain⟨v0,D⟩:∃v,g[f.length]?=some v:=⟨_,bI (by omega)⟩;obtain⟨d1,aC,aT⟩:=Paired.getL z D;refine⟨_,rfl,t,_,1,.ref l2,rfl,rfl,bE.of Y.t,rfl,_,rfl,l2,J,f,g,Gt.dts Ts,rfl,Y.a2,A,z,by omega,by omega,fun q xs H6 M aX S6=>?_⟩;refine⟨_,rfl,_,rfl,J,_,-1,v0,rfl,rfl,aF.of (S6 _ _ A),sU b5.symm D,(by show 3<=ai;decide),fun r a0=>?_⟩;have S7:ac H6 (upd H6 r (.tup [.str "wait",.ref q,v0])):=ac.new a0;have b6:=S6.trans S7;have I:=S3.trans b6;exact⟨_,.nd none f Ts,_,_,rfl,sQ aa (S7 _ _ M) aC (bx.kt (ac.kt b6) _ _ aT) (c7.kt (ac.kt S7) aX),bN none,hN none,U.ex I,B.trans (ac.exB I)⟩
  ·obtain⟨v0,D⟩:∃v,g[0]?=some v:=⟨_,bI (by omega)⟩;obtain⟨d1,aC,aT⟩:=Paired.getL z D;refine⟨_,rfl,_,rfl,J,_,0,v0,rfl,rfl,aF.of A,aM (j:=0) D,_,rfl,t,_,1,.ref l2,rfl,rfl,bE.of Y.t,rfl,_,rfl,_,rfl,J,_,rfl,aF.of A,fun dl co=>?_⟩;rw[show gq g (some 1) none=g.drop 1 from kL _ 1];have S5:ac G3 (upd G3 dl (.lst (g.drop 1))):=ac.new co;have b7:upd G3 dl (.lst (g.drop 1)) dl=some (.lst (g.drop 1)):=aa;generalize upd G3 dl (.lst (g.drop 1))=G5 at S5 b7 ⊢;refine⟨l2,dl,f,g.drop 1,(Gt.dts Ts).drop 1,rfl,S5 _ _ Y.a2,b7,Paired.dropP 1 (c7.kt (ac.kt S5) z),by rw[cA];omega,by omega,fun q xs H6 M aX S6=>⟨(by show 4<=ai;decide),fun r a0=>?_⟩⟩;have S7:ac H6 (upd H6 r (.tup [.str "tell",.str a,v0,.ref q])):=ac.new a0;have b8:=S5.trans (S6.trans S7);have I:=S3.trans b8;exact⟨_,.nd (some a) f Ts,_,_,rfl,yH aa (S7 _ _ M) aC (bx.kt (ac.kt b8) _ _ aT) (c7.kt (ac.kt S7) aX) zp,bN (some a),hN (some a),U.ex I,B.trans (ac.exB I)⟩
 have:r=0∨r=1:=by omega
 rcases this with rfl|rfl
 ·exact⟨l,_,0,.ref u,rfl,rfl,aF.of (N _ _ as a7),rfl,go u "end" (jv (.inl (bd _ _ a5)))⟩
 ·exact⟨l,_,1,.ref y,rfl,rfl,aF.of (N _ _ as a7),rfl,go y "blame" (jv (.inl (bd _ _ a6)))⟩
def SmL(x y:V):Prop:=(∃n:Nat,x=.int (n:Nat)/\y=.int (n:Nat))∨(x=.bl true/\y=.bl true)
def Sm(K:Za)(H:Hp):Nat->V->V->Prop
 |0,x,y=>SmL x y
 |m+1,x,y=>SmL x y∨∃f b xs ys,x=.ref f/\y=.ref b/\H f=some (.tup xs)/\H b=some (.tup ys)/\Paired (Sm K H m) xs ys/\xs.length<=1000
theorem Sm.same{K:Za}{H a:Hp}(S:ac H a):∀{n:Nat}{x y:V},Sm K H n x y->Sm K a n x y
 |0,x,y,h=>h
 |m+1,x,y,h=>by
  rcases h with h|⟨f,b,xs,e,g,i,j,k,l,z⟩
  ·exact .inl h
  ·exact .inr ⟨f,b,xs,e,g,i,S _ _ j,S _ _ k,Paired.mapP l fun _ _ r=>Sm.same S r,z⟩
theorem FZ{K:Za}{H:Hp}:∀w:List Nat,Paired (Sm K H 0) (fH w) (fH w)
 |[]=>.nil
 |n::w=>.cons (.inl ⟨n,rfl,rfl⟩) (FZ w)
inductive eo(K:Za)(n:Nat)(vs:List V)(H:Hp)(Q:VK)(E:XK):Prop
 |mk (x y:V):(vs=[x,y])->(Sm K H n x y)->(∀H',ac H H'->Q (.bl true) H')->eo K n vs H Q E
theorem Ez{K:Za}{n:Nat}{v:Sp}(w:∀m,n=m+1->v=eo K m){G:List V}{H:Hp}{Q:VK}{E:XK}(h:eo K n G H Q E):oS K v (bq Q) (start pW G) H:=by
 obtain⟨x,y,rfl,s,k⟩:=h;have I:SmL x y->oS K v (bq Q) (start pW [x,y]) H:=fun h=>by
  rcases h with⟨i,rfl,rfl⟩|⟨rfl,rfl⟩
  ·refine⟨_,rfl,_,rfl,?_⟩;rw[zzr0 nofun];refine aZ ?_;refine⟨_,rfl,.int i,"bool",_,false,rfl,.inl (jW.int i),rfl,_,rfl,aZ ?_⟩;refine⟨_,rfl,.int i,"str",_,false,rfl,.inl (jW.int i),rfl,_,rfl,aZ ?_⟩;refine⟨_,rfl,.int i,"int",_,true,rfl,.inl (jW.int i),rfl,_,rfl,br ?_⟩;refine⟨_,rfl,.int i,"int",_,true,rfl,.inl (jW.int i),rfl,_,rfl,br ?_⟩;refine⟨_,rfl,.int i,"bool",_,false,rfl,.inl (jW.int i),rfl,_,rfl,_,rfl,br ?_⟩;refine⟨_,rfl,_,rfl,Fw i,Fw i,rfl,rfl,cp _,cp _,?_⟩;rw[zzr1 rfl];exact k H (ac.refl _)
  ·refine⟨_,rfl,_,rfl,?_⟩;rw[zzr0 nofun];refine aZ ?_;refine⟨_,rfl,.bl true,"bool",_,true,rfl,.inl (jW.bl true),rfl,_,rfl,br ?_⟩;refine⟨_,rfl,.bl true,"bool",_,true,rfl,.inl (jW.bl true),rfl,_,rfl,br ?_⟩;refine⟨_,rfl,_,rfl,rfl,?_⟩;rw[zzr1 rfl];exact k H (ac.refl _)
 cases n with
 |zero=>exact I s
 |succ m =>
 rcases s with s|⟨f,b,xs,A,rfl,rfl,hf,t,J,z⟩
 ·exact I s
 obtain rfl:=w m rfl;have ty:LH K H (.ref b) (.type "tuple"):=.inr (.inl ⟨_,_,rfl,rfl,bE.of t⟩);have M:LH K H (.ref f) (.type "tuple"):=.inr (.inl ⟨_,_,rfl,rfl,bE.of hf⟩);refine⟨_,rfl,_,rfl,?_⟩;rw[zzr0 nofun];refine aZ ?_;refine⟨_,rfl,.ref b,"bool",_,false,rfl,ty,rfl,_,rfl,aZ ?_⟩;refine⟨_,rfl,.ref b,"str",_,false,rfl,ty,rfl,_,rfl,aZ ?_⟩;refine⟨_,rfl,.ref b,"int",_,false,rfl,ty,rfl,_,rfl,aZ ?_⟩;refine⟨_,rfl,.ref b,"tuple",_,true,rfl,ty,rfl,_,rfl,br ⟨_,rfl,.ref f,"tuple",_,true,rfl,M,rfl,_,rfl,aZ ?_⟩⟩;refine⟨_,rfl,.ref b,"list",_,false,rfl,ty,rfl,_,rfl,aZ (aZ ?_)⟩;refine⟨_,rfl,.inl ⟨f,_,rfl,.inr (bE.of hf),_,rfl,.inl ⟨b,_,rfl,.inr (bE.of t),rfl,_,rfl,?_⟩⟩⟩;have N:xs.length=A.length:=Paired.length J;have O:(!decide (V.int (xs.length:Nat)=V.int (A.length:Nat)))=false:=by rw[zzr1 (by rw[N])];rfl
 rw[O];refine aZ ⟨_,rfl,_,rfl,f,b,rfl,.inr ⟨⟨_,bE.of hf⟩,⟨_,bE.of t⟩,fun l g=>?_⟩⟩
 let B:Nat->List V->Hp->Prop:=fun i j q=>j=(dz i true).map V.bl/\ac H q/\q l=some (.lst j)
 refine Fd (xs:=xs) (ys:=A) (by omega) B ⟨rfl,ac.new g,aa⟩ (fun i j q _ T=>by obtain⟨_,S,C⟩:=T;exact⟨C,bE.of (S _ _ hf),bE.of (S _ _ t)⟩) ?_ ?_
 ·rintro j q ⟨rfl,S,C⟩;exact⟨l,_,rfl,aF.of C,by rw[AU];exact k q S⟩
 ·rintro i j u x y p hx U hi ⟨rfl,S,Y⟩ hp;have D:ac u (upd u p (.tup [x,y])):=ac.new hp;have L:upd u p (.tup [x,y]) p=some (.tup [x,y]):=aa;generalize upd u p (.tup [x,y])=H2 at D L ⊢;obtain⟨y',a,hr⟩:=Paired.getL J hx;rw[U]at a;injection a with a;subst a;refine⟨p,_,rfl,bE.of L,rfl,_,_,rfl,_,_,rfl,rfl,lA ?_⟩;refine⟨_,rfl,_,rfl,x,y,rfl,Sm.same (S.trans D) hr,fun H3 S3=>?_⟩;have r:=D.trans S3;refine⟨r _ _ Y,by rw[ao,fG];exact ax (by omega),vn hi ⟨by rw[<-Ge,aQ];rfl,fun b o e=>?_,aa⟩⟩;rw[am (ah e g)];exact r _ _ (S _ _ e)
structure RfY(K:Za)(Cn Ct Cw Cwd Cte Ck Cs Cr Cnu Cm Cx Cj Cd:Addr):Prop where
 nn:wW K (.ref Cn) (.ref Cn)=some true
 en:LQ K Cn
 nt:mS K (.ref Cn) (.ref Ct)=some true
 nv:mS K (.ref Cn) (.type "ValueError")=some true
 no:qh K (.ref Cn) [.ref Cd,.ref Cj,.ref Cx,.ref Cm,.ref Cnu,.ref Cr,.ref Cs]=some false
 n4:qh K (.ref Cn) [.ref Ck,.ref Cte,.ref Cwd,.ref Cw]=some false
 fn:XF K Cn ["way"]
inductive fK(K:Za)(C:Addr)(vs:List V)(H:Hp)(Q:VK)(E:XK):Prop
 |mk (M I:Addr) (v:V) (T:Gt) (J0 J2 J4 r1:Zb) (ds d1:List aJ) (kind:Int):(vs=[.ref M,v,.int kind,.ref I])->(bt C H M J0 J2 J4 ds)->(bt C H I J0 J2 r1 d1)->(bx K H T.dt v)->(T.wf)->(0<=kind)->(1<kind->(∀r∈r1,∀a∈J0,uQ d1 r a)/\refW J0 J2 T≠none) ->
  (refW J0 J2 T=none->∀H',ac H H'->Q (.str "none") H')->(∀w,refW J0 J2 T=some w->∀(u wr:Addr) (H':Hp),H' u=some (.tup [.ref wr,.bl true])->H' wr=some (.tup (fH w))->ac H H'->Q (.ref u) H')->fK K C vs H Q E
theorem BQ{K:Za}{C Cn Ct D j k G Cs m i n Cx o p:Addr}(F:RfY K Cn Ct D j k G Cs m i n Cx o p){vs:List V}{H:Hp}{Q:VK}{E:XK}(h:fK K C vs H Q E):u9 K (eU K C Cn) (gQ K C Cn) (kA K C Cn) (mh K C Cn) (km K C Cn) Cn Ct D j k G Cs m i n Cx o p (bq Q) (start vz vs) H:=by
 obtain⟨M,I,v,T,q,r,Y,r1,ds,d1,f,rfl,MA,IA,J,wf,k0,k1,kn,kx⟩:=h;have g:∀(w:List Nat) (x:Addr) (a:Hp),refW q r T=some w->pV Cn w H a x->(Kf K Cn 5 (ar (aO (cS (An K) (aj V5 (aj (aW (aj (tC (.ref p)) (aj (tC (.ref o)) (aj (tC (.ref Cx)) (aj (tC (.ref n)) (cq (tC (.ref i)) (tC (.ref m)) (tC (.ref Cs)))))))) aU))) U6)
   (ar (aO (Bu V6 (cS (An K) (aj V5 (aj (aW (aj (tC (.ref G)) (cq (tC (.ref k)) (tC (.ref j)) (tC (.ref D))))) aU)))) U6)
   (aO (aW (aj (FS K V5 "way") (aj (iX (cS (Gv K) (aE V5 (tC (.ref Ct)))) (iX (cS (Gv K) (aE V5 (tC (.ty "ValueError")))) (C5 V6))) aU))) U4))) (Ke)) { nx:=fun σ' H'=>aR V4 (bq Q) σ' H',rt:=Q } [some (.ref M),some v,some (.int f),some (.ref I),some (.str "none"),none,none] (.ref Cn) (some x) a:=fun w x a e l=>by
  obtain⟨L,d,wr,ha,hd,ab⟩:=l;refine⟨Cn,x,true,rfl,rfl,F.nn,br ?_⟩;refine⟨_,rfl,(by show 7<=ai;decide),fun w7 al=>?_⟩;have s:ac a (upd a w7 (.tup [.ref p,.ref o,.ref Cx,.ref n,.ref i,.ref m,.ref Cs])):=ac.new al;refine⟨x,Cn,w7,some d,[p,o,Cx,n,i,m,Cs],false,rfl,aa,s _ _ ha,.inr ⟨d,_,rfl,s _ _ hd⟩,F.en,F.no,?_⟩;show(ar _ _) _ _ (upd a w7 (.tup [.ref p,.ref o,.ref Cx,.ref n,.ref i,.ref m,.ref Cs]));generalize upd a w7 (.tup [.ref p,.ref o,.ref Cx,.ref n,.ref i,.ref m,.ref Cs])=H2 at s ⊢;have N:=s _ _ ha;have O:=s _ _ hd;refine⟨_,rfl,_,rfl,aZ ⟨_,rfl,(by show 4<=ai;decide),fun w4 an=>?_⟩⟩;have t:ac H2 (upd H2 w4 (.tup [.ref G,.ref k,.ref j,.ref D])):=ac.new an;refine⟨x,Cn,w4,some d,[G,k,j,D],false,rfl,aa,t _ _ N,.inr ⟨d,_,rfl,t _ _ O⟩,F.en,F.n4,?_⟩;generalize upd H2 w4 (.tup [.ref G,.ref k,.ref j,.ref D])=H3 at t ⊢;have y:=t _ _ N;have A:=t _ _ O;refine⟨_,rfl,x,Cn,d,_,.ref wr,rfl,y,A,F.fn.cls,F.fn.no _ (by simp),(by simp[iN]),?_⟩;refine⟨_,rfl,x,Cn,some d,_,_,_,rfl,.inl ⟨_,rfl,rfl⟩,y,.inr ⟨d,_,rfl,A⟩,F.en,F.nt,_,rfl,br ?_⟩;refine⟨_,rfl,x,Cn,some d,_,_,_,rfl,.inr ⟨_,rfl,rfl⟩,y,.inr ⟨d,_,rfl,A⟩,F.en,F.nv,_,rfl,br ?_⟩;refine⟨_,rfl,_,rfl,(by show 2<=ai;decide),fun u hu=>?_⟩;have S4:ac H3 (upd H3 u (.tup [.ref wr,.bl true])):=ac.new hu;exact⟨_,rfl,kx w e u wr _ aa ((s.trans (t.trans S4)) _ _ ab) (L.trans (s.trans (t.trans S4)))⟩
 have U:∀(a:Hp),refW q r T=none->ac H a->(aR V4) (bq Q) [some (.ref M),some v,some (.int f),some (.ref I),some (.str "none"),none,none] a:=fun a B S=>⟨_,rfl,kn B a S⟩;refine⟨_,rfl,rfl,_,rfl,?_⟩;by_cases c0:f=0
 ·rw[zzr1 (by rw[c0])];exact br ⟨_,rfl,_,rfl,M,v,T,q,r,Y,ds,rfl,MA,J,wf,fun B a L=>U a B L,fun w e x a l=>g w x a e l⟩
 rw[zzr0 (fun z=>c0 (by injection z))];refine aZ ⟨_,rfl,rfl,_,rfl,?_⟩;by_cases c1:f=1
 ·rw[zzr1 (by rw[c1])];exact br ⟨_,rfl,_,rfl,M,v,T,q,r,Y,ds,rfl,MA,J,wf,fun B u a L=>U a B L,fun w e x a l=>g w x a e l⟩
 rw[zzr0 (fun z=>c1 (by injection z))];obtain⟨tk,B⟩:=k1 (by omega);obtain⟨w,e⟩:=Option.ne_none_iff_exists'.1 B;refine aZ ⟨_,rfl,rfl,_,rfl,?_⟩;by_cases c2:f=2
 ·rw[zzr1 (by rw[c2])];exact br ⟨_,rfl,_,rfl,_,rfl,M,I,v,T,q,r,Y,r1,ds,d1,w,rfl,MA,IA,tk,J,wf,e,fun x a l=>g w x a e l⟩
 rw[zzr0 (fun z=>c2 (by injection z))];refine aZ ⟨_,rfl,rfl,_,rfl,?_⟩;by_cases c3:f=3
 ·rw[zzr1 (by rw[c3])];exact br ⟨_,rfl,_,rfl,M,_,v,T,q,r,Y,ds,w,rfl,MA,J,wf,e,fun x a l=>g w x a e l⟩
 rw[zzr0 (fun z=>c3 (by injection z))];exact aZ ⟨_,rfl,_,rfl,I,v,T,q,r,r1,d1,w,rfl,IA,J,wf,e,fun x a l=>g w x a e l⟩
theorem Ly:ow "r":=⟨by decide +kernel,by decide +kernel,fun c a=>by
 have:c=114:=by
  have e:("r":Str).cps=#[114]:=by decide +kernel
  rw[e]at a;simpa using a
 subst this;exact⟨by decide,by decide⟩⟩
def uj(a:Str):aJ:=⟨"r",iB a,"r"⟩
theorem IY{f i k:Zb}{l:List aJ}(m:cy f i k l):cy f i ["r"] (f.map uj):=by
 have j:∀{a b:Str},¬(⟨a,cj,b⟩:aJ)∈f.map uj:=fun{a b} h=>by
  obtain⟨w,_,e⟩:=bA.1 h;injection e with _ e _;have e:([("ask":Str),w]:Zb)=[("still":Str)]:=e;injection e with _ e;cases e
 refine⟨m.okA,m.okS,m.apart,⟨by simp,fun w g=>by rw[eD.1 g];exact Ly⟩,m.asks0,m.says0,List.cons_ne_nil _ _,m.asks4,m.says4,by decide,?_,fun d o=>?_,by rw[ao];have:=m.asks4;omega,fun r z=>?_⟩
 ·refine List.pairwise_map.2 (m.okA.1.imp fun{x y} n e=>?_);injection e with _ e _;have e:([("ask":Str),x]:Zb)=[("ask":Str),y]:=e;injection e with _ e;injection e with e;exact n e
 ·obtain⟨w,g,rfl⟩:=bA.1 o;exact⟨eD.2 rfl,eD.2 rfl,.inl ⟨w,g,rfl⟩⟩
 ·cases z with
  |one h=>exact j h
  |step _ h=>exact j h
theorem Im{e:Zb}:∀r∈[("r":Str)],∀a∈e,uQ (e.map uj) r a:=fun r f a g=>by
 rw[eD.1 f];exact⟨"r",.inl rfl,"r",bA.2 ⟨a,g,rfl⟩⟩
theorem BM{K:Za}{σ:L2.St}{j:Hp}{l y:Addr}{m:Zb}{Q:Hp->Prop}(G:j y=some (.lst (m.map V.str)))(z:m.length<=4)(A:j l=none)(k:∀(a:Ze) (f:Hp),f l=some (.lst (a.map V.ref))->eP f a (m.map uj)->ac j f->Q f):
  cP 1 [] σ (Fz K y) U0 (d6) (aW (cq (tC (.str "r")) (aW (aE (tC (.str "ask")) V0)) (tC (.str "r")))) j l Q:=by
 let t:Nat->List V->Hp->Prop:=fun i n f=>∃a:List Addr,n=a.map V.ref/\ac j f/\f l=some (.lst n)/\eP f a ((m.take i).map uj)
 refine eA (xs:=m.map V.str) t ⟨[],rfl,ac.new A,aa,.nil⟩ (fun i n f _ H=>by obtain⟨_,_,S,I,_⟩:=H;exact⟨I,aF.of (S _ _ G)⟩) ?_ ?_
 ·rintro n h ⟨a,rfl,J,u,p⟩;rw[ao,cv]at p;exact k a h u p J
 ·rintro i n h x hx hi ⟨a,rfl,S,u,p⟩;obtain⟨w,L,rfl⟩:=cX hx;refine gN (lA ⟨_,rfl,(by show 2<=ai;decide),fun s M=>?_⟩);have B:ac h (upd h s (.tup ((iB w).map V.str))):=ac.new M;have C:upd h s (.tup ((iB w).map V.str)) s=some (.tup ((iB w).map V.str)):=aa;have N:(.tup [.str "ask",.str w]:HO)=.tup ((iB w).map V.str):=rfl;rw[N];generalize upd h s (.tup ((iB w).map V.str))=r at B C ⊢;refine⟨(by show 3<=ai;decide),fun q O=>?_⟩;have v:ac r (upd r q (.tup [.str "r",.ref s,.str "r"])):=ac.new O;have D:upd r q (.tup [.str "r",.ref s,.str "r"]) q=some (.tup [.str "r",.ref s,.str "r"]):=aa;generalize upd r q (.tup [.str "r",.ref s,.str "r"])=T at v D ⊢;have g:=B.trans v;have E:=g _ _ u;have kt:=fo (o:=.lst (a.map V.ref++[.ref q])) E;have U:a.length<=4:=by rw[Paired.length p,ao,aK];omega
  refine⟨E,by rw[ao];exact ax (by omega),vn hi ⟨a++[q],by rw[aQ];rfl,fun b o e=>by rw[am (ah e A)];exact g _ _ (S _ _ e),aa,?_⟩⟩;rw[take_snoc L,aQ];exact eE (eP.kt (fun b xs e=>kt _ _ (ac.kt g _ _ e)) p) ⟨s,kt _ _ D,kt _ _ (v _ _ C)⟩
theorem F0{K:Za}{H:Hp}{u a f e:Addr}{w:List Nat}(g:H u=some (.tup [.ref a,.bl true]))(h:H a=some (.tup (fH w)))(i:H f=some (.tup [.ref e,.bl true]))(j:H e=some (.tup (fH w)))(z:w.length<=1000):Sm K H 2 (.ref u) (.ref f) :=
 .inr ⟨u,f,_,_,rfl,rfl,g,i,.cons (.inr ⟨a,e,_,_,rfl,rfl,h,j,FZ w,by rw[FI];exact z⟩) (.cons (.inl (.inr ⟨rfl,rfl⟩)) .nil),by show 2<=1000;decide⟩
inductive gR(K:Za)(C:Addr)(vs:List V)(H:Hp)(Q:VK)(E:XK):Prop
 |mk (p c t l1 l2 l3 l4 M:Addr) (ts:Ze) (J0 J2 J4:Zb) (ds:List aJ):(vs=[.ref p,.ref t,.ref M])->(dW H p c)->(gV H t l1 l2 l3 l4 ts J0 J2 J4 ds)->(cy J0 J2 J4 ds)->(bt C H M J0 J2 J4 ds)->(∀H',dW H' p c->Q (.bl true) H')->gR K C vs H Q E
theorem EG{K:Za}{C:Addr}{vs:List V}{H:Hp}{Q:VK}{E:XK}(h:gR K C vs H Q E):oU K bB (eo K 2) (fK K C) (pj K) C (pf C) (bq Q) (start pX vs) H:=by
 obtain⟨p,c,t,l1,l2,l3,l4,M,ts,a,q,J4,ds,rfl,hp,T,m,MA,k⟩:=h;refine⟨_,rfl,t,_,0,.ref l1,rfl,rfl,bE.of T.t,rfl,l1,rfl,⟨_,aF.of T.a1⟩,fun dl a0=>?_⟩;refine BM T.a1 m.asks4 a0 fun us H0 h0 hD S0=>?_;have T0:=T.same S0;refine⟨_,rfl,t,_,0,.ref l1,rfl,rfl,bE.of T0.t,rfl,.inl ⟨l1,_,rfl,.inl (aF.of T0.a1),fun m1 h1=>?_⟩⟩;have S1:ac H0 (upd H0 m1 (.lst (a.map V.str))):=ac.new h1;have e1:upd H0 m1 (.lst (a.map V.str)) m1=some (.lst (a.map V.str)):=aa;generalize upd H0 m1 (.lst (a.map V.str))=H1 at S1 e1 ⊢;have T1:=T0.same S1;refine⟨_,rfl,t,_,1,.ref l2,rfl,rfl,bE.of T1.t,rfl,.inl ⟨l2,_,rfl,.inl (aF.of T1.a2),fun m2 h2=>?_⟩⟩;have S2:ac H1 (upd H1 m2 (.lst (q.map V.str))):=ac.new h2;have e2:upd H1 m2 (.lst (q.map V.str)) m2=some (.lst (q.map V.str)):=aa;generalize upd H1 m2 (.lst (q.map V.str))=H2 at S2 e2 ⊢;refine⟨(by show 1<=ai;decide),fun m3 h3=>?_⟩;have f:ac H2 (upd H2 m3 (.lst (([("r":Str)]:Zb).map V.str))):=ac.new h3;have e3:upd H2 m3 (.lst (([("r":Str)]:Zb).map V.str)) m3=some (.lst (([("r":Str)]:Zb).map V.str)):=aa;have er:(.lst [.str "r"]:HO)=.lst (([("r":Str)]:Zb).map V.str):=rfl;rw[er];generalize upd H2 m3 (.lst (([("r":Str)]:Zb).map V.str))=H3 at f e3 ⊢;have D:=S1.trans (S2.trans f);have ab:=S0.trans D;refine⟨_,rfl,fun x dx hx a4 a5=>?_⟩;have s:ac H3 (upd (upd H3 dx (.own x)) x (.ins C dx [])):=(ac.new a4).trans (ac.new (by rw[am a5.symm];exact hx));refine⟨x,dx,m1,m2,m3,dl,us,a,q,["r"],a.map uj,rfl,aa,⟨s _ _ ((S2.trans f) _ _ e1),s _ _ (f _ _ e2),s _ _ e3,s _ _ (D _ _ h0),hD.kt (ac.kt (D.trans s))⟩,IY m,fun H5 I5 a6=>⟨rfl,?_⟩⟩;have U:ac H H5:=fun b o e=>a6 _ _ ((ab.trans s) _ _ e) (ah (ab _ _ e) hx);have g:=hp.ex U;have T5:=T.same U;have M5:=MA.same U;refine⟨2,rfl,by decide,by decide,?_⟩
 let a7:Nat->L2.St->Hp->Prop:=fun i σ G=>Jp fun(x5 x6 I:Option V)=>NA3 (σ=[some (.ref p),some (.ref t),some (.ref M),some (.ref dl),some (.ref x),x5,x6,I]) (dW G p c) (cQ p H5 G)
 refine dS (lo:=0) (n:=wP 2) a7 ⟨_,_,_,rfl,g,cQ.refl _ _⟩ ?_ ?_;rotate_left
 ·rintro σ G ⟨x5,x6,I,rfl,J,_⟩;exact k G J
 rintro i σ G hi ⟨x5,x6,I,rfl,J,al⟩;have hi:i<2:=hi;refine⟨_,rfl,_,rfl,_,rfl,p,c,t,l1,l2,l3,l4,ts,a,q,J4,ds,i,congrArg (fun z=>[V.ref p,V.ref t,V.int z]) (Int.zero_add _),hi,J,T5.ex g al,m,fun v Tr G1 hv wf hg an a8=>?_⟩;have as:=al.trans a8;have rW:refW a q Tr=some []:=by unfold refW;rw[if_pos (.inl hg)]
 refine⟨_,rfl,cc an (by decide) (by decide) fun r G2 r0 r4 aC aT=>⟨_,_,rfl,rfl,(by show 2<=ai;decide),fun Y aX=>?_⟩⟩;have f:ac G2 (upd G2 Y (.lst [.int 0,.int (1+r)])):=ac.new aX;have L:upd G2 Y (.lst [.int 0,.int (1+r)]) Y=some (.lst [.int 0,.int (1+r)]):=aa;generalize upd G2 Y (.lst [.int 0,.int (1+r)])=G3 at f L ⊢;have A:=(as.trans aT).trans (ac.exB f);have a9:=aC.ex f;have bL:Y≠p:=(aC.nep aX).symm;have bd:bx K G3 Tr.dt v:=bx.kt (ac.kt f) _ _ (by obtain⟨xs,hx⟩:=an.lst;exact bx.kt (aT.kt hx) _ _ hv);refine⟨Y,rfl,⟨_,aF.of L⟩,?_⟩
 let bi:Nat->L2.St->Hp->Prop:=fun j σ G'=>∃I:Option V,σ=[some (.ref p),some (.ref t),some (.ref M),some (.ref dl),some (.ref x),some (.int (0+(i:Nat))),some v,I]/\ac G3 G'
 refine fz (xs:=[.int 0,.int (1+r)]) bi ⟨_,rfl,ac.refl _⟩ (fun j σ G' hj ⟨_,_,S⟩=>aF.of (S _ _ L)) ?_ ?_;rotate_left
 ·rintro σ G' ⟨I,rfl,S⟩;exact⟨_,_,_,rfl,a9.ex S,A.trans (ac.exB S)⟩
 rintro j y σ G' N ⟨I,rfl,S⟩;have ki:∃kd:Int,y=.int kd/\0<=kd:=by
  match j,N with
  |0,N=>cases N;exact⟨0,rfl,by decide⟩
  |1,N=>cases N;exact⟨1+r,rfl,by omega⟩
  |n+2,N=>cases N
 obtain⟨kd,rfl,bm⟩:=ki;have B:=A.trans (ac.exB S);refine⟨_,rfl,_,rfl,_,rfl,_,rfl,M,x,v,Tr,a,q,J4,["r"],ds,a.map uj,kd,rfl,M5.ex g B,I5.ex g B,bx.kt (ac.kt S) _ _ bd,wf,bm,(fun _=>⟨Im,by rw[rW];nofun⟩),(fun z=>by rw[rW]at z;cases z),fun w l u wr G4 hu bn s=>?_⟩;rw[rW]at l;injection l with l;subst l;refine⟨(by show 0<=ai;decide),fun e he=>?_⟩;have U:ac G4 (upd G4 e (.tup [])):=ac.new he;have e5:upd G4 e (.tup []) e=some (.tup []):=aa;generalize upd G4 e (.tup [])=G5 at U e5 ⊢;refine⟨(by show 2<=ai;decide),fun u2 bG=>?_⟩;have S6:ac G5 (upd G5 u2 (.tup [.ref e,.bl true])):=ac.new bG;have O:=U.trans S6;refine⟨_,_,rfl,F0 (w:=[]) (O _ _ hu) (O _ _ bn) aa (S6 _ _ e5) (cp _),fun G7 S7=>⟨_,rfl,aZ ⟨_,rfl,S.trans (s.trans (O.trans S7))⟩⟩⟩
mutual
theorem Gt.of_few{f e:Zb}:∀t:Tr,t.wf f e->(Gt.of e t).few e.length
 |.bl,_=>trivial
 |.en,_=>trivial
 |.nd a g,h=>⟨ay _,Gt.ofs_few g h.2.2⟩
theorem Gt.ofs_few{e a:Zb}:∀l:List Tr,Tr.wfs e a l->Gt.fews a.length (Gt.ofs a l)
 |[],_=>trivial
 |t::r,h=>⟨Gt.of_few t h.1,Gt.ofs_few r h.2⟩
end
theorem Gf{a f:Zb}{T:Gt}{w:List Nat}(wf:T.wf)(h:refW a f T=some w):w.length<=T.hgt:=by
 unfold refW at h;split at h
 ·injection h with h;rw[<-h];exact cp _
 ·obtain⟨e,g,rfl⟩:=ib.1 h;have:=(pC (P:=fun _=>True) (fun _ _ _ _=>trivial) T [] [] wf (fun _ _=>trivial) (ay _) e (List.mem_of_find?_eq_some g)).1;rw[lz]at this;omega
abbrev Lw(K:Za)(sp_law_far_refused sp_need_trial sp_law_same sp_law_refused:Sp):TS :=
 (ar (fe (gF (au (tC (.int 2)))) U9 (ar (aO (aw sp_law_refused (aj V5 (cq V6 V9 V5))) Mb)
 (bQ (Bv (jI (tB (Bw V8)) (aV (aq Lj Jj (tC (.str "none"))))) (jI (tB (vP V8)) (qN (tB (aw sp_law_same (aj Jj (au (aW (aE V8 (tC (.bl true))))))))))) (aR (tC (.bl false))) (ba))))
 (ar (bQ (jI (tB (Bw V8)) (tB (vP (aw sp_need_trial (aE V5 V6))))) (aR (tC (.bl false))) (ba))
 (bQ (jI (aV (aq iL V3 V2)) (qN (tB (aw sp_law_far_refused (cq V1 V4 V5))))) (aR (tC (.bl false))) (ba))))
theorem Gd{K:Za}{C Cn:Addr}{H:Hp}{p c t l1 l2 l3 l4 M:Addr}{ts:Ze}{g h l:Zb}{o:List aJ}{v s:V}{T:Gt}{D:gC}{y A j a:Option V}{f turn:Int}(hp:dW H p c)(TT:gV H t l1 l2 l3 l4 ts g h l o)(m:cy g h l o)(I:bt C H M g h l o)(hv:bx K H T.dt v)(wf:T.wf)(hg:T.hgt<=12)
  (J:(refW g h T=none/\s=.non)∨∃w q,refW g h T=some w/\s=.ref q/\H q=some (.tup (fH w)))
  (kn:∀(j a:Option V) (H':Hp),dW H' p c->D.nx [y,some (.ref p),some (.int f),some (.int turn),some (.ref t),some (.ref M),some v,A,some s,j,a] H') :
  Lw K (gR K C) (eU K C Cn) (eo K 2) (fK K C) D [y,some (.ref p),some (.int f),some (.int turn),some (.ref t),some (.ref M),some v,A,some s,j,a] H:=by
 refine⟨2,rfl,by decide,by decide,?_⟩
 let L:Nat->L2.St->Hp->Prop:=fun i σ G=>∃(j a:Option V),σ=[y,some (.ref p),some (.int f),some (.int turn),some (.ref t),some (.ref M),some v,A,some s,j,a]/\ac H G
 refine dS (lo:=0) (n:=wP 2) L ⟨_,_,rfl,ac.refl _⟩ ?_ ?_
 ·rintro i σ G hi ⟨j,a,rfl,S⟩;have hi:i<2:=hi;have M1:=I.same S;refine⟨_,rfl,_,rfl,_,rfl,_,rfl,M,M,v,T,g,h,l,l,o,o,0+(i:Int),rfl,M1,M1,bx.kt (ac.kt S) _ _ hv,wf,by omega,(fun z=>by omega),fun N O B=>?_,fun w r u wr O hu Q B=>?_⟩
  ·rcases J with⟨_,rfl⟩|⟨w,q,e,_⟩
   ·refine⟨_,rfl,_,rfl,br ⟨_,rfl,rfl,_,rfl,?_⟩⟩;refine aZ ⟨_,rfl,_,rfl,aZ (aZ ⟨_,_,rfl,S.trans B⟩)⟩
   ·rw[N]at e;cases e
  ·rcases J with⟨e,_⟩|⟨w',q,e,rfl,hq⟩
   ·rw[r]at e;cases e
   rw[r]at e;injection e with e;subst e;refine⟨_,rfl,_,rfl,?_⟩;rw[zzr0 (fun z=>by cases z)];refine aZ (aZ ⟨_,rfl,_,rfl,?_⟩);rw[zzr0 (fun z=>by cases z)];refine br ⟨_,rfl,_,rfl,(by show 2<=ai;decide),fun u2 U=>?_⟩;have x:ac O (upd O u2 (.tup [.ref q,.bl true])):=ac.new U;have zw:=Gf wf r;refine⟨_,_,rfl,F0 (x _ _ hu) (x _ _ Q) aa ((S.trans (B.trans x)) _ _ hq) (by omega),fun G3 S3=>⟨_,rfl,aZ ⟨_,_,rfl,S.trans (B.trans (x.trans S3))⟩⟩⟩
 ·rintro σ G ⟨j,a,rfl,S⟩;have k:∀Y:Hp,ac H Y->(bQ (jI (aV (aq iL V3 V2)) (qN (tB (aw (gR K C) (cq V1 V4 V5))))) (aR (tC (.bl false))) (ba)) D [y,some (.ref p),some (.int f),some (.int turn),some (.ref t),some (.ref M),some v,A,some s,j,a] Y:=fun Y E=>by
   refine⟨_,rfl,_,rfl,rfl,_,rfl,?_⟩;refine pK (fun _=>?_) (fun _=>aZ (kn _ _ _ (hp.ex E)));exact⟨_,rfl,_,rfl,_,rfl,p,c,t,l1,l2,l3,l4,M,ts,g,h,l,o,rfl,hp.ex E,TT.same E,m,I.same E,fun G2 ab=>⟨_,rfl,aZ (kn _ _ _ ab)⟩⟩
  refine⟨_,rfl,_,rfl,?_⟩;rcases J with⟨N,rfl⟩|⟨w',q,e,rfl,hq⟩
  ·refine br ⟨_,rfl,_,rfl,M,v,T,g,h,l,o,rfl,I.same S,bx.kt (ac.kt S) _ _ hv,wf,fun _ G2 x=>⟨_,rfl,aZ (k G2 (S.trans x))⟩,fun w z=>by rw[N]at z;cases z⟩
  ·rw[zzr0 (fun z=>by cases z)];exact aZ (aZ (k G S))
abbrev l29D(K:Za)(sp_law_far_refused sp_need_trial sp_law_same sp_law_refused sp_law_due:Sp):TS :=
 (ar (aO (aw sp_law_due (aE V4 V6)) U8) (Lw K sp_law_far_refused sp_need_trial sp_law_same sp_law_refused))
theorem JP{K:Za}{C Cn:Addr}{H:Hp}{p c t u x y z M:Addr}{A:Ze}{i j k:Zb}{l:List aJ}{v:V}{T:Gt}{D:gC}{B E n g a:Option V}{h turn:Int}(G:dW H p c)(TT:gV H t u x y z A i j k l)(m:cy i j k l)(I:bt C H M i j k l)(o:bx K H T.dt v)(wf:T.wf)(r:T.hgt<=12)
  (J:∀(n g a:Option V) (f:Hp),dW f p c->D.nx [B,some (.ref p),some (.int h),some (.int turn),some (.ref t),some (.ref M),some v,E,n,g,a] f) :
  l29D K (gR K C) (eU K C Cn) (eo K 2) (fK K C) (lJ K) D [B,some (.ref p),some (.int h),some (.int turn),some (.ref t),some (.ref M),some v,E,n,g,a] H:=by
 refine⟨_,rfl,_,rfl,t,u,x,y,z,A,i,j,k,l,v,T,rfl,TT,o,wf,r,fun L N e=>?_,fun w s q N O e=>?_⟩
 ·exact Gd (G.ex e) (TT.same e) m (I.same e) (bx.kt (ac.kt e) _ _ o) wf r (.inl ⟨L,rfl⟩) fun g a f q=>J _ _ _ f q
 ·exact Gd (G.ex e) (TT.same e) m (I.same e) (bx.kt (ac.kt e) _ _ o) wf r (.inr ⟨w,q,s,rfl,O⟩) fun g a f q=>J _ _ _ f q
theorem LG{r:Int}(a:0<=r)(e:r<6):∃n:Nat,vv [V.int 1,.int 1,.int 2,.int 0,.int 1,.int 2] r=some (.int n)/\n<=2:=by
 have:r=0∨r=1∨r=2∨r=3∨r=4∨r=5:=by omega
 rcases this with rfl|rfl|rfl|rfl|rfl|rfl
 ·exact⟨1,rfl,by decide⟩
 ·exact⟨1,rfl,by decide⟩
 ·exact⟨2,rfl,by decide⟩
 ·exact⟨0,rfl,by decide⟩
 ·exact⟨1,rfl,by decide⟩
 ·exact⟨2,rfl,by decide⟩
inductive sp_law29(K:Za)(vs:List V)(H:Hp)(Q:VK)(E:XK):Prop
 |mk (a:Addr) (ns:List Int):(vs=[.ref a])->(aF K H a (ns.map V.int))->(ns.length<=63)->(∀H',Q (.bl true) H')->sp_law29 K vs H Q E
theorem Gm{K:Za}{C Cn:Addr}{vs:List V}{H:Hp}{Q:VK}{E:XK}(h:sp_law29 K vs H Q E):Ip K (gR K C) (eU K C Cn) (eo K 2) (fK K C) (lJ K) bB (ph K) (eS K 5) (fU K 4) (kq C) pc (sK K) (bq Q) (start DX vs) H:=by
 obtain⟨a,ns,rfl,hs,hn,k⟩:=h;refine⟨_,rfl,a,ns,rfl,hs,hn,fun p c H1 _ e S1=>?_⟩;refine⟨_,rfl,cc e (by decide) (by decide) fun al H2 f0 f4 I bl=>?_⟩;refine⟨4,rfl,by decide,by decide,?_⟩
 let a5:Nat->L2.St->Hp->Prop:=fun i σ H'=>∃(x3 x4 x5 x6 J x8 x9 f:Option V),σ=[some (.ref a),some (.ref p),some (.int al),x3,x4,x5,x6,J,x8,x9,f]/\dW H' p c
 refine dS (lo:=0) (n:=wP 4) a5 ⟨_,_,_,_,_,_,_,_,rfl,I⟩ ?_ ?_;rotate_left
 ·rintro σ G ⟨x3,x4,x5,x6,J,x8,x9,f,rfl,_⟩;exact k G
 rintro i σ H2 hi ⟨x3,x4,x5,x6,J,x8,x9,f,rfl,I⟩;refine⟨_,rfl,p,c,6,1,rfl,I,by decide,by decide,by decide,by decide,fun t l1 l2 l3 l4 ts J0 J2 y z H3 T3 m bm few a6 bn=>?_⟩;refine⟨_,rfl,t,l1,l2,l3,l4,ts,J0,J2,y,z,rfl,T3,m,fun M H4 M4 S4=>?_⟩;have T4:=T3.same S4;have L:=a6.ex S4;refine⟨_,rfl,_,rfl,(by show 1<=ai;decide),fun g o=>?_⟩;have N:g≠p:=(L.nep o).symm;have O:g≠c:=(L.nec o).symm;have T5:gV (pM (upd H4 g (.lst [.int 15])) g) t l1 l2 l3 l4 ts J0 J2 y z:=by rw[AE o];exact T4
 have M5:bt C (pM (upd H4 g (.lst [.int 15])) g) M J0 J2 y z:=by rw[AE o];exact M4
 have U:dW (upd H4 g (.lst [.int 15])) p c:=L.upd N.symm O.symm;have an:upd H4 g (.lst [.int 15]) g=some (.lst [.int 15]):=aa;show fU K 4 [.ref p,.ref t,.int 4,.ref g] (upd H4 g (.lst [.int 15])) _ _;generalize upd H4 g (.lst [.int 15])=H5 at T5 M5 U an ⊢;refine⟨p,c,t,l1,l2,l3,l4,g,ts,4,15,J0,J2,y,z,rfl,by decide,U,N,O,T5,m,an,fun v Tt n' A hv wf hg l bG as=>?_⟩;have hh:=U.hid2 N.symm O.symm;have T6:gV A t l1 l2 l3 l4 ts J0 J2 y z:=(T5.ex hh as.hid).same jQ;have M6:bt C A M J0 J2 y z:=(M5.ex hh as.hid).same jQ;have s4:=m.says4;obtain⟨wG,hG⟩:=Gt.of_wf (J0:=J0) (J2:=J2) (by omega) Tt wf;have b0:Bd 4 4 (Gt.of J2 Tt):=⟨wG,Gt.few_up s4 _ (Gt.of_few Tt wf),by omega⟩;refine⟨(by show 6<=ai;decide),fun ll aC=>?_⟩;have S7:ac A (upd A ll (.lst [.int 1,.int 1,.int 2,.int 0,.int 1,.int 2])):=ac.new aC;have aT:upd A ll (.lst [.int 1,.int 1,.int 2,.int 0,.int 1,.int 2]) ll=some (.lst [.int 1,.int 1,.int 2,.int 0,.int 1,.int 2]):=aa;generalize upd A ll (.lst [.int 1,.int 1,.int 2,.int 0,.int 1,.int 2])=H7 at S7 aT ⊢;have a7:ll≠p:=(l.nep aC).symm;have a8:=l.ex S7;refine⟨_,rfl,cc a8 (by decide) (by decide) fun r H8 r0 r6 a9 aX=>?_⟩;obtain⟨nn,bd,n2⟩:=LG r0 r6;refine⟨ll,_,r,_,rfl,rfl,aF.of (aX _ _ aT a7),bd,_,rfl,by omega,by omega,?_⟩;have B:=(ac.exB S7 (p:=p)).trans aX;have a0:gB A H8:=by obtain⟨xs,hx⟩:=l.lst;exact B.kt hx
 let bi:Nat->L2.St->Hp->Prop:=fun j σ G=>Jp fun(v:V) (T:Gt) (J:Option V)=>K0 (σ=[some (.ref a),some (.ref p),some (.int al),some (.int (0+(i:Int))),some (.ref t),some (.ref M),some v,J,x8,x9,f]) (bx K G T.dt v) (Bd (4+j) (4+j) T) (dW G p c) (cQ p A G)
 refine dS (lo:=0) (n:=((nn:Nat):Int).toNat) bi ⟨v,Gt.of J2 Tt,_,rfl,bx.kt a0 _ _ (by rw[Gt.of_dt];exact hv),b0,a9,B⟩ ?_ ?_
 ·rintro j σ G hj ⟨v,T,J,rfl,hv,bT,s,u⟩;have hj:j<2:=by omega
  exact⟨_,rfl,_,rfl,_,rfl,p,c,t,l1,l2,l3,l4,ts,J0,J2,y,z,v,T,4+j,4+j,rfl,s,T6.ex l u,m,hv,bT,by omega,by omega,by omega,fun v' T' G2 Y w ab x=>⟨v',T',_,rfl,Y,w,ab,u.trans x⟩⟩
 ·rintro σ G ⟨v,T,J,rfl,hv,bT,s,u⟩;refine⟨_,rfl,cc s (by decide) (by decide) fun r G1 r0 r4 e a4=>⟨rfl,_,rfl,?_⟩⟩;have D:=u.trans a4;have TG:=T6.ex l D;have MG:=M6.ex l D;refine pK (fun _=>?_) (fun _=>?_)
  ·refine⟨_,rfl,_,rfl,p,c,t,l1,l2,l3,l4,ts,J0,J2,y,z,rfl,e,TG,m,fun v' T' G2 Y w ab x=>?_⟩;exact JP ab (TG.ex e x) m (MG.ex e x) Y w.wf (bo w.hg (by decide)) fun x8 x9 f H' q=>⟨_,_,_,_,_,_,_,_,rfl,q⟩
  ·have kt:gB G G1:=by obtain⟨xs,hx⟩:=s.lst;exact a4.kt hx
   exact JP e TG m MG (bx.kt kt _ _ hv) bT.wf (bo bT.hg (by omega)) fun x8 x9 f H' q=>⟨_,_,_,_,_,_,_,_,rfl,q⟩
theorem Lq{L:Ze}(f:L.Nodup)(i j:Nat){a b:Addr}(h:i<j)(hi:L[i]?=some a)(g:L[j]?=some b):b≠a:=fun e=>by
 obtain⟨k,l⟩:=cV.1 hi;obtain⟨m,n⟩:=cV.1 g;have:=List.pairwise_iff_getElem.mp f i j k m h;rw[l,n]at this;exact this e.symm
section
variable{K:Za}{mg:Str->Option Value}{Ct:Addr}
theorem G0{x:Str}{C:Addr}(h:XX K mg x C Ct){L:Ze}(a:∀D∈L,(∃y,XX K mg y D Ct)/\D≠Ct/\D≠C):qh K (.ref C) (L.map Value.ref)=some false:=by
 refine v9 fun v e=>?_;obtain⟨D,f,rfl⟩:=bA.1 e;obtain⟨⟨y,g⟩,i,j⟩:=a D f;rw[h.is g i,zzr0 j]
theorem Ki{a1 a2 a3 B C E G H I J M N:Str}{Cn p k m Cx r s n Cs t u v:Addr}(o:XX K mg a1 Cn Ct)(O:XX K mg a2 p Ct)(w:XX K mg a3 n Ct)(x:XX K mg B k Ct)(Q:XX K mg C s Ct)(T:XX K mg E Cs Ct)(U:XX K mg G u Ct)(z:XX K mg H m Ct)(Y:XX K mg I t Ct)(hx:XX K mg J Cx Ct)(hj:XX K mg M v Ct)(hd:XX K mg N r Ct)(xt:XO K Ct dA)(xg:XG K)
  (n3:bZ K Cn "way") (nd:[Ct,Cx,s,Cn,n,k,t,v,Cs,r,m,u,p].Nodup):RfY K Cn Ct p n k s Cs u m t Cx v r:=by
 have q:=fun(i j:Nat) {a b:Addr}=>Lq nd i j (a:=a) (b:=b);have A:=q 0 3 (by decide) rfl rfl;have f:∀(j:Nat) {y:Str}{D:Addr},3<j->[Ct,Cx,s,Cn,n,k,t,v,Cs,r,m,u,p][j]?=some D->XX K mg y D Ct->(∃y,XX K mg y D Ct)/\D≠Ct/\D≠Cn:=fun j {y D} h e g=>⟨⟨y,g⟩,q 0 j (by omega) rfl e,q 3 j h rfl e⟩;have g:∀(j:Nat) {y:Str}{D:Addr},j<3->0<j->[Ct,Cx,s,Cn,n,k,t,v,Cs,r,m,u,p][j]?=some D->XX K mg y D Ct->(∃y,XX K mg y D Ct)/\D≠Ct/\D≠Cn:=fun j {y D} h h0 e g=>⟨⟨y,g⟩,q 0 j h0 rfl e,dJ (q j 3 h e rfl)⟩;have c:=fun{P:Addr->Prop}{a:Addr}{l:Ze}(h1:P a) (h2:∀D∈l,P D)=>List.forall_mem_cons.2 ⟨h1,h2⟩;exact⟨by rw[o.exm o A,zzr1 rfl],o.exk xg,XX.upk o xt,o.ve,
  G0 o (L:=[r,v,Cx,t,m,u,Cs]) (c (f 9 (by decide) rfl hd) (c (f 7 (by decide) rfl hj) (c (g 1 (by decide) (by decide) rfl hx) (c (f 6 (by decide) rfl Y) (c (f 10 (by decide) rfl z) (c (f 11 (by decide) rfl U) (c (f 8 (by decide) rfl T) (fun _ h=>nomatch h)))))))),
  G0 o (L:=[s,k,n,p]) (c (g 2 (by decide) (by decide) rfl Q) (c (f 5 (by decide) rfl x) (c (f 4 (by decide) rfl w) (c (f 12 (by decide) rfl O) (fun _ h=>nomatch h))))),
  K7 o A (no1 n3)⟩
end
def fy(i:Nat):Stmt:=PySem.Challenge.pw_mumtrial_k29_trials_or_not.main.body.getD i (.Pass ⟨0,0,0,0⟩)
local macro_rules | `(tactic| walk_at "s")=>`(tactic| exact⟨rfl,rfl,rfl,by decide +kernel,rfl,by decide +kernel,by decide +kernel⟩)
local macro_rules | `(tactic| walk_at "l")=>`(tactic| (intro _ _ _ _ h;first|exact len_h h|exact len_g h|(cases h;subst_vars;rfl)|(obtain⟨_,_,h,_⟩:=h;subst h;rfl)|((repeat obtain⟨_,h⟩:=h);subst_vars;rfl)))
theorem zzlS{e:List Value}{n:Nat}(h:e.length=n+1):∃ a t,e=a::t∧t.length=n:=by
  cases e with
  |nil=>cases h
  |cons a t=>exact⟨a,t,rfl,Nat.succ.inj h⟩
local macro_rules | `(tactic| walk_at "b")=>`(tactic| (intro _ _ _ _ _ _ us hl;(repeat (have h:=zzlS hl;clear hl;obtain⟨_,_,e,hl⟩:=h;subst e));cases List.eq_nil_of_length_eq_zero hl;rfl))
def LO(K:Za)(x qual:Str)(st:Stmt)(f:Addr):Prop:=∃(oc:Value) (od an:Option Addr) (sl:Array (Option Value)) (kV dc pm cd ct:Value),
 K.lookup f=some ⟨oc,od,.func (iU x qual (iH st) (fF st) (bC st) .none kV dc pm an cd ct),sl⟩/\nD K cd qual=true/\cU K (.ref f)=true
theorem Hl{K:Za}{x a:Str}{st:Stmt}{f:Addr}{e:Value}{g h:Option Addr}{i:Array (Option Value)}{kV j m cd n:Value}(l:K.lookup f=some ⟨e,g,.func (iU x a (iH st) (fF st) (bC st) .none kV j m h cd n),i⟩)
  (c:nD K cd a=true) (k:cU K (.ref f)=true):LO K x a st f:=⟨e,g,h,i,kV,j,m,cd,n,l,c,k⟩
def gu(K:Za)(x:Str)(st:Stmt):Prop:=∃f,bf K bh x=some (some (.ref f))/\LO K x x st f
theorem fnG_mk{K:Za}{x:Str}{st:Stmt}{f:Addr}{e:Value}{g h:Option Addr}{i:Array (Option Value)}{kV j m cd n:Value}(a:bf K bh x=some (some (.ref f)))(l:K.lookup f=some ⟨e,g,.func (iU x x (iH st) (fF st) (bC st) .none kV j m h cd n),i⟩)
  (c:nD K cd x=true) (k:cU K (.ref f)=true):gu K x st:=⟨f,a,Hl l c k⟩
def HQ(K:Za)(C:Addr)(m qual:Str)(st:Stmt):Prop:=∃f,az K (.ref C) m=some (some (.ref f))/\rC K (.ref f)=true/\LO K m qual st f
theorem fnM_mk{K:Za}{C:Addr}{m e:Str}{st:Stmt}{f:Addr}{g:Value}{h j:Option Addr}{n:Array (Option Value)}{kV o p cd q:Value}(a:az K (.ref C) m=some (some (.ref f)))(i:rC K (.ref f)=true)
  (l:K.lookup f=some ⟨g,h,.func (iU m e (iH st) (fF st) (bC st) .none kV o p j cd q),n⟩) (c:nD K cd e=true) (k:cU K (.ref f)=true):HQ K C m e st:=⟨f,a,i,Hl l c k⟩
theorem LO.fun_{K:Za}{x a:Str}{st:Stmt}{f:Addr}(T:LO K x a st f):∃e,JZ K x a st f e:=by
 obtain⟨g,h,i,j,kV,m,n,cd,o,l,c,k⟩:=T;exact⟨_,Hk (st:=st) l c k⟩
def Af:Sp:=fun _ _ _ _=>False
theorem ux{P:bu}{w:World}{K:Za}{a:Str->Option Value}{base:Heap}{k:Nat}{f:Addr}{e:iw}{g:Zb}:i8 P w K a base CX0 k f e g Af:=⟨fun _ _ _ _ h=>h.elim,fun _ _ _ _ _ _ _ _ _ _ _ _ _ h=>h.elim⟩
def HH(K:Za)(a:Addr)(ws:Zb):Prop:=∀H,bE K H a (ws.map V.str)
theorem sH{K:Za}{a:Addr}{f:Zb}{o:Obj}{e:Array Value}{n:Nat}(l:K.lookup a=some o)(c:o.cls=.type "tuple")(d:o.data=.seq e n)(z:e.size<=ai)(v:bj (f.map V.str) e.toList):HH K a f :=
 fun _=>.inr ⟨o,e,n,l,c,d,z,v⟩
section
variable{P:bu}{w:World}{K:Za}{mg:Str->Option Value}{base h:Heap}{C:Addr}{x qual:Str}{st:Stmt}{N ps:Zb}{k:Nat}{sp:Sp}
abbrev Bf(ps:Zb)(sp:Sp):Prop:=∀vs H Q E,sp vs H Q E->vs.length=ps.length
abbrev BodyOk(CX:Fv)(P:bu)(w:World)(K:Za)(mg:Str->Option Value)(base:Heap)(qual:Str)(st:Stmt)(N:Zb)(k:Nat)(sp:Sp)(nox:Cx->Cx):Prop:=N.Nodup->∀(f:Addr) (cdv:Value) (A:Around) (outer:List Env) (s:Shared) (H:Hp) (vs:List V) (Q:VK) (E:XK),dU k (A.deeper (envOfC qual (bC st) s.heap.objs.size f cdv))->(A.deeper (envOfC qual (bC st) s.heap.objs.size f cdv)).units+16<cLine->sp vs H Q E ->
 ∃t,zc (nox (vq CX P w K mg base N qual (bC st) f cdv A outer s H E)) (fF st) t/\t (bq Q) (start N vs) H
abbrev uX(x qual:Str)(st:Stmt)(ps:Zb):Prop:=∀(kV doc pm:Value) (an:Option Addr) (cdv ct:Value) (us:Zf),us.length=ps.length->bindArgs (iU x qual (iH st) (fF st) (bC st) .none kV doc pm an cdv ct) ⟨us,[]⟩=pure (ps.zip us)
theorem dG(X:K.In h)(G:h.Ns bh mg)(T:gu K x st)(b:BodyOk CX0 P w K mg base x st N k sp Cx.nox)(i:uX x x st ps)(S:g7 N ps (bC st):=by walk_at "s")(l:Bf ps sp:=by walk_at "l"):eR P w K mg base x ps (k+1) sp:=by
 obtain⟨f,a,t⟩:=T;obtain⟨j,F⟩:=t.fun_;exact⟨f,j,F.ok S l fun e A outer s H m Q E g h=>b S.nd f e A outer s H m Q E g (wg g) h,bz X G a,F.kp,F.binds i⟩
theorem dM(j:Fu K C)(T:HQ K C x qual st)(b:BodyOk CX0 P w K mg base qual st N k sp Cx.nox)(m:uX x qual st ps)(S:g7 N ps (bC st):=by walk_at "s")(l:Bf ps sp:=by walk_at "l"):HV P w K mg base C x ps (k+1) sp:=by
 obtain⟨f,a,i,t⟩:=T;obtain⟨n,F⟩:=t.fun_;exact⟨f,n,F.ok S l fun e A outer s H o Q E g h=>b S.nd f e A outer s H o Q E g (wg g) h,j,⟨a,i,F.kp⟩,F.binds m⟩
theorem dN{y:Str}(j:mg y=some (.ref C))(m:zF K C=true)(n:cU K (.ref C)=true)(T:HQ K C "__init__" qual st)(b:BodyOk CX0 P w K mg base qual st N k sp Cx.nox)(o:uX "__init__" qual st ps)(S:g7 N ps (bC st):=by walk_at "s")(l:Bf ps sp:=by walk_at "l"):New P w K mg base y C ps (k+1) sp:=by
 obtain⟨f,a,i,t⟩:=T;obtain⟨p,F⟩:=t.fun_;exact⟨f,p,F.ok S l fun e A outer s H q Q E g h=>b S.nd f e A outer s H q Q E g (wg g) h,j,⟨m,a,i,n⟩,F.binds o⟩
theorem KM(X:K.In h)(G:h.Ns bh mg)(T:gu K x st)(b:BodyOk (Js P w K) P w K mg base x st N k sp id)(i:uX x x st ps)(S:g7 N ps (bC st):=by walk_at "s")(l:Bf ps sp:=by walk_at "l"):vB P w K mg base x ps (k+1) sp:=by
 obtain⟨f,a,t⟩:=T;obtain⟨j,F⟩:=t.fun_;exact⟨f,j,F.okX S l fun e A outer s H m Q E g h=>b S.nd f e A outer s H m Q E g (wg g) h,bz X G a,F.kp,F.binds i⟩
theorem dXN{y:Str}(j:mg y=some (.ref C))(m:jV K C)(n:cU K (.ref C)=true)(T:HQ K C "__init__" qual st)(b:BodyOk CX0 P w K mg base qual st N k sp Cx.nox)(o:uX "__init__" qual st ps)(S:g7 N ps (bC st):=by walk_at "s")(l:Bf ps sp:=by walk_at "l"):KR P w K mg base y C ps (k+1) sp:=by
 obtain⟨f,a,i,t⟩:=T;obtain⟨p,F⟩:=t.fun_;exact⟨f,p,F.ok S l fun e A outer s H q Q E g h=>b S.nd f e A outer s H q Q E g (wg g) h,j,m,a,i,n,F.binds o⟩
end
structure Zs(mg:Str->Option Value):Prop where
 ValueError:mg "ValueError"=none
 all:mg "all"=none
 any:mg "any"=none
 bool:mg "bool"=none
 dict:mg "dict"=none
 enumerate:mg "enumerate"=none
 int:mg "int"=none
 isinstance:mg "isinstance"=none
 len:mg "len"=none
 list:mg "list"=none
 max:mg "max"=none
 min:mg "min"=none
 range:mg "range"=none
 reversed:mg "reversed"=none
 str:mg "str"=none
 sum:mg "sum"=none
 tuple:mg "tuple"=none
 zip:mg "zip"=none
structure Cs(K:Za)(mg:Str->Option Value)(C Cx Ct a_STILL a_HUSH a_BLAME a_END C_NoTaker C_NoTrial C_NoWord C_NoText C_NoMatch C_NoJoin C_NoSign C_NoDepth C_NoNumber C_NoRight C_TooWide:Addr):Prop where
 LETTERS:Gc mg "LETTERS" (.str "abcdefghijklmnopqrstuvwxyz")
 LONGEST_NAME:Gc mg "LONGEST_NAME" (.int 8)
 MOST_WORDS:Gc mg "MOST_WORDS" (.int 4)
 MOST_ROOMS:Gc mg "MOST_ROOMS" (.int 150)
 MOST_DOORS:Gc mg "MOST_DOORS" (.int 2000)
 DEEPEST:Gc mg "DEEPEST" (.int 4)
 MOST_WITHIN:Gc mg "MOST_WITHIN" (.int 8)
 MOST_TRIALS:Gc mg "MOST_TRIALS" (.int 1000)
 STILL:Gc mg "STILL" (.ref a_STILL)
 HUSH:Gc mg "HUSH" (.ref a_HUSH)
 BLAME:Gc mg "BLAME" (.ref a_BLAME)
 END:Gc mg "END" (.ref a_END)
 still:HH K a_STILL cj
 hush:HH K a_HUSH n6
 blm:HH K a_BLAME cJ
 enD:HH K a_END cu
 mc:MC K C
 cm:mg "Machine"=some (.ref C)
 makes:zF K C=true
 kc:cU K (.ref C)=true
 xc:XC K Cx
 xb:JW K Ct
 NoMachine:mg "NoMachine"=some (.ref Cx)
 TrialError:mg "TrialError"=some (.ref Ct)
 kx:cU K (.ref Cx)=true
 xt:XO K Ct dA
 xg:XG K
 x_NoMachine:XX K mg "NoMachine" Cx Ct
 nd:[Ct,Cx,C_NoTaker,C_NoTrial,C_NoWord,C_NoText,C_NoMatch,C_NoJoin,C_NoSign,C_NoDepth,C_NoNumber,C_NoRight,C_TooWide].Nodup
 x_NoTaker:XX K mg "NoTaker" C_NoTaker Ct
 na_NoTaker_room:bZ K C_NoTaker "room"
 na_NoTaker_ask:bZ K C_NoTaker "ask"
 x_NoTrial:XX K mg "NoTrial" C_NoTrial Ct
 na_NoTrial_way:bZ K C_NoTrial "way"
 x_NoWord:XX K mg "NoWord" C_NoWord Ct
 na_NoWord_number:bZ K C_NoWord "number"
 x_NoText:XX K mg "NoText" C_NoText Ct
 na_NoText_number:bZ K C_NoText "number"
 x_NoMatch:XX K mg "NoMatch" C_NoMatch Ct
 i_NoMatch:az K (.ref C_NoMatch) "__init__"=some (some (.builtin "ValueError.__init__"))
 x_NoJoin:XX K mg "NoJoin" C_NoJoin Ct
 i_NoJoin:az K (.ref C_NoJoin) "__init__"=some (some (.builtin "ValueError.__init__"))
 x_NoSign:XX K mg "NoSign" C_NoSign Ct
 i_NoSign:az K (.ref C_NoSign) "__init__"=some (some (.builtin "ValueError.__init__"))
 x_NoDepth:XX K mg "NoDepth" C_NoDepth Ct
 i_NoDepth:az K (.ref C_NoDepth) "__init__"=some (some (.builtin "ValueError.__init__"))
 x_NoNumber:XX K mg "NoNumber" C_NoNumber Ct
 i_NoNumber:az K (.ref C_NoNumber) "__init__"=some (some (.builtin "ValueError.__init__"))
 x_NoRight:XX K mg "NoRight" C_NoRight Ct
 i_NoRight:az K (.ref C_NoRight) "__init__"=some (some (.builtin "ValueError.__init__"))
 x_TooWide:XX K mg "TooWide" C_TooWide Ct
 i_TooWide:az K (.ref C_TooWide) "__init__"=some (some (.builtin "ValueError.__init__"))
structure Ts(K:Za)(C Cx C_NoTaker C_NoTrial C_NoWord C_NoText C_NoMatch C_NoJoin C_NoSign C_NoDepth C_NoNumber C_NoRight C_TooWide:Addr):Prop where
 f_law_spread:gu K "_law_spread" (fy 89)
 f_law_open:gu K "_law_open" (fy 90)
 f_law_anew:gu K "_law_anew" (fy 91)
 f_law_take:gu K "_law_take" (fy 92)
 f_law_names:gu K "_law_names" (fy 93)
 f_law_put:gu K "_law_put" (fy 94)
 f_law_draw_doors:gu K "_law_draw_doors" (fy 95)
 f_law_model:gu K "_law_model" (fy 96)
 f_is_name:gu K "is_name" (fy 30)
 f_as_keys:gu K "as_keys" (fy 31)
 f_first_wrong_name:gu K "first_wrong_name" (fy 32)
 f_door_signs:gu K "door_signs" (fy 33)
 f_first_wrong_door:gu K "first_wrong_door" (fy 34)
 f_goals_by_start_and_sign:gu K "goals_by_start_and_sign" (fy 35)
 f_led_by_still:gu K "led_by_still" (fy 36)
 f_first_led_round:gu K "first_led_round" (fy 37)
 f_need_none:gu K "need_none" (fy 38)
 f_need_parts:gu K "need_parts" (fy 39)
 f_doors_by_start:gu K "doors_by_start" (fy 40)
 f_has_asks_alone:gu K "has_asks_alone" (fy 41)
 f_Machine___init__:HQ K C "__init__" "Machine.__init__" (kJ (fy 42) 0)
 f_law_machine:gu K "_law_machine" (fy 102)
 f_Machine_rooms:HQ K C "rooms" "Machine.rooms" (kJ (fy 42) 3)
 f_Machine_led_from:HQ K C "led_from" "Machine.led_from" (kJ (fy 42) 8)
 f_Machine_goals:HQ K C "goals" "Machine.goals" (kJ (fy 42) 7)
 f_Machine_asks:HQ K C "asks" "Machine.asks" (kJ (fy 42) 1)
 f_Machine_says:HQ K C "says" "Machine.says" (kJ (fy 42) 2)
 f_takes:gu K "takes" (fy 45)
 f_need_match:gu K "need_match" (fy 44)
 f_need_all_asks_taken:gu K "need_all_asks_taken" (fy 46)
 f_need_taker:gu K "need_taker" (fy 47)
 f_NoTrial_init:HQ K C_NoTrial "__init__" "NoTrial.__init__" (kJ (fy 5) 0)
 f_is_tell:gu K "is_tell" (fy 58)
 f_is_wait:gu K "is_wait" (fy 59)
 f_says_and_parts:gu K "says_and_parts" (fy 60)
 f_signed_parts:gu K "signed_parts" (fy 61)
 f_parts_behind:gu K "parts_behind" (fy 62)
 f_with_ways:gu K "with_ways" (fy 63)
 f_has_says_in_order:gu K "has_says_in_order" (fy 64)
 f_is_so_by_itself:gu K "is_so_by_itself" (fy 65)
 f_checked_with_ways:gu K "checked_with_ways" (fy 66)
 f_need_trial:gu K "need_trial" (fy 67)
 f_leaves:gu K "leaves" (fy 68)
 f_blames:gu K "blames" (fy 69)
 f_number_of:gu K "number_of" (fy 87)
 f_unfair:gu K "unfair" (fy 81)
 f_law_pairs:gu K "_law_pairs" (fy 100)
 f_law_trial:gu K "_law_trial" (fy 101)
 f_law_inner:gu K "_law_inner" (fy 98)
 f_law_size:gu K "_law_size" (fy 99)
 f_law_deep:gu K "_law_deep" (fy 104)
 f_law_good_here:gu K "_law_good_here" (fy 103)
 f_law_wrong:gu K "_law_wrong" (fy 105)
 f_law_due:gu K "_law_due" (fy 106)
 f_law_bent:gu K "_law_bent" (fy 107)
 f_law_spoilt:gu K "_law_spoilt" (fy 108)
 f_law_even:gu K "_law_even" (fy 109)
 f_law_great:gu K "_law_great" (fy 110)
 f_law_same:gu K "_law_same" (fy 97)
 f_law_refused:gu K "_law_refused" (fy 111)
 f_law_far:gu K "_law_far" (fy 112)
 f_law_far_refused:gu K "_law_far_refused" (fy 113)
 f_law29:gu K "law" (fy 114)
section
variable{P:bu}{w:World}{K:Za}{mg:Str->Option Value}{base h:Heap}{C Cx Ct a_STILL a_HUSH a_BLAME a_END C_NoTaker C_NoTrial C_NoWord C_NoText C_NoMatch C_NoJoin C_NoSign C_NoDepth C_NoNumber C_NoRight C_TooWide:Addr}
section
variable(P:bu)(w:World)(K:Za)(mg:Str->Option Value)(C Cx Ct a_STILL a_HUSH a_BLAME a_END C_NoTaker C_NoTrial C_NoWord C_NoText C_NoMatch C_NoJoin C_NoSign C_NoDepth C_NoNumber C_NoRight C_TooWide:Addr)
abbrev kT:Prop:=∀base,eR P w K mg base "_law_spread" ["cell","at"] 1 me
abbrev uZ:Prop:=∀base,eR P w K mg base "_law_open" ["script"] 1 (sK K)
abbrev oG:Prop:=∀base,eR P w K mg base "_law_anew" ["pen"] 1 yq
abbrev c_:Prop:=∀base,eR P w K mg base "_law_take" ["pen","many"] 2 bB
abbrev ma:Prop:=∀base,eR P w K mg base "_law_names" ["pen","many"] 3 pb
abbrev rp:Prop:=∀base,eR P w K mg base "_law_put" ["doors","door"] 1 ud
abbrev gX:Prop:=∀base,eR P w K mg base "_law_draw_doors" ["pen","asks","says","rooms","full"] 3 g6
abbrev r_:Prop:=∀base,eR P w K mg base "_law_model" ["pen","most","full"] 4 pc
abbrev rB:Prop:=∀base,eR P w K mg base "is_name" ["text"] 1 sp_is_name
abbrev jX:Prop:=∀base,eR P w K mg base "as_keys" ["things"] 1 (sp_as_keys K)
abbrev fO:Prop:=∀base,eR P w K mg base "first_wrong_name" ["names","most","taken"] 2 (sp_first_wrong_name K)
abbrev kU:Prop:=∀base,eR P w K mg base "door_signs" ["asks","says"] 1 (sp_door_signs K)
abbrev fP:Prop:=∀base,eR P w K mg base "first_wrong_door" ["doors","rooms","signs"] 2 (sp_first_wrong_door K)
abbrev du:Prop:=∀base,eR P w K mg base "goals_by_start_and_sign" ["doors"] 1 pi
abbrev jb:Prop:=∀base,eR P w K mg base "led_by_still" ["goals","room"] 1 yn
abbrev gy:Prop:=∀base,eR P w K mg base "first_led_round" ["rooms","led"] 1 sp_first_led_round
abbrev jn:Prop:=∀base,eR P w K mg base "need_none" ["part","number"] 3 sp_need_none
abbrev kR:Prop:=∀base,eR P w K mg base "need_parts" ["asks","says","rooms","doors"] 4 sp_need_parts
abbrev g0:Prop:=∀base,eR P w K mg base "doors_by_start" ["rooms","doors"] 1 sp_doors_by_start
abbrev gZ:Prop:=∀base,eR P w K mg base "has_asks_alone" ["doors"] 1 sp_has_asks_alone
abbrev mE:Prop:=∀base,New P w K mg base "Machine" C ["self","asks","says","rooms","doors"] 5 (pf C)
abbrev nc:Prop:=∀base,eR P w K mg base "_law_machine" ["told"] 7 (kq C)
abbrev ir:Prop:=∀base,HV P w K mg base C "rooms" ["self"] 1 (o_ C)
abbrev fQ:Prop:=∀base,HV P w K mg base C "led_from" ["self","room"] 1 (jg C)
abbrev iu:Prop:=∀base,HV P w K mg base C "goals" ["self","room","sign"] 1 (nP K C)
abbrev fc:Prop:=∀base,HV P w K mg base C "asks" ["self"] 1 (mj C)
abbrev gA:Prop:=∀base,HV P w K mg base C "says" ["self"] 1 (o9 C)
abbrev zE:Prop:=∀base,eR P w K mg base "takes" ["I","room","ask"] 2 (sp_takes C)
abbrev kS:Prop:=∀base,eR P w K mg base "need_match" ["M","I"] 2 (gh C)
abbrev eI:Prop:=∀base,eR P w K mg base "need_all_asks_taken" ["I"] 4 (iE C)
abbrev kQ:Prop:=∀base,eR P w K mg base "need_taker" ["M","I"] 5 (gg C)
abbrev mD:Prop:=∀base,KR P w K mg base "NoTrial" C_NoTrial ["self","way"] 2 (kf C_NoTrial "way")
abbrev mC:Prop:=∀base,eR P w K mg base "is_tell" ["trial"] 1 (kr K 4 "tell")
abbrev mB:Prop:=∀base,eR P w K mg base "is_wait" ["trial"] 1 (kr K 3 "wait")
abbrev gW:Prop:=∀base,eR P w K mg base "says_and_parts" ["pairs"] 1 (iD K)
abbrev i_:Prop:=∀base,eR P w K mg base "signed_parts" ["trial"] 2 (ko K)
abbrev ja:Prop:=∀base,eR P w K mg base "parts_behind" ["way","story","trial"] 3 (mf K)
abbrev l6:Prop:=∀base,vB P w K mg base "with_ways" ["trial"] 4 (o8 K C_NoTrial)
abbrev fu:Prop:=∀base,eR P w K mg base "has_says_in_order" ["M","pairs"] 2 (jh K C)
abbrev gv:Prop:=∀base,eR P w K mg base "is_so_by_itself" ["M","trial"] 3 (pd K C)
abbrev dI:Prop:=∀base,vB P w K mg base "checked_with_ways" ["M","trial"] 5 (g9 K C C_NoTrial)
abbrev iI:Prop:=∀base,vB P w K mg base "need_trial" ["M","trial"] 6 (eU K C C_NoTrial)
abbrev l9:Prop:=∀base,vB P w K mg base "leaves" ["M","trial"] 6 (gQ K C C_NoTrial)
abbrev u1:Prop:=∀base,vB P w K mg base "blames" ["M","trial","I"] 7 (kA K C C_NoTrial)
abbrev l7:Prop:=∀base,vB P w K mg base "number_of" ["M","d","trial"] 11 (mh K C C_NoTrial)
abbrev uY:Prop:=∀base,vB P w K mg base "unfair" ["M","trial"] 14 (km K C C_NoTrial)
abbrev dZ:Prop:=∀base,eR P w K mg base "_law_pairs" ["says","some"] 1 (dO K)
abbrev r8:Prop:=∀base,eR P w K mg base "_law_trial" ["pen","told","deep","left"] 7 (fU K 4)
abbrev fW:Prop:=∀base,eR P w K mg base "_law_inner" ["trial"] 1 (eV K)
abbrev oz:Prop:=∀base,eR P w K mg base "_law_size" ["trial"] 14 (gP K 12)
abbrev oC:Prop:=∀base,eR P w K mg base "_law_deep" ["trial"] 14 (gS K 12)
abbrev iq:Prop:=∀base,eR P w K mg base "_law_good_here" ["told","trial"] 1 (mi K)
abbrev l_:Prop:=∀base,eR P w K mg base "_law_wrong" ["told","trial","way"] 14 (fJ K 12)
abbrev wK:Prop:=∀base,eR P w K mg base "_law_due" ["told","trial"] 15 (lJ K)
abbrev oE:Prop:=∀base,eR P w K mg base "_law_bent" ["pen","told","trial"] 3 (jJ K)
abbrev p7:Prop:=∀base,eR P w K mg base "_law_spoilt" ["pen","told","trial"] 9 (eS K 5)
abbrev oB:Prop:=∀base,eR P w K mg base "_law_even" ["told","many"] 11 (kz K 9)
abbrev sh:Prop:=∀base,eR P w K mg base "_law_great" ["pen","told"] 12 (ph K)
abbrev oA:Prop:=∀base,eR P w K mg base "_law_same" ["found","due"] 3 (eo K 2)
abbrev jD:Prop:=∀base,eR P w K mg base "_law_refused" ["model","trial","kind","taker"] 15 (fK K C)
abbrev rq:Prop:=∀base,eR P w K mg base "_law_far" ["pen","told","tall"] 3 (pj K)
abbrev jo:Prop:=∀base,eR P w K mg base "_law_far_refused" ["pen","told","model"] 16 (gR K C)
end
section
variable(X:K.In h)(G:h.Ns bh mg)(z:Zs mg)(c:Cs K mg C Cx Ct a_STILL a_HUSH a_BLAME a_END C_NoTaker C_NoTrial C_NoWord C_NoText C_NoMatch C_NoJoin C_NoSign C_NoDepth C_NoNumber C_NoRight C_TooWide)(T:Ts K C Cx C_NoTaker C_NoTrial C_NoWord C_NoText C_NoMatch C_NoJoin C_NoSign C_NoDepth C_NoNumber C_NoRight C_TooWide)
include X G z c T
theorem vf:kT P w K mg:=fun base=>dG X G T.f_law_spread (fun S _ _ _ _ _ _ _ _ _ a e h=>bK (Ex (K:=K) h) (af (bw (h9 Lo (pv 0) (aG GO ae ae)) (ag (av (pv 0))) aL) (af (qs 2 S (aG gp (aG bV (aG bV (aG im (aG gp (pv 0) ae) ae) (aG im (pv 1) ae)) ae) ae)) (af (qs 3 S (aG gp (aG bV (aG bV (aG im (pv 2) (pv 2)) (aG im (pv 1) ae)) (aG gp (pv 0) ae)) ae)) (af (qs 4 S (aG gp (aG bV (aG bV (aG im (pv 3) (pv 3)) (aG im (pv 2) ae)) ae) ae)) (ag (av (aG bV (aG im (aG bV (aG im (pv 2) ae) (pv 3)) ae) (pv 4))))))))) (by walk_at "b")
theorem Aa:uZ P w K mg:=fun base=>dG X G T.f_law_open (fun S _ _ _ _ _ _ _ _ _ a e h=>bK (IB h) (af (qs 1 S (qL rfl z.list (a1 (cO iF (pv 0) eO (da ae))))) (af (cf bY rfl (kF rfl z.enumerate (a1 (cO iF (pv 0) (da ae) (da ae)))) (eX rfl (aN (gn 2 S) (aN (gn 3 S) dv))) (ag (jx (aG bV (xl (pv 1) (aG gp (pv 2) ae)) (pv 3)) (lN (pv 1) (aG gp (pv 2) ae) g_)))) (ag (av (bb (a3 (pv 1) ae ae))))))) (by walk_at "b")
theorem Ae:oG P w K mg:=fun base=>dG X G T.f_law_anew (fun S _ _ _ _ _ _ _ _ _ a e h=>bK (IF (K:=K) h) (af (jx ae (lN (pv 0) ae g_)) (ag (av (pv 0))))) (by walk_at "b")
theorem z6(a:kT P w K mg):c_ P w K mg:=fun base=>dG X G T.f_law_take (fun S _ _ _ _ _ _ _ _ _ e f h=>bK (Iy h) (af (bw (h9 uv (xl (pv 0) ae) (pv 1)) (af (qs 2 S (xl (pv 0) ae)) (af (qs 3 S ae) (af (bw (h9 uv (pv 2) (ql z.len (a1 (xl (pv 0) ae)))) (ag (qs 3 S (xl (xl (pv 0) ae) (pv 2)))) (ag (bw (h9 rN (ql z.len (a1 (xl (pv 0) ae))) ae) (ag (qs 3 S (aG gp (xl (xl (pv 0) ae) (aG gp (aG bV (aG im (pv 2) ae) ae) (ql z.len (a1 (xl (pv 0) ae))))) (aG bV (aG GO ae ae) (pv 2))))) aL))) (af (jx (aG bV (pv 2) ae) (lN (pv 0) ae g_)) (ag (jx (qf e (a base) (a2 (pv 3) (pv 2))) (lN (pv 0) ae g_))))))) aL) (af (qs 4 S (aG gp (xl (pv 0) ae) (pv 1))) (af (jx (aG pF (xl (pv 0) ae) (pv 1)) (lN (pv 0) ae g_)) (ag (av (pv 4))))))) (by walk_at "b")
theorem yg(a:c_ P w K mg):ma P w K mg:=fun base=>dG X G T.f_law_names (fun S _ _ _ _ _ _ _ _ _ e f h=>bK (Gj h) (af (qs 2 S aI) (af (qs 3 S (kZ PySem.F.plainAttrs_str PySem.F.slot_str_join PySem.F.type_str_join IW aI (a1 (qc (cH rfl z.range (a1 ae)) (aY (by decide)) fun _ _ _ _ _ _=>⟨gc 0,bv,xs' (pv 1) (qf e (a base) (a2 (pv 2) ae))⟩)))) (af (qs 4 S (qf e (a base) (a2 (pv 0) ae))) (af (qs 5 S (qf e (a base) (a2 (pv 0) ae))) (af (qs 6 S (qf e (a base) (a2 (pv 0) ae))) (af (qs 7 S (bb cE)) (af (cf bY rfl (cH rfl z.range (a1 (pv 1))) (gn 8 S) (af (qs 9 S (xs' (pv 2) (aG gp (aG bV (pv 5) (aG im ae (pv 8))) ae))) (af (qs 10 S (cO BJ (pv 3) eO (da (aG gp (aG bV (pv 6) (aG im (pv 8) (aG gp (pv 4) ae))) ae)))) (af (qs 11 S (xl (bb (a3 ae (ql z.len (a1 (pv 10))) (aG pF (ql z.len (a1 (pv 10))) ae))) (pv 4))) (ag (bU (kZ h_ jq jp dQ (pv 7) (a1 (aG uw (aG uw (cO BJ (pv 10) eO (da (pv 11))) (pv 9)) (cO BJ (pv 10) (da (pv 11)) eO)))))))))) (ag (av (pv 7))))))))))) (by walk_at "b")
theorem By:rp P w K mg:=fun base=>dG X G T.f_law_put (fun S _ _ _ _ _ _ _ _ _ e a h=>bK (Kk h) (ag (bw (tci (v6 a) (pv 1) (pv 0)) (ag (bU (kZ h_ jq jp dQ (pv 0) (a1 (pv 1))))) aL))) (by walk_at "b")
theorem o0(a:c_ P w K mg)(e:rp P w K mg):gX P w K mg:=fun base=>dG X G T.f_law_draw_doors (fun S _ _ _ _ _ _ _ _ _ f g h=>bK (vk h) (af (qs 5 S (bb cE)) (af (qs 6 S (qf f (a base) (a2 (pv 0) ae))) (af (cf bY rfl (kF rfl z.enumerate (a1 (pv 3))) (eX rfl (aN (gn 7 S) (aN (gn 8 S) dv))) (af (cf bY rfl (cH rfl z.range (a1 (xl (bb (a_ ae (a3 ae ae ae))) (qf f (a base) (a2 (pv 0) ae))))) (gn 9 S) (af (qs 10 S (aD (a2 aI (xl (pv 2) (qf f (a base) (a2 (pv 0) (ql z.len (a1 (pv 2))))))))) (ag (bU (qf f (e base) (a2 (pv 5) (aD (a3 (pv 8) (pv 10) (xl (pv 3) (qf f (a base) (a2 (pv 0) (ql z.len (a1 (pv 3)))))))))))))) (af (cf bY rfl (cx (pv 1)) (gn 11 S) (ag (cf bY rfl (cH rfl z.range (a1 (xl (bb (a_ (pv 4) (a3 ae ae ae))) (qf f (a base) (a2 (pv 0) ae))))) (gn 9 S) (ag (bU (qf f (e base) (a2 (pv 5) (aD (a3 (pv 8) (aD (a2 aI (pv 11))) (xl (pv 3) (qf f (a base) (a2 (pv 0) (ql z.len (a1 (pv 3))))))))))))))) (af (qs 12 S (xl (bb (a2 (cO iF (pv 3) (da (aG bV (pv 7) ae)) eO) (cO iF (pv 3) eO (da (pv 7))))) (pv 6))) (ag (bw (PW.pt (ie (h9 (B3 g) (pv 12) (bb cE)) (fD (h9 cr (qf f (a base) (a2 (pv 0) ae)) ae)))) (ag (bU (qf f (e base) (a2 (pv 5) (aD (a3 (pv 8) (aD (a1 aI)) (xq (pv 12) (qf f (a base) (a2 (pv 0) (ql z.len (a1 (pv 12)))))))))))) aL)))))) (ag (av (pv 5))))))) (by walk_at "b")
theorem yh(g:oG P w K mg)(a:c_ P w K mg)(e:ma P w K mg)(f:gX P w K mg):r_ P w K mg:=fun base=>dG X G T.f_law_model (fun S _ _ _ _ _ _ _ _ _ i j h=>bK (Gk h) (af (bU (qf i (g base) (a1 (pv 0)))) (af (qs 3 S (qf i (e base) (a2 (pv 0) ae))) (af (qs 4 S (cO iF (pv 3) eO (da (aG bV ae (xl (bb (a_ ae (a_ ae (a_ ae (a3 ae ae ae))))) (qf i (a base) (a2 (pv 0) ae))))))) (af (qs 5 S (cO iF (pv 3) (da ae) (da (aG bV ae (xl (bb (a_ ae (a_ ae (a_ ae (a3 ae ae ae))))) (qf i (a base) (a2 (pv 0) ae))))))) (af (qs 6 S (qf i (e base) (a2 (pv 0) (aG bV ae (qf i (a base) (a2 (pv 0) (pv 1))))))) (af (qs 7 S (qf i (f base) (a_ (pv 0) (a_ (pv 4) (a3 (pv 5) (pv 6) (pv 2)))))) (ag (av (aD (a_ (pv 4) (a3 (pv 5) (pv 6) (pv 7))))))))))))) (by walk_at "b")
theorem BD:rB P w K mg:=fun base=>dG X G T.f_is_name (fun S _ _ _ _ _ _ _ _ _ a e h=>bK (BV h) (ag (av (ik (yX GP (pv 0) aI) (ik (yX Ln (ql z.len (a1 (pv 0))) (jN rfl c.LONGEST_NAME)) (ii (qB (lT rfl) z.all boot_all (a1 (qc (Kr (pv 0)) (aY (by decide)) fun _ _ _ _ _ _=>⟨gc 0,bv,eci B4 (pv 0) (jN rfl c.LETTERS)⟩))))))))) (by walk_at "b")
theorem BE:jX P w K mg:=fun base=>dG X G T.f_as_keys (fun S _ _ _ _ _ _ _ _ _ e a h=>bK (BY h) (af (qs 1 S ut) (af (cf bY rfl (cx (pv 0)) (gn 2 S) (ag (pB a (pv 1) (pv 2) jj rfl))) (ag (av (pv 1)))))) (by walk_at "b")
theorem mI(a:rB P w K mg)(e:jX P w K mg):fO P w K mg:=fun base=>dG X G T.f_first_wrong_name (fun S _ _ _ _ _ _ _ _ _ f g h=>bK (mK h) (af (bw (h9 cr (ql z.len (a1 (pv 0))) ae) (ag (av ae)) aL) (af (qs 3 S (qf f (e base) (a1 (pv 2)))) (af (cf bY rfl (kF rfl z.enumerate (a1 (pv 0))) (eX rfl (aN (gn 4 S) (aN (gn 5 S) dv))) (af (bw (PW.pt (jM (h9 cr (pv 4) (pv 1)) (jM (ig (B2 g (pv 5) (pv 3))) (jw (kE (d7 (qf f (a base) (a1 (pv 5))))))))) (ag (av (pv 4))) aL) (ag (pB g (pv 3) (pv 5) jj rfl)))) (ag (av yC)))))) (by walk_at "b")
theorem vh:kU P w K mg:=fun base=>dG X G T.f_door_signs (fun S _ _ _ _ _ _ _ _ _ a e h=>bK (vm c.still h) (ag (av (aG jz (aG jz (qc (cx (pv 0)) (aY (by decide)) fun _ _ _ _ _ _=>⟨gc 0,bv,aD (a2 aI (pv 0))⟩) (qc (cx (pv 1)) (aY (by decide)) fun _ _ _ _ _ _=>⟨gc 0,bv,aD (a2 aI (pv 0))⟩)) (bb (a1 (jN rfl c.STILL))))))) (by walk_at "b")
theorem mJ(a:jX P w K mg):fP P w K mg:=fun base=>dG X G T.f_first_wrong_door (fun S _ _ _ _ _ _ _ _ _ f e h=>bK (mL h) (af (qs 3 S (qf f (a base) (a1 (pv 1)))) (af (qs 4 S At) (af (cf bY rfl (kF rfl z.enumerate (a1 (pv 0))) (eX rfl (aN (gn 5 S) (aN (gn 6 S) dv))) (af (bw (PW.pt (jM (h9 cr (pv 5) (jN rfl c.MOST_DOORS)) (jw (ig (B2 e (pv 6) (pv 4)))))) (ag (av (pv 5))) aL) (af (bw (PW.pt (jM (ig (qU e (xq (pv 6) ae) (pv 3))) (jM (tci (v6 e) (xq (pv 6) ae) (pv 2)) (jw (ig (qU e (xq (pv 6) ae) (pv 3))))))) (ag (av (pv 5))) aL) (ag (pB e (pv 4) (pv 6) jj rfl))))) (ag (av yC)))))) (by walk_at "b")
theorem iV:du P w K mg:=fun base=>dG X G T.f_goals_by_start_and_sign (fun S _ _ _ _ _ _ _ _ _ e a h=>bK (iY h) (af (qs 1 S At) (af (cf bY rfl (cx (pv 0)) (eX rfl (aN (gn 2 S) (aN (gn 3 S) (aN (gn 4 S) dv)))) (ag (bU (kZ h_ jq jp dQ (kZ PySem.F.plainAttrs_dict PySem.F.slot_dict_setdefault PySem.F.type_dict_setdefault (EO a) (pv 1) (a2 (aD (a2 (pv 2) (pv 3))) (bb cE))) (a1 (pv 4)))))) (ag (av (pv 1)))))) (by walk_at "b")
theorem sw:jb P w K mg:=fun base=>dG X G T.f_led_by_still (fun S _ _ _ _ _ _ _ _ _ e a h=>bK (sB c.still h) (af (qs 2 S ut) (af (qs 3 S (bb (a1 (pv 1)))) (af (GA bY (h9 rN (ql z.len (a1 (pv 3))) ae) (af (qs 4 S (GL h_ PySem.F.slot_list_pop PySem.F.type_list_pop GW (pv 3))) (ag (cf bY rfl (Ks (uu a (pv 0) (aD (a2 (pv 4) (jN rfl c.STILL))) (aD cE) ⟨rfl,rfl,rfl,rfl⟩)) (gn 5 S) (ag (bw (ig (qU a (pv 5) (pv 2))) (af (pB a (pv 2) (pv 5) jj rfl) (ag (bU (kZ h_ jq jp dQ (pv 3) (a1 (pv 5)))))) aL)))))) (ag (av (pv 2))))))) (by walk_at "b")
theorem nO:gy P w K mg:=fun base=>dG X G T.f_first_led_round (fun S _ _ _ _ _ _ _ _ _ e a h=>bK (nQ h) (af (cf bY rfl (kF rfl z.enumerate (a1 (pv 0))) (eX rfl (aN (gn 2 S) (aN (gn 3 S) dv))) (ag (bw (ig (B2 a (pv 3) (yD a (pv 1) (pv 3) (fun _ _=>rfl)))) (ag (av (pv 2))) aL))) (ag (av yC)))) (by walk_at "b")
theorem yb:jn P w K mg:=fun base=>dG X G T.f_need_none (fun S _ _ _ _ _ _ _ _ _ a e h=>bK (yy (K:=K) h) (ag (bw (ig (yE (pv 1))) (ag (um)) aL))) (by walk_at "b")
theorem vc(a:fO P w K mg)(g:kU P w K mg)(f:fP P w K mg)(e:jn P w K mg):kR P w K mg:=fun base=>dG X G T.f_need_parts (fun S _ _ _ _ _ _ _ _ _ i j h=>bK (vj (K:=K) h) (af (bU (qf i (e base) (a2 aI (qf i (a base) (a3 (pv 0) (jN rfl c.MOST_WORDS) (bb cE)))))) (af (bU (qf i (e base) (a2 aI (qf i (a base) (a3 (pv 1) (jN rfl c.MOST_WORDS) (pv 0)))))) (af (bU (qf i (e base) (a2 aI (qf i (a base) (a3 (pv 2) (jN rfl c.MOST_ROOMS) (bb cE)))))) (ag (bU (qf i (e base) (a2 aI (qf i (f base) (a3 (pv 3) (pv 2) (qf i (g base) (a2 (pv 0) (pv 1))))))))))))) (by walk_at "b")
theorem o6:g0 P w K mg:=fun base=>dG X G T.f_doors_by_start (fun S _ _ _ _ _ _ _ _ _ e a h=>bK (pq h) (af (qs 2 S ut) (af (cf bY rfl (cx (pv 0)) (gn 3 S) (ag (pB a (pv 2) (pv 3) (bb cE) rfl))) (af (cf bY rfl (cx (pv 1)) (gn 4 S) (ag (bU (kZ h_ jq jp dQ (yD a (pv 2) (xq (pv 4) ae) (fun _ _=>rfl)) (a1 (pv 4)))))) (ag (av (pv 2))))))) (by walk_at "b")
theorem o5:gZ P w K mg:=fun base=>dG X G T.f_has_asks_alone (fun S _ _ _ _ _ _ _ _ _ a e h=>bK (pp h) (ag (av (qB (lT rfl) z.all boot_all (a1 (qc (cx (pv 0)) (aY (by decide)) fun _ _ _ _ _ _=>⟨gc 0,bv,yX cr (xq (xq (pv 0) ae) ae) aI⟩)))))) (by walk_at "b")
theorem BG(l:jX P w K mg)(a:du P w K mg)(i:jb P w K mg)(e:gy P w K mg)(k:jn P w K mg)(j:kR P w K mg)(f:g0 P w K mg)(g:gZ P w K mg):mE P w K mg C:=fun base=>dN c.cm c.makes c.kc T.f_Machine___init__ (fun S _ _ _ _ _ _ _ _ _ m n h=>bK (IC c.mc h) (af (bU (qf m (j base) (a_ (pv 1) (a3 (pv 2) (pv 3) (pv 4))))) (af (lL (pv 0) (qL rfl z.list (a1 (pv 1))) rfl) (af (lL (pv 0) (qL rfl z.list (a1 (pv 2))) rfl) (af (lL (pv 0) (qL rfl z.list (a1 (pv 3))) rfl) (af (lL (pv 0) (qL rfl z.list (a1 (pv 4))) rfl) (af (lL (pv 0) (qf m (f base) (a2 (pv 3) (pv 4))) rfl) (af (lL (pv 0) (qf m (l base) (a1 (qc (cx (pv 3)) (aY (by decide)) fun _ _ _ _ _ _=>⟨gc 0,Dg (d7 (qf m (g base) (a1 (yD n (lO (pv 1) rfl) (pv 0) (fun _ _=>rfl))))),pv 0⟩))) rfl) (af (lL (pv 0) (qf m (a base) (a1 (pv 4))) rfl) (af (lL (pv 0) (ml (y4 rfl) rfl z.dict Cv (a1 (qc (cx (pv 3)) (aY (by decide)) fun _ _ _ _ _ _=>⟨gc 0,bv,aD (a2 (pv 0) (qf m (i base) (a2 (lO (pv 1) rfl) (pv 0))))⟩))) rfl) (ag (bU (qf m (k base) (a2 aI (qf m (e base) (a2 (pv 3) (lO (pv 0) rfl))))))))))))))))) (by walk_at "b")
theorem uc(a:mE P w K mg C):nc P w K mg C:=fun base=>dG X G T.f_law_machine (fun S _ _ _ _ _ _ _ _ _ e f h=>bK (BT h) (ag (av (GJ (a base) (e.mono (by decide)) rfl (a_ (qL rfl z.list (a1 (xq (pv 0) ae))) (a3 (qL rfl z.list (a1 (xq (pv 0) ae))) (qL rfl z.list (a1 (xq (pv 0) ae))) (qL rfl z.list (a1 (xq (pv 0) ae))))))))) (by walk_at "b")
theorem qO:ir P w K mg C:=fun base=>dM c.mc.cls T.f_Machine_rooms (fun S _ _ _ _ _ _ _ _ _ a e h=>bK (Gi c.mc h) (ag (av (qL rfl z.list (a1 (lO (pv 0) rfl)))))) (by walk_at "b")
theorem mH:fQ P w K mg C:=fun base=>dM c.mc.cls T.f_Machine_led_from (fun S _ _ _ _ _ _ _ _ _ e a h=>bK (Ak c.mc h) (ag (av (qL rfl z.list (a1 (uu a (lO (pv 0) rfl) (pv 1) (aD cE) ⟨rfl,rfl,rfl,rfl⟩)))))) (by walk_at "b")
theorem qP:iu P w K mg C:=fun base=>dM c.mc.cls T.f_Machine_goals (fun S _ _ _ _ _ _ _ _ _ e a h=>bK (BS c.mc h) (ag (av (qL rfl z.list (a1 (uu a (lO (pv 0) rfl) (aD (a2 (pv 1) (pv 2))) (aD cE) ⟨rfl,rfl,rfl,rfl⟩)))))) (by walk_at "b")
theorem sr:fc P w K mg C:=fun base=>dM c.mc.cls T.f_Machine_asks (fun S _ _ _ _ _ _ _ _ _ a e h=>bK (IE c.mc h) (ag (av (qL rfl z.list (a1 (lO (pv 0) rfl)))))) (by walk_at "b")
theorem sm:gA P w K mg C:=fun base=>dM c.mc.cls T.f_Machine_says (fun S _ _ _ _ _ _ _ _ _ a e h=>bK (Iz c.mc h) (ag (av (qL rfl z.list (a1 (lO (pv 0) rfl)))))) (by walk_at "b")
theorem FW(a:fQ P w K mg C)(e:iu P w K mg C):zE P w K mg C:=fun base=>dG X G T.f_takes (fun S _ _ _ _ _ _ _ _ _ f g h=>bK (Ew h) (ag (av (qB (AR rfl) z.any boot_any (a1 (qc (cx (aG jz (bb (a1 (pv 1))) (qm f (a base) (pv 0) (a1 (pv 1))))) (aY (by decide)) fun _ _ _ _ _ _=>⟨gc 0,bv,yX rN (ql z.len (a1 (qm f (e base) (pv 1) (a2 (pv 0) (aD (a2 aI (pv 2))))))) ae⟩)))))) (by walk_at "b")
theorem vd(a:fc P w K mg C)(e:gA P w K mg C):kS P w K mg C:=fun base=>dG X G T.f_need_match (fun S _ _ _ _ _ _ _ _ _ f g h=>bK (ug h) (ag (bw (PW.pt (jM (h9 (B3 g) (JI f (a base) (pv 0)) (JI f (a base) (pv 1))) (jw (h9 (B3 g) (JI f (e base) (pv 0)) (JI f (e base) (pv 1)))))) (ag (um)) aL))) (by walk_at "b")
theorem ke(a:ir P w K mg C)(e:fc P w K mg C)(f:zE P w K mg C):eI P w K mg C:=fun base=>dG X G T.f_need_all_asks_taken (fun S _ _ _ _ _ _ _ _ _ g i h=>bK (yz h) (ag (cf bY rfl (cx (JI g (a base) (pv 0))) (gn 1 S) (ag (cf bY rfl (cx (JI g (e base) (pv 0))) (gn 2 S) (ag (bw (kE (d7 (qf g (f base) (a3 (pv 0) (pv 1) (pv 2))))) (ag (um)) aL))))))) (by walk_at "b")
theorem vb(e:kS P w K mg C)(a:eI P w K mg C):kQ P w K mg C:=fun base=>dG X G T.f_need_taker (fun S _ _ _ _ _ _ _ _ _ f g h=>bK (uf (K:=K) h) (af (bU (qf f (e base) (a2 (pv 0) (pv 1)))) (ag (bU (qf f (a base) (a1 (pv 1))))))) (by walk_at "b")
theorem BF:mD P w K mg C_NoTrial:=fun base=>dXN c.x_NoTrial.g c.x_NoTrial.cls c.x_NoTrial.kp T.f_NoTrial_init (fun S _ _ _ _ _ _ _ _ _ a e h=>bK (Kj (n0:="self") (n1:="way") c.x_NoTrial.cls c.na_NoTrial_way h) (af (bU (GN c.xb rfl c.TrialError (a2 (pv 0) (pv 1)))) (ag (IJ (pv 0) (pv 1) rfl)))) (by walk_at "b")
theorem BC:mC P w K mg:=fun base=>dG X G T.f_is_tell (fun S _ _ _ _ _ _ _ _ _ a e h=>bK (EE h) (ag (av (ik (yX cr (ql z.len (a1 (pv 0))) ae) (ii (yX cr (xt (pv 0) ae) aI)))))) (by walk_at "b")
theorem BB:mB P w K mg:=fun base=>dG X G T.f_is_wait (fun S _ _ _ _ _ _ _ _ _ a e h=>bK (ED h) (ag (av (ik (yX cr (ql z.len (a1 (pv 0))) ae) (ii (yX cr (xt (pv 0) ae) aI)))))) (by walk_at "b")
theorem oZ:gW P w K mg:=fun base=>dG X G T.f_says_and_parts (fun S _ _ _ _ _ _ _ _ _ a e h=>bK (yv h) (ag (av (qc (lM (pv 0)) (pE (dP (aY (by decide)) bO (dP (aY (by decide)) bO (lP) (dR)) (fM bO (dR)))) fun _ _ _ _ _ _=>⟨eX rfl (aN (gc 0) (aN (gc 1) dv)),bv,aD (a2 (aD (a2 aI (pv 0))) (pv 1))⟩)))) (by walk_at "b")
theorem su(e:mC P w K mg)(f:mB P w K mg)(a:gW P w K mg):i_ P w K mg:=fun base=>dG X G T.f_signed_parts (fun S _ _ _ _ _ _ _ _ _ g i h=>bK (BP c.hush h) (af (bw (d7 (qf g (e base) (a1 (pv 0)))) (ag (av (aG jz (bb (a1 (aD (a2 (aD (a2 aI (xt (pv 0) ae))) (xt (pv 0) ae))))) (qf g (a base) (a1 (xt (pv 0) ae)))))) aL) (af (bw (d7 (qf g (f base) (a1 (pv 0)))) (ag (av (aG jz (qf g (a base) (a1 (xt (pv 0) ae))) (bb (a1 (aD (a2 (jN rfl c.HUSH) (xt (pv 0) ae)))))))) aL) (ag (av (bb cE)))))) (by walk_at "b")
theorem sv(a:i_ P w K mg):ja P w K mg:=fun base=>dG X G T.f_parts_behind (fun S _ _ _ _ _ _ _ _ _ e f h=>bK (EA h) (af (qs 3 S (bb cE)) (af (cf bY rfl (kF rfl z.enumerate (a1 (qf e (a base) (a1 (pv 2))))) (eX rfl (aN (gn 4 S) (aN (gn 5 S) dv))) (af (jx (pv 5) (eX rfl (aN (gn 6 S) (aN (gn 7 S) dv)))) (ag (bU (kZ h_ jq jp dQ (pv 3) (a1 (aD (a3 (aG Dn (pv 0) (aD (a1 (pv 4)))) (aG jz (pv 1) (bb (a1 (pv 6)))) (pv 7))))))))) (ag (av (pv 3)))))) (by walk_at "b")
theorem x_(e:mD P w K mg C_NoTrial)(a:ja P w K mg):l6 P w K mg C_NoTrial:=fun base=>KM X G T.f_with_ways (fun S _ _ _ _ _ _ _ _ _ f g h=>bK (Gh h) (nS (fC (vV (ji (qs 1 S (bb cE)))) (fC (vV (ji (qs 2 S (bb (a1 (aD (a3 (aD cE) (bb cE) (pv 0)))))))) (fC (Gw (h9 rN (ql z.len (a1 (pv 2))) ae) (fC (vV (ji (jx (GL h_ PySem.F.slot_list_pop PySem.F.type_list_pop GW (pv 2)) (eX rfl (aN (gn 3 S) (aN (gn 4 S) (aN (gn 5 S) dv))))))) (fC (vV (ji (bU (kZ h_ jq jp dQ (pv 1) (a1 (aD (a3 (pv 3) (pv 4) (pv 5)))))))) (fC (vV (ji (cf bY rfl (Kt rfl z.reversed (a1 (qf f (a base) (a3 (pv 3) (pv 4) (pv 5))))) (gn 6 S) (ag (bU (kZ h_ jq jp dQ (pv 2) (a1 (pv 6)))))))) (eW (vU (PW.pt (jM (h9 cr (ql z.len (a1 (pv 3))) (jN rfl c.MOST_WITHIN)) (jw (h9 rN (aG bV (ql z.len (a1 (pv 1))) (ql z.len (a1 (pv 2)))) (jN rfl c.MOST_TRIALS))))) (eW (vV (vW (e base) (f.mono (by decide)) rfl rfl (a1 (aD cE))))) Gx)))))) (eW (vV (ji (av (pv 1)))))))))) (by walk_at "b")
theorem lH(a:gA P w K mg C):fu P w K mg C:=fun base=>dG X G T.f_has_says_in_order (fun S _ _ _ _ _ _ _ _ _ e f h=>bK (Al h) (ag (av (yX (jy f) (qc (lM (pv 1)) (pE (dP (aY (by decide)) bO (dP (aY (by decide)) bO (lP) (dR)) (fM bO (dR)))) fun _ _ _ _ _ _=>⟨eX rfl (aN (gc 0) (aN (gc 1) dv)),bv,pv 0⟩) (JI e (a base) (pv 0)))))) (by walk_at "b")
theorem nN(e:fc P w K mg C)(f:mC P w K mg)(g:mB P w K mg)(a:fu P w K mg C):gv P w K mg C:=fun base=>dG X G T.f_is_so_by_itself (fun S _ _ _ _ _ _ _ _ _ i j h=>bK (Gn c.blm c.enD h) (af (bw (d7 (qf i (f base) (a1 (pv 1)))) (ag (av (ik (eci (GQ j) (xt (pv 1) ae) (JI i (e base) (pv 0))) (ii (qf i (a base) (a2 (pv 0) (xt (pv 1) ae))))))) aL) (af (bw (d7 (qf i (g base) (a1 (pv 1)))) (ag (av (qf i (a base) (a2 (pv 0) (xt (pv 1) ae))))) aL) (ag (av (GH (yX (jy j) (pv 1) (jN rfl c.END)) (ii (yX (jy j) (pv 1) (jN rfl c.BLAME))))))))) (by walk_at "b")
theorem lI(f:mD P w K mg C_NoTrial)(e:l6 P w K mg C_NoTrial)(a:gv P w K mg C):dI P w K mg C C_NoTrial:=fun base=>KM X G T.f_checked_with_ways (fun S _ _ _ _ _ _ _ _ _ g j h=>bK (Am h) (nS (fC (vV (Gy (i:=2) S rfl (Or.inl rfl) (iZ (e base) (g.mono (by decide)) rfl (a1 (pv 1))))) (fC (Ko rfl (cx (pv 2)) (eX rfl (aN (gn 3 S) (aN (gn 4 S) (aN (gn 5 S) dv)))) (eW (vU (kE (d7 (qf g (a base) (a2 (pv 0) (pv 5))))) (eW (vV (vW (f base) (g.mono (by decide)) rfl rfl (a1 (pv 3))))) Gx))) (eW (vV (ji (av (pv 2))))))))) (by walk_at "b")
theorem va(a:dI P w K mg C C_NoTrial):iI P w K mg C C_NoTrial:=fun base=>KM X G T.f_need_trial (fun S _ _ _ _ _ _ _ _ _ e f h=>bK (BR (K:=K) h) (nS (eW (vV (kD (iZ (a base) (e.mono (by decide)) rfl (a2 (pv 0) (pv 1)))))))) (by walk_at "b")
theorem Eo(a:dI P w K mg C C_NoTrial):l9 P w K mg C C_NoTrial:=fun base=>KM X G T.f_leaves (fun S _ _ _ _ _ _ _ _ _ e f h=>bK (BU h) (nS (eW (vV (Kp (GF (k:=3) (N:=["way","story","here"]) (fi:=[]) (by(with_unfolding_all rfl)) rfl (As (iZ (a base) (e.mono (by decide)) rfl (a2 (pv 0) (pv 1)))) (fun _ _ _ _ _ _=>eX rfl (aN (pD (i:=0) (show(["way","story","here"]:Zb).Nodup by decide +kernel) rfl (Or.inl rfl)) (aN (pD (i:=1) (show(["way","story","here"]:Zb).Nodup by decide +kernel) rfl (Or.inl rfl)) (aN (pD (i:=2) (show(["way","story","here"]:Zb).Nodup by decide +kernel) rfl (Or.inl rfl)) dv)))) (pE (dP (aY (by decide)) bO (dP (aY (by decide)) bO (dP (aY (by decide)) bO (lP) (dR)) (fM bO (dR))) (fM bO (fM bO (dR))))) (fun _ _ _ _ _ _=>Dg (h9 cr (ql z.len (a1 (pv 2))) ae)) (fun _ _ _ _ _ _=>aD (a3 (pv 0) (pv 1) (xt (pv 2) ae))))))))) (by walk_at "b")
theorem Ep(a:kQ P w K mg C)(e:l9 P w K mg C C_NoTrial):u1 P w K mg C C_NoTrial:=fun base=>KM X G T.f_blames (fun S _ _ _ _ _ _ _ _ _ f g h=>bK (BX h) (nS (fC (vV (ji (bU (qf f (a base) (a2 (pv 0) (pv 2)))))) (fC (II rfl (As (iZ (e base) (f.mono (by decide)) rfl (a2 (pv 0) (pv 1)))) (eX rfl (aN (gn 3 S) (aN (gn 4 S) (aN (gn 5 S) dv)))) (pA)) (pA))))) (by walk_at "b")
theorem ya(a:iI P w K mg C C_NoTrial):l7 P w K mg C C_NoTrial:=fun base=>KM X G T.f_number_of (fun S _ _ _ _ _ _ _ _ _ e f h=>bK (EC (K:=K) h) (nS (fC (vV (kD (iZ (a base) (e.mono (by decide)) rfl (a2 (pv 0) (pv 2))))) (pA)))) (by walk_at "b")
theorem En(a:l9 P w K mg C C_NoTrial):uY P w K mg C C_NoTrial:=fun base=>KM X G T.f_unfair (fun S _ _ _ _ _ _ _ _ _ e f h=>bK (BO (K:=K) h) (nS (fC (vV (Gy (i:=2) S rfl (Or.inl rfl) (iZ (a base) (e.mono (by decide)) rfl (a2 (pv 0) (pv 1))))) (pA)))) (by walk_at "b")
theorem yf:dZ P w K mg:=fun base=>dG X G T.f_law_pairs (fun S _ _ _ _ _ _ _ _ _ a e h=>bK (EB h) (ag (av (ml vt rfl z.tuple rZ (a1 (qc (Dh rfl z.zip (a2 (pv 0) (pv 1))) (pE (dP (aY (by decide)) bO (dP (aY (by decide)) bO (lP) (dR)) (fM bO (dR)))) fun _ _ _ _ _ _=>⟨eX rfl (aN (gc 0) (aN (gc 1) dv)),bv,aD (a2 (pv 0) (pv 1))⟩)))))) (by walk_at "b")
theorem ye(g:c_ P w K mg)(i:dZ P w K mg):r8 P w K mg:=fun base=>by
  have E0:eR P w K mg base "_law_trial" ["pen","told","deep","left"] 2 Af:=by
   obtain⟨f,a,t⟩:=T.f_law_trial;obtain⟨p,F⟩:=t.fun_;exact⟨f,p,ux,bz X G a,F.kp,F.binds (ps:=["pen","told","deep","left"]) (by walk_at "b")⟩
  have k:∀(n D:Nat) (o:Sp),2<=n->D<=4->(∀m,D=m+1->o=(fU K m))->eR P w K mg base "_law_trial" ["pen","told","deep","left"] n o->eR P w K mg base "_law_trial" ["pen","told","deep","left"] (n+1) (fU K D):=fun n D o l q r s=>dG X G T.f_law_trial (fun S _ _ _ _ _ _ _ _ _ j B h=>bK (Ev q r h) (af (jx (aG kG (xl (pv 3) ae) ae) (lN (pv 3) ae g_)) (af (qs 4 S (qf (k0:=2) (j.mono (bo (by decide) l)) (g base) (a2 (pv 0) ae))) (af (bw (PW.pt (jM (h9 cr (pv 2) ae) (jM (h9 uv (xl (pv 3) ae) ae) (jw (h9 cr (pv 4) ae))))) (ag (av (xl (bb (a2 (aD (a1 aI)) (aD (a1 aI)))) (qf (k0:=2) (j.mono (bo (by decide) l)) (g base) (a2 (pv 0) ae))))) aL) (af (LZ 5 S (cH rfl z.range (a1 (aG bV (ql z.len (a1 (xt (pv 1) ae))) ae))) (aY (by decide)) fun _ _ _ _ _ _=>⟨gc 0,bv,rM s j rfl (a_ (pv 1) (a3 (pv 2) (aG kG (pv 4) ae) (pv 3)))⟩) (af (bw (h9 uv (pv 4) ae) (af (qs 6 S (xl (xt (pv 1) ae) (qf (k0:=2) (j.mono (bo (by decide) l)) (g base) (a2 (pv 0) (ql z.len (a1 (xt (pv 1) ae))))))) (ag (av (aD (a_ aI (a3 (pv 6) (xl (pv 5) ae) (qf (k0:=1) (j.mono (bo (by decide) l)) (i base) (a2 (xt (pv 1) ae) (cO iF (pv 5) (da ae) eO))))))))) aL) (ag (av (aD (a3 aI (qf (k0:=1) (j.mono (bo (by decide) l)) (i base) (a2 (xt (pv 1) ae) (pv 5))) (xl (pv 5) (v3 qG ae)))))))))))) (by walk_at "b");have u:=k 2 0 _ (by decide) (by decide) (fun m e=>by cases e) E0;have v:=k 3 1 _ (by decide) (by decide) (fun m e=>by cases e;rfl) u;have x:=k 4 2 _ (by decide) (by decide) (fun m e=>by cases e;rfl) v;have y:=k 5 3 _ (by decide) (by decide) (fun m e=>by cases e;rfl) x;have A:=k 6 4 _ (by decide) (by decide) (fun m e=>by cases e;rfl) y;exact A
theorem yi:fW P w K mg:=fun base=>dG X G T.f_law_inner (fun S _ _ _ _ _ _ _ _ _ a e h=>bK (BW h) (af (bw (PW.pt (ie (h9 cr (xt (pv 0) ae) aI) (fD (h9 cr (ql z.len (a1 (pv 0))) ae)))) (ag (av (aG jz (bb (a1 (xt (pv 0) ae))) (qc (lM (xt (pv 0) ae)) (aY (by decide)) fun _ _ _ _ _ _=>⟨gc 0,bv,xt (pv 0) ae⟩)))) aL) (af (bw (PW.pt (ie (h9 cr (xt (pv 0) ae) aI) (fD (h9 cr (ql z.len (a1 (pv 0))) ae)))) (ag (av (aG jz (qc (lM (xt (pv 0) ae)) (aY (by decide)) fun _ _ _ _ _ _=>⟨gc 0,bv,xt (pv 0) ae⟩) (bb (a1 (xt (pv 0) ae)))))) aL) (ag (av (bb cE)))))) (by walk_at "b")
theorem z7(g:fW P w K mg):oz P w K mg:=fun base=>by
  have E0:eR P w K mg base "_law_size" ["trial"] 1 Af:=by
   obtain⟨f,a,t⟩:=T.f_law_size;obtain⟨q,F⟩:=t.fun_;exact⟨f,q,ux,bz X G a,F.kp,F.binds (ps:=["trial"]) (by walk_at "b")⟩
  have i:∀(n D:Nat) (j:Sp),1<=n->D<=12->(∀m,D=m+1->j=(gP K m))->eR P w K mg base "_law_size" ["trial"] n j->eR P w K mg base "_law_size" ["trial"] (n+1) (gP K D):=fun n D j r M s u=>dG X G T.f_law_size (fun S _ _ _ _ _ _ _ _ _ p N h=>bK (Ey s h) (ag (av (aG bV ae (qB (Fg rfl) z.sum boot_sum (a1 (qc (cx (qf (k0:=1) (p.mono (bo (by decide) r)) (g base) (a1 (pv 0)))) (aY (by decide)) fun _ _ _ _ _ _=>⟨gc 0,bv,rM u p rfl (a1 (pv 0))⟩))))))) (by walk_at "b");have v:=i 1 0 _ (by decide) (by decide) (fun m e=>by cases e) E0;have x:=i 2 1 _ (by decide) (by decide) (fun m e=>by cases e;rfl) v;have y:=i 3 2 _ (by decide) (by decide) (fun m e=>by cases e;rfl) x;have A:=i 4 3 _ (by decide) (by decide) (fun m e=>by cases e;rfl) y;have B:=i 5 4 _ (by decide) (by decide) (fun m e=>by cases e;rfl) A;have E:=i 6 5 _ (by decide) (by decide) (fun m e=>by cases e;rfl) B;have H:=i 7 6 _ (by decide) (by decide) (fun m e=>by cases e;rfl) E;have I:=i 8 7 _ (by decide) (by decide) (fun m e=>by cases e;rfl) H;have J:=i 9 8 _ (by decide) (by decide) (fun m e=>by cases e;rfl) I;have L:=i 10 9 _ (by decide) (by decide) (fun m e=>by cases e;rfl) J;have k:=i 11 10 _ (by decide) (by decide) (fun m e=>by cases e;rfl) L;have l:=i 12 11 _ (by decide) (by decide) (fun m e=>by cases e;rfl) k;have o:=i 13 12 _ (by decide) (by decide) (fun m e=>by cases e;rfl) l;exact o
theorem Ac(g:fW P w K mg):oC P w K mg:=fun base=>by
  have E0:eR P w K mg base "_law_deep" ["trial"] 1 Af:=by
   obtain⟨f,a,t⟩:=T.f_law_deep;obtain⟨q,F⟩:=t.fun_;exact⟨f,q,ux,bz X G a,F.kp,F.binds (ps:=["trial"]) (by walk_at "b")⟩
  have i:∀(n D:Nat) (j:Sp),1<=n->D<=12->(∀m,D=m+1->j=(gS K m))->eR P w K mg base "_law_deep" ["trial"] n j->eR P w K mg base "_law_deep" ["trial"] (n+1) (gS K D):=fun n D j r M s u=>dG X G T.f_law_deep (fun S _ _ _ _ _ _ _ _ _ p N h=>bK (EH s h) (ag (av (aG bV ae (qB (Fj rfl) z.max PyProof.Rows.boot_max (a1 (aG jz (bb (a1 ae)) (qc (cx (qf (k0:=1) (p.mono (bo (by decide) r)) (g base) (a1 (pv 0)))) (aY (by decide)) fun _ _ _ _ _ _=>⟨gc 0,bv,rM u p rfl (a1 (pv 0))⟩)))))))) (by walk_at "b");have v:=i 1 0 _ (by decide) (by decide) (fun m e=>by cases e) E0;have x:=i 2 1 _ (by decide) (by decide) (fun m e=>by cases e;rfl) v;have y:=i 3 2 _ (by decide) (by decide) (fun m e=>by cases e;rfl) x;have A:=i 4 3 _ (by decide) (by decide) (fun m e=>by cases e;rfl) y;have B:=i 5 4 _ (by decide) (by decide) (fun m e=>by cases e;rfl) A;have E:=i 6 5 _ (by decide) (by decide) (fun m e=>by cases e;rfl) B;have H:=i 7 6 _ (by decide) (by decide) (fun m e=>by cases e;rfl) E;have I:=i 8 7 _ (by decide) (by decide) (fun m e=>by cases e;rfl) H;have J:=i 9 8 _ (by decide) (by decide) (fun m e=>by cases e;rfl) I;have L:=i 10 9 _ (by decide) (by decide) (fun m e=>by cases e;rfl) J;have k:=i 11 10 _ (by decide) (by decide) (fun m e=>by cases e;rfl) L;have l:=i 12 11 _ (by decide) (by decide) (fun m e=>by cases e;rfl) k;have o:=i 13 12 _ (by decide) (by decide) (fun m e=>by cases e;rfl) l;exact o
theorem qQ:iq P w K mg:=fun base=>dG X G T.f_law_good_here (fun S _ _ _ _ _ _ _ _ _ e a h=>bK (EF h) (af (bw (PW.pt (ie (h9 cr (xt (pv 1) ae) aI) (fD (h9 cr (ql z.len (a1 (pv 1))) ae)))) (ag (av (ik (eci (GQ a) (xt (pv 1) ae) (xt (pv 0) ae)) (ii (yX (jy a) (qc (lM (xt (pv 1) ae)) (aY (by decide)) fun _ _ _ _ _ _=>⟨gc 0,bv,xt (pv 0) ae⟩) (xt (pv 0) ae)))))) aL) (af (bw (PW.pt (ie (h9 cr (xt (pv 1) ae) aI) (fD (h9 cr (ql z.len (a1 (pv 1))) ae)))) (ag (av (yX (jy a) (qc (lM (xt (pv 1) ae)) (aY (by decide)) fun _ _ _ _ _ _=>⟨gc 0,bv,xt (pv 0) ae⟩) (xt (pv 0) ae)))) aL) (ag (av (GH (yX (jy a) (pv 1) (aD (a1 aI))) (ii (yX (jy a) (pv 1) (aD (a1 aI)))))))))) (by walk_at "b")
theorem yd(i:fW P w K mg)(g:iq P w K mg):l_ P w K mg:=fun base=>by
  have E0:eR P w K mg base "_law_wrong" ["told","trial","way"] 1 Af:=by
   obtain⟨f,a,t⟩:=T.f_law_wrong;obtain⟨s,F⟩:=t.fun_;exact⟨f,s,ux,bz X G a,F.kp,F.binds (ps:=["told","trial","way"]) (by walk_at "b")⟩
  have j:∀(n D:Nat) (k:Sp),1<=n->D<=12->(∀m,D=m+1->k=(fJ K m))->eR P w K mg base "_law_wrong" ["told","trial","way"] n k->eR P w K mg base "_law_wrong" ["told","trial","way"] (n+1) (fJ K D):=fun n D k r N u v=>dG X G T.f_law_wrong (fun S _ _ _ _ _ _ _ _ _ l O h=>bK (BN u h) (af (qs 3 S (bb cE)) (af (bw (kE (d7 (qf (k0:=1) (l.mono (bo (by decide) r)) (g base) (a2 (pv 0) (pv 1))))) (ag (bU (kZ h_ jq jp dQ (pv 3) (a1 (pv 2))))) aL) (af (cf bY rfl (kF rfl z.enumerate (a1 (qf (k0:=1) (l.mono (bo (by decide) r)) (i base) (a1 (pv 1))))) (eX rfl (aN (gn 4 S) (aN (gn 5 S) dv))) (ag (qs 3 S (aG jz (pv 3) (rM v l rfl (a3 (pv 0) (pv 5) (aG Dn (pv 2) (aD (a1 (pv 4)))))))))) (ag (av (pv 3))))))) (by walk_at "b");have x:=j 1 0 _ (by decide) (by decide) (fun m e=>by cases e) E0;have y:=j 2 1 _ (by decide) (by decide) (fun m e=>by cases e;rfl) x;have A:=j 3 2 _ (by decide) (by decide) (fun m e=>by cases e;rfl) y;have B:=j 4 3 _ (by decide) (by decide) (fun m e=>by cases e;rfl) A;have E:=j 5 4 _ (by decide) (by decide) (fun m e=>by cases e;rfl) B;have H:=j 6 5 _ (by decide) (by decide) (fun m e=>by cases e;rfl) E;have I:=j 7 6 _ (by decide) (by decide) (fun m e=>by cases e;rfl) H;have J:=j 8 7 _ (by decide) (by decide) (fun m e=>by cases e;rfl) I;have L:=j 9 8 _ (by decide) (by decide) (fun m e=>by cases e;rfl) J;have M:=j 10 9 _ (by decide) (by decide) (fun m e=>by cases e;rfl) L;have o:=j 11 10 _ (by decide) (by decide) (fun m e=>by cases e;rfl) M;have p:=j 12 11 _ (by decide) (by decide) (fun m e=>by cases e;rfl) o;have q:=j 13 12 _ (by decide) (by decide) (fun m e=>by cases e;rfl) p;exact q
theorem BA(e:oz P w K mg)(f:oC P w K mg)(a:l_ P w K mg):wK P w K mg:=fun base=>dG X G T.f_law_due (fun S _ _ _ _ _ _ _ _ _ g i h=>bK (Gq h) (af (bw (PW.pt (jM (h9 rN (qf g (f base) (a1 (pv 1))) ae) (jw (h9 rN (qf g (e base) (a1 (pv 1))) ae)))) (ag (av (aD cE))) aL) (af (qs 2 S (qf g (a base) (a3 (pv 0) (pv 1) (aD cE)))) (af (bw (h9 (jy i) (pv 2) (bb cE)) (ag (av yC)) aL) (ag (av (qB (Fh rfl i) z.min PyProof.Rows.boot_min (a1 (pv 2))))))))) (by walk_at "b")
theorem Ad(a:c_ P w K mg)(e:dZ P w K mg):oE P w K mg:=fun base=>dG X G T.f_law_bent (fun S _ _ _ _ _ _ _ _ _ f g h=>bK (EI h) (af (qs 3 S (qf f (e base) (a2 (xt (pv 1) ae) (qc (cx (xt (pv 1) ae)) (aY (by decide)) fun _ _ _ _ _ _=>⟨gc 0,bv,aD (a1 aI)⟩)))) (af (qs 4 S (qf f (a base) (a2 (pv 0) ae))) (af (bw (PW.pt (ie (h9 uv (pv 4) ae) (fD (h9 rN (ql z.len (a1 (pv 2))) ae)))) (af (qs 3 S (xl (bb (a2 (xt (pv 2) (v3 qG ae)) (xt (pv 2) ae))) (ml Fl rfl z.int wD (a1 (yX cr (xt (pv 2) ae) aI))))) (ag (qs 3 S (xl (bb (a3 (cO sL (pv 3) (da ae) eO) (IN (pv 3) (v3 qG ae)) (aG yG (pv 3) (cO sL (pv 3) eO (da ae))))) (pv 4))))) aL) (af (bw (h9 cr (pv 4) ae) (af (qs 5 S (qf f (a base) (a2 (pv 0) (ql z.len (a1 (pv 3)))))) (ag (qs 3 S (aG yG (aG yG (cO sL (pv 3) eO (da (pv 5))) (aD (a1 (aD (a2 (xl (bb (a3 (xl (xt (pv 1) ae) ae) aI aI)) (qf f (a base) (a2 (pv 0) ae))) (aD (a1 aI))))))) (cO sL (pv 3) (da (aG bV (pv 5) ae)) eO))))) aL) (af (bw (h9 uv (pv 4) ae) (af (bw (h9 cr (qf f (a base) (a2 (pv 0) ae)) ae) (ag (av (aD (a3 aI (pv 3) (pv 2))))) aL) (ag (av (aD (a_ aI (a3 (xl (xt (pv 1) ae) (qf f (a base) (a2 (pv 0) (ql z.len (a1 (xt (pv 1) ae)))))) (pv 2) (pv 3))))))) aL) (af (bw (h9 uv (pv 4) ae) (ag (av (aD (a_ aI (a3 (xl (bb (a3 (xl (xt (pv 1) ae) ae) aI aI)) (qf f (a base) (a2 (pv 0) ae))) (pv 2) (pv 3)))))) aL) (ag (av (aD (a1 (xl (bb (a_ aI (a_ aI (a3 aI aI aI)))) (qf f (a base) (a2 (pv 0) ae)))))))))))))) (by walk_at "b")
theorem vg(i:c_ P w K mg)(g:dZ P w K mg)(j:fW P w K mg)(k:oE P w K mg):p7 P w K mg:=fun base=>by
  have E0:eR P w K mg base "_law_spoilt" ["pen","told","trial"] 3 Af:=by
   obtain⟨f,a,t⟩:=T.f_law_spoilt;obtain⟨r,F⟩:=t.fun_;exact⟨f,r,ux,bz X G a,F.kp,F.binds (ps:=["pen","told","trial"]) (by walk_at "b")⟩
  have o:∀(n D:Nat) (q:Sp),3<=n->D<=5->(∀m,D=m+1->q=(eS K m))->eR P w K mg base "_law_spoilt" ["pen","told","trial"] n q->eR P w K mg base "_law_spoilt" ["pen","told","trial"] (n+1) (eS K D):=fun n D q p s u v=>dG X G T.f_law_spoilt (fun S _ _ _ _ _ _ _ _ _ l x h=>bK (Aj (bo s (by decide)) u h) (af (qs 3 S (qf (k0:=1) (l.mono (bo (by decide) p)) (j base) (a1 (pv 2)))) (af (bw (PW.pt (jM (h9 (KA x) (pv 3) (bb cE)) (jw (h9 cr (qf (k0:=2) (l.mono (bo (by decide) p)) (i base) (a2 (pv 0) ae)) ae)))) (ag (av (qf (k0:=3) (l.mono (bo (by decide) p)) (k base) (a3 (pv 0) (pv 1) (pv 2))))) aL) (af (qs 4 S (qf (k0:=2) (l.mono (bo (by decide) p)) (i base) (a2 (pv 0) (ql z.len (a1 (pv 3)))))) (af (jx (rM v l rfl (a3 (pv 0) (pv 1) (xl (pv 3) (pv 4)))) (lN (pv 3) (pv 4) g_)) (af (bw (h9 cr (xt (pv 2) ae) aI) (af (LZ 5 S (lM (xt (pv 2) ae)) (aY (by decide)) fun _ _ _ _ _ _=>⟨gc 0,bv,xt (pv 0) ae⟩) (ag (av (aD (a3 aI (qf (k0:=1) (l.mono (bo (by decide) p)) (g base) (a2 (pv 5) (pv 3))) (xl (pv 3) (v3 qG ae))))))) aL) (ag (av (aD (a_ aI (a3 (xt (pv 2) ae) (xl (pv 3) ae) (qf (k0:=1) (l.mono (bo (by decide) p)) (g base) (a2 (qc (lM (xt (pv 2) ae)) (aY (by decide)) fun _ _ _ _ _ _=>⟨gc 0,bv,xt (pv 0) ae⟩) (cO iF (pv 3) (da ae) eO)))))))))))))) (by walk_at "b");have y:=o 3 0 _ (by decide) (by decide) (fun m e=>by cases e) E0;have A:=o 4 1 _ (by decide) (by decide) (fun m e=>by cases e;rfl) y;have B:=o 5 2 _ (by decide) (by decide) (fun m e=>by cases e;rfl) A;have E:=o 6 3 _ (by decide) (by decide) (fun m e=>by cases e;rfl) B;have H:=o 7 4 _ (by decide) (by decide) (fun m e=>by cases e;rfl) E;have I:=o 8 5 _ (by decide) (by decide) (fun m e=>by cases e;rfl) H;exact I
theorem Ab(g:dZ P w K mg):oB P w K mg:=fun base=>by
  have E0:eR P w K mg base "_law_even" ["told","many"] 1 Af:=by
   obtain⟨f,a,t⟩:=T.f_law_even;obtain⟨l,F⟩:=t.fun_;exact⟨f,l,ux,bz X G a,F.kp,F.binds (ps:=["told","many"]) (by walk_at "b")⟩
  have i:∀(n D:Nat) (j:Sp),1<=n->D<=9->(∀m,D=m+1->j=(kz K m))->eR P w K mg base "_law_even" ["told","many"] n j->eR P w K mg base "_law_even" ["told","many"] (n+1) (kz K D):=fun n D j o I p q=>dG X G T.f_law_even (fun S _ _ _ _ _ _ _ _ _ k J h=>bK (ID p h) (af (bw (h9 cr (pv 1) ae) (ag (av (aD (a1 aI)))) aL) (af (qs 2 S (bb cE)) (af (qs 3 S (aG kG (pv 1) ae)) (af (cf bY rfl (cH rfl z.range (a1 (aG bV (ql z.len (a1 (xt (pv 0) ae))) ae))) (gn 4 S) (af (qs 5 S (aG pF (pv 3) (aG kG (aG bV (ql z.len (a1 (xt (pv 0) ae))) ae) (pv 4)))) (af (bU (kZ h_ jq jp dQ (pv 2) (a1 (rM q k rfl (a2 (pv 0) (pv 5)))))) (ag (qs 3 S (aG kG (pv 3) (pv 5))))))) (ag (av (aD (a3 aI (qf (k0:=1) (k.mono (bo (by decide) o)) (g base) (a2 (xt (pv 0) ae) (pv 2))) (xl (pv 2) (v3 qG ae))))))))))) (by walk_at "b");have r:=i 1 0 _ (by decide) (by decide) (fun m e=>by cases e) E0;have s:=i 2 1 _ (by decide) (by decide) (fun m e=>by cases e;rfl) r;have u:=i 3 2 _ (by decide) (by decide) (fun m e=>by cases e;rfl) s;have v:=i 4 3 _ (by decide) (by decide) (fun m e=>by cases e;rfl) u;have x:=i 5 4 _ (by decide) (by decide) (fun m e=>by cases e;rfl) v;have y:=i 6 5 _ (by decide) (by decide) (fun m e=>by cases e;rfl) x;have A:=i 7 6 _ (by decide) (by decide) (fun m e=>by cases e;rfl) y;have B:=i 8 7 _ (by decide) (by decide) (fun m e=>by cases e;rfl) A;have E:=i 9 8 _ (by decide) (by decide) (fun m e=>by cases e;rfl) B;have H:=i 10 9 _ (by decide) (by decide) (fun m e=>by cases e;rfl) E;exact H
theorem yj(a:c_ P w K mg)(e:dZ P w K mg)(f:oB P w K mg):sh P w K mg:=fun base=>dG X G T.f_law_great (fun S _ _ _ _ _ _ _ _ _ g i h=>bK (Go h) (af (qs 2 S (aD (a1 aI))) (af (qs 3 S (qf g (a base) (a2 (pv 0) ae))) (af (bw (h9 cr (pv 3) ae) (ag (av (qf g (f base) (a2 (pv 1) (aG kG (aG bV (aG pF ae (aG bV (ql z.len (a1 (xt (pv 1) ae))) ae)) (qf g (a base) (a2 (pv 0) ae))) ae))))) aL) (af (bw (h9 cr (pv 3) ae) (af (cf bY rfl (cH rfl z.range (a1 (aG bV ae (qf g (a base) (a2 (pv 0) ae))))) (gn 4 S) (ag (qs 2 S (aD (a3 aI (qf g (e base) (a2 (xt (pv 1) ae) (qc (cx (xt (pv 1) ae)) (aY (by decide)) fun _ _ _ _ _ _=>⟨gc 0,bv,aD (a1 aI)⟩))) (pv 2)))))) (ag (av (pv 2)))) aL) (af (cf bY rfl (cH rfl z.range (a1 (aG kG (xl (bb (a_ ae (a3 ae ae ae))) (aG kG (ql z.len (a1 (xt (pv 1) ae))) ae)) (qf g (a base) (a2 (pv 0) ae))))) (gn 4 S) (ag (qs 2 S (aD (a3 aI (qf g (e base) (a2 (xt (pv 1) ae) (qc (cx (xt (pv 1) ae)) (aY (by decide)) fun _ _ _ _ _ _=>⟨gc 0,bv,pv 1⟩))) (pv 2)))))) (ag (av (pv 2))))))))) (by walk_at "b")
theorem z_:oA P w K mg:=fun base=>by
  have E0:eR P w K mg base "_law_same" ["found","due"] 0 Af:=by
   obtain⟨f,a,t⟩:=T.f_law_same;obtain⟨k,F⟩:=t.fun_;exact⟨f,k,ux,bz X G a,F.kp,F.binds (ps:=["found","due"]) (by walk_at "b")⟩
  have g:∀(n D:Nat) (i:Sp),0<=n->D<=2->(∀m,D=m+1->i=(eo K m))->eR P w K mg base "_law_same" ["found","due"] n i->eR P w K mg base "_law_same" ["found","due"] (n+1) (eo K D):=fun n D i u v l o=>dG X G T.f_law_same (fun S _ _ _ _ _ _ _ _ _ p j h=>bK (Ez l h) (af (bw (ig (yF (pv 1))) (ag (av (Kz (yF (pv 0))))) aL) (af (bw (d7 (qB fb z.isinstance cZ (a2 (pv 1) (nV rfl z.bool)))) (ag (av (ik (qB fb z.isinstance cZ (a2 (pv 0) (nV rfl z.bool))) (ii (yX cr (pv 0) (pv 1)))))) aL) (af (bw (d7 (qB fb z.isinstance cZ (a2 (pv 1) (v4 rfl z.str)))) (ag (av (ik (qB fb z.isinstance cZ (a2 (pv 0) (v4 rfl z.str))) (ii (yX (jy j) (pv 0) (pv 1)))))) aL) (af (bw (d7 (qB fb z.isinstance cZ (a2 (pv 1) (v5 rfl z.int)))) (ag (av (ik (qB fb z.isinstance cZ (a2 (pv 0) (v5 rfl z.int))) (ik (GI (qB fb z.isinstance cZ (a2 (pv 0) (nV rfl z.bool)))) (ii (yX (jy j) (pv 0) (pv 1))))))) aL) (af (bw (PW.pt (ie (d7 (qB fb z.isinstance cZ (a2 (pv 1) (rK rfl z.tuple)))) (fD (kE (d7 (qB fb z.isinstance cZ (a2 (pv 0) (rK rfl z.tuple)))))))) (ag (av jj)) aL) (af (bw (PW.pt (jM (PW.pt (ie (d7 (qB fb z.isinstance cZ (a2 (pv 1) (ur rfl z.list)))) (fD (kE (d7 (qB fb z.isinstance cZ (a2 (pv 0) (ur rfl z.list)))))))) (jw (h9 GP (ql z.len (a1 (pv 0))) (ql z.len (a1 (pv 1))))))) (ag (av jj)) aL) (ag (av (qB (lT rfl) z.all boot_all (a1 (qc (Dh rfl z.zip (a2 (pv 0) (pv 1))) (pE (dP (aY (by decide)) bO (dP (aY (by decide)) bO (lP) (dR)) (fM bO (dR)))) fun _ _ _ _ _ _=>⟨eX rfl (aN (gc 0) (aN (gc 1) dv)),bv,rM o p rfl (a2 (pv 0) (pv 1))⟩)))))))))))) (by walk_at "b");have q:=g 0 0 _ (by decide) (by decide) (fun m e=>by cases e) E0;have r:=g 1 1 _ (by decide) (by decide) (fun m e=>by cases e;rfl) q;have s:=g 2 2 _ (by decide) (by decide) (fun m e=>by cases e;rfl) r;exact s
theorem ub(e:iI P w K mg C C_NoTrial)(j:l9 P w K mg C C_NoTrial)(k:u1 P w K mg C C_NoTrial)(f:l7 P w K mg C C_NoTrial)(l:uY P w K mg C C_NoTrial):jD P w K mg C:=fun base=>dG X G T.f_law_refused (fun S _ _ _ _ _ _ _ _ _ m n h=>bK (BQ (Ki c.x_NoTrial c.x_TooWide c.x_NoWord c.x_NoText c.x_NoTaker c.x_NoSign c.x_NoRight c.x_NoNumber c.x_NoMatch c.x_NoMachine c.x_NoJoin c.x_NoDepth c.xt c.xg c.na_NoTrial_way c.nd) h) (af (qs 4 S aI) (af (IK (eW (vU (h9 cr (pv 2) ae) (eW (vV (kD (iZ (e base) (m.mono (by decide)) rfl (a2 (pv 0) (pv 1)))))) (eW (vU (h9 cr (pv 2) ae) (eW (vV (kD (iZ (j base) (m.mono (by decide)) rfl (a2 (pv 0) (pv 1)))))) (eW (vU (h9 cr (pv 2) ae) (eW (vV (kD (iZ (k base) (m.mono (by decide)) rfl (a3 (pv 0) (pv 1) (pv 3)))))) (eW (vU (h9 cr (pv 2) ae) (eW (vV (kD (iZ (f base) (m.mono (by decide)) rfl (a3 (pv 0) ae (pv 1)))))) (eW (vV (kD (iZ (l base) (m.mono (by decide)) rfl (a2 (pv 3) (pv 1)))))))))))))) (Ll (i:=5) S rfl rfl rfl c.x_NoTrial.g (fun a=>af (qs 6 S (qB wC z.isinstance cZ (a2 (pv 5) (aD (a_ (ff rfl c.x_NoDepth.g rfl) (a_ (ff rfl c.x_NoJoin.g rfl) (a_ (ff rfl c.x_NoMachine.g rfl) (a_ (ff rfl c.x_NoMatch.g rfl) (a3 (ff rfl c.x_NoNumber.g rfl) (ff rfl c.x_NoRight.g rfl) (ff rfl c.x_NoSign.g rfl)))))))))) (af (qs 6 S (GH (pv 6) (ii (qB wC z.isinstance cZ (a2 (pv 5) (aD (a_ (ff rfl c.x_NoTaker.g rfl) (a3 (ff rfl c.x_NoText.g rfl) (ff rfl c.x_NoWord.g rfl) (ff rfl c.x_TooWide.g rfl))))))))) (ag (qs 4 S (aD (a2 (IM (pv 5) rfl) (ik (qB AQ z.isinstance cZ (a2 (pv 5) (ff rfl c.TrialError rfl))) (ik (qB AQ z.isinstance cZ (a2 (pv 5) (mn rfl z.ValueError HD rfl))) (ii (GI (pv 6))))))))))) Ku)) (ag (av (pv 4)))))) (by walk_at "b")
theorem Bz(a:c_ P w K mg)(e:dZ P w K mg):rq P w K mg:=fun base=>dG X G T.f_law_far (fun S _ _ _ _ _ _ _ _ _ f g h=>bK (Gp h) (af (qs 3 S (xl (bb (a2 (aD (a1 aI)) (aD (a1 aI)))) (qf f (a base) (a2 (pv 0) ae)))) (af (qs 4 S (xl (xt (pv 1) ae) (qf f (a base) (a2 (pv 0) (ql z.len (a1 (xt (pv 1) ae))))))) (af (qs 5 S (qf f (a base) (a2 (pv 0) ae))) (af (cf bY rfl (cH rfl z.range (a1 (aG kG (xl (bb (a2 ae ae)) (pv 2)) (qf f (a base) (a2 (pv 0) ae))))) (gn 6 S) (af (LZ 7 S (cH rfl z.range (a1 (aG bV (ql z.len (a1 (xt (pv 1) ae))) ae))) (aY (by decide)) fun _ _ _ _ _ _=>⟨gc 0,bv,xl (bb (a2 (aD (a1 aI)) (pv 2))) (pv 1)⟩) (af (jx (pv 3) (lN (pv 7) (aG im (aG pF (pv 5) ae) (ql z.len (a1 (xt (pv 1) ae)))) g_)) (ag (bw (h9 cr (aG gp (pv 5) ae) ae) (ag (qs 3 S (aD (a3 aI (qf f (e base) (a2 (xt (pv 1) ae) (pv 7))) (xl (pv 7) (v3 qG ae)))))) (ag (qs 3 S (aD (a_ aI (a3 (pv 4) (xl (pv 7) ae) (qf f (e base) (a2 (xt (pv 1) ae) (cO iF (pv 7) (da ae) eO))))))))))))) (ag (av (pv 3)))))))) (by walk_at "b")
theorem nM(e:c_ P w K mg)(g:mE P w K mg C)(f:oA P w K mg)(a:jD P w K mg C)(i:rq P w K mg):jo P w K mg C:=fun base=>dG X G T.f_law_far_refused (fun S _ _ _ _ _ _ _ _ _ j k h=>bK (EG h) (af (LZ 3 S (cx (xt (pv 1) ae)) (aY (by decide)) fun _ _ _ _ _ _=>⟨gc 0,bv,aD (a3 aI (aD (a2 aI (pv 0))) aI)⟩) (af (qs 4 S (GJ (g base) (j.mono (by decide)) rfl (a_ (qL rfl z.list (a1 (xt (pv 1) ae))) (a3 (qL rfl z.list (a1 (xt (pv 1) ae))) (bb (a1 aI)) (pv 3))))) (af (cf bY rfl (cH rfl z.range (a1 ae)) (gn 5 S) (af (qs 6 S (qf j (i base) (a3 (pv 0) (pv 1) (pv 5)))) (ag (cf bY rfl (cx (bb (a2 ae (aG bV ae (qf j (e base) (a2 (pv 0) ae)))))) (gn 7 S) (ag (bw (kE (d7 (qf j (f base) (a2 (qf j (a base) (a_ (pv 2) (a3 (pv 6) (pv 7) (pv 4)))) (aD (a2 (aD cE) jj)))))) (ag (av jj)) aL)))))) (ag (av jj)))))) (by walk_at "b")
end
theorem KC(X:K.In h)(G:h.Ns bh mg)(z:Zs mg)(c:Cs K mg C Cx Ct a_STILL a_HUSH a_BLAME a_END C_NoTaker C_NoTrial C_NoWord C_NoText C_NoMatch C_NoJoin C_NoSign C_NoDepth C_NoNumber C_NoRight C_TooWide)(T:Ts K C Cx C_NoTaker C_NoTrial C_NoWord C_NoText C_NoMatch C_NoJoin C_NoSign C_NoDepth C_NoNumber C_NoRight C_TooWide):∃f fd,mg "law"=some (.ref f)/\(∀(s:Shared) (v:Value),nG s fd ⟨[v],[]⟩ [("script",v)])/\∀base:Heap,i8 P w K mg base CX0 17 f fd ["script"] (sp_law29 K):=by
 have a6:kT P w K mg:=vf X G z c T;have bT:uZ P w K mg:=Aa X G z c T;have b0:oG P w K mg:=Ae X G z c T;have e:c_ P w K mg:=z6 X G z c T a6;have bl:ma P w K mg:=yg X G z c T e;have b5:rp P w K mg:=By X G z c T;have I:gX P w K mg:=o0 X G z c T e b5;have bm:r_ P w K mg:=yh X G z c T b0 e bl I;have b6:rB P w K mg:=BD X G z c T;have B:jX P w K mg:=BE X G z c T;have x:fO P w K mg:=mI X G z c T b6 B;have a7:kU P w K mg:=vh X G z c T;have y:fP P w K mg:=mJ X G z c T B;have n:du P w K mg:=iV X G z c T;have al:jb P w K mg:=sw X G z c T;have D:gy P w K mg:=nO X G z c T;have J:jn P w K mg:=yb X G z c T;have a8:kR P w K mg:=vc X G z c T x a7 y J;have L:g0 P w K mg:=o6 X G z c T;have M:gZ P w K mg:=o5 X G z c T;have aT:mE P w K mg C:=BG X G z c T B n al D J a8 L M;have aX:nc P w K mg C:=uc X G z c T aT;have O:ir P w K mg C:=qO X G z c T;have A:fQ P w K mg C:=mH X G z c T;have Q:iu P w K mg C:=qP X G z c T;have j:fc P w K mg C:=sr X G z c T;have q:gA P w K mg C:=sm X G z c T;have ce:zE P w K mg C:=FW X G z c T A Q;have a9:kS P w K mg C:=vd X G z c T j q;have p:eI P w K mg C:=ke X G z c T O j ce;have bd:kQ P w K mg C:=vb X G z c T a9 p;have a0:mD P w K mg C_NoTrial:=BF X G z c T;have a4:mC P w K mg:=BC X G z c T;have a5:mB P w K mg:=BB X G z c T;have N:gW P w K mg:=oZ X G z c T;have as:i_ P w K mg:=su X G z c T a4 a5 N;have aC:ja P w K mg:=sv X G z c T as;have bn:l6 P w K mg C_NoTrial:=x_ X G z c T a0 aC;have r:fu P w K mg C:=lH X G z c T q;have E:gv P w K mg C:=nN X G z c T j a4 a5 r;have i:dI P w K mg C C_NoTrial:=lI X G z c T a0 bn E;have o:iI P w K mg C C_NoTrial:=va X G z c T i;have U:l9 P w K mg C C_NoTrial:=Eo X G z c T i;have b9:u1 P w K mg C C_NoTrial:=Ep X G z c T bd U;have bG:l7 P w K mg C C_NoTrial:=ya X G z c T o;have cb:uY P w K mg C C_NoTrial:=En X G z c T U;have g:dZ P w K mg:=yf X G z c T;have bL:r8 P w K mg:=ye X G z c T e g;have m:fW P w K mg:=yi X G z c T;have b1:oz P w K mg:=z7 X G z c T m;have b2:oC P w K mg:=Ac X G z c T m;have Y:iq P w K mg:=qQ X G z c T;have bN:l_ P w K mg:=yd X G z c T m Y;have b7:wK P w K mg:=BA X G z c T b1 b2 bN;have b3:oE P w K mg:=Ad X G z c T e g;have bi:p7 P w K mg:=vg X G z c T e g m b3;have b4:oB P w K mg:=Ab X G z c T g;have bP:sh P w K mg:=yj X G z c T e g b4;have ab:oA P w K mg:=z_ X G z c T;have u:jD P w K mg C:=ub X G z c T o U b9 bG cb;have b8:rq P w K mg:=Bz X G z c T e g;have H:jo P w K mg C:=nM X G z c T e aT ab u b8;obtain⟨f,a,t⟩:=T.f_law29;obtain⟨oc,od,an,sl,kV,dc,pm,cd,ct,l,c1,k1⟩:=t;have F:=Hk (st:=(fy 114)) l c1 k1;have sc:g7 DX GB (bC (fy 114)):=by walk_at "s"
 have S:=sc.nd;exact⟨f,_,bz X G a,fun s v=>.of_eq rfl,fun base=>F.ok (k:=16) sc (by walk_at "l") (fun _ _ _ _ _ _ _ _ hr h=>by have hu:=wg hr;exact bK (Gm (C:=C) h) (af (qs 1 S (qf hr (bT base) (a1 (pv 0)))) (af (qs 2 S (qf hr (e base) (a2 (pv 1) ae))) (af (cf bY rfl (cH rfl z.range (a1 ae)) (gn 3 S) (af (qs 4 S (qf hr (bm base) (a3 (pv 1) ae ae))) (af (qs 5 S (qf hr (aX base) (a1 (pv 4)))) (af (qs 6 S (qf hr (bL base) (a_ (pv 1) (a3 (pv 4) ae (bb (a1 ae)))))) (af (cf bY rfl (cH rfl z.range (a1 (xl (bb (a_ ae (a_ ae (a_ ae (a3 ae ae ae))))) (qf hr (e base) (a2 (pv 1) ae))))) (gn 7 S) (ag (qs 6 S (qf hr (bi base) (a3 (pv 1) (pv 4) (pv 6)))))) (af (bw (h9 cr (qf hr (e base) (a2 (pv 1) ae)) ae) (ag (qs 6 S (qf hr (bP base) (a2 (pv 1) (pv 4))))) aL) (af (qs 8 S (qf hr (b7 base) (a2 (pv 4) (pv 6)))) (af (cf bY rfl (cH rfl z.range (a1 ae)) (gn 9 S) (af (qs 10 S (qf hr (u base) (a_ (pv 5) (a3 (pv 6) (pv 9) (pv 5))))) (ag (bw (PW.pt (jM (PW.pt (ie (ig (yF (pv 8))) (fD (h9 GP (pv 10) aI)))) (jw (PW.pt (ie (ig (yE (pv 8))) (fD (kE (d7 (qf hr (ab base) (a2 (pv 10) (aD (a2 (pv 8) jj)))))))))))) (ag (av jj)) aL)))) (af (bw (PW.pt (ie (ig (yF (pv 8))) (fD (ig (yE (Ky (o base) (hr.mono (by decide)) rfl (a2 (pv 5) (pv 6)))))))) (ag (av jj)) aL) (ag (bw (PW.pt (ie (h9 cr (pv 3) (pv 2)) (fD (kE (d7 (qf hr (H base) (a3 (pv 1) (pv 4) (pv 5)))))))) (ag (av jj)) aL))))))))))) (ag (av jj))))))⟩
theorem all_mk{l:PySem.W.OpenLaw}{fa:Addr}{ns qX:Str}{NX:Addr}{nt go:Zf}{nv:Zb}{nw:Bool}{gs:Option Bool}{nx:Option Addr}{ny nz nA nT n0:Option Value}{n1 qT:Str}{NT:Addr}{n2 gt:Zf}{n3:Zb}{n4:Bool}{gw:Option Bool}{n5:Option Addr}{n7 n8 n9 oa ob:Option Value}{gx oc:Str}{od:Addr}{gz cs:Zf}{gI:Zb}{gO:Bool}{ct:Option Bool}{gT:Option Addr}{gY g1 g2 g3 g4:Option Value}{g5 oe:Str}{oi:Addr}{ha cB:Zf}{hb:Zb}{hc:Bool}{cC:Option Bool}{he:Option Addr}{hf hg hh hi hj:Option Value}{hk op:Str}{ot:Addr}{hl c0:Zf}{hm:Zb}{hn:Bool}{c1:Option Bool}{ho:Option Addr}{hp hq hr hs ht:Option Value}{hu ov:Str}{ox:Addr}{hv c2:Zf}{hw:Zb}{hx:Bool}{c3:Option Bool}{hy:Option Addr}{hz hA hC hD hE:Option Value}{hF oD:Str}{oF:Addr}{hG c4:Zf}{hH:Zb}{hI:Bool}{c5:Option Bool}{hK:Option Addr}{hL hM hN hO hP:Option Value}{hQ oI:Str}{oL:Addr}{hR c6:Zf}{hS:Zb}{hT:Bool}{c8:Option Bool}{hU:Option Addr}{hW hX hY h0 h1:Option Value}{h2 oN:Str}{oT:Addr}{h3 c9:Zf}{h4:Zb}{h5:Bool}{dc:Option Bool}{h6:Option Addr}{h8 ih ij il iv:Option Value}{i0 oW:Str}{o1:Addr}{i1 dd:Zf}{i2:Zb}{j0:Bool}{di:Option Bool}{j1:Option Addr}{j2 kb kd kg kh:Option Value}{ki o2:Str}{o3:Addr}{kj dk:Zf}{kk:Zb}{kl:Bool}{dm:Option Bool}{kn:Option Addr}{ks ku kv kw ky:Option Value}{kX o4:Str}{pa:Addr}{k0 dn:Zf}{k1:Zb}{k2:Bool}{dp:Option Bool}{k3:Option Addr}{k5 k8 k9 la le:Option Value}{dr lf:Str}{li:Addr}{ds b3:Zf}{dx:Zb}{dy:Bool}{b4:Option Bool}{dK:Option Addr}{dT dV d0 d1 d2:Option Value}{q:Value}{a:Value}{j:Value}{m:Value}{n:Value}{r:Value}{g:Value}{i:Value}{t:Obj}{u:Array Value}{a7:Nat}{U:Obj}{Y:Array Value}{b5:Nat}{x:Obj}{y:Array Value}{a8:Nat}{an:Obj}{as:Array Value}{d3:Nat}(X:K.In h)(G:h.Ns bh mg)(pe:mg "law"=some (.ref fa))
  (aC:bf K bh "Machine"=some (some (.ref C)))
  (pg:zH K C Str.empty=true)
  (hd:CK K C=true)
  (po:PySem.W.plainOver K C=true)
  (sa:az K (.ref C) "__setattr__"=some (some (.builtin "object.__setattr__")))
  (mk:zF K C=true)
  (kc:cU K (.ref C)=true)
  (pl:az K (.ref C) "own_asks"=some none)
  (pm:az K (.ref C) "own_says"=some none)
  (pn:az K (.ref C) "own_rooms"=some none)
  (pr:az K (.ref C) "own_doors"=some none)
  (ps:az K (.ref C) "leaving"=some none)
  (pu:az K (.ref C) "quiet"=some none)
  (pw:az K (.ref C) "sign_goals"=some none)
  (px:az K (.ref C) "still_led"=some none)
  (aX:bf K bh "NoMachine"=some (some (.ref Cx)))
  (aT:bf K bh "TrialError"=some (some (.ref Ct)))
  (xo:K.lookup Cx=some (dh ns qX Cx NX nt (.ref Ct::dA) true nv go nw gs nx ny nz nA nT n0 "ValueError.__new__"))
  (lj:az K (.ref Cx) "__setattr__"=some (some (.builtin "object.__setattr__")))
  (ll:az K (.ref Cx) "__getattribute__"=some (some (.builtin "BaseException.__getattribute__")))
  (lq:az K (.ref Cx) "__getattr__"=some none)
  (xp:az K (.ref Cx) "part"=some none)
  (xn:az K (.ref Cx) "number"=some none)
  (py:PySem.W.subIn K (.ref Cx) (.type "BaseException")=some true)
  (pz:PySem.W.isClsIn K Cx=true)
  (p0:PySem.W.typeIn K (.ref Cx)=some (.type "type"))
  (p1:PySem.W.subIn K (.ref Cx) (.ref Cx)=some true)
  (p2:PySem.W.readsIn K Ct (.type "type")=true)
  (p3:PySem.W.findCls K (.ref Ct) (.type "type") "__init__"=some (.val (.builtin "ValueError.__init__")))
  (p4:CI K (.ref Ct) "__getattribute__"=some (some (.builtin "type.__getattribute__")))
  (kx:cU K (.ref Cx)=true)
  (p5:az K (.ref Cx) "__class__"=some (some (.builtin "object.__class__")))
  (p6:CI K (.builtin "object.__class__") "__get__"=some (some (.builtin "getset_descriptor.__get__")))
  (qn:PySem.W.takesIn K (.builtin "object.__class__")=some true)
  (qo:K.lookup Ct=some (dh n1 qT Ct NT n2 dA true n3 gt n4 gw n5 n7 n8 n9 oa ob "ValueError.__new__"))
  (ls:bf K bh "NoTaker"=some (some (.ref C_NoTaker)))
  (lv:K.lookup C_NoTaker=some (dh gx oc C_NoTaker od gz (.ref Ct::dA) true gI cs gO ct gT gY g1 g2 g3 g4 "ValueError.__new__"))
  (d5:az K (.ref C_NoTaker) "__setattr__"=some (some (.builtin "object.__setattr__")))
  (d8:az K (.ref C_NoTaker) "__getattribute__"=some (some (.builtin "BaseException.__getattribute__")))
  (ea:az K (.ref C_NoTaker) "__getattr__"=some none)
  (eb:az K (.ref C_NoTaker) "__class__"=some (some (.builtin "object.__class__")))
  (lw:cU K (.ref C_NoTaker)=true)
  (ec:az K (.ref C_NoTaker) "room"=some none)
  (ed:az K (.ref C_NoTaker) "ask"=some none)
  (lx:bf K bh "NoTrial"=some (some (.ref C_NoTrial)))
  (ly:K.lookup C_NoTrial=some (dh g5 oe C_NoTrial oi ha (.ref Ct::dA) true hb cB hc cC he hf hg hh hi hj "ValueError.__new__"))
  (ee:az K (.ref C_NoTrial) "__setattr__"=some (some (.builtin "object.__setattr__")))
  (ef:az K (.ref C_NoTrial) "__getattribute__"=some (some (.builtin "BaseException.__getattribute__")))
  (ej:az K (.ref C_NoTrial) "__getattr__"=some none)
  (ek:az K (.ref C_NoTrial) "__class__"=some (some (.builtin "object.__class__")))
  (l0:cU K (.ref C_NoTrial)=true)
  (el:az K (.ref C_NoTrial) "way"=some none)
  (l1:bf K bh "NoWord"=some (some (.ref C_NoWord)))
  (l2:K.lookup C_NoWord=some (dh hk op C_NoWord ot hl (.ref Ct::dA) true hm c0 hn c1 ho hp hq hr hs ht "ValueError.__new__"))
  (em:az K (.ref C_NoWord) "__setattr__"=some (some (.builtin "object.__setattr__")))
  (en:az K (.ref C_NoWord) "__getattribute__"=some (some (.builtin "BaseException.__getattribute__")))
  (ep:az K (.ref C_NoWord) "__getattr__"=some none)
  (er:az K (.ref C_NoWord) "__class__"=some (some (.builtin "object.__class__")))
  (l3:cU K (.ref C_NoWord)=true)
  (es:az K (.ref C_NoWord) "number"=some none)
  (l4:bf K bh "NoText"=some (some (.ref C_NoText)))
  (l5:K.lookup C_NoText=some (dh hu ov C_NoText ox hv (.ref Ct::dA) true hw c2 hx c3 hy hz hA hC hD hE "ValueError.__new__"))
  (et:az K (.ref C_NoText) "__setattr__"=some (some (.builtin "object.__setattr__")))
  (eu:az K (.ref C_NoText) "__getattribute__"=some (some (.builtin "BaseException.__getattribute__")))
  (ev:az K (.ref C_NoText) "__getattr__"=some none)
  (ew:az K (.ref C_NoText) "__class__"=some (some (.builtin "object.__class__")))
  (l8:cU K (.ref C_NoText)=true)
  (ey:az K (.ref C_NoText) "number"=some none)
  (mb:bf K bh "NoMatch"=some (some (.ref C_NoMatch)))
  (mc:K.lookup C_NoMatch=some (dh hF oD C_NoMatch oF hG (.ref Ct::dA) true hH c4 hI c5 hK hL hM hN hO hP "ValueError.__new__"))
  (ez:az K (.ref C_NoMatch) "__setattr__"=some (some (.builtin "object.__setattr__")))
  (eC:az K (.ref C_NoMatch) "__getattribute__"=some (some (.builtin "BaseException.__getattribute__")))
  (eH:az K (.ref C_NoMatch) "__getattr__"=some none)
  (eL:az K (.ref C_NoMatch) "__class__"=some (some (.builtin "object.__class__")))
  (mm:cU K (.ref C_NoMatch)=true)
  (mo:az K (.ref C_NoMatch) "__init__"=some (some (.builtin "ValueError.__init__")))
  (mp:bf K bh "NoJoin"=some (some (.ref C_NoJoin)))
  (ms:K.lookup C_NoJoin=some (dh hQ oI C_NoJoin oL hR (.ref Ct::dA) true hS c6 hT c8 hU hW hX hY h0 h1 "ValueError.__new__"))
  (eT:az K (.ref C_NoJoin) "__setattr__"=some (some (.builtin "object.__setattr__")))
  (eY:az K (.ref C_NoJoin) "__getattribute__"=some (some (.builtin "BaseException.__getattribute__")))
  (e1:az K (.ref C_NoJoin) "__getattr__"=some none)
  (e2:az K (.ref C_NoJoin) "__class__"=some (some (.builtin "object.__class__")))
  (mu:cU K (.ref C_NoJoin)=true)
  (mA:az K (.ref C_NoJoin) "__init__"=some (some (.builtin "ValueError.__init__")))
  (mP:bf K bh "NoSign"=some (some (.ref C_NoSign)))
  (mX:K.lookup C_NoSign=some (dh h2 oN C_NoSign oT h3 (.ref Ct::dA) true h4 c9 h5 dc h6 h8 ih ij il iv "ValueError.__new__"))
  (e3:az K (.ref C_NoSign) "__setattr__"=some (some (.builtin "object.__setattr__")))
  (e4:az K (.ref C_NoSign) "__getattribute__"=some (some (.builtin "BaseException.__getattribute__")))
  (e5:az K (.ref C_NoSign) "__getattr__"=some none)
  (e6:az K (.ref C_NoSign) "__class__"=some (some (.builtin "object.__class__")))
  (m0:cU K (.ref C_NoSign)=true)
  (m1:az K (.ref C_NoSign) "__init__"=some (some (.builtin "ValueError.__init__")))
  (m2:bf K bh "NoDepth"=some (some (.ref C_NoDepth)))
  (m3:K.lookup C_NoDepth=some (dh i0 oW C_NoDepth o1 i1 (.ref Ct::dA) true i2 dd j0 di j1 j2 kb kd kg kh "ValueError.__new__"))
  (e7:az K (.ref C_NoDepth) "__setattr__"=some (some (.builtin "object.__setattr__")))
  (e8:az K (.ref C_NoDepth) "__getattribute__"=some (some (.builtin "BaseException.__getattribute__")))
  (e9:az K (.ref C_NoDepth) "__getattr__"=some none)
  (fi:az K (.ref C_NoDepth) "__class__"=some (some (.builtin "object.__class__")))
  (m4:cU K (.ref C_NoDepth)=true)
  (m6:az K (.ref C_NoDepth) "__init__"=some (some (.builtin "ValueError.__init__")))
  (na:bf K bh "NoNumber"=some (some (.ref C_NoNumber)))
  (nb:K.lookup C_NoNumber=some (dh ki o2 C_NoNumber o3 kj (.ref Ct::dA) true kk dk kl dm kn ks ku kv kw ky "ValueError.__new__"))
  (fk:az K (.ref C_NoNumber) "__setattr__"=some (some (.builtin "object.__setattr__")))
  (fl:az K (.ref C_NoNumber) "__getattribute__"=some (some (.builtin "BaseException.__getattribute__")))
  (fm:az K (.ref C_NoNumber) "__getattr__"=some none)
  (fn:az K (.ref C_NoNumber) "__class__"=some (some (.builtin "object.__class__")))
  (nf:cU K (.ref C_NoNumber)=true)
  (nj:az K (.ref C_NoNumber) "__init__"=some (some (.builtin "ValueError.__init__")))
  (nm:bf K bh "NoRight"=some (some (.ref C_NoRight)))
  (nn:K.lookup C_NoRight=some (dh kX o4 C_NoRight pa k0 (.ref Ct::dA) true k1 dn k2 dp k3 k5 k8 k9 la le "ValueError.__new__"))
  (fp:az K (.ref C_NoRight) "__setattr__"=some (some (.builtin "object.__setattr__")))
  (fq:az K (.ref C_NoRight) "__getattribute__"=some (some (.builtin "BaseException.__getattribute__")))
  (fr:az K (.ref C_NoRight) "__getattr__"=some none)
  (fv:az K (.ref C_NoRight) "__class__"=some (some (.builtin "object.__class__")))
  (no:cU K (.ref C_NoRight)=true)
  (np:az K (.ref C_NoRight) "__init__"=some (some (.builtin "ValueError.__init__")))
  (fw:bf K bh "TooWide"=some (some (.ref C_TooWide)))
  (fI:K.lookup C_TooWide=some (dh dr lf C_TooWide li ds (.ref Ct::dA) true dx b3 dy b4 dK dT dV d0 d1 d2 "ValueError.__new__"))
  (b6:az K (.ref C_TooWide) "__setattr__"=some (some (.builtin "object.__setattr__")))
  (b7:az K (.ref C_TooWide) "__getattribute__"=some (some (.builtin "BaseException.__getattribute__")))
  (b8:az K (.ref C_TooWide) "__getattr__"=some none)
  (b9:az K (.ref C_TooWide) "__class__"=some (some (.builtin "object.__class__")))
  (fN:cU K (.ref C_TooWide)=true)
  (fT:az K (.ref C_TooWide) "__init__"=some (some (.builtin "ValueError.__init__")))
  (nd:[Ct,Cx,C_NoTaker,C_NoTrial,C_NoWord,C_NoText,C_NoMatch,C_NoJoin,C_NoSign,C_NoDepth,C_NoNumber,C_NoRight,C_TooWide].Nodup)
  (H:bf K bh "ValueError"=some none)
  (fY:bf K bh "all"=some none)
  (f0:bf K bh "any"=some none)
  (cb:bf K bh "bool"=some none)
  (ce:bf K bh "dict"=some none)
  (ab:bf K bh "enumerate"=some none)
  (f1:bf K bh "int"=some none)
  (I:bf K bh "isinstance"=some none)
  (f2:bf K bh "len"=some none)
  (ch:bf K bh "list"=some none)
  (f3:bf K bh "max"=some none)
  (f4:bf K bh "min"=some none)
  (a9:bf K bh "range"=some none)
  (al:bf K bh "reversed"=some none)
  (f5:bf K bh "str"=some none)
  (f7:bf K bh "sum"=some none)
  (bd:bf K bh "tuple"=some none)
  (f9:bf K bh "zip"=some none)
  (a0:bf K bh "LETTERS"=some (some q))
  (a4:RelV (.str "abcdefghijklmnopqrstuvwxyz") q)
  (o:bf K bh "LONGEST_NAME"=some (some a))
  (p:RelV (.int 8) a)
  (J:bf K bh "MOST_WORDS"=some (some j))
  (L:RelV (.int 4) j)
  (M:bf K bh "MOST_ROOMS"=some (some m))
  (N:RelV (.int 150) m)
  (O:bf K bh "MOST_DOORS"=some (some n))
  (Q:RelV (.int 2000) n)
  (a5:bf K bh "DEEPEST"=some (some r))
  (a6:RelV (.int 4) r)
  (A:bf K bh "MOST_WITHIN"=some (some g))
  (B:RelV (.int 8) g)
  (D:bf K bh "MOST_TRIALS"=some (some i))
  (E:RelV (.int 1000) i)
  (bi:bf K bh "STILL"=some (some (.ref a_STILL)))
  (bl:K.lookup a_STILL=some t)
  (bm:t.cls=.type "tuple")
  (bn:t.data=.seq u a7)
  (bG:u.size<=ai)
  (bL:bj (cj.map V.str) u.toList)
  (ci:bf K bh "HUSH"=some (some (.ref a_HUSH)))
  (ck:K.lookup a_HUSH=some U)
  (cl:U.cls=.type "tuple")
  (cm:U.data=.seq Y b5)
  (cn:Y.size<=ai)
  (co:bj (n6.map V.str) Y.toList)
  (bN:bf K bh "BLAME"=some (some (.ref a_BLAME)))
  (bP:K.lookup a_BLAME=some x)
  (bT:x.cls=.type "tuple")
  (b0:x.data=.seq y a8)
  (b1:y.size<=ai)
  (b2:bj (cJ.map V.str) y.toList)
  (ga:bf K bh "END"=some (some (.ref a_END)))
  (gd:K.lookup a_END=some an)
  (ge:an.cls=.type "tuple")
  (gf:an.data=.seq as d3)
  (gi:as.size<=ai)
  (gl:bj (cu.map V.str) as.toList)
  (T:Ts K C Cx C_NoTaker C_NoTrial C_NoWord C_NoText C_NoMatch C_NoJoin C_NoSign C_NoDepth C_NoNumber C_NoRight C_TooWide)
 :∃fd:iw,(∀(s:Shared) (v:Value),nG s fd ⟨[v],[]⟩ [("script",v)])/\∀base:Heap,K.In base->base.Ns bh mg->i8 l.prog w K mg base CX0 17 fa fd ["script"] (sp_law29 K):=by
 have z:Zs mg:=⟨eB X G H,eB X G fY,eB X G f0,eB X G cb,eB X G ce,eB X G ab,eB X G f1,eB X G I,eB X G f2,eB X G ch,eB X G f3,eB X G f4,eB X G a9,eB X G al,eB X G f5,eB X G f7,eB X G bd,eB X G f9⟩;have c:Cs K mg C Cx Ct a_STILL a_HUSH a_BLAME a_END C_NoTaker C_NoTrial C_NoWord C_NoText C_NoMatch C_NoJoin C_NoSign C_NoDepth C_NoNumber C_NoRight C_TooWide:=⟨⟨_,bz X G a0,a4⟩,⟨_,bz X G o,p⟩,⟨_,bz X G J,L⟩,⟨_,bz X G M,N⟩,⟨_,bz X G O,Q⟩,⟨_,bz X G a5,a6⟩,⟨_,bz X G A,B⟩,⟨_,bz X G D,E⟩,⟨_,bz X G bi,rfl⟩,⟨_,bz X G ci,rfl⟩,⟨_,bz X G bN,rfl⟩,⟨_,bz X G ga,rfl⟩,sH bl bm bn bG bL,sH ck cl cm cn co,sH bP bT b0 b1 b2,sH gd ge gf gi gl,⟨⟨pg,hd,po,sa⟩,pl,pm,pn,pr,ps,pu,pw,px⟩,bz X G aC,mk,kc,⟨⟨⟨_,_,_,_,_,_,_,_,_,_,_,_,_,_,_,xo,.own .base⟩,lj,ll,lq⟩,xp,xn,KJ py pz p0 p1⟩,⟨p2,p3,p4⟩,bz X G aX,bz X G aT,kx,⟨⟨_,_,_,_,_,_,_,_,_,_,_,_,_,_,qo⟩⟩,⟨p6,qn⟩,⟨bz X G aX,⟨⟨_,_,_,_,_,_,_,_,_,_,_,_,_,_,xo⟩⟩,lj,ll,lq,kx,p5⟩,nd,⟨bz X G ls,⟨⟨_,_,_,_,_,_,_,_,_,_,_,_,_,_,lv⟩⟩,d5,d8,ea,lw,eb⟩,ec,ed,⟨bz X G lx,⟨⟨_,_,_,_,_,_,_,_,_,_,_,_,_,_,ly⟩⟩,ee,ef,ej,l0,ek⟩,el,⟨bz X G l1,⟨⟨_,_,_,_,_,_,_,_,_,_,_,_,_,_,l2⟩⟩,em,en,ep,l3,er⟩,es,⟨bz X G l4,⟨⟨_,_,_,_,_,_,_,_,_,_,_,_,_,_,l5⟩⟩,et,eu,ev,l8,ew⟩,ey,⟨bz X G mb,⟨⟨_,_,_,_,_,_,_,_,_,_,_,_,_,_,mc⟩⟩,ez,eC,eH,mm,eL⟩,mo,⟨bz X G mp,⟨⟨_,_,_,_,_,_,_,_,_,_,_,_,_,_,ms⟩⟩,eT,eY,e1,mu,e2⟩,mA,⟨bz X G mP,⟨⟨_,_,_,_,_,_,_,_,_,_,_,_,_,_,mX⟩⟩,e3,e4,e5,m0,e6⟩,m1,⟨bz X G m2,⟨⟨_,_,_,_,_,_,_,_,_,_,_,_,_,_,m3⟩⟩,e7,e8,e9,m4,fi⟩,m6,⟨bz X G na,⟨⟨_,_,_,_,_,_,_,_,_,_,_,_,_,_,nb⟩⟩,fk,fl,fm,nf,fn⟩,nj,⟨bz X G nm,⟨⟨_,_,_,_,_,_,_,_,_,_,_,_,_,_,nn⟩⟩,fp,fq,fr,no,fv⟩,np,⟨bz X G fw,⟨⟨_,_,_,_,_,_,_,_,_,_,_,_,_,_,fI⟩⟩,b6,b7,b8,fN,b9⟩,fT⟩;obtain⟨f,fd,e,b,k⟩:=KC (P:=l.prog) (w:=w) X G z c T;have e0:=pe.symm.trans e;cases e0;exact⟨fd,b,fun base _ _=>k base⟩
end
end Mum
namespace PySem.W.Fast
def tw18326090389751625675:=0
def tw7065349962290634472:=0
def tw1702510281334357622:=0
def tw12537390029373077809:=0
def tw1049492617167265965:=0
def tw8421556375041093204:=0
def tw3779562735318601550:=0
def tw2173378148411975894:=0
def tw5430266333090126146:=0
def tw5255174609439355283:=0
def tw6059502029273921115:=0
def tw2926530968563195527:=0
def tw5606540029642187927:=0
def tw2226471824380804186:=0
def tw13886362422485822765:=0
def tw11567588235077287713:=0
def tw3934520160709019648:=0
def tw4008622083512045855:=0
def tw3606589778494309682:=0
def tw15900339575532829639:=0
def tw672896295299014678:=0
def tw9012480874325337033:=0
def tw2335298669275423938:=0
def tw13679081644843422511:=0
def tw3756873216921092491:=0
def tw7423565961750893896:=0
def tw1677107883691510263:=0
def tw9687706445084811341:=0
def tw1518859658801392146:=0
def tw15421077077415159007:=0
def tw10130627166297087541:=0
def tw8630771896657188645:=0
def tw2491024753622216275:=0
def tw10971770221157882603:=0
def tw2739410934946460617:=0
def tw5757682491606382784:=0
def tw8579646839916966051:=0
def tw12622328092575629284:=0
def tw303716956603483792:=0
def tw3107408793156359961:=0
def tw13668367252531348007:=0
def tw5898545850574521800:=0
def tw2715302442665536858:=0
def tw5750796311257769088:=0
def tw14288071605807908707:=0
def tw16157793400283706059:=0
def tw2850522688462280000:=0
def tw423227187410349551:=0
def tw11083722267005646114:=0
def tw7049307216119780950:=0
def tw12308404549344774668:=0
def tw3159066436806763580:=0
def tw12293182762459753881:=0
def tw7604882176119638368:=0
def tw7484920247218916174:=0
def tw6054553414819700744:=0
def tw487301523433783493:=0
def tw14335967944521699823:=0
def tw8148831867175043139:=0
def tw6482014626731042698:=0
def tw1932525094251371343:=0
def tw4801535453135445677:=0
def tw4917261443277600364:=0
def tw8929448468490070903:=0
def tw4422750384018770776:=0
def tw8005944970123196365:=0
def tw9895339100057446975:=0
def tw4710162932933194822:=0
def tw2024624605256457272:=0
def tw17139497118423412360:=0
def tw4465511795468788031:=0
def tw5180817761339303549:=0
def tw12326447566367057056:=0
def tw8105373556058895586:=0
def tw14102973218157329915:=0
def tw12665728822361140560:=0
def tw8648246541397113462:=0
def tw15538805919542210809:=0
def tw7244152503308770111:=0
def tw2859454104774867040:=0
def tw1553632949838054294:=0
def tw17545780063846975900:=0
def tw6006265711291798956:=0
def tw9406327523108559183:=0
def tw6820577139238217250:=0
def tw7363492255390973170:=0
def tw11855485557005678869:=0
def tw9889256925163952640:=0
def tw13681750646620135962:=0
def tw13438376943914083613:=0
def tw17347281701662179367:=0
def tw14545075387891804562:=0
def tw12982244755422810680:=0
def tw13959373066231989707:=0
def tw9499816612301724403:=0
def tw12132924074114359678:=0
def tw8111884839518243229:=0
def tw17452241557478071539:=0
def tw11880510563730718596:=0
def tw2367223263672701610:=0
def tw10501313994345631344:=0
def tw9756493569860013412:=0
def tw17555221349336853564:=0
def tw6841289825507833674:=0
def tw9874072203104934307:=0
def tw7354769066050907540:=0
def tw13911662663614640305:=0
def tw2441098361579595647:=0
def tw10828689913154843011:=0
def tw12440070919872431095:=0
def tw14302212929652606739:=0
def tw14991425916987352746:=0
def tw17802955149677619119:=0
def tw8848842177934963531:=0
def tw18141013109561216597:=0
def tw5009856709603250942:=0
def tw8899664849983818760:=0
def tw16336640015717051484:=0
def tw8089599836184450326:=0
def tw18134177292282093986:=0
def tw17299416166668056801:=0
def tw10174293497148400372:=0
def tw14432505560843634085:=0
def tw10931472926647788667:=0
def tw9057170202739424304:=0
def tw14436972970007441526:=0
def tw9439135609582476337:=0
def tw10153869275350299721:=0
def tw12735467129721259589:=0
def tw17881810899527689005:=0
def tw15398147095842050229:=0
def tw896765618176057815:=0
def tw8868604616165376494:=0
def tw13252519398986485820:=0
def tw9476897253606983838:=0
def tw13448449231558437761:=0
def tw18134156397505860467:=0
def tw6044744219571539620:=0
def tw5743747795245589399:=0
def tw8033131242491110028:=0
def tw4578869832008269968:=0
def tw13980614508737000799:=0
def tw13830084031568004065:=0
def tw17199980581679763947:=0
def tw8755185342734357819:=0
def tw14994281672982743214:=0
def tw13842213133258692192:=0
def tw5170492825053046563:=0
def tw8749884007185807072:=0
def tw13014791763692802433:=0
def tw18277591083621284520:=0
def tw7005640385913631671:=0
def tw8075421389277051763:=0
def tw14625217282239376910:=0
def tw1112181293284752677:=0
def tw250964594375894524:=0
def tw14082290571424002564:=0
def tw10115086426782063615:=0
def tw9842369369913519169:=0
def tw11474240725610180614:=0
def tw15347711829928272776:=0
def tw3554473478532181256:=0
def tw14043390094944960232:=0
def tw506130882297484856:=0
def tw3817542004145732899:=0
def tw6223056039257097611:=0
def tw11432968948743239615:=0
def tw10246479488172142077:=0
def tw10065758037020331773:=0
def tw17047760725213930932:=0
def tw6745362216009933583:=0
def tw4466390930598057542:=0
def tw11957448366782209373:=0
def tw10642789625478393608:=0
def tw11308521437607669631:=0
def tw6856048795519297387:=0
def tw983482105725513710:=0
def tw4342013594850255005:=0
def tw16465370479119059161:=0
def tw5136419040793351455:=0
def tw2441728769666636276:=0
def tw9802291176510546166:=0
def tw9771500226123737756:=0
def tw13930392701110434790:=0
def tw12731373028871157349:=0
def tw1796839296411053570:=0
def tw838676754749897802:=0
def tw946386544071788178:=0
def tw1347534244812026133:=0
def tw1892578009006501575:=0
def tw8948497686411853045:=0
def tw11292232837613823914:=0
def tw6747627259326131893:=0
def tw4099610344227331134:=0
def tw11112835226235874518:=0
def tw11025676915359622843:=0
def tw17184983095221872395:=0
def tw16288108135931332124:=0
def tw13328938227850357476:=0
def tw2496923763032243851:=0
def tw1419283018538243245:=0
def tw6975957445873644309:=0
def tw12544893003619175021:=0
def tw15317715732680445862:=0
def tw6927934061005981621:=0
def tw8368545636523541055:=0
def tw6759087818500208271:=0
def tw17240339315302006923:=0
def tw2029647955945839029:=0
def tw8029368421002599518:=0
def tw8224082201612700114:=0
def tw7980946362070568118:=0
def tw10846810699747907666:=0
def tw5823155540697008795:=0
def tw8750743622694387308:=0
def tw9317793601364819427:=0
def tw3263348840381832411:=0
def tw5564323383229653888:=0
def tw16997611477063801289:=0
def tw5323248189852369346:=0
def tw517775690144273332:=0
def tw6382653279351324512:=0
def tw15778110848632557640:=0
def tw7140933869818826281:=0
def tw11578550537554856374:=0
def tw8834884505416444736:=0
def tw2396394526893883802:=0
def tw3708176228249569331:=0
def tw7253868311083747181:=0
def tw12155011076681980057:=0
def tw10441654392589509609:=0
def tw9995656655179331031:=0
def tw18360068626110083816:=0
def tw17155111105963485088:=0
def tw15594103925432845847:=0
def tw2419854464176104525:=0
def tw15383370567549846139:=0
def tw9772115412297718719:=0
def tw667917637892852690:=0
def tw6131978512456235861:=0
def tw6973192910663514509:=0
def tw18270260951240642063:=0
def tw4314284232503523943:=0
def tw2411442701482510580:=0
def tw10817730941377673625:=0
def tw2747853601479611722:=0
def tw7416823716226766883:=0
def tw600962998529212573:=0
def tw12587608888996061967:=0
def tw17593267156639709465:=0
def tw8384125753407708838:=0
def tw7168623909542398967:=0
def tw4912705847581995963:=0
def tw16635373258076027478:=0
def tw10845182266569576043:=0
def tw10593499712462900488:=0
def tw13458494178151909989:=0
def tw723817269361135926:=0
def tw5612476761119449571:=0
def tw4293027432279565893:=0
def tw16360998306990734870:=0
def tw13628456071681443627:=0
def tw6776054979770391621:=0
def tw7484984458147106451:=0
def tw18318826708623722231:=0
def tw1571520108716271420:=0
def tw7006966757974622666:=0
def tw816549556482558530:=0
def tw15125950403393861628:=0
def tw1913245842070891613:=0
def tw8295319353275462305:=0
def tw1606426001419578738:=0
def tw9253837035338456075:=0
def tw13242910318811413336:=0
def tw5615876328693677266:=0
def tw15618197233154060629:=0
def tw18126232443408848345:=0
def tw18042307641740621495:=0
def tw16981085760735965787:=0
def tw18154152711173112981:=0
def tw5449110319288691251:=0
def tw10385420001150721152:=0
def tw6993024512121040056:=0
def tw16737855265601969445:=0
def tw3482643981101592308:=0
def tw13576233096227904617:=0
def tw5127279098205432391:=0
def tw6476248261934509415:=0
def tw9165251028331042050:=0
def tw9101008014427215567:=0
def tw3955169048047463117:=0
def tw9817805082045771578:=0
def tw4829740320253824207:=0
def tw16394045810620658382:=0
def tw12006225570812646385:=0
def tw10336866794462406577:=0
def tw905311587014314170:=0
def tw16639518936174931764:=0
def tw15786356944123713892:=0
def tw10382099507844739126:=0
def tw18070410842963511134:=0
def tw1052734247301529594:=0
def tw15963750485594630191:=0
def tw11379686797673607025:=0
def tw9972994327186958519:=0
def tw8695955972202526811:=0
def tw12355846746549362363:=0
def tw3160937146005305328:=0
def tw9026362552309272162:=0
def tw6409846040341420826:=0
def tw12474628899230806169:=0
def tw13261423337750965547:=0
def tw11373356728476395480:=0
def tw14771454244646521608:=0
def tw4339573922494723476:=0
def tw15356080486909176013:=0
def tw11566676727843497484:=0
def tw17364706855422509167:=0
def tw9711262329372044556:=0
def tw13579855292675589456:=0
def tw10637775163144613912:=0
def tw9977899541842445245:=0
def tw11464767003243896902:=0
def tw12688355551968268920:=0
def tw3458370183851302681:=0
def tw18337058701797500122:=0
def tw6494857608575995411:=0
def tw8616949564443315988:=0
def tw3882509272510814178:=0
def tw13472218045066224534:=0
def tw14220622756484196859:=0
def tw12421075644394486726:=0
def tw4602853440211095841:=0
def tw967913351795641818:=0
def tw1518436448472868363:=0
def tw8137966262736575929:=0
def tw15386866991467277429:=0
def tw9408863042090533673:=0
def tw2271865486385274364:=0
def tw3913263781288413145:=0
def tw9322455547189806858:=0
def tw16942173753674727040:=0
def tw11881215952258302567:=0
def tw11614411546259908297:=0
def tw2693878751856228096:=0
def tw15836714320691609283:=0
def tw12422199450121115320:=0
def tw12943741475564727576:=0
def tw8817685051392290423:=0
def tw12538880885482468501:=0
def tw14951974042887867655:=0
def tw2407394853484694541:=0
def tw11428705462287909434:=0
def tw12835510748379936388:=0
def tw14358397557821664688:=0
def tw15512035660196470778:=0
def tw6874182639278384445:=0
def tw8900387705896816312:=0
def tw15013350975668745956:=0
def tw2145484194623894140:=0
def tw12629754076929056995:=0
def tw15658861197690343717:=0
def tw9637283899432016549:=0
def tw6257368328281448075:=0
def tw9418458685734684221:=0
def tw10052762008420947330:=0
def tw7628803572488350716:=0
def tw14195647080679831477:=0
def tw7779331113445885253:=0
def tw12043577112338463923:=0
def tw1333855141796563729:=0
def tw12784052964558001784:=0
def tw13661975296567911810:=0
def tw13492908380325852164:=0
def tw13636843962663957563:=0
def tw8748214858581541852:=0
def tw10238284947248182541:=0
def tw7534345345406806590:=0
def tw7576319285769167028:=0
def tw9920734659243665875:=0
def tw4412294780495939935:=0
def tw4498993711623950367:=0
def tw9818261612660779009:=0
def tw12083195966191711958:=0
def tw7994351413935111584:=0
def tw14378979438357353984:=0
def tw9479647091649427973:=0
def tw13117522749968546509:=0
def tw3255874565172319590:=0
def tw15616727177906551144:=0
def tw7538913987775819596:=0
def tw5512770266770948724:=0
def tw16289899267197528774:=0
def tw18013937991654148315:=0
def tw14901367078248986138:=0
def tw16301255627449272214:=0
def tw11229684499578377051:=0
def tw18387592702021772629:=0
def tw4433905365760606181:=0
def tw2181638642077667654:=0
end PySem.W.Fast
open PySem PySem.W PyProof.Rows
set_option maxRecDepth 100000 in
set_option maxHeartbeats 0 in
theorem PySem.Challenge.cw_mumtrial_k29_trials_or_not_holds : PySem.Challenge.rw_mumtrial_k29_trials_or_not.Holds := by
 w_on;o_law;k_head;(case hw=>w_witness2)
 k_fill
 refine L2.walk_ofK (l:=PySem.Challenge.rw_mumtrial_k29_trials_or_not) (n:=63) (k:=17) (x:="script") (CX:=L2.CX0) (sp:=Mum.sp_law29) rfl (by decide) rfl ⟨rfl,by decide,by decide⟩ (fun w h Y=>PySem.W.kIn_of Y) ?F (fun _ _ a ns hl _ hS=>⟨a,ns,rfl,hS,hl,fun _=>rfl⟩) (fun _ _ _ _ z=>z)
 case F =>
  intro w mg fa h KX G hmg;refine' Mum.all_mk KX G hmg ?aC ?pg ?hd ?po ?sa ?mk ?kc ?na1 ?na2 ?na3 ?na4 ?na5 ?na6 ?na7 ?na8 ?aX ?aT ?xo ?xsa ?xga ?xgx ?xp ?xn ?xs1 ?xs2 ?xs3 ?xs4 ?xrd ?xfi ?xgt ?kx ?xcl ?xgn ?xgk ?xoT ?aXY0 ?xoY0 ?xsaY0 ?xgaY0 ?xgxY0 ?xclY0 ?kxY0 ?xf0Y0 ?xf1Y0 ?aXY1 ?xoY1 ?xsaY1 ?xgaY1 ?xgxY1 ?xclY1 ?kxY1 ?xf0Y1 ?aXY2 ?xoY2 ?xsaY2 ?xgaY2 ?xgxY2 ?xclY2 ?kxY2 ?xf0Y2 ?aXY3 ?xoY3 ?xsaY3 ?xgaY3 ?xgxY3 ?xclY3 ?kxY3 ?xf0Y3 ?aXY4 ?xoY4 ?xsaY4 ?xgaY4 ?xgxY4 ?xclY4 ?kxY4 ?xiY4 ?aXY5 ?xoY5 ?xsaY5 ?xgaY5 ?xgxY5 ?xclY5 ?kxY5 ?xiY5 ?aXY6 ?xoY6 ?xsaY6 ?xgaY6 ?xgxY6 ?xclY6 ?kxY6 ?xiY6 ?aXY7 ?xoY7 ?xsaY7 ?xgaY7 ?xgxY7 ?xclY7 ?kxY7 ?xiY7 ?aXY8 ?xoY8 ?xsaY8 ?xgaY8 ?xgxY8 ?xclY8 ?kxY8 ?xiY8 ?aXY9 ?xoY9 ?xsaY9 ?xgaY9 ?xgxY9 ?xclY9 ?kxY9 ?xiY9 ?aXY10 ?xoY10 ?xsaY10 ?xgaY10 ?xgxY10 ?xclY10 ?kxY10 ?xiY10 ?nd ?z_ValueError ?z_all ?z_any ?z_bool ?z_dict ?z_enumerate ?z_int ?z_isinstance ?z_len ?z_list ?z_max ?z_min ?z_range ?z_reversed ?z_str ?z_sum ?z_tuple ?z_zip ?g_LETTERS ?r_LETTERS ?g_LONGEST_NAME ?r_LONGEST_NAME ?g_MOST_WORDS ?r_MOST_WORDS ?g_MOST_ROOMS ?r_MOST_ROOMS ?g_MOST_DOORS ?r_MOST_DOORS ?g_DEEPEST ?r_DEEPEST ?g_MOST_WITHIN ?r_MOST_WITHIN ?g_MOST_TRIALS ?r_MOST_TRIALS ?g_STILL ?l_STILL ?c_STILL ?d_STILL ?s_STILL ?v_STILL ?g_HUSH ?l_HUSH ?c_HUSH ?d_HUSH ?s_HUSH ?v_HUSH ?g_BLAME ?l_BLAME ?c_BLAME ?d_BLAME ?s_BLAME ?v_BLAME ?g_END ?l_END ?c_END ?d_END ?s_END ?v_END ?T
  (case aC|pg|hd|po|sa|mk|kc|na1|na2|na3|na4|na5|na6|na7|na8|aX|aT|xo|xsa|xga|xgx|xp|xn|xs1|xs2|xs3|xs4|xrd|xfi|xgt|kx|xcl|xgn|xgk|xoT|aXY0|xoY0|xsaY0|xgaY0|xgxY0|xclY0|kxY0|xf0Y0|xf1Y0|aXY1|xoY1|xsaY1|xgaY1|xgxY1|xclY1|kxY1|xf0Y1|aXY2|xoY2|xsaY2|xgaY2|xgxY2|xclY2|kxY2|xf0Y2|aXY3|xoY3|xsaY3|xgaY3|xgxY3|xclY3|kxY3|xf0Y3|aXY4|xoY4|xsaY4|xgaY4|xgxY4|xclY4|kxY4|xiY4|aXY5|xoY5|xsaY5|xgaY5|xgxY5|xclY5|kxY5|xiY5|aXY6|xoY6|xsaY6|xgaY6|xgxY6|xclY6|kxY6|xiY6|aXY7|xoY7|xsaY7|xgaY7|xgxY7|xclY7|kxY7|xiY7|aXY8|xoY8|xsaY8|xgaY8|xgxY8|xclY8|kxY8|xiY8|aXY9|xoY9|xsaY9|xgaY9|xgxY9|xclY9|kxY9|xiY9|aXY10|xoY10|xsaY10|xgaY10|xgxY10|xclY10|kxY10|xiY10=>k_is)
  (case nd=>decide)
  (case z_ValueError|z_all|z_any|z_bool|z_dict|z_enumerate|z_int|z_isinstance|z_len|z_list|z_max|z_min|z_range|z_reversed|z_str|z_sum|z_tuple|z_zip|g_LETTERS=>k_is)
  (case r_LETTERS=>exact⟨_,rfl⟩)
  (case g_LONGEST_NAME=>k_is)
  (case r_LONGEST_NAME=>exact⟨_,rfl⟩)
  (case g_MOST_WORDS=>k_is)
  (case r_MOST_WORDS=>exact⟨_,rfl⟩)
  (case g_MOST_ROOMS=>k_is)
  (case r_MOST_ROOMS=>exact⟨_,rfl⟩)
  (case g_MOST_DOORS=>k_is)
  (case r_MOST_DOORS=>exact⟨_,rfl⟩)
  (case g_DEEPEST=>k_is)
  (case r_DEEPEST=>exact⟨_,rfl⟩)
  (case g_MOST_WITHIN=>k_is)
  (case r_MOST_WITHIN=>exact⟨_,rfl⟩)
  (case g_MOST_TRIALS=>k_is)
  (case r_MOST_TRIALS=>exact⟨_,rfl⟩)
  (case g_STILL|l_STILL=>k_is)
  (case c_STILL|d_STILL=>rfl)
  (case s_STILL=>decide)
  (case v_STILL=>exact .cons ⟨_,rfl⟩ .nil)
  (case g_HUSH|l_HUSH=>k_is)
  (case c_HUSH|d_HUSH=>rfl)
  (case s_HUSH=>decide)
  (case v_HUSH=>exact .cons ⟨_,rfl⟩ .nil)
  (case g_BLAME|l_BLAME=>k_is)
  (case c_BLAME|d_BLAME=>rfl)
  (case s_BLAME=>decide)
  (case v_BLAME=>exact .cons ⟨_,rfl⟩ .nil)
  (case g_END|l_END=>k_is)
  (case c_END|d_END=>rfl)
  (case s_END=>decide)
  (case v_END=>exact .cons ⟨_,rfl⟩ .nil)
  (case T=>constructor<;>first|(refine' Mum.fnG_mk ?a ?l ?c ?k;(case a=>k_is);(case l=>k_is);(case c=>k_is);(case k=>k_is))|(refine' Mum.fnM_mk ?a ?i ?l ?c ?k;(case a=>k_is);(case i=>k_is);(case l=>k_is);(case c=>k_is);(case k=>k_is)))
