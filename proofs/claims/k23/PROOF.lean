
import PyProof.Rows.All
import Wide.All
import OpenK.AllK
import Wide.FinOn
import Lean
import PyProof.EqAt
import PyProof.EqKinds
import PyProof.TupleCall
import PyProof.NeKinds
import PyProof.DictIter
import PyProof.DictWalks
import PyProof.RaisesMany
import PyProof.RulesAs
import PyProof.NsDelKeeps
import PyProof.InstStoreFacts
import PyProof.ExcClass3
import PyProof.ExcInit
import KE.KTryMore
import PyProof.AutoSeq1
import PyProof.WalkInts
import PyProof.DictItems
import PyProof.DictItemsLoops
import KE.KPairComp
import PyProof.DictValues
import PyProof.SumAny
import PySem.Challenge.RW_mumtrial_k23_papers_told
noncomputable section
open PySem renaming Program->bT,reduceHash->Ej,wpAny_mono->oO,wpAny_bind->am,wpAny_specialOf->Ga,wpAny_call_entry->pX,wpAny_pure->aD,wpAny_rule->q_,Builtin->cy,wpAny_isInstance->yO,wpAny_holding->lg,wpAny_truthy_bool->sH,wpAny_seqItems->nh,sizeLine->ai,sysModules->gE,mainGlobals->ck,bootBuiltins->kP,starEach->aN,compareOp->eZ,behindInMarks->kO,standAt->qX,holding->k9,wpAny_execs_nil->BV,swapsWith->qW,assignEach->vD,wpAny_standAt->BU,wpAny_passesOwn->sr,letOwnedTupleGo->BT,wpAny_pyIter_list->yN,wpAny_pyIter_tuple->BR,foldedSetIterable->yM,binaryOp->qV,sizeLine_eq->k7,getMethod->qU,codeAny->zzl79,attributeBase->sk,FuncData->k5,BindsTo->sj,codeAny_mono->BL,wpAny_Call_Name_kw->BK,callWith->vB,backToKw->oJ,keywordEach->oI,NameKind->jJ,mem_of_lookup->sV,getItem->nH,seqIndex?->xb,subscripted->xa,sliceBounds->nG,slicePick->w8,Keyword->qe,call_meets->nF,valueAt->nD,call_meetsIn->sQ,callerA->lr,DictEntry->jv,wpAny_newObj_type->ju,ZipApart->p_,wpAny_pyIter_zip->wT,wpAny_callSpecial?_slot->lm,wpAny_field->fb,wpAny_setField->sM,firstArgMember->p9,wpAny_setField_rec->iT,wpAny_onRaise->wP,wpAny_letGo->wO,wpAny_attempt->p8,sliceRange->sL,wpAny_dictEntries->nC,wpAny_notOrdered_dict->wH,IsItemIter->iS,wpAny_dictEpoch->p7,wpAny_typeNameOfWhole_itemiter->wE,wpAny_typeNameOf_itemiter->wD,wpAny_fieldsOf->wC,setField->wB,wpAny_typeNameOfWhole_keyiter->wA,wpAny_typeNameOf_keyiter->wz
open PySem.Builtin.Tuple renaming tupleHashOf->Am
open Bool renaming false_ne_true->fP,not_true->BW,false_eq_true->lp,false_and->BS,eq_iff_iff->so,and_false->wZ,and_eq_true->sO,true_and->sA
open Nat renaming add_assoc->F_,le_refl->aB,lt_of_lt_of_le->iP,lt_irrefl->qY,ne_of_lt->de,le_trans->bG,le_of_lt->fk,ne_of_gt->gD,zero_le->db,le_succ->si,min_eq_left->ww,mod_lt->sC,lt_or_ge->iR,eq_zero_or_pos->wr,zero_add->wo,mul_le_mul->sv
open List renaming append_nil->dI,range->iO,mem_filter->bF,filterMap_cons->vE,mem_cons_self->dO,mem_cons_of_mem->eI,mem_cons->cO,mem_append->bd,mem_append_left->cj,getElem?_eq_some_iff->cG,mem_append_right->cD,length_cons->d4,lookup->kN,map_cons->bN,length_map->aj,nodup_cons->jx,length_take->aE,getElem?_append_right->nJ,getElem?_append_left->fe,getElem?_map->bZ,mem_of_getElem?->ba,length_append->aL,length_drop->fR,size_toArray->bL,reverse_cons->w6,length_reverse->wY,find?_cons->lA,any_cons->nE,length_nil->wX,nodup_nil->qd,lookup_cons->iU,forIn_cons->qa,all_eq_true->wU,mem_map->ax,not_mem_nil->sN,getElem?_eq_none->fQ,any_toArray->wL,map_congr_left->wK,length_range->sJ,drop_zero->sI,take_length->aT,getElem?_eq_getElem->bY,all_map->wI,mem_singleton->aX,map_append->aw,nodup_append->cP,drop_of_length_le->wG,map_take->nB,map_drop->wx,foldl_cons->sD,mem_of_mem_take->fC,append_assoc->dH,nodup_iff_pairwise_ne->pZ,map_map->pY,mem_map_of_mem->j9,getElem_mem->lb,getElem?_of_mem->ii,take_append_drop->sB,foldl_append->k_,take_zero->sy,length_filter_le->dP,filter_append->sw,flatMap_append->wv,mem_flatMap->jr,filter_congr->wu,getD_eq_getElem?_getD->eJ,getElem_of_mem->wq,flatMap_cons->nA
open Option.some renaming inj->e_
open PySem.W renaming instObj->qZ,lookIn->BP,plainGet->vC,hasDictIn->yL,findIn->dF,isFn->yJ,plainOver->BO,makesIn->sm,emptyDict->oM,keepIn->iN,kitOne->BN,kia_one->jK,fnOf->iV,codeIn->nI,nsIn->cH,mg_of->ig,mg_none_of->ie
open PySem.Heap renaming lt_size->be,SameBut->fG,get?_push_of_some->bw,get?_push_size->cF,size_push->oK,get?_update_self->w_
open PyProof.Rows renaming AllBare->oN,callWith_type1->BQ,Subscript_->xf,subscriptTail->xc,IntsAre->sP
open Ne renaming symm->dB
open Array renaming length_toList->ng
open False renaming elim->jL
open True renaming intro->je
open PySem.Calls renaming spliced_cons->BM,callWith_builtin->sT
open Option renaming isSome_iff_exists->xg,map_some->sS,isSome_map->sR,map_eq_some_iff->su
open Int renaming toNat_natCast->jw,emod_nonneg->p6,emod_lt_of_pos->p5,eq_ofNat_of_zero_le->js
open PySem.Obj renaming mapSeq->sU,data_mapFields->wR
open PySem.Paired renaming snoc->dv
open PySem.F renaming slot_dict_get->qb,entry_dict_get->wW,slot_tuple_iterator_next->wS,slot_zip_next->wN,slot_dict_itemiterator_next->sF,slot_dict_keyiterator_next->sE,plainAttrs_list->dq,slot_list_append->fB,type_list_append->fA
open ForInStep renaming yield->wV
open PySem.NameKind renaming free->lq
open PySem.Builtin.SmallTypes renaming nextOf->ln,ownedTupleIsFree->wQ
open PySem.Str renaming ofString->lh
open PySem.Heap.SameBut renaming update->lc
open Classical renaming byContradiction->wM,propDecidable->wt,not_not->iQ
open PySem.SeqAt renaming EqAt->bA
open PySem.Builtin.Str renaming strSliceIndices->sK
open PySem.Txt renaming join->wJ
open PySem.Builtin.Dict renaming showsAll->wF
open PySem.Builtin.Dict_items renaming ownsTuple->sG
open PySem.PassesOwn renaming never->bh
theorem Q0:0<=PySem.sizeLine:=by decide
theorem Q1:1<=PySem.sizeLine:=by decide
theorem Q2:2<=PySem.sizeLine:=by decide
theorem Q3:3<=PySem.sizeLine:=by decide
theorem Q4:4<=PySem.sizeLine:=by decide
theorem Q6:6<=PySem.sizeLine:=by decide
theorem zzr0{p:Prop}[Decidable p](h:¬p):decide p=false:=decide_eq_false h
theorem zzr1{p:Prop}[Decidable p](h:p):decide p=true:=decide_eq_true h
abbrev Za:=PySem.W.Frag
abbrev Zb:=List PySem.Str
abbrev Zc:=PySem.Value->PySem.Shared->Prop
abbrev Zd:=List (PySem.Addr×PySem.Obj)
abbrev Ze:=List PySem.Addr
abbrev Zf:=List PySem.Value
section
set_option Elab.async false
set_option linter.all false
set_option maxRecDepth 100000
set_option maxHeartbeats 4000000
namespace L2
open PySem PySem.Spec PyProof.Rows
open Sem (wp)
abbrev eX:=Sum Int Str
def dD:eX->Value->Bool
 |.inl k,v=>Value.isInt k v
 |.inr x,v=>Value.isStrOf x v
def IF(w:World):eX->Int
 |.inl k=>hashInt k
 |.inr x=>hashStr w x
theorem aA:∀{k:eX}{v:Value},dD k v=true->(∃i t,k=Sum.inl i/\v=Value.int i t)∨(∃x t,k=Sum.inr x/\v=Value.str x t)
 |.inl i,v,h=>by
  obtain⟨t,e⟩:=Value.isInt_shape (k:=i) (v:=v) h;exact .inl ⟨i,t,rfl,e⟩
 |.inr x,v,h=>by
  obtain⟨t,e⟩:=Value.isStrOf_shape (x:=x) (v:=v) h;exact .inr ⟨x,t,rfl,e⟩
theorem mH(i:Int)(t:Tok):dD (.inl i) (.int i t)=true:=by simp[dD,Value.isInt]
theorem mG(x:Str)(t:Tok):dD (.inr x) (.str x t)=true:=by simp[dD,Value.isStrOf]
theorem xZ(a b:Int):decide ((Sum.inl a:eX)=Sum.inl b)=(a==b):=by
 by_cases e:a=b
 ·subst e;simp
 ·have h:¬(Sum.inl a:eX)=Sum.inl b:=fun q=>e (Sum.inl.inj q);rw[zzr0 h];exact(beq_eq_false_iff_ne.mpr e).symm
theorem xW(a b:Str):decide ((Sum.inr a:eX)=Sum.inr b)=decide (a=b):=by
 by_cases e:a=b
 ·subst e;simp
 ·have h:¬(Sum.inr a:eX)=Sum.inr b:=fun q=>e (Sum.inr.inj q);rw[zzr0 h,zzr0 e]
theorem xY(a:Int)(b:Str):decide ((Sum.inl a:eX)=Sum.inr b)=false:=zzr0 (fun q=>nomatch q)
theorem xX(a:Str)(b:Int):decide ((Sum.inr a:eX)=Sum.inl b)=false:=zzr0 (fun q=>nomatch q)
def cA(prog:bT)(w:World):PySem.KeyKind prog w eX where
 is:=dD
 hash:=IF w
 inj:=fun v a b ha hb=>by
  rcases aA ha with⟨i,t,rfl,rfl⟩|⟨x,t,rfl,rfl⟩
  ·rcases aA hb with⟨j,u,rfl,e⟩|⟨y,u,rfl,e⟩
   ·injection e with e1 _;rw[e1]
   ·exact nomatch e
  ·rcases aA hb with⟨j,u,rfl,e⟩|⟨y,u,rfl,e⟩
   ·exact nomatch e
   ·injection e with e1 _;rw[e1]
 byValue:=fun k v h=>by
  rcases aA h with⟨i,t,rfl,rfl⟩|⟨x,t,rfl,rfl⟩<;>rfl
 pyHash:=fun hv h=>by
  rcases aA hv with⟨i,t,rfl,rfl⟩|⟨x,t,rfl,rfl⟩
  ·exact wpAny_pyHash_int h
  ·exact wpAny_pyHash_str h
 eqBool:=fun hu hv h=>by
  rcases aA hu with⟨i,t,rfl,rfl⟩|⟨x,t,rfl,rfl⟩
  ·rcases aA hv with⟨j,u,rfl,rfl⟩|⟨y,u,rfl,rfl⟩
   ·rw[xZ]at h;exact wpAny_eqBool_int h
   ·rw[xY]at h;exact bA.int_str i t y u _ _ _ _ h
  ·rcases aA hv with⟨j,u,rfl,rfl⟩|⟨y,u,rfl,rfl⟩
   ·rw[xX]at h;exact bA.str_int x t j u _ _ _ _ h
   ·rw[xW]at h;exact wpAny_eqBool_str h
 «strs»:=fun k x t v h=>by
  rcases aA h with⟨i,u,rfl,e⟩|⟨y,u,rfl,e⟩
  ·exact nomatch e
  ·injection e with e1 _;subst e1;cases v<;>rfl
theorem zO(prog:bT)(w:World)(i:Int)(t:Tok):(cA prog w).is (.inl i) (.int i t)=true:=mH i t
theorem zN(prog:bT)(w:World)(x:Str)(t:Tok):(cA prog w).is (.inr x) (.str x t)=true:=mG x t
end L2
namespace L2
open PySem PySem.Spec PyProof.Rows
open Sem (wp)
abbrev ox:=Option eX
def i3:ox->Value->Bool
 |none,v=>match v with
  |.none=>true
  |_=>false
 |some k,v=>dD k v
def Hw(w:World):ox->Int
 |none=>Ej 4238894112
 |some k=>IF w k
theorem bS:∀{k:ox}{v:Value},i3 k v=true->(∃i t,k=some (Sum.inl i)/\v=Value.int i t)∨(∃x t,k=some (Sum.inr x)/\v=Value.str x t)∨(k=none/\v=Value.none)
 |none,v,h=>by
  refine .inr (.inr ⟨rfl,?_⟩);cases v<;>first|rfl|cases h
 |some k,v,h=>by
  rcases aA (show dD k v=true from h)with⟨i,t,rfl,rfl⟩|⟨i,t,rfl,rfl⟩
  ·exact .inl ⟨i,t,rfl,rfl⟩
  ·exact .inr (.inl ⟨i,t,rfl,rfl⟩)
theorem uj{a b:ox}{v:Value}(h1:i3 a v=true)(h2:i3 b v=true):a=b:=by
 rcases bS h1 with⟨i,t,rfl,rfl⟩|⟨i,t,rfl,rfl⟩|⟨rfl,rfl⟩<;>rcases bS h2 with⟨j,u,rfl,e⟩|⟨j,u,rfl,e⟩|⟨rfl,e⟩<;>first|rfl|(cases e;rfl)|cases e
def zM(prog:bT)(w:World):PySem.KeyKind prog w ox where
 is:=i3
 hash:=Hw w
 inj:=fun v a b ha hb=>uj ha hb
 byValue:=fun k v h=>by
  rcases bS h with⟨i,t,rfl,rfl⟩|⟨x,t,rfl,rfl⟩|⟨rfl,rfl⟩<;>rfl
 pyHash:=fun{A E s k v Q} hv h=>by
  rcases bS hv with⟨i,t,rfl,rfl⟩|⟨x,t,rfl,rfl⟩|⟨rfl,rfl⟩
  ·exact wpAny_pyHash_int h
  ·exact wpAny_pyHash_str h
  ·refine PySem.W.pyHash_slot (T:="NoneType") rfl F.slot_NoneType_hash F.entry_NoneType_hash (F.args_NoneType_hash_1 _) (by rw[beq_builtin_none]) (.inl rfl) ?_;show wpAny _ _ (retInt 4238894112) _ _ _;refine oO (wpAny_ret_mkInt (Q:=fun v s'=>∃n t,v=Value.int n t/\Q (Ej n) s') ⟨_,_,rfl,h⟩) (fun fin s' ⟨v,e,n,t,e2,q⟩=>⟨n,t,by rw[e,e2],q⟩) (fun _ _ z=>z)
 eqBool:=fun{A E s a b u v Q} hu hv h=>by
  rcases bS hu with⟨i,t,rfl,rfl⟩|⟨x,t,rfl,rfl⟩|⟨rfl,rfl⟩
  ·rcases bS hv with⟨j,u,rfl,rfl⟩|⟨y,u,rfl,rfl⟩|⟨rfl,rfl⟩
   ·exact(cA prog w).eqBool (a:=.inl i) (b:=.inl j) (mH i t) (mH j u) (by rw[show decide ((Sum.inl i:eX)=Sum.inl j)=decide ((some (Sum.inl i):ox)=some (Sum.inl j))from decide_eq_decide.mpr ⟨fun z=>by rw[z],fun z=>by injection z⟩];exact h)
   ·rw[zzr0 (by intro z;injection z with z;cases z)]at h;exact bA.int_str i t y u _ _ _ _ h
   ·rw[zzr0 (by intro z;cases z)]at h;exact bA.int_none i t _ _ _ _ h
  ·rcases bS hv with⟨j,u,rfl,rfl⟩|⟨y,u,rfl,rfl⟩|⟨rfl,rfl⟩
   ·rw[zzr0 (by intro z;injection z with z;cases z)]at h;exact bA.str_int x t j u _ _ _ _ h
   ·exact(cA prog w).eqBool (a:=.inr x) (b:=.inr y) (mG x t) (mG y u) (by rw[show decide ((Sum.inr x:eX)=Sum.inr y)=decide ((some (Sum.inr x):ox)=some (Sum.inr y))from decide_eq_decide.mpr ⟨fun z=>by rw[z],fun z=>by injection z⟩];exact h)
   ·rw[zzr0 (by intro z;cases z)]at h;exact bA.str_none x t _ _ _ _ h
  ·rcases bS hv with⟨j,u,rfl,rfl⟩|⟨y,u,rfl,rfl⟩|⟨rfl,rfl⟩
   ·rw[zzr0 (by intro z;cases z)]at h;exact bA.none_int j u _ _ _ _ h
   ·rw[zzr0 (by intro z;cases z)]at h;exact bA.none_str y u _ _ _ _ h
   ·rw[zzr1 rfl]at h;exact bA.same _ _ _ _ _ h
 «strs»:=fun k x t v h=>by
  rcases bS h with⟨i,u,rfl,e⟩|⟨y,u,rfl,e⟩|⟨rfl,e⟩
  ·exact nomatch e
  ·injection e with e1 _;subst e1;cases v<;>rfl
  ·exact nomatch e
inductive TK where
 |k (a:ox)
 |t (l:List TK)
mutual
def HD:(x y:TK)->Decidable (x=y)
 |.k a,.k b=>if h:a=b then Decidable.isTrue (by rw[h])else Decidable.isFalse fun e=>h (by injection e)
 |.t l,.t m=>match decTKs l m with
  |Decidable.isTrue h=>Decidable.isTrue (by rw[h])
  |Decidable.isFalse h=>Decidable.isFalse fun e=>h (by injection e)
 |.k _,.t _=>Decidable.isFalse nofun
 |.t _,.k _=>Decidable.isFalse nofun
def decTKs:(x y:List TK)->Decidable (x=y)
 |[],[]=>Decidable.isTrue rfl
 |[],_::_=>Decidable.isFalse nofun
 |_::_,[]=>Decidable.isFalse nofun
 |a::l,b::m=>match HD a b with
  |Decidable.isTrue h=>match decTKs l m with
   |Decidable.isTrue h'=>Decidable.isTrue (by rw[h,h'])
   |Decidable.isFalse h'=>Decidable.isFalse fun e=>h' (by injection e)
  |Decidable.isFalse h=>Decidable.isFalse fun e=>h (by injection e)
end
instance:DecidableEq TK:=HD
mutual
def TK.depth:TK->Nat
 |.k _=>0
 |.t l=>TK.depths l+1
def TK.depths:List TK->Nat
 |[]=>0
 |a::r=>max (TK.depth a) (TK.depths r)
end
mutual
def TK.hash(w:World):TK->Int
 |.k a=>Hw w a
 |.t l=>Ej (Am (TK.hashs w l))
def TK.hashs(w:World):List TK->List Int
 |[]=>[]
 |a::r=>TK.hash w a::TK.hashs w r
end
mutual
def TK.draws:TK->Nat
 |.k _=>1
 |.t l=>TK.drawss l+1
def TK.drawss:List TK->Nat
 |[]=>0
 |a::r=>TK.draws a+TK.drawss r
end
mutual
def mZ(h:Heap):TK->Value->Prop
 |.k a,v=>i3 a v=true
 |.t l,v=>∃a o items n,v=.ref a/\h.get? a=some o/\o.cls=.type "tuple"/\o.data=.seq items n/\TAts h l items.toList
def TAts(h:Heap):List TK->List Value->Prop
 |[],vs=>vs=[]
 |k::r,vs=>∃v us,vs=v::us/\mZ h k v/\TAts h r us
end
theorem mZ.inj{h:Heap}:∀(d:Nat) {x y:TK}{v:Value},x.depth<=d->mZ h x v->mZ h y v->x=y:=by
 have key:∀(d:Nat) (ih:∀{x y:TK}{v:Value},x.depth<=d->mZ h x v->mZ h y v->x=y) (xs ys:List TK) (vs:Zf),TK.depths xs<=d->TAts h xs vs->TAts h ys vs->xs=ys:=by
  intro d ih xs
  induction xs with
  |nil =>
   intro ys vs _ hx hy;have hx':vs=[]:=hx;subst hx';cases ys with
   |nil=>rfl
   |cons y ys=>obtain⟨_,_,e,_⟩:=hy;cases e
  |cons x xs ihl =>
   intro ys vs hd hx hy;obtain⟨v,us,rfl,hx1,hx2⟩:=hx;cases ys with
   |nil=>have hy':v::us=[]:=hy;cases hy'
   |cons y ys =>
    obtain⟨v',us',e,hy1,hy2⟩:=hy;cases e;have hd':max x.depth (TK.depths xs)<=d:=hd;rw[ih (by omega) hx1 hy1,ihl ys us (by omega) hx2 hy2]
 have leaf:∀(a:ox) (l:List TK) (v:Value),mZ h (.k a) v->mZ h (.t l) v->False:=by
  intro a l v h1 h2;obtain⟨b,o,items,n,rfl,_⟩:=h2;rcases bS (show i3 a (.ref b)=true from h1)with⟨_,_,_,e⟩|⟨_,_,_,e⟩|⟨_,e⟩<;>cases e
 have kk:∀(a b:ox) (v:Value),i3 a v=true->i3 b v=true->a=b:=fun a b v h1 h2=>uj h1 h2;intro d
 induction d with
 |zero =>
  intro x y v hd hx hy;cases x with
  |t l=>exact absurd hd (by show ¬(TK.depths l+1<=0);omega)
  |k a =>
   cases y with
   |k b=>rw[kk a b v hx hy]
   |t l=>exact(leaf a l v hx hy).elim
 |succ d ih =>
  intro x y v hd hx hy;cases x with
  |k a =>
   cases y with
   |k b=>rw[kk a b v hx hy]
   |t l=>exact(leaf a l v hx hy).elim
  |t l =>
   cases y with
   |k b=>exact(leaf b l v hy hx).elim
   |t l' =>
    obtain⟨a,o,items,n,rfl,ho,hc,hdt,hi⟩:=hx;obtain⟨a',o',items',n',e,ho',hc',hdt',hi'⟩:=hy;cases e;rw[ho]at ho';cases ho';rw[hdt]at hdt';injection hdt' with e1 _;subst e1;rw[key d (fun h1=>ih h1) l l' items.toList (by have:TK.depths l+1<=d+1:=hd;omega) hi hi']
theorem mZ.mono{h h':Heap}(k:∀a o items n,h.get? a=some o->o.cls=.type "tuple"->o.data=.seq items n->h'.get? a=some o):∀(d:Nat) {x:TK}{v:Value},x.depth<=d->mZ h x v->mZ h' x v:=by
 have key:∀(d:Nat) (ih:∀{x:TK}{v:Value},x.depth<=d->mZ h x v->mZ h' x v) (xs:List TK) (vs:Zf),TK.depths xs<=d->TAts h xs vs->TAts h' xs vs:=by
  intro d ih xs
  induction xs with
  |nil=>intro vs _ hx;exact hx
  |cons x xs ihl =>
   intro vs hd hx;obtain⟨v,us,rfl,hx1,hx2⟩:=hx;have hd':max x.depth (TK.depths xs)<=d:=hd;exact⟨v,us,rfl,ih (by omega) hx1,ihl us (by omega) hx2⟩
 intro d
 induction d with
 |zero =>
  intro x v hd hx;cases x with
  |t l=>exact absurd hd (by show ¬(TK.depths l+1<=0);omega)
  |k a=>exact hx
 |succ d ih =>
  intro x v hd hx;cases x with
  |k a=>exact hx
  |t l =>
   obtain⟨a,o,items,n,rfl,ho,hc,hdt,hi⟩:=hx;exact⟨a,o,items,n,rfl,k a o items n ho hc hdt,hc,hdt,key d (fun h1=>ih h1) l _ (by have:TK.depths l+1<=d+1:=hd;omega) hi⟩
section
variable{prog:bT}{w:World}
theorem Gf:∀(d:Nat) {A:Around}{E:Zc}{s:Shared}{k:TK}{v:Value}{Q:Int->Shared->Prop},k.depth<=d->A.units+d<cLine->mZ s.heap k v->Q (k.hash w) { s with toks:=s.toks+k.draws } ->
  wpAny (model prog w) A (pyHash v) Q E s:=by
 intro d
 induction d with
 |zero =>
  intro A E s k v Q hd hu hk h;cases k with
  |t l=>exact absurd hd (by show ¬(TK.depths l+1<=0);omega)
  |k a=>exact(zM prog w).pyHash (k:=a) hk h
 |succ d ih =>
  intro A E s k v Q hd hu hk h;cases k with
  |k a=>exact(zM prog w).pyHash (k:=a) hk h
  |t l =>
   obtain⟨a,o,items,n,rfl,ho,hc,hdt,hi⟩:=hk;have hT:s.TypeIs (.ref a) "tuple":=⟨o,ho,hc⟩;have hdl:TK.depths l<=d:=by have:TK.depths l+1<=d+1:=hd;omega
   unfold pyHash
   first|unfold pyHashByItsType|skip
   first|refine am (wpAny_cRoomFor_or (.inr (by omega)) ?_)|skip
   refine am (Ga hT F.slot_tuple_hash.lookup ?_);show wpAny _ _ (if(some (Value.builtin "tuple.__hash__")==some Value.none)=true then _ else _) Q E s
   rw[if_neg (by rw[beq_builtin_none];exact fP)];refine am (Ga hT F.slot_tuple_hash.lookup ?_);show wpAny _ _ (callSpecialIfBoundUnlessNone? (.ref a) "__hash__" _ >>= _) Q E s;refine am (wpAny_callSpecialIfBoundUnlessNone?_slot hT F.slot_tuple_hash (pX F.slot_tuple_hash hT F.entry_tuple_hash ?_ (F.args_tuple_hash_1 _)));show wpAny _ _ (cy.Tuple.tupleItemsOf (.ref a) >>= _) _ _ s;refine am (wpAny_tupleItemsOf ho hdt ?_);refine am ?_;rw[<-Array.forIn_toList];refine wpAny_forIn_list _
    (fun rest (b:Array Int) s'=>∃done left,l=done++left/\TAts s.heap left rest/\b.toList=TK.hashs w done/\s'={ s with toks:=s.toks+TK.drawss done })
    _ ?_ ?_ _ _ ⟨[],l,rfl,hi,rfl,rfl⟩
   ·rintro x rest b s' ⟨done,left,e,hl,hb,rfl⟩;cases left with
    |nil=>have hl':x::rest=[]:=hl;cases hl'
    |cons k' left =>
     obtain⟨x',rest',e',h1,h2⟩:=hl;cases e';have hdk:k'.depth<=d:=by
      have gen:∀(p:List TK),TK.depths (p++k'::left)<=d->k'.depth<=d:=by
       intro p
       induction p with
       |nil=>intro hp;have hp':max k'.depth (TK.depths left)<=d:=hp;omega
       |cons q p ihp=>intro hp;have hp':max q.depth (TK.depths (p++k'::left))<=d:=hp;exact ihp (by omega)
      exact gen done (by rw[<-e];exact hdl)
     have hs:TK.hashs w (done++[k'])=TK.hashs w done++[k'.hash w]:=by
      clear e hb
      induction done with
      |nil=>rfl
      |cons q p ihp=>show _::TK.hashs w (p++[k'])=_;rw[ihp];rfl
     have hdr:TK.drawss (done++[k'])=TK.drawss done+k'.draws:=by
      clear e hb hs
      induction done with
      |nil=>show k'.draws+0=0+k'.draws;omega
      |cons q p ihp=>show q.draws+TK.drawss (p++[k'])=q.draws+TK.drawss p+k'.draws;rw[ihp];omega
     refine am (ih (k:=k') hdk (by show A.units+1+d<cLine;omega) h1 ?_)
     first
      |exact aD ⟨done++[k'],left,by rw[e];simp,h2,by rw[hs];simp[hb],by rw[hdr];simp[F_]⟩
      |exact am (aD (aD ⟨done++[k'],left,by rw[e];simp,h2,by rw[hs];simp[hb],by rw[hdr];simp[F_]⟩))
   ·rintro b s' ⟨done,left,e,hl,hb,rfl⟩;cases left with
    |cons k' left=>obtain⟨_,_,e',_⟩:=hl;cases e'
    |nil =>
     rw[dI]at e;subst e;show wpAny _ _ (retInt (Am b.toList)) _ _ _;rw[hb];refine wpAny_ret_mkInt ?_;have h':Q (Ej (Am (TK.hashs w l))) { s with toks:=s.toks+(TK.drawss l+1) }:=h;show wpAny _ _ (if(decide (-(2:Int) ^ 63<=Am (TK.hashs w l)) && decide (Am (TK.hashs w l)<2 ^ 63))=true then _ else _) Q E _
     unfold Ej at h';by_cases hr:(decide (-(2:Int) ^ 63<=Am (TK.hashs w l)) && decide (Am (TK.hashs w l)<2 ^ 63))=true
     ·rw[if_pos hr];rw[if_pos hr]at h';exact aD (by simpa[F_]using h')
     ·rw[if_neg hr];rw[if_neg hr]at h';exact am (q_ (aD (by simpa[F_]using h')))
theorem C8(d:Nat)(ih:∀{A:Around}{E:Zc}{s:Shared}{x y:TK}{u v:Value}{Q:Bool->Shared->Prop},x.depth<=d->y.depth<=d->A.units+d<cLine->mZ s.heap x u->mZ s.heap y v->Q (decide (x=y)) s->wpAny (model prog w) A (eqBool u v) Q E s)
  {A:Around}{E:Zc}{s:Shared}{x y:List TK}{a b:Addr}{P:Fin->Shared->Prop}{oa ob:Obj}{xs ys:Array Value}{na nb:Nat}(hx:TK.depths x<=d) (hy:TK.depths y<=d) (hu:A.units+d<cLine)
  (hoa:s.heap.get? a=some oa) (hda:oa.data=.seq xs na) (hia:TAts s.heap x xs.toList) (hob:s.heap.get? b=some ob) (hcb:ob.cls=.type "tuple") (hdb:ob.data=.seq ys nb) (hib:TAts s.heap y ys.toList)
  (h:P (.done (.ret (.bool (decide (x=y))))) s):wpAny (model prog w) A (cy.«tuple.__eq__» ⟨[.ref a,.ref b],[]⟩) P E s:=by
 have hTb:s.TypeIs (.ref b) "tuple":=⟨ob,hob,hcb⟩;show wpAny _ _ (isInstance (.ref b) (.type "tuple") >>= _) _ _ s;refine am (yO hTb isSubtype_tuple_tuple ?_);simp only[BW,lp,if_false];refine am (wpAny_tupleItemsOf hoa hda ?_);refine am (wpAny_tupleItemsOf hob hdb ?_);refine am ?_;refine wpAny_forIn_list _
  (fun rest r s'=>r.1=none/\s'=s/\∃x' y' xs' ys',rest=List.zip xs' ys'/\TAts s.heap x' xs'/\TAts s.heap y' ys'/\TK.depths x'<=d/\TK.depths y'<=d/\decide (x'=y')=decide (x=y)/\(xs'.length==ys'.length)=(xs.size==ys.size))
  _ ?_ ?_ _ _ ⟨rfl,rfl,x,y,xs.toList,ys.toList,rfl,hia,hib,hx,hy,rfl,by simp⟩
 ·rintro⟨u,v⟩ rest r s' ⟨hr,rfl,x',y',xs',ys',hz,hx',hy',dx,dy,hdec,hlen⟩;cases x' with
  |nil =>
   have e:xs'=[]:=hx';subst e;simp at hz
  |cons k1 x'' =>
   obtain⟨u',xs'',rfl,h1,hx''⟩:=hx';cases y' with
   |nil =>
    have e:ys'=[]:=hy';subst e;simp at hz
   |cons k2 y'' =>
    obtain⟨v',ys'',rfl,h2,hy''⟩:=hy';simp only[List.zip_cons_cons,List.cons.injEq,Prod.mk.injEq]at hz;obtain⟨⟨rfl,rfl⟩,rfl⟩:=hz;have dx':max k1.depth (TK.depths x'')<=d:=dx;have dy':max k2.depth (TK.depths y'')<=d:=dy;refine am (ih (x:=k1) (y:=k2) (by omega) (by omega) hu h1 h2 ?_);by_cases hk:k1=k2
    ·subst hk;rw[zzr1 rfl];simp only[BW,lp,if_false];refine aD ⟨rfl,rfl,x'',y'',xs'',ys'',rfl,hx'',hy'',by omega,by omega,?_,by simpa using hlen⟩;rw[<-hdec];by_cases hxy:x''=y''
     ·simp[hxy]
     ·simp[hxy]
    ·rw[zzr0 hk];simp only[Bool.not_false,if_true];have hf:decide (x=y)=false:=by rw[<-hdec];simp[hk]
     rw[hf]at h;exact am (aD (aD (aD h)))
 ·rintro⟨r1,r2⟩ s' ⟨hr,rfl,x',y',xs',ys',hz,hx',hy',dx,dy,hdec,hlen⟩;simp only at hr;subst hr;refine aD ?_;have hfin:(xs.size==ys.size)=decide (x=y):=by
   rw[<-hdec,<-hlen];cases x' with
   |nil =>
    have e:xs'=[]:=hx';subst e;cases y' with
    |nil=>have e:ys'=[]:=hy';subst e;simp
    |cons _ _=>obtain⟨_,_,rfl,_⟩:=hy';simp
   |cons _ _ =>
    obtain⟨_,_,rfl,_⟩:=hx';cases y' with
    |nil=>have e:ys'=[]:=hy';subst e;simp
    |cons _ _=>obtain⟨_,_,rfl,_⟩:=hy';simp at hz
  show P (.done (.ret (.bool (xs.size==ys.size)))) s';rw[hfin];exact h
theorem Iv:∀(d:Nat) {A:Around}{E:Zc}{s:Shared}{x y:TK}{u v:Value}{Q:Bool->Shared->Prop},x.depth<=d->y.depth<=d->A.units+d<cLine->mZ s.heap x u->mZ s.heap y v->Q (decide (x=y)) s ->
  wpAny (model prog w) A (eqBool u v) Q E s:=by
 have mixed1:∀{A:Around}{E:Zc}{s:Shared}{a:ox}{l:List TK}{u v:Value}{Q:Bool->Shared->Prop},A.units<cLine->mZ s.heap (.k a) u->mZ s.heap (.t l) v->Q false s->wpAny (model prog w) A (eqBool u v) Q E s:=by
  intro A E s a l u v Q hu hx hy h;obtain⟨b,o,items,n,rfl,ho,hc,hdt,hi⟩:=hy;have ht:s.heap.IsTuple b items:=⟨o,ho,hc,n,hdt⟩;rcases bS (show i3 a u=true from hx)with⟨i,t,rfl,rfl⟩|⟨i,t,rfl,rfl⟩|⟨rfl,rfl⟩
  ·exact bA.int_tuple i t ht hu prog w E Q h
  ·exact bA.str_tuple i t ht hu prog w E Q h
  ·exact bA.none_tuple ht hu prog w E Q h
 have mixed2:∀{A:Around}{E:Zc}{s:Shared}{a:ox}{l:List TK}{u v:Value}{Q:Bool->Shared->Prop},A.units<cLine->mZ s.heap (.t l) u->mZ s.heap (.k a) v->Q false s->wpAny (model prog w) A (eqBool u v) Q E s:=by
  intro A E s a l u v Q hu hx hy h;obtain⟨b,o,items,n,rfl,ho,hc,hdt,hi⟩:=hx;have ht:s.heap.IsTuple b items:=⟨o,ho,hc,n,hdt⟩;rcases bS (show i3 a v=true from hy)with⟨i,t,rfl,rfl⟩|⟨i,t,rfl,rfl⟩|⟨rfl,rfl⟩
  ·exact bA.tuple_int i t ht hu prog w E Q h
  ·exact bA.tuple_str i t ht hu prog w E Q h
  ·exact bA.tuple_none ht hu prog w E Q h
 have leaves:∀{A:Around}{E:Zc}{s:Shared}{a b:ox}{u v:Value}{Q:Bool->Shared->Prop},mZ s.heap (.k a) u->mZ s.heap (.k b) v->Q (decide (TK.k a=TK.k b)) s->wpAny (model prog w) A (eqBool u v) Q E s:=by
  intro A E s a b u v Q hx hy h;refine(zM prog w).eqBool (a:=a) (b:=b) hx hy ?_;by_cases e:a=b
  ·subst e;simpa using h
  ·have:¬(TK.k a=TK.k b):=fun z=>e (by injection z);rw[zzr0 this]at h;rw[zzr0 e];exact h
 intro d
 induction d with
 |zero =>
  intro A E s x y u v Q hdx hdy hu hx hy h;cases x with
  |t l=>exact absurd hdx (by show ¬(TK.depths l+1<=0);omega)
  |k a =>
   cases y with
   |t l=>exact absurd hdy (by show ¬(TK.depths l+1<=0);omega)
   |k b=>exact leaves hx hy h
 |succ d ih =>
  intro A E s x y u v Q hdx hdy hu hx hy h;cases x with
  |k a =>
   cases y with
   |k b=>exact leaves hx hy h
   |t l =>
    rw[zzr0 (by intro z;cases z)]at h;exact mixed1 (by omega) hx hy h
  |t l =>
   cases y with
   |k b =>
    rw[zzr0 (by intro z;cases z)]at h;exact mixed2 (by omega) hx hy h
   |t m =>
    have hl:TK.depths l<=d:=by have:TK.depths l+1<=d+1:=hdx;omega
    have hm:TK.depths m<=d:=by have:TK.depths m+1<=d+1:=hdy;omega
    have hx0:=hx;have hy0:=hy;obtain⟨a,oa,xs,na,rfl,hoa,hca,hda,hia⟩:=hx;obtain⟨b,ob,ys,nb,rfl,hob,hcb,hdb,hib⟩:=hy;have hTa:s.TypeIs (.ref a) "tuple":=⟨oa,hoa,hca⟩;have hTb:s.TypeIs (.ref b) "tuple":=⟨ob,hob,hcb⟩;have hd':decide (TK.t l=TK.t m)=decide (l=m):=by
     by_cases e:l=m
     ·subst e;simp
     ·have:¬(TK.t l=TK.t m):=fun z=>e (by injection z);rw[zzr0 this,zzr0 e]
    unfold eqBool
    try with_reducible refine lg ?_
    show wpAny _ _ (if(Value.ref a==Value.ref b)=true then _ else _) Q E s
    by_cases hab:(Value.ref a==Value.ref b)=true
    ·rw[if_pos hab];have e:a=b:=by have:=eq_of_beq hab;injection this
     subst e;have e2:TK.t l=TK.t m:=mZ.inj _ (aB _) hx0 hy0;rw[zzr1 e2]at h;exact am (q_ (aD h))
    ·rw[if_neg hab];rw[hd']at h;exact am (wpAny_richCompare_same_room (op:=.Eq) hTa hTb F.slot_tuple_eq
      (pX F.slot_tuple_eq hTa F.entry_tuple_eq (C8 d (fun h1 h2 h3 h4 h5 h6=>ih h1 h2 h3 h4 h5 h6) hl hm (by show A.units+1+d<cLine;omega) hoa hda hia hob hcb hdb hib ⟨_,rfl,(fun e=>nomatch e),sH h⟩) (F.args_tuple_eq_2 _ _)) (by omega))
theorem Es:∀(d:Nat) {A:Around}{E:Zc}{s:Shared}{k:TK}{v:Value}{Q:Bool->Shared->Prop},k.depth<=d->mZ s.heap k v->Q true s->wpAny (model prog w) A (eqIsQuiet d v) Q E s:=by
 intro d
 induction d with
 |zero =>
  intro A E s k v Q hd hk h;cases k with
  |t l=>exact absurd hd (by show ¬(TK.depths l+1<=0);omega)
  |k a=>rw[eqIsQuiet_byValue _ ((zM prog w).byValue a v hk)];exact aD h
 |succ d ih =>
  intro A E s k v Q hd hk h;cases k with
  |k a=>rw[eqIsQuiet_byValue _ ((zM prog w).byValue a v hk)];exact aD h
  |t l =>
   have hl:TK.depths l<=d:=by have:TK.depths l+1<=d+1:=hd;omega
   obtain⟨a,o,items,n,rfl,ho,hc,hdt,hi⟩:=hk;have hT:s.TypeIs (.ref a) "tuple":=⟨o,ho,hc⟩;unfold eqIsQuiet;refine am (Ga hT F.slot_tuple_eq.lookup ?_);show wpAny _ _ (isInstance (.ref a) (.type "tuple") >>= _) _ _ s;refine am (yO hT isSubtype_tuple_tuple ?_);simp only[BW,lp,if_false];refine am (nh ho hdt ?_);refine am ?_;show wpAny _ _ (forIn items _ _) _ _ s;rw[<-Array.forIn_toList];refine wpAny_forIn_list _ (fun rest r s'=>r.1=none/\s'=s/\∃left,TAts s.heap left rest/\TK.depths left<=d) _ ?_ ?_ _ _ ⟨rfl,rfl,l,hi,hl⟩
   ·rintro v rest r s' ⟨hr,rfl,left,hall,hdl⟩;cases left with
    |nil=>have e:v::rest=[]:=hall;cases e
    |cons k' left =>
     obtain⟨v',rest',e,h1,h2⟩:=hall;cases e;have hdl':max k'.depth (TK.depths left)<=d:=hdl;refine am (ih (k:=k') (by omega) h1 ?_);simp only[BW,lp,if_false];exact aD ⟨rfl,rfl,left,h2,by omega⟩
   ·rintro⟨r1,r2⟩ s' ⟨hr,rfl,_⟩;simp only at hr;subst hr;exact aD h
def d6(prog:bT)(w:World):HeapKind prog w TK where
 is:=fun h k a=>mZ h k (.ref a)/\k.depth<=8
 hash:=TK.hash w
 draws:=TK.draws
 room:=fun A=>A.units+8<cLine
 inj:=fun hx hy=>mZ.inj 8 hx.2 hx.1 hy.1
 keeps:=fun{h h' k a d o es ep} x ho hd hs=>⟨mZ.mono (fun b ob items n hb _ hdb=>(hs.2 b fun e=>by
  subst e;rw[ho]at hb;cases hb;rw[hd]at hdb;cases hdb).trans hb) 8 x.2 x.1,x.2⟩
 pyHash:=fun hu hk h=>Gf 8 hk.2 hu hk.1 h
 eqBool:=fun hu hx hy h=>Iv 8 hx.2 hy.2 hu hx.1 hy.1 h
 quiet:=fun hk h=>Es 8 hk.2 hk.1 h
end
end L2
namespace L2
open PySem PySem.Spec PyProof.Rows
inductive V where
 |non|bl (b:Bool)|int (i:Int)|str (x:Str)|byt (b:Array UInt8)|flt (b:UInt64)|ref (a:Addr)|ty (n:String)
 deriving DecidableEq
def RelV:V->Value->Prop
 |.non,u=>u=Value.none
 |.bl b,u=>u=Value.bool b
 |.int i,u=>∃t,u=Value.int i t
 |.str x,u=>∃t,u=Value.str x t
 |.byt b,u=>∃t,u=Value.bytes b t
 |.flt b,u=>∃t,u=Value.float b t
 |.ref a,u=>u=Value.ref a
 |.ty n,u=>u=Value.type n
abbrev bg:List V->List Value->Prop:=Paired RelV
theorem bg.length{xs:List V}{us:Zf}(r:bg xs us):xs.length=us.length:=Paired.length r
theorem bg.get:∀{xs:List V}{us:Zf}{i:Nat}{x:V},bg xs us->xs[i]?=some x->∃u,us[i]?=some u/\RelV x u
 |_,_,_,_,.nil,e=>by simp at e
 |_,_,0,_,.cons r _,e=>by simp at e;subst e;exact⟨_,rfl,r⟩
 |_,_,i+1,x,.cons _ t,e=>by
  obtain⟨u,h1,h2⟩:=bg.get (i:=i) (x:=x) t (by simpa using e);exact⟨u,by simpa using h1,h2⟩
theorem bg.set{x:V}{u:Value}(r:RelV x u):∀{xs:List V}{us:Zf}(i:Nat),bg xs us->bg (xs.set i x) (us.set i u)
 |_,_,_,.nil=>.nil
 |_,_,0,.cons _ t=>.cons r t
 |_,_,i+1,.cons q t=>.cons q (bg.set r i t)
theorem bg.append:∀{xs ys:List V}{us ws:Zf},bg xs us->bg ys ws->bg (xs++ys) (us++ws)
 |_,_,_,_,.nil,s=>s
 |_,_,_,_,.cons r t,s=>.cons r (bg.append t s)
theorem bg.take:∀{xs:List V}{us:Zf}(n:Nat),bg xs us->bg (xs.take n) (us.take n)
 |_,_,0,_=>.nil
 |_,_,_+1,.nil=>.nil
 |_,_,n+1,.cons r t=>.cons r (bg.take n t)
theorem bg.drop:∀{xs:List V}{us:Zf}(n:Nat),bg xs us->bg (xs.drop n) (us.drop n)
 |_,_,0,r=>r
 |_,_,_+1,.nil=>.nil
 |_,_,n+1,.cons _ t=>bg.drop n t
def k4:Option V->Option Value->Prop
 |some v,some u=>RelV v u
 |none,none=>True
 |_,_=>False
def KV{κ:Type}:List (κ×V)->List (κ×Value)->Prop:=Paired fun(p:κ×V) (q:κ×Value)=>p.1=q.1/\RelV p.2 q.2
def kV:eX->V
 |.inl i=>.int i
 |.inr x=>.str x
def Hx:ox->V
 |none=>.non
 |some k=>kV k
inductive HO where
 |lst (xs:List V)
 |tup (xs:List V)
 |dK (kvs:List (eX×V))|dT (kvs:List (TK×V))
 |set (S:Int->Bool) (n:Nat)
 |ins (C dx:Addr) (fs:List (Str×V))
 |own (x:Addr)
 |xd (fs:List (Str×V))
 |met (f x:Addr)
 |rng (lo hi:Int)
 |frz (o:Obj) (u:HO)
 |tbl (ps:Array Value)
 |ext (φ:Heap->Prop)
abbrev Hp:=Addr->Option HO
mutual
def cW(H:Hp):TK->V->Prop
 |.k a,v=>v=Hx a
 |.t l,v=>∃b xs,v=.ref b/\H b=some (.tup xs)/\TKAts H l xs
def TKAts(H:Hp):List TK->List V->Prop
 |[],vs=>vs=[]
 |k::r,vs=>∃v us,vs=v::us/\cW H k v/\TKAts H r us
end
def aY(K:Za)(H:Hp)(a:Addr)(xs:List V):Prop :=
 H a=some (.tup xs)∨∃(o:Obj) (its:Array Value) (n:Nat),K.lookup a=some o/\o.cls=.type "tuple"/\o.data=.seq its n/\its.size<=ai/\bg xs its.toList
theorem aY.keeps{K:Za}{H H':Hp}{a:Addr}{xs:List V}(h:aY K H a xs)(ht:∀b xs,H b=some (.tup xs)->H' b=some (.tup xs)):aY K H' a xs:=h.imp (ht a xs) id
mutual
def mK(K:Za)(H:Hp):TK->V->Prop
 |.k a,v=>v=Hx a
 |.t l,v=>∃b xs,v=.ref b/\aY K H b xs/\TKCs K H l xs
def TKCs(K:Za)(H:Hp):List TK->List V->Prop
 |[],vs=>vs=[]
 |k::r,vs=>∃v us,vs=v::us/\mK K H k v/\TKCs K H r us
end
theorem mK.keeps{K:Za}{H H':Hp}(ht:∀b xs,H b=some (.tup xs)->H' b=some (.tup xs)):∀(d:Nat) {k:TK}{v:V},k.depth<=d->mK K H k v->mK K H' k v:=by
 have key:∀(d:Nat) (ih:∀{k:TK}{v:V},k.depth<=d->mK K H k v->mK K H' k v) (xs:List TK) (vs:List V),TK.depths xs<=d->TKCs K H xs vs->TKCs K H' xs vs:=by
  intro d ih xs
  induction xs with
  |nil=>intro vs _ hx;exact hx
  |cons x xs ihl =>
   intro vs hd hx;obtain⟨v,us,rfl,hx1,hx2⟩:=hx;have hd':max x.depth (TK.depths xs)<=d:=hd;exact⟨v,us,rfl,ih (by omega) hx1,ihl us (by omega) hx2⟩
 intro d
 induction d with
 |zero =>
  intro k v hd hx;cases k with
  |t l=>exact absurd hd (by show ¬(TK.depths l+1<=0);omega)
  |k a=>exact hx
 |succ d ih =>
  intro k v hd hx;cases k with
  |k a=>exact hx
  |t l =>
   obtain⟨b,xs,rfl,hb,hi⟩:=hx;exact⟨b,xs,rfl,hb.keeps ht,key d (fun h1=>ih h1) l xs (by have:TK.depths l+1<=d+1:=hd;omega) hi⟩
theorem cW.c{K:Za}{H:Hp}:∀(d:Nat) {k:TK}{v:V},k.depth<=d->cW H k v->mK K H k v:=by
 have key:∀(d:Nat) (ih:∀{k:TK}{v:V},k.depth<=d->cW H k v->mK K H k v) (xs:List TK) (vs:List V),TK.depths xs<=d->TKAts H xs vs->TKCs K H xs vs:=by
  intro d ih xs
  induction xs with
  |nil=>intro vs _ hx;exact hx
  |cons x xs ihl =>
   intro vs hd hx;obtain⟨v,us,rfl,hx1,hx2⟩:=hx;have hd':max x.depth (TK.depths xs)<=d:=hd;exact⟨v,us,rfl,ih (by omega) hx1,ihl us (by omega) hx2⟩
 intro d
 induction d with
 |zero =>
  intro k v hd hx;cases k with
  |t l=>exact absurd hd (by show ¬(TK.depths l+1<=0);omega)
  |k a=>exact hx
 |succ d ih =>
  intro k v hd hx;cases k with
  |k a=>exact hx
  |t l =>
   obtain⟨b,xs,rfl,hb,hi⟩:=hx;exact⟨b,xs,rfl,.inl hb,key d (fun h1=>ih h1) l xs (by have:TK.depths l+1<=d+1:=hd;omega) hi⟩
def upd(H:Hp)(a:Addr)(o:HO):Hp:=fun b=>if b=a then some o else H b
theorem aa{H:Hp}{a:Addr}{o:HO}:upd H a o a=some o:=by unfold upd;rw[if_pos rfl]
theorem ag{H:Hp}{a b:Addr}{o:HO}(h:b≠a):upd H a o b=H b:=by unfold upd;rw[if_neg h]
theorem mr{H:Hp}{a:Addr}{o u:HO}:upd (upd H a o) a u=upd H a u:=by
 funext b;unfold upd;split<;>rfl
theorem Cy{H:Hp}{a b:Addr}{o u:HO}(h:H a=some o)(h':H b=some u)(d:o≠u):a≠b:=by
 intro e;subst e;rw[h]at h';exact d (e_ h')
theorem ae{H:Hp}{a b:Addr}{o:HO}(h:H a=some o)(h':H b=none):a≠b:=by
 intro e;subst e;rw[h]at h';cases h'
section
variable(P:bT)(w:World)(K:Za)
def b9(H:Hp)(h:Heap)(a:Addr):HO->Prop
 |.lst xs=>xs.length<=ai/\∃(its:Zf) (n:Nat),bg xs its/\h.get? a=some { cls:=.type "list",data:=.seq its.toArray n }
 |.tup xs=>xs.length<=ai/\∃its:List Value,bg xs its/\IsTup h a its.toArray
 |.dK kvs=>kvs.length<=ai/\(a==gE)=false/\∃vs,KV kvs vs/\h.DictOf (cA P w) a vs
 |.dT kvs=>kvs.length<=ai/\(a==gE)=false/\∃xs:List (TK×Addr×Value),
   Paired (fun(p:TK×V) (q:TK×Addr×Value)=>p.1=q.1/\mK K H p.1 (.ref q.2.1)/\p.1.depth<=8/\RelV p.2 q.2.2) kvs xs /\
   ∃o es ep,h.get? a=some o/\o.ExactDict/\o.data=.dict es ep/\es.toList=xs.map (entryOfKey (d6 P w))/\(xs.map (·.1)).Nodup
 |.set S n=>h.SetOf (intKind P w) a S n
 |.ins C dx fs=>H dx=some (.own a)/\fs.length<=1000/\dx≠a/\h.get? a=some (qZ C dx) /\
   ∃mA,h.Ns1 dx mA/\(∀f,k4 (fs.lookup f) (mA f))/\PySem.Within mA (fs.map (·.1))
 |.own _=>∃o,h.get? a=some o
 |.xd fs=>∃mA,h.Ns1 a mA/\∀f,k4 (fs.lookup f) (mA f)
 |.rng lo hi=>∃t u v,h.get? a=some { cls:=.type "range",data:=.fields #[.int lo t,.int hi u,.int 1 v] }
 |.frz o u=>h.get? a=some o/\b9 H h a u
 |.tbl ps=>h.get? a=some { cls:=.none,data:=.fields ps }
 |.met f x=>h.get? a=some (PySem.W.methodObj (.ref f) (.ref x))
 |.ext φ=>φ h/\(∃o,h.get? a=some o)/\∀h1 h2:Heap,φ h1->(∀o,h1.get? a=some o->h2.get? a=some o)->φ h2
def mL(H:Hp)(h:Heap):Prop:=∀a o,H a=some o->b9 P w K H h a o
end
section
variable{P:bT}{w:World}{K:Za}{H H':Hp}{h h':Heap}{a:Addr}{o:HO}
theorem b9.lt(x:b9 P w K H h a o):a<h.objs.size:=by
 cases o with
 |lst xs=>obtain⟨_,_,_,_,e⟩:=x;exact be e
 |tup xs=>obtain⟨_,_,_,p⟩:=x;exact p.lt
 |dK kvs=>obtain⟨_,_,_,_,o,_,_,e,_⟩:=x;exact be e
 |dT kvs=>obtain⟨_,_,_,_,o,_,_,e,_⟩:=x;exact be e
 |set S n=>obtain⟨o,_,_,_,e,_⟩:=x;exact be e
 |ins C dx fs=>obtain⟨_,_,_,e,_⟩:=x;exact be e
 |own y=>obtain⟨_,e⟩:=x;exact be e
 |xd fs=>obtain⟨_,⟨_,_,_,e,_⟩,_⟩:=x;exact be e
 |rng lo hi=>obtain⟨_,_,_,e⟩:=x;exact be e
 |frz ob u=>obtain⟨e,_⟩:=x;exact be e
 |tbl ps=>exact be (show h.get? a=some _ from x)
 |met f y=>exact be (show h.get? a=some _ from x)
 |ext φ=>obtain⟨_,⟨_,e⟩,_⟩:=x;exact be e
theorem Paired.mapP{α β:Type}{F G:α->β->Prop}:∀{l₁:List α}{l₂:List β},Paired F l₁ l₂->(∀a b,F a b->G a b)->Paired G l₁ l₂
 |_,_,.nil,_=>.nil
 |_,_,.cons r t,f=>.cons (f _ _ r) (Paired.mapP t f)
theorem b9.stay(x:b9 P w K H h a o)(k:∀b u,(b=a∨H b=some (.own a))->h.get? b=some u->h'.get? b=some u)
  (ho:∀b,H b=some (.own a)->H' b=some (.own a)) (ht:∀b xs,H b=some (.tup xs)->H' b=some (.tup xs)):b9 P w K H' h' a o:=by
 induction o with
 |lst xs=>obtain⟨z,its,n,r,e⟩:=x;exact⟨z,its,n,r,k _ _ (.inl rfl) e⟩
 |tup xs=>obtain⟨z,its,r,ob,e,c⟩:=x;exact⟨z,its,r,ob,k _ _ (.inl rfl) e,c⟩
 |dK kvs=>obtain⟨z,y,vs,r,ob,es,ep,e,c⟩:=x;exact⟨z,y,vs,r,ob,es,ep,k _ _ (.inl rfl) e,c⟩
 |dT kvs =>
  obtain⟨z,y,xs,r,ob,es,ep,e,c⟩:=x;exact⟨z,y,xs,Paired.mapP r fun p q z=>⟨z.1,mK.keeps ht 8 z.2.2.1 z.2.1,z.2.2⟩,ob,es,ep,k _ _ (.inl rfl) e,c⟩
 |set S n=>obtain⟨ob,es,ep,t,e,c⟩:=x;exact⟨ob,es,ep,t,k _ _ (.inl rfl) e,c⟩
 |ins C dx fs =>
  obtain⟨d,z,ne,e,mA,⟨od,es,ep,e2,c⟩,r⟩:=x;exact⟨ho _ d,z,ne,k _ _ (.inl rfl) e,mA,⟨od,es,ep,k _ _ (.inr d) e2,c⟩,r⟩
 |own y=>obtain⟨ob,e⟩:=x;exact⟨ob,k _ _ (.inl rfl) e⟩
 |xd fs=>obtain⟨mA,⟨od,es,ep,e,c⟩,r⟩:=x;exact⟨mA,⟨od,es,ep,k _ _ (.inl rfl) e,c⟩,r⟩
 |rng lo hi=>obtain⟨t,u,v,e⟩:=x;exact⟨t,u,v,k _ _ (.inl rfl) e⟩
 |frz ob u ih=>obtain⟨e,q⟩:=x;exact⟨k _ _ (.inl rfl) e,ih q⟩
 |tbl ps =>
  have e:h.get? a=some { cls:=.none,data:=.fields ps }:=x;show h'.get? a=some { cls:=.none,data:=.fields ps };exact k a _ (.inl rfl) e
 |met f y =>
  have e:h.get? a=some (PySem.W.methodObj (.ref f) (.ref y)):=x;show h'.get? a=some (PySem.W.methodObj (.ref f) (.ref y));exact k a _ (.inl rfl) e
 |ext φ=>obtain⟨p,⟨o,e⟩,st⟩:=x;exact⟨st _ _ p fun o q=>k _ _ (.inl rfl) q,⟨o,k _ _ (.inl rfl) e⟩,st⟩
theorem mL.lt(x:mL P w K H h)(e:H a=some o):a<h.objs.size:=(x a o e).lt
theorem mL.fresh(x:mL P w K H h)(e:h.objs.size<=a):H a=none:=by
 cases q:H a with
 |none=>rfl
 |some u=>exact absurd (iP (x.lt q) e) (qY _)
theorem mL.kept(x:mL P w K H h)(k:∀b u,h.get? b=some u->h'.get? b=some u):mL P w K H h':=fun a o e =>
 (x a o e).stay (fun b u _ q=>k b u q) (fun _ q=>q) fun _ _ q=>q
theorem mL.laid(x:mL P w K H h)(k:∀b u,h.get? b=some u->h'.get? b=some u)(hp:h.objs.size<=a)(new:b9 P w K (upd H a o) h' a o):mL P w K (upd H a o) h':=fun b u e=>by
 have hn:=x.fresh hp;by_cases hb:b=a
 ·subst hb;rw[aa]at e;cases e;exact new
 ·rw[ag hb]at e;exact(x b u e).stay (fun c v _ q=>k c v q) (fun c q=>by rw[ag (ae q hn)];exact q) fun c xs q=>by rw[ag (ae q hn)];exact q
end
def Rd(H:Hp)(a:Addr)(u:HO):Prop:=H a=some u∨∃o,H a=some (.frz o u)
theorem Rd.ok{P:bT}{w:World}{K:Za}{H:Hp}{h:Heap}{a:Addr}{u:HO}(r:Rd H a u)(x:mL P w K H h):b9 P w K H h a u:=by
 rcases r with r|⟨o,r⟩
 ·exact x a u r
 ·obtain⟨_,q⟩:=x a _ r;exact q
def IN:Option HO->Prop
 |some (.lst _)=>True
 |some (.dK _)=>True
 |some (.dT _)=>True
 |some (.set _ _)=>True
 |some (.ins _ _ _)=>True
 |some (.ext _)=>True
 |_=>False
section
variable{P:bT}{w:World}{K:Za}{H:Hp}{h h':Heap}{x e:Addr}{o':HO}
theorem mL.write(ok:mL P w K H h)(mu:IN (H x))(he:e=x∨H e=some (.own x))(k:∀b u,b≠e->h.get? b=some u->h'.get? b=some u)(heo:∃u,h'.get? e=some u)
  (new:b9 P w K (upd H x o') h' x o'):mL P w K (upd H x o') h':=fun b u q=>by
 have nown:∀c y,H c=some (.own y)->c≠x:=fun c y r z=>by subst z;rw[r]at mu;exact mu
 have ntup:∀c xs,H c=some (.tup xs)->c≠x:=fun c xs r z=>by subst z;rw[r]at mu;exact mu
 by_cases hb:b=x
 ·subst hb;rw[aa]at q;cases q;exact new
 ·rw[ag hb]at q;by_cases hbe:b=e
  ·have q':H b=some (.own x):=by
    rcases he with z|z
    ·exact absurd (hbe.trans z) hb
    ·rw[hbe];exact z
   rw[q]at q';cases q';obtain⟨v,hv⟩:=heo;exact⟨v,by rw[hbe];exact hv⟩
  ·refine(ok b u q).stay (fun c v hc r=>k c v ?_ r) (fun c r=>by rw[ag (nown c b r)];exact r) fun c xs r=>by rw[ag (ntup c xs r)];exact r
   rcases hc with rfl|hc
   ·exact hbe
   ·rintro rfl;rcases he with z|z
    ·exact nown c b hc z
    ·rw[hc]at z;cases z;exact hb rfl
end
structure Un(fs ex:Ze)(H H':Hp)(h h':Heap):Prop where
 keep:∀b o,h.get? b=some o->H b=none->b∉fs->b∉ex->h'.get? b=some o
 slot:∀b o,h.get? b=some o->H b=none->b∈fs->b∉ex->∃sl,h'.get? b=some { o with slots:=sl }
 free:∀b o,h.get? b=some o->H b=none->b∉ex->H' b=none
 there:∀b o,h.get? b=some o->b∉ex->∃o',h'.get? b=some o'
 tups:∀b xs,H b=some (.tup xs)->H' b=some (.tup xs)
 frzs:∀b o u,H b=some (.frz o u)->H' b=some (.frz o u)
 tbls:∀b ps,H b=some (.tbl ps)->∃more,H' b=some (.tbl (ps++more))
section
variable{fs fs' ex ex':Ze}{H H1 H2:Hp}{h h1 h2 h':Heap}{a x e:Addr}{o:HO}
theorem Un.any(u:Un fs ex H H1 h h1){b:Addr}{ob:Obj}(q:h.get? b=some ob)(n:H b=none)(hx:b∉ex):∃sl,h1.get? b=some { ob with slots:=sl }:=by
 by_cases hb:b∈fs
 ·exact u.slot b ob q n hb hx
 ·exact⟨ob.slots,u.keep b ob q n hb hx⟩
theorem Un.kept(k:∀b u,h.get? b=some u->h'.get? b=some u):Un fs ex H H h h' :=
 ⟨fun b ob q _ _ _=>k b ob q,fun b ob q _ _ _=>⟨ob.slots,k b ob q⟩,fun _ _ _ n _=>n,fun b ob q _=>⟨ob,k b ob q⟩,fun _ _ q=>q,fun _ _ _ q=>q,fun _ ps q=>⟨#[],by rw[q];simp⟩⟩
theorem Un.refl:Un fs ex H H h h:=Un.kept fun _ _ q=>q
theorem Un.laid(k:∀b u,h.get? b=some u->h'.get? b=some u)(hp:h.objs.size<=a)(hn:H a=none):Un fs ex H (upd H a o) h h' where
 keep:=fun b u q _ _ _=>k b u q
 slot:=fun b u q _ _ _=>⟨u.slots,k b u q⟩
 free:=fun b u q n _=>by rw[ag (de (iP (be q) hp))];exact n
 there:=fun b u q _=>⟨u,k b u q⟩
 tups:=fun b xs q=>by rw[ag (ae q hn)];exact q
 frzs:=fun b u xs q=>by rw[ag (ae q hn)];exact q
 tbls:=fun b ps q=>⟨#[],by rw[ag (ae q hn),q];simp⟩
theorem Un.write(mu:IN (H x))(he:e=x∨H e=some (.own x))(k:∀b u,b≠e->h.get? b=some u->h'.get? b=some u)(heo:∃u,h'.get? e=some u):Un fs ex H (upd H x o) h h':=by
 have hx:∀b,H b=none->b≠x:=fun b n z=>by subst z;rw[n]at mu;exact mu
 have hb:∀b,H b=none->b≠e:=fun b n z=>by
  subst z;rcases he with r|r
  ·exact hx b n r
  ·rw[n]at r;cases r
 have hm:∀b u,H b=some u->¬IN (some u)->b≠x:=fun b u q nm z=>by subst z;rw[q]at mu;exact nm mu
 refine⟨fun b u q n _ _=>k b u (hb b n) q,fun b u q n _ _=>⟨u.slots,k b u (hb b n) q⟩,fun b u q n _=>by rw[ag (hx b n)];exact n,fun b u q _=>?_,
  fun b xs q=>by rw[ag (hm b _ q fun z=>z)];exact q,fun b u xs q=>by rw[ag (hm b _ q fun z=>z)];exact q,fun b ps q=>⟨#[],by rw[ag (hm b _ q fun z=>z),q];simp⟩⟩
 by_cases hbe:b=e
 ·subst hbe;exact heo
 ·exact⟨u,k b u hbe q⟩
end
def Jc(h:Heap)(H:Hp):List Addr:=(iO h.objs.size).filter fun a=>(H a).isSome
def yb(h:Heap)(H:Hp):Heap:=PySem.W.hideAll h (Jc h H)
theorem DK(h:Heap)(H:Hp):(yb h H).objs.size=h.objs.size:=PySem.W.hideAll_size _ _
theorem Ft{h:Heap}{H:Hp}{b:Addr}{o:Obj}(e:h.get? b=some o)(n:H b=none):(yb h H).get? b=some o :=
 PySem.W.hideAll_get _ e fun hm=>by
  have q:(H b).isSome=true:=(bF.mp hm).2;rw[n]at q;simp at q
theorem GW{h:Heap}{H:Hp}{b:Addr}{o:Obj}(e:(yb h H).get? b=some o):h.get? b=some o/\H b=none:=by
 have e':h.get? b=some o:=PySem.W.of_hideAll (Jc h H) e;refine⟨e',?_⟩;cases q:H b with
 |none=>rfl
 |some x =>
  have hm:b∈Jc h H:=bF.mpr ⟨List.mem_range.mpr (be e'),by simp[q]⟩;have z:(yb h H).get? b=none:=PySem.W.hideAll_none (Jc h H) hm;rw[z]at e;cases e
end L2
namespace L2
open PySem PySem.Spec PyProof.Rows
structure Mod(K:Za)(mg:Str->Option Value)(base:Heap):Prop where
 kin:K.In base
 glob:base.Ns ck mg
 blt:∃mb,base.Ns builtinsNs mb/\∀x:Str,x≠"__name__"->mb x=kP x
 nolimit:base.NoLimit
structure Cx where
 prog:bT
 w:World
 K:Za
 mg:Str->Option Value
 base:Heap
 A:Around
 N:List Str
 s₀:Shared
 H₀:Hp
 env:Env
 outer:List Env
 stack:List Env
 ex:List Addr
 fn:Str->Bool
 calm:Bool
 pn:List (Addr×Obj)
 xe:Value->Shared->Prop
def Eg(l:List Env):List Addr:=l.filterMap (·.frame)
abbrev Cx.fs(X:Cx):List Addr:=Eg X.outer
def Je(sc:Scope)(x:Str):Prop:=sc.names.lookup x=some .local∨sc.names.lookup x=some .cell∨sc.names.lookup x=some .free
def Loc(sc:Scope)(x:Str):Prop:=sc.names.lookup x=some .local∨sc.names.lookup x=some .cell
def Look(env:Env)(h:Heap)(m:Str->Option Value)(x:Str)(u:Value):Prop :=
 (env.kindOf x=some .local/\m x=some u)∨((env.kindOf x=some .cell∨env.kindOf x=some .free)/\∃c,env.cells.lookup x=some c/\h.IsCell c (some u))
structure Cx.Ok(X:Cx):Prop where
 mod:Mod X.K X.mg X.base
 kind:X.env.scope.kind=.function
 glob:X.env.globals=ck
 blt:X.env.builtins=builtinsNs
 above:X.s₀.heap.objs.size<=X.env.locals
 inj:∀x y c,X.env.cells.lookup x=some c->X.env.cells.lookup y=some c->x=y
 has:∀x,(X.env.kindOf x=some .cell∨X.env.kindOf x=some .free)->∃c,X.env.cells.lookup x=some c
 cab:∀x c,X.fn x=true->X.env.cells.lookup x=some c->X.s₀.heap.objs.size<=c
 hd:X.calm=true->X.A.handled=none
 frames:X.A.frames=some X.stack
 stk:X.stack=X.outer∨(X.stack=X.env::X.outer/\X.env.frame=some X.env.locals)
 exf:∀b∈X.ex,b≠X.env.locals/\∀x c,X.env.cells.lookup x=some c->c≠b
 bs:∀b o,X.base.get? b=some o->X.s₀.heap.get? b=some o/\X.H₀ b=none
 bsz:X.base.objs.size<=X.s₀.heap.objs.size
 noex:∀b o,X.base.get? b=some o->b∉X.ex
 exfs:∀b∈X.ex,b∉X.fs
 funs:X.s₀.heap.FunFrames X.base X.outer
 frf:∀b∈X.fs,X.H₀ b=none
structure Inv(X:Cx)(J3:Zd)(σ:List (Option V))(H:Hp)(s:Shared):Prop where
 ok:X.Ok
 os:s.os=X.s₀.os
 bare:oN s.gens
 base:Un X.fs X.ex X.H₀ H X.s₀.heap s.heap
 loc:∃m,s.heap.Ns X.env.locals m/\∀(i:Nat) (x:Str) (v:V),X.N[i]?=some x->σ[i]?=some (some v)->Je X.env.scope x->∃u,RelV v u/\Look X.env s.heap m x u
 cell:∀x c,X.env.cells.lookup x=some c->∃v,s.heap.IsCell c v
 free:H X.env.locals=none
 freeC:∀x c,X.env.cells.lookup x=some c->H c=none
 pin:∀p∈X.pn++J3,s.heap.get? p.1=some p.2/\H p.1=none/\p.1≠X.env.locals/\p.1∉X.fs/\∀v,p.2.data≠.cell v
 hok:mL X.prog X.w X.K H s.heap
 len:σ.length=X.N.length
section
variable{X:Cx}{J3:Zd}{σ:List (Option V)}{H H':Hp}{s:Shared}{h':Heap}
theorem Cx.Ok.nofr(ok:X.Ok){b:Addr}{o:Obj}(e:X.base.get? b=some o):b∉X.fs:=fun hb=>by
 have:=(ok.funs.mem hb).1;rw[e]at this;cases this
theorem Inv.bs(I:Inv X J3 σ H s):∀b o,X.base.get? b=some o->s.heap.get? b=some o/\H b=none:=fun b o e =>
 ⟨I.base.keep b o (I.ok.bs b o e).1 (I.ok.bs b o e).2 (I.ok.nofr e) (I.ok.noex b o e),I.base.free b o (I.ok.bs b o e).1 (I.ok.bs b o e).2 (I.ok.noex b o e)⟩
theorem Inv.bk(I:Inv X J3 σ H s):∀b o,X.base.get? b=some o->s.heap.get? b=some o:=fun b o e=>(I.bs b o e).1
theorem Inv.mod(I:Inv X J3 σ H s):Mod X.K X.mg X.base:=I.ok.mod
theorem Inv.kIn(I:Inv X J3 σ H s):X.K.In s.heap:=I.ok.mod.kin.keeps I.bk
theorem Inv.fr(I:Inv X J3 σ H s):∃m,Fr X.base X.env.locals s.heap m :=
 let⟨m,hn,_⟩:=I.loc
 ⟨m,hn,I.bk,bG I.ok.bsz I.ok.above⟩
theorem Inv.lt(I:Inv X J3 σ H s):X.env.locals<s.heap.objs.size:=let⟨_,hn,_⟩:=I.loc;hn.lt
theorem Inv.sz(I:Inv X J3 σ H s):X.s₀.heap.objs.size<=s.heap.objs.size:=bG I.ok.above (fk I.lt)
theorem Inv.nofs(I:Inv X J3 σ H s){a:Addr}(h:s.heap.objs.size<=a):a∉X.fs:=fun hb=>by
 obtain⟨_,o,ho,_⟩:=I.ok.funs.mem hb;exact absurd (iP (be ho) (bG I.sz h)) (qY _)
theorem Inv.cne(I:Inv X J3 σ H s):∀x c,X.env.cells.lookup x=some c->c≠X.env.locals:=fun x c e z=>by
 obtain⟨v,o,ho,hd⟩:=I.cell x c e;obtain⟨m,⟨o',es,ep,ho',hd',_⟩,_⟩:=I.loc;rw[z,ho']at ho;cases ho;rw[hd']at hd;cases hd
theorem Inv.funs(I:Inv X J3 σ H s):s.heap.FunFrames X.base X.outer:=by
 have all:∀(l:List Env),(∀b∈Eg l,b∈X.fs)->X.s₀.heap.FunFrames X.base l->s.heap.FunFrames X.base l:=by
  intro l
  induction l with
  |nil=>intro _ _;trivial
  |cons env r ih =>
   intro hs hl;obtain⟨hk,⟨L,o,hf,hn,ho,hd⟩,hr⟩:=hl;have hL:L∈X.fs:=hs L (by unfold Eg;rw[vE,hf];exact dO);obtain⟨sl,e⟩:=I.base.slot L o ho (I.ok.frf L hL) hL fun z=>I.ok.exfs L z hL;exact⟨hk,⟨L,_,hf,hn,e,hd⟩,ih (fun b hb=>hs b (by unfold Eg;rw[vE,hf];exact eI _ hb)) hr⟩
 exact all X.outer (fun _ hb=>hb) I.ok.funs
theorem Inv.stack(I:Inv X J3 σ H s):s.heap.FunFrames X.base X.stack:=by
 rcases I.ok.stk with e|⟨e,hf⟩
 ·rw[e];exact I.funs
 ·rw[e];obtain⟨m,hn,_⟩:=I.loc;refine .cons (by rw[I.ok.kind];decide) hf hn ?_ I.funs;exact Heap.get?_none_of_le (bG I.ok.bsz I.ok.above)
theorem Inv.stkSub(I:Inv X J3 σ H s):∀b∈Eg X.stack,b∈X.env.locals::X.fs:=fun b hb=>by
 rcases I.ok.stk with e|⟨e,hf⟩
 ·rw[e]at hb;exact eI _ hb
 ·rw[e]at hb;unfold Eg at hb;rw[vE,hf]at hb;exact hb
theorem Inv.stkFree(I:Inv X J3 σ H s):∀b∈Eg X.stack,H b=none:=fun b hb=>by
 rcases cO.mp (I.stkSub b hb)with e|hb
 ·rw[e];exact I.free
 ·obtain⟨_,o,ho,_⟩:=I.ok.funs.mem hb;exact I.base.free b o ho (I.ok.frf b hb) fun z=>I.ok.exfs b z hb
theorem Inv.step{g':Array GenState}{t':Nat}{d':Drawn}{ch:Ze}(I:Inv X J3 σ H s)
  (hch:∀b∈ch,(b∈X.ex∨X.s₀.heap.objs.size<=b)/\b≠X.env.locals/\(∀x c,X.env.cells.lookup x=some c->c≠b)/\∀p∈X.pn++J3,p.1≠b)
  (keep:∀b o,b≠X.env.locals->b∉X.fs->b∉ch->s.heap.get? b=some o->H b=none->h'.get? b=some o)
  (slot:∀b o,b≠X.env.locals->b∈X.fs->b∉ch->s.heap.get? b=some o->H b=none->∃sl,h'.get? b=some { o with slots:=sl }) (free:∀b o,b∉ch->s.heap.get? b=some o->H b=none->H' b=none)
  (there:∀b o,b∉ch->s.heap.get? b=some o->∃o',h'.get? b=some o')
  (tups:∀b xs,H b=some (.tup xs)->H' b=some (.tup xs)) (frzs:∀b o u,H b=some (.frz o u)->H' b=some (.frz o u)) (tbls:∀b ps,H b=some (.tbl ps)->∃more,H' b=some (.tbl (ps++more)))
  (ns:∀m,s.heap.Ns X.env.locals m->h'.Ns X.env.locals m) (hok:mL X.prog X.w X.K H' h') (hg:oN g') :
  Inv X J3 σ H' { s with heap:=h',gens:=g',drawn:=d',toks:=t' }:=by
 have neL:∀b o,X.s₀.heap.get? b=some o->b≠X.env.locals:=fun b o e=>de (iP (be e) I.ok.above);have neC:∀b o,X.s₀.heap.get? b=some o->b∉X.ex->b∉ch:=fun b o e hx hb=>by
  rcases(hch b hb).1 with z|z
  ·exact hx z
  ·exact absurd (iP (be e) z) (qY _)
 have cellK:∀x c,X.env.cells.lookup x=some c->∀v,s.heap.IsCell c v->h'.IsCell c v:=fun x c e v ⟨o,ho,hd⟩=>by
  have nch:c∉ch:=fun z=>(hch c z).2.2.1 x c e rfl;by_cases hc:c∈X.fs
  ·obtain⟨sl,q⟩:=slot c o (I.cne x c e) hc nch ho (I.freeC x c e);exact⟨_,q,hd⟩
  ·exact⟨o,keep c o (I.cne x c e) hc nch ho (I.freeC x c e),hd⟩
 refine⟨I.ok,I.os,hg,⟨fun b o e n hb hx=>?_,fun b o e n hb hx=>?_,fun b o e n hx=>?_,fun b o e hx=>?_,fun b xs e=>tups b xs (I.base.tups b xs e),fun b o xs e=>frzs b o xs (I.base.frzs b o xs e),fun b ps e=>?_⟩,?_,fun x c e=>?_,?_,fun x c e=>?_,fun p hp=>?_,hok,I.len⟩
 ·exact keep b o (neL b o e) hb (neC b o e hx) (I.base.keep b o e n hb hx) (I.base.free b o e n hx)
 ·obtain⟨sl,e1⟩:=I.base.slot b o e n hb hx;obtain⟨sl',e2⟩:=slot b _ (neL b o e) hb (neC b o e hx) e1 (I.base.free b o e n hx);exact⟨sl',e2⟩
 ·obtain⟨o',e1⟩:=I.base.there b o e hx;exact free b o' (neC b o e hx) e1 (I.base.free b o e n hx)
 ·obtain⟨o',e1⟩:=I.base.there b o e hx;exact there b o' (neC b o e hx) e1
 ·obtain⟨m1,e1⟩:=I.base.tbls b ps e;obtain⟨m2,e2⟩:=tbls b _ e1;exact⟨m1++m2,by rw[e2,Array.append_assoc]⟩
 ·obtain⟨m,hn,hl⟩:=I.loc;refine⟨m,ns m hn,fun i x v e1 e2 e3=>?_⟩;obtain⟨u,r,l⟩:=hl i x v e1 e2 e3;refine⟨u,r,?_⟩;rcases l with l|⟨k,c,e,z⟩
  ·exact .inl l
  ·exact .inr ⟨k,c,e,cellK x c e _ z⟩
 ·obtain⟨v,z⟩:=I.cell x c e;exact⟨v,cellK x c e v z⟩
 ·obtain⟨m,⟨o,_,_,ho,_⟩,_⟩:=I.loc;exact free _ o (fun z=>(hch _ z).2.1 rfl) ho I.free
 ·obtain⟨v,o,ho,hd⟩:=I.cell x c e;exact free c o (fun z=>(hch c z).2.2.1 x c e rfl) ho (I.freeC x c e)
 ·obtain⟨e,n,ne,nf,d⟩:=I.pin p hp;have nch:p.1∉ch:=fun z=>(hch p.1 z).2.2.2 p hp rfl;exact⟨keep p.1 p.2 ne nf nch e n,free p.1 p.2 nch e n,ne,nf,d⟩
theorem Inv.un{t':Nat}(I:Inv X J3 σ H s)(u:Un X.fs [] H H' s.heap h')(hok:mL X.prog X.w X.K H' h'):Inv X J3 σ H' { s with heap:=h',toks:=t' }:=by
 obtain⟨m,⟨o,es,ep,ho,r⟩,_⟩:=id I.loc;obtain⟨sl,hL⟩:=u.any ho I.free (by simp);exact I.step (g':=s.gens) (d':=s.drawn) (ch:=[]) (fun _ z=>nomatch z) (fun b o _ hb _ e n=>u.keep b o e n hb (by simp)) (fun b o _ hb _ e n=>u.slot b o e n hb (by simp)) (fun b o _ e n=>u.free b o e n (by simp)) (fun b o _ e=>u.there b o e (by simp)) u.tups u.frzs u.tbls (fun m' hm=>by
  obtain⟨o',es',ep',ho',r'⟩:=hm;rw[ho]at ho';cases ho';exact⟨_,es',ep',hL,r'⟩) hok I.bare
theorem Inv.call{g':Array GenState}{t':Nat}{d':Drawn}{ch:Ze}(I:Inv X J3 σ H s)(u:Un (Eg X.stack) ch H H' s.heap h')(hok:mL X.prog X.w X.K H' h')(hg:oN g')
  (hch:∀b∈ch,(b∈X.ex∨X.s₀.heap.objs.size<=b)/\b≠X.env.locals/\(∀x c,X.env.cells.lookup x=some c->c≠b)/\∀p∈X.pn++J3,p.1≠b) :
  Inv X J3 σ H' { s with heap:=h',gens:=g',drawn:=d',toks:=t' }:=by
 obtain⟨m,⟨o,es,ep,ho,r⟩,_⟩:=id I.loc;obtain⟨sl,hL⟩:=u.any ho I.free fun z=>(hch _ z).2.1 rfl;exact I.step (ch:=ch) hch (fun b o hL hb hc e n=>u.keep b o e n (fun z=>(cO.mp (I.stkSub b z)).elim hL hb) hc) (fun b o _ _ hc e n=>u.any e n hc) (fun b o hc e n=>u.free b o e n hc) (fun b o hc e=>u.there b o e hc) u.tups u.frzs u.tbls (fun m' hm=>by
  obtain⟨o',es',ep',ho',r'⟩:=hm;rw[ho]at ho';cases ho';exact⟨_,es',ep',hL,r'⟩) hok hg
theorem Inv.turned{t':Nat}{it:Addr}(I:Inv X J3 σ H s)(k:∀b o,b≠it->s.heap.get? b=some o->h'.get? b=some o)(hn:H it=none)(hL:it≠X.env.locals)
  (h1:it∈X.ex∨X.s₀.heap.objs.size<=it) (h2:∀x c,X.env.cells.lookup x=some c->c≠it) (h3:∀p∈X.pn++J3,p.1≠it):Inv X J3 σ H { s with heap:=h',toks:=t' }:=by
 have nit:∀b u,H b=some u->b≠it:=fun b u e z=>by rw[z,hn]at e;cases e
 refine I.step (g':=s.gens) (d':=s.drawn) (ch:=[it]) (fun b hb=>?_) (fun b o _ _ hc e _=>k b o (fun z=>hc (by simp[z])) e) (fun b o _ _ hc e _=>⟨o.slots,k b o (fun z=>hc (by simp[z])) e⟩) (fun _ _ _ _ n=>n)
  (fun b o hc e=>⟨o,k b o (fun z=>hc (by simp[z])) e⟩) (fun _ _ e=>e) (fun _ _ _ e=>e) (fun b ps e=>⟨#[],by rw[e];simp⟩) (fun m hm=>?_) (fun b u e=>?_) I.bare
 ·have e:b=it:=by simpa using hb
  subst e;exact⟨h1,hL,h2,h3⟩
 ·obtain⟨o,es,ep,ho,r⟩:=hm;exact⟨o,es,ep,k _ o (dB hL) ho,r⟩
 ·refine(I.hok b u e).stay (fun c v hc q=>k c v ?_ q) (fun _ q=>q) fun _ _ q=>q;rcases hc with z|z
  ·rw[z];exact nit b u e
  ·exact nit c _ z
theorem Inv.tok(I:Inv X J3 σ H s)(t:Nat):Inv X J3 σ H { s with toks:=t }:=I.un (h':=s.heap) (t':=t) Un.refl I.hok
theorem Inv.kept{t':Nat}(I:Inv X J3 σ H s)(k:∀b u,s.heap.get? b=some u->h'.get? b=some u):Inv X J3 σ H { s with heap:=h',toks:=t' }:=I.un (Un.kept k) (I.hok.kept k)
theorem Inv.laid{a:Addr}{o:HO}{t':Nat}(I:Inv X J3 σ H s)(k:∀b u,s.heap.get? b=some u->h'.get? b=some u)(hp:s.heap.objs.size<=a)(new:b9 X.prog X.w X.K (upd H a o) h' a o):
  Inv X J3 σ (upd H a o) { s with heap:=h',toks:=t' }:=I.un (Un.laid k hp (I.hok.fresh hp)) (I.hok.laid k hp new)
theorem Inv.write{x e:Addr}{o:HO}{t':Nat}(I:Inv X J3 σ H s)(mu:IN (H x))(he:e=x∨H e=some (.own x))(k:∀b u,b≠e->s.heap.get? b=some u->h'.get? b=some u)(heo:∃u,h'.get? e=some u)
  (new:b9 X.prog X.w X.K (upd H x o) h' x o):Inv X J3 σ (upd H x o) { s with heap:=h',toks:=t' }:=I.un (Un.write mu he k heo) (I.hok.write mu he k heo new)
theorem Inv.weak{σ':List (Option V)}(I:Inv X J3 σ H s)(hl:σ'.length=σ.length)(w:∀(i:Nat) v,σ'[i]?=some (some v)->σ[i]?=some (some v)):Inv X J3 σ' H s :=
 ⟨I.ok,I.os,I.bare,I.base,let⟨m,hn,hl'⟩:=I.loc;⟨m,hn,fun i x v e1 e2 e3=>hl' i x v e1 (w i v e2) e3⟩,I.cell,I.free,I.freeC,I.pin,I.hok,hl.trans I.len⟩
theorem Inv.pins_of{pins':Zd}(I:Inv X J3 σ H s)(h:∀p∈pins',s.heap.get? p.1=some p.2/\H p.1=none/\p.1≠X.env.locals/\p.1∉X.fs/\∀v,p.2.data≠.cell v):Inv X pins' σ H s :=
 ⟨I.ok,I.os,I.bare,I.base,I.loc,I.cell,I.free,I.freeC,fun p hp=>(bd.mp hp).elim (fun z=>I.pin p (cj _ z)) (h p),I.hok,I.len⟩
theorem zI{N:Zb}(hN:N.Nodup){i j:Nat}{x:Str}(a:N[i]?=some x)(b:N[j]?=some x):i=j:=by
 obtain⟨h1,e1⟩:=cG.mp a;obtain⟨h2,e2⟩:=cG.mp b;exact(List.getElem_inj hN).mp (e1.trans e2.symm)
theorem vM{M:Model}{A:Around}{E:Zc}{i:Nat}{x:Str}{v:V}{u:Value}{Q:Unit->Shared->Prop}(I:Inv X J3 σ H s)(hN:X.N.Nodup)(hi:X.N[i]?=some x)(hx:Loc X.env.scope x)(r:RelV v u)
  (h:∀s',Inv X J3 (σ.set i (some v)) H s'->(∃a,fG a s.heap s'.heap/\(a=X.env.locals∨X.env.cells.lookup x=some a))->Q () s') (hf:X.fn x=true∨X.env.scope.names.lookup x=some .local:=by first|exact .inl rfl|exact .inr rfl|assumption):wpAny M A (storeName X.env x u) Q E s:=by
 obtain⟨m,hn,hl⟩:=id I.loc;have hcls:(X.env.scope.kind==.class || (X.env.scope.kind==.module && X.env.locals != X.env.globals))=false:=by rw[I.ok.kind];rfl
 have hiσ:i<σ.length:=by rw[I.len];exact(cG.mp hi).1
 have cne:=I.cne;have tracked:∀{a:Addr}{h':Heap},(∃o,s.heap.get? a=some o/\H a=none)->fG a s.heap h'->mL X.prog X.w X.K H h':=fun{a h'} ha hs b ob e=>by
  obtain⟨_,_,hfree⟩:=ha;refine(I.hok b ob e).stay (fun c w' hc q=>(hs.2 c ?_).trans q) (fun _ q=>q) fun _ _ q=>q;rintro rfl;rcases hc with rfl|hc
  ·rw[hfree]at e;cases e
  ·rw[hfree]at hc;cases hc
 rcases hx with hk|hk
 ·refine wpAny_storeName_local hk hn (fun h' hn' hs=>?_) hcls;obtain⟨oL,_,_,hoL,_⟩:=id hn;refine h _ ⟨I.ok,I.os,I.bare,⟨fun b o e n hb hx=>?_,fun b o e n hb hx=>?_,I.base.free,fun b o e hx=>?_,I.base.tups,I.base.frzs,I.base.tbls⟩,⟨_,hn',fun j y v' e1 e2 e3=>?_⟩,fun y c e=>?_,I.free,I.freeC,fun p hp=>?_,tracked ⟨oL,hoL,I.free⟩ hs,by simpa using I.len⟩ ⟨_,hs,.inl rfl⟩
  ·exact(hs.2 b (de (iP (be e) I.ok.above))).trans (I.base.keep b o e n hb hx)
  ·obtain⟨sl,e1⟩:=I.base.slot b o e n hb hx;exact⟨sl,(hs.2 b (de (iP (be e) I.ok.above))).trans e1⟩
  ·obtain⟨o',e1⟩:=I.base.there b o e hx;exact⟨o',(hs.2 b (de (iP (be e) I.ok.above))).trans e1⟩
  ·by_cases hj:j=i
   ·subst hj;rw[hi]at e1;cases e1;rw[List.getElem?_set_self hiσ]at e2;cases e2;exact⟨u,r,.inl ⟨hk,by simp⟩⟩
   ·rw[List.getElem?_set_ne (dB hj)]at e2;obtain⟨u',r',q⟩:=hl j y v' e1 e2 e3;refine⟨u',r',?_⟩;rcases q with⟨k,e⟩|⟨k,c,e,z⟩
    ·refine .inl ⟨k,?_⟩;have:y≠x:=fun e=>hj (zI hN e1 (e▸hi));simp[this,e]
    ·exact .inr ⟨k,c,e,z.sameBut hs (cne y c e)⟩
  ·obtain⟨w',z⟩:=I.cell y c e;exact⟨w',z.sameBut hs (cne y c e)⟩
  ·obtain⟨e,n,ne,nf,d⟩:=I.pin p hp;exact⟨(hs.2 p.1 ne).trans e,n,ne,nf,d⟩
 ·have hfn:X.fn x=true:=by
   rcases hf with z|z
   ·exact z
   ·rw[z]at hk;cases hk
  obtain⟨c,hc⟩:=I.ok.has x (.inl hk);obtain⟨w',z⟩:=I.cell x c hc;refine wpAny_storeName_cell I.ok.kind hk hc z (fun h' hc' hs=>?_);obtain⟨oc,hoc,hocd⟩:=id z;refine h { s with heap:=h' } ⟨I.ok,I.os,I.bare,⟨fun b o e n hb hx=>?_,fun b o e n hb hx=>?_,I.base.free,fun b o e hx=>?_,I.base.tups,I.base.frzs,I.base.tbls⟩,⟨m,hn.sameBut hs (dB (cne x c hc)),fun j y v' e1 e2 e3=>?_⟩,fun y c' e=>?_,I.free,I.freeC,fun p hp=>?_,tracked ⟨oc,hoc,I.freeC x c hc⟩ hs,by simpa using I.len⟩ ⟨c,hs,.inr hc⟩
  ·exact(hs.2 b (de (iP (be e) (I.ok.cab x c hfn hc)))).trans (I.base.keep b o e n hb hx)
  ·obtain⟨sl,e1⟩:=I.base.slot b o e n hb hx;exact⟨sl,(hs.2 b (de (iP (be e) (I.ok.cab x c hfn hc)))).trans e1⟩
  ·obtain⟨o',e1⟩:=I.base.there b o e hx;exact⟨o',(hs.2 b (de (iP (be e) (I.ok.cab x c hfn hc)))).trans e1⟩
  ·by_cases hj:j=i
   ·subst hj;rw[hi]at e1;cases e1;rw[List.getElem?_set_self hiσ]at e2;cases e2;exact⟨u,r,.inr ⟨.inl hk,c,hc,hc'⟩⟩
   ·rw[List.getElem?_set_ne (dB hj)]at e2;obtain⟨u',r',q⟩:=hl j y v' e1 e2 e3;refine⟨u',r',?_⟩;rcases q with q|⟨k,c',e,z'⟩
    ·exact .inl q
    ·refine .inr ⟨k,c',e,z'.sameBut hs ?_⟩;rintro rfl;exact hj (zI hN e1 (I.ok.inj _ _ _ e hc▸hi))
  ·by_cases hcc:c'=c
   ·subst hcc;exact⟨_,hc'⟩
   ·obtain⟨w2,z2⟩:=I.cell y c' e;exact⟨w2,z2.sameBut hs hcc⟩
  ·obtain⟨e,n,ne,nf,d⟩:=I.pin p hp;refine⟨(hs.2 p.1 ?_).trans e,n,ne,nf,d⟩;intro q;rw[q,hoc]at e;have q':oc=p.2:=e_ e;exact d w' (by rw[<-q'];exact hocd)
theorem tL{M:Model}{A:Around}{E:Zc}{i:Nat}{x:Str}{v:V}{u:Value}{Q:Unit->Shared->Prop}(I:Inv X J3 σ H s)(hN:X.N.Nodup)(hi:X.N[i]?=some x)(hx:Loc X.env.scope x)(r:RelV v u)
  (h:∀s',Inv X J3 (σ.set i (some v)) H s'->Q () s') (hf:X.fn x=true∨X.env.scope.names.lookup x=some .local:=by first|exact .inl rfl|exact .inr rfl|assumption):wpAny M A (storeName X.env x u) Q E s :=
 vM I hN hi hx r (fun s' I' _=>h s' I') hf
theorem Inv.call'{s':Shared}{ch:Ze}(I:Inv X J3 σ H s)(ho:s'.os=s.os)(u:Un (Eg X.stack) ch H H' s.heap s'.heap)(hok:mL X.prog X.w X.K H' s'.heap)(hg:oN s'.gens)
  (hch:∀b∈ch,(b∈X.ex∨X.s₀.heap.objs.size<=b)/\b≠X.env.locals/\(∀x c,X.env.cells.lookup x=some c->c≠b)/\∀p∈X.pn++J3,p.1≠b):Inv X J3 σ H' s':=by
 obtain⟨h',g',d',t',o'⟩:=s';have e:o'=s.os:=ho;subst e;exact I.call (g':=g') (t':=t') (d':=d') u hok hg hch
end
abbrev XK:=Value->Option Addr->Hp->Prop
abbrev St:=List (Option V)
abbrev VK:=V->Hp->Prop
abbrev TE:=St->Hp->VK->Prop
abbrev TT:=St->Hp->(Bool->Hp->Prop)->Prop
abbrev TA:=St->Hp->(List V->Hp->Prop)->Prop
structure mn where
 nx:St->Hp->Prop
 rt:VK
 bk:St->Hp->Prop:=fun _ _=>False
 ct:St->Hp->Prop:=fun _ _=>False
abbrev bM(Q:VK):mn:={ nx:=fun _ H=>Q .non H,rt:=Q }
abbrev TS:=mn->St->Hp->Prop
def EP(X:Cx)(J3:Zd)(σ:St)(Q:VK)(u:Value)(s':Shared):Prop:=∃v H',Inv X J3 σ H' s'/\RelV v u/\Q v H'
def TP(X:Cx)(J3:Zd)(σ:St)(Q:Bool->Hp->Prop)(b:Bool)(s':Shared):Prop:=∃H',Inv X J3 σ H' s'/\Q b H'
def AP(X:Cx)(J3:Zd)(σ:St)(Q:List V->Hp->Prop)(us:Zf)(s':Shared):Prop:=∃vs H',Inv X J3 σ H' s'/\bg vs us/\Q vs H'
def SP(X:Cx)(J3:Zd)(D:mn)(f:Flow)(s':Shared):Prop :=
 match f with
 |.next=>∃σ' H',Inv X J3 σ' H' s'/\D.nx σ' H'
 |.brk=>∃σ' H',Inv X J3 σ' H' s'/\D.bk σ' H'
 |.cont=>∃σ' H',Inv X J3 σ' H' s'/\D.ct σ' H'
 |.ret u=>∃v σ' H',Inv X J3 σ' H' s'/\RelV v u/\D.rt v H'
def PE(X:Cx)(e:Expr)(t:TE):Prop :=
 ∀(J3:Zd) (s:Shared) (σ:St) (H:Hp) (Q:VK),Inv X J3 σ H s->t σ H Q->wpAny (model X.prog X.w) X.A (eval e X.env) (EP X J3 σ Q) X.xe s
def PT(X:Cx)(e:Expr)(t:TT):Prop :=
 ∀(J3:Zd) (s:Shared) (σ:St) (H:Hp) (Q:Bool->Hp->Prop),Inv X J3 σ H s->t σ H Q->wpAny (model X.prog X.w) X.A (isTrue e X.env (eval e X.env)) (TP X J3 σ Q) X.xe s
def PW(X:Cx)(e:Expr)(t:TT):Prop :=
 ∀(whole:Sem Value) (J3:Zd) (s:Shared) (σ:St) (H:Hp) (Q:Bool->Hp->Prop),Inv X J3 σ H s->t σ H Q->wpAny (model X.prog X.w) X.A (isTrue e X.env whole) (TP X J3 σ Q) X.xe s
theorem PW.pt{X:Cx}{e:Expr}{t:TT}(h:PW X e t):PT X e t:=h _
def PA(X:Cx)(es:List Expr)(t:TA):Prop :=
 ∀(pos:Pos) (J3:Zd) (s:Shared) (σ:St) (H:Hp) (Q:List V->Hp->Prop),Inv X J3 σ H s->t σ H Q->wpAny (model X.prog X.w) X.A (spliced (backTo pos (aN es X.env))) (AP X J3 σ Q) X.xe s
def PS(X:Cx)(st:Stmt)(t:TS):Prop :=
 ∀(J3:Zd) (s:Shared) (σ:St) (H:Hp) (D:mn),Inv X J3 σ H s->t D σ H->wpAny (model X.prog X.w) X.A (exec st X.env) (SP X J3 D) X.xe s
def Al(X:Cx)(st:List Stmt)(t:TS):Prop :=
 ∀(J3:Zd) (s:Shared) (σ:St) (H:Hp) (D:mn),Inv X J3 σ H s->t D σ H->wpAny (model X.prog X.w) X.A (execs st X.env) (SP X J3 D) X.xe s
theorem cE{α:Type}{t:Sem α}{Q Q':α->Shared->Prop}{M:Model}{A:Around}{E:Zc}{s:Shared}(h:wpAny M A t Q E s)(hQ:∀a s,Q a s->Q' a s):wpAny M A t Q' E s:=oO h hQ fun _ _ x=>x
end L2
namespace L2
open PySem PySem.Spec PyProof.Rows
section
variable{X:Cx}
def nS(i:Nat):TE:=fun σ H Q=>∃v,σ[i]?=some (some v)/\Q v H
abbrev V0:TE:=nS 0
abbrev V1:TE:=nS 1
abbrev V2:TE:=nS 2
abbrev V3:TE:=nS 3
abbrev V4:TE:=nS 4
abbrev V5:TE:=nS 5
abbrev V6:TE:=nS 6
abbrev V7:TE:=nS 7
abbrev V8:TE:=nS 8
abbrev V9:TE:=nS 9
abbrev He:TE:=nS 10
abbrev V11:TE:=nS 11
abbrev V12:TE:=nS 12
def tC(v:V):TE:=fun _ H Q=>Q v H
theorem HW{i:Nat}{x:Str}{pos:Pos}(hN:X.N[i]?=some x)(hv:Je X.env.scope x)(hd:(x==("__debug__":Str))=false:=by decide)(hcd:(x==("__classdict__":Str))=false:=by decide):PE X (.Name x pos) (nS i):=by
 intro J3 s σ H Q I h;obtain⟨v,e,h⟩:=h;obtain⟨m,hn,hl⟩:=I.loc;obtain⟨u,r,l⟩:=hl i x v hN e hv;have fin:EP X J3 σ Q u s:=⟨v,H,I,r,h⟩;rcases l with⟨hk,hm⟩|⟨hk,c,hc,hcell⟩
 ·exact wpAny_Name (wpAny_loadName_local I.ok.kind hk hn hm fin) hd
 ·rcases hk with hk|hk
  ·exact wpAny_Name (wpAny_loadName_cell I.ok.kind hk hc hcell fin) hd
  ·exact wpAny_Name (wpAny_loadName_free I.ok.kind hk hc hcell fin hcd) hd
theorem ah{i j pos}:PE X (.Constant (.int i) j pos) (tC (.int i)):=fun _ _ _ H _ I h=>wpAny_Constant_int ⟨.int i,H,I.tok _,⟨_,rfl⟩,h⟩
theorem cQ{b j pos}:PE X (.Constant (.bool b) j pos) (tC (.bl b)):=fun _ _ _ H _ I h=>Constant_bool ⟨.bl b,H,I,rfl,h⟩
theorem t4{j pos}:PE X (.Constant .none j pos) (tC .non):=fun _ _ _ H _ I h=>Constant_none ⟨.non,H,I,rfl,h⟩
theorem bJ{x j pos}:PE X (.Constant (.str x) j pos) (tC (.str x)):=fun _ _ _ H _ I h=>Calls.Constant_str ⟨.str x,H,I.tok _,⟨_,rfl⟩,h⟩
def Gl(X:Cx)(x:Str):Prop:=X.env.kindOf x=some .globalImplicit
theorem xU{E:Zc}{J3:Zd}{s:Shared}{σ:St}{H:Hp}{x:Str}{u:Value}{pos:Pos}{Q:Zc}(I:Inv X J3 σ H s)(hg:Gl X x)(hm:X.mg x=some u)(h:Q u s)
  (hd:(x==("__debug__":Str))=false:=by decide):wpAny (model X.prog X.w) X.A (eval (.Name x pos) X.env) Q E s :=
 Calls.Name_function_global I.ok.kind hg (Calls.loadGlobal_global (by rw[I.ok.glob];exact I.mod.glob.keeps I.bk) hm h) hd
theorem qC{E:Zc}{J3:Zd}{s:Shared}{σ:St}{H:Hp}{x:Str}{u:Value}{pos:Pos}{Q:Zc}(I:Inv X J3 σ H s)(hg:Gl X x)(hm:X.mg x=none)(hv:kP x=some u)(h:Q u s)
  (hn:x≠"__name__":=by decide) (hd:(x==("__debug__":Str))=false:=by decide):wpAny (model X.prog X.w) X.A (eval (.Name x pos) X.env) Q E s:=by
 obtain⟨mb,h1,h2⟩:=I.mod.blt;exact Calls.Name_function_global I.ok.kind hg (Calls.loadGlobal_builtin (by rw[I.ok.glob];exact I.mod.glob.keeps I.bk) hm (by rw[I.ok.blt];exact h1.keeps I.bk) ((h2 x hn).trans hv) h) hd
theorem GR{x:Str}{v:V}{u:Value}{pos:Pos}(hg:Gl X x)(hm:X.mg x=some u)(r:RelV v u)(hd:(x==("__debug__":Str))=false:=by decide):PE X (.Name x pos) (tC v) :=
 fun _ _ _ H _ I h=>xU I hg hm ⟨v,H,I,r,h⟩ hd
theorem xN{x:Str}{v:V}{u:Value}{pos:Pos}(hg:Gl X x)(hm:X.mg x=none)(hv:kP x=some u)(r:RelV v u)(hn:x≠"__name__":=by decide)(hd:(x==("__debug__":Str))=false:=by decide):PE X (.Name x pos) (tC v) :=
 fun _ _ _ H _ I h=>qC I hg hm hv ⟨v,H,I,r,h⟩ hn hd
variable{a b:Expr}{ta tb:TE}{pos:Pos}
def PC(X:Cx)(op:CmpOp)(a b:Expr)(t:TE):Prop :=
 ∀(J3:Zd) (s:Shared) (σ:St) (H:Hp) (Q:VK),Inv X J3 σ H s->t σ H Q ->
  wpAny (model X.prog X.w) X.A (eval a X.env) (fun v s₁=>wpAny (model X.prog X.w) X.A (eval b X.env) (fun u s₂=>wpAny (model X.prog X.w) X.A (eZ op v u) (EP X J3 σ Q) X.xe s₂) X.xe s₁) X.xe s
theorem zJ(b:Expr){op:CmpOp}(h:op≠.In)(h2:op≠.NotIn):kO op b=false:=by
 have e1:(op==CmpOp.In)=false:=by cases op<;>first|rfl|exact absurd rfl h
 have e2:(op==CmpOp.NotIn)=false:=by cases op<;>first|rfl|exact absurd rfl h2
 cases b<;>simp[kO,e1,e2]
def Iw(ta:TE):TE:=fun σ H Q=>ta σ H fun x H1=>Q (.bl (decide (x=.non))) H1
def Eu(ta:TE):TE:=fun σ H Q=>ta σ H fun x H1=>Q (.bl (!decide (x=.non))) H1
theorem RelV.none_iff{x:V}{v:Value}(r:RelV x v):(v==Value.none)=decide (x=.non):=by
 cases x with
 |non=>cases r;rfl
 |bl _=>cases r;rfl
 |int _=>obtain⟨t,rfl⟩:=r;rfl
 |str _=>obtain⟨t,rfl⟩:=r;rfl
 |byt _=>obtain⟨t,rfl⟩:=r;rfl
 |flt _=>obtain⟨t,rfl⟩:=r;rfl
 |ref _=>cases r;rfl
 |ty _=>cases r;rfl
theorem HY{j pos'}(ha:PE X a ta):PC X .Is a (.Constant .none j pos') (Iw ta):=by
 intro J3 s σ H Q I h;refine cE (ha J3 s σ H _ I h) fun v s1 ⟨x,H1,I1,r1,q1⟩=>?_;exact Constant_none (is_none_gen ⟨.bl _,H1,I1,by rw[r1.none_iff];rfl,q1⟩)
theorem Cn{j pos'}(ha:PE X a ta):PC X .IsNot a (.Constant .none j pos') (Eu ta):=by
 intro J3 s σ H Q I h;refine cE (ha J3 s σ H _ I h) fun v s1 ⟨x,H1,I1,r1,q1⟩=>?_;exact Constant_none (isnot_none_gen ⟨.bl _,H1,I1,by rw[r1.none_iff];rfl,q1⟩)
def tB(t:TE):TT:=fun σ H Q=>t σ H fun x H1=>∃c,x=.bl c/\Q c H1
theorem xL{op:CmpOp}{t:TE}(h:PC X op a b t)(h1:kO op b=false:=by first|exact zJ _ (by decide) (by decide)|rfl):PE X (.Compare a [op] [b] pos) t:=fun J3 s σ H Q I hw=>wpAny_Compare1 (h J3 s σ H Q I hw) h1
theorem c7{op:CmpOp}{t:TE}(h:PC X op a b t)(h1:kO op b=false:=by first|exact zJ _ (by decide) (by decide)|rfl):PT X (.Compare a [op] [b] pos) (tB t):=by
 intro J3 s σ H Q I hw;refine wpAny_isTrue_Compare1 (cE (h J3 s σ H _ I hw) fun v s1 h1=>cE h1 fun u s2 h2=>cE h2 fun c s3 ⟨x,H1,I1,r1,q1⟩=>?_) h1;obtain⟨d,rfl,q⟩:=q1;cases r1;exact sH ⟨H1,I1,q⟩
theorem eM{e:Expr}{t:TE}(h:PE X e t)(he:∀whole,isTrue e X.env whole=(do let v <- whole;qX e.pos;k9 [v] (truthy v)):=by intro _;rfl):PT X e (tB t):=by
 intro J3 s σ H Q I hw;refine isTrue_plain (cE (h J3 s σ H _ I hw) fun v s1 ⟨x,H1,I1,r1,q1⟩=>?_) (he _);obtain⟨d,rfl,q⟩:=q1;cases r1;exact sH ⟨H1,I1,q⟩
variable{tA tB':TT}{rest:List Expr}
def kW(t u:TT):TT:=fun σ H Q=>t σ H fun c H1=>if c=true then u σ H1 Q else Q false H1
def vL(t u:TT):TT:=fun σ H Q=>t σ H fun c H1=>if c=true then Q true H1 else u σ H1 Q
def oQ(t:TT):TT:=fun σ H Q=>t σ H fun c H1=>Q (!c) H1
theorem fW(ha:PT X a tA):PW X (.BoolOp .And [a] pos) tA:=by
 intro wh J3 s σ H Q I h;refine isTrue_and (cE (ha J3 s σ H Q I h) fun c s1 e=>?_);cases c with
 |true=>exact isTrue_and_nil e
 |false=>exact e
theorem ij(ha:PT X a tA):PW X (.BoolOp .Or [a] pos) tA:=by
 intro wh J3 s σ H Q I h;refine isTrue_or (cE (ha J3 s σ H Q I h) fun c s1 e=>?_);cases c with
 |false=>exact isTrue_or_nil e
 |true=>exact e
theorem fX(ha:PT X a tA)(hb:PW X (.BoolOp .And (b::rest) pos) tB'):PW X (.BoolOp .And (a::b::rest) pos) (kW tA tB'):=by
 intro wh J3 s σ H Q I h;refine isTrue_and (cE (ha J3 s σ H _ I h) fun c s1 ⟨H1,I1,q1⟩=>?_);cases c with
 |true=>exact hb wh J3 s1 σ H1 Q I1 q1
 |false=>exact⟨H1,I1,q1⟩
theorem gJ(ha:PT X a tA)(hb:PW X (.BoolOp .Or (b::rest) pos) tB'):PW X (.BoolOp .Or (a::b::rest) pos) (vL tA tB'):=by
 intro wh J3 s σ H Q I h;refine isTrue_or (cE (ha J3 s σ H _ I h) fun c s1 ⟨H1,I1,q1⟩=>?_);cases c with
 |true=>exact⟨H1,I1,q1⟩
 |false=>exact hb wh J3 s1 σ H1 Q I1 q1
theorem ik(ha:PT X a tA):PT X (.UnaryOp .Not a pos) (oQ tA):=by
 intro J3 s σ H Q I h;exact isTrue_not (ha J3 s σ H (fun c H1=>Q (!c) H1) I h)
def y9(ta tb:TE):TE:=fun σ H Q=>ta σ H fun x H1=>∃c,x=.bl c/\if c=true then tb σ H1 Q else Q (.bl false) H1
theorem A6{op}{t:TE}(h:PE X a t):PE X (.BoolOp op [a] pos) t:=fun J3 s σ H Q I hw=>BoolOp_one (h J3 s σ H Q I hw)
theorem xO(ha:PE X a ta)(hb:PE X (.BoolOp .And (b::rest) pos) tb):PE X (.BoolOp .And (a::b::rest) pos) (y9 ta tb):=by
 intro J3 s σ H Q I h;refine BoolOp_and (cE (ha J3 s σ H _ I h) fun v s1 ⟨x,H1,I1,r1,q1⟩=>?_);obtain⟨c,rfl,q1⟩:=q1;cases r1;refine sH ?_;cases c with
 |true=>exact hb J3 s1 σ H1 Q I1 q1
 |false=>exact⟨.bl false,H1,I1,rfl,q1⟩
end
end L2
namespace L2
open PySem PySem.Spec PyProof.Rows
def ay(K:Za)(H:Hp)(a:Addr)(xs:List V):Prop :=
 Rd H a (.lst xs) ∨
  ∃(o:Obj) (its:Array Value) (n:Nat),K.lookup a=some o/\o.cls=.type "list"/\o.dict=none/\o.data=.seq its n/\its.size<=ai/\bg xs its.toList
def bc(K:Za)(H:Hp)(a:Addr)(xs:List V):Prop :=
 Rd H a (.tup xs) ∨
  ∃(o:Obj) (its:Array Value) (n:Nat),K.lookup a=some o/\o.cls=.type "tuple"/\o.data=.seq its n/\its.size<=ai/\bg xs its.toList
def absV:Value->Option V
 |.none=>some .non
 |.bool b=>some (.bl b)
 |.int i _=>some (.int i)
 |.str x _=>some (.str x)
 |.bytes b _=>some (.byt b)
 |.float b _=>some (.flt b)
 |.ref a=>some (.ref a)
 |.type n=>some (.ty n)
 |_=>none
theorem RelV.abs{x:V}{u:Value}(r:RelV x u):absV u=some x:=by
 cases x with
 |non=>cases r;rfl
 |bl _=>cases r;rfl
 |int _=>obtain⟨t,rfl⟩:=r;rfl
 |str _=>obtain⟨t,rfl⟩:=r;rfl
 |byt _=>obtain⟨t,rfl⟩:=r;rfl
 |flt _=>obtain⟨t,rfl⟩:=r;rfl
 |ref _=>cases r;rfl
 |ty _=>cases r;rfl
theorem RelV.inj{x y:V}{u:Value}(r:RelV x u)(q:RelV y u):x=y:=e_ (r.abs.symm.trans q.abs)
theorem bg.inj:∀{xs ys:List V}{us:Zf},bg xs us->bg ys us->xs=ys
 |_,_,_,.nil,.nil=>rfl
 |_,_,_,.cons r t,.cons r' t'=>by rw[r.inj r',bg.inj t t']
section
variable{X:Cx}{J3:Zd}{σ:St}{H:Hp}{s:Shared}{a:Addr}{xs ys:List V}
theorem ay.of{K:Za}(h:H a=some (.lst xs)):ay K H a xs:=.inl (.inl h)
theorem bc.of{K:Za}(h:H a=some (.tup xs)):bc K H a xs:=.inl (.inl h)
theorem Inv.list(I:Inv X J3 σ H s)(h:ay X.K H a xs):∃its:List Value,bg xs its/\PlainL s.heap a its.toArray/\xs.length<=ai:=by
 rcases h with h|⟨o,its,n,hk,hc,hd,hs,hz,r⟩
 ·obtain⟨z,its,n,r,e⟩:=h.ok I.hok;exact⟨its,r,⟨_,n,e,rfl,rfl,rfl⟩,z⟩
 ·refine⟨its.toList,r,⟨o,n,I.kIn a o hk,hc,hd,by simpa using hs⟩,?_⟩;have e:=r.length;simp only[ng]at e;omega
theorem Inv.tuple(I:Inv X J3 σ H s)(h:bc X.K H a xs):∃its:List Value,bg xs its/\IsTup s.heap a its.toArray/\xs.length<=ai:=by
 rcases h with h|⟨o,its,n,hk,hc,hs,hz,r⟩
 ·obtain⟨z,its,r,p⟩:=h.ok I.hok;exact⟨its,r,p,z⟩
 ·refine⟨its.toList,r,⟨o,I.kIn a o hk,hc,n,by simpa using hs⟩,?_⟩;have e:=r.length;simp only[ng]at e;omega
theorem Inv.list_inj(I:Inv X J3 σ H s)(h:ay X.K H a xs)(h':ay X.K H a ys):xs=ys:=by
 obtain⟨its,r,⟨o,n,e,_,_,d⟩,_⟩:=I.list h;obtain⟨its',r',⟨o',n',e',_,_,d'⟩,_⟩:=I.list h';rw[e]at e';cases e';rw[d]at d';injection d' with d1 _;have:its=its':=by simpa using congrArg Array.toList d1
 subst this;exact r.inj r'
theorem Inv.tuple_inj(I:Inv X J3 σ H s)(h:bc X.K H a xs)(h':bc X.K H a ys):xs=ys:=by
 obtain⟨its,r,⟨o,e,_,n,d⟩,_⟩:=I.tuple h;obtain⟨its',r',⟨o',e',_,n',d'⟩,_⟩:=I.tuple h';rw[e]at e';cases e';rw[d]at d';injection d' with d1 _;have:its=its':=by simpa using congrArg Array.toList d1
 subst this;exact r.inj r'
end
abbrev Cx.wish(X:Cx)(E:Zc):Cx:={ X with xe:=E }
abbrev Cx.nox(X:Cx):Cx:=X.wish fun _ _=>False
theorem Cx.Ok.wish{X:Cx}(ok:X.Ok)(E:Zc):(X.wish E).Ok :=
 ⟨ok.mod,ok.kind,ok.glob,ok.blt,ok.above,ok.inj,ok.has,ok.cab,ok.hd,ok.frames,ok.stk,ok.exf,ok.bs,ok.bsz,ok.noex,ok.exfs,ok.funs,ok.frf⟩
theorem Cx.Ok.unwish{X:Cx}{E:Zc}(ok:(X.wish E).Ok):X.Ok :=
 ⟨ok.mod,ok.kind,ok.glob,ok.blt,ok.above,ok.inj,ok.has,ok.cab,ok.hd,ok.frames,ok.stk,ok.exf,ok.bs,ok.bsz,ok.noex,ok.exfs,ok.funs,ok.frf⟩
section
variable{X:Cx}{J3:Zd}{σ:St}{H:Hp}{s:Shared}{E:Zc}
theorem Inv.wish(I:Inv X J3 σ H s)(E:Zc):Inv (X.wish E) J3 σ H s:=⟨I.ok.wish E,I.os,I.bare,I.base,I.loc,I.cell,I.free,I.freeC,I.pin,I.hok,I.len⟩
theorem Inv.unwish(I:Inv (X.wish E) J3 σ H s):Inv X J3 σ H s:=⟨I.ok.unwish,I.os,I.bare,I.base,I.loc,I.cell,I.free,I.freeC,I.pin,I.hok,I.len⟩
theorem SP.unwish{D:mn}{f:Flow}{s':Shared}(h:SP (X.wish E) J3 D f s'):SP X J3 D f s':=by
 cases f with
 |next=>obtain⟨σ',H',I,q⟩:=h;exact⟨σ',H',I.unwish,q⟩
 |brk=>obtain⟨σ',H',I,q⟩:=h;exact⟨σ',H',I.unwish,q⟩
 |cont=>obtain⟨σ',H',I,q⟩:=h;exact⟨σ',H',I.unwish,q⟩
 |ret u=>obtain⟨v,σ',H',I,r,q⟩:=h;exact⟨v,σ',H',I.unwish,r,q⟩
theorem Al.nox{st:List Stmt}{t:TS}(h:Al X.nox st t):Al X st t:=fun J3 s σ H D I hw =>
 oO (h J3 s σ H D (I.wish _) hw) (fun _ _ q=>q.unwish) fun _ _ z=>jL z
end
section
variable{X:Cx}{st:Stmt}{rest:List Stmt}{t u:TS}{e:Expr}{te:TE}{pos:Pos}
def bB:TS:=fun D σ H=>D.nx σ H
def ap(t u:TS):TS:=fun D σ H=>t { D with nx:=u D } σ H
theorem aJ:Al X [] bB:=fun _ _ σ H _ I h=>BV ⟨σ,H,I,h⟩
theorem ab(h1:PS X st t)(h2:Al X rest u):Al X (st::rest) (ap t u):=by
 intro J3 s σ H D I h;refine wpAny_execs_cons (cE (h1 J3 s σ H { D with nx:=u D } I h) fun f s1 q=>?_);cases f with
 |next =>
  obtain⟨σ',H',I',q⟩:=q;exact h2 J3 s1 σ' H' D I' q
 |ret v=>exact q
 |brk=>exact q
 |cont=>exact q
theorem af(h1:PS X st t):Al X [st] t:=by
 intro J3 s σ H D I h;refine wpAny_execs_cons (cE (h1 J3 s σ H D I h) fun f s1 q=>?_);cases f with
 |next=>exact BV q
 |ret v=>exact q
 |brk=>exact q
 |cont=>exact q
theorem Inv.quiet{J3:Zd}{σ:St}{H:Hp}{s:Shared}(I:Inv X J3 σ H s):interactive X.env=false:=by simp[interactive,I.ok.kind]
def bQ(te:TE):TS:=fun D σ H=>te σ H fun _ H1=>D.nx σ H1
theorem aU(he:PE X e te)(hs:qW e none pos.line X.env=pure false:=by rfl):PS X (.Expr e pos) (bQ te):=by
 intro J3 s σ H D I h;exact wpAny_Expr_any (cE (he J3 s σ H _ I h) fun v s1 ⟨x,H1,I1,r1,q1⟩=>⟨σ,H1,I1,q1⟩) I.quiet hs
def bj(te:TE):TS:=fun D σ H=>te σ H D.rt
theorem av(he:PE X e te):PS X (.Return (some e) pos) (bj te):=by
 intro J3 s σ H D I h;exact wpAny_Return_some (cE (he J3 s σ H _ I h) fun v s1 ⟨x,H1,I1,r1,q1⟩=>⟨x,σ,H1,I1,r1,q1⟩)
def b_(c:TT)(t u:TS):TS:=fun D σ H=>c σ H fun b H1=>if b=true then t D σ H1 else u D σ H1
theorem bx{c:Expr}{a b:List Stmt}{tc:TT}(hc:PT X c tc)(ha:Al X a t)(hb:Al X b u):PS X (.If c a b pos) (b_ tc t u):=by
 intro J3 s σ H D I h;refine wpAny_If (cE (hc J3 s σ H _ I h) fun d s1 ⟨H1,I1,q1⟩=>?_);cases d with
 |true=>exact ha J3 s1 σ H1 D I1 q1
 |false=>exact hb J3 s1 σ H1 D I1 q1
def tD:TS:=fun _ _ _=>False
theorem pe:PS X st tD:=fun _ _ _ _ _ _ h=>h.elim
end
abbrev TG:=V->St->Hp->(St->Hp->Prop)->Prop
abbrev Eh:=List V->St->Hp->(St->Hp->Prop)->Prop
def PG(X:Cx)(target:Expr)(t:TG):Prop :=
 ∀(J3:Zd) (s:Shared) (σ:St) (H:Hp) (v:V) (u:Value) (Q:St->Hp->Prop),Inv X J3 σ H s->RelV v u->t v σ H Q ->
  wpAny (model X.prog X.w) X.A (assign target X.env u) (fun _ s'=>∃σ' H',Inv X J3 σ' H' s'/\Q σ' H') X.xe s
def Ji(X:Cx)(ts:List Expr)(t:Eh):Prop :=
 ∀(J3:Zd) (s:Shared) (σ:St) (H:Hp) (vs:List V) (us:Zf) (Q:St->Hp->Prop),Inv X J3 σ H s->bg vs us->t vs σ H Q ->
  wpAny (model X.prog X.w) X.A (assignInOrder ((vD ts X.env).map (·.2)) us) (fun _ s'=>∃σ' H',Inv X J3 σ' H' s'/\Q σ' H') X.xe s
abbrev Ik:=V->V->V->Hp->(Hp->Prop)->Prop
def IM(X:Cx)(t:Ik):Prop :=
 ∀(J3:Zd) (s:Shared) (σ:St) (H:Hp) (o i v:V) (ov iv u:Value) (Q:Hp->Prop),Inv X J3 σ H s->RelV o ov->RelV i iv->RelV v u->t o i v H Q ->
  wpAny (model X.prog X.w) X.A (setItem ov iv u) (fun _ s'=>∃H',Inv X J3 σ H' s'/\Q H') X.xe s
abbrev Jg:=V->V->Hp->VK->Prop
def PIp(X:Cx)(op:Operator)(t:Jg):Prop :=
 ∀(J3:Zd) (s:Shared) (σ:St) (H:Hp) (x y:V) (v u:Value) (Q:VK),Inv X J3 σ H s->RelV x v->RelV y u->t x y H Q ->
  wpAny (model X.prog X.w) X.A (inplaceOp op v u) (EP X J3 σ Q) X.xe s
section
variable{X:Cx}{pos:Pos}
def eF(i:Nat):TG:=fun v σ H Q=>Q (σ.set i (some v)) H
abbrev U0:TG:=eF 0
abbrev U1:TG:=eF 1
abbrev U2:TG:=eF 2
abbrev U3:TG:=eF 3
abbrev U4:TG:=eF 4
abbrev U5:TG:=eF 5
abbrev U6:TG:=eF 6
abbrev U7:TG:=eF 7
abbrev U8:TG:=eF 8
abbrev U9:TG:=eF 9
abbrev Jf:TG:=eF 10
abbrev U11:TG:=eF 11
abbrev U12:TG:=eF 12
theorem Ci{i:Nat}{x:Str}(hN:X.N.Nodup)(hi:X.N[i]?=some x)(hx:Loc X.env.scope x)(hf:X.fn x=true∨X.env.scope.names.lookup x=some .local:=by first|exact .inl rfl|exact .inr rfl|assumption):PG X (.Name x pos) (eF i):=by
 intro J3 s σ H v u Q I r h;exact wpAny_assign_Name (tL I hN hi hx r (fun s' I'=>⟨_,H,I',h⟩) hf)
def gR:Eh:=fun vs σ H Q=>vs=[]/\Q σ H
def a_(t:TG)(u:Eh):Eh:=fun vs σ H Q=>∃v r,vs=v::r/\t v σ H fun σ' H'=>u r σ' H' Q
theorem cq:Ji X [] gR:=by
 intro J3 s σ H vs us Q I r h;obtain⟨e,h⟩:=h;subst e;cases r;exact assignInOrder_nil ⟨σ,H,I,h⟩
theorem au{e:Expr}{es:List Expr}{t:TG}{u:Eh}(h1:PG X e t)(h2:Ji X es u)
  (hs:(vD (e::es) X.env).map (·.2)=assign e X.env::(vD es X.env).map (·.2):=by rfl):Ji X (e::es) (a_ t u):=by
 intro J3 s σ H vs us Q I r h;obtain⟨v,vr,e1,h⟩:=h;subst e1;cases r with
 |cons r rr =>
  rw[hs];refine assignInOrder_cons (cE (h1 J3 s σ H _ _ _ I r h) fun _ s1 ⟨σ1,H1,I1,q1⟩=>?_);exact h2 J3 s1 σ1 H1 _ _ Q I1 rr q1
def ib(K:Za)(n:Nat)(t:Eh):TG:=fun v σ H Q=>∃a xs,v=.ref a/\bc K H a xs/\xs.length=n/\t xs σ H Q
theorem c8{es:List Expr}{k:Nat}{t:Eh}{n:Nat}(hc:X.calm=true)(h:Ji X es t)
  (hn:(vD es X.env).length=n:=by rfl) (hst:(vD es X.env).findIdx? (·.1)=none:=by rfl):PG X (.Tuple es k pos) (ib X.K n t):=by
 intro J3 s σ H v u Q I r hw;obtain⟨a,xs,e1,hq,hl,hw⟩:=hw;subst e1;cases r;obtain⟨its,rv,ht,hz⟩:=I.tuple hq;refine assign_Tuple_tuple (I.ok.hd hc) ht (by simp[hn,<-hl,rv.length]) hst fun h' hx=>?_;have I1:Inv X J3 σ H { s with heap:=h' }:=I.kept (t':=s.toks) fun b o e=>hx b o (de (be e)) e;exact h J3 _ σ H xs _ Q I1 (by simpa using rv) hw
def Bo(to ti:TE)(t:Ik):TG:=fun v σ H Q=>to σ H fun o H1=>ti σ H1 fun i H2=>t o i v H2 fun H3=>Q σ H3
theorem tZ{o i:Expr}{to ti:TE}{t:Ik}(ho:PE X o to)(hi:PE X i ti)(hs:IM X t)
  (ha:∀v,assign (.Subscript o i pos) X.env v=(do
   let ov <- k9 [v] (eval o X.env)
   let iv <- k9 [v,ov] (eval i X.env)
   qX pos
   k9 [v,ov,iv] (setItem ov iv v)
   release [v,ov,iv] []):=by intro _;rfl):PG X (.Subscript o i pos) (Bo to ti t):=by
 intro J3 s σ H v u Q I r h;rw[ha];refine am (lg (cE (ho J3 s σ H _ I h) fun ov s1 ⟨x,H1,I1,r1,q1⟩=>?_));refine am (lg (cE (hi J3 s1 σ H1 _ I1 q1) fun iv s2 ⟨y,H2,I2,r2,q2⟩=>?_));refine am (BU (am (lg (cE (hs J3 s2 σ H2 x y v ov iv u _ I2 r1 r2 r q2) fun _ s3 ⟨H3,I3,q3⟩=>?_))));exact wpAny_release ⟨σ,H3,I3,q3⟩
def aP(te:TE)(g:TG):TS:=fun D σ H=>te σ H fun x H1=>g x σ H1 D.nx
theorem iY{tg e:Expr}{te:TE}{g:TG}(he:PE X e te)(hg:PG X tg g)(hs:swapsWithSole [tg] e pos.line X.env=pure false:=by rfl)(hw:swappedStores [tg] e X.env=pure none:=by rfl)
  (h1:(vD [tg] X.env).map (·.2)=[assign tg X.env]:=by rfl):PS X (.Assign [tg] e pos) (aP te g):=by
 intro J3 s σ H D I h;refine wpAny_Assign_stores (cE (he J3 s σ H _ I h) fun v s1 ⟨x,H1,I1,r1,q1⟩=>?_) hs hw;rw[h1];exact cE (hg J3 s1 σ H1 x v _ I1 r1 q1) fun _ s2 q=>q
theorem HR{i:Nat}{x:Str}{e:Expr}{te:TE}{pos':Pos}(hN:X.N.Nodup)(hi:X.N[i]?=some x)(hx:Loc X.env.scope x)(he:PE X e te)(hs:qW e (some (.Name x pos')) pos.line X.env=pure false:=by rfl)(hf:X.fn x=true∨X.env.scope.names.lookup x=some .local:=by first|exact .inl rfl|exact .inr rfl|assumption):
  PS X (.Assign [.Name x pos'] e pos) (aP te (eF i)):=by
 intro J3 s σ H D I h;refine wpAny_Assign_Name (cE (he J3 s σ H _ I h) fun v s1 ⟨y,H1,I1,r1,q1⟩=>?_) hs;exact tL I1 hN hi hx r1 (fun s2 I2=>⟨_,H1,I2,q1⟩) hf
def Ix(i:Nat)(te:TE)(ti:Jg):TS:=fun D σ H=>∃x,σ[i]?=some (some x)/\te σ H fun y H1=>ti x y H1 fun z H2=>D.nx (σ.set i (some z)) H2
theorem HS{i:Nat}{x:Str}{e:Expr}{te:TE}{op:Operator}{ti:Jg}{pos':Pos}(hN:X.N.Nodup)(hi:X.N[i]?=some x)(hx:Loc X.env.scope x)(he:PE X e te)(ho:PIp X op ti)(hf:X.fn x=true∨X.env.scope.names.lookup x=some .local:=by first|exact .inl rfl|exact .inr rfl|assumption):
  PS X (.AugAssign (.Name x pos') op e pos) (Ix i te ti):=by
 intro J3 s σ H D I h;obtain⟨v,e1,h⟩:=h;obtain⟨m,hn,hl⟩:=I.loc;have vis:Je X.env.scope x:=by rcases hx with k|k;exact .inl k;exact .inr (.inl k)
 obtain⟨u,r,l⟩:=hl i x v hi e1 vis;refine wpAny_AugAssign_Name ?_;have go:wpAny (model X.prog X.w) X.A (eval e X.env) (fun w s₂=>wpAny (model X.prog X.w) X.A (inplaceOp op u w) (fun r s₃=>wpAny (model X.prog X.w) X.A (storeName X.env x r) (fun _=>SP X J3 D .next) X.xe s₃) X.xe s₂) X.xe s:=by
  refine cE (he J3 s σ H _ I h) fun w s1 ⟨y,H1,I1,r1,q1⟩=>?_;refine cE (ho J3 s1 σ H1 v y u w _ I1 r r1 q1) fun z s2 ⟨zv,H2,I2,r2,q2⟩=>?_;exact tL I2 hN hi hx r2 (fun s3 I3=>⟨_,H2,I3,q2⟩) hf
 rcases l with⟨hk,hm⟩|⟨hk,c,hc,hcell⟩
 ·exact wpAny_loadName_local I.ok.kind hk hn hm go
 ·rcases hk with hk|hk
  ·exact wpAny_loadName_cell I.ok.kind hk hc hcell go
  ·rcases hx with k|k
   ·have:X.env.scope.names.lookup x=some .free:=hk;rw[k]at this;cases this
   ·have:X.env.scope.names.lookup x=some .free:=hk;rw[k]at this;cases this
def ipI(f:Int->Int->Int):Jg:=fun x y H Q=>∃i j,x=.int i/\y=.int j/\Q (.int (f i j)) H
theorem Ic:PIp X .Add (ipI fun i j=>i+j):=by
 intro J3 s σ H x y v u Q I r1 r2 h;obtain⟨i,j,e1,e2,q⟩:=h;subst e1;subst e2;obtain⟨t,rfl⟩:=r1;obtain⟨t',rfl⟩:=r2;exact iadd_int ⟨.int _,H,I.tok _,⟨_,rfl⟩,q⟩
end
section
variable{X:Cx}{pos:Pos}
def nR(c:TT)(tb:TS):TS:=fun D σ H=>∃W:Nat->St->Hp->Prop,(∃m,W m σ H)/\∀m σ H,W m σ H ->
 c σ H fun b H1=>if b=true then ∃N:St->Hp->Prop,(∀σ' H',N σ' H'->∃m',m'<m/\W m' σ' H')/\tb { D with nx:=N,ct:=N,bk:=D.nx } σ H1 else D.nx σ H1
theorem jS{c:Expr}{body:List Stmt}{tc:TT}{tb:TS}(hp:PassesOwn (model X.prog X.w) X.A X.env X.xe)(hc:PT X c tc)(hb:Al X body tb):PS X (.While c body [] pos) (nR tc tb):=by
 intro J3 s σ H D I h;obtain⟨W,⟨m0,w0⟩,turn⟩:=h;refine wpAny_While (codeAny_whileLoop (fun n s'=>∃σ' H',Inv X J3 σ' H' s'/\W n σ' H') ?_ m0 ⟨σ,H,I,w0⟩);rintro n s1 ⟨σ1,H1,I1,w1⟩;refine sr hp (cE (hc J3 s1 σ1 H1 _ I1 (turn n σ1 H1 w1)) fun b s2 ⟨H2,I2,q2⟩=>?_);cases b with
 |true =>
  obtain⟨N,hN,q2⟩:=q2;rw[if_pos rfl];refine sr hp (cE (hb J3 s2 σ1 H2 _ I2 q2) fun f s3 q3=>?_);cases f with
  |next =>
   obtain⟨σ3,H3,I3,n3⟩:=q3;obtain⟨m',hm,w3⟩:=hN σ3 H3 n3;exact⟨m',hm,σ3,H3,I3,w3⟩
  |cont =>
   obtain⟨σ3,H3,I3,n3⟩:=q3;obtain⟨m',hm,w3⟩:=hN σ3 H3 n3;exact⟨m',hm,σ3,H3,I3,w3⟩
  |brk=>exact q3
  |ret v=>exact q3
 |false =>
  rw[if_neg fP];exact BV ⟨σ1,H2,I2,q2⟩
end
structure It where
 go:Nat->Hp->Prop
 yld:Nat->Hp->V->Hp->Prop
 stop:Nat->Hp->Prop
def oy(X:Cx)(J3:Zd)(H:Hp)(b:Addr):Prop :=
 H b=none/\b≠X.env.locals/\b∉X.fs/\(b∈X.ex∨X.s₀.heap.objs.size<=b)/\(∀x c,X.env.cells.lookup x=some c->c≠b)/\∀p∈X.pn++J3,p.1≠b
theorem Inv.fpOk{X:Cx}{J3:Zd}{σ:St}{H H':Hp}{s:Shared}{b:Addr}(I:Inv X J3 σ H s)(hb:s.heap.objs.size<=b)(hn:H' b=none):oy X J3 H' b:=by
 refine⟨hn,gD (iP I.lt hb),I.nofs hb,.inr (bG I.sz hb),fun x c e z=>?_,fun p hp z=>?_⟩
 ·obtain⟨v,q⟩:=I.cell x c e;exact absurd (iP q.lt (by rw[z];exact hb)) (qY _)
 ·exact absurd (iP (be (I.pin p hp).1) (by rw[z];exact hb)) (qY _)
structure rS(P:bT)(w:World)(K:Za)(tg:Expr)(J:It)(fp:Ze)(it:Addr)(tn:Nat->Heap->Prop):Prop where
 mem:it∈fp
 obj:∀i h,tn i h->∀b∈fp,∃o,h.get? b=some o/\∀v,o.data≠.cell v
 keep:∀i h h',tn i h->(∀b∈fp,∀o,h.get? b=some o->h'.get? b=some o)->tn i h'
 item:∀(X:Cx),X.prog=P->X.w=w->X.K=K->X.calm=true->∀(i:Nat) (J3:Zd) (s:Shared) (σ:St) (H:Hp) (E:Zc),Inv X J3 σ H s->(∀b∈fp,oy X J3 H b)->tn i s.heap->J.go i H ->
  wpAny (model P w) X.A (pyNext (.ref it)) (fun r s1=>∃u,r=some u /\
   wpAny (model P w) X.A (BT tg (.ref it) u) (fun _ s2=>∃x H',Inv X J3 σ H' s2/\RelV x u/\J.yld i H x H'/\tn (i+1) s2.heap/\∀b∈fp,H' b=none) E s1) E s
 done:∀(X:Cx),X.prog=P->X.w=w->X.K=K->X.calm=true->∀(i:Nat) (J3:Zd) (s:Shared) (σ:St) (H:Hp) (E:Zc),Inv X J3 σ H s->(∀b∈fp,oy X J3 H b)->tn i s.heap->J.stop i H ->
  wpAny (model P w) X.A (pyNext (.ref it)) (fun r s1=>r=none/\Inv X J3 σ H s1) E s
 self:∀(A:Around) (i:Nat) (s:Shared) (Q:Zc) (E:Zc),tn i s.heap->Q (.ref it) s->wpAny (model P w) A (pyIter (.ref it)) Q E s
abbrev TI:=St->Hp->(It->Hp->Prop)->Prop
def Jh(X:Cx)(J3:Zd)(σ:St)(tg:Expr)(R:It->Hp->Prop)(itv:Value)(s2:Shared):Prop :=
 ∃(it:Addr) (fp:Ze) (tn:Nat->Heap->Prop) (J:It) (H':Hp),itv=.ref it/\Inv X J3 σ H' s2/\rS X.prog X.w X.K tg J fp it tn/\tn 0 s2.heap/\(∀b∈fp,oy X J3 H' b)/\R J H'
def PI(X:Cx)(tg iter:Expr)(wi:TI):Prop :=
 ∀(J3:Zd) (s:Shared) (σ:St) (H:Hp) (R:It->Hp->Prop),Inv X J3 σ H s->wi σ H R ->
  wpAny (model X.prog X.w) X.A (eval iter X.env) (fun v s1=>wpAny (model X.prog X.w) X.A (pyIter v) (Jh X J3 σ tg R) X.xe s1) X.xe s
theorem v6{M:Model}{A:Around}{E:Zc}{s:Shared}{tg:Expr}{it:Addr}{u:Value}{o:Obj}{n:String}{vs:Array Value}{Q:Unit->Shared->Prop}(ho:s.heap.get? it=some o)(hc:o.cls=.type n)(hd:o.data=.fields vs)
    (hn:["enumerate","zip","dict_itemiterator","dict_reverseitemiterator","odict_iterator","itertools.zip_longest","itertools.pairwise"].contains n=false) (hQ:Q () s):wpAny M A (BT tg (.ref it) u) Q E s:=by
  unfold BT;cases tg<;>first
    |exact aD hQ
    | (cases u <;> first
        |exact aD hQ
        | (refine am (wpAny_load ho ?_)
           rw[hc,hd];show wpAny M A (if(["enumerate","zip","dict_itemiterator","dict_reverseitemiterator","odict_iterator","itertools.zip_longest","itertools.pairwise"].contains n && vs[0]?==some (rawInt _))=true then _ else _) Q E s
           rw[if_neg (by intro h;rw[hn,BS]at h;cases h)];exact aD hQ))
def FZ(K:Za)(a:Addr):It :=
 ⟨fun i H=>∃xs x,ay K H a xs/\xs[i]?=some x,fun i H x H'=>H'=H/\∀xs,ay K H a xs->xs[i]?=some x,fun i H=>∃xs,ay K H a xs/\xs.length<=i⟩
def Il(K:Za)(a:Addr):It :=
 ⟨fun i H=>∃xs x,bc K H a xs/\xs[i]?=some x,fun i H x H'=>H'=H/\∀xs,bc K H a xs->xs[i]?=some x,fun i H=>∃xs,bc K H a xs/\xs.length<=i⟩
def Im(lo:Int)(n:Nat):It:=⟨fun i _=>i<n,fun i H x H'=>H'=H/\x=.int (lo+i),fun i _=>n<=i⟩
theorem vH{P:bT}{w:World}{K:Za}{tg:Expr}(a it:Addr):rS P w K tg (FZ K a) [it] it (fun i h=>h.IsListIter it a i) where
 mem:=by simp
 obj:=fun i h st b hb=>by
  have e:b=it:=by simpa using hb
  subst e;obtain⟨o,e,c,d⟩:=st;exact⟨o,e,fun v z=>by rw[d]at z;cases z⟩
 keep:=fun i h h' st k=>st.at fun o e=>k it (by simp) o e
 item:=by
  intro X hP hw hK hc i J3 s σ H E I hf st hg;subst hP hw hK;obtain⟨xs,x,hq,hx⟩:=hg;obtain⟨its,rv,p,hz⟩:=I.list hq;obtain⟨u,hu,ru⟩:=rv.get hx;obtain⟨f0,f1,f2,f3,f4,f5⟩:=hf it (by simp);refine wpAny_pyNext_list_item st p.isList (x:=u) (by simpa using hu) fun h' st' sb=>?_;have I1:Inv X J3 σ H { s with heap:=h' }:=I.turned (t':=s.toks) (fun b o hb e=>(sb.2 b hb).trans e) f0 f1 f3 f4 f5;obtain⟨o,e,c,d⟩:=id st';exact⟨u,rfl,v6 (s:={ s with heap:=h' }) e c d (by decide) ⟨x,H,I1,ru,⟨rfl,fun ys hy=>by rw[I.list_inj hy hq];exact hx⟩,st',fun b hb=>(hf b hb).1⟩⟩
 done:=by
  intro X hP hw hK hc i J3 s σ H E I hf st hg;subst hP hw hK;obtain⟨xs,hq,hx⟩:=hg;obtain⟨its,rv,p,hz⟩:=I.list hq;obtain⟨f0,f1,f2,f3,f4,f5⟩:=hf it (by simp);have hl:=rv.length;exact wpAny_pyNext_list_end (I.ok.hd hc) st p.isList (by simp;omega) fun h' eb=>⟨rfl,I.turned (t':=s.toks) (fun b o hb e=>eb b o hb e) f0 f1 f3 f4 f5⟩
 self:=fun _ _ _ _ _ st h=>wpAny_pyIter_listiter st h
theorem sY{P:bT}{w:World}{K:Za}{tg:Expr}(a it:Addr):rS P w K tg (Il K a) [it] it (fun i h=>h.IsTupleIter it a i) where
 mem:=by simp
 obj:=fun i h st b hb=>by
  have e:b=it:=by simpa using hb
  subst e;obtain⟨o,e,c,d⟩:=st;exact⟨o,e,fun v z=>by rw[d]at z;cases z⟩
 keep:=fun i h h' st k=>st.at fun o e=>k it (by simp) o e
 item:=by
  intro X hP hw hK hc i J3 s σ H E I hf st hg;subst hP hw hK;obtain⟨xs,x,hq,hx⟩:=hg;obtain⟨its,rv,p,hz⟩:=I.tuple hq;obtain⟨u,hu,ru⟩:=rv.get hx;obtain⟨f0,f1,f2,f3,f4,f5⟩:=hf it (by simp);refine wpAny_pyNext_tuple_item st (show s.heap.IsTuple a its.toArray from p) (x:=u) (by simpa using hu) fun h' st' sb=>?_;have I1:Inv X J3 σ H { s with heap:=h' }:=I.turned (t':=s.toks) (fun b o hb e=>(sb.2 b hb).trans e) f0 f1 f3 f4 f5;obtain⟨o,e,c,d⟩:=id st';exact⟨u,rfl,v6 (s:={ s with heap:=h' }) e c d (by decide) ⟨x,H,I1,ru,⟨rfl,fun ys hy=>by rw[I.tuple_inj hy hq];exact hx⟩,st',fun b hb=>(hf b hb).1⟩⟩
 done:=by
  intro X hP hw hK hc i J3 s σ H E I hf st hg;subst hP hw hK;obtain⟨xs,hq,hx⟩:=hg;obtain⟨its,rv,p,hz⟩:=I.tuple hq;obtain⟨f0,f1,f2,f3,f4,f5⟩:=hf it (by simp);have hl:=rv.length;exact wpAny_pyNext_tuple_end (I.ok.hd hc) st (show s.heap.IsTuple a its.toArray from p) (by simp;omega) fun h' eb=>⟨rfl,I.turned (t':=s.toks) (fun b o hb e=>eb b o hb e) f0 f1 f3 f4 f5⟩
 self:=fun _ _ _ _ _ st h=>wpAny_pyIter_tupleiter st h
theorem Ao{P:bT}{w:World}{K:Za}{tg:Expr}(it:Addr)(lo:Int)(n:Nat):rS P w K tg (Im lo n) [it] it (fun i h=>IsRangeIter h it (lo+(i:Nat) * 1) ((n:Int)-(i:Nat)) 1) where
 mem:=by simp
 obj:=fun i h st b hb=>by
  have e:b=it:=by simpa using hb
  subst e;exact⟨_,st,fun v z=>by
   have z':Data.fields _=Data.cell v:=z;cases z'⟩
 keep:=fun i h h' st k=>k it (by simp) _ st
 item:=by
  intro X hP hw hK hc i J3 s σ H E I hf st hg;subst hP hw hK;obtain⟨f0,f1,f2,f3,f4,f5⟩:=hf it (by simp);have W:=Walks.range (prog:=X.prog) (w:=X.w) (I.ok.hd hc) it lo 1 n;refine W.item i s _ _ hg st fun v h' tk hv st' kk=>?_;obtain⟨t,rfl⟩:=hv;have I1:Inv X J3 σ H { s with heap:=h',toks:=tk }:=I.turned (fun b o hb e=>kk b o (by simpa using hb) e) f0 f1 f3 f4 f5;refine⟨_,rfl,v6 (s:={ s with heap:=h',toks:=tk }) (n:="range_iterator") st' rfl rfl (by decide) ⟨.int (lo+i),H,I1,⟨t,?_⟩,⟨rfl,rfl⟩,st',fun b hb=>(hf b hb).1⟩⟩;rw[Int.mul_one]
 done:=by
  intro X hP hw hK hc i J3 s σ H E I hf st hg;subst hP hw hK;obtain⟨f0,f1,f2,f3,f4,f5⟩:=hf it (by simp);exact wpAny_pyNext_range_end (I.ok.hd hc) st (by have:n<=i:=hg;omega) fun h' eb=>⟨rfl,I.turned (t':=s.toks) (fun b o hb e=>eb b o hb e) f0 f1 f3 f4 f5⟩
 self:=fun _ _ _ _ _ st h=>wpAny_pyIter_rangeiter st h
end L2
namespace L2
open PySem PySem.Spec PyProof.Rows
section
variable{X:Cx}{tg:Expr}
def b0(K:Za)(tl:TE):TI:=fun σ H R=>tl σ H fun x H1=>∃a,x=.ref a/\(∃xs,ay K H1 a xs)/\R (FZ K a) H1
def Fs(K:Za)(tl:TE):TI:=fun σ H R=>tl σ H fun x H1=>∃a,x=.ref a/\(∃xs,bc K H1 a xs)/\R (Il K a) H1
theorem aW{l:Expr}{tl:TE}(hl:PE X l tl):PI X tg l (b0 X.K tl):=by
 intro J3 s σ H R I h;refine cE (hl J3 s σ H _ I h) fun v s1 ⟨x,H1,I1,r1,q1⟩=>?_;obtain⟨a,e,⟨xs,hq⟩,q⟩:=q1;subst e;cases r1;obtain⟨its,rv,p,hz⟩:=I1.list hq;refine yN p.isList ?_;refine⟨s1.heap.objs.size,[s1.heap.objs.size],_,_,H1,rfl,I1.kept (t':=s1.toks) fun b o e=>bw _ e,vH a _,⟨_,cF _ rfl,rfl,rfl⟩,fun b hb=>?_,q⟩;have e:b=s1.heap.objs.size:=by simpa using hb
 subst e;exact I1.fpOk (aB _) (I1.hok.fresh (aB _))
theorem xK{l:Expr}{tl:TE}(hl:PE X l tl):PI X tg l (Fs X.K tl):=by
 intro J3 s σ H R I h;refine cE (hl J3 s σ H _ I h) fun v s1 ⟨x,H1,I1,r1,q1⟩=>?_;obtain⟨a,e,⟨xs,hq⟩,q⟩:=q1;subst e;cases r1;obtain⟨its,rv,p,hz⟩:=I1.tuple hq;refine BR (show s1.heap.IsTuple a its.toArray from p) ?_;refine⟨s1.heap.objs.size,[s1.heap.objs.size],_,_,H1,rfl,I1.kept (t':=s1.toks) fun b o e=>bw _ e,sY a _,⟨_,cF _ rfl,rfl,rfl⟩,fun b hb=>?_,q⟩;have e:b=s1.heap.objs.size:=by simpa using hb
 subst e;exact I1.fpOk (aB _) (I1.hok.fresh (aB _))
theorem EM{J3:Zd}{σ:St}{H:Hp}{s:Shared}{R:It->Hp->Prop}{E:Zc}{lo hi:Int}{t u v:Tok}{tk:Nat}(I:Inv X J3 σ H s)(h1:-(2 ^ 62)<=lo)(h2:lo<2 ^ 62)(h3:-(2 ^ 62)<=hi)(h4:hi<2 ^ 62)
  (q:R (Im lo (hi-lo).toNat) H):wpAny (model X.prog X.w) X.A (pyIter (.ref s.heap.objs.size)) (Jh X J3 σ tg R) E { s with heap:=s.heap.push { cls:=.type "range",data:=.fields #[.int lo t,.int hi u,.int 1 v] },toks:=tk }:=by
 refine wpAny_pyIter_range (IsRange.new ..) (small_one h1 h2 h3 h4) ?_;have I1:Inv X J3 σ H { s with heap:=s.heap.push { cls:=.type "range",data:=.fields #[.int lo t,.int hi u,.int 1 v] },toks:=tk }:=I.kept fun b o e=>bw _ e;refine⟨(s.heap.push { cls:=.type "range",data:=.fields #[.int lo t,.int hi u,.int 1 v] }).objs.size,[(s.heap.push { cls:=.type "range",data:=.fields #[.int lo t,.int hi u,.int 1 v] }).objs.size],_,_,H,rfl,
  I1.kept (t':=tk) fun b o e=>bw _ e,Ao _ lo (hi-lo).toNat,?_,fun b hb=>?_,q⟩
 ·have e1:lo+((0:Nat):Int) * 1=lo:=by simp
  have e2:(((hi-lo).toNat:Nat):Int)-((0:Nat):Int)=cy.Range.rangeSize lo hi 1:=by rw[rangeSize_one];split<;>omega
  show IsRangeIter _ _ (lo+((0:Nat):Int) * 1) ((((hi-lo).toNat:Nat):Int)-((0:Nat):Int)) 1;rw[e1,e2];exact cF _ rfl
 ·have e:b=(s.heap.push { cls:=.type "range",data:=.fields #[.int lo t,.int hi u,.int 1 v] }).objs.size:=by simpa using hb
  subst e;exact I1.fpOk (aB _) (I1.hok.fresh (aB _))
def um(ta:TA):TI:=fun σ H R=>ta σ H fun vs H1=>∃j:Int,vs=[.int j]/\-(2 ^ 62)<=j/\j<2 ^ 62/\R (Im 0 j.toNat) H1
theorem iK{a:Expr}{ta:TA}{p pos:Pos}(hg:Gl X "range")(hm:X.mg "range"=none)(ha:PA X [a] ta)(hs:aN [a] X.env=[(false,eval a X.env)]:=by rfl):PI X tg (.Call (.Name "range" p) [a] [] pos) (um ta):=by
 intro J3 s σ H R I h;refine Call_ (qC I hg hm boot_range (BQ (cE (ha pos J3 s σ H _ I h) fun us s1 ⟨vs,H1,I1,r1,q1⟩=>?_) hs rfl));obtain⟨j,e,q1,q2,q⟩:=q1;subst e;cases r1 with
 |cons r rr =>
  cases rr;obtain⟨t,rfl⟩:=r;exact call_range_1 (EM I1 (by omega) (by omega) q1 q2 (by simpa using q))
def d9(wi:TI)(g:TG)(tb:TS):TS:=fun D σ H=>wi σ H fun J H1=>∃W:Nat->Nat->St->Hp->Prop,(∃m,W 0 m σ H1)/\∀i m σ H,W i m σ H ->
 (J.stop i H/\D.nx σ H)∨(J.go i H/\∃N:St->Hp->Prop,(∀σ' H',N σ' H'->∃m',m'<m/\W (i+1) m' σ' H')/\∀x H',J.yld i H x H'->g x σ H' fun σ2 H2=>tb { D with nx:=N,ct:=N,bk:=D.nx } σ2 H2)
def tX(fp:Ze)(h:Heap):List (Addr×Obj):=fp.filterMap fun b=>(h.get? b).map fun o=>(b,o)
theorem kA{fp:Ze}{h:Heap}{b:Addr}{o:Obj}(hb:b∈fp)(e:h.get? b=some o):(b,o)∈tX fp h:=List.mem_filterMap.mpr ⟨b,hb,by rw[e];rfl⟩
theorem Dx{fp:Ze}{h:Heap}{p:Addr×Obj}(hp:p∈tX fp h):p.1∈fp/\h.get? p.1=some p.2:=by
 obtain⟨b,hb,e⟩:=List.mem_filterMap.mp hp;cases q:h.get? b with
 |none=>rw[q]at e;cases e
 |some o =>
  rw[q]at e;have e':(b,o)=p:=e_ e;subst e';exact⟨hb,q⟩
theorem Inv.pinned{J3:Zd}{σ:St}{H:Hp}{s:Shared}{fp:Ze}(I:Inv X J3 σ H s)(hf:∀b∈fp,oy X J3 H b)(ho:∀b∈fp,∃o,s.heap.get? b=some o/\∀v,o.data≠.cell v):Inv X (J3++tX fp s.heap) σ H s :=
 I.pins_of fun p hp=>(bd.mp hp).elim (fun z=>I.pin p (cD _ z)) fun z=>by
  obtain⟨hb,e⟩:=Dx z;obtain⟨f0,f1,f2,_⟩:=hf p.1 hb;obtain⟨o,e',d⟩:=ho p.1 hb;rw[e]at e';cases e';exact⟨e,f0,f1,f2,d⟩
theorem Inv.unpinned{J3 pl:Zd}{σ:St}{H:Hp}{s:Shared}(I:Inv X (J3++pl) σ H s):Inv X J3 σ H s:=I.pins_of fun p hp=>I.pin p (cD _ (cj _ hp))
theorem bH{iter:Expr}{body:List Stmt}{wi:TI}{g:TG}{tb:TS}{pos:Pos}(hp:PassesOwn (model X.prog X.w) X.A X.env X.xe)(hc:X.calm=true)(hi:PI X tg iter wi)(hg:PG X tg g)(hb:Al X body tb)
  (hs:∀x,yM iter X.env x=pure x:=by intro _;rfl):PS X (.For tg iter body [] pos) (d9 wi g tb):=by
 intro J3 s σ H D I h;refine wpAny_For (cE (hi J3 s σ H _ I h) fun v s1 h1=>cE h1 fun itv s2 h2=>?_) hs;obtain⟨it,fp,tn,J,H2,e,I2,T,st2,f2,W,⟨m0,w0⟩,turn⟩:=h2;subst e;have stat:∀{H':Hp},(∀b∈fp,H' b=none)->∀b∈fp,oy X J3 H' b:=fun hn b hb=>⟨hn b hb,(f2 b hb).2⟩;refine codeAny_forLoop_any (fun n s'=>∃i σ' H',Inv X J3 σ' H' s'/\tn i s'.heap/\(∀b∈fp,H' b=none)/\W i n σ' H') ?_ m0 ⟨0,σ,H2,I2,st2,fun b hb=>(f2 b hb).1,w0⟩;rintro n s3 ⟨i,σ3,H3,I3,st3,fr3,w3⟩;rcases turn i n σ3 H3 w3 with⟨stop,qn⟩|⟨go,N,hN,step⟩
 ·refine sr hp (cE (T.done X rfl rfl rfl hc i J3 s3 σ3 H3 X.xe I3 (stat fr3) st3 stop) fun r s4 ⟨hr,I4⟩=>?_);subst hr;exact BV ⟨σ3,H3,I4,qn⟩
 ·refine sr hp (cE (T.item X rfl rfl rfl hc i J3 s3 σ3 H3 X.xe I3 (stat fr3) st3 go) fun r s4 ⟨u,hr,h4⟩=>?_);subst hr;refine sr hp (cE h4 fun _ s5 ⟨x,H5,I5,r5,y5,st5,fr5⟩=>?_);have I5':=I5.pinned (stat fr5) (T.obj _ _ st5);refine sr hp (cE (hg _ s5 σ3 H5 x u _ I5' r5 (step x H5 y5)) fun _ s6 ⟨σ6,H6,I6,q6⟩=>?_);refine sr hp (cE (hb _ s6 σ6 H6 _ I6 q6) fun f s7 q7=>?_);have again:∀{σ7:St}{H7:Hp},Inv X (J3++tX fp s5.heap) σ7 H7 s7->N σ7 H7->∃m,m<n/\∃i σ' H',Inv X J3 σ' H' s7/\tn i s7.heap/\(∀b∈fp,H' b=none)/\W i m σ' H':=fun{σ7 H7} I7 n7=>by
   obtain⟨m',hm,w7⟩:=hN σ7 H7 n7;refine⟨m',hm,i+1,σ7,H7,I7.unpinned,T.keep _ _ _ st5 fun b hb o e=>(I7.pin (b,o) (cD _ (cD _ (kA hb e)))).1,fun b hb=>?_,w7⟩;obtain⟨o,e,d⟩:=T.obj _ _ st5 b hb;exact(I7.pin (b,o) (cD _ (cD _ (kA hb e)))).2.1
  cases f with
  |next=>obtain⟨σ7,H7,I7,n7⟩:=q7;exact again I7 n7
  |cont=>obtain⟨σ7,H7,I7,n7⟩:=q7;exact again I7 n7
  |brk=>obtain⟨σ7,H7,I7,q7⟩:=q7;exact⟨σ7,H7,I7.unpinned,q7⟩
  |ret v=>obtain⟨x7,σ7,H7,I7,r7,q7⟩:=q7;exact⟨x7,σ7,H7,I7.unpinned,r7,q7⟩
end
theorem bR{K:Za}{a:Addr}{xs:List V}{g:TG}{tb:TS}{D:mn}{σ:St}{H:Hp}(Pv:Nat->St->Hp->Prop)(h0:Pv 0 σ H)(hl:∀i σ H,i<=xs.length->Pv i σ H->ay K H a xs)
  (hs:∀i x σ H,xs[i]?=some x->Pv i σ H->g x σ H fun σ2 H2=>tb { D with nx:=Pv (i+1),ct:=Pv (i+1),bk:=D.nx } σ2 H2) (hd:∀σ H,Pv xs.length σ H->D.nx σ H) :
  ∃W:Nat->Nat->St->Hp->Prop,(∃m,W 0 m σ H)/\∀i m σ H,W i m σ H ->
   ((FZ K a).stop i H/\D.nx σ H)∨((FZ K a).go i H/\∃N:St->Hp->Prop,(∀σ' H',N σ' H'->∃m',m'<m/\W (i+1) m' σ' H')/\∀x H',(FZ K a).yld i H x H'->g x σ H' fun σ2 H2=>tb { D with nx:=N,ct:=N,bk:=D.nx } σ2 H2):=by
 refine⟨fun i m σ H=>m=xs.length-i/\i<=xs.length/\Pv i σ H,⟨xs.length,by simp,db _,h0⟩,?_⟩;rintro i m σ H ⟨rfl,hi,p⟩;have q:=hl i σ H hi p;by_cases hlt:i<xs.length
 ·refine .inr ⟨⟨xs,xs[i],q,by simp[hlt]⟩,Pv (i+1),fun σ' H' p'=>⟨xs.length-(i+1),by omega,rfl,hlt,p'⟩,fun x H' y=>?_⟩;obtain⟨e,y⟩:=y;subst e;exact hs i x σ _ (y xs q) p
 ·have e:i=xs.length:=by omega
  subst e;exact .inl ⟨⟨xs,q,aB _⟩,hd σ H p⟩
theorem ye{K:Za}{a:Addr}{xs:List V}{g:TG}{tb:TS}{D:mn}{σ:St}{H:Hp}(Pv:Nat->St->Hp->Prop)(h0:Pv 0 σ H)(hl:∀i σ H,i<=xs.length->Pv i σ H->bc K H a xs)
  (hs:∀i x σ H,xs[i]?=some x->Pv i σ H->g x σ H fun σ2 H2=>tb { D with nx:=Pv (i+1),ct:=Pv (i+1),bk:=D.nx } σ2 H2) (hd:∀σ H,Pv xs.length σ H->D.nx σ H) :
  ∃W:Nat->Nat->St->Hp->Prop,(∃m,W 0 m σ H)/\∀i m σ H,W i m σ H ->
   ((Il K a).stop i H/\D.nx σ H)∨((Il K a).go i H/\∃N:St->Hp->Prop,(∀σ' H',N σ' H'->∃m',m'<m/\W (i+1) m' σ' H')/\∀x H',(Il K a).yld i H x H'->g x σ H' fun σ2 H2=>tb { D with nx:=N,ct:=N,bk:=D.nx } σ2 H2):=by
 refine⟨fun i m σ H=>m=xs.length-i/\i<=xs.length/\Pv i σ H,⟨xs.length,by simp,db _,h0⟩,?_⟩;rintro i m σ H ⟨rfl,hi,p⟩;have q:=hl i σ H hi p;by_cases hlt:i<xs.length
 ·refine .inr ⟨⟨xs,xs[i],q,by simp[hlt]⟩,Pv (i+1),fun σ' H' p'=>⟨xs.length-(i+1),by omega,rfl,hlt,p'⟩,fun x H' y=>?_⟩;obtain⟨e,y⟩:=y;subst e;exact hs i x σ _ (y xs q) p
 ·have e:i=xs.length:=by omega
  subst e;exact .inl ⟨⟨xs,q,aB _⟩,hd σ H p⟩
theorem j4{lo:Int}{n:Nat}{g:TG}{tb:TS}{D:mn}{σ:St}{H:Hp}(Pv:Nat->St->Hp->Prop)(h0:Pv 0 σ H)
  (hs:∀i σ H,i<n->Pv i σ H->g (.int (lo+i)) σ H fun σ2 H2=>tb { D with nx:=Pv (i+1),ct:=Pv (i+1),bk:=D.nx } σ2 H2) (hd:∀σ H,Pv n σ H->D.nx σ H) :
  ∃W:Nat->Nat->St->Hp->Prop,(∃m,W 0 m σ H)/\∀i m σ H,W i m σ H ->
   ((Im lo n).stop i H/\D.nx σ H)∨((Im lo n).go i H/\∃N:St->Hp->Prop,(∀σ' H',N σ' H'->∃m',m'<m/\W (i+1) m' σ' H')/\∀x H',(Im lo n).yld i H x H'->g x σ H' fun σ2 H2=>tb { D with nx:=N,ct:=N,bk:=D.nx } σ2 H2):=by
 refine⟨fun i m σ H=>m=n-i/\i<=n/\Pv i σ H,⟨n,by simp,db _,h0⟩,?_⟩;rintro i m σ H ⟨rfl,hi,p⟩;by_cases hlt:i<n
 ·refine .inr ⟨hlt,Pv (i+1),fun σ' H' p'=>⟨n-(i+1),by omega,rfl,hlt,p'⟩,fun x H' y=>?_⟩;obtain⟨e,y⟩:=y;subst e y;exact hs i σ _ hlt p
 ·have e:i=n:=by omega
  subst e;exact .inl ⟨aB _,hd σ H p⟩
end L2
namespace L2
open PySem PySem.Spec PyProof.Rows
abbrev R2:=V->V->Hp->VK->Prop
def oH(X:Cx)(f:Value->Value->Sem Value)(r:R2):Prop :=
 ∀(J3:Zd) (s:Shared) (σ:St) (H:Hp) (x y:V) (v u:Value) (Q:VK),Inv X J3 σ H s->RelV x v->RelV y u->r x y H Q ->
  wpAny (model X.prog X.w) X.A (f v u) (EP X J3 σ Q) X.xe s
def UnR(X:Cx)(f:Value->Sem Value)(r:V->Hp->VK->Prop):Prop :=
 ∀(J3:Zd) (s:Shared) (σ:St) (H:Hp) (x:V) (v:Value) (Q:VK),Inv X J3 σ H s->RelV x v->r x H Q ->
  wpAny (model X.prog X.w) X.A (f v) (EP X J3 σ Q) X.xe s
def gv(X:Cx)(f:Value)(r:List V->Hp->VK->Prop):Prop :=
 ∀(J3:Zd) (s:Shared) (σ:St) (H:Hp) (xs:List V) (us:Zf) (Q:VK),Inv X J3 σ H s->bg xs us->r xs H Q ->
  wpAny (model X.prog X.w) X.A (call f us) (EP X J3 σ Q) X.xe s
def aH(r:R2)(ta tb:TE):TE:=fun σ H Q=>ta σ H fun x H1=>tb σ H1 fun y H2=>r x y H2 Q
def tUn(r:V->Hp->VK->Prop)(ta:TE):TE:=fun σ H Q=>ta σ H fun x H1=>r x H1 Q
def rI(C:Int->Int->Prop)(g:Int->Int->V):R2:=fun x y H Q=>∃i j,x=.int i/\y=.int j/\C i j/\Q (g i j) H
def Ee(g:Int->Int->V):R2:=fun x y H Q=>∃i j,x=.int i/\y=.int j/\Q (g i j) H
def rU(g:Int->V):V->Hp->VK->Prop:=fun x H Q=>∃i,x=.int i/\Q (g i) H
section
variable{X:Cx}{a b c:Expr}{ta tb tc:TE}{pos:Pos}
theorem Ii(ha:PE X a ta)(hb:PE X b tb){J3:Zd}{s:Shared}{σ:St}{H:Hp}{R:V->V->Hp->Prop}(I:Inv X J3 σ H s)
  (h:ta σ H fun x H1=>tb σ H1 fun y H2=>R x y H2) {Q:Zc}{f:Value->Value->Sem Value}
  (hf:∀v u s2 x y H2,Inv X J3 σ H2 s2->RelV x v->RelV y u->R x y H2->wpAny (model X.prog X.w) X.A (f v u) Q X.xe s2) :
  wpAny (model X.prog X.w) X.A (eval a X.env) (fun v s₁=>wpAny (model X.prog X.w) X.A (eval b X.env) (fun u s₂=>wpAny (model X.prog X.w) X.A (f v u) Q X.xe s₂) X.xe s₁) X.xe s:=by
 refine cE (ha J3 s σ H _ I h) fun v s1 ⟨x,H1,I1,r1,q1⟩=>?_;refine cE (hb J3 s1 σ H1 _ I1 q1) fun u s2 ⟨y,H2,I2,r2,q2⟩=>?_;exact hf v u s2 x y H2 I2 r1 r2 q2
theorem bf{op:Operator}{r:R2}(ho:oH X (qV op) r)(ha:PE X a ta)(hb:PE X b tb):PE X (.BinOp a op b pos) (aH r ta tb):=by
 intro J3 s σ H Q I h;exact wpAny_BinOp (Ii ha hb I h fun v u s2 x y H2 I2 rx ry q=>ho J3 s2 σ H2 x y v u Q I2 rx ry q)
theorem IB{op:UnaryOp}{r:V->Hp->VK->Prop}(ho:UnR X (unaryOp op) r)(ha:PE X a ta):PE X (.UnaryOp op a pos) (tUn r ta):=by
 intro J3 s σ H Q I h;exact UnaryOp_ (cE (ha J3 s σ H _ I h) fun v s1 ⟨x,H1,I1,r1,q1⟩=>ho J3 s1 σ H1 x v Q I1 r1 q1)
theorem Jd{f:Value->Value->Sem Value}{C:Int->Int->Prop}{g:Int->Int->Int}
  (rule:∀(i j:Int) (t u:Tok) (s:Shared) (Q:Zc) (E:Zc),C i j->Q (.int (g i j) s.toks) { s with toks:=s.toks+1 }->wpAny (model X.prog X.w) X.A (f (.int i t) (.int j u)) Q E s) :
  oH X f (rI C fun i j=>.int (g i j)):=by
 intro J3 s σ H x y v u Q I rx ry h;obtain⟨i,j,rfl,rfl,hc,q⟩:=h;obtain⟨t,rfl⟩:=rx;obtain⟨t',rfl⟩:=ry;exact rule i j t t' s _ _ hc ⟨.int (g i j),H,I.tok _,⟨_,rfl⟩,q⟩
theorem opI0{f:Value->Value->Sem Value}{g:Int->Int->Int}
  (rule:∀(i j:Int) (t u:Tok) (s:Shared) (Q:Zc) (E:Zc),Q (.int (g i j) s.toks) { s with toks:=s.toks+1 }->wpAny (model X.prog X.w) X.A (f (.int i t) (.int j u)) Q E s) :
  oH X f (Ee fun i j=>.int (g i j)):=by
 intro J3 s σ H x y v u Q I rx ry h;obtain⟨i,j,rfl,rfl,q⟩:=h;obtain⟨t,rfl⟩:=rx;obtain⟨t',rfl⟩:=ry;exact rule i j t t' s _ _ ⟨.int (g i j),H,I.tok _,⟨_,rfl⟩,q⟩
theorem GV{f:Value->Value->Sem Value}{g:Int->Int->Bool}
  (rule:∀(i j:Int) (t u:Tok) (s:Shared) (Q:Zc) (E:Zc),Q (.bool (g i j)) s->wpAny (model X.prog X.w) X.A (f (.int i t) (.int j u)) Q E s) :
  oH X f (Ee fun i j=>.bl (g i j)):=by
 intro J3 s σ H x y v u Q I rx ry h;obtain⟨i,j,rfl,rfl,q⟩:=h;obtain⟨t,rfl⟩:=rx;obtain⟨t',rfl⟩:=ry;exact rule i j t t' s _ _ ⟨.bl (g i j),H,I,rfl,q⟩
def IZ(i j:Int):Prop:=0<j/\j<1073741824
def IY(i j:Int):Prop:=0<=j/\j<=1000000/\i.natAbs<2 ^ 64
def FW(i j:Int):Prop:=(-(2 ^ 64)<i/\i<2 ^ 64)∨(-(2 ^ 64)<j/\j<2 ^ 64)
theorem FW.ok{i j:Int}(h:FW i j):IntMulOk i j:=by
 rcases h with⟨h1,h2⟩|⟨h1,h2⟩
 ·exact .of_left (intBits_le_64 h1 h2)
 ·exact .of_right (intBits_le_64 h1 h2)
theorem dz:oH X (qV .Add) (Ee fun i j=>.int (i+j)):=opI0 fun _ _ _ _ _ _ _ q=>add_int q
theorem iZ:oH X (qV .Mult) (rI FW fun i j=>.int (i * j)):=Jd fun _ _ _ _ _ _ _ hc q=>mul_int q hc.ok
theorem Ct:oH X (qV .FloorDiv) (rI IZ fun i j=>.int (i / j)):=Jd fun i j _ _ _ _ _ hc q=>by
 have h1:(0:Int)<j:=hc.1;have h2:j<1073741824:=hc.2;exact floordiv_int (by omega) (by rw[Int.fdiv_eq_ediv_of_nonneg i (by omega)];exact q) (.inl (PyProof.noPylong_small (by omega)))
theorem gQ:oH X (qV .Mod) (rI (fun _ j=>0<j) fun i j=>.int (i % j)):=Jd fun i j _ _ _ _ _ hc q=>by
 have h1:(0:Int)<j:=hc;exact mod_int' (by omega) (by rw[Int.fmod_eq_emod_of_nonneg i (by omega)];exact q)
theorem EY:oH X (qV .Pow) (rI IY fun i j=>.int (i ^ j.toNat)):=Jd fun _ _ _ _ _ _ _ hc q=>pow_int_small hc.1 hc.2.1 hc.2.2 q
theorem unI{f:Value->Sem Value}{g:Int->Int}
  (rule:∀(i:Int) (t:Tok) (s:Shared) (Q:Zc) (E:Zc),Q (.int (g i) s.toks) { s with toks:=s.toks+1 }->wpAny (model X.prog X.w) X.A (f (.int i t)) Q E s) :
  UnR X f (rU fun i=>.int (g i)):=by
 intro J3 s σ H x v Q I rx h;obtain⟨i,rfl,q⟩:=h;obtain⟨t,rfl⟩:=rx;exact rule i t s _ _ ⟨.int (g i),H,I.tok _,⟨_,rfl⟩,q⟩
theorem HJ:UnR X (unaryOp .USub) (rU fun i=>.int (-i)):=unI fun _ _ _ _ _ q=>neg_int q
end
def Iy:V->V->Bool
 |.non,.non=>true | .non,.int _=>true | .int _,.non=>true | .non,.bl _=>true | .bl _,.non=>true | .non,.str _=>true | .str _,.non=>true
 |.int _,.int _=>true | .bl _,.bl _=>true | .str _,.str _=>true | .byt _,.byt _=>true
 |.int _,.str _=>true | .str _,.int _=>true | .bl _,.str _=>true | .str _,.bl _=>true
 |_,_=>false
def yI:R2:=fun x y H Q=>Iy x y=true/\Q (.bl (decide (x=y))) H
def GI:R2:=fun x y H Q=>Iy x y=true/\Q (.bl (!decide (x=y))) H
theorem CN{i j:Int}:decide (V.int i=V.int j)=(i==j):=by
 rw[so];simp
theorem FI{i j:Bool}:decide (V.bl i=V.bl j)=(i==j):=by
 rw[so];simp
theorem CK{i j:Str}:decide (V.str i=V.str j)=(i==j):=by
 rw[so];simp
theorem CO{i j:Array UInt8}:decide (V.byt i=V.byt j)=(i.toList==j.toList):=by
 rw[so];cases i;cases j;simp
section
variable{X:Cx}{a b c:Expr}{ta tb tc:TE}{pos:Pos}
theorem bV{J3:Zd}{σ:St}{H:Hp}{s:Shared}{Q:VK}{k k':Bool}(I:Inv X J3 σ H s)(q:Q (.bl k) H)(e:k=k'):EP X J3 σ Q (.bool k') s:=by
 subst e;exact⟨.bl k,H,I,rfl,q⟩
theorem ir:oH X (eZ .Eq) yI:=by
 intro J3 s σ H x y v u Q I rx ry h;obtain⟨hs,q⟩:=h;cases x with
 |non =>
  cases rx;cases y with
  |non=>cases ry;exact PySem.EqNone.eq_none_none (bV I q (by simp))
  |bl j=>cases ry;exact PySem.EqNone.eq_none_bool (bV I q (by simp))
  |int j=>obtain⟨t',rfl⟩:=ry;exact PySem.EqNone.eq_none_int (bV I q (by simp))
  |str j=>obtain⟨t',rfl⟩:=ry;exact PySem.EqNone.eq_none_str (bV I q (by simp))
  |_=>exact absurd (show false=true from hs) fP
 |bl i =>
  cases rx;cases y with
  |non=>cases ry;exact PySem.EqNone.eq_bool_none (bV I q (by simp))
  |bl j=>cases ry;exact eq_bool (bV I q FI)
  |str j=>obtain⟨t',rfl⟩:=ry;exact PySem.EqMixed.eq_bool_str (bV I q (by simp))
  |_=>exact absurd (show false=true from hs) fP
 |int i =>
  obtain⟨t,rfl⟩:=rx;cases y with
  |non=>cases ry;exact PySem.EqNone.eq_int_none (bV I q (by simp))
  |int j=>obtain⟨t',rfl⟩:=ry;exact eq_int (bV I q CN)
  |str j=>obtain⟨t',rfl⟩:=ry;exact PySem.EqMixed.eq_int_str (bV I q (by simp))
  |_=>exact absurd (show false=true from hs) fP
 |str i =>
  obtain⟨t,rfl⟩:=rx;cases y with
  |non=>cases ry;exact PySem.EqNone.eq_str_none (bV I q (by simp))
  |bl j=>cases ry;exact PySem.EqMixed.eq_str_bool (bV I q (by simp))
  |int j=>obtain⟨t',rfl⟩:=ry;exact PySem.EqMixed.eq_str_int (bV I q (by simp))
  |str j=>obtain⟨t',rfl⟩:=ry;exact eq_str (bV I q CK)
  |_=>exact absurd (show false=true from hs) fP
 |byt i =>
  obtain⟨t,rfl⟩:=rx;cases y with
  |byt j=>obtain⟨t',rfl⟩:=ry;exact PySem.W.eq_bytes (bV I q CO)
  |_=>exact absurd (show false=true from hs) fP
 |_=>cases y<;>exact absurd (show false=true from hs) fP
theorem t6:oH X (eZ .NotEq) GI:=by
 intro J3 s σ H x y v u Q I rx ry h;obtain⟨hs,q⟩:=h;cases x with
 |non =>
  cases rx;cases y with
  |non=>cases ry;exact PySem.EqNone.ne_none_none (bV I q (by simp))
  |bl j=>cases ry;exact PySem.EqNone.ne_none_bool (bV I q (by simp))
  |int j=>obtain⟨t',rfl⟩:=ry;exact PySem.EqNone.ne_none_int (bV I q (by simp))
  |str j=>obtain⟨t',rfl⟩:=ry;exact PySem.EqNone.ne_none_str (bV I q (by simp))
  |_=>exact absurd (show false=true from hs) fP
 |bl i =>
  cases rx;cases y with
  |non=>cases ry;exact PySem.EqNone.ne_bool_none (bV I q (by simp))
  |bl j=>cases ry;exact ne_bool (bV I q (congrArg not FI))
  |str j=>obtain⟨t',rfl⟩:=ry;exact PySem.EqMixed.ne_bool_str (bV I q (by simp))
  |_=>exact absurd (show false=true from hs) fP
 |int i =>
  obtain⟨t,rfl⟩:=rx;cases y with
  |non=>cases ry;exact PySem.EqNone.ne_int_none (bV I q (by simp))
  |int j=>obtain⟨t',rfl⟩:=ry;exact ne_int (bV I q (congrArg not CN))
  |str j=>obtain⟨t',rfl⟩:=ry;exact PySem.EqMixed.ne_int_str (bV I q (by simp))
  |_=>exact absurd (show false=true from hs) fP
 |str i =>
  obtain⟨t,rfl⟩:=rx;cases y with
  |non=>cases ry;exact PySem.EqNone.ne_str_none (bV I q (by simp))
  |bl j=>cases ry;exact PySem.EqMixed.ne_str_bool (bV I q (by simp))
  |int j=>obtain⟨t',rfl⟩:=ry;exact PySem.EqMixed.ne_str_int (bV I q (by simp))
  |str j=>obtain⟨t',rfl⟩:=ry;exact ne_str (bV I q (congrArg not CK))
  |_=>exact absurd (show false=true from hs) fP
 |byt i =>
  obtain⟨t,rfl⟩:=rx;cases y with
  |byt j=>obtain⟨t',rfl⟩:=ry;exact PySem.W.ne_bytes (bV I q (congrArg not CO))
  |_=>exact absurd (show false=true from hs) fP
 |_=>cases y<;>exact absurd (show false=true from hs) fP
theorem t8:oH X (eZ .Lt) (Ee fun i j=>.bl (decide (i<j))):=GV fun _ _ _ _ _ _ _ q=>lt_int q
theorem ID:oH X (eZ .LtE) (Ee fun i j=>.bl (decide (i<=j))):=GV fun _ _ _ _ _ _ _ q=>le_int q
theorem vT:oH X (eZ .Gt) (Ee fun i j=>.bl (decide (j<i))):=GV fun _ _ _ _ _ _ _ q=>gt_int q
theorem IE:oH X (eZ .GtE) (Ee fun i j=>.bl (decide (j<=i))):=GV fun _ _ _ _ _ _ _ q=>ge_int q
theorem Dw:oH X (eZ .In) (fun x y H Q=>∃i j,x=.str i/\y=.str j/\Q (.bl (!(cy.Str.occurrences j i 0 j.length 1).isEmpty)) H):=by
 intro J3 s σ H x y v u Q I rx ry h;obtain⟨i,j,rfl,rfl,q⟩:=h;obtain⟨t,rfl⟩:=rx;obtain⟨t',rfl⟩:=ry;exact in_str (bV I q rfl)
theorem Fa(b:Expr){op:CmpOp}(h:op≠.In:=by decide)(h2:op≠.NotIn:=by decide):kO op b=false:=by
 have e1:(op==CmpOp.In)=false:=by cases op<;>first|rfl|exact absurd rfl h
 have e2:(op==CmpOp.NotIn)=false:=by cases op<;>first|rfl|exact absurd rfl h2
 cases b<;>simp[kO,e1,e2]
theorem Ck{op:CmpOp}{r:R2}(ho:oH X (eZ op) r)(ha:PE X a ta)(hb:PE X b tb)(hm:kO op b=false):PE X (.Compare a [op] [b] pos) (aH r ta tb):=by
 intro J3 s σ H Q I h;exact wpAny_Compare1 (Ii ha hb I h fun v u s2 x y H2 I2 rx ry q=>ho J3 s2 σ H2 x y v u Q I2 rx ry q) hm
def aO(t:TE):TT:=fun σ H Q=>t σ H fun x H'=>∃k,x=.bl k/\Q k H'
theorem Ch{op:CmpOp}{r:R2}(ho:oH X (eZ op) r)(ha:PE X a ta)(hb:PE X b tb)(hm:kO op b=false):PT X (.Compare a [op] [b] pos) (aO (aH r ta tb)):=by
 intro J3 s σ H Q I h;refine wpAny_isTrue_Compare1 (cE (ha J3 s σ H _ I h) fun v s1 ⟨x,H1,I1,r1,q1⟩=>cE (hb J3 s1 σ H1 _ I1 q1) fun u s2 ⟨y,H2,I2,r2,q2⟩ =>
  cE (ho J3 s2 σ H2 x y v u _ I2 r1 r2 q2) fun c s3 ⟨z,H3,I3,r3,k,e,q3⟩=>?_) hm
 subst e;cases r3;exact sH ⟨H3,I3,q3⟩
theorem qA:(ai:Nat)<2 ^ 63:=by rw[k7];decide
theorem t9:oH X (qV .Add) (fun x y H Q=>∃i j,x=.str i/\y=.str j/\i.length+j.length<=ai/\Q (.str (i++j)) H):=by
 intro J3 s σ H x y v u Q I rx ry h;obtain⟨i,j,rfl,rfl,hz,q⟩:=h;obtain⟨t,rfl⟩:=rx;obtain⟨t',rfl⟩:=ry;exact add_str (fun t' tk=>⟨.str (i++j),H,I.tok _,⟨_,rfl⟩,q⟩) hz
theorem vals1{x:V}{us:Zf}(r:bg [x] us):∃u,us=[u]/\RelV x u:=by
 cases r with
 |cons r1 r2=>cases r2;exact⟨_,rfl,r1⟩
theorem vals2{x y:V}{us:Zf}(r:bg [x,y] us):∃u w',us=[u,w']/\RelV x u/\RelV y w':=by
 cases r with
 |cons r1 r2 =>
  cases r2 with
  |cons r3 r4=>cases r4;exact⟨_,_,rfl,r1,r3⟩
theorem DZ(hc:X.calm=true):gv X (.builtin "max") (fun xs H Q=>∃i j,xs=[.int i,.int j]/\Q (.int (if j > i then j else i)) H):=by
 intro J3 s σ H xs us Q I r h;obtain⟨i,j,rfl,q⟩:=h;obtain⟨u,w',rfl,⟨t,rfl⟩,⟨t',rfl⟩⟩:=vals2 r;refine max_two_ints (I.ok.hd hc) fun h' tk k=>⟨_,H,I.kept k,?_,q⟩;by_cases hj:j > i
 ·rw[if_pos hj,if_pos hj];exact⟨_,rfl⟩
 ·rw[if_neg hj,if_neg hj];exact⟨_,rfl⟩
end
end L2
namespace L2
open PySem PySem.Spec PyProof.Rows
structure By(h:Heap)(x dx C:Addr)(mA:Str->Option Value):Prop where
 obj:h.get? x=some (qZ C dx)
 ns:h.Ns1 dx mA
 ne:dx≠x
theorem DC{h:Heap}{dx:Addr}{mA:Str->Option Value}(n:h.Ns1 dx mA):∃od,h.get? dx=some od/\∀name,BP name od=some (mA name):=by
 obtain⟨o,es,ep,ho,hd,hk,_,hm⟩:=n;refine⟨o,ho,fun name=>?_⟩;have e:=hm name;unfold nsFind findBy at e;rw[<-Array.find?_toList]at e;unfold BP;rw[hd];dsimp only;split
 ·rename_i y q;rw[q]at e;exact congrArg some e
 ·rename_i q;rw[q]at e;have a:es.toList.any (·.refKey)=false:=by
   rw[List.any_eq_false];intro y hy;obtain⟨z,t,hkey⟩:=hk y (Array.mem_toList_iff.mp hy);simp[jv.refKey,hkey]
  have a':¬es.toList.any (·.refKey)=true:=by rw[a];exact fP
  rw[if_neg a'];exact congrArg some e
theorem By.look{h:Heap}{x dx C:Addr}{mA:Str->Option Value}(I:By h x dx C mA):∃od,PySem.W.InstAt h x (qZ C dx) C (some od)/\∀name,BP name od=some (mA name) :=
 let⟨od,ho,hl⟩:=DC I.ns
 ⟨od,⟨I.obj,rfl,rfl,ho⟩,hl⟩
section
variable{prog:bT}{w:World}{A:Around}{E:Zc}{s:Shared}{K:Za}{x dx C f:Addr}{mA:Str->Option Value}{name:Str}{v:Value}
theorem G3{expr:Bool}{Q:Zc}(X:K.In s.heap)(I:By s.heap x dx C mA)(hg:vC K C name=true)(hh:yL K C=true)
  (ha:dF K (.ref C) name=some none) (hv:mA name=some v) (hv':PySem.W.handedIn v=true) (h:Q v { s with toks:=s.toks+1 }) :
  wpAny (model prog w) A (getAttr (.ref x) name expr) Q E s:=by
 obtain⟨od,J,hl⟩:=I.look;exact PySem.W.get_value X J (PySem.W.plainGet_of hg).1 (PySem.W.findObj_own hh ha rfl (by rw[hl,hv])) hv' h
theorem Fv{pl:Sem Bool}{Q:Value×List Value->Shared->Prop}(X:K.In s.heap)(I:By s.heap x dx C mA)(hg:vC K C name=true)
  (hf:dF K (.ref C) name=some (some (.ref f))) (ht:yJ K (.ref f)=true) (hv:mA name=none) (h:Q (.ref f,[.ref x]) s) :
  wpAny (model prog w) A (qU (.ref x) name pl) Q E s:=by
 obtain⟨od,J,hl⟩:=I.look;exact PySem.W.method_fn X J (PySem.W.plainGet_of hg).1 (PySem.W.plainGet_of hg).2 hf (beq_iff_eq.mp ht) (by show(BP name od).map (·.isSome)=some false;rw[hl,hv];rfl) h
theorem Gq{ns:Zb}{Q:Unit->Shared->Prop}(X:K.In s.heap)(I:By s.heap x dx C mA)
  (hs:dF K (.ref C) "__setattr__"=some (some (.builtin "object.__setattr__"))) (hp:BO K C=true) (ht:PySem.W.takerIn K C name=some none) (hh:yL K C=true)
  (hw:PySem.Within mA ns) (hsz:ns.length<=ai)
  (h:∀h',By h' x dx C (fun y=>if y=name then some v else mA y)->fG dx s.heap h'->Q () { s with heap:=h',toks:=s.toks+2 }) :
  wpAny (model prog w) A (setAttr (.ref x) name v) Q E s:=by
 obtain⟨od,J,hl⟩:=I.look;refine PySem.W.set_plain X J hs (PySem.W.osa_open (s:={ s with toks:=s.toks+1 }) (r:=none) X J hp ht fun b=>?_);obtain⟨cd,hc,hd'⟩:=PySem.W.any_some hh;have hx:s.heap.get? x=some ⟨.ref C,some dx,.plain,#[]⟩:=I.obj;refine am (aD (am (am (wpAny_loadPart hx (am (PySem.W.Looks.here (s:={ s with toks:=s.toks+1 }) (PySem.W.looks_clsIn X hc) ?_))))));rw[hd'];refine aD (a:=some dx) (am (aD (am ?_)));refine wpAny_nsSet1 (s:={ s with toks:=s.toks+1 }) I.ns fun h' hn2 hs2=>?_;obtain⟨oD,esD,epD,hoD,hdD,hcD⟩:=hn2.count (PySem.Within.cons name v hw);refine am (wpAny_lookBehind hoD (by rw[hdD];exact pastItsLine_dict (bG hcD (by rw[d4];omega))) ?_);exact aD (h _ ⟨(hs2.2 _ (dB I.ne)).trans I.obj,hn2,I.ne⟩ hs2)
theorem Fk{R:Result->Shared->Prop}{vs:Zf}{kw:List (Str×Value)}(X:K.In s.heap)(hm:sm K C=true)
  (hi:dF K (.ref C) "__init__"=some (some (.ref f))) (hf:PySem.W.typeIn K (.ref f)=some (.type "function"))
  (h:zzl79 (model prog w) (A.under (.builtin "type.__call__" ⟨.ref C::vs,kw⟩)) (.call (.ref f) ⟨.ref (s.heap.objs.size+1)::vs,kw⟩) (PySem.W.InitBack (s.heap.objs.size+1) R)
   { s with heap:=(s.heap.push oM).push (qZ C s.heap.objs.size) }) :
  zzl79 (model prog w) A (.call (.ref C) ⟨vs,kw⟩) R s:=by
 obtain⟨hh,g,d,t,os⟩:=s;exact PySem.W.make_core (PySem.W.makes_of X hm) (PySem.W.looks_findIn X hi) (fun self=>PySem.W.bind_fn X self hf) (.inl rfl) h
end
def cI(f:Str)(v:V):List (Str×V)->List (Str×V)
 |[]=>[(f,v)]
 | (g,x)::r=>if g=f then(g,v)::r else(g,x)::cI f v r
theorem eP(f g:Str)(v:V):∀fs:List (Str×V),(cI f v fs).lookup g=if g=f then some v else fs.lookup g
 |[]=>by
  show kN g [(f,v)]=_;by_cases h:g=f
  ·have hb:(g==f)=true:=beq_iff_eq.mpr h;simp only[kN,hb,if_pos h]
  ·have hb:(g==f)=false:=beq_eq_false_iff_ne.mpr h;simp only[kN,hb,if_neg h]
 | (k,x)::r=>by
  have ih:=eP f g v r;rw[show cI f v ((k,x)::r)=(if k=f then(k,v)::r else(k,x)::cI f v r)from rfl]
  by_cases hk:k=f
  ·rw[if_pos hk];by_cases h:g=k
   ·have hb:(g==k)=true:=beq_iff_eq.mpr h;simp only[kN,hb,if_pos (h.trans hk)]
   ·have hb:(g==k)=false:=beq_eq_false_iff_ne.mpr h;simp only[kN,hb,if_neg (fun e:g=f=>h (e.trans hk.symm))]
  ·rw[if_neg hk];by_cases h:g=k
   ·have hb:(g==k)=true:=beq_iff_eq.mpr h;simp only[kN,hb,if_neg (fun e:g=f=>hk (h.symm.trans e))]
   ·have hb:(g==k)=false:=beq_eq_false_iff_ne.mpr h;simp only[kN,hb];exact ih
theorem qD(f:Str)(v:V):∀fs:List (Str×V),f∈(cI f v fs).map (·.1)/\∀g,g∈fs.map (·.1)->g∈(cI f v fs).map (·.1)
 |[]=>⟨by simp[cI],fun g h=>by simp at h⟩
 | (k,x)::r=>by
  obtain⟨i1,i2⟩:=qD f v r;rw[show cI f v ((k,x)::r)=(if k=f then(k,v)::r else(k,x)::cI f v r)from rfl]
  by_cases hk:k=f
  ·rw[if_pos hk];subst hk;exact⟨by simp,fun g h=>by simpa using h⟩
  ·rw[if_neg hk];refine⟨?_,fun g h=>?_⟩
   ·rw[bN];exact eI _ i1
   ·rw[bN]at h ⊢;rcases cO.mp h with e|e
    ·exact cO.mpr (.inl e)
    ·exact eI _ (i2 g e)
theorem rh(f:Str)(v:V):∀fs:List (Str×V),(cI f v fs).length<=fs.length+1
 |[]=>by simp[cI]
 | (k,x)::r=>by
  have ih:=rh f v r;rw[show cI f v ((k,x)::r)=(if k=f then(k,v)::r else(k,x)::cI f v r)from rfl]
  by_cases hk:k=f
  ·rw[if_pos hk,d4,d4];omega
  ·rw[if_neg hk,d4,d4];omega
theorem k4.some_of{v:V}{o:Option Value}(r:k4 (some v) o):∃u,o=some u/\RelV v u:=by
 cases o with
 |none=>exact(show False from r).elim
 |some u=>exact⟨u,rfl,r⟩
theorem k4.none_of{o:Option Value}(r:k4 none o):o=none:=by
 cases o with
 |none=>rfl
 |some u=>exact(show False from r).elim
theorem DM{v:V}{u:Value}(r:RelV v u):PySem.W.handedIn u=true:=by
 cases v with
 |non=>cases(show u=Value.none from r);rfl
 |bl b=>cases(show u=Value.bool b from r);rfl
 |int i=>obtain⟨t,e⟩:=(show ∃t,u=Value.int i t from r);cases e;rfl
 |str x=>obtain⟨t,e⟩:=(show ∃t,u=Value.str x t from r);cases e;rfl
 |byt b=>obtain⟨t,e⟩:=(show ∃t,u=Value.bytes b t from r);cases e;rfl
 |flt b=>obtain⟨t,e⟩:=(show ∃t,u=Value.float b t from r);cases e;rfl
 |ref a=>cases(show u=Value.ref a from r);rfl
 |ty n=>cases(show u=Value.type n from r);rfl
section
variable{P:bT}{w:World}{H H':Hp}{h h':Heap}{a C dx:Addr}{fs fs':List (Str×V)}
theorem r_{K:Za}(hok:mL P w K H h)(e:H a=some (.ins C dx fs)):∃mA,By h a dx C mA/\(∀f,k4 (fs.lookup f) (mA f))/\PySem.Within mA (fs.map (·.1))/\fs.length<=1000/\H dx=some (.own a):=by
 obtain⟨d,z,ne,ob,mA,n,r,q⟩:=(show b9 P w K H h a (.ins C dx fs)from hok a _ e);exact⟨mA,⟨ob,n,ne⟩,r,q,z,d⟩
end
structure C1(K:Za)(C:Addr):Prop where
 pg:vC K C Str.empty=true
 hd:yL K C=true
 po:BO K C=true
 sa:dF K (.ref C) "__setattr__"=some (some (.builtin "object.__setattr__"))
theorem C1.get{K:Za}{C:Addr}(c:C1 K C)(f:Str):vC K C f=true:=c.pg
def dW(K:Za)(C:Addr)(f:Str):Prop:=dF K (.ref C) f=some none
theorem dW.taker{K:Za}{C:Addr}{f:Str}(n:dW K C f):PySem.W.takerIn K C f=some none:=by
 unfold PySem.W.takerIn;rw[show dF K (.ref C) f=some none from n]
 rfl
structure Hk(K:Za)(C:Addr)(m:Str)(f:Addr):Prop where
 at_:dF K (.ref C) m=some (some (.ref f))
 fn:yJ K (.ref f)=true
 kp:iN K (.ref f)=true
section
variable{X:Cx}{J3:Zd}{σ:St}{H:Hp}{s:Shared}{a C dx:Addr}{fs:List (Str×V)}{f:Str}{v:V}{A:Around}{E:Zc}
theorem Bn{b:Bool}{Q:Zc}(I:Inv X J3 σ H s)(e:H a=some (.ins C dx fs))(c:C1 X.K C)(n:dW X.K C f)(l:fs.lookup f=some v)
  (h:∀u s',Inv X J3 σ H s'->RelV v u->Q u s'):wpAny (model X.prog X.w) A (getAttr (.ref a) f b) Q E s:=by
 obtain⟨mA,O,r,_,_,_⟩:=r_ I.hok e;obtain⟨u,hu,ru⟩:=k4.some_of (v:=v) (o:=mA f) (by rw[<-l];exact r f);exact G3 I.kIn O (c.get f) c.hd n hu (DM ru) (h u _ (I.tok _) ru)
theorem uo{m:Str}{g:Addr}{pl:Sem Bool}{Q:Value×List Value->Shared->Prop}(I:Inv X J3 σ H s)(e:H a=some (.ins C dx fs))(c:C1 X.K C)(k:Hk X.K C m g)(l:fs.lookup m=none)
  (h:Q (.ref g,[.ref a]) s):wpAny (model X.prog X.w) A (qU (.ref a) m pl) Q E s:=by
 obtain⟨mA,O,r,_,_,_⟩:=r_ I.hok e;have hn:mA m=none:=k4.none_of (by rw[<-l];exact r m);exact Fv I.kIn O (c.get m) k.at_ k.fn hn h
theorem AK{y:V}{u:Value}{Q:Unit->Shared->Prop}(I:Inv X J3 σ H s)(e:H a=some (.ins C dx fs))(c:C1 X.K C)(n:dW X.K C f)(hl:fs.length<1000)(ry:RelV y u)
  (h:∀s',Inv X J3 σ (upd H a (.ins C dx (cI f y fs))) s'->Q () s'):wpAny (model X.prog X.w) A (setAttr (.ref a) f u) Q E s:=by
 obtain⟨mA,O,r,wi,_,ho⟩:=r_ I.hok e;have hz:(fs.map (·.1)).length<=ai:=by rw[aj,k7];omega
 refine Gq I.kIn O c.sa c.po n.taker c.hd wi hz fun h' O' sb=>h _ ?_;have hd:∃o,h'.get? dx=some o:=let⟨o,_,_,e',_⟩:=O'.ns;⟨o,e'⟩;refine I.write (x:=a) (e:=dx) (by rw[e];exact je) (.inr ho) (fun b q hb z=>(sb.2 b hb).trans z) hd ?_;refine⟨by rw[ag O.ne];exact ho,?_,O.ne,O'.obj,_,O'.ns,fun g=>?_,fun g hg=>?_⟩
 ·have:=rh f y fs;omega
 ·show k4 ((cI f y fs).lookup g) (if g=f then some u else mA g)
  rw[eP];by_cases q:g=f
  ·rw[if_pos q,if_pos q];exact ry
  ·rw[if_neg q,if_neg q];exact r g
 ·by_cases q:g=f
  ·rw[q];exact(qD f y fs).1
  ·refine(qD f y fs).2 g (wi g fun z=>hg ?_);show(if g=f then some u else mA g)=none
   rw[if_neg q];exact z
theorem Inv.made(I:Inv X J3 σ H s):Inv X J3 σ (upd (upd H s.heap.objs.size (.own (s.heap.objs.size+1))) (s.heap.objs.size+1) (.ins C s.heap.objs.size []))
  { s with heap:=(s.heap.push oM).push (qZ C s.heap.objs.size) }:=by
 have e1:(s.heap.push oM).get? s.heap.objs.size=some oM:=cF s.heap rfl;have e2:((s.heap.push oM).push (qZ C s.heap.objs.size)).get? (s.heap.objs.size+1)=some (qZ C s.heap.objs.size):=by
  have:=cF (s.heap.push oM) (o:=qZ C s.heap.objs.size) rfl;rwa[oK]at this
 have e3:(s.heap.push oM).Ns s.heap.objs.size (fun _=>none):=⟨oM,#[],_,e1,rfl,(fun e he=>absurd he (by simp)),fun _=>rfl⟩;have I1:=I.laid (a:=s.heap.objs.size) (o:=.own (s.heap.objs.size+1)) (h':=s.heap.push oM) (t':=s.toks) (fun b u q=>bw _ q) (aB _) ⟨_,e1⟩;refine I1.laid (a:=s.heap.objs.size+1) (o:=.ins C s.heap.objs.size []) (t':=s.toks) (fun b u q=>bw _ q) (Nat.le_of_eq (oK _ _)) ?_;have ne:s.heap.objs.size≠s.heap.objs.size+1:=de (Nat.lt_succ_self _);refine⟨by rw[ag ne,aa],db _,ne,e2,fun _=>none,(Heap.Ns1.of_empty e3).at fun o q=>bw _ q,fun _=>je,fun y hy=>absurd rfl hy⟩
theorem Hc{prog:bT}{w:World}{env:Env}{e:Expr}{f:Str}{pos:Pos}{s:Shared}{Q:Zc}(hb:sk e f env (eval e env)=eval e env)
  (h:wpAny (model prog w) A (eval e env) (fun o s₁=>wpAny (model prog w) A (getAttr o f true) Q E s₁) E s):wpAny (model prog w) A (eval (.Attribute e f pos) env) Q E s :=
 Attribute_any_ h (by rw[arm_eval_Attribute,hb])
end
def fS(K:Za)(ta:TE)(f:Str):TE:=fun σ H Q=>ta σ H fun x H1=>∃a C dx fs v,x=.ref a/\H1 a=some (.ins C dx fs)/\C1 K C/\dW K C f/\fs.lookup f=some v/\Q v H1
def o9(K:Za)(ta tv:TE)(f:Str):TS:=fun D σ H=>tv σ H fun y H1=>ta σ H1 fun x H2=>∃a C dx fs,x=.ref a/\H2 a=some (.ins C dx fs)/\C1 K C/\dW K C f/\fs.length<1000 /\
 D.nx σ (upd H2 a (.ins C dx (cI f y fs)))
section
variable{X:Cx}{o e value:Expr}{f:Str}{pos pos' J7:Pos}{ta tv:TE}
theorem cp(he:PE X e ta)(hb:sk e f X.env (eval e X.env)=eval e X.env):PE X (.Attribute e f pos) (fS X.K ta f):=by
 intro J3 s σ H Q I h;refine Hc hb (cE (he J3 s σ H _ I h) fun u s1 ⟨x,H1,I1,rx,a,C,dx,fs,v,ex,ea,c,n,l,q⟩=>?_);subst ex;obtain rfl:u=Value.ref a:=rx;exact Bn I1 ea c n l fun u' s2 I2 ru=>⟨v,H1,I2,ru,q⟩
theorem gP(ha:PE X o ta)(hv:PE X value tv)(hs:qW value (some (.Attribute o f pos')) pos.line X.env=pure false):PS X (.Assign [.Attribute o f pos'] value pos) (o9 X.K ta tv f):=by
 intro J3 s σ H D I h;refine plainObj_wpAny_Assign_Attribute (cE (hv J3 s σ H _ I h) fun u s1 ⟨y,H1,I1,ry,q⟩=>cE (ha J3 s1 σ H1 _ I1 q) fun ov s2 ⟨x,H2,I2,rx,a,C,dx,fs,ex,ea,c,n,l,q2⟩=>?_) hs;subst ex;obtain rfl:ov=Value.ref a:=rx;exact AK I2 ea c n l ry fun s3 I3=>⟨σ,_,I3,q2⟩
end
section
variable{X:Cx}{J3:Zd}{σ:St}{H:Hp}{s:Shared}{A:Around}{E:Zc}{Q:Zc}{c:Value}{b:Bool}
inductive kC(K:Za)(H:Hp):V->Value->Prop where
 |non:kC K H .non (.type "NoneType")
 |bl (x:Bool):kC K H (.bl x) (.type "bool")
 |int (i:Int):kC K H (.int i) (.type "int")
 |str (x:Str):kC K H (.str x) (.type "str")
 |flt (x:UInt64):kC K H (.flt x) (.type "float")
 |lst {a:Addr}{xs:List V}(e:H a=some (.lst xs)):kC K H (.ref a) (.type "list")
 |frz {a:Addr}{o:Obj}{xs:List V}(e:H a=some (.frz o (.lst xs))):kC K H (.ref a) (.type "list")
 |tup {a:Addr}{xs:List V}(e:H a=some (.tup xs)):kC K H (.ref a) (.type "tuple")
 |dK {a:Addr}{kvs:List (eX×V)}(e:H a=some (.dK kvs)):kC K H (.ref a) (.type "dict")
 |dT {a:Addr}{kvs:List (TK×V)}(e:H a=some (.dT kvs)):kC K H (.ref a) (.type "dict")
 |ins {a C dx:Addr}{fs:List (Str×V)}(e:H a=some (.ins C dx fs)) (cl:C1 K C) (ha:dF K (.ref C) "__class__"=some (some (.builtin "object.__class__")))
   (hn:PySem.W.specialIn K (.builtin "object.__class__") "__get__"=some (some (.builtin "getset_descriptor.__get__"))) (htk:PySem.W.takesIn K (.builtin "object.__class__")=some true)
   (hm:PySem.W.mroIn K C (.type "object")=some true):kC K H (.ref a) (.ref C)
theorem DF{x:V}{u t:Value}(I:Inv X J3 σ H s)(rx:RelV x u)(ty:kC X.K H x t)(e:BN X.K t c=some b)(h:∀tk,Q (.bool b) { s with toks:=tk }):
  wpAny (model X.prog X.w) A (call (.builtin "isinstance") [u,c]) Q E s:=by
 cases ty with
 |non=>cases(show u=Value.none from rx);exact jK PySem.W.kitx_none I.kIn je e (fun z=>nomatch z) h
 |bl y=>cases(show u=Value.bool y from rx);exact jK PySem.W.kitx_bool I.kIn je e (fun z=>nomatch z) h
 |int i=>obtain⟨t,q⟩:=(show ∃t,u=Value.int i t from rx);cases q;exact jK PySem.W.kitx_int I.kIn je e (fun z=>nomatch z) h
 |str y=>obtain⟨t,q⟩:=(show ∃t,u=Value.str y t from rx);cases q;exact jK PySem.W.kitx_str I.kIn je e (fun z=>nomatch z) h
 |flt y=>obtain⟨t,q⟩:=(show ∃t,u=Value.float y t from rx);cases q;exact jK PySem.W.kitx_float I.kIn je e (fun z=>nomatch z) h
 |@lst a xs ea =>
  cases(show u=Value.ref a from rx);obtain⟨_,_,n,_,h1⟩:=(show b9 X.prog X.w X.K H s.heap a (.lst xs)from I.hok a _ ea);exact jK PySem.W.kitx_list I.kIn ⟨_,h1,rfl⟩ e (fun z=>nomatch z) h
 |@frz a ob xs ea =>
  cases(show u=Value.ref a from rx);obtain⟨_,_,_,n,_,h1⟩:=(show b9 X.prog X.w X.K H s.heap a (.frz ob (.lst xs))from I.hok a _ ea);exact jK PySem.W.kitx_list I.kIn ⟨_,h1,rfl⟩ e (fun z=>nomatch z) h
 |@tup a xs ea =>
  cases(show u=Value.ref a from rx);obtain⟨_,_,_,p⟩:=(show b9 X.prog X.w X.K H s.heap a (.tup xs)from I.hok a _ ea);obtain⟨o,h1,h2,_⟩:=p;exact jK PySem.W.kitx_tuple I.kIn ⟨o,h1,h2⟩ e (fun z=>nomatch z) h
 |@dK a kvs ea =>
  cases(show u=Value.ref a from rx);obtain⟨_,_,vs,_,p⟩:=(show b9 X.prog X.w X.K H s.heap a (.dK kvs)from I.hok a _ ea);obtain⟨o,es,ep,h1,h2,_⟩:=p;exact jK PySem.W.kitx_dict I.kIn ⟨o,h1,h2.1⟩ e (fun z=>nomatch z) h
 |@dT a kvs ea =>
  cases(show u=Value.ref a from rx);obtain⟨_,_,xs,_,o,es,ep,h1,h2,_⟩:=(show b9 X.prog X.w X.K H s.heap a (.dT kvs)from I.hok a _ ea);exact jK PySem.W.kitx_dict I.kIn ⟨o,h1,h2.1⟩ e (fun z=>nomatch z) h
 |@ins a C dx fs ea cl ha hn htk hm =>
  cases(show u=Value.ref a from rx);obtain⟨mA,O,_⟩:=r_ I.hok ea;obtain⟨od,J,_⟩:=O.look;exact jK (PySem.W.kitx_own (cl.get _) cl.hd ha hn htk hm) I.kIn J e (fun z=>nomatch z) h
end
end L2
namespace L2
open PySem PySem.Spec PyProof.Rows
structure eW(k:Nat)(A:Around):Prop where
 hd:A.handled=none
 dp:A.depth+3 * k+5<recursionLimit
 un:A.units+16 * k+200<cLine
theorem eW.mono{j k:Nat}{A:Around}(r:eW k A)(h:j<=k):eW j A:=⟨r.hd,by have:=r.dp;omega,by have:=r.un;omega⟩
theorem eW.deeper{k:Nat}{A:Around}(r:eW (k+1) A)(env:Env):eW k (A.deeper env) :=
 ⟨r.hd,by have:=r.dp;show A.depth+1+3 * k+5<_;omega,by have:=r.un;show A.units+3+16 * k+200<_;omega⟩
theorem Be{A:Around}{C:Addr}{us:Zf}{kw:List (Str×Value)}:(A.under (.builtin "type.__call__" ⟨.ref C::us,kw⟩)).depth=A.depth+1:=by
 first|rfl|simp[Around.under,Code.weight,Code.isCreation,Code.isGuard,Code.isCaller,Code.frames,Code.isFrame,guardIds]
theorem Bd{A:Around}{C:Addr}{us:Zf}{kw:List (Str×Value)}:(A.under (.builtin "type.__call__" ⟨.ref C::us,kw⟩)).units=A.units+1:=by
 first|rfl|simp[Around.under,Code.cUnits,Code.frames,Code.isFrame]
theorem eW.make{k:Nat}{A:Around}(r:eW (k+1) A)(C:Addr)(us:Zf)(kw:List (Str×Value)):eW k (A.under (.builtin "type.__call__" ⟨.ref C::us,kw⟩)) :=
 ⟨r.hd,by have:=r.dp;rw[Be];omega,by have:=r.un;rw[Bd];omega⟩
theorem eW.depth{k:Nat}{A:Around}(r:eW k A):A.depth<recursionLimit:=by have:=r.dp;omega
theorem eW.units{k:Nat}{A:Around}(r:eW k A):A.units+64<cLine:=by have:=r.un;omega
def bq:TA:=fun _ H Q=>Q [] H
def ar(ta:TE)(tr:TA):TA:=fun σ H Q=>ta σ H fun x H1=>tr σ H1 fun xs H2=>Q (x::xs) H2
abbrev az(a:TE):TA:=ar a bq
abbrev aR(a b:TE):TA:=ar a (ar b bq)
abbrev eB(a b c:TE):TA:=ar a (ar b (ar c bq))
section
variable{X:Cx}{e:Expr}{es:List Expr}{te:TE}{t:TA}{pos:Pos}
theorem cw:PA X [] bq:=fun _ _ _ _ H Q I h=>Calls.spliced_nil ⟨[],H,I,.nil,h⟩
theorem bX(ha:PE X e te)(hr:PA X es t)(hs:aN (e::es) X.env=(false,eval e X.env)::aN es X.env:=by rfl):PA X (e::es) (ar te t):=by
 intro pos J3 s σ H Q I h;rw[hs];show wpAny _ _ (spliced ((false,eval e X.env)::backTo pos (aN es X.env))) _ _ s;refine BM (cE (ha J3 s σ H _ I h) fun u s1 ⟨x,H1,I1,r1,q1⟩=>?_);exact cE (hr pos J3 s1 σ H1 _ I1 q1) fun us s2 ⟨xs,H2,I2,r2,q2⟩=>⟨x::xs,H2,I2,.cons r1 r2,q2⟩
def bD(t:TA):TE:=fun σ H Q=>t σ H fun xs H1=>xs.length<=ai/\∀p,H1 p=none->Q (.ref p) (upd H1 p (.tup xs))
def eG(t:TA):TE:=fun σ H Q=>t σ H fun xs H1=>xs.length<=ai/\∀p,H1 p=none->Q (.ref p) (upd H1 p (.lst xs))
theorem aG{x1}(h:PA X es t):PE X (.Tuple es x1 pos) (bD t):=by
 intro J3 s σ H Q I hq;refine wpAny_Tuple_spliced (cE (h pos J3 s σ H _ I hq) fun us s1 ⟨xs,H1,I1,r,z,q⟩=>⟨by rw[<-r.length];exact z,?_⟩);have hf:H1 s1.heap.objs.size=none:=I1.hok.fresh (aB _);refine⟨.ref s1.heap.objs.size,upd H1 s1.heap.objs.size (.tup xs),I1.laid (t':=s1.toks) (fun b u e=>bw _ e) (aB _) ?_,rfl,q _ hf⟩;exact⟨z,us,r,⟨_,cF _ rfl,rfl,_,rfl⟩⟩
theorem bO(h:PA X es t):PE X (.List es pos) (eG t):=by
 intro J3 s σ H Q I hq;refine wpAny_List_spliced (cE (h pos J3 s σ H _ I hq) fun us s1 ⟨xs,H1,I1,r,z,q⟩=>⟨by rw[<-r.length];exact z,?_⟩);have hf:H1 s1.heap.objs.size=none:=I1.hok.fresh (aB _);refine⟨.ref s1.heap.objs.size,upd H1 s1.heap.objs.size (.lst xs),I1.laid (t':=s1.toks) (fun b u e=>bw _ e) (aB _) ?_,rfl,q _ hf⟩;exact⟨z,us,0,r,cF _ rfl⟩
end
abbrev Sp:=List V->Hp->VK->XK->Prop
abbrev Ei:=List Env->Hp->Shared->XK->Value->Shared->Prop
structure BI(P:bT)(w:World)(K:Za)(mg:Str->Option Value)(base:Heap)(A:Around)(outer:List Env)(s:Shared)(H:Hp):Prop where
 frames:A.frames=some outer
 mod:Mod K mg base
 bs:∀b o,base.get? b=some o->s.heap.get? b=some o/\H b=none
 bsz:base.objs.size<=s.heap.objs.size
 funs:s.heap.FunFrames base outer
 frf:∀b∈Eg outer,H b=none
 hok:mL P w K H s.heap
 bare:oN s.gens
def CE(outer:List Env)(P:bT)(w:World)(K:Za)(H:Hp)(s:Shared)(Q:VK)(u:Value)(s':Shared):Prop :=
 ∃v H',s'.os=s.os/\oN s'.gens/\Un (Eg outer) [] H H' s.heap s'.heap/\mL P w K H' s'.heap/\RelV v u/\Q v H'
def CR(CX:Ei)(outer:List Env)(P:bT)(w:World)(K:Za)(H:Hp)(s:Shared)(Q:VK)(E:XK)(r:Result)(s':Shared):Prop :=
 match r with
 |.ok (.ret u)=>CE outer P w K H s Q u s'
 |.ok _=>False
 |.error e=>CX outer H s E e s'
structure m_(P:bT)(w:World)(K:Za)(mg:Str->Option Value)(base:Heap)(CX:Ei)(k:Nat)(f:Addr)(fd:k5)(ps:Zb)(sp:Sp):Prop where
 len:∀vs H Q E,sp vs H Q E->vs.length=ps.length
 run:∀(A:Around) (outer:List Env) (s:Shared) (H:Hp) (args:Args) (us:Zf) (vs:List V) (Q:VK) (E:XK),eW k A->BI P w K mg base A outer s H->sj s fd args (ps.zip us)->bg vs us->sp vs H Q E ->
  zzl79 (model P w) A (.call (.ref f) args) (CR CX outer P w K H s Q E) s
theorem BI.make{P:bT}{w:World}{K:Za}{mg:Str->Option Value}{base:Heap}{A:Around}{outer:List Env}{s:Shared}{H:Hp}(e:BI P w K mg base A outer s H)(C:Addr)(us:Zf)(kw:List (Str×Value)):
  BI P w K mg base (A.under (.builtin "type.__call__" ⟨.ref C::us,kw⟩)) outer s H:=⟨by first|exact e.frames|(simpa[Around.under,Code.envs,Code.isFrame,pushEnvs]using e.frames),e.mod,e.bs,e.bsz,e.funs,e.frf,e.hok,e.bare⟩
section
variable{X:Cx}{J3:Zd}{σ:St}{H:Hp}{s s':Shared}
theorem Inv.env0(I:Inv X J3 σ H s):BI X.prog X.w X.K X.mg X.base X.A X.stack s H :=
 ⟨I.ok.frames,I.ok.mod,I.bs,bG I.ok.bsz I.sz,I.stack,I.stkFree,I.hok,I.bare⟩
theorem Inv.after{Q:VK}{u:Value}(I:Inv X J3 σ H s)(h:CE X.stack X.prog X.w X.K H s Q u s'):EP X J3 σ Q u s':=by
 obtain⟨v,H',os,bare,un,hok,r,q⟩:=h;obtain⟨hh,g,d,t,os'⟩:=s';obtain rfl:os'=s.os:=os;exact⟨v,H',I.call (h':=hh) (g':=g) (d':=d) (t':=t) (ch:=[]) un hok bare (fun b z=>absurd z (by simp)),r,q⟩
end
def Hq(sp:Sp)(dvs:List V)(E:XK)(t:TA):TE:=fun σ H Q=>t σ H fun vs H1=>sp (vs++dvs) H1 Q E
def cX(C:Addr)(m:Str)(sp:Sp)(dvs:List V)(E:XK)(ta:TE)(t:TA):TE:=fun σ H Q=>ta σ H fun x H1=>∃a dx fs,x=.ref a/\H1 a=some (.ins C dx fs)/\fs.lookup m=none /\
 t σ H1 fun vs H2=>sp (x::(vs++dvs)) H2 Q E
def yV(C:Addr)(sp:Sp)(dvs:List V)(E:XK)(t:TA):TE:=fun σ H Q=>t σ H fun vs H1=>∀x dx,H1 x=none->H1 dx=none->dx≠x ->
 sp (.ref x::(vs++dvs)) (upd (upd H1 dx (.own x)) x (.ins C dx [])) (fun v H2=>v=.non/\Q (.ref x) H2) E
def Binds(K:Za)(fd:k5)(ps:Zb)(ds:Zf):Prop :=
 ∀(s:Shared) (us:Zf),K.In s.heap->(us++ds).length=ps.length->sj s fd ⟨us,[]⟩ (ps.zip (us++ds))
theorem Binds.all{K:Za}{fd:k5}{ps:Zb}(h:∀us:List Value,us.length=ps.length->bindArgs fd ⟨us,[]⟩=pure (ps.zip us)):Binds K fd ps []:=fun s us _ hl=>by
 rw[dI]at hl ⊢;exact .of_eq (h us hl)
def og(CX:Ei)(X:Cx)(E:XK):Prop:=∀(J3:Zd) (σ:St) (H:Hp) (s:Shared) (e:Value) (s':Shared),Inv X J3 σ H s->CX X.stack H s E e s'->X.xe e s'
section
variable{X:Cx}{CX:Ei}{k:Nat}{f C:Addr}{fd:k5}{ps:Zb}{sp:Sp}{dvs:List V}{ds:Zf}{E:XK}{x m:Str}{p pos J5:Pos}{e o:Expr}{es:List Expr}{ta:TE}{t:TA}
theorem AM{J3:Zd}{σ:St}{H:Hp}{s:Shared}{Q:VK}{us:Zf}{vs:List V}(F:m_ X.prog X.w X.K X.mg X.base CX k f fd ps sp)(hr:eW k X.A)(hb:Binds X.K fd ps ds)(hd:bg dvs ds)(hx:og CX X E)
  (I:Inv X J3 σ H s) (r:bg vs us) (h:sp (vs++dvs) H Q E):wpAny (model X.prog X.w) X.A (call (.ref f) us) (EP X J3 σ Q) X.xe s:=by
 have r2:bg (vs++dvs) (us++ds):=r.append hd;have hl:(us++ds).length=ps.length:=by rw[<-r2.length];exact F.len _ _ _ _ h
 refine wpAny_call (BL (F.run X.A X.stack s H ⟨us,[]⟩ (us++ds) (vs++dvs) Q E hr I.env0 (hb s us I.kIn hl) r2 h) fun r s' hq=>?_);cases r with
 |error e=>exact hx J3 σ H s e s' I hq
 |ok fl =>
  cases fl with
  |ret u=>exact I.after hq
  |next=>exact jL hq
  |brk=>exact jL hq
  |cont=>exact jL hq
theorem GU(F:m_ X.prog X.w X.K X.mg X.base CX k f fd ps sp)(hr:eW k X.A)(hg:Gl X x)(hm:X.mg x=some (.ref f))(hk:iN X.K (.ref f)=true)(hb:Binds X.K fd ps ds)(hd:bg dvs ds)(hx:og CX X E)
  (ha:PA X (e::es) t) (hdb:(x==("__debug__":Str))=false:=by decide) (he:aN (e::es) X.env=(false,eval e X.env)::aN es X.env:=by rfl) (hpl:(backTo pos (aN es X.env)).any (·.1)=false:=by rfl) :
  PE X (.Call (.Name x p) (e::es) [] pos) (Hq sp dvs E t):=by
 intro J3 s σ H Q I h;refine BK (xU I hg hm ?_ hdb);refine PySem.W.callWith_K (h₀:=X.base) I.ok.mod.kin hk (cE (ha pos J3 s σ H _ I h) fun us s1 ⟨vs,H1,I1,r,q⟩=>⟨I1.kIn,?_⟩) he hpl;exact AM F hr hb hd hx I1 r q
theorem GP{pl:Sem Bool}(he:PE X o ta)(c:C1 X.K C)(hm:Hk X.K C m f)(F:m_ X.prog X.w X.K X.mg X.base CX k f fd ps sp)(hr:eW k X.A)(hb:Binds X.K fd ps ds)(hd:bg dvs ds)(hx:og CX X E)(ha:PA X (e::es) t)
  (hst:aN (e::es) X.env=(false,eval e X.env)::aN es X.env:=by rfl) (hpl:(backTo pos (aN es X.env)).any (·.1)=false:=by rfl)
  (ht:eval (.Call (.Attribute o m J5) (e::es) [] pos) X.env=(do
   let ov <- eval o X.env
   qX J5.atName
   let(f,first) <- k9 [ov] (qU ov m pl)
   vB pos f first (backTo pos (aN (e::es) X.env)) (oJ pos (oI [] X.env))):=by rfl) :
  PE X (.Call (.Attribute o m J5) (e::es) [] pos) (cX C m sp dvs E ta t):=by
 intro J3 s σ H Q I h;refine PySem.W.methodCall_KW (pl:=pl) (cE (he J3 s σ H _ I h) fun u s1 ⟨x,H1,I1,rx,a,dx,fs,ex,ea,l,q⟩=>?_) ht;subst ex;obtain rfl:u=Value.ref a:=rx;refine uo I1 ea c hm l ?_;refine PySem.W.callWith_K (first:=[.ref a]) (h₀:=X.base) I.ok.mod.kin hm.kp (cE (ha pos J3 s1 σ H1 _ I1 q) fun us s2 ⟨vs,H2,I2,r,q2⟩=>⟨I2.kIn,?_⟩) hst hpl
 exact AM (us:=.ref a::us) (vs:=.ref a::vs) F hr hb hd hx I2 (.cons rfl r) q2
theorem EW{pl:Sem Bool}(he:PE X o ta)(c:C1 X.K C)(hm:Hk X.K C m f)(F:m_ X.prog X.w X.K X.mg X.base CX k f fd ps sp)(hr:eW k X.A)(hb:Binds X.K fd ps ds)(hd:bg dvs ds)(hx:og CX X E)
  (ht:eval (.Call (.Attribute o m J5) [] [] pos) X.env=(do
   let ov <- eval o X.env
   qX J5.atName
   let(f,first) <- k9 [ov] (qU ov m pl)
   vB pos f first (backTo pos (aN [] X.env)) (oJ pos (oI [] X.env))):=by rfl) :
  PE X (.Call (.Attribute o m J5) [] [] pos) (cX C m sp dvs E ta bq):=by
 intro J3 s σ H Q I h;refine PySem.W.methodCall_KW (pl:=pl) (cE (he J3 s σ H _ I h) fun u s1 ⟨x,H1,I1,rx,a,dx,fs,ex,ea,l,q⟩=>?_) ht;subst ex;obtain rfl:u=Value.ref a:=rx;refine uo I1 ea c hm l ?_;exact PySem.W.callWith_K0 (first:=[.ref a]) I1.kIn hm.kp (AM (us:=[.ref a]) (vs:=[.ref a]) F hr hb hd hx I1 (.cons rfl .nil) q)
structure Mk(K:Za)(C f:Addr):Prop where
 makes:sm K C=true
 init:dF K (.ref C) "__init__"=some (some (.ref f))
 fn:yJ K (.ref f)=true
 kp:iN K (.ref C)=true
theorem Ez{J3:Zd}{σ:St}{H:Hp}{s:Shared}{Q:VK}{us:Zf}{vs:List V}(M:Mk X.K C f)(F:m_ X.prog X.w X.K X.mg X.base CX k f fd ps sp)(hr:eW (k+1) X.A)(hb:Binds X.K fd ps ds)(hd:bg dvs ds)
  (hx:og CX X E) (I:Inv X J3 σ H s) (r:bg vs us)
  (h:∀x dx,H x=none->H dx=none->dx≠x->sp (.ref x::(vs++dvs)) (upd (upd H dx (.own x)) x (.ins C dx [])) (fun v H2=>v=.non/\Q (.ref x) H2) E) :
  wpAny (model X.prog X.w) X.A (call (.ref C) us) (EP X J3 σ Q) X.xe s:=by
 have hq:=h (s.heap.objs.size+1) s.heap.objs.size (I.hok.fresh (si _)) (I.hok.fresh (aB _)) (de (Nat.lt_succ_self _));have I2:=Inv.made (C:=C) I;have r2:bg (V.ref (s.heap.objs.size+1)::(vs++dvs)) (Value.ref (s.heap.objs.size+1)::(us++ds)):=.cons rfl (r.append hd);have hl:(Value.ref (s.heap.objs.size+1)::us++ds).length=ps.length:=by
  have e:=r2.length;rw[F.len _ _ _ _ hq]at e;exact e.symm
 refine wpAny_call (Fk (f:=f) I.kIn M.makes M.init (beq_iff_eq.mp M.fn) (BL (F.run _ X.stack _ _ ⟨Value.ref (s.heap.objs.size+1)::us,[]⟩ (Value.ref (s.heap.objs.size+1)::(us++ds)) _ _ E (hr.make C us [])
  (I2.env0.make C us []) (hb _ (Value.ref (s.heap.objs.size+1)::us) I2.kIn hl) r2 hq) fun r s' hq'=>?_))
 cases r with
 |error e=>exact hx J3 σ _ _ e s' I2 hq'
 |ok fl =>
  cases fl with
  |ret u =>
   obtain⟨v,H',I3,rv,ev,q3⟩:=I2.after hq';subst ev;exact⟨rv,⟨V.ref (s.heap.objs.size+1),H',I3,rfl,q3⟩⟩
  |next=>exact jL hq'
  |brk=>exact jL hq'
  |cont=>exact jL hq'
theorem GQ(M:Mk X.K C f)(F:m_ X.prog X.w X.K X.mg X.base CX k f fd ps sp)(hr:eW (k+1) X.A)(hg:Gl X x)(hm:X.mg x=some (.ref C))(hb:Binds X.K fd ps ds)(hd:bg dvs ds)(hx:og CX X E)
  (ha:PA X (e::es) t) (hdb:(x==("__debug__":Str))=false:=by decide) (he:aN (e::es) X.env=(false,eval e X.env)::aN es X.env:=by rfl) (hpl:(backTo pos (aN es X.env)).any (·.1)=false:=by rfl) :
  PE X (.Call (.Name x p) (e::es) [] pos) (yV C sp dvs E t):=by
 intro J3 s σ H Q I h;refine BK (xU I hg hm ?_ hdb);refine PySem.W.callWith_K (h₀:=X.base) I.ok.mod.kin M.kp (cE (ha pos J3 s σ H _ I h) fun us s1 ⟨vs,H1,I1,r,q⟩=>⟨I1.kIn,?_⟩) he hpl;exact Ez M F hr hb hd hx I1 r q
end
structure kF(N P:Zb)(sc:Scope):Prop where
 kind:sc.kind=.function
 co:sc.isCoroutine=false
 gen:sc.isGenerator=false
 nd:N.Nodup
 pre:N.take P.length=P
 par:∀x∈P,sc.names.lookup x=some .local∨sc.names.lookup x=some .cell
 nofree:∀y∈sc.names,y.2≠.free
theorem we{kindOf:Str->Option jJ}{x:Str}:∀{binds:List (Str×Value)}{m:Str->Option Value},(∀v,(x,v)∉binds)->bindL kindOf binds m x=m x
 |[],_,_=>rfl
 | (n,v)::r,m,h=>by
  unfold bindL;rw[we fun w hw=>h w (eI _ hw)];split
  ·have:x≠n:=by rintro rfl;exact h v dO
   simp[this]
  ·rfl
theorem wg{kindOf:Str->Option jJ}{x:Str}:∀{binds:List (Str×Value)}{m:Str->Option Value},(∀v,(x,v)∉binds)->bindC kindOf binds m x=m x
 |[],_,_=>rfl
 | (n,v)::r,m,h=>by
  unfold bindC;rw[wg fun w hw=>h w (eI _ hw)];split
  ·rfl
  ·have:x≠n:=by rintro rfl;exact h v dO
   simp[this]
theorem wf{kindOf:Str->Option jJ}{x:Str}{v:Value}:∀{P:Zb}{vs:Zf}{i:Nat}{m:Str->Option Value},P.Nodup->P[i]?=some x->vs[i]?=some v->kindOf x=some .local ->
  bindL kindOf (P.zip vs) m x=some v
 |[],_,_,_,_,h,_,_=>by simp at h
 |_::_,[],_,_,_,_,h,_=>by simp at h
 |p::P,w::vs,0,m,nd,h1,h2,hk=>by
  simp at h1 h2;subst h1;subst h2;show bindL kindOf ((p,w)::P.zip vs) m p=_;unfold bindL;rw[we fun v hv=>(jx.mp nd).1 (List.of_mem_zip hv).1,if_pos hk];simp
 |p::P,w::vs,i+1,m,nd,h1,h2,hk=>by
  show bindL kindOf ((p,w)::P.zip vs) m x=_;unfold bindL;exact wf (i:=i) (jx.mp nd).2 (by simpa using h1) (by simpa using h2) hk
theorem wj{kindOf:Str->Option jJ}{x:Str}{v:Value}:∀{P:Zb}{vs:Zf}{i:Nat}{m:Str->Option Value},P.Nodup->P[i]?=some x->vs[i]?=some v->kindOf x≠some .local ->
  bindC kindOf (P.zip vs) m x=some v
 |[],_,_,_,_,h,_,_=>by simp at h
 |_::_,[],_,_,_,_,h,_=>by simp at h
 |p::P,w::vs,0,m,nd,h1,h2,hk=>by
  simp at h1 h2;subst h1;subst h2;show bindC kindOf ((p,w)::P.zip vs) m p=_;unfold bindC;rw[wg fun v hv=>(jx.mp nd).1 (List.of_mem_zip hv).1,if_neg hk];simp
 |p::P,w::vs,i+1,m,nd,h1,h2,hk=>by
  show bindC kindOf ((p,w)::P.zip vs) m x=_;unfold bindC;exact wj (i:=i) (jx.mp nd).2 (by simpa using h1) (by simpa using h2) hk
def start(N:Zb)(vs:List V):St:=vs.map some++List.replicate (N.length-vs.length) none
def Bs(CX:Ei)(P:bT)(w:World)(K:Za)(mg:Str->Option Value)(base:Heap)(N:Zb)(qual:Str)(scope:Scope)(f:Addr)(cd:Value)(A:Around)(outer:List Env)(s:Shared)(H:Hp)(E:XK):Cx where
 prog:=P
 w:=w
 K:=K
 mg:=mg
 base:=base
 A:=A.deeper (envOfC qual scope s.heap.objs.size f cd)
 N:=N
 s₀:=s
 H₀:=H
 env:=envOfC qual scope s.heap.objs.size f cd
 outer:=outer
 stack:=envOfC qual scope s.heap.objs.size f cd::outer
 ex:=[]
 calm:=true
 fn:=fun _=>true
 pn:=[]
 xe:=fun e s'=>wpAny (model P w) (A.deeper (envOfC qual scope s.heap.objs.size f cd)) (leaving (envOfC qual scope s.heap.objs.size f cd) e) (fun _ s''=>CX outer H s E e s'') (fun e' s''=>CX outer H s E e' s'') s'
theorem Aa{sc:Scope}{n:Nat}{x:Str}(h:sc.names.lookup x=some .cell):∃c,(cellsFrom n sc.names []).lookup x=some c:=by
 have q:=PySem.W.cellsFrom_some sc.names n [] (.inl h);exact xg.mp q
theorem DJ{CX:Ei}{P:bT}{w:World}{K:Za}{mg:Str->Option Value}{base:Heap}{N ps:Zb}{qual:Str}{scope:Scope}{f:Addr}{cd:Value}{A:Around}{outer:List Env}{s s1:Shared}{H:Hp}{E:XK}{us:Zf}{vs:List V}
  (S:kF N ps scope) (hd:A.handled=none) (e0:BI P w K mg base A outer s H) (hl:vs.length=ps.length) (r:bg vs us)
  (x:InCallC s s.heap.objs.size (bindL (envOfC qual scope s.heap.objs.size f cd).kindOf (ps.zip us) fun _=>none) (cellsFrom (s.heap.objs.size+1) scope.names []) (bindC (envOfC qual scope s.heap.objs.size f cd).kindOf (ps.zip us) fun _=>none) s1) :
  Inv (Bs CX P w K mg base N qual scope f cd A outer s H E) [] (start N vs) H s1:=by
 have hpl:ps.length<=N.length:=by have:=congrArg List.length S.pre;rw[aE]at this;omega
 obtain⟨h1,tk,rfl,hk⟩:=x.done;have noA:∀b:Addr,b∉(Bs CX P w K mg base N qual scope f cd A outer s H E).ex:=fun b z=>absurd (show b∈([]:Ze)from z) (by simp);refine⟨⟨e0.mod,S.kind,rfl,rfl,aB _,fun y z c h1 h2=>?_,fun y hy=>?_,fun y c _ h=>?_,fun _=>hd,Around.frames_deeper e0.frames,.inr ⟨rfl,rfl⟩,fun b z=>absurd z (noA b),e0.bs,e0.bsz,fun b _ _=>noA b,fun b z=>absurd z (noA b),e0.funs,e0.frf⟩,
  rfl,e0.bare,Un.kept hk,⟨_,x.toInCall.ns,fun i y v h1 h2 h3=>?_⟩,fun y c h=>⟨_,x.cell y c h⟩,e0.hok.fresh (aB _),fun y c h=>?_,fun p hp=>absurd (show p∈([]:Zd)from hp) (by simp),e0.hok.kept hk,?_⟩
 ·exact name_of_addr x.apart (sV h1) (sV h2)
 ·have hy:scope.names.lookup y=some .cell∨scope.names.lookup y=some .free:=hy;rcases hy with hy|hy
  ·exact Aa hy
  ·exact absurd rfl (S.nofree _ (sV hy))
 ·exact fk (x.above y c (sV h))
 ·have hi:i<vs.length:=by
   unfold start at h2;by_cases hi:i<vs.length
   ·exact hi
   ·rw[nJ (by simpa using hi)]at h2;rw[List.getElem?_replicate]at h2;split at h2<;>cases h2
  have ha:vs[i]?=some v:=by
   unfold start at h2;rw[fe (by simpa using hi),bZ]at h2;cases e:vs[i]? with
   |none=>rw[e]at h2;cases h2
   |some a=>rw[e]at h2;cases h2;rfl
  obtain⟨u,hu,rv⟩:=r.get ha;have hp:ps[i]?=some y:=by
   rw[<-S.pre,List.getElem?_take_of_lt (by omega)];exact h1
  have ndP:ps.Nodup:=by rw[<-S.pre];exact S.nd.sublist (List.take_sublist _ _)
  refine⟨u,rv,?_⟩;rcases S.par y (ba hp)with k|k
  ·exact .inl ⟨k,wf ndP hp hu k⟩
  ·obtain⟨c,e⟩:=Aa (n:=s.heap.objs.size+1) k;refine .inr ⟨.inl k,c,e,?_⟩;have q:=x.cell y c e;rw[wj ndP hp hu (by show scope.names.lookup y≠_;rw[k];decide)]at q;exact q
 ·exact e0.hok.fresh (fk (x.above y c (sV h)))
 ·unfold start;show _=N.length;rw[aL,aj,List.length_replicate];omega
theorem II{CX:Ei}{P:bT}{w:World}{K:Za}{mg:Str->Option Value}{base:Heap}{k:Nat}{f:Addr}{name qual:Str}{params:Arguments}{body:List Stmt}{scope:Scope}{dV kV doc pm cdv ct oc:Value}{an od:Option Addr}
  {osl:Array (Option Value)}{N ps:Zb}{sp:Sp}(lk:K.lookup f=some ⟨oc,od,.func (iV name qual params body scope dV kV doc pm an cdv ct),osl⟩) (hcd:nI K cdv qual=true) (S:kF N ps scope)
  (len:∀vs H Q E,sp vs H Q E->vs.length=ps.length)
  (hbody:∀(A:Around) (outer:List Env) (s:Shared) (H:Hp) (vs:List V) (Q:VK) (E:XK),eW k (A.deeper (envOfC qual scope s.heap.objs.size f cdv))->sp vs H Q E ->
   ∃t,Al (Bs CX P w K mg base N qual scope f cdv A outer s H E) body t/\t (bM Q) (start N vs) H) :
  m_ P w K mg base CX (k+1) f (iV name qual params body scope dV kV doc pm an cdv ct) ps sp:=by
 refine⟨len,fun A outer s H args us vs Q E hr e0 hb r hsp=>?_⟩;have hl:=len _ _ _ _ hsp;have KX:K.In s.heap:=e0.mod.kin.keeps fun b o e=>(e0.bs b o e).1;have lim:s.heap.NoLimit:=e0.mod.nolimit.keeps fun b o e=>(e0.bs b o e).1;have hkind:∀y∈ps.zip us,scope.names.lookup y.1=some .local∨(scope.names.lookup y.1=some .cell/\((cellsFrom (s.heap.objs.size+1) scope.names []).lookup y.1).isSome=true):=fun⟨n,v⟩ hy=>by
  rcases S.par n (List.of_mem_zip hy).1 with q|q
  ·exact .inl q
  ·exact .inr ⟨q,PySem.W.cellsFrom_some _ _ _ (.inl q)⟩
 refine codeAny_call_function hr.depth (KX _ _ lk) rfl S.co S.gen rfl (PySem.W.codeRec_of KX hcd) (hb _ _ _ _ ?_);refine wpAny_newFunctionEnv_cells S.kind hkind fun env he s1 x=>?_;subst he;refine⟨lim.keeps x.toInCall.keep,codeAny_func ?_⟩;obtain⟨t,ht,hq⟩:=hbody A outer s H vs Q E (hr.deeper _) hsp;have I:Inv (Bs CX P w K mg base N qual scope f cdv A outer s H E) [] (start N vs) H s1:=DJ S hr.hd e0 hl r x;refine oO (ht [] s1 (start N vs) H _ I hq) (fun fl s' hs=>?_) fun e s' hs=>hs;have fin:∀{σ':St}{H':Hp}{v:V}{u:Value},Inv (Bs CX P w K mg base N qual scope f cdv A outer s H E) [] σ' H' s'->RelV v u->Q v H'->CE outer P w K H s Q u s' :=
  fun{σ' H' v u} J rv q=>⟨v,H',J.os,J.bare,J.base,J.hok,rv,q⟩
 cases fl with
 |ret u =>
  obtain⟨v,σ',H',J,rv,q⟩:=hs;exact fin J rv q
 |next =>
  obtain⟨σ',H',J,q⟩:=hs;exact fin (v:=V.non) (u:=Value.none) J rfl q
 |brk =>
  obtain⟨_,_,_,q⟩:=hs;exact jL q
 |cont =>
  obtain⟨_,_,_,q⟩:=hs;exact jL q
end L2
namespace L2
open PySem PySem.Spec PyProof.Rows
section
variable{X:Cx}{x:Str}{p pos:Pos}{e:Expr}{es:List Expr}{t:TA}{id T:String}{r:List V->Hp->VK->Prop}
def eo(r:List V->Hp->VK->Prop)(t:TA):TE:=fun σ H Q=>t σ H fun vs H1=>r vs H1 Q
theorem zE(hc:gv X (.builtin id) r)(hg:Gl X x)(hm:X.mg x=none)(hv:kP x=some (.builtin id))(ha:PA X (e::es) t)(hn:x≠"__name__":=by decide)(hdb:(x==("__debug__":Str))=false:=by decide)
  (he:aN (e::es) X.env=(false,eval e X.env)::aN es X.env:=by rfl) (hpl:(backTo pos (aN es X.env)).any (·.1)=false:=by rfl):PE X (.Call (.Name x p) (e::es) [] pos) (eo r t):=by
 intro J3 s σ H Q I h;refine BK (qC I hg hm hv ?_ hn hdb);exact PyProof.Rows.callWith_builtin1 (cE (ha pos J3 s σ H _ I h) fun us s1 ⟨vs,H1,I1,r1,q1⟩=>hc J3 s1 σ H1 vs us Q I1 r1 q1) he hpl
theorem fJ(hc:gv X (.type T) r)(hg:Gl X x)(hm:X.mg x=none)(hv:kP x=some (.type T))(ha:PA X (e::es) t)(hn:x≠"__name__":=by decide)(hdb:(x==("__debug__":Str))=false:=by decide)
  (he:aN (e::es) X.env=(false,eval e X.env)::aN es X.env:=by rfl) (hpl:(backTo pos (aN es X.env)).any (·.1)=false:=by rfl):PE X (.Call (.Name x p) (e::es) [] pos) (eo r t):=by
 intro J3 s σ H Q I h;refine BK (qC I hg hm hv ?_ hn hdb);exact BQ (cE (ha pos J3 s σ H _ I h) fun us s1 ⟨vs,H1,I1,r1,q1⟩=>hc J3 s1 σ H1 vs us Q I1 r1 q1) he hpl
end
end L2
namespace HT
open PySem PyProof.Rows
section
variable{prog:bT}{w:World}{A:Around}{E:Zc}{s:Shared}
def sIx(n d:Nat):Option Int->Nat
 |none=>d
 |some v=>if v<0 then(v+(n:Int)).toNat else min v.toNat n
theorem sIx_none(n d:Nat):sIx n d none=d:=rfl
theorem sIx_nat(n d k:Nat):sIx n d (some (k:Int))=min k n:=by
 show(if(k:Int)<0 then((k:Int)+(n:Int)).toNat else min (k:Int).toNat n)=min k n
 rw[if_neg (by omega),jw]
theorem sIx_le(n d:Nat)(hd:d<=n)(o:Option Int):sIx n d o<=n:=by
 cases o with
 |none=>exact hd
 |some v =>
  show(if v<0 then(v+(n:Int)).toNat else min v.toNat n)<=n
  by_cases hv:v<0
  ·rw[if_pos hv];omega
  ·rw[if_neg hv];exact Nat.min_le_right _ _
theorem clip_eq(v:Int)(n d:Nat):(if v<0 then max (v+(n:Int)) 0 else min v (n:Int))=((sIx n d (some v):Nat):Int):=by
 show(if v<0 then max (v+(n:Int)) 0 else min v (n:Int))=(((if v<0 then(v+(n:Int)).toNat else min v.toNat n):Nat):Int)
 by_cases hv:v<0
 ·simp only[if_pos hv];omega
 ·simp only[if_neg hv];omega
end
end HT
namespace L2
open PySem PySem.Spec PyProof.Rows
abbrev TO:=St->Hp->(Option Int->Hp->Prop)->Prop
def PO(X:Cx)(e:Option Expr)(t:TO):Prop :=
 ∀(J3:Zd) (s:Shared) (σ:St) (H:Hp) (Q:Option Int->Hp->Prop),Inv X J3 σ H s->t σ H Q ->
  wpAny (model X.prog X.w) X.A (evalPart e X.env) (fun u s'=>∃o H',Inv X J3 σ H' s'/\IsPart u o/\Q o H') X.xe s
def fq:TO:=fun _ H Q=>Q none H
def gF(t:TE):TO:=fun σ H Q=>t σ H fun x H1=>∃i,x=.int i/\Q (some i) H1
section
variable{X:Cx}{e:Expr}{te:TE}{lo hi:Option Expr}{tl th:TO}{pos p2:Pos}
theorem f_:PO X none fq:=by
 intro J3 s σ H Q I h;rw[evalPart_none];exact aD ⟨none,H,I,.none,h⟩
theorem dg(h:PE X e te):PO X (some e) (gF te):=by
 intro J3 s σ H Q I hw;rw[evalPart_some];refine cE (h J3 s σ H _ I hw) fun u s1 ⟨x,H1,I1,r1,q1⟩=>?_;obtain⟨i,rfl,q⟩:=q1;obtain⟨t,rfl⟩:=r1;exact⟨some i,H1,I1,.int i t,q⟩
def SlR(X:Cx)(r:V->Option Int->Option Int->Hp->VK->Prop):Prop :=
 ∀(J3:Zd) (s:Shared) (σ:St) (H:Hp) (x:V) (v vl vu:Value) (lo hi:Option Int) (sl:Addr) (Q:VK),Inv X J3 σ H s->RelV x v->s.heap.IsSliceOf sl vl vu .none->IsPart vl lo->IsPart vu hi->r x lo hi H Q ->
  ∃T id,typeLookup (.type T) "__getitem__"=pure (some (.builtin id))/\s.TypeIs v T/\wpAny (model X.prog X.w) X.A (nH v (.ref sl)) (EP X J3 σ Q) X.xe s
def AB(r:V->Option Int->Option Int->Hp->VK->Prop)(te:TE)(tl th:TO):TE:=fun σ H Q=>te σ H fun x H1=>tl σ H1 fun l H2=>th σ H2 fun u H3=>r x l u H3 Q
theorem dh{r:V->Option Int->Option Int->Hp->VK->Prop}(hr:SlR X r)(he:PE X e te)(hl:PO X lo tl)(hu:PO X hi th):PE X (.Subscript e (.Slice lo hi none p2) pos) (AB r te tl th):=by
 intro J3 s σ H Q I h;refine xf (cE (he J3 s σ H _ I h) fun v s1 ⟨x,H1,I1,r1,q1⟩=>?_);refine wpAny_Slice (cE (hl J3 s1 σ H1 _ I1 q1) fun vl s2 ⟨l,H2,I2,pl,q2⟩=>cE (hu J3 s2 σ H2 _ I2 q2) fun vu s3 ⟨u,H3,I3,pu,q3⟩=>?_);rw[evalPart_none];refine aD ?_;have I4:Inv X J3 σ H3 { s3 with heap:=s3.heap.push { cls:=.type "slice",data:=.fields #[vl,vu,.none] } }:=I3.kept (t':=s3.toks) fun b ob q=>bw _ q;obtain⟨T,id,hT,ht,hg⟩:=hr J3 { s3 with heap:=s3.heap.push { cls:=.type "slice",data:=.fields #[vl,vu,.none] } } σ H3 x v vl vu l u s3.heap.objs.size Q I4 r1 (Heap.IsSliceOf.new ..) pl pu q3;show wpAny (model X.prog X.w) X.A (xc e (.Slice lo hi none p2) v (.ref s3.heap.objs.size)) (EP X J3 σ Q) X.xe { s3 with heap:=s3.heap.push { cls:=.type "slice",data:=.fields #[vl,vu,.none] } };exact tail_any (ops:=[.ref s3.heap.objs.size,v]) ht hT hg (by with_unfolding_all rfl)
def gm(xs:List V)(lo hi:Option Int):List V:=(xs.drop (HT.sIx xs.length 0 lo)).take (HT.sIx xs.length xs.length hi-HT.sIx xs.length 0 lo)
theorem z6(xs:List V)(lo hi:Option Int):(gm xs lo hi).length<=xs.length:=by
 unfold gm;rw[aE,fR];omega
end
end L2
namespace L2
open PySem PySem.Spec PyProof.Rows
def FY(n:Nat)(i:Int):Option Nat:=if 0<=i then(if i<n then some i.toNat else none)else if -(n:Int)<=i then some (i+n).toNat else none
def pW{α:Type}(xs:List α)(i:Int):Option α:=(FY xs.length i).bind fun j=>xs[j]?
theorem x_{n:Nat}{i:Int}{j:Nat}(h:FY n i=some j):xb i n=some j/\j<n/\-(n:Int)<=i/\i<n:=by
 unfold FY at h;by_cases h0:0<=i
 ·rw[if_pos h0]at h;by_cases h1:i<n
  ·rw[if_pos h1]at h;have e:i.toNat=j:=e_ h;exact⟨by rw[seqIndex_of h0 h1,e],by omega,by omega,h1⟩
  ·rw[if_neg h1]at h;cases h
 ·rw[if_neg h0]at h;by_cases h1:-(n:Int)<=i
  ·rw[if_pos h1]at h;have e:(i+n).toNat=j:=e_ h;exact⟨by rw[seqIndex_neg (by omega) h1,e],by omega,h1,by omega⟩
  ·rw[if_neg h1]at h;cases h
theorem ym{α:Type}{xs:List α}{i:Int}{v:α}(h:pW xs i=some v):∃j,xb i xs.length=some j/\xs[j]?=some v/\j<xs.length/\-(xs.length:Int)<=i/\i<xs.length:=by
 unfold pW at h;cases e:FY xs.length i with
 |none=>rw[e]at h;cases h
 |some j =>
  rw[e]at h;obtain⟨h1,h2,h3,h4⟩:=x_ e;exact⟨j,h1,h,h2,h3,h4⟩
theorem aS{α:Type}{xs:List α}{j:Nat}{v:α}(h:xs[j]?=some v):pW xs (j:Int)=some v:=by
 have hj:j<xs.length:=(cG.mp h).1;have e:FY xs.length (j:Int)=some j:=by
  unfold FY;rw[if_pos (by omega),if_pos (by omega)];simp
 unfold pW;rw[e];exact h
def Hg(b:Expr):Prop:=∀o i,xa b false o i=operate [o,i] (nH o i)
def Hl(X:Cx)(r:R2):Prop :=
 ∀(value slice:Expr) (J3:Zd) (s:Shared) (σ:St) (H:Hp) (x y:V) (v u:Value) (Q:VK),Inv X J3 σ H s->RelV x v->RelV y u->r x y H Q ->
  xa slice false v u=operate [v,u] (nH v u)->wpAny (model X.prog X.w) X.A (xc value slice v u) (EP X J3 σ Q) X.xe s
def MtR(X:Cx)(id:String)(r:V->List V->Hp->VK->Prop):Prop :=
 ∀(J3:Zd) (s:Shared) (σ:St) (H:Hp) (x:V) (xs:List V) (v:Value) (us:Zf) (Q:VK),Inv X J3 σ H s->RelV x v->bg xs us->r x xs H Q ->
  wpAny (model X.prog X.w) X.A (call (.builtin id) (v::us)) (EP X J3 σ Q) X.xe s
section
variable{X:Cx}{a b:Expr}{ta tb:TE}{pos:Pos}
theorem Hl.or{r r':R2}(h:Hl X r)(h':Hl X r'):Hl X (fun x y H Q=>r x y H Q∨r' x y H Q):=by
 intro value slice J3 s σ H x y v u Q I rx ry q hs;rcases q with q|q
 ·exact h value slice J3 s σ H x y v u Q I rx ry q hs
 ·exact h' value slice J3 s σ H x y v u Q I rx ry q hs
theorem Cj{r:R2}(hr:Hl X r)(ha:PE X a ta)(hb:PE X b tb)(hs:Hg b):PE X (.Subscript a b pos) (aH r ta tb):=by
 intro J3 s σ H Q I h;exact xf (Ii ha hb I h fun v u s2 x y H2 I2 rx ry q=>hr a b J3 s2 σ H2 x y v u Q I2 rx ry q (hs _ _))
def cZ(K:Za):R2:=fun x y H Q=>∃p xs i v,x=.ref p/\y=.int i/\ay K H p xs/\pW xs i=some v/\Q v H
def h9(K:Za):R2:=fun x y H Q=>∃p xs i v,x=.ref p/\y=.int i/\bc K H p xs/\pW xs i=some v/\Q v H
def EQ:R2:=fun x y H Q=>∃z i c,x=.str z/\y=.int i/\z.length<=ai/\pW z.cps.toList i=some c/\Q (.str ⟨#[c]⟩) H
theorem CG:Hl X (cZ X.K):=by
 intro value slice J3 s σ H x y v u Q I rx ry h hs;obtain⟨p,xs,i,z,rfl,rfl,hq,he,q⟩:=h;cases rx;obtain⟨t,rfl⟩:=ry;obtain⟨its,r,pl,hz⟩:=I.list hq;obtain⟨j,h1,h2,h3,h4,h5⟩:=ym he;obtain⟨w,ew,rw'⟩:=r.get h2;have hl:=r.length;have hn:=qA;have fin:EP X J3 σ Q w s:=⟨z,H,I,rw',q⟩;by_cases h0:0<=i
 ·have hj:i.toNat=j:=by
   rw[seqIndex_of h0 h5]at h1;exact e_ h1
  exact item_listR pl.isList h0 (by omega) (by rw[hj];simpa using ew) fin hs
 ·have hj:(i+(its.toArray.size:Int)).toNat=j:=by
   rw[seqIndex_neg (by omega) h4]at h1;rw[bL,<-hl];exact e_ h1
  exact subscriptTail_builtinR (x:=w) pl.isList.typeIs slot_list_getitem.lookup
   (wpAny_getItem_list_neg (Q:=fun r s'=>r=w/\EP X J3 σ Q r s') pl.isList (by omega) (by rw[bL]<;>omega) (by omega) (by rw[hj];simpa using ew) ⟨rfl,fin⟩) hs
theorem Fo:Hl X (h9 X.K):=by
 intro value slice J3 s σ H x y v u Q I rx ry h hs;obtain⟨p,xs,i,z,rfl,rfl,hq,he,q⟩:=h;cases rx;obtain⟨t,rfl⟩:=ry;obtain⟨its,r,pl,hz⟩:=I.tuple hq;obtain⟨j,h1,h2,h3,h4,h5⟩:=ym he;obtain⟨w,ew,rw'⟩:=r.get h2;have hl:=r.length;have hn:=qA;have fin:EP X J3 σ Q w s:=⟨z,H,I,rw',q⟩;exact subscriptTail_builtinR (x:=w) pl.typeIs slot_tuple_getitem.lookup
  (getItem_tuple (j:=j) (Q:=fun r s'=>r=w/\EP X J3 σ Q r s') pl (by omega) (by omega) (by rw[bL,<-hl];exact h1) (by simpa using ew) ⟨rfl,fin⟩) hs
theorem Fp:Hl X EQ:=by
 intro value slice J3 s σ H x y v u Q I rx ry h hs;obtain⟨z,i,c,rfl,rfl,hz,he,q⟩:=h;obtain⟨t,rfl⟩:=rx;obtain⟨t',rfl⟩:=ry;obtain⟨j,h1,h2,h3,h4,h5⟩:=ym he;have hl:z.cps.toList.length=z.length:=by simp[Str.length]
 rw[hl]at h1 h4 h5;have hn:=qA;exact tail_any (typeIs_str s z t) slot_str_getitem.lookup (getItem_str (c:=c) (by
  have e1:decide (i < -(2 ^ 63:Int))=false:=zzr0 (by omega);have e2:decide (i ≥ 2 ^ 63)=false:=zzr0 (by omega);rw[e1,e2,Bool.or_false]) (by rw[h1];simpa using h2) ⟨.str ⟨#[c]⟩,H,I.tok _,⟨_,rfl⟩,q⟩) hs
def mV(K:Za):R2:=fun x y H Q=>cZ K x y H Q∨h9 K x y H Q∨EQ x y H Q
theorem Ib:Hl X (mV X.K):=CG.or (Fo.or Fp)
theorem Bc(its:Zf)(n j:Nat)(u:Value):sU (·.setIfInBounds j u) { cls:=.type "list",data:=.seq its.toArray n }={ cls:=.type "list",data:=.seq (its.set j u).toArray n }:=by
 simp[sU]
theorem Inv.lst{J3:Zd}{σ:St}{H:Hp}{s:Shared}{p:Addr}{xs:List V}(I:Inv X J3 σ H s)(h:H p=some (.lst xs)):
  ∃(its:Zf) (n:Nat),bg xs its/\s.heap.get? p=some { cls:=.type "list",data:=.seq its.toArray n }/\xs.length<=ai:=by
 obtain⟨z,its,n,r,e⟩:=I.hok p _ h;exact⟨its,n,r,e,z⟩
theorem Inv.lstUpd{J3:Zd}{σ:St}{H:Hp}{s:Shared}{p:Addr}{xs ys:List V}{its its':Zf}{n n':Nat}{f:Obj->Obj}(I:Inv X J3 σ H s)(h:H p=some (.lst xs))
  (ho:s.heap.get? p=some { cls:=.type "list",data:=.seq its.toArray n }) (hf:f { cls:=.type "list",data:=.seq its.toArray n }={ cls:=.type "list",data:=.seq its'.toArray n' }) (r:bg ys its') (hz:ys.length<=ai) (t:Nat) :
  Inv X J3 σ (upd H p (.lst ys)) { s with heap:=s.heap.update p f,toks:=t }:=by
 have e:(s.heap.update p f).get? p=some { cls:=.type "list",data:=.seq its'.toArray n' }:=by
  rw[w_ f ho (by rw[hf]<;>rfl),hf]
 refine I.write (x:=p) (e:=p) (by rw[h];trivial) (.inl rfl) (fun b u hb q=>(Heap.get?_update_other _ _ (dB hb)).trans q) ⟨_,e⟩ ?_;exact⟨hz,its',n',r,e⟩
def tU:V->V->V->Hp->(Hp->Prop)->Prop:=fun o i v H Q=>∃p xs k j,o=.ref p/\i=.int k/\H p=some (.lst xs)/\FY xs.length k=some j/\Q (upd H p (.lst (xs.set j v)))
theorem lJ:IM X tU:=by
 intro J3 s σ H o i v ov iv u Q I ro ri rv h;obtain⟨p,xs,k,j,rfl,rfl,hp,hj,q⟩:=h;cases ro;obtain⟨t,rfl⟩:=ri;obtain⟨its,n,r,ho,hz⟩:=I.lst hp;obtain⟨h1,h2,h3,h4⟩:=x_ hj;have hl:=r.length;have hn:=qA;have I':Inv X J3 σ (upd H p (.lst (xs.set j v))) { s with heap:=s.heap.update p (sU (·.setIfInBounds j u)) } :=
  I.lstUpd hp ho (Bc its n j u) (r.set rv j) (by rw[List.length_set];exact hz) s.toks
 by_cases h0:0<=k
 ·have hk:k.toNat=j:=by
   rw[seqIndex_of h0 h4]at h1;exact e_ h1
  exact PySem.W.ki_setAt ho h0 (by omega) (by rw[bL,<-hl];exact h4) (by rw[hk];exact⟨_,I',q⟩)
 ·have hk:(k+(its.toArray.size:Int)).toNat=j:=by
   rw[seqIndex_neg (by omega) h3]at h1;rw[bL,<-hl];exact e_ h1
  exact PySem.W.ki_setBack ho (by omega) (by rw[bL,<-hl];exact h3) (by omega) (by rw[hk];exact⟨_,I',q⟩)
theorem xG(lo hi:Option Int)(n:Nat):(nG lo hi none n).1=((HT.sIx n 0 lo:Nat):Int)/\(nG lo hi none n).2.1=((HT.sIx n n hi:Nat):Int)/\(nG lo hi none n).2.2=1:=by
 refine⟨?_,?_,rfl⟩
 ·cases lo with
  |none=>simp[nG,HT.sIx]
  |some i =>
   simp only[nG,HT.sIx,Option.getD_none,show(1:Int) > 0 by decide,if_true];by_cases h:i<0
   ·simp only[h,if_true]<;>omega
   ·simp only[h,if_false]<;>omega
 ·cases hi with
  |none=>simp[nG,HT.sIx]
  |some i =>
   simp only[nG,HT.sIx,Option.getD_none,show(1:Int) > 0 by decide,if_true];by_cases h:i<0
   ·simp only[h,if_true]<;>omega
   ·simp only[h,if_false]<;>omega
theorem va(its:Zf)(lo hi:Option Int):w8 its.toArray lo hi none=((its.drop (HT.sIx its.length 0 lo)).take (HT.sIx its.length its.length hi-HT.sIx its.length 0 lo)).toArray:=by
 obtain⟨h1,h2,h3⟩:=xG lo hi its.toArray.size;unfold w8;rw[h1,h2,h3];simp only[sliceRange_one,pick_run,bL]<;>rfl
def rO(K:Za):V->Option Int->Option Int->Hp->VK->Prop:=fun x lo hi H Q=>∃a xs,x=.ref a/\ay K H a xs/\∀p,H p=none->Q (.ref p) (upd H p (.lst (gm xs lo hi)))
theorem fV:SlR X (rO X.K):=by
 intro J3 s σ H x v vl vu lo hi sl Q I rx hs pl pu h;obtain⟨a,xs,rfl,hx,q⟩:=h;cases rx;obtain⟨its,r,ht,hz⟩:=I.list hx;have hlen:=r.length;refine⟨"list",_,slot_list_getitem.lookup,ht.isList.typeIs,?_⟩;refine wpAny_getItem_list_slice ht.isList hs pl pu .none (by simp) ?_ (by rw[bL]<;>omega);rw[va,<-hlen];refine⟨.ref s.heap.objs.size,_,I.laid (t':=s.toks) (o:=.lst (gm xs lo hi)) (fun b ob q=>bw _ q) (aB _) ?_,rfl,q _ (I.hok.fresh (aB _))⟩;exact⟨bG (z6 xs lo hi) hz,_,0,(r.drop (HT.sIx xs.length 0 lo)).take (HT.sIx xs.length xs.length hi-HT.sIx xs.length 0 lo),cF _ rfl⟩
theorem yj:gv X (.builtin "len") (fun xs H Q=>∃p ys,xs=[.ref p]/\(ay X.K H p ys∨bc X.K H p ys)/\Q (.int ys.length) H):=by
 intro J3 s σ H xs us Q I r h;obtain⟨p,ys,rfl,hq,q⟩:=h;obtain⟨u,rfl,rx⟩:=vals1 r;cases rx;have hn:=qA;rcases hq with hq|hq
 ·obtain⟨its,r',pl,hz⟩:=I.list hq;have hlen:=r'.length;exact Calls.call_len_list pl.isList (by simp only[bL]<;>omega) ⟨.int ys.length,H,I.tok _,⟨s.toks+1,by rw[bL,hlen]⟩,q⟩
 ·obtain⟨its,r',pl,hz⟩:=I.tuple hq;have hlen:=r'.length;exact len_tuple pl (by simp only[bL]<;>omega) ⟨.int ys.length,H,I.tok _,⟨s.toks+1,by rw[bL,hlen]⟩,q⟩
theorem yi:gv X (.builtin "len") (fun xs H Q=>∃z,xs=[.str z]/\z.length<=ai/\Q (.int z.length) H):=by
 intro J3 s σ H xs us Q I r h;obtain⟨z,rfl,hz,q⟩:=h;obtain⟨u,rfl,t,rfl⟩:=vals1 r;have hn:=qA;exact len_str (by omega) ⟨.int z.length,H,I.tok _,⟨_,rfl⟩,q⟩
theorem gv.or{f:Value}{r r':List V->Hp->VK->Prop}(h:gv X f r)(h':gv X f r'):gv X f (fun xs H Q=>r xs H Q∨r' xs H Q):=by
 intro J3 s σ H xs us Q I rs q;rcases q with q|q
 ·exact h J3 s σ H xs us Q I rs q
 ·exact h' J3 s σ H xs us Q I rs q
theorem yh:gv X (.type "list") (fun xs H Q=>∃p ys,xs=[.ref p]/\(ay X.K H p ys∨bc X.K H p ys)/\∀l,H l=none->Q (.ref l) (upd H l (.lst ys))):=by
 intro J3 s σ H xs us Q I r h;obtain⟨p,ys,rfl,hq,q⟩:=h;obtain⟨u,rfl,rx⟩:=vals1 r;cases rx;have fin:∀(its:Zf),bg ys its->ys.length<=ai->∀(h':Heap) (c':Nat),(∀b o',s.heap.get? b=some o'->h'.get? b=some o') ->
   h'.get? s.heap.objs.size=some { cls:=.type "list",dict:=none,data:=.seq its.toArray c',slots:=#[] }->EP X J3 σ Q (.ref s.heap.objs.size) { s with heap:=h' }:=fun its r' hz h' c' kp e =>
  ⟨.ref s.heap.objs.size,_,I.laid (t':=s.toks) kp (aB _) (show b9 X.prog X.w X.K _ h' _ (.lst ys)from⟨hz,its,c',r',e⟩),rfl,q _ (I.hok.fresh (aB _))⟩
 rcases hq with hq|hq
 ·obtain⟨its,r',pl,hz⟩:=I.list hq;have hlen:=r'.length;obtain⟨o,ho,hc,n,hd⟩:=pl.isList;exact call_list_seq p (.inl rfl) ho hc hd (fun h' c' kp e=>fin its r' hz h' c' kp e) (by simp only[bL]<;>omega)
 ·obtain⟨its,r',pl,hz⟩:=I.tuple hq;have hlen:=r'.length;obtain⟨o,ho,hc,n,hd⟩:=pl;exact call_list_seq p (.inr rfl) ho hc hd (fun h' c' kp e=>fin its r' hz h' c' kp e) (by simp only[bL]<;>omega)
theorem eA:gv X (.type "tuple") (fun xs H Q=>∃p ys,xs=[.ref p]/\((ay X.K H p ys/\∀l,H l=none->Q (.ref l) (upd H l (.tup ys)))∨(bc X.K H p ys/\Q (.ref p) H))):=by
 intro J3 s σ H xs us Q I r h;obtain⟨p,ys,rfl,h⟩:=h;obtain⟨u,rfl,rx⟩:=vals1 r;cases rx;rcases h with⟨hq,q⟩|⟨hq,q⟩
 ·obtain⟨its,r',pl,hz⟩:=I.list hq;have hlen:=r'.length;refine call_tuple_list pl.isList (fun h' kp=>?_) (by simp only[bL]<;>omega);have I1:Inv X J3 σ H { s with heap:=h' }:=I.kept (t':=s.toks) kp;have I2:Inv X J3 σ (upd H h'.objs.size (.tup ys)) { s with heap:=h'.push { cls:=.type "tuple",data:=.seq its.toArray } } :=
   I1.laid (t':=s.toks) (fun b o e=>bw _ e) (aB _) (show b9 X.prog X.w X.K _ _ _ (.tup ys)from⟨hz,its,r',IsTup.new _ _⟩)
  exact⟨.ref h'.objs.size,_,I2,rfl,q _ (I1.hok.fresh (aB _))⟩
 ·obtain⟨its,r',pl,hz⟩:=I.tuple hq;exact call_tuple_same pl ⟨.ref p,H,I,rfl,q⟩
def tyV(K:Za)(T:String)(x:V)(H:Hp):Prop:=match x with
 |.str _=>T="str"
 |.int _=>T="int"
 |.ref p=>(T="list"/\∃xs,ay K H p xs)∨(T="tuple"/\∃o,K.lookup p=some o/\o.cls=.type "tuple"/\o.dict=none) ∨
   (T="dict"/\((∃kvs,H p=some (.dK kvs))∨∃kvs,H p=some (.dT kvs)))∨(T="set"/\∃S n,H p=some (.set S n))
 |_=>False
theorem Ep{J3:Zd}{σ:St}{H:Hp}{s:Shared}{T:String}{x:V}{v:Value}(I:Inv X J3 σ H s)(r:RelV x v)(ty:tyV X.K T x H):
  s.TypeIs v T/\∀a,v=.ref a->∃ob,s.heap.get? a=some ob/\ob.dict=none:=by
 cases x with
 |str z =>
  obtain⟨t,rfl⟩:=r;cases(show T="str" from ty);exact⟨typeIs_str s z t,fun _ e=>nomatch e⟩
 |int i =>
  obtain⟨t,rfl⟩:=r;cases(show T="int" from ty);exact⟨typeIs_int s i t,fun _ e=>nomatch e⟩
 |ref p =>
  cases r;rcases ty with⟨rfl,xs,hq⟩|⟨rfl,o,hk,hc,hd⟩|⟨rfl,hk⟩|⟨rfl,S,n,hk⟩
  ·obtain⟨its,_,pl,_⟩:=I.list hq;refine⟨pl.isList.typeIs,fun a e=>?_⟩;cases e;obtain⟨o,n,e,c,hd,_⟩:=pl;exact⟨o,e,hd⟩
  ·refine⟨⟨o,I.kIn p o hk,hc⟩,fun a e=>?_⟩;cases e;exact⟨o,I.kIn _ o hk,hd⟩
  ·have z:∃o,s.heap.get? p=some o/\o.ExactDict:=by
    rcases hk with⟨kvs,hk⟩|⟨kvs,hk⟩
    ·obtain⟨_,_,_,_,o,_,_,e,ex,_⟩:=I.hok p _ hk;exact⟨o,e,ex⟩
    ·obtain⟨_,_,_,_,o,_,_,e,ex,_⟩:=I.hok p _ hk;exact⟨o,e,ex⟩
   obtain⟨o,e,ex⟩:=z;refine⟨⟨o,e,ex.1⟩,fun a e2=>?_⟩;cases e2;exact⟨o,e,ex.2.1⟩
  ·obtain⟨o,_,_,_,e,ex,_⟩:=I.hok p _ hk;refine⟨⟨o,e,ex.1⟩,fun a e2=>?_⟩;cases e2;exact⟨o,e,ex.2.1⟩
 |_=>exact jL ty
def Ex(K:Za)(T:String)(r:V->List V->Hp->VK->Prop)(to:TE):TE:=fun σ H Q=>to σ H fun x H1=>tyV K T x H1/\r x [] H1 Q
def uM(K:Za)(T:String)(r:V->List V->Hp->VK->Prop)(to:TE)(t:TA):TE:=fun σ H Q=>to σ H fun x H1=>tyV K T x H1/\t σ H1 fun xs H2=>r x xs H2 Q
variable{o e:Expr}{es:List Expr}{to:TE}{t:TA}{name:Str}{J5 J4:Pos}{T id:String}{r:V->List V->Hp->VK->Prop}
theorem xM(pa:PlainAttrs T)(slot:Slot T name id)(hty:typeOf (.builtin id)=pure (.type "method_descriptor"))(hm:MtR X id r)(ho:PE X o to)
  (hbase:sk o name X.env (eval o X.env)=eval o X.env:=by rfl) (hline:(J5.endLine==J4.line)=true:=by rfl):PE X (.Call (.Attribute o name J5) [] [] J4) (Ex X.K T r to):=by
 intro J3 s σ H Q I h;refine wpAny_Call_method0_late hbase hline (cE (ho J3 s σ H _ I h) fun v s1 ⟨x,H1,I1,r1,ty,q1⟩=>?_);obtain⟨h1,h2⟩:=Ep I1 r1 ty;exact⟨T,id,pa,slot,hty,h1,h2,sT rfl (PySem.evalArgs_none (hm J3 s1 σ H1 x [] v [] Q I1 r1 .nil q1))⟩
theorem gb(pa:PlainAttrs T)(slot:Slot T name id)(hty:typeOf (.builtin id)=pure (.type "method_descriptor"))(hm:MtR X id r)(ho:PE X o to)(ha:PA X (e::es) t)
  (hbase:sk o name X.env (eval o X.env)=eval o X.env:=by rfl)
  (hfew:((backTo J4 (aN (e::es) X.env)).all (fun x=>!x.1) && (oJ J4 (oI [] X.env)).all (fun x=>x.1.isSome)
   && decide ((e::es).length+([]:List qe).length+(if([]:List qe).isEmpty then 0 else 1)<30))=true:=by rfl)
  (hline:(J5.endLine==J4.line)=true:=by rfl) (hs:aN (e::es) X.env=(false,eval e X.env)::aN es X.env:=by rfl) (hplain:(backTo J4 (aN es X.env)).any (·.1)=false:=by rfl) :
  PE X (.Call (.Attribute o name J5) (e::es) [] J4) (uM X.K T r to t):=by
 intro J3 s σ H Q I h;refine wpAny_Call_method_late hbase hfew hline rfl (cE (ho J3 s σ H _ I h) fun v s1 ⟨x,H1,I1,r1,ty,q1⟩=>?_);obtain⟨h1,h2⟩:=Ep I1 r1 ty;refine⟨T,id,pa,slot,hty,h1,h2,?_⟩;have hA:=ha J4 J3 s1 σ H1 _ I1 q1;rw[hs]at hA ⊢;refine sT (by show(false || (backTo J4 (aN es X.env)).any (·.1))=false;rw[hplain]<;>rfl) (Calls.evalArgs_plain ?_);exact cE hA fun us s2 ⟨vs,H2,I2,r2,q2⟩=>hm J3 s2 σ H2 x vs v us Q I2 r1 r2 q2
end
end L2
namespace L2
open PySem PySem.Spec PyProof.Rows
def HG(X:Cx)(id:String)(r:V->List V->Hp->VK->Prop):Prop :=
 ∀(J3:Zd) (s:Shared) (σ:St) (H:Hp) (x:V) (xs:List V) (v:Value) (us:Zf) (Q:VK),Inv X J3 σ H s->RelV x v->bg xs us->r x xs H Q ->
  wpAny (model X.prog X.w) X.A (call (.builtin id) (v::us)) (EP X J3 σ Q) X.xe s
theorem bg.one:∀{x:V}{us:Zf},bg [x] us->∃u,us=[u]/\RelV x u
 |_,_,.cons r .nil=>⟨_,rfl,r⟩
theorem bg.two:∀{x y:V}{us:Zf},bg [x,y] us->∃u v,us=[u,v]/\RelV x u/\RelV y v
 |_,_,_,.cons r (.cons q .nil)=>⟨_,_,rfl,r,q⟩
theorem bg.zero:∀{us:Zf},bg [] us->us=[]
 |_,.nil=>rfl
theorem bg.dropLast{xs:List V}{us:Zf}(h:bg xs us):bg xs.dropLast us.dropLast:=by
 induction h with
 |nil=>exact .nil
 |cons r t ih =>
  cases t with
  |nil=>exact .nil
  |cons q t'=>exact .cons r ih
theorem bg.eraseIdx:∀{xs:List V}{us:Zf}(i:Nat),bg xs us->bg (xs.eraseIdx i) (us.eraseIdx i)
 |_,_,_,.nil=>.nil
 |_,_,0,.cons _ t=>t
 |_,_,i+1,.cons r t=>.cons r (bg.eraseIdx i t)
theorem bg.reverse{xs:List V}{us:Zf}(h:bg xs us):bg xs.reverse us.reverse:=by
 induction h with
 |nil=>exact .nil
 |cons r t ih=>rw[w6,w6];exact bg.append ih (.cons r .nil)
theorem Bp{α:Type}(l:List α):l.eraseIdx (l.length-1)=l.dropLast:=by
 induction l with
 |nil=>rfl
 |cons a r ih =>
  cases r with
  |nil=>rfl
  |cons b r =>
   have e:(a::b::r).length-1=((b::r).length-1)+1:=by
    have h1:(a::b::r).length=r.length+2:=rfl;have h2:(b::r).length=r.length+1:=rfl;omega
   rw[e,List.eraseIdx_cons_succ,ih]
   all_goals rfl
theorem vY{α:Type}:∀(l:List α) (i:Nat),(l.eraseIdx i).length<=l.length
 |[],_=>aB _
 |_::_,0=>si _
 |_::r,i+1=>Nat.succ_le_succ (vY r i)
section
variable{X:Cx}{J3:Zd}{σ:St}{H:Hp}{s:Shared}{l b:Addr}{xs ys zs:List V}
theorem Inv.lset{its its':Zf}{n:Nat}{f:Array Value->Array Value}{t':Nat}(I:Inv X J3 σ H s)(hH:H l=some (.lst xs))
  (e:s.heap.get? l=some { cls:=.type "list",data:=.seq its.toArray n }) (hf:f its.toArray=its'.toArray) (hv:bg ys its') (hz:ys.length<=ai) :
  Inv X J3 σ (upd H l (.lst ys)) { s with heap:=s.heap.update l (sU f),toks:=t' }:=by
 have q:=PySem.IsL.update e f;rw[hf]at q;refine I.write (x:=l) (e:=l) (by rw[hH];exact trivial) (.inl rfl) (fun b' u hb hu=>(Heap.get?_update_other s.heap (sU f) (dB hb)).trans hu) ⟨_,q⟩ ?_;exact⟨hz,its',_,hv,q⟩
theorem Inv.lnew{its:Zf}{t':Nat}(I:Inv X J3 σ H s)(hv:bg ys its)(hz:ys.length<=ai):
  Inv X J3 σ (upd H s.heap.objs.size (.lst ys)) { s with heap:=s.heap.push { cls:=.type "list",data:=.seq its.toArray },toks:=t' } :=
 I.laid (fun _ _ q=>bw _ q) (aB _) ⟨hz,its,0,hv,cF _ rfl⟩
theorem Inv.fresh(I:Inv X J3 σ H s):H s.heap.objs.size=none:=I.hok.fresh (aB _)
theorem Inv.lstM(I:Inv X J3 σ H s)(hH:H l=some (.lst xs)):xs.length<=ai/\∃(its:Zf) (n:Nat),bg xs its/\xs.length=its.length/\s.heap.get? l=some { cls:=.type "list",data:=.seq its.toArray n }:=by
 obtain⟨z,its,n,r,e⟩:=I.hok l _ hH;exact⟨z,its,n,r,r.length,e⟩
theorem E_{n:Nat}(h:n<=ai):cy.List.listTooLong n=false:=by
 unfold cy.List.listTooLong;exact zzr0 (by omega)
end
section
variable{X:Cx}
def cV:V->List V->Hp->VK->Prop:=fun x vs H Q=>∃l xs y,x=.ref l/\vs=[y]/\H l=some (.lst xs)/\xs.length<ai/\Q .non (upd H l (.lst (xs++[y])))
theorem cf:HG X "list.append" cV:=by
 intro J3 s σ H x vs v us Q I rx rv h;obtain⟨l,xs,y,rfl,rfl,hH,hz,q⟩:=h;cases rx;obtain⟨u,rfl,ru⟩:=rv.one;obtain⟨z,its,n,r,hl,e⟩:=I.lstM hH;refine nF F.slot_list_append ⟨_,e,rfl⟩ F.entry_list_append (F.args_list_append_2 _ _) (PySem.list_append l its.toArray n u (by rw[bL];omega)) ⟨e,?_⟩;refine⟨.non,_,I.lset (its':=its++[u]) hH e (by simp) (r.append (.cons ru .nil)) ?_,rfl,q⟩;rw[aL,List.length_singleton];omega
def Ce:V->List V->Hp->VK->Prop:=fun x vs H Q=>∃l b xs zs,x=.ref l/\vs=[.ref b]/\H l=some (.lst xs)/\H b=some (.lst zs)/\xs.length+zs.length<=ai/\Q .non (upd H l (.lst (xs++zs)))
theorem Dz:HG X "list.extend" Ce:=by
 intro J3 s σ H x vs v us Q I rx rv h;obtain⟨l,b,xs,zs,rfl,rfl,hH,hB,hz,q⟩:=h;cases rx;obtain⟨u,rfl,ru⟩:=rv.one;cases ru;obtain⟨z,its,n,r,hl,e⟩:=I.lstM hH;obtain⟨z2,its2,n2,r2,hl2,e2⟩:=I.lstM hB;have hsz:its.toArray.size+its2.toArray.size<=ai:=by rw[bL,bL];omega
 have hlong:¬(!its.toArray.isEmpty && cy.List.listTooLong (its.toArray.size+its2.toArray.size))=true:=by
  rw[E_ hsz,wZ];exact fP
 refine nF F.slot_list_extend ⟨_,e,rfl⟩ F.entry_list_extend (F.args_list_extend_2 _ _)
  (AutoSeq1.list_extend_list_list_0 l its.toArray n b its2.toArray n2 hlong (by rw[bL];omega) (by omega)) ⟨e,e2,?_⟩
 refine⟨.non,_,I.lset (its':=its++its2) hH e (by simp) (r.append r2) ?_,rfl,q⟩;rw[aL];omega
def HQ:V->List V->Hp->VK->Prop:=fun x vs H Q=>∃l xs y,x=.ref l/\vs=[]/\H l=some (.lst xs)/\xs[xs.length-1]?=some y/\Q y (upd H l (.lst xs.dropLast))
theorem Fh:HG X "list.pop" HQ:=by
 intro J3 s σ H x vs v us Q I rx rv h;obtain⟨l,xs,y,rfl,rfl,hH,hy,q⟩:=h;cases rx;have hus:=rv.zero;subst hus;obtain⟨z,its,n,r,hl,e⟩:=I.lstM hH;obtain⟨u,hu,ru⟩:=r.get hy;have hy':its.toArray[its.toArray.size-1]?=some u:=by
  show its.toArray[its.length-1]?=some u;rw[<-Array.getElem?_toList,<-hl];exact hu
 refine nF F.slot_list_pop ⟨_,e,rfl⟩ F.entry_list_pop (F.args_list_pop_1 _) (MeetsSeq.list_pop_last l its.toArray n u hy' (by rw[bL];omega)) ⟨e,?_⟩;refine⟨y,_,I.lset (its':=its.dropLast) hH e ?_ r.dropLast ?_,ru,q⟩
 ·show its.toArray.eraseIdxIfInBounds (its.toArray.size-1)=its.dropLast.toArray;rw[bL,List.eraseIdxIfInBounds_toArray,Bp]
 ·rw[List.length_dropLast];omega
def EN:V->List V->Hp->VK->Prop:=fun x vs H Q=>∃l xs i k y,x=.ref l/\vs=[.int i]/\H l=some (.lst xs)/\-(2 ^ 63)<=i/\i<2 ^ 63/\xb i xs.length=some k/\xs[k]?=some y/\Q y (upd H l (.lst (xs.eraseIdx k)))
theorem Fg:HG X "list.pop" EN:=by
 intro J3 s σ H x vs v us Q I rx rv h;obtain⟨l,xs,i,k,y,rfl,rfl,hH,h1,h2,hk,hy,q⟩:=h;cases rx;obtain⟨u,rfl,ru⟩:=rv.one;obtain⟨t,rfl⟩:=ru;obtain⟨z,its,n,r,hl,e⟩:=I.lstM hH;obtain⟨w,hw,rw'⟩:=r.get hy;refine nF F.slot_list_pop ⟨_,e,rfl⟩ F.entry_list_pop (F.args_list_pop_2 _ _)
  (MeetsSeq.list_pop_at l its.toArray n i t k w (fitsIndex_both h1 h2) (by rw[bL,<-hl];exact hk) (by rw[<-Array.getElem?_toList];exact hw) (by rw[bL];omega)) ⟨e,?_⟩
 refine⟨y,_,I.lset (its':=its.eraseIdx k) hH e ?_ (r.eraseIdx k) ?_,rw',q⟩
 ·show its.toArray.eraseIdxIfInBounds k=(its.eraseIdx k).toArray;rw[List.eraseIdxIfInBounds_toArray]
 ·have:=vY xs k;omega
def zA:V->List V->Hp->VK->Prop:=fun x vs H Q=>∃l xs,x=.ref l/\vs=[]/\H l=some (.lst xs)/\Q .non (upd H l (.lst xs.reverse))
theorem Ba:HG X "list.reverse" zA:=by
 intro J3 s σ H x vs v us Q I rx rv h;obtain⟨l,xs,rfl,rfl,hH,q⟩:=h;cases rx;have hus:=rv.zero;subst hus;obtain⟨z,its,n,r,hl,e⟩:=I.lstM hH;refine nF F.slot_list_reverse ⟨_,e,rfl⟩ F.entry_list_reverse (F.args_list_reverse_1 _) (AutoSeq1.list_reverse_list_0 l its.toArray n (by rw[bL];omega)) ⟨e,?_⟩;refine⟨.non,_,I.lset (its':=its.reverse) hH e (by simp) r.reverse ?_,rfl,q⟩;rw[wY];omega
def ET:V->List V->Hp->VK->Prop:=fun x vs H Q=>∃l xs,x=.ref l/\vs=[]/\H l=some (.lst xs)/\Q .non (upd H l (.lst []))
theorem Fi:HG X "list.clear" ET:=by
 intro J3 s σ H x vs v us Q I rx rv h;obtain⟨l,xs,rfl,rfl,hH,q⟩:=h;cases rx;have hus:=rv.zero;subst hus;obtain⟨z,its,n,r,hl,e⟩:=I.lstM hH;refine nF F.slot_list_clear ⟨_,e,rfl⟩ F.entry_list_clear (F.args_list_clear_1 _) (AutoSeq1.list_clear_list_0 l its.toArray n (by rw[bL];omega)) ⟨e,?_⟩;exact⟨.non,_,I.lset (its':=[]) (ys:=[]) hH e rfl .nil (db _),rfl,q⟩
def xJ:R2:=fun x y H Q=>∃l b xs zs,x=.ref l/\y=.ref b/\H l=some (.lst xs)/\H b=some (.lst zs)/\xs.length+zs.length<=ai/\∀p,H p=none->Q (.ref p) (upd H p (.lst (xs++zs)))
theorem lT:oH X (qV .Add) xJ:=by
 intro J3 s σ H x y v u Q I rx ry h;obtain⟨l,b,xs,zs,rfl,rfl,hH,hB,hz,q⟩:=h;cases rx;cases ry;obtain⟨z,its,n,r,hl,e⟩:=I.lstM hH;obtain⟨z2,its2,n2,r2,hl2,e2⟩:=I.lstM hB;refine PySem.P.add_list e e2 ?_ (by rw[bL,bL];omega);have ea:its.toArray++its2.toArray=(its++its2).toArray:=by simp
 rw[ea];exact⟨.ref _,_,I.lnew (t':=s.toks) (r.append r2) (by rw[aL];omega),rfl,q _ I.fresh⟩
end
end L2
namespace L2
open PySem PySem.Spec PyProof.Rows
section
variable{κ:Type}[DecidableEq κ]
def br(kvs:List (κ×V))(k:κ):Option V:=(kvs.find? fun kv=>decide (kv.1=k)).map (·.2)
def cL(kvs:List (κ×V))(k:κ)(v:V):List (κ×V) :=
 if(kvs.any fun kv=>decide (kv.1=k))=true then kvs.map (fun kv=>if kv.1=k then(kv.1,v)else kv)else kvs++[(k,v)]
theorem cr{p:κ×V}{r:List (κ×V)}{k:κ}(e:p.1=k):br (p::r) k=some p.2:=by simp[br,lA,e]
theorem bW{p:κ×V}{r:List (κ×V)}{k:κ}(e:¬p.1=k):br (p::r) k=br r k:=by simp[br,lA,e]
theorem jM(k:κ):∀kvs:List (κ×V),(kvs.any fun kv=>decide (kv.1=k))=(br kvs k).isSome
 |[]=>rfl
 |p::r=>by
  rw[nE];by_cases e:p.1=k
  ·simp only[cr e,zzr1 e,Bool.true_or,Option.isSome_some]
  ·rw[bW e,zzr0 e,Bool.false_or];exact jM k r
theorem yQ(k j:κ)(y:V):∀kvs:List (κ×V),br (kvs.map fun kv=>if kv.1=k then(kv.1,y)else kv) j=(br kvs j).map fun x=>if j=k then y else x
 |[]=>rfl
 |p::r=>by
  have ih:=yQ k j y r;rw[bN];by_cases h:p.1=k
  ·rw[if_pos h];by_cases e:p.1=j
   ·rw[cr (p:=(p.1,y)) e,cr e,sS,if_pos (e.symm.trans h)]
   ·rw[bW (p:=(p.1,y)) e,bW e,ih]
  ·rw[if_neg h];by_cases e:p.1=j
   ·rw[cr (p:=p) e,cr e,sS,if_neg (fun z=>h (e.trans z))]
   ·rw[bW (p:=p) e,bW e,ih]
theorem vG(k j:κ)(y:V):∀kvs:List (κ×V),br kvs k=none->br (kvs++[(k,y)]) j=if j=k then some y else br kvs j
 |[],_=>by
  by_cases e:k=j
  ·rw[if_pos e.symm];exact cr (p:=(k,y)) e
  ·rw[if_neg (fun z=>e z.symm)];exact bW (p:=(k,y)) e
 |p::r,hn=>by
  rw[List.cons_append];have hk:¬p.1=k:=fun z=>by rw[cr z]at hn;cases hn
  rw[bW hk]at hn;have ih:=vG k j y r hn;by_cases e:p.1=j
  ·rw[cr e,cr e,if_neg (fun z=>hk (e.trans z))]
  ·rw[bW e,bW e,ih]
theorem lB(kvs:List (κ×V))(k j:κ)(y:V):br (cL kvs k y) j=if j=k then some y else br kvs j:=by
 unfold cL;by_cases a:(kvs.any fun kv=>decide (kv.1=k))=true
 ·rw[if_pos a,yQ];rw[jM]at a;by_cases e:j=k
  ·obtain⟨x,hx⟩:=xg.mp a;rw[if_pos e,e,hx,sS,if_pos rfl]
  ·rw[if_neg e];cases br kvs j with
   |none=>rfl
   |some x=>rw[sS,if_neg e]
 ·rw[if_neg a];refine vG k j y kvs ?_;rw[jM]at a;cases q:br kvs k with
  |none=>rfl
  |some x=>rw[q]at a;exact(a rfl).elim
theorem jj(kvs:List (κ×V))(k:κ)(v:V):(cL kvs k v).length<=kvs.length+1:=by
 unfold cL;split
 ·rw[aj];omega
 ·rw[aL,d4,wX];omega
theorem df{kvs:List (κ×V)}{k:κ}(v:V)(h:br kvs k=none):cL kvs k v=kvs++[(k,v)]:=by
 unfold cL;rw[jM,h];exact if_neg (by decide)
theorem k4.isSome_eq{o:Option V}{u:Option Value}(r:k4 o u):o.isSome=u.isSome:=by
 cases o with
 |none=>cases u with
  |none=>rfl
  |some _=>exact(show False from r).elim
 |some _=>cases u with
  |none=>exact(show False from r).elim
  |some _=>rfl
theorem k4.getD{o:Option V}{u:Option Value}{d:V}{d':Value}(r:k4 o u)(rd:RelV d d'):RelV (o.getD d) (u.getD d'):=by
 cases o with
 |none=>cases u with
  |none=>exact rd
  |some _=>exact(show False from r).elim
 |some _=>cases u with
  |none=>exact(show False from r).elim
  |some _=>exact r
theorem KV.val{kvs:List (κ×V)}{vs:List (κ×Value)}(r:KV kvs vs)(k:κ):k4 (br kvs k) (nD vs k):=by
 unfold KV at r
 induction r with
 |nil=>exact je
 |@cons p q ps qs h t ih =>
  obtain⟨h1,h2⟩:=h;by_cases e:p.1=k
  ·have e':q.1=k:=h1.symm.trans e;have b:nD (q::qs) k=some q.2:=by simp[nD,lA,e']
   rw[cr e,b];exact h2
  ·have e':¬q.1=k:=fun z=>e (h1.trans z);have b:nD (q::qs) k=nD qs k:=by simp[nD,lA,e']
   rw[bW e,b];exact ih
theorem KV.any{kvs:List (κ×V)}{vs:List (κ×Value)}(r:KV kvs vs)(k:κ):(kvs.any fun kv=>decide (kv.1=k))=vs.any fun kv=>decide (kv.1=k):=by
 unfold KV at r
 induction r with
 |nil=>rfl
 |cons h t ih=>rw[nE,nE,ih,h.1]
theorem KV.repl{kvs:List (κ×V)}{vs:List (κ×Value)}(r:KV kvs vs)(k:κ){y:V}{u:Value}(ry:RelV y u):
  KV (kvs.map fun kv=>if kv.1=k then(kv.1,y)else kv) (vs.map fun kv=>if kv.1=k then(kv.1,u)else kv):=by
 unfold KV at r ⊢
 induction r with
 |nil=>exact .nil
 |@cons p q ps qs h t ih =>
  rw[bN,bN];refine .cons ?_ ih;obtain⟨h1,h2⟩:=h;by_cases e:p.1=k
  ·rw[if_pos e,if_pos (h1.symm.trans e)];exact⟨h1,ry⟩
  ·rw[if_neg e,if_neg (fun z=>e (h1.trans z))];exact⟨h1,h2⟩
theorem KV.put{kvs:List (κ×V)}{vs:List (κ×Value)}(r:KV kvs vs)(k:κ){y:V}{u:Value}(ry:RelV y u):KV (cL kvs k y) (stored vs k u):=by
 unfold cL stored;rw[r.any k];by_cases e:(vs.any fun kv=>decide (kv.1=k))=true
 ·rw[if_pos e,if_pos e];exact r.repl k ry
 ·rw[if_neg e,if_neg e];exact dv r ⟨rfl,ry⟩
theorem KV.length{kvs:List (κ×V)}{vs:List (κ×Value)}(r:KV kvs vs):kvs.length=vs.length:=Paired.length r
end
theorem pB{P:bT}{w:World}{k:eX}{u:Value}(r:RelV (kV k) u):(cA P w).is k u=true:=by
 cases k with
 |inl i=>obtain⟨t,e⟩:=(show ∃t,u=Value.int i t from r);subst e;exact zO P w i t
 |inr x=>obtain⟨t,e⟩:=(show ∃t,u=Value.str x t from r);subst e;exact zN P w x t
theorem x9:∀{k:ox}{u:Value},RelV (Hx k) u->i3 k u=true
 |none,u,r=>by cases(show u=Value.none from r);rfl
 |some (.inl i),u,r=>by obtain⟨t,rfl⟩:=r;exact mH i t
 |some (.inr x),u,r=>by obtain⟨t,rfl⟩:=r;exact mG x t
abbrev KT(K:Za)(H:Hp):List (TK×V)->List (TK×Addr×Value)->Prop:=Paired fun p q=>p.1=q.1/\mK K H p.1 (.ref q.2.1)/\p.1.depth<=8/\RelV p.2 q.2.2
theorem KT.val{K:Za}{H:Hp}{kvs:List (TK×V)}{xs:List (TK×Addr×Value)}(r:KT K H kvs xs)(k:TK):k4 (br kvs k) ((atKey xs k).map (·.2)):=by
 induction r with
 |nil=>exact je
 |@cons p q ps qs h t ih =>
  obtain⟨h1,_,_,h2⟩:=h;by_cases e:p.1=k
  ·have e':q.1=k:=h1.symm.trans e;have b:atKey (q::qs) k=some q.2:=by simp[atKey,lA,e']
   rw[cr e,b];exact h2
  ·have e':¬q.1=k:=fun z=>e (h1.trans z);have b:atKey (q::qs) k=atKey qs k:=by simp[atKey,lA,e']
   rw[bW e,b];exact ih
theorem KT.repl{K:Za}{H:Hp}{kvs:List (TK×V)}{xs:List (TK×Addr×Value)}(r:KT K H kvs xs)(k:TK){y:V}{u:Value}(ry:RelV y u):
  KT K H (kvs.map fun kv=>if kv.1=k then(kv.1,y)else kv) (xs.map (putAt k u)):=by
 induction r with
 |nil=>exact .nil
 |@cons p q ps qs h t ih =>
  rw[bN,bN];refine .cons ?_ ih;obtain⟨h1,h2,h3⟩:=h;unfold putAt;by_cases e:p.1=k
  ·rw[if_pos e,if_pos (h1.symm.trans e)];exact⟨h1,h2,h3.1,ry⟩
  ·rw[if_neg e,if_neg (fun z=>e (h1.trans z))];exact⟨h1,h2,h3⟩
theorem KT.put{K:Za}{H:Hp}{kvs:List (TK×V)}{xs:List (TK×Addr×Value)}(r:KT K H kvs xs)(k:TK){b:Addr}{y:V}{u:Value}(hb:mK K H k (.ref b))(h8:k.depth<=8)(ry:RelV y u):
  KT K H (cL kvs k y) (storedH xs k b u):=by
 have e:(kvs.any fun kv=>decide (kv.1=k))=(atKey xs k).isSome:=by
  rw[jM,(r.val k).isSome_eq,sR]
 unfold cL storedH;rw[e];by_cases q:(atKey xs k).isSome=true
 ·rw[if_pos q,if_pos q];exact r.repl k ry
 ·rw[if_neg q,if_neg q];exact dv r ⟨rfl,hb,h8,ry⟩
theorem KT.keeps{K:Za}{H H':Hp}{kvs:List (TK×V)}{xs:List (TK×Addr×Value)}(r:KT K H kvs xs)(ht:∀b ys,H b=some (.tup ys)->H' b=some (.tup ys)):KT K H' kvs xs :=
 Paired.mapP r fun _ _ z=>⟨z.1,mK.keeps ht 8 z.2.2.1 z.2.1,z.2.2⟩
section
variable{P:bT}{w:World}{K:Za}{H:Hp}{h:Heap}{a:Addr}
theorem Hr{u:HO}(ok:mL P w K H h)(e:Rd H a u):b9 P w K H h a u:=e.ok ok
theorem pF{kvs:List (eX×V)}(ok:mL P w K H h)(e:Rd H a (.dK kvs)):kvs.length<=ai/\(a==gE)=false/\∃vs,KV kvs vs/\h.DictOf (cA P w) a vs :=
 show b9 P w K H h a (.dK kvs)from Hr ok e
theorem IL{kvs:List (eX×V)}(ok:mL P w K H h)(e:H a=some (.dK kvs)):kvs.length<=ai/\(a==gE)=false/\∃vs,KV kvs vs/\h.DictOf (cA P w) a vs:=pF ok (.inl e)
theorem HL(ok:mL P w K H h)(kin:K.In h):∀(d:Nat) {k:TK}{v:V}{u:Value},k.depth<=d->mK K H k v->RelV v u->mZ h k u:=by
 have key:∀(d:Nat) (ih:∀{k:TK}{v:V}{u:Value},k.depth<=d->mK K H k v->RelV v u->mZ h k u) (ks:List TK) (vs:List V) (us:Zf),TK.depths ks<=d->TKCs K H ks vs->bg vs us->TAts h ks us:=by
  intro d ih ks
  induction ks with
  |nil =>
   intro vs us _ hx r;have e:vs=[]:=hx;subst e;cases r
   rfl
  |cons k ks ihl =>
   intro vs us hd hx r;obtain⟨v,vs',rfl,h1,h2⟩:=hx;cases r with
   |@cons _ u _ us' r1 r2 =>
    have hd':max k.depth (TK.depths ks)<=d:=hd;exact⟨u,us',rfl,ih (by omega) h1 r1,ihl vs' us' (by omega) h2 r2⟩
 intro d
 induction d with
 |zero =>
  intro k v u hd hx r;cases k with
  |t l=>exact absurd hd (by show ¬(TK.depths l+1<=0);omega)
  |k b =>
   have e:v=Hx b:=hx;subst e;exact x9 r
 |succ d ih =>
  intro k v u hd hx r;cases k with
  |k b =>
   have e:v=Hx b:=hx;subst e;exact x9 r
  |t l =>
   obtain⟨b,xs,rfl,hb,hi⟩:=hx;cases(show u=Value.ref b from r);obtain⟨its,rv,ob,h1,h2,n,h3⟩:∃its:List Value,bg xs its/\IsTup h b its.toArray:=by
    rcases hb with hb|⟨o,its,n,hk,hc,hs,hz,r⟩
    ·obtain⟨_,its,rv,p⟩:=(show b9 P w K H h b (.tup xs)from ok b _ hb);exact⟨its,rv,p⟩
    ·exact⟨its.toList,r,o,kin b o hk,hc,n,by simpa using hs⟩
   exact⟨b,ob,its.toArray,n,rfl,h1,h2,h3,by simpa using key d (fun h1=>ih h1) l xs its (by have:TK.depths l+1<=d+1:=hd;omega) hi rv⟩
theorem uh{k:TK}(ok:mL P w K H h)(kin:K.In h)(e:mK K H k (.ref a))(h8:k.depth<=8):(d6 P w).is h k a:=⟨HL ok kin 8 h8 e rfl,h8⟩
theorem rm{kvs:List (TK×V)}(ok:mL P w K H h)(kin:K.In h)(e:Rd H a (.dT kvs)):kvs.length<=ai/\(a==gE)=false /\
  ∃xs,KT K H kvs xs/\h.DictOfH (d6 P w) a xs:=by
 obtain⟨z,y,xs,r,o,es,ep,h1,h2,h3,h4,h5⟩:=(show b9 P w K H h a (.dT kvs)from Hr ok e);refine⟨z,y,xs,r,o,es,ep,h1,h2,h3,h4,fun x hx=>?_,h5⟩;have all:∀{l:List (TK×V)}{m:List (TK×Addr×Value)},KT K H l m->∀x∈m,(d6 P w).is h x.1 x.2.1:=by
  intro l m q
  induction q with
  |nil=>intro x hx;exact nomatch hx
  |@cons p q ps qs hq t ih =>
   intro x hx;rcases cO.mp hx with e|hx
   ·subst e;exact uh ok kin (by rw[<-hq.1];exact hq.2.1) (by rw[<-hq.1];exact hq.2.2.1)
   ·exact ih x hx
 exact all r x hx
theorem CJ{kvs:List (TK×V)}(ok:mL P w K H h)(kin:K.In h)(e:H a=some (.dT kvs)):kvs.length<=ai/\(a==gE)=false /\
  ∃xs,KT K H kvs xs/\h.DictOfH (d6 P w) a xs:=rm ok kin (.inl e)
end
mutual
def jc(K:Za)(H:Hp):TK->V->Prop
 |.k a,v=>v=Hx a
 |.t l,v=>∃b xs,v=.ref b/\bc K H b xs/\TKIns K H l xs
def TKIns(K:Za)(H:Hp):List TK->List V->Prop
 |[],vs=>vs=[]
 |k::r,vs=>∃v us,vs=v::us/\jc K H k v/\TKIns K H r us
end
theorem cW.isIn{K:Za}{H:Hp}:∀(d:Nat) {k:TK}{v:V},k.depth<=d->cW H k v->jc K H k v:=by
 have key:∀(d:Nat) (ih:∀{k:TK}{v:V},k.depth<=d->cW H k v->jc K H k v) (xs:List TK) (vs:List V),TK.depths xs<=d->TKAts H xs vs->TKIns K H xs vs:=by
  intro d ih xs
  induction xs with
  |nil=>intro vs _ hx;exact hx
  |cons x xs ihl =>
   intro vs hd hx;obtain⟨v,us,rfl,hx1,hx2⟩:=hx;have hd':max x.depth (TK.depths xs)<=d:=hd;exact⟨v,us,rfl,ih (by omega) hx1,ihl us (by omega) hx2⟩
 intro d
 induction d with
 |zero =>
  intro k v hd hx;cases k with
  |t l=>exact absurd hd (by show ¬(TK.depths l+1<=0);omega)
  |k a=>exact hx
 |succ d ih =>
  intro k v hd hx;cases k with
  |k a=>exact hx
  |t l =>
   obtain⟨b,xs,rfl,hb,hi⟩:=hx;exact⟨b,xs,rfl,bc.of hb,key d (fun h1=>ih h1) l xs (by have:TK.depths l+1<=d+1:=hd;omega) hi⟩
theorem Gg{X:Cx}{J3:Zd}{σ:St}{H:Hp}{s:Shared}(I:Inv X J3 σ H s):∀(d:Nat) {k:TK}{v:V}{u:Value},k.depth<=d->jc X.K H k v->RelV v u->mZ s.heap k u:=by
 have key:∀(d:Nat) (ih:∀{k:TK}{v:V}{u:Value},k.depth<=d->jc X.K H k v->RelV v u->mZ s.heap k u) (ks:List TK) (vs:List V) (us:Zf),TK.depths ks<=d->TKIns X.K H ks vs->bg vs us->TAts s.heap ks us:=by
  intro d ih ks
  induction ks with
  |nil =>
   intro vs us _ hx r;have e:vs=[]:=hx;subst e;cases r
   rfl
  |cons k ks ihl =>
   intro vs us hd hx r;obtain⟨v,vs',rfl,h1,h2⟩:=hx;cases r with
   |@cons _ u _ us' r1 r2 =>
    have hd':max k.depth (TK.depths ks)<=d:=hd;exact⟨u,us',rfl,ih (by omega) h1 r1,ihl vs' us' (by omega) h2 r2⟩
 intro d
 induction d with
 |zero =>
  intro k v u hd hx r;cases k with
  |t l=>exact absurd hd (by show ¬(TK.depths l+1<=0);omega)
  |k b =>
   have e:v=Hx b:=hx;subst e;exact x9 r
 |succ d ih =>
  intro k v u hd hx r;cases k with
  |k b =>
   have e:v=Hx b:=hx;subst e;exact x9 r
  |t l =>
   obtain⟨b,xs,rfl,hb,hi⟩:=hx;cases(show u=Value.ref b from r);obtain⟨its,rv,⟨ob,h1,h2,n,h3⟩,_⟩:=I.tuple hb;exact⟨b,ob,its.toArray,n,rfl,h1,h2,h3,by simpa using key d (fun h1=>ih h1) l xs its (by have:TK.depths l+1<=d+1:=hd;omega) hi rv⟩
theorem ui{X:Cx}{J3:Zd}{σ:St}{H:Hp}{s:Shared}{k:TK}{b:Addr}(I:Inv X J3 σ H s)(e:jc X.K H k (.ref b))(h8:k.depth<=8):(d6 X.prog X.w).is s.heap k b:=⟨Gg I 8 h8 e rfl,h8⟩
theorem fH{P:bT}{w:World}{A:Around}(hu:A.units+16<cLine):(d6 P w).room A.in1:=by
 show A.units+1+8<cLine;omega
def ip(K:Za)(H:Hp)(a:Addr)(y:V)(r:Option V):Prop :=
 (∃kvs k,Rd H a (.dK kvs)/\y=kV k/\r=br kvs k)∨∃kvs k b,Rd H a (.dT kvs)/\y=.ref b/\jc K H k (.ref b)/\k.depth<=8/\r=br kvs k
def IW(H:Hp)(a:Addr)(y v:V)(H':Hp):Prop :=
 (∃kvs k,H a=some (.dK kvs)/\y=kV k/\kvs.length<ai/\H'=upd H a (.dK (cL kvs k v))) ∨
 ∃kvs k b,H a=some (.dT kvs)/\y=.ref b/\cW H k (.ref b)/\k.depth<=8/\kvs.length<ai/\H'=upd H a (.dT (cL kvs k v))
section
variable{X:Cx}{J3:Zd}{σ:St}{H:Hp}{s:Shared}{a:Addr}{y v:V}{u r:Value}{o:Option V}{A:Around}{E:Zc}
theorem Inv.big(I:Inv X J3 σ H s):gE<s.heap.objs.size:=by
 have h:ck<s.heap.objs.size:=(I.mod.glob.keeps I.bk).lt;exact Nat.lt_trans (by decide) h
theorem DU{Q:Zc}(hu:A.units+16<cLine)(I:Inv X J3 σ H s)(g:ip X.K H a y (some v))(ry:RelV y u)(h:∀w' s',Inv X J3 σ H s'->RelV v w'->Q w' s'):
  wpAny (model X.prog X.w) A (nH (.ref a) u) Q E s:=by
 rcases g with⟨kvs,k,e,ey,l⟩|⟨kvs,k,b,e,ey,eb,e8,l⟩
 ·subst ey;obtain⟨z,hd,vs,rel,dd⟩:=pF I.hok e;obtain⟨w',hw,rw'⟩:=k4.some_of (v:=v) (o:=nD vs k) (by rw[l];exact rel.val k);exact wpAny_getItem_of (pB ry) dd.mapOf hw (h w' _ (I.tok _) rw')
 ·subst ey;cases(show u=Value.ref b from ry);obtain⟨z,hd,xs,rel,dd⟩:=rm I.hok I.kIn e;obtain⟨w',hw,rw'⟩:=k4.some_of (v:=v) (o:=(atKey xs k).map (·.2)) (by rw[l];exact rel.val k);obtain⟨p,hp,hp2⟩:=su.mp hw;refine wpAny_getItem_heap (fH hu) (ui I eb e8) dd hp ?_;rw[hp2];exact h w' _ (I.tok _) rw'
theorem d_in{Q:Zc}(hu:A.units+16<cLine)(I:Inv X J3 σ H s)(g:ip X.K H a y o)(ry:RelV y u)(h:∀s',Inv X J3 σ H s'->Q (.bool o.isSome) s'):
  wpAny (model X.prog X.w) A (eZ .In u (.ref a)) Q E s:=by
 rcases g with⟨kvs,k,e,ey,l⟩|⟨kvs,k,b,e,ey,eb,e8,l⟩
 ·subst ey;obtain⟨z,hd,vs,rel,dd⟩:=pF I.hok e;refine wpAny_in_of (pB ry) hd dd.mapOf ?_;rw[<-(rel.val k).isSome_eq,<-l];exact h _ (I.tok _)
 ·subst ey;cases(show u=Value.ref b from ry);obtain⟨z,hd,xs,rel,dd⟩:=rm I.hok I.kIn e;refine wpAny_in_heap (fH hu) (ui I eb e8) hd dd ?_;have q:=(rel.val k).isSome_eq;rw[sR]at q;rw[<-q,<-l];exact h _ (I.tok _)
theorem G6{Q:Zc}(hu:A.units+16<cLine)(I:Inv X J3 σ H s)(g:ip X.K H a y o)(ry:RelV y u)(h:∀s',Inv X J3 σ H s'->Q (.bool (!o.isSome)) s'):
  wpAny (model X.prog X.w) A (eZ .NotIn u (.ref a)) Q E s:=by
 rcases g with⟨kvs,k,e,ey,l⟩|⟨kvs,k,b,e,ey,eb,e8,l⟩
 ·subst ey;obtain⟨z,hd,vs,rel,dd⟩:=pF I.hok e;refine wpAny_notIn_of (pB ry) hd dd.mapOf ?_;rw[<-(rel.val k).isSome_eq,<-l];exact h _ (I.tok _)
 ·subst ey;cases(show u=Value.ref b from ry);obtain⟨z,hd,xs,rel,dd⟩:=rm I.hok I.kIn e;refine wpAny_notIn_heap (fH hu) (ui I eb e8) hd dd ?_;have q:=(rel.val k).isSome_eq;rw[sR]at q;rw[<-q,<-l];exact h _ (I.tok _)
theorem pH{h':Heap}{t':Nat}{ob:HO}(I:Inv X J3 σ H s)(mu:IN (H a))(hs:fG a s.heap h')(he:∃q,h'.get? a=some q)(new:b9 X.prog X.w X.K (upd H a ob) h' a ob):
  Inv X J3 σ (upd H a ob) { s with heap:=h',toks:=t' } :=
 I.write (x:=a) (e:=a) mu (.inl rfl) (fun b q hb z=>(hs.2 b hb).trans z) he new
theorem FE{P:bT}{w:World}{K:Za}{H':Hp}{h':Heap}{kvs:List (eX×V)}{vs:List (eX×Value)}(z:kvs.length<=ai)(hd:(a==gE)=false)(rel:KV kvs vs)(dd:h'.DictOf (cA P w) a vs):
  b9 P w K H' h' a (.dK kvs):=⟨z,hd,vs,rel,dd⟩
theorem DS{H':Hp}{Q:Unit->Shared->Prop}(hu:A.units+16<cLine)(I:Inv X J3 σ H s)(g:IW H a y v H')(ry:RelV y u)(rv:RelV v r)(h:∀s',Inv X J3 σ H' s'->Q () s'):
  wpAny (model X.prog X.w) A (setItem (.ref a) u r) Q E s:=by
 rcases g with⟨kvs,k,e,ey,l,eH⟩|⟨kvs,k,b,e,ey,eb,e8,l,eH⟩
 ·subst ey eH;obtain⟨z,hd,vs,rel,dd⟩:=IL I.hok e;have hz:vs.length<=ai:=by rw[<-rel.length];exact z
  have hl:(cL kvs k v).length<=ai:=by have:=jj kvs k v;omega
  refine wpAny_setItem_pairs (hsz:=hz) (pB ry) dd fun h' dd' hs=>h _ ?_;have he:∃q,h'.get? a=some q:=let⟨q,_,_,hq,_⟩:=dd';⟨q,hq⟩;exact pH I (by rw[e];exact je) hs he (FE hl hd (rel.put k rv) dd')
 ·subst ey eH;cases(show u=Value.ref b from ry);obtain⟨z,hd,xs,rel,dd⟩:=CJ I.hok I.kIn e;have hz:xs.length<=ai:=by rw[<-Paired.length rel];exact z
  have hl:(cL kvs k v).length<=ai:=by have:=jj kvs k v;omega
  refine wpAny_setItem_heap (hsz:=hz) (fH hu) (uh I.hok I.kIn (cW.c 8 e8 eb) e8) dd fun h' dd' hs=>h _ ?_;obtain⟨q,es,ep,hq,h2,h3,h4,_,h5⟩:=dd';refine pH I (by rw[e];exact je) hs ⟨q,hq⟩ ⟨hl,hd,_,(rel.put k (cW.c 8 e8 eb) e8 rv).keeps fun c ys ec=>?_,q,es,ep,hq,h2,h3,h4,h5⟩;rw[ag (Cy ec e (fun z=>nomatch z))];exact ec
theorem Br{b:Addr}{kvs:List (TK×V)}{k:TK}{Q:Unit->Shared->Prop}(hu:A.units+16<cLine)(I:Inv X J3 σ H s)(e:H a=some (.dT kvs))(eb:mK X.K H k (.ref b))(e8:k.depth<=8)(l:kvs.length<ai)(ry:RelV (.ref b) u)(rv:RelV v r)(h:∀s',Inv X J3 σ (upd H a (.dT (cL kvs k v))) s'->Q () s'):
  wpAny (model X.prog X.w) A (setItem (.ref a) u r) Q E s:=by
 cases(show u=Value.ref b from ry);obtain⟨z,hd,xs,rel,dd⟩:=CJ I.hok I.kIn e;have hz:xs.length<=ai:=by rw[<-Paired.length rel];exact z
 have hl:(cL kvs k v).length<=ai:=by have:=jj kvs k v;omega
 refine wpAny_setItem_heap (hsz:=hz) (fH hu) (uh I.hok I.kIn (eb) e8) dd fun h' dd' hs=>h _ ?_;obtain⟨q,es,ep,hq,h2,h3,h4,_,h5⟩:=dd';refine pH I (by rw[e];exact je) hs ⟨q,hq⟩ ⟨hl,hd,_,(rel.put k (eb) e8 rv).keeps fun c ys ec=>?_,q,es,ep,hq,h2,h3,h4,h5⟩;rw[ag (Cy ec e (fun z=>nomatch z))];exact ec
end
def Ea(i:Expr):Prop:=∀ov iv,xa i false ov iv=operate [ov,iv] (nH ov iv)
theorem Gm{prog:bT}{w:World}{A:Around}{E:Zc}{s:Shared}{env:Env}{value slice:Expr}{pos:Pos}{T id:String}{Q:Zc}
  (hl:typeLookup (.type T) "__getitem__"=pure (some (.builtin id))) (hs:Ea slice)
  (h:wpAny (model prog w) A (eval value env) (fun o s₁=>wpAny (model prog w) A (eval slice env) (fun i s₂=>s₂.TypeIs o T/\wpAny (model prog w) A (nH o i) Q E s₂) E s₁) E s) :
  wpAny (model prog w) A (eval (.Subscript value slice pos) env) Q E s:=by
 refine xf (oO h (fun o s₁ h₁=>oO h₁ (fun i s₂ h₂=>?_) fun _ _ x=>x) fun _ _ x=>x);obtain⟨hT,h₂⟩:=h₂;unfold xc;refine am ?_;rw[getitemInPython_of_ne hT.not_modules];refine am (Ga hT hl ?_);have fin:wpAny (model prog w) A (xa slice false o i) (fun r s₃=>wpAny (model prog w) A (letTemporaryGo value o r >>= fun _=>pure r) Q E s₃) E s₂:=by
  rw[hs o i];exact wpAny_operating (oO h₂ (fun r s₃ h₃=>am (wpAny_letTemporaryGo (aD h₃))) fun _ _ x=>x)
 first
  |exact aD (am fin)
  |exact am (aD (am fin))
  |exact am fin
theorem z5{X:Cx}{J3:Zd}{σ:St}{H:Hp}{s:Shared}{a:Addr}{y:V}{o:Option V}(I:Inv X J3 σ H s)(g:ip X.K H a y o):s.TypeIs (.ref a) "dict":=by
 rcases g with⟨kvs,k,e,_,_⟩|⟨kvs,k,b,e,_,_,_⟩
 ·obtain⟨_,_,vs,_,dd⟩:=pF I.hok e;exact dd.typeIs
 ·obtain⟨_,_,xs,_,dd⟩:=rm I.hok I.kIn e;exact dd.typeIs
def gG(K:Za)(td ty:TE):TE:=fun σ H Q=>td σ H fun x H1=>ty σ H1 fun y H2=>∃a v,x=.ref a/\ip K H2 a y (some v)/\Q v H2
def rM(K:Za)(ty td:TE):TE:=fun σ H Q=>ty σ H fun y H1=>td σ H1 fun x H2=>∃a o,x=.ref a/\ip K H2 a y o/\Q (.bl o.isSome) H2
def cU(K:Za)(ty td:TE):TE:=fun σ H Q=>ty σ H fun y H1=>td σ H1 fun x H2=>∃a o,x=.ref a/\ip K H2 a y o/\Q (.bl (!o.isSome)) H2
def kQ(td ty tv:TE):TS:=fun D σ H=>tv σ H fun v H1=>td σ H1 fun x H2=>ty σ H2 fun y H3=>∃a H4,x=.ref a/\IW H3 a y v H4/\D.nx σ H4
section
variable{X:Cx}{o i e value:Expr}{pos pos' J7:Pos}{td ty tv:TE}
theorem eU(hu:X.A.units+16<cLine)(ho:PE X o td)(hi:PE X i ty)(hs:Ea i):PE X (.Subscript o i pos) (gG X.K td ty):=by
 intro J3 s σ H Q I h;refine Gm PySem.F.slot_dict_getitem.lookup hs (cE (ho J3 s σ H _ I h) fun u s1 ⟨x,H1,I1,rx,q1⟩=>cE (hi J3 s1 σ H1 _ I1 q1) fun iv s2 ⟨y,H2,I2,ry,a,v,ex,g,q2⟩=>?_);subst ex;obtain rfl:u=Value.ref a:=rx;exact⟨z5 I2 g,DU hu I2 g ry fun w' s3 I3 rw'=>⟨v,H2,I3,rw',q2⟩⟩
theorem jz(hu:X.A.units+16<cLine)(hi:PE X i ty)(ho:PE X o td):PC X .In i o (rM X.K ty td):=by
 intro J3 s σ H Q I h;refine cE (hi J3 s σ H _ I h) fun iv s1 ⟨y,H1,I1,ry,q1⟩=>cE (ho J3 s1 σ H1 _ I1 q1) fun u s2 ⟨x,H2,I2,rx,a,ov,ex,g,q2⟩=>?_;subst ex;obtain rfl:u=Value.ref a:=rx;exact d_in hu I2 g ry fun s3 I3=>⟨.bl ov.isSome,H2,I3,rfl,q2⟩
theorem cM(hu:X.A.units+16<cLine)(hi:PE X i ty)(ho:PE X o td):PC X .NotIn i o (cU X.K ty td):=by
 intro J3 s σ H Q I h;refine cE (hi J3 s σ H _ I h) fun iv s1 ⟨y,H1,I1,ry,q1⟩=>cE (ho J3 s1 σ H1 _ I1 q1) fun u s2 ⟨x,H2,I2,rx,a,ov,ex,g,q2⟩=>?_;subst ex;obtain rfl:u=Value.ref a:=rx;exact G6 hu I2 g ry fun s3 I3=>⟨.bl (!ov.isSome),H2,I3,rfl,q2⟩
theorem fZ(hu:X.A.units+16<cLine)(ho:PE X o td)(hi:PE X i ty)(hv:PE X value tv)(hs:qW value (some (.Subscript o i pos')) pos.line X.env=pure false):
  PS X (.Assign [.Subscript o i pos'] value pos) (kQ td ty tv):=by
 intro J3 s σ H D I h;refine wpAny_Assign_Subscript (cE (hv J3 s σ H _ I h) fun r s1 ⟨v,H1,I1,rv,q1⟩=>cE (ho J3 s1 σ H1 _ I1 q1) fun u s2 ⟨x,H2,I2,rx,q2⟩=>cE (hi J3 s2 σ H2 _ I2 q2) fun iv s3 ⟨y,H3,I3,ry,a,H4,ex,g,q3⟩=>?_) hs;subst ex;obtain rfl:u=Value.ref a:=rx;exact DS hu I3 g ry rv fun s4 I4=>⟨σ,H4,I4,q3⟩
end
theorem FG{P:bT}{w:World}{K:Za}{H:Hp}(h:Heap)(hb:gE<h.objs.size):b9 P w K H (h.push { cls:=.type "dict",data:=.dict #[] }) h.objs.size (.dK []) :=
 ⟨db _,beq_eq_false_iff_ne.mpr (dB (de hb)),[],.nil,Heap.DictOf.new h⟩
theorem z0{P:bT}{w:World}{K:Za}{H:Hp}(h:Heap)(hb:gE<h.objs.size):b9 P w K H (h.push { cls:=.type "dict",data:=.dict #[] }) h.objs.size (.dT []) :=
 ⟨db _,beq_eq_false_iff_ne.mpr (dB (de hb)),[],.nil,_,#[],0,cF _ rfl,⟨rfl,rfl,rfl⟩,rfl,rfl,qd⟩
def nU:TE:=fun _ H Q=>∀p,H p=none->Q (.ref p) (upd H p (.dK []))
def ke:TE:=fun _ H Q=>∀p,H p=none->Q (.ref p) (upd H p (.dT []))
section
variable{X:Cx}{pos:Pos}
theorem jV:PE X (.Dict [] [] pos) nU:=fun J3 s σ H Q I h =>
 wpAny_Dict_empty ⟨.ref s.heap.objs.size,_,I.laid (a:=s.heap.objs.size) (o:=.dK []) (t':=s.toks) (fun _ _ q=>bw _ q) (aB _) (FG s.heap I.big),rfl,h _ (I.hok.fresh (aB _))⟩
theorem h_:PE X (.Dict [] [] pos) ke:=fun J3 s σ H Q I h =>
 wpAny_Dict_empty ⟨.ref s.heap.objs.size,_,I.laid (a:=s.heap.objs.size) (o:=.dT []) (t':=s.toks) (fun _ _ q=>bw _ q) (aB _) (z0 s.heap I.big),rfl,h _ (I.hok.fresh (aB _))⟩
end
def jA(kvs more:List (eX×V)):List (eX×V):=more.foldl (fun acc kv=>cL acc kv.1 kv.2) kvs
theorem KV.merge:∀{more:List (eX×V)}{rs:List (eX×Value)}{kvs:List (eX×V)}{vs:List (eX×Value)},KV more rs->KV kvs vs->KV (jA kvs more) (merged vs rs):=by
 intro more rs kvs vs r;unfold KV at r
 induction r generalizing kvs vs with
 |nil=>intro q;exact q
 |@cons p q ps qs h t ih =>
  intro r0;have e:KV (cL kvs p.1 p.2) (stored vs q.1 q.2):=by
   have:=r0.put p.1 h.2;rw[<-h.1];exact this
  exact ih e
theorem nv:∀(more kvs:List (eX×V)),(jA kvs more).length<=kvs.length+more.length
 |[],kvs=>by show kvs.length<=kvs.length+0;omega
 |p::r,kvs=>by
  have h1:=nv r (cL kvs p.1 p.2);have h2:=jj kvs p.1 p.2;show(jA (cL kvs p.1 p.2) r).length<=_;rw[d4];omega
structure M1(X:Cx)(o:Expr)(m:Str)(J5:Pos)(e:Expr)(J4:Pos):Prop where
 base:sk o m X.env (eval o X.env)=eval o X.env
 few:((backTo J4 (aN [e] X.env)).all (fun x=>!x.1) && (oJ J4 (oI [] X.env)).all (fun x=>x.1.isSome)
  && decide (([e]:List Expr).length+([]:List qe).length+(if([]:List qe).isEmpty then 0 else 1)<30))=true
 line:(J5.endLine==J4.line)=true
 trees:backTo J4 (aN [e] X.env)=[(false,eval e X.env)]
structure M2(X:Cx)(o:Expr)(m:Str)(J5:Pos)(e f:Expr)(J4:Pos):Prop where
 base:sk o m X.env (eval o X.env)=eval o X.env
 few:((backTo J4 (aN [e,f] X.env)).all (fun x=>!x.1) && (oJ J4 (oI [] X.env)).all (fun x=>x.1.isSome)
  && decide (([e,f]:List Expr).length+([]:List qe).length+(if([]:List qe).isEmpty then 0 else 1)<30))=true
 line:(J5.endLine==J4.line)=true
 trees:backTo J4 (aN [e,f] X.env)=[(false,eval e X.env),(false,eval f X.env)]
def IS(H:Hp)(a:Addr):Prop:=(∃kvs,Rd H a (.dK kvs))∨∃kvs,Rd H a (.dT kvs)
theorem Fq{X:Cx}{J3:Zd}{σ:St}{H:Hp}{s:Shared}{a:Addr}(I:Inv X J3 σ H s)(d:IS H a):
  s.TypeIs (.ref a) "dict"/\(∀b,Value.ref a=.ref b->∃ob,s.heap.get? b=some ob/\ob.dict=none)/\(a==gE)=false:=by
 rcases d with⟨kvs,e⟩|⟨kvs,e⟩
 ·obtain⟨_,hd,vs,_,dd⟩:=pF I.hok e;refine⟨dd.typeIs,fun b q=>?_,hd⟩;cases q;obtain⟨ob,_,_,h1,h2,_⟩:=dd;exact⟨ob,h1,h2.2.1⟩
 ·obtain⟨_,hd,xs,_,dd⟩:=rm I.hok I.kIn e;refine⟨dd.typeIs,fun b q=>?_,hd⟩;cases q;obtain⟨ob,_,_,h1,h2,_⟩:=dd;exact⟨ob,h1,h2.2.1⟩
section
variable{X:Cx}{J3:Zd}{σ:St}{H:Hp}{s:Shared}{a:Addr}{y d:V}{u r:Value}{o:Option V}{A:Around}{E:Zc}
theorem Ih{Q:Zc}(hu:A.units+16<cLine)(I:Inv X J3 σ H s)(g:ip X.K H a y o)(ry:RelV y u)(h:∀w' s',Inv X J3 σ H s'->RelV (o.getD .non) w'->Q w' s'):
  wpAny (model X.prog X.w) A (call (.builtin "dict.get") [.ref a,u]) Q E s:=by
 rcases g with⟨kvs,k,e,ey,l⟩|⟨kvs,k,b,e,ey,eb,e8,l⟩
 ·subst ey;obtain⟨z,hd,vs,rel,dd⟩:=pF I.hok e;refine sQ qb dd.typeIs wW (PySem.F.args_dict_get_2 _ _) (meets_dict_get (cA X.prog X.w) a (pB ry) hd) ⟨_,dd.mapOf,h _ _ (I.tok _) ?_⟩;rw[l];exact(rel.val k).getD rfl
 ·subst ey;cases(show u=Value.ref b from ry);obtain⟨z,hd,xs,rel,dd⟩:=rm I.hok I.kIn e;refine sQ qb dd.typeIs wW (PySem.F.args_dict_get_2 _ _) (meetsH_dict_get (d6 X.prog X.w) a b hd) ⟨fH hu,k,xs,ui I eb e8,dd,h _ _ (I.tok _) ?_⟩;rw[l];exact(rel.val k).getD rfl
theorem Ig{Q:Zc}(hu:A.units+16<cLine)(I:Inv X J3 σ H s)(g:ip X.K H a y o)(ry:RelV y u)(rd:RelV d r)(h:∀w' s',Inv X J3 σ H s'->RelV (o.getD d) w'->Q w' s'):
  wpAny (model X.prog X.w) A (call (.builtin "dict.get") [.ref a,u,r]) Q E s:=by
 rcases g with⟨kvs,k,e,ey,l⟩|⟨kvs,k,b,e,ey,eb,e8,l⟩
 ·subst ey;obtain⟨z,hd,vs,rel,dd⟩:=pF I.hok e;refine sQ qb dd.typeIs wW (PySem.F.args_dict_get_3 _ _ _) (meets_dict_get_default (cA X.prog X.w) a (pB ry) hd r) ⟨_,dd.mapOf,h _ _ (I.tok _) ?_⟩;rw[l];exact(rel.val k).getD rd
 ·subst ey;cases(show u=Value.ref b from ry);obtain⟨z,hd,xs,rel,dd⟩:=rm I.hok I.kIn e;refine sQ qb dd.typeIs wW (PySem.F.args_dict_get_3 _ _ _) (meetsH_dict_get_default (d6 X.prog X.w) a b hd r) ⟨fH hu,k,xs,ui I eb e8,dd,h _ _ (I.tok _) ?_⟩;rw[l];exact(rel.val k).getD rd
end
def xB(K:Za)(td ty:TE):TE:=fun σ H Q=>td σ H fun x H1=>∃a,x=.ref a/\IS H1 a/\ty σ H1 fun y H2=>∃o,ip K H2 a y o/\Q (o.getD .non) H2
def tK(K:Za)(td ty tx:TE):TE:=fun σ H Q=>td σ H fun x H1=>∃a,x=.ref a/\IS H1 a/\ty σ H1 fun y H2=>tx σ H2 fun z H3=>∃o,ip K H3 a y o/\Q (o.getD z) H3
section
variable{X:Cx}{o e f:Expr}{J5 J4:Pos}{td ty tx:TE}
theorem zD(hu:X.A.units+16<cLine)(ho:PE X o td)(he:PE X e ty)(m:M1 X o "get" J5 e J4):PE X (.Call (.Attribute o "get" J5) [e] [] J4) (xB X.K td ty):=by
 intro J3 s σ H Q I h;refine wpAny_Call_method m.base m.few m.line PySem.F.plainAttrs_dict qb PySem.F.type_dict_get (cE (ho J3 s σ H _ I h) fun u s1 ⟨x,H1,I1,rx,a,ex,d,q1⟩=>?_);subst ex;obtain rfl:u=Value.ref a:=rx;obtain⟨t1,t2,_⟩:=Fq I1 d;refine⟨t1,t2,?_⟩;rw[m.trees];refine sT rfl (Calls.evalArgs_plain (BM (cE (he J3 s1 σ H1 _ I1 q1) fun iv s2 ⟨y,H2,I2,ry,ov,g,q2⟩=>Calls.spliced_nil ?_)));exact Ih hu I2 g ry fun w' s3 I3 rw'=>⟨_,H2,I3,rw',q2⟩
theorem ph(hu:X.A.units+16<cLine)(ho:PE X o td)(he:PE X e ty)(hf:PE X f tx)(m:M2 X o "get" J5 e f J4):PE X (.Call (.Attribute o "get" J5) [e,f] [] J4) (tK X.K td ty tx):=by
 intro J3 s σ H Q I h;refine wpAny_Call_method m.base m.few m.line PySem.F.plainAttrs_dict qb PySem.F.type_dict_get (cE (ho J3 s σ H _ I h) fun u s1 ⟨x,H1,I1,rx,a,ex,d,q1⟩=>?_);subst ex;obtain rfl:u=Value.ref a:=rx;obtain⟨t1,t2,_⟩:=Fq I1 d;refine⟨t1,t2,?_⟩;rw[m.trees];refine sT rfl (Calls.evalArgs_plain (BM (cE (he J3 s1 σ H1 _ I1 q1) fun iv s2 ⟨y,H2,I2,ry,q2⟩ =>
  BM (cE (hf J3 s2 σ H2 _ I2 q2) fun fv s3 ⟨z,H3,I3,rz,ov,g,q3⟩=>Calls.spliced_nil ?_))))
 exact Ig hu I3 g ry rz fun w' s4 I4 rw'=>⟨_,H3,I4,rw',q3⟩
end
end L2
namespace Att
open PySem PySem.W PySem.Calls PyProof.Rows
theorem ints_of_wellAll{P:Params}{h:Heap}:∀(ns:List Int) (vs:Zf),WellAll P h vs (ns.map WData.int)->sP vs ns:=by
 intro ns
 induction ns with
 |nil =>
  intro vs w;rw[List.map_nil]at w;cases w;exact .nil
 |cons n ns ih =>
  intro vs w;rw[bN]at w;cases w with
  |cons a b =>
   cases a;exact .cons _ _ (ih _ b)
theorem script_of{l:OpenLaw}{n:Nat}(hn:l.most=some n){P:Params}{h:Heap}{args:List WData}{vals:Zf}
  (hpre:l.row.toRowW.claim.pre args=true) (hwl:WellAll P h vals args) :
  ∃a vs ns,vals=[Value.ref a]/\args=[WData.list (ns.map WData.int)]/\h.get? a=some { cls:=.type "list",data:=.seq vs.toArray }/\sP vs ns/\ns.length<=n:=by
 have hsh:WShape.hasAll [] args [.list .int]=true:=(pre_splitW hpre).1;have hc:l.pre.holds [] { args:=args }=true:=(pre_splitW hpre).2;obtain⟨d,r,rfl,h1,h2⟩:=hasAllW_cons hsh;obtain rfl:=hasAllW_nil h2;obtain⟨xs,rfl,h3⟩:=hasW_list h1;obtain⟨ns,rfl⟩:=items_int h3;have hlen:ns.length<=n:=by
  unfold OpenLaw.pre at hc;have h4:(WTm.not (.lt (.lit (.int (n:Int))) (.len (.arg 0)))).holds [] { args:=[.list (ns.map .int)] }=true:=by
   have h4:=(holds_andW hc).1;rw[hn]at h4;exact h4
  have h5:=condW_of h4 (w_not (w_lt w_lit (w_len_list (w_arg rfl))));rw[aj]at h5;refine Nat.le_of_not_lt fun q=>?_;have q':(n:Int)<((ns.length:Nat):Int):=by omega
  first
   | (rw[zzr1 q']at h5;exact absurd h5 (by decide))
   | (simp at h5;omega)
 cases hwl with
 |cons w1 w2 =>
  cases w2;cases w1 with
  |list ho hall=>exact⟨_,_,ns,rfl,rfl,ho,ints_of_wellAll ns _ hall,hlen⟩
theorem post_true(l:OpenLaw)(args:List WData):l.row.toRowW.claim.post args (.bool true) args=true :=
 postW_of (r:=l.row.toRowW) (X:=(true==true))
  (show WShape.has [] (.bool true) .bool=true by first|rfl|decide|simp[WShape.has,WShape.arms,WShape.armsAll])
  (show(WTm.eq .res (.lit (.bool true))).value [] { args:=args,res:=some (.bool true),after:=args }=some (.bool (true==true))from w_eq_bool (w_res rfl) w_lit) rfl
theorem attach_call{l:OpenLaw}{n:Nat}{q:bT}{loose:Zb}{XP:(Str->Option Value)->Heap->Prop}{YP:World->Heap->Prop}{d:DefRec}
  (hn:l.most=some n) (hdf:d.params.defaults=[])
  (call:∀(w:World) (s₀ s₁:Shared) (mg mb:Str->Option Value) (fa:Addr) (o:Obj) (pm cd doc:Value) (a:Addr) (vs:Zf) (ns:List Int),
   Ground q loose [] XP w s₀ mg mb s₁.heap->YP w s₁.heap ->
   s₁.heap.get? fa=some o->o.data=.func (docDef d.name d.params d.body d.scope pm cd doc)->s₁.heap.CodeRec cd d.name->mg d.name=some (.ref fa) ->
   s₁.heap.get? a=some { cls:=.type "list",data:=.seq vs.toArray }->sP vs ns->ns.length<=n->s₁.gens=#[] ->
   zzl79 (model l.prog w) lr (.call (.ref fa) ⟨[.ref a],[]⟩) (fun r s'=>r=.ok (.ret (.bool true))/\OldK s₁.heap s'.heap/\s'.os=s₁.os/\oN s'.gens) s₁) :
  WalkO q loose XP YP l.row.toRowW d [] (fun f vs=>PySem.call f vs):=by
 intro w s₀ s₁ mg mb G Y fa o pm cd doc dV kV ho hd hcd hD hmg hg args vals as hpre hlay hrd hwl hlo;obtain rfl:dV=.none:=Dflts.none hD hdf;obtain rfl:kV=.none:=Dflts.noKw hD;obtain⟨a,vs,ns,rfl,rfl,hobj,hints,hlen⟩:=script_of hn hpre hwl;refine enter_call (BL (call w s₀ s₁ mg mb fa o pm cd doc a vs ns G Y ho (fd_plain hd) hcd hmg hobj hints hlen hg) fun r s' hq=>?_);obtain⟨rfl,h2,h3,h4⟩:=hq;exact⟨.inl ⟨.bool true,.bool true,[],rfl,fun _=>rfl,.bool true,post_true l _,fun _=>⟨List.Pairwise.nil,fun _ hm=>(nomatch hm)⟩⟩,h2,h3,h4⟩
end Att
namespace L2
open PySem PySem.Spec PyProof.Rows
theorem vF:∀{vs:Zf}{ns:List Int},sP vs ns->bg (ns.map V.int) vs
 |_,_,.nil=>.nil
 |_,_,.cons n t h=>.cons ⟨t,rfl⟩ (vF h)
def Hh(H:Hp):Prop:=∀b,H b=none∨∃o xs,H b=some (.frz o (.lst xs))
theorem Fm{P:bT}{w:World}{K:Za}{mg mb:Str->Option Value}{CX:Ei}{k:Nat}{fa a:Addr}{fd:k5}{x:Str}{sp:Sp}{s₁:Shared}{vs:Zf}{ns:List Int}
  (KX:K.In s₁.heap) (hns:s₁.heap.Ns ck mg) (hb:s₁.heap.Ns builtinsNs mb) (hbb:∀x:Str,x≠"__name__"->mb x=kP x) (hlim:s₁.heap.NoLimit) (hg:s₁.gens=#[])
  (ha:s₁.heap.get? a=some { cls:=.type "list",data:=.seq vs.toArray }) (hi:sP vs ns) (hl:ns.length<=ai) (hr:eW k lr)
  (F:∀base:Heap,K.In base->base.Ns ck mg->m_ P w K mg base CX k fa fd [x] sp) (hbind:∀(s:Shared) (u:Value),sj s fd ⟨[u],[]⟩ [(x,u)])
  (hsp:∀H:Hp,Hh H->ay K H a (ns.map V.int)->sp [.ref a] H (fun v _=>v=.bl true) fun _ _ _=>False)
  (hCX:∀H e s',CX [] H s₁ (fun _ _ _=>False) e s'->False) :
  zzl79 (model P w) lr (.call (.ref fa) ⟨[.ref a],[]⟩) (fun r s'=>r=.ok (.ret (.bool true))/\OldK s₁.heap s'.heap/\s'.os=s₁.os/\oN s'.gens) s₁:=by
 have rv:=vF hi;have lenV:=hi.length;have core:∀H:Hp,Hh H->ay K H a (ns.map V.int)->mL P w K H s₁.heap->(∀b,H b≠none->b=a)->(H a≠none->K.lookup a=none) ->
   zzl79 (model P w) lr (.call (.ref fa) ⟨[.ref a],[]⟩) (fun r s'=>r=.ok (.ret (.bool true))/\OldK s₁.heap s'.heap/\s'.os=s₁.os/\oN s'.gens) s₁:=by
  intro H hO hS hok hA hK;have base_of:∀{b:Addr}{o:Obj},s₁.heap.get? b=some o->H b=none->(yb s₁.heap H).get? b=some o:=fun e n=>Ft e n;have noA:∀{b:Addr}{o:Obj}{es:Array jv}{ep:Nat},s₁.heap.get? b=some o->o.data=.dict es ep->H b=none:=fun{b o es ep} e d=>by
   cases q:H b with
   |none=>rfl
   |some u =>
    have e':b=a:=hA b (by rw[q];simp);subst e';rw[ha]at e;cases e;have d':Data.seq vs.toArray _=Data.dict es ep:=d;cases d'
  have nsK:∀{b:Addr}{m:Str->Option Value},s₁.heap.Ns b m->(yb s₁.heap H).Ns b m:=fun{b m} ⟨o,es,ep,e,d,r⟩=>⟨o,es,ep,base_of e (noA e d),d,r⟩;have hKb:K.In (yb s₁.heap H):=fun b o e=>base_of (KX b o e) (by
   cases q:H b with
   |none=>rfl
   |some u =>
    have e':b=a:=hA b (by rw[q];simp);subst e';rw[hK (by rw[q];simp)]at e;cases e)
  have hM:Mod K mg (yb s₁.heap H):=⟨hKb,nsK hns,⟨mb,nsK hb,hbb⟩,let⟨mc,h1,h2⟩:=hlim;⟨mc,nsK h1,h2⟩⟩;have e0:BI P w K mg (yb s₁.heap H) lr [] s₁ H:=⟨rfl,hM,fun b o e=>GW e,Nat.le_of_eq (DK _ _),trivial,fun b hb=>absurd (show b∈([]:Ze)from hb) (by simp),hok,.of_eq hg⟩;refine BL ((F _ hKb (nsK hns)).run lr [] s₁ H ⟨[.ref a],[]⟩ [.ref a] [.ref a] _ _ hr e0 (hbind s₁ (.ref a)) (.cons rfl .nil) (hsp H hO hS)) fun r s' h=>?_;cases r with
  |error e=>exact(hCX H e s' h).elim
  |ok fl =>
   cases fl with
   |next=>exact jL h
   |brk=>exact jL h
   |cont=>exact jL h
   |ret u =>
    obtain⟨v,H',os,bare,un,hok',r',q⟩:=h;have q':v=.bl true:=q;subst q';obtain rfl:u=Value.bool true:=r';refine⟨rfl,OldK.of_keep fun b o e=>?_,os,bare⟩;cases q:H b with
    |none=>exact un.keep b o e q (by intro z;exact absurd (show b∈([]:Ze)from z) (by simp)) (by simp)
    |some u =>
     rcases hO b with z|⟨ob,xs,z⟩
     ·rw[q]at z;cases z
     ·have z2:=un.frzs b ob _ z;obtain⟨e1,_⟩:=hok b _ z;obtain⟨e2,_⟩:=hok' b _ z2;rw[e]at e1;cases e1;exact e2
 cases hk:K.lookup a with
 |some o =>
  have e:=KX a o hk;rw[ha]at e;cases e;refine core (fun _=>none) (fun _=>.inl rfl) (.inr ⟨_,vs.toArray,_,hk,rfl,rfl,rfl,by rw[bL,lenV];exact hl,by simpa using rv⟩) (fun b u z=>by have z':(none:Option HO)=some u:=z;cases z') (fun b z=>absurd rfl z) fun z=>absurd rfl z
 |none =>
  refine core (fun b=>if b=a then some (.frz { cls:=.type "list",data:=.seq vs.toArray } (.lst (ns.map V.int)))else none) (fun b=>?_) (.inl (.inr ⟨{ cls:=.type "list",data:=.seq vs.toArray },if_pos rfl⟩)) (fun b u z=>?_) (fun b z=>?_) fun _=>hk
  ·by_cases hb:b=a
   ·exact .inr ⟨_,_,if_pos hb⟩
   ·exact .inl (if_neg hb)
  ·by_cases hb:b=a
   ·have z':=(if_pos hb).symm.trans z;cases z';subst hb;exact⟨ha,by rw[aj];exact hl,vs,_,rv,ha⟩
   ·have z':=(if_neg hb).symm.trans z;cases z'
  ·by_cases hb:b=a
   ·exact hb
   ·exact absurd (if_neg hb) z
end L2
namespace L2
open PySem PySem.Spec PyProof.Rows
theorem Gd{l:PySem.W.OpenLaw}{n k:Nat}{q:bT}{loose:Zb}{XP:(Str->Option Value)->Heap->Prop}{YP:World->Heap->Prop}{d:DefRec}{K:Params->Za}{CX:World->Ei}{sp:World->Sp}{x:Str}
  (hn:l.most=some n) (hn2:n<=ai) (hdf:d.params.defaults=[]) (hr:eW k lr)
  (hY:∀(w:World) (h:Heap),YP w h->(K w.params).In h)
  (F:∀(w:World) (mg:Str->Option Value) (fa:Addr) (h:Heap),(K w.params).In h->h.Ns ck mg->mg d.name=some (.ref fa) ->
   ∃fd:k5,(∀(s:Shared) (u:Value),sj s fd ⟨[u],[]⟩ [(x,u)]) /\
    ∀base:Heap,(K w.params).In base->base.Ns ck mg->m_ l.prog w (K w.params) mg base (CX w) k fa fd [x] (sp w))
  (hsp:∀(w:World) (H:Hp) (a:Addr) (ns:List Int),ns.length<=n->Hh H->ay (K w.params) H a (ns.map V.int)->sp w [.ref a] H (fun v _=>v=.bl true) fun _ _ _=>False)
  (hCX:∀(w:World) (H:Hp) (s:Shared) (e:Value) (s':Shared),CX w [] H s (fun _ _ _=>False) e s'->False) :
  PySem.W.WalkO q loose XP YP l.row.toRowW d [] (fun f vs=>PySem.call f vs):=by
 refine Att.attach_call hn hdf fun w s₀ s₁ mg mb fa o pm cd doc a vs ns G Y ho hd hcd hmg hobj hints hlen hg=>?_;have KX:=hY w _ Y;obtain⟨fd,hb,hF⟩:=F w mg fa _ KX G.T.g hmg;exact Fm KX G.T.g G.T.b G.T.builtins G.T.nolimit hg hobj hints (bG hlen hn2) hr hF hb (fun H hO hS=>hsp w H a ns hlen hO hS) fun H e s'=>hCX w H s₁ e s'
theorem walk_ofK{l:PySem.W.OpenLaw}{n k:Nat}{q:bT}{loose:Zb}{XP:(Str->Option Value)->Heap->Prop}{YP:World->Heap->Prop}{d:DefRec}{K:Params->Za}{CX:Ei}{sp:Za->Sp}{x:Str}
  (hn:l.most=some n) (hn2:n<=ai) (hdf:d.params.defaults=[]) (hr:eW k lr)
  (hY:∀(w:World) (h:Heap),YP w h->(K w.params).In h)
  (F:∀(w:World) (mg:Str->Option Value) (fa:Addr) (h:Heap),(K w.params).In h->h.Ns ck mg->mg d.name=some (.ref fa) ->
   ∃fd:k5,(∀(s:Shared) (u:Value),sj s fd ⟨[u],[]⟩ [(x,u)]) /\
    ∀base:Heap,(K w.params).In base->base.Ns ck mg->m_ l.prog w (K w.params) mg base CX k fa fd [x] (sp (K w.params)))
  (hsp:∀(K:Za) (H:Hp) (a:Addr) (ns:List Int),ns.length<=n->Hh H->ay K H a (ns.map V.int)->sp K [.ref a] H (fun v _=>v=.bl true) fun _ _ _=>False)
  (hCX:∀(H:Hp) (s:Shared) (e:Value) (s':Shared),CX [] H s (fun _ _ _=>False) e s'->False) :
  PySem.W.WalkO q loose XP YP l.row.toRowW d [] (fun f vs=>PySem.call f vs) :=
 Gd (K:=K) (CX:=fun _=>CX) (sp:=fun w=>sp (K w.params)) hn hn2 hdf hr hY F (fun w H a ns h1 h2 h3=>hsp (K w.params) H a ns h1 h2 h3) fun _ H s e s'=>hCX H s e s'
end L2
namespace L2
open PySem PySem.Spec PyProof.Rows
def gh(s:Stmt)(j:Nat):Stmt:=match s with
 |.ClassDef _ _ _ body _ _ _ _ _ _ _=>body.getD j (.Pass ⟨0,0,0,0⟩)
 |_=>.Pass ⟨0,0,0,0⟩
def iB(s:Stmt):Arguments:=match s with
 |.FunctionDef _ a _ _ _ _ _ _ _ _=>a
 |_=>{ posonlyargs:=[],args:=[],vararg:=none,kwonlyargs:=[],kw_defaults:=[],kwarg:=none,defaults:=[] }
def gl(s:Stmt):List Stmt:=match s with
 |.FunctionDef _ _ b _ _ _ _ _ _ _=>b
 |_=>[]
def cb(s:Stmt):Scope:=match s with
 |.FunctionDef _ _ _ _ _ _ sc _ _ _=>sc
 |_=>{ kind:=.function,names:=[],isGenerator:=false,isCoroutine:=false }
abbrev CX0:Ei:=fun _ _ _ _ _ _=>False
abbrev E0:XK:=fun _ _ _=>False
abbrev aM(sp:Sp)(a:TA):TE:=Hq sp [] E0 a
theorem Co{X:Cx}:og CX0 X E0:=fun _ _ _ _ _ _ _ h=>h.elim
structure Iu(K:Za)(x qual:Str)(st:Stmt)(f:Addr)(fd:k5):Prop where
 ex:∃(oc:Value) (od:Option Addr) (kV doc pm:Value) (an:Option Addr) (cdv ct:Value) (osl:Array (Option Value)),
  fd=iV x qual (iB st) (gl st) (cb st) .none kV doc pm an cdv ct/\K.lookup f=some ⟨oc,od,.func fd,osl⟩/\nI K cdv qual=true
 kp:iN K (.ref f)=true
section
variable{P:bT}{w:World}{K:Za}{mg:Str->Option Value}{base:Heap}
theorem Iu.ok{x qual:Str}{st:Stmt}{f:Addr}{fd:k5}{N ps:Zb}{k:Nat}{sp:Sp}(F:Iu K x qual st f fd)(S:kF N ps (cb st))(len:∀vs H Q E,sp vs H Q E->vs.length=ps.length)
  (hbody:∀(cdv:Value) (A:Around) (outer:List Env) (s:Shared) (H:Hp) (vs:List V) (Q:VK) (E:XK),eW k (A.deeper (envOfC qual (cb st) s.heap.objs.size f cdv))->sp vs H Q E ->
   ∃t,Al (Bs CX0 P w K mg base N qual (cb st) f cdv A outer s H E).nox (gl st) t/\t (bM Q) (start N vs) H):m_ P w K mg base CX0 (k+1) f fd ps sp:=by
 obtain⟨oc,od,kV,doc,pm,an,cdv,ct,osl,rfl,lk,hcd⟩:=F.ex;refine II lk hcd S len fun A outer s H vs Q E hr hsp=>?_;obtain⟨t,h,q⟩:=hbody cdv A outer s H vs Q E hr hsp;exact⟨t,h.nox,q⟩
theorem Iu.binds{x qual:Str}{st:Stmt}{f:Addr}{fd:k5}{ps:Zb}(F:Iu K x qual st f fd)
  (h:∀(kV doc pm:Value) (an:Option Addr) (cdv ct:Value) (us:Zf),us.length=ps.length->bindArgs (iV x qual (iB st) (gl st) (cb st) .none kV doc pm an cdv ct) ⟨us,[]⟩=pure (ps.zip us)):Binds K fd ps []:=by
 obtain⟨oc,od,kV,doc,pm,an,cdv,ct,osl,rfl,lk,hcd⟩:=F.ex;exact .all (h kV doc pm an cdv ct)
theorem Fx{x qual:Str}{st:Stmt}{f:Addr}{oc:Value}{od an:Option Addr}{osl:Array (Option Value)}{kV doc pm cdv ct:Value}(l:K.lookup f=some ⟨oc,od,.func (iV x qual (iB st) (gl st) (cb st) .none kV doc pm an cdv ct),osl⟩)
  (c:nI K cdv qual=true) (k:iN K (.ref f)=true):Iu K x qual st f (iV x qual (iB st) (gl st) (cb st) .none kV doc pm an cdv ct):=⟨⟨oc,od,kV,doc,pm,an,cdv,ct,osl,rfl,l,c⟩,k⟩
end
theorem CH{A:Around}{k:Nat}(hr:eW k A):A.units+16<cLine:=Nat.lt_of_le_of_lt (Nat.add_le_add_left (by decide:16<=64) _) hr.units
theorem aq{n:Nat}(h:n<=1000):n<ai:=Nat.lt_of_le_of_lt h (by decide)
section
variable{X:Cx}
theorem pv(i:Nat){x:Str}{pos:Pos}(hN:X.N[i]?=some x:=by rfl)(hv:Je X.env.scope x:=by first|exact Or.inl rfl|exact Or.inr (Or.inl rfl)|exact Or.inr (Or.inr rfl))(hd:(x==("__debug__":Str))=false:=by decide)
  (hcd:(x==("__classdict__":Str))=false:=by decide):PE X (.Name x pos) (nS i):=HW hN hv hd hcd
end
theorem bU{A B:Prop}(h:B):if false=true then A else B:=by
 rw[if_neg fP];exact h
theorem cS{A B:Prop}(h:A):if true=true then A else B:=by
 rw[if_pos rfl];exact h
theorem fN{c A B:Prop}[Decidable c](h1:c->A)(h2:¬c->B):if c then A else B:=by
 by_cases h:c
 ·rw[if_pos h];exact h1 h
 ·rw[if_neg h];exact h2 h
def ac(H H':Hp):Prop:=∀b o,H b=some o->H' b=some o
theorem ac.refl(H:Hp):ac H H:=fun _ _ h=>h
theorem ac.trans{H H1 H2:Hp}(a:ac H H1)(b:ac H1 H2):ac H H2:=fun c o h=>b c o (a c o h)
theorem ac.free{H H':Hp}(e:ac H H'){l:Addr}(h:H' l=Option.none):H l=Option.none:=by
 cases q:H l with
 |none=>rfl
 |some o =>
  rw[e l o q]at h;cases h
theorem ac.seq{K:Za}{H H':Hp}{a:Addr}{xs:List V}(e:ac H H')(h:ay K H a xs):ay K H' a xs:=by
 rcases h with(h|⟨o,h⟩)|h
 ·exact .inl (.inl (e _ _ h))
 ·exact .inl (.inr ⟨o,e _ _ h⟩)
 ·exact .inr h
section
variable{prog:bT}{w:World}{A:Around}{R:Result->Shared->Prop}{s:Shared}
abbrev XF:Value->Shared->Prop:=fun _ _=>False
abbrev Bl(ifs:List Expr)(env:Env):Sem Bool:=forIn ifs true fun c r=>if r=true then do let ok <- isTrue c env (eval c env);pure (wV ok)else pure (wV r)
theorem yg{elt target iter:Expr}{ifs:List Expr}{scope:Scope}{pos:Pos}{it acc:Value}{env:Env}(I:Nat->Shared->Prop)
  (turn:∀n s,I n s->wpAny (model prog w) A (pyNext it) (fun r s₁=>match r with
   |none=>R (.ok .next) s₁
   |some v=>wpAny (model prog w) A (BT target it v) (fun _ s₁'=>wpAny (model prog w) A (assign target env v) (fun _ s₂ =>
     wpAny (model prog w) A (Bl ifs env) (fun ok s₃ =>
      if ok=true then wpAny (model prog w) A (eval elt env) (fun x s₄ =>
       wpAny (model prog w) A (call (.builtin "list.append") [acc,x]) (fun _ s₅=>∃m,m<n/\I m s₅) XF s₄) XF s₃
      else ∃m,m<n/\I m s₃) XF s₂) XF s₁') XF s₁) XF s)
  (n:Nat) (h:I n s):zzl79 (model prog w) A (.compLoop (.ListComp elt [⟨target,iter,ifs,0⟩] scope pos) 0 it acc env) R s:=by
 refine codeAny_loop rfl I (fun n s hI=>?_) n h;show wpAny _ A ((compTurn (.ListComp elt [⟨target,iter,ifs,0⟩] scope pos) 0 it acc env).onRaise (fun x=>do noteFrame x env;theTreesLotGoes x)) _ _ s
 refine wpAny_noted ?_;rw[compTurn_list];refine am (BU (am (oO (turn n s hI) (fun r s₁ h₁=>?_) fun _ _ h'=>h'.elim)));cases r with
 |none=>exact aD h₁
 |some v =>
  refine am (oO h₁ (fun _ s₁' h₁'=>?_) fun _ _ h'=>h'.elim);refine am (oO h₁' (fun _ s₂ h₂=>am (oO h₂ (fun ok s₃ h₃=>?_) fun _ _ h'=>h'.elim)) fun _ _ h'=>h'.elim);cases ok with
  |false=>exact aD ⟨rfl,h₃⟩
  |true =>
   exact am (am (oO h₃ (fun x s₄ h₄=>am (oO h₄ (fun _ s₅ h₅=>aD (aD ⟨rfl,h₅⟩)) fun _ _ h'=>h'.elim)) fun _ _ h'=>h'.elim))
end
theorem n8{env:Env}:∀(names:List (Str×jJ)) (cs0:List (Str×Addr)),(∀y∈names,y.2=.free->∃c,env.cells.lookup y.1=some c)->(∀x c,cs0.lookup x=some c->env.cells.lookup x=some c) ->
  ∃cs:List (Str×Addr),(forIn names cs0 fun(x:Str×jJ) (r:List (Str×Addr))=>if(x.2==lq)=true then(cellOf env x.1 >>= fun c=>(pure (wV ((x.1,c)::r)):Sem (ForInStep (List (Str×Addr)))))else pure (wV r))=pure cs /\
   (∀x c,cs.lookup x=some c->env.cells.lookup x=some c)/\(∀x,(cs0.lookup x).isSome=true->(cs.lookup x).isSome=true)/\∀y∈names,y.2=.free->(cs.lookup y.1).isSome=true
 |[],cs0,_,h0=>⟨cs0,rfl,h0,fun _ h=>h,fun _ h=>nomatch h⟩
 | (n,k)::r,cs0,has,h0=>by
  have hr:∀y∈r,y.2=.free->∃c,env.cells.lookup y.1=some c:=fun y hy=>has y (eI _ hy);by_cases hk:k=.free
  ·subst hk;obtain⟨c,hc⟩:=has (n,.free) dO rfl;obtain⟨cs,e,p1,p2,p3⟩:=n8 r ((n,c)::cs0) hr (fun x d hd=>by
    rw[iU]at hd;cases hx:x==n with
    |true =>
     rw[hx]at hd;have:x=n:=by simpa using hx
     subst this;cases hd;exact hc
    |false=>rw[hx]at hd;exact h0 x d hd)
   have hself:(((n,c)::cs0).lookup n).isSome=true:=by rw[iU,beq_self_eq_true];rfl
   have hmono:∀x,(cs0.lookup x).isSome=true->(((n,c)::cs0).lookup x).isSome=true:=fun x hx=>by
    rw[iU];cases x==n with
    |true=>rfl
    |false=>exact hx
   refine⟨cs,?_,p1,fun x hx=>p2 x (hmono x hx),fun y hy hf=>?_⟩
   ·rw[qa];have hcell:cellOf env n=pure c:=by unfold cellOf;rw[hc]
    simp only[beq_self_eq_true,if_true,hcell];exact e
   ·rcases cO.mp hy with rfl|hy
    ·exact p2 _ hself
    ·exact p3 y hy hf
  ·obtain⟨cs,e,p1,p2,p3⟩:=n8 r cs0 hr h0;refine⟨cs,?_,p1,p2,fun y hy hf=>?_⟩
   ·rw[qa];have hb:(k==lq)=false:=by simpa using hk
    simp only[hb,lp,if_false];exact e
   ·rcases cO.mp hy with rfl|hy
    ·exact absurd hf hk
    ·exact p3 y hy hf
theorem ux{env:Env}{scope:Scope}(has:∀y∈scope.names,y.2=.free->∃c,env.cells.lookup y.1=some c):
  ∃cs:List (Str×Addr),closureFor scope env=pure cs/\(∀x c,cs.lookup x=some c->env.cells.lookup x=some c)/\∀y∈scope.names,y.2=.free->(cs.lookup y.1).isSome=true:=by
 obtain⟨cs,e,p1,_,p3⟩:=n8 (env:=env) scope.names [] has (fun _ _ h=>nomatch h);refine⟨cs,?_,p1,p3⟩;unfold closureFor
 first
  |exact e
  | (simp only[bind_pure];exact e)
  | (rw[show(forIn scope.names [] _:Sem (List (Str×Addr)))=pure cs from e];rfl)
def dU(X:Cx)(N:Zb)(scope:Scope)(C:Addr)(cl:List (Str×Addr))(s₀:Shared)(H₀:Hp)(ex:Ze)(pn:Zd):Cx where
 prog:=X.prog
 w:=X.w
 K:=X.K
 mg:=X.mg
 base:=X.base
 A:=X.A
 N:=N
 s₀:=s₀
 H₀:=H₀
 env:=compEnvC scope cl C X.env
 outer:=X.stack
 stack:=X.stack
 ex:=ex
 fn:=fun _=>false
 calm:=X.calm
 pn:=pn
 xe:=XF
def mJ(sc scope:Scope)(k:Nat)(N XN:Zb)(fi:List Nat):Bool :=
 decide (scope.kind=.function) &&
 (scope.names.all fun y=>decide (y.2≠.cell) && (decide (y.2≠.local) || decide (scope.names.lookup y.1=some .local)) && (decide (y.2≠.free) || decide (sc.names.lookup y.1=some .cell) || decide (sc.names.lookup y.1=some .free))) &&
 decide (N.length=k+fi.length) &&
 ((iO fi.length).all fun j=>match fi[j]? with
  |some i=>match N[k+j]?,XN[i]? with
   |some x,some y=>decide (x=y) && decide (scope.names.lookup x=some .free)
   |_,_=>false
  |none=>false)
structure oA(sc scope:Scope)(k:Nat)(N XN:Zb)(fi:List Nat):Prop where
 kind:scope.kind=.function
 cell:∀y∈scope.names,y.2≠.cell
 nm:∀y∈scope.names,y.2=.local->scope.names.lookup y.1=some .local
 fr:∀y∈scope.names,y.2=.free->sc.names.lookup y.1=some .cell∨sc.names.lookup y.1=some .free
 len:N.length=k+fi.length
 sl:∀j i,fi[j]?=some i->∃x,N[k+j]?=some x/\XN[i]?=some x/\scope.names.lookup x=some .free
theorem oA.of{sc scope:Scope}{k:Nat}{N XN:Zb}{fi:List Nat}(h:mJ sc scope k N XN fi=true):oA sc scope k N XN fi:=by
 unfold mJ at h;simp only[sO,wU,Bool.or_eq_true,decide_eq_true_eq]at h;obtain⟨⟨⟨h1,h2⟩,h3⟩,h4⟩:=h;refine⟨h1,fun y hy=>(h2 y hy).1.1,fun y hy e=>((h2 y hy).1.2).resolve_left fun z=>z e,fun y hy e=>?_,h3,fun j i e=>?_⟩
 ·rcases(h2 y hy).2 with(z|z)|z
  ·exact absurd e z
  ·exact .inl z
  ·exact .inr z
 ·have hj:j<fi.length:=(cG.mp e).1;have q:=h4 j (List.mem_range.mpr hj);rw[e]at q;dsimp only at q;cases a:N[k+j]? with
  |none=>rw[a]at q;cases q
  |some x =>
   cases b:XN[i]? with
   |none=>rw[a,b]at q;cases q
   |some y =>
    rw[a,b]at q;simp only[sO,decide_eq_true_eq]at q;exact⟨x,rfl,by rw[q.1],q.2⟩
theorem iu{env:Env}:∀{names:List (Str×jJ)}{x:Str},names.lookup x=some .free ->
  (names.map fun(n,k)=>if(k==lq && env.scope.kind==.function && env.kindOf n==some .cell)then(n,jJ.cell)else(n,k)).lookup x=some .cell ∨
  (names.map fun(n,k)=>if(k==lq && env.scope.kind==.function && env.kindOf n==some .cell)then(n,jJ.cell)else(n,k)).lookup x=some .free
 |[],_,h=>by simp at h
 | (n,k)::r,x,h=>by
  have ih:=@iu env r x;simp only[bN];cases hx:x==n with
  |true =>
   simp only[iU,hx]at h;cases h;by_cases hc:(lq==lq && env.scope.kind==.function && env.kindOf n==some .cell)=true
   ·left;rw[if_pos hc];simp[iU,hx]
   ·right;rw[if_neg hc];simp[iU,hx]
  |false =>
   simp only[iU,hx]at h;by_cases hc:(k==lq && env.scope.kind==.function && env.kindOf n==some .cell)=true
   ·rw[if_pos hc];simp only[iU,hx];exact ih h
   ·rw[if_neg hc];simp only[iU,hx];exact ih h
def dS(k:Nat)(fi:List Nat)(σ:St):St:=List.replicate k none++fi.map fun i=>(σ[i]?).join
theorem Bu(k:Nat)(fi:List Nat)(σ:St):(dS k fi σ).length=k+fi.length:=by simp[dS]
theorem uw{k:Nat}{fi:List Nat}{σ:St}{i:Nat}{v:V}(h:(dS k fi σ)[i]?=some (some v)):∃j t,i=k+j/\fi[j]?=some t/\σ[t]?=some (some v):=by
 unfold dS at h;by_cases hi:i<k
 ·rw[fe (by simpa using hi),List.getElem?_replicate_of_lt hi]at h;cases h
 ·rw[nJ (by simp;omega),List.length_replicate,bZ]at h;refine⟨i-k,?_⟩;cases e:fi[i-k]? with
  |none=>rw[e]at h;cases h
  |some t =>
   rw[e]at h;simp only[sS]at h;refine⟨t,by omega,rfl,?_⟩;have h':=e_ h;cases e2:σ[t]? with
   |none=>rw[e2]at h';cases h'
   |some o=>rw[e2]at h';simp only[Option.join]at h';first|(rw[h'])|(subst h';rfl)|(simpa using h')
def Ae(k:Nat)(g:TG):Prop:=∀x σ H Q,g x σ H Q->g x σ H fun σ2 H2=>Q σ2 H2/\σ2.length=σ.length/\∀i,k<=i->σ2[i]?=σ[i]?
def CW(k:Nat)(g:Eh):Prop:=∀x σ H Q,g x σ H Q->g x σ H fun σ2 H2=>Q σ2 H2/\σ2.length=σ.length/\∀i,k<=i->σ2[i]?=σ[i]?
theorem bC{k i:Nat}(h:i<k):Ae k (eF i):=fun x σ H Q q=>⟨q,by simp,fun j hj=>by rw[List.getElem?_set_ne (by omega)]⟩
theorem zG{k:Nat}:CW k gR:=fun x σ H Q ⟨e,q⟩=>⟨e,q,rfl,fun _ _=>rfl⟩
def FT(g:TG):Prop:=∀x σ H Q Q',(∀σ2 H2,Q σ2 H2->Q' σ2 H2)->g x σ H Q->g x σ H Q'
def yE(g:Eh):Prop:=∀x σ H Q Q',(∀σ2 H2,Q σ2 H2->Q' σ2 H2)->g x σ H Q->g x σ H Q'
theorem eV{i:Nat}:FT (eF i):=fun _ _ _ _ _ f q=>f _ _ q
theorem j1:yE gR:=fun _ _ _ _ _ f ⟨e,q⟩=>⟨e,f _ _ q⟩
theorem kz{g:TG}{u:Eh}(h1:FT g)(h2:yE u):yE (a_ g u):=fun _ _ _ _ _ f ⟨v,r,e,q⟩=>⟨v,r,e,h1 _ _ _ _ _ (fun _ _ q=>h2 _ _ _ _ _ f q) q⟩
theorem jW{k:Nat}{g:TG}{u:Eh}(h1:Ae k g)(m1:FT g)(h2:CW k u)(m2:yE u):CW k (a_ g u):=fun x σ H Q ⟨v,r,e,q⟩ =>
 ⟨v,r,e,m1 _ _ _ _ _ (fun σ2 H2 ⟨q,l,s⟩=>m2 _ _ _ _ _ (fun σ3 H3 ⟨q',l',s'⟩=>⟨q',l'.trans l,fun i hi=>(s' i hi).trans (s i hi)⟩) (h2 _ _ _ _ q)) (h1 _ _ _ _ q)⟩
theorem Cq{K:Za}{k n:Nat}{t:Eh}(h:CW k t):Ae k (ib K n t):=fun x σ H Q ⟨a,xs,e,hs,hl,q⟩=>⟨a,xs,e,hs,hl,h _ _ _ _ q⟩
def HF(X:Cx)(ifs:List Expr)(t:TT):Prop :=
 ∀(J3:Zd) (s:Shared) (σ:St) (H:Hp) (Q:Bool->Hp->Prop),Inv X J3 σ H s->t σ H Q->wpAny (model X.prog X.w) X.A (Bl ifs X.env) (TP X J3 σ Q) X.xe s
def kT:TT:=fun _ H Q=>Q true H
theorem dJ{X:Cx}:HF X [] kT:=fun J3 s σ H Q I h=>aD ⟨H,I,h⟩
theorem hJ{X:Cx}{c:Expr}{t:TT}(h:PT X c t):HF X [c] t:=by
 intro J3 s σ H Q I hw;unfold Bl;rw[qa];simp only[if_true];refine am (am (cE (h J3 s σ H Q I hw) fun b s1 q=>aD ?_));exact aD q
def dC(k:Nat)(fi:List Nat)(wi:TI)(g:TG)(tc:TT)(te:TE):TE:=fun σ H Q=>wi σ H fun J H1=>∀l,H1 l=none->∃W:Nat->Nat->List V->Hp->Prop,(∃m,W 0 m [] (upd H1 l (.lst [])))/\∀i m vs H2,W i m vs H2->H2 l=some (.lst vs) /\
 ((J.stop i H2/\Q (.ref l) H2)∨(J.go i H2/\∀x H3,J.yld i H2 x H3->g x (dS k fi σ) H3 fun σ2 H4=>tc σ2 H4 fun b H5 =>
  if b=true then te σ2 H5 fun v H6=>H6 l=some (.lst vs)/\vs.length<ai/\∃m',m'<m/\W (i+1) m' (vs++[v]) (upd H6 l (.lst (vs++[v])))else ∃m',m'<m/\W (i+1) m' vs H5))
section
variable{X:Cx}{J3:Zd}{σ:St}
theorem G_{k:Nat}{N:Zb}{scope:Scope}{fi:List Nat}{H:Hp}{s:Shared}{cl:List (Str×Addr)}{fp:Ze}(S:oA X.env.scope scope k N X.N fi)(I:Inv X J3 σ H s)
  (hcl:∀x c,cl.lookup x=some c->X.env.cells.lookup x=some c) (hcf:∀y∈scope.names,y.2=.free->(cl.lookup y.1).isSome=true) (hf:∀b∈fp,oy X J3 H b) (hlt:∀b∈fp,b<s.heap.objs.size) :
  (dU X N scope s.heap.objs.size cl s H fp (X.pn++J3)).Ok where
 mod:=I.ok.mod
 kind:=S.kind
 glob:=I.ok.glob
 blt:=I.ok.blt
 above:=aB _
 inj:=fun x y c e1 e2=>I.ok.inj x y c (hcl x c e1) (hcl y c e2)
 has:=fun x h=>by
  have key:∃y∈scope.names,y.1=x/\y.2=.free:=by
   have h':(relabel scope X.env).names.lookup x=some .cell∨(relabel scope X.env).names.lookup x=some .free:=h;have mem:∀(l:List (Str×jJ)) (kd:jJ),l.lookup x=some kd->(x,kd)∈l:=by
    intro l
    induction l with
    |nil=>intro kd e;cases e
    |cons a r ih =>
     intro kd e;obtain⟨n,k'⟩:=a;rw[iU]at e;cases hx:x==n with
     |true =>
      rw[hx]at e;have:x=n:=by simpa using hx
      subst this;cases e;exact dO
     |false=>rw[hx]at e;exact eI _ (ih kd e)
   have back:∀kd,(x,kd)∈(relabel scope X.env).names->kd=.cell∨kd=.free->∃y∈scope.names,y.1=x/\y.2=.free:=by
    intro kd hm hk;obtain⟨⟨n,k'⟩,hy,e⟩:=ax.mp hm;dsimp only at e;by_cases hc:(k'==lq && X.env.scope.kind==.function && X.env.kindOf n==some .cell)=true
    ·have hk':k'=.free:=by
      simp only[sO]at hc;simpa using hc.1.1
     rw[if_pos hc]at e;cases e;exact⟨_,hy,rfl,hk'⟩
    ·rw[if_neg hc]at e;cases e;rcases hk with rfl|rfl
     ·exact absurd rfl (S.cell _ hy)
     ·exact⟨_,hy,rfl,rfl⟩
   rcases h' with h'|h'
   ·exact back _ (mem _ _ h') (.inl rfl)
   ·exact back _ (mem _ _ h') (.inr rfl)
  obtain⟨y,hy,rfl,hk⟩:=key;exact xg.mp (hcf y hy hk)
 cab:=fun x c h=>by cases h
 hd:=I.ok.hd
 frames:=I.ok.frames
 stk:=.inl rfl
 exf:=fun b hb=>⟨de (hlt b hb),fun x c e=>(hf b hb).2.2.2.2.1 x c (hcl x c e)⟩
 bs:=I.bs
 bsz:=bG I.ok.bsz I.sz
 noex:=fun b o e hb=>by
  rcases(hf b hb).2.2.2.1 with z|z
  ·exact I.ok.noex b o e z
  ·exact absurd (iP (be (I.ok.bs b o e).1) z) (qY _)
 exfs:=fun b hb z=>by
  obtain⟨_,f1,f2,_⟩:=hf b hb;rcases cO.mp (I.stkSub b z)with q|q
  ·exact f1 q
  ·exact f2 q
 funs:=I.stack
 frf:=I.stkFree
theorem FN{k:Nat}{N:Zb}{scope:Scope}{fi:List Nat}{H:Hp}{s:Shared}{cl:List (Str×Addr)}{fp:Ze}{h₁:Heap}{t':Nat}{m:Str->Option Value}(S:oA X.env.scope scope k N X.N fi)(I:Inv X J3 σ H s)
  (hcl:∀x c,cl.lookup x=some c->X.env.cells.lookup x=some c) (hcf:∀y∈scope.names,y.2=.free->(cl.lookup y.1).isSome=true) (hf:∀b∈fp,oy X J3 H b) (hlt:∀b∈fp,b<s.heap.objs.size)
  (hn:h₁.Ns s.heap.objs.size m) (old:∀b o,s.heap.get? b=some o->h₁.get? b=some o) :
  Inv (dU X N scope s.heap.objs.size cl s H fp (X.pn++J3)) [] (dS k fi σ) H { s with heap:=h₁,toks:=t' }:=by
 have memOf:∀(l:List (Str×jJ)) (x:Str) (kd:jJ),l.lookup x=some kd->(x,kd)∈l:=by
  intro l
  induction l with
  |nil=>intro x kd e;cases e
  |cons a r ih =>
   intro x kd e;obtain⟨n,k'⟩:=a;rw[iU]at e;cases hx:x==n with
   |true =>
    rw[hx]at e;have:x=n:=by simpa using hx
    subst this;cases e;exact dO
   |false=>rw[hx]at e;exact eI _ (ih x kd e)
 refine⟨G_ S I hcl hcf hf hlt,rfl,I.bare,Un.kept old,⟨m,hn,fun i x v e1 e2 e3=>?_⟩,fun x c e=>?_,I.hok.fresh (aB _),fun x c e=>I.freeC x c (hcl x c e),fun p hp=>?_,I.hok.kept old,?_⟩
 ·obtain⟨j,t,rfl,ht,hv⟩:=uw e2;obtain⟨y,hy,hXN,hfr⟩:=S.sl j t ht;have e1':N[k+j]?=some x:=e1;rw[hy]at e1';cases e1';have hmem:=memOf _ _ _ hfr;obtain⟨c,hc⟩:=xg.mp (hcf _ hmem rfl);have hX:=hcl _ _ hc;obtain⟨mX,hnX,hlX⟩:=I.loc;have kX:=S.fr _ hmem rfl;obtain⟨u,ru,lk⟩:=hlX t x v hXN hv (by rcases kX with z|z;exact .inr (.inl z);exact .inr (.inr z));refine⟨u,ru,.inr ⟨?_,c,hc,?_⟩⟩
  ·exact iu hfr
  ·rcases lk with⟨z,_⟩|⟨_,c',e',q⟩
   ·have z':X.env.scope.names.lookup x=some .local:=z;rcases kX with kX|kX<;>rw[z']at kX<;>cases kX
   ·rw[hX]at e';cases e';obtain⟨o,ho,hd⟩:=q;exact⟨o,old _ o ho,hd⟩
 ·obtain⟨v,o,ho,hd⟩:=I.cell x c (hcl x c e);exact⟨v,o,old _ o ho,hd⟩
 ·rw[dI]at hp;obtain⟨e,n,ne,nf,d⟩:=I.pin p hp;refine⟨old _ _ e,n,de (be e),fun z=>?_,d⟩;rcases cO.mp (I.stkSub _ z)with q|q
  ·exact ne q
  ·exact nf q
 ·rw[Bu];exact S.len.symm
structure yG(X:Cx)(J3:Zd)(H:Hp)(C:Addr):Prop where
 free:H C=none
 loc:C≠X.env.locals
 young:X.s₀.heap.objs.size<=C
 cells:∀x c,X.env.cells.lookup x=some c->c≠C
 pin:∀p∈X.pn++J3,p.1≠C
theorem uv{elt iter tg:Expr}{ifs:List Expr}{scope:Scope}{pos:Pos}{k:Nat}{N:Zb}{fi:List Nat}{cl:List (Str×Addr)}{g:TG}{tc:TT}{te:TE}{it:Addr}{fp:Ze}{tn:Nat->Heap->Prop}{J:It}{H2:Hp}{s2:Shared}{Q:VK}
  {E:Zc}{RR:Value->Addr->Result->Shared->Prop}
  (S:oA X.env.scope scope k N X.N fi) (hc:X.calm=true) (hcl:∀x c,cl.lookup x=some c->X.env.cells.lookup x=some c) (hcf:∀y∈scope.names,y.2=.free->(cl.lookup y.1).isSome=true)
  (hg:∀C cl s₀ H₀ ex pn,PG (dU X N scope C cl s₀ H₀ ex pn) tg g) (ho:Ae k g) (ht:∀C cl s₀ H₀ ex pn,HF (dU X N scope C cl s₀ H₀ ex pn) ifs tc) (he:∀C cl s₀ H₀ ex pn,PE (dU X N scope C cl s₀ H₀ ex pn) elt te)
  (I2:Inv X J3 σ H2 s2) (T:rS X.prog X.w X.K tg J fp it tn) (st2:tn 0 s2.heap) (f2:∀b∈fp,oy X J3 H2 b)
  (hw:∀l,H2 l=none->∃W:Nat->Nat->List V->Hp->Prop,(∃m,W 0 m [] (upd H2 l (.lst [])))/\∀i m vs H2,W i m vs H2->H2 l=some (.lst vs) /\
   ((J.stop i H2/\Q (.ref l) H2)∨(J.go i H2/\∀x H3,J.yld i H2 x H3->g x (dS k fi σ) H3 fun σ2 H4=>tc σ2 H4 fun b H5 =>
    if b=true then te σ2 H5 fun v H6=>H6 l=some (.lst vs)/\vs.length<ai/\∃m',m'<m/\W (i+1) m' (vs++[v]) (upd H6 l (.lst (vs++[v])))else ∃m',m'<m/\W (i+1) m' vs H5)))
  (hR:∀D C H' s' m',Inv X J3 σ H' s'->s'.heap.Ns C m'->yG X J3 H' C->Q (.ref D) H'->RR (.ref D) C (.ok .next) s') :
  wpAny (model X.prog X.w) X.A (newList []) (fun acc s₃=>wpAny (model X.prog X.w) X.A (newFunctionEnv scope X.env.globals cl [] X.env.qual none .none (some X.env)) (fun cenv s₄ =>
   zzl79 (model X.prog X.w) X.A (.compStart (.ListComp elt [⟨tg,iter,ifs,0⟩] scope pos) 0 (.ref it) acc { cenv with scope:=relabel scope X.env }) (RR acc cenv.locals) s₄) E s₃) E s2:=by
 have hfresh:H2 s2.heap.objs.size=none:=I2.fresh;obtain⟨W,⟨m0,w0⟩,turn⟩:=hw _ hfresh;refine ju (wpAny_newFunctionEnv S.cell (by intro y hy;simp at hy) (fun h₁ hns₁ hsb₁=>?_) S.kind);dsimp only at hns₁ hsb₁ ⊢;have I3:Inv X J3 σ (upd H2 s2.heap.objs.size (.lst [])) { s2 with heap:=s2.heap.push { cls:=.type "list",data:=.seq ([]:Zf).toArray },toks:=s2.toks }:=I2.lnew (ys:=[]) .nil (db _);generalize hs3:({ s2 with heap:=s2.heap.push { cls:=.type "list",data:=.seq ([]:Zf).toArray },toks:=s2.toks }:Shared)=s3 at I3;have hh3:s3.heap=s2.heap.push { cls:=.type "list",data:=.seq ([]:Zf).toArray }:=by rw[<-hs3]
 have hsz:s3.heap.objs.size=s2.heap.objs.size+1:=by rw[hh3,oK]
 have hlt:∀b∈fp,b<s2.heap.objs.size:=fun b hb=>by
  obtain⟨o,e,_⟩:=T.obj 0 _ st2 b hb;exact be e
 have f3:∀b∈fp,oy X J3 (upd H2 s2.heap.objs.size (.lst [])) b:=fun b hb=>⟨by rw[ag (de (hlt b hb))];exact(f2 b hb).1,(f2 b hb).2⟩;have hlt3:∀b∈fp,b<s3.heap.objs.size:=fun b hb=>by rw[hsz];exact Nat.lt_succ_of_lt (hlt b hb)
 have old:∀b o,s3.heap.get? b=some o->h₁.get? b=some o:=fun b o e=>by
  have hb:b≠s3.heap.objs.size:=de (be e);rw[hh3]at e hb;exact hsb₁.extBut b o hb (bw _ e)
 have hns:h₁.Ns s3.heap.objs.size (fun x=>([]:List (Str×Value)).reverse.lookup x):=by rw[hh3];exact hns₁
 have I4:Inv (dU X N scope s3.heap.objs.size cl s3 (upd H2 s2.heap.objs.size (.lst [])) fp (X.pn++J3)) [] (dS k fi σ) (upd H2 s2.heap.objs.size (.lst [])) { s3 with heap:=h₁,toks:=s2.toks+([]:List (Str×Value)).length } :=
  FN S I3 hcl hcf f3 hlt3 hns old
 have st4:tn 0 h₁:=T.keep _ _ _ st2 fun b hb o e=>old b o (by rw[hh3];exact bw _ e);generalize hY:dU X N scope s3.heap.objs.size cl s3 (upd H2 s2.heap.objs.size (.lst [])) fp (X.pn++J3)=Y at I4;have yp:Y.prog=X.prog:=by rw[<-hY];rfl
 have yw:Y.w=X.w:=by rw[<-hY];rfl
 have yK:Y.K=X.K:=by rw[<-hY];rfl
 have yA:Y.A=X.A:=by rw[<-hY];rfl
 have yx:Y.xe=XF:=by rw[<-hY];rfl
 have yc:Y.calm=true:=by rw[<-hY];exact hc
 have gY:PG Y tg g:=by rw[<-hY];exact hg _ _ _ _ _ _
 have tY:HF Y ifs tc:=by rw[<-hY];exact ht _ _ _ _ _ _
 have eY:PE Y elt te:=by rw[<-hY];exact he _ _ _ _ _ _
 have yenv:Y.env=compEnvC scope cl s3.heap.objs.size X.env:=by rw[<-hY];rfl
 have fY:∀{H':Hp},(∀b∈fp,H' b=none)->∀b∈fp,oy Y [] H' b:=fun hn b hb=>by
  obtain⟨f0,f1,f2',f3',f4,f5⟩:=f3 b hb;rw[<-hY];refine⟨hn b hb,de (hlt3 b hb),fun z=>?_,.inl hb,fun x c e=>f4 x c (hcl x c e),fun p hp=>?_⟩
  ·rcases cO.mp (I3.stkSub _ z)with q|q
   ·exact f1 q
   ·exact f2' q
  ·rw[dI]at hp;exact f5 p hp
 have loop:∀s4:Shared,s4={ s3 with heap:=h₁,toks:=s2.toks+([]:List (Str×Value)).length } ->
   zzl79 (model X.prog X.w) X.A (.compLoop (.ListComp elt [⟨tg,iter,ifs,0⟩] scope pos) 0 (.ref it) (.ref s2.heap.objs.size) Y.env) (RR (.ref s2.heap.objs.size) s3.heap.objs.size) s4:=by
  rintro s4 rfl;refine yg (fun n s'=>∃i vs H',Inv Y [] (dS k fi σ) H' s'/\tn i s'.heap/\(∀b∈fp,H' b=none)/\W i n vs H') ?_ m0 ⟨0,[],_,I4,st4,fun b hb=>(f3 b hb).1,w0⟩;rintro n s5 ⟨i,vs,H5,I5,st5,fr5,w5⟩;obtain⟨hl5,hcase⟩:=turn i n vs H5 w5;rcases hcase with⟨stop,q⟩|⟨go,step⟩
  ·have d:=T.done Y yp yw yK yc i [] s5 _ H5 XF I5 (fY fr5) st5 stop;rw[yA]at d;refine cE d fun r s6 ⟨hr,I6⟩=>?_;subst hr;have hu:Un (Eg X.stack) fp (upd H2 s2.heap.objs.size (.lst [])) H5 s3.heap s6.heap:=by have:=I6.base;rw[<-hY]at this;exact this
   have ho6:s6.os=s3.os:=by have:=I6.os;rw[<-hY]at this;exact this
   have hok6:mL X.prog X.w X.K H5 s6.heap:=by have:=I6.hok;rw[<-hY]at this;exact this
   have hC6:H5 s3.heap.objs.size=none:=by have:=I6.free;rw[<-hY]at this;exact this
   obtain⟨m6,hn6,_⟩:=I6.loc;have hn6':s6.heap.Ns s3.heap.objs.size m6:=by rw[<-hY]at hn6;exact hn6
   have IX:Inv X J3 σ H5 s6:=I3.call' ho6 hu hok6 I6.bare fun b hb=>by
    obtain⟨f0,f1,f2',f3',f4,f5⟩:=f3 b hb;exact⟨f3',f1,f4,f5⟩
   refine hR _ _ H5 s6 m6 IX hn6' ⟨hC6,gD I3.lt,I3.sz,fun x c e z=>?_,fun p hp z=>?_⟩ q
   ·obtain⟨v,o,ho,_⟩:=I3.cell x c e;exact absurd (be ho) (by rw[z];exact qY _)
   ·exact absurd (be (I3.pin p hp).1) (by rw[z];exact qY _)
  ·have d:=T.item Y yp yw yK yc i [] s5 _ H5 XF I5 (fY fr5) st5 go;rw[yA]at d;refine cE d fun r s6 ⟨u,hr,h6⟩=>?_;subst hr;refine cE h6 fun _ s7 ⟨x,H7,I7,r7,y7,st7,fr7⟩=>?_;have I7':=I7.pinned (fY fr7) (T.obj _ _ st7);have a7:=gY _ s7 _ H7 x u _ I7' r7 (ho _ _ _ _ (step x H7 y7));rw[yp,yw,yA,yx]at a7;refine cE a7 fun _ s8 ⟨σ8,H8,I8,q8,l8,k8⟩=>?_;have a8:=tY _ s8 σ8 H8 _ I8 q8;rw[yp,yw,yA,yx]at a8;have again:∀{H9:Hp}{s9:Shared}{vs':List V}{m':Nat},Inv Y ([]++tX fp s7.heap) σ8 H9 s9->m'<n->W (i+1) m' vs' H9->∃m,m<n/\∃i vs H',Inv Y [] (dS k fi σ) H' s9/\tn i s9.heap/\(∀b∈fp,H' b=none)/\W i m vs H':=fun{H9 s9 vs' m'} I9 hm w9=>by
    refine⟨m',hm,i+1,vs',H9,(I9.unpinned).weak l8.symm (fun j v e=>?_),T.keep _ _ _ st7 fun b hb o e=>(I9.pin (b,o) (cD _ (cD _ (kA hb e)))).1,fun b hb=>?_,w9⟩
    ·obtain⟨j',t,rfl,_,_⟩:=uw e;rw[k8 _ (Nat.le_add_right _ _)];exact e
    ·obtain⟨o,e,_⟩:=T.obj _ _ st7 b hb;exact(I9.pin (b,o) (cD _ (cD _ (kA hb e)))).2.1
   refine cE a8 fun b s9 ⟨H9,I9,q9⟩=>?_;cases b with
   |false =>
    rw[if_neg fP]at q9 ⊢;obtain⟨m',hm,w9⟩:=q9;exact again I9 hm w9
   |true =>
    rw[if_pos rfl]at q9 ⊢;have a9:=eY _ s9 σ8 H9 _ I9 q9;rw[yp,yw,yA,yx]at a9;refine cE a9 fun y s10 ⟨v,H10,I10,r10,hl10,hsz10,m',hm,w10⟩=>?_;have a10:=cf (X:=Y) _ s10 σ8 H10 (.ref s2.heap.objs.size) [v] (.ref s2.heap.objs.size) [y] (fun z H'=>z=.non/\H'=upd H10 s2.heap.objs.size (.lst (vs++[v]))) I10 rfl (.cons r10 .nil) ⟨_,vs,v,rfl,rfl,hl10,hsz10,rfl,rfl⟩;rw[yp,yw,yA,yx]at a10;refine cE a10 fun _ s11 ⟨_,H11,I11,_,_,e11⟩=>?_;subst e11;exact again I11 hm w10
 have hstart:=codeAny_compStart_list (prog:=X.prog) (w:=X.w) (A:=X.A) (elt:=elt) (target:=tg) (iter:=iter) (ifs:=ifs) (rest:=[]) (scope:=scope) (pos:=pos) (it:=.ref it) (acc:=.ref s2.heap.objs.size) (env:=Y.env) (loop _ rfl) (T.self _ 0 _ _ _ st4 (loop _ rfl));rw[yenv]at hstart;rw[<-hs3]at hstart;exact hstart
end
section
variable{X:Cx}
theorem yG.turned{J3:Zd}{σ:St}{H:Hp}{s:Shared}{C:Addr}{h':Heap}(c:yG X J3 H C)(I:Inv X J3 σ H s)(hs:fG C s.heap h'):Inv X J3 σ H { s with heap:=h' } :=
 I.turned (t':=s.toks) (fun b o hb e=>hs.extBut b o hb e) c.free c.loc (.inr c.young) c.cells c.pin
theorem GS{elt iter tg:Expr}{ifs:List Expr}{scope:Scope}{pos:Pos}{k:Nat}{N:Zb}{fi:List Nat}{wi:TI}{g:TG}{tc:TT}{te:TE}(hS:mJ X.env.scope scope k N X.N fi=true)(hc:X.calm=true)(hi:PI X tg iter wi)
  (hg:∀C cl s₀ H₀ ex pn,PG (dU X N scope C cl s₀ H₀ ex pn) tg g) (ho:Ae k g) (ht:∀C cl s₀ H₀ ex pn,HF (dU X N scope C cl s₀ H₀ ex pn) ifs tc) (he:∀C cl s₀ H₀ ex pn,PE (dU X N scope C cl s₀ H₀ ex pn) elt te)
  (hs:∀x,yM iter X.env x=pure x:=by intro _;rfl):PE X (.ListComp elt [⟨tg,iter,ifs,0⟩] scope pos) (dC k fi wi g tc te):=by
 intro J3 s σ H Q I h;have S:=oA.of hS;obtain⟨cl,hclos,hcl,hcf⟩:=ux (env:=X.env) (scope:=scope) fun y hy e=>I.ok.has y.1 (S.fr y hy e);rw[eval_ListComp];refine wpAny_comprehension_free (use:=none) rfl hs hclos S.kind S.nm (cE (hi J3 s σ H _ I h) fun v s1 h1=>cE h1 fun itv s2 h2=>?_);obtain⟨it,fp,tn,J,H2,e,I2,T,st2,f2,hw⟩:=h2;subst e;refine uv (RR:=fun acc C=>compPost (model X.prog X.w) X.A X.xe none (EP X J3 σ Q) acc C) S hc hcl hcf hg ho ht he I2 T st2 f2 hw ?_;intro D C H' s' m' I' hn ce q;exact⟨m',hn,fun h' hs'=>⟨.ref D,H',ce.turned I' hs',rfl,q⟩⟩
theorem A0{elt iter tg:Expr}{ifs:List Expr}{scope:Scope}{pos spos py:Pos}{k:Nat}{N:Zb}{fi:List Nat}{wi:TI}{g:TG}{tc:TT}{te:TE}{j:Nat}{y:Str}(hN:X.N.Nodup)(hj:X.N[j]?=some y)(hy:Loc X.env.scope y)(hS:mJ X.env.scope scope k N X.N fi=true)(hc:X.calm=true)(hi:PI X tg iter wi)
  (hg:∀C cl s₀ H₀ ex pn,PG (dU X N scope C cl s₀ H₀ ex pn) tg g) (ho:Ae k g) (ht:∀C cl s₀ H₀ ex pn,HF (dU X N scope C cl s₀ H₀ ex pn) ifs tc) (he:∀C cl s₀ H₀ ex pn,PE (dU X N scope C cl s₀ H₀ ex pn) elt te)
  (hsw:qW (.ListComp elt [⟨tg,iter,ifs,0⟩] scope pos) (some (.Name y py)) spos.line X.env=pure true:=by rfl)
  (hs:∀x,yM iter X.env x=pure x:=by intro _;rfl) (hf:X.fn y=true∨X.env.scope.names.lookup y=some .local:=by first|exact .inl rfl|exact .inr rfl|assumption) :
  PS X (.Assign [.Name y py] (.ListComp elt [⟨tg,iter,ifs,0⟩] scope pos) spos) (aP (dC k fi wi g tc te) (eF j)):=by
 intro J3 s σ H D I h;have S:=oA.of hS;obtain⟨cl,hclos,hcl,hcf⟩:=ux (env:=X.env) (scope:=scope) fun y hy e=>I.ok.has y.1 (S.fr y hy e);rw[exec_Assign_Name_used _ _ _ _ hsw];refine am (BU (am ?_));show wpAny _ X.A (do let _ <- comprehension (.ListComp elt [⟨tg,iter,ifs,0⟩] scope pos) scope X.env _ (newList []) false (eval iter X.env) (some (assign (.Name y py) X.env))) _ _ s
 refine am (oO (wpAny_comprehension_free (use:=some (assign (.Name y py) X.env)) (Q:=fun _ s'=>SP X J3 D .next s') rfl hs hclos S.kind S.nm
  (cE (hi J3 s σ H _ I h) fun v s1 h1=>cE h1 fun itv s2 h2=>?_)) (fun _ s' hq=>aD (aD hq)) fun _ _ e=>e)
 obtain⟨it,fp,tn,J,H2,e,I2,T,st2,f2,hw⟩:=h2;subst e;refine uv (RR:=fun acc C=>compPost (model X.prog X.w) X.A X.xe (some (assign (.Name y py) X.env)) (fun _ s'=>SP X J3 D .next s') acc C) (Q:=fun x H1=>eF j x σ H1 D.nx) S hc hcl hcf hg ho ht he I2 T st2 f2 hw ?_;intro A C H' s' m' I' hn ce q;show wpAny _ X.A (assign (.Name y py) X.env (.ref A)) _ _ _;refine wpAny_assign_Name (vM I' hN hj hy (v:=.ref A) rfl (fun s'' I'' hsb=>?_) hf);obtain⟨a,hsa,ha⟩:=hsb;have hCa:C≠a:=by
  rcases ha with z|z
  ·rw[z];exact ce.loc
  ·exact dB (ce.cells y a z)
 refine⟨m',hn.sameBut hsa hCa,fun h' hs'=>?_⟩;exact⟨_,H',ce.turned I'' hs',q⟩
end
theorem Inv.turnedNew{X:Cx}{J3:Zd}{σ:St}{H:Hp}{s:Shared}{h2:Heap}{t':Nat}{ch:Ze}{o:HO}(I:Inv X J3 σ H s)(hf:∀b∈ch,oy X J3 H b)
  (k:∀b q,b∉ch->s.heap.get? b=some q->h2.get? b=some q) (hq:∃q,h2.get? s.heap.objs.size=some q) (hno:∀y,o≠.own y) (new:b9 X.prog X.w X.K (upd H s.heap.objs.size o) h2 s.heap.objs.size o) :
  Inv X J3 σ (upd H s.heap.objs.size o) { s with heap:=h2,toks:=t' }:=by
 have hn0:H s.heap.objs.size=none:=I.fresh;have nsz:∀b q,s.heap.get? b=some q->b≠s.heap.objs.size:=fun b q e=>de (be e);have tr:∀b u,H b=some u->b∉ch:=fun b u e z=>by rw[(hf b z).1]at e;cases e
 refine I.step (g':=s.gens) (d':=s.drawn) (ch:=ch) (fun b hb=>?_) (fun b q _ _ hc e _=>k b q hc e) (fun b q _ _ hc e _=>⟨q.slots,k b q hc e⟩) (fun b q _ e n=>by rw[ag (nsz b q e)];exact n) (fun b q hc e=>⟨q,k b q hc e⟩)
  (fun b xs e=>by rw[ag (ae e hn0)];exact e) (fun b q u e=>by rw[ag (ae e hn0)];exact e) (fun b ps e=>⟨#[],by rw[ag (ae e hn0),e];simp⟩) (fun m hm=>?_) (fun b u e=>?_) I.bare
 ·obtain⟨f0,f1,f2,f3,f4,f5⟩:=hf b hb;exact⟨f3,f1,f4,f5⟩
 ·obtain⟨q,es,ep,ho,r⟩:=hm;exact⟨q,es,ep,k _ q (fun z=>(hf _ z).2.1 rfl) ho,r⟩
 ·by_cases hb:b=s.heap.objs.size
  ·subst hb;rw[aa]at e;cases e;exact new
  ·rw[ag hb]at e;refine(I.hok b u e).stay (fun c v hc q=>k c v ?_ q) (fun c q=>by rw[ag (ae q hn0)];exact q) fun c xs q=>by rw[ag (ae q hn0)];exact q
   rcases hc with z|z
   ·subst z;exact tr _ _ e
   ·exact tr _ _ z
def IR(K:Za)(a:Addr):It :=
 ⟨fun i H=>∃xs x,ay K H a xs/\xs[i]?=some x,fun i H x H'=>∃p v,x=.ref p/\H p=none/\(∀xs,ay K H a xs->xs[i]?=some v)/\H'=upd H p (.tup [.int i,v]),fun i H=>∃xs,ay K H a xs/\xs.length<=i⟩
theorem C7{P:bT}{w:World}{K:Za}{es:List Expr}{kx:Nat}{J7:Pos}(a e it:Addr)(hne:e≠it):
  rS P w K (.Tuple es kx J7) (IR K a) [e,it] e (fun i h=>(∃old,IsEnum h e it i old)/\h.IsListIter it a i) where
 mem:=by simp
 obj:=fun i h st b hb=>by
  obtain⟨⟨old,he⟩,o,ho,hc,hd⟩:=st;rcases cO.mp hb with z|z
  ·subst z;exact⟨_,he,fun v z=>by cases z⟩
  ·have z':b=it:=by simpa using z
   subst z';exact⟨o,ho,fun v z=>by rw[hd]at z;cases z⟩
 keep:=fun i h h' st k=>⟨let⟨old,he⟩:=st.1;⟨old,k e (by simp) _ he⟩,st.2.at fun o e=>k it (by simp) o e⟩
 item:=by
  intro X hP hw hK hc i J3 s σ H E I hf st hg;subst hP hw hK;obtain⟨⟨old,he⟩,hit⟩:=st;obtain⟨xs,x,hq,hx⟩:=hg;obtain⟨its,rv,p,hz⟩:=I.list hq;obtain⟨u,hu,ru⟩:=rv.get hx;obtain⟨e0,e1,e2,e3,e4,e5⟩:=hf e (by simp);obtain⟨f0,f1,f2,f3,f4,f5⟩:=hf it (by simp);refine wpAny_pyNext_enum_item he hit p.isList (x:=u) (by simpa using hu) hne fun h' ho' hit' ht' hsz' hk'=>?_;refine⟨_,rfl,wpAny_letOwnedTupleGo_enum (s:={ s with heap:=h',toks:=s.toks+1 }) ho' fun h2 he2 hs2=>?_⟩;have hs2':fG e h' h2:=hs2;have hpe:s.heap.objs.size≠e:=gD (be he);have ht2:h2.get? s.heap.objs.size=some { cls:=.type "tuple",data:=.seq #[.int i s.toks,u] }:=hs2'.extBut _ _ hpe ht';have hn0:H s.heap.objs.size=none:=I.fresh;have hue:upd H s.heap.objs.size (.tup [.int i,x]) e=none:=by rw[ag (dB hpe)];exact e0
  have hpi:s.heap.objs.size≠it:=by
   obtain⟨o,ho,_⟩:=hit;exact gD (be ho)
  have hui:upd H s.heap.objs.size (.tup [.int i,x]) it=none:=by rw[ag (dB hpi)];exact f0
  have I2:Inv X J3 σ (upd H s.heap.objs.size (.tup [.int i,x])) { s with heap:=h2,toks:=s.toks+1 }:=by
   refine I.turnedNew (ch:=[e,it]) hf (fun b o hb q=>?_) ⟨_,ht2⟩ (fun _ z=>nomatch z) ⟨by show 2<=ai;decide,[.int i s.toks,u],.cons ⟨_,rfl⟩ (.cons ru .nil),⟨_,ht2,rfl,_,rfl⟩⟩;have nb1:b≠e:=fun z=>hb (by simp[z]);have nb2:b≠it:=fun z=>hb (by simp[z]);exact hs2'.extBut _ _ nb1 (hk' b o nb1 nb2 q)
  refine⟨.ref s.heap.objs.size,_,I2,rfl,⟨_,x,rfl,hn0,fun ys hy=>by rw[I.list_inj hy hq];exact hx,rfl⟩,⟨⟨u,by simpa using he2⟩,hit'.at fun o y=>(hs2'.2 it (dB hne)).trans y⟩,fun b hb=>?_⟩;rcases cO.mp hb with z|z
  ·subst z;exact hue
  ·have z':b=it:=by simpa using z
   subst z';exact hui
 done:=by
  intro X hP hw hK hc i J3 s σ H E I hf st hg;subst hP hw hK;obtain⟨⟨old,he⟩,hit⟩:=st;obtain⟨xs,hq,hx⟩:=hg;obtain⟨its,rv,p,hz⟩:=I.list hq;obtain⟨f0,f1,f2,f3,f4,f5⟩:=hf it (by simp);have hl:=rv.length;exact wpAny_pyNext_enum_end (I.ok.hd hc) he hit p.isList (by simp;omega) fun h' eb=>⟨rfl,I.turned (t':=s.toks) (fun b o hb e=>eb b o hb e) f0 f1 f3 f4 f5⟩
 self:=fun _ _ _ _ _ st h=>let⟨_,he⟩:=st.1;wpAny_pyIter_enum he h
section
variable{X:Cx}{p pos:Pos}{es:List Expr}{kx:Nat}{J7:Pos}
def v4(K:Za)(ta:TA):TI:=fun σ H R=>ta σ H fun vs H1=>∃a,vs=[.ref a]/\(∃xs,ay K H1 a xs)/\R (IR K a) H1
theorem pf{a:Expr}{ta:TA}(hg:Gl X "enumerate")(hm:X.mg "enumerate"=none)(ha:PA X [a] ta)(hs:aN [a] X.env=[(false,eval a X.env)]:=by rfl):PI X (.Tuple es kx J7) (.Call (.Name "enumerate" p) [a] [] pos) (v4 X.K ta):=by
 intro J3 s σ H R I h;refine Call_ (qC I hg hm boot_enumerate (BQ (cE (ha pos J3 s σ H _ I h) fun us s1 ⟨vs,H1,I1,r1,q1⟩=>?_) hs rfl));obtain⟨l,e,⟨xs,hq⟩,q⟩:=q1;subst e;obtain⟨u,rfl,ru⟩:=vals1 r1;cases ru;obtain⟨its,rv,pl,hz⟩:=I1.list hq;refine call_enumerate_list pl.isList fun h' he hit hsz hk=>?_;refine wpAny_pyIter_enum (s:={ s1 with heap:=h' }) he ?_;have hk':∀b o,s1.heap.get? b=some o->h'.get? b=some o:=hk;have I2:Inv X J3 σ H1 { s1 with heap:=h' }:=I1.kept (t':=s1.toks) hk';refine⟨_,[s1.heap.objs.size+1,s1.heap.objs.size],_,_,H1,rfl,I2,C7 l _ _ (Nat.succ_ne_self _),⟨⟨_,he⟩,hit⟩,fun b hb=>?_,q⟩;have hb':s1.heap.objs.size<=b:=by
  rcases cO.mp hb with z|z
  ·rw[z];exact si _
  ·have z':b=s1.heap.objs.size:=by simpa using z
   rw[z'];exact aB _
 exact I1.fpOk hb' (I1.hok.fresh hb')
end
def Jl(x:Str):It:=⟨fun i _=>i<x.cps.size,fun i H y H'=>H'=H/\∃c,x.cps[i]?=some c/\y=.str ⟨#[c]⟩,fun i _=>x.cps.size<=i⟩
theorem Aq{P:bT}{w:World}{K:Za}{tg:Expr}(x:Str)(t:Tok)(it:Addr):rS P w K tg (Jl x) [it] it (fun i h=>h.IsStrIter it "str_ascii_iterator" x t i) where
 mem:=by simp
 obj:=fun i h st b hb=>by
  have e:b=it:=by simpa using hb
  subst e;obtain⟨o,e,c,d⟩:=st;exact⟨o,e,fun v z=>by rw[d]at z;cases z⟩
 keep:=fun i h h' st k=>by
  obtain⟨o,e,c,d⟩:=st;exact⟨o,k it (by simp) o e,c,d⟩
 item:=by
  intro X hP hw hK hc i J3 s σ H E I hf st hg;subst hP hw hK;have hlt:i<x.cps.size:=hg;obtain⟨f0,f1,f2,f3,f4,f5⟩:=hf it (by simp);have hx:x.cps[i]?=some x.cps[i]:=by simp[hlt]
  refine wpAny_pyNext_ascii_item st hx fun h' st' sb=>?_;have I1:Inv X J3 σ H { s with heap:=h',toks:=s.toks+1 }:=I.turned (t':=s.toks+1) (fun b o hb e=>(sb.2 b hb).trans e) f0 f1 f3 f4 f5;obtain⟨o,e,c,d⟩:=id st';exact⟨_,rfl,v6 (s:={ s with heap:=h',toks:=s.toks+1 }) e c d (by decide) ⟨.str ⟨#[x.cps[i]]⟩,H,I1,⟨_,rfl⟩,⟨rfl,_,hx,rfl⟩,st',fun b hb=>(hf b hb).1⟩⟩
 done:=by
  intro X hP hw hK hc i J3 s σ H E I hf st hg;subst hP hw hK;have hge:x.cps.size<=i:=hg;obtain⟨f0,f1,f2,f3,f4,f5⟩:=hf it (by simp);exact wpAny_pyNext_ascii_end (I.ok.hd hc) st (by simp;omega) fun h' eb=>⟨rfl,I.turned (t':=s.toks) (fun b o hb e=>eb b o hb e) f0 f1 f3 f4 f5⟩
 self:=fun _ _ _ _ _ st h=>wpAny_pyIter_striter_ascii st h
theorem C5{P:bT}{w:World}{K:Za}{tg:Expr}(x:Str)(t:Tok)(it:Addr):rS P w K tg (Jl x) [it] it (fun i h=>h.IsStrIter it "str_iterator" x t i) where
 mem:=by simp
 obj:=fun i h st b hb=>by
  have e:b=it:=by simpa using hb
  subst e;obtain⟨o,e,c,d⟩:=st;exact⟨o,e,fun v z=>by rw[d]at z;cases z⟩
 keep:=fun i h h' st k=>by
  obtain⟨o,e,c,d⟩:=st;exact⟨o,k it (by simp) o e,c,d⟩
 item:=by
  intro X hP hw hK hc i J3 s σ H E I hf st hg;subst hP hw hK;have hlt:i<x.cps.size:=hg;obtain⟨f0,f1,f2,f3,f4,f5⟩:=hf it (by simp);have hx:x.cps[i]?=some x.cps[i]:=by simp[hlt]
  refine wpAny_pyNext_wide_item st hx fun h' st' sb=>?_;have I1:Inv X J3 σ H { s with heap:=h',toks:=s.toks+1 }:=I.turned (t':=s.toks+1) (fun b o hb e=>(sb.2 b hb).trans e) f0 f1 f3 f4 f5;obtain⟨o,e,c,d⟩:=id st';exact⟨_,rfl,v6 (s:={ s with heap:=h',toks:=s.toks+1 }) e c d (by decide) ⟨.str ⟨#[x.cps[i]]⟩,H,I1,⟨_,rfl⟩,⟨rfl,_,hx,rfl⟩,st',fun b hb=>(hf b hb).1⟩⟩
 done:=by
  intro X hP hw hK hc i J3 s σ H E I hf st hg;subst hP hw hK;have hge:x.cps.size<=i:=hg;obtain⟨f0,f1,f2,f3,f4,f5⟩:=hf it (by simp);exact wpAny_pyNext_wide_end (I.ok.hd hc) st (by simp;omega) fun h' eb=>⟨rfl,I.turned (t':=s.toks) (fun b o hb e=>eb b o hb e) f0 f1 f3 f4 f5⟩
 self:=fun _ _ _ _ _ st h=>wpAny_pyIter_striter_wide st h
section
variable{X:Cx}{p pos:Pos}{tg:Expr}
def IG(tl:TE):TI:=fun σ H R=>tl σ H fun v H1=>∃x,v=.str x/\R (Jl x) H1
theorem HU{l:Expr}{tl:TE}(hl:PE X l tl):PI X tg l (IG tl):=by
 intro J3 s σ H R I h;refine cE (hl J3 s σ H _ I h) fun v s1 ⟨y,H1,I1,r1,q1⟩=>?_;obtain⟨x,e,q⟩:=q1;subst e;obtain⟨t,rfl⟩:=r1;have fin:∀b∈[s1.heap.objs.size],oy X J3 H1 b:=fun b hb=>by
  have e:b=s1.heap.objs.size:=by simpa using hb
  subst e;exact I1.fpOk (aB _) (I1.hok.fresh (aB _))
 cases ha:x.cps.all (·<128)
 ·refine wpAny_pyIter_wide ha ?_;exact⟨s1.heap.objs.size,[s1.heap.objs.size],_,_,H1,rfl,I1.kept (t':=s1.toks) fun b o e=>bw _ e,C5 x t _,⟨_,cF _ rfl,rfl,rfl⟩,fin,q⟩
 ·refine wpAny_pyIter_ascii ha ?_;exact⟨s1.heap.objs.size,[s1.heap.objs.size],_,_,H1,rfl,I1.kept (t':=s1.toks) fun b o e=>bw _ e,Aq x t _,⟨_,cF _ rfl,rfl,rfl⟩,fin,q⟩
end
def IQ(K:Za)(a b:Addr):It :=
  ⟨fun i H=>∃xs ys x y,ay K H a xs/\ay K H b ys/\xs[i]?=some x/\ys[i]?=some y,
   fun i H x H'=>∃p u v,x=.ref p/\H p=none/\(∀xs,ay K H a xs->xs[i]?=some u)/\(∀ys,ay K H b ys->ys[i]?=some v)/\H'=upd H p (.tup [u,v]),
   fun i H=>∃xs ys,ay K H a xs/\ay K H b ys/\(xs.length<=i∨ys.length<=i)⟩
theorem Er{P:bT}{w:World}{K:Za}{es:List Expr}{kx:Nat}{J7:Pos}(a b z TI TO i1 i2:Addr)(D:p_ z TI TO i1 i2 a b):
  rS P w K (.Tuple es kx J7) (IQ K a b) [z,TI,TO,i1,i2] z (fun i h=>IsZip h z TI TO .none/\IsPair h TI (.ref i1) (.ref i2)/\(∃a b,IsPair h TO a b)/\h.IsListIter i1 a i/\h.IsListIter i2 b i) where
 mem:=by simp
 obj:=fun i h st c hc=>by
  obtain⟨hz,hTI,⟨u,v,hTO⟩,h1,h2⟩:=st;simp only[cO,sN,or_false]at hc;rcases hc with rfl|rfl|rfl|rfl|rfl
  ·exact⟨_,hz,fun v z=>by cases z⟩
  ·exact⟨_,hTI,fun v z=>by cases z⟩
  ·exact⟨_,hTO,fun v z=>by cases z⟩
  ·obtain⟨o,e,c,d⟩:=h1;exact⟨o,e,fun v z=>by rw[d]at z;cases z⟩
  ·obtain⟨o,e,c,d⟩:=h2;exact⟨o,e,fun v z=>by rw[d]at z;cases z⟩
 keep:=fun i h h' st k=>by
  obtain⟨hz,hTI,⟨u,v,hTO⟩,h1,h2⟩:=st;exact⟨k z (by simp) _ hz,k TI (by simp) _ hTI,⟨u,v,k TO (by simp) _ hTO⟩,h1.at fun o e=>k i1 (by simp) o e,h2.at fun o e=>k i2 (by simp) o e⟩
 item:=by
  intro X hP hw hK hc i J3 s σ H E I hf st hg;subst hP hw hK;obtain⟨hz,hTI,⟨u0,v0,hTO⟩,h1,h2⟩:=st;obtain⟨xs,ys,x,y,hqx,hqy,hx,hy⟩:=hg;obtain⟨its,rx,px,zx⟩:=I.list hqx;obtain⟨jts,ry,py,zy⟩:=I.list hqy;obtain⟨u,hu,ru⟩:=rx.get hx;obtain⟨v,hv,rv⟩:=ry.get hy;refine wpAny_pyNext_zip_item D hz hTI hTO h1 h2 px.isList py.isList (x:=u) (y:=v) (by simpa using hu) (by simpa using hv) fun h' a1 a2 a3 a4 a5 a6 hk=>?_;refine⟨_,rfl,wpAny_letOwnedTupleGo_zip (s:={ s with heap:=h' }) a1 fun h2' hz2 hs2=>?_⟩;have hs2':fG z h' h2':=hs2;have nsz:s.heap.objs.size≠z:=gD (be hz);have nsTO:s.heap.objs.size≠TO:=gD (be hTO);have nsTI:s.heap.objs.size≠TI:=gD (be hTI);have nsi1:s.heap.objs.size≠i1:=by obtain⟨o,ho,_⟩:=h1;exact gD (be ho)
  have nsi2:s.heap.objs.size≠i2:=by obtain⟨o,ho,_⟩:=h2;exact gD (be ho)
  have ht2:IsPair h2' s.heap.objs.size u v:=hs2'.extBut _ _ nsz a5;have I2:Inv X J3 σ (upd H s.heap.objs.size (.tup [x,y])) { s with heap:=h2',toks:=s.toks }:=by
   refine I.turnedNew (ch:=[z,TI,TO,i1,i2]) hf (fun c o hc q=>?_) ⟨_,ht2⟩ (fun _ z=>nomatch z) ⟨by show 2<=ai;decide,[u,v],.cons ru (.cons rv .nil),⟨_,ht2,rfl,_,rfl⟩⟩;have n1:c≠z:=fun q=>hc (by simp[q]);exact hs2'.extBut _ _ n1 (hk c o n1 (fun q=>hc (by simp[q])) (fun q=>hc (by simp[q])) (fun q=>hc (by simp[q])) q)
  refine⟨.ref s.heap.objs.size,_,I2,rfl,⟨_,x,y,rfl,I.fresh,fun zs hz=>by rw[I.list_inj hz hqx];exact hx,fun zs hz=>by rw[I.list_inj hz hqy];exact hy,rfl⟩,⟨hz2,hs2'.extBut _ _ D.TIz (hk _ _ D.TIz D.TITO D.TIi1 D.TIi2 hTI),⟨_,_,hs2'.extBut _ _ D.TOz a2⟩,a3.at fun o e=>hs2'.extBut _ _ D.i1z e,a4.at fun o e=>hs2'.extBut _ _ D.i2z e⟩,fun c hc=>?_⟩;have hcn:=(hf c hc).1;simp only[cO,sN,or_false]at hc;have ne:c≠s.heap.objs.size:=by
   rcases hc with rfl|rfl|rfl|rfl|rfl
   ·exact nsz.symm
   ·exact nsTI.symm
   ·exact nsTO.symm
   ·exact nsi1.symm
   ·exact nsi2.symm
  rw[ag ne];exact hcn
 done:=by
  intro X hP hw hK hc i J3 s σ H E I hf st hg;subst hP hw hK;obtain⟨hz,hTI,⟨u0,v0,hTO⟩,h1,h2⟩:=st;obtain⟨xs,ys,hqx,hqy,hend⟩:=hg;obtain⟨its,rx,px,zx⟩:=I.list hqx;obtain⟨jts,ry,py,zy⟩:=I.list hqy;have lx:=rx.length;have ly:=ry.length;refine wpAny_pyNext_zip_end (I.ok.hd hc) D hz hTI hTO h1 h2 px.isList py.isList (by rcases hend with q|q;exact .inl (by simp;omega);exact .inr (by simp;omega)) fun h' hk=>⟨rfl,?_⟩;have tr:∀c q,H c=some q->c∉[z,TI,TO,i1,i2]:=fun c q e m=>by rw[(hf c m).1]at e;cases e
  have kk:∀c o,c∉[z,TI,TO,i1,i2]->s.heap.get? c=some o->h'.get? c=some o:=fun c o hc q=>hk c o (fun q=>hc (by simp[q])) (fun q=>hc (by simp[q])) (fun q=>hc (by simp[q])) (fun q=>hc (by simp[q])) q;refine I.step (g':=s.gens) (d':=s.drawn) (t':=s.toks) (ch:=[z,TI,TO,i1,i2]) (fun c hc=>?_) (fun c o _ _ hc e _=>kk c o hc e) (fun c o _ _ hc e _=>⟨o.slots,kk c o hc e⟩) (fun _ _ _ _ n=>n) (fun c o hc e=>⟨o,kk c o hc e⟩) (fun _ _ e=>e) (fun _ _ _ e=>e) (fun c ps e=>⟨#[],by rw[e];simp⟩) (fun m hm=>?_) (fun c q e=>?_) I.bare
  ·obtain⟨f0,f1,f2,f3,f4,f5⟩:=hf c hc;exact⟨f3,f1,f4,f5⟩
  ·obtain⟨q,es',ep,ho,r⟩:=hm;exact⟨q,es',ep,kk _ q (fun z=>(hf _ z).2.1 rfl) ho,r⟩
  ·refine(I.hok c q e).stay (fun d v hd q'=>kk d v ?_ q') (fun _ q=>q) fun _ _ q=>q;rcases hd with z|z
   ·subst z;exact tr _ _ e
   ·exact tr _ _ z
 self:=fun _ _ _ _ _ st h=>wT st.1 h
section
variable{prog:bT}{w:World}{A:Around}{E:Zc}{s:Shared}
theorem ky{it t:Addr}{i:Nat}{items:Array Value}{x:Value}{Q:Zc}(st:s.heap.IsTupleIter it t i)(tt:s.heap.IsTuple t items)(hx:items[i]?=some x)
  (k:∀h',h'.IsTupleIter it t (i+1)->fG it s.heap h'->Q x { s with heap:=h' }):wpAny (model prog w) A (ln (.ref it)) Q E s:=by
 obtain⟨oi,gi,ci,di⟩:=id st;obtain⟨ot,gt,_,nt,dt⟩:=tt;unfold ln;refine am (lm (name:=lh "__next__") st.typeIs wS
  (pX wS st.typeIs F.entry_tuple_iterator_next ?_ (F.args_tuple_iterator_next_1 _)))
 show wpAny _ _ (field (.ref it) 0 >>= _) _ _ s;refine am (fb gi di (x:=.ref t) rfl ?_);show wpAny _ _ (if(Value.ref t==Value.none)=true then _ else _) _ _ s
 rw[if_neg (show ¬((Value.ref t==Value.none)=true)from fP)];show wpAny _ _ (field (.ref it) 1 >>= _) _ _ s;refine am (fb gi di (x:=.int i 0) rfl ?_);show wpAny _ _ (seqItems? (.ref t) >>= _) _ _ s;refine am (nh gt dt ?_);simp only[jw,hx];refine am (sM gi di (by simp) (aD ⟨x,rfl,aD (k _ ?_ (lc ..))⟩));exact⟨_,w_ _ gi (Obj.isFreed_of_fields (wR di _)),(Obj.cls_mapFields ..).trans ci,by
  rw[wR di];simp[rawInt]⟩
theorem rc{it t:Addr}{i:Nat}{items:Array Value}{Q:Zc}(hh:A.handled=none)(st:s.heap.IsTupleIter it t i)(tt:s.heap.IsTuple t items)(hx:items[i]?=none)
  (k:∀h' e,Heap.ExtBut it s.heap h'->(∃o,h'.get? e=some o/\o.cls=.type "StopIteration")->E (.ref e) { s with heap:=h' }):wpAny (model prog w) A (ln (.ref it)) Q E s:=by
 obtain⟨oi,gi,ci,di⟩:=id st;obtain⟨ot,gt,_,nt,dt⟩:=tt;unfold ln;refine am (lm (name:=lh "__next__") st.typeIs wS
  (pX wS st.typeIs F.entry_tuple_iterator_next ?_ (F.args_tuple_iterator_next_1 _)))
 show wpAny _ _ (field (.ref it) 0 >>= _) _ _ s;refine am (fb gi di (x:=.ref t) rfl ?_);show wpAny _ _ (if(Value.ref t==Value.none)=true then _ else _) _ _ s
 rw[if_neg (show ¬((Value.ref t==Value.none)=true)from fP)];show wpAny _ _ (field (.ref it) 1 >>= _) _ _ s;refine am (fb gi di (x:=.int i 0) rfl ?_);show wpAny _ _ (seqItems? (.ref t) >>= _) _ _ s;refine am (nh gt dt ?_);simp only[jw,hx];refine am (q_ (am (sM gi di (by simp) ?_)));show wpAny _ _ (newExc (.type "StopIteration") [] >>= _) _ _ _;refine am ?_;simp only[newExc,newTuple];refine am (ju ?_ (by size_fits));refine am (m:=p9 _ _) (wpAny_of_eq (a:=Value.none) (by first|rfl|(simp only[p9];rfl)) ?_)
 refine ju ?_ (by size_fits);simp only[raiseNew];refine am (wpAny_handled ?_)
 first|rw[show A.in1.handled=none from hh] | rw[hh]
 refine am (aD (wpAny_throw ?_));exact k _ _ (((lc ..).extBut.push _).push _) ⟨_,cF _ rfl,rfl⟩
theorem C3{z TI TO i1 i2 l1 l2:Addr}{k1 k2:Nat}{xs ys:Array Value}{x y a b:Value}{Q:Zc}(D:p_ z TI TO i1 i2 l1 l2)
  (gz:IsZip s.heap z TI TO .none) (gI:IsPair s.heap TI (.ref i1) (.ref i2)) (gO:IsPair s.heap TO a b)
  (g1:s.heap.IsTupleIter i1 l1 k1) (g2:s.heap.IsTupleIter i2 l2 k2) (t1:s.heap.IsTuple l1 xs) (t2:s.heap.IsTuple l2 ys) (hx:xs[k1]?=some x) (hy:ys[k2]?=some y)
  (k:∀h',IsZip h' z TI TO (rawInt s.heap.objs.size)->IsPair h' TO x y->h'.IsTupleIter i1 l1 (k1+1)->h'.IsTupleIter i2 l2 (k2+1)->IsPair h' s.heap.objs.size x y->h'.objs.size=s.heap.objs.size+1 ->
   (∀c o,c≠z->c≠TO->c≠i1->c≠i2->s.heap.get? c=some o->h'.get? c=some o)->Q (.ref s.heap.objs.size) { s with heap:=h' }) :
  wpAny (model prog w) A (cy.«zip.__next__» ⟨[.ref z],[]⟩) (fun fin s'=>∃v,fin=.done (.ret v)/\Q v s') E s:=by
 show wpAny _ _ (field (.ref z) 2 >>= _) _ _ _;refine am (fb gz rfl (x:=.bool false) rfl ?_);show wpAny _ _ (field (.ref z) 3 >>= _) _ _ _;refine am (fb gz rfl (x:=.ref TI) rfl ?_);refine am (nh gI rfl ?_);show wpAny _ _ (wQ (.ref z) >>= _) _ _ _;refine am ?_;unfold wQ;refine am (fb gz rfl (x:=.none) rfl (aD ?_));simp only[if_true];refine am (q_ ?_);refine am (fb gz rfl (x:=.ref TO) rfl ?_);refine am (iT gz (by simp) fun m₁ gz₁ u₁=>?_)
 replace gz₁:IsZip m₁ z TI TO .ellipsis:=gz₁
 refine am ?_;simp only[List.zipIdx_cons,List.zipIdx_nil,qa,List.forIn_nil];refine am (am (wP ?_));show wpAny _ _ (ln (.ref i1) >>= _) _ _ _;refine am (ky (g1.extBut u₁.extBut D.i1z) (t1.extBut u₁.extBut D.l1z) hx fun m₂ g1₂ u₂=>aD ?_);have gO₂:IsPair m₂ TO a b:=u₂.extBut _ _ D.TOi1 (u₁.extBut _ _ D.TOz gO);refine am (nh gO₂ rfl ?_);refine am (wpAny_updateSeq_pair gO₂ fun m₃ gO₃ u₃=>?_)
 replace gO₃:IsPair m₃ TO x b:=gO₃
 refine am (wO (aD ?_));refine am (am (wP ?_));show wpAny _ _ (ln (.ref i2) >>= _) _ _ _;refine am (ky (((g2.extBut u₁.extBut D.i2z).extBut u₂.extBut D.i12.symm).extBut u₃.extBut D.TOi2.symm)
  (((t2.extBut u₁.extBut D.l2z).extBut u₂.extBut D.l2i1).extBut u₃.extBut D.l2TO) hy fun m₄ g2₄ u₄=>aD ?_)
 have gO₄:IsPair m₄ TO x b:=u₄.extBut _ _ D.TOi2 gO₃;refine am (nh gO₄ rfl ?_);refine am (wpAny_updateSeq_pair gO₄ fun m₅ gO₅ u₅=>?_)
 replace gO₅:IsPair m₅ TO x y:=gO₅
 refine am (wO (aD (aD ?_)));refine am (nh gO₅ rfl ?_);refine am (wpAny_newTuple ?_);have esz:m₅.objs.size=s.heap.objs.size:=by rw[u₅.1,u₄.1,u₃.1,u₂.1,u₁.1]
 have gz₅:IsZip m₅ z TI TO .ellipsis:=u₅.extBut _ _ D.TOz.symm (u₄.extBut _ _ D.i2z.symm (u₃.extBut _ _ D.TOz.symm (u₂.extBut _ _ D.i1z.symm gz₁)));have kp₅:∀c o,c≠z->c≠TO->c≠i1->c≠i2->s.heap.get? c=some o->m₅.get? c=some o:=fun c o c1 c2 c3 c4 e =>
  u₅.extBut _ _ c2 (u₄.extBut _ _ c4 (u₃.extBut _ _ c2 (u₂.extBut _ _ c3 (u₁.extBut _ _ c1 e))))
 have g1₅:m₅.IsTupleIter i1 l1 (k1+1):=((g1₂.extBut u₃.extBut D.TOi1.symm).extBut u₄.extBut D.i12).extBut u₅.extBut D.TOi1.symm;have g2₅:m₅.IsTupleIter i2 l2 (k2+1):=g2₄.extBut u₅.extBut D.TOi2.symm;have zlt:z<m₅.objs.size:=be gz₅;show wpAny _ _ (cy.SmallTypes.ownedTupleHandOut (.ref z) (.ref m₅.objs.size) >>= _) _ _ _;refine am ?_;unfold cy.SmallTypes.ownedTupleHandOut;have gz₆:IsZip (m₅.push { cls:=.type "tuple",data:=.seq #[x,y] }) z TI TO .ellipsis:=bw _ gz₅;refine am (iT gz₆ (by simp) fun m₇ gz₇ u₇=>?_)
 replace gz₇:IsZip m₇ z TI TO (rawInt m₅.objs.size):=gz₇
 refine iT gz₇ (by simp) fun m₈ gz₈ u₈=>?_
 replace gz₈:IsZip m₈ z TI TO (rawInt m₅.objs.size):=gz₈
 have up:∀c o,c≠z->m₅.get? c=some o->m₈.get? c=some o:=fun c o c1 e=>u₈.extBut _ _ c1 (u₇.extBut _ _ c1 (bw _ e));have gT₈:IsPair m₈ m₅.objs.size x y:=u₈.extBut _ _ (gD zlt) (u₇.extBut _ _ (gD zlt) (cF _ rfl));have ez8:m₈.objs.size=m₅.objs.size+1:=by rw[u₈.1,u₇.1,oK]
 rw[esz]at gz₈ gT₈ ez8;refine aD ⟨_,rfl,?_⟩;show Q (.ref m₅.objs.size) _;rw[esz];refine k m₈ gz₈ (up _ _ D.TOz gO₅) ?_ ?_ gT₈ ez8 fun c o c1 c2 c3 c4 e=>up c o c1 (kp₅ c o c1 c2 c3 c4 e)
 ·obtain⟨o,e,r⟩:=g1₅;exact⟨o,up _ o D.i1z e,r⟩
 ·obtain⟨o,e,r⟩:=g2₅;exact⟨o,up _ o D.i2z e,r⟩
theorem Ek{z TI TO i1 i2 l1 l2:Addr}{k1 k2:Nat}{xs ys:Array Value}{a b:Value}{Q:Fin->Shared->Prop}(hh:A.handled=none)(D:p_ z TI TO i1 i2 l1 l2)
  (gz:IsZip s.heap z TI TO .none) (gI:IsPair s.heap TI (.ref i1) (.ref i2)) (gO:IsPair s.heap TO a b)
  (g1:s.heap.IsTupleIter i1 l1 k1) (g2:s.heap.IsTupleIter i2 l2 k2) (t1:s.heap.IsTuple l1 xs) (t2:s.heap.IsTuple l2 ys) (fin:xs[k1]?=none∨ys[k2]?=none)
  (k:∀h' e,(∀c o,c≠z->c≠TO->c≠i1->c≠i2->s.heap.get? c=some o->h'.get? c=some o)->(∃o,h'.get? e=some o/\o.cls=.type "StopIteration")->E (.ref e) { s with heap:=h' }) :
  wpAny (model prog w) A (cy.«zip.__next__» ⟨[.ref z],[]⟩) Q E s:=by
 show wpAny _ _ (field (.ref z) 2 >>= _) _ _ _;refine am (fb gz rfl (x:=.bool false) rfl ?_);show wpAny _ _ (field (.ref z) 3 >>= _) _ _ _;refine am (fb gz rfl (x:=.ref TI) rfl ?_);refine am (nh gI rfl ?_);show wpAny _ _ (wQ (.ref z) >>= _) _ _ _;refine am ?_;unfold wQ;refine am (fb gz rfl (x:=.none) rfl (aD ?_));simp only[if_true];refine am (q_ ?_);refine am (fb gz rfl (x:=.ref TO) rfl ?_);refine am (iT gz (by simp) fun m₁ gz₁ u₁=>?_)
 replace gz₁:IsZip m₁ z TI TO .ellipsis:=gz₁
 refine am ?_;simp only[List.zipIdx_cons,List.zipIdx_nil,qa,List.forIn_nil];refine am (am (wP ?_));show wpAny _ _ (ln (.ref i1) >>= _) _ _ _;cases hx:xs[k1]? with
 |none =>
  refine am (rc hh (g1.extBut u₁.extBut D.i1z) (t1.extBut u₁.extBut D.l1z) hx fun m₂ e u₂ he=>?_);obtain⟨oe,ge,ce⟩:=he;have gz₂:IsZip m₂ z TI TO .ellipsis:=u₂ _ _ D.i1z.symm gz₁;have nez:e≠z:=fun q=>by subst q;rw[gz₂]at ge;cases ge;simp at ce
  refine iT gz₂ (by simp) fun m₃ _ u₃=>k m₃ e (fun c o c1 _ c3 _ q=>u₃.extBut _ _ c1 (u₂ _ _ c3 (u₁.extBut _ _ c1 q))) ⟨oe,u₃.extBut _ _ nez ge,ce⟩
 |some x =>
  have hy:ys[k2]?=none:=by rcases fin with q|q;rw[hx]at q;cases q;exact q
  refine am (ky (g1.extBut u₁.extBut D.i1z) (t1.extBut u₁.extBut D.l1z) hx fun m₂ g1₂ u₂=>aD ?_);have gO₂:IsPair m₂ TO a b:=u₂.extBut _ _ D.TOi1 (u₁.extBut _ _ D.TOz gO);refine am (nh gO₂ rfl ?_);refine am (wpAny_updateSeq_pair gO₂ fun m₃ gO₃ u₃=>?_);refine am (wO (aD ?_));refine am (am (wP ?_));show wpAny _ _ (ln (.ref i2) >>= _) _ _ _;refine am (rc hh (((g2.extBut u₁.extBut D.i2z).extBut u₂.extBut D.i12.symm).extBut u₃.extBut D.TOi2.symm)
   (((t2.extBut u₁.extBut D.l2z).extBut u₂.extBut D.l2i1).extBut u₃.extBut D.l2TO) hy fun m₄ e u₄ he=>?_)
  obtain⟨oe,ge,ce⟩:=he;have gz₄:IsZip m₄ z TI TO .ellipsis:=u₄ _ _ D.i2z.symm (u₃.extBut _ _ D.TOz.symm (u₂.extBut _ _ D.i1z.symm gz₁));have nez:e≠z:=fun q=>by subst q;rw[gz₄]at ge;cases ge;simp at ce
  refine iT gz₄ (by simp) fun m₅ _ u₅=>k m₅ e (fun c o c1 c2 c3 c4 q=>u₅.extBut _ _ c1 (u₄ _ _ c4 (u₃.extBut _ _ c2 (u₂.extBut _ _ c3 (u₁.extBut _ _ c1 q))))) ⟨oe,u₅.extBut _ _ nez ge,ce⟩
theorem vk{z TI TO i1 i2 l1 l2:Addr}{k1 k2:Nat}{xs ys:Array Value}{x y a b:Value}{Q:Option Value->Shared->Prop}(D:p_ z TI TO i1 i2 l1 l2)
  (gz:IsZip s.heap z TI TO .none) (gI:IsPair s.heap TI (.ref i1) (.ref i2)) (gO:IsPair s.heap TO a b)
  (g1:s.heap.IsTupleIter i1 l1 k1) (g2:s.heap.IsTupleIter i2 l2 k2) (t1:s.heap.IsTuple l1 xs) (t2:s.heap.IsTuple l2 ys) (hx:xs[k1]?=some x) (hy:ys[k2]?=some y)
  (k:∀h',IsZip h' z TI TO (rawInt s.heap.objs.size)->IsPair h' TO x y->h'.IsTupleIter i1 l1 (k1+1)->h'.IsTupleIter i2 l2 (k2+1)->IsPair h' s.heap.objs.size x y->h'.objs.size=s.heap.objs.size+1 ->
   (∀c o,c≠z->c≠TO->c≠i1->c≠i2->s.heap.get? c=some o->h'.get? c=some o)->Q (some (.ref s.heap.objs.size)) { s with heap:=h' }) :
  wpAny (model prog w) A (pyNext (.ref z)) Q E s:=by
 have hT:s.TypeIs (.ref z) "zip":=⟨_,gz,rfl⟩;unfold pyNext;exact am (p8 (lm (name:=lh "__next__") hT wN
  (pX wN hT F.entry_zip_next
   (C3 D gz gI gO g1 g2 t1 t2 hx hy fun h' a1 a2 a3 a4 a5 a6 a7=>aD (k h' a1 a2 a3 a4 a5 a6 a7)) (F.args_zip_next_1 _))))
theorem xS{z TI TO i1 i2 l1 l2:Addr}{k1 k2:Nat}{xs ys:Array Value}{a b:Value}{Q:Option Value->Shared->Prop}(hh:A.handled=none)(D:p_ z TI TO i1 i2 l1 l2)
  (gz:IsZip s.heap z TI TO .none) (gI:IsPair s.heap TI (.ref i1) (.ref i2)) (gO:IsPair s.heap TO a b)
  (g1:s.heap.IsTupleIter i1 l1 k1) (g2:s.heap.IsTupleIter i2 l2 k2) (t1:s.heap.IsTuple l1 xs) (t2:s.heap.IsTuple l2 ys) (fin:xs[k1]?=none∨ys[k2]?=none)
  (k:∀h',(∀c o,c≠z->c≠TO->c≠i1->c≠i2->s.heap.get? c=some o->h'.get? c=some o)->Q none { s with heap:=h' }):wpAny (model prog w) A (pyNext (.ref z)) Q E s:=by
 have hT:s.TypeIs (.ref z) "zip":=⟨_,gz,rfl⟩;unfold pyNext;refine am (p8 (lm (name:=lh "__next__") hT wN
  (pX wN hT F.entry_zip_next (Ek hh D gz gI gO g1 g2 t1 t2 fin fun h' e kp he=>?_) (F.args_zip_next_1 _))))
 obtain⟨o,ho,hc⟩:=he;refine am (yO (T:="StopIteration") (b:=true) ⟨o,ho,hc⟩ isSubtype_stop ?_);exact aD (k _ kp)
end
abbrev Jb(h:Heap)(l1:Addr):Heap:=h.push { cls:=.type "tuple_iterator",data:=.fields #[.ref l1,.int 0 0] }
abbrev Ja(h:Heap)(l1 l2:Addr):Heap:=(Jb h l1).push { cls:=.type "tuple_iterator",data:=.fields #[.ref l2,.int 0 0] }
abbrev I_(h:Heap)(l1 l2:Addr):Heap:=(Ja h l1 l2).push { cls:=.type "tuple",data:=.seq #[.ref h.objs.size,.ref (Jb h l1).objs.size] }
abbrev I0(h:Heap)(l1 l2:Addr):Heap:=(I_ h l1 l2).push { cls:=.type "tuple",data:=.seq #[.none,.none] }
abbrev Iq(h:Heap)(l1 l2:Addr):Heap:=(I0 h l1 l2).push { cls:=.type "zip",data:=.fields #[.none,.bool false,.bool false,.ref (Ja h l1 l2).objs.size,.ref (I_ h l1 l2).objs.size] }
theorem Bb(l1 l2:Addr)(xs ys:Array Value):
  Meets (cy.«zip.__new__» ⟨[.type "zip",.ref l1,.ref l2],[]⟩) (fun _ R s=>s.heap.IsTuple l1 xs/\s.heap.IsTuple l2 ys /\
   R (.ok (.ret (.ref (I0 s.heap l1 l2).objs.size))) { s with heap:=Iq s.heap l1 l2 }) :=
 .of_wp fun prog w A R s h=>by
  obtain⟨hp,g,d,tk,os⟩:=s;obtain⟨q1,q2,h⟩:=h;have hsub:=sub_zip;have T1:Heap.IsTuple (Shared.heap ⟨hp,g,d,tk,os⟩) l1 xs:=q1;have T2:Heap.IsTuple (Shared.heap ⟨hp.push { cls:=.type "tuple_iterator",data:=.fields #[.ref l1,.int 0 0] },g,d,tk,os⟩) l2 ys:=Heap.IsTuple.push q2 _
  wp_walk using BR T1,BR T2
  exact⟨_,rfl,h⟩
section
variable{prog:bT}{w:World}{A:Around}{E:Zc}{s:Shared}
theorem DY{l1 l2:Addr}{xs ys:Array Value}{Q:Zc}(t1:s.heap.IsTuple l1 xs)(t2:s.heap.IsTuple l2 ys)
  (k:∀h',IsZip h' (s.heap.objs.size+4) (s.heap.objs.size+2) (s.heap.objs.size+3) .none->IsPair h' (s.heap.objs.size+2) (.ref s.heap.objs.size) (.ref (s.heap.objs.size+1)) ->
   IsPair h' (s.heap.objs.size+3) .none .none->h'.IsTupleIter s.heap.objs.size l1 0->h'.IsTupleIter (s.heap.objs.size+1) l2 0->(∀c o,s.heap.get? c=some o->h'.get? c=some o)->Q (.ref (s.heap.objs.size+4)) { s with heap:=h' }) :
  wpAny (model prog w) A (call (.type "zip") [.ref l1,.ref l2]) Q E s:=by
 refine callType_new F.called_zip (by decide) (F.typeCall_zip_2 _ _) (F.newCall_zip_2 _ _) (fun obj=>F.args_object_init_3 obj _ _) F.entry_zip_new
  (Bb l1 l2 xs ys) ⟨t1,t2,?_⟩
 have z1:(Jb s.heap l1).objs.size=s.heap.objs.size+1:=oK ..;have z2:(Ja s.heap l1 l2).objs.size=s.heap.objs.size+2:=by rw[oK,z1]
 have z3:(I_ s.heap l1 l2).objs.size=s.heap.objs.size+3:=by rw[oK,z2]
 have z4:(I0 s.heap l1 l2).objs.size=s.heap.objs.size+4:=by rw[oK,z3]
 have g5:(Iq s.heap l1 l2).get? (I0 s.heap l1 l2).objs.size=some _:=cF _ rfl;have g4:(Iq s.heap l1 l2).get? (I_ s.heap l1 l2).objs.size=some _:=bw _ (cF _ rfl);have g3:(Iq s.heap l1 l2).get? (Ja s.heap l1 l2).objs.size=some _:=bw _ (bw _ (cF _ rfl));have g2:(Iq s.heap l1 l2).get? (Jb s.heap l1).objs.size=some _:=bw _ (bw _ (bw _ (cF _ rfl)));have g1:(Iq s.heap l1 l2).get? s.heap.objs.size=some _:=bw _ (bw _ (bw _ (bw _ (cF _ rfl))));show _/\_;rw[z2,z3,z4]at g5;rw[z1,z2]at g3;rw[z3]at g4;rw[z1]at g2;rw[z4];exact⟨⟨_,g5,rfl⟩,k _ g5 g3 g4 ⟨_,g1,rfl,rfl⟩ ⟨_,g2,rfl,rfl⟩ fun c o x =>
  bw _ (bw _ (bw _ (bw _ (bw _ x))))⟩
end
def IP(K:Za)(a b:Addr):It :=
  ⟨fun i H=>∃xs ys x y,bc K H a xs/\bc K H b ys/\xs[i]?=some x/\ys[i]?=some y,
   fun i H x H'=>∃p u v,x=.ref p/\H p=none/\(∀xs,bc K H a xs->xs[i]?=some u)/\(∀ys,bc K H b ys->ys[i]?=some v)/\H'=upd H p (.tup [u,v]),
   fun i H=>∃xs ys,bc K H a xs/\bc K H b ys/\(xs.length<=i∨ys.length<=i)⟩
theorem C4{P:bT}{w:World}{K:Za}{es:List Expr}{kx:Nat}{J7:Pos}(a b z TI TO i1 i2:Addr)(D:p_ z TI TO i1 i2 a b):
  rS P w K (.Tuple es kx J7) (IP K a b) [z,TI,TO,i1,i2] z (fun i h=>IsZip h z TI TO .none/\IsPair h TI (.ref i1) (.ref i2)/\(∃a b,IsPair h TO a b)/\h.IsTupleIter i1 a i/\h.IsTupleIter i2 b i) where
 mem:=by simp
 obj:=fun i h st c hc=>by
  obtain⟨hz,hTI,⟨u,v,hTO⟩,h1,h2⟩:=st;simp only[cO,sN,or_false]at hc;rcases hc with rfl|rfl|rfl|rfl|rfl
  ·exact⟨_,hz,fun v z=>by cases z⟩
  ·exact⟨_,hTI,fun v z=>by cases z⟩
  ·exact⟨_,hTO,fun v z=>by cases z⟩
  ·obtain⟨o,e,c,d⟩:=h1;exact⟨o,e,fun v z=>by rw[d]at z;cases z⟩
  ·obtain⟨o,e,c,d⟩:=h2;exact⟨o,e,fun v z=>by rw[d]at z;cases z⟩
 keep:=fun i h h' st k=>by
  obtain⟨hz,hTI,⟨u,v,hTO⟩,⟨o1,e1,r1⟩,⟨o2,e2,r2⟩⟩:=st;exact⟨k z (by simp) _ hz,k TI (by simp) _ hTI,⟨u,v,k TO (by simp) _ hTO⟩,⟨o1,k i1 (by simp) o1 e1,r1⟩,⟨o2,k i2 (by simp) o2 e2,r2⟩⟩
 item:=by
  intro X hP hw hK hc i J3 s σ H E I hf st hg;subst hP hw hK;obtain⟨hz,hTI,⟨u0,v0,hTO⟩,h1,h2⟩:=st;obtain⟨xs,ys,x,y,hqx,hqy,hx,hy⟩:=hg;obtain⟨its,rx,px,zx⟩:=I.tuple hqx;obtain⟨jts,ry,py,zy⟩:=I.tuple hqy;obtain⟨u,hu,ru⟩:=rx.get hx;obtain⟨v,hv,rv⟩:=ry.get hy;refine vk D hz hTI hTO h1 h2 (xs:=its.toArray) (ys:=jts.toArray) px py (x:=u) (y:=v) (by simpa using hu) (by simpa using hv) fun h' a1 a2 a3 a4 a5 a6 hk=>?_;refine⟨_,rfl,wpAny_letOwnedTupleGo_zip (s:={ s with heap:=h' }) a1 fun h2' hz2 hs2=>?_⟩;have hs2':fG z h' h2':=hs2;have nsz:s.heap.objs.size≠z:=gD (be hz);have nsTO:s.heap.objs.size≠TO:=gD (be hTO);have nsTI:s.heap.objs.size≠TI:=gD (be hTI);have nsi1:s.heap.objs.size≠i1:=by obtain⟨o,ho,_⟩:=h1;exact gD (be ho)
  have nsi2:s.heap.objs.size≠i2:=by obtain⟨o,ho,_⟩:=h2;exact gD (be ho)
  have ht2:IsPair h2' s.heap.objs.size u v:=hs2'.extBut _ _ nsz a5;have I2:Inv X J3 σ (upd H s.heap.objs.size (.tup [x,y])) { s with heap:=h2',toks:=s.toks }:=by
   refine I.turnedNew (ch:=[z,TI,TO,i1,i2]) hf (fun c o hc q=>?_) ⟨_,ht2⟩ (fun _ z=>nomatch z) ⟨by show 2<=ai;decide,[u,v],.cons ru (.cons rv .nil),⟨_,ht2,rfl,_,rfl⟩⟩;have n1:c≠z:=fun q=>hc (by simp[q]);exact hs2'.extBut _ _ n1 (hk c o n1 (fun q=>hc (by simp[q])) (fun q=>hc (by simp[q])) (fun q=>hc (by simp[q])) q)
  have a3':h2'.IsTupleIter i1 a (i+1):=by obtain⟨o,e,r⟩:=a3;exact⟨o,hs2'.extBut _ _ D.i1z e,r⟩
  have a4':h2'.IsTupleIter i2 b (i+1):=by obtain⟨o,e,r⟩:=a4;exact⟨o,hs2'.extBut _ _ D.i2z e,r⟩
  refine⟨.ref s.heap.objs.size,_,I2,rfl,⟨_,x,y,rfl,I.fresh,fun zs hz=>by rw[I.tuple_inj hz hqx];exact hx,fun zs hz=>by rw[I.tuple_inj hz hqy];exact hy,rfl⟩,⟨hz2,hs2'.extBut _ _ D.TIz (hk _ _ D.TIz D.TITO D.TIi1 D.TIi2 hTI),⟨_,_,hs2'.extBut _ _ D.TOz a2⟩,a3',a4'⟩,fun c hc=>?_⟩;have hcn:=(hf c hc).1;simp only[cO,sN,or_false]at hc;have ne:c≠s.heap.objs.size:=by
   rcases hc with rfl|rfl|rfl|rfl|rfl
   ·exact nsz.symm
   ·exact nsTI.symm
   ·exact nsTO.symm
   ·exact nsi1.symm
   ·exact nsi2.symm
  rw[ag ne];exact hcn
 done:=by
  intro X hP hw hK hc i J3 s σ H E I hf st hg;subst hP hw hK;obtain⟨hz,hTI,⟨u0,v0,hTO⟩,h1,h2⟩:=st;obtain⟨xs,ys,hqx,hqy,hend⟩:=hg;obtain⟨its,rx,px,zx⟩:=I.tuple hqx;obtain⟨jts,ry,py,zy⟩:=I.tuple hqy;have lx:=rx.length;have ly:=ry.length;refine xS (I.ok.hd hc) D hz hTI hTO h1 h2 (xs:=its.toArray) (ys:=jts.toArray) px py (by rcases hend with q|q;exact .inl (by simp;omega);exact .inr (by simp;omega)) fun h' hk=>⟨rfl,?_⟩;have tr:∀c q,H c=some q->c∉[z,TI,TO,i1,i2]:=fun c q e m=>by rw[(hf c m).1]at e;cases e
  have kk:∀c o,c∉[z,TI,TO,i1,i2]->s.heap.get? c=some o->h'.get? c=some o:=fun c o hc q=>hk c o (fun q=>hc (by simp[q])) (fun q=>hc (by simp[q])) (fun q=>hc (by simp[q])) (fun q=>hc (by simp[q])) q;refine I.step (g':=s.gens) (d':=s.drawn) (t':=s.toks) (ch:=[z,TI,TO,i1,i2]) (fun c hc=>?_) (fun c o _ _ hc e _=>kk c o hc e) (fun c o _ _ hc e _=>⟨o.slots,kk c o hc e⟩) (fun _ _ _ _ n=>n) (fun c o hc e=>⟨o,kk c o hc e⟩) (fun _ _ e=>e) (fun _ _ _ e=>e) (fun c ps e=>⟨#[],by rw[e];simp⟩) (fun m hm=>?_) (fun c q e=>?_) I.bare
  ·obtain⟨f0,f1,f2,f3,f4,f5⟩:=hf c hc;exact⟨f3,f1,f4,f5⟩
  ·obtain⟨q,es',ep,ho,r⟩:=hm;exact⟨q,es',ep,kk _ q (fun z=>(hf _ z).2.1 rfl) ho,r⟩
  ·refine(I.hok c q e).stay (fun d v hd q'=>kk d v ?_ q') (fun _ q=>q) fun _ _ q=>q;rcases hd with z|z
   ·subst z;exact tr _ _ e
   ·exact tr _ _ z
 self:=fun _ _ _ _ _ st h=>wT st.1 h
section
variable{X:Cx}{p pos:Pos}{es:List Expr}{kx:Nat}{J7:Pos}
def Hy(K:Za)(ta:TA):TI:=fun σ H R=>ta σ H fun vs H1=>∃a b,vs=[.ref a,.ref b]/\(((∃xs,ay K H1 a xs)/\(∃ys,ay K H1 b ys)/\R (IQ K a b) H1)∨((∃xs,bc K H1 a xs)/\(∃ys,bc K H1 b ys)/\R (IP K a b) H1))
theorem GL{a b:Expr}{ta:TA}(hg:Gl X "zip")(hm:X.mg "zip"=none)(ha:PA X [a,b] ta)(hs:aN [a,b] X.env=[(false,eval a X.env),(false,eval b X.env)]:=by rfl)(hs2:aN [b] X.env=[(false,eval b X.env)]:=by rfl):
  PI X (.Tuple es kx J7) (.Call (.Name "zip" p) [a,b] [] pos) (Hy X.K ta):=by
 intro J3 s σ H R I h;refine Call_ (qC I hg hm boot_zip (BQ (cE (ha pos J3 s σ H _ I h) fun us s1 ⟨vs,H1,I1,r1,q1⟩=>?_) (by rw[hs,hs2]) (by rw[hs2];rfl)));obtain⟨l1,l2,e,q⟩:=q1;subst e;obtain⟨u,v,rfl,ru,rv⟩:=vals2 r1;cases ru;cases rv;have fin:∀b∈[s1.heap.objs.size+4,s1.heap.objs.size+2,s1.heap.objs.size+3,s1.heap.objs.size,s1.heap.objs.size+1],oy X J3 H1 b:=fun b hb=>by
  have hb':s1.heap.objs.size<=b:=by
   simp only[cO,sN,or_false]at hb;rcases hb with rfl|rfl|rfl|rfl|rfl<;>omega
  exact I1.fpOk hb' (I1.hok.fresh hb')
 rcases q with⟨⟨xs,hx⟩,⟨ys,hy⟩,q⟩|⟨⟨xs,hx⟩,⟨ys,hy⟩,q⟩
 ·obtain⟨its,rx,px,zx⟩:=I1.list hx;obtain⟨jts,ry,py,zy⟩:=I1.list hy;obtain⟨o1,n1,e1,_⟩:=id px;obtain⟨o2,n2,e2,_⟩:=id py;refine call_zip_2 px.isList py.isList fun h' a1 a2 a3 a4 a5 a6 hk=>?_;refine wT (s:={ s1 with heap:=h' }) a1 ?_;have hk':∀b o,s1.heap.get? b=some o->h'.get? b=some o:=hk;have I2:Inv X J3 σ H1 { s1 with heap:=h' }:=I1.kept (t':=s1.toks) hk';exact⟨_,_,_,_,H1,rfl,I2,Er l1 l2 _ _ _ _ _ (zipApart_new (be e1) (be e2)),⟨a1,a2,⟨_,_,a3⟩,a4,a5⟩,fin,q⟩
 ·obtain⟨its,rx,px,zx⟩:=I1.tuple hx;obtain⟨jts,ry,py,zy⟩:=I1.tuple hy;obtain⟨o1,e1,_⟩:=id px;obtain⟨o2,e2,_⟩:=id py;refine DY (xs:=its.toArray) (ys:=jts.toArray) px py fun h' a1 a2 a3 a4 a5 hk=>?_;refine wT (s:={ s1 with heap:=h' }) a1 ?_;have hk':∀b o,s1.heap.get? b=some o->h'.get? b=some o:=hk;have I2:Inv X J3 σ H1 { s1 with heap:=h' }:=I1.kept (t':=s1.toks) hk';exact⟨_,_,_,_,H1,rfl,I2,C4 l1 l2 _ _ _ _ _ (zipApart_new (be e1) (be e2)),⟨a1,a2,⟨_,_,a3⟩,a4,a5⟩,fin,q⟩
end
inductive DT where
 |k (a:eX)
 |t (l:List DT)
 |s (l:List DT)
mutual
def HE:(x y:DT)->Decidable (x=y)
 |.k a,.k b=>if h:a=b then Decidable.isTrue (by rw[h])else Decidable.isFalse fun e=>h (by injection e)
 |.t l,.t m=>match decDTs l m with
  |Decidable.isTrue h=>Decidable.isTrue (by rw[h])
  |Decidable.isFalse h=>Decidable.isFalse fun e=>h (by injection e)
 |.s l,.s m=>match decDTs l m with
  |Decidable.isTrue h=>Decidable.isTrue (by rw[h])
  |Decidable.isFalse h=>Decidable.isFalse fun e=>h (by injection e)
 |.k _,.t _=>Decidable.isFalse nofun
 |.k _,.s _=>Decidable.isFalse nofun
 |.t _,.k _=>Decidable.isFalse nofun
 |.t _,.s _=>Decidable.isFalse nofun
 |.s _,.k _=>Decidable.isFalse nofun
 |.s _,.t _=>Decidable.isFalse nofun
def decDTs:(x y:List DT)->Decidable (x=y)
 |[],[]=>Decidable.isTrue rfl
 |[],_::_=>Decidable.isFalse nofun
 |_::_,[]=>Decidable.isFalse nofun
 |a::l,b::m=>match HE a b with
  |Decidable.isTrue h=>match decDTs l m with
   |Decidable.isTrue h'=>Decidable.isTrue (by rw[h,h'])
   |Decidable.isFalse h'=>Decidable.isFalse fun e=>h' (by injection e)
  |Decidable.isFalse h=>Decidable.isFalse fun e=>h (by injection e)
end
instance:DecidableEq DT:=HE
mutual
def DT.depth:DT->Nat
 |.k _=>0
 |.t l=>DT.depths l+1
 |.s l=>DT.depths l+1
def DT.depths:List DT->Nat
 |[]=>0
 |a::r=>max (DT.depth a) (DT.depths r)
end
mutual
def sf(h:Heap):DT->Value->Prop
 |.k a,v=>dD a v=true
 |.t l,v=>∃a items,v=.ref a/\h.IsTuple a items/\DAts h l items.toList
 |.s l,v=>∃a items,v=.ref a/\h.IsList a items/\DAts h l items.toList
def DAts(h:Heap):List DT->List Value->Prop
 |[],vs=>vs=[]
 |k::r,vs=>∃v us,vs=v::us/\sf h k v/\DAts h r us
end
theorem DAts.length{h:Heap}:∀{xs:List DT}{vs:Zf},DAts h xs vs->xs.length=vs.length
 |[],vs,e=>by have e':vs=[]:=e;rw[e'];rfl
 |x::xs,vs,e=>by
  obtain⟨v,us,rfl,_,h2⟩:=e;simp[DAts.length h2]
theorem DAts.get{h:Heap}:∀{xs:List DT}{vs:Zf}{i:Nat}{v:Value},DAts h xs vs->vs[i]?=some v->∃x,xs[i]?=some x/\sf h x v
 |[],vs,i,v,e,q=>by have e':vs=[]:=e;subst e';simp at q
 |x::xs,vs,i,v,e,q=>by
  obtain⟨u,us,rfl,h1,h2⟩:=e;cases i with
  |zero =>
   simp at q;subst q;exact⟨x,rfl,h1⟩
  |succ i =>
   obtain⟨y,e1,e2⟩:=DAts.get h2 (i:=i) (v:=v) (by simpa using q);exact⟨y,by simpa using e1,e2⟩
theorem DT.depths_get{l:List DT}{x:DT}{i d:Nat}(h:DT.depths l<=d)(e:l[i]?=some x):x.depth<=d:=by
 induction l generalizing i with
 |nil=>simp at e
 |cons a r ih =>
  have h':max a.depth (DT.depths r)<=d:=h;cases i with
  |zero=>simp at e;subst e;omega
  |succ i=>exact ih (by omega) (by simpa using e)
theorem Bk{h:Heap}{a:Addr}{i j:Array Value}(x:h.IsList a i)(y:h.IsList a j):i=j:=by
 obtain⟨o,ho,_,n,hd⟩:=x;obtain⟨o',ho',_,n',hd'⟩:=y;rw[ho]at ho';cases ho';rw[hd]at hd';injection hd'
theorem zV{h:Heap}{a:Addr}{i j:Array Value}(x:h.IsTuple a i)(y:h.IsTuple a j):i=j:=by
 obtain⟨o,ho,_,n,hd⟩:=x;obtain⟨o',ho',_,n',hd'⟩:=y;rw[ho]at ho';cases ho';rw[hd]at hd';injection hd'
theorem j3{h:Heap}{a:Addr}{i j:Array Value}(x:h.IsList a i)(y:h.IsTuple a j):False:=by
 obtain⟨o,ho,hc,_⟩:=x;obtain⟨o',ho',hc',_⟩:=y;rw[ho]at ho';cases ho';rw[hc]at hc';simp at hc'
theorem v3{a b:eX}{v:Value}(h1:dD a v=true)(h2:dD b v=true):a=b:=by
 rcases aA h1 with⟨i,t,rfl,rfl⟩|⟨i,t,rfl,rfl⟩
 ·rcases aA h2 with⟨j,u,rfl,e⟩|⟨j,u,rfl,e⟩
  ·cases e;rfl
  ·cases e
 ·rcases aA h2 with⟨j,u,rfl,e⟩|⟨j,u,rfl,e⟩
  ·cases e
  ·cases e;rfl
theorem iL{a:eX}{b:Addr}(h:dD a (.ref b)=true):False:=by
 rcases aA h with⟨_,_,_,e⟩|⟨_,_,_,e⟩<;>cases e
theorem sf.inj{h:Heap}:∀(d:Nat) {x y:DT}{v:Value},x.depth<=d->sf h x v->sf h y v->x=y:=by
 have key:∀(d:Nat) (ih:∀{x y:DT}{v:Value},x.depth<=d->sf h x v->sf h y v->x=y) (xs ys:List DT) (vs:Zf),DT.depths xs<=d->DAts h xs vs->DAts h ys vs->xs=ys:=by
  intro d ih xs
  induction xs with
  |nil =>
   intro ys vs _ hx hy;have hx':vs=[]:=hx;subst hx';cases ys with
   |nil=>rfl
   |cons y ys=>obtain⟨_,_,e,_⟩:=hy;cases e
  |cons x xs ihl =>
   intro ys vs hd hx hy;obtain⟨v,us,rfl,hx1,hx2⟩:=hx;cases ys with
   |nil=>have hy':v::us=[]:=hy;cases hy'
   |cons y ys =>
    obtain⟨v',us',e,hy1,hy2⟩:=hy;cases e;have hd':max x.depth (DT.depths xs)<=d:=hd;rw[ih (by omega) hx1 hy1,ihl ys us (by omega) hx2 hy2]
 intro d
 induction d with
 |zero =>
  intro x y v hd hx hy;cases x with
  |t l=>exact absurd hd (by show ¬(DT.depths l+1<=0);omega)
  |s l=>exact absurd hd (by show ¬(DT.depths l+1<=0);omega)
  |k a =>
   cases y with
   |k b=>rw[v3 hx hy]
   |t l=>obtain⟨b,_,rfl,_⟩:=hy;exact(iL hx).elim
   |s l=>obtain⟨b,_,rfl,_⟩:=hy;exact(iL hx).elim
 |succ d ih =>
  intro x y v hd hx hy;cases x with
  |k a =>
   cases y with
   |k b=>rw[v3 hx hy]
   |t l=>obtain⟨b,_,rfl,_⟩:=hy;exact(iL hx).elim
   |s l=>obtain⟨b,_,rfl,_⟩:=hy;exact(iL hx).elim
  |t l =>
   obtain⟨a,i,rfl,hi,hx⟩:=hx;cases y with
   |k b=>exact(iL hy).elim
   |t m =>
    obtain⟨a',j,e,hj,hy⟩:=hy;cases e;rw[zV hj hi]at hy;rw[key d (fun h1=>ih h1) l m i.toList (by have:DT.depths l+1<=d+1:=hd;omega) hx hy]
   |s m =>
    obtain⟨a',j,e,hj,hy⟩:=hy;cases e;exact(j3 hj hi).elim
  |s l =>
   obtain⟨a,i,rfl,hi,hx⟩:=hx;cases y with
   |k b=>exact(iL hy).elim
   |s m =>
    obtain⟨a',j,e,hj,hy⟩:=hy;cases e;rw[Bk hj hi]at hy;rw[key d (fun h1=>ih h1) l m i.toList (by have:DT.depths l+1<=d+1:=hd;omega) hx hy]
   |t m =>
    obtain⟨a',j,e,hj,hy⟩:=hy;cases e;exact(j3 hi hj).elim
theorem gp{l m:List DT}(hl:l.length=m.length):((iO l.length).all fun j=>decide (l[j]?=m[j]?))=decide (l=m):=by
 by_cases e:l=m
 ·subst e;simp
 ·rw[zzr0 e];rw[List.all_eq_false];apply wM;intro h;apply e;apply List.ext_getElem?;intro i;by_cases hi:i<l.length
  ·apply wM;intro hne;exact h ⟨i,List.mem_range.mpr hi,by simpa using hne⟩
  ·rw[fQ (by omega),fQ (by omega)]
section
variable{s:Shared}
theorem HA:∀(d:Nat) {A:Around}{x y:DT}{u v:Value},x.depth<=d->y.depth<=d->A.units+d<cLine->sf s.heap x u->sf s.heap y v->bA A s u v (decide (x=y)):=by
 have leaves:∀{A:Around}{a b:eX}{u v:Value},dD a u=true->dD b v=true->bA A s u v (decide (DT.k a=DT.k b)):=by
  intro A a b u v h1 h2;have hd:decide (DT.k a=DT.k b)=decide (a=b):=by
   by_cases e:a=b
   ·subst e;simp
   ·have:¬(DT.k a=DT.k b):=fun z=>e (by injection z);rw[zzr0 this,zzr0 e]
  rw[hd];rcases aA h1 with⟨i,t,rfl,rfl⟩|⟨i,t,rfl,rfl⟩
  ·rcases aA h2 with⟨j,u,rfl,rfl⟩|⟨j,u,rfl,rfl⟩
   ·rw[xZ];exact bA.int_int i t j u
   ·rw[xY];exact bA.int_str i t j u
  ·rcases aA h2 with⟨j,u,rfl,rfl⟩|⟨j,u,rfl,rfl⟩
   ·rw[xX];exact bA.str_int i t j u
   ·rw[xW];have:=bA.str_str (A:=A) (s:=s) i t j u;rwa[show(i==j)=decide (i=j)from by by_cases e:i=j<;>simp[e]]at this
 have kt:∀{A:Around}{a:eX}{u:Value}{b:Addr}{items:Array Value},A.units<cLine->dD a u=true->s.heap.IsTuple b items->bA A s u (.ref b) false/\bA A s (.ref b) u false:=by
  intro A a u b items hu h1 ht;rcases aA h1 with⟨i,t,rfl,rfl⟩|⟨i,t,rfl,rfl⟩
  ·exact⟨bA.int_tuple i t ht hu,bA.tuple_int i t ht hu⟩
  ·exact⟨bA.str_tuple i t ht hu,bA.tuple_str i t ht hu⟩
 have kl:∀{A:Around}{a:eX}{u:Value}{b:Addr}{items:Array Value},A.units<cLine->dD a u=true->s.heap.IsList b items->bA A s u (.ref b) false/\bA A s (.ref b) u false:=by
  intro A a u b items hu h1 ht;rcases aA h1 with⟨i,t,rfl,rfl⟩|⟨i,t,rfl,rfl⟩
  ·exact⟨bA.int_list i t ht hu,bA.list_int i t ht hu⟩
  ·exact⟨bA.str_list i t ht hu,bA.list_str i t ht hu⟩
 intro d
 induction d with
 |zero =>
  intro A x y u v hdx hdy hu hx hy;cases x with
  |t l=>exact absurd hdx (by show ¬(DT.depths l+1<=0);omega)
  |s l=>exact absurd hdx (by show ¬(DT.depths l+1<=0);omega)
  |k a =>
   cases y with
   |t l=>exact absurd hdy (by show ¬(DT.depths l+1<=0);omega)
   |s l=>exact absurd hdy (by show ¬(DT.depths l+1<=0);omega)
   |k b=>exact leaves hx hy
 |succ d ih =>
  intro A x y u v hdx hdy hu hx hy;have items:∀{l m:List DT}{i j:Array Value},DT.depths l<=d->DT.depths m<=d->DAts s.heap l i.toList->DAts s.heap m j.toList->∀n (h1:n<i.size) (h2:n<j.size),bA A.in1 s i[n] j[n] (decide (l[n]?=m[n]?)):=by
   intro l m i j hl hm hi hj n h1 h2;obtain⟨x,ex,hx⟩:=hi.get (i:=n) (v:=i[n]) (by simp[h1]);obtain⟨y,ey,hy⟩:=hj.get (i:=n) (v:=j[n]) (by simp[h2]);rw[ex,ey];have hd:decide ((some x:Option DT)=some y)=decide (x=y):=by
    by_cases e:x=y
    ·subst e;simp
    ·rw[zzr0 e,zzr0 fun z=>e (e_ z)]
   rw[hd];exact ih (DT.depths_get hl ex) (DT.depths_get hm ey) (by show A.units+1+d<cLine;omega) hx hy
  cases x with
  |k a =>
   cases y with
   |k b=>exact leaves hx hy
   |t l =>
    obtain⟨b,i,rfl,hi,_⟩:=hy;rw[zzr0 (by intro z;cases z)];exact(kt (by omega) hx hi).1
   |s l =>
    obtain⟨b,i,rfl,hi,_⟩:=hy;rw[zzr0 (by intro z;cases z)];exact(kl (by omega) hx hi).1
  |t l =>
   have hl:DT.depths l<=d:=by have:DT.depths l+1<=d+1:=hdx;omega
   have hx0:=hx;obtain⟨a,i,rfl,hi,hx⟩:=hx;cases y with
   |k b =>
    rw[zzr0 (by intro z;cases z)];exact(kt (by omega) hy hi).2
   |s m =>
    obtain⟨b,j,rfl,hj,_⟩:=hy;rw[zzr0 (by intro z;cases z)];exact bA.tuple_list hi hj (by omega)
   |t m =>
    have hm:DT.depths m<=d:=by have:DT.depths m+1<=d+1:=hdy;omega
    have hy0:=hy;obtain⟨b,j,rfl,hj,hy⟩:=hy;by_cases hab:a=b
    ·subst hab;have e:DT.t l=DT.t m:=sf.inj _ (aB _) hx0 hy0;rw[zzr1 e];exact bA.same _
    ·have r:=SeqAt.RcAt.tuples (A:=A) hi hj (by omega) (items hl hm hx hy);have li:=hx.length;have lj:=hy.length;simp only[ng]at li lj;have q:((iO (min i.size j.size)).all (fun n=>decide (l[n]?=m[n]?)) && i.size==j.size)=decide (DT.t l=DT.t m):=by
      by_cases e:l.length=m.length
      ·have e1:i.size=j.size:=by omega
       rw[<-e1,Nat.min_self,<-li,gp e];by_cases e2:l=m
       ·subst e2;simp
       ·have:¬(DT.t l=DT.t m):=fun z=>e2 (by injection z);rw[zzr0 this,zzr0 e2];rfl
      ·have e1:(i.size==j.size)=false:=by simp;omega
       have:¬(DT.t l=DT.t m):=fun z=>e (by injection z with z;rw[z]);rw[e1,zzr0 this,wZ]
     rw[q]at r;exact .of_refs hab r
  |s l =>
   have hl:DT.depths l<=d:=by have:DT.depths l+1<=d+1:=hdx;omega
   have hx0:=hx;obtain⟨a,i,rfl,hi,hx⟩:=hx;cases y with
   |k b =>
    rw[zzr0 (by intro z;cases z)];exact(kl (by omega) hy hi).2
   |t m =>
    obtain⟨b,j,rfl,hj,_⟩:=hy;rw[zzr0 (by intro z;cases z)];exact bA.list_tuple hi hj (by omega)
   |s m =>
    have hm:DT.depths m<=d:=by have:DT.depths m+1<=d+1:=hdy;omega
    have hy0:=hy;obtain⟨b,j,rfl,hj,hy⟩:=hy;by_cases hab:a=b
    ·subst hab;have e:DT.s l=DT.s m:=sf.inj _ (aB _) hx0 hy0;rw[zzr1 e];exact bA.same _
    ·have li:=hx.length;have lj:=hy.length;simp only[ng]at li lj;by_cases e:l.length=m.length
     ·have r:=SeqAt.RcAt.lists (A:=A) hi hj (by omega) (by omega) (items hl hm hx hy);rw[<-li,gp e]at r;have q:decide (l=m)=decide (DT.s l=DT.s m):=by
       by_cases e2:l=m
       ·subst e2;simp
       ·have:¬(DT.s l=DT.s m):=fun z=>e2 (by injection z);rw[zzr0 this,zzr0 e2]
      rw[q]at r;exact .of_refs hab r
     ·have:¬(DT.s l=DT.s m):=fun z=>e (by injection z with z;rw[z]);rw[zzr0 this];exact .of_refs hab (SeqAt.RcAt.lists_lengths hi hj (by simp;omega) (by omega))
end
theorem CM(a b:eX):decide (DT.k a=DT.k b)=decide (a=b):=by
 by_cases e:a=b
 ·subst e;simp
 ·rw[zzr0 e,zzr0 fun z=>e (by injection z)]
theorem HB(l m:List DT):decide (DT.t l=DT.t m)=decide (l=m):=by
 by_cases e:l=m
 ·subst e;simp
 ·rw[zzr0 e,zzr0 fun z=>e (by injection z)]
theorem HC(l m:List DT):decide (DT.s l=DT.s m)=decide (l=m):=by
 by_cases e:l=m
 ·subst e;simp
 ·rw[zzr0 e,zzr0 fun z=>e (by injection z)]
theorem FH(x y:DT):decide ((some x:Option DT)=some y)=decide (x=y):=by
 by_cases e:x=y
 ·subst e;simp
 ·rw[zzr0 e,zzr0 fun z=>e (e_ z)]
section
variable{A:Around}{s:Shared}
theorem pE{d:Nat}(hu:A.units+1+d<cLine){l m:List DT}{i j:Array Value}(hl:DT.depths l<=d)(hm:DT.depths m<=d)(hi:DAts s.heap l i.toList)(hj:DAts s.heap m j.toList):
  ∀n (h1:n<i.size) (h2:n<j.size),bA A.in1 s i[n] j[n] (decide (l[n]?=m[n]?)):=by
 intro n h1 h2;obtain⟨x,ex,hx⟩:=hi.get (i:=n) (v:=i[n]) (by simp[h1]);obtain⟨y,ey,hy⟩:=hj.get (i:=n) (v:=j[n]) (by simp[h2]);rw[ex,ey,FH];exact HA d (DT.depths_get hl ex) (DT.depths_get hm ey) hu hx hy
theorem BX{l m:List DT}{i j:Array Value}(hi:DAts s.heap l i.toList)(hj:DAts s.heap m j.toList):((iO (min i.size j.size)).all (fun n=>decide (l[n]?=m[n]?)) && i.size==j.size)=decide (l=m):=by
 have li:=hi.length;have lj:=hj.length;simp only[ng]at li lj;by_cases e:l.length=m.length
 ·have e1:i.size=j.size:=by omega
  rw[<-e1,Nat.min_self,<-li,gp e];simp
 ·have e1:(i.size==j.size)=false:=by simp;omega
  rw[e1,zzr0 fun z=>e (by rw[z]),wZ]
theorem IJ{x y:DT}{u v:Value}(dx:x.depth<=8)(dy:y.depth<=8)(hu:A.units+16<cLine)(hx:sf s.heap x u)(hy:sf s.heap y v):SeqAt.RcAt A s u v (decide (x=y)):=by
 cases x with
 |k a =>
  rcases aA (show dD a u=true from hx)with⟨i,t,rfl,rfl⟩|⟨i,t,rfl,rfl⟩
  ·cases y with
   |k b =>
    rw[CM];rcases aA (show dD b v=true from hy)with⟨j,t',rfl,rfl⟩|⟨j,t',rfl,rfl⟩
    ·rw[xZ];exact SeqAt.RcAt.int_int i t j t'
    ·rw[xY];exact SeqAt.RcAt.int_str i t j t'
   |t m=>obtain⟨b,j,rfl,hj,_⟩:=hy;rw[zzr0 (by intro z;cases z)];exact SeqAt.RcAt.int_tuple i t hj (by omega)
   |s m=>obtain⟨b,j,rfl,hj,_⟩:=hy;rw[zzr0 (by intro z;cases z)];exact SeqAt.RcAt.int_list i t hj (by omega)
  ·cases y with
   |k b =>
    rw[CM];rcases aA (show dD b v=true from hy)with⟨j,t',rfl,rfl⟩|⟨j,t',rfl,rfl⟩
    ·rw[xX];exact SeqAt.RcAt.str_int i t j t'
    ·rw[xW];have:=SeqAt.RcAt.str_str (A:=A) (s:=s) i t j t';rwa[show(i==j)=decide (i=j)from by by_cases e:i=j<;>simp[e]]at this
   |t m=>obtain⟨b,j,rfl,hj,_⟩:=hy;rw[zzr0 (by intro z;cases z)];exact SeqAt.RcAt.str_tuple i t hj (by omega)
   |s m=>obtain⟨b,j,rfl,hj,_⟩:=hy;rw[zzr0 (by intro z;cases z)];exact SeqAt.RcAt.str_list i t hj (by omega)
 |t l =>
  obtain⟨a,i,rfl,hi,hx⟩:=hx;have dl:DT.depths l<=7:=by have:DT.depths l+1<=8:=dx;omega
  cases y with
  |k b =>
   rw[zzr0 (by intro z;cases z)];rcases aA (show dD b v=true from hy)with⟨j,t',rfl,rfl⟩|⟨j,t',rfl,rfl⟩
   ·exact SeqAt.RcAt.tuple_int j t' hi (by omega)
   ·exact SeqAt.RcAt.tuple_str j t' hi (by omega)
  |t m =>
   obtain⟨b,j,rfl,hj,hy⟩:=hy;have dm:DT.depths m<=7:=by have:DT.depths m+1<=8:=dy;omega
   have r:=SeqAt.RcAt.tuples (A:=A) hi hj (by omega) (pE (by omega) dl dm hx hy);rw[BX hx hy]at r;rw[HB];exact r
  |s m=>obtain⟨b,j,rfl,hj,_⟩:=hy;rw[zzr0 (by intro z;cases z)];exact SeqAt.RcAt.tuple_list hi hj (by omega)
 |s l =>
  obtain⟨a,i,rfl,hi,hx⟩:=hx;have dl:DT.depths l<=7:=by have:DT.depths l+1<=8:=dx;omega
  cases y with
  |k b =>
   rw[zzr0 (by intro z;cases z)];rcases aA (show dD b v=true from hy)with⟨j,t',rfl,rfl⟩|⟨j,t',rfl,rfl⟩
   ·exact SeqAt.RcAt.list_int j t' hi (by omega)
   ·exact SeqAt.RcAt.list_str j t' hi (by omega)
  |t m=>obtain⟨b,j,rfl,hj,_⟩:=hy;rw[zzr0 (by intro z;cases z)];exact SeqAt.RcAt.list_tuple hi hj (by omega)
  |s m =>
   obtain⟨b,j,rfl,hj,hy⟩:=hy;have dm:DT.depths m<=7:=by have:DT.depths m+1<=8:=dy;omega
   have li:=hx.length;have lj:=hy.length;simp only[ng]at li lj;rw[HC];by_cases e:l.length=m.length
   ·have r:=SeqAt.RcAt.lists (A:=A) hi hj (by omega) (by omega) (pE (by omega) dl dm hx hy);rw[<-li,gp e]at r;exact r
   ·rw[zzr0 fun z=>e (by rw[z])];exact SeqAt.RcAt.lists_lengths hi hj (by simp;omega) (by omega)
theorem IK{x y:DT}{u v:Value}(dx:x.depth<=8)(dy:y.depth<=8)(hu:A.units+16<cLine)(hx:sf s.heap x u)(hy:sf s.heap y v):SeqAt.RcNeAt A s u v (!decide (x=y)):=by
 cases x with
 |k a =>
  rcases aA (show dD a u=true from hx)with⟨i,t,rfl,rfl⟩|⟨i,t,rfl,rfl⟩
  ·cases y with
   |k b =>
    rw[CM];rcases aA (show dD b v=true from hy)with⟨j,t',rfl,rfl⟩|⟨j,t',rfl,rfl⟩
    ·rw[xZ];exact SeqAt.RcNeAt.int_int i t j t'
    ·rw[xY];exact SeqAt.RcNeAt.int_str i t j t'
   |t m=>obtain⟨b,j,rfl,hj,_⟩:=hy;rw[zzr0 (by intro z;cases z)];exact SeqAt.RcNeAt.int_tuple i t hj (by omega)
   |s m=>obtain⟨b,j,rfl,hj,_⟩:=hy;rw[zzr0 (by intro z;cases z)];exact SeqAt.RcNeAt.int_list i t hj (by omega)
  ·cases y with
   |k b =>
    rw[CM];rcases aA (show dD b v=true from hy)with⟨j,t',rfl,rfl⟩|⟨j,t',rfl,rfl⟩
    ·rw[xX];exact SeqAt.RcNeAt.str_int i t j t'
    ·rw[xW];have:=SeqAt.RcNeAt.str_str (A:=A) (s:=s) i t j t';rwa[show(i==j)=decide (i=j)from by by_cases e:i=j<;>simp[e]]at this
   |t m=>obtain⟨b,j,rfl,hj,_⟩:=hy;rw[zzr0 (by intro z;cases z)];exact SeqAt.RcNeAt.str_tuple i t hj (by omega)
   |s m=>obtain⟨b,j,rfl,hj,_⟩:=hy;rw[zzr0 (by intro z;cases z)];exact SeqAt.RcNeAt.str_list i t hj (by omega)
 |t l =>
  obtain⟨a,i,rfl,hi,hx⟩:=hx;have dl:DT.depths l<=7:=by have:DT.depths l+1<=8:=dx;omega
  cases y with
  |k b =>
   rw[zzr0 (by intro z;cases z)];rcases aA (show dD b v=true from hy)with⟨j,t',rfl,rfl⟩|⟨j,t',rfl,rfl⟩
   ·exact SeqAt.RcNeAt.tuple_int j t' hi (by omega)
   ·exact SeqAt.RcNeAt.tuple_str j t' hi (by omega)
  |t m =>
   obtain⟨b,j,rfl,hj,hy⟩:=hy;have dm:DT.depths m<=7:=by have:DT.depths m+1<=8:=dy;omega
   have r:=SeqAt.RcNeAt.tuples (A:=A) hi hj (by omega) (pE (by omega) dl dm hx hy);rw[BX hx hy]at r;rw[HB];exact r
  |s m=>obtain⟨b,j,rfl,hj,_⟩:=hy;rw[zzr0 (by intro z;cases z)];exact SeqAt.RcNeAt.tuple_list hi hj (by omega)
 |s l =>
  obtain⟨a,i,rfl,hi,hx⟩:=hx;have dl:DT.depths l<=7:=by have:DT.depths l+1<=8:=dx;omega
  cases y with
  |k b =>
   rw[zzr0 (by intro z;cases z)];rcases aA (show dD b v=true from hy)with⟨j,t',rfl,rfl⟩|⟨j,t',rfl,rfl⟩
   ·exact SeqAt.RcNeAt.list_int j t' hi (by omega)
   ·exact SeqAt.RcNeAt.list_str j t' hi (by omega)
  |t m=>obtain⟨b,j,rfl,hj,_⟩:=hy;rw[zzr0 (by intro z;cases z)];exact SeqAt.RcNeAt.list_tuple hi hj (by omega)
  |s m =>
   obtain⟨b,j,rfl,hj,hy⟩:=hy;have dm:DT.depths m<=7:=by have:DT.depths m+1<=8:=dy;omega
   have li:=hx.length;have lj:=hy.length;simp only[ng]at li lj;rw[HC];by_cases e:l.length=m.length
   ·have r:=SeqAt.RcNeAt.lists (A:=A) hi hj (by omega) (by omega) (pE (by omega) dl dm hx hy);rw[<-li,gp e]at r;exact r
   ·rw[zzr0 fun z=>e (by rw[z])];exact SeqAt.RcNeAt.lists_lengths hi hj (by simp;omega) (by omega)
end
mutual
def oz(K:Za)(H:Hp):DT->V->Prop
 |.k a,v=>v=kV a
 |.t l,v=>∃b xs,v=.ref b/\bc K H b xs/\DIns K H l xs
 |.s l,v=>∃b xs,v=.ref b/\ay K H b xs/\DIns K H l xs
def DIns(K:Za)(H:Hp):List DT->List V->Prop
 |[],vs=>vs=[]
 |k::r,vs=>∃v us,vs=v::us/\oz K H k v/\DIns K H r us
end
section
variable{X:Cx}{J3:Zd}{σ:St}{H:Hp}{s:Shared}
theorem n6(I:Inv X J3 σ H s):∀(d:Nat) {k:DT}{v:V}{u:Value},k.depth<=d->oz X.K H k v->RelV v u->sf s.heap k u:=by
 have key:∀(d:Nat) (ih:∀{k:DT}{v:V}{u:Value},k.depth<=d->oz X.K H k v->RelV v u->sf s.heap k u) (ks:List DT) (vs:List V) (us:Zf),DT.depths ks<=d->DIns X.K H ks vs->bg vs us->DAts s.heap ks us:=by
  intro d ih ks
  induction ks with
  |nil =>
   intro vs us _ hx r;have e:vs=[]:=hx;subst e;cases r
   rfl
  |cons k ks ihl =>
   intro vs us hd hx r;obtain⟨v,vs',rfl,h1,h2⟩:=hx;cases r with
   |@cons _ u _ us' r1 r2 =>
    have hd':max k.depth (DT.depths ks)<=d:=hd;exact⟨u,us',rfl,ih (by omega) h1 r1,ihl vs' us' (by omega) h2 r2⟩
 intro d
 induction d with
 |zero =>
  intro k v u hd hx r;cases k with
  |t l=>exact absurd hd (by show ¬(DT.depths l+1<=0);omega)
  |s l=>exact absurd hd (by show ¬(DT.depths l+1<=0);omega)
  |k b =>
   have e:v=kV b:=hx;subst e;exact pB (P:=X.prog) (w:=X.w) r
 |succ d ih =>
  intro k v u hd hx r;cases k with
  |k b =>
   have e:v=kV b:=hx;subst e;exact pB (P:=X.prog) (w:=X.w) r
  |t l =>
   obtain⟨b,xs,rfl,hb,hi⟩:=hx;cases(show u=Value.ref b from r);obtain⟨its,rv,ht,_⟩:=I.tuple hb;exact⟨b,its.toArray,rfl,ht,by simpa using key d (fun h1=>ih h1) l xs its (by have:DT.depths l+1<=d+1:=hd;omega) hi rv⟩
  |s l =>
   obtain⟨b,xs,rfl,hb,hi⟩:=hx;cases(show u=Value.ref b from r);obtain⟨its,rv,ht,_⟩:=I.list hb;exact⟨b,its.toArray,rfl,ht.isList,by simpa using key d (fun h1=>ih h1) l xs its (by have:DT.depths l+1<=d+1:=hd;omega) hi rv⟩
theorem pI(I:Inv X J3 σ H s):∀{ks:List DT}{vs:List V}{us:Zf},DT.depths ks<=8->DIns X.K H ks vs->bg vs us->DAts s.heap ks us
 |[],vs,us,_,hx,r=>by
  have e:vs=[]:=hx;subst e;cases r
  rfl
 |k::ks,vs,us,hd,hx,r=>by
  obtain⟨v,vs',rfl,h1,h2⟩:=hx;cases r with
  |@cons _ u _ us' r1 r2 =>
   have hd':max k.depth (DT.depths ks)<=8:=hd;exact⟨u,us',rfl,n6 I 8 (by omega) h1 r1,pI I (by omega) h2 r2⟩
end
def lP(K:Za):R2:=fun x y H Q=>∃d e:DT,oz K H d x/\oz K H e y/\d.depth<=8/\e.depth<=8/\Q (.bl (decide (d=e))) H
def rP(K:Za):R2:=fun x y H Q=>∃d e:DT,oz K H d x/\oz K H e y/\d.depth<=8/\e.depth<=8/\Q (.bl (!decide (d=e))) H
section
variable{X:Cx}
theorem gf(hu:X.A.units+16<cLine):oH X (eZ .Eq) (lP X.K):=by
 intro J3 s σ H x y v u Q I rx ry h;obtain⟨d,e,hx,hy,dx,dy,q⟩:=h;exact IJ dx dy hu (n6 I 8 dx hx rx) (n6 I 8 dy hy ry) X.prog X.w X.xe _ ⟨.bl _,H,I,rfl,q⟩
theorem lS(hu:X.A.units+16<cLine):oH X (eZ .NotEq) (rP X.K):=by
 intro J3 s σ H x y v u Q I rx ry h;obtain⟨d,e,hx,hy,dx,dy,q⟩:=h;exact IK dx dy hu (n6 I 8 dx hx rx) (n6 I 8 dy hy ry) X.prog X.w X.xe _ ⟨.bl _,H,I,rfl,q⟩
def qy(K:Za)(neg:Bool):R2:=fun x y H Q=>∃(d:DT) (ds:List DT) (p:Addr) (xs:List V),oz K H d x/\y=.ref p/\(ay K H p xs∨bc K H p xs)/\DIns K H ds xs/\d.depth<=8/\DT.depths ds<=8/\Q (.bl (if neg then !decide (d∈ds)else decide (d∈ds))) H
open Classical in
theorem pM{h:Heap}{d:DT}(d8:d.depth<=8):∀{ds:List DT}{us:Zf},DAts h ds us->DT.depths ds<=8->us.any (fun u=>@decide (sf h d u) (propDecidable _))=decide (d∈ds)
 |[],us,e,_=>by
  have e':us=[]:=e;subst e'
  rfl
 |x::ds,us,e,hd=>by
  obtain⟨u,us',rfl,h1,h2⟩:=e;have hd':max x.depth (DT.depths ds)<=8:=hd;rw[nE,pM d8 h2 (by omega)];by_cases q:d=x
  ·subst q;simp[h1]
  ·have n:¬sf h d u:=fun z=>q (sf.inj 8 d8 z h1);simp[n,q]
open Classical in
theorem ub{A:Around}{s:Shared}{d:DT}{v:Value}(d8:d.depth<=8)(hu:A.units+8<cLine)(hd:sf s.heap d v):∀{ds:List DT}{us:Zf},DAts s.heap ds us->DT.depths ds<=8->∀u∈us,bA A s u v (@decide (sf s.heap d u) (propDecidable _))
 |[],us,e,_,u,hm=>by
  have e':us=[]:=e;subst e';cases hm
 |x::ds,us,e,h8,u,hm=>by
  obtain⟨u',us',rfl,h1,h2⟩:=e;have h8':max x.depth (DT.depths ds)<=8:=h8;rcases cO.mp hm with rfl|hm
  ·have q:=HA 8 (A:=A) (by omega) d8 hu h1 hd;by_cases z:x=d
   ·subst z;rw[zzr1 h1];rwa[zzr1 rfl]at q
   ·have n:¬sf s.heap d u:=fun w=>z (sf.inj 8 d8 w h1).symm;rw[zzr0 n];rwa[zzr0 z]at q
  ·exact ub d8 hu hd h2 (by omega) u hm
theorem xP(hu:X.A.units+16<cLine):oH X (eZ .In) (qy X.K false):=by
 intro J3 s σ H x y v u Q I rx ry h;obtain⟨d,ds,p,xs,hx,rfl,hq,hds,d8,ds8,q⟩:=h;cases ry;have hd:=n6 I 8 d8 hx rx;have hu':X.A.in1.units+8<cLine:=by show X.A.units+1+8<cLine;omega
 rcases hq with hq|hq
 ·obtain⟨its,r,pl,hz⟩:=I.list hq;have hi:=pI I ds8 hds r;refine SeqAt.in_listAt _ pl.isList (fun w hw=>ub d8 hu' hd hi ds8 w (by simpa using hw)) ⟨.bl _,H,I,rfl,?_⟩;rw[wL,pM d8 hi ds8];exact q
 ·obtain⟨its,r,pl,hz⟩:=I.tuple hq;have hi:=pI I ds8 hds r;refine SeqAt.in_tupleAt _ pl (fun w hw=>ub d8 hu' hd hi ds8 w (by simpa using hw)) ⟨.bl _,H,I,rfl,?_⟩;rw[wL,pM d8 hi ds8];exact q
theorem jX(hu:X.A.units+16<cLine):oH X (eZ .NotIn) (qy X.K true):=by
 intro J3 s σ H x y v u Q I rx ry h;obtain⟨d,ds,p,xs,hx,rfl,hq,hds,d8,ds8,q⟩:=h;cases ry;have hd:=n6 I 8 d8 hx rx;have hu':X.A.in1.units+8<cLine:=by show X.A.units+1+8<cLine;omega
 rcases hq with hq|hq
 ·obtain⟨its,r,pl,hz⟩:=I.list hq;have hi:=pI I ds8 hds r;refine SeqAt.notIn_listAt _ pl.isList (fun w hw=>ub d8 hu' hd hi ds8 w (by simpa using hw)) ⟨.bl _,H,I,rfl,?_⟩;rw[wL,pM d8 hi ds8];exact q
 ·obtain⟨its,r,pl,hz⟩:=I.tuple hq;have hi:=pI I ds8 hds r;refine SeqAt.notIn_tupleAt _ pl (fun w hw=>ub d8 hu' hd hi ds8 w (by simpa using hw)) ⟨.bl _,H,I,rfl,?_⟩;rw[wL,pM d8 hi ds8];exact q
end
def ut(z:Str)(lo hi:Option Int):Str:=⟨((z.cps.toList.drop (HT.sIx z.length 0 lo)).take (HT.sIx z.length z.length hi-HT.sIx z.length 0 lo)).toArray⟩
theorem sliceRange_one(a b:Nat):sL (a:Int) (b:Int) 1=(iO (b-a)).map (fun k=>a+k):=by
 unfold sL;simp only[show(1:Int) > 0 from by decide,if_true];by_cases h:(a:Int)<(b:Int)
 ·have e:(if(a:Int)<(b:Int)then((b:Int)-a+1-1) / 1 else 0).toNat=b-a:=by rw[if_pos h];omega
  rw[e];exact wK fun k _=>by omega
 ·have e:(if(a:Int)<(b:Int)then((b:Int)-a+1-1) / 1 else 0).toNat=b-a:=by rw[if_neg h];omega
  rw[e];exact wK fun k _=>by omega
theorem z_(v:Option Int)(n d:Nat):(match v with|none=>(d:Int)|some i=>max 0 (min (if i<0 then i+(n:Int)else i) (n:Int)))=((HT.sIx n d v:Nat):Int):=by
 cases v with
 |none=>rfl
 |some i =>
  rw[<-HT.clip_eq i n d];dsimp only;by_cases h:i<0
  ·rw[if_pos h,if_pos h];omega
  ·rw[if_neg h,if_neg h];omega
theorem o7(lo hi:Option Int)(n:Nat):sK lo hi 1 n=(iO (HT.sIx n n hi-HT.sIx n 0 lo)).map (fun k=>HT.sIx n 0 lo+k):=by
 have e1:=z_ lo n 0;have e2:=z_ hi n n;rw[<-sliceRange_one,<-e1,<-e2];unfold sK;simp only[show(1:Int) > 0 from by decide,if_true];cases lo<;>cases hi<;>rfl
theorem Df(z:Str)(lo hi:Option Int):Txt.slice z lo hi=ut z lo hi:=by
 have ha:HT.sIx z.length 0 lo<=z.length:=HT.sIx_le _ _ (db _) _;have hb:HT.sIx z.length z.length hi<=z.length:=HT.sIx_le _ _ (aB _) _;have hlen:z.cps.toList.length=z.length:=by simp[Str.length]
 have pick:(sK lo hi 1 z.length).filterMap (z.cps[·]?)=(z.cps.toList.drop (HT.sIx z.length 0 lo)).take (HT.sIx z.length z.length hi-HT.sIx z.length 0 lo):=by
  rw[o7];generalize HT.sIx z.length 0 lo=a at *;generalize HT.sIx z.length z.length hi=b at *;have h:=StrLaws.picks z.cps.toList (b-a) a (by omega);simpa using h
 unfold Txt.slice;by_cases h:((1:Int)==1 && (sK lo hi 1 z.length).length==z.length)=true
 ·rw[if_pos h];have hl:(sK lo hi 1 z.length).length=z.length:=by simpa using h
  rw[o7,aj,sJ]at hl;unfold ut;have a0:HT.sIx z.length 0 lo=0:=by omega
  have bn:HT.sIx z.length z.length hi-HT.sIx z.length 0 lo=z.cps.toList.length:=by omega
  rw[bn,a0,sI,aT]
 ·rw[if_neg h];unfold ut;rw[pick]
section
variable{X:Cx}
def GH:V->Option Int->Option Int->Hp->VK->Prop:=fun x lo hi H Q=>∃z,x=.str z/\z.length<=ai/\Q (.str (ut z lo hi)) H
theorem AJ:SlR X GH:=by
 intro J3 s σ H x v vl vu lo hi sl Q I rx hs pl pu h;obtain⟨z,rfl,hz,q⟩:=h;obtain⟨t,rfl⟩:=rx;rw[<-Df]at q;refine⟨"str",_,F.slot_str_getitem.lookup,typeIs_str _ _ _,?_⟩;obtain⟨o,ho,hc,hd⟩:=hs;have fin:∀(l u:Option (Int×Tok)),vl=partValue l->vu=partValue u->lo=l.map (·.1)->hi=u.map (·.1)->wpAny (model X.prog X.w) X.A (nH (.str z t) (.ref sl)) (EP X J3 σ Q) X.xe s:=by
  rintro l u rfl rfl rfl rfl;refine wpAny_getItem_str_slice (l:=l) (u:=u) (st:=none) ⟨o,ho,hc,hd⟩ rfl (post_val_or_str ⟨bG (Txt.slice_le z _ _) hz,fun t' k=>⟨.str _,H,I.tok _,⟨_,rfl⟩,q⟩⟩)
 cases pl with
 |none =>
  cases pu with
  |none=>exact fin none none rfl rfl rfl rfl
  |int j u=>exact fin none (some (j,u)) rfl rfl rfl rfl
 |int i t' =>
  cases pu with
  |none=>exact fin (some (i,t')) none rfl rfl rfl rfl
  |int j u=>exact fin (some (i,t')) (some (j,u)) rfl rfl rfl rfl
def Ht(K:Za):V->List V->Hp->VK->Prop:=fun x vs H Q=>∃z p ys,x=.str z/\vs=[.ref p]/\ay K H p (ys.map V.str)/\(ys.map (·.length)).sum+ys.length * z.length<=16777216/\Q (.str (wJ z ys)) H
theorem Gn{ys:Zb}:∀{us:Zf},bg (ys.map V.str) us->StrsAre us ys:=by
 induction ys with
 |nil=>intro us r;cases r;exact .nil
 |cons y ys ih =>
  intro us r;cases r with
  |cons r1 r2 =>
   obtain⟨t,rfl⟩:=r1;exact .cons _ _ (ih r2)
theorem GY:HG X "str.join" (Ht X.K):=by
 intro J3 s σ H x vs v us Q I rx rv h;obtain⟨z,p,ys,rfl,rfl,hq,hz,q⟩:=h;obtain⟨t,rfl⟩:=rx;obtain⟨u,rfl,ru⟩:=rv.one;cases ru;obtain⟨its,r,pl,_⟩:=I.list hq;exact join_list pl.isList (by simpa using Gn r) hz fun t' k=>⟨.str _,H,I.tok _,⟨_,rfl⟩,q⟩
end
section
variable{X:Cx}
def TyX(K:Za)(H:Hp)(x:V)(t:Value):Prop:=kC K H x t∨(∃a xs,x=.ref a/\t=.type "tuple"/\bc K H a xs)∨(∃a xs,x=.ref a/\t=.type "list"/\ay K H a xs)
theorem Bj{J3:Zd}{σ:St}{H:Hp}{s:Shared}{A:Around}{E:Zc}{Q:Zc}{c:Value}{b:Bool}{x:V}{u t:Value}(I:Inv X J3 σ H s)(rx:RelV x u)(ty:TyX X.K H x t)(e:BN X.K t c=some b)(h:∀tk,Q (.bool b) { s with toks:=tk }):
  wpAny (model X.prog X.w) A (call (.builtin "isinstance") [u,c]) Q E s:=by
 rcases ty with ty|⟨a,xs,rfl,rfl,q⟩|⟨a,xs,rfl,rfl,q⟩
 ·exact DF I rx ty e h
 ·cases(show u=Value.ref a from rx);obtain⟨its,rv,p,hz⟩:=I.tuple q;obtain⟨o,h1,h2,_⟩:=p;exact jK PySem.W.kitx_tuple I.kIn ⟨o,h1,h2⟩ e (fun z=>nomatch z) h
 ·cases(show u=Value.ref a from rx);obtain⟨its,rv,p,hz⟩:=I.list q;obtain⟨o,n,h1,h2,_⟩:=p;exact jK PySem.W.kitx_list I.kIn ⟨o,h1,h2⟩ e (fun z=>nomatch z) h
theorem ma:gv X (.builtin "isinstance") (fun xs H Q=>∃x c t b,xs=[x,.ty c]/\TyX X.K H x t/\BN X.K t (.type c)=some b/\Q (.bl b) H):=by
 intro J3 s σ H xs us Q I r h;obtain⟨x,c,t,b,rfl,ty,hk,q⟩:=h;obtain⟨u,v,rfl,ru,rv⟩:=vals2 r;cases(show v=Value.type c from rv);exact Bj I ru ty hk fun tk=>⟨.bl b,H,I.tok _,rfl,q⟩
theorem FO{bs:List Bool}{us:Zf}(r:bg (bs.map V.bl) us){i:Nat}{v:Value}(h:us[i]?=some v):v=.bool ((bs[i]?).getD false)/\i<bs.length:=by
 have hi:i<us.length:=(cG.mp h).1;have hl:=r.length;rw[aj]at hl;have hb:i<bs.length:=by omega
 obtain⟨u,hu,ru⟩:=r.get (i:=i) (x:=V.bl bs[i]) (by simp[hb]);rw[h]at hu;cases hu;refine⟨?_,hb⟩;rw[bY hb];exact ru
theorem yq(bs:List Bool):((iO bs.length).all fun i=>(bs[i]?).getD false)=bs.all id:=by
 induction bs with
 |nil=>rfl
 |cons b bs ih =>
  rw[d4,List.range_succ_eq_map,List.all_cons,wI,List.all_cons,<-ih]
  rfl
theorem yo(bs:List Bool):((iO bs.length).any fun i=>(bs[i]?).getD false)=bs.any id:=by
 induction bs with
 |nil=>rfl
 |cons b bs ih =>
  rw[d4,List.range_succ_eq_map,nE,List.any_map,nE,<-ih]
  rfl
theorem me(hc:X.calm=true):gv X (.builtin "all") (fun xs H Q=>∃(p:Addr) (bs:List Bool),xs=[.ref p]/\ay X.K H p (bs.map V.bl)/\Q (.bl (bs.all id)) H):=by
 intro J3 s σ H xs us Q I r h;obtain⟨p,bs,rfl,hq,q⟩:=h;obtain⟨u,rfl,ru⟩:=vals1 r;cases ru;obtain⟨its,rv,pl,hz⟩:=I.list hq;obtain⟨o,n,ho,_⟩:=id pl;have hl:=rv.length;rw[aj]at hl;refine call_all_walk (yN pl.isList ?_);refine⟨s.heap.objs.size,_,_,_,_,_,fun i=>(bs[i]?).getD false,rfl,Walks.list (prog:=X.prog) (w:=X.w) (A:=X.A.in1) (I.ok.hd hc) s.heap.objs.size p (de (be ho)) its.toArray,⟨⟨_,cF _ rfl,rfl,rfl⟩,pl.isList.push _⟩,?_,?_⟩
 ·intro i v s' Q' E' hv hq';obtain⟨e,_⟩:=FO rv (i:=i) (v:=v) (by simpa using hv);rw[e];exact sH hq'
 ·intro h' tk hk;have I':Inv X J3 σ H { s with heap:=h',toks:=tk }:=I.kept fun b o e=>hk b o (by simp;exact de (be e)) (bw _ e);rw[bL,<-hl,yq];exact⟨.bl _,H,I',rfl,q⟩
theorem Ab(hc:X.calm=true):gv X (.builtin "any") (fun xs H Q=>∃(p:Addr) (bs:List Bool),xs=[.ref p]/\ay X.K H p (bs.map V.bl)/\Q (.bl (bs.any id)) H):=by
 intro J3 s σ H xs us Q I r h;obtain⟨p,bs,rfl,hq,q⟩:=h;obtain⟨u,rfl,ru⟩:=vals1 r;cases ru;obtain⟨its,rv,pl,hz⟩:=I.list hq;obtain⟨o,n,ho,_⟩:=id pl;have hl:=rv.length;rw[aj]at hl;refine call_any_walk (yN pl.isList ?_);refine⟨s.heap.objs.size,_,_,_,_,_,fun i=>(bs[i]?).getD false,rfl,Walks.list (prog:=X.prog) (w:=X.w) (A:=X.A.in1) (I.ok.hd hc) s.heap.objs.size p (de (be ho)) its.toArray,⟨⟨_,cF _ rfl,rfl,rfl⟩,pl.isList.push _⟩,?_,?_⟩
 ·intro i v s' Q' E' hv hq';obtain⟨e,_⟩:=FO rv (i:=i) (v:=v) (by simpa using hv);rw[e];exact sH hq'
 ·intro h' tk hk;have I':Inv X J3 σ H { s with heap:=h',toks:=tk }:=I.kept fun b o e=>hk b o (by simp;exact de (be e)) (bw _ e);rw[bL,<-hl,yo];exact⟨.bl _,H,I',rfl,q⟩
theorem A_:oH X (eZ .In) (fun x y H Q=>∃c j,x=.str ⟨#[c]⟩/\y=.str j/\Q (.bl (decide (c∈j.cps.toList))) H):=by
 intro J3 s σ H x y v u Q I rx ry h;obtain⟨c,j,rfl,rfl,q⟩:=h;rw[<-StrLaws.found_one]at q;exact Dw J3 s σ H _ _ v u Q I rx ry ⟨_,_,rfl,rfl,q⟩
theorem uy(hc:X.calm=true):gv X (.type "list") (fun xs H Q=>∃(d:Addr) (kvs:List (eX×V)),xs=[.ref d]/\Rd H d (.dK kvs)/\∀l,H l=none->Q (.ref l) (upd H l (.lst (kvs.map fun kv=>kV kv.1)))):=by
 intro J3 s σ H xs us Q I r h;obtain⟨d,kvs,rfl,hd,q⟩:=h;obtain⟨u,rfl,ru⟩:=vals1 r;cases ru;obtain⟨z,hsys,vs,rel,dd⟩:=pF I.hok hd;obtain⟨ep,hat⟩:=dd.dictAt;have hl:=rel.length;refine PySem.W.kdl_call (PySem.W.kdl_dict (knd:=cA X.prog X.w) (kvs:=vs) (ep:=ep) hsys) (I.ok.hd hc) hat (by rw[<-hl];exact z) fun h' tk acc c hk hD hacc=>?_;have hv:bg (kvs.map fun kv=>kV kv.1) acc.toList:=by
  obtain⟨hn,hP⟩:=hacc;have key:∀(a:Zf) (ks:List (eX×V)) (ws:List (eX×Value)),KV ks ws->a.length=ws.length->(∀(j:Nat) (v:Value),a[j]?=some v->∃k x,ws[j]?=some (k,x)/\(cA X.prog X.w).is k v=true)->bg (ks.map fun kv=>kV kv.1) a:=by
   intro a ks ws rl
   induction rl generalizing a with
   |nil=>intro ha _;cases a with
    |nil=>exact .nil
    |cons _ _=>cases ha
   |@cons p w' ps ws' hp _ ih =>
    intro ha hj;cases a with
    |nil=>cases ha
    |cons v a =>
     obtain⟨k,x,e,hk⟩:=hj 0 v rfl;have e':w'=(k,x):=by simpa using e
     refine .cons ?_ (ih a (by simpa using ha) fun j v hv=>by simpa using hj (j+1) v (by simpa using hv));have ek:p.1=k:=by rw[hp.1,e']
     show RelV (kV p.1) v;rw[ek];rcases aA (show dD k v=true from hk)with⟨i,t,rfl,rfl⟩|⟨i,t,rfl,rfl⟩
     ·exact⟨t,rfl⟩
     ·exact⟨t,rfl⟩
  exact key acc.toList kvs vs rel (by rw[ng];exact hn) fun j v hv=>hP j v (by rw[<-Array.getElem?_toList];exact hv)
 refine⟨.ref s.heap.objs.size,_,I.laid (o:=.lst (kvs.map fun kv=>kV kv.1)) hk (aB _) ⟨by rw[aj];exact z,acc.toList,c,hv,by rw[Array.toArray_toList];exact hD⟩,rfl,q _ I.fresh⟩
end
section
variable{prog:bT}{w:World}{K:Type}[DecidableEq K]{knd:HeapKind prog w K}{A:Around}{E:Zc}{s:Shared}
theorem sX{d a:Addr}{xs:List (K×Addr×Value)}{k:K}{v:Value}{Q:Zc}(hu:knd.room A)(hkey:knd.is s.heap k a)(hm:s.heap.DictOfH knd d xs)
  (there:∀p,atKey xs k=some p->Q p.2 { s with toks:=s.toks+knd.draws k })
  (new:atKey xs k=none->∀h',h'.DictOfH knd d (xs++[(k,a,v)])->fG d s.heap h'->Q v { s with heap:=h',toks:=s.toks+knd.draws k })
  (hsz:xs.length<=ai):wpAny (model prog w) A (dictSetDefault d (.ref a) v) Q E s:=by
 obtain⟨o,es,ep,ho,hc,hd,he,his,hn⟩:=hm;unfold dictSetDefault
 try with_reducible refine lg ?_
 refine am (knd.pyHash hu hkey ?_);refine am (wpAny_dictFind_heap (s:={ s with toks:=s.toks+knd.draws k }) hu hkey ho hd he his hn ?_ ?_)
 ·intro hno;have hnot:k∉xs.map (·.1):=not_mem_keys_of_get hno;refine am (q_ (am (wpAny_updateDictKeys (hz:=by have e:=size_of_entries he;omega) (s:={ s with toks:=s.toks+knd.draws k }) ho hd (aD (new (atKey_none_of_get hno) _ ⟨_,_,ep+1,w_ _ ho (Obj.isFreed_of_dict (Obj.data_mapDictKeys hd _)),
   hc.mapDictKeys _,Obj.data_mapDictKeys hd _,?_,?_,?_⟩ (lc ..))))))
  ·simp[he,entryOfKey]
  ·intro x hx;rcases bd.mp hx with hx|hx
   ·exact knd.keeps (his x hx) ho hd (lc ..)
   ·simp only[aX]at hx;subst hx;exact knd.keeps hkey ho hd (lc ..)
  ·rw[aw,cP];refine⟨hn,by simp,?_⟩;intro x hx y hy;simp only[bN,List.map_nil,aX]at hy;subst hy;exact fun e=>hnot (e▸hx)
 ·intro j p hj;refine am (nC (s:={ s with toks:=s.toks+knd.draws k }) ho hd ?_);rw[entry_at he j,hj];exact am (q_ (aD (there p (atKey_of_get hn hj))))
theorem pq(knd:HeapKind prog w K)(d a:Addr)(hd:(d==gE)=false)(dflt:Value):
  MeetsIn prog w (cy.«dict.setdefault» ⟨[.ref d,.ref a,dflt],[]⟩) (fun A R s=>knd.room A.in1/\∃k xs,knd.is s.heap k a/\s.heap.DictOfH knd d xs/\xs.length<=ai /\
   (∀p,atKey xs k=some p->R (.ok (.ret p.2)) { s with toks:=s.toks+knd.draws k }) /\
   (atKey xs k=none->∀h',h'.DictOfH knd d (xs++[(k,a,dflt)])->fG d s.heap h'->R (.ok (.ret dflt)) { s with heap:=h',toks:=s.toks+knd.draws k })) :=
 .of_wp fun A R s ⟨hu,k,xs,hkey,hm,hz,h1,h2⟩=>by
  unfold cy.«dict.setdefault»;refine am ?_;unfold cy.Dict.keyAndDefault;refine am (wH hm.typeIs ?_);show wpAny _ _ (pure (d,Value.ref a,some dflt)) _ _ s;refine aD ?_;show wpAny _ _ (if(d==gE)=true then _ else(dictSetDefault d (.ref a) dflt >>= _)) _ _ s
  rw[if_neg (by rw[hd];exact fP)];exact am (sX hu hkey hm (fun p hp=>aD ⟨p.2,rfl,h1 p hp⟩) (fun hn h' hm' hs'=>aD ⟨dflt,rfl,h2 hn h' hm' hs'⟩) hz)
end
section
variable{X:Cx}
def Cd:V->List V->Hp->VK->Prop:=fun x vs H Q=>∃(d b:Addr) (kvs:List (TK×V)) (k:TK) (z:V),x=.ref d/\vs=[.ref b,z]/\H d=some (.dT kvs)/\cW H k (.ref b)/\k.depth<=8/\kvs.length<ai /\
 (∀v,br kvs k=some v->Q v H)/\(br kvs k=none->Q z (upd H d (.dT (kvs++[(k,z)]))))
theorem Dy(hu:X.A.units+16<cLine):HG X "dict.setdefault" Cd:=by
 intro J3 s σ H x vs v us Q I rx rv h;obtain⟨d,b,kvs,k,z,rfl,rfl,hd,hb,h8,hz,q1,q2⟩:=h;cases rx;obtain⟨u,v,rfl,ru,rz⟩:=rv.two;cases ru;obtain⟨_,hsys,xs,rel,dd⟩:=CJ I.hok I.kIn hd;have hl:kvs.length=xs.length:=Paired.length rel;refine sQ PySem.F.slot_dict_setdefault dd.typeIs PySem.F.entry_dict_setdefault (PySem.F.args_dict_setdefault_3 _ _ _) (pq (d6 X.prog X.w) d b hsys v)
  ⟨fH hu,k,xs,uh I.hok I.kIn (cW.c 8 h8 hb) h8,dd,by omega,fun p hp=>?_,fun hn h' dd' hs=>?_⟩
 ·have e:=rel.val k;rw[hp]at e;cases e2:br kvs k with
  |none=>rw[e2]at e;exact e.elim
  |some y =>
   rw[e2]at e;exact⟨y,H,I.tok _,e,q1 y e2⟩
 ·have e:=rel.val k;rw[hn]at e;have e2:br kvs k=none:=by
   cases e2:br kvs k with
   |none=>rfl
   |some y=>rw[e2]at e;exact e.elim
  obtain⟨o,es,ep,hq,h2,h3,h4,_,h5⟩:=dd';refine⟨z,_,pH (ob:=.dT (kvs++[(k,z)])) I (by rw[hd];exact je) hs ⟨o,hq⟩ ⟨by rw[aL,List.length_singleton];omega,hsys,_,KT.keeps (kvs:=kvs++[(k,z)]) (xs:=xs++[(k,b,v)]) (dv rel ⟨rfl,cW.c 8 h8 hb,h8,rz⟩) fun c ys ec=>?_,o,es,ep,hq,h2,h3,h4,h5⟩,rz,q2 e2⟩;rw[ag (Cy ec hd (fun z=>nomatch z))];exact ec
end
theorem l9:entryFor table "dict.update.loop"=some cy.«dict.update.loop»:=entryFor_of_fast (by kernel_rfl)
theorem ga:plainId "dict.update.loop"=true:=by decide +kernel
theorem xR:typeLookup (.type "list") "keys"=pure none:=am_miss_of_fast (by decide +kernel)
section
variable{prog:bT}{w:World}{A:Around}{E:Zc}{s:Shared}
theorem DA{a:Addr}{o:Obj}{xs:Array Value}{k:Nat}{Q:Option Value->Shared->Prop}(hx:s.heap.get? a=some o)(hc:o.cls=.type "list")(hdat:o.data=.seq xs k)(hd:o.dict=none)(hA:A.handled=none)
  (h:∀h' tk,(∀b ob,s.heap.get? b=some ob->h'.get? b=some ob)->Q none { s with heap:=h',toks:=tk }):wpAny (model prog w) A (getAttr? (.ref a) "keys") Q E s:=by
 obtain⟨c,dct,dat,sl⟩:=o;simp only at hc hdat hd;subst hc hdat hd;obtain⟨hp,g,d,tk,os⟩:=s;have hT:∀tk',(⟨hp,g,d,tk',os⟩:Shared).TypeIs (.ref a) "list":=fun _=>⟨_,hx,rfl⟩;have f1:=sub_AttributeError;have f3:=F.slot_list_getattribute.lookup;have f4:=F.slot_list_getattribute.bind (.ref a);have f5:=am_list_getattr_none;unfold getAttr? getAttrBy? getAttrBy
 repeat (any_goals (first|assumption|exact hT _|((with_reducible show wpAny _ _ (call (Value.builtin "list.__getattribute__") _ _) _ _ _);refine nF F.slot_list_getattribute (hT _) am_entry_list_getattribute (F.args_list_getattribute_2 _ _) (meets_getattribute_miss_list a xs k sl "keys" _ xR (by decide +kernel) (by decide +kernel)) ⟨hx,hA,fun h' tk' e hx'=>?_⟩)|wp_step))
 obtain⟨t',u',he⟩:=hx'.there;show wpAny _ _ (getattributeRaised _ _ _ _ _ _ _) _ _ _;unfold getattributeRaised hookOrError attributeErrorLeaves
 repeat (any_goals (first|assumption|wp_step))
 all_goals first|exact h _ _ hx'.keeps|trace_state
def Bx(h:Heap)(u:Value)(kv:eX×Value):Prop:=∃t ku,u=.ref t/\h.IsTuple t #[ku,kv.2]/\dD kv.1 ku=true
theorem AH{κ:Type}[DecidableEq κ](kvs:List (κ×Value))(k:κ)(v:Value):(stored kvs k v).length<=kvs.length+1:=by
 unfold stored;split
 ·rw[aj];omega
 ·rw[aL,List.length_singleton];exact aB _
theorem En{R:Result->Shared->Prop}(hh:A.handled=none){D it l:Addr}{items:Array Value}{ps:List (eX×Value)}(hDi:D≠it)(hli:l≠it)(hlD:l≠D)(hps:ps.length=items.size):
  ∀(n i:Nat) (s:Shared) (acc:List (eX×Value)),items.size-i=n->i<=items.size->acc.length+(items.size-i)<=ai->s.heap.IsListIter it l i->s.heap.IsList l items->s.heap.DictOf (cA prog w) D acc ->
   (∀(j:Nat) (u:Value) (kv:eX×Value),items[j]?=some u->ps[j]?=some kv->Bx s.heap u kv) ->
   (∀h' tk,h'.DictOf (cA prog w) D (merged acc (ps.drop i))->(∀b o,b≠D->b≠it->s.heap.get? b=some o->h'.get? b=some o)->R (.ok (.ret .none)) { s with heap:=h',toks:=tk }) ->
   zzl79 (model prog w) A (.builtin "dict.update.loop" ⟨[.ref D,.ref it,rawInt i,.none],[]⟩) R s:=by
 intro n
 induction n with
 |zero =>
  intro i s acc hn hi hz hit hl hD hp hR;have e:i=items.size:=by omega
  subst e;refine codeAny_builtin l9 ?_;rw[Around.under_plainId ga _];show wpAny _ A.in1 (pyNext (.ref it) >>= _) _ _ s;refine am (wpAny_pyNext_list_end hh hit hl (by simp) fun h' eb=>?_);show wpAny _ _ (cy.Dict.addKeywords D [] >>= _) _ _ _;refine am (aD (aD ?_));have hD':h'.DictOf (cA prog w) D acc:=hD.extBut eb hDi;have q:=hR h' s.toks (by rw[wG (by omega)];exact hD') fun b o _ hb e=>eb b o hb e;exact q
 |succ n ih =>
  intro i s acc hn hi hz hit hl hD hp hR;have hlt:i<items.size:=by omega
  refine codeAny_builtin l9 ?_;rw[Around.under_plainId ga _];show wpAny _ A.in1 (pyNext (.ref it) >>= _) _ _ s;have hu:items[i]?=some items[i]:=by simp[hlt]
  have hk:ps[i]?=some ps[i]:=bY (by omega);obtain⟨t,ku,eu,ht,hku⟩:=hp i _ _ hu hk;refine am (wpAny_pyNext_list_item hit hl (x:=items[i]) hu fun h1 hit1 hs1=>?_);rw[eu];have hs1':fG it s.heap h1:=hs1;have nt:t≠it:=by
   rintro rfl;obtain⟨o,ho,hc,_⟩:=ht;obtain⟨o',ho',hc',_⟩:=hit;rw[ho]at ho';cases ho';rw[hc]at hc';simp at hc'
  have ht1:h1.IsTuple t #[ku,ps[i].2]:=ht.extBut hs1'.extBut nt;have hT1:Shared.TypeIs { s with heap:=h1 } (.ref t) "tuple":=ht1.typeIs (s:={ s with heap:=h1 });obtain⟨ot,got,hct,nt',hdt⟩:=id ht1;refine am (lg ?_);refine am (wpAny_tryCatch ?_);unfold cy.Dict.pairItems;refine am (wpAny_typeOf hT1 ?_);rw[if_pos (by decide)];refine am (nh got hdt (aD ?_));show wpAny _ _ (k9 [ku,ps[i].2] (dictSet D ku ps[i].2)) _ _ _;have hD1:h1.DictOf (cA prog w) D acc:=hD.extBut hs1'.extBut hDi;refine lg (wpAny_dictSet_pairs (knd:=cA prog w) (k:=ps[i].1) hku hD1 (fun h2 hD2 hs2=>?_) (by omega));have hs2':fG D h1 h2:=hs2;show wpAny _ _ (again _) _ _ _;refine aD ⟨plainId_quiet ga _,?_⟩;have hl1:h1.IsList l items:=hl.extBut hs1'.extBut hli;have kp:∀b o,b≠D->b≠it->s.heap.get? b=some o->h2.get? b=some o:=fun b o h1 h2 e=>hs2'.extBut b o h1 (hs1'.extBut b o h2 e);refine ih (i+1) _ (stored acc ps[i].1 ps[i].2) (by omega) hlt (by have:=AH acc ps[i].1 ps[i].2;omega) (hit1.extBut hs2'.extBut (dB hDi)) (hl1.extBut hs2'.extBut hlD) hD2 (fun j u kv h1 h2=>?_) fun h' tk hD' kp'=>?_
  ·obtain⟨t2,ku2,e2,ht2,hk2⟩:=hp j u kv h1 h2;have n1:t2≠it:=by
    rintro rfl;obtain⟨o,ho,hc,_⟩:=ht2;obtain⟨o',ho',hc',_⟩:=hit;rw[ho]at ho';cases ho';rw[hc]at hc';simp at hc'
   have n2:t2≠D:=by
    rintro rfl;obtain⟨o,ho,hc,_⟩:=ht2;obtain⟨o',_,_,ho',hc',_⟩:=hD;rw[ho]at ho';cases ho';have:=hc'.1;rw[hc]at this;simp at this
   obtain⟨o,ho,r⟩:=ht2;exact⟨t2,ku2,e2,⟨o,kp _ o n2 n1 ho,r⟩,hk2⟩
  ·refine hR h' tk ?_ fun b o h1 h2 e=>kp' b o h1 h2 (kp b o h1 h2 e);have ed:ps.drop i=ps[i]::ps.drop (i+1):=List.drop_eq_getElem_cons (by omega);rw[ed];exact hD'
theorem rQ{l:Addr}{o:Obj}{items:Array Value}{n:Nat}{ps:List (eX×Value)}{Q:Zc}(hh:A.handled=none)(ho:s.heap.get? l=some o)(hc:o.cls=.type "list")(hdt:o.data=.seq items n)(hod:o.dict=none)
  (hps:ps.length=items.size) (hp:∀(j:Nat) (u:Value) (kv:eX×Value),items[j]?=some u->ps[j]?=some kv->Bx s.heap u kv) (hz:items.size<=ai)
  (h:∀h' tk,h'.DictOf (cA prog w) s.heap.objs.size (merged [] ps)->(∀b o,s.heap.get? b=some o->h'.get? b=some o)->Q (.ref s.heap.objs.size) { s with heap:=h',toks:=tk }) :
  wpAny (model prog w) A (call (.type "dict") [.ref l]) Q E s:=by
 refine callType_codes (Q₁:=fun obj s₁=>obj=.ref s.heap.objs.size/\s₁={ s with heap:=s.heap.push { cls:=.type "dict",data:=.dict #[] } }) F.kt_called_dict (F.kt_typeCall_dict_1 _) F.entry_dict_init (kt_code_dict_new _ ⟨rfl,rfl⟩) ?_;rintro obj s₁ ⟨rfl,rfl⟩;have hnew:(s.heap.push { cls:=.type "dict",data:=.dict #[] }).DictOf (cA prog w) s.heap.objs.size []:=Heap.DictOf.new s.heap;have ho1:(s.heap.push { cls:=.type "dict",data:=.dict #[] }).get? l=some o:=bw _ ho;have hlt:l<s.heap.objs.size:=be ho;refine⟨hnew.typeIs,F.args_dict_init_2 _ _,?_⟩;unfold cy.«dict.__init__»;refine am ?_;unfold cy.Dict.selfAndRest;refine am (wH hnew.typeIs ?_);show wpAny _ _ (pure (s.heap.objs.size,[Value.ref l])) _ _ _;refine aD ?_;show wpAny _ _ (cy.Dict.updateFrom "dict.__init__" s.heap.objs.size (.ref l) [] .none) _ _ _;unfold cy.Dict.updateFrom;have hTl:Shared.TypeIs { s with heap:=s.heap.push { cls:=.type "dict",data:=.dict #[] } } (.ref l) "list":=⟨o,ho1,hc⟩;refine am (wpAny_typeOf hTl ?_);rw[if_pos (by decide)];refine am (DA ho1 hc hdt hod hh fun h1 tk1 k1=>?_);have k1':∀b ob,(s.heap.push { cls:=.type "dict",data:=.dict #[] }).get? b=some ob->h1.get? b=some ob:=k1;rw[if_pos (by rfl:(none:Option Value).isNone=true)];refine am (q_ ?_);have hl1:h1.IsList l items:=⟨o,k1' _ _ ho1,hc,n,hdt⟩;refine am (yN (s:={ s with heap:=h1,toks:=tk1 }) hl1 ?_);have hD1:h1.DictOf (cA prog w) s.heap.objs.size []:=by
  obtain⟨od,es,ep,g,r⟩:=hnew;exact⟨od,es,ep,k1' _ _ g,r⟩
 have hDlt:s.heap.objs.size<h1.objs.size:=by
  obtain⟨od,es,ep,g,r⟩:=hD1;exact be g
 refine aD ⟨plainId_quiet ga _,?_⟩;refine En (A:=A.in1) (prog:=prog) (w:=w) hh (D:=s.heap.objs.size) (it:=h1.objs.size) (l:=l) (items:=items) (ps:=ps) (de hDlt) (de (Nat.lt_trans hlt hDlt)) (de hlt) hps items.size 0 _ [] (Nat.sub_zero _) (db _) (by rw[wX];omega)
  ⟨_,cF _ rfl,rfl,rfl⟩ (hl1.push _) (hD1.push _) (fun j u kv a b=>?_) fun h' tk hD' kp=>?_
 ·obtain⟨t,ku,e,ht,hk⟩:=hp j u kv a b;obtain⟨ot,g,r⟩:=ht;exact⟨t,ku,e,⟨ot,bw _ (k1' _ _ (bw _ g)),r⟩,hk⟩
 ·rw[sI]at hD';refine⟨rfl,h h' tk hD' fun b ob e=>kp b ob (de (be e)) (de (Nat.lt_trans (be e) hDlt)) (bw _ (k1' _ _ (bw _ e)))⟩
end
section
variable{X:Cx}
theorem yk(hc:X.calm=true):gv X (.type "dict") (fun xs H Q=>∃(l:Addr) (ts:Ze) (kvs:List (eX×V)),xs=[.ref l]/\ay X.K H l (ts.map V.ref)/\ts.length=kvs.length /\
  (∀(j:Nat) (t:Addr) (kv:eX×V),ts[j]?=some t->kvs[j]?=some kv->H t=some (.tup [kV kv.1,kv.2]))/\∀p,H p=none->Q (.ref p) (upd H p (.dK (jA [] kvs)))):=by
 intro J3 s σ H xs us Q I r h;obtain⟨l,ts,kvs,rfl,hl,hlen,ht,q⟩:=h;obtain⟨u,rfl,ru⟩:=vals1 r;cases ru;obtain⟨its,rv,⟨o,n,ho,hcl,hod,hdt⟩,hz⟩:=I.list hl;have key:∀(ts:Ze) (kvs:List (eX×V)),ts.length=kvs.length->(∀(j:Nat) (t:Addr) (kv:eX×V),ts[j]?=some t->kvs[j]?=some kv->H t=some (.tup [kV kv.1,kv.2]))->∃ps:List (eX×Value),KV kvs ps/\∀(j:Nat) (t:Addr) (kv:eX×Value),ts[j]?=some t->ps[j]?=some kv->Bx s.heap (.ref t) kv:=by
  intro ts
  induction ts with
  |nil =>
   intro kvs hl _;cases kvs with
   |nil=>exact⟨[],.nil,fun j t kv e=>by simp at e⟩
   |cons _ _=>cases hl
  |cons t ts ih =>
   intro kvs hl ht;cases kvs with
   |nil=>cases hl
   |cons kv kvs =>
    obtain⟨ps,r1,r2⟩:=ih kvs (by simpa using hl) fun j t' kv' a b=>ht (j+1) t' kv' (by simpa using a) (by simpa using b);obtain⟨_,itt,rt,p⟩:=(show b9 X.prog X.w X.K H s.heap t (.tup [kV kv.1,kv.2])from I.hok t _ (ht 0 t kv rfl rfl));obtain⟨a,b,e,ra,rb⟩:=rt.two;subst e;refine⟨(kv.1,b)::ps,.cons ⟨rfl,rb⟩ r1,fun j t' kv' h1 h2=>?_⟩;cases j with
    |zero =>
     simp at h1 h2;subst h1 h2;exact⟨t,a,rfl,p,pB (P:=X.prog) (w:=X.w) ra⟩
    |succ j=>exact r2 j t' kv' (by simpa using h1) (by simpa using h2)
 obtain⟨ps,rel,pa⟩:=key ts kvs hlen ht;have hl1:=rv.length;rw[aj]at hl1;have hl2:=rel.length;refine rQ (prog:=X.prog) (w:=X.w) (ps:=ps) (I.ok.hd hc) ho hcl hdt hod (by rw[bL];omega) (fun j u kv a b=>?_) (by rw[bL,<-hl1];rw[aj]at hz;exact hz) fun h' tk hD kp=>?_
 ·have a':its[j]?=some u:=by simpa using a
  have hj:j<ts.length:=by
   have:=(cG.mp a').1;omega
  obtain⟨u',e1,r1⟩:=rv.get (i:=j) (x:=V.ref ts[j]) (by simp[hj]);rw[a']at e1;cases e1;cases(show u=Value.ref ts[j]from r1);exact pa j ts[j] kv (by simp[hj]) b
 ·have hm:(jA [] kvs).length<=ai:=by
   have h1:=nv kvs [];rw[wX]at h1;rw[aj]at hz;omega
  exact⟨.ref s.heap.objs.size,_,I.laid (o:=.dK (jA [] kvs)) kp (aB _) (FE hm (beq_eq_false_iff_ne.mpr (dB (de I.big))) (rel.merge .nil) hD),rfl,q _ I.fresh⟩
end
abbrev fo:R2:=Ee fun i j=>.int (i+j)
abbrev lO:R2:=rI FW fun i j=>.int (i * j)
abbrev ji:R2:=rI (fun _ j=>0<j) fun i j=>.int (i % j)
abbrev ES:R2:=rI IZ fun i j=>.int (i / j)
abbrev Hs:R2:=rI IY fun i j=>.int (i ^ j.toNat)
abbrev AZ:R2:=Ee fun i j=>.bl (decide (i<j))
abbrev rLeI:R2:=Ee fun i j=>.bl (decide (i<=j))
abbrev Dt:R2:=Ee fun i j=>.bl (decide (j<i))
abbrev rGeI:R2:=Ee fun i j=>.bl (decide (j<=i))
abbrev Hu:R2:=fun x y H Q=>∃i j,x=.str i/\y=.str j/\i.length+j.length<=ai/\Q (.str (i++j)) H
abbrev rInS:R2:=fun x y H Q=>∃c j,x=.str ⟨#[c]⟩/\y=.str j/\Q (.bl (decide (c∈j.cps.toList))) H
abbrev ER(K:Za):List V->Hp->VK->Prop:=fun xs H Q=>∃x c t b,xs=[x,.ty c]/\TyX K H x t/\BN K t (.type c)=some b/\Q (.bl b) H
abbrev GK(K:Za):List V->Hp->VK->Prop:=fun xs H Q=>∃(p:Addr) (bs:List Bool),xs=[.ref p]/\ay K H p (bs.map V.bl)/\Q (.bl (bs.all id)) H
abbrev rAny(K:Za):List V->Hp->VK->Prop:=fun xs H Q=>∃(p:Addr) (bs:List Bool),xs=[.ref p]/\ay K H p (bs.map V.bl)/\Q (.bl (bs.any id)) H
abbrev vO(K:Za):List V->Hp->VK->Prop:=fun xs H Q=>∃p ys,xs=[.ref p]/\((ay K H p ys/\∀l,H l=none->Q (.ref l) (upd H l (.tup ys)))∨(bc K H p ys/\Q (.ref p) H))
abbrev GJ(K:Za):List V->Hp->VK->Prop:=fun xs H Q=>∃(l:Addr) (ts:Ze) (kvs:List (eX×V)),xs=[.ref l]/\ay K H l (ts.map V.ref)/\ts.length=kvs.length /\
  (∀(j:Nat) (t:Addr) (kv:eX×V),ts[j]?=some t->kvs[j]?=some kv->H t=some (.tup [kV kv.1,kv.2]))/\∀p,H p=none->Q (.ref p) (upd H p (.dK (jA [] kvs)))
abbrev dw(K:Za):List V->Hp->VK->Prop:=fun xs H Q =>
 (∃p ys,xs=[.ref p]/\(ay K H p ys∨bc K H p ys)/\∀l,H l=none->Q (.ref l) (upd H l (.lst ys))) ∨
 (∃(d:Addr) (kvs:List (eX×V)),xs=[.ref d]/\Rd H d (.dK kvs)/\∀l,H l=none->Q (.ref l) (upd H l (.lst (kvs.map fun kv=>kV kv.1))))
abbrev eC(K:Za):List V->Hp->VK->Prop:=fun xs H Q =>
 (∃p ys,xs=[.ref p]/\(ay K H p ys∨bc K H p ys)/\Q (.int ys.length) H)∨(∃z,xs=[.str z]/\z.length<=ai/\Q (.int z.length) H)
theorem mf:kP "isinstance"=some (.builtin "isinstance"):=by decide +kernel
theorem uz:kP "list"=some (.type "list"):=by decide +kernel
theorem eQ:kP "tuple"=some (.type "tuple"):=by decide +kernel
theorem Bw:kP "dict"=some (.type "dict"):=by decide +kernel
theorem D_:kP "str"=some (.type "str"):=by decide +kernel
section
variable{X:Cx}{p pos:Pos}
theorem D0:gv X (.builtin "len") (eC X.K):=yj.or yi
theorem Bv(hc:X.calm=true):gv X (.type "list") (dw X.K):=yh.or (uy hc)
theorem Du(hg:Gl X "str")(hm:X.mg "str"=none):PE X (.Name "str" pos) (tC (.ty "str")):=xN hg hm D_ rfl
theorem A2(hg:Gl X "list")(hm:X.mg "list"=none):PE X (.Name "list" pos) (tC (.ty "list")):=xN hg hm uz rfl
theorem lR(hg:Gl X "tuple")(hm:X.mg "tuple"=none):PE X (.Name "tuple" pos) (tC (.ty "tuple")):=xN hg hm eQ rfl
end
def Gc(mg:Str->Option Value)(x:Str)(v:V):Prop:=∃u,mg x=some u/\RelV v u
theorem jU{X:Cx}{x:Str}{v:V}{pos:Pos}(hg:Gl X x)(h:Gc X.mg x v)(hd:(x==("__debug__":Str))=false:=by decide):PE X (.Name x pos) (tC v):=by
 obtain⟨u,hm,r⟩:=h;exact GR hg hm r hd
structure Def(P:bT)(w:World)(K:Za)(mg:Str->Option Value)(base:Heap)(x:Str)(ps:Zb)(k:Nat)(sp:Sp):Prop where
 ex:∃f fd,m_ P w K mg base CX0 k f fd ps sp/\mg x=some (.ref f)/\iN K (.ref f)=true/\Binds K fd ps []
structure Jj(P:bT)(w:World)(K:Za)(mg:Str->Option Value)(base:Heap)(x:Str)(C:Addr)(ps:Zb)(k:Nat)(sp:Sp):Prop where
 ex:∃f fd,m_ P w K mg base CX0 k f fd ps sp/\mg x=some (.ref C)/\Mk K C f/\Binds K fd ps []
structure CZ(P:bT)(w:World)(K:Za)(mg:Str->Option Value)(base:Heap)(C:Addr)(m:Str)(ps:Zb)(k:Nat)(sp:Sp):Prop where
 ex:∃f fd,m_ P w K mg base CX0 k f fd ps sp/\C1 K C/\Hk K C m f/\Binds K fd ps []
section
variable{X:Cx}{k:Nat}{ps:Zb}{sp:Sp}{x m:Str}{C:Addr}{p pos J5:Pos}{o e:Expr}{es:List Expr}{t:TA}{ta:TE}
theorem IC(D:Def X.prog X.w X.K X.mg X.base x ps k sp)(hr:eW k X.A)(hg:Gl X x)(ha:PA X (e::es) t)(hdb:(x==("__debug__":Str))=false:=by decide)
  (he:aN (e::es) X.env=(false,eval e X.env)::aN es X.env:=by rfl) (hpl:(backTo pos (aN es X.env)).any (·.1)=false:=by rfl) :
  PE X (.Call (.Name x p) (e::es) [] pos) (aM sp t):=by
 obtain⟨f,fd,F,hm,hk,hb⟩:=D.ex;exact GU F hr hg hm hk hb .nil Co ha hdb he hpl
theorem A9(D:Jj X.prog X.w X.K X.mg X.base x C ps k sp)(hr:eW (k+1) X.A)(hg:Gl X x)(ha:PA X (e::es) t)(hdb:(x==("__debug__":Str))=false:=by decide)
  (he:aN (e::es) X.env=(false,eval e X.env)::aN es X.env:=by rfl) (hpl:(backTo pos (aN es X.env)).any (·.1)=false:=by rfl) :
  PE X (.Call (.Name x p) (e::es) [] pos) (yV C sp [] E0 t):=by
 obtain⟨f,fd,F,hm,M,hb⟩:=D.ex;exact GQ M F hr hg hm hb .nil Co ha hdb he hpl
theorem HX{pl:Sem Bool}(M:CZ X.prog X.w X.K X.mg X.base C m ps k sp)(hr:eW k X.A)(he:PE X o ta)(ha:PA X (e::es) t)
  (hst:aN (e::es) X.env=(false,eval e X.env)::aN es X.env:=by rfl) (hpl:(backTo pos (aN es X.env)).any (·.1)=false:=by rfl)
  (ht:eval (.Call (.Attribute o m J5) (e::es) [] pos) X.env=(do
   let ov <- eval o X.env
   qX J5.atName
   let(f,first) <- k9 [ov] (qU ov m pl)
   vB pos f first (backTo pos (aN (e::es) X.env)) (oJ pos (oI [] X.env))):=by rfl) :
  PE X (.Call (.Attribute o m J5) (e::es) [] pos) (cX C m sp [] E0 ta t):=by
 obtain⟨f,fd,F,c,hm,hb⟩:=M.ex;exact GP he c hm F hr hb .nil Co ha hst hpl ht
theorem GO{pl:Sem Bool}(M:CZ X.prog X.w X.K X.mg X.base C m ps k sp)(hr:eW k X.A)(he:PE X o ta)
  (ht:eval (.Call (.Attribute o m J5) [] [] pos) X.env=(do
   let ov <- eval o X.env
   qX J5.atName
   let(f,first) <- k9 [ov] (qU ov m pl)
   vB pos f first (backTo pos (aN [] X.env)) (oJ pos (oI [] X.env))):=by rfl) :
  PE X (.Call (.Attribute o m J5) [] [] pos) (cX C m sp [] E0 ta bq):=by
 obtain⟨f,fd,F,c,hm,hb⟩:=M.ex;exact EW he c hm F hr hb .nil Co ht
end
def IH(K:Za)(tl:TE):TI:=fun σ H R=>tl σ H fun x H1=>∃a,x=.ref a/\(((∃xs,ay K H1 a xs)/\R (FZ K a) H1)∨((∃xs,bc K H1 a xs)/\R (Il K a) H1))
theorem HV{X:Cx}{tg l:Expr}{tl:TE}(hl:PE X l tl):PI X tg l (IH X.K tl):=by
 intro J3 s σ H R I h;refine cE (hl J3 s σ H _ I h) fun v s1 ⟨x,H1,I1,r1,q1⟩=>?_;obtain⟨a,e,q⟩:=q1;subst e;cases r1;have fin:∀b∈[s1.heap.objs.size],oy X J3 H1 b:=fun b hb=>by
  have e:b=s1.heap.objs.size:=by simpa using hb
  subst e;exact I1.fpOk (aB _) (I1.hok.fresh (aB _))
 rcases q with⟨⟨xs,hq⟩,q⟩|⟨⟨xs,hq⟩,q⟩
 ·obtain⟨its,rv,p,hz⟩:=I1.list hq;refine yN p.isList ?_;exact⟨s1.heap.objs.size,[s1.heap.objs.size],_,_,H1,rfl,I1.kept (t':=s1.toks) fun b o e=>bw _ e,vH a _,⟨_,cF _ rfl,rfl,rfl⟩,fin,q⟩
 ·obtain⟨its,rv,p,hz⟩:=I1.tuple hq;refine BR p ?_;exact⟨s1.heap.objs.size,[s1.heap.objs.size],_,_,H1,rfl,I1.kept (t':=s1.toks) fun b o e=>bw _ e,sY a _,⟨_,cF _ rfl,rfl,rfl⟩,fin,q⟩
theorem lZ{K:Za}{a:Addr}{xs:List V}{g:TG}{tb:TS}{D:mn}{σ:St}{H:Hp}(Pv:Nat->St->Hp->Prop)(h0:Pv 0 σ H)(hl:∀i σ H,i<=xs.length->Pv i σ H->ay K H a xs)
  (hs:∀i x σ H p,xs[i]?=some x->Pv i σ H->H p=none->g (.ref p) σ (upd H p (.tup [.int i,x])) fun σ2 H2=>tb { D with nx:=Pv (i+1),ct:=Pv (i+1),bk:=D.nx } σ2 H2) (hd:∀σ H,Pv xs.length σ H->D.nx σ H) :
  ∃W:Nat->Nat->St->Hp->Prop,(∃m,W 0 m σ H)/\∀i m σ H,W i m σ H ->
   ((IR K a).stop i H/\D.nx σ H)∨((IR K a).go i H/\∃N:St->Hp->Prop,(∀σ' H',N σ' H'->∃m',m'<m/\W (i+1) m' σ' H')/\∀x H',(IR K a).yld i H x H'->g x σ H' fun σ2 H2=>tb { D with nx:=N,ct:=N,bk:=D.nx } σ2 H2):=by
 refine⟨fun i m σ H=>m=xs.length-i/\i<=xs.length/\Pv i σ H,⟨xs.length,by simp,db _,h0⟩,?_⟩;rintro i m σ H ⟨rfl,hi,p⟩;have q:=hl i σ H hi p;by_cases hlt:i<xs.length
 ·refine .inr ⟨⟨xs,xs[i],q,by simp[hlt]⟩,Pv (i+1),fun σ' H' p'=>⟨xs.length-(i+1),by omega,rfl,hlt,p'⟩,fun x H' y=>?_⟩;obtain⟨t,v,rfl,hn,hv,rfl⟩:=y;exact hs i v σ H t (hv xs q) p hn
 ·have e:i=xs.length:=by omega
  subst e;exact .inl ⟨⟨xs,q,aB _⟩,hd σ H p⟩
def Wc(n:Nat)(Pv:Nat->List V->Hp->Prop):Nat->Nat->List V->Hp->Prop:=fun i m vs H=>m=n-i/\i<=n/\Pv i vs H
theorem mW{n i:Nat}{Pv:Nat->List V->Hp->Prop}{vs:List V}{H:Hp}(hi:i<n)(p:Pv (i+1) vs H):∃m',m'<n-i/\Wc n Pv (i+1) m' vs H:=⟨n-(i+1),by omega,rfl,hi,p⟩
abbrev gu(k:Nat)(fi:List Nat)(σ:St)(J:It)(g:TG)(tc:TT)(te:TE)(H1:Hp)(l:Addr)(Q:Hp->Prop):Prop :=
 ∃W:Nat->Nat->List V->Hp->Prop,(∃m,W 0 m [] (upd H1 l (.lst [])))/\∀i m vs H2,W i m vs H2->H2 l=some (.lst vs) /\
  ((J.stop i H2/\Q H2)∨(J.go i H2/\∀x H3,J.yld i H2 x H3->g x (dS k fi σ) H3 fun σ2 H4=>tc σ2 H4 fun b H5 =>
   if b=true then te σ2 H5 fun v H6=>H6 l=some (.lst vs)/\vs.length<ai/\∃m',m'<m/\W (i+1) m' (vs++[v]) (upd H6 l (.lst (vs++[v])))else ∃m',m'<m/\W (i+1) m' vs H5))
theorem l_{k:Nat}{fi:List Nat}{J:It}{g:TG}{tc:TT}{te:TE}{σ:St}{H1:Hp}{Q:Hp->Prop}{l:Addr}(n:Nat)(Pv:Nat->List V->Hp->Prop)(h0:Pv 0 [] (upd H1 l (.lst [])))
  (hl:∀i vs H,i<=n->Pv i vs H->H l=some (.lst vs)) (hgo:∀i vs H,i<n->Pv i vs H->J.go i H) (hst:∀vs H,Pv n vs H->J.stop n H/\Q H)
  (hs:∀i vs H x H3,i<n->Pv i vs H->J.yld i H x H3->g x (dS k fi σ) H3 fun σ2 H4=>tc σ2 H4 fun b H5 =>
   if b=true then te σ2 H5 fun v H6=>H6 l=some (.lst vs)/\vs.length<ai/\∃m',m'<n-i/\Wc n Pv (i+1) m' (vs++[v]) (upd H6 l (.lst (vs++[v])))else ∃m',m'<n-i/\Wc n Pv (i+1) m' vs H5) :
  gu k fi σ J g tc te H1 l Q:=by
 refine⟨Wc n Pv,⟨n,by simp[Wc],db _,h0⟩,?_⟩;rintro i m vs H ⟨rfl,hi,p⟩;refine⟨hl i vs H hi p,?_⟩;by_cases hlt:i<n
 ·exact .inr ⟨hgo i vs H hlt p,fun x H3 y=>hs i vs H x H3 hlt p y⟩
 ·have e:i=n:=by omega
  subst e;exact .inl (hst vs H p)
section
variable{K:Za}{k:Nat}{fi:List Nat}{g:TG}{tc:TT}{te:TE}{σ:St}{H1:Hp}{Q:Hp->Prop}{l:Addr}
theorem cg{a:Addr}{xs:List V}(Pv:Nat->List V->Hp->Prop)(h0:Pv 0 [] (upd H1 l (.lst [])))
  (hl:∀i vs H,i<=xs.length->Pv i vs H->H l=some (.lst vs)/\ay K H a xs) (hd:∀vs H,Pv xs.length vs H->Q H)
  (hs:∀i vs H x,xs[i]?=some x->i<xs.length->Pv i vs H->g x (dS k fi σ) H fun σ2 H4=>tc σ2 H4 fun b H5 =>
   if b=true then te σ2 H5 fun v H6=>H6 l=some (.lst vs)/\vs.length<ai/\∃m',m'<xs.length-i/\Wc xs.length Pv (i+1) m' (vs++[v]) (upd H6 l (.lst (vs++[v])))else ∃m',m'<xs.length-i/\Wc xs.length Pv (i+1) m' vs H5) :
  gu k fi σ (FZ K a) g tc te H1 l Q:=by
 refine l_ xs.length Pv h0 (fun i vs H hi p=>(hl i vs H hi p).1) (fun i vs H hi p=>⟨xs,xs[i],(hl i vs H (fk hi) p).2,by simp[hi]⟩) (fun vs H p=>⟨⟨xs,(hl _ vs H (aB _) p).2,aB _⟩,hd vs H p⟩) fun i vs H x H3 hi p y=>?_;obtain⟨rfl,y⟩:=y;exact hs i vs _ x (y xs (hl i vs _ (fk hi) p).2) hi p
theorem z7{a:Addr}{xs:List V}(Pv:Nat->List V->Hp->Prop)(h0:Pv 0 [] (upd H1 l (.lst [])))
  (hl:∀i vs H,i<=xs.length->Pv i vs H->H l=some (.lst vs)/\bc K H a xs) (hd:∀vs H,Pv xs.length vs H->Q H)
  (hs:∀i vs H x,xs[i]?=some x->i<xs.length->Pv i vs H->g x (dS k fi σ) H fun σ2 H4=>tc σ2 H4 fun b H5 =>
   if b=true then te σ2 H5 fun v H6=>H6 l=some (.lst vs)/\vs.length<ai/\∃m',m'<xs.length-i/\Wc xs.length Pv (i+1) m' (vs++[v]) (upd H6 l (.lst (vs++[v])))else ∃m',m'<xs.length-i/\Wc xs.length Pv (i+1) m' vs H5) :
  gu k fi σ (Il K a) g tc te H1 l Q:=by
 refine l_ xs.length Pv h0 (fun i vs H hi p=>(hl i vs H hi p).1) (fun i vs H hi p=>⟨xs,xs[i],(hl i vs H (fk hi) p).2,by simp[hi]⟩) (fun vs H p=>⟨⟨xs,(hl _ vs H (aB _) p).2,aB _⟩,hd vs H p⟩) fun i vs H x H3 hi p y=>?_;obtain⟨rfl,y⟩:=y;exact hs i vs _ x (y xs (hl i vs _ (fk hi) p).2) hi p
theorem Bt{lo:Int}{n:Nat}(Pv:Nat->List V->Hp->Prop)(h0:Pv 0 [] (upd H1 l (.lst [])))
  (hl:∀i vs H,i<=n->Pv i vs H->H l=some (.lst vs)) (hd:∀vs H,Pv n vs H->Q H)
  (hs:∀i vs H,i<n->Pv i vs H->g (.int (lo+i)) (dS k fi σ) H fun σ2 H4=>tc σ2 H4 fun b H5 =>
   if b=true then te σ2 H5 fun v H6=>H6 l=some (.lst vs)/\vs.length<ai/\∃m',m'<n-i/\Wc n Pv (i+1) m' (vs++[v]) (upd H6 l (.lst (vs++[v])))else ∃m',m'<n-i/\Wc n Pv (i+1) m' vs H5) :
  gu k fi σ (Im lo n) g tc te H1 l Q:=by
 refine l_ n Pv h0 hl (fun i vs H hi p=>hi) (fun vs H p=>⟨aB _,hd vs H p⟩) fun i vs H x H3 hi p y=>?_;obtain⟨rfl,rfl⟩:=y;exact hs i vs _ hi p
theorem FM{x:Str}(Pv:Nat->List V->Hp->Prop)(h0:Pv 0 [] (upd H1 l (.lst [])))
  (hl:∀i vs H,i<=x.cps.size->Pv i vs H->H l=some (.lst vs)) (hd:∀vs H,Pv x.cps.size vs H->Q H)
  (hs:∀i vs H c,x.cps[i]?=some c->i<x.cps.size->Pv i vs H->g (.str ⟨#[c]⟩) (dS k fi σ) H fun σ2 H4=>tc σ2 H4 fun b H5 =>
   if b=true then te σ2 H5 fun v H6=>H6 l=some (.lst vs)/\vs.length<ai/\∃m',m'<x.cps.size-i/\Wc x.cps.size Pv (i+1) m' (vs++[v]) (upd H6 l (.lst (vs++[v])))else ∃m',m'<x.cps.size-i/\Wc x.cps.size Pv (i+1) m' vs H5) :
  gu k fi σ (Jl x) g tc te H1 l Q:=by
 refine l_ x.cps.size Pv h0 hl (fun i vs H hi p=>hi) (fun vs H p=>⟨aB _,hd vs H p⟩) fun i vs H y H3 hi p yl=>?_;obtain⟨rfl,c,hc,rfl⟩:=yl;exact hs i vs _ c hc hi p
end
theorem gN{j:Nat}{x:V}{σ:St}{H:Hp}{Q:St->Hp->Prop}(h:Q (σ.set j (some x)) H):eF j x σ H Q:=h
theorem sW{σ:St}{H:Hp}{A B:Hp->Prop}(h:A H):kT σ H (fun b H5=>if b=true then A H5 else B H5):=by
 show(if(true:Bool)=true then A H else B H)
 exact h
theorem vR{α β:Type}{F:α->β->Prop}:∀{l₁:List α}{l₂:List β},Paired F l₁ l₂->∀{i:Nat}{a:α}{b:β},l₁[i]?=some a->l₂[i]?=some b->F a b
 |_,_,.nil,_,_,_,h,_=>by simp at h
 |_,_,.cons r t,0,_,_,h,h'=>by simp at h h';subst h h';exact r
 |_,_,.cons r t,i+1,_,_,h,h'=>by simp at h h';exact vR t h h'
end L2
namespace L2
open PySem PySem.W
def lL(K:Za)(td ty tv:TE):TS:=fun D σ H=>tv σ H fun v H1=>td σ H1 fun x H2=>ty σ H2 fun y H3 =>
 ∃(a b:Addr) (kvs:List (TK×V)) (k:TK),x=.ref a/\y=.ref b/\H3 a=some (.dT kvs)/\mK K H3 k (.ref b)/\k.depth<=8/\kvs.length<ai/\D.nx σ (upd H3 a (.dT (cL kvs k v)))
section
variable{X:Cx}{o i value:Expr}{pos pos':Pos}{td ty tv:TE}
theorem jT(hu:X.A.units+16<cLine)(ho:PE X o td)(hi:PE X i ty)(hv:PE X value tv)(hs:qW value (some (.Subscript o i pos')) pos.line X.env=pure false):
  PS X (.Assign [.Subscript o i pos'] value pos) (lL X.K td ty tv):=by
 intro J3 s σ H D I h;refine wpAny_Assign_Subscript (cE (hv J3 s σ H _ I h) fun r s1 ⟨v,H1,I1,rv,q1⟩=>cE (ho J3 s1 σ H1 _ I1 q1) fun u s2 ⟨x,H2,I2,rx,q2⟩=>cE (hi J3 s2 σ H2 _ I2 q2) fun iv s3 ⟨y,H3,I3,ry,a,b,kvs,k,ex,ey,e,eb,e8,l,q3⟩=>?_) hs;subst ex;subst ey;obtain rfl:u=Value.ref a:=rx;exact Br hu I3 e eb e8 l ry rv fun s4 I4=>⟨σ,_,I4,q3⟩
end
theorem vK{K:Za}{H:Hp}:∀xs:List Str,TKCs K H (xs.map fun x=>TK.k (some (.inr x))) (xs.map V.str)
 |[]=>by show TKCs K H [] [];unfold TKCs;rfl
 |x::xs=>by
  rw[bN,bN];unfold TKCs;refine⟨_,_,rfl,?_,vK xs⟩;unfold mK
  rfl
theorem s_{K:Za}{H:Hp}{a:Addr}{xs:Zb}(h:aY K H a (xs.map V.str)):mK K H (.t (xs.map fun x=>TK.k (some (.inr x)))) (.ref a):=by
 unfold mK;exact⟨a,_,rfl,h,vK xs⟩
end L2
end

section
set_option Elab.async false
set_option linter.all false
set_option maxRecDepth 100000
namespace L2
open PySem PySem.Spec PyProof.Rows PySem.W
def Hn:Expr->List Str
 |.Name x _=>[x]
 |.Tuple es _ _=>es.filterMap fun e=>match e with | .Name x _=>some x|_=>none
 |_=>[]
theorem bK{X:Cx}{b:List Stmt}{t:TS}{D:mn}{σ:St}{H:Hp}(r:t D σ H)(p:Al X b t):∃t,Al X b t/\t D σ H:=⟨t,p,r⟩
section
variable{X:Cx}{k k0:Nat}{ps:Zb}{sp:Sp}{x m:Str}{C:Addr}{p pos J5:Pos}{o e a b:Expr}{es:List Expr}{t:TA}{ta tb te:TE}
theorem qf(hr:eW k0 X.A)(D:Def X.prog X.w X.K X.mg X.base x ps k sp)(ha:PA X (e::es) t)(hk:k<=k0:=by decide)(hg:Gl X x:=by rfl)(hdb:(x==("__debug__":Str))=false:=by decide)
  (he:aN (e::es) X.env=(false,eval e X.env)::aN es X.env:=by rfl) (hpl:(backTo pos (aN es X.env)).any (·.1)=false:=by rfl) :
  PE X (.Call (.Name x p) (e::es) [] pos) (aM sp t):=IC D (hr.mono hk) hg ha hdb he hpl
theorem qm{pl:Sem Bool}(hr:eW k0 X.A)(M:CZ X.prog X.w X.K X.mg X.base C m ps k sp)(he:PE X o ta)(ha:PA X (e::es) t)(hk:k<=k0:=by decide)
  (hst:aN (e::es) X.env=(false,eval e X.env)::aN es X.env:=by rfl) (hpl:(backTo pos (aN es X.env)).any (·.1)=false:=by rfl)
  (ht:eval (.Call (.Attribute o m J5) (e::es) [] pos) X.env=(do
   let ov <- eval o X.env
   qX J5.atName
   let(f,first) <- k9 [ov] (qU ov m pl)
   vB pos f first (backTo pos (aN (e::es) X.env)) (oJ pos (oI [] X.env))):=by rfl) :
  PE X (.Call (.Attribute o m J5) (e::es) [] pos) (cX C m sp [] E0 ta t):=HX (pl:=pl) M (hr.mono hk) he ha hst hpl ht
theorem Cg{pl:Sem Bool}(hr:eW k0 X.A)(M:CZ X.prog X.w X.K X.mg X.base C m ps k sp)(he:PE X o ta)(hk:k<=k0:=by decide)
  (ht:eval (.Call (.Attribute o m J5) [] [] pos) X.env=(do
   let ov <- eval o X.env
   qX J5.atName
   let(f,first) <- k9 [ov] (qU ov m pl)
   vB pos f first (backTo pos (aN [] X.env)) (oJ pos (oI [] X.env))):=by rfl) :
  PE X (.Call (.Attribute o m J5) [] [] pos) (cX C m sp [] E0 ta bq):=GO (pl:=pl) M (hr.mono hk) he ht
theorem xl(ha:PE X a ta)(hb:PE X b tb)(hs:Ea b:=by exact fun _ _=>rfl):PE X (.Subscript a b pos) (aH (cZ X.K) ta tb):=Cj CG ha hb hs
theorem xt(ha:PE X a ta)(hb:PE X b tb)(hs:Ea b:=by exact fun _ _=>rfl):PE X (.Subscript a b pos) (aH (h9 X.K) ta tb):=Cj Fo ha hb hs
theorem xq(ha:PE X a ta)(hb:PE X b tb)(hs:Ea b:=by exact fun _ _=>rfl):PE X (.Subscript a b pos) (aH (mV X.K) ta tb):=Cj Ib ha hb hs
theorem xs'(ha:PE X a ta)(hb:PE X b tb)(hs:Ea b:=by exact fun _ _=>rfl):PE X (.Subscript a b pos) (aH EQ ta tb):=Cj Fp ha hb hs
theorem g8{op:CmpOp}{r:R2}(ho:oH X (eZ op) r)(ha:PE X a ta)(hb:PE X b tb)(hm:kO op b=false:=by exact Fa _):PT X (.Compare a [op] [b] pos) (aO (aH r ta tb)):=Ch ho ha hb hm
theorem Hz{op:CmpOp}{r:R2}(ho:oH X (eZ op) r)(ha:PE X a ta)(hb:PE X b tb)(hm:kO op b=false:=by exact Fa _):PE X (.Compare a [op] [b] pos) (aH r ta tb):=Ck ho ha hb hm
theorem Gh{op:CmpOp}{r:R2}(ho:oH X (eZ op) r)(ha:PE X a ta)(hb:PE X b tb)(hm:kO op b=false:=by with_unfolding_all rfl):PT X (.Compare a [op] [b] pos) (aO (aH r ta tb)):=Ch ho ha hb hm
theorem eci{op:CmpOp}{r:R2}(ho:oH X (eZ op) r)(ha:PE X a ta)(hb:PE X b tb)(hm:kO op b=false:=by with_unfolding_all rfl):PE X (.Compare a [op] [b] pos) (aH r ta tb):=Ck ho ha hb hm
theorem qB{id:String}{r:List V->Hp->VK->Prop}(hc:gv X (.builtin id) r)(hm:X.mg x=none)(hv:kP x=some (.builtin id))(ha:PA X (e::es) t)(hg:Gl X x:=by rfl)(hn:x≠"__name__":=by decide)(hdb:(x==("__debug__":Str))=false:=by decide)
  (he:aN (e::es) X.env=(false,eval e X.env)::aN es X.env:=by rfl) (hpl:(backTo pos (aN es X.env)).any (·.1)=false:=by rfl):PE X (.Call (.Name x p) (e::es) [] pos) (eo r t):=zE hc hg hm hv ha hn hdb he hpl
theorem qL(hc:X.calm=true)(hm:X.mg "list"=none)(ha:PA X (e::es) t)(hg:Gl X "list":=by rfl)
  (he:aN (e::es) X.env=(false,eval e X.env)::aN es X.env:=by rfl) (hpl:(backTo pos (aN es X.env)).any (·.1)=false:=by rfl):PE X (.Call (.Name "list" p) (e::es) [] pos) (eo (dw X.K) t):=fJ (Bv hc) hg hm uz ha (by decide) (by decide) he hpl
theorem ql(hm:X.mg "len"=none)(ha:PA X (e::es) t)(hg:Gl X "len":=by rfl)
  (he:aN (e::es) X.env=(false,eval e X.env)::aN es X.env:=by rfl) (hpl:(backTo pos (aN es X.env)).any (·.1)=false:=by rfl):PE X (.Call (.Name "len" p) (e::es) [] pos) (eo (eC X.K) t):=zE D0 hg hm PySem.boot_len ha (by decide) (by decide) he hpl
theorem qs(i:Nat){pos':Pos}(hN:X.N.Nodup)(he:PE X e te)(hi:X.N[i]?=some x:=by rfl)(hx:Loc X.env.scope x:=by first|exact Or.inl rfl|exact Or.inr rfl)(hs:qW e (some (.Name x pos')) pos.line X.env=pure false:=by rfl)(hf:X.fn x=true∨X.env.scope.names.lookup x=some .local:=by first|exact .inl rfl|exact .inr rfl|assumption):
  PS X (.Assign [.Name x pos'] e pos) (aP te (eF i)):=HR hN hi hx he hs hf
theorem gn(i:Nat)(hN:X.N.Nodup)(hi:X.N[i]?=some x:=by rfl)(hx:Loc X.env.scope x:=by first|exact Or.inl rfl|exact Or.inr rfl)(hf:X.fn x=true∨X.env.scope.names.lookup x=some .local:=by first|exact .inl rfl|exact .inr rfl|assumption):PG X (.Name x pos) (eF i):=Ci hN hi hx hf
theorem gc(i:Nat)(hN:X.N.Nodup:=by exact of_decide_eq_true (by with_unfolding_all rfl))(hi:X.N[i]?=some x:=by rfl)(hx:Loc X.env.scope x:=by exact Or.inl rfl)(hf:X.fn x=true∨X.env.scope.names.lookup x=some .local:=by first|exact .inl rfl|exact .inr rfl|assumption):PG X (.Name x pos) (eF i):=Ci hN hi hx hf
theorem a1(ha:PE X a ta)(hs:aN [a] X.env=(false,eval a X.env)::aN [] X.env:=by rfl):PA X [a] (ar ta bq):=bX ha cw hs
theorem a2(ha:PE X a ta)(hb:PE X b tb)(hs:aN [a,b] X.env=(false,eval a X.env)::aN [b] X.env:=by rfl)(hs2:aN [b] X.env=(false,eval b X.env)::aN [] X.env:=by rfl):PA X [a,b] (ar ta (ar tb bq)):=bX ha (bX hb cw hs2) hs
theorem a3{c:Expr}{tc:TE}(ha:PE X a ta)(hb:PE X b tb)(hc:PE X c tc)(hs:aN [a,b,c] X.env=(false,eval a X.env)::aN [b,c] X.env:=by rfl)(hs1:aN [b,c] X.env=(false,eval b X.env)::aN [c] X.env:=by rfl)(hs2:aN [c] X.env=(false,eval c X.env)::aN [] X.env:=by rfl):PA X [a,b,c] (ar ta (ar tb (ar tc bq))):=bX ha (a2 hb hc hs1 hs2) hs
variable{elt iter tg:Expr}{ifs:List Expr}{scope:Scope}{fi:List Nat}{wi:TI}{g:TG}{tc:TT}
theorem qc(hi:PI X tg iter wi)(ho:Ae k g)
  (h:∀C cl s₀ H₀ ex pn,PG (dU X (Hn tg++fi.map fun i=>X.N.getD i "") scope C cl s₀ H₀ ex pn) tg g/\HF (dU X (Hn tg++fi.map fun i=>X.N.getD i "") scope C cl s₀ H₀ ex pn) ifs tc/\PE (dU X (Hn tg++fi.map fun i=>X.N.getD i "") scope C cl s₀ H₀ ex pn) elt te)
  (hS:mJ X.env.scope scope k (Hn tg++fi.map fun i=>X.N.getD i "") X.N fi=true:=by with_unfolding_all rfl) (hc:X.calm=true:=by rfl)
  (hs:∀x,yM iter X.env x=pure x:=by intro _;rfl):PE X (.ListComp elt [⟨tg,iter,ifs,0⟩] scope pos) (dC k fi wi g tc te) :=
 GS hS hc hi (fun _ _ _ _ _ _=>(h _ _ _ _ _ _).1) ho (fun _ _ _ _ _ _=>(h _ _ _ _ _ _).2.1) (fun _ _ _ _ _ _=>(h _ _ _ _ _ _).2.2) hs
theorem qsc(j:Nat){y:Str}{spos py:Pos}(hN:X.N.Nodup)(hi:PI X tg iter wi)(ho:Ae k g)
  (h:∀C cl s₀ H₀ ex pn,PG (dU X (Hn tg++fi.map fun i=>X.N.getD i "") scope C cl s₀ H₀ ex pn) tg g/\HF (dU X (Hn tg++fi.map fun i=>X.N.getD i "") scope C cl s₀ H₀ ex pn) ifs tc/\PE (dU X (Hn tg++fi.map fun i=>X.N.getD i "") scope C cl s₀ H₀ ex pn) elt te)
  (hj:X.N[j]?=some y:=by rfl) (hy:Loc X.env.scope y:=by first|exact Or.inl rfl|exact Or.inr rfl)
  (hS:mJ X.env.scope scope k (Hn tg++fi.map fun i=>X.N.getD i "") X.N fi=true:=by with_unfolding_all rfl) (hc:X.calm=true:=by rfl)
  (hsw:qW (.ListComp elt [⟨tg,iter,ifs,0⟩] scope pos) (some (.Name y py)) spos.line X.env=pure true:=by rfl)
  (hs:∀x,yM iter X.env x=pure x:=by intro _;rfl) (hf:X.fn y=true∨X.env.scope.names.lookup y=some .local:=by first|exact .inl rfl|exact .inr rfl|assumption) :
  PS X (.Assign [.Name y py] (.ListComp elt [⟨tg,iter,ifs,0⟩] scope pos) spos) (aP (dC k fi wi g tc te) (eF j)) :=
 A0 hN hj hy hS hc hi (fun _ _ _ _ _ _=>(h _ _ _ _ _ _).1) ho (fun _ _ _ _ _ _=>(h _ _ _ _ _ _).2.1) (fun _ _ _ _ _ _=>(h _ _ _ _ _ _).2.2) hsw hs hf
end
end L2
end

section
set_option Elab.async false
set_option linter.all false
set_option maxRecDepth 100000
namespace L2
open PySem PySem.Spec PyProof.Rows
structure vq(h:Heap)(d:Addr)(es:Array jv)(ep:Nat):Prop where
 ex:∃o,h.get? d=some o/\o.ExactDict/\o.data=.dict es ep
section
variable{prog:bT}{w:World}{A:Around}{E:Zc}{s:Shared}{d v it:Addr}{es:Array jv}{ep i:Nat}
theorem vq.ty(h:vq s.heap d es ep):s.TypeIs (.ref d) "dict":=let⟨o,ho,e,_⟩:=h.ex;⟨o,ho,e.1⟩
theorem Ds{Q:Zc}(h:vq s.heap d es ep)(hd:(d==gE)=false)(q:Q (.ref s.heap.objs.size) { s with heap:=s.heap.push { cls:=.type "dict_items",data:=.fields #[.ref d] } }):
  wpAny (model prog w) A (call (.builtin "dict.items") [.ref d]) Q E s:=by
 refine pX F.slot_dict_items h.ty F.entry_dict_items ?_ (F.args_dict_items_1 _);unfold cy.«dict.items» cy.Dict.noArgs;refine am <| am <| wH h.ty <| ?_;refine aD (show wpAny _ _ (wF d >>= _) _ _ s from ?_);unfold wF;rw[if_neg (fun z=>by rw[hd]at z;cases z)];exact am <| aD <| am <| ju <| aD ⟨_,rfl,q⟩
theorem EL{Q:Zc}(hv:s.heap.IsItemsView v d)(h:vq s.heap d es ep)
  (q:∀h',iS h' s.heap.objs.size d 0 es.size ep .none .none->(∀b o,s.heap.get? b=some o->h'.get? b=some o)->Q (.ref s.heap.objs.size) { s with heap:=h' }):wpAny (model prog w) A (pyIter (.ref v)) Q E s:=by
 obtain⟨ov,hov,hcv,hdv⟩:=id hv;obtain⟨o,ho,hx,hdat⟩:=h.ex;refine wpAny_pyIter_slot hv.typeIs F.slot_dict_items_iter <| pX F.slot_dict_items_iter hv.typeIs F.entry_dict_items_iter ?_ (F.args_dict_items_iter_1 _);unfold cy.«dict_items.__iter__» cy.Dict_items.dictOf cy.Dict_items.newIterator;refine am <| aD <| am <| am <| fb hov hdv (x:=.ref d) rfl <| aD <| am <| am <| nC ho hdat <| am <| p7 ho hdat ?_;simp only[show sG "dict_itemiterator"=true by decide,if_true];refine ju (aD ⟨_,rfl,"dict_itemiterator",_,⟨_,cF _ rfl,rfl⟩,sF.lookup,?_⟩) ?_
 ·refine q _ ?_ fun b o e=>bw _ e;simpa[rawInt,iS,cy.Dict_items.ownedTupleFields]using cF s.heap (o:={ cls:=.type "dict_itemiterator",data:=.fields #[.none,.bool false,.ref d,.int 0 0,.int es.size 0,.int ep 0,.none,.none] }) rfl
 ·simp only[sizeOk,cy.Dict_items.ownedTupleFields,bL,aL,d4,wX,k7];omega
theorem EJ{ok ov:Value}{Q:Option Value->Shared->Prop}(hit:iS s.heap it d i es.size ep ok ov)(h:vq s.heap d es ep)(hi:i<es.size)
  (q:∀h',IsItemIterOut h' it d (i+1) es.size ep es[i].key es[i].val s.heap.objs.size->h'.get? s.heap.objs.size=some { cls:=.type "tuple",data:=.seq #[es[i].key,es[i].val] } ->
   (∀b o,b≠it->s.heap.get? b=some o->h'.get? b=some o)->Q (some (.ref s.heap.objs.size)) { s with heap:=h' }):wpAny (model prog w) A (pyNext (.ref it)) Q E s:=by
 obtain⟨o,ho,hx,hdat⟩:=h.ex;obtain⟨hp,g,dr,tk,os⟩:=s;have ty:∀{h':Heap}{ok ov:Value}{j:Nat},iS h' it d j es.size ep ok ov->Shared.TypeIs ⟨h',g,dr,tk,os⟩ (.ref it) "dict_itemiterator":=fun x=>⟨_,x,rfl⟩;have hT:=ty hit;have own:sG "dict_itemiterator"=true:=by decide
 unfold pyNext;refine am <| p8 <| lm (name:=lh "__next__") hT sF <| pX sF hT F.entry_dict_itemiterator_next ?_ (F.args_dict_itemiterator_next_1 _);refine am <| aD <| am <| am ?_
 first|refine am <| wE hT <| aD ?_|refine am <| wD hT <| aD ?_
 refine am <| wC hit rfl ?_;simp only[own,if_true];show wpAny _ _ (if(Value.ref d==Value.none)=true then _ else _) _ _ _
 rw[if_neg (show ¬((Value.ref d==Value.none)=true)from fP)];refine am <| aD <| am <| nC ho hdat ?_;rw[if_neg (by simp)];refine am <| aD <| am <| p7 ho hdat ?_;rw[if_neg (by simp)];refine aD ?_;simp only[show ¬((i:Int)<0)from by omega,if_false,jw,Array.getElem?_eq_getElem hi];refine am ?_
 first|refine am <| wE hT <| aD ?_|refine am <| wD hT <| aD ?_
 refine am <| wpAny_isOneOf_itemiter hT ?_;show wpAny _ _ (wB (.ref it) 3 (rawInt ((i:Int)+1)) >>= _) _ _ ⟨hp,g,dr,tk,os⟩;refine am <| iT hit (by simp) fun h1 e1 s1=>?_;have s1:fG it hp h1:=s1;have e1:iS h1 it d (i+1) es.size ep ok ov:=by
  have z:((i+1:Nat):Int)=(i:Int)+1:=by omega
  unfold iS;rw[z];simpa[rawInt]using e1
 have T1:=ty e1;refine am <| lg <| am <| wpAny_isOneOf_itemiter T1 <| am <| wpAny_isOneOf_itemiter T1 ?_;show wpAny _ _ (cy.Dict_items.pairFromOwner (.ref it) 6 es[i].key es[i].val) _ _ ⟨h1,g,dr,tk,os⟩;unfold cy.Dict_items.pairFromOwner;refine am <| wpAny_newTuple ?_;have e2:iS (h1.push { cls:=.type "tuple",data:=.seq #[es[i].key,es[i].val] }) it d (i+1) es.size ep ok ov:=bw _ e1;have z1:h1.objs.size=hp.objs.size:=s1.1;have t2:(h1.push { cls:=.type "tuple",data:=.seq #[es[i].key,es[i].val] }).get? hp.objs.size=some { cls:=.type "tuple",data:=.seq #[es[i].key,es[i].val] }:=by rw[<-z1];exact cF _ rfl
 have k2:∀b o,b≠it->hp.get? b=some o->(h1.push { cls:=.type "tuple",data:=.seq #[es[i].key,es[i].val] }).get? b=some o:=fun b o hb e=>bw _ (s1.extBut b o hb e);rw[z1];generalize h1.push { cls:=.type "tuple",data:=.seq #[es[i].key,es[i].val] }=h2 at e2 t2 k2;show wpAny _ _ (cy.Dict_items.ownedTupleIsFree (.ref it) >>= _) _ _ ⟨h2,g,dr,tk,os⟩;have lt:it<hp.objs.size:=be hit;have ne:hp.objs.size≠it:=gD lt;refine am ?_;unfold cy.Dict_items.ownedTupleIsFree;refine am <| fb e2 rfl (x:=.none) rfl <| aD ?_;simp only[if_true];refine am <| fb e2 rfl (x:=ok) rfl <| am <| fb e2 rfl (x:=ov) rfl <| am <| iT e2 (by simp) fun h3 e3 s3=>?_;have s3:fG it h2 h3:=s3;have e3:iS h3 it d (i+1) es.size ep es[i].key ov:=e3;refine am <| iT e3 (by simp) fun h4 e4 s4=>?_;have s4:fG it h3 h4:=s4;have e4:iS h4 it d (i+1) es.size ep es[i].key es[i].val:=e4;refine am <| iT e4 (by simp) fun h5 e5 s5=>?_;have s5:fG it h4 h5:=s5;have e5:IsItemIterOut h5 it d (i+1) es.size ep es[i].key es[i].val hp.objs.size:=e5;refine am <| iT e5 (by simp) fun h6 e6 s6=>?_;have s6:fG it h5 h6:=s6;have e6:IsItemIterOut h6 it d (i+1) es.size ep es[i].key es[i].val hp.objs.size:=e6;have up:∀b o,b≠it->h2.get? b=some o->h6.get? b=some o:=fun b o hb e=>s6.extBut b o hb <| s5.extBut b o hb <| s4.extBut b o hb <| s3.extBut b o hb e;exact am <| wO <| aD <| aD ⟨_,rfl,aD <| q h6 e6 (up _ _ ne t2) fun b o hb e=>up b o hb (k2 b o hb e)⟩
theorem GF{ok ov:Value}{Q:Option Value->Shared->Prop}(hh:A.handled=none)(hit:iS s.heap it d i es.size ep ok ov)(h:vq s.heap d es ep)(hi:es.size<=i)
  (q:∀h',Heap.ExtBut it s.heap h'->Q none { s with heap:=h' }):wpAny (model prog w) A (pyNext (.ref it)) Q E s:=by
 obtain⟨o,ho,hx,hdat⟩:=h.ex;have hT:s.TypeIs (.ref it) "dict_itemiterator":=⟨_,hit,rfl⟩;have own:sG "dict_itemiterator"=true:=by decide
 unfold pyNext;refine am <| p8 <| lm (name:=lh "__next__") hT sF <| pX sF hT F.entry_dict_itemiterator_next ?_ (F.args_dict_itemiterator_next_1 _);refine am <| aD <| am <| am ?_
 first|refine am <| wE hT <| aD ?_|refine am <| wD hT <| aD ?_
 refine am <| wC hit rfl ?_;simp only[own,if_true];show wpAny _ _ (if(Value.ref d==Value.none)=true then _ else _) _ _ _
 rw[if_neg (show ¬((Value.ref d==Value.none)=true)from fP)];refine am <| aD <| am <| nC ho hdat ?_;rw[if_neg (by simp)];refine am <| aD <| am <| p7 ho hdat ?_;rw[if_neg (by simp)];refine aD ?_;simp only[show ¬((i:Int)<0)from by omega,if_false,jw,Array.getElem?_eq_none hi];refine am ?_
 first|refine am <| wE hT <| aD ?_|refine am <| wD hT <| aD ?_
 show wpAny _ _ (wB (.ref it) 2 .none >>= _) _ _ s;refine am <| sM hit rfl (by simp) ?_;show wpAny _ _ (newExc (.type "StopIteration") [] >>= _) _ _ _;refine am ?_;simp only[newExc,newTuple];refine am <| ju ?_ (by size_fits);refine am (m:=p9 _ _) <| wpAny_of_eq (a:=Value.none) (by first|rfl|(simp only[p9];rfl)) <| ju ?_ (by size_fits)
 simp only[raiseNew];refine am <| wpAny_handled ?_;rw[show A.in1.handled=none from hh];refine am <| aD <| wpAny_throw ?_;refine am (yO (b:=true) (T:="StopIteration") ⟨_,cF _ rfl,rfl⟩ isSubtype_stop (aD (q _ (((lc ..).extBut.push _).push _))))
end
def Hm(d:Addr)(o:Obj)(u:HO)(n:Nat)(ent:Nat->Hp->V->V->Prop):It :=
 ⟨fun i H=>H d=some (.frz o u)/\i<n,fun i H x H'=>∃p a b,H p=none/\x=.ref p/\ent i H a b/\H'=upd H p (.tup [a,b]),fun i H=>H d=some (.frz o u)/\n<=i⟩
structure FV(P:bT)(w:World)(K:Za)(d:Addr)(o:Obj)(u:HO)(n:Nat)(ent:Nat->Hp->V->V->Prop)(es:Array jv)(ep:Nat):Prop where
 ex:o.ExactDict
 dat:o.data=.dict es ep
 sz:es.size=n
 get:∀{H:Hp}{h:Heap}{i:Nat}(hi:i<es.size),mL P w K H h->H d=some (.frz o u)->∃a b,ent i H a b/\RelV a es[i].key/\RelV b es[i].val
theorem Ap{P:bT}{w:World}{K:Za}{xs:List Expr}{kx:Nat}{J7:Pos}{d it:Addr}{o:Obj}{u:HO}{n:Nat}{ent:Nat->Hp->V->V->Prop}{es:Array jv}{ep:Nat}(X0:FV P w K d o u n ent es ep):
  rS P w K (.Tuple xs kx J7) (Hm d o u n ent) [it] it (fun i h=>∃ok ov,iS h it d i n ep ok ov) where
 mem:=by simp
 obj:=fun i h ⟨ok,ov,st⟩ b hb=>by
  have e:b=it:=by simpa using hb
  subst e;exact⟨_,st,fun v z=>by cases z⟩
 keep:=fun i h h' ⟨ok,ov,st⟩ k=>⟨ok,ov,k it (by simp) _ st⟩
 item:=by
  intro X hP hw hK hc i J3 s σ H E I hf ⟨ok,ov,st⟩ hg;subst hP hw hK;obtain⟨hd,hi⟩:=hg;have hi':i<es.size:=by rw[X0.sz];exact hi
  obtain⟨g,ou⟩:=(show b9 X.prog X.w X.K H s.heap d (.frz o u)from I.hok d _ hd);obtain⟨a,b,en,ra,rb⟩:=X0.get hi' I.hok hd;obtain⟨f0,f1,f2,f3,f4,f5⟩:=hf it (by simp);rw[<-X0.sz]at st;refine EJ st ⟨o,g,X0.ex,X0.dat⟩ hi' fun h' ho' ht' hk'=>?_;refine⟨_,rfl,wpAny_letOwnedTupleGo_items (s:={ s with heap:=h' }) ho' fun h2 he2 hs2=>?_⟩;have hs2':fG it h' h2:=hs2;have hpe:s.heap.objs.size≠it:=gD (be st);have ht2:h2.get? s.heap.objs.size=some { cls:=.type "tuple",data:=.seq #[es[i].key,es[i].val] }:=hs2'.extBut _ _ hpe ht';have hn0:H s.heap.objs.size=none:=I.fresh;have I2:Inv X J3 σ (upd H s.heap.objs.size (.tup [a,b])) { s with heap:=h2,toks:=s.toks }:=by
   refine I.turnedNew (ch:=[it]) hf (fun c o hb q=>?_) ⟨_,ht2⟩ (fun _ z=>nomatch z) ⟨by show 2<=ai;decide,[es[i].key,es[i].val],.cons ra (.cons rb .nil),⟨_,ht2,rfl,_,rfl⟩⟩;have nb1:c≠it:=fun z=>hb (by simp[z]);exact hs2'.extBut _ _ nb1 (hk' c o nb1 q)
  refine⟨.ref s.heap.objs.size,_,I2,rfl,⟨_,a,b,hn0,rfl,en,rfl⟩,⟨_,_,by rw[<-X0.sz];exact he2⟩,fun c hb=>?_⟩;have e:c=it:=by simpa using hb
  subst e;rw[ag (dB hpe)];exact f0
 done:=by
  intro X hP hw hK hc i J3 s σ H E I hf ⟨ok,ov,st⟩ hg;subst hP hw hK;obtain⟨hd,hi⟩:=hg;obtain⟨g,ou⟩:=(show b9 X.prog X.w X.K H s.heap d (.frz o u)from I.hok d _ hd);obtain⟨f0,f1,f2,f3,f4,f5⟩:=hf it (by simp);rw[<-X0.sz]at st;exact GF (I.ok.hd hc) st ⟨o,g,X0.ex,X0.dat⟩ (by rw[X0.sz];exact hi) fun h' eb=>⟨rfl,I.turned (t':=s.toks) (fun b o hb e=>eb b o hb e) f0 f1 f3 f4 f5⟩
 self:=fun _ _ _ _ _ ⟨_,_,st⟩ h=>PySem.W.kcp_self st h
def Bq(K:Za)(kvs:List (TK×V)):Nat->Hp->V->V->Prop:=fun i H a b=>∃k,kvs[i]?=some (k,b)/\mK K H k a
theorem mI{P:bT}{w:World}{K:Za}{H:Hp}{h:Heap}{d:Addr}{o:Obj}{kvs:List (TK×V)}(hok:mL P w K H h)(e:H d=some (.frz o (.dT kvs))):
  (d==gE)=false/\∃es ep,FV P w K d o (.dT kvs) kvs.length (Bq K kvs) es ep:=by
 obtain⟨g,z,hsys,xs,rel,o',es,ep,ho',ex,hd,hes,nd⟩:=(show b9 P w K H h d (.frz o (.dT kvs))from hok d _ e);rw[g]at ho';cases ho';have hl:es.size=xs.length:=by rw[<-ng,hes,aj]
 refine⟨hsys,es,ep,ex,hd,by rw[hl,Paired.length rel],fun{H' h' i} hi hok' e'=>?_⟩;obtain⟨g',z',hsys',xs',rel',o'',es',ep',ho'',ex',hd',hes',nd'⟩:=(show b9 P w K H' h' d (.frz o (.dT kvs))from hok' d _ e');rw[g']at ho'';cases ho'';rw[hd]at hd';cases hd';have hl':es.size=xs'.length:=by rw[<-ng,hes',aj]
 have hi':i<xs'.length:=by omega
 have hk:i<kvs.length:=by rw[Paired.length rel'];exact hi'
 have hp:=vR rel' (i:=i) (a:=kvs[i]) (b:=xs'[i]) (by simp[hk]) (by simp[hi']);have he:es[i]=entryOfKey (d6 P w) xs'[i]:=by
  have:es.toList[i]?=some es[i]:=by simp[hi]
  rw[hes',bZ,bY hi']at this;injection this with this;exact this.symm
 refine⟨.ref xs'[i].2.1,kvs[i].2,⟨kvs[i].1,by simp[hk],hp.2.1⟩,?_,?_⟩
 ·rw[he];exact rfl
 ·rw[he];exact hp.2.2.2
def ya(K:Za)(tl:TE):TI:=fun σ H R=>tl σ H fun x H1=>∃d kvs,x=.ref d /\
 ((H1 d=some (.dT kvs)/\∀o,R (Hm d o (.dT kvs) kvs.length (Bq K kvs)) (upd H1 d (.frz o (.dT kvs))))∨∃o,H1 d=some (.frz o (.dT kvs))/\R (Hm d o (.dT kvs) kvs.length (Bq K kvs)) H1)
section
variable{X:Cx}{J3:Zd}{σ:St}{l:Expr}{tl:TE}{J5 J4 J7:Pos}{xs:List Expr}{kx:Nat}
theorem uk{R:It->Hp->Prop}{H2:Hp}{s1:Shared}{d:Addr}{o:Obj}{u:HO}{n:Nat}{ent:Nat->Hp->V->V->Prop}{es:Array jv}{ep:Nat}(X0:FV X.prog X.w X.K d o u n ent es ep)(hsys:(d==gE)=false)(I2:Inv X J3 σ H2 s1)(e:H2 d=some (.frz o u))(q:R (Hm d o u n ent) H2):
  MethodOn X.prog X.w X.A "items" J4 (.ref d) [] (fun v s2=>wpAny (model X.prog X.w) X.A (pyIter v) (Jh X J3 σ (.Tuple xs kx J7) R) X.xe s2) X.xe s1:=by
 obtain⟨g,_⟩:=(show b9 X.prog X.w X.K H2 s1.heap d (.frz o u)from I2.hok d _ e);have raw:vq s1.heap d es ep:=⟨o,g,X0.ex,X0.dat⟩;refine⟨"dict","dict.items",F.plainAttrs_dict,F.slot_dict_items,F.type_dict_items,raw.ty,fun a z=>?_,sT rfl (PySem.evalArgs_none (Ds raw hsys ?_))⟩
 ·cases z;exact⟨o,g,X0.ex.2.1⟩
 refine EL (s:={ s1 with heap:=s1.heap.push { cls:=.type "dict_items",data:=.fields #[.ref d] } }) ⟨_,cF _ rfl,rfl,rfl⟩ ⟨o,bw _ g,X0.ex,X0.dat⟩ fun h' hit hk=>?_;have I3:Inv X J3 σ H2 { s1 with heap:=h',toks:=s1.toks }:=I2.kept (t':=s1.toks) fun b o e=>hk b o (bw _ e);refine⟨_,[_],_,_,H2,rfl,I3,Ap X0,⟨_,_,by rw[<-X0.sz];exact hit⟩,fun b hb=>?_,q⟩;have e:b=(s1.heap.push { cls:=.type "dict_items",data:=.fields #[.ref d] }).objs.size:=by simpa using hb
 subst e;have z:s1.heap.objs.size<=(s1.heap.push { cls:=.type "dict_items",data:=.fields #[.ref d] }).objs.size:=by rw[oK];exact si _
 exact I2.fpOk z (I2.hok.fresh z)
theorem vP(hl:PE X l tl)(hbase:sk l "items" X.env (eval l X.env)=eval l X.env:=by rfl)(hline:(J5.endLine==J4.line)=true:=by rfl):PI X (.Tuple xs kx J7) (.Call (.Attribute l "items" J5) [] [] J4) (ya X.K tl):=by
 intro J3 s σ H R I h;refine wpAny_Call_method0_late hbase hline (cE (hl J3 s σ H _ I h) fun v s1 ⟨x,H1,I1,r1,d,kvs,ex,q⟩=>?_);subst ex;cases r1;rcases q with⟨e,q⟩|⟨o,e,q⟩
 ·obtain⟨z,hsys,xs',rel,o,es,ep,ho,r⟩:=id (show b9 X.prog X.w X.K H1 s1.heap d (.dT kvs)from I1.hok d _ e);have I2:Inv X J3 σ (upd H1 d (.frz o (.dT kvs))) { s1 with heap:=s1.heap,toks:=s1.toks } :=
   I1.write (x:=d) (e:=d) (t':=s1.toks) (by rw[e];trivial) (.inl rfl) (fun _ _ _ q=>q) ⟨o,ho⟩ ⟨ho,z,hsys,xs',Paired.mapP rel (fun p q r=>⟨r.1,mK.keeps (fun b ys eb=>by rw[ag (fun z=>by rw[z,e]at eb;cases eb)];exact eb) 8 r.2.2.1 r.2.1,r.2.2⟩),o,es,ep,ho,r⟩
  obtain⟨hsys',es',ep',X0⟩:=mI I2.hok (aa (H:=H1) (a:=d));exact uk X0 hsys' I2 aa (q o)
 ·obtain⟨hsys',es',ep',X0⟩:=mI I1.hok e;exact uk X0 hsys' I1 e q
end
def xw(K:Za)(tk tv:TE):TE:=fun σ H Q=>∀p,H p=none->tk σ (upd H p (.dT [])) fun x H1=>tv σ H1 fun y H2=>H2 p=some (.dT [])/\∃b k,x=.ref b/\mK K H2 k (.ref b)/\k.depth<=8/\Q (.ref p) (upd H2 p (.dT [(k,y)]))
theorem vQ{X:Cx}{pos:Pos}{k v:Expr}{tk tv:TE}(hu:X.A.units+16<cLine)(hk:PE X k tk)(hv:PE X v tv):PE X (.Dict [some k] [v] pos) (xw X.K tk tv):=by
 intro J3 s σ H Q I q;have hn:=I.hok.fresh (aB s.heap.objs.size);have I1:=I.laid (a:=s.heap.objs.size) (o:=.dT []) (h':=s.heap.push { cls:=.type "dict",data:=.dict #[] }) (t':=s.toks) (fun _ _ q=>bw _ q) (aB _) (z0 s.heap I.big);rw[arm_eval_Dict,zip_pairTrees [some k] [v] X.env pos rfl rfl,dictDisplay_pairs (pairTrees [some k] [v] X.env pos) (by unfold pairTrees;simp) (by show 1<17;decide)];refine am (BU (am ?_));unfold subDict;refine am (wpAny_alloc ?_);refine am (lg ?_);rw[if_pos (show(pairTrees [some k] [v] X.env pos).length<=15 from by show 1<=15;decide)];refine am (pairTrees_cons_walk (cE (hk J3 _ σ _ _ I1 (q _ hn)) fun u s1 ⟨x,H1,I1,rx,q1⟩=>cE (hv J3 s1 σ H1 _ I1 q1) fun r s2 ⟨y,H2,I2,ry,e,b,kk,ex,eb,e8,q2⟩=>pairTrees_nil_walk ?_));subst ex;cases rx;refine lg ?_;obtain⟨z,hd,xs,rel,dd⟩:=CJ I2.hok I2.kIn e;cases rel;rw[qa];refine am (am (am (wpAny_dictSet_heap (hsz:=db _) (show(d6 X.prog X.w).room X.A from by show X.A.units+8<cLine;omega) (uh I2.hok I2.kIn eb e8) dd fun h' dd' hs=>aD ?_)));show wpAny _ _ (forIn [] PUnit.unit _) _ _ _;rw[List.forIn_nil];refine aD (aD (aD (aD ⟨.ref s.heap.objs.size,_,?_,rfl,q2⟩)));obtain⟨q,es,ep,hq,h2,h3,h4,_,h5⟩:=dd';refine pH I2 (by rw[e];exact je) hs ⟨q,hq⟩ ⟨by show 1<=ai;decide,hd,_,((KT.put (kvs:=[]) .nil kk eb e8 ry)).keeps fun c ys ec=>?_,q,es,ep,hq,h2,h3,h4,h5⟩;rw[ag (Cy ec e (fun z=>nomatch z))];exact ec
section
variable{prog:bT}{w:World}{A:Around}{E:Zc}{s:Shared}{d v it:Addr}{es:Array jv}{ep i:Nat}
theorem Dr{Q:Zc}(hd:(d==gE)=false)(h:vq s.heap d es ep)
  (q:∀h',h'.IsKeyIter s.heap.objs.size d 0 es.size ep->(∀b o,s.heap.get? b=some o->h'.get? b=some o)->Q (.ref s.heap.objs.size) { s with heap:=h' }):wpAny (model prog w) A (pyIter (.ref d)) Q E s:=by
 obtain⟨o,ho,hx,hdat⟩:=h.ex;refine wpAny_pyIter_slot h.ty F.slot_dict_iter <| pX F.slot_dict_iter h.ty F.entry_dict_iter ?_ (F.args_dict_iter_1 _);unfold cy.«dict.__iter__»;refine am ?_;unfold cy.Dict.dictSlotNone;refine am <| wH h.ty <| ?_;refine aD (show wpAny _ _ (wF d >>= _) _ _ s from ?_);unfold wF;rw[if_neg (fun z=>by rw[hd]at z;cases z)];refine am <| aD <| am <| nC ho hdat <| am <| p7 ho hdat ?_;refine am (ju (aD ⟨_,rfl,"dict_keyiterator",_,⟨_,cF _ rfl,rfl⟩,sE.lookup,?_⟩));exact q _ ⟨_,cF _ rfl,rfl,by simp[rawInt]⟩ fun b o e=>bw _ e
theorem Dq{Q:Option Value->Shared->Prop}(hit:s.heap.IsKeyIter it d i es.size ep)(h:vq s.heap d es ep)(hi:i<es.size)
  (q:∀h',h'.IsKeyIter it d (i+1) es.size ep->fG it s.heap h'->Q (some es[i].key) { s with heap:=h' }):wpAny (model prog w) A (pyNext (.ref it)) Q E s:=by
 obtain⟨ov,hov,hcv,hdv⟩:=id hit;obtain⟨o,ho,hx,hdat⟩:=h.ex;have hT:=hit.typeIs;unfold pyNext;refine am <| p8 <| lm (name:=lh "__next__") hT sE <| pX sE hT F.entry_dict_keyiterator_next ?_ (F.args_dict_keyiterator_next_1 _);refine am <| aD <| am <| am ?_
 first|refine am <| wA hT <| aD ?_|refine am <| wz hT <| aD ?_
 refine am <| wC hov hdv ?_;simp only[show sG "dict_keyiterator"=false by decide,lp,if_false];show wpAny _ _ (if(Value.ref d==Value.none)=true then _ else _) _ _ _
 rw[if_neg (show ¬((Value.ref d==Value.none)=true)from fP)];refine am <| aD <| am <| nC ho hdat ?_;rw[if_neg (by simp)];refine am <| aD <| am <| p7 ho hdat ?_;rw[if_neg (by simp)];refine aD ?_;simp only[show ¬((i:Int)<0)from by omega,if_false,jw,Array.getElem?_eq_getElem hi];refine am ?_
 first|refine am <| wA hT <| aD ?_|refine am <| wz hT <| aD ?_
 refine am <| wpAny_isOneOf_keyiter hT ?_;show wpAny _ _ (wB (.ref it) 1 (rawInt ((i:Int)+1)) >>= _) _ _ s;refine am <| sM hov hdv (by simp) ?_;have n1:(s.heap.update it (Obj.mapFields (·.setIfInBounds 1 (rawInt ((i:Int)+1))))).IsKeyIter it d (i+1) es.size ep:=⟨_,w_ _ hov (Obj.isFreed_of_fields (wR hdv _)),(Obj.cls_mapFields ..).trans hcv,by rw[wR hdv];simp[rawInt]⟩;have T1:=Heap.IsKeyIter.typeIs (s:={ s with heap:=s.heap.update it (Obj.mapFields (·.setIfInBounds 1 (rawInt ((i:Int)+1)))) }) n1;refine am <| lg <| am <| wpAny_isOneOf_keyiter T1 ?_;show wpAny _ _ (pure es[i].key) _ _ _;exact aD <| aD ⟨_,rfl,aD <| q _ n1 (lc ..)⟩
theorem EK{Q:Option Value->Shared->Prop}(hh:A.handled=none)(hit:s.heap.IsKeyIter it d i es.size ep)(h:vq s.heap d es ep)(hi:es.size<=i)
  (q:∀h',Heap.ExtBut it s.heap h'->Q none { s with heap:=h' }):wpAny (model prog w) A (pyNext (.ref it)) Q E s:=by
 obtain⟨ov,hov,hcv,hdv⟩:=id hit;obtain⟨o,ho,hx,hdat⟩:=h.ex;have hT:=hit.typeIs;unfold pyNext;refine am <| p8 <| lm (name:=lh "__next__") hT sE <| pX sE hT F.entry_dict_keyiterator_next ?_ (F.args_dict_keyiterator_next_1 _);refine am <| aD <| am <| am ?_
 first|refine am <| wA hT <| aD ?_|refine am <| wz hT <| aD ?_
 refine am <| wC hov hdv ?_;simp only[show sG "dict_keyiterator"=false by decide,lp,if_false];show wpAny _ _ (if(Value.ref d==Value.none)=true then _ else _) _ _ _
 rw[if_neg (show ¬((Value.ref d==Value.none)=true)from fP)];refine am <| aD <| am <| nC ho hdat ?_;rw[if_neg (by simp)];refine am <| aD <| am <| p7 ho hdat ?_;rw[if_neg (by simp)];refine aD ?_;simp only[show ¬((i:Int)<0)from by omega,if_false,jw,Array.getElem?_eq_none hi];refine am ?_
 first|refine am <| wA hT <| aD ?_|refine am <| wz hT <| aD ?_
 show wpAny _ _ (wB (.ref it) 0 .none >>= _) _ _ s;refine am <| sM hov hdv (by simp) ?_;show wpAny _ _ (newExc (.type "StopIteration") [] >>= _) _ _ _;refine am ?_;simp only[newExc,newTuple];refine am <| ju ?_ (by size_fits);refine am (m:=p9 _ _) <| wpAny_of_eq (a:=Value.none) (by first|rfl|(simp only[p9];rfl)) <| ju ?_ (by size_fits)
 simp only[raiseNew];refine am <| wpAny_handled ?_;rw[show A.in1.handled=none from hh];refine am <| aD <| wpAny_throw ?_;refine am (yO (b:=true) (T:="StopIteration") ⟨_,cF _ rfl,rfl⟩ isSubtype_stop (aD (q _ (((lc ..).extBut.push _).push _))))
end
def HH(d:Addr)(o:Obj)(u:HO)(n:Nat)(ent:Nat->Hp->V->V->Prop):It :=
 ⟨fun i H=>H d=some (.frz o u)/\i<n,fun i H x H'=>H'=H/\∃b,ent i H x b,fun i H=>H d=some (.frz o u)/\n<=i⟩
theorem C6{P:bT}{w:World}{K:Za}{tg:Expr}{d it:Addr}{o:Obj}{u:HO}{n:Nat}{ent:Nat->Hp->V->V->Prop}{es:Array jv}{ep:Nat}(X0:FV P w K d o u n ent es ep):
  rS P w K tg (HH d o u n ent) [it] it (fun i h=>h.IsKeyIter it d i n ep) where
 mem:=by simp
 obj:=fun i h st b hb=>by
  have e:b=it:=by simpa using hb
  subst e;obtain⟨o,e,c,d⟩:=st;exact⟨o,e,fun v z=>by rw[d]at z;cases z⟩
 keep:=fun i h h' st k=>st.at fun o e=>k it (by simp) o e
 item:=by
  intro X hP hw hK hc i J3 s σ H E I hf st hg;subst hP hw hK;obtain⟨hd,hi⟩:=hg;have hi':i<es.size:=by rw[X0.sz];exact hi
  obtain⟨g,ou⟩:=(show b9 X.prog X.w X.K H s.heap d (.frz o u)from I.hok d _ hd);obtain⟨a,b,en,ra,rb⟩:=X0.get hi' I.hok hd;obtain⟨f0,f1,f2,f3,f4,f5⟩:=hf it (by simp);rw[<-X0.sz]at st;refine Dq st ⟨o,g,X0.ex,X0.dat⟩ hi' fun h' st' sb=>?_;have I1:Inv X J3 σ H { s with heap:=h' }:=I.turned (t':=s.toks) (fun b o hb e=>(sb.2 b hb).trans e) f0 f1 f3 f4 f5;obtain⟨oi,e,c,dd⟩:=id st';exact⟨_,rfl,v6 (s:={ s with heap:=h' }) e c dd (by decide) ⟨a,H,I1,ra,⟨rfl,b,en⟩,by rw[<-X0.sz];exact st',fun b hb=>(hf b hb).1⟩⟩
 done:=by
  intro X hP hw hK hc i J3 s σ H E I hf st hg;subst hP hw hK;obtain⟨hd,hi⟩:=hg;obtain⟨g,ou⟩:=(show b9 X.prog X.w X.K H s.heap d (.frz o u)from I.hok d _ hd);obtain⟨f0,f1,f2,f3,f4,f5⟩:=hf it (by simp);rw[<-X0.sz]at st;exact EK (I.ok.hd hc) st ⟨o,g,X0.ex,X0.dat⟩ (by rw[X0.sz];exact hi) fun h' eb=>⟨rfl,I.turned (t':=s.toks) (fun b o hb e=>eb b o hb e) f0 f1 f3 f4 f5⟩
 self:=fun _ _ _ _ _ st h=>wpAny_pyIter_keyiter st h
def Bm(K:Za)(tl:TE):TI:=fun σ H R=>tl σ H fun x H1=>∃d kvs,x=.ref d /\
 ((H1 d=some (.dT kvs)/\∀o,R (HH d o (.dT kvs) kvs.length (Bq K kvs)) (upd H1 d (.frz o (.dT kvs))))∨∃o,H1 d=some (.frz o (.dT kvs))/\R (HH d o (.dT kvs) kvs.length (Bq K kvs)) H1)
section
variable{X:Cx}{J3:Zd}{σ:St}{l tg:Expr}{tl:TE}
theorem v2{R:It->Hp->Prop}{H2:Hp}{s1:Shared}{d:Addr}{o:Obj}{u:HO}{n:Nat}{ent:Nat->Hp->V->V->Prop}{es:Array jv}{ep:Nat}(X0:FV X.prog X.w X.K d o u n ent es ep)(hsys:(d==gE)=false)(I2:Inv X J3 σ H2 s1)(e:H2 d=some (.frz o u))(q:R (HH d o u n ent) H2):
  wpAny (model X.prog X.w) X.A (pyIter (.ref d)) (Jh X J3 σ tg R) X.xe s1:=by
 obtain⟨g,_⟩:=(show b9 X.prog X.w X.K H2 s1.heap d (.frz o u)from I2.hok d _ e);refine Dr hsys ⟨o,g,X0.ex,X0.dat⟩ fun h' hit hk=>?_;have I3:Inv X J3 σ H2 { s1 with heap:=h',toks:=s1.toks }:=I2.kept (t':=s1.toks) hk;refine⟨_,[_],_,_,H2,rfl,I3,C6 X0,by rw[<-X0.sz];exact hit,fun b hb=>?_,q⟩;have e:b=s1.heap.objs.size:=by simpa using hb
 subst e;exact I2.fpOk (aB _) (I2.hok.fresh (aB _))
theorem zC(hl:PE X l tl):PI X tg l (Bm X.K tl):=by
 intro J3 s σ H R I h;refine cE (hl J3 s σ H _ I h) fun v s1 ⟨x,H1,I1,r1,d,kvs,ex,q⟩=>?_;subst ex;cases r1;rcases q with⟨e,q⟩|⟨o,e,q⟩
 ·obtain⟨z,hsys,xs',rel,o,es,ep,ho,r⟩:=id (show b9 X.prog X.w X.K H1 s1.heap d (.dT kvs)from I1.hok d _ e);have I2:Inv X J3 σ (upd H1 d (.frz o (.dT kvs))) { s1 with heap:=s1.heap,toks:=s1.toks } :=
   I1.write (x:=d) (e:=d) (t':=s1.toks) (by rw[e];trivial) (.inl rfl) (fun _ _ _ q=>q) ⟨o,ho⟩ ⟨ho,z,hsys,xs',Paired.mapP rel (fun p q r=>⟨r.1,mK.keeps (fun b ys eb=>by rw[ag (fun z=>by rw[z,e]at eb;cases eb)];exact eb) 8 r.2.2.1 r.2.1,r.2.2⟩),o,es,ep,ho,r⟩
  obtain⟨hsys',es',ep',X0⟩:=mI I2.hok (aa (H:=H1) (a:=d));exact v2 X0 hsys' I2 aa (q o)
 ·obtain⟨hsys',es',ep',X0⟩:=mI I1.hok e;exact v2 X0 hsys' I1 e q
end
end L2
end

section
set_option Elab.async false
set_option linter.all false
set_option maxRecDepth 100000
namespace HT
open PySem PySem.Spec PyProof.Rows
end HT
namespace L2
open PySem PySem.Spec PyProof.Rows
end L2
namespace HT
open PySem PySem.Spec PyProof.Rows
end HT
namespace L2
open PySem PySem.Spec PyProof.Rows
end L2
end

section
set_option Elab.async false
set_option linter.all false
set_option maxRecDepth 100000
namespace HT
open PySem PyProof.Rows
end HT
namespace L2
open PySem PySem.Spec PyProof.Rows
theorem v9{f g:Nat->Option Value}:∀{l:List Nat},(∀m∈l,f m=g m)->l.filterMap f=l.filterMap g
 |[],_=>rfl
 |a::l,h=>by rw[vE,vE,h a dO,v9 fun m hm=>h m (eI _ hm)]
theorem tT:∀ys:List Value,(iO ys.length).filterMap (fun m=>ys[m]?)=ys
 |[]=>rfl
 |y::ys=>by
  rw[d4,List.range_succ_eq_map,vE,List.filterMap_map];simp only[List.getElem?_cons_zero];congr 1;exact tT ys
theorem AY(n:Nat):sL ((n:Int)-1) (-1) (-1)=(iO n).map fun(k:Nat)=>((n:Int)-1+(-1) * (k:Int)).toNat:=by
 unfold sL;have e:(if(-1:Int) > 0 then if(n:Int)-1 < -1 then(-1-((n:Int)-1)+-1-1) / -1 else 0 else if(n:Int)-1 > -1 then((n:Int)-1 - -1 - -1-1) / - -1 else 0).toNat=n:=by
  rw[if_neg (by decide)];by_cases h:(n:Int)-1 > -1
  ·rw[if_pos h,show((n:Int)-1 - -1 - -1-1)=n by omega,show(- -1:Int)=1 by decide,Int.ediv_one];omega
  ·rw[if_neg h];omega
 simp only[e]
theorem u_(xs:Zf):w8 xs.toArray none none (some (-1))=xs.reverse.toArray:=by
 have e:w8 xs.toArray none none (some (-1))=((sL ((xs.toArray.size:Int)-1) (-1) (-1)).filterMap fun m=>xs.toArray[m]?).toArray:=rfl;rw[e,bL,AY,List.filterMap_map];congr 1;have h:=tT xs.reverse;rw[wY]at h;refine Eq.trans (v9 fun m hm=>?_) h;have lt:=List.mem_range.1 hm;have e1:((xs.length:Int)-1+(-1) * (m:Int)).toNat=xs.length-1-m:=by omega
 show xs.toArray[((xs.length:Int)-1+(-1) * (m:Int)).toNat]?=_;rw[e1,List.getElem?_reverse lt,List.getElem?_toArray]
def Ho(K:Za)(te:TE):TE:=fun σ H Q=>te σ H fun x H1=>∃a xs,x=.ref a/\ay K H1 a xs/\∀p,H1 p=none->Q (.ref p) (upd H1 p (.lst xs.reverse))
theorem GN{X:Cx}{e st:Expr}{te:TE}{p2 pos:Pos}(he:PE X e te)(hst:PE X st (tUn (rU fun i=>.int (-i)) (tC (.int 1)))):PE X (.Subscript e (.Slice none none (some st) p2) pos) (Ho X.K te):=by
 intro J3 s σ H Q I h;refine xf (cE (he J3 s σ H _ I h) fun v s1 ⟨x,H1,I1,r1,a,xs,e1,hx,q⟩=>?_);subst e1;cases r1;refine wpAny_Slice ?_;rw[evalPart_none];refine aD ?_;refine aD ?_;rw[evalPart_some];refine cE (hst J3 s1 σ H1 (fun x H2=>x=.int (-1)/\H2=H1) I1 ⟨_,rfl,rfl,rfl⟩) fun vu s3 ⟨y,H3,I3,r3,e3,e4⟩=>?_;subst e3 e4;obtain⟨u,rfl⟩:=r3;have I4:Inv X J3 σ H3 { s3 with heap:=s3.heap.push { cls:=.type "slice",data:=.fields #[.none,.none,.int (-1) u] } }:=I3.kept (t':=s3.toks) fun b ob q=>bw _ q;obtain⟨its,r,ht,hz⟩:=I4.list hx;show wpAny (model X.prog X.w) X.A (xc e (.Slice none none (some st) p2) (.ref a) (.ref s3.heap.objs.size)) (EP X J3 σ Q) X.xe { s3 with heap:=s3.heap.push { cls:=.type "slice",data:=.fields #[.none,.none,.int (-1) u] } };have hlen:=r.length;refine tail_any (ops:=[.ref a,.ref s3.heap.objs.size]) ht.isList.typeIs slot_list_getitem.lookup (wpAny_getItem_list_slice ht.isList (Heap.IsSliceOf.new ..) .none .none (.int (-1) u) (by simp) ?_ (by rw[bL]<;>omega)) (by with_unfolding_all rfl);rw[u_];refine⟨.ref _,_,I4.laid (t':=s3.toks) (o:=.lst xs.reverse) (fun b ob q=>bw _ q) (aB _) ?_,rfl,q _ (I4.hok.fresh (aB _))⟩;exact⟨by rw[wY];exact hz,_,0,r.reverse,cF _ rfl⟩
theorem ip.non{K:Za}{H:Hp}{a b:Addr}{kvs:List (TK×V)}{r:Str}(rd:Rd H a (.dT kvs))(e:bc K H b [.str r,.non])(v:br kvs (.t [.k (some (.inr r)),.k none])=none):ip K H a (.ref b) none :=
 .inr ⟨kvs,.t [.k (some (.inr r)),.k none],b,rd,rfl,by unfold jc;exact⟨b,_,rfl,e,by unfold TKIns;exact⟨_,_,rfl,by unfold jc;rfl,by unfold TKIns;exact⟨_,_,rfl,by unfold jc;rfl,by unfold TKIns;rfl⟩⟩⟩,by show max 0 (max 0 0)+1<=8;decide,v.symm⟩
abbrev EO:R2:=fun x y H Q=>∃b,y=.bl b/\Q (.bl (!decide (x=.bl b))) H
section
variable{X:Cx}{p pos:Pos}
theorem Cr:oH X (eZ .IsNot) EO:=by
 intro J3 s σ H x y v u Q I rx ry h;obtain⟨b,rfl,q⟩:=h;cases(show u=Value.bool b from ry);have key:∀k:Bool,k=!decide (x=.bl b)->EP X J3 σ Q (.bool k) s:=fun k e=>⟨.bl k,H,I,rfl,by rw[e];exact q⟩;cases x with
 |non=>cases(show v=Value.none from rx);exact aD (key _ rfl)
 |bl a =>
  cases(show v=Value.bool a from rx);refine aD (key _ ?_);cases a<;>cases b<;>rfl
 |int i=>obtain⟨t,rfl⟩:=rx;exact aD (key _ rfl)
 |str i=>obtain⟨t,rfl⟩:=rx;exact aD (key _ rfl)
 |byt i=>obtain⟨t,rfl⟩:=rx;exact aD (key _ rfl)
 |flt i=>obtain⟨t,rfl⟩:=rx;exact aD (key _ rfl)
 |ref a=>cases(show v=Value.ref a from rx);exact aD (key _ rfl)
 |ty n=>cases(show v=Value.type n from rx);exact aD (key _ rfl)
end
abbrev IA:List V->Hp->VK->Prop:=fun xs H Q=>∃i j,xs=[.int i,.int j]/\Q (.int (if j > i then j else i)) H
end L2
end
set_option Elab.async false
set_option linter.all false
set_option maxRecDepth 100000
set_option maxHeartbeats 4000000
namespace Mum
open PySem PySem.Spec PyProof.Rows L2
def xo(K:Za):TS :=
 ap (b_ (aO (aH rGeI V0 (aH Hs (tC (.int 10)) (tC (.int 18))))) (bj V0) (bB))
 (ap (aP (aH ji (aH fo (aH fo (aH lO (aH ji V0 (tC (.int 1000000007))) (tC (.int 69069))) (aH lO V1 (tC (.int 40503)))) (tC (.int 977))) (tC (.int 2147483629))) U2)
 (ap (aP (aH ji (aH fo (aH fo (aH lO V2 V2) (aH lO V1 (tC (.int 7919)))) (aH ji V0 (tC (.int 65537)))) (tC (.int 2147483587))) U3)
 (ap (aP (aH ji (aH fo (aH fo (aH lO V3 V3) (aH lO V2 (tC (.int 31)))) (tC (.int 5))) (tC (.int 2147483563))) U4)
 (bj (aH fo (aH lO (aH fo (aH lO V2 (tC (.int 2147483659))) V3) (tC (.int 2147483693))) V4)))))
def yy:List Str:=["cell","at","one","two","three"]
def Aw(K:Za):TS :=
 ap (aP (eo (dw K) (az (AB (rO K) V0 (fq) (gF (tC (.int 12)))))) U1)
 (ap (d9 (v4 K (az (AB (rO K) V0 (gF (tC (.int 12))) (gF (tC (.int 63)))))) (ib K 2 (a_ U2 (a_ U3 (gR)))) (aP (aH fo (aH (cZ K) V1 (aH ji V2 (tC (.int 12)))) V3) (Bo V1 (aH ji V2 (tC (.int 12))) tU)))
 (bj (eG (eB V1 (tC (.int 0)) (tC (.int 0))))))
def BD:List Str:=["script","cells","k","cell"]
def Ay(K:Za):TS :=
 ap (aP (tC (.int 0)) (Bo V0 (tC (.int 2)) tU))
 (bj V0)
def BF:List Str:=["pen"]
def Av(K:Za)(sp_law_spread:Sp):TS :=
 ap (b_ (aO (aH AZ (aH (cZ K) V0 (tC (.int 2))) V1)) (ap (aP (aH (cZ K) V0 (tC (.int 1))) U2)
 (ap (aP (tC (.int 0)) U3)
 (ap (b_ (aO (aH AZ V2 (eo (eC K) (az (aH (cZ K) V0 (tC (.int 0))))))) (aP (aH (cZ K) (aH (cZ K) V0 (tC (.int 0))) V2) U3) (b_ (aO (aH Dt (eo (eC K) (az (aH (cZ K) V0 (tC (.int 0))))) (tC (.int 0)))) (aP (aH ji (aH (cZ K) (aH (cZ K) V0 (tC (.int 0))) (aH ji (aH fo (aH lO V2 (tC (.int 5))) (tC (.int 3))) (eo (eC K) (az (aH (cZ K) V0 (tC (.int 0))))))) (aH fo (aH Hs (tC (.int 10)) (tC (.int 17))) V2)) U3) (bB)))
 (ap (aP (aH fo V2 (tC (.int 1))) (Bo V0 (tC (.int 1)) tU))
 (aP (aM sp_law_spread (aR V3 V2)) (Bo V0 (tC (.int 2)) tU)))))) (bB))
 (ap (aP (aH ji (aH (cZ K) V0 (tC (.int 2))) V1) U4)
 (ap (aP (aH ES (aH (cZ K) V0 (tC (.int 2))) V1) (Bo V0 (tC (.int 2)) tU))
 (bj V4)))
def BC:List Str:=["pen","many","at","cell","found"]
def yT(K:Za)(sp_law_take:Sp):TS :=
 ap (aP (tC (.str "abcdefghijklmnopqrstuvwxyz")) U2)
 (ap (aP (uM K "str" (Ht K) (tC (.str "")) (ar (dC 1 [2,0] (um (az (tC (.int 7)))) U0 (kT) (aH EQ V1 (aM sp_law_take (aR V2 (tC (.int 26)))))) bq)) U3)
 (ap (aP (aM sp_law_take (aR V0 (tC (.int 3)))) U4)
 (ap (aP (aM sp_law_take (aR V0 (tC (.int 26)))) U5)
 (ap (aP (aM sp_law_take (aR V0 (tC (.int 8)))) U6)
 (ap (aP (eG (bq)) U7)
 (ap (d9 (um (az V1)) U8 (ap (aP (aH EQ V2 (aH ji (aH fo V5 (aH lO (tC (.int 3)) V8)) (tC (.int 26)))) U9)
 (ap (aP (AB GH V3 (fq) (gF (aH ji (aH fo V6 (aH lO V8 (aH ji V4 (tC (.int 2))))) (tC (.int 8))))) Jf)
 (ap (aP (aH (cZ K) (eG (eB (tC (.int 0)) (eo (eC K) (az He)) (aH ES (eo (eC K) (az He)) (tC (.int 2))))) V4) U11)
 (bQ (uM K "list" cV V7 (az (aH Hu (aH Hu (AB GH He (fq) (gF V11)) V9) (AB GH He (gF V11) (fq))))))))))
 (bj V7)))))))
def Ag:List Str:=["pen","many","letters","base","way","turn","size","found","k","sign","part","at"]
def C_(K:Za):TS :=
 b_ (aO (aH (qy K true) V1 V0)) (bQ (uM K "list" cV V0 (az V1))) (bB)
def Eb:List Str:=["doors","door"]
def qk(K:Za)(sp_law_take:Sp)(sp_law_put:Sp):TS :=
 ap (aP (eG (bq)) U5)
 (ap (aP (aM sp_law_take (aR V0 (tC (.int 2)))) U6)
 (ap (d9 (v4 K (az V3)) (ib K 2 (a_ U7 (a_ U8 (gR)))) (ap (d9 (um (ar (aH (cZ K) (eG (ar (tC (.int 0)) (eB (tC (.int 1)) (tC (.int 1)) (tC (.int 2))))) (aM sp_law_take (aR V0 (tC (.int 4))))) bq)) U9 (ap (aP (bD (ar (tC (.str "say")) (ar (aH (cZ K) V2 (aM sp_law_take (aR V0 (eo (eC K) (az V2))))) bq))) Jf)
 (bQ (aM sp_law_put (ar V5 (ar (bD (ar V8 (ar He (ar (aH (cZ K) V3 (aM sp_law_take (aR V0 (eo (eC K) (az V3))))) bq)))) bq))))))
 (ap (d9 (b0 K V1) U11 (d9 (um (ar (aH (cZ K) (eG (ar V4 (eB (tC (.int 1)) (tC (.int 1)) (tC (.int 2))))) (aM sp_law_take (aR V0 (tC (.int 4))))) bq)) U9 (bQ (aM sp_law_put (ar V5 (ar (bD (ar V8 (ar (bD (aR (tC (.str "ask")) V11)) (ar (aH (cZ K) V3 (aM sp_law_take (aR V0 (eo (eC K) (az V3))))) bq)))) bq))))))
 (ap (aP (aH (cZ K) (eG (ar (AB (rO K) V3 (gF (aH fo V7 (tC (.int 1)))) (fq)) (az (AB (rO K) V3 (fq) (gF V7))))) V6) U12)
 (b_ (kW (aO (aH (rP K) V12 (eG (bq)))) (aO (aH yI (aM sp_law_take (aR V0 (tC (.int 3)))) (tC (.int 0))))) (bQ (aM sp_law_put (ar V5 (ar (bD (ar V8 (ar (bD (az (tC (.str "still")))) (ar (aH (mV K) V12 (aM sp_law_take (aR V0 (eo (eC K) (az V12))))) bq)))) bq)))) (bB))))))
 (bj V5)))
def qM:List Str:=["pen","asks","says","rooms","full","doors","down","k","room","turn","sign","ask","later"]
def yU(K:Za)(sp_law_draw_doors:Sp)(sp_law_names:Sp)(sp_law_take:Sp)(sp_law_anew:Sp):TS :=
 ap (bQ (aM sp_law_anew (az V0)))
 (ap (aP (aM sp_law_names (aR V0 (tC (.int 8)))) U3)
 (ap (aP (AB (rO K) V3 (fq) (gF (aH fo (tC (.int 1)) (aH (cZ K) (eG (ar (tC (.int 0)) (ar (tC (.int 1)) (ar (tC (.int 1)) (eB (tC (.int 2)) (tC (.int 2)) (tC (.int 3))))))) (aM sp_law_take (aR V0 (tC (.int 6)))))))) U4)
 (ap (aP (AB (rO K) V3 (gF (tC (.int 4))) (gF (aH fo (tC (.int 5)) (aH (cZ K) (eG (ar (tC (.int 0)) (ar (tC (.int 1)) (ar (tC (.int 1)) (eB (tC (.int 2)) (tC (.int 2)) (tC (.int 3))))))) (aM sp_law_take (aR V0 (tC (.int 6)))))))) U5)
 (ap (aP (aM sp_law_names (aR V0 (aH fo (tC (.int 1)) (aM sp_law_take (ar V0 (az V1)))))) U6)
 (ap (aP (aM sp_law_draw_doors (ar V0 (ar V4 (eB V5 V6 V2)))) U7)
 (bj (bD (ar V4 (eB V5 V6 V7)))))))))
def Ah:List Str:=["pen","most","full","words","asks","says","rooms","doors"]
def uU(K:Za)(C_Machine:Addr)(sp_Machine_init:Sp):TS :=
 bj (yV C_Machine sp_Machine_init [] E0 (ar (eo (dw K) (az (aH (mV K) V0 (tC (.int 0))))) (ar (eo (dw K) (az (aH (mV K) V0 (tC (.int 1))))) (ar (eo (dw K) (az (aH (mV K) V0 (tC (.int 2))))) (ar (eo (dw K) (az (aH (mV K) V0 (tC (.int 3))))) bq)))))
def vA:List Str:=["told"]
def Db(K:Za):TS :=
 bj (y9 (aH GI V0 (tC (.str ""))) (y9 (aH rLeI (eo (eC K) (az V0)) (tC (.int 8))) (eo (GK K) (az (dC 1 [] (IG V0) U0 (kT) (aH rInS V0 (tC (.str "abcdefghijklmnopqrstuvwxyz"))))))))
def Ec:List Str:=["text"]
def Dc(K:Za):TS :=
 ap (aP (nU) U1)
 (ap (d9 (b0 K V0) U2 (kQ V1 V2 (tC (.bl true))))
 (bj V1))
def wm:List Str:=["things","keys","thing"]
def nL(K:Za)(sp_is_name:Sp)(sp_as_keys:Sp):TS :=
 ap (b_ (aO (aH yI (eo (eC K) (az V0)) (tC (.int 0)))) (bj (tC (.int 0))) (bB))
 (ap (aP (aM sp_as_keys (az V2)) U3)
 (ap (d9 (v4 K (az V0)) (ib K 2 (a_ U4 (a_ U5 (gR)))) (ap (b_ (vL (aO (aH yI V4 V1)) (vL (tB (rM K V5 V3)) (oQ (tB (aM sp_is_name (az V5)))))) (bj V4) (bB))
 (kQ V3 V5 (tC (.bl true)))))
 (bj (tC .non))))
def oj:List Str:=["names","most","taken","ahead","number","name"]
def xv(K:Za)(a_STILL:Addr):TS :=
 bj (aH xJ (aH xJ (dC 1 [] (b0 K V0) U0 (kT) (bD (aR (tC (.str "ask")) V0))) (dC 1 [] (b0 K V1) U0 (kT) (bD (aR (tC (.str "say")) V0)))) (eG (az (tC (.ref a_STILL)))))
def yD:List Str:=["asks","says"]
def nM(K:Za)(sp_as_keys:Sp):TS :=
 ap (aP (aM sp_as_keys (az V1)) U3)
 (ap (aP (ke) U4)
 (ap (d9 (v4 K (az V0)) (ib K 2 (a_ U5 (a_ U6 (gR)))) (ap (b_ (vL (aO (aH yI V5 (tC (.int 2000)))) (tB (rM K V6 V4))) (bj V5) (bB))
 (ap (b_ (vL (tB (cU K (aH (mV K) V6 (tC (.int 0))) V3)) (vL (aO (aH (qy K true) (aH (mV K) V6 (tC (.int 1))) V2)) (tB (cU K (aH (mV K) V6 (tC (.int 2))) V3)))) (bj V5) (bB))
 (kQ V4 V6 (tC (.bl true))))))
 (bj (tC .non))))
def ol:List Str:=["doors","rooms","signs","own_rooms","ahead","number","door"]
def i9(K:Za):TS :=
 ap (aP (ke) U1)
 (ap (d9 (b0 K V0) (ib K 3 (a_ U2 (a_ U3 (a_ U4 (gR))))) (bQ (uM K "list" cV (uM K "dict" Cd V1 (aR (bD (ar V2 (az V3))) (eG (bq)))) (az V4))))
 (bj V1))
def jd:List Str:=["doors","goals","start","sign","goal"]
def tj(K:Za)(a_STILL:Addr):TS :=
 ap (aP (nU) U2)
 (ap (aP (eG (az V1)) U3)
 (ap (nR (aO (aH Dt (eo (eC K) (az V3)) (tC (.int 0)))) (ap (aP (Ex K "list" HQ V3) U4)
 (d9 (IH K (tK K V0 (bD (aR V4 (tC (.ref a_STILL)))) (bD (bq)))) U5 (b_ (tB (cU K V5 V2)) (ap (kQ V2 V5 (tC (.bl true)))
 (bQ (uM K "list" cV V3 (az V5)))) (bB)))))
 (bj V2)))
def uD:List Str:=["goals","room","led","waiting","here","goal"]
def oP(K:Za):TS :=
 ap (d9 (v4 K (az V0)) (ib K 2 (a_ U2 (a_ U3 (gR)))) (b_ (tB (rM K V3 (gG K V1 V3))) (bj V2) (bB)))
 (bj (tC .non))
def pO:List Str:=["rooms","led","number","room"]
def yS(K:Za):TS :=
 b_ (tB (Eu V1)) (tD) (bB)
def Af:List Str:=["part","number"]
def xm(K:Za)(sp_need_none:Sp)(sp_first_wrong_door:Sp)(sp_door_signs:Sp)(sp_first_wrong_name:Sp):TS :=
 ap (bQ (aM sp_need_none (aR (tC (.str "asks")) (aM sp_first_wrong_name (eB V0 (tC (.int 4)) (eG (bq)))))))
 (ap (bQ (aM sp_need_none (aR (tC (.str "says")) (aM sp_first_wrong_name (eB V1 (tC (.int 4)) V0)))))
 (ap (bQ (aM sp_need_none (aR (tC (.str "rooms")) (aM sp_first_wrong_name (eB V2 (tC (.int 150)) (eG (bq)))))))
 (bQ (aM sp_need_none (ar (tC (.str "doors")) (az (aM sp_first_wrong_door (eB V3 V2 (aM sp_door_signs (aR V0 V1))))))))))
def yu:List Str:=["asks","says","rooms","doors"]
def qp(K:Za):TS :=
 ap (aP (nU) U2)
 (ap (d9 (b0 K V0) U3 (kQ V2 V3 (eG (bq))))
 (ap (d9 (b0 K V1) U4 (bQ (uM K "list" cV (gG K V2 (aH (mV K) V4 (tC (.int 0)))) (az V4))))
 (bj V2)))
def qO:List Str:=["rooms","doors","leaving","room","door"]
def qo(K:Za):TS :=
 bj (eo (GK K) (ar (dC 1 [] (b0 K V0) U0 (kT) (aH yI (aH (mV K) (aH (mV K) V0 (tC (.int 1))) (tC (.int 0))) (tC (.str "ask")))) bq))
def qN:List Str:=["doors"]
def nP(K:Za)(sp_need_none:Sp)(sp_first_led_round:Sp)(sp_led_by_still:Sp)(sp_goals_by_start_and_sign:Sp)(sp_as_keys:Sp)(sp_has_asks_alone:Sp)(sp_doors_by_start:Sp)(sp_need_parts:Sp):TS :=
 ap (bQ (aM sp_need_parts (ar V1 (eB V2 V3 V4))))
 (ap (o9 K V0 (eo (dw K) (az V1)) "own_asks")
 (ap (o9 K V0 (eo (dw K) (az V2)) "own_says")
 (ap (o9 K V0 (eo (dw K) (az V3)) "own_rooms")
 (ap (o9 K V0 (eo (dw K) (az V4)) "own_doors")
 (ap (o9 K V0 (aM sp_doors_by_start (aR V3 V4)) "leaving")
 (ap (o9 K V0 (aM sp_as_keys (ar (dC 1 [0] (b0 K V3) U0 (tB (aM sp_has_asks_alone (az (gG K (fS K V1 "leaving") V0)))) V0) bq)) "quiet")
 (ap (o9 K V0 (aM sp_goals_by_start_and_sign (az V4)) "sign_goals")
 (ap (o9 K V0 (eo (GJ K) (ar (dC 1 [0] (b0 K V3) U0 (kT) (bD (aR V0 (aM sp_led_by_still (ar (fS K V1 "sign_goals") (az V0)))))) bq)) "still_led")
 (bQ (aM sp_need_none (aR (tC (.str "still")) (aM sp_first_led_round (ar V3 (az (fS K V0 "still_led")))))))))))))))
def oq:List Str:=["self","asks","says","rooms","doors"]
def nO(K:Za):TS :=
 bj (rM K V1 (fS K V0 "quiet"))
def oo:List Str:=["self","room"]
def nj(K:Za)(sp_with_still:Sp)(C_Machine:Addr)(sp_Machine_goals:Sp)(a_HUSH:Addr)(sp_Machine_is_quiet:Sp):TS :=
 ap (b_ (aO (aH (lP K) V2 (tC (.ref a_HUSH)))) (bj (eo (vO K) (az (dC 1 [0] (Fs K V1) U0 (tB (cX C_Machine "is_quiet" sp_Machine_is_quiet [] E0 V1 (az V0))) V0)))) (bB))
 (ap (aP (eG (bq)) U3)
 (ap (d9 (Fs K V1) U4 (bQ (uM K "list" Ce V3 (az (cX C_Machine "goals" sp_Machine_goals [] E0 V0 (aR V4 V2))))))
 (bj (aM sp_with_still (aR V0 V3)))))
def ny:List Str:=["M","face","sign","goals","room"]
def c_(p:Addr)(H H':Hp):Prop:=∀b o,H b=some o->b≠p->H' b=some o
theorem c_.refl(p:Addr)(H:Hp):c_ p H H:=fun _ _ h _=>h
theorem c_.trans{p:Addr}{H H1 H2:Hp}(a:c_ p H H1)(b:c_ p H1 H2):c_ p H H2:=fun c o h n=>b c o (a c o h n) n
theorem ac.exB{p:Addr}{H H':Hp}(a:ac H H'):c_ p H H':=fun b o h _=>a b o h
theorem c_.upd(p:Addr)(H:Hp)(o:HO):c_ p H (upd H p o):=fun b u h n=>by rw[ag n];exact h
theorem ac.new{H:Hp}{a:Addr}{o:HO}(h:H a=none):ac H (upd H a o):=fun b u e=>by rw[ag (ae e h)];exact e
theorem c_.free{p:Addr}{H H':Hp}(e:c_ p H H'){u:HO}(hp:H' p=some u){l:Addr}(h:H' l=none):H l=none:=by
 cases q:H l with
 |none=>rfl
 |some o =>
  by_cases z:l=p
  ·subst z;rw[hp]at h;cases h
  ·rw[e l o q z]at h;cases h
theorem kp{H:Hp}{a b:Addr}{o x:HO}(h:H b=some o)(n:H a=none):upd H a x b=some o:=by rw[ag (ae h n)];exact h
structure CV(H:Hp)(p c:Addr)(at_ rest:Int)(ns:List Int):Prop where
 pen:H p=some (.lst [.ref c,.int at_,.int rest])
 cells:H c=some (.lst (ns.map V.int))
 at0:0<=at_
 rest0:0<=rest
theorem CV.ne{H:Hp}{p c:Addr}{a r:Int}{ns:List Int}(h:CV H p c a r ns):c≠p:=by
 intro e;have h1:=h.pen;have h2:=h.cells;rw[e,h1]at h2;injection h2 with h2;injection h2 with h2;cases ns with
 |nil=>cases h2
 |cons n ns=>injection h2 with h2;cases h2
def gU(H:Hp)(p c:Addr):Prop:=∃a r ns,CV H p c a r ns
theorem gU.ex{H H':Hp}{p c:Addr}(h:gU H p c)(e:ac H H'):gU H' p c:=by
 obtain⟨a,r,ns,h1,h2,h3,h4⟩:=h;exact⟨a,r,ns,e _ _ h1,e _ _ h2,h3,h4⟩
theorem gU.pen{H:Hp}{p c:Addr}(h:gU H p c):∃o,H p=some o:=by
 obtain⟨a,r,ns,h1,_⟩:=h;exact⟨_,h1⟩
theorem gU.cell{H:Hp}{p c:Addr}(h:gU H p c):∃o,H c=some o:=by
 obtain⟨a,r,ns,_,h1,_⟩:=h;exact⟨_,h1⟩
theorem gU.upd{H:Hp}{p c l:Addr}{o:HO}(h:gU H p c)(h1:p≠l)(h2:c≠l):gU (upd H l o) p c:=by
 obtain⟨a,r,ns,g1,g2,g3,g4⟩:=h;exact⟨a,r,ns,by rw[ag h1];exact g1,by rw[ag h2];exact g2,g3,g4⟩
theorem gU.nep{H:Hp}{p c l:Addr}(h:gU H p c)(hl:H l=none):p≠l:=let⟨_,e⟩:=h.pen;ae e hl
theorem gU.nec{H:Hp}{p c l:Addr}(h:gU H p c)(hl:H l=none):c≠l:=let⟨_,e⟩:=h.cell;ae e hl
theorem c_.new{p:Addr}{H:Hp}{a:Addr}{o:HO}(h:H a=none):c_ p H (L2.upd H a o):=fun b u e _=>by rw[ag (ae e h)];exact e
inductive mx (vs:List V)(H:Hp)(Q:VK)(E:XK):Prop
 |mk (c a:Int):(vs=[.int c,.int a])->(0<=a)->(∀r:Int,0<=r->Q (.int r) H)->mx  vs H Q E
theorem pK{i j:Int}(h1:-(2 ^ 64)<j)(h2:j<2 ^ 64):FW i j:=.inr ⟨h1,h2⟩
theorem Dj{K:Za}{vs:List V}{H:Hp}{Q:VK}{E:XK}(h:mx vs H Q E):xo K (bM Q) (start yy vs) H:=by
 obtain⟨c,a,rfl,ha,k⟩:=h;refine⟨_,rfl,_,_,rfl,rfl,⟨by decide,by decide,by decide⟩,_,_,rfl,rfl,_,rfl,?_⟩;refine fN (fun h=>?_) (fun _=>?_)
 ·refine⟨_,rfl,k _ ?_⟩;have:=of_decide_eq_true h;have e:((10:Int) ^ (18:Int).toNat)=1000000000000000000:=by decide
  omega
 ·have one:∀z:Int,0<=z % 2147483629/\z % 2147483629<2147483629:=fun z=>⟨p6 _ (by decide),p5 _ (by decide)⟩;have two:∀z:Int,0<=z % 2147483587/\z % 2147483587<2147483587:=fun z=>⟨p6 _ (by decide),p5 _ (by decide)⟩;have three:∀z:Int,0<=z % 2147483563/\z % 2147483563<2147483563:=fun z=>⟨p6 _ (by decide),p5 _ (by decide)⟩;refine⟨_,rfl,_,_,rfl,rfl,(by show(0:Int)<1000000007;decide),_,_,rfl,rfl,pK (by decide) (by decide),_,rfl,_,_,rfl,rfl,pK (by decide) (by decide),_,_,rfl,rfl,_,_,rfl,rfl,_,_,rfl,rfl,(by show(0:Int)<2147483629;decide),?_⟩;generalize hz1:(c % 1000000007 * 69069+a * 40503+977)=z1;obtain⟨o1,o2⟩:=one z1;generalize z1 % 2147483629=o at o1 o2 ⊢;refine⟨_,rfl,_,rfl,_,_,rfl,rfl,pK (by omega) (by omega),_,rfl,_,_,rfl,rfl,pK (by decide) (by decide),_,_,rfl,rfl,_,rfl,_,_,rfl,rfl,(by show(0:Int)<65537;decide),_,_,rfl,rfl,_,_,rfl,rfl,(by show(0:Int)<2147483587;decide),?_⟩;generalize hz2:(o * o+a * 7919+c % 65537)=z2;obtain⟨p1,p2⟩:=two z2;generalize z2 % 2147483587=q at p1 p2 ⊢;refine⟨_,rfl,_,rfl,_,_,rfl,rfl,pK (by omega) (by omega),_,rfl,_,_,rfl,rfl,pK (by decide) (by decide),_,_,rfl,rfl,_,_,rfl,rfl,_,_,rfl,rfl,(by show(0:Int)<2147483563;decide),?_⟩;generalize hz3:(q * q+o * 31+5)=z3;obtain⟨r1,r2⟩:=three z3;generalize z3 % 2147483563=r at r1 r2 ⊢;refine⟨_,rfl,_,_,rfl,rfl,pK (by decide) (by decide),_,rfl,_,_,rfl,rfl,_,_,rfl,rfl,pK (by decide) (by decide),_,rfl,_,_,rfl,rfl,k _ ?_⟩;omega
def r9:Sp:=fun vs H Q _=>∃p c,vs=[.ref p]/\gU H p c/\∀H',gU H' p c->c_ p H H'->Q (.ref p) H'
theorem GD{K:Za}{vs:List V}{H:Hp}{Q:VK}{E:XK}(h:r9 vs H Q E):Ay K (bM Q) (start BF vs) H:=by
 obtain⟨p,c,rfl,⟨a,r,ns,h⟩,k⟩:=h;refine⟨_,rfl,p,_,_,_,rfl,rfl,h.pen,rfl,_,rfl,k _ ⟨a,0,ns,aa,?_,h.at0,Int.le_refl 0⟩ (c_.upd _ _ _)⟩;rw[ag h.ne];exact h.cells
theorem CS{ns:List Int}{a:Int}(h0:0<=a)(h1:a<ns.length):∃z,pW (ns.map V.int) a=some (.int z):=by
 obtain⟨n,rfl⟩:=js h0;have hn:n<ns.length:=by omega
 exact⟨ns[n],aS (by simp[hn])⟩
inductive fy (vs:List V)(H:Hp)(Q:VK)(E:XK):Prop
 |mk (p c:Addr) (m:Int):(vs=[.ref p,.int m])->(gU H p c)->(0<m)->(m<1073741824)->(∀(r:Int) (H':Hp),0<=r->r<m->gU H' p c->c_ p H H'->Q (.int r) H')->fy  vs H Q E
theorem dQ{H:Hp}{Q:VK}{E:XK}{p c:Addr}{m:Int}(hp:gU H p c)(m0:0<m)(m1:m<1073741824)(k:∀(r:Int) (H':Hp),0<=r->r<m->gU H' p c->c_ p H H'->Q (.int r) H'):fy [.ref p,.int m] H Q E:=by
 exact⟨p,c,m,rfl,hp,m0,m1,k⟩
theorem Gv{K:Za}{vs:List V}{H:Hp}{Q:VK}{E:XK}(h:fy vs H Q E):Av K mx (bM Q) (start BC vs) H:=by
 obtain⟨p,c,m,rfl,⟨a,r,ns,h⟩,hm,hm2,k⟩:=h;have fin:∀(H':Hp) (a' r':Int) (x y:Option V),CV H' p c a' r' ns->c_ p H H' ->
   (ap (aP (aH ji (aH (cZ K) V0 (tC (.int 2))) V1) U4) (ap (aP (aH ES (aH (cZ K) V0 (tC (.int 2))) V1) (Bo V0 (tC (.int 2)) tU)) (bj V4)))
    (bM Q) [some (.ref p),some (.int m),x,y,none] H':=by
  intro H' a' r' x y h' ex;refine⟨_,rfl,p,_,2,_,rfl,rfl,ay.of h'.pen,rfl,_,rfl,_,_,rfl,rfl,hm,?_⟩;refine⟨_,rfl,p,_,2,_,rfl,rfl,ay.of h'.pen,rfl,_,rfl,_,_,rfl,rfl,⟨hm,hm2⟩,_,rfl,p,_,_,_,rfl,rfl,h'.pen,rfl,?_⟩;refine⟨_,rfl,k _ _ (p6 _ (by omega)) (p5 _ hm) ⟨a',_,ns,aa,?_,h'.at0,Int.ediv_nonneg h'.rest0 (by omega)⟩ (ex.trans (c_.upd _ _ _))⟩;rw[ag h'.ne];exact h'.cells
 refine⟨_,rfl,p,_,2,_,rfl,rfl,ay.of h.pen,rfl,_,rfl,_,_,rfl,rfl,_,rfl,?_⟩;refine fN (fun h1=>?_) (fun h1=>?_)
 ·-- at=pen[1];cell=0;if at<len(pen[0])
  refine⟨_,rfl,p,_,1,_,rfl,rfl,ay.of h.pen,rfl,?_⟩;have la:(V.int ((ns.map V.int).length:Nat))=V.int (ns.length:Nat):=by rw[aj]
  refine⟨_,rfl,_,rfl,p,_,0,_,rfl,rfl,ay.of h.pen,rfl,.inl ⟨c,_,rfl,.inl (ay.of h.cells),_,_,rfl,la,_,rfl,?_⟩⟩;refine fN (fun h2=>?_) (fun h2=>?_)
  ·obtain⟨z,hz⟩:=CS (ns:=ns) h.at0 (of_decide_eq_true h2);refine⟨_,rfl,p,_,0,_,rfl,rfl,ay.of h.pen,rfl,_,rfl,c,_,_,_,rfl,rfl,ay.of h.cells,hz,?_⟩;refine⟨_,rfl,_,_,rfl,rfl,_,rfl,p,_,_,_,rfl,rfl,h.pen,rfl,?_⟩;refine⟨_,rfl,_,rfl,_,_,rfl,h.at0,fun q hq=>⟨_,rfl,p,_,_,_,rfl,rfl,aa,rfl,?_⟩⟩;rw[mr];refine fin _ (a+1) q _ _ ⟨aa,by rw[ag h.ne];exact h.cells,by have:=h.at0;omega,hq⟩ (c_.upd _ _ _)
  ·refine⟨_,rfl,p,_,0,_,rfl,rfl,ay.of h.pen,rfl,.inl ⟨c,_,rfl,.inl (ay.of h.cells),_,_,la,rfl,_,rfl,?_⟩⟩;refine fN (fun h3=>?_) (fun h3=>?_)
   ·have hl:(0:Int)<ns.length:=of_decide_eq_true h3;obtain⟨z,hz⟩:=CS (ns:=ns) (a:=(a * 5+3) % (ns.length:Int)) (p6 _ (by omega)) (p5 _ hl);refine⟨_,rfl,p,_,0,_,rfl,rfl,ay.of h.pen,rfl,_,rfl,_,_,rfl,rfl,pK (by decide) (by decide),_,_,rfl,rfl,_,rfl,p,_,0,_,rfl,rfl,ay.of h.pen,rfl,.inl ⟨c,_,rfl,.inl (ay.of h.cells),_,_,rfl,la,hl,c,_,_,_,rfl,rfl,ay.of h.cells,hz,?_⟩⟩;refine⟨_,_,rfl,rfl,⟨by decide,by decide,by decide⟩,_,rfl,_,_,rfl,rfl,_,_,rfl,rfl,?_,?_⟩
    ·have e:((10:Int) ^ (17:Int).toNat)=100000000000000000:=by decide
     have:=h.at0;show(0:Int)<10 ^ (17:Int).toNat+a;omega
    refine⟨_,rfl,_,_,rfl,rfl,_,rfl,p,_,_,_,rfl,rfl,h.pen,rfl,?_⟩;refine⟨_,rfl,_,rfl,_,_,rfl,h.at0,fun q hq=>⟨_,rfl,p,_,_,_,rfl,rfl,aa,rfl,?_⟩⟩;rw[mr];refine fin _ (a+1) q _ _ ⟨aa,by rw[ag h.ne];exact h.cells,by have:=h.at0;omega,hq⟩ (c_.upd _ _ _)
   ·refine⟨_,rfl,_,_,rfl,rfl,_,rfl,p,_,_,_,rfl,rfl,h.pen,rfl,?_⟩;refine⟨_,rfl,_,rfl,_,_,rfl,h.at0,fun q hq=>⟨_,rfl,p,_,_,_,rfl,rfl,aa,rfl,?_⟩⟩;rw[mr];refine fin _ (a+1) q _ _ ⟨aa,by rw[ag h.ne];exact h.cells,by have:=h.at0;omega,hq⟩ (c_.upd _ _ _)
 ·exact fin H a r _ _ h (c_.refl _ _)
inductive rW(K:Za)(vs:List V)(H:Hp)(Q:VK)(E:XK):Prop
 |mk (a:Addr) (ns:List Int):(vs=[.ref a])->(ay K H a (ns.map V.int))->(ns.length<=63)->(∀(p c:Addr) (H':Hp),H p=none->gU H' p c->ac H H'->Q (.ref p) H')->rW K vs H Q E
theorem wb(ns:List Int)(lo hi:Option Int):∃ms:List Int,gm (ns.map V.int) lo hi=ms.map V.int/\ms.length=(gm (ns.map V.int) lo hi).length:=by
 refine⟨(ns.drop (HT.sIx (ns.map V.int).length 0 lo)).take (HT.sIx (ns.map V.int).length (ns.map V.int).length hi-HT.sIx (ns.map V.int).length 0 lo),?_,?_⟩
 ·unfold gm;rw[nB,wx]
 ·unfold gm;rw[aE,aE,fR,fR,aj]
theorem Gx{K:Za}{vs:List V}{H:Hp}{Q:VK}{E:XK}(h:rW K vs H Q E):Aw K (bM Q) (start BD vs) H:=by
 obtain⟨a,ns,rfl,hs,hn,k⟩:=h;obtain⟨c0,e0,l0⟩:=wb ns none (some 12);obtain⟨c1,e1,l1⟩:=wb ns (some 12) (some 63);have hlen:c1≠[]->c0.length=12:=by
  intro hne;have hc1:0<c1.length:=by cases c1 with|nil=>exact absurd rfl hne|cons _ _=>simp
  rw[l1]at hc1;rw[l0];unfold gm at hc1 ⊢;rw[aE,fR,aj]at hc1;rw[aE,fR,aj];have s1:HT.sIx ns.length 0 (some 12)=min 12 ns.length:=HT.sIx_nat _ _ 12;have s2:HT.sIx ns.length ns.length (some 12)=min 12 ns.length:=HT.sIx_nat _ _ 12;rw[HT.sIx_none,s2];rw[s1]at hc1;omega
 refine⟨_,rfl,_,rfl,a,_,rfl,hs,fun q hq=>.inl ⟨q,_,rfl,.inl (ay.of aa),fun c hc=>?_⟩⟩;rw[e0]at hc ⊢;have hcH:H c=none:=by
  have:c≠q:=fun z=>by subst z;rw[aa]at hc;cases hc
  rw[ag this]at hc;exact hc
 have hS:ac H (upd (upd H q (.lst (c0.map V.int))) c (.lst (c0.map V.int))):=(ac.new hq).trans (ac.new hc);refine⟨_,rfl,_,rfl,_,rfl,a,_,rfl,hS.seq hs,fun r hr=>⟨r,rfl,⟨_,ay.of aa⟩,?_⟩⟩;rw[e1];have hcr:c≠r:=ae aa hr;refine lZ (xs:=c1.map V.int) (fun i σ H'=>∃(ms:List Int) (x y:Option V),σ=[some (.ref a),some (.ref c),x,y]/\H' c=some (.lst (ms.map V.int))/\ms.length=c0.length/\H' r=some (.lst (c1.map V.int))/\ac H H')
  ⟨c0,none,none,rfl,kp aa hr,rfl,aa,hS.trans (ac.new hr)⟩ (fun i σ H' _ ⟨ms,x,y,_,_,_,h,_⟩=>ay.of h) ?_ ?_
 ·rintro i x σ H' t hi ⟨ms,u,v,rfl,hcell,hml,hr',hS'⟩ ht;have hi':i<c1.length:=by
   have:=(cG.mp hi).1;rwa[aj]at this
  have h12:=hlen (fun z=>by rw[z]at hi';simp at hi');obtain⟨z,rfl⟩:∃z,x=V.int z:=by
   rw[bZ,bY hi']at hi;exact⟨_,(e_ hi).symm⟩
  have hcell1:upd H' t (.tup [.int i,.int z]) c=some (.lst (ms.map V.int)):=kp hcell ht;have hidx:(i:Int) % 12=((i % 12:Nat):Int):=by omega
  have hlt:i % 12<ms.length:=by omega
  refine⟨t,_,rfl,bc.of aa,rfl,_,_,rfl,_,_,rfl,rfl,?_⟩;have hat:pW (ms.map V.int) ((i:Int) % 12)=some (.int ms[i % 12]):=by rw[hidx];exact aS (by simp[hlt])
  refine⟨_,rfl,_,rfl,_,_,rfl,rfl,(by show(0:Int)<12;decide),c,_,_,_,rfl,rfl,ay.of hcell1,hat,_,rfl,_,_,rfl,rfl,_,rfl,_,rfl,_,_,rfl,rfl,(by show(0:Int)<12;decide),c,_,_,i % 12,rfl,rfl,hcell1,?_,?_⟩
  ·rw[hidx];unfold FY;rw[if_pos (by omega),if_pos (by rw[aj];omega)];rw[jw]
  ·refine⟨ms.set (i % 12) (ms[i % 12]+z),_,_,rfl,?_,by rw[List.length_set];exact hml,?_,?_⟩
   ·rw[aa,List.map_set]
   ·rw[ag hcr.symm];exact kp hr' ht
   ·intro b o e;rw[ag (ae e hcH)];exact kp (hS' b o e) ht
 ·rintro σ H' ⟨ms,x,y,rfl,hcell,hml,hr',hS'⟩;refine⟨_,rfl,(by show 3<=ai;decide),fun p hp=>k p c _ (hS'.free hp) ⟨0,0,ms,aa,kp hcell hp,Int.le_refl _,Int.le_refl _⟩ (hS'.trans (ac.new hp))⟩
def xT(c:Nat):Prop:=97<=c/\c<=122
structure qP(w:Str):Prop where
 lo:1<=w.length
 hi:w.length<=8
 al:∀c∈w.cps.toList,xT c
theorem CU:∀n:Nat,n<26->(("abcdefghijklmnopqrstuvwxyz":Str).cps.toList)[n]?=some (97+n):=by decide +kernel
theorem CT:("abcdefghijklmnopqrstuvwxyz":Str).length<=ai:=by decide +kernel
theorem FQ{r:Int}(h0:0<=r)(h1:r<26):pW (("abcdefghijklmnopqrstuvwxyz":Str).cps.toList) r=some (97+r.toNat):=by
 obtain⟨n,rfl⟩:=js h0;rw[jw];exact aS (CU n (by omega))
theorem vm(cs:List Nat):∀acc:Array Nat,((cs.map fun c=>(⟨#[c]⟩:Str)).foldl (fun acc p=>acc++("":Str).cps++p.cps) acc).toList=acc.toList++cs:=by
 have e:("":Str).cps=#[]:=by decide +kernel
 induction cs with
 |nil=>intro acc;simp
 |cons c cs ih =>
  intro acc;rw[bN,sD,ih,e];simp
theorem Bi(cs:List Nat):(wJ "" (cs.map fun c=>(⟨#[c]⟩:Str))).cps.toList=cs:=by
 unfold wJ cy.Str.glued;cases cs with
 |nil=>rfl
 |cons c cs =>
  rw[bN];show((cs.map fun c=>(⟨#[c]⟩:Str)).foldl (fun acc p=>acc++("":Str).cps++p.cps) #[c]).toList=_;rw[vm]
  rfl
theorem Go{a b:Str}(h:a.cps.toList=b.cps.toList):a=b:=by
 cases a with|mk x=>cases b with|mk y=>exact congrArg Str.mk (Array.toList_inj.mp h)
theorem fx(a:Str):a.length=a.cps.toList.length:=by simp[Str.length]
theorem yn(a b:Str):(a++b).cps.toList=a.cps.toList++b.cps.toList:=by
 show(a.cps++b.cps).toList=_;simp
theorem FJ(z:Str)(m:Nat):(ut z none (some (m:Int))).cps.toList=z.cps.toList.take m:=by
 unfold ut;rw[HT.sIx_none,HT.sIx_nat,sI,Nat.sub_zero,fx];show List.take _ _=_;rw[List.take_eq_take_iff];omega
theorem FK(z:Str)(m:Nat):(ut z (some (m:Int)) none).cps.toList=z.cps.toList.drop m:=by
 unfold ut;rw[HT.sIx_none,HT.sIx_nat,fx];show List.take _ _=_;rw[List.take_of_length_le (by rw[fR];omega)];by_cases h:m<=z.cps.toList.length
 ·rw[ww h]
 ·rw[Nat.min_eq_right (by omega),List.drop_length,wG (by omega)]
def fg(way size k:Nat):Nat:=(size+k * (way % 2)) % 8
def Aj(way m:Nat):Nat:=if way=0 then 0 else if way=1 then m else m / 2
def ni(b:List Nat)(way turn size k:Nat):List Nat :=
 (b.take (fg way size k)).take (Aj way (fg way size k))++[97+(turn+3 * k) % 26]++(b.take (fg way size k)).drop (Aj way (fg way size k))
def yP(b:List Nat)(way turn size k:Nat):Str:=⟨(ni b way turn size k).toArray⟩
theorem qg{b:List Nat}(hb:b.length=7)(way turn size k:Nat):(ni b way turn size k).length=fg way size k+1:=by
 have h8:fg way size k<8:=sC _ (by decide);unfold ni;rw[aL,aL,aE,fR,aE,hb];have:Aj way (fg way size k)<=fg way size k:=by unfold Aj;split;omega;split;omega;omega
 simp;omega
theorem Gb{b:List Nat}(hb:b.length=7)(hl:∀c∈b,xT c)(way turn size k:Nat):qP (yP b way turn size k):=by
 have h8:fg way size k<8:=sC _ (by decide);have hlen:=qg hb way turn size k;have e:(yP b way turn size k).cps.toList=ni b way turn size k:=by simp[yP]
 refine⟨?_,?_,?_⟩
 ·rw[fx,e];omega
 ·rw[fx,e];omega
 ·rw[e];intro c hc;unfold ni at hc;rcases bd.mp hc with hc|hc
  ·rcases bd.mp hc with hc|hc
   ·exact hl c (fC (fC hc))
   ·have:c=97+(turn+3 * k) % 26:=by simpa using hc
    subst this;have:(turn+3 * k) % 26<26:=sC _ (by decide);exact⟨by omega,by omega⟩
  ·exact hl c (fC (List.mem_of_mem_drop hc))
theorem El{b:List Nat}(hb:b.length=7){way turn size:Nat}(hw:way<3){j k:Nat}(hj:j<26)(hk:k<26)(h:yP b way turn size j=yP b way turn size k):j=k:=by
 have h8:∀i,fg way size i<8:=fun i=>sC _ (by decide);have e:ni b way turn size j=ni b way turn size k:=by
  have:=congrArg (fun s=>Str.cps s |>.toList) h;simpa[yP]using this
 have el:fg way size j=fg way size k:=by
  have:=congrArg List.length e;rw[qg hb,qg hb]at this;omega
 have key:97+(turn+3 * j) % 26=97+(turn+3 * k) % 26:=by
  have hat:∀i,Aj way (fg way size i)<=fg way size i:=fun i=>by unfold Aj;split;omega;split;omega;omega
  have get:∀i,(ni b way turn size i)[Aj way (fg way size i)]?=some (97+(turn+3 * i) % 26):=by
   intro i;unfold ni;have hl:((b.take (fg way size i)).take (Aj way (fg way size i))).length=Aj way (fg way size i):=by
    rw[aE,aE,hb];have:=h8 i;have:=hat i;omega
   rw[dH,nJ (by omega),hl,Nat.sub_self]
   rfl
  have g1:=get j;have g2:=get k;rw[e,el]at g1;rw[g1]at g2;exact e_ g2
 omega
def kD(ws:Zb):Prop:=ws.Nodup/\∀w∈ws,qP w
def j_(b:List Nat)(way turn size n:Nat):List Str:=(iO n).map (yP b way turn size)
theorem An{b:List Nat}(hb:b.length=7)(hl:∀c∈b,xT c){way turn size n:Nat}(hw:way<3)(hn:n<=26):kD (j_ b way turn size n):=by
 refine⟨?_,fun w hm=>?_⟩
 ·unfold j_;rw[pZ,List.pairwise_map];refine(List.nodup_range (n:=n)).imp_of_mem ?_;intro j k hj hk hne h;exact hne (El hb hw (by have:=List.mem_range.mp hj;omega) (by have:=List.mem_range.mp hk;omega) h)
 ·obtain⟨k,_,rfl⟩:=ax.mp hm;exact Gb hb hl _ _ _ _
inductive lG (vs:List V)(H:Hp)(Q:VK)(E:XK):Prop
 |mk (p c:Addr) (n:Nat):(vs=[.ref p,.int n])->(gU H p c)->(n<=26)->(∀(l:Addr) (ws:Zb) (H':Hp),kD ws->ws.length=n->H l=none->H' l=some (.lst (ws.map V.str))->gU H' p c->c_ p H H'->Q (.ref l) H')->lG  vs H Q E
theorem EG{K:Za}{vs:List V}{H:Hp}{Q:VK}{E:XK}(h:lG vs H Q E):yT K fy (bM Q) (start Ag vs) H:=by
 obtain⟨p,c,n,rfl,hp,hn,k⟩:=h;refine⟨rfl,7,rfl,by decide,by decide,fun l hl=>?_⟩;refine Bt (lo:=0) (n:=Int.toNat 7) (fun i vs H'=>∃cs:List Nat,vs=cs.map (fun c=>V.str ⟨#[c]⟩)/\cs.length=i/\(∀c∈cs,xT c)/\gU H' p c/\c_ p H H'/\H' l=some (.lst vs))
  ⟨[],rfl,rfl,(fun _ h=>nomatch h),hp.ex (ac.new hl),c_.new hl,aa⟩ (fun i vs H' _ ⟨_,_,_,_,_,_,h⟩=>h) ?_ ?_
 rotate_left
 ·rintro i vs H' hi ⟨cs,rfl,hlen,hlet,hp',hex,hl'⟩;have hlp:=hp.nep hl;have hlc:=hp.nec hl;refine gN (sW ?_);refine⟨_,rfl,_,rfl,dQ hp' (by decide) (by decide) fun r H2 h0 h1 hp2 hex2=>⟨_,r,_,rfl,rfl,CT,FQ h0 h1,?_⟩⟩;have hl2:=hex2 l _ hl' hlp.symm;refine⟨hl2,by rw[aj,hlen];exact aq (by omega),mW hi ⟨cs++[97+r.toNat],by rw[aw];rfl,by rw[aL,hlen];rfl,?_,hp2.upd hlp hlc,?_,aa⟩⟩
  ·intro x hc;rcases bd.mp hc with hc|hc
   ·exact hlet x hc
   ·have:x=97+r.toNat:=by simpa using hc
    subst this;exact⟨by omega,by omega⟩
  ·intro b o' e nb;rw[ag (ae e hl)];exact hex2 b o' (hex b o' e nb) nb
 ·rintro vs H1 ⟨cs,rfl,hlen,hlet,hp1,hex1,hl1⟩;refine⟨"",l,cs.map fun c=>(⟨#[c]⟩:Str),rfl,rfl,ay.of (by rw[hl1,pY];rfl),?_,?_⟩
  ·have e0:("":Str).length=0:=by decide +kernel
   rw[e0,Nat.mul_zero,pY];have:∀cs:List Nat,(cs.map ((fun x=>Str.length x) ∘ fun c=>(⟨#[c]⟩:Str))).sum=cs.length:=by
    intro cs
    induction cs with
    |nil=>rfl
    |cons c cs ih=>rw[bN,List.sum_cons,ih,d4];show 1+_=_;omega
   rw[this,hlen];decide
  refine⟨_,rfl,dQ hp1 (by decide) (by decide) fun way H2 w0 w1 hp2 hex2=>?_⟩;refine⟨_,rfl,dQ hp2 (by decide) (by decide) fun turn H3 t0 t1 hp3 hex3=>?_⟩;refine⟨_,rfl,dQ hp3 (by decide) (by decide) fun size H4 s0 s1 hp4 hex4=>?_⟩;have ex4:c_ p H H4:=((hex1.trans hex2).trans hex3).trans hex4;obtain⟨wy,rfl⟩:=js w0;obtain⟨tn,rfl⟩:=js t0;obtain⟨sz,rfl⟩:=js s0;have hb:=Bi cs;generalize wJ "" (cs.map fun c=>(⟨#[c]⟩:Str))=base at hb ⊢;refine⟨(by show 0<=ai;decide),fun f hf=>?_⟩;obtain⟨op,hop⟩:=hp4.pen;have hfH:H f=none:=ex4.free hop hf;have hfp:=hp.nep hfH;have hfc:=hp.nec hfH;refine⟨_,rfl,n,rfl,by omega,by omega,j4 (lo:=0) (n:=((n:Int)).toNat) (fun i σ H'=>∃(a b c' d:Option V),σ=[some (.ref p),some (.int n),some (.str "abcdefghijklmnopqrstuvwxyz"),some (.str base),some (.int wy),some (.int tn),some (.int sz),some (.ref f),a,b,c',d] /\
   gU H' p c/\c_ p H H'/\H' f=some (.lst ((j_ cs wy tn sz i).map V.str)))
   ⟨_,_,_,_,rfl,hp4.upd hfp hfc,ex4.trans (c_.new hf),aa⟩ ?_ ?_⟩
  ·rintro i σ H' hi ⟨a,b,c',d,rfl,hp',hex',hf'⟩;have hi':i<n:=by omega
   have hwy:wy<3:=by omega
   have e26:((tn:Int)+3 * (0+(i:Int))) % 26=(((tn+3 * i) % 26:Nat):Int):=by omega
   refine⟨_,rfl,_,rfl,_,rfl,_,_,rfl,rfl,.inl ⟨by decide,by decide⟩,_,_,rfl,rfl,_,_,rfl,rfl,(by show(0:Int)<26;decide),_,_,_,rfl,rfl,CT,FQ (p6 _ (by decide)) (p5 _ (by decide)),?_⟩;have blen:base.length<=ai:=by rw[fx,hb,hlen];decide
   have e8:((sz:Int)+(0+(i:Int)) * ((wy:Int) % 2)) % 8=((fg wy sz i:Nat):Int):=by
    unfold fg;have:wy=0∨wy=1∨wy=2:=by omega
    rcases this with rfl|rfl|rfl<;>simp<;>omega
   refine⟨_,rfl,_,rfl,_,rfl,_,rfl,_,_,rfl,rfl,(by show(0:Int)<2;decide),_,_,rfl,rfl,.inr ⟨by omega,by omega⟩,_,_,rfl,rfl,_,_,rfl,rfl,(by show(0:Int)<8;decide),_,rfl,base,rfl,blen,?_⟩;rw[e8];have hpart:=FJ base (fg wy sz i);rw[hb]at hpart;generalize ut base none (some ((fg wy sz i:Nat):Int))=part at hpart ⊢;have h8:fg wy sz i<8:=sC _ (by decide);have plen:part.length=fg wy sz i:=by rw[fx,hpart,aE,hlen];omega
   have pz:part.length<=ai:=by rw[plen];exact fk (aq (by omega))
   refine⟨_,rfl,.inr ⟨part,rfl,pz,_,rfl,.inr ⟨part,rfl,pz,_,_,rfl,rfl,⟨by decide,by decide⟩,(by show 3<=ai;decide),fun q hq=>?_⟩⟩⟩;have hqH:H q=none:=by
    obtain⟨op',hop'⟩:=hp'.pen;exact hex'.free hop' hq
   have hat:pW [V.int 0,V.int (part.length:Nat),V.int ((part.length:Int) / 2)] (wy:Int)=some (.int (Aj wy (fg wy sz i):Nat)):=by
    rw[plen];have:wy=0∨wy=1∨wy=2:=by omega
    rcases this with rfl|rfl|rfl
    ·rfl
    ·rfl
    ·show some (V.int (((fg 2 sz i:Nat):Int) / 2))=some (V.int ((Aj 2 (fg 2 sz i):Nat):Int));have:Aj 2 (fg 2 sz i)=fg 2 sz i / 2:=rfl;rw[this];congr 2
   refine⟨_,rfl,q,_,_,_,rfl,rfl,ay.of aa,hat,?_⟩;have hf2:upd H' q (.lst [V.int 0,V.int (part.length:Nat),V.int ((part.length:Int) / 2)]) f=some (.lst ((j_ cs wy tn sz i).map V.str)):=kp hf' hq;have c1:=FJ part (Aj wy (fg wy sz i));have c2:=FK part (Aj wy (fg wy sz i));have l1:(ut part none (some ((Aj wy (fg wy sz i):Nat):Int))).length<=8:=by rw[fx,c1,aE,hpart,aE,hlen];omega
   have l2:(ut part (some ((Aj wy (fg wy sz i):Nat):Int)) none).length<=8:=by rw[fx,c2,fR,hpart,aE,hlen];omega
   refine⟨_,rfl,.inl ⟨rfl,_,ay.of hf2⟩,_,rfl,_,rfl,_,rfl,part,rfl,pz,_,rfl,_,_,rfl,rfl,?_,_,rfl,_,rfl,_,rfl,part,rfl,pz,_,_,rfl,rfl,?_,f,_,_,rfl,rfl,hf2,?_,?_⟩
   ·have:Str.length ⟨#[97+(((tn:Int)+3 * (0+(i:Int))) % 26).toNat]⟩=1:=rfl;rw[this];exact fk (aq (by omega))
   ·rw[fx,yn,aL,<-fx,<-fx];have:Str.length ⟨#[97+(((tn:Int)+3 * (0+(i:Int))) % 26).toNat]⟩=1:=rfl;rw[this];exact fk (aq (by omega))
   ·rw[aj];unfold j_;rw[aj,sJ];exact aq (by omega)
   ·refine⟨_,_,_,_,rfl,(hp'.upd (hp.nep hqH) (hp.nec hqH)).upd hfp hfc,?_,?_⟩
    ·intro b' o' e nb;rw[ag (ae e hfH)];exact kp (hex' b' o' e nb) hq
    ·rw[aa];unfold j_;rw[List.range_succ,aw,aw];congr 3;show[V.str _]=[V.str _];congr 2;refine Go ?_;rw[yn,yn,c1,c2,hpart,e26,jw];simp[yP,ni]
  ·rintro σ H' ⟨a,b,c',d,rfl,hp',hex',hf'⟩;have en:((n:Int)).toNat=n:=by omega
   rw[en]at hf';exact⟨_,rfl,k f _ H' (An hlen hlet (by omega) hn) (by unfold j_;rw[aj,sJ]) hfH hf' hp' hex'⟩
structure ak where
 a:Str
 sg:List Str
 b:Str
deriving DecidableEq
def SignAt(H:Hp)(s:Addr)(sg:Zb):Prop:=H s=some (.tup (sg.map V.str))
def gV(H:Hp)(t:Addr)(d:ak):Prop:=∃s,H t=some (.tup [.str d.a,.ref s,.str d.b])/\SignAt H s d.sg
def hU(H H':Hp):Prop:=∀b xs,H b=some (.tup xs)->H' b=some (.tup xs)
theorem gV.kt{H H':Hp}{t:Addr}{d:ak}(k:hU H H')(h:gV H t d):gV H' t d:=by
 obtain⟨s,h1,h2⟩:=h;exact⟨s,k _ _ h1,k _ _ h2⟩
theorem c_.kt{p:Addr}{H H':Hp}{xs:List V}(e:c_ p H H')(hp:H p=some (.lst xs)):hU H H':=fun b ys h=>e b _ h (fun z=>by rw[z,hp]at h;cases h)
theorem ac.kt{H H':Hp}(e:ac H H'):hU H H':=fun b ys h=>e b _ h
theorem hU.trans{H H1 H2:Hp}(a:hU H H1)(b:hU H1 H2):hU H H2:=fun x xs h=>b x xs (a x xs h)
theorem cR{H:Hp}{l:Addr}{xs:List V}{o:HO}(h:H l=some (.lst xs)):hU H (upd H l o):=fun b ys e=>by
 rw[ag (fun z=>by rw[z,h]at e;cases e)];exact e
abbrev cC(H:Hp)(ts:Ze)(ds:List ak):Prop:=Paired (gV H) ts ds
theorem Paired.get{α β:Type}{R:α->β->Prop}:∀{xs:List α}{ys:List β}{i:Nat}{y:β},Paired R xs ys->ys[i]?=some y->∃x,xs[i]?=some x/\R x y
 |_,_,i,y,.nil,h=>by simp at h
 |_,_,0,y,.cons r t,h=>by simp at h;subst h;exact⟨_,rfl,r⟩
 |_,_,i+1,y,.cons r t,h=>by
  simp at h;obtain⟨x,h1,h2⟩:=Paired.get t h;exact⟨x,by simpa using h1,h2⟩
theorem Paired.getL{α β:Type}{R:α->β->Prop}:∀{xs:List α}{ys:List β}{i:Nat}{x:α},Paired R xs ys->xs[i]?=some x->∃y,ys[i]?=some y/\R x y
 |_,_,i,y,.nil,h=>by simp at h
 |_,_,0,y,.cons r t,h=>by simp at h;subst h;exact⟨_,rfl,r⟩
 |_,_,i+1,y,.cons r t,h=>by
  simp at h;obtain⟨x,h1,h2⟩:=Paired.getL t h;exact⟨x,by simpa using h1,h2⟩
theorem cC.kt{H H':Hp}{ts:Ze}{ds:List ak}(k:hU H H')(h:cC H ts ds):cC H' ts ds:=Paired.mapP h fun _ _ r=>r.kt k
theorem HI{H:Hp}{a:Addr}{o:HO}(h:H a=some o):upd H a o=H:=by
 funext b;by_cases e:b=a
 ·subst e;rw[aa,h]
 ·rw[ag e]
def gH(x:Str):DT:=.k (.inr x)
def ur(d:ak):DT:=.t [gH d.a,.t (d.sg.map gH),gH d.b]
theorem o_{x y:Str}(h:gH x=gH y):x=y:=by
 unfold gH at h;injection h with h;injection h
theorem ia:∀{x y:Zb},x.map gH=y.map gH->x=y
 |[],[],_=>rfl
 |[],_::_,h=>by cases h
 |_::_,[],h=>by cases h
 |a::x,b::y,h=>by
  rw[bN,bN]at h;injection h with h1 h2;rw[o_ h1,ia h2]
theorem G9{x y:ak}(h:ur x=ur y):x=y:=by
 unfold ur at h;injection h with h;injection h with h1 h;injection h with h2 h;injection h with h3 h;injection h2 with h2;cases x;cases y;simp only at *;rw[o_ h1,ia h2,o_ h3]
theorem em(xs:Zb):DT.depths (xs.map gH)=0:=by
 induction xs with
 |nil=>rfl
 |cons x xs ih=>rw[bN];show max (DT.depth (gH x)) (DT.depths _)=0;rw[ih];rfl
theorem yf(d:ak):(ur d).depth=2:=by
 show DT.depths [gH d.a,.t (d.sg.map gH),gH d.b]+1=2;show max (DT.depth (gH d.a)) (max (DT.depths (d.sg.map gH)+1) (max (DT.depth (gH d.b)) 0))+1=2;rw[em]
 rfl
theorem DR(ds:List ak):DT.depths (ds.map ur)<=8:=by
 induction ds with
 |nil=>exact db _
 |cons x xs ih=>rw[bN];show max (DT.depth (ur x)) (DT.depths _)<=8;rw[yf];omega
theorem jC{K:Za}{H:Hp}:∀xs:List Str,DIns K H (xs.map gH) (xs.map V.str)
 |[]=>by show DIns K H [] [];unfold DIns;rfl
 |x::xs=>by
  rw[bN,bN];unfold DIns;refine⟨_,_,rfl,?_,jC xs⟩;unfold gH oz
  rfl
theorem j6{K:Za}{H:Hp}(x:Str):oz K H (gH x) (.str x):=by unfold gH oz;rfl
theorem aQ{K:Za}{H:Hp}{s:Addr}{sg:Zb}(h:bc K H s (sg.map V.str)):oz K H (.t (sg.map gH)) (.ref s):=by
 unfold oz;exact⟨s,_,rfl,h,jC _⟩
theorem gV.dIn{K:Za}{H:Hp}{t:Addr}{d:ak}(h:gV H t d):oz K H (ur d) (.ref t):=by
 obtain⟨s,h1,h2⟩:=h;unfold ur;unfold oz;refine⟨t,_,rfl,bc.of h1,?_⟩;unfold DIns;refine⟨_,_,rfl,j6 _,?_⟩;unfold DIns;refine⟨_,_,rfl,aQ (bc.of h2),?_⟩;unfold DIns;refine⟨_,_,rfl,j6 _,?_⟩;unfold DIns
 rfl
theorem cC.dIns{K:Za}{H:Hp}:∀{ts:Ze}{ds:List ak},cC H ts ds->DIns K H (ds.map ur) (ts.map V.ref)
 |_,_,.nil=>by show DIns K H [] [];unfold DIns;rfl
 |_,_,.cons r t=>by
  rw[bN,bN];unfold DIns;exact⟨_,_,rfl,r.dIn,cC.dIns t⟩
theorem CB{d:ak}{ds:List ak}:ur d∈ds.map ur↔d∈ds:=by
 constructor
 ·intro h;obtain⟨x,hx,e⟩:=ax.mp h;rw[<-G9 e];exact hx
 ·exact j9
def lQ(ds:List ak)(d:ak):List ak:=if d∈ds then ds else ds++[d]
inductive ki (vs:List V)(H:Hp)(Q:VK)(E:XK):Prop
 |mk (l t:Addr) (ts:Ze) (ds:List ak) (d:ak):(vs=[.ref l,.ref t])->(H l=some (.lst (ts.map V.ref)))->(cC H ts ds)->(gV H t d)->(ds.length<=1000)->(∀ts':List Addr,cC H ts' (lQ ds d)->Q .non (upd H l (.lst (ts'.map V.ref))))->ki  vs H Q E
theorem HP{K:Za}{vs:List V}{H:Hp}{Q:VK}{E:XK}(h:ki vs H Q E):C_ K (bM Q) (start Eb vs) H:=by
 obtain⟨l,t,ts,ds,d,rfl,hl,hd,ht,hz,k⟩:=h;refine⟨_,rfl,_,rfl,ur d,ds.map ur,l,_,ht.dIn,rfl,.inl (ay.of hl),hd.dIns,by rw[yf];decide,DR ds,_,rfl,?_⟩;by_cases hm:d∈ds
 ·rw[if_pos rfl,zzr1 (CB.mpr hm)];refine bU ?_;have:=k ts (by unfold lQ;rw[if_pos hm];exact hd);rw[HI hl]at this;exact this
 ·rw[if_pos rfl,zzr0 (fun z=>hm (CB.mp z))];refine cS ?_;refine⟨_,rfl,.inl ⟨rfl,_,ay.of hl⟩,_,rfl,l,_,_,rfl,rfl,hl,?_,?_⟩
  ·rw[aj,Paired.length hd];exact aq hz
  ·have:=k (ts++[t]) (by unfold lQ;rw[if_neg hm];exact dv hd ht);rw[aw]at this;exact this
structure DI(R:ak->Prop)(H0:Hp)(p c l:Addr)(m:Nat)(H:Hp):Prop where
 pen:gU H p c
 ds:∃ts ds,H l=some (.lst (ts.map V.ref))/\cC H ts ds/\ds.Nodup/\(∀d∈ds,R d)/\ds.length<=m
 ex:c_ p H0 H
 fr:H0 l=none
 pl:p≠l
 cl:c≠l
section
variable{R:ak->Prop}{H0 H H':Hp}{p c l:Addr}{m:Nat}
theorem gU.lst{H:Hp}{p c:Addr}(h:gU H p c):∃xs,H p=some (.lst xs):=by
 obtain⟨a,r,ns,h1,_⟩:=h;exact⟨_,h1⟩
theorem DI.took(h:DI R H0 p c l m H)(hp:gU H' p c)(e:c_ p H H'):DI R H0 p c l m H':=by
 obtain⟨ts,ds,h1,h2,h3⟩:=h.ds;obtain⟨xs,hx⟩:=h.pen.lst;exact⟨hp,⟨ts,ds,e _ _ h1 h.pl.symm,h2.kt (e.kt hx),h3⟩,h.ex.trans e,h.fr,h.pl,h.cl⟩
theorem DI.new(h:DI R H0 p c l m H){q:Addr}{o:HO}(hq:H q=none):DI R H0 p c l m (upd H q o) :=
 h.took (h.pen.ex (ac.new hq)) (c_.new hq)
theorem DI.up(h:DI R H0 p c l m H){n:Nat}(hn:m<=n):DI R H0 p c l n H:=by
 obtain⟨ts,ds,h1,h2,h3,h4,h5⟩:=h.ds;exact⟨h.pen,⟨ts,ds,h1,h2,h3,h4,bG h5 hn⟩,h.ex,h.fr,h.pl,h.cl⟩
theorem DI.put(h:DI R H0 p c l m H){t:Addr}{d:ak}{Q:VK}{E:XK}(ht:gV H t d)(hR:R d)(hm:m<=1000)(k:∀H',DI R H0 p c l (m+1) H'->Q .non H'):ki [.ref l,.ref t] H Q E:=by
 obtain⟨ts,ds,h1,h2,h3,h4,h5⟩:=h.ds;refine⟨l,t,ts,ds,d,rfl,h1,h2,ht,bG h5 hm,fun ts' h'=>k _ ⟨h.pen.upd h.pl h.cl,⟨ts',lQ ds d,aa,h'.kt (cR h1),?_,?_,?_⟩,?_,h.fr,h.pl,h.cl⟩⟩
 ·unfold lQ;split
  ·exact h3
  ·next hn =>
   rw[cP];refine⟨h3,by simp,?_⟩;intro a ha b hb e;have:b=d:=by simpa using hb
   subst this;exact hn (e▸ha)
 ·intro x hx;unfold lQ at hx;split at hx
  ·exact h4 x hx
  ·rcases bd.mp hx with hx|hx
   ·exact h4 x hx
   ·have:x=d:=by simpa using hx
    rw[this];exact hR
 ·unfold lQ;split
  ·omega
  ·rw[aL];show ds.length+1<=m+1;omega
 ·intro b o e n;rw[ag (ae e h.fr)];exact h.ex b o e n
end
theorem gU.ne_strs{H:Hp}{p c a:Addr}{ws:Zb}(hp:gU H p c)(ha:H a=some (.lst (ws.map V.str))):a≠p:=by
 intro e;obtain⟨x,y,ns,h1,_⟩:=hp;rw[e,h1]at ha;injection ha with ha;injection ha with ha;cases ws with
 |nil=>cases ha
 |cons w ws=>injection ha with ha;cases ha
theorem jh{K:Za}{r:R2}(hr:∀x y H Q,cZ K x y H Q->r x y H Q){σ:L2.St}{H:Hp}{Q:VK}{p c a:Addr}{j:Nat}{ws:Zb}(h0:σ[0]?=some (some (.ref p)))(hj:σ[j]?=some (some (.ref a)))(hp:gU H p c)
  (ha:H a=some (.lst (ws.map V.str))) (hne:ws≠[]) (hlen:ws.length<=1000) (k:∀w∈ws,∀H',gU H' p c->c_ p H H'->Q (.str w) H') :
  ∃v,σ[j]?=some (some v)/\∃v0,σ[0]?=some (some v0)/\∃v1,σ[j]?=some (some v1)/\eC K [v1] H fun y H1=>fy [v0,y] H1 (fun y H2=>r v y H2 Q) E0:=by
 have hl:0<ws.length:=by cases ws with|nil=>exact absurd rfl hne|cons _ _=>simp
 have la:(V.int ((ws.map V.str).length:Nat))=V.int (ws.length:Nat):=by rw[aj]
 have hpa:=hp.ne_strs ha;have fin:∀(x:Int) (H':Hp),0<=x->x<(ws.length:Int)->gU H' p c->c_ p H H'->cZ K (.ref a) (.int x) H' Q:=by
  intro x H' x0 x1 hp' ex;obtain⟨n,rfl⟩:=js x0;have hn:n<ws.length:=by omega
  exact⟨a,_,(n:Int),.str ws[n],rfl,rfl,ay.of (ex _ _ ha hpa),aS (by simp[hn]),k _ (lb hn) H' hp' ex⟩
 exact⟨_,hj,_,h0,_,hj,.inl ⟨a,_,rfl,.inl (ay.of ha),by rw[la];exact dQ hp (by omega) (by omega) fun x H' x0 x1 hp' ex=>hr _ _ _ _ (fin x H' x0 x1 hp' ex)⟩⟩
def Up(up:Bool)(J2:Zb)(a b:Str):Prop:=∃i j:Nat,J2[i]?=some a/\J2[j]?=some b/\(if up=true then i<j else j<i)
structure mj(J0 J1 J2:Zb)(up:Bool)(d:ak):Prop where
 a:d.a∈J2
 b:d.b∈J2
 sg:(∃w∈J0,d.sg=[("ask":Str),w])∨(∃w∈J1,d.sg=[("say":Str),w])∨(d.sg=[("still":Str)]/\Up up J2 d.a d.b)
def ao:List Str:=[("still":Str)]
structure Ai(J0 J1 J2:Zb)(d:ak):Prop where
 a:d.a∈J2
 b:d.b∈J2
 sg:(∃w∈J0,d.sg=[("ask":Str),w])∨(∃w∈J1,d.sg=[("say":Str),w])∨d.sg=ao
theorem mj.d{J0 J1 J2:Zb}{up:Bool}{d:ak}(h:mj J0 J1 J2 up d):Ai J0 J1 J2 d:=⟨h.a,h.b,h.sg.imp id (Or.imp id And.left)⟩
inductive Reach(ds:List ak)(a:Str):Str->Prop
 |one {b:Str}(h:(⟨a,ao,b⟩:ak)∈ds):Reach ds a b
 |step {b c:Str}(r:Reach ds a b) (h:(⟨b,ao,c⟩:ak)∈ds):Reach ds a c
theorem se{J2:Zb}(nd:J2.Nodup){i j:Nat}{a:Str}(hi:J2[i]?=some a)(hj:J2[j]?=some a):i=j:=by
 obtain⟨h1,e1⟩:=cG.mp hi;obtain⟨h2,e2⟩:=cG.mp hj;have pw:=List.pairwise_iff_getElem.mp nd;rcases Nat.lt_trichotomy i j with h|h|h
 ·exact absurd (e1.trans e2.symm) (pw i j h1 h2 h)
 ·exact h
 ·exact absurd (e2.trans e1.symm) (pw j i h2 h1 h)
theorem Up.trans{up:Bool}{J2:Zb}(nd:J2.Nodup){a b c:Str}(h1:Up up J2 a b)(h2:Up up J2 b c):Up up J2 a c:=by
 obtain⟨i,j,e1,e2,h⟩:=h1;obtain⟨j',k,e3,e4,h'⟩:=h2;have:=se nd e2 e3;subst this;refine⟨i,k,e1,e4,?_⟩;cases up
 ·simp at h h' ⊢;omega
 ·simp at h h' ⊢;omega
theorem Up.irr{up:Bool}{J2:Zb}(nd:J2.Nodup){a:Str}(h:Up up J2 a a):False:=by
 obtain⟨i,j,e1,e2,h⟩:=h;have:=se nd e1 e2;subst this;cases up
 ·simp at h
 ·simp at h
theorem Eo{J0 J1 J2:Zb}{ds:List ak}{up:Bool}(nd:J2.Nodup)(m:∀d∈ds,mj J0 J1 J2 up d){a b:Str}(h:Reach ds a b):Up up J2 a b:=by
 have edge:∀{a b:Str},(⟨a,ao,b⟩:ak)∈ds->Up up J2 a b:=by
  intro a b h;rcases(m _ h).sg with⟨w,_,e⟩|⟨w,_,e⟩|⟨_,e⟩
  ·cases e
  ·cases e
  ·exact e
 induction h with
 |one h=>exact edge h
 |step r h ih=>exact ih.trans nd (edge h)
inductive hC (vs:List V)(H:Hp)(Q:VK)(E:XK):Prop
 |mk (p c l1 l2 l3:Addr) (J0 J1 J2:Zb) (full:Int):(vs=[.ref p,.ref l1,.ref l2,.ref l3,.int full])->(gU H p c)->(H l1=some (.lst (J0.map V.str)))->(H l2=some (.lst (J1.map V.str)))->(H l3=some (.lst (J2.map V.str)))->(J0.length<=4)->(J1≠[])->(J1.length<=4)->(J2≠[])->(J2.length<=26)->(0<=full)->(full<=2)->(∀(l:Addr) (ts:Ze) (ds:List ak) (up:Bool) (H':Hp),H l=none->H' l=some (.lst (ts.map V.ref))->cC H' ts ds->ds.Nodup->(∀d∈ds,mj J0 J1 J2 up d)->ds.length<=600->gU H' p c->c_ p H H'->Q (.ref l) H')->hC  vs H Q E
theorem at4{x r:Int}(x0:0<=x)(x2:x<=2)(r0:0<=r)(r4:r<4):∃j:Int,pW [V.int x,.int 1,.int 1,.int 2] r=some (.int j)/\0<=j/\j<=2:=by
 have:r=0∨r=1∨r=2∨r=3:=by omega
 rcases this with rfl|rfl|rfl|rfl
 ·exact⟨x,rfl,x0,x2⟩
 ·exact⟨1,rfl,by decide,by decide⟩
 ·exact⟨1,rfl,by decide,by decide⟩
 ·exact⟨2,rfl,by decide,by decide⟩
theorem wc(ws:Zb)(k:Nat):gm (ws.map V.str) (some (k:Int)) none=(ws.drop k).map V.str:=by
 unfold gm;rw[HT.sIx_none,HT.sIx_nat,aj,List.take_of_length_le (by rw[fR,aj];omega),wx];by_cases h:k<=ws.length
 ·rw[ww h]
 ·rw[Nat.min_eq_right (by omega),wG (by simp),wG (by rw[aj];omega)]
theorem pJ(ws:Zb)(k:Nat):gm (ws.map V.str) none (some (k:Int))=(ws.take k).map V.str:=by
 unfold gm;rw[HT.sIx_none,HT.sIx_nat,aj,sI,Nat.sub_zero,nB,List.take_eq_take_iff,aj];omega
theorem uq{K:Za}{H:Hp}{a:Addr}{ws:Zb}(h:ay K H a (ws.map V.str)):oz K H (.s (ws.map gH)) (.ref a):=by
 unfold oz;exact⟨a,_,rfl,h,jC _⟩
theorem CQ{K:Za}{H:Hp}{a:Addr}(h:ay K H a []):oz K H (.s []) (.ref a):=by
 unfold oz;refine⟨a,_,rfl,h,?_⟩;unfold DIns
 rfl
theorem vh{K:Za}{vs:List V}{H:Hp}{Q:VK}{E:XK}(h:hC vs H Q E):qk K fy ki (bM Q) (start qM vs) H:=by
 obtain⟨p,c,l1,l2,l3,J0,J1,J2,full,rfl,hp,h1,h2,h3,ha,hs0,hs,hr0,hr,f0,f2,k⟩:=h;have n1:=hp.ne_strs h1;have n2:=hp.ne_strs h2;have n3:=hp.ne_strs h3;refine⟨(by show 0<=ai;decide),fun l hl=>?_⟩;have hpl:=hp.nep hl;have hcl:=hp.nec hl;refine⟨_,rfl,dQ (hp.ex (ac.new hl)) (by decide) (by decide) fun dn H1 d0 d1 hp1 ex1=>?_⟩;generalize hG:mj J0 J1 J2 (decide (dn=0))=G;have base:DI G H p c l 0 H1:=⟨hp1,⟨[],[],ex1 _ _ aa hpl.symm,.nil,qd,by simp,db _⟩,(c_.new hl).trans ex1,hl,hpl,hcl⟩;refine⟨_,rfl,l3,rfl,⟨_,ay.of (base.ex _ _ h3 n3)⟩,?_⟩;refine lZ (xs:=J2.map V.str) (fun i σ H'=>∃a7 a8 a9 a10 a11 a12:Option V,σ=[some (.ref p),some (.ref l1),some (.ref l2),some (.ref l3),some (.int full),some (.ref l),some (.int dn),a7,a8,a9,a10,a11,a12]/\DI G H p c l (11 * i) H')
  ⟨_,_,_,_,_,_,rfl,base⟩ (fun i σ H' _ ⟨_,_,_,_,_,_,_,D⟩=>ay.of (D.ex _ _ h3 n3)) ?_ ?_
 ·rintro i x σ H' t hi ⟨a7,a8,a9,a10,a11,a12,rfl,D⟩ ht;obtain⟨room,hroom,rfl⟩:∃room,J2[i]?=some room/\x=V.str room:=by
   rw[bZ]at hi;cases q:J2[i]? with
   |none=>rw[q]at hi;cases hi
   |some r=>rw[q]at hi;exact⟨r,rfl,(e_ hi).symm⟩
  have hiL:i<J2.length:=(cG.mp hroom).1;have hmem:room∈J2:=ba hroom;refine⟨t,_,rfl,bc.of aa,rfl,_,_,rfl,_,_,rfl,rfl,?_⟩;have D1:=D.new ht (o:=.tup [.int i,.str room]);refine⟨(by show 4<=ai;decide),fun q hq=>⟨_,rfl,dQ (D1.new hq).pen (by decide) (by decide) fun r H2 r0 r1 hp2 ex2=>?_⟩⟩;obtain⟨j,hj,j0,j2⟩:=at4 (x:=0) (by decide) (by decide) r0 r1;have D2:=(D1.new hq).took hp2 ex2;refine⟨q,_,_,_,rfl,rfl,ay.of (ex2 q _ aa (D1.pen.nep hq).symm),hj,j,rfl,by omega,by omega,?_⟩;refine j4 (lo:=0) (n:=j.toNat) (fun i' σ H''=>∃a9 a10:Option V,σ=[some (.ref p),some (.ref l1),some (.ref l2),some (.ref l3),some (.int full),some (.ref l),some (.int dn),some (.int i),some (.str room),a9,a10,a11,a12]/\DI G H p c l (11 * i+i') H'')
   ⟨_,_,rfl,D2⟩ ?_ ?_
  ·rintro i' σ H3 hi' ⟨a9,a10,rfl,D3⟩;refine jh (fun _ _ _ _ h=>h) rfl rfl D3.pen (D3.ex _ _ h2 n2) hs0 (by omega) fun w hw H4 hp4 ex4=>?_;have D4:=D3.took hp4 ex4;refine⟨(by show 2<=ai;decide),fun sg hsg=>?_⟩;have D5:=D4.new hsg (o:=.tup [.str "say",.str w]);refine⟨_,rfl,_,rfl,_,rfl,jh (fun _ _ _ _ h=>h) rfl rfl D5.pen (D5.ex _ _ h3 n3) hr0 (by omega) fun w2 hw2 H6 hp6 ex6=>?_⟩;have D6:=D5.took hp6 ex6;refine⟨(by show 3<=ai;decide),fun dr hdr=>?_⟩;have D7:=D6.new hdr (o:=.tup [.str room,.ref sg,.str w2]);have hsg6:H6 sg=some (.tup [.str "say",.str w]):=ex6 _ _ aa (D4.pen.nep hsg).symm;refine D7.put (d:=⟨room,["say",w],w2⟩) ⟨sg,aa,kp hsg6 hdr⟩ ?_ (by omega) fun H8 D8=>⟨_,_,rfl,D8⟩;rw[<-hG];exact⟨hmem,hw2,.inr (.inl ⟨w,hw,rfl⟩)⟩
  rintro σ H3 ⟨a9,a10,rfl,D3'⟩;have D3:DI G H p c l (11 * i+2) H3:=D3'.up (by omega);clear D3';refine⟨_,rfl,l1,rfl,⟨_,ay.of (D3.ex _ _ h1 n1)⟩,?_⟩;refine bR (xs:=J0.map V.str) (fun i' σ H''=>∃a9 a11:Option V,σ=[some (.ref p),some (.ref l1),some (.ref l2),some (.ref l3),some (.int full),some (.ref l),some (.int dn),some (.int i),some (.str room),a9,a10,a11,a12]/\DI G H p c l (11 * i+2+2 * i') H'')
   ⟨_,_,rfl,D3⟩ (fun i σ H' _ ⟨_,_,_,D⟩=>ay.of (D.ex _ _ h1 n1)) ?_ ?_
  ·rintro i' x σ H4 hi' ⟨a9,a11,rfl,D4⟩;obtain⟨ask,hask,rfl⟩:∃ask,J0[i']?=some ask/\x=V.str ask:=by
    rw[bZ]at hi';cases q:J0[i']? with
    |none=>rw[q]at hi';cases hi'
    |some r=>rw[q]at hi';exact⟨r,rfl,(e_ hi').symm⟩
   have hi2:i'<J0.length:=(cG.mp hask).1;have hm2:ask∈J0:=ba hask;refine⟨_,rfl,(by show 4<=ai;decide),fun q hq=>⟨_,rfl,dQ (D4.new hq).pen (by decide) (by decide) fun r H5 r0 r1 hp5 ex5=>?_⟩⟩;obtain⟨j,hj,j0,j2⟩:=at4 f0 f2 r0 r1;have D5:=(D4.new hq).took hp5 ex5;refine⟨q,_,_,_,rfl,rfl,ay.of (ex5 q _ aa (D4.pen.nep hq).symm),hj,j,rfl,by omega,by omega,?_⟩;refine j4 (lo:=0) (n:=j.toNat) (fun i'' σ H''=>∃a9:Option V,σ=[some (.ref p),some (.ref l1),some (.ref l2),some (.ref l3),some (.int full),some (.ref l),some (.int dn),some (.int i),some (.str room),a9,a10,some (.str ask),a12]/\DI G H p c l (11 * i+2+2 * i'+i'') H'')
    ⟨_,rfl,D5⟩ ?_ ?_
   ·rintro i'' σ H6 hi'' ⟨a9,rfl,D6⟩;refine⟨_,rfl,_,rfl,_,rfl,(by show 2<=ai;decide),fun sg hsg=>?_⟩;have D7:=D6.new hsg (o:=.tup [.str "ask",.str ask]);refine jh (fun _ _ _ _ h=>h) rfl rfl D7.pen (D7.ex _ _ h3 n3) hr0 (by omega) fun w2 hw2 H8 hp8 ex8=>?_;have D8:=D7.took hp8 ex8;refine⟨(by show 3<=ai;decide),fun dr hdr=>?_⟩;have D9:=D8.new hdr (o:=.tup [.str room,.ref sg,.str w2]);have hsg8:H8 sg=some (.tup [.str "ask",.str ask]):=ex8 _ _ aa (D6.pen.nep hsg).symm;refine D9.put (d:=⟨room,["ask",ask],w2⟩) ⟨sg,aa,kp hsg8 hdr⟩ ?_ (by omega) fun H8 D8=>⟨_,rfl,D8⟩;rw[<-hG];exact⟨hmem,hw2,.inl ⟨ask,hm2,rfl⟩⟩
   ·rintro σ H6 ⟨a9,rfl,D6⟩;exact⟨_,_,rfl,D6.up (by omega)⟩
  rintro σ H4 ⟨a9,a11,rfl,D4'⟩;have D4:DI G H p c l (11 * i+10) H4:=D4'.up (by rw[aj];omega);clear D4';have hnext:∀(H9:Hp) (a12:Option V),DI G H p c l (11 * i+11) H9->∃a7 a8 a9' a10' a11' a12':Option V,[some (.ref p),some (.ref l1),some (.ref l2),some (.ref l3),some (.int full),some (.ref l),some (.int dn),some (.int i),some (.str room),a9,a10,a11,a12] =
    [some (.ref p),some (.ref l1),some (.ref l2),some (.ref l3),some (.int full),some (.ref l),some (.int dn),a7,a8,a9',a10',a11',a12']/\DI G H p c l (11 * (i+1)) H9:=fun H9 a12 D9=>⟨_,_,_,_,_,_,rfl,D9.up (by omega)⟩
  refine⟨_,rfl,_,rfl,_,_,rfl,rfl,_,rfl,l3,_,rfl,ay.of (D4.ex _ _ h3 n3),fun q1 hq1=>?_⟩;have D5:=D4.new hq1 (o:=.lst (gm (J2.map V.str) (some ((i:Int)+1)) none));refine⟨_,rfl,_,rfl,_,rfl,l3,_,rfl,ay.of (D5.ex _ _ h3 n3),fun q2 hq2=>?_⟩;have e1:gm (J2.map V.str) (some ((i:Int)+1)) none=(J2.drop (i+1)).map V.str:=wc J2 (i+1);rw[pJ];have D6:=D5.new hq2 (o:=.lst ((J2.take i).map V.str));refine⟨(by show 2<=ai;decide),fun q3 hq3=>?_⟩;have D7:=D6.new hq3 (o:=.lst [.ref q1,.ref q2]);obtain⟨lt,q,hq,hlt,hgood⟩:∃(lt:Zb) (q:Addr),pW [V.ref q1,.ref q2] dn=some (.ref q) /\
    upd (upd (upd H4 q1 (.lst (gm (J2.map V.str) (some ((i:Int)+1)) none))) q2 (.lst ((J2.take i).map V.str))) q3 (.lst [.ref q1,.ref q2]) q=some (.lst (lt.map V.str))/\lt.length<=26 /\
    ∀w∈lt,w∈J2/\Up (decide (dn=0)) J2 room w:=by
   have:dn=0∨dn=1:=by omega
   rcases this with rfl|rfl
   ·refine⟨J2.drop (i+1),q1,rfl,?_,by rw[fR];omega,fun w hw=>⟨List.mem_of_mem_drop hw,?_⟩⟩
    ·refine(kp (kp aa hq2) hq3).trans ?_;rw[e1]
    ·obtain⟨n,hn⟩:=ii hw;rw[List.getElem?_drop]at hn;exact⟨i,i+1+n,hroom,hn,by rw[if_pos (by decide)];omega⟩
   ·refine⟨J2.take i,q2,rfl,?_,by rw[aE];omega,fun w hw=>⟨fC hw,?_⟩⟩
    ·exact kp aa hq3
    ·obtain⟨n,hn⟩:=ii hw;have hnl:n<i:=by
      have:=(cG.mp hn).1;rw[aE]at this;omega
     rw[List.getElem?_take_of_lt hnl]at hn;exact⟨i,n,hroom,hn,by rw[if_neg (by decide)];omega⟩
  refine⟨_,rfl,q3,_,_,_,rfl,rfl,ay.of aa,hq,?_⟩;generalize upd (upd (upd H4 q1 (.lst (gm (J2.map V.str) (some ((i:Int)+1)) none))) q2 (.lst ((J2.take i).map V.str))) q3 (.lst [.ref q1,.ref q2])=H7 at D7 hlt ⊢;refine⟨_,rfl,(by show 0<=ai;decide),fun e he=>⟨.s (lt.map gH),.s [],uq (ay.of (kp hlt he)),CQ (ay.of aa),?_,by decide,_,rfl,?_⟩⟩
  ·show DT.depths (lt.map gH)+1<=8;rw[em];decide
  have D8:=D7.new he (o:=.lst []);by_cases hz:lt=[]
  ·have ez:(!decide (DT.s (lt.map gH)=DT.s []))=false:=by rw[hz,zzr1 (by rfl)];rfl
   rw[ez];exact bU (bU (hnext _ _ (D8.up (by omega))))
  ·have ez:(!decide (DT.s (lt.map gH)=DT.s []))=true:=by
    rw[zzr0 (fun z=>hz (ia (y:=[]) (by injection z)))];rfl
   rw[ez];refine cS ?_;refine⟨_,rfl,dQ D8.pen (by decide) (by decide) fun r H9 r0 r1 hp9 ex9=>⟨rfl,_,rfl,?_⟩⟩;have D9:=D8.took hp9 ex9;refine fN (fun _=>?_) (fun _=>hnext _ _ (D9.up (by omega)));refine⟨_,rfl,_,rfl,(by show 1<=ai;decide),fun sg hsg=>?_⟩;have D10:=D9.new hsg (o:=.tup [.str "still"]);have hlt10:upd H9 sg (.tup [.str "still"]) q=some (.lst (lt.map V.str)):=kp (ex9 _ _ (kp hlt he) (D8.pen.ne_strs (kp hlt he))) hsg;refine jh (fun _ _ _ _ h=>.inl h) rfl rfl D10.pen hlt10 hz (by omega) fun w2 hw2 H11 hp11 ex11=>?_;have D11:=D10.took hp11 ex11;refine⟨(by show 3<=ai;decide),fun dr hdr=>?_⟩;have D12:=D11.new hdr (o:=.tup [.str room,.ref sg,.str w2]);have hsg11:H11 sg=some (.tup [.str "still"]):=ex11 _ _ aa (D9.pen.nep hsg).symm;refine D12.put (d:=⟨room,[("still":Str)],w2⟩) ⟨sg,aa,kp hsg11 hdr⟩ ?_ (by omega) fun H13 D13=>hnext _ _ D13;rw[<-hG];exact⟨hmem,(hgood.2 w2 hw2).1,.inr (.inr ⟨rfl,(hgood.2 w2 hw2).2⟩)⟩
 ·rintro σ H' ⟨a7,a8,a9,a10,a11,a12,rfl,D⟩;obtain⟨ts,ds,g1,g2,g3,g4,g5⟩:=D.ds;rw[aj]at g5;rw[<-hG]at g4;exact⟨_,rfl,k l ts ds _ H' hl g1 g2 g3 g4 (by omega) D.pen D.ex⟩
structure aK(J0 J1 J2:Zb)(ds:List ak):Prop where
 okA:kD J0
 okS:kD J1
 apart:∀w∈J1,w∉J0
 okR:kD J2
 asks0:J0≠[]
 says0:J1≠[]
 rooms0:J2≠[]
 asks4:J0.length<=4
 says4:J1.length<=4
 rooms26:J2.length<=150
 nodup:ds.Nodup
 good:∀d∈ds,Ai J0 J1 J2 d
 few:ds.length<=1000
 noround:∀r,¬Reach ds r r
structure iC(H:Hp)(t l1 l2 l3 l4:Addr)(ts:Ze)(J0 J1 J2:Zb)(ds:List ak):Prop where
 t:H t=some (.tup [.ref l1,.ref l2,.ref l3,.ref l4])
 a1:H l1=some (.lst (J0.map V.str))
 a2:H l2=some (.lst (J1.map V.str))
 a3:H l3=some (.lst (J2.map V.str))
 a4:H l4=some (.lst (ts.map V.ref))
 ds:cC H ts ds
theorem gU.ne_refs{H:Hp}{p c a:Addr}{ts:Ze}(hp:gU H p c)(ha:H a=some (.lst (ts.map V.ref))):a≠p:=by
 intro e;obtain⟨x,y,ns,h1,_⟩:=hp;rw[e,h1]at ha;injection ha with ha;injection ha with ha;cases ts with
 |nil=>cases ha
 |cons w ws =>
  injection ha with _ ha;cases ws with
  |nil=>cases ha
  |cons w ws=>injection ha with ha;cases ha
theorem iC.ex{H H':Hp}{p c t l1 l2 l3 l4:Addr}{ts:Ze}{J0 J1 J2:Zb}{ds:List ak}(h:iC H t l1 l2 l3 l4 ts J0 J1 J2 ds)(hp:gU H p c)(e:c_ p H H'):iC H' t l1 l2 l3 l4 ts J0 J1 J2 ds:=by
 obtain⟨xs,hx⟩:=hp.lst;exact⟨e.kt hx _ _ h.t,e _ _ h.a1 (hp.ne_strs h.a1),e _ _ h.a2 (hp.ne_strs h.a2),e _ _ h.a3 (hp.ne_strs h.a3),e _ _ h.a4 (hp.ne_refs h.a4),h.ds.kt (e.kt hx)⟩
theorem iC.same{H H':Hp}{t l1 l2 l3 l4:Addr}{ts:Ze}{J0 J1 J2:Zb}{ds:List ak}(h:iC H t l1 l2 l3 l4 ts J0 J1 J2 ds)(e:ac H H'):iC H' t l1 l2 l3 l4 ts J0 J1 J2 ds :=
 ⟨e _ _ h.t,e _ _ h.a1,e _ _ h.a2,e _ _ h.a3,e _ _ h.a4,h.ds.kt (ac.kt e)⟩
inductive o0 (vs:List V)(H:Hp)(Q:VK)(E:XK):Prop
 |mk (p c:Addr) (most full:Int):(vs=[.ref p,.int most,.int full])->(gU H p c)->(0<most)->(most<=25)->(0<=full)->(full<=2)->(∀(t l1 l2 l3 l4:Addr) (ts:Ze) (J0 J1 J2:Zb) (ds:List ak) (H':Hp),iC H' t l1 l2 l3 l4 ts J0 J1 J2 ds->aK J0 J1 J2 ds->J2.length<=most.toNat->ds.length<=600->gU H' p c->c_ p H H'->Q (.ref t) H')->o0  vs H Q E
theorem at6{r:Int}(r0:0<=r)(r6:r<6):∃n:Nat,pW [V.int 0,.int 1,.int 1,.int 2,.int 2,.int 3] r=some (.int n)/\n<=3:=by
 have:r=0∨r=1∨r=2∨r=3∨r=4∨r=5:=by omega
 rcases this with rfl|rfl|rfl|rfl|rfl|rfl
 ·exact⟨0,rfl,by decide⟩
 ·exact⟨1,rfl,by decide⟩
 ·exact⟨1,rfl,by decide⟩
 ·exact⟨2,rfl,by decide⟩
 ·exact⟨2,rfl,by decide⟩
 ·exact⟨3,rfl,by decide⟩
theorem FL{ws:Zb}(hw:ws.length=8){n:Nat}(hn:n<=3):gm (ws.map V.str) (some 4) (some (5+(n:Int)))=((ws.drop 4).take (1+n)).map V.str:=by
 unfold gm;have s1:HT.sIx (ws.map V.str).length 0 (some 4)=min 4 (ws.map V.str).length:=HT.sIx_nat _ _ 4;have s2:HT.sIx (ws.map V.str).length (ws.map V.str).length (some (5+(n:Int)))=min (5+n) (ws.map V.str).length:=HT.sIx_nat _ _ (5+n);rw[s1,s2,aj,hw,nB,wx];have e1:min 4 8=4:=by decide
 have e2:min (5+n) 8-4=1+n:=by omega
 rw[e1,e2]
theorem EH{K:Za}{vs:List V}{H:Hp}{Q:VK}{E:XK}(h:o0 vs H Q E):yU K hC lG fy r9 (bM Q) (start Ah vs) H:=by
 obtain⟨p,c,most,full,rfl,hp,m0,m1,f0,f2,k⟩:=h;refine⟨_,rfl,p,c,rfl,hp,fun H1 hp1 ex1=>?_⟩;refine⟨_,rfl,p,c,8,rfl,hp1,by decide,fun lw ws H2 ok len fr hl hp2 ex2=>?_⟩;have e2:=ex1.trans ex2;have nw:=hp2.ne_strs hl;refine⟨_,rfl,(by show 6<=ai;decide),fun q hq=>⟨_,rfl,dQ (hp2.ex (ac.new hq)) (by decide) (by decide) fun r H3 r0 r1 hp3 ex3=>?_⟩⟩;obtain⟨n,hn,n3⟩:=at6 r0 r1;have hl3:H3 lw=some (.lst (ws.map V.str)):=ex3 _ _ (kp hl hq) nw;refine⟨q,_,_,_,rfl,rfl,ay.of (ex3 _ _ aa (hp2.nep hq).symm),hn,_,_,rfl,rfl,_,rfl,lw,_,rfl,ay.of hl3,fun l1 hl1=>?_⟩;have ea:gm (ws.map V.str) none (some (1+(n:Int)))=(ws.take (1+n)).map V.str:=pJ ws (1+n);rw[ea];have e3:c_ p H H3:=e2.trans ((c_.new hq).trans ex3);have hp4:gU (upd H3 l1 (.lst ((ws.take (1+n)).map V.str))) p c:=hp3.ex (ac.new hl1);have e4:c_ p H (upd H3 l1 (.lst ((ws.take (1+n)).map V.str))):=e3.trans (c_.new hl1);have hl4:upd H3 l1 (.lst ((ws.take (1+n)).map V.str)) lw=some (.lst (ws.map V.str)):=kp hl3 hl1;have ha4:upd H3 l1 (.lst ((ws.take (1+n)).map V.str)) l1=some (.lst ((ws.take (1+n)).map V.str)):=aa;generalize upd H3 l1 (.lst ((ws.take (1+n)).map V.str))=H4 at hp4 e4 hl4 ha4 ⊢;refine⟨_,rfl,_,rfl,(by show 6<=ai;decide),fun q hq=>⟨_,rfl,dQ (hp4.ex (ac.new hq)) (by decide) (by decide) fun r H5 r0 r1 hp5 ex5=>?_⟩⟩;obtain⟨m,hm,m3⟩:=at6 r0 r1;have hl5:H5 lw=some (.lst (ws.map V.str)):=ex5 _ _ (kp hl4 hq) nw;have ha5:H5 l1=some (.lst ((ws.take (1+n)).map V.str)):=ex5 _ _ (kp ha4 hq) (hp4.ne_strs ha4);refine⟨q,_,_,_,rfl,rfl,ay.of (ex5 _ _ aa (hp4.nep hq).symm),hm,_,_,rfl,rfl,_,rfl,lw,_,rfl,ay.of hl5,fun l2 hl2=>?_⟩;rw[FL len m3];have e5:c_ p H H5:=e4.trans ((c_.new hq).trans ex5);have hp6:gU (upd H5 l2 (.lst (((ws.drop 4).take (1+m)).map V.str))) p c:=hp5.ex (ac.new hl2);have e6:c_ p H (upd H5 l2 (.lst (((ws.drop 4).take (1+m)).map V.str))):=e5.trans (c_.new hl2);have ha6:upd H5 l2 (.lst (((ws.drop 4).take (1+m)).map V.str)) l1=some (.lst ((ws.take (1+n)).map V.str)):=kp ha5 hl2;have hb6:upd H5 l2 (.lst (((ws.drop 4).take (1+m)).map V.str)) l2=some (.lst (((ws.drop 4).take (1+m)).map V.str)):=aa;generalize upd H5 l2 (.lst (((ws.drop 4).take (1+m)).map V.str))=H6 at hp6 e6 ha6 hb6 ⊢;refine⟨_,rfl,_,rfl,_,rfl,dQ hp6 m0 (by omega) fun r H7 r0 r1 hp7 ex7=>?_⟩;obtain⟨rn,rfl⟩:=js r0;have ha7:=ex7 _ _ ha6 (hp6.ne_strs ha6);have hb7:=ex7 _ _ hb6 (hp6.ne_strs hb6);refine⟨_,_,rfl,rfl,p,c,1+rn,rfl,hp7,by omega,fun l3 J2 H8 okr lenr fr3 hl3' hp8 ex8=>?_⟩;have ha8:=ex8 _ _ ha7 (hp7.ne_strs ha7);have hb8:=ex8 _ _ hb7 (hp7.ne_strs hb7);have hs0:(ws.drop 4).take (1+m)≠[]:=by
  intro z;have:=congrArg List.length z;rw[aE,fR,len]at this;simp at this
 have ha0:ws.take (1+n)≠[]:=by
  intro z;have:=congrArg List.length z;rw[aE,len]at this;simp at this
 have hr0:J2≠[]:=by
  intro z;rw[z]at lenr;simp at lenr;omega
 refine⟨_,rfl,_,rfl,_,rfl,_,rfl,_,rfl,p,c,l1,l2,l3,_,_,J2,full,rfl,hp8,ha8,hb8,hl3',by rw[aE];omega,hs0,by rw[aE];omega,hr0,by omega,f0,f2,fun l4 ts ds up H9 fr4 hl4' hds nod good few hp9 ex9=>?_⟩;have ha9:=ex9 _ _ ha8 (hp8.ne_strs ha8);have hb9:=ex9 _ _ hb8 (hp8.ne_strs hb8);have hc9:=ex9 _ _ hl3' (hp8.ne_strs hl3');refine⟨_,rfl,_,rfl,_,rfl,_,rfl,(by show 4<=ai;decide),fun t ht=>k t l1 l2 l3 l4 ts _ _ J2 ds _ ⟨aa,kp ha9 ht,kp hb9 ht,kp hc9 ht,kp hl4' ht,hds.kt (ac.kt (ac.new ht))⟩ ?_ ?_ few (hp9.ex (ac.new ht)) ?_⟩
 ·refine⟨⟨?_,fun w h=>ok.2 w (fC h)⟩,⟨?_,fun w h=>ok.2 w (List.mem_of_mem_drop (fC h))⟩,?_,okr,ha0,hs0,hr0,by rw[aE];omega,by rw[aE];omega,by omega,nod,fun d hd=>(good d hd).d,by omega,fun r z=>(Eo okr.1 good z).irr okr.1⟩
  ·exact ok.1.sublist (List.take_sublist _ _)
  ·exact ok.1.sublist ((List.take_sublist _ _).trans (List.drop_sublist _ _))
  ·intro w h1 h2;have h3:w∈ws.drop 4:=fC h1;have h4:w∈ws.take 4:=by
    have:ws.take (1+n)=(ws.take 4).take (1+n):=by rw[List.take_take];congr 1;omega
    rw[this]at h2;exact fC h2
   have:=ok.1;rw[<-sB 4 ws,cP]at this;exact this.2.2 w h4 w h3 rfl
 ·omega
 ·exact(((e6.trans ex7).trans ex8).trans ex9).trans (c_.new ht)
theorem bu{ws:Zb}{i:Nat}{x:V}(h:(ws.map V.str)[i]?=some x):∃w,ws[i]?=some w/\x=.str w:=by
 rw[bZ]at h;cases q:ws[i]? with
 |none=>rw[q]at h;cases h
 |some r=>rw[q]at h;exact⟨r,rfl,(e_ h).symm⟩
theorem take_snoc{α:Type}{ws:List α}{i:Nat}{w:α}(h:ws[i]?=some w):ws.take (i+1)=ws.take i++[w]:=by
 obtain⟨hi,rfl⟩:=cG.mp h;rw[List.take_succ_eq_append_getElem hi]
def pj(w:Str):Bool:=!decide (w=("":Str)) && (decide (w.length<=8) && w.cps.toList.all fun c=>decide (c∈("abcdefghijklmnopqrstuvwxyz":Str).cps.toList))
theorem qP.b{w:Str}(h:qP w):pj w=true:=by
 unfold pj;have h1:¬(w=("":Str)):=fun e=>by
  have:=h.lo;rw[e]at this;exact absurd this (by decide +kernel)
 rw[zzr0 h1,zzr1 h.hi,Bool.not_false,sA,sA,wU];intro c hc;obtain⟨c1,c2⟩:=h.al c hc;refine zzr1 ?_;have:=CU (c-97) (by omega);have e:97+(c-97)=c:=by omega
 rw[e]at this;exact ba this
inductive sp_is_name (vs:List V)(H:Hp)(Q:VK)(E:XK):Prop
 |mk (w:Str):(vs=[.str w])->(w.length<=1000)->(∀H',ac H H'->Q (.bl (pj w)) H')->sp_is_name  vs H Q E
theorem AV{K:Za}{vs:List V}{H:Hp}{Q:VK}{E:XK}(h:sp_is_name vs H Q E):Db K (bM Q) (start Ec vs) H:=by
 obtain⟨w,rfl,hz,k⟩:=h;refine⟨_,rfl,rfl,_,rfl,?_⟩;have ed:(!decide (V.str w=V.str ("":Str)))=!decide (w=("":Str)):=by
  congr 1;by_cases e:w=("":Str)
  ·rw[zzr1 e,zzr1 (by rw[e])]
  ·rw[zzr0 e,zzr0 (fun z=>e (by injection z))]
 rw[ed];refine fN (fun h1=>?_) (fun h1=>?_)
 ·refine⟨_,rfl,.inr ⟨w,rfl,fk (aq hz),_,_,rfl,rfl,_,rfl,?_⟩⟩;refine fN (fun h2=>?_) (fun h2=>?_)
  ·refine⟨_,rfl,w,rfl,fun l hl=>?_⟩;refine FM (fun i vs H'=>vs=((w.cps.toList.take i).map fun c=>V.bl (decide (c∈("abcdefghijklmnopqrstuvwxyz":Str).cps.toList)))/\ac H H'/\H' l=some (.lst vs))
    ⟨rfl,ac.new hl,aa⟩ (fun i vs H' _ h=>h.2.2) ?_ ?_
   ·rintro vs H' ⟨rfl,hS,hl'⟩;refine⟨l,w.cps.toList.map fun c=>decide (c∈("abcdefghijklmnopqrstuvwxyz":Str).cps.toList),rfl,ay.of ?_,?_⟩
    ·rw[hl',pY];have:w.cps.toList.take w.cps.size=w.cps.toList:=by
      rw[List.take_of_length_le];simp
     rw[this]
     rfl
    ·have:=k H' hS;have h2':decide (w.length<=8)=true:=zzr1 (by have:=of_decide_eq_true h2;omega);unfold pj at this;rw[h1,h2',sA,sA]at this;rw[wI];exact this
   ·rintro i vs H' c hc hi ⟨rfl,hS,hl'⟩;refine gN (sW ?_);refine⟨_,rfl,c,_,rfl,rfl,hl',?_,mW hi ⟨?_,?_,aa⟩⟩
    ·rw[aj,aE];have:w.length=w.cps.toList.length:=fx w;exact aq (by omega)
    ·rw[take_snoc (by rw[<-hc];simp),aw]
     rfl
    ·intro b o e;rw[ag (ae e hl)];exact hS b o e
  ·have:=k H (ac.refl H);have h2':decide (w.length<=8)=false:=zzr0 (fun z=>h2 (zzr1 (by omega)));unfold pj at this;rw[h1,h2',sA,BS]at this;exact this
 ·have:=k H (ac.refl H);unfold pj at this;rw[Bool.eq_false_iff.mpr h1,BS]at this;exact this
def aI(ws:Zb):List (eX×V):=ws.foldl (fun acc w=>cL acc (.inr w) (.bl true)) []
theorem dj(ws:Zb)(w:Str):aI (ws++[w])=cL (aI ws) (.inr w) (.bl true):=by
 unfold aI;rw[k_]
 rfl
theorem zB{κ:Type}[DecidableEq κ](kvs:List (κ×V))(k:κ)(v:V):(cL kvs k v).length<=kvs.length+1:=by
 unfold cL;split
 ·rw[aj];omega
 ·rw[aL];exact aB _
theorem jN{α:Type}(P:List α->Prop)(h0:P [])(hs:∀ws w,P ws->P (ws++[w]))(ws:List α):P ws:=by
 have:∀n (ws:List α),ws.length=n->P ws:=by
  intro n
  induction n with
  |zero=>intro ws h;rw[List.length_eq_zero_iff.mp h];exact h0
  |succ n ih =>
   intro ws h;have hne:ws≠[]:=fun z=>by rw[z]at h;cases h
   rw[<-List.dropLast_concat_getLast hne];exact hs _ _ (ih _ (by rw[List.length_dropLast,h];rfl))
 exact this _ ws rfl
theorem i0(ws:Zb):(aI ws).length<=ws.length:=by
 refine jN (fun ws=>(aI ws).length<=ws.length) (aB _) (fun ws w h=>?_) ws;show(aI (ws++[w])).length<=(ws++[w]).length;rw[dj,aL];have:=zB (aI ws) (.inr w) (.bl true);show _<=ws.length+1;omega
theorem ue(ws:Zb)(x:Str):br (aI ws) (.inr x)=if x∈ws then some (.bl true)else none:=by
 refine jN (fun ws=>br (aI ws) (.inr x)=if x∈ws then some (.bl true)else none) rfl (fun ws w h=>?_) ws
 show br (aI (ws++[w])) (.inr x)=_;rw[dj,lB,h];by_cases e:x=w
 ·subst e;rw[if_pos rfl,if_pos (by simp)]
 ·have e1:¬((Sum.inr x:eX)=.inr w):=fun z=>e (by injection z);rw[if_neg e1];by_cases m:x∈ws
  ·rw[if_pos m,if_pos (cj _ m)]
  ·rw[if_neg m,if_neg (fun z=>by rcases bd.mp z with z|z;exact m z;exact e (by simpa using z))]
theorem dL(ws:Zb)(x:Str):(br (aI ws) (.inr x)).isSome=decide (x∈ws):=by
 rw[ue];by_cases m:x∈ws
 ·rw[if_pos m,zzr1 m];rfl
 ·rw[if_neg m,zzr0 m];rfl
inductive sp_as_keys(K:Za)(vs:List V)(H:Hp)(Q:VK)(E:XK):Prop
 |mk (l:Addr) (ws:Zb):(vs=[.ref l])->(ay K H l (ws.map V.str))->(ws.length<=1000)->(∀d,H d=none->Q (.ref d) (upd H d (.dK (aI ws))))->sp_as_keys K vs H Q E
theorem AX{K:Za}{vs:List V}{H:Hp}{Q:VK}{E:XK}(h:sp_as_keys K vs H Q E):Dc K (bM Q) (start wm vs) H:=by
 obtain⟨l,ws,rfl,hl,hz,k⟩:=h;refine fun d hd=>?_;have key:∀kvs,ay K (upd H d (.dK kvs)) l (ws.map V.str):=fun kvs=>(ac.new hd).seq hl;refine⟨_,rfl,l,rfl,⟨_,key _⟩,?_⟩;refine bR (xs:=ws.map V.str) (fun i σ H'=>∃x,σ=[some (.ref l),some (.ref d),x]/\H'=upd H d (.dK (aI (ws.take i)))) ⟨_,rfl,rfl⟩ (fun i σ H' _ ⟨_,_,e⟩=>by rw[e];exact key _) ?_ ?_
 ·rintro i x σ H' hi ⟨y,rfl,rfl⟩;obtain⟨w,hw,rfl⟩:=bu hi;have hlen:(aI (ws.take i)).length<ai:=aq (bG (i0 _) (by rw[aE];omega));refine⟨_,rfl,_,rfl,d,_,rfl,.inl ⟨_,.inr w,aa,rfl,hlen,rfl⟩,_,rfl,?_⟩;rw[mr,take_snoc hw,dj]
 ·rintro σ H' ⟨x,rfl,rfl⟩;rw[aj,aT];exact⟨_,rfl,k d hd⟩
def Fw(most:Nat):Nat->List Str->List Str->Option Nat
 |_,_,[]=>none
 |i,ahead,n::ns=>if i=most∨n∈ahead∨pj n=false then some i else Fw most (i+1) (ahead++[n]) ns
def cT(names:Zb)(most:Nat)(taken:Zb):Option Nat:=if names=[]then some 0 else Fw most 0 taken names
def oV:Option Nat->V
 |none=>.non
 |some i=>.int i
inductive sp_first_wrong_name(K:Za)(vs:List V)(H:Hp)(Q:VK)(E:XK):Prop
 |mk (l t:Addr) (names taken:Zb) (most:Nat):(vs=[.ref l,.int most,.ref t])->(ay K H l (names.map V.str))->(ay K H t (taken.map V.str))->(names.length+taken.length<=1000)->((∀w∈names,w.length<=1000))->(∀H',ac H H'->Q (oV (cT names most taken)) H')->sp_first_wrong_name K vs H Q E
theorem qH{K:Za}{H:Hp}{Q:VK}{E:XK}{l:Addr}{ws:Zb}(hl:ay K H l (ws.map V.str))(hz:ws.length<=1000)(k:∀d,H d=none->Q (.ref d) (upd H d (.dK (aI ws)))):sp_as_keys K [.ref l] H Q E:=by
 exact⟨l,ws,rfl,hl,hz,k⟩
theorem DG{H:Hp}{Q:VK}{E:XK}{w:Str}(hz:w.length<=1000)(k:∀H',ac H H'->Q (.bl (pj w)) H'):sp_is_name [.str w] H Q E:=by
 exact⟨w,rfl,hz,k⟩
theorem mT{K:Za}{vs:List V}{H:Hp}{Q:VK}{E:XK}(h:sp_first_wrong_name K vs H Q E):nL K sp_is_name (sp_as_keys K) (bM Q) (start oj vs) H:=by
 obtain⟨l,t,names,taken,most,rfl,hl,ht,hz,hw,k⟩:=h;refine⟨_,rfl,.inl ⟨l,_,rfl,.inl hl,rfl,_,rfl,?_⟩⟩;by_cases h0:names=[]
 ·subst h0;refine cS ?_;have:=k H (ac.refl H);exact this
 have e0:decide (V.int ((names.map V.str).length:Nat)=V.int 0)=false:=zzr0 (fun z=>h0 (by
  injection z with z;rw[aj]at z;exact List.length_eq_zero_iff.mp (by omega)))
 rw[e0];refine bU ?_;have hk:∀H',ac H H'->Q (oV (Fw most 0 taken names)) H':=by
  unfold cT at k;rw[if_neg h0]at k;exact k
 refine⟨_,rfl,qH ht (by omega) fun d hd=>?_⟩;refine⟨_,rfl,l,rfl,⟨_,(ac.new hd).seq hl⟩,?_⟩;refine lZ (xs:=names.map V.str) (fun i σ H'=>∃x y,σ=[some (.ref l),some (.int most),some (.ref t),some (.ref d),x,y]/\ac H H'/\H' d=some (.dK (aI (taken++names.take i)))/\Fw most i (taken++names.take i) (names.drop i)=Fw most 0 taken names)
  ⟨_,_,rfl,ac.new hd,by rw[sy,dI];exact aa,by rw[sy,dI,sI]⟩ (fun i σ H' _ ⟨_,_,_,hS,_⟩=>hS.seq hl) ?_ ?_
 ·rintro i x σ H' q hi ⟨x4,x5,rfl,hS,hd',hf⟩ hq;obtain⟨w,hw',rfl⟩:=bu hi;have hil:i<names.length:=(cG.mp hw').1;have ed:names.drop i=w::names.drop (i+1):=by
   rw[List.drop_eq_getElem_cons hil];congr 1;exact(cG.mp hw').2
  rw[ed]at hf;have hd2:upd H' q (.tup [.int i,.str w]) d=some (.dK (aI (taken++names.take i))):=kp hd' hq;have hS2:ac H (upd H' q (.tup [.int i,.str w])):=hS.trans (ac.new hq);have hww:w.length<=1000:=hw w (ba hw');refine⟨q,_,rfl,bc.of aa,rfl,_,_,rfl,_,_,rfl,rfl,?_⟩;generalize upd H' q (.tup [.int i,.str w])=H2 at hd2 hS2 ⊢;refine⟨_,rfl,_,rfl,rfl,_,rfl,?_⟩;by_cases c1:i=most
  ·have e1:decide (V.int (i:Nat)=V.int (most:Nat))=true:=zzr1 (by rw[c1]);rw[e1];refine cS (cS ?_);refine⟨_,rfl,?_⟩;have:=hk H2 hS2;rw[<-hf]at this;unfold Fw at this;rw[if_pos (.inl c1)]at this;exact this
  have e1:decide (V.int (i:Nat)=V.int (most:Nat))=false:=zzr0 (fun z=>c1 (by injection z with z;omega));rw[e1];refine bU ?_;refine⟨_,rfl,_,rfl,d,_,rfl,.inl ⟨_,.inr w,.inl hd2,rfl,rfl⟩,_,rfl,?_⟩;rw[dL];by_cases c2:w∈taken++names.take i
  ·rw[zzr1 c2];refine cS (cS ?_);refine⟨_,rfl,?_⟩;have:=hk H2 hS2;rw[<-hf]at this;unfold Fw at this;rw[if_pos (.inr (.inl c2))]at this;exact this
  rw[zzr0 c2];refine bU ?_;refine⟨_,rfl,DG hww fun H3 hS3=>⟨_,rfl,?_⟩⟩;have hd3:=hS3 _ _ hd2;cases c3:pj w with
  |false =>
   refine cS ?_;refine⟨_,rfl,?_⟩;have:=hk H3 (hS2.trans hS3);rw[<-hf]at this;unfold Fw at this;rw[if_pos (.inr (.inr c3))]at this;exact this
  |true =>
   refine bU ?_;have hlen:(aI (taken++names.take i)).length<ai:=aq (bG (i0 _) (by rw[aL,aE];omega));refine⟨_,rfl,_,rfl,d,_,rfl,.inl ⟨_,.inr w,hd3,rfl,hlen,rfl⟩,_,_,rfl,?_,?_,?_⟩
   ·intro b o e;rw[ag (ae e hd)];exact hS3 _ _ (hS2 _ _ e)
   ·rw[aa,take_snoc hw',<-dH,dj]
   ·rw[<-hf,take_snoc hw',<-dH]
    conv=>rhs;unfold Fw
    rw[if_neg];rintro(z|z|z)
    ·exact c1 z
    ·exact c2 z
    ·rw[c3]at z;cases z
 ·rintro σ H' ⟨x,y,rfl,hS,_,hf⟩;rw[aj,List.drop_length]at hf;have:=hk H' hS;rw[<-hf]at this;exact this
theorem zY{most:Nat}:∀(ns ahead:Zb) (i:Nat),i+ns.length<=most->(ahead++ns).Nodup->(∀w∈ns,qP w)->Fw most i ahead ns=none
 |[],_,_,_,_,_=>rfl
 |n::ns,ahead,i,h1,h2,h3=>by
  rw[d4]at h1;unfold Fw;rw[if_neg]
  ·refine zY ns (ahead++[n]) (i+1) (by omega) (by rw[dH];exact h2) fun w hw=>h3 w (eI _ hw)
  ·rintro(z|z|z)
   ·omega
   ·rw[cP]at h2;exact h2.2.2 n z n (dO) rfl
   ·rw[(h3 n dO).b]at z;cases z
theorem im{most:Nat}{ns taken:Zb}(h0:ns≠[])(h1:ns.length<=most)(h2:(taken++ns).Nodup)(h3:∀w∈ns,qP w):cT ns most taken=none:=by
 unfold cT;rw[if_neg h0];exact zY ns taken 0 (by omega) h2 h3
theorem gM{n:Nat}(h:n<=9000):n<ai:=Nat.lt_of_le_of_lt h (by decide)
def mS(x:Str):TK:=.k (some (.inr x))
def fj(sg:Zb):TK:=.t (sg.map mS)
def CP(d:ak):TK:=.t [mS d.a,fj d.sg,mS d.b]
theorem o8{x y:Str}(h:mS x=mS y):x=y:=by
 unfold mS at h;injection h with h;injection h with h;injection h
theorem re:∀{x y:Zb},x.map mS=y.map mS->x=y
 |[],[],_=>rfl
 |[],_::_,h=>by cases h
 |_::_,[],h=>by cases h
 |a::x,b::y,h=>by
  rw[bN,bN]at h;injection h with h1 h2;rw[o8 h1,re h2]
theorem iA{x y:Zb}(h:fj x=fj y):x=y:=by
 unfold fj at h;injection h with h;exact re h
theorem G7{x y:ak}(h:CP x=CP y):x=y:=by
 unfold CP at h;injection h with h;injection h with h1 h;injection h with h2 h;injection h with h3 h;cases x;cases y;simp only at *;rw[o8 h1,iA h2,o8 h3]
theorem Ar(xs:Zb):TK.depths (xs.map mS)=0:=by
 induction xs with
 |nil=>rfl
 |cons x xs ih=>rw[bN];show max (TK.depth (mS x)) (TK.depths _)=0;rw[ih];rfl
theorem qh(sg:Zb):(fj sg).depth=1:=by
 show TK.depths (sg.map mS)+1=1;rw[Ar]
theorem vI(d:ak):(CP d).depth=2:=by
 show max (TK.depth (mS d.a)) (max (TK.depth (fj d.sg)) (max (TK.depth (mS d.b)) 0))+1=2;rw[qh]
 rfl
theorem B_{H:Hp}:∀xs:List Str,TKAts H (xs.map mS) (xs.map V.str)
 |[]=>by show TKAts H [] [];unfold TKAts;rfl
 |x::xs=>by
  rw[bN,bN];unfold TKAts;refine⟨_,_,rfl,?_,B_ xs⟩;unfold mS cW
  rfl
theorem tf{H:Hp}(x:Str):cW H (mS x) (.str x):=by unfold mS cW;rfl
theorem SignAt.tk{H:Hp}{s:Addr}{sg:Zb}(h:SignAt H s sg):cW H (fj sg) (.ref s):=by
 unfold fj cW;exact⟨s,_,rfl,h,B_ _⟩
theorem gV.tk{H:Hp}{t:Addr}{d:ak}(h:gV H t d):cW H (CP d) (.ref t):=by
 obtain⟨s,h1,h2⟩:=h;unfold CP cW;refine⟨t,_,rfl,h1,?_⟩;unfold TKAts;refine⟨_,_,rfl,tf _,?_⟩;unfold TKAts;refine⟨_,_,rfl,SignAt.tk h2,?_⟩;unfold TKAts;refine⟨_,_,rfl,tf _,?_⟩;unfold TKAts
 rfl
section
variable{κ:Type}[DecidableEq κ]
def kR(ks:List κ):List (κ×V):=ks.foldl (fun acc k=>cL acc k (.bl true)) []
theorem nZ(ws:List κ)(w:κ):kR (ws++[w])=cL (kR ws) w (.bl true):=by
 unfold kR;rw[k_]
 rfl
theorem DD(ws:List κ):(kR ws).length<=ws.length:=by
 refine jN (fun ws=>(kR ws).length<=ws.length) (aB _) (fun ws w h=>?_) ws;show(kR (ws++[w])).length<=(ws++[w]).length;rw[nZ,aL];have:=zB (kR ws) w (.bl true);show _<=ws.length+1;omega
theorem Fn(ws:List κ)(x:κ):(br (kR ws) x).isSome=decide (x∈ws):=by
 refine jN (fun ws=>(br (kR ws) x).isSome=decide (x∈ws)) rfl (fun ws w h=>?_) ws;show(br (kR (ws++[w])) x).isSome=_;rw[nZ,lB];by_cases e:x=w
 ·subst e;rw[if_pos rfl,zzr1 (by simp)]
  rfl
 ·rw[if_neg e,h];by_cases m:x∈ws
  ·rw[zzr1 m,zzr1 (cj _ m)]
  ·rw[zzr0 m,zzr0 (fun z=>by rcases bd.mp z with z|z;exact m z;exact e (by simpa using z))]
end
theorem CA{d:ak}{ds:List ak}:CP d∈ds.map CP↔d∈ds:=by
 constructor
 ·intro h;obtain⟨x,hx,e⟩:=ax.mp h;rw[<-G7 e];exact hx
 ·exact j9
def n_(K:Za)(H:Hp)(v:V)(sg:Zb):Prop:=∃s,v=.ref s/\bc K H s (sg.map V.str)
theorem ac.sqT{K:Za}{H H':Hp}{a:Addr}{xs:List V}(e:ac H H')(h:bc K H a xs):bc K H' a xs:=by
 rcases h with(h|⟨o,h⟩)|h
 ·exact .inl (.inl (e _ _ h))
 ·exact .inl (.inr ⟨o,e _ _ h⟩)
 ·exact .inr h
theorem Signs.same{K:Za}{H H':Hp}(e:ac H H'){xs:List V}{sgs:List (List Str)}(h:Paired (n_ K H) xs sgs):Paired (n_ K H') xs sgs :=
 Paired.mapP h fun _ _ ⟨s,h1,h2⟩=>⟨s,h1,ac.sqT e h2⟩
def jb(sg:Zb):DT:=.t (sg.map gH)
theorem CI{x y:Zb}(h:jb x=jb y):x=y:=by
 unfold jb at h;injection h with h;exact ia h
theorem bo(sg:Zb):(jb sg).depth=1:=by
 show DT.depths (sg.map gH)+1=1;rw[em]
theorem DQ(sgs:List (List Str)):DT.depths (sgs.map jb)<=8:=by
 induction sgs with
 |nil=>exact db _
 |cons x xs ih=>rw[bN];show max (DT.depth (jb x)) (DT.depths _)<=8;rw[bo];omega
theorem Signs.dIns{K:Za}{H:Hp}:∀{xs:List V}{sgs:List (List Str)},Paired (n_ K H) xs sgs->DIns K H (sgs.map jb) xs
 |_,_,.nil=>by show DIns K H [] [];unfold DIns;rfl
 |_,_,.cons ⟨s,e,r⟩ t=>by
  rw[bN];unfold DIns;refine⟨_,_,rfl,?_,Signs.dIns t⟩;rw[e];exact aQ r
theorem Cz{d:Zb}{ds:List (List Str)}:jb d∈ds.map jb↔d∈ds:=by
 constructor
 ·intro h;obtain⟨x,hx,e⟩:=ax.mp h;rw[<-CI e];exact hx
 ·exact j9
theorem Paired.app{α β:Type}{R:α->β->Prop}:∀{a:List α}{b:List β}{c:List α}{d:List β},Paired R a b->Paired R c d->Paired R (a++c) (b++d)
 |_,_,_,_,.nil,h=>h
 |_,_,_,_,.cons r t,h=>.cons r (Paired.app t h)
def cY(w:Str):List Str:=[("ask":Str),w]
def lK(w:Str):List Str:=[("say":Str),w]
def j5(J0 J1:Zb):List (List Str):=J0.map cY++J1.map lK++[ao]
theorem tO{K:Za}{kw:Str}{σ:L2.St}{H:Hp}{a l:Addr}{ws:Zb}{Q:Hp->Prop}(ha:H a=some (.lst (ws.map V.str)))(hl:H l=none)(hz:ws.length<=1000)
  (k:∀(xs:List V) (H':Hp),Paired (n_ K H') xs (ws.map fun w=>[kw,w])->ac H H'->H' l=some (.lst xs)->Q H') :
  gu 1 [] σ (FZ K a) U0 kT (bD (aR (tC (.str kw)) V0)) H l Q:=by
 refine cg (xs:=ws.map V.str) (fun i vs H'=>Paired (n_ K H') vs ((ws.take i).map fun w=>[kw,w])/\ac H H'/\H' l=some (.lst vs))
  ⟨.nil,ac.new hl,aa⟩ (fun i vs H' _ ⟨_,hS,h'⟩=>⟨h',ay.of (hS _ _ ha)⟩) ?_ ?_
 ·rintro vs H' ⟨h1,h2,h3⟩;rw[aj,aT]at h1;exact k vs H' h1 h2 h3
 ·rintro i vs H' x hx hi ⟨h1,h2,h3⟩;obtain⟨w,hw,rfl⟩:=bu hx;refine gN (sW ?_);refine⟨_,rfl,(by show 2<=ai;decide),fun t ht=>⟨kp h3 ht,?_,mW hi ⟨?_,?_,aa⟩⟩⟩
  ·rw[Paired.length h1,aj,aE];exact aq (by omega)
  ·rw[take_snoc hw,aw];have hS2:hU (upd H' t (.tup [.str kw,.str w])) (upd (upd H' t (.tup [.str kw,.str w])) l (.lst (vs++[.ref t]))):=cR (kp h3 ht);have hS3:hU H' (upd (upd H' t (.tup [.str kw,.str w])) l (.lst (vs++[.ref t]))):=(ac.kt (ac.new ht)).trans hS2;refine Paired.app (Paired.mapP h1 fun v sg ⟨s,e1,e2⟩=>⟨s,e1,?_⟩) (.cons ⟨t,rfl,bc.of (hS2 _ _ aa)⟩ .nil);rcases e2 with(e2|⟨o,e2⟩)|e2
   ·exact .inl (.inl (hS3 _ _ e2))
   ·refine .inl (.inr ⟨o,?_⟩);rw[ag (fun z=>by rw[z,h3]at e2;cases e2)];exact kp e2 ht
   ·exact .inr e2
  ·intro b o e;rw[ag (ae e hl)];exact kp (h2 _ _ e) ht
inductive sp_door_signs(K:Za)(vs:List V)(H:Hp)(Q:VK)(E:XK):Prop
 |mk (l1 l2:Addr) (J0 J1:Zb):(vs=[.ref l1,.ref l2])->(H l1=some (.lst (J0.map V.str)))->(H l2=some (.lst (J1.map V.str)))->(J0.length<=100)->(J1.length<=100)->(∀(l:Addr) (xs:List V) (H':Hp),Paired (n_ K H') xs (j5 J0 J1)->ac H H'->H' l=some (.lst xs)->Q (.ref l) H')->sp_door_signs K vs H Q E
theorem vj{K:Za}{st:Addr}(hst:∀H,bc K H st (ao.map V.str)){vs:List V}{H:Hp}{Q:VK}{E:XK}(h:sp_door_signs K vs H Q E):xv K st (bM Q) (start yD vs) H:=by
 obtain⟨l1,l2,J0,J1,rfl,h1,h2,z1,z2,k⟩:=h;refine⟨_,rfl,l1,rfl,⟨_,ay.of h1⟩,fun a ha=>?_⟩;refine tO h1 ha (by omega) fun xs1 H1 p1 s1 g1=>?_;refine⟨_,rfl,l2,rfl,⟨_,ay.of (s1 _ _ h2)⟩,fun b hb=>?_⟩;refine tO (s1 _ _ h2) hb (by omega) fun xs2 H2 p2 s2 g2=>?_;have len1:xs1.length<=100:=by rw[Paired.length p1,aj];exact z1
 have len2:xs2.length<=100:=by rw[Paired.length p2,aj];exact z2
 refine⟨a,b,xs1,xs2,rfl,rfl,s2 _ _ g1,g2,fk (aq (by omega)),fun c hc=>?_⟩;refine⟨(by show 1<=ai;decide),fun d hd=>?_⟩;refine⟨c,d,_,_,rfl,rfl,kp aa hd,aa,?_,fun e he=>k e _ _ ?_ ?_ aa⟩
 ·rw[aL];show _+1<=ai;exact fk (aq (by omega))
 ·have sx:ac H2 (upd (upd (upd H2 c (.lst (xs1++xs2))) d (.lst [.ref st])) e (.lst (xs1++xs2++[.ref st]))):=((ac.new hc).trans (ac.new hd)).trans (ac.new he);exact Paired.app (Paired.app (Signs.same (s2.trans sx) p1) (Signs.same sx p2)) (.cons ⟨st,rfl,hst _⟩ .nil)
 ·exact(((s1.trans s2).trans (ac.new hc)).trans (ac.new hd)).trans (ac.new he)
def G4(J2:Zb)(sgs:List (List Str)):Nat->List ak->List ak->Option Nat
 |_,_,[]=>none
 |i,ahead,d::ds=>if i=2000∨d∈ahead∨d.a∉J2∨d.sg∉sgs∨d.b∉J2 then some i else G4 J2 sgs (i+1) (ahead++[d]) ds
inductive sp_first_wrong_door(K:Za)(vs:List V)(H:Hp)(Q:VK)(E:XK):Prop
 |mk (l l3 sl:Addr) (ts:Ze) (ds:List ak) (J2:Zb) (xs:List V) (sgs:List (List Str)):(vs=[.ref l,.ref l3,.ref sl])->(H l=some (.lst (ts.map V.ref)))->(cC H ts ds)->(H l3=some (.lst (J2.map V.str)))->(J2.length<=1000)->(H sl=some (.lst xs))->(Paired (n_ K H) xs sgs)->(ds.length<=9000)->(∀H',ac H H'->Q (oV (G4 J2 sgs 0 [] ds)) H')->sp_first_wrong_door K vs H Q E
theorem cu{ws:Ze}{i:Nat}{x:V}(h:(ws.map V.ref)[i]?=some x):∃w,ws[i]?=some w/\x=.ref w:=by
 rw[bZ]at h;cases q:ws[i]? with
 |none=>rw[q]at h;cases h
 |some r=>rw[q]at h;exact⟨r,rfl,(e_ h).symm⟩
theorem mU{K:Za}{vs:List V}{H:Hp}{Q:VK}{E:XK}(h:sp_first_wrong_door K vs H Q E):nM K (sp_as_keys K) (bM Q) (start ol vs) H:=by
 obtain⟨l,l3,sl,ts,ds,J2,xs,sgs,rfl,hl,hds,h3,hr,hsl,hsg,hz,k⟩:=h;refine⟨_,rfl,qH (ay.of h3) hr fun d hd=>?_⟩;refine fun e he=>?_;have hS0:ac H (upd (upd H d (.dK (aI J2))) e (.dT [])):=(ac.new hd).trans (ac.new he);have heH:H e=none:=(ac.new hd).free he;refine⟨_,rfl,l,rfl,⟨_,ay.of (hS0 _ _ hl)⟩,?_⟩;refine lZ (xs:=ts.map V.ref) (fun i σ H'=>∃x y,σ=[some (.ref l),some (.ref l3),some (.ref sl),some (.ref d),some (.ref e),x,y]/\ac H H'/\H' d=some (.dK (aI J2))/\H' e=some (.dT (kR ((ds.take i).map CP)))/\G4 J2 sgs i (ds.take i) (ds.drop i)=G4 J2 sgs 0 [] ds)
  ⟨_,_,rfl,hS0,kp aa he,aa,rfl⟩ (fun i σ H' _ ⟨_,_,_,hS,_⟩=>ay.of (hS _ _ hl)) ?_ ?_
 ·rintro i x σ H' q hi ⟨x5,x6,rfl,hS,hd',he',hf⟩ hq;obtain⟨t,ht,rfl⟩:=cu hi;obtain⟨dr,hdr,hat⟩:=Paired.getL hds ht;have hil:i<ds.length:=(cG.mp hdr).1;have ed:ds.drop i=dr::ds.drop (i+1):=by
   rw[List.drop_eq_getElem_cons hil];congr 1;exact(cG.mp hdr).2
  rw[ed]at hf;have hS2:ac H (upd H' q (.tup [.int i,.ref t])):=hS.trans (ac.new hq);have hd2:upd H' q (.tup [.int i,.ref t]) d=_:=kp hd' hq;have he2:upd H' q (.tup [.int i,.ref t]) e=_:=kp he' hq;refine⟨q,_,rfl,bc.of aa,rfl,_,_,rfl,_,_,rfl,rfl,?_⟩;generalize upd H' q (.tup [.int i,.ref t])=H2 at hd2 he2 hS2 ⊢;have hat2:=hat.kt (ac.kt hS2);have hin:jc K H2 (CP dr) (.ref t):=cW.isIn 8 (by rw[vI];decide) hat2.tk;have hd8:(CP dr).depth<=8:=by rw[vI];decide
  obtain⟨s,ht2,hs2⟩:=hat2;have bad:(i=2000∨dr∈ds.take i∨dr.a∉J2∨dr.sg∉sgs∨dr.b∉J2)->Q (.int i) H2:=by
   intro c;have:=k H2 hS2;rw[<-hf]at this;unfold G4 at this;rw[if_pos c]at this;exact this
  refine⟨_,rfl,rfl,_,rfl,?_⟩;by_cases c1:i=2000
  ·have e1:decide (V.int (i:Nat)=V.int 2000)=true:=zzr1 (by rw[c1];rfl);rw[e1];exact cS (cS ⟨_,rfl,bad (.inl c1)⟩)
  have e1:decide (V.int (i:Nat)=V.int 2000)=false:=zzr0 (fun z=>c1 (by injection z with z;omega));rw[e1];refine bU ?_;refine⟨_,rfl,_,rfl,e,_,rfl,.inr ⟨_,CP dr,t,.inl he2,rfl,hin,hd8,rfl⟩,_,rfl,?_⟩;rw[Fn];by_cases c2:dr∈ds.take i
  ·rw[zzr1 (CA.mpr c2)];exact cS ⟨_,rfl,bad (.inr (.inl c2))⟩
  rw[zzr0 (fun z=>c2 (CA.mp z))];refine bU ?_;refine⟨_,rfl,.inr (.inl ⟨t,_,0,_,rfl,rfl,bc.of ht2,rfl,_,rfl,d,_,rfl,.inl ⟨_,.inr dr.a,.inl hd2,rfl,rfl⟩,_,rfl,?_⟩)⟩;rw[dL];by_cases c3:dr.a∈J2;rotate_left
  ·rw[zzr0 c3];exact cS (cS ⟨_,rfl,bad (.inr (.inr (.inl c3)))⟩)
  rw[zzr1 c3];refine bU ?_;refine⟨_,rfl,.inr (.inl ⟨t,_,1,_,rfl,rfl,bc.of ht2,rfl,_,rfl,jb dr.sg,sgs.map jb,sl,xs,aQ (bc.of hs2),rfl,.inl (ay.of (hS2 _ _ hsl)),Signs.dIns (Signs.same hS2 hsg),by rw[bo];decide,DQ _,_,rfl,?_⟩)⟩;rw[if_pos rfl];by_cases c4:dr.sg∈sgs;rotate_left
  ·rw[zzr0 (fun z=>c4 (Cz.mp z))];exact cS (cS ⟨_,rfl,bad (.inr (.inr (.inr (.inl c4))))⟩)
  rw[zzr1 (Cz.mpr c4)];refine bU ?_;refine⟨_,rfl,.inr (.inl ⟨t,_,2,_,rfl,rfl,bc.of ht2,rfl,_,rfl,d,_,rfl,.inl ⟨_,.inr dr.b,.inl hd2,rfl,rfl⟩,_,rfl,?_⟩)⟩;rw[dL];by_cases c5:dr.b∈J2;rotate_left
  ·rw[zzr0 c5];exact cS ⟨_,rfl,bad (.inr (.inr (.inr (.inr c5))))⟩
  rw[zzr1 c5];refine bU ?_;have hlen:(kR ((ds.take i).map CP)).length<ai:=gM (bG (DD _) (by rw[aj,aE];omega));refine⟨_,rfl,_,rfl,e,_,rfl,.inr ⟨_,CP dr,t,he2,rfl,gV.tk ⟨s,ht2,hs2⟩,hd8,hlen,rfl⟩,_,_,rfl,?_,?_,?_,?_⟩
  ·intro b o q;rw[ag (ae q heH)];exact hS2 _ _ q
  ·rw[ag (fun z=>by rw[z,he2]at hd2;cases hd2)];exact hd2
  ·rw[aa,take_snoc hdr,aw];exact congrArg (fun z=>some (HO.dT z)) (nZ _ _).symm
  ·rw[<-hf,take_snoc hdr]
   conv=>rhs;unfold G4
   rw[if_neg];rintro(z|z|z|z|z)
   ·exact c1 z
   ·exact c2 z
   ·exact z c3
   ·exact z c4
   ·exact z c5
 ·rintro σ H' ⟨x,y,rfl,hS,_,_,hf⟩;have:=k H' hS;rw[<-hf,aj,Paired.length hds,List.drop_length]at this;exact this
theorem zZ{J2:Zb}{sgs:List (List Str)}:∀(ds ahead:List ak) (i:Nat),i+ds.length<=2000->(ahead++ds).Nodup->(∀d∈ds,d.a∈J2/\d.sg∈sgs/\d.b∈J2)->G4 J2 sgs i ahead ds=none
 |[],_,_,_,_,_=>rfl
 |n::ns,ahead,i,h1,h2,h3=>by
  rw[d4]at h1;unfold G4;rw[if_neg]
  ·refine zZ ns (ahead++[n]) (i+1) (by omega) (by rw[dH];exact h2) fun w hw=>h3 w (eI _ hw)
  ·have:=h3 n dO;rintro(z|z|z|z|z)
   ·omega
   ·rw[cP]at h2;exact h2.2.2 n z n (dO) rfl
   ·exact z this.1
   ·exact z this.2.1
   ·exact z this.2.2
inductive sp_need_none (vs:List V)(H:Hp)(Q:VK)(E:XK):Prop
 |mk (x:V):(vs=[x,.non])->(Q .non H)->sp_need_none  vs H Q E
theorem xH{K:Za}{vs:List V}{H:Hp}{Q:VK}{E:XK}(h:sp_need_none vs H Q E):yS K (bM Q) (start Af vs) H:=by
 obtain⟨x,rfl,k⟩:=h;refine⟨_,rfl,_,rfl,?_⟩;have e:(!decide (V.non=V.non))=false:=by rw[zzr1 rfl];rfl
 rw[e];exact bU k
structure Lists(H:Hp)(l1 l2 l3 l4:Addr)(ts:Ze)(J0 J1 J2:Zb)(ds:List ak):Prop where
 a1:H l1=some (.lst (J0.map V.str))
 a2:H l2=some (.lst (J1.map V.str))
 a3:H l3=some (.lst (J2.map V.str))
 a4:H l4=some (.lst (ts.map V.ref))
 ds:cC H ts ds
theorem Lists.same{H H':Hp}{l1 l2 l3 l4:Addr}{ts:Ze}{J0 J1 J2:Zb}{ds:List ak}(h:Lists H l1 l2 l3 l4 ts J0 J1 J2 ds)(e:ac H H'):Lists H' l1 l2 l3 l4 ts J0 J1 J2 ds :=
 ⟨e _ _ h.a1,e _ _ h.a2,e _ _ h.a3,e _ _ h.a4,h.ds.kt (ac.kt e)⟩
inductive sp_need_parts (vs:List V)(H:Hp)(Q:VK)(E:XK):Prop
 |mk (l1 l2 l3 l4:Addr) (ts:Ze) (J0 J1 J2:Zb) (ds:List ak):(vs=[.ref l1,.ref l2,.ref l3,.ref l4])->(Lists H l1 l2 l3 l4 ts J0 J1 J2 ds)->(aK J0 J1 J2 ds)->(∀H',ac H H'->Q .non H')->sp_need_parts  vs H Q E
theorem aK.signs{J0 J1 J2:Zb}{ds:List ak}(m:aK J0 J1 J2 ds):∀d∈ds,d.a∈J2/\d.sg∈j5 J0 J1/\d.b∈J2:=by
 intro d hd;have g:=m.good d hd;refine⟨g.a,?_,g.b⟩;unfold j5;rcases g.sg with⟨w,hw,e⟩|⟨w,hw,e⟩|e
 ·rw[e];exact cj _ (cj _ (ax.mpr ⟨w,hw,rfl⟩))
 ·rw[e];exact cj _ (cD _ (ax.mpr ⟨w,hw,rfl⟩))
 ·rw[e];exact cD _ (by simp[ao])
theorem qz{ws:Zb}(h:kD ws):∀w∈ws,w.length<=1000:=fun w hw=>bG (h.2 w hw).hi (by decide)
theorem vd{K:Za}{vs:List V}{H:Hp}{Q:VK}{E:XK}(h:sp_need_parts vs H Q E):xm K sp_need_none (sp_first_wrong_door K) (sp_door_signs K) (sp_first_wrong_name K) (bM Q) (start yu vs) H:=by
 obtain⟨l1,l2,l3,l4,ts,J0,J1,J2,ds,rfl,L,m,k⟩:=h;have w1:cT J0 4 []=none:=im m.asks0 m.asks4 m.okA.1 m.okA.2;have w2:cT J1 4 J0=none:=im m.says0 m.says4 (by
  rw[cP];exact⟨m.okA.1,m.okS.1,fun a ha b hb e=>m.apart b hb (e▸ha)⟩) m.okS.2
 have w3:cT J2 150 []=none:=im m.rooms0 (by have:=m.rooms26;omega) m.okR.1 m.okR.2;have w4:G4 J2 (j5 J0 J1) 0 [] ds=none:=zZ ds [] 0 (by have:=m.few;omega) m.nodup m.signs;have z1:=m.asks4;have z2:=m.says4;have z3:=m.rooms26;have z4:=m.few;refine⟨_,rfl,(by show 0<=ai;decide),fun e he=>⟨l1,e,J0,[],4,rfl,ay.of (kp L.a1 he),ay.of aa,by simp;omega,qz m.okA,fun H1 s1=>?_⟩⟩;rw[w1];refine⟨_,rfl,?_⟩;have S1:=(ac.new he).trans s1;refine⟨_,rfl,_,rfl,l2,l1,J1,J0,4,rfl,ay.of (S1 _ _ L.a2),ay.of (S1 _ _ L.a1),by omega,qz m.okS,fun H2 s2=>?_⟩;rw[w2];refine⟨_,rfl,?_⟩;have S2:=S1.trans s2;refine⟨_,rfl,(by show 0<=ai;decide),fun e he=>⟨l3,e,J2,[],150,rfl,ay.of (kp (S2 _ _ L.a3) he),ay.of aa,by simp;omega,qz m.okR,fun H3 s3=>?_⟩⟩;rw[w3];refine⟨_,rfl,?_⟩;have S3:=(S2.trans (ac.new he)).trans s3;refine⟨_,rfl,_,rfl,_,rfl,_,rfl,l1,l2,J0,J1,rfl,S3 _ _ L.a1,S3 _ _ L.a2,by omega,by omega,fun sl xs H4 hx s4 hsl=>?_⟩;have S4:=S3.trans s4;have L4:=L.same S4;refine⟨l4,l3,sl,ts,ds,J2,xs,j5 J0 J1,rfl,L4.a4,L4.ds,L4.a3,by omega,hsl,hx,by omega,fun H5 s5=>?_⟩;rw[w4];exact⟨_,rfl,k H5 (S4.trans s5)⟩
section
variable{κ ι:Type}[DecidableEq κ]{e:ι->κ}
def eg(e:ι->κ)(ps:List (ι×Addr)):List (κ×V):=ps.map fun x=>(e x.1,V.ref x.2)
theorem mF(inj:∀x y,e x=e y->x=y){i:ι}:∀{ps:List (ι×Addr)},i∉ps.map (·.1)->br (eg e ps) (e i)=none
 |[],_=>rfl
 |x::ps,h=>by
  rw[bN,cO]at h;show br ((e x.1,V.ref x.2)::eg e ps) (e i)=none;rw[bW (fun z=>h (.inl (inj _ _ z).symm))];exact mF inj (fun z=>h (.inr z))
theorem eE(inj:∀x y,e x=e y->x=y){i:ι}{a:Addr}:∀{ps:List (ι×Addr)},(ps.map (·.1)).Nodup->(i,a)∈ps->br (eg e ps) (e i)=some (.ref a)
 |[],_,h=>by cases h
 |x::ps,nd,h=>by
  rw[bN,jx]at nd;show br ((e x.1,V.ref x.2)::eg e ps) (e i)=_;rcases cO.mp h with h|h
  ·rw[<-h];exact cr rfl
  ·rw[bW (fun z=>nd.1 (by rw[inj _ _ z];exact ax.mpr ⟨_,h,rfl⟩))];exact eE inj nd.2 h
theorem vZ(ps:List (ι×Addr))(i:ι)(a:Addr):eg e (ps++[(i,a)])=eg e ps++[(e i,.ref a)]:=by
 unfold eg;rw[aw]
 rfl
end
structure DL{ι:Type}(H0 H:Hp)(d:Addr)(ps:List (ι×Addr)):Prop where
 nd:(ps.map (·.1)).Nodup
 na:(ps.map (·.2)).Nodup
 fr:∀x∈ps,H0 x.2=none
 frd:H0 d=none
 ned:∀x∈ps,x.2≠d
 same:ac H0 H
theorem DL.snoc{ι:Type}{H0 H H':Hp}{d:Addr}{ps:List (ι×Addr)}{i:ι}{a:Addr}(h:DL H0 H d ps)(hi:i∉ps.map (·.1))(ha:∀x∈ps,x.2≠a)(fr:H0 a=none)(nd:a≠d)(s:ac H0 H'):DL H0 H' d (ps++[(i,a)]):=by
 refine⟨?_,?_,?_,h.frd,?_,s⟩
 ·rw[aw,cP];refine⟨h.nd,by simp,fun x hx y hy e=>?_⟩;have:y=i:=by simpa using hy
  exact hi (by rw[<-this,<-e];exact hx)
 ·rw[aw,cP];refine⟨h.na,by simp,fun x hx y hy e=>?_⟩;have:y=a:=by simpa using hy
  obtain⟨z,hz,rfl⟩:=ax.mp hx;exact ha z hz (e.trans this)
 ·intro x hx;rcases bd.mp hx with hx|hx
  ·exact h.fr x hx
  ·have:x=(i,a):=by simpa using hx
   rw[this];exact fr
 ·intro x hx;rcases bd.mp hx with hx|hx
  ·exact h.ned x hx
  ·have:x=(i,a):=by simpa using hx
   rw[this];exact nd
theorem Ff{ι:Type}:∀{ps:List (ι×Addr)},(ps.map (·.2)).Nodup->∀{x y:ι×Addr},x∈ps->y∈ps->x.2=y.2->x=y
 |[],_,x,_,h,_,_=>by cases h
 |p::ps,nd,x,y,hx,hy,e=>by
  rw[bN,jx]at nd;rcases cO.mp hx with hx'|hx'<;>rcases cO.mp hy with hy'|hy'
  ·rw[hx',hy']
  ·exact absurd (ax.mpr ⟨y,hy',by rw[<-e,hx']⟩) nd.1
  ·exact absurd (ax.mpr ⟨x,hx',by rw[e,hy']⟩) nd.1
  ·exact Ff nd.2 hx' hy' e
theorem iz:∀x y:Str,(Sum.inr x:eX)=Sum.inr y->x=y:=fun x y h=>by injection h
def aZ(ds:List ak)(r:Str):List ak:=ds.filter fun d=>decide (d.a=r)
inductive sp_doors_by_start (vs:List V)(H:Hp)(Q:VK)(E:XK):Prop
 |mk (l3 l4:Addr) (ts:Ze) (J2:Zb) (ds:List ak):(vs=[.ref l3,.ref l4])->(H l3=some (.lst (J2.map V.str)))->(H l4=some (.lst (ts.map V.ref)))->(cC H ts ds)->(J2.Nodup)->(J2.length<=1000)->(ds.length<=9000)->((∀d∈ds,d.a∈J2))->(∀(d:Addr) (ps:List (Str×Addr)) (H':Hp),ps.map (·.1)=J2->H' d=some (.dK (eg Sum.inr ps))->(∀x∈ps,∃us,H' x.2=some (.lst (us.map V.ref))/\cC H' us (aZ ds x.1))->ac H H'->Q (.ref d) H')->sp_doors_by_start  vs H Q E
theorem pd{K:Za}{vs:List V}{H:Hp}{Q:VK}{E:XK}(h:sp_doors_by_start vs H Q E):qp K (bM Q) (start qO vs) H:=by
 obtain⟨l3,l4,ts,J2,ds,rfl,h3,h4,hds,nod,hz,hz2,hin,k⟩:=h;refine fun d hd=>?_;refine⟨_,rfl,l3,rfl,⟨_,ay.of (kp h3 hd)⟩,?_⟩;refine bR (xs:=J2.map V.str) (fun i σ H'=>∃x y,σ=[some (.ref l3),some (.ref l4),some (.ref d),x,y]/\∃ps:List (Str×Addr),ps.map (·.1)=J2.take i/\H' d=some (.dK (eg Sum.inr ps))/\DL H H' d ps/\∀x∈ps,H' x.2=some (.lst []))
  ⟨_,_,rfl,[],rfl,aa,⟨by simp,by simp,by simp,hd,by simp,ac.new hd⟩,by simp⟩ (fun i σ H' _ ⟨_,_,_,_,_,_,D,_⟩=>ay.of (D.same _ _ h3)) ?_ ?_
 ·rintro i x σ H' hi ⟨x3,x4,rfl,ps,hps,hd',D,hls⟩;obtain⟨w,hw,rfl⟩:=bu hi;have hnew:w∉ps.map (·.1):=by
   rw[hps];intro z;have:=nod;rw[<-sB (i+1) J2,take_snoc hw,cP]at this;have:=this.1;rw[cP]at this;exact this.2.2 w z w (by simp) rfl
  refine⟨(by show 0<=ai;decide),fun a ha=>?_⟩;have hlen:(eg (Sum.inr:Str->eX) ps).length<ai:=aq (by
   unfold eg;rw[aj,<-aj (f:=(·.1)) (as:=ps),hps,aE];omega)
  have haH:H a=none:=D.same.free ha;have nda:a≠d:=(ae hd' ha).symm;have hneA:∀x∈ps,x.2≠a:=fun x hx=>ae (hls x hx) ha;refine⟨_,rfl,_,rfl,d,_,rfl,.inl ⟨_,.inr w,kp hd' ha,rfl,hlen,rfl⟩,_,_,rfl,ps++[(w,a)],?_,?_,?_,?_⟩
  ·rw[aw,hps,take_snoc hw];rfl
  ·rw[aa,df _ (mF iz hnew),vZ]
  ·refine D.snoc hnew hneA haH nda ?_;intro b o q;rw[ag (ae q hd)];exact kp (D.same _ _ q) ha
  ·intro x hx;rcases bd.mp hx with hx|hx
   ·rw[ag (D.ned x hx)];exact kp (hls x hx) ha
   ·have:x=(w,a):=by simpa using hx
    rw[this,ag nda];exact aa
 ·rintro σ H1 ⟨x3,x4,rfl,ps,hps,hd1,D1,hls⟩;rw[aj,aT]at hps;refine⟨_,rfl,l4,rfl,⟨_,ay.of (D1.same _ _ h4)⟩,?_⟩;refine bR (xs:=ts.map V.ref) (fun i σ H'=>∃x4,σ=[some (.ref l3),some (.ref l4),some (.ref d),x3,x4]/\H' d=some (.dK (eg Sum.inr ps))/\DL H H' d ps/\∀x∈ps,∃us,H' x.2=some (.lst (us.map V.ref))/\cC H' us (aZ (ds.take i) x.1))
   ⟨_,rfl,hd1,D1,fun x hx=>⟨[],hls x hx,.nil⟩⟩ (fun i σ H' _ ⟨_,_,_,D,_⟩=>ay.of (D.same _ _ h4)) ?_ ?_
  ·rintro i x σ H' hi ⟨x4,rfl,hd',D,hls⟩;obtain⟨t,ht,rfl⟩:=cu hi;obtain⟨dr,hdr,hat⟩:=Paired.getL hds ht;have hat':=hat.kt (ac.kt D.same);have hat2:=hat';obtain⟨s,ht2,hs2⟩:=hat';have hmem:dr.a∈ps.map (·.1):=by rw[hps];exact hin dr (ba hdr)
   obtain⟨⟨r,a⟩,hra,er⟩:=ax.mp hmem;obtain rfl:r=dr.a:=er;obtain⟨us,hus,hdo⟩:=hls _ hra;have hil:i<ds.length:=(cG.mp hdr).1;have hlu:us.length<=9000:=by
    rw[Paired.length hdo];refine bG (dP _ _) ?_;rw[aE];omega
   have KT:hU H' (upd H' a (.lst (us.map V.ref++[.ref t]))):=cR hus;refine⟨_,rfl,_,rfl,.inr (.inl ⟨t,_,0,_,rfl,rfl,bc.of ht2,rfl,d,.ref a,rfl,.inl ⟨_,.inr dr.a,.inl hd',rfl,(eE iz D.nd hra).symm⟩,.inl ⟨rfl,_,ay.of hus⟩,_,rfl,a,_,_,rfl,rfl,hus,?_,_,rfl,?_,?_,?_⟩)⟩
   ·rw[aj];exact gM hlu
   ·rw[ag (D.ned _ hra).symm];exact hd'
   ·refine⟨D.nd,D.na,D.fr,D.frd,D.ned,fun b o q=>?_⟩;rw[ag (ae q (D.fr _ hra))];exact D.same _ _ q
   ·intro x hx;have hfl:∀r',aZ (ds.take (i+1)) r'=aZ (ds.take i) r'++(if dr.a=r' then[dr]else[]):=by
     intro r';unfold aZ;rw[take_snoc hdr,sw];congr 1;by_cases c:dr.a=r'
     ·rw[if_pos c];simp[c]
     ·rw[if_neg c];simp[c]
    by_cases c:x.2=a
    ·have ex:=Ff D.na hx hra c;subst ex;refine⟨us++[t],?_,?_⟩
     ·show upd H' a _ a=_;rw[aa,aw];rfl
     ·rw[hfl];show cC _ _ (aZ (ds.take i) dr.a++(if dr.a=dr.a then[dr]else[]))
      rw[if_pos rfl];exact Paired.app (hdo.kt KT) (.cons (hat2.kt KT) .nil)
    ·obtain⟨us',h1,h2⟩:=hls x hx;have hne:¬(dr.a=x.1):=fun z=>by
      have e1:=eE (e:=(Sum.inr:Str->eX)) iz D.nd hra;have e2:=eE (e:=(Sum.inr:Str->eX)) (i:=x.1) (a:=x.2) iz D.nd hx;rw[<-z,e1]at e2;injection e2 with e2;injection e2 with e2;exact c e2.symm
     refine⟨us',by rw[ag c];exact h1,?_⟩;rw[hfl,if_neg hne,dI];exact h2.kt KT
  ·rintro σ H' ⟨x4,rfl,hd',D,hls⟩;rw[aj,Paired.length hds,aT]at hls;exact⟨_,rfl,k d ps H' hps hd' hls D.same⟩
def gg(d:ak):Bool:=match d.sg with
 |s::_=>decide (s=("ask":Str))
 |[]=>false
inductive sp_has_asks_alone (vs:List V)(H:Hp)(Q:VK)(E:XK):Prop
 |mk (a:Addr) (us:Ze) (ds:List ak):(vs=[.ref a])->(H a=some (.lst (us.map V.ref)))->(cC H us ds)->(ds.length<=9000)->((∀d∈ds,d.sg≠[]))->(∀H',ac H H'->Q (.bl (ds.all gg)) H')->sp_has_asks_alone  vs H Q E
theorem pc{K:Za}{vs:List V}{H:Hp}{Q:VK}{E:XK}(h:sp_has_asks_alone vs H Q E):qo K (bM Q) (start qN vs) H:=by
 obtain⟨a,us,ds,rfl,ha,hds,hz,hne,k⟩:=h;refine⟨_,rfl,a,rfl,⟨_,ay.of ha⟩,fun l hl=>?_⟩;refine cg (xs:=us.map V.ref) (fun i vs H'=>vs=(ds.take i).map (fun d=>V.bl (gg d))/\ac H H'/\H' l=some (.lst vs))
  ⟨rfl,ac.new hl,aa⟩ (fun i vs H' _ ⟨_,hS,h'⟩=>⟨h',ay.of (hS _ _ ha)⟩) ?_ ?_
 ·rintro vs H' ⟨rfl,hS,h'⟩;rw[aj,Paired.length hds,aT]at h';refine⟨l,ds.map gg,rfl,ay.of (by rw[h',pY];rfl),?_⟩;rw[wI];exact k H' hS
 ·rintro i vs H' x hx hi ⟨rfl,hS,h'⟩;obtain⟨t,ht,rfl⟩:=cu hx;obtain⟨dr,hdr,hat⟩:=Paired.getL hds ht;obtain⟨s,ht2,hs2⟩:=hat.kt (ac.kt hS);have hmem:=ba hdr;obtain⟨s0,rest,hsg⟩:∃s0 rest,dr.sg=s0::rest:=by
   cases q:dr.sg with
   |nil=>exact absurd q (hne dr hmem)
   |cons x y=>exact⟨x,y,rfl⟩
  unfold SignAt at hs2;rw[hsg]at hs2;refine gN (sW ?_);refine⟨_,rfl,.inr (.inl ⟨t,_,1,_,rfl,rfl,bc.of ht2,rfl,.inr (.inl ⟨s,_,0,.str s0,rfl,rfl,bc.of hs2,aS (j:=0) rfl,rfl,h',?_,mW hi ⟨?_,?_,aa⟩⟩)⟩)⟩
  ·rw[aj,aE];exact gM (by omega)
  ·rw[take_snoc hdr,aw];congr 1;show[V.bl _]=[V.bl _];congr 2;unfold gg;rw[hsg];show decide (V.str s0=V.str _)=decide (s0=_);by_cases c:s0=("ask":Str)
   ·rw[zzr1 c,zzr1 (by rw[c])]
   ·rw[zzr0 c,zzr0 (fun z=>c (by injection z))]
  ·intro b o e;rw[ag (ae e hl)];exact hS _ _ e
def uN(x:Str×List Str):TK:=.t [mS x.1,fj x.2]
theorem ix:∀x y:Str×List Str,uN x=uN y->x=y:=by
 intro x y h;unfold uN at h;injection h with h;injection h with h1 h;injection h with h2 h;cases x;cases y;simp only at *;rw[o8 h1,iA h2]
theorem mD(x:Str×List Str):(uN x).depth<=8:=by
 show max (TK.depth (mS x.1)) (max (TK.depth (fj x.2)) 0)+1<=8;rw[qh];show max 0 (max 1 0)+1<=8
 decide
def bz(ds:List ak)(x:Str×List Str):List Str:=(ds.filter fun d=>decide (d.a=x.1/\d.sg=x.2)).map (·.b)
theorem yd(ds:List ak)(d:ak)(x:Str×List Str):bz (ds++[d]) x=bz ds x++(if(d.a,d.sg)=x then[d.b]else[]):=by
 unfold bz;rw[sw,aw];congr 1;by_cases c:(d.a,d.sg)=x
 ·subst c;simp
 ·rw[if_neg c];have:¬(d.a=x.1/\d.sg=x.2):=fun z=>c (by cases x;simp only at z;rw[z.1,z.2]);simp[List.filter_cons];intro h1 h2;exact this ⟨h1,h2⟩
theorem lX{ds:List ak}{x:Str×List Str}(h:∀d∈ds,(d.a,d.sg)≠x):bz ds x=[]:=by
 unfold bz;rw[List.map_eq_nil_iff,List.filter_eq_nil_iff];intro d hd;have:¬(d.a=x.1/\d.sg=x.2):=fun z=>h d hd (by cases x;simp only at z;rw[z.1,z.2]);simp;intro h1 h2;exact this ⟨h1,h2⟩
theorem eO{ds:List ak}{x:Str×List Str}{b:Str}:b∈bz ds x↔(⟨x.1,x.2,b⟩:ak)∈ds:=by
 unfold bz;rw[ax];constructor
 ·rintro⟨d,hd,rfl⟩;rw[bF]at hd;obtain⟨h1,h2⟩:=hd;obtain⟨h3,h4⟩:=of_decide_eq_true h2;cases d;simp only at h3 h4;rw[<-h3,<-h4];exact h1
 ·intro h;exact⟨_,bF.mpr ⟨h,zzr1 ⟨rfl,rfl⟩⟩,rfl⟩
structure jn(H:Hp)(g:Addr)(ps:List ((Str×List Str)×Addr))(ds:List ak):Prop where
 nd:(ps.map (·.1)).Nodup
 g:H g=some (.dT (eg uN ps))
 ls:∀x∈ps,H x.2=some (.lst ((bz ds x.1).map V.str))
 all:∀d∈ds,(d.a,d.sg)∈ps.map (·.1)
theorem jn.same{H H':Hp}{g:Addr}{ps:List ((Str×List Str)×Addr)}{ds:List ak}(h:jn H g ps ds)(s:ac H H'):jn H' g ps ds:=⟨h.nd,s _ _ h.g,fun x hx=>s _ _ (h.ls x hx),h.all⟩
inductive o5 (vs:List V)(H:Hp)(Q:VK)(E:XK):Prop
 |mk (l4:Addr) (ts:Ze) (ds:List ak):(vs=[.ref l4])->(H l4=some (.lst (ts.map V.ref)))->(cC H ts ds)->(ds.length<=9000)->(∀(g:Addr) (ps:List ((Str×List Str)×Addr)) (H':Hp),jn H' g ps ds->ac H H'->Q (.ref g) H')->o5  vs H Q E
theorem iX{K:Za}{vs:List V}{H:Hp}{Q:VK}{E:XK}(h:o5 vs H Q E):i9 K (bM Q) (start jd vs) H:=by
 obtain⟨l4,ts,ds,rfl,h4,hds,hz,k⟩:=h;refine fun g hg=>?_;refine⟨_,rfl,l4,rfl,⟨_,ay.of (kp h4 hg)⟩,?_⟩;refine bR (xs:=ts.map V.ref) (fun i σ H'=>∃x y z,σ=[some (.ref l4),some (.ref g),x,y,z]/\∃ps:List ((Str×List Str)×Addr),DL H H' g ps/\H' g=some (.dT (eg uN ps))/\ps.length<=i/\(∀x∈ps,H' x.2=some (.lst ((bz (ds.take i) x.1).map V.str)))/\∀d∈ds.take i,(d.a,d.sg)∈ps.map (·.1))
  ⟨_,_,_,rfl,[],⟨by simp,by simp,by simp,hg,by simp,ac.new hg⟩,aa,by simp,by simp,by simp⟩ (fun i σ H' _ ⟨_,_,_,_,_,D,_⟩=>ay.of (D.same _ _ h4)) ?_ ?_
 ·rintro i x σ H' hi ⟨x2,x3,x4,rfl,ps,D,hg',hlen,hls,hall⟩;obtain⟨t,ht,rfl⟩:=cu hi;obtain⟨dr,hdr,hat⟩:=Paired.getL hds ht;have hil:i<ds.length:=(cG.mp hdr).1;obtain⟨s,ht2,hs2⟩:=hat.kt (ac.kt D.same);refine⟨t,_,rfl,bc.of ht2,rfl,_,_,rfl,_,_,rfl,_,_,rfl,rfl,?_⟩;refine⟨_,rfl,.inr (.inr (.inl ⟨rfl,.inr ⟨_,hg'⟩⟩)),_,rfl,_,rfl,(by show 2<=ai;decide),fun kt hkt=>⟨(by show 0<=ai;decide),fun nl hnl=>?_⟩⟩;have S2:ac H' (upd (upd H' kt (.tup [.str dr.a,.ref s])) nl (.lst [])):=(ac.new hkt).trans (ac.new hnl);have hkt2:upd (upd H' kt (.tup [.str dr.a,.ref s])) nl (.lst []) kt=some (.tup [.str dr.a,.ref s]):=kp aa hnl;have hnl2:upd (upd H' kt (.tup [.str dr.a,.ref s])) nl (.lst []) nl=some (.lst []):=aa;have hnlH':H' nl=none:=(ac.new hkt).free hnl;generalize upd (upd H' kt (.tup [.str dr.a,.ref s])) nl (.lst [])=H2 at S2 hkt2 hnl2 ⊢;have htk:cW H2 (uN (dr.a,dr.sg)) (.ref kt):=by
   unfold uN cW;refine⟨kt,_,rfl,hkt2,?_⟩;unfold TKAts;refine⟨_,_,rfl,tf _,?_⟩;unfold TKAts;refine⟨_,_,rfl,SignAt.tk (S2 _ _ hs2),?_⟩;unfold TKAts
   rfl
  have hlk:(eg uN ps).length<ai:=gM (by unfold eg;rw[aj];omega);have hgo:∀x,bz (ds.take (i+1)) x=bz (ds.take i) x++(if(dr.a,dr.sg)=x then[dr.b]else[]):=fun x=>by rw[take_snoc hdr,yd]
  have hgl:∀x,(bz (ds.take i) x).length<=9000:=fun x=>by
   unfold bz;rw[aj];refine bG (dP _ _) ?_;rw[aE];omega
  refine⟨g,kt,_,uN (dr.a,dr.sg),.ref nl,rfl,rfl,S2 _ _ hg',htk,mD _,hlk,fun v hv=>?_,fun hv=>?_⟩
  ·-- there already
   have hmem:(dr.a,dr.sg)∈ps.map (·.1):=by
    refine wM fun z=>?_;rw[mF ix z]at hv;cases hv
   obtain⟨⟨r,a⟩,hra,er⟩:=ax.mp hmem;obtain rfl:r=(dr.a,dr.sg):=er;rw[eE ix D.nd hra]at hv;injection hv with hv;subst hv;have hla:=S2 _ _ (hls _ hra);refine⟨.inl ⟨rfl,_,ay.of hla⟩,_,rfl,a,_,_,rfl,rfl,hla,by rw[aj];exact gM (hgl _),_,_,_,rfl,ps,⟨D.nd,D.na,D.fr,D.frd,D.ned,fun b o q=>?_⟩,?_,by omega,?_,?_⟩
   ·rw[ag (ae q (D.fr _ hra))];exact S2 _ _ (D.same _ _ q)
   ·rw[ag (D.ned _ hra).symm];exact S2 _ _ hg'
   ·intro x hx;by_cases c:x.2=a
    ·have ex:=Ff D.na hx hra c;subst ex;show upd H2 a _ a=_;rw[aa,hgo,if_pos rfl,aw];rfl
    ·have hne:¬((dr.a,dr.sg)=x.1):=fun z=>by
      have e1:=eE (e:=uN) ix D.nd hra;have e2:=eE (e:=uN) (i:=x.1) (a:=x.2) ix D.nd hx;rw[<-z,e1]at e2;injection e2 with e2;injection e2 with e2;exact c e2.symm
     rw[ag c,hgo,if_neg hne,dI];exact S2 _ _ (hls x hx)
   ·intro d hd;rw[take_snoc hdr]at hd;rcases bd.mp hd with hd|hd
    ·exact hall d hd
    ·have:d=dr:=by simpa using hd
     rw[this];exact hmem
  ·-- a new list
   have hnew:(dr.a,dr.sg)∉ps.map (·.1):=by
    intro z;obtain⟨⟨r,a⟩,hra,er⟩:=ax.mp z;obtain rfl:r=(dr.a,dr.sg):=er;rw[eE ix D.nd hra]at hv;cases hv
   have hgne:nl≠g:=(ae hg' hnlH').symm;have hnl3:upd H2 g (.dT (eg uN ps++[(uN (dr.a,dr.sg),.ref nl)])) nl=some (.lst []):=by rw[ag hgne];exact hnl2
   refine⟨.inl ⟨rfl,_,ay.of hnl3⟩,_,rfl,nl,_,_,rfl,rfl,hnl3,(by show 0<ai;decide),_,_,_,rfl,ps++[((dr.a,dr.sg),nl)],?_,?_,?_,?_,?_⟩
   ·refine D.snoc hnew (fun x hx=>ae (hls x hx) hnlH') (D.same.free hnlH') hgne ?_;intro b o q;rw[ag (ae q (D.same.free hnlH')),ag (ae q hg)];exact S2 _ _ (D.same _ _ q)
   ·rw[ag hgne.symm,aa,vZ]
   ·rw[aL];show _+1<=_;omega
   ·intro x hx;rcases bd.mp hx with hx|hx
    ·have hne:¬((dr.a,dr.sg)=x.1):=fun z=>hnew (by rw[z];exact ax.mpr ⟨x,hx,rfl⟩);rw[ag (ae (hls x hx) hnlH'),ag (D.ned x hx),hgo,if_neg hne,dI];exact S2 _ _ (hls x hx)
    ·have:x=((dr.a,dr.sg),nl):=by simpa using hx
     subst this;have hnil:bz (ds.take i) (dr.a,dr.sg)=[]:=lX fun d hd z=>hnew (by rw[<-z];exact hall d hd);show upd _ nl _ nl=_;rw[aa,hgo,if_pos rfl,hnil]
     rfl
   ·intro d hd;rw[aw];rw[take_snoc hdr]at hd;rcases bd.mp hd with hd|hd
    ·exact cj _ (hall d hd)
    ·have:d=dr:=by simpa using hd
     rw[this];exact cD _ (by simp)
 ·rintro σ H' ⟨x2,x3,x4,rfl,ps,D,hg',hlen,hls,hall⟩;rw[aj,Paired.length hds,aT]at hls hall;exact⟨_,rfl,k g ps H' ⟨D.nd,hg',hls,hall⟩ D.same⟩
theorem lV:∀{L R:Zb},L.Nodup->(∀y∈L,y∈R)->L.length<=R.length
 |[],_,_,_=>db _
 |x::L,R,nd,h=>by
  rw[jx]at nd;have hx:=h x dO;have:=lV (L:=L) (R:=R.erase x) nd.2 fun y hy=>(List.mem_erase_of_ne (fun e:y=x=>nd.1 (by rw[<-e];exact hy))).mpr (h y (eI _ hy));rw[List.length_erase_of_mem hx]at this;have:0<R.length:=List.length_pos_of_mem hx;rw[d4];omega
theorem Reach.in_{ds:List ak}{a b:Str}{J2:Zb}(hr:∀d∈ds,d.b∈J2)(h:Reach ds a b):b∈J2:=by
 cases h with
 |one h=>exact hr _ h
 |step r h=>exact hr _ h
inductive xF (vs:List V)(H:Hp)(Q:VK)(E:XK):Prop
 |mk (g:Addr) (room:Str) (ps:List ((Str×List Str)×Addr)) (ds:List ak) (J2:Zb):(vs=[.ref g,.str room])->(jn H g ps ds)->((∀d∈ds,d.b∈J2))->(J2.length<=1000)->(∀(d:Addr) (L:Zb) (H':Hp),H' d=some (.dK (aI L))->L.Nodup->(∀w,w∈L↔Reach ds room w)->H d=none->ac H H'->Q (.ref d) H')->xF  vs H Q E
structure Ir(H0 H:Hp)(ds:List ak)(room:Str)(d w:Addr)(L W:Zb)(open_:Str->Prop):Prop where
 d:H d=some (.dK (aI L))
 w:H w=some (.lst (W.map V.str))
 same:ac H0 H
 nd:L.Nodup
 sound:∀y∈L,Reach ds room y
 wait:∀y∈W,y=room∨y∈L
 closed:∀y,(y=room∨y∈L)->y∉W->¬open_ y->∀c∈bz ds (y,ao),c∈L
theorem rN{K:Za}{st:Addr}(hst:∀H,bc K H st (ao.map V.str)){vs:List V}{H:Hp}{Q:VK}{E:XK}(h:xF vs H Q E):tj K st (bM Q) (start uD vs) H:=by
 obtain⟨g,room,ps,ds,J2,rfl,G,hin,hz,k⟩:=h;refine fun d hd=>?_;refine⟨_,rfl,(by show 1<=ai;decide),fun w hw=>?_⟩;have hwH:H w=none:=(ac.new hd).free hw;have hdw:d≠w:=ae aa hw;refine⟨fun m σ H'=>∃(L W:Zb) (x y:Option V),σ=[some (.ref g),some (.str room),some (.ref d),some (.ref w),x,y]/\Ir H H' ds room d w L W (fun _=>False)/\m=2 * (J2.length-L.length)+W.length/\m<=2 * J2.length+1,
  ⟨_,[],[room],_,_,rfl,⟨kp aa hw,aa,(ac.new hd).trans (ac.new hw),qd,by simp,by simp,?_⟩,rfl,aB _⟩,?_⟩
 ·intro y hy hn;rcases hy with rfl|hy
  ·simp at hn
  ·cases hy
 rintro m σ H1 ⟨L,W,x4,x5,rfl,D,rfl,hbound⟩;have lenL:∀{L':Zb},L'.Nodup->(∀y∈L',Reach ds room y)->L'.length<=J2.length:=fun nd sd=>lV nd fun y hy=>(sd y hy).in_ hin;refine⟨_,rfl,.inl ⟨w,_,rfl,.inl (ay.of D.w),_,_,rfl,rfl,_,rfl,?_⟩⟩;refine fN (fun hpos=>?_) (fun hpos=>?_)
 ·have hne:W≠[]:=by
   intro z;rw[z]at hpos;exact absurd (of_decide_eq_true hpos) (by decide)
  obtain⟨W',here,rfl⟩:∃W' here,W=W'++[here]:=⟨W.dropLast,W.getLast hne,(List.dropLast_concat_getLast hne).symm⟩;have hhere:here=room∨here∈L:=D.wait here (by simp);refine⟨fun σ' H'=>∃(L' W2:Zb) (x y:Option V),σ'=[some (.ref g),some (.str room),some (.ref d),some (.ref w),x,y]/\Ir H H' ds room d w L' W2 (fun _=>False)/\2 * (J2.length-L'.length)+W2.length<2 * (J2.length-L.length)+(W'++[here]).length,
   fun σ' H' ⟨L',W2,x,y,e,D',hm⟩=>⟨_,hm,L',W2,x,y,e,D',rfl,by omega⟩,?_⟩
  have hlast:((W'++[here]).map V.str)[((W'++[here]).map V.str).length-1]?=some (.str here):=by simp
  have hdrop:((W'++[here]).map V.str).dropLast=W'.map V.str:=by rw[aw];simp
  refine⟨_,rfl,.inl ⟨rfl,_,ay.of D.w⟩,w,_,_,rfl,rfl,D.w,hlast,?_⟩;rw[hdrop];have hd1:upd H1 w (.lst (W'.map V.str)) d=some (.dK (aI L)):=by rw[ag hdw];exact D.d
  have hw1:upd H1 w (.lst (W'.map V.str)) w=some (.lst (W'.map V.str)):=aa;have S1:ac H (upd H1 w (.lst (W'.map V.str))):=fun b o q=>by rw[ag (ae q hwH)];exact D.same _ _ q
  generalize upd H1 w (.lst (W'.map V.str))=H2 at hd1 hw1 S1 ⊢;have G2:=G.same S1;refine⟨_,rfl,g,rfl,.inr ⟨_,.inl G2.g⟩,_,rfl,(by show 2<=ai;decide),fun kt hkt=>⟨(by show 0<=ai;decide),fun et het=>⟨br (eg uN ps) (uN (here,ao)),.inr ⟨_,uN (here,ao),kt,.inl ?_,rfl,?_,mD _,rfl⟩,?_⟩⟩⟩
  ·exact kp (kp G2.g hkt) het
  ·unfold uN jc;refine⟨kt,_,rfl,bc.of (kp aa het),?_⟩;unfold TKIns;refine⟨_,_,rfl,?_,?_⟩
   ·unfold mS jc;rfl
   unfold TKIns;refine⟨_,_,rfl,?_,?_⟩
   ·unfold fj jc;refine⟨st,_,rfl,hst _,?_⟩;unfold ao;show TKIns K _ [mS _] [V.str _];unfold TKIns;refine⟨_,_,rfl,?_,?_⟩
    ·unfold mS jc;rfl
    unfold TKIns;rfl
   unfold TKIns;rfl
  have S3:ac H2 (upd (upd H2 kt (.tup [.str here,.ref st])) et (.tup [])):=(ac.new hkt).trans (ac.new het);have het3:upd (upd H2 kt (.tup [.str here,.ref st])) et (.tup []) et=some (.tup []):=aa;generalize upd (upd H2 kt (.tup [.str here,.ref st])) et (.tup [])=H3 at S3 het3 ⊢;have D3:Ir H H3 ds room d w L W' (fun y=>y=here):=⟨S3 _ _ hd1,S3 _ _ hw1,S1.trans S3,D.nd,D.sound,fun y hy=>D.wait y (cj _ hy),fun y hy hn ho=>D.closed y hy (fun z=>by rcases bd.mp z with z|z;exact hn z;exact ho (by simpa using z)) (fun z=>z)⟩;have hm3:2 * (J2.length-L.length)+W'.length<2 * (J2.length-L.length)+(W'++[here]).length:=by rw[aL];show _<_+(_+1);omega
  have fin:∀(H4:Hp) (L' W2:Zb) (x y:Option V),Ir H H4 ds room d w L' W2 (fun y=>y=here)->(∀c∈bz ds (here,ao),c∈L')->2 * (J2.length-L'.length)+W2.length<2 * (J2.length-L.length)+(W'++[here]).length ->
    ∃(L' W2:Zb) (x' y':Option V),[some (V.ref g),some (.str room),some (.ref d),some (.ref w),x,y]=[some (.ref g),some (.str room),some (.ref d),some (.ref w),x',y']/\Ir H H4 ds room d w L' W2 (fun _=>False)/\2 * (J2.length-L'.length)+W2.length<2 * (J2.length-L.length)+(W'++[here]).length:=by
   intro H4 L' W2 x y D4 hc hm;refine⟨L',W2,x,y,rfl,⟨D4.d,D4.w,D4.same,D4.nd,D4.sound,D4.wait,fun y hy hn _=>?_⟩,hm⟩;by_cases e:y=here
   ·rw[e];exact hc
   ·exact D4.closed y hy hn e
  by_cases hmem:(here,ao)∈ps.map (·.1)
  ·obtain⟨⟨r,a⟩,hra,er⟩:=ax.mp hmem;obtain rfl:r=(here,ao):=er;rw[eE ix G.nd hra];have hla:=G.ls _ hra;refine⟨a,rfl,.inl ⟨⟨_,ay.of ((S1.trans S3) _ _ hla)⟩,?_⟩⟩;refine bR (xs:=(bz ds (here,ao)).map V.str) (fun j σ H'=>∃(L' W2:Zb) (y:Option V),σ=[some (.ref g),some (.str room),some (.ref d),some (.ref w),some (.str here),y]/\Ir H H' ds room d w L' W2 (fun y=>y=here)/\(here=room∨here∈L')/\(∀c∈(bz ds (here,ao)).take j,c∈L') /\
     2 * (J2.length-L'.length)+W2.length<2 * (J2.length-L.length)+(W'++[here]).length)
    ⟨L,W',_,rfl,D3,hhere,by simp,hm3⟩ (fun j σ H' _ ⟨_,_,_,_,D',_⟩=>ay.of (D'.same _ _ hla)) ?_ ?_
   ·rintro j x σ H4 hj ⟨L',W2,y,rfl,D4,hh,hc,hm⟩;obtain⟨goal,hgoal,rfl⟩:=bu hj;have hedge:(⟨here,ao,goal⟩:ak)∈ds:=eO.mp (ba hgoal);have hreach:Reach ds room goal:=by
     rcases hh with hh|hh
     ·rw[hh]at hedge;exact .one hedge
     ·exact .step (D4.sound _ hh) hedge
    have hlen':=lenL D4.nd D4.sound;refine⟨_,rfl,_,rfl,d,_,rfl,.inl ⟨_,.inr goal,.inl D4.d,rfl,rfl⟩,_,rfl,?_⟩;rw[dL];by_cases c:goal∈L'
    ·rw[zzr1 c];refine bU ⟨L',W2,_,rfl,D4,hh,?_,hm⟩;intro c' hc';rw[take_snoc hgoal]at hc';rcases bd.mp hc' with h|h
     ·exact hc c' h
     ·have:c'=goal:=by simpa using h
      rw[this];exact c
    ·rw[zzr0 c];refine cS ?_;have nd':(L'++[goal]).Nodup:=by
      rw[cP];refine⟨D4.nd,by simp,fun a ha b hb e=>?_⟩;have:b=goal:=by simpa using hb
      exact c (by rw[<-this,<-e];exact ha)
     have sd':∀y∈L'++[goal],Reach ds room y:=by
      intro y hy;rcases bd.mp hy with hy|hy
      ·exact D4.sound y hy
      ·have:y=goal:=by simpa using hy
       rw[this];exact hreach
     have hlen2:=lenL nd' sd';rw[aL]at hlen2;have hlen3:L'.length+1<=J2.length:=hlen2;have hWl:W2.length<=9000:=by omega
     refine⟨_,rfl,_,rfl,d,_,rfl,.inl ⟨_,.inr goal,D4.d,rfl,aq (bG (i0 _) (by omega)),rfl⟩,?_⟩;have hw5:upd H4 d (.dK (cL (aI L') (.inr goal) (.bl true))) w=some (.lst (W2.map V.str)):=by rw[ag hdw.symm];exact D4.w
     refine⟨_,rfl,.inl ⟨rfl,_,ay.of hw5⟩,_,rfl,w,_,_,rfl,rfl,hw5,by rw[aj];exact gM hWl,L'++[goal],W2++[goal],_,rfl,⟨?_,?_,?_,nd',sd',?_,?_⟩,?_,?_,?_⟩
     ·rw[ag hdw,aa,dj]
     ·rw[aa,aw];rfl
     ·intro b o q;rw[ag (ae q hwH),ag (ae q hd)];exact D4.same _ _ q
     ·intro y hy;rcases bd.mp hy with hy|hy
      ·rcases D4.wait y hy with h|h
       ·exact .inl h
       ·exact .inr (cj _ h)
      ·exact .inr (cD _ hy)
     ·intro y hy hn ho c' hc';have hn1:y∉W2:=fun z=>hn (cj _ z);have hyg:y≠goal:=fun z=>hn (cD _ (by simp[z]));refine cj _ (D4.closed y ?_ hn1 ho c' hc');rcases hy with hy|hy
      ·exact .inl hy
      ·rcases bd.mp hy with hy|hy
       ·exact .inr hy
       ·exact absurd (by simpa using hy) hyg
     ·rcases hh with h|h
      ·exact .inl h
      ·exact .inr (cj _ h)
     ·intro c' hc';rw[take_snoc hgoal]at hc';rcases bd.mp hc' with h|h
      ·exact cj _ (hc c' h)
      ·exact cD _ h
     ·rw[aL,aL];show 2 * (J2.length-(L'.length+1))+(W2.length+1)<_;omega
   ·rintro σ H4 ⟨L',W2,y,rfl,D4,hh,hc,hm⟩;rw[aj,aT]at hc;exact fin H4 L' W2 _ _ D4 hc hm
  ·rw[mF ix hmem];refine⟨et,rfl,.inr ⟨⟨_,bc.of het3⟩,?_⟩⟩;have hnil:bz ds (here,ao)=[]:=lX fun x hx z=>hmem (by rw[<-z];exact G.all x hx);refine ye (xs:=[]) (fun j σ H'=>σ=[some (.ref g),some (.str room),some (.ref d),some (.ref w),some (.str here),x5]/\H'=H3) ⟨rfl,rfl⟩ (fun j σ H' _ ⟨_,e⟩=>by rw[e];exact bc.of het3) (fun j x σ H' hj=>by cases hj) ?_;rintro σ H' ⟨rfl,rfl⟩;exact fin _ L W' _ _ D3 (by rw[hnil];simp) hm3
 ·have hnil:W=[]:=by
   cases W with
   |nil=>rfl
   |cons a W=>exact absurd (zzr1 (by rw[aj,d4];omega)) hpos
  subst hnil;refine⟨_,rfl,k d L H1 D.d D.nd (fun w=>⟨D.sound w,fun hr=>?_⟩) hd D.same⟩
  induction hr with
  |one h=>exact D.closed room (.inl rfl) (by simp) (fun z=>z) _ (eO.mpr h)
  |step r h ih=>exact D.closed _ (.inr ih) (by simp) (fun z=>z) _ (eO.mpr h)
inductive sp_first_led_round (vs:List V)(H:Hp)(Q:VK)(E:XK):Prop
 |mk (l3 d:Addr) (J2:Zb) (ps:List (Str×Addr)):(vs=[.ref l3,.ref d])->(H l3=some (.lst (J2.map V.str)))->(H d=some (.dK (eg Sum.inr ps)))->(ps.map (·.1)=J2)->(J2.Nodup)->((∀x∈ps,∃L,H x.2=some (.dK (aI L))/\x.1∉L))->(∀H',ac H H'->Q .non H')->sp_first_led_round  vs H Q E
theorem nX{K:Za}{vs:List V}{H:Hp}{Q:VK}{E:XK}(h:sp_first_led_round vs H Q E):oP K (bM Q) (start pO vs) H:=by
 obtain⟨l3,d,J2,ps,rfl,h3,hd,hps,nod,hL,k⟩:=h;refine⟨_,rfl,l3,rfl,⟨_,ay.of h3⟩,?_⟩;refine lZ (xs:=J2.map V.str) (fun i σ H'=>∃x y,σ=[some (.ref l3),some (.ref d),x,y]/\ac H H') ⟨_,_,rfl,ac.refl H⟩ (fun i σ H' _ ⟨_,_,_,S⟩=>ay.of (S _ _ h3)) ?_ ?_
 ·rintro i x σ H' t hi ⟨x2,x3,rfl,S⟩ ht;obtain⟨w,hw,rfl⟩:=bu hi;refine⟨t,_,rfl,bc.of aa,rfl,_,_,rfl,_,_,rfl,rfl,?_⟩;have S2:ac H (upd H' t (.tup [.int i,.str w])):=S.trans (ac.new ht);generalize upd H' t (.tup [.int i,.str w])=H2 at S2 ⊢;have hmem:w∈ps.map (·.1):=by rw[hps];exact ba hw
  obtain⟨⟨r,a⟩,hra,er⟩:=ax.mp hmem;obtain rfl:r=w:=er;obtain⟨L,hLa,hn⟩:=hL _ hra;refine⟨_,rfl,_,rfl,_,rfl,d,.ref a,rfl,.inl ⟨_,.inr r,.inl (S2 _ _ hd),rfl,(eE iz (by rw[hps];exact nod) hra).symm⟩,a,_,rfl,.inl ⟨_,.inr r,.inl (S2 _ _ hLa),rfl,rfl⟩,_,rfl,?_⟩;rw[dL,zzr0 hn];exact bU ⟨_,_,rfl,S2⟩
 ·rintro σ H' ⟨x,y,rfl,S⟩;exact k H' S
abbrev lk(f:Str)(fs:List (Str×V)):Option V:=fs.lookup f
def c6(ds:List ak)(r:Str):Bool:=(aZ ds r).all gg
structure bv(C:Addr)(H:Hp)(x:Addr)(J0 J1 J2:Zb)(ds:List ak):Prop where
 at_:∃(dx:Addr) (fs:List (Str×V)) (o1 o2 o3 o4 lv qu sg sl:Addr) (ts:Ze) (lps:List (Str×Addr)) (gps:List ((Str×List Str)×Addr)) (sps:List (Str×Addr)),
  H x=some (.ins C dx fs)/\lk "is_quiet" fs=none/\lk "goals" fs=none/\lk "led_from" fs=none/\lk "rooms" fs=none /\
  lk "own_asks" fs=some (.ref o1)/\lk "own_says" fs=some (.ref o2)/\lk "own_rooms" fs=some (.ref o3)/\lk "own_doors" fs=some (.ref o4) /\
  lk "leaving" fs=some (.ref lv)/\lk "quiet" fs=some (.ref qu)/\lk "sign_goals" fs=some (.ref sg)/\lk "still_led" fs=some (.ref sl) /\
  Lists H o1 o2 o3 o4 ts J0 J1 J2 ds /\
  lps.map (·.1)=J2/\H lv=some (.dK (eg Sum.inr lps))/\(∀x∈lps,∃us,H x.2=some (.lst (us.map V.ref))/\cC H us (aZ ds x.1)) /\
  H qu=some (.dK (aI (J2.filter (c6 ds))))/\jn H sg gps ds /\
  sps.map (·.1)=J2/\H sl=some (.dK (eg Sum.inr sps))/\(∀x∈sps,∃L,H x.2=some (.dK (aI L))/\L.Nodup/\∀w,w∈L↔Reach ds x.1 w)
 ok:aK J0 J1 J2 ds
 more:∃(dx:Addr) (fs:List (Str×V)),H x=some (.ins C dx fs)/\lk "asks" fs=none/\lk "says" fs=none/\lk "doors" fs=none/\lk "doors_from" fs=none
theorem d_(f:Str)(v:V):∀fs:List (Str×V),(cI f v fs).length<=fs.length+1
 |[]=>aB _
 | (g,x)::r=>by
  unfold cI;split
  ·exact si _
  ·rw[d4,d4];have:=d_ f v r;omega
theorem t_:∀(ps qs:List (Str×Addr)),((qs++ps).map (·.1)).Nodup->jA (eg Sum.inr qs) (eg Sum.inr ps)=eg Sum.inr (qs++ps)
 |[],qs,_=>by rw[dI];rfl
 |p::ps,qs,nd=>by
  show jA (cL (eg Sum.inr qs) (Sum.inr p.1) (.ref p.2)) (eg Sum.inr ps)=_;have e:qs++p::ps=(qs++[p])++ps:=by simp
  rw[e]at nd ⊢;have hnew:p.1∉qs.map (·.1):=by
   rw[aw,aw,cP]at nd;have:=nd.1;rw[cP]at this;intro z;exact this.2.2 _ z _ (by simp) rfl
  rw[df _ (mF iz hnew)];have:=t_ ps (qs++[p]) nd;rw[<-this];have e2:eg (Sum.inr:Str->eX) (qs++[p])=eg Sum.inr qs++[(Sum.inr p.1,V.ref p.2)]:=by
   unfold eg;rw[aw];rfl
  rw[e2]
inductive rY(C:Addr)(vs:List V)(H:Hp)(Q:VK)(E:XK):Prop
 |mk (x dx l1 l2 l3 l4:Addr) (ts:Ze) (J0 J1 J2:Zb) (ds:List ak):(vs=[.ref x,.ref l1,.ref l2,.ref l3,.ref l4])->(H x=some (.ins C dx []))->(Lists H l1 l2 l3 l4 ts J0 J1 J2 ds)->(aK J0 J1 J2 ds)->(∀H',bv C H' x J0 J1 J2 ds->c_ x H H'->Q .non H')->rY C vs H Q E
theorem Lists.exI{H H':Hp}{x C dx:Addr}{fs:List (Str×V)}{l1 l2 l3 l4:Addr}{ts:Ze}{J0 J1 J2:Zb}{ds:List ak}(h:Lists H l1 l2 l3 l4 ts J0 J1 J2 ds)(hx:H x=some (.ins C dx fs))(e:c_ x H H'):Lists H' l1 l2 l3 l4 ts J0 J1 J2 ds:=by
 have ne:∀{b:Addr}{xs:List V},H b=some (.lst xs)->b≠x:=fun hb z=>by rw[z,hx]at hb;cases hb
 exact⟨e _ _ h.a1 (ne h.a1),e _ _ h.a2 (ne h.a2),e _ _ h.a3 (ne h.a3),e _ _ h.a4 (ne h.a4),h.ds.kt fun b xs hb=>e _ _ hb fun z=>by rw[z,hx]at hb;cases hb⟩
theorem c_.ktI{H H':Hp}{x C dx:Addr}{fs:List (Str×V)}(e:c_ x H H')(hx:H x=some (.ins C dx fs)):hU H H':=fun b xs hb=>e _ _ hb fun z=>by rw[z,hx]at hb;cases hb
theorem c_.neI{H:Hp}{x C dx:Addr}{fs:List (Str×V)}(hx:H x=some (.ins C dx fs)){b:Addr}{xs:List V}(hb:H b=some (.lst xs)):b≠x:=fun z=>by rw[z,hx]at hb;cases hb
theorem Fe{H:Hp}{x C dx:Addr}{fs:List (Str×V)}(hx:H x=some (.ins C dx fs)){b:Addr}{kvs:List (eX×V)}(hb:H b=some (.dK kvs)):b≠x:=fun z=>by rw[z,hx]at hb;cases hb
theorem Hv{H:Hp}{x C dx:Addr}{fs:List (Str×V)}(hx:H x=some (.ins C dx fs)){b:Addr}{kvs:List (TK×V)}(hb:H b=some (.dT kvs)):b≠x:=fun z=>by rw[z,hx]at hb;cases hb
structure MC(K:Za)(C:Addr):Prop where
 cls:C1 K C
 a1:dW K C "own_asks"
 a2:dW K C "own_says"
 a3:dW K C "own_rooms"
 a4:dW K C "own_doors"
 a5:dW K C "leaving"
 a6:dW K C "quiet"
 a7:dW K C "sign_goals"
 a8:dW K C "still_led"
theorem qF{H:Hp}{x C dx:Addr}{fs:List (Str×V)}(f:Str)(y:V)(hx:H x=some (.ins C dx fs)):∃H',H'=upd H x (.ins C dx (cI f y fs))/\H' x=some (.ins C dx (cI f y fs))/\c_ x H H' :=
 ⟨_,rfl,aa,c_.upd _ _ _⟩
theorem bP{p:Str->Bool}{ws:Zb}{i:Nat}{w:Str}(h:ws[i]?=some w):(ws.take (i+1)).filter p=(ws.take i).filter p++(if p w=true then[w]else[]):=by
 rw[take_snoc h,sw];congr 1;by_cases c:p w=true
 ·rw[if_pos c];simp[c]
 ·rw[if_neg c];simp[c]
theorem Bh(ds:List ak)(r:Str):(aZ ds r).length<=ds.length:=dP _ _
theorem aK.sg0{J0 J1 J2:Zb}{ds:List ak}(m:aK J0 J1 J2 ds){r:Str}:∀d∈aZ ds r,d.sg≠[]:=by
 intro d hd;have:=m.good d (bF.mp hd).1;rcases this.sg with⟨w,_,e⟩|⟨w,_,e⟩|e<;>rw[e]<;>exact List.cons_ne_nil _ _
theorem Gz{K:Za}{C:Addr}(M:MC K C){vs:List V}{H:Hp}{Q:VK}{E:XK}(h:rY C vs H Q E):
  nP K sp_need_none sp_first_led_round xF o5 (sp_as_keys K) sp_has_asks_alone sp_doors_by_start sp_need_parts (bM Q) (start oq vs) H:=by
 obtain⟨x,dx,l1,l2,l3,l4,ts,J0,J1,J2,ds,rfl,hx,L,m,k⟩:=h;have z3:=m.rooms26;have z4:=m.few;refine⟨_,rfl,_,rfl,_,rfl,_,rfl,l1,l2,l3,l4,ts,J0,J1,J2,ds,rfl,L,m,fun H1 S1=>?_⟩;have hx1:=S1 _ _ hx;have L1:=L.same S1;have E1:c_ x H H1:=ac.exB S1;refine⟨_,rfl,.inl ⟨l1,_,rfl,.inl (ay.of L1.a1),fun o1 ho1=>⟨_,rfl,x,C,dx,_,rfl,kp hx1 ho1,M.cls,M.a1,(by show 0<1000;decide),?_⟩⟩⟩;obtain⟨H2,e2,hx2,F2⟩:=qF "own_asks" (.ref o1) (kp (x:=.lst (J0.map V.str)) hx1 ho1);rw[<-e2];have n1:o1≠x:=(ae hx1 ho1).symm;have f1:=F2 _ _ aa n1;have E2:c_ x H1 H2:=(c_.new ho1).trans F2;have L2':=L1.exI hx1 E2;have len2:(cI ("own_asks":Str) (.ref o1) []).length<=1:=d_ _ _ _;clear e2 F2;refine⟨_,rfl,.inl ⟨l2,_,rfl,.inl (ay.of L2'.a2),fun o2 ho2=>⟨_,rfl,x,C,dx,_,rfl,kp hx2 ho2,M.cls,M.a2,by omega,?_⟩⟩⟩;obtain⟨H3,e3,hx3,F3⟩:=qF "own_says" (.ref o2) (kp (x:=.lst (J1.map V.str)) hx2 ho2);rw[<-e3];have n2:o2≠x:=(ae hx2 ho2).symm;have f2:=F3 _ _ aa n2;have E3:c_ x H2 H3:=(c_.new ho2).trans F3;have L3:=L2'.exI hx2 E3;have len3:=d_ ("own_says":Str) (.ref o2) (cI ("own_asks":Str) (.ref o1) []);clear e3 F3;refine⟨_,rfl,.inl ⟨l3,_,rfl,.inl (ay.of L3.a3),fun o3 ho3=>⟨_,rfl,x,C,dx,_,rfl,kp hx3 ho3,M.cls,M.a3,by omega,?_⟩⟩⟩;obtain⟨H4,e4,hx4,F4⟩:=qF "own_rooms" (.ref o3) (kp (x:=.lst (J2.map V.str)) hx3 ho3);rw[<-e4];have n3:o3≠x:=(ae hx3 ho3).symm;have f3:=F4 _ _ aa n3;have E4:c_ x H3 H4:=(c_.new ho3).trans F4;have L4:=L3.exI hx3 E4;have len4:=d_ ("own_rooms":Str) (.ref o3) (cI ("own_says":Str) (.ref o2) (cI ("own_asks":Str) (.ref o1) []));clear e4 F4;refine⟨_,rfl,.inl ⟨l4,_,rfl,.inl (ay.of L4.a4),fun o4 ho4=>⟨_,rfl,x,C,dx,_,rfl,kp hx4 ho4,M.cls,M.a4,by omega,?_⟩⟩⟩;obtain⟨H5,e5,hx5,F5⟩:=qF "own_doors" (.ref o4) (kp (x:=.lst (ts.map V.ref)) hx4 ho4);rw[<-e5];have n4:o4≠x:=(ae hx4 ho4).symm;have f4:=F5 _ _ aa n4;have E5:c_ x H4 H5:=(c_.new ho4).trans F5;have L5:=L4.exI hx4 E5;generalize hfs4:cI ("own_doors":Str) (.ref o4) (cI ("own_rooms":Str) (.ref o3) (cI ("own_says":Str) (.ref o2) (cI ("own_asks":Str) (.ref o1) [])))=fs4 at hx5;have len5:fs4.length<=4:=by
  rw[<-hfs4];have:=d_ ("own_doors":Str) (.ref o4) (cI ("own_rooms":Str) (.ref o3) (cI ("own_says":Str) (.ref o2) (cI ("own_asks":Str) (.ref o1) [])));omega
 clear e5 F5;refine⟨_,rfl,_,rfl,l3,l4,ts,J2,ds,rfl,L5.a3,L5.a4,L5.ds,m.okR.1,by omega,by omega,fun d hd=>(m.good d hd).a,fun lv lps H6' hlps flv' hlv' S6=>⟨_,rfl,x,C,dx,fs4,rfl,S6 _ _ hx5,M.cls,M.a5,by omega,?_⟩⟩;obtain⟨H6,e6,hx6,F6⟩:=qF "leaving" (.ref lv) (S6 _ _ hx5);rw[<-e6];have E6:c_ x H5 H6:=(ac.exB S6).trans F6;have L6:=L5.exI hx5 E6;have flv:=F6 _ _ flv' (Fe (S6 _ _ hx5) flv');have hlv:∀y∈lps,∃us,H6 y.2=some (.lst (us.map V.ref))/\cC H6 us (aZ ds y.1):=fun y hy=>by
  obtain⟨us,g1,g2⟩:=hlv' y hy;exact⟨us,F6 _ _ g1 (c_.neI (S6 _ _ hx5) g1),g2.kt (F6.ktI (S6 _ _ hx5))⟩
 have ndl:(lps.map (·.1)).Nodup:=by rw[hlps];exact m.okR.1
 have len6:=d_ ("leaving":Str) (.ref lv) fs4;have lk5:lk "leaving" (cI ("leaving":Str) (.ref lv) fs4)=some (.ref lv):=by
  show kN _ _=_;rw[eP,if_pos rfl]
 clear e6 F6 flv' hlv';refine⟨_,rfl,l3,rfl,⟨_,ay.of L6.a3⟩,fun f hf=>?_⟩;refine cg (xs:=J2.map V.str) (fun i vs H'=>vs=((J2.take i).filter (c6 ds)).map V.str/\ac H6 H'/\H' f=some (.lst vs)) ⟨rfl,ac.new hf,aa⟩ (fun i vs H' _ ⟨_,S,h'⟩=>⟨h',ay.of (S _ _ L6.a3)⟩) ?_ ?_;rotate_left
 ·rintro i vs H' x' hx' hi ⟨rfl,S,f'⟩;obtain⟨r,hr,rfl⟩:=bu hx';obtain⟨⟨r',a⟩,hra,er⟩:=ax.mp (show r∈lps.map (·.1) by rw[hlps];exact ba hr);obtain rfl:r'=r:=er;obtain⟨us,hus,hdo⟩:=hlv _ hra;refine gN ?_;refine⟨_,rfl,x,C,dx,_,.ref lv,rfl,S _ _ hx6,M.cls,M.a5,lk5,_,rfl,lv,.ref a,rfl,.inl ⟨_,.inr r',.inl (S _ _ flv),rfl,(eE iz ndl hra).symm⟩,a,us,aZ ds r',rfl,S _ _ hus,hdo.kt (ac.kt S),bG (Bh _ _) (by omega),m.sg0,fun H'' S''=>⟨_,rfl,?_⟩⟩;have hlen:(((J2.take i).filter (c6 ds)).map V.str).length<ai:=by
   rw[aj];refine aq (bG (dP _ _) ?_);rw[aE];omega
  refine fN (fun hq=>?_) (fun hq=>?_)
  ·refine⟨_,rfl,S'' _ _ f',hlen,mW hi ⟨?_,?_,aa⟩⟩
   ·rw[bP hr,if_pos (show c6 ds r'=true from hq),aw];rfl
   ·intro b o q;rw[ag (ae q hf)];exact S'' _ _ (S _ _ q)
  ·refine mW hi ⟨?_,S.trans S'',?_⟩
   ·rw[bP hr,if_neg (show ¬c6 ds r'=true from hq),dI]
   ·exact S'' _ _ f'
 rintro vs H7' ⟨rfl,S7,f7⟩;rw[aj,aT]at f7;refine qH (ws:=J2.filter (c6 ds)) (ay.of f7) (bG (dP _ _) (by omega)) fun qu hqu=>⟨_,rfl,x,C,dx,_,rfl,kp (S7 _ _ hx6) hqu,M.cls,M.a6,by omega,?_⟩;obtain⟨H7,e7,hx7,F7⟩:=qF "quiet" (.ref qu) (kp (x:=.dK (aI (J2.filter (c6 ds)))) (S7 _ _ hx6) hqu);rw[<-e7];have n7:qu≠x:=(ae (S7 _ _ hx6) hqu).symm;have fqu:=F7 _ _ aa n7;have E7:c_ x H6 H7:=((ac.exB S7).trans (c_.new hqu)).trans F7;have L7:=L6.exI hx6 E7;have len7:=d_ ("quiet":Str) (.ref qu) (cI ("leaving":Str) (.ref lv) fs4);clear e7 F7;refine⟨_,rfl,l4,ts,ds,rfl,L7.a4,L7.ds,by omega,fun sg gps H8' G' S8=>⟨_,rfl,x,C,dx,_,rfl,S8 _ _ hx7,M.cls,M.a7,by omega,?_⟩⟩;obtain⟨H8,e8,hx8,F8⟩:=qF "sign_goals" (.ref sg) (S8 _ _ hx7);rw[<-e8];have E8:c_ x H7 H8:=(ac.exB S8).trans F8;have L8:=L7.exI hx7 E8;have G8:jn H8 sg gps ds:=⟨G'.nd,F8 _ _ G'.g (Hv (S8 _ _ hx7) G'.g),fun y hy=>F8 _ _ (G'.ls y hy) (c_.neI (S8 _ _ hx7) (G'.ls y hy)),G'.all⟩;have len8:=d_ ("sign_goals":Str) (.ref sg) (cI ("quiet":Str) (.ref qu) (cI ("leaving":Str) (.ref lv) fs4));have lk7:lk "sign_goals" (cI ("sign_goals":Str) (.ref sg) (cI ("quiet":Str) (.ref qu) (cI ("leaving":Str) (.ref lv) fs4)))=some (.ref sg):=by
  show kN _ _=_;rw[eP,if_pos rfl]
 clear e8 F8 G';refine⟨_,rfl,l3,rfl,⟨_,ay.of L8.a3⟩,fun f2' hf2=>?_⟩;refine cg (xs:=J2.map V.str) (fun i vs H'=>∃(us:Ze) (pl:List (Str×Addr)),vs=us.map V.ref/\Paired (fun t (p:Str×Addr)=>H' t=some (.tup [.str p.1,.ref p.2])) us pl/\pl.map (·.1)=J2.take i/\(∀p∈pl,∃L,H' p.2=some (.dK (aI L))/\L.Nodup/\∀w,w∈L↔Reach ds p.1 w)/\ac H8 H'/\H' f2'=some (.lst vs))
  ⟨[],[],rfl,.nil,rfl,by simp,ac.new hf2,aa⟩ (fun i vs H' _ ⟨_,_,_,_,_,_,S,h'⟩=>⟨h',ay.of (S _ _ L8.a3)⟩) ?_ ?_
 rotate_left
 ·rintro i vs H' x' hx' hi ⟨us,pl,rfl,hpa,hpl,hle,S,f'⟩;obtain⟨r,hr,rfl⟩:=bu hx';have hilen:us.length<=150:=by
   rw[Paired.length hpa,<-aj (f:=(·.1)) (as:=pl),hpl,aE];omega
  refine gN (sW ?_);refine⟨_,rfl,_,rfl,x,C,dx,_,.ref sg,rfl,S _ _ hx8,M.cls,M.a7,lk7,_,rfl,sg,r,gps,ds,J2,rfl,G8.same S,fun d hd=>(m.good d hd).b,by omega,fun ld Lr H'' hld nd hLr hfr S''=>⟨(by show 2<=ai;decide),fun t ht=>⟨?_,?_,mW hi ⟨us++[t],pl++[(r,ld)],?_,?_,?_,?_,?_,aa⟩⟩⟩⟩
  ·exact kp (S'' _ _ f') ht
  ·rw[aj];exact aq (by omega)
  ·rw[aw];rfl
  ·have KT:hU (upd H'' t (.tup [.str r,.ref ld])) (upd (upd H'' t (.tup [.str r,.ref ld])) f2' (.lst (us.map V.ref++[.ref t]))):=cR (kp (S'' _ _ f') ht);exact Paired.app (Paired.mapP hpa fun t' p' e=>KT _ _ (kp (S'' _ _ e) ht)) (.cons (KT _ _ aa) .nil)
  ·rw[aw,hpl,take_snoc hr];rfl
  ·have ned:∀{b:Addr}{kvs:List (eX×V)},upd H'' t (.tup [.str r,.ref ld]) b=some (.dK kvs)->b≠f2':=fun hb z=>by rw[z,kp (S'' _ _ f') ht]at hb;cases hb
   intro p hp;rcases bd.mp hp with hp|hp
   ·obtain⟨L0,g1,g2⟩:=hle p hp;refine⟨L0,?_,g2⟩;have:=kp (x:=.tup [.str r,.ref ld]) (S'' _ _ g1) ht;rw[ag (ned this)];exact this
   ·have:p=(r,ld):=by simpa using hp
    subst this;refine⟨Lr,?_,nd,hLr⟩;have:=kp (x:=.tup [.str r,.ref ld]) hld ht;rw[ag (ned this)];exact this
  ·intro b o q;rw[ag (ae q hf2)];exact kp (S'' _ _ (S _ _ q)) ht
 rintro vs H9' ⟨us,sps,rfl,hpa,hsps,hled,S9,f9⟩;rw[aj,aT]at hsps;have nds:(sps.map (·.1)).Nodup:=by rw[hsps];exact m.okR.1
 refine⟨f2',us,eg Sum.inr sps,rfl,ay.of f9,?_,?_,fun sl hsl=>⟨_,rfl,x,C,dx,_,rfl,kp (S9 _ _ hx8) hsl,M.cls,M.a8,by omega,?_⟩⟩
 ·rw[Paired.length hpa];unfold eg;rw[aj]
 ·intro j t kv hj hkv;obtain⟨p,hp,e⟩:=Paired.getL hpa hj;unfold eg at hkv;rw[bZ,hp]at hkv;have:=e_ hkv;rw[<-this];exact e
 have emerge:jA [] (eg Sum.inr sps)=eg Sum.inr sps:=t_ sps [] nds;rw[emerge];obtain⟨H9,e9,hx9,F9⟩:=qF "still_led" (.ref sl) (kp (x:=.dK (eg Sum.inr sps)) (S9 _ _ hx8) hsl);rw[<-e9];have n9:sl≠x:=(ae (S9 _ _ hx8) hsl).symm;have fsl:=F9 _ _ aa n9;have E9:c_ x H8 H9:=((ac.exB S9).trans (c_.new hsl)).trans F9;have L9:=L8.exI hx8 E9;have hled9:∀p∈sps,∃L,H9 p.2=some (.dK (aI L))/\L.Nodup/\∀w,w∈L↔Reach ds p.1 w:=fun p hp=>by
  obtain⟨L0,g1,g2⟩:=hled p hp;have g3:=kp (x:=.dK (eg Sum.inr sps)) g1 hsl;exact⟨L0,F9 _ _ g3 (Fe (kp (S9 _ _ hx8) hsl) g3),g2⟩
 clear e9 F9;have lk8:lk "still_led" (cI ("still_led":Str) (.ref sl) (cI ("sign_goals":Str) (.ref sg) (cI ("quiet":Str) (.ref qu) (cI ("leaving":Str) (.ref lv) fs4))))=some (.ref sl):=by
  show kN _ _=_;rw[eP,if_pos rfl]
 refine⟨_,rfl,_,rfl,x,C,dx,_,.ref sl,rfl,hx9,M.cls,M.a8,lk8,l3,sl,J2,sps,rfl,L9.a3,fsl,hsps,m.okR.1,fun p hp=>?_,fun H10 S10=>⟨_,rfl,k H10 ?_ ?_⟩⟩
 ·obtain⟨L0,g1,g2,g3⟩:=hled9 p hp;exact⟨L0,g1,fun z=>m.noround _ ((g3 _).mp z)⟩
 ·have X69:c_ x H6 H9:=(E7.trans E8).trans E9;have X59:=((E6.trans E7).trans E8).trans E9;have Y:∀{b:Addr}{o:HO},H9 b=some o->H10 b=some o:=fun h=>S10 _ _ h;have LL:Lists H5 o1 o2 o3 o4 ts J0 J1 J2 ds:=⟨(E3.trans (E4.trans E5)) _ _ f1 n1,(E4.trans E5) _ _ f2 n2,E5 _ _ f3 n3,f4,L5.ds⟩;refine⟨⟨dx,_,o1,o2,o3,o4,lv,qu,sg,sl,ts,lps,gps,sps,Y hx9,?_,?_,?_,?_,?_,?_,?_,?_,?_,?_,?_,lk8,(LL.exI hx5 X59).same S10,hlps,?_,?_,?_,?_,hsps,Y fsl,fun p hp=>?_⟩,m,⟨dx,_,Y hx9,?_,?_,?_,?_⟩⟩
  rotate_right 9
  ·exact Y (X69 _ _ flv (Fe hx6 flv))
  ·intro y hy;obtain⟨us',g1,g2⟩:=hlv y hy;exact⟨us',Y (X69 _ _ g1 (c_.neI hx6 g1)),(g2.kt (X69.ktI hx6)).kt (ac.kt S10)⟩
  ·exact Y ((E8.trans E9) _ _ fqu n7)
  ·exact jn.same ⟨G8.nd,E9 _ _ G8.g (Hv hx8 G8.g),fun y hy=>E9 _ _ (G8.ls y hy) (c_.neI hx8 (G8.ls y hy)),G8.all⟩ S10
  ·obtain⟨L0,g1,g2⟩:=hled9 p hp;exact⟨L0,Y g1,g2⟩
  all_goals(show kN _ _=_;subst hfs4;repeat (rw[eP];first|rw[if_pos rfl] | rw[if_neg (by decide +kernel)]))
  all_goals rfl
 ·exact((((((((E1.trans E2).trans E3).trans E4).trans E5).trans E6).trans E7).trans E8).trans E9).trans (ac.exB S10)
theorem CL(a b:Str):decide (gH a=gH b)=decide (a=b):=by
 by_cases e:a=b
 ·rw[zzr1 e,zzr1 (by rw[e])]
 ·rw[zzr0 e,zzr0 (fun z=>e (o_ z))]
theorem bv.by{C:Addr}{H H':Hp}{x:Addr}{J0 J1 J2:Zb}{ds:List ak}(h:bv C H x J0 J1 J2 ds)
  (hs:∀b ws,H b=some (.lst (List.map V.str ws))->H' b=some (.lst (List.map V.str ws))) (hr:∀b ts,H b=some (.lst (List.map V.ref ts))->H' b=some (.lst (List.map V.ref ts))) (ht:hU H H')
  (hd:∀b kvs,H b=some (.dK kvs)->H' b=some (.dK kvs)) (hT:∀b kvs,H b=some (.dT kvs)->H' b=some (.dT kvs)) (hi:∀b C dx fs,H b=some (.ins C dx fs)->H' b=some (.ins C dx fs)):bv C H' x J0 J1 J2 ds:=by
 obtain⟨dx,fs,o1,o2,o3,o4,lv,qu,sg,sl,ts,lps,gps,sps,g1,a1,a2,a3,a4,b1,b2,b3,b4,b5,b6,b7,b8,L,c1,c2,c3,c4,G,d1,d2,d3⟩:=h.at_;refine⟨⟨dx,fs,o1,o2,o3,o4,lv,qu,sg,sl,ts,lps,gps,sps,hi _ _ _ _ g1,a1,a2,a3,a4,b1,b2,b3,b4,b5,b6,b7,b8,⟨hs _ _ L.a1,hs _ _ L.a2,hs _ _ L.a3,hr _ _ L.a4,L.ds.kt ht⟩,c1,hd _ _ c2,fun y hy=>?_,hd _ _ c4,⟨G.nd,hT _ _ G.g,fun y hy=>hs _ _ (G.ls y hy),G.all⟩,d1,hd _ _ d2,fun y hy=>?_⟩,h.ok,by obtain⟨dx,fs,g,r⟩:=h.more;exact⟨dx,fs,hi _ _ _ _ g,r⟩⟩
 ·obtain⟨us,e1,e2⟩:=c3 y hy;exact⟨us,hr _ _ e1,e2.kt ht⟩
 ·obtain⟨L0,e1,e2⟩:=d3 y hy;exact⟨L0,hd _ _ e1,e2⟩
theorem bv.same{C:Addr}{H H':Hp}{x:Addr}{J0 J1 J2:Zb}{ds:List ak}(h:bv C H x J0 J1 J2 ds)(S:ac H H'):bv C H' x J0 J1 J2 ds :=
 h.by (fun _ _ e=>S _ _ e) (fun _ _ e=>S _ _ e) (ac.kt S) (fun _ _ e=>S _ _ e) (fun _ _ e=>S _ _ e) (fun _ _ _ _ e=>S _ _ e)
inductive hZ(C:Addr)(vs:List V)(H:Hp)(Q:VK)(E:XK):Prop
 |mk (x:Addr) (w:Str) (J0 J1 J2:Zb) (ds:List ak):(vs=[.ref x,.str w])->(bv C H x J0 J1 J2 ds)->(Q (.bl (decide (w∈J2.filter (c6 ds)))) H)->hZ C vs H Q E
theorem zm{K:Za}{C:Addr}(M:MC K C){vs:List V}{H:Hp}{Q:VK}{E:XK}(h:hZ C vs H Q E):nO K (bM Q) (start oo vs) H:=by
 obtain⟨x,w,J0,J1,J2,ds,rfl,h,k⟩:=h;obtain⟨dx,fs,o1,o2,o3,o4,lv,qu,sg,sl,ts,lps,gps,sps,g1,a1,a2,a3,a4,b1,b2,b3,b4,b5,b6,b7,b8,L,c1,c2,c3,c4,_⟩:=h.at_;refine⟨_,rfl,_,rfl,x,C,dx,fs,.ref qu,rfl,g1,M.cls,M.a6,b6,qu,_,rfl,.inl ⟨_,.inr w,.inl c4,rfl,rfl⟩,?_⟩;rw[dL];exact k
def aV:List Str:=[("hush":Str)]
inductive km(C:Addr)(vs:List V)(H:Hp)(Q:VK)(E:XK):Prop
 |mk (t l1 l2 l3 l4:Addr) (ts:Ze) (J0 J1 J2:Zb) (ds:List ak):(vs=[.ref t])->(iC H t l1 l2 l3 l4 ts J0 J1 J2 ds)->(aK J0 J1 J2 ds)->(∀(x:Addr) (H':Hp),bv C H' x J0 J1 J2 ds->ac H H'->Q (.ref x) H')->km C vs H Q E
theorem AT{K:Za}{C:Addr}{vs:List V}{H:Hp}{Q:VK}{E:XK}(h:km C vs H Q E):uU K C (rY C) (bM Q) (start vA vs) H:=by
 obtain⟨t,l1,l2,l3,l4,ts,J0,J1,J2,ds,rfl,T,m,k⟩:=h;refine⟨_,rfl,.inr (.inl ⟨t,_,0,_,rfl,rfl,bc.of T.t,rfl,.inl ⟨l1,_,rfl,.inl (ay.of T.a1),fun m1 h1=>?_⟩⟩)⟩;have T1:=T.same (ac.new (o:=.lst (J0.map V.str)) h1);refine⟨_,rfl,.inr (.inl ⟨t,_,1,_,rfl,rfl,bc.of T1.t,rfl,.inl ⟨l2,_,rfl,.inl (ay.of T1.a2),fun m2 h2=>?_⟩⟩)⟩;have T2:=T1.same (ac.new (o:=.lst (J1.map V.str)) h2);refine⟨_,rfl,.inr (.inl ⟨t,_,2,_,rfl,rfl,bc.of T2.t,rfl,.inl ⟨l3,_,rfl,.inl (ay.of T2.a3),fun m3 h3=>?_⟩⟩)⟩;have T3:=T2.same (ac.new (o:=.lst (J2.map V.str)) h3);refine⟨_,rfl,.inr (.inl ⟨t,_,3,_,rfl,rfl,bc.of T3.t,rfl,.inl ⟨l4,_,rfl,.inl (ay.of T3.a4),fun m4 h4=>?_⟩⟩)⟩;have T4:=T3.same (ac.new (o:=.lst (ts.map V.ref)) h4);have S4:=(((ac.new (o:=.lst (J0.map V.str)) h1).trans (ac.new (o:=.lst (J1.map V.str)) h2)).trans (ac.new (o:=.lst (J2.map V.str)) h3)).trans (ac.new (o:=.lst (ts.map V.ref)) h4);refine fun x dx hx hdx hne=>?_;have S5:ac H (upd (upd (upd (upd (upd (upd H m1 (.lst (J0.map V.str))) m2 (.lst (J1.map V.str))) m3 (.lst (J2.map V.str))) m4 (.lst (ts.map V.ref))) dx (.own x)) x (.ins C dx [])) :=
  (S4.trans (ac.new hdx)).trans (ac.new (by rw[ag hne.symm];exact hx))
 have hxx:upd (upd (upd (upd (upd H m1 (.lst (J0.map V.str))) m2 (.lst (J1.map V.str))) m3 (.lst (J2.map V.str))) m4 (.lst (ts.map V.ref))) dx (.own x) x=none:=by rw[ag hne.symm];exact hx
 refine⟨x,dx,m1,m2,m3,m4,ts,J0,J1,J2,ds,rfl,aa,⟨?_,?_,?_,?_,T.ds.kt (ac.kt S5)⟩,m,fun H' M ex=>⟨rfl,k x H' M fun b o q=>?_⟩⟩
 ·exact kp (kp (kp (kp (kp aa h2) h3) h4) hdx) hxx
 ·exact kp (kp (kp (kp aa h3) h4) hdx) hxx
 ·exact kp (kp (kp aa h4) hdx) hxx
 ·exact kp (kp aa hdx) hxx
 ·have hq:=S5 _ _ q;exact ex _ _ hq (ae (S4.trans (ac.new hdx) _ _ q) hxx)
def fh(ds:List ak):List Str:=(ds.filter fun d=>!gg d).map (·.a)
theorem kr(ds:List ak)(r:Str):c6 ds r=decide (r∉fh ds):=by
 unfold c6 fh aZ;rw[so,wU,decide_eq_true_iff];constructor
 ·intro h z;obtain⟨d,hd,rfl⟩:=ax.mp z;rw[bF]at hd;have:=h d (bF.mpr ⟨hd.1,zzr1 rfl⟩);rw[this]at hd;exact absurd hd.2 (by decide)
 ·intro h d hd;rw[bF]at hd;cases q:gg d with
  |true=>rfl
  |false =>
   refine absurd (ax.mpr ⟨d,bF.mpr ⟨hd.1,by rw[q];rfl⟩,?_⟩) h;exact of_decide_eq_true hd.2
theorem mE{w:Str}{ws:Zb}:gH w∈ws.map gH↔w∈ws:=by
 constructor
 ·intro h;obtain⟨x,hx,e⟩:=ax.mp h;rw[<-o_ e];exact hx
 ·exact j9
def xk(K:Za)(C_Machine:Addr)(sp_Machine_rooms:Sp)(sp_Machine_led_from:Sp):TS :=
 ap (aP (nU) U2)
 (ap (d9 (b0 K V1) U3 (b_ (tB (cU K V3 V2)) (ap (kQ V2 V3 (tC (.bl true)))
 (d9 (b0 K (cX C_Machine "led_from" sp_Machine_led_from [] E0 V0 (az V3))) U4 (kQ V2 V4 (tC (.bl true))))) (bB)))
 (bj (eo (vO K) (az (dC 1 [2] (b0 K (cX C_Machine "rooms" sp_Machine_rooms [] E0 V0 bq)) U0 (tB (rM K V0 V1)) V0)))))
def yt:List Str:=["M","rooms","found","room","led"]
def rB(K:Za):TS :=
 bj (eo (dw K) (az (fS K V0 "own_rooms")))
def rT:List Str:=["self"]
def nN(K:Za):TS :=
 bj (eo (dw K) (az (tK K (fS K V0 "still_led") V1 (bD (bq)))))
def om:List Str:=["self","room"]
def rC(K:Za):TS :=
 bj (eo (dw K) (az (tK K (fS K V0 "sign_goals") (bD (aR V1 V2)) (bD (bq)))))
def rV:List Str:=["self","room","sign"]
def tm(K:Za):TS :=
 ap (aP (eo (dw K) (az V1)) U2)
 (ap (aP (tC (.int 0)) U3)
 (ap (nR (aO (aH AZ V3 (eo (eC K) (az V2)))) (ap (d9 (b0 K V0) (ib K 3 (a_ U4 (a_ U5 (a_ U6 (gR))))) (b_ (kW (aO (aH (lP K) V4 (aH (mV K) V2 V3))) (kW (aO (aH (lP K) V5 (bD (az (tC (.str "still")))))) (aO (aH (qy K true) V6 V2)))) (bQ (uM K "list" cV V2 (az V6))) (bB)))
 (aP (aH fo V3 (tC (.int 1))) U3)))
 (bj V2)))
def uE:List Str:=["doors","rooms","found","at","room","sign","other"]
inductive fT(C:Addr)(vs:List V)(H:Hp)(Q:VK)(E:XK):Prop
 |mk (x:Addr) (J0 J1 J2:Zb) (ds:List ak):(vs=[.ref x])->(bv C H x J0 J1 J2 ds)->(∀l,H l=none->Q (.ref l) (upd H l (.lst (J2.map V.str))))->fT C vs H Q E
theorem EE{K:Za}{C:Addr}(M:MC K C){vs:List V}{H:Hp}{Q:VK}{E:XK}(h:fT C vs H Q E):rB K (bM Q) (start rT vs) H:=by
 obtain⟨x,J0,J1,J2,ds,rfl,h,k⟩:=h;obtain⟨dx,fs,o1,o2,o3,o4,lv,qu,sg,sl,ts,lps,gps,sps,g1,a1,a2,a3,a4,b1,b2,b3,b4,b5,b6,b7,b8,L,_⟩:=h.at_;exact⟨_,rfl,x,C,dx,fs,.ref o3,rfl,g1,M.cls,M.a3,b3,.inl ⟨o3,_,rfl,.inl (ay.of L.a3),k⟩⟩
theorem zU:∀{L:Zb},L.Nodup->(aI L).map (fun kv=>kV kv.1)=L.map V.str:=by
 intro L;refine jN (fun L=>L.Nodup->(aI L).map (fun kv=>kV kv.1)=L.map V.str) (fun _=>rfl) (fun ws w ih nd=>?_) L;rw[cP]at nd;have hn:br (aI ws) (.inr w)=none:=by
  rw[ue,if_neg (fun z=>nd.2.2 w z w (by simp) rfl)]
 show(aI (ws++[w])).map _=_;rw[dj,df _ hn,aw,ih nd.1,aw]
 rfl
inductive hW(C:Addr)(vs:List V)(H:Hp)(Q:VK)(E:XK):Prop
 |mk (x:Addr) (r:Str) (J0 J1 J2:Zb) (ds:List ak):(vs=[.ref x,.str r])->(bv C H x J0 J1 J2 ds)->(r∈J2)->(∀(l:Addr) (L:Zb) (H':Hp),H' l=some (.lst (L.map V.str))->L.Nodup->(∀w,w∈L↔Reach ds r w)->H l=none->ac H H'->Q (.ref l) H')->hW C vs H Q E
theorem zj{K:Za}{C:Addr}(M:MC K C){vs:List V}{H:Hp}{Q:VK}{E:XK}(h:hW C vs H Q E):nN K (bM Q) (start om vs) H:=by
 obtain⟨x,r,J0,J1,J2,ds,rfl,h,hr,k⟩:=h;obtain⟨dx,fs,o1,o2,o3,o4,lv,qu,sg,sl,ts,lps,gps,sps,g1,a1,a2,a3,a4,b1,b2,b3,b4,b5,b6,b7,b8,L,c1,c2,c3,c4,G,d1,d2,d3⟩:=h.at_;have nod:=h.ok.okR.1;obtain⟨⟨r',a⟩,hra,er⟩:=ax.mp (show r∈sps.map (·.1) by rw[d1];exact hr);obtain rfl:r'=r:=er;obtain⟨L0,e1,e2,e3⟩:=d3 _ hra;refine⟨_,rfl,x,C,dx,fs,.ref sl,rfl,g1,M.cls,M.a8,b8,sl,rfl,.inl ⟨_,.inl d2⟩,_,rfl,(by show 0<=ai;decide),fun et het=>⟨_,.inl ⟨_,.inr r',.inl (kp d2 het),rfl,rfl⟩,?_⟩⟩;rw[eE iz (by rw[d1];exact nod) hra];refine .inr ⟨a,_,rfl,.inl (kp e1 het),fun l hl=>k l L0 _ ?_ e2 e3 ((ac.new het).free hl) ((ac.new het).trans (ac.new hl))⟩;rw[aa,zU e2]
inductive iJ(C:Addr)(vs:List V)(H:Hp)(Q:VK)(E:XK):Prop
 |mk (x s:Addr) (r:Str) (sg J0 J1 J2:Zb) (ds:List ak):(vs=[.ref x,.str r,.ref s])->(bv C H x J0 J1 J2 ds)->(H s=some (.tup (sg.map V.str)))->(∀(l:Addr) (H':Hp),H' l=some (.lst ((bz ds (r,sg)).map V.str))->H l=none->ac H H'->Q (.ref l) H')->iJ C vs H Q E
theorem Dl{K:Za}{C:Addr}(M:MC K C){vs:List V}{H:Hp}{Q:VK}{E:XK}(h:iJ C vs H Q E):rC K (bM Q) (start rV vs) H:=by
 obtain⟨x,s,r,sgn,J0,J1,J2,ds,rfl,h,hs,k⟩:=h;obtain⟨dx,fs,o1,o2,o3,o4,lv,qu,sg,sl,ts,lps,gps,sps,g1,a1,a2,a3,a4,b1,b2,b3,b4,b5,b6,b7,b8,L,c1,c2,c3,c4,G,d1,d2,d3⟩:=h.at_;have nod:=h.ok.okR.1;refine⟨_,rfl,x,C,dx,fs,.ref sg,rfl,g1,M.cls,M.a7,b7,sg,rfl,.inr ⟨_,.inl G.g⟩,_,rfl,_,rfl,(by show 2<=ai;decide),fun kt hkt=>⟨(by show 0<=ai;decide),fun et het=>⟨br (eg uN gps) (uN (r,sgn)),.inr ⟨_,uN (r,sgn),kt,.inl (kp (kp G.g hkt) het),rfl,?_,mD _,rfl⟩,?_⟩⟩⟩
 ·refine cW.isIn 8 (mD _) ?_;unfold uN cW;refine⟨kt,_,rfl,kp aa het,?_⟩;unfold TKAts;refine⟨_,_,rfl,tf _,?_⟩;unfold TKAts;refine⟨_,_,rfl,SignAt.tk (kp (kp hs hkt) het),?_⟩;unfold TKAts
  rfl
 have S2:ac H (upd (upd H kt (.tup [.str r,.ref s])) et (.tup [])):=(ac.new hkt).trans (ac.new het);by_cases hmem:(r,sgn)∈gps.map (·.1)
 ·obtain⟨⟨y,a⟩,hra,er⟩:=ax.mp hmem;obtain rfl:y=(r,sgn):=er;rw[eE ix G.nd hra];exact .inl ⟨a,_,rfl,.inl (ay.of (S2 _ _ (G.ls _ hra))),fun l hl=>k l _ aa (S2.free hl) (S2.trans (ac.new hl))⟩
 ·rw[mF ix hmem];have hnil:bz ds (r,sgn)=[]:=lX fun y hy z=>hmem (by rw[<-z];exact G.all y hy);refine .inl ⟨et,[],rfl,.inr (bc.of aa),fun l hl=>k l _ ?_ (S2.free hl) (S2.trans (ac.new hl))⟩;rw[hnil];exact aa
theorem Reach.trans{ds:List ak}{a b c:Str}(h1:Reach ds a b)(h2:Reach ds b c):Reach ds a c:=by
 induction h2 with
 |one h=>exact .step h1 h
 |step r h ih=>exact .step ih h
def fO(ds:List ak)(gs:Zb)(w:Str):Prop:=∃g∈gs,w=g∨Reach ds g w
theorem fO.in_{ds:List ak}{gs J2:Zb}{w:Str}(hg:∀g∈gs,g∈J2)(hd:∀d∈ds,d.b∈J2)(h:fO ds gs w):w∈J2:=by
 obtain⟨g,h1,rfl|h2⟩:=h
 ·exact hg _ h1
 ·exact h2.in_ hd
def rR(F:Zb)(w:Str):List Str:=if w∈F then F else F++[w]
theorem zT(F:Zb):∀kv∈aI F,kv.2=.bl true:=by
 refine jN (fun F=>∀kv∈aI F,kv.2=.bl true) (by intro kv h;cases h) (fun ws w ih=>?_) F;intro kv hkv;rw[dj]at hkv;unfold cL at hkv;split at hkv
 ·obtain⟨x,hx,rfl⟩:=ax.mp hkv;split
  ·rfl
  ·exact ih x hx
 ·rcases bd.mp hkv with h|h
  ·exact ih kv h
  ·have:kv=(.inr w,.bl true):=by simpa using h
   rw[this]
theorem ug(F:Zb)(w:Str):cL (aI F) (.inr w) (.bl true)=aI (rR F w):=by
 unfold rR;by_cases c:w∈F
 ·rw[if_pos c];have h1:((aI F).any fun kv=>decide (kv.1=(.inr w:eX)))=true:=by
   rw[jM,dL,zzr1 c]
  unfold cL;rw[if_pos h1];have:∀l:List (eX×V),(∀kv∈l,kv.2=.bl true)->l.map (fun kv=>if kv.1=(.inr w:eX)then(kv.1,V.bl true)else kv)=l:=by
   intro l
   induction l with
   |nil=>intro _;rfl
   |cons x l ih =>
    intro h;rw[bN,ih fun kv hkv=>h kv (eI _ hkv)];congr 1;split
    ·rw[<-h x dO]
    ·rfl
  exact this _ (zT F)
 ·rw[if_neg c,dj]
theorem uA{F:Zb}(h:F.Nodup)(w:Str):(rR F w).Nodup:=by
 unfold rR;split
 ·exact h
 ·next c =>
  rw[cP];refine⟨h,by simp,fun a ha b hb e=>?_⟩;have:b=w:=by simpa using hb
  exact c (by rw[<-this,<-e];exact ha)
theorem zP{F:Zb}{w y:Str}:y∈rR F w↔y∈F∨y=w:=by
 unfold rR;split
 ·next c=>exact⟨.inl,fun h=>h.elim id fun e=>by rw[e];exact c⟩
 ·rw[bd];simp
inductive sp_with_still(C:Addr)(vs:List V)(H:Hp)(Q:VK)(E:XK):Prop
 |mk (x l:Addr) (gs J0 J1 J2:Zb) (ds:List ak):(vs=[.ref x,.ref l])->(bv C H x J0 J1 J2 ds)->(H l=some (.lst (gs.map V.str)))->((∀g∈gs,g∈J2))->(∀(t:Addr) (F:Zb) (H':Hp),H' t=some (.tup ((J2.filter fun r=>decide (r∈F)).map V.str))->(∀w,w∈F↔fO ds gs w)->ac H H'->Q (.ref t) H')->sp_with_still C vs H Q E
theorem vc{K:Za}{C:Addr}{vs:List V}{H:Hp}{Q:VK}{E:XK}(h:sp_with_still C vs H Q E):xk K C (fT C) (hW C) (bM Q) (start yt vs) H:=by
 obtain⟨x,l,gs,J0,J1,J2,ds,rfl,M,hl,hg,k⟩:=h;have hdb:∀d∈ds,d.b∈J2:=fun d hd=>(M.ok.good d hd).b;have z3:=M.ok.rooms26;refine fun d hd=>?_;refine⟨_,rfl,l,rfl,⟨_,ay.of (kp hl hd)⟩,?_⟩;refine bR (xs:=gs.map V.str) (fun i σ H'=>∃(F:Zb) (x3 x4:Option V),σ=[some (.ref x),some (.ref l),some (.ref d),x3,x4]/\H' d=some (.dK (aI F))/\ac H H'/\F.Nodup/\∀w,w∈F↔fO ds (gs.take i) w)
  ⟨[],_,_,rfl,aa,ac.new hd,qd,fun w=>⟨fun h=>(by cases h),fun⟨g,h,_⟩=>(by cases h)⟩⟩ (fun i σ H' _ ⟨_,_,_,_,_,S,_⟩=>ay.of (S _ _ hl)) ?_ ?_
 ·rintro i y σ H1 hi ⟨F,x3,x4,rfl,hd1,S1,nd,hF⟩;obtain⟨r,hr,rfl⟩:=bu hi;have hrm:r∈J2:=hg r (ba hr);have hsub:∀w∈F,w∈J2:=fun w hw=>((hF w).mp hw).in_ (fun g hg'=>hg g (fC hg')) hdb;refine⟨_,rfl,_,rfl,d,_,rfl,.inl ⟨_,.inr r,.inl hd1,rfl,rfl⟩,_,rfl,?_⟩;rw[dL];have hstep:∀w,fO ds (gs.take (i+1)) w↔(fO ds (gs.take i) w∨w=r∨Reach ds r w):=by
   intro w;rw[take_snoc hr];constructor
   ·rintro⟨g,hg',h⟩;rcases bd.mp hg' with hg'|hg'
    ·exact .inl ⟨g,hg',h⟩
    ·have:g=r:=by simpa using hg'
     subst this;exact .inr h
   ·rintro(⟨g,hg',h⟩|h)
    ·exact⟨g,cj _ hg',h⟩
    ·exact⟨r,cD _ (by simp),h⟩
  by_cases c:r∈F
  ·rw[zzr1 c];refine bU ⟨F,_,_,rfl,hd1,S1,nd,fun w=>?_⟩;rw[hstep,hF];refine⟨.inl,fun h=>h.elim id fun h=>?_⟩;obtain⟨g,hg',hgr⟩:=(hF r).mp c;rcases h with h|h
   ·rw[h];exact⟨g,hg',hgr⟩
   ·refine⟨g,hg',.inr ?_⟩;rcases hgr with e|hgr
    ·rw[<-e];exact h
    ·exact hgr.trans h
  ·rw[zzr0 c];refine cS ?_;have hlen:∀{F:Zb},F.Nodup->(∀w∈F,w∈J2)->(aI F).length<ai:=fun nd hs=>aq (bG (i0 _) (bG (lV nd hs) (by omega)));refine⟨_,rfl,_,rfl,d,_,rfl,.inl ⟨_,.inr r,hd1,rfl,hlen nd hsub,rfl⟩,?_⟩;rw[ug];have S2:ac H (upd H1 d (.dK (aI (rR F r)))):=fun b o q=>by rw[ag (ae q hd)];exact S1 _ _ q
   have hd2:upd H1 d (.dK (aI (rR F r))) d=some (.dK (aI (rR F r))):=aa;generalize upd H1 d (.dK (aI (rR F r)))=H2 at S2 hd2 ⊢;have M2:=M.same S2;obtain⟨dx,fs,o1,o2,o3,o4,lv,qu,sg,sl,ts,lps,gps,sps,g1,a1,a2,a3,a4,_⟩:=M2.at_;refine⟨_,rfl,x,dx,fs,rfl,g1,a3,_,rfl,x,r,J0,J1,J2,ds,rfl,M2,hrm,fun ll L H3 hll ndL hL frl S3=>⟨ll,rfl,⟨_,ay.of hll⟩,?_⟩⟩;have hd3:=S3 _ _ hd2;have llH:H ll=none:=S2.free frl;have lld:ll≠d:=fun z=>by rw[z,hd2]at frl;cases frl
   refine bR (xs:=L.map V.str) (fun j σ H'=>∃(F':Zb) (x4:Option V),σ=[some (.ref x),some (.ref l),some (.ref d),some (.str r),x4]/\H' d=some (.dK (aI F'))/\H' ll=some (.lst (L.map V.str))/\ac H H'/\F'.Nodup/\∀w,w∈F'↔(fO ds (gs.take i) w∨w=r∨w∈L.take j))
    ⟨rR F r,_,rfl,hd3,hll,S2.trans S3,uA nd r,fun w=>?_⟩ (fun j σ H' _ ⟨_,_,_,_,h,_⟩=>ay.of h) ?_ ?_
   ·rw[zP,hF];simp
   ·rintro j y σ H4 hj ⟨F',x4',rfl,hd4,hll4,S4,nd4,hF4⟩;obtain⟨v,hv,rfl⟩:=bu hj;have hsub4:∀w∈F',w∈J2:=by
     intro w hw;rcases(hF4 w).mp hw with h|h|h
     ·exact h.in_ (fun g hg'=>hg g (fC hg')) hdb
     ·rw[h];exact hrm
     ·exact((hL w).mp (fC h)).in_ hdb
    refine⟨_,rfl,_,rfl,d,_,rfl,.inl ⟨_,.inr v,hd4,rfl,hlen nd4 hsub4,rfl⟩,rR F' v,_,rfl,?_,?_,?_,uA nd4 v,fun w=>?_⟩
    ·rw[aa,ug]
    ·rw[ag lld];exact hll4
    ·intro b o q;rw[ag (ae q hd)];exact S4 _ _ q
    ·rw[zP,hF4,take_snoc hv,bd];simp only[aX];constructor
     ·rintro((h|h|h)|h)
      ·exact .inl h
      ·exact .inr (.inl h)
      ·exact .inr (.inr (.inl h))
      ·exact .inr (.inr (.inr h))
     ·rintro(h|h|h|h)
      ·exact .inl (.inl h)
      ·exact .inl (.inr (.inl h))
      ·exact .inl (.inr (.inr h))
      ·exact .inr h
   ·rintro σ H4 ⟨F',x4',rfl,hd4,hll4,S4,nd4,hF4⟩;rw[aj,aT]at hF4;refine⟨F',_,_,rfl,hd4,S4,nd4,fun w=>?_⟩;rw[hstep,hF4,hL]
 ·rintro σ H1 ⟨F,x3,x4,rfl,hd1,S1,nd,hF⟩;rw[aj,aT]at hF;have M1:=M.same S1;obtain⟨dx,fs,o1,o2,o3,o4,lv,qu,sg,sl,ts,lps,gps,sps,g1,a1,a2,a3,a4,_⟩:=M1.at_;refine⟨_,rfl,x,dx,fs,rfl,g1,a4,x,J0,J1,J2,ds,rfl,M1,fun rl hrl=>⟨rl,rfl,⟨_,ay.of aa⟩,fun f hf=>?_⟩⟩;have S2:ac H (upd H1 rl (.lst (J2.map V.str))):=S1.trans (ac.new hrl);have hd2:upd H1 rl (.lst (J2.map V.str)) d=some (.dK (aI F)):=kp hd1 hrl;have hrl2:upd H1 rl (.lst (J2.map V.str)) rl=some (.lst (J2.map V.str)):=aa;generalize upd H1 rl (.lst (J2.map V.str))=H2 at S2 hd2 hrl2 hf ⊢;refine cg (xs:=J2.map V.str) (fun i vs H'=>vs=((J2.take i).filter fun r=>decide (r∈F)).map V.str/\ac H2 H'/\H' f=some (.lst vs)) ⟨rfl,ac.new hf,aa⟩ (fun i vs H' _ ⟨_,S,h'⟩=>⟨h',ay.of (S _ _ hrl2)⟩) ?_ ?_
  ·rintro vs H' ⟨rfl,S,f'⟩;rw[aj,aT]at f';exact⟨f,_,rfl,.inl ⟨ay.of f',fun t ht=>k t F _ aa hF (S2.trans (S.trans (ac.new ht)))⟩⟩
  ·rintro i vs H' x' hx' hi ⟨rfl,S,f'⟩;obtain⟨r,hr,rfl⟩:=bu hx';refine gN ?_;refine⟨_,rfl,_,rfl,d,_,rfl,.inl ⟨_,.inr r,.inl (S _ _ hd2),rfl,rfl⟩,_,rfl,?_⟩;rw[dL];have hlen:(((J2.take i).filter fun r=>decide (r∈F)).map V.str).length<ai:=by
    rw[aj];refine aq (bG (dP _ _) ?_);rw[aE];omega
   refine fN (fun hq=>?_) (fun hq=>?_)
   ·refine⟨_,rfl,f',hlen,mW hi ⟨?_,?_,aa⟩⟩
    ·rw[bP hr,if_pos hq,aw];rfl
    ·intro b o q;rw[ag (ae q hf)];exact S _ _ q
   ·refine mW hi ⟨?_,S,f'⟩;rw[bP hr,if_neg hq,dI]
inductive eK(K:Za)(vs:List V)(H:Hp)(Q:VK)(E:XK):Prop
 |mk (l4 l:Addr) (ts:Ze) (ds:List ak) (gs J2:Zb):(vs=[.ref l4,.ref l])->(H l4=some (.lst (ts.map V.ref)))->(cC H ts ds)->(H l=some (.lst (gs.map V.str)))->((∀d∈ds,d.b∈J2))->(J2.length<=1000)->(gs.length<=1000)->(∀(f:Addr) (F:Zb) (H':Hp),H' f=some (.lst (F.map V.str))->(∀w,w∈F↔fO ds gs w)->F.length<=2000->H f=none->ac H H'->Q (.ref f) H')->eK K vs H Q E
structure SO(H0 H:Hp)(ds:List ak)(gs:Zb)(f:Addr)(X:Zb):Prop where
 f:H f=some (.lst ((gs++X).map V.str))
 same:ac H0 H
 nd:X.Nodup
 new:∀y∈X,y∉gs
 sound:∀y∈X,fO ds gs y
theorem fO.step{ds:List ak}{gs:Zb}{a b:Str}(h:fO ds gs a)(e:(⟨a,ao,b⟩:ak)∈ds):fO ds gs b:=by
 obtain⟨g,hg,rfl|h⟩:=h
 ·exact⟨_,hg,.inr (.one e)⟩
 ·exact⟨g,hg,.inr (.step h e)⟩
theorem dR(a b:Zb):decide (jb a=jb b)=decide (a=b):=by
 by_cases e:a=b
 ·rw[zzr1 e,zzr1 (by rw[e])]
 ·rw[zzr0 e,zzr0 (fun z=>e (CI z))]
theorem ze{K:Za}{vs:List V}{H:Hp}{Q:VK}{E:XK}(h:eK K vs H Q E):tm K (bM Q) (start uE vs) H:=by
 obtain⟨l4,l,ts,ds,gs,J2,rfl,h4,hds,hl,hin,hz,hz2,k⟩:=h;refine⟨_,rfl,.inl ⟨l,_,rfl,.inl (ay.of hl),fun f hf=>?_⟩⟩;have lenX:∀{X:Zb},X.Nodup->(∀y∈X,y∉gs)->(∀y∈X,fO ds gs y)->X.length<=J2.length:=fun nd nw sd=>lV nd fun y hy=>by
  obtain⟨g,hg,e|h⟩:=sd y hy
  ·exact absurd (by rw[e];exact hg) (nw y hy)
  ·exact h.in_ hin
 refine⟨fun m σ H'=>∃(X:Zb) (at_:Nat) (x y z:Option V),σ=[some (.ref l4),some (.ref l),some (.ref f),some (.int at_),x,y,z]/\SO H H' ds gs f X/\at_<=(gs++X).length/\(∀i y,i<at_->(gs++X)[i]?=some y->∀c,(⟨y,ao,c⟩:ak)∈ds->c∈gs++X)/\m=gs.length+J2.length-at_,
  ⟨_,[],0,_,_,_,rfl,⟨by rw[dI];exact aa,ac.new hf,qd,by simp,by simp⟩,db _,fun i y h=>by omega,rfl⟩,?_⟩
 rintro m σ H1 ⟨X,at_,x4,x5,x6,rfl,D,hat,hcl,rfl⟩;have hXl:=lenX D.nd D.new D.sound;refine⟨_,rfl,_,rfl,.inl ⟨f,_,rfl,.inl (ay.of D.f),_,_,rfl,rfl,_,rfl,?_⟩⟩;refine fN (fun hlt=>?_) (fun hlt=>?_)
 ·have hlt':at_<(gs++X).length:=by
   have:=of_decide_eq_true hlt;rw[aj]at this;omega
  have hat0:at_<gs.length+J2.length:=by rw[aL]at hlt';omega
  generalize hhere:(gs++X)[at_]=here;have hget:(gs++X)[at_]?=some here:=by rw[<-hhere];exact bY hlt'
  have hfrom:∀{Y:Zb}{y:Str},(∀y∈Y,fO ds gs y)->y∈gs++Y->fO ds gs y:=fun sd hy=>by
   rcases bd.mp hy with hy|hy
   ·exact⟨_,hy,.inl rfl⟩
   ·exact sd _ hy
  refine⟨fun σ' H'=>∃(X':Zb) (x y z:Option V),σ'=[some (.ref l4),some (.ref l),some (.ref f),some (.int ((at_+1:Nat):Int)),x,y,z]/\SO H H' ds gs f X'/\at_+1<=(gs++X').length/\(∀i y,i<at_+1->(gs++X')[i]?=some y->∀c,(⟨y,ao,c⟩:ak)∈ds->c∈gs++X'),
   fun σ' H' ⟨X',x,y,z,e,D',h1,h2⟩=>⟨_,(by omega:gs.length+J2.length-(at_+1)<gs.length+J2.length-at_),X',at_+1,x,y,z,e,D',h1,h2,rfl⟩,?_⟩
  refine⟨_,rfl,l4,rfl,⟨_,ay.of (D.same _ _ h4)⟩,?_⟩;refine bR (xs:=ts.map V.ref) (fun j σ H'=>∃(X' Y:Zb) (x y z:Option V),σ=[some (.ref l4),some (.ref l),some (.ref f),some (.int at_),x,y,z]/\X'=X++Y/\SO H H' ds gs f X'/\∀d∈ds.take j,d.a=here->d.sg=ao->d.b∈gs++X')
   ⟨X,[],_,_,_,rfl,by simp,D,by simp⟩ (fun j σ H' _ ⟨_,_,_,_,_,_,_,D',_⟩=>ay.of (D'.same _ _ h4)) ?_ ?_
  ·rintro j y σ H2 hj ⟨X',Y,x4',x5',x6',rfl,rfl,D2,hdone⟩;obtain⟨t,ht,rfl⟩:=cu hj;obtain⟨dr,hdr,hatd⟩:=Paired.getL hds ht;obtain⟨s,ht2,hs2⟩:=hatd.kt (ac.kt D2.same);have hmem:=ba hdr;have hXl2:=lenX D2.nd D2.new D2.sound;have hget2:(gs++(X++Y))[at_]?=some here:=by
    rw[<-dH,fe hlt'];exact hget
   refine⟨t,_,rfl,bc.of ht2,rfl,_,_,rfl,_,_,rfl,_,_,rfl,rfl,?_⟩;have nextI:∀(H3:Hp) (X3 Y3:Zb) (q4 q5 q6:Option V),X3=X++Y3->SO H H3 ds gs f X3->(∀y∈X++Y,y∈X3)->(dr.a=here->dr.sg=ao->dr.b∈gs++X3) ->
     ∃(X' Y:Zb) (x y z:Option V),[some (.ref l4),some (.ref l),some (.ref f),some (.int at_),q4,q5,q6]=[some (.ref l4),some (.ref l),some (.ref f),some (.int at_),x,y,z]/\X'=X++Y/\SO H H3 ds gs f X'/\∀d∈ds.take (j+1),d.a=here->d.sg=ao->d.b∈gs++X':=by
    intro H3 X3 Y3 q4 q5 q6 e D3 hsub hnew;refine⟨X3,Y3,q4,q5,q6,rfl,e,D3,fun d hd e1 e2=>?_⟩;rw[take_snoc hdr]at hd;rcases bd.mp hd with hd|hd
    ·rcases bd.mp (hdone d hd e1 e2)with h|h
     ·exact cj _ h
     ·exact cD _ (hsub _ h)
    ·have:d=dr:=by simpa using hd
     subst this;exact hnew e1 e2
   refine⟨_,rfl,_,rfl,_,rfl,.inl ⟨f,_,_,_,rfl,rfl,ay.of D2.f,aS (j:=at_) (by rw[bZ,hget2];rfl),gH dr.a,gH here,j6 _,j6 _,(by show 0<=8;decide),(by show 0<=8;decide),_,rfl,?_⟩⟩;rw[CL];by_cases c1:dr.a=here;rotate_left
   ·rw[zzr0 c1];exact bU (bU (nextI H2 _ _ _ _ _ rfl D2 (fun _ h=>h) fun e=>absurd e c1))
   rw[zzr1 c1];refine cS ?_;refine⟨_,rfl,(by show 1<=ai;decide),fun st hst=>⟨jb dr.sg,jb ao,aQ (bc.of (kp hs2 hst)),aQ (bc.of aa),by rw[bo];decide,by rw[bo];decide,_,rfl,?_⟩⟩;rw[dR];have D3:SO H (upd H2 st (.tup [.str "still"])) ds gs f (X++Y):=⟨kp D2.f hst,D2.same.trans (ac.new hst),D2.nd,D2.new,D2.sound⟩;have hstS:H st=none:=D2.same.free hst;generalize upd H2 st (.tup [.str "still"])=H3 at D3 ⊢;by_cases c2:dr.sg=ao;rotate_left
   ·rw[zzr0 c2];exact bU (bU (nextI H3 _ _ _ _ _ rfl D3 (fun _ h=>h) fun _ e=>absurd e c2))
   rw[zzr1 c2];refine cS ?_;refine⟨_,rfl,_,rfl,gH dr.b,(gs++(X++Y)).map gH,f,_,j6 _,rfl,.inl (ay.of D3.f),jC _,(by show 0<=8;decide),by rw[em];decide,_,rfl,?_⟩;rw[if_pos rfl];by_cases c3:dr.b∈gs++(X++Y)
   ·rw[zzr1 (mE.mpr c3)];exact bU (nextI H3 _ _ _ _ _ rfl D3 (fun _ h=>h) fun _ _=>c3)
   rw[zzr0 (fun z=>c3 (mE.mp z))];refine cS ?_;refine⟨_,rfl,.inl ⟨rfl,_,ay.of D3.f⟩,_,rfl,f,_,_,rfl,rfl,D3.f,by rw[aj,aL];exact gM (by omega),?_⟩;have hedge:(⟨here,ao,dr.b⟩:ak)∈ds:=by
    have:dr=⟨here,ao,dr.b⟩:=by cases dr;simp only at c1 c2;rw[c1,c2]
    rw[<-this];exact hmem
   refine nextI _ (X++(Y++[dr.b])) _ _ _ _ rfl ⟨?_,?_,?_,?_,?_⟩ ?_ ?_
   ·rw[aa];have:gs++(X++(Y++[dr.b]))=gs++(X++Y)++[dr.b]:=by simp
    rw[this,aw (l₂:=[dr.b])]
    rfl
   ·intro b o q;rw[ag (ae q hf)];exact D3.same _ _ q
   ·rw[<-dH,cP];refine⟨D3.nd,by simp,fun a ha b hb e=>?_⟩;have:b=dr.b:=by simpa using hb
    exact c3 (cD _ (by rw[<-this,<-e];exact ha))
   ·intro y hy;rw[<-dH]at hy;rcases bd.mp hy with hy|hy
    ·exact D3.new y hy
    ·have:y=dr.b:=by simpa using hy
     rw[this];exact fun z=>c3 (cj _ z)
   ·intro y hy;rw[<-dH]at hy;rcases bd.mp hy with hy|hy
    ·exact D3.sound y hy
    ·have:y=dr.b:=by simpa using hy
     rw[this];exact(hfrom D.sound (ba hget)).step hedge
   ·intro y hy;rw[<-dH];exact cj _ hy
   ·intro _ _;exact cD _ (by simp)
  ·rintro σ H2 ⟨X',Y,x4',x5',x6',rfl,rfl,D2,hdone⟩;rw[aj,Paired.length hds,aT]at hdone;refine⟨_,rfl,_,_,rfl,rfl,X++Y,_,_,_,rfl,D2,?_,fun i y hi hy c hc=>?_⟩
   ·rw[<-dH,aL];omega
   ·by_cases e:i=at_
    ·subst e;rw[<-dH,fe hlt',hget]at hy;have:=e_ hy;subst this;exact hdone _ hc rfl rfl
    ·have hi':i<at_:=by omega
     rw[<-dH,fe (by omega)]at hy;have:=hcl i y hi' hy c hc;rw[<-dH];exact cj _ this
 ·have hend:at_=(gs++X).length:=by
   have:¬(at_<(gs++X).length):=fun z=>hlt (zzr1 (by rw[aj];omega));omega
  refine⟨_,rfl,k f (gs++X) H1 D.f (fun w=>⟨fun hw=>?_,fun hw=>?_⟩) (by rw[aL];omega) hf D.same⟩
  ·rcases bd.mp hw with hw|hw
   ·exact⟨_,hw,.inl rfl⟩
   ·exact D.sound _ hw
  ·have closed:∀y∈gs++X,∀c,(⟨y,ao,c⟩:ak)∈ds->c∈gs++X:=fun y hy c hc=>by
    obtain⟨n,hn⟩:=ii hy;exact hcl n y (by rw[hend];exact(cG.mp hn).1) hn c hc
   obtain⟨g,hg,rfl|h⟩:=hw
   ·exact cj _ hg
   ·induction h with
    |one e=>exact closed _ (cj _ hg) _ e
    |step r e ih=>exact closed _ ih _ e

theorem AO{ds:List ak}{a b:Str}(h:¬fO ds [b] a){x y:Str}(r:Reach (ds++[⟨a,ao,b⟩]) x y):Reach ds x y∨((x=a∨Reach ds x a)/\(y=b∨Reach ds b y)):=by
 have edge:∀{u v:Str},(⟨u,ao,v⟩:ak)∈ds++[⟨a,ao,b⟩]->(⟨u,ao,v⟩:ak)∈ds∨(u=a/\v=b):=by
  intro u v e;rcases bd.mp e with e|e
  ·exact .inl e
  ·have:(⟨u,ao,v⟩:ak)=⟨a,ao,b⟩:=by simpa using e
   injection this with h1 h2 h3;exact .inr ⟨h1,h3⟩
 induction r with
 |one e =>
  rcases edge e with e|⟨rfl,rfl⟩
  ·exact .inl (.one e)
  ·exact .inr ⟨.inl rfl,.inl rfl⟩
 |step r e0 ih =>
  rcases edge e0 with e|⟨rfl,rfl⟩
  ·rcases ih with ih|⟨h1,h2⟩
   ·exact .inl (.step ih e)
   ·refine .inr ⟨h1,.inr ?_⟩;rcases h2 with h2|h2
    ·exact .one (by rw[<-h2];exact e)
    ·exact .step h2 e
  ·rcases ih with ih|⟨h1,h2⟩
   ·exact .inr ⟨.inr ih,.inl rfl⟩
   ·exact absurd ⟨_,by simp,h2⟩ h
theorem xQ{ds:List ak}{a b:Str}(hn:∀r,¬Reach ds r r)(h:¬fO ds [b] a):∀r,¬Reach (ds++[⟨a,ao,b⟩]) r r:=by
 intro r z;have no:¬(a=b∨Reach ds b a):=fun z=>h ⟨b,by simp,z⟩;rcases AO h z with z|⟨h1,h2⟩
 ·exact hn r z
 ·rcases h1 with rfl|h1
  ·exact no h2
  ·rcases h2 with rfl|h2
   ·exact no (.inr h1)
   ·exact no (.inr (h2.trans h1))
theorem aK.putStill{J0 J1 J2:Zb}{ds:List ak}{a b:Str}(m:aK J0 J1 J2 ds)(ha:a∈J2)(hb:b∈J2)(h:¬fO ds [b] a)(hf:ds.length<=699):aK J0 J1 J2 (lQ ds ⟨a,ao,b⟩):=by
 unfold lQ;split
 ·exact m
 ·next hn =>
  refine{ m with nodup:=?_,good:=?_,few:=?_,noround:=xQ m.noround h }
  ·rw[cP];refine⟨m.nodup,by simp,fun x hx y hy e=>?_⟩;have:y=⟨a,ao,b⟩:=by simpa using hy
   subst this;exact hn (e▸hx)
  ·intro d hd;rcases bd.mp hd with hd|hd
   ·exact m.good d hd
   ·have:d=⟨a,ao,b⟩:=by simpa using hd
    subst this;exact⟨ha,hb,.inr (.inr rfl)⟩
  ·rw[aL];show ds.length+1<=1000;omega
theorem tW(ds:List ak)(d:ak):(lQ ds d).length<=ds.length+1:=by
 unfold lQ;split
 ·omega
 ·rw[aL];exact aB _
def dk(ds:List ak)(sg:Zb)(J6:Zb):List Str:=J6.flatMap fun r=>bz ds (r,sg)
theorem vo{ds:List ak}{sg J6:Zb}{i:Nat}{r:Str}(h:J6[i]?=some r):dk ds sg (J6.take (i+1))=dk ds sg (J6.take i)++bz ds (r,sg):=by
 unfold dk;rw[take_snoc h,wv];simp
theorem rk(ds:List ak)(x:Str×List Str):(bz ds x).length<=ds.length:=by
 unfold bz;rw[aj];exact dP _ _
theorem pD(ds:List ak)(sg:Zb):∀J6:List Str,(dk ds sg J6).length<=J6.length * ds.length
 |[]=>db _
 |r::J6=>by
  show((bz ds (r,sg))++dk ds sg J6).length<=(J6.length+1) * ds.length;rw[aL,Nat.succ_mul];have h1:=rk ds (r,sg);have h2:=pD ds sg J6;omega
theorem iy{ds:List ak}{sg J6:Zb}{b:Str}:b∈dk ds sg J6↔∃r∈J6,(⟨r,sg,b⟩:ak)∈ds:=by
 unfold dk;rw[jr];constructor
 ·rintro⟨r,hr,h⟩;exact⟨r,hr,eO.mp h⟩
 ·rintro⟨r,hr,h⟩;exact⟨r,hr,eO.mpr h⟩
theorem gk{ds:List ak}{i:Nat}{d:ak}{p:ak->Bool}(h:ds[i]?=some d):(ds.take (i+1)).filter p=(ds.take i).filter p++(if p d=true then[d]else[]):=by
 rw[take_snoc h,sw];congr 1;by_cases c:p d=true
 ·rw[if_pos c];simp[c]
 ·rw[if_neg c];simp[c]
def xu(K:Za)(sp_with_still:Sp)(C_Machine:Addr)(sp_Machine_rooms:Sp):TS :=
 bj (aM sp_with_still (aR V0 (AB (rO K) (cX C_Machine "rooms" sp_Machine_rooms [] E0 V0 bq) (fq) (gF (tC (.int 1))))))
def yC:List Str:=["M"]
def uT(K:Za)(sp_law_take:Sp)(sp_law_names:Sp):TS :=
 ap (aP V1 (ib K 4 (a_ U2 (a_ U3 (a_ U4 (a_ U5 (gR)))))))
 (ap (aP (nU) U6)
 (ap (d9 (Hy K (ar V4 (az (aM sp_law_names (aR V0 (eo (eC K) (az V4))))))) (ib K 2 (a_ U7 (a_ U8 (gR)))) (kQ V6 V7 V8))
 (ap (aP (dC 1 [6] (b0 K V4) U0 (kT) (gG K V1 V0)) U9)
 (ap (aP (aH fo (tC (.int 1)) (aM sp_law_take (aR V0 (eo (eC K) (az V4))))) Jf)
 (ap (aP (aH xJ (aH xJ (AB (rO K) V9 (fq) (gF (tC (.int 1)))) (AB (rO K) V9 (gF He) (fq))) (AB (rO K) V9 (gF (tC (.int 1))) (gF He))) U9)
 (ap (aP (dC 3 [6] (b0 K V5) (ib K 3 (a_ U0 (a_ U1 (a_ U2 (gR))))) (kT) (bD (eB (gG K V3 V0) V1 (gG K V3 V2)))) U5)
 (bj (bD (ar V2 (eB V3 V9 V5))))))))))
def vz:List Str:=["pen","told","asks","says","rooms","doors","names","room","name","some","at"]
inductive cz(C:Addr)(vs:List V)(H:Hp)(Q:VK)(E:XK):Prop
 |mk (x:Addr) (J0 J1 J2:Zb) (ds:List ak):(vs=[.ref x])->(bv C H x J0 J1 J2 ds)->(∀(t':Addr) (F:Zb) (H':Hp),H' t'=some (.tup ((J2.filter fun r=>decide (r∈F)).map V.str))->(∀w,w∈F↔fO ds (J2.take 1) w)->ac H H'->Q (.ref t') H')->cz C vs H Q E
theorem vf{K:Za}{C:Addr}{vs:List V}{H:Hp}{Q:VK}{E:XK}(h:cz C vs H Q E):xu K (sp_with_still C) C (fT C) (bM Q) (start yC vs) H:=by
 obtain⟨x,J0,J1,J2,ds,rfl,M,k⟩:=h;obtain⟨dx,fs,o1,o2,o3,o4,lv,qu,sgA,sl,ts,lps,gps,sps,g1,a1,a2,a3,a4,_⟩:=M.at_;have c1:gm (J2.map V.str) none (some 1)=(J2.take 1).map V.str:=pJ J2 1;refine⟨_,rfl,_,rfl,x,dx,fs,rfl,g1,a4,x,J0,J1,J2,ds,rfl,M,fun rl hrl=>⟨_,rfl,rl,_,rfl,ay.of aa,fun l hl=>?_⟩⟩;rw[c1];have S:ac H (upd (upd H rl (.lst (J2.map V.str))) l (.lst ((J2.take 1).map V.str))):=(ac.new hrl).trans (ac.new hl);exact⟨x,l,J2.take 1,J0,J1,J2,ds,rfl,M.same S,aa,fun g hg=>fC hg,fun t' F H' h1 h2 S2=>k t' F H' h1 h2 (S.trans S2)⟩
theorem FA{K:Za}{a b:Addr}{xs ys:List V}{g:TG}{tb:TS}{D:mn}{σ:L2.St}{H:Hp}(hxy:xs.length=ys.length)(Pv:Nat->L2.St->Hp->Prop)(h0:Pv 0 σ H)(hl:∀i σ H,i<=xs.length->Pv i σ H->ay K H a xs/\ay K H b ys)
  (hs:∀i x y σ H p,xs[i]?=some x->ys[i]?=some y->Pv i σ H->H p=none->g (.ref p) σ (upd H p (.tup [x,y])) fun σ2 H2=>tb { D with nx:=Pv (i+1),ct:=Pv (i+1),bk:=D.nx } σ2 H2) (hd:∀σ H,Pv xs.length σ H->D.nx σ H) :
  ∃W:Nat->Nat->L2.St->Hp->Prop,(∃m,W 0 m σ H)/\∀i m σ H,W i m σ H ->
   ((IQ K a b).stop i H/\D.nx σ H)∨((IQ K a b).go i H/\∃N:L2.St->Hp->Prop,(∀σ' H',N σ' H'->∃m',m'<m/\W (i+1) m' σ' H')/\∀x H',(IQ K a b).yld i H x H'->g x σ H' fun σ2 H2=>tb { D with nx:=N,ct:=N,bk:=D.nx } σ2 H2):=by
 refine⟨fun i m σ H=>m=xs.length-i/\i<=xs.length/\Pv i σ H,⟨xs.length,by simp,db _,h0⟩,?_⟩;rintro i m σ H ⟨rfl,hi,p⟩;obtain⟨q1,q2⟩:=hl i σ H hi p;by_cases hlt:i<xs.length
 ·have hlt2:i<ys.length:=by omega
  refine .inr ⟨⟨xs,ys,xs[i],ys[i],q1,q2,by simp[hlt],by simp[hlt2]⟩,Pv (i+1),fun σ' H' p'=>⟨xs.length-(i+1),by omega,rfl,hlt,p'⟩,fun x H' y=>?_⟩;obtain⟨t,u,v,rfl,hn,hu,hv,rfl⟩:=y;exact hs i u v σ H t (hu xs q1) (hv ys q2) p hn
 ·have e:i=xs.length:=by omega
  subst e;exact .inl ⟨⟨xs,ys,q1,q2,.inl (aB _)⟩,hd σ H p⟩
def Ef(ps:List (Str×Str)):List (eX×V):=ps.map fun x=>(.inr x.1,.str x.2)
def FX:List (Str×Str)->Str->Str
 |[],r=>r
 | (a,b)::ps,r=>if a=r then b else FX ps r
theorem Cv{r:Str}:∀{ps:List (Str×Str)},r∈ps.map (·.1)->br (Ef ps) (.inr r:eX)=some (.str (FX ps r))
 |[],h=>by cases h
 | (a,b)::ps,h=>by
  unfold Ef br FX;rw[bN,lA];by_cases c:a=r
  ·rw[if_pos c,zzr1 (by rw[c])]
   rfl
  ·rw[if_neg c,zzr0 (fun z=>c (by injection z))];have:r∈ps.map (·.1):=by
    rcases cO.mp h with z|z
    ·exact absurd z.symm c
    ·exact z
   exact Cv this
theorem zK{r:Str}:∀{ps:List (Str×Str)},r∉ps.map (·.1)->br (Ef ps) (.inr r:eX)=none
 |[],_=>rfl
 | (a,b)::ps,h=>by
  unfold Ef br;rw[bN,lA,zzr0 (fun z=>h (by injection z with z;rw[bN];exact cO.mpr (.inl z.symm)))];exact zK fun z=>h (by rw[bN];exact eI _ z)
theorem Fc{ps:List (Str×Str)}{r w:Str}(h:r∉ps.map (·.1)):cL (Ef ps) (.inr r) (.str w)=Ef (ps++[(r,w)]):=by
 rw[df _ (zK h)];unfold Ef;rw[aw]
 rfl
theorem xh:∀{rs ws:Zb},ws.length=rs.length->(rs.zip ws).map (·.1)=rs
 |[],_,_=>by simp
 |_::_,[],h=>by cases h
 |r::rs,w::ws,h=>by
  rw[List.zip_cons_cons,bN,xh (by simpa using h)]
theorem Cc:∀{rs ws:Zb},rs.Nodup->ws.length=rs.length->rs.map (FX (rs.zip ws))=ws
 |[],[],_,_=>rfl
 |[],_::_,_,h=>by cases h
 |_::_,[],_,h=>by cases h
 |r::rs,w::ws,nd,h=>by
  rw[List.zip_cons_cons,bN];have nd':=jx.mp nd;have e1:FX ((r,w)::rs.zip ws) r=w:=by unfold FX;rw[if_pos rfl]
  have e2:rs.map (FX ((r,w)::rs.zip ws))=rs.map (FX (rs.zip ws)):=by
   refine wK fun x hx=>?_;show(if r=x then w else FX (rs.zip ws) x)=_
   rw[if_neg (fun z=>nd'.1 (by rw[z];exact hx))]
  rw[e1,e2,Cc nd'.2 (by simpa using h)]
def vb(f:Str->Str)(d:ak):ak:=⟨f d.a,d.sg,f d.b⟩
theorem Ie{J2 ws:Zb}{f:Str->Str}(hf:J2.map f=ws)(nd:ws.Nodup){a b:Str}(ha:a∈J2)(hb:b∈J2)(e:f a=f b):a=b:=by
 obtain⟨i,hi⟩:=ii ha;obtain⟨j,hj⟩:=ii hb;have h1:ws[i]?=some (f a):=by rw[<-hf,bZ,hi];rfl
 have h2:ws[j]?=some (f a):=by rw[<-hf,bZ,hj,e];rfl
 have:=se nd h1 h2;subst this;rw[hi]at hj;exact e_ hj
theorem Dh{J2:Zb}{f:Str->Str}{ds:List ak}(inj:∀a∈J2,∀b∈J2,f a=f b->a=b)(hin:∀d∈ds,d.a∈J2/\d.b∈J2){x y:Str}(h:Reach (ds.map (vb f)) x y):
  ∃a∈J2,∃b∈J2,x=f a/\y=f b/\Reach ds a b:=by
 have edge:∀{u v:Str},(⟨u,ao,v⟩:ak)∈ds.map (vb f)->∃a b,(⟨a,ao,b⟩:ak)∈ds/\u=f a/\v=f b:=by
  intro u v e;obtain⟨⟨a,s,b⟩,hd,e⟩:=ax.mp e;unfold vb at e;injection e with e1 e2 e3;simp only at e2;subst e2;exact⟨a,b,hd,e1.symm,e3.symm⟩
 induction h with
 |one e =>
  obtain⟨a,b,hd,rfl,rfl⟩:=edge e;exact⟨a,(hin _ hd).1,b,(hin _ hd).2,rfl,rfl,.one hd⟩
 |step r e ih =>
  obtain⟨a,ha,b,hb,e1,e2,hr⟩:=ih;obtain⟨a',b',hd,e3,rfl⟩:=edge e;have:b=a':=inj b hb a' (hin _ hd).1 (e2.symm.trans e3);subst this;exact⟨a,ha,b',(hin _ hd).2,e1,rfl,.step hr hd⟩
theorem aK.renamed{J0 J1 J2 ws rooms':Zb}{ds:List ak}{f:Str->Str}(m:aK J0 J1 J2 ds)(okw:kD ws)(hf:J2.map f=ws)(hp:rooms'.Perm ws):aK J0 J1 rooms' (ds.map (vb f)):=by
 have hlen:rooms'.length=J2.length:=by rw[hp.length_eq,<-hf,aj]
 have inj:∀a∈J2,∀b∈J2,f a=f b->a=b:=fun a ha b hb e=>Ie hf okw.1 ha hb e;have hin:∀d∈ds,d.a∈J2/\d.b∈J2:=fun d hd=>⟨(m.good d hd).a,(m.good d hd).b⟩;have hmem:∀a∈J2,f a∈rooms':=fun a ha=>hp.mem_iff.mpr (by rw[<-hf];exact j9 ha);refine{ m with okR:=⟨hp.nodup_iff.mpr okw.1,fun w hw=>okw.2 w (hp.mem_iff.mp hw)⟩,rooms0:=?_,rooms26:=by rw[hlen];exact m.rooms26,nodup:=?_,good:=?_,few:=by rw[aj];exact m.few,noround:=?_ }
 ·intro z;rw[z]at hlen;exact m.rooms0 (List.eq_nil_of_length_eq_zero hlen.symm)
 ·refine List.Pairwise.map _ ?_ (List.Pairwise.and_mem.mp m.nodup);rintro⟨a,s,b⟩ ⟨a',s',b'⟩ ⟨h1,h2,hne⟩ e;unfold vb at e;injection e with e1 e2 e3;simp only at e1 e2 e3;refine hne ?_;rw[inj a (hin _ h1).1 a' (hin _ h2).1 e1,e2,inj b (hin _ h1).2 b' (hin _ h2).2 e3]
 ·intro d hd;obtain⟨d0,hd0,rfl⟩:=ax.mp hd;exact⟨hmem _ (hin _ hd0).1,hmem _ (hin _ hd0).2,(m.good d0 hd0).sg⟩
 ·intro r z;obtain⟨a,ha,b,hb,e1,e2,hr⟩:=Dh inj hin z;have:=inj a ha b hb (e1.symm.trans e2);subst this;exact m.noround a hr
theorem DV(ws:Zb){j k:Nat}(hj:j<=k)(hk:k<=ws.length):gm (ws.map V.str) (some (j:Int)) (some (k:Int))=((ws.drop j).take (k-j)).map V.str:=by
 unfold gm;rw[HT.sIx_nat,HT.sIx_nat,aj,ww hk,ww (bG hj hk),nB,wx]
theorem yR(ws:Zb)(n:Nat):(ws.take 1++ws.drop (1+n)++(ws.drop 1).take (1+n-1)).Perm ws:=by
 have e:ws.drop (1+n)=(ws.drop 1).drop n:=by rw[List.drop_drop]
 have e2:1+n-1=n:=by omega
 rw[e,e2,dH];have h:ws=ws.take 1++((ws.drop 1).take n++(ws.drop 1).drop n):=by rw[sB,sB]
 exact(List.Perm.append_left _ List.perm_append_comm).trans (by rw[<-h])
theorem pG(o:Str)(L:Zb):decide (gH o∈L.map gH)=decide (o∈L):=by
 by_cases c:o∈L
 ·rw[zzr1 (mE.mpr c),zzr1 c]
 ·rw[zzr0 (fun z=>c (mE.mp z)),zzr0 c]
theorem bc.same{K:Za}{H H':Hp}{a:Addr}{xs:List V}(S:ac H H')(h:bc K H a xs):bc K H' a xs:=by
 rcases h with(h|⟨o,h⟩)|h
 ·exact .inl (.inl (S _ _ h))
 ·exact .inl (.inr ⟨o,S _ _ h⟩)
 ·exact .inr h
theorem ay.same{K:Za}{H H':Hp}{a:Addr}{xs:List V}(S:ac H H')(h:ay K H a xs):ay K H' a xs:=by
 rcases h with(h|⟨o,h⟩)|h
 ·exact .inl (.inl (S _ _ h))
 ·exact .inl (.inr ⟨o,S _ _ h⟩)
 ·exact .inr h
mutual
theorem oz.same{K:Za}{H H':Hp}(S:ac H H'):∀{d:DT}{v:V},oz K H d v->oz K H' d v
 |.k a,v,h=>by unfold oz at h ⊢;exact h
 |.t l,v,h=>by
  unfold oz at h ⊢;obtain⟨b,xs,e,q,r⟩:=h;exact⟨b,xs,e,bc.same S q,DIns.same S r⟩
 |.s l,v,h=>by
  unfold oz at h ⊢;obtain⟨b,xs,e,q,r⟩:=h;exact⟨b,xs,e,ay.same S q,DIns.same S r⟩
theorem DIns.same{K:Za}{H H':Hp}(S:ac H H'):∀{ds:List DT}{vs:List V},DIns K H ds vs->DIns K H' ds vs
 |[],vs,h=>by unfold DIns at h ⊢;exact h
 |d::ds,vs,h=>by
  unfold DIns at h ⊢;obtain⟨v,us,e,q,r⟩:=h;exact⟨v,us,e,oz.same S q,DIns.same S r⟩
end
def Et(K:Za)(sp_law_still_on:Sp):TS :=
 ap (aP (aM sp_law_still_on (aR (aH (mV K) V0 (tC (.int 3))) V1)) U2)
 (bj (eo (vO K) (ar (dC 1 [2] (b0 K (aH (mV K) V0 (tC (.int 2)))) U0 (aO (aH (qy K false) V0 V1)) V0) bq)))
def FS:List Str:=["told","some","there"]
def tp(K:Za):TS :=
 bj (aH (lP K) (dC 1 [1] (b0 K (aH (mV K) V0 (tC (.int 3)))) U0 (kW (aO (aH (lP K) (aH (mV K) V0 (tC (.int 0))) V1)) (aO (aH GI (aH (mV K) (aH (mV K) V0 (tC (.int 1))) (tC (.int 0))) (tC (.str "ask"))))) V0) (eG (bq)))
def uF:List Str:=["told","room"]
def xp(K:Za)(sp_law_on:Sp)(sp_law_is_quiet:Sp):TS :=
 ap (b_ (aO (aH (lP K) V2 (bD (az (tC (.str "hush")))))) (bj (eo (vO K) (az (dC 1 [0] (Fs K V1) U0 (tB (aM sp_law_is_quiet (aR V1 V0))) V0)))) (bB))
 (bj (aM sp_law_on (ar V0 (ar (dC 1 [1,2] (b0 K (aH (mV K) V0 (tC (.int 3)))) U0 (kW (aO (aH (qy K false) (aH (mV K) V0 (tC (.int 0))) V1)) (aO (aH (lP K) (aH (mV K) V0 (tC (.int 1))) V2))) (aH (mV K) V0 (tC (.int 2)))) bq))))
def yz:List Str:=["told","face","sign"]
open Classical in
def closF(J2:Zb)(ds:List ak)(gs:Zb):List Str:=J2.filter fun r=>decide (fO ds gs r)
open Classical in
theorem pL{J2 F gs:Zb}{ds:List ak}(hF:∀w,w∈F↔fO ds gs w):J2.filter (fun r=>decide (r∈F))=closF J2 ds gs:=by
 unfold closF;refine wu fun r _=>?_;by_cases c:r∈F
 ·rw[zzr1 c,zzr1 ((hF r).mp c)]
 ·rw[zzr0 c,zzr0 fun z=>c ((hF r).mpr z)]
open Classical in
theorem z9{J2 gs gs':Zb}{ds:List ak}(h:∀g,g∈gs↔g∈gs'):closF J2 ds gs=closF J2 ds gs':=by
 have:∀r,fO ds gs r↔fO ds gs' r:=fun r=>⟨fun⟨g,hg,e⟩=>⟨g,(h g).mp hg,e⟩,fun⟨g,hg,e⟩=>⟨g,(h g).mpr hg,e⟩⟩;unfold closF;refine wu fun r _=>?_;by_cases c:fO ds gs r
 ·rw[zzr1 c,zzr1 ((this r).mp c)]
 ·rw[zzr0 c,zzr0 fun z=>c ((this r).mpr z)]
def behF(J2:Zb)(ds:List ak)(J6 sg:Zb):List Str:=if sg=aV then J6.filter (fun r=>decide (r∉fh ds))else closF J2 ds (dk ds sg J6)
theorem EU{J2:Zb}{ds:List ak}{fc:Zb}(hfc:∀r∈fc,r∈J2):(fc.filter fun r=>decide (r∈J2.filter (c6 ds)))=fc.filter fun r=>decide (r∉fh ds):=by
 refine wu fun r hr=>?_;rw[<-kr];cases q:c6 ds r with
 |true=>exact zzr1 (bF.mpr ⟨hfc r hr,q⟩)
 |false=>exact zzr0 (fun z=>by rw[(bF.mp z).2]at q;cases q)
inductive zb (vs:List V)(H:Hp)(Q:VK)(E:XK):Prop
 |mk (t l l1 l2 l3 l4:Addr) (ts:Ze) (J0 J1 J2 gs:Zb) (ds:List ak):(vs=[.ref t,.ref l])->(iC H t l1 l2 l3 l4 ts J0 J1 J2 ds)->(aK J0 J1 J2 ds)->(H l=some (.lst (gs.map V.str)))->(gs.length<=1000)->(∀(t':Addr) (H':Hp),H' t'=some (.tup ((closF J2 ds gs).map V.str))->ac H H'->Q (.ref t') H')->zb  vs H Q E
theorem Iz{K:Za}{vs:List V}{H:Hp}{Q:VK}{E:XK}(h:zb vs H Q E):Et K (eK K) (bM Q) (start FS vs) H:=by
 obtain⟨t,l,l1,l2,l3,l4,ts,J0,J1,J2,gs,ds,rfl,T,m,hl,hz,k⟩:=h;have z3:=m.rooms26;refine⟨_,rfl,.inr (.inl ⟨t,_,3,_,rfl,rfl,bc.of T.t,rfl,_,rfl,l4,l,ts,ds,gs,J2,rfl,T.a4,T.ds,hl,fun d hd=>(m.good d hd).b,by omega,hz,fun th F H1 hth hF hFl fr S1=>?_⟩)⟩;have T1:=T.same S1;refine⟨_,rfl,.inr (.inl ⟨t,_,2,_,rfl,rfl,bc.of T1.t,rfl,l3,rfl,⟨_,ay.of T1.a3⟩,fun f hf=>?_⟩)⟩;refine cg (xs:=J2.map V.str) (fun i vs H'=>vs=((J2.take i).filter fun r=>decide (r∈F)).map V.str/\ac H1 H'/\H' f=some (.lst vs)) ⟨rfl,ac.new hf,aa⟩ (fun i vs H' _ ⟨_,S,h'⟩=>⟨h',ay.of (S _ _ T1.a3)⟩) ?_ ?_
 ·rintro vs H' ⟨rfl,S,f'⟩;rw[aj,aT,pL hF]at f';exact⟨f,_,rfl,.inl ⟨ay.of f',fun t' ht'=>k t' _ aa ((S1.trans S).trans (ac.new ht'))⟩⟩
 ·rintro i vs H' x' hx' hi ⟨rfl,S,f'⟩;obtain⟨r,hr,rfl⟩:=bu hx';refine gN ?_;refine⟨_,rfl,_,rfl,gH r,F.map gH,th,_,j6 r,rfl,.inl (ay.of (S _ _ hth)),jC _,(by show 0<=8;decide),by rw[em];decide,_,rfl,?_⟩;rw[if_neg fP,pG];have hlen:(((J2.take i).filter fun r=>decide (r∈F)).map V.str).length<ai:=by
   rw[aj];refine aq (bG (dP _ _) ?_);rw[aE];omega
  refine fN (fun hq=>?_) (fun hq=>?_)
  ·refine⟨_,rfl,f',hlen,mW hi ⟨?_,?_,aa⟩⟩
   ·rw[bP hr,if_pos hq,aw];rfl
   ·intro b o q;rw[ag (ae q hf)];exact S _ _ q
  ·refine mW hi ⟨?_,S,f'⟩;rw[bP hr,if_neg hq,dI]
theorem n5(ds:List ak):DT.depths (ds.map ur)<=2:=by
 induction ds with
 |nil=>exact db _
 |cons x xs ih=>rw[bN];show max (DT.depth (ur x)) (DT.depths _)<=2;rw[yf];omega
theorem mC{J0 J1 J2:Zb}{dr:ak}(g:Ai J0 J1 J2 dr):∃s0 rest,dr.sg=s0::rest/\(!decide (V.str s0=V.str ("ask":Str)))=!gg dr:=by
 obtain⟨s0,rest,hsg⟩:∃s0 rest,dr.sg=s0::rest:=by
  rcases g.sg with⟨w,_,e⟩|⟨w,_,e⟩|e<;>exact⟨_,_,e⟩
 refine⟨s0,rest,hsg,?_⟩;unfold gg;rw[hsg];congr 1;show _=decide (s0=("ask":Str));by_cases c:s0=("ask":Str)
 ·rw[zzr1 c,zzr1 (by rw[c])]
 ·rw[zzr0 c,zzr0 (fun z=>c (by injection z))]
inductive jQ (vs:List V)(H:Hp)(Q:VK)(E:XK):Prop
 |mk (t l1 l2 l3 l4:Addr) (ts:Ze) (J0 J1 J2:Zb) (ds:List ak) (r:Str):(vs=[.ref t,.str r])->(iC H t l1 l2 l3 l4 ts J0 J1 J2 ds)->(aK J0 J1 J2 ds)->(∀H',ac H H'->Q (.bl (decide (r∉fh ds))) H')->jQ  vs H Q E
theorem Dm{K:Za}{vs:List V}{H:Hp}{Q:VK}{E:XK}(h:jQ vs H Q E):tp K (bM Q) (start uF vs) H:=by
 obtain⟨t,l1,l2,l3,l4,ts,J0,J1,J2,ds,r,rfl,T,m,k⟩:=h;have z4:=m.few;refine⟨_,rfl,.inr (.inl ⟨t,_,3,_,rfl,rfl,bc.of T.t,rfl,l4,rfl,⟨_,ay.of T.a4⟩,fun f hf=>?_⟩)⟩;refine cg (xs:=ts.map V.ref) (fun i vs H'=>∃us:List Addr,vs=us.map V.ref/\ac H H'/\H' f=some (.lst vs)/\cC H' us ((ds.take i).filter fun d=>decide (d.a=r) && !gg d)) ⟨[],rfl,ac.new hf,aa,.nil⟩ (fun i vs H' _ ⟨_,_,S,h',_⟩=>⟨h',ay.of (S _ _ T.a4)⟩) ?_ ?_;rotate_left
 ·rintro i vs H' x' hx' hi ⟨us,rfl,S,f',hP⟩;obtain⟨u,hu,rfl⟩:=cu hx';obtain⟨dr,hdr,hatd⟩:=Paired.getL T.ds hu;have hat':=hatd.kt (ac.kt S);obtain⟨sb,ht2,hs2⟩:=hatd.kt (ac.kt S);obtain⟨s0,rest,hsg,ea⟩:=mC (m.good dr (ba hdr));unfold SignAt at hs2;rw[hsg]at hs2;have keep:(decide (dr.a=r) && !gg dr)=false->∃m',m'<(ts.map V.ref).length-i/\Wc (ts.map V.ref).length (fun i vs H'=>∃us:List Addr,vs=us.map V.ref/\ac H H'/\H' f=some (.lst vs)/\cC H' us ((ds.take i).filter fun d=>decide (d.a=r) && !gg d)) (i+1) m' (us.map V.ref) H':=by
   intro z;refine mW hi ⟨us,rfl,S,f',?_⟩;rw[gk hdr,if_neg (by rw[z];decide),dI];exact hP
  refine gN ?_;refine⟨_,rfl,.inr (.inl ⟨u,_,0,_,rfl,rfl,bc.of ht2,rfl,_,rfl,gH dr.a,gH r,j6 _,j6 _,(by show 0<=8;decide),(by show 0<=8;decide),_,rfl,?_⟩)⟩;rw[CL];by_cases c1:dr.a=r;rotate_left
  ·rw[zzr0 c1];exact bU (bU (keep (by rw[zzr0 c1];rfl)))
  rw[zzr1 c1];refine cS ?_;refine⟨_,rfl,.inr (.inl ⟨u,_,1,_,rfl,rfl,bc.of ht2,rfl,.inr (.inl ⟨sb,_,0,.str s0,rfl,rfl,bc.of hs2,aS (j:=0) rfl,rfl,_,rfl,?_⟩)⟩)⟩;rw[ea];cases q:gg dr with
  |true=>exact bU (keep (by rw[q,zzr1 c1];rfl))
  |false =>
   refine cS ?_;refine⟨_,rfl,f',?_,mW hi ⟨us++[u],by rw[aw];rfl,?_,aa,?_⟩⟩
   ·rw[aj,Paired.length hP];refine aq (bG (dP _ _) ?_);rw[aE];omega
   ·intro b o q;rw[ag (ae q hf)];exact S _ _ q
   ·rw[gk hdr,if_pos (by rw[q,zzr1 c1];rfl)];have hk:hU H' (upd H' f (.lst (us.map V.ref++[.ref u]))):=cR f';exact dv (hP.kt hk) (hat'.kt hk)
 rintro vs H1 ⟨us,rfl,S1,f1,hP⟩;rw[aj,Paired.length T.ds,aT]at hP;refine⟨(by show 0<=ai;decide),fun e he=>⟨.s ((ds.filter fun d=>decide (d.a=r) && !gg d).map ur),.s [],?_,CQ (ay.of aa),?_,by decide,?_⟩⟩
 ·unfold oz;exact⟨f,_,rfl,ay.of (kp f1 he),cC.dIns (hP.kt (ac.kt (ac.new he)))⟩
 ·show DT.depths _+1<=8;have:=n5 (ds.filter fun d=>decide (d.a=r) && !gg d);omega
 have ed:decide (DT.s ((ds.filter fun d=>decide (d.a=r) && !gg d).map ur)=DT.s [])=decide (r∉fh ds):=by
  by_cases c:r∈fh ds
  ·have e0:decide (r∉fh ds)=false:=zzr0 (fun z=>z c);rw[e0];refine zzr0 fun z=>?_;injection z with z;unfold fh at c;obtain⟨d,hd,e1⟩:=ax.mp c;obtain⟨h1,h2⟩:=bF.mp hd;have:ur d∈(ds.filter fun d=>decide (d.a=r) && !gg d).map ur:=j9 (bF.mpr ⟨h1,by rw[zzr1 e1,h2];rfl⟩);rw[z]at this;cases this
  ·have e0:decide (r∉fh ds)=true:=zzr1 c;rw[e0];refine zzr1 ?_;have:(ds.filter fun d=>decide (d.a=r) && !gg d)=[]:=by
    rw[List.filter_eq_nil_iff];intro d hd z;rw[sO]at z;exact c (ax.mpr ⟨d,bF.mpr ⟨hd,z.2⟩,of_decide_eq_true z.1⟩)
   rw[this]
   rfl
 rw[ed];exact k _ (S1.trans (ac.new he))
abbrev yr(H:Hp)(us:Ze)(L:List (List Str)):Prop:=Paired (SignAt H) us L
theorem yr.kt{H H':Hp}{us:Ze}{L:List (List Str)}(k:hU H H')(h:yr H us L):yr H' us L:=Paired.mapP h fun _ _ r=>k _ _ r
def bb(J0 J1:Zb):List (List Str):=J0.map cY++J1.map lK++[aV]
theorem uu{K:Za}{σ:L2.St}{H:Hp}{a l:Addr}{ws:Zb}{kd:Str}{Q:Hp->Prop}(ha:H a=some (.lst (ws.map V.str)))(hz:ws.length<=1000)(hl:H l=none)
  (k:∀(us:Ze) (H':Hp),H' l=some (.lst (us.map V.ref))->yr H' us (ws.map fun w=>[kd,w])->ac H H'->Q H') :
  gu 1 [] σ (FZ K a) U0 kT (bD (aR (tC (.str kd)) V0)) H l Q:=by
 refine cg (xs:=ws.map V.str) (fun i vs H'=>∃us:List Addr,vs=us.map V.ref/\ac H H'/\H' l=some (.lst vs)/\yr H' us ((ws.take i).map fun w=>[kd,w])) ⟨[],rfl,ac.new hl,aa,.nil⟩ (fun i vs H' _ ⟨_,_,S,h',_⟩=>⟨h',ay.of (S _ _ ha)⟩) ?_ ?_
 ·rintro vs H' ⟨us,rfl,S,h',hP⟩;rw[aj,aT]at hP;exact k us H' h' hP S
 ·rintro i vs H' x' hx' hi ⟨us,rfl,S,f',hP⟩;obtain⟨w,hw,rfl⟩:=bu hx';refine gN (sW ?_);refine⟨_,rfl,(by show 2<=ai;decide),fun u hu=>⟨kp f' hu,?_,mW hi ⟨us++[u],by rw[aw];rfl,?_,aa,?_⟩⟩⟩
  ·rw[aj,Paired.length hP,aj,aE];exact aq (by omega)
  ·intro b o q;rw[ag (ae q hl)];exact kp (S _ _ q) hu
  ·rw[take_snoc hw,aw];have hk:hU H' (upd (upd H' u (.tup [.str kd,.str w])) l (.lst (us.map V.ref++[.ref u]))):=(ac.kt (ac.new hu)).trans (cR (kp f' hu));exact dv (yr.kt hk hP) ((cR (kp f' hu)) _ _ aa)
theorem Paired.takeP{α β:Type}{R:α->β->Prop}:∀(n:Nat) {xs:List α}{ys:List β},Paired R xs ys->Paired R (xs.take n) (ys.take n)
 |0,_,_,_=>by rw[sy,sy];exact .nil
 |_+1,_,_,.nil=>.nil
 |n+1,_,_,.cons r t=>.cons r (Paired.takeP n t)
def tz(K:Za):TS :=
 bj (eo (dw K) (az (fS K V0 "own_asks")))
def uJ:List Str:=["self"]
def tw(K:Za):TS :=
 bj (eo (dw K) (az (fS K V0 "own_says")))
def uI:List Str:=["self"]
def lD(K:Za):TS :=
 bj (eo (dw K) (az (tK K (fS K V0 "leaving") V1 (bD (bq)))))
def mi:List Str:=["self","room"]
theorem nW{C x:Addr}{H:Hp}{J0 J1 J2:Zb}{ds:List ak}(h:bv C H x J0 J1 J2 ds):∃(dx:Addr) (fs:List (Str×V)) (o1 o2 lv:Addr) (lps:List (Str×Addr)),H x=some (.ins C dx fs)/\lk "asks" fs=none/\lk "says" fs=none/\lk "doors_from" fs=none/\lk "is_quiet" fs=none/\lk "own_asks" fs=some (.ref o1)/\lk "own_says" fs=some (.ref o2)/\lk "leaving" fs=some (.ref lv) /\
  H o1=some (.lst (J0.map V.str))/\H o2=some (.lst (J1.map V.str))/\lps.map (·.1)=J2/\H lv=some (.dK (eg Sum.inr lps))/\(∀x∈lps,∃us,H x.2=some (.lst (us.map V.ref))/\cC H us (aZ ds x.1)):=by
 obtain⟨dx,fs,o1,o2,o3,o4,lv,qu,sg,sl,ts,lps,gps,sps,g1,a1,a2,a3,a4,b1,b2,b3,b4,b5,b6,b7,b8,L,c1,c2,c3,c4,G,d1,d2,d3⟩:=h.at_;obtain⟨dx',fs',g1',e1,e2,e3,e4⟩:=h.more;rw[g1]at g1';cases g1';exact⟨dx,fs,o1,o2,lv,lps,g1,e1,e2,e4,a1,b1,b2,b5,L.a1,L.a2,c1,c2,c3⟩
inductive mB(C:Addr)(vs:List V)(H:Hp)(Q:VK)(E:XK):Prop
 |mk (x:Addr) (J0 J1 J2:Zb) (ds:List ak):(vs=[.ref x])->(bv C H x J0 J1 J2 ds)->(∀l,H l=none->Q (.ref l) (upd H l (.lst (J0.map V.str))))->mB C vs H Q E
theorem GC{K:Za}{C:Addr}(M:MC K C){vs:List V}{H:Hp}{Q:VK}{E:XK}(h:mB C vs H Q E):tz K (bM Q) (start uJ vs) H:=by
 obtain⟨x,J0,J1,J2,ds,rfl,h,k⟩:=h;obtain⟨dx,fs,o1,o2,lv,lps,g1,a1,a2,a3,a4,b1,b2,b3,c1,c2,_⟩:=nW h;exact⟨_,rfl,x,C,dx,fs,.ref o1,rfl,g1,M.cls,M.a1,b1,.inl ⟨o1,_,rfl,.inl (ay.of c1),k⟩⟩
inductive oX(C:Addr)(vs:List V)(H:Hp)(Q:VK)(E:XK):Prop
 |mk (x:Addr) (J0 J1 J2:Zb) (ds:List ak):(vs=[.ref x])->(bv C H x J0 J1 J2 ds)->(∀l,H l=none->Q (.ref l) (upd H l (.lst (J1.map V.str))))->oX C vs H Q E
theorem Gw{K:Za}{C:Addr}(M:MC K C){vs:List V}{H:Hp}{Q:VK}{E:XK}(h:oX C vs H Q E):tw K (bM Q) (start uI vs) H:=by
 obtain⟨x,J0,J1,J2,ds,rfl,h,k⟩:=h;obtain⟨dx,fs,o1,o2,lv,lps,g1,a1,a2,a3,a4,b1,b2,b3,c1,c2,_⟩:=nW h;exact⟨_,rfl,x,C,dx,fs,.ref o2,rfl,g1,M.cls,M.a2,b2,.inl ⟨o2,_,rfl,.inl (ay.of c2),k⟩⟩
inductive hE(C:Addr)(vs:List V)(H:Hp)(Q:VK)(E:XK):Prop
 |mk (x:Addr) (r:Str) (J0 J1 J2:Zb) (ds:List ak):(vs=[.ref x,.str r])->(bv C H x J0 J1 J2 ds)->(r∈J2)->(∀(l:Addr) (us:Ze) (H':Hp),H' l=some (.lst (us.map V.ref))->cC H' us (aZ ds r)->H l=none->ac H H'->Q (.ref l) H')->hE C vs H Q E
theorem vi{K:Za}{C:Addr}(M:MC K C){vs:List V}{H:Hp}{Q:VK}{E:XK}(h:hE C vs H Q E):lD K (bM Q) (start mi vs) H:=by
 obtain⟨x,r,J0,J1,J2,ds,rfl,h,hr,k⟩:=h;obtain⟨dx,fs,o1,o2,lv,lps,g1,a1,a2,a3,a4,b1,b2,b3,c1,c2,c3,c4,c5⟩:=nW h;have nod:=h.ok.okR.1;obtain⟨⟨r',a⟩,hra,er⟩:=ax.mp (show r∈lps.map (·.1) by rw[c3];exact hr);obtain rfl:r'=r:=er;obtain⟨us,e1,e2⟩:=c5 _ hra;refine⟨_,rfl,x,C,dx,fs,.ref lv,rfl,g1,M.cls,M.a5,b3,lv,rfl,.inl ⟨_,.inl c4⟩,_,rfl,(by show 0<=ai;decide),fun et het=>⟨_,.inl ⟨_,.inr r',.inl (kp c4 het),rfl,rfl⟩,?_⟩⟩;rw[eE iz (by rw[c3];exact nod) hra];have S1:ac H (upd H et (.tup [])):=ac.new het;refine .inl ⟨a,_,rfl,.inl (ay.of (S1 _ _ e1)),fun l hl=>k l us _ aa ?_ (S1.free hl) (S1.trans (ac.new hl))⟩;exact e2.kt (ac.kt (S1.trans (ac.new hl)))

theorem G0{n j:Nat}(h:j<n):FY n (j:Int)=some j:=by
 unfold FY;rw[if_pos (Int.natCast_nonneg j),if_pos (by omega)]
 rfl
theorem Reach.mono{ds ds':List ak}(h:∀a b,(⟨a,ao,b⟩:ak)∈ds->(⟨a,ao,b⟩:ak)∈ds'){a b:Str}(r:Reach ds a b):Reach ds' a b:=by
 induction r with
 |one e=>exact .one (h _ _ e)
 |step _ e ih=>exact .step ih (h _ _ e)
theorem Fd{K:Za}{H:Hp}{l q:Addr}{ts:Ze}{ds:List ak}{Q:VK}(hl:H l=some (.lst (ts.map V.ref)))(hd:cC H ts ds)(hq:H q=some (.lst []))(h1:ds≠[]->Q (.bl true) H)(h2:ds=[]->Q (.bl false) H):rP K (.ref l) (.ref q) H Q:=by
 refine⟨.s (ds.map ur),.s [],(by unfold oz;exact⟨l,_,rfl,ay.of hl,hd.dIns⟩),(by unfold oz;exact⟨q,_,rfl,ay.of hq,by unfold DIns;rfl⟩),?_,(by decide),?_⟩
 ·show DT.depths _+1<=8;have:=n5 ds;omega
 ·by_cases c:ds=[]
  ·subst c;rw[zzr1 (show DT.s (([]:List ak).map ur)=DT.s []from rfl)];exact h2 rfl
  ·rw[zzr0 (fun z=>c (by injection z with z;exact List.map_eq_nil_iff.mp z))];exact h1 c
def Gi(K:Za)(C_Machine:Addr)(sp_Machine_led_from:Sp)(sp_Machine_goals:Sp):TS :=
 bj (eo (rAny K) (ar (dC 1 [0,2] (b0 K (aH xJ (eG (az V1)) (cX C_Machine "led_from" sp_Machine_led_from [] E0 V0 (az V1)))) U0 (kT) (aH Dt (eo (eC K) (ar (cX C_Machine "goals" sp_Machine_goals [] E0 V1 (aR V0 (bD (ar (tC (.str "ask")) (az V2))))) bq)) (tC (.int 0)))) bq))
def Hi:List Str:=["I","room","ask"]
def uS(K:Za)(sp_law_put:Sp)(sp_law_take:Sp)(sp_law_still_on:Sp):TS :=
 ap (aP V1 (ib K 4 (a_ U2 (a_ U3 (a_ U4 (a_ U5 (gR)))))))
 (ap (aP (eo (dw K) (az V5)) U5)
 (ap (d9 (b0 K V4) U6 (d9 (b0 K V2) U7 (ap (aP (aM sp_law_still_on (aR V5 (eG (az V6)))) U8)
 (b_ (aO (aH (lP K) (dC 1 [8,7] (b0 K V5) U0 (kW (aO (aH (qy K false) (aH (mV K) V0 (tC (.int 0))) V1)) (aO (aH (lP K) (aH (mV K) V0 (tC (.int 1))) (bD (aR (tC (.str "ask")) V2))))) V0) (eG (bq)))) (ap (aP (aH (cZ K) (eG (ar V6 (ar (aH (cZ K) V4 (aM sp_law_take (aR V0 (eo (eC K) (az V4))))) bq))) (aM sp_law_take (aR V0 (tC (.int 2))))) U9)
 (bQ (aM sp_law_put (ar V5 (ar (bD (eB V6 (bD (aR (tC (.str "ask")) V7)) V9)) bq))))) (bB)))))
 (bj (bD (ar V2 (eB V3 V4 V5))))))
def vy:List Str:=["pen","told","asks","says","rooms","doors","room","ask","there","other"]
def gK(ds:List ak)(r a:Str):Prop:=∃h,(h=r∨Reach ds r h)/\∃b,(⟨h,cY a,b⟩:ak)∈ds
open Classical in
def takesB(ds:List ak)(r a:Str):Bool:=decide (gK ds r a)
theorem lC{ds:List ak}{r a:Str}:takesB ds r a=true↔gK ds r a:=by unfold takesB;exact @decide_eq_true_iff _ (wt _)
theorem xj{ds:List ak}{r a:Str}:takesB ds r a=false↔¬gK ds r a:=by unfold takesB;exact @decide_eq_false_iff_not _ (wt _)
theorem rj{ds:List ak}{h:Str}{sg:Zb}:0<(bz ds (h,sg)).length↔∃b,(⟨h,sg,b⟩:ak)∈ds:=by
 rw[List.length_pos_iff_exists_mem];constructor
 ·rintro⟨b,hb⟩;exact⟨b,eO.mp hb⟩
 ·rintro⟨b,hb⟩;exact⟨b,eO.mpr hb⟩
theorem C9{ds:List ak}{r a:Str}{L:Zb}(hL:∀w,w∈L↔Reach ds r w):((r::L).map fun h=>decide ((0:Int)<(bz ds (h,cY a)).length)).any id=takesB ds r a:=by
 rw[so,lC,List.any_eq_true];constructor
 ·rintro⟨b,hb,e⟩;obtain⟨h,hh,rfl⟩:=ax.mp hb;have:=of_decide_eq_true e;refine⟨h,?_,rj.mp (by omega)⟩;rcases cO.mp hh with e|e
  ·exact .inl e
  ·exact .inr ((hL h).mp e)
 ·rintro⟨h,hh,hb⟩;refine⟨true,ax.mpr ⟨h,?_,zzr1 (by have:=rj.mpr hb;omega)⟩,rfl⟩;rcases hh with e|e
  ·rw[e];exact dO
  ·exact eI _ ((hL h).mpr e)
inductive jO(C:Addr)(vs:List V)(H:Hp)(Q:VK)(E:XK):Prop
 |mk (x:Addr) (r a:Str) (J0 J1 J2:Zb) (ds:List ak):(vs=[.ref x,.str r,.str a])->(bv C H x J0 J1 J2 ds)->(r∈J2)->(∀H',ac H H'->Q (.bl (takesB ds r a)) H')->jO C vs H Q E
theorem EB{K:Za}{C:Addr}{vs:List V}{H:Hp}{Q:VK}{E:XK}(h:jO C vs H Q E):Gi K C (hW C) (iJ C) (bM Q) (start Hi vs) H:=by
 obtain⟨x,r,a,J0,J1,J2,ds,rfl,M,hr,k⟩:=h;refine⟨_,rfl,(by show 1<=ai;decide),fun l1 hl1=>?_⟩;have S1:ac H (upd H l1 (.lst [.str r])):=ac.new hl1;have e1:upd H l1 (.lst [.str r]) l1=some (.lst [.str r]):=aa;generalize upd H l1 (.lst [.str r])=H1 at S1 e1 ⊢;have M1:=M.same S1;obtain⟨dx,fs,o1,o2,o3,o4,lv,qu,sgA,sl,ts,lps,gps,sps,g1,a1,a2,a3,a4,_⟩:=id M1.at_;refine⟨_,rfl,x,dx,fs,rfl,g1,a3,_,rfl,x,r,J0,J1,J2,ds,rfl,M1,hr,fun l2 L H2 e2 nd hL _ S2=>?_⟩;have hin:∀w∈L,w∈J2:=fun w hw=>((hL w).mp hw).in_ fun d hd=>(M.ok.good d hd).b;have zL:=lV nd hin;have z3:=M.ok.rooms26;refine⟨l1,l2,_,_,rfl,rfl,S2 _ _ e1,e2,by rw[aj];show 1+L.length<=ai;exact fk (aq (by omega)),fun l3 hl3=>?_⟩;have eq:([.str r]++L.map V.str:List V)=(r::L).map V.str:=rfl;rw[eq];have S3:ac H (upd H2 l3 (.lst ((r::L).map V.str))):=(S1.trans S2).trans (ac.new hl3);have e3:upd H2 l3 (.lst ((r::L).map V.str)) l3=some (.lst ((r::L).map V.str)):=aa;generalize upd H2 l3 (.lst ((r::L).map V.str))=H3 at S3 e3 ⊢;refine⟨l3,rfl,⟨_,ay.of e3⟩,fun q hq=>?_⟩;refine cg (xs:=(r::L).map V.str) (fun i vs H'=>vs=(((r::L).take i).map fun h=>decide ((0:Int)<(bz ds (h,cY a)).length)).map V.bl/\ac H3 H'/\H' q=some (.lst vs)) ⟨rfl,ac.new hq,aa⟩ (fun i vs H' _ ⟨_,S,h⟩=>⟨h,ay.of (S _ _ e3)⟩) ?_ ?_
 ·rintro vs H' ⟨rfl,S,h⟩;rw[aj,aT]at h;refine⟨q,_,rfl,ay.of h,?_⟩;rw[C9 hL];exact k H' (S3.trans S)
 ·rintro i vs H' y hy hi ⟨rfl,S,h⟩;obtain⟨w,hw,rfl⟩:=bu hy;refine gN (sW ?_);have M':=M.same (S3.trans S);obtain⟨dx,fs,o1,o2,o3,o4,lv,qu,sgA,sl,ts,lps,gps,sps,g1,a1,a2,a3,a4,_⟩:=id M'.at_;refine⟨_,rfl,x,dx,fs,rfl,g1,a2,_,rfl,_,rfl,(by show 2<=ai;decide),fun s hs=>?_⟩;have S4:ac H' (upd H' s (.tup ((cY a).map V.str))):=ac.new hs;refine⟨x,s,w,cY a,J0,J1,J2,ds,rfl,M'.same S4,aa,fun g H5 hg _ S5=>?_⟩;have S45:=S4.trans S5;refine .inl ⟨g,_,rfl,.inl (ay.of hg),_,_,rfl,rfl,S45 _ _ h,?_,?_⟩
  ·rw[aj,aj,aE];exact aq (by rw[d4];omega)
  refine mW hi ⟨?_,fun b o e=>?_,aa⟩
  ·rw[take_snoc hw,aw,aw];show _++[V.bl (decide ((0:Int)<(((bz ds (w,cY a)).map V.str).length:Nat)))]=_;rw[aj];rfl
  ·rw[ag (ae e hq)];exact S45 _ _ (S _ _ e)
theorem Cw{K:Za}{H:Hp}{l m:Addr}{a b:Zb}{Q:VK}(hl:H l=some (.lst (a.map V.str)))(hm:H m=some (.lst (b.map V.str)))(k:Q (.bl (!decide (a=b))) H):rP K (.ref l) (.ref m) H Q:=by
 refine⟨.s (a.map gH),.s (b.map gH),uq (ay.of hl),uq (ay.of hm),?_,?_,?_⟩
 ·show DT.depths _+1<=8;rw[em];decide
 ·show DT.depths _+1<=8;rw[em];decide
 ·rw[decide_eq_decide.mpr (show DT.s (a.map gH)=DT.s (b.map gH)↔a=b from⟨fun h=>ia (by injection h),fun h=>by rw[h]⟩)];exact k
def Ad(F:Zb)(a:Str)(d:ak):Bool:=decide (d.a∈F) && decide (d.sg=cY a)
theorem Ac{ds:List ak}{F:Zb}{r a:Str}(hF:∀w,w∈F↔fO ds [r] w):ds.filter (Ad F a)=[]↔takesB ds r a=false:=by
 rw[xj,List.filter_eq_nil_iff];constructor
 ·rintro h ⟨w,hw,b,hb⟩;refine h _ hb ?_;unfold Ad;rw[zzr1,zzr1]
  ·rfl
  ·rfl
  ·exact(hF w).mpr ⟨r,dO,hw⟩
 ·intro n d hd q;unfold Ad at q;rw[sO]at q;have q1:=of_decide_eq_true q.1;have q2:=of_decide_eq_true q.2;obtain⟨g,hg,e⟩:=(hF _).mp q1;have:g=r:=by simpa using hg
  subst this;obtain⟨x,sg,b⟩:=d;exact n ⟨x,e,b,by rw[<-q2];exact hd⟩
theorem FP{K:Za}{σ:L2.St}{jt ja:Nat}{l4 f l:Addr}{ts:Ze}{ds:List ak}{F:Zb}{a:Str}{H1:Hp}{Q:Hp->Prop}(st:σ[jt]?=some (some (.ref f)))(sa:σ[ja]?=some (some (.str a)))
  (h4:H1 l4=some (.lst (ts.map V.ref))) (hd:cC H1 ts ds) (hf:H1 f=some (.lst (F.map V.str))) (z:ds.length<=1000) (hl:H1 l=none)
  (k:∀(us:Ze) (H':Hp),H' l=some (.lst (us.map V.ref))->cC H' us (ds.filter (Ad F a))->ac H1 H'->Q H') :
  gu 1 [jt,ja] σ (FZ K l4) U0 (kW (aO (aH (qy K false) (aH (mV K) V0 (tC (.int 0))) V1)) (aO (aH (lP K) (aH (mV K) V0 (tC (.int 1))) (bD (aR (tC (.str "ask")) V2))))) V0 H1 l Q:=by
 have cs:dS 1 [jt,ja] σ=[none,some (.ref f),some (.str a)]:=by simp[dS,st,sa]
 refine cg (xs:=ts.map V.ref) (fun i vs H'=>∃us:List Addr,vs=us.map V.ref/\cC H' us ((ds.take i).filter (Ad F a))/\ac H1 H'/\H' l=some (.lst vs))
  ⟨[],rfl,.nil,ac.new hl,aa⟩ (fun i vs H' _ ⟨_,_,_,S,h'⟩=>⟨h',ay.of (S _ _ h4)⟩) ?_ ?_
 ·rintro vs H' ⟨us,rfl,D,S,h'⟩;rw[aj,Paired.length hd,aT]at D;exact k us H' h' D S
 ·rintro i vs H' y hy hi ⟨us,rfl,D,S,h'⟩;obtain⟨u,hu,rfl⟩:=cu hy;obtain⟨dr,hdr,hat⟩:=Paired.getL hd hu;obtain⟨sb,ht2,hs2⟩:=hat.kt (ac.kt S);have hi':i<ds.length:=(cG.mp hdr).1;have zu:us.length<=i:=by
   have:=Paired.length D;rw[this];refine bG (dP _ _) ?_;rw[aE];omega
  rw[cs];refine gN ?_;refine⟨_,rfl,.inr (.inl ⟨u,_,0,_,rfl,rfl,bc.of ht2,rfl,_,rfl,gH dr.a,F.map gH,f,_,j6 _,rfl,.inl (ay.of (S _ _ hf)),jC _,(by show 0<=8;decide),by rw[em];decide,_,rfl,?_⟩)⟩;rw[if_neg fP,pG];by_cases c1:dr.a∈F;rotate_left
  ·rw[zzr0 c1];refine bU (bU (mW hi ⟨us,rfl,?_,S,h'⟩));rw[gk hdr,if_neg (by unfold Ad;rw[zzr0 c1,BS];decide),dI];exact D
  rw[zzr1 c1];refine cS ?_;refine⟨_,rfl,.inr (.inl ⟨u,_,1,_,rfl,rfl,bc.of ht2,rfl,_,rfl,(by show 2<=ai;decide),fun s hs=>?_⟩)⟩;have S2:ac H' (upd H' s (.tup ((cY a).map V.str))):=ac.new hs;have e2:upd H' s (.tup ((cY a).map V.str)) s=some (.tup ((cY a).map V.str)):=aa;have e2':(.tup [.str "ask",.str a]:HO)=.tup ((cY a).map V.str):=rfl;rw[e2'];generalize upd H' s (.tup ((cY a).map V.str))=H2 at S2 e2 ⊢;have D2:=D.kt (ac.kt S2);refine⟨jb dr.sg,jb (cY a),aQ (bc.of (S2 _ _ hs2)),aQ (bc.of e2),by rw[bo];decide,by rw[bo];decide,_,rfl,?_⟩;rw[dR];by_cases c2:dr.sg=cY a;rotate_left
  ·rw[zzr0 c2];refine bU (mW hi ⟨us,rfl,?_,S.trans S2,S2 _ _ h'⟩);rw[gk hdr,if_neg (by unfold Ad;rw[zzr0 c2,wZ];decide),dI];exact D2
  rw[zzr1 c2];refine cS ?_;have S3:ac H1 (upd H2 l (.lst (us.map V.ref++[.ref u]))):=fun b o q=>by
   rw[ag (ae q hl)];exact S2 _ _ (S _ _ q)
  have kt:hU H2 (upd H2 l (.lst (us.map V.ref++[.ref u]))):=fun b xs q=>by
   rw[ag (fun z=>by rw[z,S2 _ _ h']at q;cases q)];exact q
  refine⟨_,rfl,S2 _ _ h',by rw[aj];exact aq (by omega),mW hi ⟨us++[u],by rw[aw];rfl,?_,S3,aa⟩⟩;rw[gk hdr,if_pos (by unfold Ad;rw[zzr1 c1,zzr1 c2];rfl)];exact dv (D2.kt kt) ⟨sb,kt _ _ (S2 _ _ ht2),kt _ _ (S2 _ _ hs2)⟩
theorem FD{K:Za}{H:Hp}{l q:Addr}{ts:Ze}{ds:List ak}{Q:VK}(hl:H l=some (.lst (ts.map V.ref)))(hd:cC H ts ds)(hq:H q=some (.lst []))(h:Q (.bl (decide (ds=[]))) H):lP K (.ref l) (.ref q) H Q:=by
 refine⟨.s (ds.map ur),.s [],(by unfold oz;exact⟨l,_,rfl,ay.of hl,hd.dIns⟩),(by unfold oz;exact⟨q,_,rfl,ay.of hq,by unfold DIns;rfl⟩),?_,(by decide),?_⟩
 ·show DT.depths _+1<=8;have:=n5 ds;omega
 ·rw[decide_eq_decide.mpr (show DT.s (ds.map ur)=DT.s []↔ds=[]from⟨fun z=>List.map_eq_nil_iff.mp (by injection z),fun z=>by rw[z];rfl⟩)];exact h
theorem Reach.unask{ds:List ak}{d:ak}(n:d.sg≠ao){a b:Str}(r:Reach (ds++[d]) a b):Reach ds a b:=by
 have key:∀{x y:Str},(⟨x,ao,y⟩:ak)∈ds++[d]->(⟨x,ao,y⟩:ak)∈ds:=fun q=>by
  rcases bd.mp q with q|q
  ·exact q
  ·have e:=aX.mp q;exact absurd (by rw[<-e]) n
 induction r with
 |one q=>exact .one (key q)
 |step _ q ih=>exact .step ih (key q)
theorem gK.mono{ds es:List ak}(h:∀d∈ds,d∈es){r a:Str}:gK ds r a->gK es r a:=fun⟨w,hw,b,hb⟩=>⟨w,hw.imp id (Reach.mono fun x y=>h _),b,h _ hb⟩
theorem mem_putD{ds:List ak}{d x:ak}:x∈lQ ds d↔x∈ds∨x=d:=by
 unfold lQ;split
 ·rename_i h;exact⟨.inl,fun z=>z.elim id fun e=>by rw[e];exact h⟩
 ·simp
theorem aK.putOne{J0 J1 J2:Zb}{ds:List ak}{d:ak}(m:aK J0 J1 J2 ds)(g:Ai J0 J1 J2 d)(n:d.sg≠ao)(z:ds.length+1<=1000):aK J0 J1 J2 (lQ ds d):=by
 refine⟨m.okA,m.okS,m.apart,m.okR,m.asks0,m.says0,m.rooms0,m.asks4,m.says4,m.rooms26,?_,fun x hx=>?_,?_,fun r q=>?_⟩
 ·unfold lQ;split
  ·exact m.nodup
  ·rename_i h;rw[cP];exact⟨m.nodup,by simp,fun a ha b hb e=>h (by rw[<-aX.1 hb,<-e];exact ha)⟩
 ·rcases mem_putD.mp hx with h|h
  ·exact m.good x h
  ·rw[h];exact g
 ·have:=tW ds d;omega
 ·refine m.noround r ?_;unfold lQ at q;split at q
  ·exact q
  ·exact q.unask n
theorem wk(a:Str):cY a≠ao:=by unfold cY ao;intro h;injection h with _ h;cases h
structure TX(H0:Hp)(p c l:Addr)(R:List ak->Prop)(H:Hp):Prop where
 pen:gU H p c
 ds:∃ts ds,H l=some (.lst (ts.map V.ref))/\cC H ts ds/\R ds
 ex:c_ p H0 H
 fr:H0 l=none
 pl:p≠l
 cl:c≠l
section
variable{H0 H H':Hp}{p c l:Addr}{R R':List ak->Prop}
theorem TX.took(h:TX H0 p c l R H)(hp:gU H' p c)(e:c_ p H H'):TX H0 p c l R H':=by
 obtain⟨ts,ds,h1,h2,h3⟩:=h.ds;obtain⟨xs,hx⟩:=h.pen.lst;exact⟨hp,⟨ts,ds,e _ _ h1 h.pl.symm,h2.kt (e.kt hx),h3⟩,h.ex.trans e,h.fr,h.pl,h.cl⟩
theorem TX.same(h:TX H0 p c l R H)(S:ac H H'):TX H0 p c l R H':=h.took (h.pen.ex S) (ac.exB S)
theorem TX.imp(h:TX H0 p c l R H)(q:∀ds,R ds->R' ds):TX H0 p c l R' H:=by
 obtain⟨ts,ds,h1,h2,h3⟩:=h.ds;exact⟨h.pen,⟨ts,ds,h1,h2,q _ h3⟩,h.ex,h.fr,h.pl,h.cl⟩
theorem TX.put{ts:Ze}{ds:List ak}(h:TX H0 p c l R H)(hl:∃xs,H l=some (.lst xs))(hd:cC H ts ds)(r:R' ds):TX H0 p c l R' (upd H l (.lst (ts.map V.ref))):=by
 obtain⟨xs,hx⟩:=hl;refine⟨h.pen.upd h.pl h.cl,⟨ts,ds,aa,hd.kt fun b ys q=>?_,r⟩,fun b o q n=>?_,h.fr,h.pl,h.cl⟩
 ·rw[ag (fun z=>by rw[z,hx]at q;cases q)];exact q
 ·rw[ag (ae q h.fr)];exact h.ex _ _ q n
end
def WR(J0 J1 J2:Zb)(D:List (Str×Str))(n:Nat)(ds:List ak):Prop:=aK J0 J1 J2 ds/\ds.length<=n/\∀x∈D,gK ds x.1 x.2
theorem WR.up{J0 J1 J2:Zb}{D:List (Str×Str)}{n n':Nat}{ds:List ak}(h:WR J0 J1 J2 D n ds)(z:n<=n'):WR J0 J1 J2 D n' ds:=⟨h.1,bG h.2.1 z,h.2.2⟩
inductive kg (vs:List V)(H:Hp)(Q:VK)(E:XK):Prop
 |mk (p c t l1 l2 l3 l4:Addr) (ts:Ze) (J0 J1 J2:Zb) (ds:List ak):(vs=[.ref p,.ref t])->(gU H p c)->(iC H t l1 l2 l3 l4 ts J0 J1 J2 ds)->(aK J0 J1 J2 ds)->(J2.length<=26)->(ds.length<=800)->(∀(t' l4':Addr) (ts':Ze) (ds':List ak) (H':Hp),iC H' t' l1 l2 l3 l4' ts' J0 J1 J2 ds'->aK J0 J1 J2 ds'->(∀r∈J2,∀a∈J0,gK ds' r a)->ds'.length<=ds.length+4 * J2.length->gU H' p c->c_ p H H'->Q (.ref t') H')->kg  vs H Q E
theorem AQ{K:Za}{vs:List V}{H:Hp}{Q:VK}{E:XK}(h:kg vs H Q E):uS K ki fy (eK K) (bM Q) (start vy vs) H:=by
 obtain⟨p,c,t,l1,l2,l3,l4,ts,J0,J1,J2,ds,rfl,hp,T,m,z26,z8,k⟩:=h;have a4:=m.asks4;refine⟨_,rfl,t,_,rfl,bc.of T.t,rfl,_,_,rfl,_,_,rfl,_,_,rfl,_,_,rfl,rfl,?_⟩;refine⟨_,rfl,.inl ⟨l4,_,rfl,.inl (ay.of T.a4),fun f hf=>?_⟩⟩;have B0:TX H p c f (WR J0 J1 J2 [] ds.length) (upd H f (.lst (ts.map V.ref))):=⟨hp.ex (ac.new hf),⟨ts,ds,aa,T.ds.kt (ac.kt (ac.new hf)),m,aB _,by simp⟩,c_.new hf,hf,hp.nep hf,hp.nec hf⟩;generalize upd H f (.lst (ts.map V.ref))=H1 at B0 ⊢;have keep:∀{H':Hp}{R:List ak->Prop},TX H p c f R H'->H' l1=some (.lst (J0.map V.str))/\H' l2=some (.lst (J1.map V.str))/\H' l3=some (.lst (J2.map V.str)):=fun B =>
  ⟨B.ex _ _ T.a1 (hp.ne_strs T.a1),B.ex _ _ T.a2 (hp.ne_strs T.a2),B.ex _ _ T.a3 (hp.ne_strs T.a3)⟩
 refine⟨_,rfl,l3,rfl,⟨_,ay.of (keep B0).2.2⟩,?_⟩;refine bR (xs:=J2.map V.str) (fun i σ H'=>∃a6 a7 a8 a9:Option V,σ=[some (.ref p),some (.ref t),some (.ref l1),some (.ref l2),some (.ref l3),some (.ref f),a6,a7,a8,a9]/\TX H p c f (WR J0 J1 J2 ((J2.take i).flatMap fun r=>J0.map fun a=>(r,a)) (ds.length+4 * i)) H')
  ⟨_,_,_,_,rfl,B0⟩ (fun i σ H' _ ⟨_,_,_,_,_,B⟩=>ay.of (keep B).2.2) ?_ ?_
 ·rintro i v σ H2 hi ⟨a6,a7,a8,a9,rfl,B2⟩;obtain⟨r,hr,rfl⟩:=bu hi;have hir:i<J2.length:=(cG.mp hr).1;have hrm:=ba hr;refine⟨_,rfl,l1,rfl,⟨_,ay.of (keep B2).1⟩,?_⟩;refine bR (xs:=J0.map V.str) (fun j σ H'=>∃a7 a8 a9:Option V,σ=[some (.ref p),some (.ref t),some (.ref l1),some (.ref l2),some (.ref l3),some (.ref f),some (.str r),a7,a8,a9]/\TX H p c f (WR J0 J1 J2 ((J2.take i).flatMap (fun r=>J0.map fun a=>(r,a))++(J0.take j).map fun a=>(r,a)) (ds.length+4 * i+j)) H')
   ⟨_,_,_,rfl,B2.imp fun ds h=>by simpa using h⟩ (fun i σ H' _ ⟨_,_,_,_,B⟩=>ay.of (keep B).1) ?_ ?_
  ·rintro j v σ H3 hj ⟨a7,a8,a9,rfl,B3⟩;obtain⟨a,ha,rfl⟩:=bu hj;have hja:j<J0.length:=(cG.mp ha).1;have ham:=ba ha;have fin:∀es n,WR J0 J1 J2 ((J2.take i).flatMap (fun r=>J0.map fun a=>(r,a))++(J0.take j).map fun a=>(r,a)) n es->gK es r a->WR J0 J1 J2 ((J2.take i).flatMap (fun r=>J0.map fun a=>(r,a))++(J0.take (j+1)).map fun a=>(r,a)) n es:=fun es n w tk=>by
    refine⟨w.1,w.2.1,fun x hx=>?_⟩;rw[take_snoc ha,aw,<-dH]at hx;rcases bd.mp hx with h|h
    ·exact w.2.2 x h
    ·have:x=(r,a):=by simpa using h
     rw[this];exact tk
   refine⟨_,rfl,_,rfl,(by show 1<=ai;decide),fun q hq=>?_⟩;have B4:=B3.same (ac.new (o:=.lst [.str r]) hq);have q4:upd H3 q (.lst [.str r]) q=some (.lst [.str r]):=aa;generalize upd H3 q (.lst [.str r])=H4 at B4 q4 ⊢;obtain⟨us,es,g1,g2,g3⟩:=B4.ds;refine⟨f,q,us,es,[r],J2,rfl,g1,g2,q4,fun d hd=>(g3.1.good d hd).b,by omega,(by show 1<=1000;decide),fun th F H5 hth hF _ _ S5=>?_⟩;have B5:=B4.same S5;have f5:=S5 _ _ g1;have d5:=g2.kt (ac.kt S5);refine⟨_,rfl,f,rfl,⟨_,ay.of f5⟩,fun l hl=>?_⟩;refine FP (K:=K) (jt:=8) (ja:=7) rfl rfl f5 d5 hth g3.1.few hl fun vs H6 h6 D6 S6=>⟨(by show 0<=ai;decide),fun e he=>?_⟩;refine FD (kp h6 he) (D6.kt (ac.kt (ac.new he))) aa ⟨_,rfl,?_⟩;have S7:ac H5 (upd H6 e (.lst [])):=S6.trans (ac.new he);generalize upd H6 e (.lst [])=H7 at S7 ⊢;have f7:=S7 _ _ f5;have d7:=d5.kt (ac.kt S7);have B7:TX H p c f (fun ds'=>ds'=es) H7:=by
    have B:=B5.same S7;exact⟨B.pen,⟨us,es,f7,d7,rfl⟩,B.ex,B.fr,B.pl,B.cl⟩
   cases q:takesB es r a with
   |true =>
    rw[zzr0 (fun z=>by rw[Ac hF,q]at z;cases z)];exact bU ⟨_,_,_,rfl,B7.imp fun ds' e=>by rw[e];exact fin _ _ (g3.up (by omega)) (lC.mp q)⟩
   |false =>
    rw[zzr1 ((Ac hF).mpr q)];refine cS ?_;have l37:=(keep B7).2.2;refine⟨_,rfl,_,rfl,_,rfl,_,rfl,.inl ⟨l3,_,rfl,.inl (ay.of l37),?_⟩⟩;rw[aj];refine dQ B7.pen (by omega) (by omega) fun x H8 x0 x1 hp8 ex8=>?_;obtain⟨n,rfl⟩:=js x0;have B8:=B7.took hp8 ex8;obtain⟨w,hw⟩:∃w,J2[n]?=some w:=⟨_,bY (by omega)⟩;refine⟨l3,_,(n:Int),.str w,rfl,rfl,ay.of (keep B8).2.2,aS (j:=n) (by rw[bZ,hw];rfl),(by show 2<=ai;decide),fun u hu=>?_⟩;have B9:=B8.same (ac.new (o:=.lst [.str r,.str w]) hu);have u9:upd H8 u (.lst [.str r,.str w]) u=some (.lst ([r,w].map V.str)):=aa;generalize upd H8 u (.lst [.str r,.str w])=H9 at B9 u9 ⊢;refine⟨_,rfl,dQ B9.pen (by decide) (by decide) fun y H10 y0 y1 hp10 ex10=>?_⟩;have B10:=B9.took hp10 ex10;obtain⟨g,hg,hgm⟩:∃g,pW ([r,w].map V.str) y=some (.str g)/\g∈J2:=by
     have:y=0∨y=1:=by omega
     rcases this with rfl|rfl
     ·exact⟨r,rfl,hrm⟩
     ·exact⟨w,rfl,ba hw⟩
    refine⟨u,_,y,.str g,rfl,rfl,ay.of (ex10 _ _ u9 (B9.pen.ne_strs u9)),hg,?_⟩;refine⟨_,rfl,_,rfl,_,rfl,(by show 2<=ai;decide),fun s hs=>⟨_,rfl,(by show 3<=ai;decide),fun d hd=>?_⟩⟩;have S12:ac H10 (upd (upd H10 s (.tup [.str "ask",.str a])) d (.tup [.str r,.ref s,.str g])):=(ac.new hs).trans (ac.new hd);have at12:gV (upd (upd H10 s (.tup [.str "ask",.str a])) d (.tup [.str r,.ref s,.str g])) d ⟨r,cY a,g⟩:=⟨s,aa,kp aa hd⟩;generalize upd (upd H10 s (.tup [.str "ask",.str a])) d (.tup [.str r,.ref s,.str g])=H12 at S12 at12 ⊢;have B12:=B10.same S12;obtain⟨us',es',k1,k2,rfl⟩:=id B12.ds;have zz:=g3.2.1;have good:Ai J0 J1 J2 ⟨r,cY a,g⟩:=⟨hrm,hgm,.inl ⟨a,ham,rfl⟩⟩;refine⟨f,d,us',_,⟨r,cY a,g⟩,rfl,k1,k2,at12,g3.1.few,fun us2 D2=>?_⟩;refine⟨_,_,_,rfl,B12.put ⟨_,k1⟩ D2 (fin _ _ ⟨g3.1.putOne good (wk a) (by omega),?_,fun x hx=>(g3.2.2 x hx).mono fun y hy=>mem_putD.mpr (.inl hy)⟩ ⟨r,.inl rfl,g,mem_putD.mpr (.inr rfl)⟩)⟩;have:=tW es' ⟨r,cY a,g⟩;omega
  ·rintro σ H3 ⟨a7,a8,a9,rfl,B3⟩;refine⟨_,_,_,_,rfl,B3.imp fun es h=>?_⟩;rw[aj]at h;refine⟨h.1,by have:=h.2.1;omega,fun x hx=>h.2.2 x ?_⟩;rw[take_snoc hr,wv]at hx;rw[aT];simpa using hx
 ·rintro σ H2 ⟨a6,a7,a8,a9,rfl,B2⟩;rw[aj,aT]at B2;obtain⟨us,es,g1,g2,g3⟩:=B2.ds;obtain⟨q1,q2,q3⟩:=keep B2;refine⟨_,rfl,_,rfl,_,rfl,_,rfl,(by show 4<=ai;decide),fun t' ht'=>?_⟩;have S3:=ac.new (o:=.tup [.ref l1,.ref l2,.ref l3,.ref f]) ht';exact k t' f us es _ ⟨aa,S3 _ _ q1,S3 _ _ q2,S3 _ _ q3,S3 _ _ g1,g2.kt (ac.kt S3)⟩ g3.1 (fun r hr a ha=>g3.2.2 (r,a) (jr.mpr ⟨r,hr,ax.mpr ⟨a,ha,rfl⟩⟩)) g3.2.1 (B2.pen.ex S3) (B2.ex.trans (ac.exB S3))
def qi(K:Za)(C_Machine:Addr)(sp_Machine_asks:Sp)(sp_Machine_says:Sp)(a_HUSH:Addr):TS :=
 bj (aH xJ (aH xJ (dC 1 [] (b0 K (cX C_Machine "asks" sp_Machine_asks [] E0 V0 bq)) U0 (kT) (bD (aR (tC (.str "ask")) V0))) (dC 1 [] (b0 K (cX C_Machine "says" sp_Machine_says [] E0 V0 bq)) U0 (kT) (bD (aR (tC (.str "say")) V0)))) (eG (az (tC (.ref a_HUSH)))))
def qJ:List Str:=["M"]
def At(K:Za)(sp_signs_in_order:Sp)(sp_face_behind:Sp):TS :=
 ap (aP (ke) U2)
 (ap (d9 (b0 K (aM sp_signs_in_order (az V0))) U3 (ap (aP (aM sp_face_behind (eB V0 V1 V3)) U4)
 (b_ (aO (aH Dt (eo (eC K) (az V4)) (tC (.int 0)))) (lL K V2 V3 V4) (bB))))
 (bj V2))
def BA:List Str:=["M","face","steps","sign","behind"]
def mM(K:Za):TS :=
 ap (b_ (tB (cU K V1 (fS K V0 "numbers"))) (ap (b_ (aO (aH yI (eo (eC K) (az (fS K V0 "faces"))) (tC (.int 400)))) (tD) (bB))
 (ap (kQ (fS K V0 "numbers") V1 (eo (eC K) (az (fS K V0 "faces"))))
 (ap (bQ (uM K "list" cV (fS K V0 "faces") (az V1)))
 (bQ (uM K "list" cV (fS K V0 "first_stories") (az V2)))))) (bB))
 (bj (gG K (fS K V0 "numbers") V1))
def m8:List Str:=["self","face","story"]
def jy(K:Za)(sp_steps_at:Sp)(C_FaceMap:Addr)(sp_FaceMap_number_at:Sp):TS :=
 ap (aP (ke) U2)
 (ap (d9 (ya K (aM sp_steps_at (aR (fS K V0 "machine") (aH (cZ K) (fS K V0 "faces") V1)))) (ib K 2 (a_ U3 (a_ U4 (gR)))) (lL K V2 V3 (cX C_FaceMap "number_at" sp_FaceMap_number_at [] E0 V0 (aR V4 (aH xJ (aH (cZ K) (fS K V0 "first_stories") V1) (eG (az V3)))))))
 (bj V2))
def jD:List Str:=["self","number","steps","sign","face"]
def nQ(K:Za)(C_FaceMap:Addr)(sp_FaceMap_numbered_steps:Sp)(sp_FaceMap_number_at:Sp)(cz:Sp):TS :=
 ap (o9 K V0 V1 "machine")
 (ap (o9 K V0 (eG (bq)) "faces")
 (ap (o9 K V0 (eG (bq)) "first_stories")
 (ap (o9 K V0 (ke) "numbers")
 (ap (o9 K V0 (eG (bq)) "steps")
 (ap (bQ (cX C_FaceMap "number_at" sp_FaceMap_number_at [] E0 V0 (aR (aM cz (az V1)) (eG (bq)))))
 (nR (aO (aH AZ (eo (eC K) (az (fS K V0 "steps"))) (eo (eC K) (az (fS K V0 "faces"))))) (bQ (uM K "list" cV (fS K V0 "steps") (ar (cX C_FaceMap "numbered_steps" sp_FaceMap_numbered_steps [] E0 V0 (az (eo (eC K) (az (fS K V0 "steps"))))) bq)))))))))
def ow:List Str:=["self","M"]
abbrev Sg:=List Str
def stepsF(J0 J1 J2:Zb)(ds:List ak)(J6:Zb):List (Sg×List Str):=((bb J0 J1).map fun sg=>(sg,behF J2 ds J6 sg)).filter fun p=>decide (p.2≠[])
structure gL where
 fs:List (List Str)
 ss:List (List Sg)
def gL.add(m:gL)(f:Zb)(s:List Sg):gL:=if f∈m.fs then m else⟨m.fs++[f],m.ss++[s]⟩
def Cu(s:List Sg)(q:gL×List (Sg×Nat))(p:Sg×List Str):gL×List (Sg×Nat):=(q.1.add p.2 (s++[p.1]),q.2++[(p.1,(q.1.add p.2 (s++[p.1])).fs.idxOf p.2)])
def eN(s:List Sg)(m:gL)(L:List (Sg×List Str)):gL×List (Sg×Nat):=L.foldl (Cu s) (m,[])
abbrev pS:=gL×List (List (Sg×Nat))
def initF(J2:Zb)(ds:List ak):pS:=((⟨[],[]⟩:gL).add (closF J2 ds (J2.take 1)) [],[])
def nextF(J0 J1 J2:Zb)(ds:List ak)(S:pS):pS :=
 ((eN (S.1.ss.getD S.2.length []) S.1 (stepsF J0 J1 J2 ds (S.1.fs.getD S.2.length []))).1,S.2++[(eN (S.1.ss.getD S.2.length []) S.1 (stepsF J0 J1 J2 ds (S.1.fs.getD S.2.length []))).2])
def itF(J0 J1 J2:Zb)(ds:List ak):Nat->pS
 |0=>initF J2 ds
 |k+1=>nextF J0 J1 J2 ds (itF J0 J1 J2 ds k)
def nk:List Str->List (List Str)
 |[]=>[[]]
 |r::rs=>(nk rs).map (r::·)++nk rs
theorem qv:∀rs:List Str,(nk rs).length=2 ^ rs.length
 |[]=>rfl
 |r::rs=>by
  show((nk rs).map (r::·)++nk rs).length=2 ^ (rs.length+1);rw[aL,aj,qv rs,Nat.pow_succ];omega
theorem qt(p:Str->Bool):∀rs:List Str,rs.filter p∈nk rs
 |[]=>by show[]∈[[]];simp
 |r::rs=>by
  show(r::rs).filter p∈(nk rs).map (r::·)++nk rs;have ih:=qt p rs;rw[List.filter_cons];split
  ·exact cj _ (j9 ih)
  ·exact cD _ ih
theorem jZ{α:Type}[DecidableEq α]:∀{L R:List α},L.Nodup->(∀y∈L,y∈R)->L.length<=R.length
 |[],_,_,_=>db _
 |x::L,R,h,hs=>by
  rw[jx]at h;have hx:x∈R:=hs x dO;have h1:∀y∈L,y∈R.erase x:=fun y hy=>(List.mem_erase_of_ne (fun e=>h.1 (by rw[<-e];exact hy))).2 (hs y (eI _ hy));have h2:=jZ h.2 h1;rw[List.length_erase_of_mem hx]at h2;have h3:0<R.length:=List.length_pos_of_mem hx;rw[d4];omega
def pP(J2 f:Zb):Prop:=∃p:Str->Bool,f=J2.filter p
theorem G1{J2 f sg:Zb}{ds:List ak}(h:pP J2 f):pP J2 (behF J2 ds f sg):=by
 classical
 unfold behF;split
 ·obtain⟨p,rfl⟩:=h;rw[List.filter_filter];exact⟨_,rfl⟩
 ·unfold closF;exact⟨_,rfl⟩
theorem DH{J2:Zb}{ds:List ak}{gs:Zb}:pP J2 (closF J2 ds gs):=by
 classical
 unfold closF;exact⟨_,rfl⟩
theorem pP.sub{J2 f:Zb}(h:pP J2 f):∀r∈f,r∈J2:=by
 obtain⟨p,rfl⟩:=h;exact fun r hr=>(bF.1 hr).1
theorem pP.len{J2 f:Zb}(h:pP J2 f):f.length<=J2.length:=by
 obtain⟨p,rfl⟩:=h;exact dP _ _
structure Good(J2:Zb)(m:gL):Prop where
 nd:m.fs.Nodup
 len:m.ss.length=m.fs.length
 isF:∀f∈m.fs,pP J2 f
 sl:∀(i:Nat) (s:List Sg),m.ss[i]?=some s->s.length<=i
theorem Good.few{J2:Zb}{m:gL}(g:Good J2 m)(hr:J2.length<=8):m.fs.length<=256:=by
 have h:=jZ g.nd (R:=nk J2) (fun f hf=>by obtain⟨p,rfl⟩:=g.isF f hf;exact qt p J2);rw[qv]at h;have:2 ^ J2.length<=2 ^ 8:=Nat.pow_le_pow_right (by decide) hr;omega
theorem gL.add_in{m:gL}{f:Zb}{s:List Sg}(h:f∈m.fs):m.add f s=m:=if_pos h
theorem gL.add_new{m:gL}{f:Zb}{s:List Sg}(h:¬f∈m.fs):m.add f s=⟨m.fs++[f],m.ss++[s]⟩:=if_neg h
theorem Good.add{J2 f:Zb}{m:gL}{s:List Sg}(g:Good J2 m)(h:pP J2 f)(hs:s.length<=m.fs.length):Good J2 (m.add f s):=by
 by_cases c:f∈m.fs
 ·rw[gL.add_in c];exact g
 ·rw[gL.add_new c];refine⟨?_,?_,?_,?_⟩;rotate_left 3
  ·intro i s' e
   change (m.ss++[s])[i]?=some s' at e
   rcases iR i m.ss.length with z|z
   ·rw[fe z]at e;exact g.sl i s' e
   ·rw[nJ z]at e;have h0:i-m.ss.length=0:=by
     rcases wr (i-m.ss.length)with q|q
     ·exact q
     ·rw[fQ (by show 1<=_;omega)]at e;cases e
    rw[h0]at e;injection e with e;rw[<-e];have:=g.len;omega
  ·rw[cP];exact⟨g.nd,by simp,fun x hx y hy e=>c (by rw[aX.1 hy]at e;rw[<-e];exact hx)⟩
  ·show(m.ss++[s]).length=(m.fs++[f]).length;rw[aL,aL,g.len];rfl
  ·intro x hx;rcases bd.1 hx with hx|hx
   ·exact g.isF x hx
   ·rw[aX.1 hx];exact h
theorem Hd{m:gL}{f:Zb}{s:List Sg}:f∈(m.add f s).fs:=by
 by_cases c:f∈m.fs
 ·rw[gL.add_in c];exact c
 ·rw[gL.add_new c];simp
def pQ(m m':gL):Prop:=(∃r,m'.fs=m.fs++r)/\∃r,m'.ss=m.ss++r
theorem pQ.refl(m:gL):pQ m m:=⟨⟨[],(dI _).symm⟩,⟨[],(dI _).symm⟩⟩
theorem pQ.trans{a b c:gL}(h:pQ a b)(k:pQ b c):pQ a c:=by
 obtain⟨⟨r,e⟩,⟨s,f⟩⟩:=h;obtain⟨⟨r',e'⟩,⟨s',f'⟩⟩:=k;exact⟨⟨r++r',by rw[e',e,dH]⟩,⟨s++s',by rw[f',f,dH]⟩⟩
theorem zX{m:gL}{f:Zb}{s:List Sg}:pQ m (m.add f s):=by
 by_cases c:f∈m.fs
 ·rw[gL.add_in c];exact .refl _
 ·rw[gL.add_new c];exact⟨⟨[f],rfl⟩,⟨[s],rfl⟩⟩
theorem jY(s:List Sg)(m:gL)(L:List (Sg×List Str))(p:Sg×List Str):eN s m (L++[p])=Cu s (eN s m L) p:=by
 unfold eN;rw[k_];rfl
theorem pQ.at{m m':gL}(h:pQ m m'){i:Nat}{f:Zb}(e:m.fs[i]?=some f):m'.fs[i]?=some f:=by
 obtain⟨⟨r,q⟩,_⟩:=h;rw[q,fe (by rcases iR i m.fs.length with z|z;exact z;rw[fQ z]at e;cases e),e]
theorem vV{J2:Zb}{s:List Sg}{m:gL}(g:Good J2 m)(hs:s.length<m.fs.length)(L:List (Sg×List Str))(hL:∀p∈L,pP J2 p.2):
  Good J2 (eN s m L).1/\pQ m (eN s m L).1/\Paired (fun(a:Sg×Nat) (p:Sg×List Str)=>a.1=p.1/\(eN s m L).1.fs[a.2]?=some p.2) (eN s m L).2 L:=by
 have key:∀n,n<=L.length->Good J2 (eN s m (L.take n)).1/\pQ m (eN s m (L.take n)).1/\Paired (fun(a:Sg×Nat) (p:Sg×List Str)=>a.1=p.1/\(eN s m (L.take n)).1.fs[a.2]?=some p.2) (eN s m (L.take n)).2 (L.take n):=by
  intro n
  induction n with
  |zero=>intro _;exact⟨g,.refl _,.nil⟩
  |succ n ih =>
   intro hn;obtain⟨h1,h2,h3⟩:=ih (by omega);have hp:L[n]?=some L[n]:=bY (by omega);rw[take_snoc hp,jY];have hf:=hL L[n] (lb _);have hl:m.fs.length<=(eN s m (L.take n)).1.fs.length:=by
    obtain⟨⟨r,q⟩,_⟩:=h2;rw[q,aL];omega
   refine⟨h1.add hf (by rw[aL];show _+1<=_;omega),h2.trans zX,?_⟩;refine dv (Paired.mapP h3 fun a p r=>⟨r.1,zX.at r.2⟩) ⟨rfl,?_⟩;show(gL.add _ _ _).fs[(gL.add _ _ _).fs.idxOf L[n].2]?=some L[n].2;have hm:=Hd (m:=(eN s m (L.take n)).1) (f:=L[n].2) (s:=s++[L[n].1]);have hi:=List.idxOf_lt_length_of_mem hm;rw[bY hi,List.getElem_idxOf]
 have:=key L.length (aB _);rw[aT]at this;exact this
structure ml(J0 J1 J2:Zb)(ds:List ak)(S:pS):Prop where
 good:Good J2 S.1
 le:S.2.length<=S.1.fs.length
 zero:S.1.fs[0]?=some (closF J2 ds (J2.take 1))
 st:∀(i:Nat) (l:List (Sg×Nat)),S.2[i]?=some l->∃f,S.1.fs[i]?=some f/\Paired (fun(a:Sg×Nat) (p:Sg×List Str)=>a.1=p.1/\S.1.fs[a.2]?=some p.2) l (stepsF J0 J1 J2 ds f)
theorem tM{J0 J1 J2 f:Zb}{ds:List ak}(h:pP J2 f):∀p∈stepsF J0 J1 J2 ds f,pP J2 p.2:=by
 intro p hp;obtain⟨sg,_,rfl⟩:=ax.1 (bF.1 hp).1;exact G1 h
theorem DP{J0 J1 J2:Zb}{ds:List ak}:ml J0 J1 J2 ds (initF J2 ds):=by
 have e:(⟨[],[]⟩:gL).add (closF J2 ds (J2.take 1)) []=⟨[closF J2 ds (J2.take 1)],[[]]⟩:=gL.add_new (by simp);refine⟨?_,db _,?_,fun i l h=>?_⟩
 ·exact Good.add (m:=⟨[],[]⟩) ⟨qd,rfl,(fun f hf=>nomatch hf),(fun i s (e:([]:List (List Sg))[i]?=some s)=>by rw[List.getElem?_nil]at e;cases e)⟩ DH (db _)
 ·show((⟨[],[]⟩:gL).add _ _).fs[0]?=_;rw[e];rfl
 ·simp[initF]at h
theorem DO{J0 J1 J2:Zb}{ds:List ak}{S:pS}(h:ml J0 J1 J2 ds S)(lt:S.2.length<S.1.fs.length):ml J0 J1 J2 ds (nextF J0 J1 J2 ds S):=by
 have e0:S.1.fs[S.2.length]?=some S.1.fs[S.2.length]:=by simp[lt]
 have hd:S.1.fs.getD S.2.length []=S.1.fs[S.2.length]:=by simp[lt]
 have hF:=h.good.isF S.1.fs[S.2.length] (lb _);obtain⟨g,gr,pr⟩:=vV (s:=S.1.ss.getD S.2.length []) h.good (by
  have l2:S.2.length<S.1.ss.length:=by rw[h.good.len];exact lt
  have e:S.1.ss[S.2.length]?=some (S.1.ss[S.2.length]'l2):=bY l2;have:=h.good.sl _ _ e;rw[eJ,e];show(S.1.ss[S.2.length]'l2).length<_;omega) (stepsF J0 J1 J2 ds S.1.fs[S.2.length]) (tM hF)
 unfold nextF;rw[hd];generalize eN (S.1.ss.getD S.2.length []) S.1 (stepsF J0 J1 J2 ds S.1.fs[S.2.length])=q at g gr pr;refine⟨g,?_,gr.at h.zero,fun i l hl=>?_⟩
 ·obtain⟨⟨r,e⟩,_⟩:=gr;show(S.2++[q.2]).length<=q.1.fs.length;rw[e,aL,aL];show S.2.length+1<=_;omega
 ·change (S.2++[q.2])[i]?=some l at hl
  rcases Nat.lt_trichotomy i S.2.length with c|c|c
  ·rw[fe c]at hl;obtain⟨f,e,p⟩:=h.st i l hl;exact⟨f,gr.at e,Paired.mapP p fun a p r=>⟨r.1,gr.at r.2⟩⟩
  ·subst c;rw[nJ (aB _),Nat.sub_self]at hl;injection hl with hl;subst hl;exact⟨S.1.fs[S.2.length],gr.at e0,pr⟩
  ·rw[nJ (fk c)]at hl;obtain⟨k,hk⟩:=Nat.exists_eq_succ_of_ne_zero (show i-S.2.length≠0 by omega);rw[hk]at hl;cases hl
def Hf(hu:Addr)(H:Hp)(u:Addr)(sg:Zb):Prop:=H u=some (.tup (sg.map V.str))∨(u=hu/\sg=aV)
theorem Hf.same{hu:Addr}{H H':Hp}{u:Addr}{sg:Zb}(h:Hf hu H u sg)(S:ac H H'):Hf hu H' u sg:=h.imp (S _ _) id
theorem BZ{K:Za}{a:Addr}{xs:List V}(h:∀H,bc K H a xs)(H:Hp):aY K H a xs:=by
 rcases h (fun _=>none)with(h|⟨o,h⟩)|h
 ·cases h
 ·cases h
 ·exact .inr h
section
variable{K:Za}{hu:Addr}(hh:∀H,bc K H hu (aV.map V.str))
include hh
theorem Hf.tup{H:Hp}{u:Addr}{sg:Zb}(h:Hf hu H u sg):aY K H u (sg.map V.str):=by
 rcases h with h|⟨rfl,rfl⟩
 ·exact .inl h
 ·exact BZ hh H
theorem Hf.sq{H:Hp}{u:Addr}{sg:Zb}(h:Hf hu H u sg):bc K H u (sg.map V.str):=by
 rcases h with h|⟨rfl,rfl⟩
 ·exact bc.of h
 ·exact hh H
end
inductive xE(C hu:Addr)(vs:List V)(H:Hp)(Q:VK)(E:XK):Prop
 |mk (x:Addr) (J0 J1 J2:Zb) (ds:List ak):(vs=[.ref x])->(bv C H x J0 J1 J2 ds)->(∀(l:Addr) (us:Ze) (H':Hp),H' l=some (.lst (us.map V.ref))->Paired (Hf hu H') us (bb J0 J1)->ac H H'->Q (.ref l) H')->xE C hu vs H Q E
theorem HN{K:Za}{C hu:Addr}{vs:List V}{H:Hp}{Q:VK}{E:XK}(h:xE C hu vs H Q E):qi K C (mB C) (oX C) hu (bM Q) (start qJ vs) H:=by
 obtain⟨x,J0,J1,J2,ds,rfl,M,k⟩:=h;have z1:=M.ok.asks4;have z2:=M.ok.says4;obtain⟨dx,fs,o1,o2,lv,lps,g1,a1,a2,_⟩:=nW M;refine⟨_,rfl,x,dx,fs,rfl,g1,a1,x,J0,J1,J2,ds,rfl,M,fun w1 hw1=>⟨w1,rfl,⟨_,ay.of aa⟩,fun la hla=>?_⟩⟩;have S0:ac H (upd H w1 (.lst (J0.map V.str))):=ac.new hw1;refine uu (kd:="ask") (ws:=J0) aa (by omega) hla fun ua H1 h1 hP1 S1=>?_;have M1:=M.same (S0.trans S1);obtain⟨dx,fs,o1,o2,lv,lps,g1,a1,a2,_⟩:=nW M1;refine⟨_,rfl,x,dx,fs,rfl,g1,a2,x,J0,J1,J2,ds,rfl,M1,fun w2 hw2=>⟨w2,rfl,⟨_,ay.of aa⟩,fun ls hls=>?_⟩⟩;have S2:ac H1 (upd H1 w2 (.lst (J1.map V.str))):=ac.new hw2;refine uu (kd:="say") (ws:=J1) aa (by omega) hls fun us H2 h2 hP2 S3=>?_;have S23:=S2.trans S3;have h12:=S23 _ _ h1;have hP12:=yr.kt (ac.kt S23) hP1;refine⟨la,ls,_,_,rfl,rfl,h12,h2,?_,fun c1 hc1=>?_⟩
 ·rw[aj,aj,Paired.length hP1,Paired.length hP2,aj,aj];exact fk (aq (by omega))
 refine⟨(by show 1<=ai;decide),fun hl hhl=>?_⟩;refine⟨c1,hl,_,_,rfl,rfl,kp aa hhl,aa,?_,fun r hr=>?_⟩
 ·rw[aL,aj,aj,Paired.length hP1,Paired.length hP2,aj,aj];exact fk (aq (by show _+1<=1000;omega))
 have S4:=((ac.new (o:=.lst (ua.map V.ref++us.map V.ref)) hc1).trans (ac.new (o:=.lst [.ref hu]) hhl)).trans (ac.new (o:=.lst (ua.map V.ref++us.map V.ref++[.ref hu])) hr);refine k r (ua++us++[hu]) _ ?_ ?_ (((S0.trans S1).trans S23).trans S4)
 ·rw[aa,aw,aw];rfl
 ·exact Paired.app (Paired.app (Paired.mapP (yr.kt (ac.kt S4) hP12) fun _ _ r=>.inl r) (Paired.mapP (yr.kt (ac.kt S4) hP2) fun _ _ r=>.inl r)) (.cons (.inr ⟨rfl,rfl⟩) .nil)
theorem lW{J0 J1 J2:Zb}{ds:List ak}(m:aK J0 J1 J2 ds):(bb J0 J1).Nodup:=by
 unfold bb;have i1:∀a b:Str,cY a=cY b->a=b:=fun a b h=>by unfold cY at h;injection h with _ h;injection h
 have i2:∀a b:Str,lK a=lK b->a=b:=fun a b h=>by unfold lK at h;injection h with _ h;injection h
 have nd:∀{f:Str->List Str}{l:Zb},(∀a b,f a=f b->a=b)->l.Nodup->(l.map f).Nodup:=by
  intro f l hf hl;rw[pZ,List.pairwise_map];exact(pZ.1 hl).imp fun h e=>h (hf _ _ e)
 rw[cP,cP];refine⟨⟨nd i1 m.okA.1,nd i2 m.okS.1,?_⟩,by simp,?_⟩
 ·intro x hx y hy e;obtain⟨a,_,rfl⟩:=ax.1 hx;obtain⟨b,_,rfl⟩:=ax.1 hy;unfold cY lK at e;injection e with e _;exact absurd e (by decide)
 ·intro x hx y hy e;rw[aX.1 hy]at e;rcases bd.1 hx with hx|hx
  ·obtain⟨a,_,rfl⟩:=ax.1 hx;unfold cY aV at e;injection e with _ e;cases e
  ·obtain⟨a,_,rfl⟩:=ax.1 hx;unfold lK aV at e;injection e with _ e;cases e
abbrev kZ(H:Hp)(kvs:List (TK×V))(L:List (Sg×List Str)):Prop:=Paired (fun(kv:TK×V) (p:Sg×List Str)=>kv.1=fj p.1/\∃u,kv.2=.ref u/\H u=some (.tup (p.2.map V.str))) kvs L
theorem xi{κ:Type}[DecidableEq κ]{kvs:List (κ×V)}{k:κ}(h:∀kv∈kvs,kv.1≠k):br kvs k=none:=by
 unfold br;rw[List.find?_eq_none.2 fun kv hkv=>by simpa using h kv hkv]
 rfl
theorem cN(sg:Zb):(fj sg).depth<=8:=by
 have:∀l:List Str,TK.depths (l.map mS)=0:=by
  intro l
  induction l with
  |nil=>rfl
  |cons a l ih=>show max (TK.depth (mS a)) (TK.depths _)=0;rw[ih];rfl
 show TK.depths (sg.map mS)+1<=8;rw[this];decide
def stG(J2:Zb)(ds:List ak)(J6:Zb)(L:List (List Str)):List (Sg×List Str):=(L.map fun sg=>(sg,behF J2 ds J6 sg)).filter fun p=>decide (p.2≠[])
theorem za(J2:Zb)(ds:List ak)(J6:Zb)(L:List (List Str))(sg:Zb):stG J2 ds J6 (L++[sg])=stG J2 ds J6 L++if behF J2 ds J6 sg=[]then[]else[(sg,behF J2 ds J6 sg)]:=by
 unfold stG;rw[aw,sw];congr 1;by_cases c:behF J2 ds J6 sg=[]
 ·rw[if_pos c];simp[c]
 ·rw[if_neg c];simp[c]
theorem Gp{J2:Zb}{ds:List ak}{J6:Zb}{L:List (List Str)}{p:Sg×List Str}(h:p∈stG J2 ds J6 L):p.1∈L:=by
 obtain⟨sg,hs,rfl⟩:=ax.1 (bF.1 h).1;exact hs
theorem Ca{J2:Zb}{ds:List ak}{J6:Zb}{L:List (List Str)}:(stG J2 ds J6 L).length<=L.length:=by
 unfold stG;exact bG (dP _ _) (by rw[aj];exact aB _)
theorem kZ.kt{H H':Hp}{kvs:List (TK×V)}{L:List (Sg×List Str)}(k:hU H H')(h:kZ H kvs L):kZ H' kvs L:=Paired.mapP h fun _ _ ⟨e,u,e2,r⟩=>⟨e,u,e2,k _ _ r⟩
theorem kZ.no{H:Hp}{kvs:List (TK×V)}{L:List (Sg×List Str)}(h:kZ H kvs L){sg:Sg}(n:∀p∈L,p.1≠sg):br kvs (fj sg)=none:=by
 refine xi ?_
 induction h with
 |nil=>intro kv hk;exact nomatch hk
 |@cons a b as bs r t ih =>
  intro kv hk;rcases cO.1 hk with rfl|hk
  ·rw[r.1];exact fun e=>n b dO (iA e)
  ·exact ih (fun p hp=>n p (eI _ hp)) kv hk
theorem pk{α:Type}{L:List α}(nd:L.Nodup){i:Nat}{x:α}(e:L[i]?=some x):¬x∈L.take i:=by
 intro h;obtain⟨j,hj,ej⟩:=wq h;rw[aE]at hj;have hi:i<L.length:=by rcases iR i L.length with z|z;exact z;rw[fQ z]at e;cases e
 rw[List.getElem_take]at ej;rw[bY hi]at e;injection e with e;exact List.pairwise_iff_getElem.1 (pZ.1 nd) j i (by omega) hi (by omega) (ej.trans e.symm)
theorem CF{H:Hp}{d:Addr}{kvs:List (TK×V)}{o:HO}(h:H d=some (.dT kvs)):hU H (upd H d o):=fun b xs e=>by rw[ag (fun z=>by rw[z,h]at e;cases e)];exact e
theorem mY{b:Bool}{P X Y:Prop}(h:b=true↔P)(h1:P->X)(h2:¬P->Y):if b=true then X else Y:=by
 cases b with
 |true=>exact h1 (h.1 rfl)
 |false=>exact h2 fun z=>by cases h.2 z
inductive kh(C:Addr)(vs:List V)(H:Hp)(Q:VK)(E:XK):Prop
 |mk (x t:Addr) (J6 J0 J1 J2:Zb) (ds:List ak):(vs=[.ref x,.ref t])->(bv C H x J0 J1 J2 ds)->(H t=some (.tup (J6.map V.str)))->((∀r∈J6,r∈J2))->(J6.length<=1000)->(∀(d:Addr) (kvs:List (TK×V)) (H':Hp),H' d=some (.dT kvs)->kZ H' kvs (stepsF J0 J1 J2 ds J6)->H d=none->ac H H'->Q (.ref d) H')->kh C vs H Q E
def pi:Nat->List (List Str)->List (TK×V)
 |_,[]=>[]
 |n,f::r=>(fj f,.int (n:Nat))::pi (n+1) r
theorem vW(f:Zb):∀(fs:List (List Str)) (n:Nat),pi n (fs++[f])=pi n fs++[(fj f,.int ((n+fs.length:Nat)))]
 |[],n=>rfl
 |x::r,n=>by
  show _::pi (n+1) (r++[f])=_::(pi (n+1) r++_);rw[vW f r (n+1),d4,show n+1+r.length=n+(r.length+1) by omega]
theorem zH:∀(fs:List (List Str)) (n:Nat),(pi n fs).length=fs.length
 |[],n=>rfl
 |x::r,n=>by show _+1=_+1;rw[zH r (n+1)]
theorem lU(f:Zb):∀(fs:List (List Str)) (n:Nat),br (pi n fs) (fj f)=if f∈fs then some (.int ((n+fs.idxOf f:Nat)))else none
 |[],n=>rfl
 |x::r,n=>by
  by_cases c:x=f
  ·subst c;rw[if_pos dO];show br ((fj x,_)::_) _=_;rw[cr rfl];rw[List.idxOf_cons_self];rfl
  ·show br ((fj x,_)::_) _=_;rw[bW (fun e=>c (iA e)),lU f r (n+1)];by_cases d:f∈r
   ·rw[if_pos d,if_pos (eI _ d)];have e:(x::r).idxOf f=r.idxOf f+1:=by rw[List.idxOf_cons,show(x==f)=false from beq_false_of_ne c];rfl
    rw[e,show n+1+r.idxOf f=n+(r.idxOf f+1) by omega]
   ·rw[if_neg d,if_neg (by simp[dB c,d])]
abbrev jm(K:Za)(H:Hp)(w:Addr)(s:List Sg):Prop:=∃gs:List Addr,H w=some (.lst (gs.map V.ref))/\Paired (fun g (sg:Sg)=>aY K H g (sg.map V.str)) gs s
structure FC(K:Za)(C:Addr):Prop where
 cls:C1 K C
 a1:dW K C "machine"
 a2:dW K C "faces"
 a3:dW K C "first_stories"
 a4:dW K C "numbers"
 a5:dW K C "steps"
def IV(C:Addr)(H:Hp)(x M fa sa na ta:Addr):Prop:=∃(dx:Addr) (fs:List (Str×V)),H x=some (.ins C dx fs)/\lk "machine" fs=some (.ref M)/\lk "faces" fs=some (.ref fa)/\lk "first_stories" fs=some (.ref sa)/\lk "numbers" fs=some (.ref na)/\lk "steps" fs=some (.ref ta)/\lk "number_at" fs=none/\lk "numbered_steps" fs=none
structure ic(K:Za)(C:Addr)(H:Hp)(x M fa sa na ta:Addr)(us ws:Ze)(m:gL):Prop where
 ob:IV C H x M fa sa na ta
 hfa:H fa=some (.lst (us.map V.ref))
 faces:Paired (fun u (f:Zb)=>H u=some (.tup (f.map V.str))) us m.fs
 hsa:H sa=some (.lst (ws.map V.ref))
 stories:Paired (fun w s=>(w≠fa/\w≠sa/\w≠ta)/\jm K H w s) ws m.ss
 hna:H na=some (.dT (pi 0 m.fs))
 ne:fa≠sa/\fa≠ta/\sa≠ta
theorem aY.kt{K:Za}{H H':Hp}{a:Addr}{xs:List V}(k:hU H H')(h:aY K H a xs):aY K H' a xs:=h.keeps k
theorem jm.kt{K:Za}{H H':Hp}{w:Addr}{s:List Sg}(k:hU H H')(e:∀o,H w=some o->H' w=some o)(h:jm K H w s):jm K H' w s:=by
 obtain⟨gs,h1,h2⟩:=h;exact⟨gs,e _ h1,Paired.mapP h2 fun _ _ r=>aY.kt k r⟩
def Io(fa sa na:Addr)(H H':Hp):Prop:=∀b o,H b=some o->b≠fa->b≠sa->b≠na->H' b=some o
theorem Io.refl(fa sa na:Addr)(H:Hp):Io fa sa na H H:=fun _ _ e _ _ _=>e
theorem ic.same{K:Za}{C x M fa sa na ta:Addr}{us ws:Ze}{m:gL}{H H':Hp}(h:ic K C H x M fa sa na ta us ws m)(S:ac H H'):ic K C H' x M fa sa na ta us ws m:=by
 obtain⟨⟨dx,fs,g,r⟩,h1,h2,h3,h4,h5,h6⟩:=h;exact⟨⟨dx,fs,S _ _ g,r⟩,S _ _ h1,Paired.mapP h2 fun _ _ r=>S _ _ r,S _ _ h3,Paired.mapP h4 fun _ _ r=>⟨r.1,r.2.kt (ac.kt S) fun o e=>S _ _ e⟩,S _ _ h5,h6⟩
theorem ic.move{K:Za}{C x M fa sa na ta:Addr}{us ws:Ze}{m:gL}{H:Hp}{d:Addr}{o:HO}{kvs:List (TK×V)}(h:ic K C H x M fa sa na ta us ws m)(hd:H d=some (.dT kvs))(n:d≠na):ic K C (upd H d o) x M fa sa na ta us ws m:=by
 have k:hU H (upd H d o):=CF hd;obtain⟨⟨dx,fs,g,r⟩,h1,h2,h3,h4,h5,h6⟩:=h;refine⟨⟨dx,fs,by rw[ag (fun z=>by rw[z,hd]at g;cases g)];exact g,r⟩,by rw[ag (fun z=>by rw[z,hd]at h1;cases h1)];exact h1,Paired.mapP h2 fun _ _ r=>k _ _ r,by rw[ag (fun z=>by rw[z,hd]at h3;cases h3)];exact h3,Paired.mapP h4 fun w s r=>⟨r.1,?_⟩,by rw[ag n.symm];exact h5,h6⟩;obtain⟨gs,g1,g2⟩:=r.2;exact⟨gs,by rw[ag (fun z=>by rw[z,hd]at g1;cases g1)];exact g1,Paired.mapP g2 fun _ _ r=>aY.kt k r⟩
inductive lF(K:Za)(C:Addr)(vs:List V)(H:Hp)(Q:VK)(E:XK):Prop
 |mk (x M fa sa na ta u st:Addr) (us ws:Ze) (m:gL) (J6:Zb) (story:List Sg):(vs=[.ref x,.ref u,.ref st])->(ic K C H x M fa sa na ta us ws m)->(H u=some (.tup (J6.map V.str)))->(jm K H st story)->((st≠fa/\st≠sa/\st≠ta))->(m.fs.length<400)->(m.ss.length<400)->(∀(us' ws':Ze) (H':Hp),ic K C H' x M fa sa na ta us' ws' (m.add J6 story)->Io fa sa na H H'->Q (.int (((m.add J6 story).fs.idxOf J6:Nat))) H')->lF K C vs H Q E
theorem EF{K:Za}{C:Addr}(c:FC K C){vs:List V}{H:Hp}{Q:VK}{E:XK}(h:lF K C vs H Q E):mM K (bM Q) (start m8 vs) H:=by
 obtain⟨x,M,fa,sa,na,ta,u,st,us,ws,m,J6,story,rfl,F,hu,hst,ns,z1,z2,k⟩:=h;obtain⟨dx,fs,g,l1,l2,l3,l4,l5,l6,l7⟩:=F.ob;have tk:jc K H (fj J6) (.ref u):=cW.isIn 8 (cN J6) (SignAt.tk hu);have g1:ip K H na (.ref u) (br (pi 0 m.fs) (fj J6)):=.inr ⟨_,_,_,.inl F.hna,rfl,tk,cN J6,rfl⟩;refine⟨_,rfl,_,rfl,x,C,dx,fs,.ref na,rfl,g,c.cls,c.a4,l4,na,_,rfl,g1,_,rfl,?_⟩;rw[lU];refine mY (P:=¬J6∈m.fs) (by by_cases c:J6∈m.fs<;>simp[c]) (fun nin=>?_) (fun nin=>?_);rotate_left
 ·have hin:=iQ.1 nin;have e:=gL.add_in (s:=story) hin;refine⟨_,rfl,x,C,dx,fs,.ref na,rfl,g,c.cls,c.a4,l4,_,rfl,na,.int ((m.fs.idxOf J6:Nat)),rfl,?_,?_⟩
  ·rw[lU,if_pos hin,wo]at g1;exact g1
  ·have:=k us ws H (by rw[e];exact F) (.refl _ _ _ _);rw[e]at this;exact this
 have e:=gL.add_new (s:=story) nin;have zl:(us.map V.ref).length=m.fs.length:=by rw[aj,Paired.length F.faces]
 have zs:(ws.map V.ref).length=m.ss.length:=by rw[aj,Paired.length F.stories]
 refine⟨_,rfl,x,C,dx,fs,.ref fa,rfl,g,c.cls,c.a2,l2,.inl ⟨fa,_,rfl,.inl (ay.of F.hfa),rfl,_,rfl,?_⟩⟩;refine mY (P:=False) (by rw[zl];simp;omega) (fun z=>z.elim) fun _=>?_;have tka:cW H (fj J6) (.ref u):=SignAt.tk hu;refine⟨_,rfl,x,C,dx,fs,.ref fa,rfl,g,c.cls,c.a2,l2,.inl ⟨fa,_,rfl,.inl (ay.of F.hfa),_,rfl,x,C,dx,fs,.ref na,rfl,g,c.cls,c.a4,l4,_,rfl,na,_,rfl,.inr ⟨_,_,u,F.hna,rfl,tka,cN J6,?_,rfl⟩,?_⟩⟩
 ·rw[zH];exact aq (by omega)
 rw[df _ (by rw[lU,if_neg nin]),zl];have e1:pi 0 m.fs++[(fj J6,V.int (m.fs.length:Nat))]=pi 0 (m.fs++[J6]):=by rw[vW,wo]
 rw[e1];have kna:hU H (upd H na (.dT (pi 0 (m.fs++[J6])))):=CF F.hna;generalize hH1:upd H na (.dT (pi 0 (m.fs++[J6])))=H1 at kna ⊢;have nx:x≠na:=fun z=>by rw[z,F.hna]at g;cases g
 have nxf:x≠fa:=fun z=>by rw[z,F.hfa]at g;cases g
 have nxs:x≠sa:=fun z=>by rw[z,F.hsa]at g;cases g
 have nfa:fa≠na:=fun z=>by have:=F.hfa;rw[z,F.hna]at this;cases this
 have nsa:sa≠na:=fun z=>by have:=F.hsa;rw[z,F.hna]at this;cases this
 have fa1:H1 fa=some (.lst (us.map V.ref)):=by rw[<-hH1,ag nfa];exact F.hfa
 have sa1:H1 sa=some (.lst (ws.map V.ref)):=by rw[<-hH1,ag nsa];exact F.hsa
 have g1':H1 x=some (.ins C dx fs):=by rw[<-hH1,ag nx];exact g
 refine⟨_,rfl,x,C,dx,fs,.ref fa,rfl,g1',c.cls,c.a2,l2,.inl ⟨rfl,_,ay.of fa1⟩,_,rfl,fa,_,.ref u,rfl,rfl,fa1,?_,?_⟩
 ·rw[zl];exact aq (by omega)
 generalize hH2:upd H1 fa (.lst (us.map V.ref++[.ref u]))=H2;have k2:hU H1 H2:=by rw[<-hH2];exact cR fa1
 have sa2:H2 sa=some (.lst (ws.map V.ref)):=by rw[<-hH2,ag F.ne.1.symm];exact sa1
 have g2:H2 x=some (.ins C dx fs):=by rw[<-hH2,ag nxf];exact g1'
 refine⟨_,rfl,x,C,dx,fs,.ref sa,rfl,g2,c.cls,c.a3,l3,.inl ⟨rfl,_,ay.of sa2⟩,_,rfl,sa,_,.ref st,rfl,rfl,sa2,?_,?_⟩
 ·rw[zs];exact aq (by omega)
 generalize hH3:upd H2 sa (.lst (ws.map V.ref++[.ref st]))=H3;have k3:hU H2 H3:=by rw[<-hH3];exact cR sa2
 have kt:hU H H3:=(kna.trans k2).trans k3;have ex:Io fa sa na H H3:=fun b o e n1 n2 n3=>by rw[<-hH3,ag n2,<-hH2,ag n1,<-hH1,ag n3];exact e
 have g3:H3 x=some (.ins C dx fs):=ex _ _ g nxf nxs nx;have na3:H3 na=some (.dT (pi 0 (m.fs++[J6]))):=by rw[<-hH3,ag nsa.symm,<-hH2,ag nfa.symm,<-hH1,aa]
 have fa3:H3 fa=some (.lst ((us++[u]).map V.ref)):=by rw[<-hH3,ag F.ne.1,<-hH2,aa,aw];rfl
 have sa3:H3 sa=some (.lst ((ws++[st]).map V.ref)):=by rw[<-hH3,aa,aw];rfl
 have sto:∀{w:Addr}{s:List Sg},(w≠fa/\w≠sa/\w≠ta)->jm K H w s->jm K H3 w s:=fun n r=>by
  obtain⟨gs,q1,q2⟩:=r;exact⟨gs,ex _ _ q1 n.1 n.2.1 (fun z=>by rw[z,F.hna]at q1;cases q1),Paired.mapP q2 fun _ _ r=>aY.kt kt r⟩
 have F3:ic K C H3 x M fa sa na ta (us++[u]) (ws++[st]) (m.add J6 story):=by
  rw[e];exact⟨⟨dx,fs,g3,l1,l2,l3,l4,l5,l6,l7⟩,fa3,dv (Paired.mapP F.faces fun _ _ r=>kt _ _ r) (kt _ _ hu),sa3,dv (Paired.mapP F.stories fun _ _ r=>⟨r.1,sto r.1 r.2⟩) ⟨ns,sto ns hst⟩,na3,F.ne⟩
 have tk3:jc K H3 (fj J6) (.ref u):=cW.isIn 8 (cN J6) (SignAt.tk (kt _ _ hu));have hin:J6∈m.fs++[J6]:=by simp
 have g5:ip K H3 na (.ref u) (some (.int ((m.add J6 story).fs.idxOf J6:Nat))):=by
  refine .inr ⟨_,fj J6,u,.inl na3,rfl,tk3,cN J6,?_⟩;rw[lU,if_pos hin,wo,e]
 exact⟨_,rfl,x,C,dx,fs,.ref na,rfl,g3,c.cls,c.a4,l4,_,rfl,na,_,rfl,g5,k _ _ H3 F3 ex⟩
theorem v7{d:Addr}{o:Obj}{u:HO}{n:Nat}{ent:Nat->Hp->V->V->Prop}{g:TG}{tb:TS}{D:mn}{σ:L2.St}{H:Hp}(Pv:Nat->L2.St->Hp->Prop)(h0:Pv 0 σ H)(hl:∀i σ H,i<=n->Pv i σ H->H d=some (.frz o u))
  (hs:∀i σ H p a b,i<n->Pv i σ H->H p=none->ent i H a b->g (.ref p) σ (upd H p (.tup [a,b])) fun σ2 H2=>tb { D with nx:=Pv (i+1),ct:=Pv (i+1),bk:=D.nx } σ2 H2) (hd:∀σ H,Pv n σ H->D.nx σ H) :
  ∃W:Nat->Nat->L2.St->Hp->Prop,(∃m,W 0 m σ H)/\∀i m σ H,W i m σ H ->
   ((Hm d o u n ent).stop i H/\D.nx σ H)∨((Hm d o u n ent).go i H/\∃N:L2.St->Hp->Prop,(∀σ' H',N σ' H'->∃m',m'<m/\W (i+1) m' σ' H')/\∀x H',(Hm d o u n ent).yld i H x H'->g x σ H' fun σ2 H2=>tb { D with nx:=N,ct:=N,bk:=D.nx } σ2 H2):=by
 refine⟨fun i m σ H=>m=n-i/\i<=n/\Pv i σ H,⟨n,by simp,db _,h0⟩,?_⟩;rintro i m σ H ⟨rfl,hi,p⟩;have q:=hl i σ H hi p;by_cases lt:i<n
 ·refine .inr ⟨⟨q,lt⟩,Pv (i+1),fun σ' H' p'=>⟨n-(i+1),by omega,rfl,lt,p'⟩,fun x H' y=>?_⟩;obtain⟨t,a,b,hn,rfl,en,rfl⟩:=y;exact hs i σ H t a b lt p hn en
 ·have e:i=n:=by omega
  subst e;exact .inl ⟨⟨q,aB _⟩,hd σ H p⟩
def stK(l:List (Sg×Nat)):List (TK×V):=l.map fun a=>(fj a.1,.int (a.2:Nat))
def Ed(L:Ze)(H H':Hp):Prop:=∀b o,H b=some o->b∉L->H' b=some o
theorem Ed.refl(L:Ze)(H:Hp):Ed L H H:=fun _ _ e _=>e
theorem Ed.trans{L:Ze}{H H1 H2:Hp}(a:Ed L H H1)(b:Ed L H1 H2):Ed L H H2:=fun c o e n=>b c o (a c o e n) n
theorem ac.exL{L:Ze}{H H':Hp}(S:ac H H'):Ed L H H':=fun b o e _=>S b o e
theorem Io.exL{fa sa na:Addr}{L:Ze}{H H':Hp}(a:Io fa sa na H H')(s:fa∈L/\sa∈L/\na∈L):Ed L H H':=fun b o e n=>a b o e (fun z=>n (z▸s.1)) (fun z=>n (z▸s.2.1)) (fun z=>n (z▸s.2.2))
theorem Ed.upd{L:Ze}{H:Hp}{d:Addr}{o:HO}(h:d∈L):Ed L H (upd H d o):=fun b u e n=>by rw[ag (fun z:b=d=>n (by rw[z];exact h))];exact e
theorem Good.grow_len{J2:Zb}{m:gL}(g:Good J2 m)(hr:J2.length<=8):m.fs.length<400/\m.ss.length<400:=by
 have h1:=g.few hr;have h2:=g.len;omega
theorem vJ{K:Za}{H:Hp}:∀{sg:Zb}{xs:List V},TKCs K H (sg.map mS) xs->xs=sg.map V.str
 |[],xs,h=>by rw[List.map_nil]at h;unfold TKCs at h;exact h
 |s::sg,xs,h=>by
  rw[bN]at h;unfold TKCs at h;obtain⟨v,us,rfl,h1,h2⟩:=h;unfold mS mK at h1;rw[h1,vJ h2]
  rfl
theorem sZ{K:Za}{H:Hp}{sg:Zb}{a:V}(h:mK K H (fj sg) a):∃b,a=.ref b/\aY K H b (sg.map V.str):=by
 unfold fj mK at h;obtain⟨b,xs,rfl,h1,h2⟩:=h;rw[vJ h2]at h1;exact⟨b,rfl,h1⟩
theorem xC{J0 J1 J2 J6:Zb}{ds:List ak}(m:aK J0 J1 J2 ds):((stepsF J0 J1 J2 ds J6).map (·.1)).Nodup:=by
 have nd:=lW m;unfold stepsF;refine List.Nodup.sublist (List.Sublist.map _ List.filter_sublist) ?_;rw[pY];have e:((fun p:Sg×List Str=>p.1) ∘ fun sg=>(sg,behF J2 ds J6 sg))=id:=rfl;rw[e,List.map_id];exact nd
theorem vU(s:List Sg)(m:gL)(L:List (Sg×List Str)):(eN s m L).2.map (·.1)=L.map (·.1):=by
 have key:∀n,n<=L.length->(eN s m (L.take n)).2.map (·.1)=(L.take n).map (·.1):=by
  intro n
  induction n with
  |zero=>intro _;rfl
  |succ n ih =>
   intro hn;have hp:L[n]?=some L[n]:=bY (by omega);rw[take_snoc hp,jY];show((eN s m (L.take n)).2++[(L[n].1,_)]).map (fun a:Sg×Nat=>a.1)=_;rw[aw,aw,ih (by omega)]
   rfl
 have:=key L.length (aB _);rw[aT]at this;exact this
theorem pQ.atS{m m':gL}(h:pQ m m'){i:Nat}{f:List Sg}(e:m.ss[i]?=some f):m'.ss[i]?=some f:=by
 obtain⟨_,⟨r,q⟩⟩:=h;rw[q,fe (by rcases iR i m.ss.length with z|z;exact z;rw[fQ z]at e;cases e),e]
theorem ic.ex3{K:Za}{C x M fa sa na ta:Addr}{us ws:Ze}{m:gL}{H H':Hp}(h:ic K C H x M fa sa na ta us ws m)(e:Io fa sa na H H'):hU H H':=fun b xs q =>
 e b _ q (fun z=>by rw[z,h.hfa]at q;cases q) (fun z=>by rw[z,h.hsa]at q;cases q) (fun z=>by rw[z,h.hna]at q;cases q)
inductive jg(K:Za)(C Cm:Addr)(vs:List V)(H:Hp)(Q:VK)(E:XK):Prop
 |mk (x M fa sa na ta:Addr) (us ws:Ze) (m:gL) (n:Nat) (J0 J1 J2:Zb) (ds:List ak):(vs=[.ref x,.int (n:Nat)])->(ic K C H x M fa sa na ta us ws m)->(bv Cm H M J0 J1 J2 ds)->(Good J2 m)->(J2.length<=8)->(n<m.fs.length)->((∃vs,H ta=some (.lst vs)))->(∀(d:Addr) (us' ws':Ze) (H':Hp),ic K C H' x M fa sa na ta us' ws' (eN (m.ss.getD n []) m (stepsF J0 J1 J2 ds (m.fs.getD n []))).1->H' d=some (.dT (stK (eN (m.ss.getD n []) m (stepsF J0 J1 J2 ds (m.fs.getD n []))).2))->H d=none->Ed [fa,sa,na] H H'->Q (.ref d) H')->jg K C Cm vs H Q E
theorem zi{K:Za}{C Cm:Addr}(c:FC K C){vs:List V}{H:Hp}{Q:VK}{E:XK}(h:jg K C Cm vs H Q E):jy K (kh Cm) C (lF K C) (bM Q) (start jD vs) H:=by
 obtain⟨x,M,fa,sa,na,ta,us,ws,m,n,J0,J1,J2,ds,rfl,F,MA,gd,hr,hn,⟨tvs,hta⟩,k⟩:=h;have hfn:m.fs[n]?=some m.fs[n]:=bY hn;have hsn:n<m.ss.length:=by rw[gd.len];exact hn
 have hss:m.ss[n]?=some m.ss[n]:=bY hsn;have ef:m.fs.getD n []=m.fs[n]:=by simp[hn]
 have es:m.ss.getD n []=m.ss[n]:=by simp[hsn]
 rw[ef,es]at k;have hF:=gd.isF m.fs[n] (lb _);have hFl:=hF.len;obtain⟨u,hu,hut⟩:=Paired.get F.faces hfn;obtain⟨w,hw,hwn,hwt⟩:=Paired.get F.stories hss;have atw:pW (ws.map V.ref) n=some (.ref w):=aS (by rw[bZ,hw];rfl);have atu:pW (us.map V.ref) n=some (.ref u):=aS (by rw[bZ,hu];rfl);refine fun d hd=>?_;have S0:ac H (upd H d (.dT [])):=ac.new hd;have F0:=F.same S0;obtain⟨dx,fs,g,l1,l2,l3,l4,l5,l6,l7⟩:=F0.ob;refine⟨_,rfl,x,C,dx,fs,.ref M,rfl,g,c.cls,c.a1,l1,_,rfl,x,C,dx,fs,.ref fa,rfl,g,c.cls,c.a2,l2,_,rfl,fa,_,_,_,rfl,rfl,ay.of F0.hfa,atu,M,u,m.fs[n],J0,J1,J2,ds,rfl,MA.same S0,S0 _ _ hut,hF.sub,by omega,fun d0 kvs H1 hd0 st hd0' S1=>?_⟩;have F1:=F0.same S1;have nd0:d0≠d:=fun z=>by rw[z,aa]at hd0';cases hd0'
 have fr:∀{b:Addr}{o:HO},H b=some o->b≠d0:=fun e=>ae (S0 _ _ e) hd0';have frd:∀{b:Addr}{o:HO},H b=some o->b≠d:=fun e=>ae e hd;obtain⟨dx',fs',gx,_⟩:=F.ob;refine⟨d0,kvs,rfl,.inl ⟨hd0,fun o=>?_⟩⟩;have F2:=F1.move (o:=.frz o (.dT kvs)) hd0 (dB (fr F.hna));have kt12:hU H1 (upd H1 d0 (.frz o (.dT kvs))):=CF hd0;have d2:upd H1 d0 (.frz o (.dT kvs)) d=some (.dT []):=by rw[ag nd0.symm];exact S1 _ _ aa
 have ta2:upd H1 d0 (.frz o (.dT kvs)) ta=some (.lst tvs):=by rw[ag (fr hta)];exact S1 _ _ (S0 _ _ hta)
 have f2:upd H1 d0 (.frz o (.dT kvs)) d0=some (.frz o (.dT kvs)):=aa;have e02:∀b o',H b=some o'->upd H1 d0 (.frz o (.dT kvs)) b=some o':=fun b o' e=>by rw[ag (fr e)];exact S1 _ _ (S0 _ _ e)
 have st2:=st.kt kt12;generalize upd H1 d0 (.frz o (.dT kvs))=H2 at F2 kt12 d2 ta2 f2 st2 e02 ⊢;have hLF:∀p∈stepsF J0 J1 J2 ds m.fs[n],pP J2 p.2:=tM hF;have zL:(stepsF J0 J1 J2 ds m.fs[n]).length<=9:=by
  have z1:=MA.ok.asks4;have z2:=MA.ok.says4;refine bG (Ca (L:=bb J0 J1)) ?_;unfold bb;rw[aL,aL,aj,aj];show _+1<=9;omega
 have ndL:=xC (J6:=m.fs[n]) MA.ok;generalize stepsF J0 J1 J2 ds m.fs[n]=L at st st2 hLF ndL zL k ⊢;have gq:∀i,Good J2 (eN m.ss[n] m (L.take i)).1/\pQ m (eN m.ss[n] m (L.take i)).1:=fun i=>by
  obtain⟨h1,h2,_⟩:=vV (s:=m.ss[n]) gd (by have:=gd.sl _ _ hss;omega) (L.take i) fun p hp=>hLF p (fC hp);exact⟨h1,h2⟩
 have nfd:fa≠d:=frd F.hfa;have nsd:sa≠d:=frd F.hsa;have nnd:na≠d:=frd F.hna;refine v7 (fun i σ H'=>∃(us' ws':Ze) (x3 x4:Option V),σ=[some (.ref x),some (.int (n:Nat)),some (.ref d),x3,x4]/\ic K C H' x M fa sa na ta us' ws' (eN m.ss[n] m (L.take i)).1/\H' d=some (.dT (stK (eN m.ss[n] m (L.take i)).2))/\Ed [fa,sa,na,d] H2 H'/\hU H2 H')
  ⟨us,ws,_,_,rfl,F2,d2,.refl _ _,fun _ _ e=>e⟩ ?_ ?_ ?_
 ·rintro i σ H' _ ⟨_,_,_,_,_,_,_,ex,_⟩;exact ex _ _ f2 (by simp[dB (fr F.hfa),dB (fr F.hsa),dB (fr F.hna),nd0])
 ·rintro i σ H3 p a b hi ⟨us',ws',x3,x4,rfl,F3,d3,ex3,kt3⟩ hp ⟨key,ek,tkc⟩;obtain⟨pr,hpr,rfl,uf,rfl,huf⟩:=Paired.getL st2 ek;obtain⟨sga,rfl,hsga⟩:=sZ tkc;obtain⟨gd3,gr3⟩:=gq i;obtain⟨z1,z2⟩:=gd3.grow_len hr;obtain⟨w',hw',hwn',gs,hg1,hg2⟩:=Paired.get F3.stories (gr3.atS hss);have atw':pW (ws'.map V.ref) n=some (.ref w'):=aS (by rw[bZ,hw'];rfl);have Sp:ac H3 (upd H3 p (.tup [.ref sga,.ref uf])):=ac.new hp;have hp4:upd H3 p (.tup [.ref sga,.ref uf]) p=some (.tup [.ref sga,.ref uf]):=aa;generalize upd H3 p (.tup [.ref sga,.ref uf])=H4 at Sp hp4 ⊢;refine⟨p,_,rfl,bc.of hp4,rfl,_,_,rfl,_,_,rfl,rfl,?_⟩;have F4:=F3.same Sp;obtain⟨dx4,fs4,g4,m1,m2,m3,m4,m5,m6,m7⟩:=F4.ob;have hw4:=Sp _ _ hg1;refine⟨_,rfl,x,dx4,fs4,rfl,g4,m6,_,rfl,_,rfl,x,C,dx4,fs4,.ref sa,rfl,g4,c.cls,c.a3,m3,_,rfl,sa,_,_,_,rfl,rfl,ay.of F4.hsa,atw',_,rfl,(by show 1<=ai;decide),fun ll hll=>?_⟩;have Sl:ac H4 (upd H4 ll (.lst [.ref sga])):=ac.new hll;have hl5:upd H4 ll (.lst [.ref sga]) ll=some (.lst [.ref sga]):=aa;generalize upd H4 ll (.lst [.ref sga])=H5 at Sl hl5 ⊢;have zw:gs.length<=400:=by rw[Paired.length hg2];have:=gd.sl _ _ hss;have:=gd.few hr;omega
  refine⟨w',ll,_,_,rfl,rfl,Sl _ _ hw4,hl5,(by rw[aj];exact fk (aq (by show _+1<=1000;omega))),fun p2 hp2=>?_⟩;have S2:ac H5 (upd H5 p2 (.lst (gs.map V.ref++[.ref sga]))):=ac.new hp2;have hp6:upd H5 p2 (.lst (gs.map V.ref++[.ref sga])) p2=some (.lst ((gs++[sga]).map V.ref)):=by rw[aa,aw];rfl
  generalize upd H5 p2 (.lst (gs.map V.ref++[.ref sga]))=H6 at S2 hp6 ⊢;have S36:ac H3 H6:=(Sp.trans Sl).trans S2;have F6:=F3.same S36;have ta3:H3 ta=some (.lst tvs):=ex3 _ _ ta2 (by simp[F.ne.2.1.symm,F.ne.2.2.symm,frd hta];exact fun z=>by rw[z,F.hna]at hta;cases hta);have np:∀{b:Addr}{o:HO},H3 b=some o->p2≠b:=fun e=>dB (ae (Sl _ _ (Sp _ _ e)) hp2);have sto:jm K H6 p2 (m.ss[n]++[pr.1]):=⟨gs++[sga],hp6,dv (Paired.mapP hg2 fun _ _ r=>aY.kt (ac.kt S36) r) (aY.kt (ac.kt S36) hsga)⟩;refine⟨x,M,fa,sa,na,ta,uf,p2,us',ws',_,pr.2,m.ss[n]++[pr.1],rfl,F6,S36 _ _ (kt3 _ _ huf),sto,⟨np F3.hfa,np F3.hsa,np ta3⟩,z1,z2,fun us'' ws'' H7 F7 e7=>?_⟩;have k67:=F6.ex3 e7;have k37:hU H3 H7:=(ac.kt S36).trans k67;have d7:H7 d=some (.dT (stK (eN m.ss[n] m (L.take i)).2)):=e7 _ _ (S36 _ _ d3) nfd.symm nsd.symm nnd.symm;have ek7:br (stK (eN m.ss[n] m (L.take i)).2) (fj pr.1)=none:=by
   refine xi fun kv hkv e=>?_;obtain⟨q,hq,rfl⟩:=ax.1 hkv;have h1:q.1∈(L.take i).map (·.1):=by rw[<-vU m.ss[n] m];exact j9 hq
   rw[iA e,nB]at h1;exact pk ndL (by rw[bZ,hpr];rfl) h1
  have l7:(stK (eN m.ss[n] m (L.take i)).2).length<ai:=by
   have h1:=congrArg List.length (vU m.ss[n] m (L.take i));rw[aj,aj,aE]at h1;unfold stK;rw[aj,h1];exact aq (by omega)
  refine⟨_,rfl,_,rfl,d,sga,_,fj pr.1,rfl,rfl,d7,s_ (aY.kt k37 hsga),cN _,l7,us'',ws'',_,_,rfl,?_,?_,?_,?_⟩
  ·rw[take_snoc hpr,jY];exact F7.move d7 (dB nnd)
  ·rw[aa,df _ ek7,take_snoc hpr,jY];show _=some (HO.dT (stK ((eN m.ss[n] m (L.take i)).2++[_])));unfold stK;rw[aw]
   rfl
  ·exact(ex3.trans (ac.exL S36)).trans ((e7.exL ⟨by simp,by simp,by simp⟩).trans (Ed.upd (by simp)))
  ·exact(kt3.trans k37).trans (CF d7)
 ·rintro σ H3 ⟨us',ws',x3,x4,rfl,F3,d3,ex3,kt3⟩;rw[Paired.length st,aT]at F3 d3;refine⟨_,rfl,k d us' ws' H3 F3 d3 hd fun b o' e nb=>ex3 _ _ (e02 _ _ e) ?_⟩;simp at nb ⊢;exact⟨nb.1,nb.2.1,nb.2.2,frd e⟩
abbrev pN(H0:Hp)(na:Addr)(H:Hp)(ts:Ze)(st:List (List (Sg×Nat))):Prop:=Paired (fun d l=>H0 d=none/\d≠na/\H d=some (.dT (stK l))) ts st
inductive mz(K:Za)(C Cm:Addr)(vs:List V)(H:Hp)(Q:VK)(E:XK):Prop
 |mk (H0:Hp) (x dx M:Addr) (J0 J1 J2:Zb) (ds:List ak):(vs=[.ref x,.ref M])->(H x=some (.ins C dx []))->(bv Cm H0 M J0 J1 J2 ds)->(H0 x=none)->(ac H0 H)->(J2.length<=8)->(∀(fa sa na ta:Addr) (us ws ts:Ze) (S:pS) (j:Nat) (H':Hp),ic K C H' x M fa sa na ta us ws S.1->H' ta=some (.lst (ts.map V.ref))->pN H0 na H' ts S.2->ml J0 J1 J2 ds S->S.2.length=S.1.fs.length->S=itF J0 J1 J2 ds j->ac H0 H'->Q .non H')->mz K C Cm vs H Q E
theorem ic.moveT{K:Za}{C x M fa sa na ta:Addr}{us ws:Ze}{m:gL}{H:Hp}{xs ys:List V}(h:ic K C H x M fa sa na ta us ws m)(ht:H ta=some (.lst xs)):ic K C (upd H ta (.lst ys)) x M fa sa na ta us ws m:=by
 have k:hU H (upd H ta (.lst ys)):=cR ht;obtain⟨⟨dx,fs,g,r⟩,h1,h2,h3,h4,h5,h6⟩:=h;refine⟨⟨dx,fs,by rw[ag (fun z=>by rw[z,ht]at g;cases g)];exact g,r⟩,by rw[ag h6.2.1];exact h1,Paired.mapP h2 fun _ _ r=>k _ _ r,by rw[ag h6.2.2];exact h3,Paired.mapP h4 fun w s r=>⟨r.1,?_⟩,by rw[ag (fun z=>by rw[z,ht]at h5;cases h5)];exact h5,h6⟩;obtain⟨gs,g1,g2⟩:=r.2;exact⟨gs,by rw[ag r.1.2.2];exact g1,Paired.mapP g2 fun _ _ r=>aY.kt k r⟩
theorem Dp{K:Za}{C Cm:Addr}(c:FC K C){vs:List V}{H:Hp}{Q:VK}{E:XK}(h:mz K C Cm vs H Q E):nQ K C (jg K C Cm) (lF K C) (cz Cm) (bM Q) (start ow vs) H:=by
 obtain⟨H0,x,dx,M,J0,J1,J2,ds,rfl,hx,MA,hx0,S0,hr,k⟩:=h;have up:∀{H1 H2:Hp}{o:HO},ac H0 H1->H2=upd H1 x o->ac H0 H2:=fun S e b o q=>by rw[e,ag (ae q hx0)];exact S _ _ q
 refine⟨_,rfl,_,rfl,x,C,dx,[],rfl,hx,c.cls,c.a1,(by decide),?_⟩;obtain⟨H1,e1,hx1,X1⟩:=qF "machine" (.ref M) hx;rw[<-e1];have S1:=up S0 e1;have len1:(cI ("machine":Str) (.ref M) []).length<=1:=d_ _ _ _;refine⟨(by show 0<=ai;decide),fun fa hfa=>⟨_,rfl,x,C,dx,_,rfl,kp hx1 hfa,c.cls,c.a2,by omega,?_⟩⟩;obtain⟨H2,e2,hx2,X2⟩:=qF "faces" (.ref fa) (kp (x:=.lst []) hx1 hfa);rw[<-e2];have S2:=up (S1.trans (ac.new hfa)) e2;have nf:fa≠x:=(ae hx1 hfa).symm;have fa2:=X2 _ _ aa nf;have len2:=d_ ("faces":Str) (.ref fa) (cI ("machine":Str) (.ref M) []);refine⟨(by show 0<=ai;decide),fun sa hsa=>⟨_,rfl,x,C,dx,_,rfl,kp hx2 hsa,c.cls,c.a3,by omega,?_⟩⟩;obtain⟨H3,e3,hx3,X3⟩:=qF "first_stories" (.ref sa) (kp (x:=.lst []) hx2 hsa);rw[<-e3];have S3:=up (S2.trans (ac.new hsa)) e3;have ns:sa≠x:=(ae hx2 hsa).symm;have sa3:=X3 _ _ aa ns;have fa3:=X3 _ _ (kp (x:=.lst []) fa2 hsa) nf;have nfs:fa≠sa:=ae fa2 hsa;have len3:=d_ ("first_stories":Str) (.ref sa) (cI ("faces":Str) (.ref fa) (cI ("machine":Str) (.ref M) []));refine fun na hna=>⟨_,rfl,x,C,dx,_,rfl,kp hx3 hna,c.cls,c.a4,by omega,?_⟩;obtain⟨H4,e4,hx4,X4⟩:=qF "numbers" (.ref na) (kp (x:=.dT []) hx3 hna);rw[<-e4];have S4:=up (S3.trans (ac.new hna)) e4;have nn:na≠x:=(ae hx3 hna).symm;have na4:=X4 _ _ aa nn;have fa4:=X4 _ _ (kp (x:=.dT []) fa3 hna) nf;have sa4:=X4 _ _ (kp (x:=.dT []) sa3 hna) ns;have len4:=d_ ("numbers":Str) (.ref na) (cI ("first_stories":Str) (.ref sa) (cI ("faces":Str) (.ref fa) (cI ("machine":Str) (.ref M) [])));refine⟨(by show 0<=ai;decide),fun ta hta=>⟨_,rfl,x,C,dx,_,rfl,kp hx4 hta,c.cls,c.a5,by omega,?_⟩⟩;obtain⟨H5,e5,hx5,X5⟩:=qF "steps" (.ref ta) (kp (x:=.lst []) hx4 hta);rw[<-e5];have S5:=up (S4.trans (ac.new hta)) e5;have nt:ta≠x:=(ae hx4 hta).symm;have ta5:=X5 _ _ aa nt;have fa5:=X5 _ _ (kp (x:=.lst []) fa4 hta) nf;have sa5:=X5 _ _ (kp (x:=.lst []) sa4 hta) ns;have na5:=X5 _ _ (kp (x:=.lst []) na4 hta) nn;have F5:ic K C H5 x M fa sa na ta [] [] ⟨[],[]⟩:=by
  refine⟨⟨dx,_,hx5,?_,?_,?_,?_,?_,?_,?_⟩,fa5,.nil,sa5,.nil,na5,nfs,ae fa4 hta,ae sa4 hta⟩
  all_goals(show kN _ _=_;repeat (rw[eP];first|rw[if_pos rfl] | rw[if_neg (by decide +kernel)]))
  all_goals rfl
 clear e1 hx1 X1 len1 e2 hx2 X2 fa2 len2 e3 hx3 X3 sa3 fa3 len3 e4 hx4 X4 na4 fa4 sa4 len4 e5 hx5 X5 up;obtain⟨dx5,fs5,g5,l1,l2,l3,l4,l5,l6,l7⟩:=id F5.ob;have M5:=MA.same S5;refine⟨_,rfl,x,dx5,fs5,rfl,g5,l6,_,rfl,M,J0,J1,J2,ds,rfl,M5,fun f0 FF H6 hf0 hF S6=>⟨(by show 0<=ai;decide),fun st hst=>?_⟩⟩;rw[pL hF]at hf0;have S7:ac H6 (upd H6 st (.lst [])):=ac.new hst;have st7:upd H6 st (.lst []) st=some (.lst []):=aa;generalize upd H6 st (.lst [])=H7 at S7 st7 ⊢;have S57:ac H5 H7:=ac.trans S6 S7;have F7:=F5.same S57;have np:∀{b:Addr}{o:HO},H5 b=some o->st≠b:=fun e=>dB (ae (S6 _ _ e) hst);refine⟨x,M,fa,sa,na,ta,f0,st,[],[],⟨[],[]⟩,_,[],rfl,F7,S7 _ _ hf0,⟨[],st7,.nil⟩,⟨np fa5,np sa5,np ta5⟩,(by show 0<400;decide),(by show 0<400;decide),fun us ws H8 F8 e8=>?_⟩;have nta:ta≠na:=fun z=>by rw[z,na5]at ta5;cases ta5
 have ta8:H8 ta=some (.lst (([]:Ze).map V.ref)):=e8 _ _ (S57 _ _ ta5) F5.ne.2.1.symm F5.ne.2.2.symm nta;have in0:∀{b:Addr}{o:HO},H0 b=some o->b≠fa/\b≠sa/\b≠na:=fun e=>⟨ae (S1 _ _ e) hfa,ae (S2 _ _ e) hsa,ae (S3 _ _ e) hna⟩;have S08:ac H0 H8:=fun b o e=>by
  obtain⟨n1,n2,n3⟩:=in0 e;exact e8 _ _ (S57 _ _ (S5 _ _ e)) n1 n2 n3
 refine⟨fun m σ H'=>σ=[some (.ref x),some (.ref M)]/\∃(us ws ts:Ze) (j:Nat),m=300-j/\ic K C H' x M fa sa na ta us ws (itF J0 J1 J2 ds j).1/\H' ta=some (.lst (ts.map V.ref))/\pN H0 na H' ts (itF J0 J1 J2 ds j).2/\ml J0 J1 J2 ds (itF J0 J1 J2 ds j)/\(itF J0 J1 J2 ds j).2.length=j/\ac H0 H',⟨300,rfl,us,ws,[],0,rfl,F8,ta8,.nil,DP,rfl,S08⟩,?_⟩;rintro m σ H9 ⟨rfl,us9,ws9,ts,j,rfl,F9,ta9,st9,ok9,lj,S09⟩;obtain⟨dx9,fs9,g9,m1,m2,m3,m4,m5,m6,m7⟩:=id F9.ob;refine⟨_,rfl,x,C,dx9,fs9,.ref ta,rfl,g9,c.cls,c.a5,m5,.inl ⟨ta,_,rfl,.inl (ay.of ta9),_,rfl,x,C,dx9,fs9,.ref fa,rfl,g9,c.cls,c.a2,m2,.inl ⟨fa,_,rfl,.inl (ay.of F9.hfa),_,_,rfl,rfl,_,rfl,?_⟩⟩⟩;have z1:(ts.map V.ref).length=j:=by rw[aj,Paired.length st9,lj]
 have z2:(us9.map V.ref).length=(itF J0 J1 J2 ds j).1.fs.length:=by rw[aj,Paired.length F9.faces]
 have z3:=ok9.good.few hr;refine mY (P:=j<(itF J0 J1 J2 ds j).1.fs.length) (by rw[z1,z2];simp) (fun lt=>?_) (fun ge=>?_)
 ·have mW:nextF J0 J1 J2 ds (itF J0 J1 J2 ds j)=itF J0 J1 J2 ds (j+1):=rfl;have ok10:ml J0 J1 J2 ds (itF J0 J1 J2 ds (j+1)):=DO ok9 (by rw[lj];exact lt);have fr9:∀{b:Addr}{o:HO},H9 b=some o->∀{d:Addr},H9 d=none->d≠b:=fun e d h=>dB (ae e h);refine⟨fun σ' H'=>σ'=[some (.ref x),some (.ref M)]/\∃(us ws ts:Ze),ic K C H' x M fa sa na ta us ws (itF J0 J1 J2 ds (j+1)).1/\H' ta=some (.lst (ts.map V.ref))/\pN H0 na H' ts (itF J0 J1 J2 ds (j+1)).2/\ac H0 H',fun σ' H' ⟨e,us,ws,ts,q1,q2,q3,q4⟩=>⟨300-(j+1),by omega,e,us,ws,ts,j+1,rfl,q1,q2,q3,ok10,?_,q4⟩,?_⟩
  ·show(_++[_]).length=j+1;rw[aL,lj];rfl
  refine⟨_,rfl,x,C,dx9,fs9,.ref ta,rfl,g9,c.cls,c.a5,m5,.inl ⟨rfl,_,ay.of ta9⟩,_,rfl,x,dx9,fs9,rfl,g9,m7,_,rfl,x,C,dx9,fs9,.ref ta,rfl,g9,c.cls,c.a5,m5,.inl ⟨ta,_,rfl,.inl (ay.of ta9),?_⟩⟩;refine⟨x,M,fa,sa,na,ta,us9,ws9,_,j,J0,J1,J2,ds,by rw[z1];rfl,F9,MA.same S09,ok9.good,hr,lt,⟨_,ta9⟩,fun d us' ws' H10 F10 hd hdn ex=>?_⟩;have nta9:ta∉[fa,sa,na]:=by simp[F9.ne.2.1.symm,F9.ne.2.2.symm,nta]
  have ta10:=ex _ _ ta9 nta9;have S010:ac H0 H10:=fun b o e=>by
   obtain⟨n1,n2,n3⟩:=in0 e;exact ex _ _ (S09 _ _ e) (by simp[n1,n2,n3])
  have st10:pN H0 na H10 ts (itF J0 J1 J2 ds j).2:=Paired.mapP st9 fun d l ⟨q1,q2,q3⟩=>⟨q1,q2,ex _ _ q3 (by
   simp[q2];exact⟨(fun z=>by rw[z,F9.hfa]at q3;cases q3),(fun z=>by rw[z,F9.hsa]at q3;cases q3)⟩)⟩
  have d0:H0 d=none:=S09.free hdn;have ndt:d≠ta:=fr9 ta9 hdn;refine⟨ta,_,.ref d,rfl,rfl,ta10,?_,rfl,us',ws',ts++[d],?_,?_,?_,?_⟩
  ·rw[z1];exact aq (by omega)
  ·have e:(itF J0 J1 J2 ds (j+1)).1=(eN ((itF J0 J1 J2 ds j).1.ss.getD j []) (itF J0 J1 J2 ds j).1 (stepsF J0 J1 J2 ds ((itF J0 J1 J2 ds j).1.fs.getD j []))).1:=by
    show(nextF J0 J1 J2 ds (itF J0 J1 J2 ds j)).1=_;unfold nextF;rw[lj]
   rw[e];exact F10.moveT ta10
  ·rw[aa,aw];rfl
  ·have e:(itF J0 J1 J2 ds (j+1)).2=(itF J0 J1 J2 ds j).2++[(eN ((itF J0 J1 J2 ds j).1.ss.getD j []) (itF J0 J1 J2 ds j).1 (stepsF J0 J1 J2 ds ((itF J0 J1 J2 ds j).1.fs.getD j []))).2]:=by
    show(nextF J0 J1 J2 ds (itF J0 J1 J2 ds j)).2=_;unfold nextF;rw[lj]
   rw[e];exact dv (Paired.mapP st10 fun d l ⟨q1,q2,q3⟩=>⟨q1,q2,by rw[ag (fun z=>by rw[z,ta10]at q3;cases q3)];exact q3⟩) ⟨d0,fr9 F9.hna hdn,by rw[ag ndt];exact hd⟩
  ·intro b o e;have h1:=S010 _ _ e;rw[ag (fun z=>?_)]
   ·exact h1
   ·have h4:=S4 _ _ e;rw[z,hta]at h4;cases h4
 ·have e:=ok9.le;exact k fa sa na ta us9 ws9 ts _ j H9 F9 ta9 st9 ok9 (by omega) rfl S09
abbrev Ak(H0 H:Hp)(ts:Ze)(st:List (List (Sg×Nat))):Prop:=Paired (fun d l=>H0 d=none/\Rd H d (.dT (stK l))) ts st
theorem Rd.same{H H':Hp}{a:Addr}{u:HO}(S:ac H H')(h:Rd H a u):Rd H' a u:=by
 rcases h with h|⟨o,h⟩
 ·exact .inl (S _ _ h)
 ·exact .inr ⟨o,S _ _ h⟩
theorem Rd.frz{H:Hp}{a d:Addr}{k kvs:List (TK×V)}{o:Obj}(hd:H d=some (.dT kvs))(h:Rd H a (.dT k)):Rd (upd H d (.frz o (.dT kvs))) a (.dT k):=by
 by_cases z:a=d
 ·subst z;rcases h with h|⟨q,h⟩
  ·rw[hd]at h;cases h;exact .inr ⟨o,aa⟩
  ·rw[hd]at h;cases h
 ·rcases h with h|⟨q,h⟩
  ·exact .inl (by rw[ag z];exact h)
  ·exact .inr ⟨q,by rw[ag z];exact h⟩
def IT(J:It)(g:TG)(tb:TS)(D:mn)(σ:L2.St)(H:Hp):Prop:=∃W:Nat->Nat->L2.St->Hp->Prop,(∃m,W 0 m σ H)/\∀i m σ H,W i m σ H ->
 (J.stop i H/\D.nx σ H)∨(J.go i H/\∃N:L2.St->Hp->Prop,(∀σ' H',N σ' H'->∃m',m'<m/\W (i+1) m' σ' H')/\∀x H',J.yld i H x H'->g x σ H' fun σ2 H2=>tb { D with nx:=N,ct:=N,bk:=D.nx } σ2 H2)
inductive r8(K:Za)(vs:List V)(H:Hp)(Q:VK)(E:XK):Prop
 |mk (t ft s l1 l2 l3 l4:Addr) (ts:Ze) (J0 J1 J2 J6 sg:Zb) (ds:List ak):(vs=[.ref t,.ref ft,.ref s])->(iC H t l1 l2 l3 l4 ts J0 J1 J2 ds)->(aK J0 J1 J2 ds)->(bc K H ft (J6.map V.str))->(bc K H s (sg.map V.str))->(J6.length<=1000)->(∀(t':Addr) (H':Hp),H' t'=some (.tup ((behF J2 ds J6 sg).map V.str))->ac H H'->Q (.ref t') H')->r8 K vs H Q E
theorem GB{K:Za}{vs:List V}{H:Hp}{Q:VK}{E:XK}(h:r8 K vs H Q E):xp K zb jQ (bM Q) (start yz vs) H:=by
 obtain⟨t,ft,s,l1,l2,l3,l4,ts,J0,J1,J2,J6,sg,ds,rfl,T,m,hft,hs,hz,k⟩:=h;have z4:=m.few;refine⟨_,rfl,(by show 1<=ai;decide),fun hh hhh=>⟨jb sg,jb aV,aQ (bc.same (ac.new hhh) hs),aQ (bc.of aa),by rw[bo];decide,by rw[bo];decide,_,rfl,?_⟩⟩;rw[dR];have Sn:ac H (upd H hh (.tup [.str "hush"])):=ac.new hhh;generalize upd H hh (.tup [.str "hush"])=H1 at Sn ⊢;have T1:=T.same Sn;have ft1:=bc.same Sn hft;have hs1:=bc.same Sn hs;by_cases c:sg=aV
 ·rw[zzr1 c];refine cS ?_;refine⟨_,rfl,ft,rfl,⟨_,ft1⟩,fun f hf=>?_⟩;refine z7 (xs:=J6.map V.str) (fun i vs H'=>vs=((J6.take i).filter fun r=>decide (r∉fh ds)).map V.str/\ac H1 H'/\H' f=some (.lst vs)) ⟨rfl,ac.new hf,aa⟩ (fun i vs H' _ ⟨_,S,h'⟩=>⟨h',bc.same S ft1⟩) ?_ ?_
  ·rintro vs H' ⟨rfl,S,f'⟩;rw[aj,aT]at f';refine⟨f,_,rfl,.inl ⟨ay.of f',fun t' ht'=>k t' _ ?_ ((Sn.trans S).trans (ac.new ht'))⟩⟩;rw[aa];unfold behF;rw[if_pos c]
  ·rintro i vs H' x' hx' hi ⟨rfl,S,f'⟩;obtain⟨r,hr,rfl⟩:=bu hx';refine gN ?_;refine⟨_,rfl,_,rfl,t,l1,l2,l3,l4,ts,J0,J1,J2,ds,r,rfl,T1.same S,m,fun H2 S2=>⟨_,rfl,?_⟩⟩;have hlen:(((J6.take i).filter fun r=>decide (r∉fh ds)).map V.str).length<ai:=by
    rw[aj];refine aq (bG (dP _ _) ?_);rw[aE];omega
   refine fN (fun hq=>?_) (fun hq=>?_)
   ·refine⟨_,rfl,S2 _ _ f',hlen,mW hi ⟨?_,?_,aa⟩⟩
    ·rw[bP hr,if_pos hq,aw];rfl
    ·intro b o q;rw[ag (ae q hf)];exact S2 _ _ (S _ _ q)
   ·refine mW hi ⟨?_,S.trans S2,S2 _ _ f'⟩;rw[bP hr,if_neg hq,dI]
 ·rw[zzr0 c];refine bU ?_;refine⟨_,rfl,_,rfl,.inr (.inl ⟨t,_,3,_,rfl,rfl,bc.of T1.t,rfl,l4,rfl,⟨_,ay.of T1.a4⟩,fun f hf=>?_⟩)⟩;refine cg (xs:=ts.map V.ref) (fun i vs H'=>∃G:List Str,vs=G.map V.str/\ac H1 H'/\H' f=some (.lst vs)/\G.length<=i/\∀g,g∈G↔∃d∈ds.take i,d.a∈J6/\d.sg=sg/\d.b=g)
   ⟨[],rfl,ac.new hf,aa,aB _,fun g=>⟨fun h=>(by cases h),fun⟨_,h,_⟩=>by simp at h⟩⟩ (fun i vs H' _ ⟨_,_,S,h',_⟩=>⟨h',ay.of (S _ _ T1.a4)⟩) ?_ ?_
  rotate_left
  ·rintro i vs H' x' hx' hi ⟨G,rfl,S,f',hl,hG⟩;obtain⟨u,hu,rfl⟩:=cu hx';obtain⟨dr,hdr,hatd⟩:=Paired.getL T1.ds hu;obtain⟨sb,ht2,hs2⟩:=hatd.kt (ac.kt S);have hi':i<ds.length:=(cG.mp hdr).1;have hstep:∀g,(∃d∈ds.take (i+1),d.a∈J6/\d.sg=sg/\d.b=g)↔((∃d∈ds.take i,d.a∈J6/\d.sg=sg/\d.b=g)∨(dr.a∈J6/\dr.sg=sg/\dr.b=g)):=by
    intro g;rw[take_snoc hdr];constructor
    ·rintro⟨d,hd,h⟩;rcases bd.mp hd with hd|hd
     ·exact .inl ⟨d,hd,h⟩
     ·have:d=dr:=by simpa using hd
      subst this;exact .inr h
    ·rintro(⟨d,hd,h⟩|h)
     ·exact⟨d,cj _ hd,h⟩
     ·exact⟨dr,cD _ (by simp),h⟩
   have keep:¬(dr.a∈J6/\dr.sg=sg)->∃m',m'<(ts.map V.ref).length-i/\Wc (ts.map V.ref).length (fun i vs H'=>∃G:List Str,vs=G.map V.str/\ac H1 H'/\H' f=some (.lst vs)/\G.length<=i/\∀g,g∈G↔∃d∈ds.take i,d.a∈J6/\d.sg=sg/\d.b=g) (i+1) m' (G.map V.str) H':=by
    intro z;refine mW hi ⟨G,rfl,S,f',by omega,fun g=>?_⟩;rw[hstep,hG];exact⟨.inl,fun h=>h.elim id fun h=>absurd ⟨h.1,h.2.1⟩ z⟩
   refine gN ?_;refine⟨_,rfl,.inr (.inl ⟨u,_,0,_,rfl,rfl,bc.of ht2,rfl,_,rfl,gH dr.a,J6.map gH,ft,_,j6 _,rfl,.inr (bc.same S ft1),jC _,(by show 0<=8;decide),by rw[em];decide,_,rfl,?_⟩)⟩;rw[if_neg fP,pG];by_cases c1:dr.a∈J6;rotate_left
   ·rw[zzr0 c1];exact bU (bU (keep fun z=>c1 z.1))
   rw[zzr1 c1];refine cS ?_;refine⟨_,rfl,.inr (.inl ⟨u,_,1,_,rfl,rfl,bc.of ht2,rfl,_,rfl,jb dr.sg,jb sg,aQ (bc.of hs2),aQ (bc.same S hs1),by rw[bo];decide,by rw[bo];decide,_,rfl,?_⟩)⟩;rw[dR];by_cases c2:dr.sg=sg;rotate_left
   ·rw[zzr0 c2];exact bU (keep fun z=>c2 z.2)
   rw[zzr1 c2];refine cS ?_;refine⟨_,rfl,.inr (.inl ⟨u,_,2,_,rfl,rfl,bc.of ht2,rfl,f',by rw[aj];exact aq (by omega),mW hi ⟨G++[dr.b],by rw[aw];rfl,?_,aa,by rw[aL];show G.length+1<=i+1;omega,fun g=>?_⟩⟩)⟩
   ·intro b o q;rw[ag (ae q hf)];exact S _ _ q
   ·rw[hstep,<-hG,bd];simp only[aX];exact⟨fun h=>h.imp id fun h=>⟨c1,c2,h.symm⟩,fun h=>h.imp id fun h=>h.2.2.symm⟩
  rintro vs H2 ⟨G,rfl,S2,f2,hl,hG⟩;rw[aj,Paired.length T.ds]at hl;rw[aj,Paired.length T.ds,aT]at hG;refine⟨t,f,l1,l2,l3,l4,ts,J0,J1,J2,G,ds,rfl,T1.same S2,m,f2,by omega,fun t' H' h1 S'=>k t' H' ?_ ((Sn.trans S2).trans S')⟩;rw[h1];unfold behF;rw[if_neg c]
  suffices e0:closF J2 ds G=closF J2 ds (dk ds sg J6) by rw[e0]
  refine z9 fun g=>?_;rw[hG,iy];constructor
  ·rintro⟨⟨a,sgd,b⟩,hd,h1,h2,h3⟩;simp only at h1 h2 h3;subst h2 h3;exact⟨a,h1,hd⟩
  ·rintro⟨r,hr,h⟩;exact⟨_,h,hr,rfl,rfl⟩
theorem B1{K:Za}{H:Hp}:∀xs:List Str,TKIns K H (xs.map mS) (xs.map V.str)
 |[]=>by show TKIns K H [] [];unfold TKIns;rfl
 |x::xs=>by
  rw[bN,bN];unfold TKIns;refine⟨_,_,rfl,?_,B1 xs⟩;unfold mS jc
  rfl
theorem aY.sq{K:Za}{H:Hp}{a:Addr}{xs:List V}(h:aY K H a xs):bc K H a xs:=h.imp .inl id
theorem mv{K:Za}{H:Hp}{a:Addr}{f:Zb}(h:aY K H a (f.map V.str)):jc K H (fj f) (.ref a):=by
 unfold fj jc;exact⟨a,_,rfl,aY.sq h,B1 f⟩
def As(K:Za):TS :=
 ap (aP (eG (bq)) U2)
 (ap (nR (tB (Eu (gG K V0 V1))) (ap (aP (gG K V0 V1) (ib K 2 (a_ U1 (a_ U3 (gR)))))
 (bQ (uM K "list" cV V2 (az V3)))))
 (ap (bQ (Ex K "list" zA V2))
 (bj V2)))
def Bz:List Str:=["came","place","story","sign"]
def uR(K:Za)(sp_story_to:Sp):TS :=
 ap (aP (xw K (bD (aR (tC (.int 0)) (tC (.int 0)))) (tC .non)) U2)
 (ap (aP (eG (az (bD (aR (tC (.int 0)) (tC (.int 0)))))) U3)
 (ap (aP (tC (.int 0)) U4)
 (ap (nR (aO (aH AZ V4 (eo (eC K) (az V3)))) (ap (aP (aH (cZ K) V3 V4) U5)
 (ap (Ix 4 (tC (.int 1)) (ipI fun i j=>i+j))
 (ap (aP (aH (cZ K) V0 (aH (h9 K) V5 (tC (.int 0)))) U6)
 (d9 (ya K (aH (cZ K) V1 (aH (h9 K) V5 (tC (.int 1))))) (ib K 2 (a_ U7 (a_ U8 (gR)))) (b_ (tB (cU K V7 V6)) (b_ (aO (aH GI (aH (h9 K) V7 (tC (.int 0))) (tC (.str "ask")))) (bj (bD (aR (aM sp_story_to (ar V2 (az V5))) V7))) (bB)) (b_ (tB (cU K (bD (aR (gG K V6 V7) V8)) V2)) (ap (lL K V2 (bD (aR (gG K V6 V7) V8)) (bD (aR V5 V7)))
 (bQ (uM K "list" cV V3 (az (bD (aR (gG K V6 V7) V8)))))) (bB))))))))
 (bj (tC .non)))))
def vx:List Str:=["model_steps","machine_steps","came","pairs","looked","here","wanted","sign","goal"]
def uO(K:Za)(C_Machine:Addr)(sp_Machine_is_quiet:Sp)(a_HUSH:Addr)(sp_Machine_doors_from:Sp)(a_STILL:Addr):TS :=
 ap (aP (eG (bq)) U4)
 (ap (d9 (b0 K (cX C_Machine "doors_from" sp_Machine_doors_from [] E0 V0 (az V1))) (ib K 3 (a_ U5 (a_ U6 (a_ U7 (gR))))) (b_ (aO (aH (lP K) V6 (tC (.ref a_STILL)))) (bQ (uM K "list" cV V4 (az (bD (aR V7 V2))))) (b_ (vL (tB (rM K V6 V3)) (aO (aH yI (aH (h9 K) V6 (tC (.int 0))) (tC (.str "say"))))) (bQ (uM K "list" cV V4 (az (bD (aR V7 (xB K V3 V6)))))) (bB))))
 (ap (b_ (tB (cX C_Machine "is_quiet" sp_Machine_is_quiet [] E0 V0 (az V1))) (bQ (uM K "list" cV V4 (ar (bD (aR V1 (xB K V3 (tC (.ref a_HUSH))))) bq))) (bB))
 (bj V4)))
def vt:List Str:=["I","room","face","steps","rows","start","sign","goal"]
def Au(K:Za)(sp_rows_needed:Sp)(C_Machine:Addr)(sp_Machine_rooms:Sp):TS :=
 ap (aP (bD (aR (aH (cZ K) (cX C_Machine "rooms" sp_Machine_rooms [] E0 V1 bq) (tC (.int 0))) (tC (.int 0)))) U2)
 (ap (aP (xw K V2 (tC (.bl true))) U3)
 (ap (aP (eG (az V2)) U4)
 (ap (nR (aO (aH Dt (eo (eC K) (az V4)) (tC (.int 0)))) (ap (aP (Ex K "list" HQ V4) (ib K 2 (a_ U5 (a_ U6 (gR)))))
 (d9 (b0 K (aM sp_rows_needed (ar V1 (eB V5 V6 (aH (cZ K) (fS K V0 "steps") V6))))) U7 (b_ (tB (cU K V7 V3)) (ap (lL K V3 V7 (tC (.bl true)))
 (bQ (uM K "list" cV V4 (az V7)))) (bB)))))
 (bj (dC 2 [0] (Bm K V3) (ib K 2 (a_ U0 (a_ U1 (gR)))) (kT) (bD (aR V0 (aH (cZ K) (fS K V2 "faces") V1))))))))
def BB:List Str:=["model","I","first","rows","waiting","room","number","row"]
def Gk(K:Za)(sp_paper_of:Sp)(sp_least_fault:Sp)(C_FaceMap:Addr)(sp_FaceMap_init:Sp)(sp_need_taker:Sp):TS :=
 ap (bQ (aM sp_need_taker (aR V0 V1)))
 (ap (aP (yV C_FaceMap sp_FaceMap_init [] E0 (az V0)) U2)
 (ap (aP (aM sp_least_fault (aR (fS K V2 "steps") (fS K (yV C_FaceMap sp_FaceMap_init [] E0 (az V1)) "steps"))) U3)
 (ap (b_ (tB (Iw V3)) (bj (bD (aR (tC (.str "keeps")) (aM sp_paper_of (ar V2 (az V1)))))) (bB))
 (ap (aP V3 (ib K 2 (a_ U4 (a_ U5 (gR)))))
 (bj (bD (eB (tC (.str "fault")) V4 V5)))))))
def Hj:List Str:=["M","I","model","fault","story","sign"]
abbrev Pr:=Nat×Nat
structure bE where
 key:Pr
 from_:Option (Pr×Sg)
 story:List Sg
def jB(P:List bE)(k:Pr):Bool:=P.any fun c=>decide (c.key=k)
def bI(l:List (Sg×Nat))(sg:Sg):Option Nat:=(l.find? fun p=>decide (p.1=sg)).map (·.2)
def fL(wanted:List (Sg×Nat))(here:bE)(q:List bE×Option Sg)(p:Sg×Nat):List bE×Option Sg :=
 match q.2 with
 |some _=>q
 |none=>match bI wanted p.1 with
  |none=>if p.1.head?=some ("ask":Str)then q else(q.1,some p.1)
  |some w=>if jB q.1 (w,p.2)=true then q else(q.1++[⟨(w,p.2),some (here.key,p.1),here.story++[p.1]⟩],none)
def cB(wanted:List (Sg×Nat))(here:bE)(P:List bE)(l:List (Sg×Nat)):List bE×Option Sg:=l.foldl (fL wanted here) (P,none)
structure oB(ms ws:List (List (Sg×Nat)))(P:List bE):Prop where
 zero:∃r,P=⟨(0,0),none,[]⟩::r
 nd:(P.map (·.key)).Nodup
 back:∀(i:Nat) (c:bE),P[i]?=some c->i=0∨∃(j:Nat) (b:bE) (sg:Sg),j<i/\P[j]?=some b/\c.from_=some (b.key,sg)/\c.story=b.story++[sg]/\bI (ws.getD b.key.1 []) sg=some c.key.1/\(sg,c.key.2)∈ms.getD b.key.2 []
theorem pC{P:List bE}{k:Pr}:jB P k=true↔k∈P.map (·.key):=by
 unfold jB;rw[List.any_eq_true,ax];exact⟨fun⟨c,h,e⟩=>⟨c,h,of_decide_eq_true e⟩,fun⟨c,h,e⟩=>⟨c,h,zzr1 e⟩⟩
theorem DX(ms ws:List (List (Sg×Nat))):oB ms ws [⟨(0,0),none,[]⟩]:=by
 refine⟨⟨[],rfl⟩,by simp,fun i c h=>?_⟩;rcases wr i with z|z
 ·exact .inl z
 ·rw[fQ (by show 1<=i;exact z)]at h;cases h
theorem oB.add{ms ws:List (List (Sg×Nat))}{P:List bE}(h:oB ms ws P){j:Nat}{b:bE}{sg:Sg}{w g:Nat}(hj:P[j]?=some b)(hn:jB P (w,g)=false)(hw:bI (ws.getD b.key.1 []) sg=some w)(hg:(sg,g)∈ms.getD b.key.2 []):
  oB ms ws (P++[⟨(w,g),some (b.key,sg),b.story++[sg]⟩]):=by
 have lt:j<P.length:=by
  rcases iR j P.length with z|z
  ·exact z
  ·rw[fQ z]at hj;cases hj
 obtain⟨r,e⟩:=h.zero;refine⟨⟨r++[⟨(w,g),some (b.key,sg),b.story++[sg]⟩],by rw[e];rfl⟩,?_,fun i c hc=>?_⟩
 ·rw[aw,cP];refine⟨h.nd,by simp,fun x hx y hy z=>?_⟩;have:jB P (w,g)=true:=pC.2 (by rw[<-show y=(w,g)from by simpa using hy,<-z];exact hx);rw[hn]at this;cases this
 ·rcases iR i P.length with z|z
  ·rw[fe z]at hc;rcases h.back i c hc with q|⟨j',b',sg',q1,q2,q3⟩
   ·exact .inl q
   ·exact .inr ⟨j',b',sg',q1,by rw[fe (by omega)];exact q2,q3⟩
  ·rw[nJ z]at hc;have h0:i-P.length=0:=by
    rcases wr (i-P.length)with q|q
    ·exact q
    ·rw[fQ (by show 1<=_;exact q)]at hc;cases hc
   rw[h0]at hc;injection hc with hc;subst hc;exact .inr ⟨j,b,sg,by omega,by rw[fe lt];exact hj,rfl,rfl,hw,hg⟩
theorem Fl{ms ws:List (List (Sg×Nat))}{P:List bE}(h:oB ms ws P){j:Nat}{b:bE}(hj:P[j]?=some b)(l:List (Sg×Nat))(hl:∀p∈l,p∈ms.getD b.key.2 []):
  (∃r,(cB (ws.getD b.key.1 []) b P l).1=P++r)/\oB ms ws (cB (ws.getD b.key.1 []) b P l).1/\∀sg,(cB (ws.getD b.key.1 []) b P l).2=some sg->(∃g,(sg,g)∈l)/\bI (ws.getD b.key.1 []) sg=none/\sg.head?≠some ("ask":Str):=by
 have key:∀n,n<=l.length->(∃r,(cB (ws.getD b.key.1 []) b P (l.take n)).1=P++r)/\oB ms ws (cB (ws.getD b.key.1 []) b P (l.take n)).1/\∀sg,(cB (ws.getD b.key.1 []) b P (l.take n)).2=some sg->(∃g,(sg,g)∈l)/\bI (ws.getD b.key.1 []) sg=none/\sg.head?≠some ("ask":Str):=by
  intro n
  induction n with
  |zero=>intro _;exact⟨⟨[],(dI _).symm⟩,h,fun sg e=>by cases e⟩
  |succ n ih =>
   intro hn;obtain⟨⟨r,e1⟩,h2,h3⟩:=ih (by omega);have hp:l[n]?=some l[n]:=bY (by omega);have es:cB (ws.getD b.key.1 []) b P (l.take (n+1))=fL (ws.getD b.key.1 []) b (cB (ws.getD b.key.1 []) b P (l.take n)) l[n]:=by
    unfold cB;rw[take_snoc hp,k_];rfl
   rw[es];generalize cB (ws.getD b.key.1 []) b P (l.take n)=q at e1 h2 h3;have hm:l[n]∈l:=lb _;generalize l[n]=p at hm;unfold fL;cases e2:q.2 with
   |some s=>exact⟨⟨r,e1⟩,h2,fun sg e=>h3 sg e⟩
   |none =>
    cases e3:bI (ws.getD b.key.1 []) p.1 with
    |none =>
     by_cases c:p.1.head?=some ("ask":Str)
     ·simp only[c,if_true];exact⟨⟨r,e1⟩,h2,fun sg e=>h3 sg e⟩
     ·simp only[c,if_false];refine⟨⟨r,e1⟩,h2,fun sg e=>?_⟩;injection e with e;subst e;exact⟨⟨p.2,hm⟩,e3,c⟩
    |some w =>
     cases e4:jB q.1 (w,p.2)with
     |true =>
      simp only[e4,if_true];exact⟨⟨r,e1⟩,h2,fun sg e=>h3 sg e⟩
     |false =>
      simp only[e4,lp,if_false];refine⟨⟨r++[⟨(w,p.2),some (b.key,p.1),b.story++[p.1]⟩],by rw[e1,dH]⟩,h2.add (j:=j) (b:=b) ?_ e4 e3 (hl p hm),fun sg e=>by cases e⟩;rw[e1,fe (by rcases iR j P.length with z|z;exact z;rw[fQ z]at hj;cases hj)];exact hj
 have:=key l.length (aB _);rw[aT]at this;exact this
def oG(k:Pr):TK:=.t [.k (some (.inl (k.1:Int))),.k (some (.inl (k.2:Int)))]
theorem Cp{a b:Pr}(h:oG a=oG b):a=b:=by
 unfold oG at h;injection h with h;injection h with h1 h2;injection h2 with h2 _;injection h1 with h1;injection h2 with h2;injection h1 with h1;injection h2 with h2;injection h1 with h1;injection h2 with h2;obtain⟨a1,a2⟩:=a;obtain⟨b1,b2⟩:=b;simp only at h1 h2;rw[show a1=b1 by omega,show a2=b2 by omega]
theorem fM(k:Pr):(oG k).depth<=8:=by
 show max 0 (max 0 0)+1<=8
 decide
abbrev mh(H:Hp)(a:Addr)(k:Pr):Prop:=H a=some (.tup [.int (k.1:Nat),.int (k.2:Nat)])
theorem mh.tk{H:Hp}{a:Addr}{k:Pr}(h:mh H a k):cW H (oG k) (.ref a):=by
 unfold oG cW;refine⟨a,_,rfl,h,?_⟩;unfold TKAts;refine⟨_,_,rfl,?_,?_⟩
 ·unfold cW;rfl
 unfold TKAts;refine⟨_,_,rfl,?_,?_⟩
 ·unfold cW;rfl
 unfold TKAts
 rfl
def pT(K:Za)(H:Hp)(c:bE)(v:V):Prop:=match c.from_ with
 |none=>v=.non
 |some (k,sg)=>∃t ha g,v=.ref t/\H t=some (.tup [.ref ha,.ref g])/\mh H ha k/\aY K H g (sg.map V.str)
theorem pT.kt{K:Za}{H H':Hp}{c:bE}{v:V}(k:hU H H')(h:pT K H c v):pT K H' c v:=by
 unfold pT at h ⊢;cases e:c.from_ with
 |none=>rw[e]at h;exact h
 |some p =>
  rw[e]at h;obtain⟨t,ha,g,h1,h2,h3,h4⟩:=h;exact⟨t,ha,g,h1,k _ _ h2,k _ _ h3,aY.kt k h4⟩
abbrev iq(K:Za)(H:Hp)(kvs:List (TK×V))(P:List bE):Prop:=Paired (fun(kv:TK×V) (c:bE)=>kv.1=oG c.key/\pT K H c kv.2) kvs P
theorem iq.kt{K:Za}{H H':Hp}{kvs:List (TK×V)}{P:List bE}(k:hU H H')(h:iq K H kvs P):iq K H' kvs P:=Paired.mapP h fun _ _ r=>⟨r.1,r.2.kt k⟩
theorem iq.val{K:Za}{H:Hp}:∀{kvs:List (TK×V)}{P:List bE},iq K H kvs P->(P.map (·.key)).Nodup->∀{i:Nat}{c:bE},P[i]?=some c->∃v,br kvs (oG c.key)=some v/\pT K H c v
 |_,_,.nil,_,i,c,h=>by simp at h
 |_,_,.cons (a:=kv) (b:=b) r t,nd,0,c,h=>by
  injection h with h;subst h;exact⟨kv.2,cr r.1,r.2⟩
 |_,_,.cons (a:=kv) (b:=b) r t,nd,i+1,c,h=>by
  rw[bN,jx]at nd;rw[List.getElem?_cons_succ]at h;obtain⟨v,h1,h2⟩:=iq.val t nd.2 (i:=i) h;refine⟨v,?_,h2⟩;rw[bW,h1];intro z;rw[r.1]at z;exact nd.1 (by rw[Cp z];exact j9 (f:=(·.key)) (ba h))
theorem iq.none{K:Za}{H:Hp}{kvs:List (TK×V)}{P:List bE}(h:iq K H kvs P){k:Pr}(n:jB P k=false):br kvs (oG k)=.none:=by
 refine xi ?_
 induction h with
 |nil=>intro kv hk;exact nomatch hk
 |@cons a b as bs r t ih =>
  intro kv hk;have n':decide (b.key=k)=false/\jB bs k=false:=by
   unfold jB at n ⊢;rw[nE,Bool.or_eq_false_iff]at n;exact n
  rcases cO.1 hk with rfl|hk
  ·rw[r.1];exact fun e=>of_decide_eq_false n'.1 (Cp e)
  ·exact ih n'.2 kv hk
theorem Paired.rev{α β:Type}{R:α->β->Prop}:∀{a:List α}{b:List β},Paired R a b->Paired R a.reverse b.reverse
 |_,_,.nil=>.nil
 |_,_,.cons r t=>by
  rw[w6,w6];exact Paired.app (Paired.rev t) (.cons r .nil)
inductive fD(K:Za)(vs:List V)(H:Hp)(Q:VK)(E:XK):Prop
 |mk (cd pa:Addr) (kvs:List (TK×V)) (ms ws:List (List (Sg×Nat))) (P:List bE) (i:Nat) (c:bE):(vs=[.ref cd,.ref pa])->(H cd=some (.dT kvs))->(iq K H kvs P)->(oB ms ws P)->(P[i]?=some c)->(mh H pa c.key)->(P.length<=100000)->(∀(l:Addr) (gs:Ze) (H':Hp),H' l=some (.lst (gs.map V.ref))->Paired (fun g (sg:Sg)=>aY K H' g (sg.map V.str)) gs c.story->H l=none->ac H H'->Q (.ref l) H')->fD K vs H Q E
theorem AR{K:Za}{vs:List V}{H:Hp}{Q:VK}{E:XK}(h:fD K vs H Q E):As K (bM Q) (start Bz vs) H:=by
 obtain⟨cd,pa,kvs,ms,ws,P,i,c,rfl,hcd,hP,ok,hc,hpa,hz,k⟩:=h;refine⟨(by show 0<=ai;decide),fun l hl=>?_⟩;have hi:i<P.length:=by
  rcases iR i P.length with z|z
  ·exact z
  ·rw[fQ z]at hc;cases hc
 refine⟨fun m σ H'=>∃(pa:Addr) (c':bE) (gs:Ze) (L:List Sg) (x3:Option V),σ=[some (.ref cd),some (.ref pa),some (.ref l),x3]/\P[m]?=some c'/\H' l=some (.lst (gs.map V.ref))/\Paired (fun g (sg:Sg)=>aY K H' g (sg.map V.str)) gs L/\c.story=c'.story++L.reverse/\mh H' pa c'.key/\L.length+m<=i/\ac H H',
  ⟨i,pa,c,[],[],_,rfl,hc,aa,.nil,(dI _).symm,kp hpa hl,by simp,ac.new hl⟩,?_⟩
 rintro m σ H1 ⟨pa,c',gs,L,x3,rfl,hc',hl1,hg,es,hpa1,hlen,S1⟩;have P1:=hP.kt (ac.kt S1);have cd1:=S1 _ _ hcd;obtain⟨v,hv,cv⟩:=P1.val ok.nd hc';have g1:ip K H1 cd (.ref pa) (some v):=.inr ⟨_,oG c'.key,pa,.inl cd1,rfl,cW.isIn 8 (fM _) hpa1.tk,fM _,hv.symm⟩;refine⟨_,rfl,_,rfl,cd,v,rfl,g1,_,rfl,?_⟩;unfold pT at cv;cases ef:c'.from_ with
 |none =>
  rw[ef]at cv;subst cv;refine bU ?_;have m0:m=0:=by
   rcases ok.back m c' hc' with q|⟨j,b,sg,_,_,q,_⟩
   ·exact q
   ·rw[ef]at q;cases q
  subst m0;obtain⟨r,er⟩:=ok.zero;rw[er]at hc';injection hc' with hc';have es':c.story=L.reverse:=by rw[es,<-hc'];rfl
  refine⟨_,rfl,.inl ⟨rfl,_,ay.of hl1⟩,l,_,rfl,rfl,hl1,?_⟩;have kt:hU H1 (upd H1 l (.lst (gs.map V.ref).reverse)):=cR hl1;refine⟨_,rfl,k l gs.reverse _ (by rw[aa,List.map_reverse]) ?_ hl fun b o e=>by rw[ag (ae e hl)];exact S1 _ _ e⟩;rw[es'];exact Paired.rev (Paired.mapP hg fun _ _ r=>aY.kt kt r)
 |some kp' =>
  obtain⟨kk,sg⟩:=kp';rw[ef]at cv;obtain⟨t,ha,g,rfl,ht,hha,hgs⟩:=cv;refine cS ?_;have par:∃(j:Nat) (b:bE),j<m/\P[j]?=some b/\b.key=kk/\c'.story=b.story++[sg]:=by
   rcases ok.back m c' hc' with q|⟨j,b,sg',lt,hb,q,e,_⟩
   ·subst q;obtain⟨r,er⟩:=ok.zero;rw[er]at hc';injection hc' with hc';rw[<-hc']at ef;cases ef
   ·rw[ef]at q;injection q with q;injection q with q1 q2;subst q2;exact⟨j,b,lt,hb,q1.symm,e⟩
  obtain⟨j,b,lt,hb,rfl,eb⟩:=par;refine⟨fun σ' H'=>∃(pa:Addr) (gs:Ze) (x3:Option V),σ'=[some (.ref cd),some (.ref pa),some (.ref l),x3]/\H' l=some (.lst (gs.map V.ref))/\Paired (fun g (sg:Sg)=>aY K H' g (sg.map V.str)) gs (L++[sg])/\mh H' pa b.key/\ac H H',fun σ' H' ⟨pa,gs,x3,q1,q2,q3,q4,q5⟩=>⟨j,lt,pa,b,gs,L++[sg],x3,q1,hb,q2,q3,?_,q4,?_,q5⟩,?_⟩
  ·rw[es,eb,List.reverse_append,dH];rfl
  ·rw[aL];show L.length+1+j<=i;omega
  refine⟨_,rfl,_,rfl,cd,_,rfl,g1,t,_,rfl,bc.of ht,rfl,_,_,rfl,_,_,rfl,rfl,?_⟩;refine⟨_,rfl,.inl ⟨rfl,_,ay.of hl1⟩,_,rfl,l,_,.ref g,rfl,rfl,hl1,?_,ha,gs++[g],_,rfl,?_,?_,?_,?_⟩
  ·rw[aj,Paired.length hg,k7];omega
  ·rw[aa,aw];rfl
  ·have kt:hU H1 (upd H1 l (.lst (gs.map V.ref++[.ref g]))):=cR hl1;exact dv (Paired.mapP hg fun _ _ r=>aY.kt kt r) (aY.kt kt hgs)
  ·exact cR hl1 _ _ hha
  ·intro b' o e;rw[ag (ae e hl)];exact S1 _ _ e
theorem Dv{P:List Pr}{a b:Nat}(nd:P.Nodup)(h:∀p∈P,p.1<a/\p.2<b):P.length<=a * b:=by
 have h1:=jZ (L:=P.map fun p=>p.1 * b+p.2) (R:=iO (a * b)) ?_ ?_
 ·rw[aj,sJ]at h1;exact h1
 ·rw[pZ,List.pairwise_map];refine List.Pairwise.imp_of_mem (fun{x y} hx hy hne e=>hne ?_) (pZ.1 nd);obtain⟨x1,x2⟩:=x;obtain⟨y1,y2⟩:=y;have hx:=(h _ hx).2;have hy:=(h _ hy).2;simp only at hx hy e;have bp:0<b:=by omega
  have e1:x1=y1:=by
   have:=congrArg (· / b) e;simp only[Nat.add_comm (x1 * b),Nat.add_comm (y1 * b),Nat.add_mul_div_right _ _ bp,Nat.div_eq_of_lt hx,Nat.div_eq_of_lt hy,wo]at this;exact this
  subst e1;rw[show x2=y2 by omega]
 ·intro x hx;obtain⟨p,hp,rfl⟩:=ax.1 hx;obtain⟨h2,h3⟩:=h p hp;rw[List.mem_range];have:(p.1+1) * b<=a * b:=Nat.mul_le_mul_right b h2;rw[Nat.succ_mul]at this;omega
def kS(ms ws:List (List (Sg×Nat)))(P:List bE)(c:bE):Prop:=∀p∈ms.getD c.key.2 [],match bI (ws.getD c.key.1 []) p.1 with
 |none=>p.1.head?=some ("ask":Str)
 |some w=>jB P (w,p.2)=true
theorem zW{P r:List bE}{k:Pr}(h:jB P k=true):jB (P++r) k=true:=by
 unfold jB at h ⊢;rw[List.any_append,h];rfl
theorem kS.mono{ms ws:List (List (Sg×Nat))}{P r:List bE}{c:bE}(h:kS ms ws P c):kS ms ws (P++r) c:=fun p hp=>by
 have:=h p hp;cases e:bI (ws.getD c.key.1 []) p.1 with
 |none=>rw[e]at this;exact this
 |some w=>rw[e]at this;exact zW this
theorem Bf{ws:List (List (Sg×Nat))}{P:List bE}{b:bE}(l:List (Sg×Nat))(h:(cB (ws.getD b.key.1 []) b P l).2=none):∀p∈l,match bI (ws.getD b.key.1 []) p.1 with
 |none=>p.1.head?=some ("ask":Str)
 |some w=>jB (cB (ws.getD b.key.1 []) b P l).1 (w,p.2)=true:=by
 have key:∀n,n<=l.length->(cB (ws.getD b.key.1 []) b P (l.take n)).2=none->∀p∈l.take n,match bI (ws.getD b.key.1 []) p.1 with
  |none=>p.1.head?=some ("ask":Str)
  |some w=>jB (cB (ws.getD b.key.1 []) b P (l.take n)).1 (w,p.2)=true:=by
  intro n
  induction n with
  |zero=>intro _ _ p hp;rw[sy]at hp;exact nomatch hp
  |succ n ih =>
   intro hn;have hp:l[n]?=some l[n]:=bY (by omega);have es:cB (ws.getD b.key.1 []) b P (l.take (n+1))=fL (ws.getD b.key.1 []) b (cB (ws.getD b.key.1 []) b P (l.take n)) l[n]:=by
    unfold cB;rw[take_snoc hp,k_];rfl
   rw[es,take_snoc hp];have ih:=ih (by omega);generalize cB (ws.getD b.key.1 []) b P (l.take n)=q at ih;generalize l[n]=p at *;intro h0 x hx;have q0:q.2=none:=by
    unfold fL at h0;cases e:q.2 with
    |none=>rfl
    |some s=>rw[e]at h0;simp only at h0;rw[e]at h0;exact h0
   unfold fL at h0 ⊢;rw[q0]at h0 ⊢;rcases bd.1 hx with hx|hx
   ·have:=ih q0 x hx;cases e:bI (ws.getD b.key.1 []) x.1 with
    |none=>rw[e]at this;exact this
    |some w =>
     rw[e]at this;simp only at this ⊢;cases e3:bI (ws.getD b.key.1 []) p.1 with
     |none =>
      by_cases c:p.1.head?=some ("ask":Str)
      ·simp only[c,if_true];exact this
      ·simp only[c,if_false];exact this
     |some w' =>
      cases e4:jB q.1 (w',p.2)with
      |true=>simp only[e4,if_true];exact this
      |false=>simp only[e4,lp,if_false];exact zW this
   ·have:x=p:=by simpa using hx
    subst this;cases e3:bI (ws.getD b.key.1 []) x.1 with
    |none =>
     rw[e3]at h0;by_cases c:x.1.head?=some ("ask":Str)
     ·exact c
     ·simp only[c,if_false]at h0;cases h0
    |some w =>
     simp only;cases e4:jB q.1 (w,x.2)with
     |true=>simp only[e4,if_true]
     |false =>
      simp only[e4,lp,if_false];exact pC.2 (by rw[aw];exact cD _ (by simp))
 have:=key l.length (aB _);rw[aT]at this;exact this h
theorem vX{l:List (Sg×Nat)}{sg:Sg}:br (stK l) (fj sg)=(bI l sg).map fun n=>V.int (n:Nat):=by
 unfold bI stK
 induction l with
 |nil=>rfl
 |cons p l ih =>
  rw[bN];by_cases c:p.1=sg
  ·rw[cr (by show fj p.1=fj sg;rw[c]),List.find?_cons_of_pos (by simpa using c)];rfl
  ·rw[bW (fun z=>c (iA z)),List.find?_cons_of_neg (by simpa using c),ih]
structure m9(H0 H:Hp)(a1 a2:Addr)(ts1 ts2:Ze)(ws ms:List (List (Sg×Nat))):Prop where
 h1:H a1=some (.lst (ts1.map V.ref))
 h2:H a2=some (.lst (ts2.map V.ref))
 r1:Ak H0 H ts1 ws
 r2:Ak H0 H ts2 ms
 S:ac H0 H
theorem m9.same{H0 H H':Hp}{a1 a2:Addr}{ts1 ts2:Ze}{ws ms:List (List (Sg×Nat))}(h:m9 H0 H a1 a2 ts1 ts2 ws ms)(S:ac H H'):m9 H0 H' a1 a2 ts1 ts2 ws ms :=
 ⟨S _ _ h.h1,S _ _ h.h2,Paired.mapP h.r1 fun _ _ r=>⟨r.1,Rd.same S r.2⟩,Paired.mapP h.r2 fun _ _ r=>⟨r.1,Rd.same S r.2⟩,h.S.trans S⟩
theorem Rd.ne{H:Hp}{a d:Addr}{k:List (TK×V)}{o:HO}(n:a≠d)(h:Rd H a (.dT k)):Rd (upd H d o) a (.dT k):=by
 rcases h with h|⟨q,h⟩
 ·exact .inl (by rw[ag n];exact h)
 ·exact .inr ⟨q,by rw[ag n];exact h⟩
theorem m9.own{H0 H:Hp}{a1 a2 d:Addr}{o:HO}{ts1 ts2:Ze}{ws ms:List (List (Sg×Nat))}(h:m9 H0 H a1 a2 ts1 ts2 ws ms)(d0:H0 d=none)(n1:a1≠d)(n2:a2≠d)(m1:∀t∈ts1,t≠d)(m2:∀t∈ts2,t≠d):m9 H0 (upd H d o) a1 a2 ts1 ts2 ws ms:=by
 have mem:∀{ts:Ze}{st:List (List (Sg×Nat))},Ak H0 H ts st->(∀t∈ts,t≠d)->Ak H0 (upd H d o) ts st:=by
  intro ts st r
  induction r with
  |nil=>intro _;exact .nil
  |@cons a b as bs q t ih=>intro m;exact .cons ⟨q.1,Rd.ne (m a dO) q.2⟩ (ih fun x hx=>m x (eI _ hx))
 exact⟨by rw[ag n1];exact h.h1,by rw[ag n2];exact h.h2,mem h.r1 m1,mem h.r2 m2,fun b q e=>by rw[ag (ae e d0)];exact h.S _ _ e⟩
theorem m9.frz{H0 H:Hp}{a1 a2 d:Addr}{o:Obj}{kvs:List (TK×V)}{ts1 ts2:Ze}{ws ms:List (List (Sg×Nat))}(h:m9 H0 H a1 a2 ts1 ts2 ws ms)(d0:H0 d=none)(hd:H d=some (.dT kvs)):m9 H0 (upd H d (.frz o (.dT kvs))) a1 a2 ts1 ts2 ws ms :=
 ⟨by rw[ag (fun z=>by have:=h.h1;rw[z,hd]at this;cases this)];exact h.h1,by rw[ag (fun z=>by have:=h.h2;rw[z,hd]at this;cases this)];exact h.h2,
  Paired.mapP h.r1 fun _ _ r=>⟨r.1,Rd.frz hd r.2⟩,Paired.mapP h.r2 fun _ _ r=>⟨r.1,Rd.frz hd r.2⟩,fun b q e=>by rw[ag (ae e d0)];exact h.S _ _ e⟩
theorem Ak.ne{H0 H:Hp}{d:Addr}{ts:Ze}{st:List (List (Sg×Nat))}(h:Ak H0 H ts st)(n:∀k,¬Rd H d (.dT k)):∀t∈ts,t≠d:=by
 induction h with
 |nil=>intro t ht;exact nomatch ht
 |@cons a b as bs q t ih =>
  intro x hx;rcases cO.1 hx with rfl|hx
  ·intro z;subst z;exact n _ q.2
  ·exact ih x hx
structure iE(K:Za)(H0 H:Hp)(a1 a2 cd pl:Addr)(ts1 ts2 prs:Ze)(kvs:List (TK×V))(ws ms:List (List (Sg×Nat)))(P:List bE):Prop where
 i:m9 H0 H a1 a2 ts1 ts2 ws ms
 hcd:H cd=some (.dT kvs)
 came:iq K H kvs P
 hpl:H pl=some (.lst (prs.map V.ref))
 hprs:Paired (fun a (c:bE)=>mh H a c.key) prs P
 ok:oB ms ws P
 rg:∀c∈P,c.key.1<ts1.length/\c.key.2<ts2.length
 c0:H0 cd=none
 p0:H0 pl=none
 nc1:∀t∈ts1,t≠cd
 nc2:∀t∈ts2,t≠cd
 np1:a1≠pl
 np2:a2≠pl
theorem iE.same{K:Za}{H0 H H':Hp}{a1 a2 cd pl:Addr}{ts1 ts2 prs:Ze}{kvs:List (TK×V)}{ws ms:List (List (Sg×Nat))}{P:List bE}(h:iE K H0 H a1 a2 cd pl ts1 ts2 prs kvs ws ms P)(S:ac H H'):iE K H0 H' a1 a2 cd pl ts1 ts2 prs kvs ws ms P :=
 ⟨h.i.same S,S _ _ h.hcd,h.came.kt (ac.kt S),S _ _ h.hpl,Paired.mapP h.hprs fun _ _ r=>S _ _ r,h.ok,h.rg,h.c0,h.p0,h.nc1,h.nc2,h.np1,h.np2⟩
theorem iE.few2{K:Za}{H0 H:Hp}{a1 a2 cd pl:Addr}{ts1 ts2 prs:Ze}{kvs:List (TK×V)}{ws ms:List (List (Sg×Nat))}{P:List bE}(h:iE K H0 H a1 a2 cd pl ts1 ts2 prs kvs ws ms P):P.length<=ts1.length * ts2.length:=by
 have:=Dv (P:=P.map (·.key)) (a:=ts1.length) (b:=ts2.length) h.ok.nd fun p hp=>by
  obtain⟨c,hc,rfl⟩:=ax.1 hp;exact h.rg c hc
 rw[aj]at this;exact this
theorem iE.few{K:Za}{H0 H:Hp}{a1 a2 cd pl:Addr}{ts1 ts2 prs:Ze}{kvs:List (TK×V)}{ws ms:List (List (Sg×Nat))}{P:List bE}(h:iE K H0 H a1 a2 cd pl ts1 ts2 prs kvs ws ms P)(z1:ts1.length<=256)(z2:ts2.length<=256):P.length<=65536:=by
 have:=h.few2;have h2:ts1.length * ts2.length<=256 * 256:=sv z1 z2;omega
theorem iE.frz{K:Za}{H0 H:Hp}{a1 a2 cd pl d:Addr}{o:Obj}{ts1 ts2 prs:Ze}{kvs kd:List (TK×V)}{ws ms:List (List (Sg×Nat))}{P:List bE}(h:iE K H0 H a1 a2 cd pl ts1 ts2 prs kvs ws ms P)(d0:H0 d=none)(hd:H d=some (.dT kd))(n:d≠cd):iE K H0 (upd H d (.frz o (.dT kd))) a1 a2 cd pl ts1 ts2 prs kvs ws ms P :=
 ⟨h.i.frz d0 hd,by rw[ag n.symm];exact h.hcd,h.came.kt (CF hd),by rw[ag (fun z=>by have:=h.hpl;rw[z,hd]at this;cases this)];exact h.hpl,Paired.mapP h.hprs fun _ _ r=>CF hd _ _ r,h.ok,h.rg,h.c0,h.p0,h.nc1,h.nc2,h.np1,h.np2⟩
theorem iE.add{K:Za}{H0 H:Hp}{a1 a2 cd pl:Addr}{ts1 ts2 prs:Ze}{kvs:List (TK×V)}{ws ms:List (List (Sg×Nat))}{P:List bE}(h:iE K H0 H a1 a2 cd pl ts1 ts2 prs kvs ws ms P){c:bE}{v:V}{pa:Addr}(hn:jB P c.key=false)(hv:pT K H c v)(hpa:mh H pa c.key)(ok:oB ms ws (P++[c]))(rg:c.key.1<ts1.length/\c.key.2<ts2.length):
  iE K H0 (upd (upd H cd (.dT (cL kvs (oG c.key) v))) pl (.lst (prs.map V.ref++[.ref pa]))) a1 a2 cd pl ts1 ts2 (prs++[pa]) (kvs++[(oG c.key,v)]) ws ms (P++[c]):=by
 have npc:pl≠cd:=fun z=>by have:=h.hpl;rw[z,h.hcd]at this;cases this
 have k1:hU H (upd H cd (.dT (cL kvs (oG c.key) v))):=CF h.hcd;have pl1:upd H cd (.dT (cL kvs (oG c.key) v)) pl=some (.lst (prs.map V.ref)):=by rw[ag npc];exact h.hpl
 have k2:hU H (upd (upd H cd (.dT (cL kvs (oG c.key) v))) pl (.lst (prs.map V.ref++[.ref pa]))):=k1.trans (cR pl1);have na1:a1≠cd:=fun z=>by have:=h.i.h1;rw[z,h.hcd]at this;cases this
 have na2:a2≠cd:=fun z=>by have:=h.i.h2;rw[z,h.hcd]at this;cases this
 have i1:=h.i.own (o:=.dT (cL kvs (oG c.key) v)) h.c0 na1 na2 h.nc1 h.nc2;have nr:∀k,¬Rd (upd H cd (.dT (cL kvs (oG c.key) v))) pl (.dT k):=fun k r=>by
  rcases r with r|⟨o,r⟩
  ·rw[pl1]at r;cases r
  ·rw[pl1]at r;cases r
 refine⟨i1.own h.p0 h.np1 h.np2 (Ak.ne i1.r1 nr) (Ak.ne i1.r2 nr),?_,?_,?_,?_,ok,?_,h.c0,h.p0,h.nc1,h.nc2,h.np1,h.np2⟩
 ·rw[ag npc.symm,aa,df _ (h.came.none hn)]
 ·exact dv (h.came.kt k2) ⟨rfl,hv.kt k2⟩
 ·rw[aa,aw];rfl
 ·exact dv (Paired.mapP h.hprs fun _ _ r=>k2 _ _ r) (k2 _ _ hpa)
 ·intro x hx;rcases bd.1 hx with hx|hx
  ·exact h.rg x hx
  ·rw[aX.1 hx];exact rg
structure Jk(ts1 ts2:Ze)(ws ms:List (List (Sg×Nat))):Prop where
 z1:ts1.length<=256
 z2:ts2.length<=256
 c1:∀i,∀p∈ws.getD i [],p.2<ts1.length
 c2:∀i,∀p∈ms.getD i [],p.2<ts2.length
 ne:∀i,∀p∈ms.getD i [],p.1≠[]
theorem uc{l:List (Sg×Nat)}{sg:Sg}{w:Nat}(h:bI l sg=some w):(sg,w)∈l:=by
 unfold bI at h;obtain⟨p,hp,e⟩:=su.1 h;have h1:=List.find?_some hp;have h2:=List.mem_of_find?_eq_some hp;obtain⟨a,b⟩:=p;have h1:a=sg:=of_decide_eq_true h1;subst h1;have e:b=w:=e;subst e;exact h2
theorem Em{H:Hp}{a b:Addr}{x y:HO}(n:a≠b):upd (upd H a x) b y=upd (upd H b y) a x:=by
 funext c;unfold upd;by_cases h1:c=b
 ·by_cases h2:c=a
  ·exact absurd (h2.symm.trans h1) n
  ·simp[h1,h2,n.symm]
 ·by_cases h2:c=a
  ·simp[h1,h2,n]
  ·simp[h1,h2]
theorem iq.has{K:Za}{H:Hp}{kvs:List (TK×V)}{P:List bE}(h:iq K H kvs P)(nd:(P.map (·.key)).Nodup)(k:Pr):(br kvs (oG k)).isSome=jB P k:=by
 cases e:jB P k with
 |false=>rw[h.none e];rfl
 |true =>
  obtain⟨c,hc,rfl⟩:=ax.1 (pC.1 e);obtain⟨i,hi,ei⟩:=wq hc;obtain⟨v,h1,_⟩:=h.val nd (i:=i) (c:=c) (by rw[bY hi,ei]);rw[h1];rfl
def Bg(K:Za)(sp:Sp):TS :=
 b_ (tB (cU K V7 V6)) (b_ (aO (aH GI (aH (h9 K) V7 (tC (.int 0))) (tC (.str "ask")))) (bj (bD (aR (aM sp (ar V2 (az V5))) V7))) (bB)) (b_ (tB (cU K (bD (aR (gG K V6 V7) V8)) V2)) (ap (lL K V2 (bD (aR (gG K V6 V7) V8)) (bD (aR V5 V7)))
 (bQ (uM K "list" cV V3 (az (bD (aR (gG K V6 V7) V8)))))) (bB))
section
variable{K:Za}{H0:Hp}{a1 a2 cd pl ha wd md:Addr}{ts1 ts2:Ze}{ws ms:List (List (Sg×Nat))}{n:Nat}{b:bE}{wl l:List (Sg×Nat)}{o:Obj}{D:mn}
theorem GZ(C:Jk ts1 ts2 ws ms){H H':Hp}{prs:Ze}{kvs:List (TK×V)}{P:List bE}{p:Sg×Nat}{sb pp:Addr}{x7 x8:Option V}(A:iE K H0 H a1 a2 cd pl ts1 ts2 prs kvs ws ms P)(hb:P[n]?=some b)(hha:mh H ha b.key)(hwd:Rd H wd (.dT (stK wl)))(ewl:wl=ws.getD b.key.1 [])(hp:p∈ms.getD b.key.2 [])(hsb:aY K H sb (p.1.map V.str))(nwc:wd≠cd)
  (fault:∀(t lst:Addr) (gs:Ze) (H2:Hp),bI wl p.1=none->p.1.head?≠some ("ask":Str)->H2 t=some (.tup [.ref lst,.ref sb])->H2 lst=some (.lst (gs.map V.ref))->Paired (fun g (sg:Sg)=>aY K H2 g (sg.map V.str)) gs b.story->aY K H2 sb (p.1.map V.str)->H0 t=none->H0 lst=none->m9 H0 H2 a1 a2 ts1 ts2 ws ms->D.rt (.ref t) H2)
  (next:∀(prs':Ze) (kvs':List (TK×V)) (H2:Hp),(fL wl b (P,none) p).2=none->iE K H0 H2 a1 a2 cd pl ts1 ts2 prs' kvs' ws ms (fL wl b (P,none) p).1->(∀x u,H x=some u->x≠cd->x≠pl->H2 x=some u)->D.nx [some (.ref a1),some (.ref a2),some (.ref cd),some (.ref pl),some (.int ((n:Int)+1)),some (.ref ha),some (.ref wd),some (.ref sb),some (.int (p.2:Nat))] H2) :
  Bg K (fD K) D [some (.ref a1),some (.ref a2),some (.ref cd),some (.ref pl),some (.int ((n:Int)+1)),some (.ref ha),some (.ref wd),some (.ref sb),some (.int (p.2:Nat))] H:=by
 have few:=A.few C.z1 C.z2;have gw:∀{H:Hp},Rd H wd (.dT (stK wl))->aY K H sb (p.1.map V.str)->ip K H wd (.ref sb) ((bI wl p.1).map fun n=>V.int (n:Nat)):=fun hwd hsb=>.inr ⟨_,fj p.1,sb,hwd,rfl,mv hsb,cN _,vX.symm⟩;refine⟨_,rfl,_,rfl,wd,_,rfl,gw hwd hsb,_,rfl,?_⟩;cases e:bI wl p.1 with
 |none =>
  refine cS ?_;obtain⟨s0,rest,es⟩:=List.exists_cons_of_ne_nil (C.ne _ p hp);have at0:pW (p.1.map V.str) 0=some (.str s0):=by rw[es];exact aS (j:=0) rfl
  refine⟨_,rfl,sb,_,0,_,rfl,rfl,aY.sq hsb,at0,rfl,_,rfl,?_⟩;refine mY (P:=p.1.head?≠some ("ask":Str)) (by rw[es];simp) (fun c=>?_) (fun c=>?_)
  ·refine⟨_,rfl,_,rfl,cd,ha,kvs,ms,ws,P,n,b,rfl,A.hcd,A.came,A.ok,hb,hha,by omega,fun lst gs H2 hl hg hl0 S2=>⟨_,rfl,(by show 2<=ai;decide),fun t ht=>?_⟩⟩;have S3:ac H2 (upd H2 t (.tup [.ref lst,.ref sb])):=ac.new ht;exact fault t lst gs _ e c aa (S3 _ _ hl) (Paired.mapP hg fun _ _ r=>aY.kt (ac.kt S3) r) (aY.kt ((ac.kt S2).trans (ac.kt S3)) hsb) ((A.i.S.trans S2).free ht) (A.i.S.free hl0) (A.i.same (S2.trans S3))
  ·have c':=iQ.1 c;have e1:fL wl b (P,none) p=(P,none):=by unfold fL;simp only[e,c',if_true]
   exact next prs kvs H (by rw[e1]) (by rw[e1];exact A) fun x u q _ _=>q
 |some w =>
  refine bU ?_;have gw1:∀{H:Hp},Rd H wd (.dT (stK wl))->aY K H sb (p.1.map V.str)->ip K H wd (.ref sb) (some (.int (w:Nat))):=fun h1 h2=>by
   have:=gw h1 h2;rw[e]at this;exact this
  have hw:=uc e;rw[ewl]at hw;have rg:w<ts1.length/\p.2<ts2.length:=⟨C.c1 _ _ hw,C.c2 _ _ hp⟩;have l2:([V.int (w:Nat),V.int (p.2:Nat)]:List V).length<=ai:=by show 2<=ai;decide
  refine⟨_,rfl,_,rfl,wd,_,rfl,gw1 hwd hsb,_,rfl,l2,fun p1 hp1=>?_⟩;have S1:ac H (upd H p1 (.tup [.int (w:Nat),.int (p.2:Nat)])):=ac.new hp1;have pr1:mh (upd H p1 (.tup [.int (w:Nat),.int (p.2:Nat)])) p1 (w,p.2):=aa;generalize upd H p1 (.tup [.int (w:Nat),.int (p.2:Nat)])=H1 at S1 pr1 ⊢;have A1:=A.same S1;refine⟨_,rfl,cd,_,rfl,.inr ⟨_,oG (w,p.2),p1,.inl A1.hcd,rfl,cW.isIn 8 (fM _) pr1.tk,fM _,rfl⟩,_,rfl,?_⟩;rw[A1.came.has A1.ok.nd];cases eh:jB P (w,p.2)with
  |true =>
   refine bU ?_;have e1:fL wl b (P,none) p=(P,none):=by unfold fL;simp only[e,eh,if_true]
   exact next prs kvs H1 (by rw[e1]) (by rw[e1];exact A1) fun x u q _ _=>S1 _ _ q
  |false =>
   refine cS ?_;have e1:fL wl b (P,none) p=(P++[⟨(w,p.2),some (b.key,p.1),b.story++[p.1]⟩],none):=by unfold fL;simp only[e,eh,lp,if_false]
   refine⟨_,rfl,_,rfl,(by show 2<=ai;decide),fun t ht=>⟨_,rfl,_,rfl,_,rfl,wd,_,rfl,gw1 (Rd.same (S1.trans (ac.new ht)) hwd) (aY.kt (ac.kt (S1.trans (ac.new ht))) hsb),_,rfl,l2,fun p2 hp2=>?_⟩⟩;have S2:ac H1 (upd H1 t (.tup [.ref ha,.ref sb])):=ac.new ht;have t2:upd H1 t (.tup [.ref ha,.ref sb]) t=some (.tup [.ref ha,.ref sb]):=aa;generalize upd H1 t (.tup [.ref ha,.ref sb])=H2 at S2 t2 hp2 ⊢;have S3:ac H2 (upd H2 p2 (.tup [.int (w:Nat),.int (p.2:Nat)])):=ac.new hp2;have pr3:mh (upd H2 p2 (.tup [.int (w:Nat),.int (p.2:Nat)])) p2 (w,p.2):=aa;generalize upd H2 p2 (.tup [.int (w:Nat),.int (p.2:Nat)])=H3 at S3 pr3 ⊢;have S03:=(S1.trans S2).trans S3;have A3:=A.same S03;have lk:kvs.length<ai:=by rw[Paired.length A.came,k7];omega
   refine⟨cd,p2,kvs,oG (w,p.2),rfl,rfl,A3.hcd,cW.c 8 (fM _) pr3.tk,fM _,lk,?_⟩;have npc:pl≠cd:=fun z=>by have:=A.hpl;rw[z,A.hcd]at this;cases this
   have pl4:upd H3 cd (.dT (cL kvs (oG (w,p.2)) (.ref t))) pl=some (.lst (prs.map V.ref)):=by rw[ag npc];exact A3.hpl
   have wd4:Rd (upd H3 cd (.dT (cL kvs (oG (w,p.2)) (.ref t)))) wd (.dT (stK wl)):=Rd.ne nwc (Rd.same S03 hwd);refine⟨_,rfl,.inl ⟨rfl,_,ay.of pl4⟩,_,rfl,_,rfl,wd,_,rfl,gw1 wd4 (aY.kt ((ac.kt S03).trans (CF A3.hcd)) hsb),_,rfl,l2,fun p3 hp3=>?_⟩;have ncp:cd≠p3:=fun z=>by rw[<-z,aa]at hp3;cases hp3
   have hp3':H3 p3=none:=by rw[ag ncp.symm]at hp3;exact hp3
   rw[Em ncp];have S4:ac H3 (upd H3 p3 (.tup [.int (w:Nat),.int (p.2:Nat)])):=ac.new hp3';have pr4:mh (upd H3 p3 (.tup [.int (w:Nat),.int (p.2:Nat)])) p3 (w,p.2):=aa;generalize upd H3 p3 (.tup [.int (w:Nat),.int (p.2:Nat)])=H4 at S4 pr4 ⊢;have A4:=A3.same S4;have S04:=S03.trans S4;have pl5:upd H4 cd (.dT (cL kvs (oG (w,p.2)) (.ref t))) pl=some (.lst (prs.map V.ref)):=by rw[ag npc];exact A4.hpl
   refine⟨pl,_,.ref p3,rfl,rfl,pl5,?_,?_⟩
   ·rw[aj,Paired.length A.hprs,k7];omega
   have cv:pT K H4 ⟨(w,p.2),some (b.key,p.1),b.story++[p.1]⟩ (.ref t):=⟨t,ha,sb,rfl,S4 _ _ (S3 _ _ t2),S04 _ _ hha,aY.kt (ac.kt S04) hsb⟩;refine next (prs++[p3]) (kvs++[(oG (w,p.2),.ref t)]) _ (by rw[e1]) ?_ fun x u q n1 n2=>by rw[ag n2,ag n1];exact S04 _ _ q
   rw[e1];exact A4.add (c:=⟨(w,p.2),some (b.key,p.1),b.story++[p.1]⟩) eh cv pr4 (A.ok.add hb eh (by rw[<-ewl];exact e) hp) rg
end
def nY(ms ws:List (List (Sg×Nat))):Nat->List bE×Option (List Sg×Sg)
 |0=>([⟨(0,0),none,[]⟩],none)
 |n+1=>match (nY ms ws n).2 with
  |some _=>nY ms ws n
  |none=>match (nY ms ws n).1[n]? with
   |none=>nY ms ws n
   |some c=>((cB (ws.getD c.key.1 []) c (nY ms ws n).1 (ms.getD c.key.2 [])).1,(cB (ws.getD c.key.1 []) c (nY ms ws n).1 (ms.getD c.key.2 [])).2.map fun sg=>(c.story,sg))
theorem zR{ms ws:List (List (Sg×Nat))}{n:Nat}{P:List bE}{c:bE}(h:nY ms ws n=(P,none))(hc:P[n]?=some c):nY ms ws (n+1)=((cB (ws.getD c.key.1 []) c P (ms.getD c.key.2 [])).1,(cB (ws.getD c.key.1 []) c P (ms.getD c.key.2 [])).2.map fun sg=>(c.story,sg)):=by
 show(match (nY ms ws n).2 with|some _=>_|none=>_)=_
 rw[h];simp only[hc]
theorem rf(w:List (Sg×Nat))(b:bE):∀(l:List (Sg×Nat)) (q:List bE×Option Sg) (s:Sg),q.2=some s->(l.foldl (fL w b) q).2=some s
 |[],_,_,h=>h
 |p::l,q,s,h=>by
  rw[sD];have e:fL w b q p=q:=by unfold fL;rw[h]
  rw[e];exact rf w b l q s h
theorem zQ{w:List (Sg×Nat)}{b:bE}{P:List bE}{l:List (Sg×Nat)}{i:Nat}{p:Sg×Nat}(h:(cB w b P (l.take i)).2=none)(hp:l[i]?=some p)(h1:bI w p.1=none)(h2:p.1.head?≠some ("ask":Str)):(cB w b P l).2=some p.1:=by
 have e:l=l.take i++p::l.drop (i+1):=by
  obtain⟨hi,ei⟩:=cG.1 hp;rw[<-ei,List.getElem_cons_drop hi,sB]
 unfold cB at h ⊢;rw[e,k_,sD];refine rf w b _ _ _ ?_;generalize(l.take i).foldl (fL w b) (P,none)=q at h;unfold fL;simp only[h,h1,h2,if_false]
theorem Ak.rd{H0 H:Hp}{ts:Ze}{st:List (List (Sg×Nat))}(h:Ak H0 H ts st){i:Nat}{d:Addr}(e:ts[i]?=some d):H0 d=none/\Rd H d (.dT (stK (st.getD i []))):=by
 obtain⟨l,hl,h0,hr⟩:=Paired.getL h e;have:st.getD i []=l:=by rw[eJ,hl];rfl
 rw[this];exact⟨h0,hr⟩
theorem H_{K:Za}{H0:Hp}{a1 a2 cd pl ha wd md:Addr}{ts1 ts2:Ze}{ws ms:List (List (Sg×Nat))}{n:Nat}{b:bE}{o:Obj}{D:mn}(C:Jk ts1 ts2 ws ms){H:Hp}{prs:Ze}{kvs:List (TK×V)}{P:List bE}{x7 x8:Option V}(A:iE K H0 H a1 a2 cd pl ts1 ts2 prs kvs ws ms P)(hb:P[n]?=some b)(hha:mh H ha b.key)
  (ewd:ts1[b.key.1]?=some wd) (emd:ts2[b.key.2]?=some md) (hmd:H md=some (.frz o (.dT (stK (ms.getD b.key.2 [])))))
  (fault:∀(P':List bE) (p:Sg×Nat) (sb t lst:Addr) (gs:Ze) (H2:Hp),oB ms ws P'->(∃r,P'=P++r)->(cB (ws.getD b.key.1 []) b P (ms.getD b.key.2 [])).2=some p.1->p∈ms.getD b.key.2 []->bI (ws.getD b.key.1 []) p.1=none->p.1.head?≠some ("ask":Str)->H2 t=some (.tup [.ref lst,.ref sb])->H2 lst=some (.lst (gs.map V.ref))->Paired (fun g (sg:Sg)=>aY K H2 g (sg.map V.str)) gs b.story->aY K H2 sb (p.1.map V.str)->H0 t=none->H0 lst=none->m9 H0 H2 a1 a2 ts1 ts2 ws ms->D.rt (.ref t) H2)
  (next:∀(P':List bE) (prs':Ze) (kvs':List (TK×V)) (x7 x8:Option V) (H2:Hp),(∃r,P'=P++r)->cB (ws.getD b.key.1 []) b P (ms.getD b.key.2 [])=(P',none)->kS ms ws P' b->iE K H0 H2 a1 a2 cd pl ts1 ts2 prs' kvs' ws ms P'->D.nx [some (.ref a1),some (.ref a2),some (.ref cd),some (.ref pl),some (.int ((n:Int)+1)),some (.ref ha),some (.ref wd),x7,x8] H2) :
  IT (Hm md o (.dT (stK (ms.getD b.key.2 []))) (stK (ms.getD b.key.2 [])).length (Bq K (stK (ms.getD b.key.2 [])))) (ib K 2 (a_ U7 (a_ U8 (gR)))) (Bg K (fD K)) D [some (.ref a1),some (.ref a2),some (.ref cd),some (.ref pl),some (.int ((n:Int)+1)),some (.ref ha),some (.ref wd),x7,x8] H:=by
 have ell:(stK (ms.getD b.key.2 [])).length=(ms.getD b.key.2 []).length:=by unfold stK;rw[aj]
 have lfok:=fun i=>Fl A.ok hb ((ms.getD b.key.2 []).take i) fun p hp=>fC hp;have lt:n<P.length:=by
  rcases iR n P.length with z|z
  ·exact z
  ·rw[fQ z]at hb;cases hb
 refine v7 (fun i σ H'=>∃(prs':Ze) (kvs':List (TK×V)) (x7 x8:Option V),σ=[some (.ref a1),some (.ref a2),some (.ref cd),some (.ref pl),some (.int ((n:Int)+1)),some (.ref ha),some (.ref wd),x7,x8]/\(cB (ws.getD b.key.1 []) b P ((ms.getD b.key.2 []).take i)).2=none/\iE K H0 H' a1 a2 cd pl ts1 ts2 prs' kvs' ws ms (cB (ws.getD b.key.1 []) b P ((ms.getD b.key.2 []).take i)).1/\H' md=some (.frz o (.dT (stK (ms.getD b.key.2 []))))/\mh H' ha b.key)
  ⟨prs,kvs,_,_,rfl,rfl,A,hmd,hha⟩ ?_ ?_ ?_
 ·rintro i σ H' _ ⟨_,_,_,_,_,_,_,h,_⟩;exact h
 ·rintro i σ H3 pp a v hi ⟨prs',kvs',x7,x8,rfl,q0,A3,md3,ha3⟩ hpp ⟨key,ek,tkc⟩;unfold stK at ek;rw[bZ]at ek;obtain⟨p,hp,ep⟩:=su.1 ek;cases ep;obtain⟨sb,rfl,hsb⟩:=sZ tkc;have S:ac H3 (upd H3 pp (.tup [.ref sb,.int (p.2:Nat)])):=ac.new hpp;have hpp4:upd H3 pp (.tup [.ref sb,.int (p.2:Nat)]) pp=some (.tup [.ref sb,.int (p.2:Nat)]):=aa;generalize upd H3 pp (.tup [.ref sb,.int (p.2:Nat)])=H4 at S hpp4 ⊢;refine⟨pp,_,rfl,bc.of hpp4,rfl,_,_,rfl,_,_,rfl,rfl,?_⟩;have A4:=A3.same S;obtain⟨⟨r,er⟩,okr,_⟩:=lfok i;have es:cB (ws.getD b.key.1 []) b P ((ms.getD b.key.2 []).take (i+1))=fL (ws.getD b.key.1 []) b (cB (ws.getD b.key.1 []) b P ((ms.getD b.key.2 []).take i)) p:=by
   unfold cB;rw[take_snoc hp,k_];rfl
  have e2:cB (ws.getD b.key.1 []) b P ((ms.getD b.key.2 []).take i)=((cB (ws.getD b.key.1 []) b P ((ms.getD b.key.2 []).take i)).1,none):=by rw[<-q0]
  have hb4:(cB (ws.getD b.key.1 []) b P ((ms.getD b.key.2 []).take i)).1[n]?=some b:=by rw[er,fe lt];exact hb
  obtain⟨w0,hwd⟩:=Ak.rd A4.i.r1 ewd;have ncm:md≠cd:=A.nc2 md (ba emd);have ncw:wd≠cd:=A.nc1 wd (ba ewd);refine GZ C (n:=n) (b:=b) (p:=p) (sb:=sb) (x7:=none) (x8:=none) (pp:=pp) (H':=H4) A4 hb4 (S _ _ ha3) hwd rfl (ba hp) (aY.kt (ac.kt S) hsb) ncw ?_ ?_
  ·intro t lst gs H2 f1 f2 f3 f4 f5 f6 f7 f8 f9;exact fault _ p sb t lst gs H2 okr ⟨r,er⟩ (zQ q0 hp f1 f2) (ba hp) f1 f2 f3 f4 f5 f6 f7 f8 f9
  ·intro prs'' kvs'' H2 g1 g2 g3;rw[es,e2];refine⟨prs'',kvs'',_,_,rfl,g1,g2,?_,?_⟩
   ·refine g3 _ _ (S _ _ md3) ncm fun z=>?_;have:=A4.hpl;rw[<-z,S _ _ md3]at this;cases this
   ·refine g3 _ _ (S _ _ ha3) (fun z=>?_) fun z=>?_
    ·have:=A4.hcd;rw[<-z,S _ _ ha3]at this;cases this
    ·have:=A4.hpl;rw[<-z,S _ _ ha3]at this;cases this
 ·rintro σ H3 ⟨prs',kvs',x7,x8,rfl,q0,A3,md3,ha3⟩;rw[ell,aT]at q0 A3;obtain⟨⟨r,er⟩,_⟩:=lfok (ms.getD b.key.2 []).length;rw[aT]at er;exact next _ prs' kvs' x7 x8 H3 ⟨r,er⟩ (by rw[<-q0]) (fun p hp=>Bf _ q0 p hp) A3
inductive g_(K:Za)(vs:List V)(H:Hp)(Q:VK)(E:XK):Prop
 |mk (H0:Hp) (a1 a2:Addr) (ts1 ts2:Ze) (ws ms:List (List (Sg×Nat))):(vs=[.ref a1,.ref a2])->(m9 H0 H a1 a2 ts1 ts2 ws ms)->(Jk ts1 ts2 ws ms)->(0<ts1.length)->(0<ts2.length)->((∀(P:List bE) (H':Hp),oB ms ws P->nY ms ws P.length=(P,none)->P.length<=ts1.length * ts2.length->(∀c∈P,kS ms ws P c)->m9 H0 H' a1 a2 ts1 ts2 ws ms->Q .non H'))->(∀(P:List bE) (i:Nat) (c:bE) (p:Sg×Nat) (sb t lst:Addr) (gs:Ze) (H':Hp),oB ms ws P->(nY ms ws (i+1)).2=some (c.story,p.1)->i<ts1.length * ts2.length->P[i]?=some c->(∀(j:Nat) (c':bE),j<i->P[j]?=some c'->kS ms ws P c')->p∈ms.getD c.key.2 []->bI (ws.getD c.key.1 []) p.1=none->p.1.head?≠some ("ask":Str)->H' t=some (.tup [.ref lst,.ref sb])->H' lst=some (.lst (gs.map V.ref))->Paired (fun g (sg:Sg)=>aY K H' g (sg.map V.str)) gs c.story->aY K H' sb (p.1.map V.str)->H0 t=none->H0 lst=none->m9 H0 H' a1 a2 ts1 ts2 ws ms->Q (.ref t) H')->g_ K vs H Q E
theorem ve{K:Za}{vs:List V}{H:Hp}{Q:VK}{E:XK}(h:g_ K vs H Q E):uR K (fD K) (bM Q) (start vx vs) H:=by
 obtain⟨H0,a1,a2,ts1,ts2,ws,ms,rfl,I,C,z1,z2,kn,kf⟩:=h;have l2:([V.int 0,V.int 0]:List V).length<=ai:=by show 2<=ai;decide
 refine fun cd hcd=>⟨l2,fun p0 hp0=>?_⟩;have S1:ac H (upd H cd (.dT [])):=ac.new hcd;have S2:ac (upd H cd (.dT [])) (upd (upd H cd (.dT [])) p0 (.tup [.int 0,.int 0])):=ac.new hp0;have cd2:=S2 _ _ (aa (H:=H) (a:=cd) (o:=.dT []));have pr2:mh (upd (upd H cd (.dT [])) p0 (.tup [.int 0,.int 0])) p0 (0,0):=aa;have I2:=I.same (S1.trans S2);have c0:H0 cd=none:=I.S.free hcd;have nc:∀{ts:Ze}{st:List (List (Sg×Nat))},Ak H0 H ts st->∀t∈ts,t≠cd:=fun r=>Ak.ne r fun k q=>by
  rcases q with q|⟨o,q⟩
  ·rw[hcd]at q;cases q
  ·rw[hcd]at q;cases q
 have nc1:=nc I.r1;have nc2:=nc I.r2;have na1:a1≠cd:=ae I.h1 hcd;have na2:a2≠cd:=ae I.h2 hcd;generalize upd (upd H cd (.dT [])) p0 (.tup [.int 0,.int 0])=H2 at cd2 pr2 I2 ⊢;refine⟨cd2,p0,oG (0,0),rfl,cW.c 8 (fM _) pr2.tk,fM _,?_⟩;have I3:=I2.own (o:=.dT [(oG (0,0),.non)]) c0 na1 na2 nc1 nc2;have cd3:upd H2 cd (.dT [(oG (0,0),.non)]) cd=some (.dT [(oG (0,0),.non)]):=aa;generalize upd H2 cd (.dT [(oG (0,0),.non)])=H3 at I3 cd3 ⊢;refine⟨l2,fun p1 hp1=>⟨(by show 1<=ai;decide),fun pl hpl=>?_⟩⟩;have S4:ac H3 (upd H3 p1 (.tup [.int 0,.int 0])):=ac.new hp1;have pr4:mh (upd H3 p1 (.tup [.int 0,.int 0])) p1 (0,0):=aa;generalize upd H3 p1 (.tup [.int 0,.int 0])=H4 at S4 pr4 hpl ⊢;have S5:ac H4 (upd H4 pl (.lst [.ref p1])):=ac.new hpl;have pl5:upd H4 pl (.lst [.ref p1]) pl=some (.lst (([p1]:Ze).map V.ref)):=aa;have I5:=(I3.same S4).same S5;have A5:iE K H0 (upd H4 pl (.lst [.ref p1])) a1 a2 cd pl ts1 ts2 [p1] [(oG (0,0),.non)] ws ms [⟨(0,0),none,[]⟩]:=by
  refine⟨I5,S5 _ _ (S4 _ _ cd3),.cons ⟨rfl,rfl⟩ .nil,pl5,.cons (S5 _ _ pr4) .nil,DX ms ws,fun c hc=>?_,c0,(I3.same S4).S.free hpl,nc1,nc2,ae (I3.same S4).h1 hpl,ae (I3.same S4).h2 hpl⟩;rw[aX.1 hc];exact⟨z1,z2⟩
 generalize upd H4 pl (.lst [.ref p1])=H5 at A5 ⊢;clear S1 S2 cd2 pr2 I2 I3 cd3 S4 pr4 S5 pl5 I5;refine⟨fun m σ H'=>∃(n:Nat) (P:List bE) (prs:Ze) (kvs:List (TK×V)) (x5 x6 x7 x8:Option V),m=70000-n/\n<=P.length/\σ=[some (.ref a1),some (.ref a2),some (.ref cd),some (.ref pl),some (.int (n:Int)),x5,x6,x7,x8]/\iE K H0 H' a1 a2 cd pl ts1 ts2 prs kvs ws ms P/\nY ms ws n=(P,none)/\∀(j:Nat) (c:bE),j<n->P[j]?=some c->kS ms ws P c,
  ⟨70000,0,_,_,_,_,_,_,_,rfl,db _,rfl,A5,rfl,fun j c hj=>by omega⟩,?_⟩
 rintro m σ H6 ⟨n,P,prs,kvs,x5,x6,x7,x8,rfl,hn,rfl,A,eit,rows⟩;have few:=A.few C.z1 C.z2;have few2:=A.few2;refine⟨_,rfl,_,rfl,.inl ⟨pl,_,rfl,.inl (ay.of A.hpl),_,_,rfl,rfl,_,rfl,?_⟩⟩;have zp:(prs.map V.ref).length=P.length:=by rw[aj,Paired.length A.hprs]
 refine mY (P:=n<P.length) (by rw[zp];simp) (fun lt=>?_) (fun ge=>?_);rotate_left
 ·have e:n=P.length:=by omega
  refine kn P H6 A.ok (by rw[<-e];exact eit) few2 (fun c hc=>?_) A.i;obtain⟨j,hj,ej⟩:=wq hc;exact rows j c (by omega) (by rw[bY hj,ej])
 have hb:P[n]?=some P[n]:=bY lt;obtain⟨ha,eha,hha⟩:=Paired.get A.hprs hb;have hrg:=A.rg P[n] (lb _);generalize P[n]=b at hb hha hrg;have ath:pW (prs.map V.ref) n=some (.ref ha):=aS (by rw[bZ,eha];rfl);have ewd:ts1[b.key.1]?=some ts1[b.key.1]:=bY hrg.1;have emd:ts2[b.key.2]?=some ts2[b.key.2]:=bY hrg.2;have atw:pW (ts1.map V.ref) (b.key.1:Nat)=some (.ref ts1[b.key.1]):=aS (by rw[bZ,ewd];rfl);have atm:pW (ts2.map V.ref) (b.key.2:Nat)=some (.ref ts2[b.key.2]):=aS (by rw[bZ,emd];rfl);generalize ts1[b.key.1]=wd at ewd atw;generalize ts2[b.key.2]=md at emd atm;have ncm:md≠cd:=A.nc2 md (ba emd);refine⟨fun σ' H'=>∃m',m'<70000-n/\∃(n:Nat) (P:List bE) (prs:Ze) (kvs:List (TK×V)) (x5 x6 x7 x8:Option V),m'=70000-n/\n<=P.length/\σ'=[some (.ref a1),some (.ref a2),some (.ref cd),some (.ref pl),some (.int (n:Int)),x5,x6,x7,x8]/\iE K H0 H' a1 a2 cd pl ts1 ts2 prs kvs ws ms P/\nY ms ws n=(P,none)/\∀(j:Nat) (c:bE),j<n->P[j]?=some c->kS ms ws P c,fun σ' H' h=>h,?_⟩;refine⟨_,rfl,_,rfl,pl,_,_,_,rfl,rfl,ay.of A.hpl,ath,?_⟩;refine⟨_,rfl,_,_,rfl,rfl,?_⟩;refine⟨_,rfl,_,rfl,ha,_,0,_,rfl,rfl,bc.of hha,aS (j:=0) rfl,a1,_,_,_,rfl,rfl,ay.of A.i.h1,atw,?_⟩;refine⟨_,rfl,_,rfl,ha,_,1,_,rfl,rfl,bc.of hha,aS (j:=1) rfl,a2,_,_,_,rfl,rfl,ay.of A.i.h2,atm,md,stK (ms.getD b.key.2 []),rfl,?_⟩;obtain⟨md0,hmd⟩:=Ak.rd A.i.r2 emd;have up:∀{P':List bE},(∃r,P'=P++r)->(∀(j:Nat) (c:bE),j<n->P'[j]?=some c->kS ms ws P' c)/\P'[n]?=some b/\n+1<=P'.length:=by
  rintro P' ⟨r,rfl⟩;refine⟨fun j c hj hc=>?_,by rw[fe lt];exact hb,by rw[aL];omega⟩;rw[fe (by omega)]at hc;exact(rows j c hj hc).mono
 have fin:∀{H7:Hp}{o:Obj},iE K H0 H7 a1 a2 cd pl ts1 ts2 prs kvs ws ms P->mh H7 ha b.key->H7 md=some (.frz o (.dT (stK (ms.getD b.key.2 []))))->IT (Hm md o (.dT (stK (ms.getD b.key.2 []))) (stK (ms.getD b.key.2 [])).length (Bq K (stK (ms.getD b.key.2 [])))) (ib K 2 (a_ U7 (a_ U8 (gR)))) (Bg K (fD K)) { nx:=fun σ' H'=>∃m',m'<70000-n/\∃(n:Nat) (P:List bE) (prs:Ze) (kvs:List (TK×V)) (x5 x6 x7 x8:Option V),m'=70000-n/\n<=P.length/\σ'=[some (.ref a1),some (.ref a2),some (.ref cd),some (.ref pl),some (.int (n:Int)),x5,x6,x7,x8]/\iE K H0 H' a1 a2 cd pl ts1 ts2 prs kvs ws ms P/\nY ms ws n=(P,none)/\∀(j:Nat) (c:bE),j<n->P[j]?=some c->kS ms ws P c,rt:=Q,ct:=fun σ' H'=>∃m',m'<70000-n/\∃(n:Nat) (P:List bE) (prs:Ze) (kvs:List (TK×V)) (x5 x6 x7 x8:Option V),m'=70000-n/\n<=P.length/\σ'=[some (.ref a1),some (.ref a2),some (.ref cd),some (.ref pl),some (.int (n:Int)),x5,x6,x7,x8]/\iE K H0 H' a1 a2 cd pl ts1 ts2 prs kvs ws ms P/\nY ms ws n=(P,none)/\∀(j:Nat) (c:bE),j<n->P[j]?=some c->kS ms ws P c,bk:=fun σ H'=>bj (tC .non) (bM Q) σ H' } [some (.ref a1),some (.ref a2),some (.ref cd),some (.ref pl),some (.int ((n:Int)+1)),some (.ref ha),some (.ref wd),x7,x8] H7:=by
  intro H7 o A7 ha7 md7;refine H_ C A7 hb ha7 ewd emd md7 ?_ ?_
  ·intro P' p sb t lst gs H2 ok' ex fr f0 f1 f2 f3 f4 f5 f6 f7 f8 f9;obtain⟨u1,u2,_⟩:=up ex;exact kf P' n b p sb t lst gs H2 ok' (by rw[zR eit hb,fr];rfl) (by omega) u2 u1 f0 f1 f2 f3 f4 f5 f6 f7 f8 f9
  ·intro P' prs' kvs' x7 x8 H2 ex fr ro A';obtain⟨u1,u2,u3⟩:=up ex;refine⟨70000-(n+1),by omega,n+1,P',prs',kvs',_,_,x7,x8,rfl,u3,by rw[show((n+1:Nat):Int)=(n:Int)+1 from by omega],A',by rw[zR eit hb,fr];rfl,fun j c hj hc=>?_⟩;rcases iR j n with z|z
   ·exact u1 j c z hc
   ·have:j=n:=by omega
    subst this;rw[u2]at hc;injection hc with hc;subst hc;exact ro
 rcases hmd with e|⟨o,e⟩
 ·exact .inl ⟨e,fun o=>fin (A.frz md0 e ncm) (CF e _ _ hha) aa⟩
 ·exact .inr ⟨o,e,fin A hha e⟩
def HZ:Option Nat->V
 |none=>.non
 |some n=>.int (n:Nat)
def i4(fc:Nat)(st:List (Sg×Nat))(d:ak):List (Str×Option Nat) :=
 if d.sg=ao then[(d.b,some fc)]else if(bI st d.sg).isSome=true∨d.sg.head?=some ("say":Str)then[(d.b,bI st d.sg)]else[]
def lM(J2:Zb)(ds:List ak)(room:Str)(fc:Nat)(st:List (Sg×Nat)):List (Str×Option Nat) :=
 (aZ ds room).flatMap (i4 fc st)++if room∈J2.filter (c6 ds)then[(room,bI st aV)]else[]
abbrev qI(H:Hp)(us:Ze)(L:List (Str×Option Nat)):Prop:=Paired (fun u (r:Str×Option Nat)=>H u=some (.tup [.str r.1,HZ r.2])) us L
theorem qI.kt{H H':Hp}{us:Ze}{L:List (Str×Option Nat)}(k:hU H H')(h:qI H us L):qI H' us L:=Paired.mapP h fun _ _ r=>k _ _ r
inductive oY(K:Za)(C:Addr)(vs:List V)(H:Hp)(Q:VK)(E:XK):Prop
 |mk (x sd:Addr) (room:Str) (fc:Nat) (st:List (Sg×Nat)) (J0 J1 J2:Zb) (ds:List ak):(vs=[.ref x,.str room,.int (fc:Nat),.ref sd])->(bv C H x J0 J1 J2 ds)->(room∈J2)->(Rd H sd (.dT (stK st)))->(∀(l:Addr) (us:Ze) (H':Hp),H' l=some (.lst (us.map V.ref))->qI H' us (lM J2 ds room fc st)->H l=none->ac H H'->Q (.ref l) H')->oY K C vs H Q E
def FR(ds:List ak)(f:Zb):Prop:=∀d∈ds,d.sg=ao->d.a∈f->d.b∈f
theorem vN{J2 gs:Zb}{ds:List ak}(hb:∀d∈ds,d.b∈J2):FR ds (closF J2 ds gs):=by
 classical
 intro d hd hs ha;unfold closF at ha ⊢;rw[bF]at ha ⊢;obtain⟨a,sg,b⟩:=d;have hs:sg=ao:=hs;subst hs;exact⟨hb _ hd,zzr1 (fO.step (of_decide_eq_true ha.2) hd)⟩
theorem Ey{J2 f sg:Zb}{ds:List ak}(hb:∀d∈ds,d.b∈J2):FR ds (behF J2 ds f sg):=by
 unfold behF;split
 ·intro d hd hs ha;have h:=of_decide_eq_true (bF.1 ha).2;refine absurd (ax.2 ⟨d,bF.2 ⟨hd,?_⟩,rfl⟩) h;unfold gg;rw[hs]
  decide
 ·exact vN hb
theorem EZ{s:List Sg}{m:gL}(L:List (Sg×List Str)):∀f∈(eN s m L).1.fs,f∈m.fs∨∃p∈L,f=p.2:=by
 have key:∀n,n<=L.length->∀f∈(eN s m (L.take n)).1.fs,f∈m.fs∨∃p∈L,f=p.2:=by
  intro n
  induction n with
  |zero=>intro _ f hf;exact .inl hf
  |succ n ih =>
   intro hn f hf;have hp:L[n]?=some L[n]:=bY (by omega);rw[take_snoc hp,jY]at hf;have hf:f∈((eN s m (L.take n)).1.add L[n].2 (s++[L[n].1])).fs:=hf;by_cases c:L[n].2∈(eN s m (L.take n)).1.fs
   ·rw[gL.add_in c]at hf;exact ih (by omega) f hf
   ·rw[gL.add_new c]at hf;rcases bd.1 hf with hf|hf
    ·exact ih (by omega) f hf
    ·exact .inr ⟨L[n],lb _,aX.1 hf⟩
 have:=key L.length (aB _);rw[aT]at this;exact this
theorem Cb{J0 J1 J2:Zb}{ds:List ak}(hb:∀d∈ds,d.b∈J2):∀k,∀f∈(itF J0 J1 J2 ds k).1.fs,FR ds f
 |0,f,hf=>by
  have e:(⟨[],[]⟩:gL).add (closF J2 ds (J2.take 1)) []=⟨[closF J2 ds (J2.take 1)],[[]]⟩:=gL.add_new (fun z=>nomatch z);have hf:f∈((⟨[],[]⟩:gL).add (closF J2 ds (J2.take 1)) []).fs:=hf;rw[e]at hf;rw[aX.1 hf];exact vN hb
 |k+1,f,hf=>by
  rcases EZ _ f hf with h|⟨p,hp,rfl⟩
  ·exact Cb hb k f h
  ·obtain⟨sg,_,rfl⟩:=ax.1 (bF.1 hp).1;exact Ey hb
theorem Fu{J2 f:Zb}{ds:List ak}{d:ak}(hd:d∈ds)(hr:d.b∈J2)(ha:d.a∈f)(hn:d.sg≠aV):d.b∈behF J2 ds f d.sg:=by
 classical
 unfold behF;rw[if_neg hn];unfold closF;refine bF.2 ⟨hr,zzr1 ⟨d.b,?_,.inl rfl⟩⟩;unfold dk;rw[jr];refine⟨d.a,ha,?_⟩;unfold bz;exact ax.2 ⟨d,bF.2 ⟨hd,zzr1 ⟨rfl,rfl⟩⟩,rfl⟩
def wn(P:List bE)(SI:pS)(room:Str)(num:Nat):Prop:=∃c∈P,c.key.1=num/\∃F,SI.1.fs[c.key.2]?=some F/\room∈F
section
variable{J0 J1 J2:Zb}{ds:List ak}{SI:pS}{ws:List (List (Sg×Nat))}{P:List bE}(m:aK J0 J1 J2 ds)(ok:ml J0 J1 J2 ds SI)(le:SI.2.length=SI.1.fs.length)(ro:∀c∈P,kS SI.2 ws P c)
include m ok le ro
theorem y_{c:bE}(hc:c∈P){F:Zb}(hF:SI.1.fs[c.key.2]?=some F){sg:Sg}(hs:sg∈bb J0 J1){r:Str}(hr:r∈behF J2 ds F sg):
  (bI (ws.getD c.key.1 []) sg=none->sg.head?=some ("ask":Str))/\∀w,bI (ws.getD c.key.1 []) sg=some w->wn P SI r w:=by
 have lt:c.key.2<SI.2.length:=by
  rw[le];rcases iR c.key.2 SI.1.fs.length with z|z
  ·exact z
  ·rw[fQ z]at hF;cases hF
 have hl:SI.2[c.key.2]?=some SI.2[c.key.2]:=bY lt;obtain⟨f,hf,pr⟩:=ok.st _ _ hl;rw[hF]at hf;injection hf with hf;subst hf;have hm:(sg,behF J2 ds F sg)∈stepsF J0 J1 J2 ds F:=bF.2 ⟨ax.2 ⟨sg,hs,rfl⟩,zzr1 fun z=>by rw[show behF J2 ds F sg=[]from z]at hr;cases hr⟩;obtain⟨k,hk,ek⟩:=wq hm;obtain⟨a,ha,e1,e2⟩:=Paired.get pr (i:=k) (y:=(sg,behF J2 ds F sg)) (by rw[bY hk,ek]);have hp:a∈SI.2.getD c.key.2 []:=by
  rw[eJ,hl];exact ba ha
 have row:=ro c hc a hp;rw[e1]at row;constructor
 ·intro z;rw[show bI (ws.getD c.key.1 []) (sg,behF J2 ds F sg).1=none from z]at row;exact row
 ·intro w z;rw[show bI (ws.getD c.key.1 []) (sg,behF J2 ds F sg).1=some w from z]at row;obtain⟨c',hc',ec⟩:=ax.1 (pC.1 row);exact⟨c',hc',by rw[ec],behF J2 ds F sg,by rw[ec];exact e2,hr⟩
theorem Gs(sh:∀f∈SI.1.fs,FR ds f){room:Str}{num:Nat}(h:wn P SI room num):∀r∈lM J2 ds room num (ws.getD num []),∃n',r.2=some n'/\wn P SI r.1 n':=by
 obtain⟨c,hc,rfl,F,hF,hroom⟩:=h;intro r hr;unfold lM at hr;rcases bd.1 hr with hr|hr
 ·obtain⟨d,hd,hrd⟩:=jr.1 hr;have hd1:d∈ds:=(bF.1 hd).1;have hda:d.a=room:=of_decide_eq_true (bF.1 hd).2;have good:=m.good d hd1;unfold i4 at hrd;split at hrd
  ·rename_i c1;rw[aX.1 hrd];exact⟨_,rfl,c,hc,rfl,F,hF,sh F (ba hF) d hd1 c1 (by rw[hda];exact hroom)⟩
  ·rename_i c1;split at hrd
   ·rename_i c2;rw[aX.1 hrd];have hsg:d.sg∈bb J0 J1/\d.sg≠aV:=by
     unfold bb;rcases good.sg with⟨w,hw,e⟩|⟨w,hw,e⟩|e
     ·exact⟨cj _ (cj _ (ax.2 ⟨w,hw,e.symm⟩)),by rw[e];unfold aV;intro z;injection z with _ z;cases z⟩
     ·exact⟨cj _ (cD _ (ax.2 ⟨w,hw,e.symm⟩)),by rw[e];unfold aV;intro z;injection z with _ z;cases z⟩
     ·exact absurd e c1
    obtain⟨s1,s2⟩:=y_ m ok le ro hc hF hsg.1 (Fu hd1 good.b (by rw[hda];exact hroom) hsg.2);cases e:bI (ws.getD c.key.1 []) d.sg with
    |some w=>exact⟨w,rfl,s2 w e⟩
    |none =>
     have h1:=s1 e;rcases c2 with z|z
     ·rw[e]at z;cases z
     ·rw[h1]at z;exact absurd z (by decide)
   ·cases hrd
 ·split at hr
  ·rename_i q;rw[aX.1 hr];have hq:=(bF.1 q).2;rw[kr]at hq;have hb:room∈behF J2 ds F aV:=by
    unfold behF;rw[if_pos rfl];exact bF.2 ⟨hroom,hq⟩
   obtain⟨s1,s2⟩:=y_ m ok le ro hc hF (sg:=aV) (by unfold bb;exact cD _ dO) hb;cases e:bI (ws.getD c.key.1 []) aV with
   |some w=>exact⟨w,rfl,s2 w e⟩
   |none=>exact absurd (s1 e) (by decide)
  ·cases hr
end
theorem DW{k:Nat}{fi:List Nat}{d l:Addr}{o:Obj}{u:HO}{n:Nat}{ent:Nat->Hp->V->V->Prop}{g:TG}{tc:TT}{te:TE}{σ:L2.St}{H1:Hp}{Q:Hp->Prop}(Pv:Nat->List V->Hp->Prop)(h0:Pv 0 [] (upd H1 l (.lst [])))
  (hl:∀i vs H,i<=n->Pv i vs H->H l=some (.lst vs)/\H d=some (.frz o u)) (hd:∀vs H,Pv n vs H->Q H)
  (hs:∀i vs H a b,i<n->Pv i vs H->ent i H a b->g a (dS k fi σ) H fun σ2 H4=>tc σ2 H4 fun b H5 =>
   if b=true then te σ2 H5 fun v H6=>H6 l=some (.lst vs)/\vs.length<ai/\∃m',m'<n-i/\Wc n Pv (i+1) m' (vs++[v]) (upd H6 l (.lst (vs++[v])))else ∃m',m'<n-i/\Wc n Pv (i+1) m' vs H5) :
  gu k fi σ (HH d o u n ent) g tc te H1 l Q:=by
 refine l_ n Pv h0 (fun i vs H hi p=>(hl i vs H hi p).1) (fun i vs H hi p=>⟨(hl i vs H (fk hi) p).2,hi⟩) (fun vs H p=>⟨⟨(hl n vs H (aB _) p).2,aB _⟩,hd vs H p⟩) fun i vs H x H3 hi p y=>?_;obtain⟨rfl,b,en⟩:=y;exact hs i vs _ x b hi p en
abbrev Row:=Str×Nat
def qx(r:Row):TK:=.t [.k (some (.inr r.1)),.k (some (.inl (r.2:Int)))]
theorem GG{a b:Row}(h:qx a=qx b):a=b:=by
 unfold qx at h;injection h with h;injection h with h1 h2;injection h2 with h2 _;injection h1 with h1;injection h2 with h2;injection h1 with h1;injection h2 with h2;injection h1 with h1;injection h2 with h2;obtain⟨a1,a2⟩:=a;obtain⟨b1,b2⟩:=b;simp only at h1 h2;rw[h1,show a2=b2 by omega]
theorem iM(k:Row):(qx k).depth<=8:=by
 show max 0 (max 0 0)+1<=8
 decide
abbrev uB(H:Hp)(a:Addr)(k:Row):Prop:=H a=some (.tup [.str k.1,.int (k.2:Nat)])
theorem uB.tk{H:Hp}{a:Addr}{k:Row}(h:uB H a k):cW H (qx k) (.ref a):=by
 unfold qx cW;refine⟨a,_,rfl,h,?_⟩;unfold TKAts;refine⟨_,_,rfl,?_,?_⟩
 ·unfold cW;rfl
 unfold TKAts;refine⟨_,_,rfl,?_,?_⟩
 ·unfold cW;rfl
 unfold TKAts
 rfl
theorem Ge{K:Za}{H:Hp}{k:Row}{a:V}(h:mK K H (qx k) a):∃b,a=.ref b/\aY K H b [.str k.1,.int (k.2:Nat)]:=by
 unfold qx mK at h;obtain⟨b,xs,rfl,h1,h2⟩:=h;unfold TKCs at h2;obtain⟨v,us,rfl,h3,h4⟩:=h2;unfold TKCs at h4;obtain⟨v',us',rfl,h5,h6⟩:=h4;unfold TKCs at h6;unfold mK at h3 h5;subst h3 h5 h6;exact⟨b,rfl,h1⟩
def ud(L:List Row):List (TK×V):=L.map fun r=>(qx r,.bl true)
theorem xV(r:Row):∀L:List Row,(br (ud L) (qx r)).isSome=decide (r∈L)
 |[]=>rfl
 |x::L=>by
  show(br ((qx x,V.bl true)::ud L) (qx r)).isSome=_;by_cases c:x=r
  ·rw[cr (by show qx x=qx r;rw[c])];simp[c]
  ·rw[bW (fun z=>c (GG z)),xV r L];simp[dB c]
theorem zc{J2:Zb}{n:Nat}{L:List Row}(nd:L.Nodup)(h:∀r∈L,r.1∈J2/\r.2<n):L.length<=J2.length * n:=by
 have h1:=jZ nd (R:=J2.flatMap fun x=>(iO n).map fun i=>(x,i)) fun r hr=>by
  obtain⟨h2,h3⟩:=h r hr;exact jr.2 ⟨r.1,h2,ax.2 ⟨r.2,List.mem_range.2 h3,rfl⟩⟩
 have:∀l:List Str,(l.flatMap fun x=>(iO n).map fun i=>(x,i)).length=l.length * n:=by
  intro l
  induction l with
  |nil=>simp
  |cons x l ih=>rw[nA,aL,ih,aj,sJ,d4,Nat.succ_mul];omega
 rw[this]at h1;exact h1
structure RowP(J2:Zb)(ds:List ak)(ws:List (List (Sg×Nat)))(n:Nat)(R:Row->Prop):Prop where
 rg:∀r,R r->r.1∈J2/\r.2<n
 next:∀r,R r->∀x∈lM J2 ds r.1 r.2 (ws.getD r.2 []),∃n',x.2=some n'/\R (x.1,n')
structure uC(H0 H:Hp)(rd wl:Addr)(ps:Ze)(L W:List Row)(R:Row->Prop):Prop where
 hrd:H rd=some (.dT (ud L))
 hwl:H wl=some (.lst (ps.map V.ref))
 hps:Paired (fun a r=>uB H a r) ps W
 nd:L.Nodup
 all:∀r∈L,R r
 sub:∀r∈W,r∈L
 S:ac H0 H
 r0:H0 rd=none
 w0:H0 wl=none
theorem uC.same{H0 H H':Hp}{rd wl:Addr}{ps:Ze}{L W:List Row}{R:Row->Prop}(h:uC H0 H rd wl ps L W R)(S:ac H H'):uC H0 H' rd wl ps L W R :=
 ⟨S _ _ h.hrd,S _ _ h.hwl,Paired.mapP h.hps fun _ _ r=>S _ _ r,h.nd,h.all,h.sub,h.S.trans S,h.r0,h.w0⟩
theorem uC.add{H0 H:Hp}{rd wl u:Addr}{ps:Ze}{L W:List Row}{R:Row->Prop}(h:uC H0 H rd wl ps L W R){r:Row}(hu:uB H u r)(hn:¬r∈L)(hr:R r):
  uC H0 (upd (upd H rd (.dT (cL (ud L) (qx r) (.bl true)))) wl (.lst (ps.map V.ref++[.ref u]))) rd wl (ps++[u]) (L++[r]) (W++[r]) R:=by
 have nwr:wl≠rd:=fun z=>by have:=h.hwl;rw[z,h.hrd]at this;cases this
 have k1:hU H (upd H rd (.dT (cL (ud L) (qx r) (.bl true)))):=CF h.hrd;have wl1:upd H rd (.dT (cL (ud L) (qx r) (.bl true))) wl=some (.lst (ps.map V.ref)):=by rw[ag nwr];exact h.hwl
 have k2:=k1.trans (cR (o:=.lst (ps.map V.ref++[.ref u])) wl1);have vn:br (ud L) (qx r)=none:=by
  have:=xV r L;rw[zzr0 hn]at this;cases e:br (ud L) (qx r)with
  |none=>rfl
  |some v=>rw[e]at this;cases this
 refine⟨?_,?_,dv (Paired.mapP h.hps fun _ _ q=>k2 _ _ q) (k2 _ _ hu),?_,?_,?_,?_,h.r0,h.w0⟩
 ·rw[ag nwr.symm,aa,df _ vn];unfold ud;rw[aw];rfl
 ·rw[aa,aw];rfl
 ·rw[cP];exact⟨h.nd,by simp,fun a ha b hb e=>hn (by rw[<-aX.1 hb,<-e];exact ha)⟩
 ·intro x hx;rcases bd.1 hx with hx|hx
  ·exact h.all x hx
  ·rw[aX.1 hx];exact hr
 ·intro x hx;rcases bd.1 hx with hx|hx
  ·exact cj _ (h.sub x hx)
  ·exact cD _ hx
 ·intro b q e;rw[ag (ae e h.w0),ag (ae e h.r0)];exact h.S _ _ e
def uQ(K:Za)(C_Machine:Addr)(sp_Machine_says:Sp)(sp_Machine_asks:Sp):TS :=
 b_ (vL (aO (aH (rP K) (cX C_Machine "asks" sp_Machine_asks [] E0 V0 bq) (cX C_Machine "asks" sp_Machine_asks [] E0 V1 bq))) (aO (aH (rP K) (cX C_Machine "says" sp_Machine_says [] E0 V0 bq) (cX C_Machine "says" sp_Machine_says [] E0 V1 bq)))) (tD) (bB)
def vw:List Str:=["M","I"]
def ka(K:Za)(C_Machine:Addr)(sp_Machine_rooms:Sp)(sp_Machine_asks:Sp)(jO:Sp):TS :=
 d9 (b0 K (cX C_Machine "rooms" sp_Machine_rooms [] E0 V0 bq)) U1 (d9 (b0 K (cX C_Machine "asks" sp_Machine_asks [] E0 V0 bq)) U2 (b_ (oQ (tB (aM jO (eB V0 V1 V2)))) (tD) (bB)))
def kE:List Str:=["I","room","ask"]
def uP(K:Za)(sp_need_all_asks_taken:Sp)(sp_need_match:Sp):TS :=
 ap (bQ (aM sp_need_match (aR V0 V1)))
 (bQ (aM sp_need_all_asks_taken (az V1)))
def vv:List Str:=["M","I"]
def xn(K:Za)(sp_law_put:Sp)(sp_law_take:Sp)(sp_law_still_on:Sp):TS :=
 ap (aP V1 (ib K 4 (a_ U2 (a_ U3 (a_ U4 (a_ U5 (gR)))))))
 (ap (aP (eo (dw K) (az V5)) U5)
 (ap (aP (aM sp_law_take (aR V0 (tC (.int 6)))) U6)
 (ap (aP (aM sp_law_take (ar V0 (az (eo IA (aR (tC (.int 1)) (eo (eC K) (az V5))))))) U7)
 (ap (aP (aH (cZ K) V4 (aM sp_law_take (aR V0 (eo (eC K) (az V4))))) U8)
 (ap (aP (aH (cZ K) V4 (aM sp_law_take (aR V0 (eo (eC K) (az V4))))) U9)
 (ap (b_ (aO (aH yI V6 (tC (.int 0)))) (bQ (aM sp_law_put (ar V5 (ar (bD (ar V8 (ar (bD (ar (tC (.str "say")) (ar (aH (cZ K) V3 (aM sp_law_take (aR V0 (eo (eC K) (az V3))))) bq))) (az V9)))) bq)))) (b_ (aO (aH yI V6 (tC (.int 1)))) (bQ (aM sp_law_put (ar V5 (ar (bD (ar V8 (ar (bD (ar (tC (.str "ask")) (ar (aH (cZ K) V2 (aM sp_law_take (aR V0 (eo (eC K) (az V2))))) bq))) (az V9)))) bq)))) (b_ (kW (aO (aH AZ V6 (tC (.int 4)))) (kW (aO (aH (rP K) V5 (eG (bq)))) (aO (aH GI (aH (h9 K) (aH (h9 K) (aH (cZ K) V5 V7) (tC (.int 1))) (tC (.int 0))) (tC (.str "still")))))) (ap (aP (uM K "list" EN V5 (az V7)) Jf)
 (b_ (aO (aH yI V6 (tC (.int 3)))) (bQ (aM sp_law_put (ar V5 (ar (bD (eB (aH (h9 K) He (tC (.int 0))) (aH (h9 K) He (tC (.int 1))) V9)) bq)))) (bB))) (b_ (kW (aO (aH yI V6 (tC (.int 4)))) (aO (aH (qy K true) V8 (aM sp_law_still_on (aR V5 (eG (az V9))))))) (bQ (aM sp_law_put (ar V5 (ar (bD (eB V8 (bD (az (tC (.str "still")))) V9)) bq)))) (bB)))))
 (bj (bD (ar V2 (eB V3 V4 V5))))))))))
def yv:List Str:=["pen","told","asks","says","rooms","doors","way","at","room","other","door"]
def Ax(K:Za)(sp_law_take:Sp)(sp_law_renamed:Sp)(sp_law_willing:Sp)(sp_law_turned:Sp)(sp_law_anew:Sp):TS :=
 ap (bQ (aM sp_law_anew (az V0)))
 (ap (d9 (um (ar (aM sp_law_take (aR V0 (aH fo V2 (tC (.int 1))))) bq)) U3 (aP (aM sp_law_turned (aR V0 V1)) U1))
 (ap (aP (aM sp_law_willing (aR V0 V1)) U1)
 (ap (b_ (aO (aH yI (aM sp_law_take (aR V0 (tC (.int 2)))) (tC (.int 0)))) (aP (aM sp_law_renamed (aR V0 V1)) U1) (bB))
 (bj V1))))
def BE:List Str:=["pen","told","most","turn"]
inductive fU(C:Addr)(vs:List V)(H:Hp)(Q:VK)(E:XK):Prop
 |mk (x y:Addr) (J0 J1 J2 rooms':Zb) (ds ds':List ak):(vs=[.ref x,.ref y])->(bv C H x J0 J1 J2 ds)->(bv C H y J0 J1 rooms' ds')->(∀H',ac H H'->Q .non H')->fU C vs H Q E
theorem tS{K:Za}{C:Addr}{vs:List V}{H:Hp}{Q:VK}{E:XK}(h:fU C vs H Q E):uQ K C (oX C) (mB C) (bM Q) (start vw vs) H:=by
 obtain⟨x,y,J0,J1,J2,rooms',ds,ds',rfl,M,N,k⟩:=h;obtain⟨dx,fs,g1,a1,a2,_⟩:=id M.more;obtain⟨dy,gs,g2,b1,b2,_⟩:=id N.more;refine⟨_,rfl,x,dx,fs,rfl,g1,a1,x,J0,J1,J2,ds,rfl,M,fun l1 h1=>?_⟩;have S1:ac H (upd H l1 (.lst (J0.map V.str))):=ac.new h1;have e1:upd H l1 (.lst (J0.map V.str)) l1=some (.lst (J0.map V.str)):=aa;generalize upd H l1 (.lst (J0.map V.str))=H1 at S1 e1 ⊢;refine⟨_,rfl,y,dy,gs,rfl,S1 _ _ g2,b1,y,J0,J1,rooms',ds',rfl,N.same S1,fun l2 h2=>?_⟩;have S2:ac H (upd H1 l2 (.lst (J0.map V.str))):=S1.trans (ac.new h2);refine Cw (kp e1 h2) aa ⟨_,rfl,?_⟩;generalize upd H1 l2 (.lst (J0.map V.str))=H2 at S2 ⊢;rw[zzr1 rfl];refine bU ?_;refine⟨_,rfl,x,dx,fs,rfl,S2 _ _ g1,a2,x,J0,J1,J2,ds,rfl,M.same S2,fun l3 h3=>?_⟩;have S3:ac H (upd H2 l3 (.lst (J1.map V.str))):=S2.trans (ac.new h3);have e3:upd H2 l3 (.lst (J1.map V.str)) l3=some (.lst (J1.map V.str)):=aa;generalize upd H2 l3 (.lst (J1.map V.str))=H3 at S3 e3 ⊢;refine⟨_,rfl,y,dy,gs,rfl,S3 _ _ g2,b2,y,J0,J1,rooms',ds',rfl,N.same S3,fun l4 h4=>?_⟩;have S4:ac H (upd H3 l4 (.lst (J1.map V.str))):=S3.trans (ac.new h4);refine Cw (kp e3 h4) aa ⟨_,rfl,?_⟩;rw[zzr1 rfl];exact bU (k _ S4)
inductive iw(C:Addr)(vs:List V)(H:Hp)(Q:VK)(E:XK):Prop
 |mk (x:Addr) (J0 J1 J2:Zb) (ds:List ak):(vs=[.ref x])->(bv C H x J0 J1 J2 ds)->((∀r∈J2,∀a∈J0,gK ds r a))->(∀H',ac H H'->Q .non H')->iw C vs H Q E
theorem xI{K:Za}{C:Addr}{vs:List V}{H:Hp}{Q:VK}{E:XK}(h:iw C vs H Q E):ka K C (fT C) (mB C) (jO C) (bM Q) (start kE vs) H:=by
 obtain⟨x,J0,J1,J2,ds,rfl,M,tk,k⟩:=h;obtain⟨dx,fs,o1,o2,o3,o4,lv,qu,sgA,sl,ts,lps,gps,sps,g1,a1,a2,a3,a4,_⟩:=id M.at_;refine⟨_,rfl,x,dx,fs,rfl,g1,a4,x,J0,J1,J2,ds,rfl,M,fun l1 h1=>?_⟩;have S1:ac H (upd H l1 (.lst (J2.map V.str))):=ac.new h1;have e1:upd H l1 (.lst (J2.map V.str)) l1=some (.lst (J2.map V.str)):=aa;generalize upd H l1 (.lst (J2.map V.str))=H1 at S1 e1 ⊢;refine⟨l1,rfl,⟨_,ay.of e1⟩,?_⟩;refine bR (xs:=J2.map V.str) (fun i σ H'=>∃y z,σ=[some (.ref x),y,z]/\ac H1 H') ⟨_,_,rfl,ac.refl _⟩ (fun i σ H' _ ⟨_,_,_,S⟩=>ay.of (S _ _ e1)) ?_ ?_
 ·rintro i v σ H2 hi ⟨y,z,rfl,S2⟩;obtain⟨r,hr,rfl⟩:=bu hi;have M2:=M.same (S1.trans S2);obtain⟨dx,fs,g1,a1,_⟩:=id M2.more;refine⟨_,rfl,x,dx,fs,rfl,g1,a1,x,J0,J1,J2,ds,rfl,M2,fun l2 h2=>?_⟩;have S3:ac H1 (upd H2 l2 (.lst (J0.map V.str))):=S2.trans (ac.new h2);have e2:upd H2 l2 (.lst (J0.map V.str)) l2=some (.lst (J0.map V.str)):=aa;generalize upd H2 l2 (.lst (J0.map V.str))=H3 at S3 e2 ⊢;refine⟨l2,rfl,⟨_,ay.of e2⟩,?_⟩;refine bR (xs:=J0.map V.str) (fun j σ H'=>∃z,σ=[some (.ref x),some (.str r),z]/\ac H3 H') ⟨_,rfl,ac.refl _⟩ (fun i σ H' _ ⟨_,_,S⟩=>ay.of (S _ _ e2)) ?_ ?_
  ·rintro j v σ H4 hj ⟨z,rfl,S4⟩;obtain⟨a,ha,rfl⟩:=bu hj;refine⟨_,rfl,_,rfl,_,rfl,x,r,a,J0,J1,J2,ds,rfl,M.same ((S1.trans S3).trans S4),ba hr,fun H5 S5=>⟨_,rfl,?_⟩⟩;rw[lC.2 (tk r (ba hr) a (ba ha))];exact bU ⟨_,rfl,S4.trans S5⟩
  ·rintro σ H4 ⟨z,rfl,S4⟩;exact⟨_,_,rfl,S3.trans S4⟩
 ·rintro σ H2 ⟨y,z,rfl,S2⟩;exact k H2 (S1.trans S2)
inductive eL(C:Addr)(vs:List V)(H:Hp)(Q:VK)(E:XK):Prop
 |mk (x y:Addr) (J0 J1 J2 rooms':Zb) (ds ds':List ak):(vs=[.ref x,.ref y])->(bv C H x J0 J1 J2 ds)->(bv C H y J0 J1 rooms' ds')->((∀r∈rooms',∀a∈J0,gK ds' r a))->(∀H',ac H H'->Q .non H')->eL C vs H Q E
theorem tR{K:Za}{C:Addr}{vs:List V}{H:Hp}{Q:VK}{E:XK}(h:eL C vs H Q E):uP K (iw C) (fU C) (bM Q) (start vv vs) H:=by
 obtain⟨x,y,J0,J1,J2,rooms',ds,ds',rfl,M,N,tk,k⟩:=h;exact⟨_,rfl,_,rfl,x,y,J0,J1,J2,rooms',ds,ds',rfl,M,N,fun H1 S1=>⟨_,rfl,y,J0,J1,rooms',ds',rfl,N.same S1,tk,fun H2 S2=>k H2 (S1.trans S2)⟩⟩
theorem aK.out{J0 J1 J2:Zb}{ds:List ak}(m:aK J0 J1 J2 ds)(k:Nat):aK J0 J1 J2 (ds.eraseIdx k):=by
 have sub:(ds.eraseIdx k).Sublist ds:=List.eraseIdx_sublist ds k;exact{ m with nodup:=m.nodup.sublist sub,good:=fun d hd=>m.good d (sub.mem hd),few:=bG sub.length_le m.few,noround:=fun r z=>m.noround r (z.mono fun x y h=>sub.mem h) }
theorem Paired.out{α β:Type}{R:α->β->Prop}:∀{as:List α}{bs:List β}(k:Nat),Paired R as bs->Paired R (as.eraseIdx k) (bs.eraseIdx k)
 |_,_,_,.nil=>.nil
 |_,_,0,.cons _ t=>t
 |_,_,k+1,.cons r t=>.cons r (Paired.out k t)
theorem v_{α β:Type}(f:α->β):∀(l:List α) (n:Nat),(l.map f).eraseIdx n=(l.eraseIdx n).map f
 |[],_=>rfl
 |_::_,0=>rfl
 |a::l,n+1=>by show f a::_=f a::_;rw[v_ f l n]
def TR(J0 J1 J2:Zb)(n:Nat)(ds:List ak):Prop:=aK J0 J1 J2 ds/\ds.length<=n
inductive mw (vs:List V)(H:Hp)(Q:VK)(E:XK):Prop
 |mk (p c t l1 l2 l3 l4:Addr) (ts:Ze) (J0 J1 J2:Zb) (ds:List ak):(vs=[.ref p,.ref t])->(gU H p c)->(iC H t l1 l2 l3 l4 ts J0 J1 J2 ds)->(aK J0 J1 J2 ds)->(ds.length<=690)->(∀(t' l4':Addr) (ts':Ze) (ds':List ak) (H':Hp),iC H' t' l1 l2 l3 l4' ts' J0 J1 J2 ds'->aK J0 J1 J2 ds'->ds'.length<=ds.length+1->gU H' p c->c_ p H H'->Q (.ref t') H')->mw  vs H Q E
theorem Di{K:Za}{vs:List V}{H:Hp}{Q:VK}{E:XK}(h:mw vs H Q E):xn K ki fy (eK K) (bM Q) (start yv vs) H:=by
 obtain⟨p,c,t,l1,l2,l3,l4,ts,J0,J1,J2,ds,rfl,hp,T,m,z8,k⟩:=h;have a4:=m.asks4;have s4:=m.says4;have r4:=m.rooms26;refine⟨_,rfl,t,_,rfl,bc.of T.t,rfl,_,_,rfl,_,_,rfl,_,_,rfl,_,_,rfl,rfl,?_⟩;refine⟨_,rfl,.inl ⟨l4,_,rfl,.inl (ay.of T.a4),fun f hf=>?_⟩⟩;have B0:TX H p c f (fun x=>x=ds) (upd H f (.lst (ts.map V.ref))):=⟨hp.ex (ac.new hf),⟨ts,ds,aa,T.ds.kt (ac.kt (ac.new hf)),rfl⟩,c_.new hf,hf,hp.nep hf,hp.nec hf⟩;generalize upd H f (.lst (ts.map V.ref))=H1 at B0 ⊢;have keep:∀{H':Hp}{R:List ak->Prop},TX H p c f R H'->H' l1=some (.lst (J0.map V.str))/\H' l2=some (.lst (J1.map V.str))/\H' l3=some (.lst (J2.map V.str)):=fun B =>
  ⟨B.ex _ _ T.a1 (hp.ne_strs T.a1),B.ex _ _ T.a2 (hp.ne_strs T.a2),B.ex _ _ T.a3 (hp.ne_strs T.a3)⟩
 refine⟨_,rfl,dQ B0.pen (by decide) (by decide) fun way H2 w0 w1 hp2 ex2=>?_⟩;have B2:=B0.took hp2 ex2;obtain⟨us,es,g1,g2,rfl⟩:=id B2.ds;refine⟨_,rfl,_,rfl,.inl ⟨f,_,rfl,.inl (ay.of g1),_,_,rfl,?_⟩⟩;have lu:us.length=es.length:=Paired.length g2;refine dQ B2.pen (by split<;>omega) (by rw[aj,lu];split<;>omega) fun at_ H3 n0 n1 hp3 ex3=>?_;have B3:=B2.took hp3 ex3;rw[aj,lu]at n1;refine jh (fun _ _ _ _ h=>h) rfl rfl B3.pen (keep B3).2.2 m.rooms0 (by omega) fun room hroom H4 hp4 ex4=>?_;have B4:=B3.took hp4 ex4;refine jh (fun _ _ _ _ h=>h) rfl rfl B4.pen (keep B4).2.2 m.rooms0 (by omega) fun other hother H5 hp5 ex5=>?_;have B5:=B4.took hp5 ex5;clear B0 B2 B3 B4 hp2 hp3 hp4 hp5 ex2 ex3 ex4 ex5 g1 g2;have fin:∀{H6:Hp}(x10:Option V),TX H p c f (TR J0 J1 J2 (es.length+1)) H6->(bj (bD (ar V2 (eB V3 V4 V5)))) (bM Q) [some (.ref p),some (.ref t),some (.ref l1),some (.ref l2),some (.ref l3),some (.ref f),some (.int way),some (.int at_),some (.str room),some (.str other),x10] H6:=fun x10 B=>by
  obtain⟨us,fs,g1,g2,g3⟩:=B.ds;obtain⟨q1,q2,q3⟩:=keep B;refine⟨_,rfl,_,rfl,_,rfl,_,rfl,(by show 4<=ai;decide),fun t' ht'=>?_⟩;have S3:=ac.new (o:=.tup [.ref l1,.ref l2,.ref l3,.ref f]) ht';exact k t' f us fs _ ⟨aa,S3 _ _ q1,S3 _ _ q2,S3 _ _ q3,S3 _ _ g1,g2.kt (ac.kt S3)⟩ g3.1 g3.2 (B.pen.ex S3) (B.ex.trans (ac.exB S3))
 have put:∀{H6:Hp}{fs:List ak}{d:Addr}{x:ak}(x10:Option V),TX H p c f (fun y=>y=fs) H6->fs.length<=es.length->gV H6 d x->aK J0 J1 J2 (lQ fs x)->ki [.ref f,.ref d] H6 (fun _ H'=>(bj (bD (ar V2 (eB V3 V4 V5)))) (bM Q) [some (.ref p),some (.ref t),some (.ref l1),some (.ref l2),some (.ref l3),some (.ref f),some (.int way),some (.int at_),some (.str room),some (.str other),x10] H') E0:=fun x10 B le hat ok=>by
  obtain⟨us',fs',k1,k2,rfl⟩:=id B.ds;refine⟨f,_,us',_,_,rfl,k1,k2,hat,by omega,fun us2 D2=>fin x10 (B.put ⟨_,k1⟩ D2 ⟨ok,?_⟩)⟩;exact bG (tW _ _) (by omega)
 refine⟨_,rfl,rfl,_,rfl,?_⟩;refine fN (fun _=>?_) (fun _=>?_)
 ·refine⟨_,rfl,_,rfl,jh (fun _ _ _ _ h=>h) rfl rfl B5.pen (keep B5).2.1 m.says0 (by omega) fun w hw H6 hp6 ex6=>⟨(by show 2<=ai;decide),fun s hs=>⟨_,rfl,(by show 3<=ai;decide),fun d hd=>?_⟩⟩⟩;have B6:=B5.took hp6 ex6;have S:ac H6 (upd (upd H6 s (.tup [.str "say",.str w])) d (.tup [.str room,.ref s,.str other])):=(ac.new hs).trans (ac.new hd);exact put (x:=⟨room,lK w,other⟩) _ (B6.same S) (aB _) ⟨s,aa,kp aa hd⟩ (m.putOne ⟨hroom,hother,.inr (.inl ⟨w,hw,rfl⟩)⟩ (by unfold lK ao;intro h;injection h with _ h;cases h) (by omega))
 refine⟨_,rfl,rfl,_,rfl,?_⟩;refine fN (fun _=>?_) (fun _=>?_)
 ·refine⟨_,rfl,_,rfl,jh (fun _ _ _ _ h=>h) rfl rfl B5.pen (keep B5).1 m.asks0 (by omega) fun w hw H6 hp6 ex6=>⟨(by show 2<=ai;decide),fun s hs=>⟨_,rfl,(by show 3<=ai;decide),fun d hd=>?_⟩⟩⟩;have B6:=B5.took hp6 ex6;have S:ac H6 (upd (upd H6 s (.tup [.str "ask",.str w])) d (.tup [.str room,.ref s,.str other])):=(ac.new hs).trans (ac.new hd);exact put (x:=⟨room,cY w,other⟩) _ (B6.same S) (aB _) ⟨s,aa,kp aa hd⟩ (m.putOne ⟨hroom,hother,.inl ⟨w,hw,rfl⟩⟩ (wk w) (by omega))
 have still:∀{H6:Hp},TX H p c f (fun y=>y=es) H6->(b_ (kW (aO (aH yI V6 (tC (.int 4)))) (aO (aH (qy K true) V8 (aM (eK K) (aR V5 (eG (az V9))))))) (bQ (aM ki (ar V5 (ar (bD (eB V8 (bD (az (tC (.str "still")))) V9)) bq)))) (bB)) { nx:=(bj (bD (ar V2 (eB V3 V4 V5)))) (bM Q),rt:=Q } [some (.ref p),some (.ref t),some (.ref l1),some (.ref l2),some (.ref l3),some (.ref f),some (.int way),some (.int at_),some (.str room),some (.str other),none] H6:=fun{H6} B=>by
  have idle:TX H p c f (TR J0 J1 J2 (es.length+1)) H6:=B.imp fun y e=>by rw[e];exact⟨m,si _⟩
  refine⟨_,rfl,rfl,_,rfl,?_⟩;refine fN (fun _=>?_) (fun _=>bU (fin _ idle));refine⟨_,rfl,_,rfl,_,rfl,(by show 1<=ai;decide),fun bl hbl=>?_⟩;have B7:=B.same (ac.new (o:=.lst [.str other]) hbl);have e7:upd H6 bl (.lst [.str other]) bl=some (.lst [.str other]):=aa;generalize upd H6 bl (.lst [.str other])=H7 at B7 e7 ⊢;obtain⟨us,fs,g1,g2,rfl⟩:=id B7.ds;refine⟨f,bl,us,fs,[other],J2,rfl,g1,g2,e7,fun d hd=>(m.good d hd).b,by omega,(by show 1<=1000;decide),fun g F H8 hg hF _ _ S8=>?_⟩;have B8:=B7.same S8;refine⟨gH room,F.map gH,g,_,j6 room,rfl,.inl (ay.of hg),jC _,(by show 0<=8;decide),by rw[em];decide,_,rfl,?_⟩;rw[if_pos rfl];by_cases c1:room∈F
  ·rw[zzr1 (mE.mpr c1)];exact bU (fin _ (B8.imp fun y e=>by rw[e];exact⟨m,si _⟩))
  rw[zzr0 (fun z=>c1 (mE.mp z))];refine cS ?_;refine⟨_,rfl,_,rfl,(by show 1<=ai;decide),fun s hs=>⟨_,rfl,(by show 3<=ai;decide),fun d hd=>?_⟩⟩;have S:ac H8 (upd (upd H8 s (.tup [.str "still"])) d (.tup [.str room,.ref s,.str other])):=(ac.new hs).trans (ac.new hd);exact put (x:=⟨room,ao,other⟩) _ (B8.same S) (aB _) ⟨s,aa,kp aa hd⟩ (m.putStill hroom hother (fun z=>c1 ((hF room).mpr z)) (by omega))
 refine⟨_,rfl,_,_,rfl,rfl,_,rfl,?_⟩;refine fN (fun _=>?_) (fun _=>bU (still B5));refine⟨_,rfl,(by show 0<=ai;decide),fun q hq=>?_⟩;have B6:=B5.same (ac.new (o:=.lst []) hq);have e6:upd H5 q (.lst []) q=some (.lst []):=aa;generalize upd H5 q (.lst [])=H6 at B6 e6 ⊢;obtain⟨us,fs,g1,g2,rfl⟩:=id B6.ds;refine Fd g1 g2 e6 (fun c1=>⟨_,rfl,cS ?_⟩) (fun _=>⟨_,rfl,bU (bU (still B6))⟩);have fl:0<fs.length:=List.length_pos_iff.2 c1;have n2:at_<fs.length:=by split at n1<;>omega
 obtain⟨n,rfl⟩:=js n0;have n3:n<fs.length:=by omega
 have hdr:fs[n]?=some fs[n]:=bY n3;obtain⟨u,hu,hat⟩:=Paired.get g2 hdr;generalize fs[n]=dr at hdr hat;have hm:=ba hdr;obtain⟨sb,ht2,hs2⟩:=hat;obtain⟨s0,rest,hsg,_⟩:=mC (m.good dr hm);have at0:pW (dr.sg.map V.str) 0=some (.str s0):=by rw[hsg];exact aS (j:=0) rfl
 have atu:(us.map V.ref)[n]?=some (.ref u):=by rw[bZ,hu];rfl
 refine⟨_,rfl,_,rfl,f,_,_,_,rfl,rfl,ay.of g1,aS atu,u,_,1,_,rfl,rfl,bc.of ht2,rfl,sb,_,0,_,rfl,rfl,bc.of hs2,at0,rfl,_,rfl,?_⟩;refine fN (fun c2=>?_) (fun _=>still B6);have ns:dr.sg≠ao:=fun z=>by
  rw[hsg]at z;injection z with z;rw[z]at c2;simp at c2
 have six:xb (n:Int) (us.map V.ref).length=some n:=(x_ (G0 (by rw[aj,Paired.length g2];exact n3))).1;refine⟨_,rfl,.inl ⟨rfl,_,ay.of g1⟩,_,rfl,f,_,_,n,.ref u,rfl,rfl,g1,by omega,by omega,six,atu,?_⟩;have ee:(us.map V.ref).eraseIdx n=(us.eraseIdx n).map V.ref:=v_ _ us n;rw[ee];have k6:hU H6 (upd H6 f (.lst ((us.eraseIdx n).map V.ref))):=cR g1;have B7:TX H p c f (fun y=>y=fs.eraseIdx n) (upd H6 f (.lst ((us.eraseIdx n).map V.ref))):=B6.put ⟨_,g1⟩ (Paired.out n g2) rfl;have t7:=k6 _ _ ht2;have s7:=k6 _ _ hs2;generalize upd H6 f (.lst ((us.eraseIdx n).map V.ref))=H7 at B7 t7 s7 ⊢;have m7:=m.out n;have l7:(fs.eraseIdx n).length<=fs.length:=(List.eraseIdx_sublist fs n).length_le;refine⟨_,rfl,rfl,_,rfl,?_⟩;refine fN (fun _=>?_) (fun _=>fin _ (B7.imp fun y e=>by rw[e];exact⟨m7,by omega⟩));refine⟨_,rfl,_,rfl,u,_,0,_,rfl,rfl,bc.of t7,rfl,_,rfl,u,_,1,_,rfl,rfl,bc.of t7,rfl,_,rfl,(by show 3<=ai;decide),fun d hd=>?_⟩;have S:ac H7 (upd H7 d (.tup [.str dr.a,.ref sb,.str other])):=ac.new hd;exact put (x:=⟨dr.a,dr.sg,other⟩) _ (B7.same S) l7 ⟨sb,aa,S _ _ s7⟩ (m7.putOne ⟨(m.good dr hm).a,hother,(m.good dr hm).sg⟩ ns (by omega))
theorem Reach.ren{ds:List ak}{f:Str->Str}{x y:Str}(h:Reach ds x y):Reach (ds.map (vb f)) (f x) (f y):=by
 induction h with
 |one e=>exact .one (ax.2 ⟨_,e,rfl⟩)
 |step _ e ih=>exact .step ih (ax.2 ⟨_,e,rfl⟩)
theorem gK.ren{ds:List ak}{f:Str->Str}{r a:Str}:gK ds r a->gK (ds.map (vb f)) (f r) a:=fun⟨w,hw,b,hb⟩ =>
 ⟨f w,hw.imp (fun e=>by rw[e]) Reach.ren,f b,ax.2 ⟨_,hb,rfl⟩⟩
inductive jf (vs:List V)(H:Hp)(Q:VK)(E:XK):Prop
 |mk (p c t l1 l2 l3 l4:Addr) (ts:Ze) (J0 J1 J2:Zb) (ds:List ak):(vs=[.ref p,.ref t])->(gU H p c)->(iC H t l1 l2 l3 l4 ts J0 J1 J2 ds)->(aK J0 J1 J2 ds)->(J2.length<=26)->(∀(t' l3' l4':Addr) (ts':Ze) (rooms':Zb) (f:Str->Str) (H':Hp),iC H' t' l1 l2 l3' l4' ts' J0 J1 rooms' (ds.map (vb f))->aK J0 J1 rooms' (ds.map (vb f))->rooms'.Perm (J2.map f)->gU H' p c->c_ p H H'->Q (.ref t') H')->jf  vs H Q E
theorem zh{K:Za}{vs:List V}{H:Hp}{Q:VK}{E:XK}(h:jf vs H Q E):uT K fy lG (bM Q) (start vz vs) H:=by
 obtain⟨p,c,t,l1,l2,l3,l4,ts,J0,J1,J2,ds,rfl,hp,T,m,z3,k⟩:=h;have z4:=m.few;have hr0:0<J2.length:=by
  cases hq:J2 with
  |nil=>exact absurd hq m.rooms0
  |cons _ _=>simp
 refine⟨_,rfl,t,_,rfl,bc.of T.t,rfl,_,_,rfl,_,_,rfl,_,_,rfl,_,_,rfl,rfl,?_⟩;refine fun d hd=>?_;have dp:=hp.nep hd;have dc:=hp.nec hd;have T1:=T.same (ac.new (o:=.dK []) hd);have hp1:=hp.ex (ac.new (o:=.dK []) hd);have hd1:upd H d (.dK []) d=some (.dK (Ef [])):=aa;have ex1:c_ p H (upd H d (.dK [])):=c_.new hd;generalize upd H d (.dK [])=H1 at T1 hp1 hd1 ex1 ⊢;refine⟨_,rfl,_,rfl,_,rfl,.inl ⟨l3,_,rfl,.inl (ay.of T1.a3),p,c,(J2.map V.str).length,rfl,hp1,by rw[aj];exact z3,fun lw ws H2 okw lenw frw hlw hp2 ex2=>?_⟩⟩;rw[aj]at lenw;have T2:=T1.ex hp1 ex2;have hd2:=ex2 _ _ hd1 dp.symm;have lwd:lw≠d:=fun z=>by rw[z,hd1]at frw;cases frw
 have lwp:=hp2.ne_strs hlw;refine⟨l3,lw,rfl,.inl ⟨⟨_,ay.of T2.a3⟩,⟨_,ay.of hlw⟩,?_⟩⟩;have ez:(J2.zip ws).length=J2.length:=by rw[List.length_zip,lenw,Nat.min_self]
 refine FA (xs:=J2.map V.str) (ys:=ws.map V.str) (by rw[aj,aj,lenw]) (fun i σ H'=>∃x7 x8:Option V,σ=[some (.ref p),some (.ref t),some (.ref l1),some (.ref l2),some (.ref l3),some (.ref l4),some (.ref d),x7,x8,none,none]/\H' d=some (.dK (Ef ((J2.zip ws).take i)))/\H' lw=some (.lst (ws.map V.str))/\gU H' p c/\c_ p H H')
  ⟨_,_,rfl,hd2,hlw,hp2,ex1.trans ex2⟩ (fun i σ H' _ ⟨_,_,_,_,h1,_,ex⟩=>⟨ay.of (ex _ _ T.a3 (hp.ne_strs T.a3)),ay.of h1⟩) ?_ ?_
 ·rintro i x y σ H3 q hx hy ⟨x7,x8,rfl,hd3,hlw3,hp3,ex3⟩ hq;obtain⟨r,hr,rfl⟩:=bu hx;obtain⟨w,hw,rfl⟩:=bu hy;have hi:i<J2.length:=(cG.mp hr).1;refine⟨q,_,rfl,bc.of aa,rfl,_,_,rfl,_,_,rfl,rfl,?_⟩;have hlen:(Ef ((J2.zip ws).take i)).length<ai:=by
   unfold Ef;rw[aj,aE];exact aq (by omega)
  refine⟨_,rfl,_,rfl,_,rfl,d,_,rfl,.inl ⟨_,.inr r,kp hd3 hq,rfl,hlen,rfl⟩,_,_,rfl,?_,?_,?_,?_⟩
  ·have hz:(J2.zip ws)[i]?=some (r,w):=by
    rw[List.getElem?_zip_eq_some];exact⟨hr,hw⟩
   have hn:r∉((J2.zip ws).take i).map (·.1):=by
    rw[nB,xh lenw];intro z;obtain⟨j,hj⟩:=ii z;have hjl:j<i:=by
     have:=(cG.mp hj).1;rw[aE]at this;omega
    rw[List.getElem?_take_of_lt hjl]at hj;have:=se m.okR.1 hj hr;omega
   rw[aa,Fc hn,take_snoc hz]
  ·rw[ag lwd];exact kp hlw3 hq
  ·exact(hp3.ex (ac.new hq)).upd dp dc
  ·intro b o e n;rw[ag (ae e hd)];exact kp (ex3 _ _ e n) hq
 rintro σ H3 ⟨x7,x8,rfl,hd3,hlw3,hp3,ex3⟩;rw[aj,<-ez,aT]at hd3;have T3:=T.ex hp ex3;generalize hρ:FX (J2.zip ws)=ρ;have hmap:J2.map ρ=ws:=by rw[<-hρ];exact Cc m.okR.1 lenw
 have hval:∀r∈J2,br (Ef (J2.zip ws)) (.inr r:eX)=some (.str (ρ r)):=fun r hr=>by
  rw[<-hρ];exact Cv (by rw[xh lenw];exact hr)
 refine⟨_,rfl,l3,rfl,⟨_,ay.of T3.a3⟩,fun f hf=>?_⟩;refine cg (xs:=J2.map V.str) (fun i vs H'=>vs=((J2.take i).map ρ).map V.str/\ac H3 H'/\H' f=some (.lst vs)) ⟨rfl,ac.new hf,aa⟩ (fun i vs H' _ ⟨_,S,h'⟩=>⟨h',ay.of (S _ _ T3.a3)⟩) ?_ ?_;rotate_left
 ·rintro i vs H' x' hx' hi ⟨rfl,S,f'⟩;obtain⟨r,hr,rfl⟩:=bu hx';refine gN (sW ?_);refine⟨_,rfl,_,rfl,d,.str (ρ r),rfl,.inl ⟨_,.inr r,.inl (S _ _ hd3),rfl,(hval r (ba hr)).symm⟩,f',?_,mW hi ⟨?_,?_,aa⟩⟩
  ·rw[aj,aj,aE];exact aq (by omega)
  ·rw[take_snoc hr,aw,aw];rfl
  ·intro b o q;rw[ag (ae q hf)];exact S _ _ q
 rintro vs H4 ⟨rfl,S4,f4⟩;rw[aj,aT,hmap]at f4;have T4:=T3.same S4;have hp4:=hp3.ex S4;have hd4:=S4 _ _ hd3;refine⟨_,rfl,_,rfl,.inl ⟨l3,_,rfl,.inl (ay.of T4.a3),dQ (m:=((J2.map V.str).length:Nat)) hp4 (by rw[aj];omega) (by rw[aj];omega) fun r H5 r0 r1 hp5 ex5=>⟨_,_,rfl,rfl,?_⟩⟩⟩;rw[aj]at r1;obtain⟨n,rfl⟩:=js r0;have T5:=T4.ex hp4 ex5;have f5:=ex5 _ _ f4 (hp4.ne_strs f4);have hd5:=ex5 _ _ hd4 dp.symm;have exx5:c_ p H H5:=(ex3.trans (ac.exB S4)).trans ex5;have c1:gm (ws.map V.str) none (some 1)=(ws.take 1).map V.str:=pJ ws 1;have c2:gm (ws.map V.str) (some (1+(n:Int))) none=(ws.drop (1+n)).map V.str:=wc ws (1+n);have c3:gm (ws.map V.str) (some 1) (some (1+(n:Int)))=((ws.drop 1).take (1+n-1)).map V.str:=DV ws (j:=1) (k:=1+n) (by omega) (by omega);refine⟨_,rfl,_,rfl,f,_,rfl,ay.of f5,fun q1 hq1=>⟨_,rfl,_,rfl,_,rfl,f,_,rfl,ay.of (kp f5 hq1),fun q2 hq2=>⟨q1,q2,_,_,rfl,rfl,kp aa hq2,aa,?_,fun q3 hq3=>⟨_,rfl,_,rfl,_,rfl,_,rfl,f,_,rfl,ay.of (kp (kp (kp f5 hq1) hq2) hq3),fun q4 hq4=>⟨q3,q4,_,_,rfl,rfl,kp aa hq4,aa,?_,fun q5 hq5=>?_⟩⟩⟩⟩⟩
 ·rw[c1,c2,aj,aj,aE,fR];exact fk (aq (by omega))
 ·rw[c1,c2,c3,aL,aj,aj,aj,aE,fR,aE,fR];exact fk (aq (by omega))
 rw[c1,c2,c3]at hq5 ⊢;have m1:(ws.take 1).map V.str++(ws.drop (1+n)).map V.str=(ws.take 1++ws.drop (1+n)).map V.str:=aw.symm;have m2:(ws.take 1++ws.drop (1+n)).map V.str++((ws.drop 1).take (1+n-1)).map V.str=(ws.take 1++ws.drop (1+n)++(ws.drop 1).take (1+n-1)).map V.str:=aw.symm;rw[m1]at hq5 ⊢;rw[m2];have S6:=((((ac.new (o:=.lst ((ws.take 1).map V.str)) hq1).trans (ac.new (o:=.lst ((ws.drop (1+n)).map V.str)) (by rw[<-c1];exact hq2))).trans (ac.new (o:=.lst ((ws.take 1++ws.drop (1+n)).map V.str)) (by rw[<-c1,<-c2];exact hq3))).trans (ac.new (o:=.lst (((ws.drop 1).take (1+n-1)).map V.str)) (by rw[aw,<-c1,<-c2];exact hq4))).trans (ac.new (o:=.lst ((ws.take 1++ws.drop (1+n)++(ws.drop 1).take (1+n-1)).map V.str)) hq5);have hperm:=yR ws n;generalize ws.take 1++ws.drop (1+n)++(ws.drop 1).take (1+n-1)=rooms' at S6 hperm hq5 ⊢;have hr':(upd (upd (upd (upd (upd H5 q1 (.lst ((ws.take 1).map V.str))) q2 (.lst ((ws.drop (1+n)).map V.str))) q3 (.lst ((ws.take 1++ws.drop (1+n)).map V.str))) q4 (.lst (((ws.drop 1).take (1+n-1)).map V.str))) q5 (.lst (rooms'.map V.str))) q5=some (.lst (rooms'.map V.str)):=aa;generalize(upd (upd (upd (upd (upd H5 q1 (.lst ((ws.take 1).map V.str))) q2 (.lst ((ws.drop (1+n)).map V.str))) q3 (.lst ((ws.take 1++ws.drop (1+n)).map V.str))) q4 (.lst (((ws.drop 1).take (1+n-1)).map V.str))) q5 (.lst (rooms'.map V.str)))=H6 at S6 hr' ⊢;have T6:=T5.same S6;have hd6:=S6 _ _ hd5;refine⟨_,rfl,l4,rfl,⟨_,ay.of T6.a4⟩,fun g hg=>?_⟩;refine cg (xs:=ts.map V.ref) (fun i vs H'=>∃us:List Addr,vs=us.map V.ref/\ac H6 H'/\H' g=some (.lst vs)/\cC H' us ((ds.take i).map (vb ρ))) ⟨[],rfl,ac.new hg,aa,.nil⟩ (fun i vs H' _ ⟨_,_,S,h',_⟩=>⟨h',ay.of (S _ _ T6.a4)⟩) ?_ ?_;rotate_left
 ·rintro i vs H' x' hx' hi ⟨us,rfl,S,g',hP⟩;obtain⟨u,hu,rfl⟩:=cu hx';obtain⟨dr,hdr,hatd⟩:=Paired.getL T6.ds hu;obtain⟨sb,ht2,hs2⟩:=hatd.kt (ac.kt S);have hmem:=ba hdr;have hda:=hval dr.a (m.good dr hmem).a;have hdb:=hval dr.b (m.good dr hmem).b;refine⟨u,_,rfl,bc.of ht2,rfl,_,_,rfl,_,_,rfl,_,_,rfl,rfl,?_⟩;refine sW ?_;refine⟨_,rfl,_,rfl,d,.str (ρ dr.a),rfl,.inl ⟨_,.inr dr.a,.inl (S _ _ hd6),rfl,hda.symm⟩,_,rfl,_,rfl,_,rfl,d,.str (ρ dr.b),rfl,.inl ⟨_,.inr dr.b,.inl (S _ _ hd6),rfl,hdb.symm⟩,(by show 3<=ai;decide),fun w hw=>⟨kp g' hw,?_,mW hi ⟨us++[w],by rw[aw];rfl,?_,aa,?_⟩⟩⟩
  ·rw[aj,Paired.length hP,aj,aE];exact aq (by omega)
  ·intro b o q;rw[ag (ae q hg)];exact kp (S _ _ q) hw
  ·rw[take_snoc hdr,aw];have hk:hU H' (upd (upd H' w (.tup [.str (ρ dr.a),.ref sb,.str (ρ dr.b)])) g (.lst (us.map V.ref++[.ref w]))):=(ac.kt (ac.new hw)).trans (cR (kp g' hw));refine dv (hP.kt hk) ⟨sb,?_,hk _ _ hs2⟩;exact(cR (kp g' hw)) _ _ aa
 rintro vs H7 ⟨us,rfl,S7,g7,hP⟩;rw[aj,Paired.length T.ds,aT]at hP;have T7:=T6.same S7;have hp7:=(hp5.ex S6).ex S7;have ex7:c_ p H H7:=exx5.trans (ac.exB (S6.trans S7));refine⟨_,rfl,_,rfl,_,rfl,_,rfl,(by show 4<=ai;decide),fun t' ht'=>k t' q5 g us rooms' ρ _ ⟨aa,kp T7.a1 ht',kp T7.a2 ht',kp (S7 _ _ hr') ht',kp g7 ht',hP.kt (ac.kt (ac.new ht'))⟩ (m.renamed okw hmap hperm) (by rw[hmap];exact hperm) (hp7.ex (ac.new ht')) (ex7.trans (c_.new ht'))⟩
inductive rX (vs:List V)(H:Hp)(Q:VK)(E:XK):Prop
 |mk (p c t l1 l2 l3 l4:Addr) (ts:Ze) (J0 J1 J2:Zb) (ds:List ak) (n:Nat):(vs=[.ref p,.ref t,.int (n:Nat)])->(gU H p c)->(iC H t l1 l2 l3 l4 ts J0 J1 J2 ds)->(aK J0 J1 J2 ds)->(J2.length<=26)->(ds.length<=650)->(n<=8)->(∀(t' l3' l4':Addr) (ts':Ze) (rooms':Zb) (ds':List ak) (H':Hp),iC H' t' l1 l2 l3' l4' ts' J0 J1 rooms' ds'->aK J0 J1 rooms' ds'->(∀r∈rooms',∀a∈J0,gK ds' r a)->rooms'.length=J2.length->ds'.length<=ds.length+n+4 * J2.length->gU H' p c->c_ p H H'->Q (.ref t') H')->rX  vs H Q E
theorem Gy{K:Za}{vs:List V}{H:Hp}{Q:VK}{E:XK}(h:rX vs H Q E):Ax K fy jf kg mw r9 (bM Q) (start BE vs) H:=by
 obtain⟨p,c,t,l1,l2,l3,l4,ts,J0,J1,J2,ds,n,rfl,hp,T,m,z3,z4,zn,k⟩:=h;refine⟨_,rfl,p,c,rfl,hp,fun H1 hp1 ex1=>?_⟩;have T1:=T.ex hp ex1;refine⟨_,rfl,_,rfl,_,_,rfl,rfl,dQ hp1 (by omega) (by omega) fun x H2 x0 x1 hp2 ex2=>?_⟩;have T2:=T1.ex hp1 ex2;refine⟨x,rfl,by omega,by omega,?_⟩;refine j4 (lo:=0) (n:=x.toNat) (fun i σ H'=>∃(t' l4':Addr) (ts':Ze) (ds':List ak) (x3:Option V),σ=[some (.ref p),some (.ref t'),some (.int (n:Nat)),x3]/\iC H' t' l1 l2 l3 l4' ts' J0 J1 J2 ds'/\aK J0 J1 J2 ds'/\ds'.length<=ds.length+i/\gU H' p c/\c_ p H H')
  ⟨t,l4,ts,ds,_,rfl,T2,m,aB _,hp2,ex1.trans ex2⟩ ?_ ?_
 ·rintro i σ H3 hi ⟨t',l4',ts',ds',x3,rfl,T3,m3,z,hp3,ex3⟩;refine⟨_,rfl,_,rfl,p,c,t',l1,l2,l3,l4',ts',J0,J1,J2,ds',rfl,hp3,T3,m3,by omega,fun t2 l42 ts2 ds2 H4 T4 m4 z4 hp4 ex4=>?_⟩;exact⟨t2,l42,ts2,ds2,_,rfl,T4,m4,by omega,hp4,ex3.trans ex4⟩
 ·rintro σ H3 ⟨t',l4',ts',ds',x3,rfl,T3,m3,z,hp3,ex3⟩;refine⟨_,rfl,_,rfl,p,c,t',l1,l2,l3,l4',ts',J0,J1,J2,ds',rfl,hp3,T3,m3,z3,by omega,fun t2 l42 ts2 ds2 H4 T4 m4 tk4 zw hp4 ex4=>?_⟩;refine⟨_,rfl,dQ hp4 (by decide) (by decide) fun w H5 w0 w1 hp5 ex5=>⟨rfl,_,rfl,?_⟩⟩;have T5:=T4.ex hp4 ex5;refine fN (fun _=>?_) (fun _=>?_)
  ·refine⟨_,rfl,_,rfl,p,c,t2,l1,l2,l3,l42,ts2,J0,J1,J2,ds2,rfl,hp5,T5,m4,z3,fun t3 l33 l43 ts3 rooms3 f H6 T6 m6 pr hp6 ex6=>⟨_,rfl,?_⟩⟩;refine k t3 l33 l43 ts3 rooms3 _ H6 T6 m6 (fun r hr a ha=>?_) (by rw[pr.length_eq,aj]) (by rw[aj];omega) hp6 (((ex3.trans ex4).trans ex5).trans ex6);obtain⟨r0,hr0,rfl⟩:=ax.1 (pr.mem_iff.1 hr);exact(tk4 r0 hr0 a ha).ren
  ·exact⟨_,rfl,k t2 l3 l42 ts2 J2 ds2 H5 T5 m4 tk4 rfl (by omega) hp5 ((ex3.trans ex4).trans ex5)⟩
theorem DB{J0 J1 J2 f:Zb}{ds:List ak}{fm:List (List Str)}{l:List (Sg×Nat)}(pr:Paired (fun(a:Sg×Nat) (p:Sg×List Str)=>a.1=p.1/\fm[a.2]?=some p.2) l (stepsF J0 J1 J2 ds f)){sg:Sg}(hs:sg∈bb J0 J1):
  match bI l sg with|none=>behF J2 ds f sg=[] | some w=>behF J2 ds f sg≠[]/\fm[w]?=some (behF J2 ds f sg):=by
 cases e:bI l sg with
 |some w =>
  obtain⟨i,hi⟩:=ii (uc e);obtain⟨p,hp,e1,e2⟩:=Paired.getL pr hi;have hp:=ba hp;obtain⟨s,_,e3⟩:=ax.1 (bF.1 hp).1;have h3:=of_decide_eq_true (bF.1 hp).2;rw[<-e3]at e1 e2 h3;have e1:sg=s:=e1;subst e1;exact⟨h3,e2⟩
 |none =>
  simp only;refine wM fun n=>?_;have hm:(sg,behF J2 ds f sg)∈stepsF J0 J1 J2 ds f:=bF.2 ⟨ax.2 ⟨sg,hs,rfl⟩,zzr1 n⟩;obtain⟨i,hi⟩:=ii hm;obtain⟨a,ha,e1,_⟩:=Paired.get pr hi;unfold bI at e;rw[Option.map_eq_none_iff,List.find?_eq_none]at e;exact e a (ba ha) (zzr1 e1)
theorem ic.part{K:Za}{C x M fa sa na ta:Addr}{us ws:Ze}{m:gL}{H H':Hp}(h:ic K C H x M fa sa na ta us ws m)(e:∀b o,H b=some o->(∀k,o=.dT k->b=na)->H' b=some o):ic K C H' x M fa sa na ta us ws m:=by
 have k:hU H H':=fun b xs q=>e _ _ q fun _ z=>nomatch z;obtain⟨⟨dx,fs,g,r⟩,h1,h2,h3,h4,h5,h6⟩:=h;refine⟨⟨dx,fs,e _ _ g fun _ z=>(nomatch z),r⟩,e _ _ h1 fun _ z=>(nomatch z),Paired.mapP h2 fun _ _ r=>k _ _ r,e _ _ h3 fun _ z=>(nomatch z),Paired.mapP h4 fun w s r=>⟨r.1,?_⟩,e _ _ h5 fun _ _=>rfl,h6⟩;obtain⟨gs,g1,g2⟩:=r.2;exact⟨gs,e _ _ g1 fun _ z=>(nomatch z),Paired.mapP g2 fun _ _ r=>aY.kt k r⟩
theorem HM{J0 J1:Zb}{sg:Sg}(h:sg∈bb J0 J1):sg≠[]:=by
 unfold bb at h;intro z;subst z;rcases bd.1 h with h|h
 ·rcases bd.1 h with h|h
  ·obtain⟨w,_,e⟩:=ax.1 h;cases e
  ·obtain⟨w,_,e⟩:=ax.1 h;cases e
 ·have:=aX.1 h;cases this
theorem ml.steps{J0 J1 J2:Zb}{ds:List ak}{S:pS}(ok:ml J0 J1 J2 ds S){i:Nat}{p:Sg×Nat}(hp:p∈S.2.getD i []):p.2<S.1.fs.length/\p.1≠[]:=by
 rw[eJ]at hp;cases e:S.2[i]? with
 |none=>rw[e]at hp;cases hp
 |some l =>
  rw[e]at hp;obtain⟨f,_,pr⟩:=ok.st i l e;obtain⟨j,hj⟩:=ii hp;obtain⟨q,hq,e1,e2⟩:=Paired.getL pr hj;obtain⟨s,hs,e3⟩:=ax.1 (bF.1 (ba hq)).1;exact⟨(cG.1 e2).1,by rw[e1,<-e3];exact HM hs⟩
theorem Good.few4{J2:Zb}{m:gL}(g:Good J2 m)(hr:J2.length<=4):m.fs.length<=16:=by
 have h:=jZ g.nd (R:=nk J2) (fun f hf=>by obtain⟨p,rfl⟩:=g.isF f hf;exact qt p J2);rw[qv]at h;have:2 ^ J2.length<=2 ^ 4:=Nat.pow_le_pow_right (by decide) hr;omega
theorem iI{H0 H:Hp}{na:Addr}{ts:Ze}{st:List (List (Sg×Nat))}(h:pN H0 na H ts st):∀t∈ts,H0 t=none/\t≠na/\∃l,H t=some (.dT l):=fun t ht=>by
 obtain⟨i,hi⟩:=ii ht;obtain⟨l,_,r⟩:=Paired.getL h hi;exact⟨r.1,r.2.1,_,r.2.2⟩
theorem Paired.mapM{α β:Type}{F G:α->β->Prop}:∀{as:List α}{bs:List β},Paired F as bs->(∀a b,a∈as->F a b->G a b)->Paired G as bs
 |_,_,.nil,_=>.nil
 |_,_,.cons r t,h=>.cons (h _ _ dO r) (Mum.Paired.mapM t fun a b ha=>h a b (eI _ ha))
inductive nq(K:Za)(C:Addr)(vs:List V)(H:Hp)(Q:VK)(E:XK):Prop
 |mk (x t s:Addr) (J6 sg J0 J1 J2:Zb) (ds:List ak):(vs=[.ref x,.ref t,.ref s])->(bv C H x J0 J1 J2 ds)->(aY K H t (J6.map V.str))->(H s=some (.tup (sg.map V.str)))->(sg≠aV)->(J6.length<=1000)->(∀(t':Addr) (F:Zb) (H':Hp),H' t'=some (.tup ((J2.filter fun r=>decide (r∈F)).map V.str))->(∀w,w∈F↔fO ds (dk ds sg J6) w)->ac H H'->Q (.ref t') H')->nq K C vs H Q E
theorem vg{K:Za}{C hu:Addr}(hhu:∀H,bc K H hu (aV.map V.str)){sp2:Sp}{vs:List V}{H:Hp}{Q:VK}{E:XK}(h:nq K C vs H Q E):
  nj K (sp_with_still C) C (iJ C) hu sp2 (bM Q) (start ny vs) H:=by
 obtain⟨x,t,s,J6,sg,J0,J1,J2,ds,rfl,M,ht,hs,hne,hz,k⟩:=h;have hdb:∀d∈ds,d.b∈J2:=fun d hd=>(M.ok.good d hd).b;have z4:=M.ok.few;refine⟨_,rfl,jb sg,jb aV,aQ (bc.of hs),aQ (hhu _),by rw[bo];decide,by rw[bo];decide,_,rfl,?_⟩;rw[dR,zzr0 hne];refine bU ?_;refine⟨(by show 0<=ai;decide),fun g hg=>?_⟩;refine⟨_,rfl,t,rfl,⟨_,aY.sq (aY.kt (ac.kt (ac.new hg)) ht)⟩,?_⟩;refine ye (xs:=J6.map V.str) (fun i σ H'=>∃x4:Option V,σ=[some (.ref x),some (.ref t),some (.ref s),some (.ref g),x4]/\H' g=some (.lst ((dk ds sg (J6.take i)).map V.str))/\ac H H')
  ⟨_,rfl,aa,ac.new hg⟩ (fun i σ H' _ ⟨_,_,_,S⟩=>aY.sq (aY.kt (ac.kt S) ht)) ?_ ?_
 ·rintro i y σ H1 hi ⟨x4,rfl,hg1,S1⟩;obtain⟨r,hr,rfl⟩:=bu hi;have M1:=M.same S1;obtain⟨dx,fs,o1,o2,o3,o4,lv,qu,sgA,sl,ts,lps,gps,sps,g1,a1,a2,a3,a4,_⟩:=M1.at_;refine⟨_,rfl,.inl ⟨rfl,_,ay.of hg1⟩,_,rfl,x,dx,fs,rfl,g1,a2,_,rfl,_,rfl,x,s,r,sg,J0,J1,J2,ds,rfl,M1,S1 _ _ hs,fun l H2 hl fr S2=>?_⟩;have hg2:=S2 _ _ hg1;have hlen:((dk ds sg (J6.take i)).map V.str).length+((bz ds (r,sg)).map V.str).length<=ai:=by
   rw[aj,aj];have h1:=pD ds sg (J6.take i);have h2:=rk ds (r,sg);have h3:(J6.take i).length * ds.length<=1000 * 1000:=sv (by rw[aE];omega) z4;have:(1001000:Nat)<=ai:=by decide
   omega
  refine⟨g,l,_,_,rfl,rfl,hg2,hl,hlen,_,rfl,?_,?_⟩
  ·rw[aa,vo hr,aw]
  ·intro b o q;rw[ag (ae q hg)];exact S2 _ _ (S1 _ _ q)
 ·rintro σ H1 ⟨x4,rfl,hg1,S1⟩;rw[aj,aT]at hg1;refine⟨_,rfl,_,rfl,x,g,dk ds sg J6,J0,J1,J2,ds,rfl,M.same S1,hg1,fun w hw=>?_,fun t' F H' h1 h2 S2=>k t' F H' h1 h2 (S1.trans S2)⟩;obtain⟨r,_,h⟩:=iy.mp hw;exact hdb _ h
inductive o6(K:Za)(C:Addr)(vs:List V)(H:Hp)(Q:VK)(E:XK):Prop
 |mk (x t s:Addr) (J6 sg J0 J1 J2:Zb) (ds:List ak):(vs=[.ref x,.ref t,.ref s])->(bv C H x J0 J1 J2 ds)->(aY K H t (J6.map V.str))->(bc K H s (sg.map V.str))->((sg=aV∨H s=some (.tup (sg.map V.str))))->((∀r∈J6,r∈J2))->(J6.length<=1000)->(∀(t':Addr) (H':Hp),H' t'=some (.tup ((behF J2 ds J6 sg).map V.str))->ac H H'->Q (.ref t') H')->o6 K C vs H Q E
theorem EI{K:Za}{C hu:Addr}(hhu:∀H,bc K H hu (aV.map V.str)){vs:List V}{H:Hp}{Q:VK}{E:XK}(h:o6 K C vs H Q E):
  nj K (sp_with_still C) C (iJ C) hu (hZ C) (bM Q) (start ny vs) H:=by
 obtain⟨x,t,s,J6,sg,J0,J1,J2,ds,rfl,M,ht,hs,hor,hsub,hz,k⟩:=h;by_cases hh:sg=aV;rotate_left
 ·refine vg (E:=E) hhu ⟨x,t,s,J6,sg,J0,J1,J2,ds,rfl,M,ht,hor.resolve_left hh,hh,hz,fun t' F H' h1 hF S=>k t' H' ?_ S⟩;rw[h1,pL hF];unfold behF;rw[if_neg hh]
 subst hh;refine⟨_,rfl,jb aV,jb aV,aQ hs,aQ (hhu _),by rw[bo];decide,by rw[bo];decide,_,rfl,?_⟩;rw[zzr1 rfl];refine cS ?_;refine⟨_,rfl,t,rfl,⟨_,aY.sq ht⟩,fun f hf=>?_⟩;refine z7 (xs:=J6.map V.str) (fun i vs H'=>vs=((J6.take i).filter fun r=>decide (r∈J2.filter (c6 ds))).map V.str/\ac H H'/\H' f=some (.lst vs)) ⟨rfl,ac.new hf,aa⟩ (fun i vs H' _ ⟨_,S,h'⟩=>⟨h',aY.sq (aY.kt (ac.kt S) ht)⟩) ?_ ?_
 ·rintro vs H' ⟨rfl,S,f'⟩;rw[aj,aT]at f';refine⟨f,_,rfl,.inl ⟨ay.of f',fun t' ht'=>k t' _ ?_ (S.trans (ac.new ht'))⟩⟩;rw[aa,EU hsub];unfold behF;rw[if_pos rfl]
 ·rintro i vs H' x' hx' hi ⟨rfl,S,f'⟩;obtain⟨r,hr,rfl⟩:=bu hx';have M':=M.same S;obtain⟨dx,fs,o1,o2,o3,o4,lv,qu,sgA,sl,ts,lps,gps,sps,g1,a1,_⟩:=M'.at_;refine gN ?_;refine⟨_,rfl,x,dx,fs,rfl,g1,a1,_,rfl,x,r,J0,J1,J2,ds,rfl,M',_,rfl,?_⟩;have hlen:(((J6.take i).filter fun r=>decide (r∈J2.filter (c6 ds))).map V.str).length<ai:=by
   rw[aj];refine aq (bG (dP _ _) ?_);rw[aE];omega
  refine fN (fun hq=>?_) (fun hq=>?_)
  ·refine⟨_,rfl,f',hlen,mW hi ⟨?_,?_,aa⟩⟩
   ·rw[bP hr,if_pos hq,aw];rfl
   ·intro b o q;rw[ag (ae q hf)];exact S _ _ q
  ·refine mW hi ⟨?_,S,f'⟩;rw[bP hr,if_neg hq,dI]
inductive hV(K:Za)(C:Addr)(vs:List V)(H:Hp)(Q:VK)(E:XK):Prop
 |mk (x t:Addr) (J6 J0 J1 J2:Zb) (ds:List ak):(vs=[.ref x,.ref t])->(bv C H x J0 J1 J2 ds)->(aY K H t (J6.map V.str))->((∀r∈J6,r∈J2))->(J6.length<=1000)->(∀(d:Addr) (kvs:List (TK×V)) (H':Hp),H' d=some (.dT kvs)->kZ H' kvs (stepsF J0 J1 J2 ds J6)->H d=none->ac H H'->Q (.ref d) H')->hV K C vs H Q E
theorem zg{K:Za}{C hu:Addr}(hh:∀H,bc K H hu (aV.map V.str)){vs:List V}{H:Hp}{Q:VK}{E:XK}(h:hV K C vs H Q E):At K (xE C hu) (o6 K C) (bM Q) (start BA vs) H:=by
 obtain⟨x,t,J6,J0,J1,J2,ds,rfl,M,ht,hsub,hz,k⟩:=h;have z1:=M.ok.asks4;have z2:=M.ok.says4;have zl:(bb J0 J1).length<=9:=by unfold bb;rw[aL,aL,aj,aj];show _+1<=9;omega
 have nd:=lW M.ok;refine fun d hd=>?_;have S0:ac H (upd H d (.dT [])):=ac.new hd;refine⟨_,rfl,x,J0,J1,J2,ds,rfl,M.same S0,fun l us H1 hl hP S1=>⟨l,rfl,⟨_,ay.of hl⟩,?_⟩⟩;refine bR (xs:=us.map V.ref) (fun i σ H'=>∃(kvs:List (TK×V)) (x3 x4:Option V),σ=[some (.ref x),some (.ref t),some (.ref d),x3,x4]/\H' d=some (.dT kvs)/\ac H H'/\(∀b o,H1 b=some o->b≠d->H' b=some o)/\kZ H' kvs (stG J2 ds J6 ((bb J0 J1).take i)))
  ⟨[],_,_,rfl,S1 _ _ aa,S0.trans S1,fun _ _ e _=>e,.nil⟩ (fun i σ H' _ ⟨_,_,_,_,_,_,S,_⟩=>ay.of (S _ _ hl fun e=>by subst e;have:=S1 _ _ (aa (H:=H) (a:=l) (o:=.dT []));rw[hl]at this;cases this)) ?_ ?_
 ·rintro i y σ H2 hi ⟨kvs,x3,x4,rfl,h2,S2,S12,st⟩;obtain⟨u,hu',rfl⟩:=cu hi;obtain⟨sg,hsg,hat⟩:=Paired.getL hP hu';have hat2:Hf hu H2 u sg:=hat.imp (fun e=>S12 _ _ e fun z=>by subst z;have:=S1 _ _ (aa (H:=H) (a:=u) (o:=.dT []));rw[e]at this;cases this) id;refine⟨_,rfl,_,rfl,_,rfl,x,t,u,J6,sg,J0,J1,J2,ds,rfl,M.same S2,aY.kt (ac.kt S2) ht,hat2.sq hh,hat2.symm.imp (fun e=>e.2) id,hsub,hz,fun f H3 hf S3=>?_⟩;have h3:=S3 _ _ h2;refine⟨_,rfl,.inl ⟨f,_,rfl,.inr (bc.of hf),_,_,rfl,rfl,?_⟩⟩;refine⟨_,rfl,?_⟩;have hat3:=hat2.same S3;have S13:∀b o,H1 b=some o->b≠d->H3 b=some o:=fun b o e n=>S3 _ _ (S12 b o e n);have st3:=st.kt (ac.kt S3);refine mY (P:=behF J2 ds J6 sg≠[]) ?_ (fun c=>?_) (fun c=>?_)
  ·rw[aj];constructor
   ·intro h z;rw[z]at h;exact absurd h (by decide)
   ·intro h;exact zzr1 (by have:=List.length_pos_iff.mpr h;omega)
  rotate_left
  ·have c:=iQ.1 c;refine⟨kvs,_,_,rfl,h3,S2.trans S3,S13,?_⟩;rw[take_snoc hsg,za,if_pos c,dI];exact st3
  ·have no:br kvs (fj sg)=none:=st3.no fun p hp e=>by
    have h1:=Gp hp;rw[e]at h1;exact pk nd hsg h1
   have ll:kvs.length<ai:=by
    rw[Paired.length st];refine aq ?_;have h1:=Ca (J2:=J2) (ds:=ds) (J6:=J6) (L:=(bb J0 J1).take i);rw[aE]at h1;omega
   refine⟨_,rfl,_,rfl,_,rfl,d,u,kvs,fj sg,rfl,rfl,h3,s_ (hat3.tup hh),cN sg,ll,_,_,_,rfl,aa,?_,?_,?_⟩
   ·intro b o e;rw[ag (ae e hd)];exact S3 _ _ (S2 _ _ e)
   ·intro b o e n;rw[ag n];exact S13 b o e n
   ·rw[df _ no,take_snoc hsg,za,if_neg c];have kt:hU H3 (upd H3 d (.dT (kvs++[(fj sg,.ref f)]))):=CF h3;exact dv (st3.kt kt) ⟨rfl,f,rfl,kt _ _ hf⟩
 ·rintro σ H2 ⟨kvs,x3,x4,rfl,h2,S2,_,st⟩;rw[aj,Paired.length hP,aT]at st;exact⟨_,rfl,k d kvs H2 h2 st hd S2⟩
def cx(fv:V)(lo:Sg->Option V)(d:ak):List (Str×V) :=
 if d.sg=ao then[(d.b,fv)]else if(lo d.sg).isSome=true∨d.sg.head?=some ("say":Str)then[(d.b,(lo d.sg).getD .non)]else[]
def tQ(J2:Zb)(ds:List ak)(room:Str)(fv:V)(lo:Sg->Option V):List (Str×V) :=
 (aZ ds room).flatMap (cx fv lo)++if room∈J2.filter (c6 ds)then[(room,(lo aV).getD .non)]else[]
abbrev iD(H:Hp)(us:Ze)(L:List (Str×V)):Prop:=Paired (fun u (r:Str×V)=>H u=some (.tup [.str r.1,r.2])) us L
theorem iD.kt{H H':Hp}{us:Ze}{L:List (Str×V)}(k:hU H H')(h:iD H us L):iD H' us L:=Paired.mapP h fun _ _ r=>k _ _ r
theorem vp(fv:V)(lo:Sg->Option V)(d:ak):(cx fv lo d).length<=1:=by
 unfold cx;split
 ·exact aB _
 ·split
  ·exact aB _
  ·exact db _
theorem qw(fv:V)(lo:Sg->Option V):∀L:List ak,(L.flatMap (cx fv lo)).length<=L.length
 |[]=>aB _
 |d::L=>by
  rw[nA,aL,d4];have:=vp fv lo d;have:=qw fv lo L;omega
inductive jP(K:Za)(C:Addr)(vs:List V)(H:Hp)(Q:VK)(E:XK):Prop
 |mk (x sd:Addr) (room:Str) (fv:V) (lo:Sg->Option V) (J0 J1 J2:Zb) (ds:List ak):(vs=[.ref x,.str room,fv,.ref sd])->(bv C H x J0 J1 J2 ds)->(room∈J2)->((∀(H':Hp) (s:Addr) (sg:Sg),ac H H'->aY K H' s (sg.map V.str)->IS H' sd/\ip K H' sd (.ref s) (lo sg)))->(∀(l:Addr) (us:Ze) (H':Hp),H' l=some (.lst (us.map V.ref))->iD H' us (tQ J2 ds room fv lo)->H l=none->ac H H'->Q (.ref l) H')->jP K C vs H Q E
theorem EC{K:Za}{C hu sa:Addr}(hh:∀H,bc K H hu (aV.map V.str))(hs:∀H,bc K H sa (ao.map V.str)){vs:List V}{H:Hp}{Q:VK}{E:XK}(h:jP K C vs H Q E):uO K C (hZ C) hu (hE C) sa (bM Q) (start vt vs) H:=by
 obtain⟨x,sd,room,fv,lo,J0,J1,J2,ds,rfl,M,hr,hsd,k⟩:=h;have z4:=M.ok.few;refine⟨(by show 0<=ai;decide),fun l hl=>?_⟩;have S0:ac H (upd H l (.lst [])):=ac.new hl;obtain⟨dx,fs,o1,o2,lv,lps,g1,a1,a2,a3,a4,_⟩:=nW (M.same S0);refine⟨_,rfl,x,dx,fs,rfl,g1,a3,_,rfl,x,room,J0,J1,J2,ds,rfl,M.same S0,hr,fun dl du H1 hdl hD hdl0 S1=>⟨dl,rfl,⟨_,ay.of hdl⟩,?_⟩⟩;have lz:(aZ ds room).length<=1000:=bG (dP _ _) (by omega);have ndl:dl≠l:=fun z=>by rw[z,aa]at hdl0;cases hdl0
 refine bR (xs:=du.map V.ref) (fun i σ H'=>∃(us:Ze) (x5 x6 x7:Option V),σ=[some (.ref x),some (.str room),some (fv),some (.ref sd),some (.ref l),x5,x6,x7]/\H' l=some (.lst (us.map V.ref))/\iD H' us (((aZ ds room).take i).flatMap (cx fv lo))/\ac H H'/\∀b o,H1 b=some o->b≠l->H' b=some o)
  ⟨[],_,_,_,rfl,S1 _ _ aa,.nil,S0.trans S1,fun _ _ e _=>e⟩ (fun i σ H' _ ⟨_,_,_,_,_,_,_,_,e⟩=>ay.of (e _ _ hdl ndl)) ?_ ?_
 ·rintro i y σ H2 hi ⟨us,x5,x6,x7,rfl,hl2,hR,S2,e2⟩;obtain⟨u,hu',rfl⟩:=cu hi;obtain⟨d,hd,hat⟩:=Paired.getL hD hu';have k12:hU H1 H2:=fun b xs e=>e2 _ _ e fun z=>by have:=S1 _ _ (aa (H:=H) (a:=l) (o:=.lst []));rw[<-z,e]at this;cases this
  obtain⟨sb,ht2,hs2⟩:=hat.kt k12;have hgood:=M.ok.good d (bF.1 (ba hd)).1;obtain⟨s0,rest,hsg,_⟩:=mC hgood;have il:i<(aZ ds room).length:=(cG.mp hd).1;have ul:us.length<=1000:=by
   rw[Paired.length hR];refine bG (qw fv lo _) ?_;rw[aE];omega
  have row:∀{H3:Hp}(r:Str×V) (p:Addr),ac H2 H3->H3 p=none->cx fv lo d=[r]->∃(us':Ze) (x5 x6 x7:Option V),([some (.ref x),some (.str room),some (fv),some (.ref sd),some (.ref l),some (.str d.a),some (.ref sb),some (.str d.b)]:L2.St)=[some (.ref x),some (.str room),some (fv),some (.ref sd),some (.ref l),x5,x6,x7]/\upd (upd H3 p (.tup [.str r.1,r.2])) l (.lst (us.map V.ref++[.ref p])) l=some (.lst (us'.map V.ref))/\iD (upd (upd H3 p (.tup [.str r.1,r.2])) l (.lst (us.map V.ref++[.ref p]))) us' (((aZ ds room).take (i+1)).flatMap (cx fv lo))/\ac H (upd (upd H3 p (.tup [.str r.1,r.2])) l (.lst (us.map V.ref++[.ref p])))/\∀b o,H1 b=some o->b≠l->upd (upd H3 p (.tup [.str r.1,r.2])) l (.lst (us.map V.ref++[.ref p])) b=some o:=by
   intro H3 r p S3 hp er;have hk:hU H2 (upd (upd H3 p (.tup [.str r.1,r.2])) l (.lst (us.map V.ref++[.ref p]))):=((ac.kt S3).trans (ac.kt (ac.new hp))).trans (cR (kp (S3 _ _ hl2) hp));refine⟨us++[p],_,_,_,rfl,by rw[aa,aw];rfl,?_,fun b o e=>by rw[ag (ae e hl)];exact kp (S3 _ _ (S2 _ _ e)) hp,fun b o e nb=>by rw[ag nb];exact kp (S3 _ _ (e2 _ _ e nb)) hp⟩;rw[take_snoc hd,wv,nA,er];refine dv (iD.kt hk hR) ?_;rw[ag (ae (S3 _ _ hl2) hp).symm];exact aa
  refine⟨u,_,rfl,bc.of ht2,rfl,_,_,rfl,_,_,rfl,_,_,rfl,rfl,?_⟩;refine⟨_,rfl,jb d.sg,jb ao,aQ (bc.of hs2),aQ (hs H2),by rw[bo];decide,by rw[bo];decide,_,rfl,?_⟩;rw[dR];refine mY (P:=d.sg=ao) (by simp) (fun c=>?_) (fun c=>?_)
  ·refine⟨_,rfl,.inl ⟨rfl,_,ay.of hl2⟩,_,rfl,_,rfl,(by show 2<=ai;decide),fun p hp=>⟨l,_,.ref p,rfl,rfl,kp hl2 hp,by rw[aj];exact aq ul,?_⟩⟩;exact row (d.b,fv) p (.refl _) hp (by unfold cx;rw[if_pos c])
  ·have gd:ip K H2 sd (.ref sb) (lo d.sg):=(hsd H2 sb d.sg S2 (.inl hs2)).2;have isd:IS H2 sd:=(hsd H2 sb d.sg S2 (.inl hs2)).1;have at0:pW (d.sg.map V.str) 0=some (.str s0):=by rw[hsg];exact aS (j:=0) rfl
   have put:(lo d.sg).isSome=true∨d.sg.head?=some ("say":Str)->bQ (uM K "list" cV V4 (az (bD (aR V7 (xB K V3 V6))))) { nx:=fun σ H'=>∃(us:Ze) (x5 x6 x7:Option V),σ=[some (.ref x),some (.str room),some (fv),some (.ref sd),some (.ref l),x5,x6,x7]/\H' l=some (.lst (us.map V.ref))/\iD H' us (((aZ ds room).take (i+1)).flatMap (cx fv lo))/\ac H H'/\∀b o,H1 b=some o->b≠l->H' b=some o,rt:=Q } [some (.ref x),some (.str room),some (fv),some (.ref sd),some (.ref l),some (.str d.a),some (.ref sb),some (.str d.b)] H2:=by
    intro cc;refine⟨_,rfl,.inl ⟨rfl,_,ay.of hl2⟩,_,rfl,_,rfl,sd,rfl,isd,_,rfl,_,gd,?_⟩;refine⟨(by show 2<=ai;decide),fun p hp=>⟨l,_,.ref p,rfl,rfl,kp hl2 hp,by rw[aj];exact aq ul,?_⟩⟩;exact row (d.b,(lo d.sg).getD .non) p (.refl _) hp (by unfold cx;rw[if_neg c,if_pos cc])
   refine⟨_,rfl,_,rfl,sd,_,rfl,gd,_,rfl,?_⟩;cases hv:lo d.sg with
   |some w=>exact cS (cS (put (.inl (by rw[hv];rfl))))
   |none =>
    refine bU ?_;refine⟨_,rfl,sb,_,0,_,rfl,rfl,bc.of hs2,at0,rfl,_,rfl,?_⟩;refine mY (P:=d.sg.head?=some ("say":Str)) (by rw[hsg];simp) (fun c2=>put (.inr c2)) (fun c2=>?_);refine⟨us,_,_,_,rfl,hl2,?_,S2,e2⟩;have er:cx fv lo d=[]:=by
     unfold cx;rw[if_neg c,if_neg];rintro(z|z)
     ·rw[hv]at z;cases z
     ·exact c2 z
    rw[take_snoc hd,wv,nA,er];simpa using hR
 ·rintro σ H2 ⟨us,x5,x6,x7,rfl,hl2,hR,S2,e2⟩;rw[aj,Paired.length hD,aT]at hR;have M2:=M.same S2;obtain⟨dx,fs,o1,o2,lv,lps,g1,a1,a2,a3,a4,_⟩:=nW M2;have ul:us.length<=1000:=by
   rw[Paired.length hR];exact bG (qw fv lo _) lz
  refine⟨_,rfl,x,dx,fs,rfl,g1,a4,_,rfl,x,room,J0,J1,J2,ds,rfl,M2,_,rfl,?_⟩;refine mY (P:=room∈J2.filter (c6 ds)) (by simp) (fun c=>?_) (fun c=>?_)
  ·have gd:=hsd H2 hu aV S2 (BZ hh H2);refine⟨_,rfl,.inl ⟨rfl,_,ay.of hl2⟩,_,rfl,_,rfl,sd,rfl,gd.1,_,gd.2,?_⟩;refine⟨(by show 2<=ai;decide),fun p hp=>⟨l,_,.ref p,rfl,rfl,kp hl2 hp,by rw[aj];exact aq ul,?_⟩⟩;have hk:hU H2 (upd (upd H2 p (.tup [.str room,(lo aV).getD .non])) l (.lst (us.map V.ref++[.ref p]))):=(ac.kt (ac.new hp)).trans (cR (kp hl2 hp));refine⟨_,rfl,k l (us++[p]) _ (by rw[aa,aw];rfl) ?_ hl fun b o e=>by rw[ag (ae e hl)];exact kp (S2 _ _ e) hp⟩;unfold tQ;rw[if_pos c];refine dv (iD.kt hk hR) ?_;rw[ag (ae hl2 hp).symm];exact aa
  ·refine⟨_,rfl,k l us H2 hl2 ?_ hl S2⟩;unfold tQ;rw[if_neg c,dI];exact hR
def Az(K:Za):TS :=
 ap (aP (ke) U1)
 (ap (d9 (b0 K V0) U2 (kQ V1 V2 (tC (.bl true))))
 (bj V1))
def BG:List Str:=["things","keys","thing"]
def AA(K:Za):TS :=
 ap (aP (nU) U1)
 (ap (d9 (Fs K V0) U2 (kQ V1 V2 (tC (.bl true))))
 (bj V1))
def BH:List Str:=["things","keys","thing"]
def tu(K:Za)(C_Machine:Addr)(sp_Machine_rooms:Sp)(sp_as_keys:Sp):TS :=
 ap (aP (aM sp_as_keys (az V1)) U2)
 (bj (y9 (aH Dt (eo (eC K) (az V1)) (tC (.int 0))) (aH (lP K) V1 (eo (vO K) (az (dC 1 [2] (b0 K (cX C_Machine "rooms" sp_Machine_rooms [] E0 V0 bq)) U0 (tB (rM K V0 V1)) V0))))))
def uH:List Str:=["M","face","rooms"]
def xr(K:Za)(cz:Sp)(C_Machine:Addr)(sp_Machine_rooms:Sp)(sp_rows_needed:Sp)(sp_steps_at:Sp)(sp_is_full_face:Sp)(sp_as_keys:Sp)(sp_need_taker:Sp):TS :=
 ap (bQ (aM sp_need_taker (aR V0 V1)))
 (ap (aP (aM sp_as_keys (az V2)) U3)
 (ap (aP (aM sp_as_keys (az (cX C_Machine "rooms" sp_Machine_rooms [] E0 V1 bq))) U4)
 (ap (aP (ke) U5)
 (ap (d9 (Bm K V3) (ib K 2 (a_ U6 (a_ U7 (gR)))) (ap (b_ (tB (cU K V7 V5)) (ap (b_ (oQ (tB (aM sp_is_full_face (aR V0 V7)))) (bj (tC (.bl false))) (bB))
 (lL K V5 V7 (aM sp_steps_at (aR V0 V7)))) (bB))
 (b_ (vL (tB (cU K V6 V4)) (oQ (tB (eo (GK K) (ar (dC 1 [3] (b0 K (aM sp_rows_needed (ar V1 (eB V6 V7 (gG K V5 V7))))) U0 (kT) (rM K V0 V1)) bq))))) (bj (tC (.bl false))) (bB))))
 (bj (rM K (bD (aR (aH (cZ K) (cX C_Machine "rooms" sp_Machine_rooms [] E0 V1 bq) (tC (.int 0))) (aM cz (az V0)))) V3))))))
def yB:List Str:=["M","I","paper","rows","rooms","steps","room","face"]
def qj(K:Za)(sp_law_is_quiet:Sp)(sp_law_behind:Sp):TS :=
 ap (d9 (b0 K (aH (mV K) V1 (tC (.int 3)))) (ib K 3 (a_ U5 (a_ U6 (a_ U7 (gR))))) (ap (b_ (kW (aO (aH yI V5 V3)) (kW (aO (aH (lP K) V6 (bD (az (tC (.str "still")))))) (tB (cU K (bD (aR V7 V4)) V2)))) (bj (tC (.bl false))) (bB))
 (b_ (kW (aO (aH yI V5 V3)) (aO (aH (rP K) V6 (bD (az (tC (.str "still"))))))) (ap (aP (aM sp_law_behind (eB V0 V4 V6)) U8)
 (b_ (vL (kW (aO (aH (lP K) V8 (bD (bq)))) (aO (aH yI (aH (h9 K) V6 (tC (.int 0))) (tC (.str "say"))))) (kW (aO (aH (rP K) V8 (bD (bq)))) (tB (cU K (bD (aR V7 V8)) V2)))) (bj (tC (.bl false))) (bB))) (bB))))
 (ap (b_ (tB (aM sp_law_is_quiet (aR V1 V3))) (ap (aP (aM sp_law_behind (eB V0 V4 (bD (az (tC (.str "hush")))))) U8)
 (bj (y9 (aH (rP K) V8 (bD (bq))) (rM K (bD (aR V3 V8)) V2)))) (bB))
 (bj (tC (.bl true))))
def qK:List Str:=["told","some","rows","room","face","one","sign","other","behind"]
def nK(K:Za)(sp_law_row_stands:Sp)(sp_law_on:Sp):TS :=
 ap (aP (ke) U3)
 (ap (d9 (b0 K V2) U4 (ap (b_ (vL (aO (aH (qy K true) (aH (h9 K) V4 (tC (.int 0))) (aH (mV K) V1 (tC (.int 2))))) (vL (aO (aH (lP K) (aH (h9 K) V4 (tC (.int 1))) (bD (bq)))) (aO (aH (rP K) (aH (h9 K) V4 (tC (.int 1))) (eo (vO K) (ar (dC 1 [4] (b0 K (aH (mV K) V0 (tC (.int 2)))) U0 (aO (aH (qy K false) V0 (aH (h9 K) V1 (tC (.int 1))))) V0) bq)))))) (bj (tC (.bl false))) (bB))
 (lL K V3 V4 (tC (.bl true)))))
 (ap (b_ (tB (cU K (bD (ar (aH (cZ K) (aH (mV K) V1 (tC (.int 2))) (tC (.int 0))) (ar (aM sp_law_on (aR V0 (AB (rO K) (aH (mV K) V0 (tC (.int 2))) (fq) (gF (tC (.int 1)))))) bq))) V3)) (bj (tC (.bl false))) (bB))
 (ap (d9 (b0 K V2) (ib K 2 (a_ U5 (a_ U6 (gR)))) (b_ (oQ (tB (aM sp_law_row_stands (ar V0 (ar V1 (eB V3 V5 V6)))))) (bj (tC (.bl false))) (bB)))
 (bj (tC (.bl true))))))
def oh:List Str:=["told","some","paper","rows","row","room","face"]
theorem DN{d:Addr}{o:Obj}{u:HO}{n:Nat}{ent:Nat->Hp->V->V->Prop}{g:TG}{tb:TS}{D:mn}{σ:L2.St}{H:Hp}(Pv:Nat->L2.St->Hp->Prop)(h0:Pv 0 σ H)(hl:∀i σ H,i<=n->Pv i σ H->H d=some (.frz o u))
  (hs:∀i σ H a b,i<n->Pv i σ H->ent i H a b->g a σ H fun σ2 H2=>tb { D with nx:=Pv (i+1),ct:=Pv (i+1),bk:=D.nx } σ2 H2) (hd:∀σ H,Pv n σ H->D.nx σ H) :
  ∃W:Nat->Nat->L2.St->Hp->Prop,(∃m,W 0 m σ H)/\∀i m σ H,W i m σ H ->
   ((HH d o u n ent).stop i H/\D.nx σ H)∨((HH d o u n ent).go i H/\∃N:L2.St->Hp->Prop,(∀σ' H',N σ' H'->∃m',m'<m/\W (i+1) m' σ' H')/\∀x H',(HH d o u n ent).yld i H x H'->g x σ H' fun σ2 H2=>tb { D with nx:=N,ct:=N,bk:=D.nx } σ2 H2):=by
 refine⟨fun i m σ H=>m=n-i/\i<=n/\Pv i σ H,⟨n,by simp,db _,h0⟩,?_⟩;rintro i m σ H ⟨rfl,hi,p⟩;have q:=hl i σ H hi p;by_cases lt:i<n
 ·refine .inr ⟨⟨q,lt⟩,Pv (i+1),fun σ' H' p'=>⟨n-(i+1),by omega,rfl,lt,p'⟩,fun x H' y=>?_⟩;obtain⟨rfl,b,en⟩:=y;exact hs i σ _ x b lt p en
 ·have e:i=n:=by omega
  subst e;exact .inl ⟨⟨q,aB _⟩,hd σ H p⟩
theorem AI{n:Nat}(h:n<=200000):n<ai:=by rw[k7];omega
abbrev cK:=Str×List Str
def gj(r:cK):TK:=.t [mS r.1,fj r.2]
theorem Fz{a b:cK}(h:gj a=gj b):a=b:=by
 unfold gj at h;injection h with h;injection h with h1 h2;injection h2 with h2 _;obtain⟨a1,a2⟩:=a;obtain⟨b1,b2⟩:=b;rw[show a1=b1 from o8 h1,show a2=b2 from iA h2]
theorem kB(k:cK):(gj k).depth<=8:=by
 show max (mS k.1).depth (max (fj k.2).depth 0)+1<=8;rw[qh];show max 0 (max 1 0)+1<=8
 decide
def qQ(H:Hp)(u:Addr)(r:cK):Prop:=∃ft,H u=some (.tup [.str r.1,.ref ft])/\SignAt H ft r.2
theorem qQ.kt{H H':Hp}{b:Addr}{k:cK}(kt:hU H H'):qQ H b k->qQ H' b k:=fun⟨u,h1,h2⟩=>⟨u,kt _ _ h1,kt _ _ h2⟩
theorem qQ.tk{H:Hp}{b:Addr}{k:cK}(h:qQ H b k):cW H (gj k) (.ref b):=by
 obtain⟨u,h1,h2⟩:=h;unfold gj cW;refine⟨b,_,rfl,h1,?_⟩;unfold TKAts;refine⟨_,_,rfl,tf _,?_⟩;unfold TKAts;refine⟨_,_,rfl,SignAt.tk h2,?_⟩;unfold TKAts
 rfl
theorem HK{K:Za}{H:Hp}{k:cK}{a:V}(h:mK K H (gj k) a):∃b ft,a=.ref b/\aY K H b [.str k.1,.ref ft]/\aY K H ft (k.2.map V.str):=by
 unfold gj mK at h;obtain⟨b,xs,rfl,h1,h2⟩:=h;unfold TKCs at h2;obtain⟨v,us,rfl,h3,h4⟩:=h2;unfold TKCs at h4;obtain⟨v',us',rfl,h5,h6⟩:=h4;unfold TKCs at h6;obtain⟨ft,rfl,h7⟩:=sZ h5;unfold mS mK at h3;subst h3 h6;exact⟨b,ft,rfl,h1,h7⟩
def kY(L:List cK):List (TK×V):=L.map fun k=>(gj k,.bl true)
theorem jk(k:cK):∀L:List cK,(br (kY L) (gj k)).isSome=decide (k∈L)
 |[]=>rfl
 |x::L=>by
  show(br ((gj x,V.bl true)::kY L) (gj k)).isSome=_;by_cases c:x=k
  ·rw[cr (by show gj x=gj k;rw[c])];simp[c]
  ·rw[bW (fun z=>c (Fz z)),jk k L];simp[dB c]
theorem CD(r:Str):∀L:List cK,br (kY L) (.t [.k (some (.inr r)),.k none])=none
 |[]=>rfl
 |x::L=>by
  show br ((gj x,V.bl true)::kY L) _=none;rw[bW (fun z=>by unfold gj fj at z;injection z with z;injection z with _ z;injection z with z _;cases z),CD r L]
def tV(L:List cK)(r:cK):List cK:=if r∈L then L else L++[r]
def bm(L:List cK):List cK:=L.foldl tV []
theorem CC(r:cK)(L:List cK):cL (kY L) (gj r) (.bl true)=kY (tV L r):=by
 unfold tV;by_cases c:r∈L
 ·rw[if_pos c];unfold cL;rw[if_pos]
  ·unfold kY;rw[pY];refine wK fun x _=>?_;show(if gj x=gj r then(gj x,V.bl true)else(gj x,V.bl true))=_
   split<;>rfl
  ·rw[List.any_eq_true];exact⟨(gj r,.bl true),ax.2 ⟨r,c,rfl⟩,zzr1 rfl⟩
 ·rw[if_neg c];have vn:br (kY L) (gj r)=none:=by
   have:=jk r L;rw[zzr0 c]at this;cases e:br (kY L) (gj r)with
   |none=>rfl
   |some v=>rw[e]at this;cases this
  rw[df _ vn];unfold kY;rw[aw];rfl
theorem pb{L:List cK}{i:Nat}{r:cK}(h:L[i]?=some r):bm (L.take (i+1))=tV (bm (L.take i)) r:=by
 unfold bm;rw[take_snoc h,k_];rfl
theorem Fj{L:List cK}{r x:cK}:x∈tV L r↔x∈L∨x=r:=by
 unfold tV;split
 ·rename_i h;exact⟨.inl,fun z=>z.elim id fun e=>by rw[e];exact h⟩
 ·simp
theorem fK{L:List cK}{x:cK}:x∈bm L↔x∈L:=by
 have:∀(L A:List cK),x∈L.foldl tV A↔x∈A∨x∈L:=by
  intro L
  induction L with
  |nil=>intro A;simp
  |cons y L ih =>
   intro A;rw[sD,ih,Fj,cO,or_assoc]
 unfold bm;rw[this];simp
theorem lN(L:List cK):(bm L).length<=L.length:=by
 have:∀(L A:List cK),(L.foldl tV A).length<=A.length+L.length:=by
  intro L
  induction L with
  |nil=>intro A;exact aB _
  |cons y L ih =>
   intro A;rw[sD,d4];have h1:=ih (tV A y);have h2:(tV A y).length<=A.length+1:=by
    unfold tV;split
    ·omega
    ·rw[aL];exact aB _
   omega
 have:=this L [];simpa[bm]using this
inductive lH(K:Za)(vs:List V)(H:Hp)(Q:VK)(E:XK):Prop
 |mk (l:Addr) (us:Ze) (L:List cK):(vs=[.ref l])->(H l=some (.lst (us.map V.ref)))->(Paired (qQ H) us L)->(L.length<=100000)->(∀d,H d=none->Q (.ref d) (upd H d (.dT (kY (bm L)))))->lH K vs H Q E
theorem zo{K:Za}{vs:List V}{H:Hp}{Q:VK}{E:XK}(h:lH K vs H Q E):Az K (bM Q) (start BG vs) H:=by
 obtain⟨l,us,L,rfl,hl,hu,hz,k⟩:=h;refine fun d hd=>?_;have key:∀o,upd H d o l=some (.lst (us.map V.ref)):=fun o=>kp hl hd;refine⟨_,rfl,l,rfl,⟨_,ay.of (key _)⟩,?_⟩;refine bR (xs:=us.map V.ref) (fun i σ H'=>∃x,σ=[some (.ref l),some (.ref d),x]/\H'=upd H d (.dT (kY (bm (L.take i))))) ⟨_,rfl,rfl⟩ (fun i σ H' _ ⟨_,_,e⟩=>by rw[e];exact ay.of (key _)) ?_ ?_
 ·rintro i x σ H' hi ⟨y,rfl,rfl⟩;obtain⟨u,hu',rfl⟩:=cu hi;obtain⟨r,hr,hat⟩:=Paired.getL hu hu';have hlen:(kY (bm (L.take i))).length<ai:=by
   unfold kY;rw[aj];exact AI (bG (lN _) (by rw[aE];omega))
  refine⟨_,rfl,_,rfl,d,_,rfl,.inr ⟨_,gj r,u,aa,rfl,(hat.kt (ac.kt (ac.new hd))).tk,kB _,hlen,rfl⟩,_,rfl,?_⟩;rw[mr,pb hr,CC]
 ·rintro σ H' ⟨x,rfl,rfl⟩;rw[aj,Paired.length hu,aT];exact⟨_,rfl,k d hd⟩
inductive lI(K:Za)(vs:List V)(H:Hp)(Q:VK)(E:XK):Prop
 |mk (l:Addr) (ws:Zb):(vs=[.ref l])->(aY K H l (ws.map V.str))->(ws.length<=1000)->(∀d,H d=none->Q (.ref d) (upd H d (.dK (aI ws))))->lI K vs H Q E
theorem zq{K:Za}{vs:List V}{H:Hp}{Q:VK}{E:XK}(h:lI K vs H Q E):AA K (bM Q) (start BH vs) H:=by
 obtain⟨l,ws,rfl,hl,hz,k⟩:=h;refine fun d hd=>?_;have key:∀kvs,bc K (upd H d (.dK kvs)) l (ws.map V.str):=fun kvs=>aY.sq (aY.kt (ac.kt (ac.new hd)) hl);refine⟨_,rfl,l,rfl,⟨_,key _⟩,?_⟩;refine ye (xs:=ws.map V.str) (fun i σ H'=>∃x,σ=[some (.ref l),some (.ref d),x]/\H'=upd H d (.dK (aI (ws.take i)))) ⟨_,rfl,rfl⟩ (fun i σ H' _ ⟨_,_,e⟩=>by rw[e];exact key _) ?_ ?_
 ·rintro i x σ H' hi ⟨y,rfl,rfl⟩;obtain⟨w,hw,rfl⟩:=bu hi;have hlen:(aI (ws.take i)).length<ai:=aq (bG (i0 _) (by rw[aE];omega));refine⟨_,rfl,_,rfl,d,_,rfl,.inl ⟨_,.inr w,aa,rfl,hlen,rfl⟩,_,rfl,?_⟩;rw[mr,take_snoc hw,dj]
 ·rintro σ H' ⟨x,rfl,rfl⟩;rw[aj,aT];exact⟨_,rfl,k d hd⟩
def tN(K:Za):Sp:=fun vs H Q E=>sp_as_keys K vs H Q E∨lH K vs H Q E∨lI K vs H Q E
def lY(J2 f:Zb):Bool:=decide (f≠[]/\f=J2.filter fun r=>decide (r∈f))
inductive rZ(K:Za)(C:Addr)(vs:List V)(H:Hp)(Q:VK)(E:XK):Prop
 |mk (x ft:Addr) (f J0 J1 J2:Zb) (ds:List ak):(vs=[.ref x,.ref ft])->(bv C H x J0 J1 J2 ds)->(aY K H ft (f.map V.str))->(f.length<=1000)->(∀H',ac H H'->Q (.bl (lY J2 f)) H')->rZ K C vs H Q E
theorem GA{K:Za}{C:Addr}{vs:List V}{H:Hp}{Q:VK}{E:XK}(h:rZ K C vs H Q E):tu K C (fT C) (tN K) (bM Q) (start uH vs) H:=by
 obtain⟨x,ft,f,J0,J1,J2,ds,rfl,M,hf,hz,k⟩:=h;refine⟨_,rfl,.inr (.inr ⟨ft,f,rfl,hf,hz,fun d hd=>?_⟩)⟩;have S1:ac H (upd H d (.dK (aI f))):=ac.new hd;have d1:upd H d (.dK (aI f)) d=some (.dK (aI f)):=aa;generalize upd H d (.dK (aI f))=H1 at S1 d1 ⊢;have f1:=aY.kt (ac.kt S1) hf;refine⟨_,rfl,.inl ⟨ft,_,rfl,.inr (aY.sq f1),_,_,rfl,rfl,_,rfl,?_⟩⟩;by_cases c0:f=[]
 ·refine mY (P:=False) (by rw[c0];simp) (fun z=>z.elim) fun _=>?_;have:=k H1 S1;unfold lY at this;rw[zzr0 (fun z=>z.1 c0)]at this;exact this
 refine mY (P:=True) (by have:=List.length_pos_iff.2 c0;simpa using this) (fun _=>?_) fun z=>(z trivial).elim;have M1:=M.same S1;obtain⟨dx,fs,o1,o2,o3,o4,lv,qu,sgA,sl,ts,lps,gps,sps,g1,a1,a2,a3,a4,_⟩:=id M1.at_;have z3:=M.ok.rooms26;refine⟨_,rfl,_,rfl,x,dx,fs,rfl,g1,a4,x,J0,J1,J2,ds,rfl,M1,fun rl hrl=>⟨rl,rfl,⟨_,ay.of aa⟩,fun l hl=>?_⟩⟩;have S2:ac H1 (upd H1 rl (.lst (J2.map V.str))):=ac.new hrl;have r2:upd H1 rl (.lst (J2.map V.str)) rl=some (.lst (J2.map V.str)):=aa;generalize upd H1 rl (.lst (J2.map V.str))=H2 at S2 r2 hl ⊢;have d2:=S2 _ _ d1;refine cg (xs:=J2.map V.str) (fun i vs H'=>vs=((J2.take i).filter fun r=>decide (r∈f)).map V.str/\ac H2 H'/\H' l=some (.lst vs)) ⟨rfl,ac.new hl,aa⟩ (fun i vs H' _ ⟨_,S,h'⟩=>⟨h',ay.of (S _ _ r2)⟩) ?_ ?_
 ·rintro vs H' ⟨rfl,S,h'⟩;rw[aj,aT]at h';refine⟨l,_,rfl,.inl ⟨ay.of h',fun t' ht'=>?_⟩⟩;have S3:ac H1 (upd H' t' (.tup ((J2.filter fun r=>decide (r∈f)).map V.str))):=(S2.trans S).trans (ac.new ht');refine⟨jb f,jb (J2.filter fun r=>decide (r∈f)),aQ (aY.sq (aY.kt (ac.kt S3) f1)),aQ (bc.of aa),by rw[bo];decide,by rw[bo];decide,?_⟩;rw[dR];have:=k _ (S1.trans S3);unfold lY at this;rw[decide_eq_decide.2 (show(f≠[]/\f=J2.filter fun r=>decide (r∈f))↔f=J2.filter fun r=>decide (r∈f)from⟨fun z=>z.2,fun z=>⟨c0,z⟩⟩)]at this;exact this
 ·rintro i vs H' y hy hi ⟨rfl,S,h'⟩;obtain⟨r,hr,rfl⟩:=bu hy;refine gN ?_;refine⟨_,rfl,_,rfl,d,_,rfl,.inl ⟨_,.inr r,.inl (S _ _ d2),rfl,rfl⟩,_,rfl,?_⟩;rw[dL];refine mY (P:=r∈f) (by simp) (fun c=>?_) fun c=>?_
  ·refine⟨_,rfl,h',?_,mW hi ⟨?_,fun b o q=>by rw[ag (ae q hl)];exact S _ _ q,aa⟩⟩
   ·rw[aj];exact aq (bG (dP _ _) (by rw[aE];omega))
   ·rw[bP hr,if_pos (by simpa using c),aw];rfl
  ·refine mW hi ⟨?_,S,h'⟩;rw[bP hr,if_neg (by simpa using c),dI]
def gS(J2:Zb)(ds ds':List ak)(L:List cK)(r:Str)(f:Zb):Prop :=
 (∀d∈ds',d.a=r->(d.sg=ao->(d.b,f)∈L)/\(d.sg≠ao->(behF J2 ds f d.sg=[]->d.sg.head?≠some ("say":Str))/\(behF J2 ds f d.sg≠[]->(d.b,behF J2 ds f d.sg)∈L))) /\
 (r∉fh ds'->behF J2 ds f aV≠[]/\(r,behF J2 ds f aV)∈L)
def pR(J2 rooms':Zb)(ds ds':List ak)(L:List cK)(x:cK):Prop:=x.1∈rooms'/\lY J2 x.2=true/\gS J2 ds ds' L x.1 x.2
def cJ(J2 rooms':Zb)(ds ds':List ak)(L:List cK):Prop:=(∀x∈L,pR J2 rooms' ds ds' L x)/\∃r0,rooms'[0]?=some r0/\(r0,closF J2 ds (J2.take 1))∈L
theorem Fy{J2 f:Zb}(h:lY J2 f=true):∀r∈f,r∈J2:=fun r hr=>by
 have:=(of_decide_eq_true h).2;rw[this]at hr;exact(bF.1 hr).1
theorem qE{K:Za}{H:Hp}{d p ft:Addr}{L:List cK}{r:Str}{f:Zb}(hd:Rd H d (.dT (kY L)))(hp:bc K H p [.str r,.ref ft])(hf:aY K H ft (f.map V.str)):ip K H d (.ref p) (br (kY L) (gj (r,f))):=by
 refine .inr ⟨_,gj (r,f),p,hd,rfl,?_,kB _,rfl⟩;unfold gj jc;refine⟨p,_,rfl,hp,?_⟩;unfold TKIns;refine⟨_,_,rfl,?_,?_⟩
 ·unfold mS jc;rfl
 unfold TKIns;refine⟨_,_,rfl,mv hf,?_⟩;unfold TKIns
 rfl
theorem kZ.find{H:Hp}{sg:Sg}:∀{kvs:List (TK×V)}{L:List (Sg×List Str)},kZ H kvs L->((∀p∈L,p.1≠sg)/\br kvs (fj sg)=none)∨∃p∈L,p.1=sg/\∃u,br kvs (fj sg)=some (.ref u)/\H u=some (.tup (p.2.map V.str))
 |_,_,.nil=>.inl ⟨fun _ h=>(nomatch h),rfl⟩
 |kv::_,p::_,.cons ⟨e,u,e2,hu⟩ t=>by
  by_cases c:p.1=sg
  ·refine .inr ⟨p,dO,c,u,?_,hu⟩;rw[cr (by rw[e,c]),e2]
  ·rw[bW (fun z=>c (iA (by rw[<-e,z])))];rcases kZ.find t with⟨h1,h2⟩|⟨q,hq,h⟩
   ·exact .inl ⟨fun x hx=>(cO.1 hx).elim (fun z=>by rw[z];exact c) (h1 x),h2⟩
   ·exact .inr ⟨q,eI _ hq,h⟩
theorem kZ.look{H:Hp}{kvs:List (TK×V)}{J0 J1 J2 f:Zb}{ds:List ak}(h:kZ H kvs (stepsF J0 J1 J2 ds f)){sg:Sg}(hs:sg∈bb J0 J1):
  (behF J2 ds f sg=[]/\br kvs (fj sg)=none)∨(behF J2 ds f sg≠[]/\∃u,br kvs (fj sg)=some (.ref u)/\H u=some (.tup ((behF J2 ds f sg).map V.str))):=by
 rcases kZ.find (sg:=sg) h with⟨h1,h2⟩|⟨p,hp,e,u,h1,h2⟩
 ·refine .inl ⟨?_,h2⟩;refine iQ.1 fun z=>h1 (sg,behF J2 ds f sg) ?_ rfl;exact bF.2 ⟨ax.2 ⟨sg,hs,rfl⟩,zzr1 z⟩
 ·obtain⟨h3,h4⟩:=bF.1 hp;obtain⟨s,_,rfl⟩:=ax.1 h3;cases e;exact .inr ⟨of_decide_eq_true h4,u,h1,h2⟩
def rowS(J2:Zb)(ds:List ak)(f:Zb)(d:ak):List (Str×Option (List Str)) :=
 if d.sg=ao then[(d.b,some f)]else if behF J2 ds f d.sg≠[]then[(d.b,some (behF J2 ds f d.sg))]else if d.sg.head?=some ("say":Str)then[(d.b,none)]else[]
def rowsS(J2 rooms':Zb)(ds ds':List ak)(r:Str)(f:Zb):List (Str×Option (List Str)) :=
 (aZ ds' r).flatMap (rowS J2 ds f)++if r∈rooms'.filter (c6 ds')then[(r,if behF J2 ds f aV=[]then none else some (behF J2 ds f aV))]else[]
def RwIs(K:Za)(H:Hp)(x:Str×V)(s:Str×Option (List Str)):Prop:=x.1=s.1/\((s.2=none/\x.2=.non)∨∃g u,s.2=some g/\x.2=.ref u/\aY K H u (g.map V.str))
def AL(L:List cK)(s:Str×Option (List Str)):Bool:=match s.2 with
 |none=>false
 |some g=>decide ((s.1,g)∈L)
theorem vS{α β γ:Type}{R:β->γ->Prop}{F:α->List β}{G:α->List γ}:∀{l:List α},(∀a∈l,Paired R (F a) (G a))->Paired R (l.flatMap F) (l.flatMap G)
 |[],_=>.nil
 |a::l,h=>by
  rw[nA,nA];exact Paired.app (h a dO) (vS fun b hb=>h b (eI _ hb))
theorem Gr{K:Za}{H:Hp}{kvs:List (TK×V)}{J0 J1 J2 rooms' f:Zb}{ds ds':List ak}{ft:Addr}{r:Str}{lo:Sg->Option V}(hlo:∀sg,lo sg=br kvs (fj sg))(m':aK J0 J1 rooms' ds')(h:kZ H kvs (stepsF J0 J1 J2 ds f))(hf:aY K H ft (f.map V.str)):
  Paired (RwIs K H) (tQ rooms' ds' r (.ref ft) lo) (rowsS J2 rooms' ds ds' r f):=by
 unfold tQ rowsS;refine Paired.app (vS fun d hd=>?_) ?_
 ·have hd':=(bF.1 hd).1;unfold cx rowS;by_cases c:d.sg=ao
  ·rw[if_pos c,if_pos c];exact .cons ⟨rfl,.inr ⟨f,ft,rfl,rfl,hf⟩⟩ .nil
  rw[if_neg c,if_neg c];have hs:d.sg∈bb J0 J1:=by
   unfold bb;rcases(m'.good d hd').sg with⟨w,hw,e⟩|⟨w,hw,e⟩|e
   ·exact cj _ (cj _ (ax.2 ⟨w,hw,e.symm⟩))
   ·exact cj _ (cD _ (ax.2 ⟨w,hw,e.symm⟩))
   ·exact absurd e c
  rcases h.look hs with⟨e1,e2⟩|⟨e1,u,e2,e3⟩
  ·rw[if_neg (fun z:_≠_=>z e1)];by_cases c2:d.sg.head?=some ("say":Str)
   ·rw[if_pos (.inr c2),if_pos c2,hlo,e2];exact .cons ⟨rfl,.inl ⟨rfl,rfl⟩⟩ .nil
   ·rw[if_neg c2,if_neg]
    ·exact .nil
    ·rintro(z|z)
     ·rw[hlo,e2]at z;cases z
     ·exact c2 z
  ·rw[if_pos e1,if_pos (.inl (by rw[hlo,e2];rfl)),hlo,e2];exact .cons ⟨rfl,.inr ⟨_,u,rfl,rfl,.inl e3⟩⟩ .nil
 ·by_cases c:r∈rooms'.filter (c6 ds')
  ·rw[if_pos c,if_pos c];have hs:aV∈bb J0 J1:=cD _ (aX.2 rfl);rcases h.look hs with⟨e1,e2⟩|⟨e1,u,e2,e3⟩
   ·rw[if_pos e1,hlo,e2];exact .cons ⟨rfl,.inl ⟨rfl,rfl⟩⟩ .nil
   ·rw[if_neg e1,hlo,e2];exact .cons ⟨rfl,.inr ⟨_,u,rfl,rfl,.inl e3⟩⟩ .nil
  ·rw[if_neg c,if_neg c];exact .nil
theorem AN{J2 rooms' f:Zb}{ds ds':List ak}{L:List cK}{r:Str}(hr:r∈rooms'):((rowsS J2 rooms' ds ds' r f).map (AL L)).all id=true↔gS J2 ds ds' L r f:=by
 rw[wI,wU];have split:(∀x∈rowsS J2 rooms' ds ds' r f,(id ∘ AL L) x=true)↔(∀d∈ds',d.a=r->∀x∈rowS J2 ds f d,AL L x=true)/\(r∉fh ds'->AL L (r,if behF J2 ds f aV=[]then none else some (behF J2 ds f aV))=true):=by
  have q:r∈rooms'.filter (c6 ds')↔r∉fh ds':=by
   rw[bF,kr,decide_eq_true_iff];exact⟨fun z=>z.2,fun z=>⟨hr,z⟩⟩
  unfold rowsS;constructor
  ·intro h;refine⟨fun d hd e x hx=>h x (cj _ (jr.2 ⟨d,bF.2 ⟨hd,zzr1 e⟩,hx⟩)),fun z=>?_⟩;rw[if_pos (q.2 z)]at h;exact h _ (cD _ (aX.2 rfl))
  ·rintro⟨h1,h2⟩ x hx;rcases bd.1 hx with z|z
   ·obtain⟨d,hd,hx⟩:=jr.1 z;obtain⟨hd,e⟩:=bF.1 hd;exact h1 d hd (of_decide_eq_true e) x hx
   ·by_cases c:r∈rooms'.filter (c6 ds')
    ·rw[if_pos c]at z;rw[aX.1 z];exact h2 (q.1 c)
    ·rw[if_neg c]at z;cases z
 rw[split];unfold gS;refine and_congr ?_ ?_
 ·refine forall_congr' fun d=>forall_congr' fun _=>forall_congr' fun _=>?_;unfold rowS;by_cases c:d.sg=ao
  ·rw[if_pos c];refine⟨fun h=>⟨fun _=>of_decide_eq_true (h _ (aX.2 rfl)),fun z=>absurd c z⟩,fun h x hx=>?_⟩;rw[aX.1 hx];exact zzr1 (h.1 c)
  ·rw[if_neg c];by_cases e:behF J2 ds f d.sg=[]
   ·rw[if_neg (fun z:_≠_=>z e)];by_cases c2:d.sg.head?=some ("say":Str)
    ·rw[if_pos c2];refine⟨fun h=>?_,fun h=>absurd c2 ((h.2 c).1 e)⟩;have:=h _ (aX.2 rfl);cases this
    ·rw[if_neg c2];exact⟨fun _=>⟨fun z=>absurd z c,fun _=>⟨fun _=>c2,fun z=>absurd e z⟩⟩,fun _ x hx=>by cases hx⟩
   ·rw[if_pos e];refine⟨fun h=>⟨fun z=>absurd z c,fun _=>⟨fun z=>absurd z e,fun _=>of_decide_eq_true (h _ (aX.2 rfl))⟩⟩,fun h x hx=>?_⟩;rw[aX.1 hx];exact zzr1 ((h.2 c).2 e)
 ·refine forall_congr' fun _=>?_;by_cases e:behF J2 ds f aV=[]
  ·rw[if_pos e];exact⟨fun h=>(by cases h),fun h=>absurd e h.1⟩
  ·rw[if_neg e];exact⟨fun h=>⟨e,of_decide_eq_true h⟩,fun h=>zzr1 h.2⟩
theorem gS.congr{J2 f:Zb}{ds ds':List ak}{L L':List cK}{r:Str}(e:∀x,x∈L↔x∈L'):gS J2 ds ds' L r f↔gS J2 ds ds' L' r f:=by
 unfold gS;simp only[e]
theorem Dg(J2 rooms':Zb)(ds ds':List ak)(r:Str)(f:Zb):(rowsS J2 rooms' ds ds' r f).length<=ds'.length+1:=by
 have h1:∀l:List ak,(l.flatMap (rowS J2 ds f)).length<=l.length:=by
  intro l
  induction l with
  |nil=>exact aB _
  |cons d l ih =>
   rw[nA,aL,d4];have:(rowS J2 ds f d).length<=1:=by
    unfold rowS;split
    ·exact aB _
    ·split
     ·exact aB _
     ·split
      ·exact aB _
      ·exact db _
   omega
 unfold rowsS;rw[aL];have:=h1 (aZ ds' r);have:(aZ ds' r).length<=ds'.length:=dP _ _;split
 ·show _+1<=_;omega
 ·show _+0<=_;omega
structure rq(H:Hp)(sd:Addr)(kvS:List (TK×V))(J0 J1 J2:Zb)(ds:List ak):Prop where
 at_:H sd=some (.dT kvS)
 ok:∀f:List Str,br kvS (fj f)=none∨∃d kvs,br kvS (fj f)=some (.ref d)/\d≠sd/\H d=some (.dT kvs)/\kZ H kvs (stepsF J0 J1 J2 ds f)/\lY J2 f=true
theorem rq.same{H H':Hp}{sd:Addr}{kvS:List (TK×V)}{J0 J1 J2:Zb}{ds:List ak}(S:ac H H')(h:rq H sd kvS J0 J1 J2 ds):rq H' sd kvS J0 J1 J2 ds :=
 ⟨S _ _ h.at_,fun f=>(h.ok f).imp id fun⟨d,kvs,h1,h2,h3,h4,h5⟩=>⟨d,kvs,h1,h2,S _ _ h3,h4.kt (ac.kt S),h5⟩⟩
theorem rq.put{H:Hp}{sd d:Addr}{kvS kvs:List (TK×V)}{J0 J1 J2 f:Zb}{ds:List ak}(h:rq H sd kvS J0 J1 J2 ds)(nd:d≠sd)(hd:H d=some (.dT kvs))(st:kZ H kvs (stepsF J0 J1 J2 ds f))(fu:lY J2 f=true)(no:br kvS (fj f)=none):
  rq (upd H sd (.dT (kvS++[(fj f,.ref d)]))) sd (kvS++[(fj f,.ref d)]) J0 J1 J2 ds:=by
 have kt:hU H (upd H sd (.dT (kvS++[(fj f,.ref d)]))):=CF h.at_;refine⟨aa,fun g=>?_⟩;by_cases c:g=f
 ·subst c;refine .inr ⟨d,kvs,?_,nd,by rw[ag nd];exact hd,st.kt kt,fu⟩;rw[<-df (.ref d) no,lB,if_pos rfl]
 ·have e:br (kvS++[(fj f,V.ref d)]) (fj g)=br kvS (fj g):=by
   rw[<-df (.ref d) no];rw[lB,if_neg fun z=>c (iA z)]
  rw[e];exact(h.ok g).imp id fun⟨d',kvs',h1,h2,h3,h4,h5⟩=>⟨d',kvs',h1,h2,by rw[ag h2];exact h3,h4.kt kt,h5⟩
inductive KpI(x y l rd md sd:Addr)(o:Obj)(L:List cK)(J0 J1 J2 rooms':Zb)(ds ds':List ak)(H:Hp)(i:Nat)(σ:L2.St)(H':Hp):Prop
 |mk (kvS:List (TK×V)) (x6 x7:Option V):σ=[some (.ref x),some (.ref y),some (.ref l),some (.ref rd),some (.ref md),some (.ref sd),x6,x7]->H' rd=some (.frz o (.dT (kY (bm L))))->H' md=some (.dK (aI rooms'))->rq H' sd kvS J0 J1 J2 ds->kvS.length<=i->ac H H'->(∀r∈(bm L).take i,pR J2 rooms' ds ds' L r)->KpI x y l rd md sd o L J0 J1 J2 rooms' ds ds' H i σ H'
inductive ko(K:Za)(C:Addr)(vs:List V)(H:Hp)(Q:VK)(E:XK):Prop
 |mk (x y l:Addr) (us:Ze) (L:List cK) (J0 J1 J2 rooms':Zb) (ds ds':List ak):(vs=[.ref x,.ref y,.ref l])->(bv C H x J0 J1 J2 ds)->(bv C H y J0 J1 rooms' ds')->(∀r∈rooms',∀a∈J0,gK ds' r a)->(H l=some (.lst (us.map V.ref)))->(Paired (qQ H) us L)->(L.length<=90000)->(∀r∈L,r.2.length<=1000)->(∀(b:Bool) (H':Hp),(b=true↔cJ J2 rooms' ds ds' L)->ac H H'->Q (.bl b) H')->ko K C vs H Q E
theorem AU{K:Za}{C:Addr}{vs:List V}{H:Hp}{Q:VK}{E:XK}(h:ko K C vs H Q E):xr K (cz C) C (fT C) (jP K C) (hV K C) (rZ K C) (tN K) (eL C) (bM Q) (start yB vs) H:=by
 obtain⟨x,y,l,us,L,J0,J1,J2,rooms',ds,ds',rfl,M,N,tk,hl,hu,zL,zf,k⟩:=h;have z4:=N.ok.few;refine⟨_,rfl,_,rfl,x,y,J0,J1,J2,rooms',ds,ds',rfl,M,N,tk,fun H1 S1=>?_⟩;refine⟨_,rfl,.inr (.inl ⟨l,us,L,rfl,S1 _ _ hl,Paired.mapP hu fun _ _ r=>r.kt (ac.kt S1),by omega,fun rd hrd=>?_⟩)⟩;have S2:ac H1 (upd H1 rd (.dT (kY (bm L)))):=ac.new hrd;have rd2:upd H1 rd (.dT (kY (bm L))) rd=some (.dT (kY (bm L))):=aa;generalize upd H1 rd (.dT (kY (bm L)))=H2 at S2 rd2 ⊢;have N2:=N.same (S1.trans S2);obtain⟨dy,gs,p1,p2,p3,p4,lv,qu,sgA,sl,ts,lps,gps,sps,g2,b1,b2,b3,b4,_⟩:=id N2.at_;refine⟨_,rfl,y,dy,gs,rfl,g2,b4,y,J0,J1,rooms',ds',rfl,N2,fun rl hrl=>?_⟩;have S3:ac H2 (upd H2 rl (.lst (rooms'.map V.str))):=ac.new hrl;have rl3:upd H2 rl (.lst (rooms'.map V.str)) rl=some (.lst (rooms'.map V.str)):=aa;generalize upd H2 rl (.lst (rooms'.map V.str))=H3 at S3 rl3 ⊢;refine .inl ⟨rl,rooms',rfl,ay.of rl3,bG N.ok.rooms26 (by decide),fun md hmd=>?_⟩;have S4:ac H3 (upd H3 md (.dK (aI rooms'))):=ac.new hmd;have md4:upd H3 md (.dK (aI rooms')) md=some (.dK (aI rooms')):=aa;generalize upd H3 md (.dK (aI rooms'))=H4 at S4 md4 ⊢;refine fun sd hsd=>?_;have S5:ac H4 (upd H4 sd (.dT [])):=ac.new hsd;have sd5:upd H4 sd (.dT []) sd=some (.dT []):=aa;generalize upd H4 sd (.dT [])=H5 at S5 sd5 ⊢;have S15:ac H1 H5:=((S2.trans S3).trans S4).trans S5;have rd5:H5 rd=some (.dT (kY (bm L))):=S5 _ _ (S4 _ _ (S3 _ _ rd2));refine⟨_,rfl,rd,kY (bm L),rfl,.inl ⟨rd5,fun o=>?_⟩⟩;have S6:ac H (upd H5 rd (.frz o (.dT (kY (bm L))))):=fun b q e=>by rw[ag (ae (S1 _ _ e) hrd)];exact S15 _ _ (S1 _ _ e)
 have rd6:upd H5 rd (.frz o (.dT (kY (bm L)))) rd=some (.frz o (.dT (kY (bm L)))):=aa;have sd6:upd H5 rd (.frz o (.dT (kY (bm L)))) sd=some (.dT []):=by rw[ag (ae (S4 _ _ (S3 _ _ rd2)) hsd).symm];exact sd5
 have md6:upd H5 rd (.frz o (.dT (kY (bm L)))) md=some (.dK (aI rooms')):=by rw[ag (ae (S3 _ _ rd2) hmd).symm];exact S5 _ _ md4
 have sn:H sd=none:=(((S1.trans S2).trans S3).trans S4).free hsd;generalize upd H5 rd (.frz o (.dT (kY (bm L))))=H6 at S6 rd6 sd6 md6 ⊢;have el:(kY (bm L)).length=(bm L).length:=by unfold kY;rw[aj]
 have zk:=lN L;have bad:∀{r:cK}{H':Hp},r∈L->¬pR J2 rooms' ds ds' L r->ac H H'->Q (.bl false) H':=fun hr hg S=>k false _ ⟨fun z=>(by cases z),fun z=>absurd (z.1 _ hr) hg⟩ S;refine DN (KpI x y l rd md sd o L J0 J1 J2 rooms' ds ds' H)
  ⟨[],_,_,rfl,rd6,md6,⟨sd6,fun _=>.inl rfl⟩,aB _,S6,fun r hr=>by simp at hr⟩ (fun i σ H' _ ⟨_,_,_,_,q,_,_,_,_,_⟩=>q) ?_ ?_
 ·rintro i σ H7 a b hi ⟨kvS,x6,x7,rfl,rd7,md7,st7,zS,S7,good⟩ ⟨key,ek,tkc⟩;unfold kY at ek;rw[bZ]at ek;obtain⟨r,hr,er⟩:=su.1 ek;cases er;obtain⟨rb,ft,rfl,hrb,hft⟩:=HK tkc;have hrL:r∈L:=fK.1 (ba hr);have zft:=zf r hrL;have il:i<(bm L).length:=by rw[<-el];exact hi
  refine⟨rb,_,rfl,aY.sq hrb,rfl,_,_,rfl,_,_,rfl,rfl,?_⟩;have rest:∀(kv:List (TK×V)) (d:Addr) (kvs:List (TK×V)) (H8:Hp),H8 rd=some (.frz o (.dT (kY (bm L))))->H8 md=some (.dK (aI rooms'))->rq H8 sd kv J0 J1 J2 ds->kv.length<=i+1->ac H H8->aY K H8 ft (r.2.map V.str)->br kv (fj r.2)=some (.ref d)->H8 d=some (.dT kvs)->kZ H8 kvs (stepsF J0 J1 J2 ds r.2)->lY J2 r.2=true ->
    (b_ (vL (tB (cU K V6 V4)) (oQ (tB (eo (GK K) (ar (dC 1 [3] (b0 K (aM (jP K C) (ar V1 (eB V6 V7 (gG K V5 V7))))) U0 (kT) (rM K V0 V1)) bq))))) (bj (tC (.bl false))) (bB)) { nx:=KpI x y l rd md sd o L J0 J1 J2 rooms' ds ds' H (i+1),rt:=Q } [some (.ref x),some (.ref y),some (.ref l),some (.ref rd),some (.ref md),some (.ref sd),some (.str r.1),some (.ref ft)] H8:=by
   intro kv d kvs H8 rd8 md8 st8 z8 S8 ft8 v8 d8 is8 fu;refine⟨_,rfl,_,rfl,md,_,rfl,.inl ⟨_,.inr r.1,.inl md8,rfl,rfl⟩,_,rfl,?_⟩;rw[dL];refine mY (P:=r.1∉rooms') (by simp) (fun c=>cS (bad hrL (fun z=>c z.1) S8)) (fun c=>?_);have c:=iQ.1 c;have gd:ip K H8 sd (.ref ft) (some (.ref d)):=by rw[<-v8];exact .inr ⟨_,fj r.2,ft,.inl st8.at_,rfl,mv ft8,cN _,rfl⟩
   refine⟨_,rfl,_,rfl,_,rfl,_,rfl,_,rfl,sd,_,rfl,gd,y,d,r.1,.ref ft,fun sg=>br kvs (fj sg),J0,J1,rooms',ds',rfl,N.same S8,c,fun H' s sg S hs=>⟨.inr ⟨_,.inl (S _ _ d8)⟩,.inr ⟨_,fj sg,s,.inl (S _ _ d8),rfl,mv hs,cN _,rfl⟩⟩,fun nl nu H9 hnl hR _ S9=>⟨nl,rfl,⟨_,ay.of hnl⟩,fun cl hcl=>?_⟩⟩;have rows:=Gr (r:=r.1) (lo:=fun sg=>br kvs (fj sg)) (fun _=>rfl) N.ok (is8.kt (ac.kt S9)) (aY.kt (ac.kt S9) ft8);have rd9:=S9 _ _ rd8;have zr:=Dg J2 rooms' ds ds' r.1 r.2;refine cg (xs:=nu.map V.ref) (fun j vs H'=>vs=(((rowsS J2 rooms' ds ds' r.1 r.2).take j).map (AL L)).map V.bl/\ac H9 H'/\H' cl=some (.lst vs)) ⟨by simp,ac.new hcl,aa⟩ (fun j vs H' _ ⟨_,S,h'⟩=>⟨h',ay.of (S _ _ hnl)⟩) ?_ ?_
   ·rintro vs H' ⟨rfl,S,h'⟩;rw[aj,Paired.length hR,Paired.length rows,aT]at h';refine⟨cl,_,rfl,ay.of h',_,rfl,?_⟩;have S10:=(S8.trans S9).trans S;have key:=AN (J2:=J2) (f:=r.2) (ds:=ds) (ds':=ds') (L:=L) c;by_cases w:((rowsS J2 rooms' ds ds' r.1 r.2).map (AL L)).all id=true
    ·rw[w];refine bU ⟨kv,_,_,rfl,(S9.trans S) _ _ rd8,(S9.trans S) _ _ md8,st8.same (S9.trans S),z8,S10,fun q hq=>?_⟩;rw[take_snoc hr]at hq;rcases bd.1 hq with z|z
     ·exact good q z
     ·rw[aX.1 z];exact⟨c,fu,key.1 w⟩
    ·rw[Bool.not_eq_true]at w;rw[w];exact cS (bad hrL (fun z=>by have:=key.2 z.2.2;rw[w]at this;cases this) S10)
   ·rintro j vs H' v hv hj ⟨rfl,S,h'⟩;obtain⟨u,hu',rfl⟩:=cu hv;obtain⟨row,hrow,hut⟩:=Paired.getL hR hu';obtain⟨s,hs,is⟩:=Paired.getL rows hrow;have jl:j<(rowsS J2 rooms' ds ds' r.1 r.2).length:=(cG.mp hs).1;have zl:(((((rowsS J2 rooms' ds ds' r.1 r.2).take j).map (AL L)).map V.bl).length)<ai:=by
     rw[aj,aj,aE,k7];omega
    have nx:∀b:Bool,b=AL L s->H' cl=some (.lst ((((rowsS J2 rooms' ds ds' r.1 r.2).take j).map (AL L)).map V.bl))/\((((rowsS J2 rooms' ds ds' r.1 r.2).take j).map (AL L)).map V.bl).length<ai/\∃m',m'<(nu.map V.ref).length-j/\Wc (nu.map V.ref).length (fun j vs H'=>vs=(((rowsS J2 rooms' ds ds' r.1 r.2).take j).map (AL L)).map V.bl/\ac H9 H'/\H' cl=some (.lst vs)) (j+1) m' ((((rowsS J2 rooms' ds ds' r.1 r.2).take j).map (AL L)).map V.bl++[.bl b]) (upd H' cl (.lst ((((rowsS J2 rooms' ds ds' r.1 r.2).take j).map (AL L)).map V.bl++[.bl b]))):=by
     intro b eb;refine⟨h',zl,mW hj ⟨?_,?_,aa⟩⟩
     ·rw[take_snoc hs,aw,aw,eb];rfl
     ·intro p q e;rw[ag (ae e hcl)];exact S _ _ e
    refine gN (sW ?_);refine⟨_,rfl,_,rfl,rd,?_⟩;have hut':=S _ _ hut;obtain⟨e1,⟨e2,e3⟩|⟨g,fu',e2,e3,e4⟩⟩:=is
    ·refine⟨none,rfl,ip.non (.inr ⟨o,S _ _ rd9⟩) (bc.of (by rw[hut',e3])) (CD _ _),nx false ?_⟩;unfold AL;rw[e2]
    ·rw[e3]at hut';refine⟨_,rfl,qE (L:=bm L) (.inr ⟨o,S _ _ rd9⟩) (bc.of hut') (aY.kt (ac.kt S) e4),nx _ ?_⟩;rw[jk];unfold AL;rw[e2,<-e1];exact decide_eq_decide.2 fK
  have gd:ip K H7 sd (.ref ft) (br kvS (fj r.2)):=.inr ⟨_,fj r.2,ft,.inl st7.at_,rfl,mv hft,cN _,rfl⟩;refine⟨_,rfl,_,rfl,sd,_,rfl,gd,_,rfl,?_⟩;rcases st7.ok r.2 with no|⟨d,kvs,h1,h2,h3,h4,h5⟩
  ·rw[no];refine cS ?_;refine⟨_,rfl,_,rfl,x,ft,r.2,J0,J1,J2,ds,rfl,M.same S7,hft,zft,fun H8 S8=>⟨_,rfl,?_⟩⟩;cases fu:lY J2 r.2 with
   |false=>exact cS (bad hrL (fun z=>by have:=z.2.1;rw[fu]at this;cases this) (S7.trans S8))
   |true =>
    refine bU ?_;refine⟨_,rfl,_,rfl,x,ft,r.2,J0,J1,J2,ds,rfl,M.same (S7.trans S8),aY.kt (ac.kt S8) hft,Fy fu,zft,fun d kvs H9 hd is dn S9=>?_⟩;have S79:=S8.trans S9;have st9:=st7.same S79;have nd:d≠sd:=(ae (st7.same S8).at_ dn).symm;refine⟨_,rfl,_,rfl,sd,ft,kvS,fj r.2,rfl,rfl,st9.at_,s_ (aY.kt (ac.kt S79) hft),cN _,AI (by omega),?_⟩;rw[df _ no];have st10:=st9.put nd hd is fu no;have kt10:hU H9 (upd H9 sd (.dT (kvS++[(fj r.2,.ref d)]))):=CF st9.at_;refine rest (kvS++[(fj r.2,.ref d)]) d kvs _ ?_ ?_ st10 (by rw[aL];show _+1<=_;omega) ?_ (aY.kt ((ac.kt S79).trans kt10) hft) ?_ (by rw[ag nd];exact hd) (is.kt kt10) fu
    ·have:=S79 _ _ rd7;rw[ag (fun z=>by rw[z,st9.at_]at this;cases this)];exact this
    ·have:=S79 _ _ md7;rw[ag (fun z=>by rw[z,st9.at_]at this;cases this)];exact this
    ·intro p q e;rw[ag (ae e sn)];exact S79 _ _ (S7 _ _ e)
    ·rw[<-df (.ref d) no,lB,if_pos rfl]
  ·rw[h1];refine bU ?_;exact rest kvS d kvs H7 rd7 md7 st7 (by omega) S7 hft h1 h3 h4 h5
 ·rintro σ H7 ⟨kvS,x6,x7,rfl,rd7,md7,st7,zS,S7,good⟩;rw[el,aT]at good;have N7:=N.same S7;obtain⟨dy,gs,p1,p2,p3,p4,lv,qu,sgA,sl,ts,lps,gps,sps,g7,b1,b2,b3,b4,_⟩:=id N7.at_;refine⟨_,rfl,y,dy,gs,rfl,g7,b4,y,J0,J1,rooms',ds',rfl,N7,fun rl' hrl'=>?_⟩;have S8:ac H7 (upd H7 rl' (.lst (rooms'.map V.str))):=ac.new hrl';have rl8:upd H7 rl' (.lst (rooms'.map V.str)) rl'=some (.lst (rooms'.map V.str)):=aa;generalize upd H7 rl' (.lst (rooms'.map V.str))=H8 at S8 rl8 ⊢;obtain⟨r0,hr0⟩:∃r0,rooms'[0]?=some r0:=by
   cases e:rooms' with
   |nil=>exact absurd e N.ok.rooms0
   |cons a _=>exact⟨a,rfl⟩
  refine⟨rl',_,0,.str r0,rfl,rfl,ay.of rl8,aS (j:=0) (by rw[bZ,hr0];rfl),?_⟩;refine⟨_,rfl,x,J0,J1,J2,ds,rfl,M.same (S7.trans S8),fun t' F H9 ht' hF S9=>?_⟩;rw[pL hF]at ht';refine⟨(by show 2<=ai;decide),fun p hp=>⟨_,rfl,rd,_,rfl,qE (L:=bm L) (.inr ⟨o,kp (S9 _ _ (S8 _ _ rd7)) hp⟩) (bc.of aa) (.inl (kp ht' hp)),?_⟩⟩;rw[jk];refine k _ _ ?_ ((S7.trans (S8.trans S9)).trans (ac.new hp));rw[decide_eq_true_iff,fK];constructor
  ·intro z;exact⟨fun q hq=>good q (fK.2 hq),r0,hr0,z⟩
  ·rintro⟨_,r1,h1,z⟩;rw[hr0]at h1;cases h1;exact z
def yF(J2:Zb)(ds:List ak)(L:List cK)(f:Zb)(d:ak):Prop :=
 (d.sg=ao->(d.b,f)∈L)/\(d.sg≠ao->(behF J2 ds f d.sg=[]->d.sg.head?≠some ("say":Str))/\(behF J2 ds f d.sg≠[]->(d.b,behF J2 ds f d.sg)∈L))
inductive oZ(K:Za)(vs:List V)(H:Hp)(Q:VK)(E:XK):Prop
 |mk (t t' rd ft l1 l2 l3 l4 l3' l4':Addr) (ts ts':Ze) (J0 J1 J2 rooms' f:Zb) (ds ds':List ak) (L:List cK) (r:Str):(vs=[.ref t,.ref t',.ref rd,.str r,.ref ft])->(iC H t l1 l2 l3 l4 ts J0 J1 J2 ds)->(aK J0 J1 J2 ds)->(iC H t' l1 l2 l3' l4' ts' J0 J1 rooms' ds')->(aK J0 J1 rooms' ds')->(H rd=some (.dT (kY L)))->(aY K H ft (f.map V.str))->(f.length<=1000)->(∀(b:Bool) (H':Hp),(b=true↔gS J2 ds ds' L r f)->ac H H'->Q (.bl b) H')->oZ K vs H Q E
theorem ED{K:Za}{vs:List V}{H:Hp}{Q:VK}{E:XK}(h:oZ K vs H Q E):qj K jQ (r8 K) (bM Q) (start qK vs) H:=by
 obtain⟨t,t',rd,ft,l1,l2,l3,l4,l3',l4',ts,ts',J0,J1,J2,rooms',f,ds,ds',L,r,rfl,T,m,T',m',hrd,hft,zf,k⟩:=h;have no:∀{H':Hp}{P:Prop},P->(gS J2 ds ds' L r f->¬P)->ac H H'->Q (.bl false) H':=fun p n S=>k false _ ⟨fun z=>(by cases z),fun z=>absurd p (n z)⟩ S;refine⟨_,rfl,.inr (.inl ⟨t',_,3,_,rfl,rfl,bc.of T'.t,rfl,l4',rfl,⟨_,ay.of T'.a4⟩,?_⟩)⟩;refine bR (xs:=ts'.map V.ref) (fun i σ H'=>∃x5 x6 x7 x8:Option V,σ=[some (.ref t),some (.ref t'),some (.ref rd),some (.str r),some (.ref ft),x5,x6,x7,x8]/\ac H H'/\∀d∈ds'.take i,d.a=r->yF J2 ds L f d) ⟨_,_,_,_,rfl,ac.refl _,fun d hd=>by simp at hd⟩ (fun i σ H' _ ⟨_,_,_,_,_,S,_⟩=>ay.of (S _ _ T'.a4)) ?_ ?_
 ·rintro i y σ H1 hi ⟨x5,x6,x7,x8,rfl,S1,good⟩;obtain⟨u,hu,rfl⟩:=cu hi;obtain⟨d,hd,hat⟩:=Paired.getL T'.ds hu;obtain⟨sb,hu1,hs1⟩:=hat.kt (ac.kt S1);have hdm:d∈ds':=ba hd;have ft1:=aY.kt (ac.kt S1) hft;have rd1:=S1 _ _ hrd;have more:(d.a=r->yF J2 ds L f d)->∀e∈ds'.take (i+1),e.a=r->yF J2 ds L f e:=fun h e he=>by
   rw[take_snoc hd]at he;rcases bd.1 he with z|z
   ·exact good e z
   ·rw[aX.1 z];exact h
  refine⟨u,_,rfl,bc.of hu1,rfl,_,_,rfl,_,_,rfl,_,_,rfl,rfl,?_⟩;refine⟨_,rfl,_,rfl,rfl,_,rfl,?_⟩;refine mY (P:=d.a=r) (by simp) (fun ca=>?_) (fun ca=>?_);rotate_left
  ·refine bU ?_;refine⟨_,rfl,_,rfl,rfl,_,rfl,?_⟩;refine mY (P:=d.a=r) (by simp) (fun z=>absurd z ca) (fun _=>bU ?_);exact⟨_,_,_,_,rfl,S1,more fun z=>absurd z ca⟩
  refine⟨_,rfl,(by show 1<=ai;decide),fun e1 he1=>⟨jb d.sg,jb ao,aQ (bc.of (kp hs1 he1)),aQ (bc.of aa),by rw[bo];decide,by rw[bo];decide,_,rfl,?_⟩⟩;rw[dR];have S2:ac H1 (upd H1 e1 (.tup [V.str ("still":Str)])):=ac.new he1;generalize upd H1 e1 (.tup [V.str ("still":Str)])=H2 at S2 ⊢;refine mY (P:=d.sg=ao) (by simp) (fun cs=>?_) (fun cs=>bU ?_)
  ·refine⟨_,rfl,_,rfl,(by show 2<=ai;decide),fun p hp=>⟨_,rfl,rd,_,rfl,qE (.inl (kp (S2 _ _ rd1) hp)) (bc.of aa) (aY.kt (ac.kt (S2.trans (ac.new hp))) ft1),_,rfl,?_⟩⟩;have S3:ac H1 (upd H2 p (.tup [.str d.b,.ref ft])):=S2.trans (ac.new hp);rw[jk];refine mY (P:=(d.b,f)∉L) (by simp) (fun c=>no c (fun z=>fun w=>w ((z.1 d hdm ca).1 cs)) (S1.trans S3)) (fun c=>?_);generalize upd H2 p (.tup [.str d.b,.ref ft])=H3 at S3 ⊢;refine⟨_,rfl,_,rfl,rfl,_,rfl,?_⟩;refine mY (P:=d.a=r) (by simp) (fun _=>?_) (fun z=>absurd ca z);refine⟨_,rfl,(by show 1<=ai;decide),fun e2 he2=>⟨jb d.sg,jb ao,aQ (bc.of (kp (S3 _ _ hs1) he2)),aQ (bc.of aa),by rw[bo];decide,by rw[bo];decide,_,rfl,?_⟩⟩;rw[dR];refine mY (P:=d.sg≠ao) (by simp) (fun z=>absurd cs z) (fun _=>?_);exact⟨_,_,_,_,rfl,(S1.trans S3).trans (ac.new he2),more fun _=>⟨fun _=>iQ.1 c,fun z=>absurd cs z⟩⟩
  ·refine⟨_,rfl,_,rfl,rfl,_,rfl,?_⟩;refine mY (P:=d.a=r) (by simp) (fun _=>?_) (fun z=>absurd ca z);refine⟨_,rfl,(by show 1<=ai;decide),fun e2 he2=>⟨jb d.sg,jb ao,aQ (bc.of (kp (S2 _ _ hs1) he2)),aQ (bc.of aa),by rw[bo];decide,by rw[bo];decide,_,rfl,?_⟩⟩;rw[dR];have S3:ac H1 (upd H2 e2 (.tup [V.str ("still":Str)])):=S2.trans (ac.new he2);generalize upd H2 e2 (.tup [V.str ("still":Str)])=H3 at S3 ⊢;refine mY (P:=d.sg≠ao) (by simp) (fun _=>?_) (fun z=>absurd cs z);have S13:=S1.trans S3;refine⟨_,rfl,_,rfl,_,rfl,t,ft,sb,l1,l2,l3,l4,ts,J0,J1,J2,f,d.sg,ds,rfl,T.same S13,m,aY.sq (aY.kt (ac.kt S3) ft1),bc.of (S3 _ _ hs1),zf,fun bt H4 hbt S4=>?_⟩;have S14:=S13.trans S4;obtain⟨s0,rest,hsg,_⟩:=mC (m'.good d hdm);have at0:pW (d.sg.map V.str) 0=some (.str s0):=by rw[hsg];exact aS (j:=0) rfl
   have hs4:=S4 _ _ (S3 _ _ hs1);refine⟨_,rfl,(by show 0<=ai;decide),fun e3 he3=>⟨jb (behF J2 ds f d.sg),jb [],aQ (bc.of (kp hbt he3)),aQ (sg:=[]) (bc.of aa),by rw[bo];decide,by rw[bo];decide,_,rfl,?_⟩⟩;rw[dR];have S5:ac H4 (upd H4 e3 (.tup [])):=ac.new he3;generalize upd H4 e3 (.tup [])=H5 at S5 ⊢;have half:∀H6,ac H4 H6->(behF J2 ds f d.sg=[]->d.sg.head?≠some ("say":Str))->(kW (aO (aH (rP K) V8 (bD (bq)))) (tB (cU K (bD (aR V7 V8)) V2))) [some (.ref t),some (.ref t'),some (.ref rd),some (.str r),some (.ref ft),some (.str d.a),some (.ref sb),some (.str d.b),some (.ref bt)] H6 fun b H7=>if b=true then Q (.bl false) H7 else ∃x5 x6 x7 x8:Option V,([some (.ref t),some (.ref t'),some (.ref rd),some (.str r),some (.ref ft),some (.str d.a),some (.ref sb),some (.str d.b),some (.ref bt)]:L2.St)=[some (.ref t),some (.ref t'),some (.ref rd),some (.str r),some (.ref ft),x5,x6,x7,x8]/\ac H H7/\∀d∈ds'.take (i+1),d.a=r->yF J2 ds L f d:=by
    intro H6 S6 say;refine⟨_,rfl,(by show 0<=ai;decide),fun e4 he4=>⟨jb (behF J2 ds f d.sg),jb [],aQ (bc.of (kp (S6 _ _ hbt) he4)),aQ (sg:=[]) (bc.of aa),by rw[bo];decide,by rw[bo];decide,_,rfl,?_⟩⟩;rw[dR];have S7:ac H4 (upd H6 e4 (.tup [])):=S6.trans (ac.new he4);generalize upd H6 e4 (.tup [])=H7 at S7 ⊢;refine mY (P:=behF J2 ds f d.sg≠[]) (by simp) (fun c=>?_) (fun c=>bU ⟨_,_,_,_,rfl,S14.trans S7,more fun _=>⟨fun z=>absurd z cs,fun _=>⟨say,fun z=>absurd z c⟩⟩⟩);refine⟨_,rfl,_,rfl,(by show 2<=ai;decide),fun p hp=>⟨_,rfl,rd,_,rfl,qE (.inl (kp ((S14.trans S7) _ _ hrd) hp)) (bc.of aa) (.inl (kp (S7 _ _ hbt) hp)),_,rfl,?_⟩⟩;have S8:ac H (upd H7 p (.tup [.str d.b,.ref bt])):=(S14.trans S7).trans (ac.new hp);rw[jk];exact mY (P:=(d.b,behF J2 ds f d.sg)∉L) (by simp) (fun w=>no w (fun z=>fun v=>v (((z.1 d hdm ca).2 cs).2 c)) S8) (fun w=>⟨_,_,_,_,rfl,S8,more fun _=>⟨fun z=>absurd z cs,fun _=>⟨say,fun _=>iQ.1 w⟩⟩⟩)
   refine mY (P:=behF J2 ds f d.sg=[]) (by simp) (fun c=>?_) (fun c=>bU (half H5 S5 fun z=>absurd z c));refine⟨_,rfl,sb,_,0,_,rfl,rfl,bc.of (S5 _ _ hs4),at0,rfl,_,rfl,?_⟩;refine mY (P:=d.sg.head?=some ("say":Str)) (by rw[hsg];simp) (fun w=>cS (no w (fun z=>((z.1 d hdm ca).2 cs).1 c) (S14.trans S5))) (fun w=>half H5 S5 fun _=>w)
 ·rintro σ H1 ⟨x5,x6,x7,x8,rfl,S1,good⟩;rw[aj,Paired.length T'.ds,aT]at good;refine⟨_,rfl,_,rfl,t',l1,l2,l3',l4',ts',J0,J1,rooms',ds',r,rfl,T'.same S1,m',fun H2 S2=>⟨_,rfl,?_⟩⟩;refine mY (P:=r∉fh ds') (by simp) (fun c=>?_) (fun c=>k true _ ⟨fun _=>⟨good,fun z=>absurd z c⟩,fun _=>rfl⟩ (S1.trans S2));refine⟨_,rfl,_,rfl,(by show 1<=ai;decide),fun e1 he1=>?_⟩;have S3:ac H (upd H2 e1 (.tup [V.str ("hush":Str)])):=(S1.trans S2).trans (ac.new he1);have h3:upd H2 e1 (.tup [V.str ("hush":Str)]) e1=some (.tup (aV.map V.str)):=aa;generalize upd H2 e1 (.tup [V.str ("hush":Str)])=H3 at S3 h3 ⊢;refine⟨t,ft,e1,l1,l2,l3,l4,ts,J0,J1,J2,f,aV,ds,rfl,T.same S3,m,aY.sq (aY.kt (ac.kt S3) hft),bc.of h3,zf,fun bt H4 hbt S4=>?_⟩;refine⟨_,rfl,(by show 0<=ai;decide),fun e3 he3=>⟨jb (behF J2 ds f aV),jb [],aQ (bc.of (kp hbt he3)),aQ (sg:=[]) (bc.of aa),by rw[bo];decide,by rw[bo];decide,_,rfl,?_⟩⟩;rw[dR];have S5:ac H (upd H4 e3 (.tup [])):=(S3.trans S4).trans (ac.new he3);have bt5:upd H4 e3 (.tup []) bt=_:=kp hbt he3;generalize upd H4 e3 (.tup [])=H5 at S5 bt5 ⊢;refine mY (P:=behF J2 ds f aV≠[]) (by simp) (fun w=>?_) (fun w=>no w (fun z v=>v (z.2 c).1) S5);refine⟨_,rfl,_,rfl,(by show 2<=ai;decide),fun p hp=>⟨_,rfl,rd,_,rfl,qE (.inl (kp (S5 _ _ hrd) hp)) (bc.of aa) (.inl (kp bt5 hp)),?_⟩⟩;rw[jk];refine k _ _ ?_ (S5.trans (ac.new hp));rw[decide_eq_true_iff];exact⟨fun z=>⟨good,fun _=>⟨w,z⟩⟩,fun z=>(z.2 c).2⟩
inductive kj(K:Za)(vs:List V)(H:Hp)(Q:VK)(E:XK):Prop
 |mk (t t' pl l1 l2 l3 l4 l3' l4':Addr) (ts ts' us:Ze) (J0 J1 J2 rooms':Zb) (ds ds':List ak) (L:List cK):(vs=[.ref t,.ref t',.ref pl])->(iC H t l1 l2 l3 l4 ts J0 J1 J2 ds)->(aK J0 J1 J2 ds)->(iC H t' l1 l2 l3' l4' ts' J0 J1 rooms' ds')->(aK J0 J1 rooms' ds')->(H pl=some (.lst (us.map V.ref)))->(Paired (qQ H) us L)->(L.length<=90000)->(∀r∈L,r.2.length<=1000)->(∀(b:Bool) (H':Hp),(b=true↔cJ J2 rooms' ds ds' L)->ac H H'->Q (.bl b) H')->kj K vs H Q E
theorem AS{K:Za}{vs:List V}{H:Hp}{Q:VK}{E:XK}(h:kj K vs H Q E):nK K (oZ K) zb (bM Q) (start oh vs) H:=by
 obtain⟨t,t',pl,l1,l2,l3,l4,l3',l4',ts,ts',us,J0,J1,J2,rooms',ds,ds',L,rfl,T,m,T',m',hpl,hus,zL,zf,k⟩:=h;have z3:=m.rooms26;have bad:∀{r:cK}{H':Hp},r∈L->¬pR J2 rooms' ds ds' L r->ac H H'->Q (.bl false) H':=fun hr hg S=>k false _ ⟨fun z=>(by cases z),fun z=>absurd (z.1 _ hr) hg⟩ S;refine fun rd hrd=>?_;refine⟨_,rfl,pl,rfl,⟨_,ay.of (kp hpl hrd)⟩,?_⟩;refine bR (xs:=us.map V.ref) (fun i σ H'=>∃x4 x5 x6:Option V,σ=[some (.ref t),some (.ref t'),some (.ref pl),some (.ref rd),x4,x5,x6]/\H' rd=some (.dT (kY (bm (L.take i))))/\ac H H'/\∀x∈L.take i,x.1∈rooms'/\lY J2 x.2=true) ⟨_,_,_,rfl,aa,ac.new hrd,fun d hd=>by simp at hd⟩ (fun i σ H' _ ⟨_,_,_,_,_,S,_⟩=>ay.of (S _ _ hpl)) ?_ ?_
 ·rintro i y σ H1 hi ⟨x4,x5,x6,rfl,rd1,S1,good⟩;obtain⟨u,hu,rfl⟩:=cu hi;obtain⟨r,hr,hat⟩:=Paired.getL hus hu;have hat1:=hat.kt (ac.kt S1);obtain⟨ft,hu1,hf1⟩:=id hat1;have hrL:r∈L:=ba hr;have T1:=T.same S1;have T1':=T'.same S1;refine⟨_,rfl,u,_,0,_,rfl,rfl,bc.of hu1,aS (j:=0) rfl,_,rfl,.inr (.inl ⟨t',_,2,_,rfl,rfl,bc.of T1'.t,rfl,gH r.1,rooms'.map gH,l3',_,j6 _,rfl,.inl (ay.of T1'.a3),jC _,(by show 0<=8;decide),by rw[em];decide,_,rfl,?_⟩)⟩;rw[if_pos rfl,pG];refine mY (P:=r.1∉rooms') (by simp) (fun c=>cS (bad hrL (fun z=>c z.1) S1)) (fun c=>?_);have c:=iQ.1 c;refine⟨_,rfl,u,_,1,_,rfl,rfl,bc.of hu1,aS (j:=1) rfl,(by show 0<=ai;decide),fun e1 he1=>⟨jb r.2,jb [],aQ (bc.of (kp hf1 he1)),aQ (sg:=[]) (bc.of aa),by rw[bo];decide,by rw[bo];decide,_,rfl,?_⟩⟩;rw[dR];have S2:ac H1 (upd H1 e1 (.tup [])):=ac.new he1;generalize upd H1 e1 (.tup [])=H2 at S2 ⊢;refine mY (P:=r.2=[]) (by simp) (fun c0=>cS (bad hrL (fun z=>(of_decide_eq_true z.2.1).1 c0) (S1.trans S2))) (fun c0=>?_);have T2:=T1.same S2;refine⟨_,rfl,u,_,1,_,rfl,rfl,bc.of (S2 _ _ hu1),aS (j:=1) rfl,_,rfl,.inr (.inl ⟨t,_,2,_,rfl,rfl,bc.of T2.t,rfl,l3,rfl,⟨_,ay.of T2.a3⟩,fun f hf=>?_⟩)⟩;refine cg (xs:=J2.map V.str) (fun i vs H'=>vs=((J2.take i).filter fun w=>decide (w∈r.2)).map V.str/\ac H2 H'/\H' f=some (.lst vs)) ⟨rfl,ac.new hf,aa⟩ (fun i vs H' _ ⟨_,S,h'⟩=>⟨h',ay.of (S _ _ T2.a3)⟩) ?_ ?_
  ·rintro vs H3 ⟨rfl,S3,f3⟩;rw[aj,aT]at f3;have S23:=S2.trans S3;refine⟨f,_,rfl,.inl ⟨ay.of f3,fun e2 he2=>⟨jb r.2,jb (J2.filter fun w=>decide (w∈r.2)),aQ (bc.of (kp (S23 _ _ hf1) he2)),aQ (bc.of aa),by rw[bo];decide,by rw[bo];decide,_,rfl,?_⟩⟩⟩;rw[dR];have S4:ac H1 (upd H3 e2 (.tup ((J2.filter fun w=>decide (w∈r.2)).map V.str))):=S23.trans (ac.new he2);generalize upd H3 e2 (.tup ((J2.filter fun w=>decide (w∈r.2)).map V.str))=H4 at S4 ⊢;refine mY (P:=r.2≠J2.filter fun w=>decide (w∈r.2)) (by simp) (fun w=>bad hrL (fun z=>w (of_decide_eq_true z.2.1).2) (S1.trans S4)) (fun w=>?_);have w:=iQ.1 w;have hlen:(kY (bm (L.take i))).length<ai:=by
    unfold kY;rw[aj];exact AI (bG (lN _) (by rw[aE];omega))
   refine⟨_,rfl,_,rfl,rd,u,_,gj r,rfl,rfl,S4 _ _ rd1,cW.c 8 (kB _) (hat1.kt (ac.kt S4)).tk,kB _,hlen,?_⟩;rw[CC,<-pb hr];refine⟨_,_,_,rfl,aa,fun b o e=>by rw[ag (ae e hrd)];exact S4 _ _ (S1 _ _ e),fun x hx=>?_⟩;rw[take_snoc hr]at hx;rcases bd.1 hx with z|z
   ·exact good x z
   ·rw[aX.1 z];exact⟨c,zzr1 ⟨c0,w⟩⟩
  ·rintro j vs H' v hv hj ⟨rfl,S,f'⟩;obtain⟨w,hw,rfl⟩:=bu hv;refine gN ?_;have S2':=S2.trans S;refine⟨_,rfl,_,rfl,u,_,1,_,rfl,rfl,bc.of (S2' _ _ hu1),aS (j:=1) rfl,gH w,r.2.map gH,ft,_,j6 w,rfl,.inr (bc.of (S2' _ _ hf1)),jC _,(by show 0<=8;decide),by rw[em];decide,_,rfl,?_⟩;rw[if_neg fP,pG];have hlen:(((J2.take j).filter fun w=>decide (w∈r.2)).map V.str).length<ai:=by
    rw[aj];refine aq (bG (dP _ _) ?_);rw[aE];omega
   refine fN (fun hq=>?_) (fun hq=>?_)
   ·refine⟨_,rfl,f',hlen,mW hj ⟨?_,?_,aa⟩⟩
    ·rw[bP hw,if_pos hq,aw];rfl
    ·intro b o q;rw[ag (ae q hf)];exact S _ _ q
   ·refine mW hj ⟨?_,S,f'⟩;rw[bP hw,if_neg hq,dI]
 ·rintro σ H1 ⟨x4,x5,x6,rfl,rd1,S1,good⟩;rw[aj,Paired.length hus,aT]at rd1 good;have T1:=T.same S1;have T1':=T'.same S1;obtain⟨r0,hr0⟩:∃r0,rooms'[0]?=some r0:=by
   cases e:rooms' with
   |nil=>exact absurd e m'.rooms0
   |cons a _=>exact⟨a,rfl⟩
  refine⟨_,rfl,.inr (.inl ⟨t',_,2,_,rfl,rfl,bc.of T1'.t,rfl,l3',_,0,.str r0,rfl,rfl,ay.of T1'.a3,aS (j:=0) (by rw[bZ,hr0];rfl),_,rfl,_,rfl,.inr (.inl ⟨t,_,2,_,rfl,rfl,bc.of T1.t,rfl,_,rfl,l3,_,rfl,ay.of T1.a3,fun g hg=>?_⟩)⟩)⟩;have S2:ac H1 (upd H1 g (.lst (gm (J2.map V.str) none (some 1)))):=ac.new hg;have g2:upd H1 g (.lst (gm (J2.map V.str) none (some 1))) g=some (.lst ((J2.take 1).map V.str)):=by rw[aa,show(some (1:Int))=some ((1:Nat):Int)from rfl,pJ]
  generalize upd H1 g (.lst (gm (J2.map V.str) none (some 1)))=H2 at S2 g2 ⊢;refine⟨t,g,l1,l2,l3,l4,ts,J0,J1,J2,J2.take 1,ds,rfl,T1.same S2,m,g2,by rw[aE];omega,fun t1 H3 ht1 S3=>?_⟩;have S13:=S2.trans S3;refine⟨(by show 2<=ai;decide),fun p hp=>⟨_,rfl,rd,_,rfl,qE (L:=bm L) (.inl (kp (S13 _ _ rd1) hp)) (bc.of aa) (.inl (kp ht1 hp)),_,rfl,?_⟩⟩;rw[jk];have S4:ac H1 (upd H3 p (.tup [.str r0,.ref t1])):=S13.trans (ac.new hp);generalize upd H3 p (.tup [.str r0,.ref t1])=H4 at S4 ⊢;refine mY (P:=(r0,closF J2 ds (J2.take 1))∉L) (by simp[fK]) (fun c=>k false _ ⟨fun z=>(by cases z),fun⟨_,r1,h1,z⟩=>by rw[hr0]at h1;cases h1;exact absurd z c⟩ (S1.trans S4)) (fun c=>?_);have c:=iQ.1 c;have S04:=S1.trans S4;refine⟨_,rfl,pl,rfl,⟨_,ay.of (S04 _ _ hpl)⟩,?_⟩;refine bR (xs:=us.map V.ref) (fun i σ H'=>∃x4 x5 x6:Option V,σ=[some (.ref t),some (.ref t'),some (.ref pl),some (.ref rd),x4,x5,x6]/\ac H4 H'/\∀x∈L.take i,gS J2 ds ds' L x.1 x.2) ⟨_,_,_,rfl,ac.refl _,fun d hd=>by simp at hd⟩ (fun i σ H' _ ⟨_,_,_,_,S,_⟩=>ay.of (S _ _ (S04 _ _ hpl))) ?_ ?_
  ·rintro i y σ H5 hi ⟨x4,x5,x6,rfl,S5,st⟩;obtain⟨u,hu,rfl⟩:=cu hi;obtain⟨r,hr,hat⟩:=Paired.getL hus hu;have S05:=S04.trans S5;obtain⟨ft,hu1,hf1⟩:=hat.kt (ac.kt S05);have hrL:r∈L:=ba hr;refine⟨u,_,rfl,bc.of hu1,rfl,_,_,rfl,_,_,rfl,rfl,?_⟩;refine⟨_,rfl,_,rfl,_,rfl,_,rfl,_,rfl,t,t',rd,ft,l1,l2,l3,l4,l3',l4',ts,ts',J0,J1,J2,rooms',r.2,ds,ds',bm L,r.1,rfl,T.same S05,m,T'.same S05,m',(S4.trans S5) _ _ rd1,.inl hf1,zf r hrL,fun b H6 hb S6=>⟨_,rfl,?_⟩⟩;have hb:=hb.trans (gS.congr (L':=L) fun _=>fK);cases b with
   |false=>exact cS (bad hrL (fun z=>by have:=hb.2 z.2.2;cases this) (S05.trans S6))
   |true =>
    refine bU ⟨_,_,_,rfl,S5.trans S6,fun x hx=>?_⟩;rw[take_snoc hr]at hx;rcases bd.1 hx with z|z
    ·exact st x z
    ·rw[aX.1 z];exact hb.1 rfl
  ·rintro σ H5 ⟨x4,x5,x6,rfl,S5,st⟩;rw[aj,Paired.length hus,aT]at st;exact k true _ ⟨fun _=>⟨fun x hx=>⟨(good x hx).1,(good x hx).2,st x hx⟩,r0,hr0,c⟩,fun _=>rfl⟩ (S04.trans S5)
def Ip(J2:Zb)(ds:List ak)(ws:List (List (Sg×Nat)))(L:List Row)(r:Row):Prop:=∀x∈lM J2 ds r.1 r.2 (ws.getD r.2 []),∃n',x.2=some n'/\(x.1,n')∈L
theorem Ip.mono{J2:Zb}{ds:List ak}{ws:List (List (Sg×Nat))}{L L':List Row}{r:Row}(h:Ip J2 ds ws L r)(e:∀x∈L,x∈L'):Ip J2 ds ws L' r:=fun x hx=>by
 obtain⟨n,h1,h2⟩:=h x hx;exact⟨n,h1,e _ h2⟩
inductive my(K:Za)(C Cm:Addr)(vs:List V)(H:Hp)(Q:VK)(E:XK):Prop
 |mk (H0:Hp) (mo I M fa sa na ta:Addr) (us ws' ts:Ze) (m:gL) (ws:List (List (Sg×Nat))) (J0 J1 J2:Zb) (ds:List ak) (R:Row->Prop) (f0:Str):(vs=[.ref mo,.ref I])->(ic K C H mo M fa sa na ta us ws' m)->(H ta=some (.lst (ts.map V.ref)))->(Ak H0 H ts ws)->(bv Cm H I J0 J1 J2 ds)->(RowP J2 ds ws ts.length R)->(ts.length=m.fs.length)->(ts.length<=256)->(J2[0]?=some f0)->(R (f0,0))->(∀(l:Addr) (ps:Ze) (L:List Row) (H':Hp),H' l=some (.lst (ps.map V.ref))->Paired (fun u (r:Row)=>∃ft f,H' u=some (.tup [.str r.1,.ref ft])/\m.fs[r.2]?=some f/\H' ft=some (.tup (f.map V.str))) ps L->L.Nodup->(∀r∈L,R r)->(f0,0)∈L->(∀r∈L,Ip J2 ds ws L r)->H l=none->ac H H'->Q (.ref l) H')->my K C Cm vs H Q E
inductive PcI(mo I p0 rd wl:Addr)(J2:Zb)(ds:List ak)(ws:List (List (Sg×Nat)))(f0:Str)(R:Row->Prop)(H:Hp)(mm:Nat)(σ:L2.St)(H':Hp):Prop
 |mk (ps:Ze) (L W:List Row) (x5 x6 x7:Option V):mm=2 * (40000-L.length)+W.length->mm<=80000->σ=[some (.ref mo),some (.ref I),some (.ref p0),some (.ref rd),some (.ref wl),x5,x6,x7]->uC H H' rd wl ps L W R->(f0,0)∈L->(∀q∈L,q∈W∨Ip J2 ds ws L q)->PcI mo I p0 rd wl J2 ds ws f0 R H mm σ H'
inductive PcJ(mo I p0 rd wl:Addr)(J2:Zb)(ds:List ak)(ws:List (List (Sg×Nat)))(f0:Str)(R:Row->Prop)(H:Hp)(nl:Addr)(nu:Ze)(r:Row)(mm i:Nat)(σ:L2.St)(H':Hp):Prop
 |mk (ps:Ze) (L' W':List Row) (x7:Option V):σ=[some (.ref mo),some (.ref I),some (.ref p0),some (.ref rd),some (.ref wl),some (.str r.1),some (.int (r.2:Nat)),x7]->uC H H' rd wl ps L' W' R->2 * (40000-L'.length)+W'.length<mm->H' nl=some (.lst (nu.map V.ref))->qI H' nu (lM J2 ds r.1 r.2 (ws.getD r.2 []))->(f0,0)∈L'->(∀q∈L',q∈W'∨q=r∨Ip J2 ds ws L' q)->(∀x∈(lM J2 ds r.1 r.2 (ws.getD r.2 [])).take i,∃n',x.2=some n'/\(x.1,n')∈L')->PcJ mo I p0 rd wl J2 ds ws f0 R H nl nu r mm i σ H'
theorem Dk{K:Za}{C Cm:Addr}(c:FC K C){vs:List V}{H:Hp}{Q:VK}{E:XK}(h:my K C Cm vs H Q E):Au K (oY K Cm) Cm (fT Cm) (bM Q) (start BB vs) H:=by
 obtain⟨H0,mo,I,M,fa,sa,na,ta,us,ws',ts,m,ws,J0,J1,J2,ds,R,f0,rfl,F,hta,st,MA,rp,zt,z256,hf0,hR0,k⟩:=h;have z3:=MA.ok.rooms26;obtain⟨dx,fs,o1,o2,o3,o4,lv,qu,sg,sl,tt,lps,gps,sps,g1,a1,a2,a3,a4,_⟩:=MA.at_;have at0:pW (J2.map V.str) 0=some (.str f0):=aS (j:=0) (by rw[bZ,hf0];rfl);have lt0:=(rp.rg _ hR0).2;refine⟨_,rfl,I,dx,fs,rfl,g1,a4,I,J0,J1,J2,ds,rfl,MA,fun rl hrl=>⟨rl,_,0,_,rfl,rfl,ay.of aa,at0,(by show 2<=ai;decide),fun p0 hp0=>?_⟩⟩;have S1:ac H (upd (upd H rl (.lst (J2.map V.str))) p0 (.tup [.str f0,.int 0])):=(ac.new hrl).trans (ac.new hp0);have r1:uB (upd (upd H rl (.lst (J2.map V.str))) p0 (.tup [.str f0,.int 0])) p0 (f0,0):=aa;generalize upd (upd H rl (.lst (J2.map V.str))) p0 (.tup [.str f0,.int 0])=H1 at S1 r1 ⊢;refine fun rd hrd=>⟨_,rfl,aa,p0,qx (f0,0),rfl,cW.c 8 (iM _) (uB.tk (kp r1 hrd)),iM _,?_⟩;have S2:ac H1 (upd (upd H1 rd (.dT [])) rd (.dT [(qx (f0,0),.bl true)])):=fun b o e=>by rw[ag (ae e hrd)];exact kp e hrd
 have rd2:upd (upd H1 rd (.dT [])) rd (.dT [(qx (f0,0),.bl true)]) rd=some (.dT (ud [(f0,0)])):=aa;generalize upd (upd H1 rd (.dT [])) rd (.dT [(qx (f0,0),.bl true)])=H2 at S2 rd2 ⊢;refine⟨_,rfl,(by show 1<=ai;decide),fun wl hwl=>?_⟩;have S3:ac H2 (upd H2 wl (.lst [.ref p0])):=ac.new hwl;have A3:uC H (upd H2 wl (.lst [.ref p0])) rd wl [p0] [(f0,0)] [(f0,0)] R :=
  ⟨S3 _ _ rd2,aa,.cons (S3 _ _ (S2 _ _ r1)) .nil,by simp,fun r hr=>by rw[aX.1 hr];exact hR0,fun r hr=>hr,(S1.trans S2).trans S3,S1.free hrd,(S1.trans S2).free hwl⟩
 generalize upd H2 wl (.lst [.ref p0])=H3 at S3 A3 ⊢;have few:∀{H':Hp}{ps:Ze}{L W:List Row},uC H H' rd wl ps L W R->L.length<=40000:=fun A=>by
  have h1:=zc A.nd fun r hr=>rp.rg r (A.all r hr);have h2:J2.length * ts.length<=150 * 256:=sv z3 z256;omega
 refine⟨PcI mo I p0 rd wl J2 ds ws f0 R H,⟨_,[p0],[(f0,0)],[(f0,0)],_,_,_,rfl,(by show 2 * (40000-1)+1<=80000;decide),rfl,A3,aX.2 rfl,fun q hq=>.inl hq⟩,?_⟩;rintro mm σ H4 ⟨ps,L,W,x5,x6,x7,rfl,hmm,rfl,A,m0,cl⟩;have fw:=few A;refine⟨_,rfl,.inl ⟨wl,_,rfl,.inl (ay.of A.hwl),_,_,rfl,rfl,_,rfl,?_⟩⟩;have zp:(ps.map V.ref).length=W.length:=by rw[aj,Paired.length A.hps]
 refine mY (P:=0<W.length) (by rw[zp];simp) (fun pos=>?_) (fun nil=>?_)
 ·have hr:W[W.length-1]?=some W[W.length-1]:=bY (by omega);obtain⟨a,ea,hat⟩:=Paired.get A.hps hr;have hrL:=A.sub W[W.length-1] (lb _);have hRr:=A.all _ hrL;have hrg:=rp.rg _ hRr;have hnext:=rp.next _ hRr;have cut:∀q∈W,q∈W.take (W.length-1)∨q=W[W.length-1]:=fun q hq=>by
   have e:W=W.take (W.length-1)++[W[W.length-1]]:=by
    have h1:=take_snoc hr;rw[show W.length-1+1=W.length by omega,aT]at h1;exact h1
   rw[e]at hq;exact(bd.1 hq).imp id fun z=>aX.1 z
  generalize W[W.length-1]=r at hr hat hrL hRr hrg hnext cut;have last:(ps.map V.ref)[(ps.map V.ref).length-1]?=some (.ref a):=by rw[zp,bZ,ea];rfl
  have kt:hU H4 (upd H4 wl (.lst (ps.map V.ref).dropLast)):=cR A.hwl;have nwr:wl≠rd:=fun z=>by have:=A.hwl;rw[z,A.hrd]at this;cases this
  have A5:uC H (upd H4 wl (.lst (ps.map V.ref).dropLast)) rd wl (ps.take (W.length-1)) L (W.take (W.length-1)) R:=by
   refine⟨by rw[ag nwr.symm];exact A.hrd,?_,Paired.mapP (Paired.takeP _ A.hps) fun _ _ q=>kt _ _ q,A.nd,A.all,fun x hx=>A.sub x (fC hx),fun b q e=>by rw[ag (ae e A.w0)];exact A.S _ _ e,A.r0,A.w0⟩;rw[aa,List.dropLast_eq_take,zp,nB]
  have hat5:=kt _ _ hat;have zw:(W.take (W.length-1)).length=W.length-1:=by rw[aE];omega
  refine⟨fun σ' H'=>∃m',m'<2 * (40000-L.length)+W.length/\PcI mo I p0 rd wl J2 ds ws f0 R H m' σ' H',fun σ' H' h=>h,?_⟩;refine⟨_,rfl,.inl ⟨rfl,_,ay.of A.hwl⟩,wl,_,.ref a,rfl,rfl,A.hwl,last,a,_,rfl,bc.of hat5,rfl,_,_,rfl,_,_,rfl,rfl,?_⟩;generalize upd H4 wl (.lst (ps.map V.ref).dropLast)=H5 at A5 hat5 kt ⊢;have F5:=F.same A5.S;obtain⟨dx5,fs5,g5,m1,m2,m3,m4,m5,_⟩:=F5.ob;have ed:ts[r.2]?=some (ts[r.2]'hrg.2):=bY hrg.2;have atd:pW (ts.map V.ref) (r.2:Nat)=some (.ref (ts[r.2]'hrg.2)):=aS (by rw[bZ,ed];rfl);obtain⟨_,hrd5⟩:=Ak.rd st ed;generalize ts[r.2]'hrg.2=sd at ed atd hrd5;refine⟨_,rfl,_,rfl,_,rfl,_,rfl,mo,C,dx5,fs5,.ref ta,rfl,g5,c.cls,c.a5,m5,_,rfl,ta,_,_,_,rfl,rfl,ay.of (A5.S _ _ hta),atd,I,sd,r.1,r.2,ws.getD r.2 [],J0,J1,J2,ds,rfl,MA.same A5.S,hrg.1,Rd.same A5.S hrd5,fun nl nu H6 hnl hR6 hnl0 S6=>⟨nl,rfl,⟨_,ay.of hnl⟩,?_⟩⟩;have nnw:nl≠wl:=dB (ae A5.hwl hnl0);refine bR (xs:=nu.map V.ref) (PcJ mo I p0 rd wl J2 ds ws f0 R H nl nu r (2 * (40000-L.length)+W.length))
   ⟨_,_,_,_,rfl,A5.same S6,by rw[zw];omega,hnl,hR6,m0,(fun q hq=>(cl q hq).elim (fun z=>(cut q z).imp id .inl) fun z=>.inr (.inr z)),fun x hx=>by simp at hx⟩ (fun i σ H' _ ⟨_,_,_,_,_,_,_,q,_,_,_,_⟩=>ay.of q) ?_ ?_
  ·rintro i y σ H7 hi ⟨ps7,L7,W7,x7,rfl,A7,lt7,nl7,R7,m7,cl7,tk7⟩;obtain⟨u,hu,rfl⟩:=cu hi;obtain⟨row,hrow,hut⟩:=Paired.getL R7 hu;obtain⟨n',en,hRn⟩:=hnext row (ba hrow);have hu7:uB H7 u (row.1,n'):=by rw[en]at hut;exact hut
   have gd:ip K H7 rd (.ref u) (br (ud L7) (qx (row.1,n'))):=.inr ⟨_,qx (row.1,n'),u,.inl A7.hrd,rfl,cW.isIn 8 (iM _) hu7.tk,iM _,rfl⟩;refine⟨_,rfl,_,rfl,rd,_,rfl,gd,_,rfl,?_⟩;rw[xV];have fw7:=few A7;refine mY (P:=¬(row.1,n')∈L7) (by by_cases q:(row.1,n')∈L7<;>simp[q]) (fun new=>?_) (fun old=>⟨ps7,L7,W7,_,rfl,A7,lt7,nl7,R7,m7,cl7,fun x hx=>?_⟩);rotate_left
   ·rw[take_snoc hrow]at hx;rcases bd.1 hx with z|z
    ·exact tk7 x z
    ·rw[aX.1 z];exact⟨n',en,iQ.1 old⟩
   have A8:=A7.add hu7 new hRn;have fw8:=few A8;rw[aL]at fw8;have fw8:L7.length+1<=40000:=fw8;have nwr:wl≠rd:=fun z=>by have:=A7.hwl;rw[z,A7.hrd]at this;cases this
   refine⟨_,rfl,_,rfl,rd,u,ud L7,qx (row.1,n'),rfl,rfl,A7.hrd,cW.c 8 (iM _) hu7.tk,iM _,by unfold ud;rw[aj,k7];omega,?_⟩;have wl8:upd H7 rd (.dT (cL (ud L7) (qx (row.1,n')) (.bl true))) wl=some (.lst (ps7.map V.ref)):=by rw[ag nwr];exact A7.hwl
   have w7:W7.length<=1000000:=by omega
   refine⟨_,rfl,.inl ⟨rfl,_,ay.of wl8⟩,_,rfl,wl,_,.ref u,rfl,rfl,wl8,by rw[aj,Paired.length A7.hps,k7];omega,?_⟩;have up:∀x∈L7,x∈L7++[(row.1,n')]:=fun x hx=>cj _ hx;refine⟨_,_,_,_,rfl,A8,?_,?_,?_,up _ m7,fun q hq=>?_,fun x hx=>?_⟩
   ·rw[aL,aL];show 2 * (40000-(L7.length+1))+(W7.length+1)<_;omega
   ·rw[ag nnw,ag (fun z=>by have:=A7.hrd;rw[<-z,nl7]at this;cases this)];exact nl7
   ·exact qI.kt ((CF A7.hrd).trans (cR wl8)) R7
   ·rcases bd.1 hq with z|z
    ·exact(cl7 q z).imp (fun z=>cj _ z) fun z=>z.imp id fun z=>z.mono up
    ·exact .inl (cD _ z)
   ·rw[take_snoc hrow]at hx;rcases bd.1 hx with z|z
    ·obtain⟨n1,e1,e2⟩:=tk7 x z;exact⟨n1,e1,up _ e2⟩
    ·rw[aX.1 z];exact⟨n',en,cD _ (aX.2 rfl)⟩
  ·rintro σ H7 ⟨ps7,L7,W7,x7,rfl,A7,lt7,_,_,m7,cl7,tk7⟩;rw[aj,Paired.length hR6,aT]at tk7;exact⟨_,lt7,ps7,L7,W7,_,_,_,rfl,by omega,rfl,A7,m7,fun q hq=>(cl7 q hq).imp id fun z=>z.elim (fun z=>by rw[z];exact tk7) id⟩
 ·refine⟨_,rfl,rd,ud L,rfl,.inl ⟨A.hrd,fun o l hl=>?_⟩⟩;have S5:ac H (upd H4 rd (.frz o (.dT (ud L)))):=fun b q e=>by rw[ag (ae e A.r0)];exact A.S _ _ e
  have rd5:upd H4 rd (.frz o (.dT (ud L))) rd=some (.frz o (.dT (ud L))):=aa;generalize upd H4 rd (.frz o (.dT (ud L)))=H5 at S5 rd5 hl ⊢;have el:(ud L).length=L.length:=by unfold ud;rw[aj]
  have nrl:rd≠l:=ae rd5 hl;refine DW (fun i vs H'=>∃qs:List Addr,vs=qs.map V.ref/\H' l=some (.lst vs)/\H' rd=some (.frz o (.dT (ud L)))/\Paired (fun u (r:Row)=>∃ft f,H' u=some (.tup [.str r.1,.ref ft])/\m.fs[r.2]?=some f/\H' ft=some (.tup (f.map V.str))) qs (L.take i)/\ac H H')
   ⟨[],rfl,aa,kp rd5 hl,.nil,S5.trans (ac.new hl)⟩ (fun i vs H' _ ⟨_,_,q1,q2,_⟩=>⟨q1,q2⟩) ?_ ?_
  ·rintro vs H' ⟨qs,rfl,q1,_,q3,q4⟩;rw[el,aT]at q3;exact k l qs L H' q1 q3 A.nd A.all m0 (fun q hq=>(cl q hq).resolve_left fun z=>nil (List.length_pos_of_mem z)) (S5.free hl) q4
  ·rintro i vs H' x b hi ⟨qs,rfl,q1,q2,q3,q4⟩ ⟨key,ek,tkc⟩;unfold ud at ek;rw[bZ]at ek;obtain⟨r,hr,er⟩:=su.1 ek;cases er;obtain⟨rb,rfl,hrb⟩:=Ge tkc;have hrg:=rp.rg r (A.all r (ba hr));have F':=F.same q4;obtain⟨dx',fs',g',m1,m2,_⟩:=F'.ob;have hfn:m.fs[r.2]?=some (m.fs[r.2]'(by omega)):=bY (by omega);obtain⟨u,eu,hut⟩:=Paired.get F'.faces hfn;have atu:pW (us.map V.ref) (r.2:Nat)=some (.ref u):=aS (by rw[bZ,eu];rfl);refine⟨rb,_,rfl,aY.sq hrb,rfl,_,_,rfl,_,_,rfl,rfl,sW ?_⟩;refine⟨_,rfl,_,rfl,mo,C,dx',fs',.ref fa,rfl,g',c.cls,c.a2,m2,_,rfl,fa,_,_,_,rfl,rfl,ay.of F'.hfa,atu,(by show 2<=ai;decide),fun v hv=>⟨kp q1 hv,?_,mW hi ⟨qs++[v],by rw[aw];rfl,aa,?_,?_,?_⟩⟩⟩
   ·rw[aj,Paired.length q3,aE,k7];omega
   ·rw[ag (fun z=>by rw[z,q1]at q2;cases q2)];exact kp q2 hv
   ·rw[take_snoc hr];have hk:hU H' (upd (upd H' v (.tup [.str r.1,.ref u])) l (.lst (qs.map V.ref++[.ref v]))):=(ac.kt (ac.new hv)).trans (cR (kp q1 hv));refine dv (Paired.mapP q3 fun _ _ ⟨ft,f,w1,w2,w3⟩=>⟨ft,f,hk _ _ w1,w2,hk _ _ w3⟩) ⟨u,_,?_,hfn,hk _ _ hut⟩;rw[ag (ae q1 hv).symm];exact aa
   ·intro b q e;rw[ag (ae e (S5.free hl))];exact kp (q4 _ _ e) hv
section
variable{J0 J1 J2 rooms':Zb}{ds ds':List ak}{S:pS}
theorem wa(m':aK J0 J1 rooms' ds'){d:ak}(hd:d∈ds')(c:d.sg≠ao):d.sg∈bb J0 J1:=by
 unfold bb;rcases(m'.good d hd).sg with⟨w,hw,e⟩|⟨w,hw,e⟩|e
 ·exact cj _ (cj _ (ax.2 ⟨w,hw,e.symm⟩))
 ·exact cj _ (cD _ (ax.2 ⟨w,hw,e.symm⟩))
 ·exact absurd e c
theorem pA(ok:ml J0 J1 J2 ds S)(len:S.2.length=S.1.fs.length){n:Nat}(hn:n<S.1.fs.length){sg:Sg}(hs:sg∈bb J0 J1):
  (bI (S.2.getD n []) sg=none/\behF J2 ds (S.1.fs.getD n []) sg=[])∨∃w,bI (S.2.getD n []) sg=some w/\behF J2 ds (S.1.fs.getD n []) sg≠[]/\w<S.1.fs.length/\S.1.fs.getD w []=behF J2 ds (S.1.fs.getD n []) sg:=by
 have h2:S.2[n]?=some (S.2[n]'(by omega)):=bY (by omega);obtain⟨f,hf,pr⟩:=ok.st n _ h2;have e1:S.2.getD n []=S.2[n]'(by omega):=by rw[eJ,h2];rfl
 have e2:S.1.fs.getD n []=f:=by rw[eJ,hf];rfl
 have:=DB pr hs;rw[e1,e2];cases e:bI (S.2[n]'(by omega)) sg with
 |none=>rw[e]at this;exact .inl ⟨rfl,this⟩
 |some w =>
  rw[e]at this;exact .inr ⟨w,rfl,this.1,(cG.1 this.2).1,by rw[eJ,this.2];rfl⟩
theorem v5:aV∈bb J0 J1:=cD _ (aX.2 rfl)
theorem GX(m':aK J0 J1 rooms' ds')(ok:ml J0 J1 J2 ds S)(len:S.2.length=S.1.fs.length){r:Row}(hn:r.2<S.1.fs.length)(ne:S.1.fs.getD r.2 []≠[]){x:Str×Option Nat}(hx:x∈lM rooms' ds' r.1 r.2 (S.2.getD r.2 [])){n:Nat}(e:x.2=some n):S.1.fs.getD n []≠[]:=by
 have key:∀sg∈bb J0 J1,bI (S.2.getD r.2 []) sg=some n->S.1.fs.getD n []≠[]:=fun sg hs h=>by
  rcases pA ok len hn hs with⟨h1,_⟩|⟨w,h1,h2,_,h3⟩
  ·rw[h1]at h;cases h
  ·rw[h1]at h;cases h;rw[h3];exact h2
 unfold lM at hx;rcases bd.1 hx with hx|hx
 ·obtain⟨d,hd,hx⟩:=jr.1 hx;have hd:=(bF.1 hd).1;unfold i4 at hx;by_cases c:d.sg=ao
  ·rw[if_pos c]at hx;rw[aX.1 hx]at e;cases e;exact ne
  ·rw[if_neg c]at hx;split at hx
   ·rw[aX.1 hx]at e;exact key _ (wa m' hd c) e
   ·cases hx
 ·split at hx
  ·rw[aX.1 hx]at e;exact key _ v5 e
  ·cases hx
theorem G5{f:Zb}(h:pP J2 f)(ne:f≠[]):lY J2 f=true:=by
 obtain⟨p,rfl⟩:=h;refine zzr1 ⟨ne,wu fun r hr=>?_⟩;rw[so,decide_eq_true_iff,bF];exact⟨fun z=>⟨hr,z⟩,fun z=>z.2⟩
theorem EX(m':aK J0 J1 rooms' ds')(ok:ml J0 J1 J2 ds S)(len:S.2.length=S.1.fs.length){L:List Row}{f0:Str}(rg:∀r∈L,r.1∈rooms'/\r.2<S.1.fs.length)(fn:∀r∈L,S.1.fs.getD r.2 []≠[])(hf0:rooms'[0]?=some f0)(m0:(f0,0)∈L)(cl:∀r∈L,Ip rooms' ds' S.2 L r):
  cJ J2 rooms' ds ds' (L.map fun r=>(r.1,S.1.fs.getD r.2 [])):=by
 have inL:∀{r:Row},r∈L->(r.1,S.1.fs.getD r.2 [])∈L.map fun r=>((r.1,S.1.fs.getD r.2 []):cK):=fun h=>ax.2 ⟨_,h,rfl⟩;refine⟨fun x hx=>?_,f0,hf0,?_⟩
 ·obtain⟨r,hr,rfl⟩:=ax.1 hx;obtain⟨h1,h2⟩:=rg r hr;have hg:S.1.fs[r.2]?=some (S.1.fs.getD r.2 []):=by rw[eJ,bY h2];rfl
  refine⟨h1,G5 (ok.good.isF _ (ba hg)) (fn r hr),fun d hd ea=>⟨fun cs=>?_,fun cs=>?_⟩,fun q=>?_⟩
  ·obtain⟨n',e1,e2⟩:=cl r hr (d.b,some r.2) (cj _ (jr.2 ⟨d,bF.2 ⟨hd,zzr1 ea⟩,by unfold i4;rw[if_pos cs];exact aX.2 rfl⟩));cases e1;exact inL e2
  ·have hs:=wa m' hd cs;have go:(bI (S.2.getD r.2 []) d.sg).isSome=true∨d.sg.head?=some ("say":Str)->∃n',bI (S.2.getD r.2 []) d.sg=some n'/\(d.b,n')∈L:=fun c=>by
    obtain⟨n',e1,e2⟩:=cl r hr (d.b,bI (S.2.getD r.2 []) d.sg) (cj _ (jr.2 ⟨d,bF.2 ⟨hd,zzr1 ea⟩,by unfold i4;rw[if_neg cs,if_pos c];exact aX.2 rfl⟩));exact⟨n',e1,e2⟩
   rcases pA ok len h2 hs with⟨e1,e2⟩|⟨w,e1,e2,_,e3⟩
   ·refine⟨fun _ c=>?_,fun z=>absurd e2 z⟩;obtain⟨n',e4,_⟩:=go (.inr c);rw[e1]at e4;cases e4
   ·refine⟨fun z=>absurd z e2,fun _=>?_⟩;obtain⟨n',e4,e5⟩:=go (.inl (by rw[e1];rfl));rw[e1]at e4;cases e4;have:=inL e5;rw[e3]at this;exact this
  ·have qu:r.1∈rooms'.filter (c6 ds'):=by
    rw[bF,kr,decide_eq_true_iff];exact⟨h1,q⟩
   obtain⟨n',e1,e2⟩:=cl r hr (r.1,bI (S.2.getD r.2 []) aV) (cD _ (by rw[if_pos qu];exact aX.2 rfl));rcases pA ok len h2 v5 with⟨e4,_⟩|⟨w,e4,e5,_,e6⟩
   ·rw[e4]at e1;cases e1
   ·rw[e4]at e1;cases e1;have:=inL e2;rw[e6]at this;exact⟨e5,this⟩
 ·have:=inL m0;rw[show S.1.fs.getD (f0,0).2 []=closF J2 ds (J2.take 1) by rw[eJ,ok.zero];rfl]at this;exact this
theorem cJ.congr{L L':List cK}(e:∀x,x∈L↔x∈L'):cJ J2 rooms' ds ds' L↔cJ J2 rooms' ds ds' L':=by
 unfold cJ pR;refine and_congr ⟨fun h x hx=>?_,fun h x hx=>?_⟩ ?_
 ·have:=h x ((e x).2 hx);exact⟨this.1,this.2.1,(gS.congr e).1 this.2.2⟩
 ·have:=h x ((e x).1 hx);exact⟨this.1,this.2.1,(gS.congr e).2 this.2.2⟩
 ·simp only[e]
end
theorem Ha{J2:Zb}{ds:List ak}(h:J2≠[]):closF J2 ds (J2.take 1)≠[]:=by
 cases e:J2 with
 |nil=>exact absurd e h
 |cons ro rest =>
  have ff:fO ds ((ro::rest).take 1) ro:=⟨ro,aX.2 rfl,.inl rfl⟩;exact List.ne_nil_of_mem (a:=ro) (bF.2 ⟨dO,@zzr1 _ (wt _) ff⟩)
theorem zF{α β γ:Type}{R:α->γ->Prop}{g:β->γ}:∀{as:List α}{bs:List β},Paired (fun a b=>R a (g b)) as bs->Paired R as (bs.map g)
 |_,_,.nil=>.nil
 |_,_,.cons r t=>.cons r (zF t)
def tq(K:Za):TS :=
 ap (b_ (oQ (tB (eo (ER K) (aR V0 (tC (.ty "list")))))) (bj (tC (.bl false))) (bB))
 (ap (d9 (b0 K V0) U1 (b_ (vL (oQ (tB (eo (ER K) (aR V1 (tC (.ty "tuple")))))) (vL (aO (aH GI (eo (eC K) (az V1)) (tC (.int 2)))) (vL (oQ (tB (eo (ER K) (aR (aH (h9 K) V1 (tC (.int 0))) (tC (.ty "str")))))) (oQ (tB (eo (ER K) (aR (aH (h9 K) V1 (tC (.int 1))) (tC (.ty "tuple"))))))))) (bj (tC (.bl false))) (bB)))
 (bj (tC (.bl true))))
def uG:List Str:=["paper","row"]
def Gj(K:Za)(sp_is_keeping:Sp)(sp_law_paper_stands:Sp)(sp_law_is_paper:Sp)(sp_keeps:Sp)(sp_law_machine:Sp)(sp_law_near:Sp)(sp_law_model:Sp)(sp_law_open:Sp):TS :=
 ap (aP (aM sp_law_open (az V0)) U1)
 (ap (aP (aM sp_law_model (eB V1 (tC (.int 4)) (tC (.int 0)))) U2)
 (ap (aP (aM sp_law_near (eB V1 V2 (tC (.int 2)))) U3)
 (ap (aP (aM sp_law_machine (az V2)) U4)
 (ap (aP (aM sp_law_machine (az V3)) U5)
 (ap (d9 (um (az (tC (.int 2)))) U6 (ap (aP (aM sp_keeps (aR V4 V5)) U7)
 (ap (b_ (vL (oQ (tB (eo (ER K) (aR V7 (tC (.ty "tuple")))))) (aO (aH AZ (eo (eC K) (az V7)) (tC (.int 2))))) (bj (tC (.bl false))) (bB))
 (ap (b_ (aO (aH yI (aH (h9 K) V7 (tC (.int 0))) (tC (.str "fault")))) (bj (tC (.bl true))) (bB))
 (ap (b_ (vL (aO (aH GI (aH (h9 K) V7 (tC (.int 0))) (tC (.str "keeps")))) (vL (aO (aH GI (eo (eC K) (az V7)) (tC (.int 2)))) (oQ (tB (aM sp_law_is_paper (az (aH (h9 K) V7 (tC (.int 1))))))))) (bj (tC (.bl false))) (bB))
 (ap (b_ (oQ (tB (aM sp_law_paper_stands (eB V2 V3 (aH (h9 K) V7 (tC (.int 1))))))) (bj (tC (.bl false))) (bB))
 (ap (b_ (vL (aO (aH EO (aM sp_is_keeping (ar V4 (ar V5 (ar (eo (dw K) (az (aH (h9 K) V7 (tC (.int 1))))) bq)))) (tC (.bl true)))) (aO (aH EO (aM sp_is_keeping (eB V4 V5 (Ho K (aH (h9 K) V7 (tC (.int 1)))))) (tC (.bl true))))) (bj (tC (.bl false))) (bB))
 (bQ (Ex K "list" ET (aH (h9 K) V7 (tC (.int 1))))))))))))
 (bj (tC (.bl true))))))))
def CY:List Str:=["script","pen","told","some","model","made","turn","found"]
def EV:List Str:=["script"]
inductive kq(K:Za)(vs:List V)(H:Hp)(Q:VK)(E:XK):Prop
 |mk (l:Addr) (us:Ze) (L:List cK):(vs=[.ref l])->(H l=some (.lst (us.map V.ref)))->(Paired (qQ H) us L)->(Q (.bl true) H)->kq K vs H Q E
theorem AW{K:Za}{vs:List V}{H:Hp}{Q:VK}{E:XK}(h:kq K vs H Q E):tq K (bM Q) (start uG vs) H:=by
 obtain⟨l,us,L,rfl,hl,hu,k⟩:=h;refine⟨_,rfl,.ref l,"list",_,true,rfl,.inl (kC.lst hl),rfl,_,rfl,bU ?_⟩;refine⟨_,rfl,l,rfl,⟨_,ay.of hl⟩,?_⟩;refine bR (xs:=us.map V.ref) (fun i σ H'=>∃x1:Option V,σ=[some (.ref l),x1]/\H'=H) ⟨_,rfl,rfl⟩ (fun i σ H' _ ⟨_,_,e⟩=>by rw[e];exact ay.of hl) ?_ ?_
 ·rintro i y σ H1 hi ⟨x1,rfl,rfl⟩;obtain⟨u,hu',rfl⟩:=cu hi;obtain⟨r,hr,ft,h1,h2⟩:=Paired.getL hu hu';refine⟨_,rfl,.ref u,"tuple",_,true,rfl,.inl (kC.tup h1),rfl,_,rfl,bU ?_⟩;refine⟨_,rfl,.inl ⟨u,_,rfl,.inr (bc.of h1),rfl,_,rfl,?_⟩⟩;refine fN (fun z=>by simp at z) (fun _=>?_);refine⟨_,rfl,u,_,0,_,rfl,rfl,bc.of h1,aS (j:=0) rfl,.str r.1,"str",_,true,rfl,.inl (kC.str _),rfl,_,rfl,bU ?_⟩;refine⟨_,rfl,u,_,1,_,rfl,rfl,bc.of h1,aS (j:=1) rfl,.ref ft,"tuple",_,true,rfl,.inl (kC.tup h2),rfl,_,rfl,bU ?_⟩;exact⟨_,rfl,rfl⟩
 ·rintro σ H1 ⟨x1,rfl,rfl⟩;exact k
inductive sp_law23(K:Za)(vs:List V)(H:Hp)(Q:VK)(E:XK):Prop
 |mk (a:Addr) (ns:List Int):(vs=[.ref a])->(ay K H a (ns.map V.int))->(ns.length<=63)->(∀H',Q (.bl true) H')->sp_law23 K vs H Q E
theorem Def.weak{P:bT}{w:World}{K:Za}{mg:Str->Option Value}{base:Heap}{x:Str}{ps:Zb}{k:Nat}{sp sp':Sp}(D:L2.Def P w K mg base x ps k sp)(h:∀vs H Q E,sp' vs H Q E->sp vs H Q E):L2.Def P w K mg base x ps k sp':=by
 obtain⟨f,fd,F,r⟩:=D;exact⟨f,fd,⟨fun vs H Q E q=>F.len vs H Q E (h _ _ _ _ q),fun A o s H a us vs Q E r1 r2 r3 r4 q=>F.run A o s H a us vs Q E r1 r2 r3 r4 (h _ _ _ _ q)⟩,r⟩
theorem De{K:Za}{C:Addr}(vs:List V)(H:Hp)(Q:VK)(E:XK)(h:kh C vs H Q E):hV K C vs H Q E:=by
 obtain⟨x,t,J6,J0,J1,J2,ds,e,M,ht,r,z,k⟩:=h;exact⟨x,t,J6,J0,J1,J2,ds,e,M,.inl ht,r,z,k⟩
def nV(x:Str×Option Nat):Str×V:=(x.1,HZ x.2)
theorem EA(J2:Zb)(ds:List ak)(room:Str)(fc:Nat)(st:List (Sg×Nat)):tQ J2 ds room (.int (fc:Nat)) (fun sg=>(bI st sg).map fun n=>V.int (n:Nat))=(lM J2 ds room fc st).map nV:=by
 have e0:∀o:Option Nat,(o.map fun n=>V.int (n:Nat)).getD .non=HZ o:=fun o=>by cases o<;>rfl
 have e1:∀d:ak,cx (.int (fc:Nat)) (fun sg=>(bI st sg).map fun n=>V.int (n:Nat)) d=(i4 fc st d).map nV:=fun d=>by
  unfold cx i4;by_cases c:d.sg=ao
  ·rw[if_pos c,if_pos c];rfl
  ·rw[if_neg c,if_neg c];by_cases c2:(bI st d.sg).isSome=true∨d.sg.head?=some ("say":Str)
   ·rw[if_pos c2,if_pos (c2.imp (fun z=>by rw[sR];exact z) id),e0];rfl
   ·rw[if_neg c2,if_neg (fun z=>c2 (z.imp (fun z=>by rw[sR]at z;exact z) id))];rfl
 unfold tQ lM;rw[aw,List.map_flatMap];congr 1
 ·exact congrArg (fun f=>(aZ ds room).flatMap f) (funext e1)
 ·split
  ·rw[e0];rfl
  ·rfl
theorem t5{α β γ:Type}{R:α->γ->Prop}{g:β->γ}:∀{as:List α}{bs:List β},Paired R as (bs.map g)->Paired (fun a b=>R a (g b)) as bs
 |_,[],.nil=>.nil
 |_,_::_,.cons r t=>.cons r (t5 t)
theorem Gu{K:Za}{C:Addr}(vs:List V)(H:Hp)(Q:VK)(E:XK)(h:oY K C vs H Q E):jP K C vs H Q E:=by
 obtain⟨x,sd,room,fc,st,J0,J1,J2,ds,e,M,hr,hsd,k⟩:=h;refine⟨x,sd,room,.int (fc:Nat),fun sg=>(bI st sg).map fun n=>V.int (n:Nat),J0,J1,J2,ds,e,M,hr,fun H' s sg S hs=>?_,fun l us H' hl hR l0 S=>k l us H' hl ?_ l0 S⟩
 ·have rd:=Rd.same S hsd;refine⟨.inr ⟨_,rd⟩,.inr ⟨_,fj sg,s,rd,rfl,mv hs,cN _,?_⟩⟩;rw[vX]
 ·rw[EA]at hR;exact t5 (R:=fun u (r:Str×V)=>H' u=some (.tup [.str r.1,r.2])) (g:=nV) hR
theorem tP{J0 J1:Zb}{sg:Sg}(h:sg∈bb J0 J1):sg=aV∨sg≠aV/\sg≠ao/\(sg.head?=some ("ask":Str)∨sg.head?=some ("say":Str)):=by
 unfold bb at h;rcases bd.mp h with h|h
 ·rcases bd.mp h with h|h
  ·obtain⟨w,_,rfl⟩:=ax.mp h;exact .inr ⟨fun z=>(by unfold cY aV at z;injection z with _ z;cases z),fun z=>(by unfold cY ao at z;injection z with _ z;cases z),.inl rfl⟩
  ·obtain⟨w,_,rfl⟩:=ax.mp h;exact .inr ⟨fun z=>(by unfold lK aV at z;injection z with _ z;cases z),fun z=>(by unfold lK ao at z;injection z with _ z;cases z),.inr rfl⟩
 ·exact .inl (aX.1 h)
section
variable{J0 J1 J2 rooms':Zb}{ds ds':List ak}{S SI:pS}{L:List cK}
theorem cJ.still(h:cJ J2 rooms' ds ds' L){r w:Str}{f:Zb}(hr:(r,f)∈L)(q:Reach ds' r w):(w,f)∈L:=by
 induction q with
 |one hd=>exact((h.1 _ hr).2.2.1 _ hd rfl).1 rfl
 |step _ hd ih=>exact((h.1 _ ih).2.2.1 _ hd rfl).1 rfl
theorem cJ.from_(h:cJ J2 rooms' ds ds' L){gs:Zb}{w:Str}{f:Zb}(hr:∀g∈gs,(g,f)∈L)(q:fO ds' gs w):(w,f)∈L:=by
 obtain⟨g,hg,rfl|q⟩:=q
 ·exact hr _ hg
 ·exact h.still (hr _ hg) q
theorem qG{gs:Zb}{w:Str}(h:w∈closF J2 ds gs):fO ds gs w:=@of_decide_eq_true _ (wt _) (bF.1 h).2
theorem xD(ok:ml J0 J1 J2 ds S){k n:Nat}{sg:Sg}(h:(sg,n)∈S.2.getD k []):sg∈bb J0 J1/\n<S.1.fs.length/\behF J2 ds (S.1.fs.getD k []) sg≠[]/\S.1.fs.getD n []=behF J2 ds (S.1.fs.getD k []) sg:=by
 rw[eJ]at h;cases e:S.2[k]? with
 |none=>rw[e]at h;cases h
 |some l =>
  rw[e]at h;obtain⟨f,hf,pr⟩:=ok.st k l e;obtain⟨j,hj⟩:=ii h;obtain⟨q,hq,e1,e2⟩:=Paired.getL pr hj;obtain⟨h1,h2⟩:=bF.1 (ba hq);obtain⟨s,hs,rfl⟩:=ax.1 h1;have ef:S.1.fs.getD k []=f:=by rw[eJ,hf];rfl
  cases e1;rw[ef];exact⟨hs,(cG.1 e2).1,of_decide_eq_true h2,by rw[eJ,e2];rfl⟩
theorem cJ.on(h:cJ J2 rooms' ds ds' L){f g:Zb}{sg:Sg}(hs:sg∈bb J0 J1)(hf:∀r∈g,(r,f)∈L)(ne:behF J2 ds f sg≠[]):∀r∈behF rooms' ds' g sg,(r,behF J2 ds f sg)∈L:=by
 intro r hr;rcases tP hs with rfl|⟨c1,c2,_⟩
 ·unfold behF at hr;rw[if_pos rfl]at hr;obtain⟨h1,h2⟩:=bF.1 hr;exact((h.1 _ (hf r h1)).2.2.2 (of_decide_eq_true h2)).2
 ·unfold behF at hr;rw[if_neg c1]at hr;refine h.from_ (fun b hb=>?_) (qG hr);obtain⟨r1,h1,hd⟩:=iy.1 hb;exact(((h.1 _ (hf r1 h1)).2.2.1 _ hd rfl).2 c2).2 ne
theorem Fb(okM:ml J0 J1 J2 ds S)(lenM:S.2.length=S.1.fs.length)(okI:ml J0 J1 rooms' ds' SI){P:List bE}(okP:oB SI.2 S.2 P)(p0:0<S.1.fs.length){i:Nat}{c:bE}{p:Sg×Nat}(hc:P[i]?=some c)(hp:p∈SI.2.getD c.key.2 [])(hl:bI (S.2.getD c.key.1 []) p.1=none)(ha:p.1.head?≠some ("ask":Str)):¬cJ J2 rooms' ds ds' L:=by
 intro h;have key:∀(n i:Nat) (c:bE),i<n->P[i]?=some c->c.key.1<S.1.fs.length/\∀r∈SI.1.fs.getD c.key.2 [],(r,S.1.fs.getD c.key.1 [])∈L:=by
  intro n
  induction n with
  |zero=>intro i c lt;omega
  |succ n ih =>
   intro i c lt hc;rcases okP.back i c hc with rfl|⟨j,b,sg,lj,hb,_,_,h1,h2⟩
   ·obtain⟨r,e⟩:=okP.zero;rw[e]at hc;cases hc;refine⟨p0,fun r hr=>?_⟩;rw[show SI.1.fs.getD 0 []=closF rooms' ds' (rooms'.take 1) by rw[eJ,okI.zero];rfl]at hr;rw[show S.1.fs.getD 0 []=closF J2 ds (J2.take 1) by rw[eJ,okM.zero];rfl];obtain⟨r0,e0,m0⟩:=h.2;refine h.from_ (fun g hg=>?_) (qG hr);cases er:rooms' with
    |nil=>rw[er]at hg;cases hg
    |cons a l =>
     rw[er]at hg e0;cases e0;rw[aX.1 hg];exact m0
   ·obtain⟨b1,b2⟩:=ih j b (by omega) hb;obtain⟨hs,_,ne,e2⟩:=xD okI h2;rcases pA okM lenM b1 hs with⟨e3,_⟩|⟨w,e3,e4,e5,e6⟩
    ·rw[h1]at e3;cases e3
    ·rw[h1]at e3;cases e3;refine⟨e5,?_⟩;rw[e2,e6];exact h.on hs b2 e4
 obtain⟨c1,c2⟩:=key (i+1) i c (by omega) hc;obtain⟨sg,n⟩:=p;obtain⟨hs,_,ne,_⟩:=xD okI hp;rcases pA okM lenM c1 hs with⟨_,e⟩|⟨w,e3,_⟩;rotate_left
 ·rw[show bI (S.2.getD c.key.1 []) sg=none from hl]at e3;cases e3
 obtain⟨r,hr⟩:=List.exists_mem_of_ne_nil _ ne;rcases tP hs with rfl|⟨n1,n2,n3⟩
 ·unfold behF at hr;rw[if_pos rfl]at hr;obtain⟨h1,h2⟩:=bF.1 hr;exact((h.1 _ (c2 r h1)).2.2.2 (of_decide_eq_true h2)).1 e
 ·unfold behF at hr;rw[if_neg n1]at hr;obtain⟨b,hb,_⟩:=qG hr;obtain⟨r1,h1,hd⟩:=iy.1 hb;exact(((h.1 _ (c2 r1 h1)).2.2.1 _ hd rfl).2 n2).1 e (n3.resolve_left ha)
end
theorem Hb{J0 J1 J2:Zb}{ds:List ak}{S:pS}{ms:List (List (Sg×Nat))}{P:List bE}(ok:ml J0 J1 J2 ds S)(okP:oB ms S.2 P)(p0:0<S.1.fs.length){i:Nat}{c:bE}(hc:P[i]?=some c):c.key.1<S.1.fs.length:=by
 rcases okP.back i c hc with rfl|⟨j,b,sg,_,_,_,_,h1,_⟩
 ·obtain⟨r,e⟩:=okP.zero;rw[e]at hc;cases hc;exact p0
 ·exact(xD ok (uc h1)).2.1
inductive jR(K:Za)(Cm:Addr)(vs:List V)(H:Hp)(Q:VK)(E:XK):Prop
 |mk (x y:Addr) (J0 J1 J2 rooms':Zb) (ds ds':List ak):(vs=[.ref x,.ref y])->(bv Cm H x J0 J1 J2 ds)->(bv Cm H y J0 J1 rooms' ds')->((∀r∈rooms',∀a∈J0,gK ds' r a))->(J2.length<=4)->(rooms'.length<=4)->((∀(u l:Addr) (ps:Ze) (L:List cK) (H':Hp),H' u=some (.tup [.str "keeps",.ref l])->H' l=some (.lst (ps.map V.ref))->Paired (qQ H') ps L->cJ J2 rooms' ds ds' L->L.length<=64->(∀r∈L,r.2.length<=4)->H l=none->ac H H'->Q (.ref u) H'))->(∀(s:List Sg) (g:Sg),(∀L,¬cJ J2 rooms' ds ds' L)->∀(u l b:Addr) (gs:Ze) (H':Hp),H' u=some (.tup [.str "fault",.ref l,.ref b])->H' l=some (.lst (gs.map V.ref))->Paired (fun g (sg:Sg)=>aY K H' g (sg.map V.str)) gs s->aY K H' b (g.map V.str)->H l=none->ac H H'->Q (.ref u) H')->jR K Cm vs H Q E
theorem DE{K:Za}{Cm:Addr}{H:Hp}{Q:VK}{E:XK}{x y:Addr}{J0 J1 J2 rooms':Zb}{ds ds':List ak}(M:bv Cm H x J0 J1 J2 ds)(N:bv Cm H y J0 J1 rooms' ds')(tk:∀r∈rooms',∀a∈J0,gK ds' r a)(z1:J2.length<=4)(z2:rooms'.length<=4)
  (kn:∀(u l:Addr) (ps:Ze) (L:List cK) (H':Hp),H' u=some (.tup [.str "keeps",.ref l])->H' l=some (.lst (ps.map V.ref))->Paired (qQ H') ps L->cJ J2 rooms' ds ds' L->L.length<=64->(∀r∈L,r.2.length<=4)->H l=none->ac H H'->Q (.ref u) H')
  (kf:∀(s:List Sg) (g:Sg),(∀L,¬cJ J2 rooms' ds ds' L)->∀(u l b:Addr) (gs:Ze) (H':Hp),H' u=some (.tup [.str "fault",.ref l,.ref b])->H' l=some (.lst (gs.map V.ref))->Paired (fun g (sg:Sg)=>aY K H' g (sg.map V.str)) gs s->aY K H' b (g.map V.str)->H l=none->ac H H'->Q (.ref u) H'):jR K Cm [.ref x,.ref y] H Q E:=by
 exact⟨x,y,J0,J1,J2,rooms',ds,ds',rfl,M,N,tk,z1,z2,kn,kf⟩
theorem Do{K:Za}{C Cm:Addr}(c:FC K C){vs:List V}{H:Hp}{Q:VK}{E:XK}(h:jR K Cm vs H Q E):Gk K (my K C Cm) (g_ K) C (mz K C Cm) (eL Cm) (bM Q) (start Hj vs) H:=by
 classical
 obtain⟨x,y,J0,J1,J2,rooms',ds,ds',rfl,MX,MY,tk,z4,z4',kn,kf⟩:=h;refine⟨_,rfl,_,rfl,x,y,J0,J1,J2,rooms',ds,ds',rfl,MX,MY,tk,fun H1 S1=>?_⟩;have MX1:=MX.same S1;have MY1:=MY.same S1;refine⟨_,rfl,fun o1 d1 ho1 hd1 ne1=>?_⟩;have S2:ac H1 (upd (upd H1 d1 (.own o1)) o1 (.ins C d1 [])):=fun b o e=>by rw[ag (ae e ho1)];exact kp e hd1
 refine⟨H1,o1,d1,x,J0,J1,J2,ds,rfl,aa,MX1,ho1,S2,by omega,fun fa sa na ta us ws ts S j H3 F3 ta3 st3 ok3 len3 _ S3=>⟨rfl,?_⟩⟩;clear S2;obtain⟨dx1,fs1,g1,l1,l2,l3,l4,l5,l6,l7⟩:=F3.ob;refine⟨_,rfl,o1,C,dx1,fs1,.ref ta,rfl,g1,c.cls,c.a5,l5,?_⟩;refine⟨_,rfl,fun o2 d2 ho2 hd2 ne2=>?_⟩;have S4:ac H3 (upd (upd H3 d2 (.own o2)) o2 (.ins C d2 [])):=fun b o e=>by rw[ag (ae e ho2)];exact kp e hd2
 refine⟨H3,o2,d2,y,J0,J1,rooms',ds',rfl,aa,MY1.same S3,ho2,S4,by omega,fun fa' sa' na' ta' us' ws' ts' SI j' H5 F5 ta5 st5 ok5 len5 itI S5=>⟨rfl,?_⟩⟩;clear S4;obtain⟨dx2,fs2,g2,m1,m2,m3,m4,m5,m6,m7⟩:=F5.ob;refine⟨o2,C,dx2,fs2,.ref ta',rfl,g2,c.cls,c.a5,m5,?_⟩
 let H0:Hp:=fun b=>if b∈ts∨b∈ts' then none else H5 b
 have hz:∀{b:Addr},b∈ts∨b∈ts'->H0 b=none:=fun h=>if_pos h;have hk:∀{b:Addr}{o:HO},H5 b=some o->(∀k,o=.dT k->b∉ts/\b∉ts')->H0 b=some o:=fun{b o} e n=>by
  have:¬(b∈ts∨b∈ts'):=fun z=>by
   have hd:∃l,H5 b=some (.dT l):=by
    rcases z with z|z
    ·obtain⟨_,_,l,hl⟩:=iI st3 b z;exact⟨l,S5 _ _ hl⟩
    ·exact(iI st5 b z).2.2
   obtain⟨l,hl⟩:=hd;rw[e]at hl;injection hl with hl;obtain⟨n1,n2⟩:=n _ hl;exact z.elim n1 n2
  show(if b∈ts∨b∈ts' then none else H5 b)=some o
  rw[if_neg this];exact e
 have SH:ac H H0:=fun b o e=>by
  have e1:=S3 _ _ (S1 _ _ e);refine hk (S5 _ _ e1) fun k _=>⟨fun z=>?_,fun z=>?_⟩
  ·have:=(iI st3 b z).1;rw[S1 _ _ e]at this;cases this
  ·have:=(iI st5 b z).1;rw[e1]at this;cases this
 have F0:ic K C H0 o1 x fa sa na ta us ws S.1:=(F3.same S5).part fun b o e n=>hk e fun k z=>by
  have:=n k z;subst this;refine⟨fun z=>(iI st3 b z).2.1 rfl,fun z=>?_⟩;have:=(iI st5 b z).1;rw[F3.hna]at this;cases this
 have ta5':=S5 _ _ ta3;have I:m9 H0 H5 ta ta' ts ts' S.2 SI.2:=by
  refine⟨ta5',ta5,?_,?_,fun b o e=>?_⟩
  ·refine Mum.Paired.mapM st3 fun t _ ht r=>⟨hz (.inl ht),.inl (S5 _ _ r.2.2)⟩
  ·refine Mum.Paired.mapM st5 fun t _ ht r=>⟨hz (.inr ht),.inl r.2.2⟩
  ·have e:(if b∈ts∨b∈ts' then none else H5 b)=some o:=e
   split at e
   ·cases e
   ·exact e
 have zt:ts.length=S.1.fs.length:=by rw[Paired.length st3,len3]
 have zt':ts'.length=SI.1.fs.length:=by rw[Paired.length st5,len5]
 have f16:=ok3.good.few4 z4;have f16':=ok5.good.few4 z4';have pos:∀{rs:Zb}{es:List ak}{S:pS},ml J0 J1 rs es S->0<S.1.fs.length:=fun{rs es S} ok=>by
  rcases wr S.1.fs.length with z|z
  ·have:=ok.zero;rw[fQ (by omega)]at this;cases this
  ·exact z
 have LC:Jk ts ts' S.2 SI.2:=⟨by omega,by omega,fun i p hp=>by rw[zt];exact(ok3.steps hp).1,fun i p hp=>by rw[zt'];exact(ok5.steps hp).1,fun i p hp=>(ok5.steps hp).2⟩;have prod:ts.length * ts'.length<=16 * 16:=sv (by omega) (by omega);refine⟨H0,ta,ta',ts,ts',S.2,SI.2,rfl,I,LC,by rw[zt];exact pos ok3,by rw[zt'];exact pos ok5,fun P H6 okP itP lenP ro I6=>?_,fun P i cm p sb t lst gs H6 okP _ _ hcm _ hpm hlk hask ht hl hg hb t0 l0 I6=>?_⟩
 ·refine⟨_,rfl,_,rfl,?_⟩;rw[zzr1 rfl];refine cS ?_;have F6:=F0.same I6.S;have ins:∀r:Row,wn P SI r.1 r.2->r.1∈rooms'/\r.2<ts.length:=fun r ⟨cm,hc,e,F,hF,hr⟩=>by
   obtain⟨i,hi⟩:=ii hc;refine⟨(ok5.good.isF F (ba hF)).sub _ hr,?_⟩;rw[zt,<-e];exact Hb ok3 okP (pos ok3) hi
  have r0:rooms'[0]?=some (rooms'.headD ""):=by
   cases e:rooms' with
   |nil=>exact absurd e MY.ok.rooms0
   |cons a b=>rfl
  have hb:∀d∈ds',d.b∈rooms':=fun d hd=>(MY.ok.good d hd).b;have first:wn P SI (rooms'.headD "") 0:=by
   obtain⟨r,e⟩:=okP.zero;refine⟨⟨(0,0),none,[]⟩,by rw[e];exact dO,rfl,_,ok5.zero,?_⟩;unfold closF;refine bF.2 ⟨ba r0,zzr1 ⟨rooms'.headD "",?_,.inl rfl⟩⟩;cases e:rooms' with
   |nil=>exact absurd e MY.ok.rooms0
   |cons a b=>exact dO
  have shut:∀f∈SI.1.fs,FR ds' f:=by rw[itI];exact Cb hb j'
  refine⟨_,rfl,_,rfl,H0,o1,y,x,fa,sa,na,ta,us,ws,ts,S.1,S.2,J0,J1,rooms',ds',fun r:Row=>wn P SI r.1 r.2/\S.1.fs.getD r.2 []≠[],rooms'.headD "",rfl,F6,I6.h1,I6.r1,(MY.same SH).same I6.S,⟨fun r hr=>ins r hr.1,fun r hr x hx=>by obtain⟨n',h1,h2⟩:=Gs MY.ok ok5 len5 ro shut hr.1 x hx;exact⟨n',h1,h2,GX MY.ok ok3 len3 (by rw[<-zt];exact(ins r hr.1).2) hr.2 hx h1⟩⟩,zt,by omega,r0,⟨first,by rw[eJ,ok3.zero];exact Ha MX.ok.rooms0⟩,fun l ps L H7 hl pr nd all m0 cl hl0 S7=>⟨(by show 2<=ai;decide),fun u hu=>?_⟩⟩
  have S8:ac H7 (upd H7 u (.tup [.str "keeps",.ref l])):=ac.new hu;have rg:∀r∈L,r.1∈rooms'/\r.2<S.1.fs.length:=fun r hr=>by have:=ins r (all r hr).1;rw[zt]at this;exact this
  have faces:Paired (qQ (upd H7 u (.tup [.str "keeps",.ref l]))) ps (L.map fun r=>(r.1,S.1.fs.getD r.2 [])):=by
   refine zF (Paired.mapP pr fun a r h=>?_);obtain⟨ft,f,h1,h2,h3⟩:=h;have e:S.1.fs.getD r.2 []=f:=by rw[eJ,h2];rfl
   rw[e];exact⟨ft,S8 _ _ h1,S8 _ _ h3⟩
  refine kn u l ps _ _ aa (S8 _ _ hl) faces (EX MY.ok ok3 len3 rg (fun r hr=>(all r hr).2) r0 m0 cl) ?_ (fun x hx=>?_) ((SH.trans I6.S).free hl0) (((SH.trans I6.S).trans S7).trans S8)
  ·rw[aj];have:=zc nd fun r hr=>ins r (all r hr).1;have:rooms'.length * ts.length<=4 * 16:=sv z4' (by omega);omega
  ·obtain⟨r,hr,rfl⟩:=ax.1 hx;have h2:=(rg r hr).2;have hg:S.1.fs[r.2]?=some (S.1.fs.getD r.2 []):=by rw[eJ,bY h2];rfl
   obtain⟨p,e⟩:=ok3.good.isF _ (ba hg);show(S.1.fs.getD r.2 []).length<=4;rw[e];exact bG (dP _ _) z4
 ·refine⟨_,rfl,_,rfl,?_⟩;rw[zzr0 (fun z=>by cases z)];refine bU ?_;refine⟨_,rfl,t,_,rfl,bc.of ht,rfl,_,_,rfl,_,_,rfl,rfl,?_⟩;refine⟨_,rfl,_,rfl,(by show 3<=ai;decide),fun u hu=>?_⟩;have S8:ac H6 (upd H6 u (.tup [.str "fault",.ref lst,.ref sb])):=ac.new hu;exact kf cm.story p.1 (fun L=>Fb ok3 len3 ok5 okP (pos ok3) hcm hpm hlk hask) u lst sb gs _ aa (S8 _ _ hl) (Paired.mapP hg fun _ _ r=>aY.kt (ac.kt S8) r) (aY.kt (ac.kt S8) hb) (SH.free l0) ((SH.trans I6.S).trans S8)
theorem Dn{K:Za}{C:Addr}{vs:List V}{H:Hp}{Q:VK}{E:XK}(h:sp_law23 K vs H Q E):Gj K (ko K C) (kj K) (kq K) (jR K C) (km C) rX o0 (rW K) (bM Q) (start CY vs) H:=by
 obtain⟨a,ns,rfl,hs,hn,k⟩:=h;refine⟨_,rfl,a,ns,rfl,hs,hn,fun p c H1 _ hp1 S1=>?_⟩;refine⟨_,rfl,p,c,4,0,rfl,hp1,by decide,by decide,by decide,by decide,fun t l1 l2 l3 l4 ts J0 J1 J2 ds H2 T m zr zd hp2 ex2=>?_⟩;have zr:J2.length<=4:=zr;refine⟨_,rfl,_,rfl,p,c,t,l1,l2,l3,l4,ts,J0,J1,J2,ds,2,rfl,hp2,T,m,by omega,by omega,by omega,fun t' l3' l4' ts' rooms' ds' H3 T' m' tk len _ hp3 ex3=>?_⟩;have T3:=T.ex hp2 ex3;refine⟨_,rfl,t,l1,l2,l3,l4,ts,J0,J1,J2,ds,rfl,T3,m,fun x H4 M4 S4=>?_⟩;refine⟨_,rfl,t',l1,l2,l3',l4',ts',J0,J1,rooms',ds',rfl,T'.same S4,m',fun y H5 N5 S5=>?_⟩;have M5:=M4.same S5;have S35:=S4.trans S5;have T5:=T3.same S35;have T5':=T'.same S35;refine⟨_,rfl,by omega,by omega,?_⟩;refine j4 (lo:=0) (n:=2) (fun i σ H'=>∃x6 x7:Option V,σ=[some (.ref a),some (.ref p),some (.ref t),some (.ref t'),some (.ref x),some (.ref y),x6,x7]/\ac H5 H') ⟨_,_,rfl,ac.refl _⟩ ?_ ?_;rotate_left
 ·rintro σ H6 ⟨x6,x7,rfl,S6⟩;exact k _
 rintro i σ H6 _ ⟨x6,x7,rfl,S6⟩;refine⟨_,rfl,_,rfl,DE (M5.same S6) (N5.same S6) tk zr (by omega) (fun u l ps L H7 hu hl hps ok zL zf l0 S7=>?_) (fun s g lf u l b gs H7 hu hl hg hb l0 S7=>?_)⟩;rotate_left
 ·refine⟨_,rfl,.ref u,"tuple",_,true,rfl,.inl (kC.tup hu),rfl,_,rfl,bU ?_⟩;refine⟨_,rfl,.inl ⟨u,_,rfl,.inr (bc.of hu),_,_,rfl,rfl,_,rfl,?_⟩⟩;refine fN (fun z=>by simp at z) (fun _=>?_);refine⟨_,rfl,u,_,0,_,rfl,rfl,bc.of hu,aS (j:=0) rfl,rfl,_,rfl,?_⟩;rw[zzr1 rfl];exact cS (k _)
 have S57:=S6.trans S7;refine⟨_,rfl,.ref u,"tuple",_,true,rfl,.inl (kC.tup hu),rfl,_,rfl,bU ?_⟩;refine⟨_,rfl,.inl ⟨u,_,rfl,.inr (bc.of hu),_,_,rfl,rfl,_,rfl,?_⟩⟩;refine fN (fun z=>by simp at z) (fun _=>?_);refine⟨_,rfl,u,_,0,_,rfl,rfl,bc.of hu,aS (j:=0) rfl,rfl,_,rfl,?_⟩;refine fN (fun _=>k _) (fun _=>?_);refine⟨_,rfl,u,_,0,_,rfl,rfl,bc.of hu,aS (j:=0) rfl,rfl,_,rfl,?_⟩;refine fN (fun z=>by simp at z) (fun _=>?_);refine⟨_,rfl,.inl ⟨u,_,rfl,.inr (bc.of hu),rfl,_,rfl,?_⟩⟩;refine fN (fun z=>by simp at z) (fun _=>?_);refine⟨_,rfl,u,_,1,_,rfl,rfl,bc.of hu,aS (j:=1) rfl,l,ps,L,rfl,hl,hps,_,rfl,bU ?_⟩;refine⟨_,rfl,_,rfl,_,rfl,u,_,1,_,rfl,rfl,bc.of hu,aS (j:=1) rfl,t,t',l,l1,l2,l3,l4,l3',l4',ts,ts',ps,J0,J1,J2,rooms',ds,ds',L,rfl,T5.same S57,m,T5'.same S57,m',hl,hps,by omega,fun r hr=>bG (zf r hr) (by decide),fun b1 H8 hb1 S8=>⟨_,rfl,?_⟩⟩;rw[hb1.2 ok];refine bU ?_;have S58:=S57.trans S8;have hu8:=S8 _ _ hu;have hl8:=S8 _ _ hl;have hps8:=Paired.mapP hps fun _ _ (r:qQ H7 _ _)=>r.kt (ac.kt S8);refine⟨_,rfl,_,rfl,_,rfl,u,_,1,_,rfl,rfl,bc.of hu8,aS (j:=1) rfl,.inl ⟨l,_,rfl,.inl (ay.of hl8),fun cl hcl=>?_⟩⟩;have S9:ac H8 (upd H8 cl (.lst (ps.map V.ref))):=ac.new hcl;have c9:upd H8 cl (.lst (ps.map V.ref)) cl=some (.lst (ps.map V.ref)):=aa;generalize upd H8 cl (.lst (ps.map V.ref))=H9 at S9 c9 ⊢;have S59:=S58.trans S9;refine⟨x,y,cl,ps,L,J0,J1,J2,rooms',ds,ds',rfl,M5.same S59,N5.same S59,tk,c9,Paired.mapP hps8 fun _ _ r=>r.kt (ac.kt S9),by omega,fun r hr=>bG (zf r hr) (by decide),fun b2 H10 hb2 S10=>⟨true,rfl,_,rfl,?_⟩⟩;rw[hb2.2 ok];refine fN (fun z=>by simp at z) (fun _=>?_);have S8a:=S9.trans S10;refine⟨_,rfl,_,rfl,_,rfl,u,_,1,_,rfl,rfl,bc.of (S8a _ _ hu8),aS (j:=1) rfl,l,_,rfl,ay.of (S8a _ _ hl8),fun rl hrl=>?_⟩;have S11:ac H10 (upd H10 rl (.lst (ps.map V.ref).reverse)):=ac.new hrl;have c11:upd H10 rl (.lst (ps.map V.ref).reverse) rl=some (.lst (ps.reverse.map V.ref)):=by rw[aa,List.map_reverse]
 generalize upd H10 rl (.lst (ps.map V.ref).reverse)=H11 at S11 c11 ⊢;have S8b:=S8a.trans S11;have S5b:=S58.trans S8b;refine⟨x,y,rl,ps.reverse,L.reverse,J0,J1,J2,rooms',ds,ds',rfl,M5.same S5b,N5.same S5b,tk,c11,Mum.Paired.rev (Paired.mapP hps8 fun _ _ r=>r.kt (ac.kt S8b)),by rw[wY];omega,fun r hr=>bG (zf r (List.mem_reverse.1 hr)) (by decide),fun b3 H12 hb3 S12=>⟨true,rfl,_,rfl,?_⟩⟩;rw[hb3.2 ((cJ.congr fun _=>List.mem_reverse.symm).1 ok)];refine fN (fun z=>by simp at z) (fun _=>?_);have S8c:=S8b.trans S12;have hl12:=S8c _ _ hl8;refine⟨_,rfl,u,_,1,_,rfl,rfl,bc.of (S8c _ _ hu8),aS (j:=1) rfl,.inl ⟨rfl,_,ay.of hl12⟩,l,_,rfl,rfl,hl12,?_⟩;exact⟨_,_,rfl,fun b o e=>by rw[ag (ae (S6 _ _ e) l0)];exact S8c _ _ (S58 _ _ e)⟩
def fI(i:Nat):Stmt:=PySem.Challenge.pw_mumtrial_k23_papers_told.main.body.getD i (.Pass ⟨0,0,0,0⟩)
local macro_rules | `(tactic| walk_at "s")=>`(tactic| exact⟨rfl,rfl,rfl,by decide +kernel,rfl,by decide +kernel,by decide +kernel⟩)
local macro_rules | `(tactic| walk_at "l")=>`(tactic| (intro _ _ _ _ h;first|exact len_h h|exact len_g h|(cases h;subst_vars;rfl)|(obtain⟨_,_,h,_⟩:=h;subst h;rfl)|((repeat obtain⟨_,h⟩:=h);subst_vars;rfl)))
theorem zzlS{us:List Value}{n:Nat}(h:us.length=n+1):∃ a t,us=a::t∧t.length=n:=by
  cases us with
  |nil=>cases h
  |cons a t=>exact⟨a,t,rfl,Nat.succ.inj h⟩
local macro_rules | `(tactic| walk_at "b")=>`(tactic| (intro _ _ _ _ _ _ us hl;(repeat (have h:=zzlS hl;clear hl;obtain⟨_,_,e,hl⟩:=h;subst e));cases List.eq_nil_of_length_eq_zero hl;rfl))
def IU(K:Za)(x qual:Str)(st:Stmt)(f:Addr):Prop:=∃(oc:Value) (od an:Option Addr) (sl:Array (Option Value)) (kV dc pm cd ct:Value),
 K.lookup f=some ⟨oc,od,.func (iV x qual (iB st) (gl st) (cb st) .none kV dc pm an cd ct),sl⟩/\nI K cd qual=true/\iN K (.ref f)=true
theorem FB{K:Za}{x qual:Str}{st:Stmt}{f:Addr}{oc:Value}{od an:Option Addr}{sl:Array (Option Value)}{kV dc pm cd ct:Value}(l:K.lookup f=some ⟨oc,od,.func (iV x qual (iB st) (gl st) (cb st) .none kV dc pm an cd ct),sl⟩)
  (c:nI K cd qual=true) (k:iN K (.ref f)=true):IU K x qual st f:=⟨oc,od,an,sl,kV,dc,pm,cd,ct,l,c,k⟩
def io(K:Za)(x:Str)(st:Stmt):Prop:=∃f,cH K ck x=some (some (.ref f))/\IU K x x st f
theorem fnG_mk{K:Za}{x:Str}{st:Stmt}{f:Addr}{oc:Value}{od an:Option Addr}{sl:Array (Option Value)}{kV dc pm cd ct:Value}(a:cH K ck x=some (some (.ref f)))(l:K.lookup f=some ⟨oc,od,.func (iV x x (iB st) (gl st) (cb st) .none kV dc pm an cd ct),sl⟩)
  (c:nI K cd x=true) (k:iN K (.ref f)=true):io K x st:=⟨f,a,FB l c k⟩
def C0(K:Za)(C:Addr)(m qual:Str)(st:Stmt):Prop:=∃f,dF K (.ref C) m=some (some (.ref f))/\yJ K (.ref f)=true/\IU K m qual st f
theorem fnM_mk{K:Za}{C:Addr}{m qual:Str}{st:Stmt}{f:Addr}{oc:Value}{od an:Option Addr}{sl:Array (Option Value)}{kV dc pm cd ct:Value}(a:dF K (.ref C) m=some (some (.ref f)))(i:yJ K (.ref f)=true)
  (l:K.lookup f=some ⟨oc,od,.func (iV m qual (iB st) (gl st) (cb st) .none kV dc pm an cd ct),sl⟩) (c:nI K cd qual=true) (k:iN K (.ref f)=true):C0 K C m qual st:=⟨f,a,i,FB l c k⟩
theorem IU.fun_{K:Za}{x qual:Str}{st:Stmt}{f:Addr}(T:IU K x qual st f):∃fd,Iu K x qual st f fd:=by
 obtain⟨oc,od,an,sl,kV,dc,pm,cd,ct,l,c,k⟩:=T;exact⟨_,Fx (st:=st) l c k⟩
def Ij(K:Za)(a:Addr)(ws:Zb):Prop:=∀H,bc K H a (ws.map V.str)
theorem BY{K:Za}{a:Addr}{ws:Zb}{o:Obj}{its:Array Value}{n:Nat}(l:K.lookup a=some o)(c:o.cls=.type "tuple")(d:o.data=.seq its n)(z:its.size<=ai)(v:bg (ws.map V.str) its.toList):Ij K a ws :=
 fun _=>.inr ⟨o,its,n,l,c,d,z,v⟩
section
variable{P:bT}{w:World}{K:Za}{mg:Str->Option Value}{base h:Heap}{C:Addr}{x qual:Str}{st:Stmt}{N ps:Zb}{k:Nat}{sp:Sp}
abbrev FU(ps:Zb)(sp:Sp):Prop:=∀vs H Q E,sp vs H Q E->vs.length=ps.length
abbrev BodyOk(CX:Ei)(P:bT)(w:World)(K:Za)(mg:Str->Option Value)(base:Heap)(qual:Str)(st:Stmt)(N:Zb)(k:Nat)(sp:Sp)(nox:Cx->Cx):Prop:=N.Nodup->∀(f:Addr) (cdv:Value) (A:Around) (outer:List Env) (s:Shared) (H:Hp) (vs:List V) (Q:VK) (E:XK),eW k (A.deeper (envOfC qual (cb st) s.heap.objs.size f cdv))->(A.deeper (envOfC qual (cb st) s.heap.objs.size f cdv)).units+16<cLine->sp vs H Q E ->
 ∃t,Al (nox (Bs CX P w K mg base N qual (cb st) f cdv A outer s H E)) (gl st) t/\t (bM Q) (start N vs) H
abbrev BJ(x qual:Str)(st:Stmt)(ps:Zb):Prop:=∀(kV doc pm:Value) (an:Option Addr) (cdv ct:Value) (us:Zf),us.length=ps.length->bindArgs (iV x qual (iB st) (gl st) (cb st) .none kV doc pm an cdv ct) ⟨us,[]⟩=pure (ps.zip us)
theorem dG(X:K.In h)(G:h.Ns ck mg)(T:io K x st)(b:BodyOk CX0 P w K mg base x st N k sp Cx.nox)(bi:BJ x x st ps)(S:kF N ps (cb st):=by walk_at "s")(l:FU ps sp:=by walk_at "l"):Def P w K mg base x ps (k+1) sp:=by
 obtain⟨f,a,t⟩:=T;obtain⟨fd,F⟩:=t.fun_;exact⟨f,fd,F.ok S l fun cdv A outer s H vs Q E hr h=>b S.nd f cdv A outer s H vs Q E hr (CH hr) h,ig X G a,F.kp,F.binds bi⟩
theorem dM(cl:C1 K C)(T:C0 K C x qual st)(b:BodyOk CX0 P w K mg base qual st N k sp Cx.nox)(bi:BJ x qual st ps)(S:kF N ps (cb st):=by walk_at "s")(l:FU ps sp:=by walk_at "l"):CZ P w K mg base C x ps (k+1) sp:=by
 obtain⟨f,a,i,t⟩:=T;obtain⟨fd,F⟩:=t.fun_;exact⟨f,fd,F.ok S l fun cdv A outer s H vs Q E hr h=>b S.nd f cdv A outer s H vs Q E hr (CH hr) h,cl,⟨a,i,F.kp⟩,F.binds bi⟩
theorem dN{y:Str}(cm:mg y=some (.ref C))(mk:sm K C=true)(kc:iN K (.ref C)=true)(T:C0 K C "__init__" qual st)(b:BodyOk CX0 P w K mg base qual st N k sp Cx.nox)(bi:BJ "__init__" qual st ps)(S:kF N ps (cb st):=by walk_at "s")(l:FU ps sp:=by walk_at "l"):Jj P w K mg base y C ps (k+1) sp:=by
 obtain⟨f,a,i,t⟩:=T;obtain⟨fd,F⟩:=t.fun_;exact⟨f,fd,F.ok S l fun cdv A outer s H vs Q E hr h=>b S.nd f cdv A outer s H vs Q E hr (CH hr) h,cm,⟨mk,a,i,kc⟩,F.binds bi⟩
end
structure Zs(mg:Str->Option Value):Prop where
 all:mg "all"=none
 any:mg "any"=none
 dict:mg "dict"=none
 enumerate:mg "enumerate"=none
 isinstance:mg "isinstance"=none
 len:mg "len"=none
 list:mg "list"=none
 max:mg "max"=none
 range:mg "range"=none
 str:mg "str"=none
 tuple:mg "tuple"=none
 zip:mg "zip"=none
structure Cs(K:Za)(mg:Str->Option Value)(C Cf a_STILL a_HUSH:Addr):Prop where
 LETTERS:Gc mg "LETTERS" (.str "abcdefghijklmnopqrstuvwxyz")
 LONGEST_NAME:Gc mg "LONGEST_NAME" (.int 8)
 MOST_WORDS:Gc mg "MOST_WORDS" (.int 4)
 MOST_ROOMS:Gc mg "MOST_ROOMS" (.int 150)
 MOST_DOORS:Gc mg "MOST_DOORS" (.int 2000)
 MOST_FACES:Gc mg "MOST_FACES" (.int 400)
 STILL:Gc mg "STILL" (.ref a_STILL)
 HUSH:Gc mg "HUSH" (.ref a_HUSH)
 still:Ij K a_STILL ao
 hush:Ij K a_HUSH aV
 mc:MC K C
 cm:mg "Machine"=some (.ref C)
 makes:sm K C=true
 kc:iN K (.ref C)=true
 fc:FC K Cf
 cmf:mg "FaceMap"=some (.ref Cf)
 makesf:sm K Cf=true
 kcf:iN K (.ref Cf)=true
structure Ts(K:Za)(C Cf:Addr):Prop where
 f_law_spread:io K "_law_spread" (fI 49)
 f_law_open:io K "_law_open" (fI 50)
 f_law_anew:io K "_law_anew" (fI 51)
 f_law_take:io K "_law_take" (fI 52)
 f_law_names:io K "_law_names" (fI 53)
 f_law_put:io K "_law_put" (fI 54)
 f_law_draw_doors:io K "_law_draw_doors" (fI 55)
 f_law_model:io K "_law_model" (fI 56)
 f_is_name:io K "is_name" (fI 23)
 f_as_keys:io K "as_keys" (fI 24)
 f_first_wrong_name:io K "first_wrong_name" (fI 25)
 f_door_signs:io K "door_signs" (fI 26)
 f_first_wrong_door:io K "first_wrong_door" (fI 27)
 f_goals_by_start_and_sign:io K "goals_by_start_and_sign" (fI 28)
 f_led_by_still:io K "led_by_still" (fI 29)
 f_first_led_round:io K "first_led_round" (fI 30)
 f_need_none:io K "need_none" (fI 31)
 f_need_parts:io K "need_parts" (fI 32)
 f_doors_by_start:io K "doors_by_start" (fI 33)
 f_has_asks_alone:io K "has_asks_alone" (fI 34)
 f_Machine___init__:C0 K C "__init__" "Machine.__init__" (gh (fI 35) 0)
 f_law_machine:io K "_law_machine" (fI 62)
 f_Machine_rooms:C0 K C "rooms" "Machine.rooms" (gh (fI 35) 3)
 f_Machine_led_from:C0 K C "led_from" "Machine.led_from" (gh (fI 35) 8)
 f_with_still:io K "with_still" (fI 9)
 f_Machine_goals:C0 K C "goals" "Machine.goals" (gh (fI 35) 7)
 f_Machine_is_quiet:C0 K C "is_quiet" "Machine.is_quiet" (gh (fI 35) 5)
 f_law_still_on:io K "_law_still_on" (fI 57)
 f_law_on:io K "_law_on" (fI 63)
 f_law_is_quiet:io K "_law_is_quiet" (fI 64)
 f_law_behind:io K "_law_behind" (fI 65)
 f_Machine_asks:C0 K C "asks" "Machine.asks" (gh (fI 35) 1)
 f_Machine_says:C0 K C "says" "Machine.says" (gh (fI 35) 2)
 f_first_face:io K "first_face" (fI 10)
 f_face_behind:io K "face_behind" (fI 11)
 f_signs_in_order:io K "signs_in_order" (fI 8)
 f_steps_at:io K "steps_at" (fI 12)
 f_FaceMap_number_at:C0 K Cf "number_at" "FaceMap.number_at" (gh (fI 15) 1)
 f_FaceMap_numbered_steps:C0 K Cf "numbered_steps" "FaceMap.numbered_steps" (gh (fI 15) 2)
 f_FaceMap___init__:C0 K Cf "__init__" "FaceMap.__init__" (gh (fI 15) 0)
 f_takes:io K "takes" (fI 38)
 f_need_match:io K "need_match" (fI 37)
 f_need_all_asks_taken:io K "need_all_asks_taken" (fI 39)
 f_need_taker:io K "need_taker" (fI 40)
 f_Machine_doors_from:C0 K C "doors_from" "Machine.doors_from" (gh (fI 35) 6)
 f_story_to:io K "story_to" (fI 41)
 f_least_fault:io K "least_fault" (fI 42)
 f_rows_needed:io K "rows_needed" (fI 43)
 f_paper_of:io K "paper_of" (fI 44)
 f_keeps:io K "keeps" (fI 45)
 f_law_willing:io K "_law_willing" (fI 58)
 f_law_turned:io K "_law_turned" (fI 59)
 f_law_renamed:io K "_law_renamed" (fI 60)
 f_law_near:io K "_law_near" (fI 61)
 f_is_full_face:io K "is_full_face" (fI 46)
 f_is_keeping:io K "is_keeping" (fI 47)
 f_law_row_stands:io K "_law_row_stands" (fI 66)
 f_law_paper_stands:io K "_law_paper_stands" (fI 67)
 f_law_is_paper:io K "_law_is_paper" (fI 68)
 f_law23:io K "law" (fI 69)
section
variable{P:bT}{w:World}{K:Za}{mg:Str->Option Value}{base h:Heap}{C Cf a_STILL a_HUSH:Addr}
section
variable(P:bT)(w:World)(K:Za)(mg:Str->Option Value)(C Cf a_STILL a_HUSH:Addr)
abbrev kJ:Prop:=∀base,Def P w K mg base "_law_spread" ["cell","at"] 1 mx
abbrev uK:Prop:=∀base,Def P w K mg base "_law_open" ["script"] 1 (rW K)
abbrev kL:Prop:=∀base,Def P w K mg base "_law_anew" ["pen"] 1 r9
abbrev dX:Prop:=∀base,Def P w K mg base "_law_take" ["pen","many"] 2 fy
abbrev jq:Prop:=∀base,Def P w K mg base "_law_names" ["pen","many"] 3 lG
abbrev j7:Prop:=∀base,Def P w K mg base "_law_put" ["doors","door"] 1 ki
abbrev gZ:Prop:=∀base,Def P w K mg base "_law_draw_doors" ["pen","asks","says","rooms","full"] 3 hC
abbrev rA:Prop:=∀base,Def P w K mg base "_law_model" ["pen","most","full"] 4 o0
abbrev qR:Prop:=∀base,Def P w K mg base "is_name" ["text"] 1 sp_is_name
abbrev i8:Prop:=∀base,Def P w K mg base "as_keys" ["things"] 1 (tN K)
abbrev j8:Prop:=∀base,Def P w K mg base "as_keys" ["things"] 1 (sp_as_keys K)
abbrev fE:Prop:=∀base,Def P w K mg base "first_wrong_name" ["names","most","taken"] 2 (sp_first_wrong_name K)
abbrev kM:Prop:=∀base,Def P w K mg base "door_signs" ["asks","says"] 1 (sp_door_signs K)
abbrev fF:Prop:=∀base,Def P w K mg base "first_wrong_door" ["doors","rooms","signs"] 2 (sp_first_wrong_door K)
abbrev da:Prop:=∀base,Def P w K mg base "goals_by_start_and_sign" ["doors"] 1 o5
abbrev i5:Prop:=∀base,Def P w K mg base "led_by_still" ["goals","room"] 1 xF
abbrev gB:Prop:=∀base,Def P w K mg base "first_led_round" ["rooms","led"] 1 sp_first_led_round
abbrev jp:Prop:=∀base,Def P w K mg base "need_none" ["part","number"] 1 sp_need_none
abbrev kG:Prop:=∀base,Def P w K mg base "need_parts" ["asks","says","rooms","doors"] 3 sp_need_parts
abbrev g6:Prop:=∀base,Def P w K mg base "doors_by_start" ["rooms","doors"] 1 sp_doors_by_start
abbrev g0:Prop:=∀base,Def P w K mg base "has_asks_alone" ["doors"] 1 sp_has_asks_alone
abbrev qS:Prop:=∀base,Jj P w K mg base "Machine" C ["self","asks","says","rooms","doors"] 4 (rY C)
abbrev nz:Prop:=∀base,Def P w K mg base "_law_machine" ["told"] 6 (km C)
abbrev cn:Prop:=∀base,CZ P w K mg base C "rooms" ["self"] 1 (fT C)
abbrev dY:Prop:=∀base,CZ P w K mg base C "led_from" ["self","room"] 1 (hW C)
abbrev iF:Prop:=∀base,Def P w K mg base "with_still" ["M","rooms"] 2 (sp_with_still C)
abbrev fz:Prop:=∀base,CZ P w K mg base C "goals" ["self","room","sign"] 1 (iJ C)
abbrev dZ:Prop:=∀base,CZ P w K mg base C "is_quiet" ["self","room"] 1 (hZ C)
abbrev eR:Prop:=∀base,Def P w K mg base "_law_still_on" ["doors","rooms"] 1 (eK K)
abbrev pU:Prop:=∀base,Def P w K mg base "_law_on" ["told","some"] 2 zb
abbrev gA:Prop:=∀base,Def P w K mg base "_law_is_quiet" ["told","room"] 1 jQ
abbrev kK:Prop:=∀base,Def P w K mg base "_law_behind" ["told","face","sign"] 3 (r8 K)
abbrev eT:Prop:=∀base,CZ P w K mg base C "asks" ["self"] 1 (mB C)
abbrev gC:Prop:=∀base,CZ P w K mg base C "says" ["self"] 1 (oX C)
abbrev iH:Prop:=∀base,Def P w K mg base "first_face" ["M"] 3 (cz C)
abbrev jI:Prop:=∀base,Def P w K mg base "face_behind" ["M","face","sign"] 3 (o6 K C)
abbrev gW:Prop:=∀base,Def P w K mg base "signs_in_order" ["M"] 2 (xE C a_HUSH)
abbrev jo:Prop:=∀base,Def P w K mg base "steps_at" ["M","face"] 4 (hV K C)
abbrev oE:Prop:=∀base,Def P w K mg base "steps_at" ["M","face"] 4 (kh C)
abbrev dE:Prop:=∀base,CZ P w K mg base Cf "number_at" ["self","face","story"] 1 (lF K Cf)
abbrev dA:Prop:=∀base,CZ P w K mg base Cf "numbered_steps" ["self","number"] 5 (jg K Cf C)
abbrev qT:Prop:=∀base,Jj P w K mg base "FaceMap" Cf ["self","M"] 6 (mz K Cf C)
abbrev yH:Prop:=∀base,Def P w K mg base "takes" ["I","room","ask"] 2 (jO C)
abbrev kH:Prop:=∀base,Def P w K mg base "need_match" ["M","I"] 2 (fU C)
abbrev eD:Prop:=∀base,Def P w K mg base "need_all_asks_taken" ["I"] 4 (iw C)
abbrev iG:Prop:=∀base,Def P w K mg base "need_taker" ["M","I"] 5 (eL C)
abbrev eS:Prop:=∀base,CZ P w K mg base C "doors_from" ["self","room"] 1 (hE C)
abbrev oC:Prop:=∀base,Def P w K mg base "story_to" ["came","place"] 1 (fD K)
abbrev jF:Prop:=∀base,Def P w K mg base "least_fault" ["model_steps","machine_steps"] 2 (g_ K)
abbrev gy:Prop:=∀base,Def P w K mg base "rows_needed" ["I","room","face","steps"] 2 (jP K C)
abbrev jE:Prop:=∀base,Def P w K mg base "rows_needed" ["I","room","face","steps"] 2 (oY K C)
abbrev oF:Prop:=∀base,Def P w K mg base "paper_of" ["model","I"] 3 (my K Cf C)
abbrev C2:Prop:=∀base,Def P w K mg base "keeps" ["M","I"] 8 (jR K C)
abbrev jG:Prop:=∀base,Def P w K mg base "_law_willing" ["pen","told"] 3 kg
abbrev kI:Prop:=∀base,Def P w K mg base "_law_turned" ["pen","told"] 3 mw
abbrev jH:Prop:=∀base,Def P w K mg base "_law_renamed" ["pen","told"] 4 jf
abbrev uL:Prop:=∀base,Def P w K mg base "_law_near" ["pen","told","most"] 5 rX
abbrev i7:Prop:=∀base,Def P w K mg base "is_full_face" ["M","face"] 2 (rZ K C)
abbrev pV:Prop:=∀base,Def P w K mg base "is_keeping" ["M","I","paper"] 6 (ko K C)
abbrev gX:Prop:=∀base,Def P w K mg base "_law_row_stands" ["told","some","rows","room","face"] 4 (oZ K)
abbrev i6:Prop:=∀base,Def P w K mg base "_law_paper_stands" ["told","some","paper"] 5 (kj K)
abbrev mq:Prop:=∀base,Def P w K mg base "_law_is_paper" ["paper"] 1 (kq K)
end
section
variable(X:K.In h)(G:h.Ns ck mg)(z:Zs mg)(c:Cs K mg C Cf a_STILL a_HUSH)(T:Ts K C Cf)
include X G z c T
theorem u4:kJ P w K mg:=fun base=>dG X G T.f_law_spread (fun S _ _ _ _ _ _ _ _ _ hr hu h=>bK (Dj (K:=K) h) (ab (bx (g8 IE (pv 0) (bf EY ah ah)) (af (av (pv 0))) aJ) (ab (qs 2 S (bf gQ (bf dz (bf dz (bf iZ (bf gQ (pv 0) ah) ah) (bf iZ (pv 1) ah)) ah) ah)) (ab (qs 3 S (bf gQ (bf dz (bf dz (bf iZ (pv 2) (pv 2)) (bf iZ (pv 1) ah)) (bf gQ (pv 0) ah)) ah)) (ab (qs 4 S (bf gQ (bf dz (bf dz (bf iZ (pv 3) (pv 3)) (bf iZ (pv 2) ah)) ah) ah)) (af (av (bf dz (bf iZ (bf dz (bf iZ (pv 2) ah) (pv 3)) ah) (pv 4))))))))) (by walk_at "b")
theorem y3:uK P w K mg:=fun base=>dG X G T.f_law_open (fun S _ _ _ _ _ _ _ _ _ hr hu h=>bK (Gx h) (ab (qs 1 S (qL rfl z.list (a1 (dh fV (pv 0) f_ (dg ah))))) (ab (bH bh rfl (pf rfl z.enumerate (a1 (dh fV (pv 0) (dg ah) (dg ah)))) (c8 rfl (au (gn 2 S) (au (gn 3 S) cq))) (af (iY (bf dz (xl (pv 1) (bf gQ (pv 2) ah)) (pv 3)) (tZ (pv 1) (bf gQ (pv 2) ah) lJ)))) (af (av (bO (a3 (pv 1) ah ah))))))) (by walk_at "b")
theorem y6:kL P w K mg:=fun base=>dG X G T.f_law_anew (fun S _ _ _ _ _ _ _ _ _ hr hu h=>bK (GD (K:=K) h) (ab (iY ah (tZ (pv 0) ah lJ)) (af (av (pv 0))))) (by walk_at "b")
theorem yZ(D_law_spread:kJ P w K mg):dX P w K mg:=fun base=>dG X G T.f_law_take (fun S _ _ _ _ _ _ _ _ _ hr hu h=>bK (Gv h) (ab (bx (g8 t8 (xl (pv 0) ah) (pv 1)) (ab (qs 2 S (xl (pv 0) ah)) (ab (qs 3 S ah) (ab (bx (g8 t8 (pv 2) (ql z.len (a1 (xl (pv 0) ah)))) (af (qs 3 S (xl (xl (pv 0) ah) (pv 2)))) (af (bx (g8 vT (ql z.len (a1 (xl (pv 0) ah))) ah) (af (qs 3 S (bf gQ (xl (xl (pv 0) ah) (bf gQ (bf dz (bf iZ (pv 2) ah) ah) (ql z.len (a1 (xl (pv 0) ah))))) (bf dz (bf EY ah ah) (pv 2))))) aJ))) (ab (iY (bf dz (pv 2) ah) (tZ (pv 0) ah lJ)) (af (iY (qf hr (D_law_spread base) (a2 (pv 3) (pv 2))) (tZ (pv 0) ah lJ))))))) aJ) (ab (qs 4 S (bf gQ (xl (pv 0) ah) (pv 1))) (ab (iY (bf Ct (xl (pv 0) ah) (pv 1)) (tZ (pv 0) ah lJ)) (af (av (pv 4))))))) (by walk_at "b")
theorem xz(D_law_take:dX P w K mg):jq P w K mg:=fun base=>dG X G T.f_law_names (fun S _ _ _ _ _ _ _ _ _ hr hu h=>bK (EG h) (ab (qs 2 S bJ) (ab (qs 3 S (gb PySem.F.plainAttrs_str PySem.F.slot_str_join PySem.F.type_str_join GY bJ (a1 (qc (iK rfl z.range (a1 ah)) (bC (by decide)) fun _ _ _ _ _ _=>⟨gc 0,dJ,xs' (pv 1) (qf hr (D_law_take base) (a2 (pv 2) ah))⟩)))) (ab (qs 4 S (qf hr (D_law_take base) (a2 (pv 0) ah))) (ab (qs 5 S (qf hr (D_law_take base) (a2 (pv 0) ah))) (ab (qs 6 S (qf hr (D_law_take base) (a2 (pv 0) ah))) (ab (qs 7 S (bO cw)) (ab (bH bh rfl (iK rfl z.range (a1 (pv 1))) (gn 8 S) (ab (qs 9 S (xs' (pv 2) (bf gQ (bf dz (pv 5) (bf iZ ah (pv 8))) ah))) (ab (qs 10 S (dh AJ (pv 3) f_ (dg (bf gQ (bf dz (pv 6) (bf iZ (pv 8) (bf gQ (pv 4) ah))) ah)))) (ab (qs 11 S (xl (bO (a3 ah (ql z.len (a1 (pv 10))) (bf Ct (ql z.len (a1 (pv 10))) ah))) (pv 4))) (af (aU (gb dq fB fA cf (pv 7) (a1 (bf t9 (bf t9 (dh AJ (pv 10) f_ (dg (pv 11))) (pv 9)) (dh AJ (pv 10) (dg (pv 11)) f_)))))))))) (af (av (pv 7))))))))))) (by walk_at "b")
theorem AC:j7 P w K mg:=fun base=>dG X G T.f_law_put (fun S _ _ _ _ _ _ _ _ _ hr hu h=>bK (HP h) (af (bx (Gh (jX hu) (pv 1) (pv 0)) (af (aU (gb dq fB fA cf (pv 0) (a1 (pv 1))))) aJ))) (by walk_at "b")
theorem oT(D_law_take:dX P w K mg)(D_law_put:j7 P w K mg):gZ P w K mg:=fun base=>dG X G T.f_law_draw_doors (fun S _ _ _ _ _ _ _ _ _ hr hu h=>bK (vh h) (ab (qs 5 S (bO cw)) (ab (qs 6 S (qf hr (D_law_take base) (a2 (pv 0) ah))) (ab (bH bh rfl (pf rfl z.enumerate (a1 (pv 3))) (c8 rfl (au (gn 7 S) (au (gn 8 S) cq))) (ab (bH bh rfl (iK rfl z.range (a1 (xl (bO (bX ah (a3 ah ah ah))) (qf hr (D_law_take base) (a2 (pv 0) ah))))) (gn 9 S) (ab (qs 10 S (aG (a2 bJ (xl (pv 2) (qf hr (D_law_take base) (a2 (pv 0) (ql z.len (a1 (pv 2))))))))) (af (aU (qf hr (D_law_put base) (a2 (pv 5) (aG (a3 (pv 8) (pv 10) (xl (pv 3) (qf hr (D_law_take base) (a2 (pv 0) (ql z.len (a1 (pv 3)))))))))))))) (ab (bH bh rfl (aW (pv 1)) (gn 11 S) (af (bH bh rfl (iK rfl z.range (a1 (xl (bO (bX (pv 4) (a3 ah ah ah))) (qf hr (D_law_take base) (a2 (pv 0) ah))))) (gn 9 S) (af (aU (qf hr (D_law_put base) (a2 (pv 5) (aG (a3 (pv 8) (aG (a2 bJ (pv 11))) (xl (pv 3) (qf hr (D_law_take base) (a2 (pv 0) (ql z.len (a1 (pv 3))))))))))))))) (ab (qs 12 S (xl (bO (a2 (dh fV (pv 3) (dg (bf dz (pv 7) ah)) f_) (dh fV (pv 3) f_ (dg (pv 7))))) (pv 6))) (af (bx (PW.pt (fX (g8 (lS hu) (pv 12) (bO cw)) (fW (g8 ir (qf hr (D_law_take base) (a2 (pv 0) ah)) ah)))) (af (aU (qf hr (D_law_put base) (a2 (pv 5) (aG (a3 (pv 8) (aG (a1 bJ)) (xq (pv 12) (qf hr (D_law_take base) (a2 (pv 0) (ql z.len (a1 (pv 12)))))))))))) aJ)))))) (af (av (pv 5))))))) (by walk_at "b")
theorem xA(D_law_anew:kL P w K mg)(D_law_take:dX P w K mg)(D_law_names:jq P w K mg)(D_law_draw_doors:gZ P w K mg):rA P w K mg:=fun base=>dG X G T.f_law_model (fun S _ _ _ _ _ _ _ _ _ hr hu h=>bK (EH h) (ab (aU (qf hr (D_law_anew base) (a1 (pv 0)))) (ab (qs 3 S (qf hr (D_law_names base) (a2 (pv 0) ah))) (ab (qs 4 S (dh fV (pv 3) f_ (dg (bf dz ah (xl (bO (bX ah (bX ah (bX ah (a3 ah ah ah))))) (qf hr (D_law_take base) (a2 (pv 0) ah))))))) (ab (qs 5 S (dh fV (pv 3) (dg ah) (dg (bf dz ah (xl (bO (bX ah (bX ah (bX ah (a3 ah ah ah))))) (qf hr (D_law_take base) (a2 (pv 0) ah))))))) (ab (qs 6 S (qf hr (D_law_names base) (a2 (pv 0) (bf dz ah (qf hr (D_law_take base) (a2 (pv 0) (pv 1))))))) (ab (qs 7 S (qf hr (D_law_draw_doors base) (bX (pv 0) (bX (pv 4) (a3 (pv 5) (pv 6) (pv 2)))))) (af (av (aG (bX (pv 4) (a3 (pv 5) (pv 6) (pv 7))))))))))))) (by walk_at "b")
theorem AD:qR P w K mg:=fun base=>dG X G T.f_is_name (fun S _ _ _ _ _ _ _ _ _ hr hu h=>bK (AV h) (af (av (xO (Hz t6 (pv 0) bJ) (xO (Hz ID (ql z.len (a1 (pv 0))) (jU rfl c.LONGEST_NAME)) (A6 (qB (me rfl) z.all boot_all (a1 (qc (HU (pv 0)) (bC (by decide)) fun _ _ _ _ _ _=>⟨gc 0,dJ,eci A_ (pv 0) (jU rfl c.LETTERS)⟩))))))))) (by walk_at "b")
theorem y8:i8 P w K mg:=fun base=>dG X G T.f_as_keys (N:=wm) (fun S _ _ _ _ _ _ _ _ _ hr hu h=>by rcases h with h|h|h;(exact bK (AX h) (ab (qs 1 S jV) (ab (bH bh rfl (aW (pv 0)) (gn 2 S) (af (fZ hu (pv 1) (pv 2) cQ rfl))) (af (av (pv 1))))));(exact bK (zo h) (ab (qs 1 S h_) (ab (bH bh rfl (aW (pv 0)) (gn 2 S) (af (fZ hu (pv 1) (pv 2) cQ rfl))) (af (av (pv 1))))));(exact bK (zq h) (ab (qs 1 S jV) (ab (bH bh rfl (xK (pv 0)) (gn 2 S) (af (fZ hu (pv 1) (pv 2) cQ rfl))) (af (av (pv 1))))))) (by walk_at "b") (l:=fun vs H Q E h=>by rcases h with h|h|h<;>(cases h;subst_vars;rfl))
theorem AE(D_as_keysX:i8 P w K mg):j8 P w K mg:=fun base=>Def.weak (D_as_keysX base) (fun _ _ _ _ h=>.inl h)
theorem mQ(D_is_name:qR P w K mg)(D_as_keys:j8 P w K mg):fE P w K mg:=fun base=>dG X G T.f_first_wrong_name (fun S _ _ _ _ _ _ _ _ _ hr hu h=>bK (mT h) (ab (bx (g8 ir (ql z.len (a1 (pv 0))) ah) (af (av ah)) aJ) (ab (qs 3 S (qf hr (D_as_keys base) (a1 (pv 2)))) (ab (bH bh rfl (pf rfl z.enumerate (a1 (pv 0))) (c8 rfl (au (gn 4 S) (au (gn 5 S) cq))) (ab (bx (PW.pt (gJ (g8 ir (pv 4) (pv 1)) (gJ (c7 (jz hu (pv 5) (pv 3))) (ij (ik (eM (qf hr (D_is_name base) (a1 (pv 5))))))))) (af (av (pv 4))) aJ) (af (fZ hu (pv 3) (pv 5) cQ rfl)))) (af (av t4)))))) (by walk_at "b")
theorem u8:kM P w K mg:=fun base=>dG X G T.f_door_signs (fun S _ _ _ _ _ _ _ _ _ hr hu h=>bK (vj c.still h) (af (av (bf lT (bf lT (qc (aW (pv 0)) (bC (by decide)) fun _ _ _ _ _ _=>⟨gc 0,dJ,aG (a2 bJ (pv 0))⟩) (qc (aW (pv 1)) (bC (by decide)) fun _ _ _ _ _ _=>⟨gc 0,dJ,aG (a2 bJ (pv 0))⟩)) (bO (a1 (jU rfl c.STILL))))))) (by walk_at "b")
theorem mR(D_as_keys:j8 P w K mg):fF P w K mg:=fun base=>dG X G T.f_first_wrong_door (fun S _ _ _ _ _ _ _ _ _ hr hu h=>bK (mU h) (ab (qs 3 S (qf hr (D_as_keys base) (a1 (pv 1)))) (ab (qs 4 S h_) (ab (bH bh rfl (pf rfl z.enumerate (a1 (pv 0))) (c8 rfl (au (gn 5 S) (au (gn 6 S) cq))) (ab (bx (PW.pt (gJ (g8 ir (pv 5) (jU rfl c.MOST_DOORS)) (ij (c7 (jz hu (pv 6) (pv 4)))))) (af (av (pv 5))) aJ) (ab (bx (PW.pt (gJ (c7 (cM hu (xq (pv 6) ah) (pv 3))) (gJ (Gh (jX hu) (xq (pv 6) ah) (pv 2)) (ij (c7 (cM hu (xq (pv 6) ah) (pv 3))))))) (af (av (pv 5))) aJ) (af (fZ hu (pv 4) (pv 6) cQ rfl))))) (af (av t4)))))) (by walk_at "b")
theorem iW:da P w K mg:=fun base=>dG X G T.f_goals_by_start_and_sign (fun S _ _ _ _ _ _ _ _ _ hr hu h=>bK (iX h) (ab (qs 1 S h_) (ab (bH bh rfl (aW (pv 0)) (c8 rfl (au (gn 2 S) (au (gn 3 S) (au (gn 4 S) cq)))) (af (aU (gb dq fB fA cf (gb PySem.F.plainAttrs_dict PySem.F.slot_dict_setdefault PySem.F.type_dict_setdefault (Dy hu) (pv 1) (a2 (aG (a2 (pv 2) (pv 3))) (bO cw))) (a1 (pv 4)))))) (af (av (pv 1)))))) (by walk_at "b")
theorem rG:i5 P w K mg:=fun base=>dG X G T.f_led_by_still (fun S _ _ _ _ _ _ _ _ _ hr hu h=>bK (rN c.still h) (ab (qs 2 S jV) (ab (qs 3 S (bO (a1 (pv 1)))) (ab (jS bh (g8 vT (ql z.len (a1 (pv 3))) ah) (ab (qs 4 S (xM dq PySem.F.slot_list_pop PySem.F.type_list_pop Fh (pv 3))) (af (bH bh rfl (HV (ph hu (pv 0) (aG (a2 (pv 4) (jU rfl c.STILL))) (aG cw) ⟨rfl,rfl,rfl,rfl⟩)) (gn 5 S) (af (bx (c7 (cM hu (pv 5) (pv 2))) (ab (fZ hu (pv 2) (pv 5) cQ rfl) (af (aU (gb dq fB fA cf (pv 3) (a1 (pv 5)))))) aJ)))))) (af (av (pv 2))))))) (by walk_at "b")
theorem nT:gB P w K mg:=fun base=>dG X G T.f_first_led_round (fun S _ _ _ _ _ _ _ _ _ hr hu h=>bK (nX h) (ab (bH bh rfl (pf rfl z.enumerate (a1 (pv 0))) (c8 rfl (au (gn 2 S) (au (gn 3 S) cq))) (af (bx (c7 (jz hu (pv 3) (eU hu (pv 1) (pv 3) (fun _ _=>rfl)))) (af (av (pv 2))) aJ))) (af (av t4)))) (by walk_at "b")
theorem xy:jp P w K mg:=fun base=>dG X G T.f_need_none (fun S _ _ _ _ _ _ _ _ _ hr hu h=>bK (xH (K:=K) h) (af (bx (c7 (Cn (pv 1))) (af (pe)) aJ))) (by walk_at "b")
theorem uX(D_first_wrong_name:fE P w K mg)(D_door_signs:kM P w K mg)(D_first_wrong_door:fF P w K mg)(D_need_none:jp P w K mg):kG P w K mg:=fun base=>dG X G T.f_need_parts (fun S _ _ _ _ _ _ _ _ _ hr hu h=>bK (vd (K:=K) h) (ab (aU (qf hr (D_need_none base) (a2 bJ (qf hr (D_first_wrong_name base) (a3 (pv 0) (jU rfl c.MOST_WORDS) (bO cw)))))) (ab (aU (qf hr (D_need_none base) (a2 bJ (qf hr (D_first_wrong_name base) (a3 (pv 1) (jU rfl c.MOST_WORDS) (pv 0)))))) (ab (aU (qf hr (D_need_none base) (a2 bJ (qf hr (D_first_wrong_name base) (a3 (pv 2) (jU rfl c.MOST_ROOMS) (bO cw)))))) (af (aU (qf hr (D_need_none base) (a2 bJ (qf hr (D_first_wrong_door base) (a3 (pv 3) (pv 2) (qf hr (D_door_signs base) (a2 (pv 0) (pv 1))))))))))))) (by walk_at "b")
theorem oW:g6 P w K mg:=fun base=>dG X G T.f_doors_by_start (fun S _ _ _ _ _ _ _ _ _ hr hu h=>bK (pd h) (ab (qs 2 S jV) (ab (bH bh rfl (aW (pv 0)) (gn 3 S) (af (fZ hu (pv 2) (pv 3) (bO cw) rfl))) (ab (bH bh rfl (aW (pv 1)) (gn 4 S) (af (aU (gb dq fB fA cf (eU hu (pv 2) (xq (pv 4) ah) (fun _ _=>rfl)) (a1 (pv 4)))))) (af (av (pv 2))))))) (by walk_at "b")
theorem oU:g0 P w K mg:=fun base=>dG X G T.f_has_asks_alone (fun S _ _ _ _ _ _ _ _ _ hr hu h=>bK (pc h) (af (av (qB (me rfl) z.all boot_all (a1 (qc (aW (pv 0)) (bC (by decide)) fun _ _ _ _ _ _=>⟨gc 0,dJ,Hz ir (xq (xq (pv 0) ah) ah) bJ⟩)))))) (by walk_at "b")
theorem AF(D_as_keys:j8 P w K mg)(D_goals_by_start_and_sign:da P w K mg)(D_led_by_still:i5 P w K mg)(D_first_led_round:gB P w K mg)(D_need_none:jp P w K mg)(D_need_parts:kG P w K mg)(D_doors_by_start:g6 P w K mg)(D_has_asks_alone:g0 P w K mg):qS P w K mg C:=fun base=>dN c.cm c.makes c.kc T.f_Machine___init__ (fun S _ _ _ _ _ _ _ _ _ hr hu h=>bK (Gz c.mc h) (ab (aU (qf hr (D_need_parts base) (bX (pv 1) (a3 (pv 2) (pv 3) (pv 4))))) (ab (gP (pv 0) (qL rfl z.list (a1 (pv 1))) rfl) (ab (gP (pv 0) (qL rfl z.list (a1 (pv 2))) rfl) (ab (gP (pv 0) (qL rfl z.list (a1 (pv 3))) rfl) (ab (gP (pv 0) (qL rfl z.list (a1 (pv 4))) rfl) (ab (gP (pv 0) (qf hr (D_doors_by_start base) (a2 (pv 3) (pv 4))) rfl) (ab (gP (pv 0) (qf hr (D_as_keys base) (a1 (qc (aW (pv 3)) (bC (by decide)) fun _ _ _ _ _ _=>⟨gc 0,hJ (eM (qf hr (D_has_asks_alone base) (a1 (eU hu (cp (pv 1) rfl) (pv 0) (fun _ _=>rfl))))),pv 0⟩))) rfl) (ab (gP (pv 0) (qf hr (D_goals_by_start_and_sign base) (a1 (pv 4))) rfl) (ab (gP (pv 0) (fJ (yk rfl) rfl z.dict Bw (a1 (qc (aW (pv 3)) (bC (by decide)) fun _ _ _ _ _ _=>⟨gc 0,dJ,aG (a2 (pv 0) (qf hr (D_led_by_still base) (a2 (cp (pv 1) rfl) (pv 0))))⟩))) rfl) (af (aU (qf hr (D_need_none base) (a2 bJ (qf hr (D_first_led_round base) (a2 (pv 3) (cp (pv 0) rfl))))))))))))))))) (by walk_at "b")
theorem tI(D_Machine:qS P w K mg C):nz P w K mg C:=fun base=>dG X G T.f_law_machine (fun S _ _ _ _ _ _ _ _ _ hr hu h=>bK (AT h) (af (av (A9 (D_Machine base) (hr.mono (by decide)) rfl (bX (qL rfl z.list (a1 (xq (pv 0) ah))) (a3 (qL rfl z.list (a1 (xq (pv 0) ah))) (qL rfl z.list (a1 (xq (pv 0) ah))) (qL rfl z.list (a1 (xq (pv 0) ah))))))))) (by walk_at "b")
theorem qq:cn P w K mg C:=fun base=>dM c.mc.cls T.f_Machine_rooms (fun S _ _ _ _ _ _ _ _ _ hr hu h=>bK (EE c.mc h) (af (av (qL rfl z.list (a1 (cp (pv 0) rfl)))))) (by walk_at "b")
theorem mN:dY P w K mg C:=fun base=>dM c.mc.cls T.f_Machine_led_from (fun S _ _ _ _ _ _ _ _ _ hr hu h=>bK (zj c.mc h) (af (av (qL rfl z.list (a1 (ph hu (cp (pv 0) rfl) (pv 1) (aG cw) ⟨rfl,rfl,rfl,rfl⟩)))))) (by walk_at "b")
theorem uV(M_Machine_rooms:cn P w K mg C)(M_Machine_led_from:dY P w K mg C):iF P w K mg C:=fun base=>dG X G T.f_with_still (fun S _ _ _ _ _ _ _ _ _ hr hu h=>bK (vc h) (ab (qs 2 S jV) (ab (bH bh rfl (aW (pv 1)) (gn 3 S) (af (bx (c7 (cM hu (pv 3) (pv 2))) (ab (fZ hu (pv 2) (pv 3) cQ rfl) (af (bH bh rfl (aW (qm hr (M_Machine_led_from base) (pv 0) (a1 (pv 3)))) (gn 4 S) (af (fZ hu (pv 2) (pv 4) cQ rfl))))) aJ))) (af (av (fJ eA rfl z.tuple eQ (a1 (qc (aW (Cg hr (M_Machine_rooms base) (pv 0))) (bC (by decide)) fun _ _ _ _ _ _=>⟨gc 0,hJ (c7 (jz hu (pv 0) (pv 1))),pv 0⟩)))))))) (by walk_at "b")
theorem qr:fz P w K mg C:=fun base=>dM c.mc.cls T.f_Machine_goals (fun S _ _ _ _ _ _ _ _ _ hr hu h=>bK (Dl c.mc h) (af (av (qL rfl z.list (a1 (ph hu (cp (pv 0) rfl) (aG (a2 (pv 1) (pv 2))) (aG cw) ⟨rfl,rfl,rfl,rfl⟩)))))) (by walk_at "b")
theorem mO:dZ P w K mg C:=fun base=>dM c.mc.cls T.f_Machine_is_quiet (fun S _ _ _ _ _ _ _ _ _ hr hu h=>bK (zm c.mc h) (af (av (xL (jz hu (pv 1) (cp (pv 0) rfl)))))) (by walk_at "b")
theorem rH:eR P w K mg:=fun base=>dG X G T.f_law_still_on (fun S _ _ _ _ _ _ _ _ _ hr hu h=>bK (ze h) (ab (qs 2 S (qL rfl z.list (a1 (pv 1)))) (ab (qs 3 S ah) (ab (jS bh (g8 t8 (pv 3) (ql z.len (a1 (pv 2)))) (ab (bH bh rfl (aW (pv 0)) (c8 rfl (au (gn 4 S) (au (gn 5 S) (au (gn 6 S) cq)))) (af (bx (PW.pt (fX (g8 (gf hu) (pv 4) (xq (pv 2) (pv 3))) (fX (g8 (gf hu) (pv 5) (aG (a1 bJ))) (fW (Gh (jX hu) (pv 6) (pv 2)))))) (af (aU (gb dq fB fA cf (pv 2) (a1 (pv 6))))) aJ))) (af (qs 3 S (bf dz (pv 3) ah))))) (af (av (pv 2))))))) (by walk_at "b")
theorem Dd(D_law_still_on:eR P w K mg):pU P w K mg:=fun base=>dG X G T.f_law_on (fun S _ _ _ _ _ _ _ _ _ hr hu h=>bK (Iz h) (ab (qs 2 S (qf hr (D_law_still_on base) (a2 (xq (pv 0) ah) (pv 1)))) (af (av (fJ eA rfl z.tuple eQ (a1 (qc (aW (xq (pv 0) ah)) (bC (by decide)) fun _ _ _ _ _ _=>⟨gc 0,hJ (Gh (xP hu) (pv 0) (pv 1)),pv 0⟩))))))) (by walk_at "b")
theorem rJ:gA P w K mg:=fun base=>dG X G T.f_law_is_quiet (fun S _ _ _ _ _ _ _ _ _ hr hu h=>bK (Dm h) (af (av (Hz (gf hu) (qc (aW (xq (pv 0) ah)) (bC (by decide)) fun _ _ _ _ _ _=>⟨gc 0,hJ (PW.pt (fX (g8 (gf hu) (xq (pv 0) ah) (pv 1)) (fW (g8 t6 (xq (xq (pv 0) ah) ah) bJ)))),pv 0⟩) (bO cw))))) (by walk_at "b")
theorem u5(D_law_on:pU P w K mg)(D_law_is_quiet:gA P w K mg):kK P w K mg:=fun base=>dG X G T.f_law_behind (fun S _ _ _ _ _ _ _ _ _ hr hu h=>bK (GB h) (ab (bx (g8 (gf hu) (pv 2) (aG (a1 bJ))) (af (av (fJ eA rfl z.tuple eQ (a1 (qc (xK (pv 1)) (bC (by decide)) fun _ _ _ _ _ _=>⟨gc 0,hJ (eM (qf hr (D_law_is_quiet base) (a2 (pv 1) (pv 0)))),pv 0⟩))))) aJ) (af (av (qf hr (D_law_on base) (a2 (pv 0) (qc (aW (xq (pv 0) ah)) (bC (by decide)) fun _ _ _ _ _ _=>⟨gc 0,hJ (PW.pt (fX (Gh (xP hu) (xq (pv 0) ah) (pv 1)) (fW (g8 (gf hu) (xq (pv 0) ah) (pv 2))))),xq (pv 0) ah⟩))))))) (by walk_at "b")
theorem rE:eT P w K mg C:=fun base=>dM c.mc.cls T.f_Machine_asks (fun S _ _ _ _ _ _ _ _ _ hr hu h=>bK (GC c.mc h) (af (av (qL rfl z.list (a1 (cp (pv 0) rfl)))))) (by walk_at "b")
theorem rD:gC P w K mg C:=fun base=>dM c.mc.cls T.f_Machine_says (fun S _ _ _ _ _ _ _ _ _ hr hu h=>bK (Gw c.mc h) (af (av (qL rfl z.list (a1 (cp (pv 0) rfl)))))) (by walk_at "b")
theorem u7(M_Machine_rooms:cn P w K mg C)(D_with_still:iF P w K mg C):iH P w K mg C:=fun base=>dG X G T.f_first_face (fun S _ _ _ _ _ _ _ _ _ hr hu h=>bK (vf h) (af (av (qf hr (D_with_still base) (a2 (pv 0) (dh fV (Cg hr (M_Machine_rooms base) (pv 0)) f_ (dg ah))))))) (by walk_at "b")
theorem tJ(D_with_still:iF P w K mg C)(M_Machine_goals:fz P w K mg C)(M_Machine_is_quiet:dZ P w K mg C):jI P w K mg C:=fun base=>dG X G T.f_face_behind (fun S _ _ _ _ _ _ _ _ _ hr hu h=>bK (EI c.hush h) (ab (bx (g8 (gf hu) (pv 2) (jU rfl c.HUSH)) (af (av (fJ eA rfl z.tuple eQ (a1 (qc (xK (pv 1)) (bC (by decide)) fun _ _ _ _ _ _=>⟨gc 0,hJ (eM (qm hr (M_Machine_is_quiet base) (pv 1) (a1 (pv 0)))),pv 0⟩))))) aJ) (ab (qs 3 S (bO cw)) (ab (bH bh rfl (xK (pv 1)) (gn 4 S) (af (aU (gb dq PySem.F.slot_list_extend PySem.F.type_list_extend Dz (pv 3) (a1 (qm hr (M_Machine_goals base) (pv 0) (a2 (pv 4) (pv 2)))))))) (af (av (qf hr (D_with_still base) (a2 (pv 0) (pv 3))))))))) (by walk_at "b")
theorem oR(M_Machine_asks:eT P w K mg C)(M_Machine_says:gC P w K mg C):gW P w K mg C a_HUSH:=fun base=>dG X G T.f_signs_in_order (fun S _ _ _ _ _ _ _ _ _ hr hu h=>bK (HN h) (af (av (bf lT (bf lT (qc (aW (Cg hr (M_Machine_asks base) (pv 0))) (bC (by decide)) fun _ _ _ _ _ _=>⟨gc 0,dJ,aG (a2 bJ (pv 0))⟩) (qc (aW (Cg hr (M_Machine_says base) (pv 0))) (bC (by decide)) fun _ _ _ _ _ _=>⟨gc 0,dJ,aG (a2 bJ (pv 0))⟩)) (bO (a1 (jU rfl c.HUSH))))))) (by walk_at "b")
theorem xx(D_face_behind:jI P w K mg C)(D_signs_in_order:gW P w K mg C a_HUSH):jo P w K mg C:=fun base=>dG X G T.f_steps_at (fun S _ _ _ _ _ _ _ _ _ hr hu h=>bK (zg c.hush h) (ab (qs 2 S h_) (ab (bH bh rfl (aW (qf hr (D_signs_in_order base) (a1 (pv 0)))) (gn 3 S) (ab (qs 4 S (qf hr (D_face_behind base) (a3 (pv 0) (pv 1) (pv 3)))) (af (bx (g8 vT (ql z.len (a1 (pv 4))) ah) (af (jT hu (pv 2) (pv 3) (pv 4) rfl)) aJ)))) (af (av (pv 2)))))) (by walk_at "b")
theorem yX(D_steps_atQ:jo P w K mg C):oE P w K mg C:=fun base=>Def.weak (D_steps_atQ base) De
theorem lE:dE P w K mg Cf:=fun base=>dM c.fc.cls T.f_FaceMap_number_at (fun S _ _ _ _ _ _ _ _ _ hr hu h=>bK (EF c.fc h) (ab (bx (c7 (cM hu (pv 1) (cp (pv 0) rfl))) (ab (bx (g8 ir (ql z.len (a1 (cp (pv 0) rfl))) (jU rfl c.MOST_FACES)) (af (pe)) aJ) (ab (fZ hu (cp (pv 0) rfl) (pv 1) (ql z.len (a1 (cp (pv 0) rfl))) rfl) (ab (aU (gb dq fB fA cf (cp (pv 0) rfl) (a1 (pv 1)))) (af (aU (gb dq fB fA cf (cp (pv 0) rfl) (a1 (pv 2)))))))) aJ) (af (av (eU hu (cp (pv 0) rfl) (pv 1) (fun _ _=>rfl)))))) (by walk_at "b")
theorem i_(D_steps_at:oE P w K mg C)(M_FaceMap_number_at:dE P w K mg Cf):dA P w K mg C Cf:=fun base=>dM c.fc.cls T.f_FaceMap_numbered_steps (fun S _ _ _ _ _ _ _ _ _ hr hu h=>bK (zi c.fc h) (ab (qs 2 S h_) (ab (bH bh rfl (vP (qf hr (D_steps_at base) (a2 (cp (pv 0) rfl) (xl (cp (pv 0) rfl) (pv 1))))) (c8 rfl (au (gn 3 S) (au (gn 4 S) cq))) (af (jT hu (pv 2) (pv 3) (qm hr (M_FaceMap_number_at base) (pv 0) (a2 (pv 4) (bf lT (xl (cp (pv 0) rfl) (pv 1)) (bO (a1 (pv 3)))))) rfl))) (af (av (pv 2)))))) (by walk_at "b")
theorem AG(D_first_face:iH P w K mg C)(M_FaceMap_number_at:dE P w K mg Cf)(M_FaceMap_numbered_steps:dA P w K mg C Cf):qT P w K mg C Cf:=fun base=>dN c.cmf c.makesf c.kcf T.f_FaceMap___init__ (fun S _ _ _ _ _ _ _ _ _ hr hu h=>bK (Dp c.fc h) (ab (gP (pv 0) (pv 1) rfl) (ab (gP (pv 0) (bO cw) rfl) (ab (gP (pv 0) (bO cw) rfl) (ab (gP (pv 0) h_ rfl) (ab (gP (pv 0) (bO cw) rfl) (ab (aU (qm hr (M_FaceMap_number_at base) (pv 0) (a2 (qf hr (D_first_face base) (a1 (pv 1))) (bO cw)))) (af (jS bh (g8 t8 (ql z.len (a1 (cp (pv 0) rfl))) (ql z.len (a1 (cp (pv 0) rfl)))) (af (aU (gb dq fB fA cf (cp (pv 0) rfl) (a1 (qm hr (M_FaceMap_numbered_steps base) (pv 0) (a1 (ql z.len (a1 (cp (pv 0) rfl)))))))))))))))))) (by walk_at "b")
theorem Ev(M_Machine_led_from:dY P w K mg C)(M_Machine_goals:fz P w K mg C):yH P w K mg C:=fun base=>dG X G T.f_takes (fun S _ _ _ _ _ _ _ _ _ hr hu h=>bK (EB h) (af (av (qB (Ab rfl) z.any boot_any (a1 (qc (aW (bf lT (bO (a1 (pv 1))) (qm hr (M_Machine_led_from base) (pv 0) (a1 (pv 1))))) (bC (by decide)) fun _ _ _ _ _ _=>⟨gc 0,dJ,Hz vT (ql z.len (a1 (qm hr (M_Machine_goals base) (pv 1) (a2 (pv 0) (aG (a2 bJ (pv 2))))))) ah⟩)))))) (by walk_at "b")
theorem uY(M_Machine_asks:eT P w K mg C)(M_Machine_says:gC P w K mg C):kH P w K mg C:=fun base=>dG X G T.f_need_match (fun S _ _ _ _ _ _ _ _ _ hr hu h=>bK (tS h) (af (bx (PW.pt (gJ (g8 (lS hu) (Cg hr (M_Machine_asks base) (pv 0)) (Cg hr (M_Machine_asks base) (pv 1))) (ij (g8 (lS hu) (Cg hr (M_Machine_says base) (pv 0)) (Cg hr (M_Machine_says base) (pv 1)))))) (af (pe)) aJ))) (by walk_at "b")
theorem kb(M_Machine_rooms:cn P w K mg C)(M_Machine_asks:eT P w K mg C)(D_takes:yH P w K mg C):eD P w K mg C:=fun base=>dG X G T.f_need_all_asks_taken (fun S _ _ _ _ _ _ _ _ _ hr hu h=>bK (xI h) (af (bH bh rfl (aW (Cg hr (M_Machine_rooms base) (pv 0))) (gn 1 S) (af (bH bh rfl (aW (Cg hr (M_Machine_asks base) (pv 0))) (gn 2 S) (af (bx (ik (eM (qf hr (D_takes base) (a3 (pv 0) (pv 1) (pv 2))))) (af (pe)) aJ))))))) (by walk_at "b")
theorem uW(D_need_match:kH P w K mg C)(D_need_all_asks_taken:eD P w K mg C):iG P w K mg C:=fun base=>dG X G T.f_need_taker (fun S _ _ _ _ _ _ _ _ _ hr hu h=>bK (tR (K:=K) h) (ab (aU (qf hr (D_need_match base) (a2 (pv 0) (pv 1)))) (af (aU (qf hr (D_need_all_asks_taken base) (a1 (pv 1))))))) (by walk_at "b")
theorem kU:eS P w K mg C:=fun base=>dM c.mc.cls T.f_Machine_doors_from (fun S _ _ _ _ _ _ _ _ _ hr hu h=>bK (vi c.mc h) (af (av (qL rfl z.list (a1 (ph hu (cp (pv 0) rfl) (pv 1) (aG cw) ⟨rfl,rfl,rfl,rfl⟩)))))) (by walk_at "b")
theorem yW:oC P w K mg:=fun base=>dG X G T.f_story_to (fun S _ _ _ _ _ _ _ _ _ hr hu h=>bK (AR h) (ab (qs 2 S (bO cw)) (ab (jS bh (c7 (Cn (eU hu (pv 0) (pv 1) (fun _ _=>rfl)))) (ab (iY (eU hu (pv 0) (pv 1) (fun _ _=>rfl)) (c8 rfl (au (gn 1 S) (au (gn 3 S) cq)))) (af (aU (gb dq fB fA cf (pv 2) (a1 (pv 3))))))) (ab (aU (xM dq PySem.F.slot_list_reverse PySem.F.type_list_reverse Ba (pv 2))) (af (av (pv 2))))))) (by walk_at "b")
theorem tF(D_story_to:oC P w K mg):jF P w K mg:=fun base=>dG X G T.f_least_fault (fun S _ _ _ _ _ _ _ _ _ hr hu h=>bK (ve h) (ab (qs 2 S (vQ hu (aG (a2 ah ah)) t4)) (ab (qs 3 S (bO (a1 (aG (a2 ah ah))))) (ab (qs 4 S ah) (ab (jS bh (g8 t8 (pv 4) (ql z.len (a1 (pv 3)))) (ab (qs 5 S (xl (pv 3) (pv 4))) (ab (HS (i:=4) S rfl (Or.inl rfl) ah Ic) (ab (qs 6 S (xl (pv 0) (xt (pv 5) ah))) (af (bH bh rfl (vP (xl (pv 1) (xt (pv 5) ah))) (c8 rfl (au (gn 7 S) (au (gn 8 S) cq))) (af (bx (c7 (cM hu (pv 7) (pv 6))) (af (bx (g8 t6 (xt (pv 7) ah) bJ) (af (av (aG (a2 (qf hr (D_story_to base) (a2 (pv 2) (pv 5))) (pv 7))))) aJ)) (af (bx (c7 (cM hu (aG (a2 (eU hu (pv 6) (pv 7) (fun _ _=>rfl)) (pv 8))) (pv 2))) (ab (jT hu (pv 2) (aG (a2 (eU hu (pv 6) (pv 7) (fun _ _=>rfl)) (pv 8))) (aG (a2 (pv 5) (pv 7))) rfl) (af (aU (gb dq fB fA cf (pv 3) (a1 (aG (a2 (eU hu (pv 6) (pv 7) (fun _ _=>rfl)) (pv 8)))))))) aJ)))))))))) (af (av t4))))))) (by walk_at "b")
theorem rF(M_Machine_is_quiet:dZ P w K mg C)(M_Machine_doors_from:eS P w K mg C):gy P w K mg C:=fun base=>dG X G T.f_rows_needed (fun S _ _ _ _ _ _ _ _ _ hr hu h=>bK (EC c.hush c.still h) (ab (qs 4 S (bO cw)) (ab (bH bh rfl (aW (qm hr (M_Machine_doors_from base) (pv 0) (a1 (pv 1)))) (c8 rfl (au (gn 5 S) (au (gn 6 S) (au (gn 7 S) cq)))) (af (bx (g8 (gf hu) (pv 6) (jU rfl c.STILL)) (af (aU (gb dq fB fA cf (pv 4) (a1 (aG (a2 (pv 7) (pv 2))))))) (af (bx (PW.pt (gJ (c7 (jz hu (pv 6) (pv 3))) (ij (g8 ir (xt (pv 6) ah) bJ)))) (af (aU (gb dq fB fA cf (pv 4) (a1 (aG (a2 (pv 7) (zD hu (pv 3) (pv 6) ⟨rfl,rfl,rfl,rfl⟩))))))) aJ))))) (ab (bx (eM (qm hr (M_Machine_is_quiet base) (pv 0) (a1 (pv 1)))) (af (aU (gb dq fB fA cf (pv 4) (a1 (aG (a2 (pv 1) (zD hu (pv 3) (jU rfl c.HUSH) ⟨rfl,rfl,rfl,rfl⟩))))))) aJ) (af (av (pv 4))))))) (by walk_at "b")
theorem tE(D_rows_neededV:gy P w K mg C):jE P w K mg C:=fun base=>Def.weak (D_rows_neededV base) Gu
theorem yY(M_Machine_rooms:cn P w K mg C)(D_rows_needed:jE P w K mg C):oF P w K mg C Cf:=fun base=>dG X G T.f_paper_of (fun S _ _ _ _ _ _ _ _ _ hr hu h=>bK (Dk c.fc h) (ab (qs 2 S (aG (a2 (xl (Cg hr (M_Machine_rooms base) (pv 1)) ah) ah))) (ab (qs 3 S (vQ hu (pv 2) cQ)) (ab (qs 4 S (bO (a1 (pv 2)))) (ab (jS bh (g8 vT (ql z.len (a1 (pv 4))) ah) (ab (iY (xM dq PySem.F.slot_list_pop PySem.F.type_list_pop Fh (pv 4)) (c8 rfl (au (gn 5 S) (au (gn 6 S) cq)))) (af (bH bh rfl (aW (qf hr (D_rows_needed base) (bX (pv 1) (a3 (pv 5) (pv 6) (xl (cp (pv 0) rfl) (pv 6)))))) (gn 7 S) (af (bx (c7 (cM hu (pv 7) (pv 3))) (ab (jT hu (pv 3) (pv 7) cQ rfl) (af (aU (gb dq fB fA cf (pv 4) (a1 (pv 7)))))) aJ)))))) (af (av (qc (zC (pv 3)) (Cq (jW (bC (by decide)) eV (jW (bC (by decide)) eV (zG) (j1)) (kz eV (j1)))) fun _ _ _ _ _ _=>⟨c8 rfl (au (gc 0) (au (gc 1) cq)),dJ,aG (a2 (pv 0) (xl (cp (pv 2) rfl) (pv 1)))⟩)))))))) (by walk_at "b")
theorem Ew(D_FaceMap:qT P w K mg C Cf)(D_need_taker:iG P w K mg C)(D_least_fault:jF P w K mg)(D_paper_of:oF P w K mg C Cf):C2 P w K mg C:=fun base=>dG X G T.f_keeps (fun S _ _ _ _ _ _ _ _ _ hr hu h=>bK (Do c.fc h) (ab (aU (qf hr (D_need_taker base) (a2 (pv 0) (pv 1)))) (ab (qs 2 S (A9 (D_FaceMap base) (hr.mono (by decide)) rfl (a1 (pv 0)))) (ab (qs 3 S (qf hr (D_least_fault base) (a2 (cp (pv 2) rfl) (cp (A9 (D_FaceMap base) (hr.mono (by decide)) rfl (a1 (pv 1))) rfl)))) (ab (bx (c7 (HY (pv 3))) (af (av (aG (a2 bJ (qf hr (D_paper_of base) (a2 (pv 2) (pv 1))))))) aJ) (ab (iY (pv 3) (c8 rfl (au (gn 4 S) (au (gn 5 S) cq)))) (af (av (aG (a3 bJ (pv 4) (pv 5))))))))))) (by walk_at "b")
theorem tG(D_law_take:dX P w K mg)(D_law_put:j7 P w K mg)(D_law_still_on:eR P w K mg):jG P w K mg:=fun base=>dG X G T.f_law_willing (fun S _ _ _ _ _ _ _ _ _ hr hu h=>bK (AQ h) (ab (iY (pv 1) (c8 rfl (au (gn 2 S) (au (gn 3 S) (au (gn 4 S) (au (gn 5 S) cq)))))) (ab (qs 5 S (qL rfl z.list (a1 (pv 5)))) (ab (bH bh rfl (aW (pv 4)) (gn 6 S) (af (bH bh rfl (aW (pv 2)) (gn 7 S) (ab (qs 8 S (qf hr (D_law_still_on base) (a2 (pv 5) (bO (a1 (pv 6)))))) (af (bx (g8 (gf hu) (qc (aW (pv 5)) (bC (by decide)) fun _ _ _ _ _ _=>⟨gc 0,hJ (PW.pt (fX (Gh (xP hu) (xq (pv 0) ah) (pv 1)) (fW (g8 (gf hu) (xq (pv 0) ah) (aG (a2 bJ (pv 2))))))),pv 0⟩) (bO cw)) (ab (qs 9 S (xl (bO (a2 (pv 6) (xl (pv 4) (qf hr (D_law_take base) (a2 (pv 0) (ql z.len (a1 (pv 4)))))))) (qf hr (D_law_take base) (a2 (pv 0) ah)))) (af (aU (qf hr (D_law_put base) (a2 (pv 5) (aG (a3 (pv 6) (aG (a2 bJ (pv 7))) (pv 9)))))))) aJ)))))) (af (av (aG (bX (pv 2) (a3 (pv 3) (pv 4) (pv 5)))))))))) (by walk_at "b")
theorem uZ(D_law_take:dX P w K mg)(D_law_put:j7 P w K mg)(D_law_still_on:eR P w K mg):kI P w K mg:=fun base=>dG X G T.f_law_turned (fun S _ _ _ _ _ _ _ _ _ hr hu h=>bK (Di h) (ab (iY (pv 1) (c8 rfl (au (gn 2 S) (au (gn 3 S) (au (gn 4 S) (au (gn 5 S) cq)))))) (ab (qs 5 S (qL rfl z.list (a1 (pv 5)))) (ab (qs 6 S (qf hr (D_law_take base) (a2 (pv 0) ah))) (ab (qs 7 S (qf hr (D_law_take base) (a2 (pv 0) (qB (DZ rfl) z.max PyProof.Rows.boot_max (a2 ah (ql z.len (a1 (pv 5)))))))) (ab (qs 8 S (xl (pv 4) (qf hr (D_law_take base) (a2 (pv 0) (ql z.len (a1 (pv 4))))))) (ab (qs 9 S (xl (pv 4) (qf hr (D_law_take base) (a2 (pv 0) (ql z.len (a1 (pv 4))))))) (ab (bx (g8 ir (pv 6) ah) (af (aU (qf hr (D_law_put base) (a2 (pv 5) (aG (a3 (pv 8) (aG (a2 bJ (xl (pv 3) (qf hr (D_law_take base) (a2 (pv 0) (ql z.len (a1 (pv 3)))))))) (pv 9))))))) (af (bx (g8 ir (pv 6) ah) (af (aU (qf hr (D_law_put base) (a2 (pv 5) (aG (a3 (pv 8) (aG (a2 bJ (xl (pv 2) (qf hr (D_law_take base) (a2 (pv 0) (ql z.len (a1 (pv 2)))))))) (pv 9))))))) (af (bx (PW.pt (fX (g8 t8 (pv 6) ah) (fX (g8 (lS hu) (pv 5) (bO cw)) (fW (g8 t6 (xt (xt (xl (pv 5) (pv 7)) ah) ah) bJ))))) (ab (qs 10 S (gb dq PySem.F.slot_list_pop PySem.F.type_list_pop Fg (pv 5) (a1 (pv 7)))) (af (bx (g8 ir (pv 6) ah) (af (aU (qf hr (D_law_put base) (a2 (pv 5) (aG (a3 (xt (pv 10) ah) (xt (pv 10) ah) (pv 9))))))) aJ))) (af (bx (PW.pt (fX (g8 ir (pv 6) ah) (fW (Gh (jX hu) (pv 8) (qf hr (D_law_still_on base) (a2 (pv 5) (bO (a1 (pv 9))))))))) (af (aU (qf hr (D_law_put base) (a2 (pv 5) (aG (a3 (pv 8) (aG (a1 bJ)) (pv 9))))))) aJ))))))) (af (av (aG (bX (pv 2) (a3 (pv 3) (pv 4) (pv 5)))))))))))))) (by walk_at "b")
theorem tH(D_law_take:dX P w K mg)(D_law_names:jq P w K mg):jH P w K mg:=fun base=>dG X G T.f_law_renamed (fun S _ _ _ _ _ _ _ _ _ hr hu h=>bK (zh h) (ab (iY (pv 1) (c8 rfl (au (gn 2 S) (au (gn 3 S) (au (gn 4 S) (au (gn 5 S) cq)))))) (ab (qs 6 S jV) (ab (bH bh rfl (GL rfl z.zip (a2 (pv 4) (qf hr (D_law_names base) (a2 (pv 0) (ql z.len (a1 (pv 4))))))) (c8 rfl (au (gn 7 S) (au (gn 8 S) cq))) (af (fZ hu (pv 6) (pv 7) (pv 8) rfl))) (ab (qsc 9 S (aW (pv 4)) (bC (by decide)) fun _ _ _ _ _ _=>⟨gc 0,dJ,eU hu (pv 1) (pv 0) (fun _ _=>rfl)⟩) (ab (qs 10 S (bf dz ah (qf hr (D_law_take base) (a2 (pv 0) (ql z.len (a1 (pv 4))))))) (ab (qs 9 S (bf lT (bf lT (dh fV (pv 9) f_ (dg ah)) (dh fV (pv 9) (dg (pv 10)) f_)) (dh fV (pv 9) (dg ah) (dg (pv 10))))) (ab (qsc 5 S (aW (pv 5)) (Cq (jW (bC (by decide)) eV (jW (bC (by decide)) eV (jW (bC (by decide)) eV (zG) (j1)) (kz eV (j1))) (kz eV (kz eV (j1))))) fun _ _ _ _ _ _=>⟨c8 rfl (au (gc 0) (au (gc 1) (au (gc 2) cq))),dJ,aG (a3 (eU hu (pv 3) (pv 0) (fun _ _=>rfl)) (pv 1) (eU hu (pv 3) (pv 2) (fun _ _=>rfl)))⟩) (af (av (aG (bX (pv 2) (a3 (pv 3) (pv 9) (pv 5)))))))))))))) (by walk_at "b")
theorem y4(D_law_anew:kL P w K mg)(D_law_take:dX P w K mg)(D_law_willing:jG P w K mg)(D_law_turned:kI P w K mg)(D_law_renamed:jH P w K mg):uL P w K mg:=fun base=>dG X G T.f_law_near (fun S _ _ _ _ _ _ _ _ _ hr hu h=>bK (Gy (K:=K) h) (ab (aU (qf hr (D_law_anew base) (a1 (pv 0)))) (ab (bH bh rfl (iK rfl z.range (a1 (qf hr (D_law_take base) (a2 (pv 0) (bf dz (pv 2) ah))))) (gn 3 S) (af (qs 1 S (qf hr (D_law_turned base) (a2 (pv 0) (pv 1)))))) (ab (qs 1 S (qf hr (D_law_willing base) (a2 (pv 0) (pv 1)))) (ab (bx (g8 ir (qf hr (D_law_take base) (a2 (pv 0) ah)) ah) (af (qs 1 S (qf hr (D_law_renamed base) (a2 (pv 0) (pv 1))))) aJ) (af (av (pv 1)))))))) (by walk_at "b")
theorem rL(D_as_keysX:i8 P w K mg)(M_Machine_rooms:cn P w K mg C):i7 P w K mg C:=fun base=>dG X G T.f_is_full_face (fun S _ _ _ _ _ _ _ _ _ hr hu h=>bK (GA h) (ab (qs 2 S (qf hr (D_as_keysX base) (a1 (pv 1)))) (af (av (xO (Hz vT (ql z.len (a1 (pv 1))) ah) (A6 (Hz (gf hu) (pv 1) (fJ eA rfl z.tuple eQ (a1 (qc (aW (Cg hr (M_Machine_rooms base) (pv 0))) (bC (by decide)) fun _ _ _ _ _ _=>⟨gc 0,hJ (c7 (jz hu (pv 0) (pv 1))),pv 0⟩)))))))))) (by walk_at "b")
theorem u6(D_as_keysX:i8 P w K mg)(M_Machine_rooms:cn P w K mg C)(D_first_face:iH P w K mg C)(D_steps_atQ:jo P w K mg C)(D_need_taker:iG P w K mg C)(D_rows_neededV:gy P w K mg C)(D_is_full_face:i7 P w K mg C):pV P w K mg C:=fun base=>dG X G T.f_is_keeping (fun S _ _ _ _ _ _ _ _ _ hr hu h=>bK (AU h) (ab (aU (qf hr (D_need_taker base) (a2 (pv 0) (pv 1)))) (ab (qs 3 S (qf hr (D_as_keysX base) (a1 (pv 2)))) (ab (qs 4 S (qf hr (D_as_keysX base) (a1 (Cg hr (M_Machine_rooms base) (pv 1))))) (ab (qs 5 S h_) (ab (bH bh rfl (zC (pv 3)) (c8 rfl (au (gn 6 S) (au (gn 7 S) cq))) (ab (bx (c7 (cM hu (pv 7) (pv 5))) (ab (bx (ik (eM (qf hr (D_is_full_face base) (a2 (pv 0) (pv 7))))) (af (av cQ)) aJ) (af (jT hu (pv 5) (pv 7) (qf hr (D_steps_atQ base) (a2 (pv 0) (pv 7))) rfl))) aJ) (af (bx (PW.pt (gJ (c7 (cM hu (pv 6) (pv 4))) (ij (ik (eM (qB (me rfl) z.all boot_all (a1 (qc (aW (qf hr (D_rows_neededV base) (bX (pv 1) (a3 (pv 6) (pv 7) (eU hu (pv 5) (pv 7) (fun _ _=>rfl)))))) (bC (by decide)) fun _ _ _ _ _ _=>⟨gc 0,dJ,xL (jz hu (pv 0) (pv 1))⟩)))))))) (af (av cQ)) aJ)))) (af (av (xL (jz hu (aG (a2 (xl (Cg hr (M_Machine_rooms base) (pv 1)) ah) (qf hr (D_first_face base) (a1 (pv 0))))) (pv 3))))))))))) (by walk_at "b")
theorem oS(D_law_is_quiet:gA P w K mg)(D_law_behind:kK P w K mg):gX P w K mg:=fun base=>dG X G T.f_law_row_stands (fun S _ _ _ _ _ _ _ _ _ hr hu h=>bK (ED h) (ab (bH bh rfl (aW (xq (pv 1) ah)) (c8 rfl (au (gn 5 S) (au (gn 6 S) (au (gn 7 S) cq)))) (ab (bx (PW.pt (fX (g8 ir (pv 5) (pv 3)) (fX (g8 (gf hu) (pv 6) (aG (a1 bJ))) (fW (c7 (cM hu (aG (a2 (pv 7) (pv 4))) (pv 2))))))) (af (av cQ)) aJ) (af (bx (PW.pt (fX (g8 ir (pv 5) (pv 3)) (fW (g8 (lS hu) (pv 6) (aG (a1 bJ)))))) (ab (qs 8 S (qf hr (D_law_behind base) (a3 (pv 0) (pv 4) (pv 6)))) (af (bx (PW.pt (gJ (PW.pt (fX (g8 (gf hu) (pv 8) (aG cw)) (fW (g8 ir (xt (pv 6) ah) bJ)))) (ij (PW.pt (fX (g8 (lS hu) (pv 8) (aG cw)) (fW (c7 (cM hu (aG (a2 (pv 7) (pv 8))) (pv 2))))))))) (af (av cQ)) aJ))) aJ)))) (ab (bx (eM (qf hr (D_law_is_quiet base) (a2 (pv 1) (pv 3)))) (ab (qs 8 S (qf hr (D_law_behind base) (a3 (pv 0) (pv 4) (aG (a1 bJ))))) (af (av (xO (Hz (lS hu) (pv 8) (aG cw)) (A6 (xL (jz hu (aG (a2 (pv 3) (pv 8))) (pv 2)))))))) aJ) (af (av cQ))))) (by walk_at "b")
theorem mP(D_law_on:pU P w K mg)(D_law_row_stands:gX P w K mg):i6 P w K mg:=fun base=>dG X G T.f_law_paper_stands (fun S _ _ _ _ _ _ _ _ _ hr hu h=>bK (AS h) (ab (qs 3 S h_) (ab (bH bh rfl (aW (pv 2)) (gn 4 S) (ab (bx (PW.pt (gJ (Gh (jX hu) (xt (pv 4) ah) (xq (pv 1) ah)) (gJ (g8 (gf hu) (xt (pv 4) ah) (aG cw)) (ij (g8 (lS hu) (xt (pv 4) ah) (fJ eA rfl z.tuple eQ (a1 (qc (aW (xq (pv 0) ah)) (bC (by decide)) fun _ _ _ _ _ _=>⟨gc 0,hJ (Gh (xP hu) (pv 0) (xt (pv 1) ah)),pv 0⟩)))))))) (af (av cQ)) aJ) (af (jT hu (pv 3) (pv 4) cQ rfl)))) (ab (bx (c7 (cM hu (aG (a2 (xl (xq (pv 1) ah) ah) (qf hr (D_law_on base) (a2 (pv 0) (dh fV (xq (pv 0) ah) f_ (dg ah)))))) (pv 3))) (af (av cQ)) aJ) (ab (bH bh rfl (aW (pv 2)) (c8 rfl (au (gn 5 S) (au (gn 6 S) cq))) (af (bx (ik (eM (qf hr (D_law_row_stands base) (bX (pv 0) (bX (pv 1) (a3 (pv 3) (pv 5) (pv 6))))))) (af (av cQ)) aJ))) (af (av cQ))))))) (by walk_at "b")
theorem rK:mq P w K mg:=fun base=>dG X G T.f_law_is_paper (fun S _ _ _ _ _ _ _ _ _ hr hu h=>bK (AW h) (ab (bx (ik (eM (qB ma z.isinstance mf (a2 (pv 0) (A2 rfl z.list))))) (af (av cQ)) aJ) (ab (bH bh rfl (aW (pv 0)) (gn 1 S) (af (bx (PW.pt (gJ (ik (eM (qB ma z.isinstance mf (a2 (pv 1) (lR rfl z.tuple))))) (gJ (g8 t6 (ql z.len (a1 (pv 1))) ah) (gJ (ik (eM (qB ma z.isinstance mf (a2 (xt (pv 1) ah) (Du rfl z.str))))) (ij (ik (eM (qB ma z.isinstance mf (a2 (xt (pv 1) ah) (lR rfl z.tuple)))))))))) (af (av cQ)) aJ))) (af (av cQ))))) (by walk_at "b")
end
theorem Ia(X:K.In h)(G:h.Ns ck mg)(z:Zs mg)(c:Cs K mg C Cf a_STILL a_HUSH)(T:Ts K C Cf):∃f fd,mg "law"=some (.ref f)/\(∀(s:Shared) (v:Value),sj s fd ⟨[v],[]⟩ [("script",v)])/\∀base:Heap,m_ P w K mg base CX0 9 f fd ["script"] (sp_law23 K):=by
 have D_law_spread:kJ P w K mg:=u4 X G z c T;have D_law_open:uK P w K mg:=y3 X G z c T;have D_law_anew:kL P w K mg:=y6 X G z c T;have D_law_take:dX P w K mg:=yZ X G z c T D_law_spread;have D_law_names:jq P w K mg:=xz X G z c T D_law_take;have D_law_put:j7 P w K mg:=AC X G z c T;have D_law_draw_doors:gZ P w K mg:=oT X G z c T D_law_take D_law_put;have D_law_model:rA P w K mg:=xA X G z c T D_law_anew D_law_take D_law_names D_law_draw_doors;have D_is_name:qR P w K mg:=AD X G z c T;have D_as_keysX:i8 P w K mg:=y8 X G z c T;have D_as_keys:j8 P w K mg:=AE X G z c T D_as_keysX;have D_first_wrong_name:fE P w K mg:=mQ X G z c T D_is_name D_as_keys;have D_door_signs:kM P w K mg:=u8 X G z c T;have D_first_wrong_door:fF P w K mg:=mR X G z c T D_as_keys;have D_goals_by_start_and_sign:da P w K mg:=iW X G z c T;have D_led_by_still:i5 P w K mg:=rG X G z c T;have D_first_led_round:gB P w K mg:=nT X G z c T;have D_need_none:jp P w K mg:=xy X G z c T;have D_need_parts:kG P w K mg:=uX X G z c T D_first_wrong_name D_door_signs D_first_wrong_door D_need_none;have D_doors_by_start:g6 P w K mg:=oW X G z c T;have D_has_asks_alone:g0 P w K mg:=oU X G z c T;have D_Machine:qS P w K mg C:=AF X G z c T D_as_keys D_goals_by_start_and_sign D_led_by_still D_first_led_round D_need_none D_need_parts D_doors_by_start D_has_asks_alone;have D_law_machine:nz P w K mg C:=tI X G z c T D_Machine;have M_Machine_rooms:cn P w K mg C:=qq X G z c T;have M_Machine_led_from:dY P w K mg C:=mN X G z c T;have D_with_still:iF P w K mg C:=uV X G z c T M_Machine_rooms M_Machine_led_from
 have M_Machine_goals:fz P w K mg C:=qr X G z c T;have M_Machine_is_quiet:dZ P w K mg C:=mO X G z c T;have D_law_still_on:eR P w K mg:=rH X G z c T;have D_law_on:pU P w K mg:=Dd X G z c T D_law_still_on;have D_law_is_quiet:gA P w K mg:=rJ X G z c T;have D_law_behind:kK P w K mg:=u5 X G z c T D_law_on D_law_is_quiet;have M_Machine_asks:eT P w K mg C:=rE X G z c T;have M_Machine_says:gC P w K mg C:=rD X G z c T;have D_first_face:iH P w K mg C:=u7 X G z c T M_Machine_rooms D_with_still;have D_face_behind:jI P w K mg C:=tJ X G z c T D_with_still M_Machine_goals M_Machine_is_quiet;have D_signs_in_order:gW P w K mg C a_HUSH:=oR X G z c T M_Machine_asks M_Machine_says;have D_steps_atQ:jo P w K mg C:=xx X G z c T D_face_behind D_signs_in_order;have D_steps_at:oE P w K mg C:=yX X G z c T D_steps_atQ;have M_FaceMap_number_at:dE P w K mg Cf:=lE X G z c T;have M_FaceMap_numbered_steps:dA P w K mg C Cf:=i_ X G z c T D_steps_at M_FaceMap_number_at;have D_FaceMap:qT P w K mg C Cf:=AG X G z c T D_first_face M_FaceMap_number_at M_FaceMap_numbered_steps;have D_takes:yH P w K mg C:=Ev X G z c T M_Machine_led_from M_Machine_goals;have D_need_match:kH P w K mg C:=uY X G z c T M_Machine_asks M_Machine_says;have D_need_all_asks_taken:eD P w K mg C:=kb X G z c T M_Machine_rooms M_Machine_asks D_takes;have D_need_taker:iG P w K mg C:=uW X G z c T D_need_match D_need_all_asks_taken;have M_Machine_doors_from:eS P w K mg C:=kU X G z c T;have D_story_to:oC P w K mg:=yW X G z c T;have D_least_fault:jF P w K mg:=tF X G z c T D_story_to;have D_rows_neededV:gy P w K mg C:=rF X G z c T M_Machine_is_quiet M_Machine_doors_from
 have D_rows_needed:jE P w K mg C:=tE X G z c T D_rows_neededV;have D_paper_of:oF P w K mg C Cf:=yY X G z c T M_Machine_rooms D_rows_needed;have D_keeps:C2 P w K mg C:=Ew X G z c T D_FaceMap D_need_taker D_least_fault D_paper_of;have D_law_willing:jG P w K mg:=tG X G z c T D_law_take D_law_put D_law_still_on;have D_law_turned:kI P w K mg:=uZ X G z c T D_law_take D_law_put D_law_still_on;have D_law_renamed:jH P w K mg:=tH X G z c T D_law_take D_law_names;have D_law_near:uL P w K mg:=y4 X G z c T D_law_anew D_law_take D_law_willing D_law_turned D_law_renamed;have D_is_full_face:i7 P w K mg C:=rL X G z c T D_as_keysX M_Machine_rooms;have D_is_keeping:pV P w K mg C:=u6 X G z c T D_as_keysX M_Machine_rooms D_first_face D_steps_atQ D_need_taker D_rows_neededV D_is_full_face;have D_law_row_stands:gX P w K mg:=oS X G z c T D_law_is_quiet D_law_behind;have D_law_paper_stands:i6 P w K mg:=mP X G z c T D_law_on D_law_row_stands;have D_law_is_paper:mq P w K mg:=rK X G z c T;obtain⟨f,a,t⟩:=T.f_law23;obtain⟨oc,od,an,sl,kV,dc,pm,cd,ct,l,c1,k1⟩:=t;have F:=Fx (st:=(fI 69)) l c1 k1;have sc:kF CY EV (cb (fI 69)):=by walk_at "s"
 have S:=sc.nd;exact⟨f,_,ig X G a,fun s v=>.of_eq rfl,fun base=>F.ok (k:=8) sc (by walk_at "l") (fun _ _ _ _ _ _ _ _ hr h=>by have hu:=CH hr;exact bK (Dn (C:=C) h) (ab (qs 1 S (qf hr (D_law_open base) (a1 (pv 0)))) (ab (qs 2 S (qf hr (D_law_model base) (a3 (pv 1) ah ah))) (ab (qs 3 S (qf hr (D_law_near base) (a3 (pv 1) (pv 2) ah))) (ab (qs 4 S (qf hr (D_law_machine base) (a1 (pv 2)))) (ab (qs 5 S (qf hr (D_law_machine base) (a1 (pv 3)))) (ab (bH bh rfl (iK rfl z.range (a1 ah)) (gn 6 S) (ab (qs 7 S (qf hr (D_keeps base) (a2 (pv 4) (pv 5)))) (ab (bx (PW.pt (gJ (ik (eM (qB ma z.isinstance mf (a2 (pv 7) (lR rfl z.tuple))))) (ij (g8 t8 (ql z.len (a1 (pv 7))) ah)))) (af (av cQ)) aJ) (ab (bx (g8 ir (xt (pv 7) ah) bJ) (af (av cQ)) aJ) (ab (bx (PW.pt (gJ (g8 t6 (xt (pv 7) ah) bJ) (gJ (g8 t6 (ql z.len (a1 (pv 7))) ah) (ij (ik (eM (qf hr (D_law_is_paper base) (a1 (xt (pv 7) ah))))))))) (af (av cQ)) aJ) (ab (bx (ik (eM (qf hr (D_law_paper_stands base) (a3 (pv 2) (pv 3) (xt (pv 7) ah))))) (af (av cQ)) aJ) (ab (bx (PW.pt (gJ (g8 Cr (qf hr (D_is_keeping base) (a3 (pv 4) (pv 5) (qL rfl z.list (a1 (xt (pv 7) ah))))) cQ) (ij (g8 Cr (qf hr (D_is_keeping base) (a3 (pv 4) (pv 5) (GN (xt (pv 7) ah) (IB HJ ah)))) cQ)))) (af (av cQ)) aJ) (af (aU (xM dq PySem.F.slot_list_clear PySem.F.type_list_clear Fi (xt (pv 7) ah))))))))))) (af (av cQ)))))))))⟩
theorem all_mk{l:PySem.W.OpenLaw}{fa:Addr}{u_LETTERS:Value}{u_LONGEST_NAME:Value}{u_MOST_WORDS:Value}{u_MOST_ROOMS:Value}{u_MOST_DOORS:Value}{u_MOST_FACES:Value}{o_STILL:Obj}{i_STILL:Array Value}{n_STILL:Nat}{o_HUSH:Obj}{i_HUSH:Array Value}{n_HUSH:Nat}(X:K.In h)(G:h.Ns ck mg)(hfa:mg "law"=some (.ref fa))
  (aC:cH K ck "Machine"=some (some (.ref C)))
  (pg:vC K C Str.empty=true)
  (hd:yL K C=true)
  (po:BO K C=true)
  (sa:dF K (.ref C) "__setattr__"=some (some (.builtin "object.__setattr__")))
  (mk:sm K C=true)
  (kc:iN K (.ref C)=true)
  (na1:dF K (.ref C) "own_asks"=some none)
  (na2:dF K (.ref C) "own_says"=some none)
  (na3:dF K (.ref C) "own_rooms"=some none)
  (na4:dF K (.ref C) "own_doors"=some none)
  (na5:dF K (.ref C) "leaving"=some none)
  (na6:dF K (.ref C) "quiet"=some none)
  (na7:dF K (.ref C) "sign_goals"=some none)
  (na8:dF K (.ref C) "still_led"=some none)
  (aF:cH K ck "FaceMap"=some (some (.ref Cf)))
  (pgF:vC K Cf Str.empty=true)
  (hdF:yL K Cf=true)
  (poF:BO K Cf=true)
  (saF:dF K (.ref Cf) "__setattr__"=some (some (.builtin "object.__setattr__")))
  (mkF:sm K Cf=true)
  (kcF:iN K (.ref Cf)=true)
  (nf1:dF K (.ref Cf) "machine"=some none)
  (nf2:dF K (.ref Cf) "faces"=some none)
  (nf3:dF K (.ref Cf) "first_stories"=some none)
  (nf4:dF K (.ref Cf) "numbers"=some none)
  (nf5:dF K (.ref Cf) "steps"=some none)
  (z_all:cH K ck "all"=some none)
  (z_any:cH K ck "any"=some none)
  (z_dict:cH K ck "dict"=some none)
  (z_enumerate:cH K ck "enumerate"=some none)
  (z_isinstance:cH K ck "isinstance"=some none)
  (z_len:cH K ck "len"=some none)
  (z_list:cH K ck "list"=some none)
  (z_max:cH K ck "max"=some none)
  (z_range:cH K ck "range"=some none)
  (z_str:cH K ck "str"=some none)
  (z_tuple:cH K ck "tuple"=some none)
  (z_zip:cH K ck "zip"=some none)
  (g_LETTERS:cH K ck "LETTERS"=some (some u_LETTERS))
  (r_LETTERS:RelV (.str "abcdefghijklmnopqrstuvwxyz") u_LETTERS)
  (g_LONGEST_NAME:cH K ck "LONGEST_NAME"=some (some u_LONGEST_NAME))
  (r_LONGEST_NAME:RelV (.int 8) u_LONGEST_NAME)
  (g_MOST_WORDS:cH K ck "MOST_WORDS"=some (some u_MOST_WORDS))
  (r_MOST_WORDS:RelV (.int 4) u_MOST_WORDS)
  (g_MOST_ROOMS:cH K ck "MOST_ROOMS"=some (some u_MOST_ROOMS))
  (r_MOST_ROOMS:RelV (.int 150) u_MOST_ROOMS)
  (g_MOST_DOORS:cH K ck "MOST_DOORS"=some (some u_MOST_DOORS))
  (r_MOST_DOORS:RelV (.int 2000) u_MOST_DOORS)
  (g_MOST_FACES:cH K ck "MOST_FACES"=some (some u_MOST_FACES))
  (r_MOST_FACES:RelV (.int 400) u_MOST_FACES)
  (g_STILL:cH K ck "STILL"=some (some (.ref a_STILL)))
  (l_STILL:K.lookup a_STILL=some o_STILL)
  (c_STILL:o_STILL.cls=.type "tuple")
  (d_STILL:o_STILL.data=.seq i_STILL n_STILL)
  (s_STILL:i_STILL.size<=ai)
  (v_STILL:bg (ao.map V.str) i_STILL.toList)
  (g_HUSH:cH K ck "HUSH"=some (some (.ref a_HUSH)))
  (l_HUSH:K.lookup a_HUSH=some o_HUSH)
  (c_HUSH:o_HUSH.cls=.type "tuple")
  (d_HUSH:o_HUSH.data=.seq i_HUSH n_HUSH)
  (s_HUSH:i_HUSH.size<=ai)
  (v_HUSH:bg (aV.map V.str) i_HUSH.toList)
  (T:Ts K C Cf)
 :∃fd:k5,(∀(s:Shared) (v:Value),sj s fd ⟨[v],[]⟩ [("script",v)])/\∀base:Heap,K.In base->base.Ns ck mg->m_ l.prog w K mg base CX0 9 fa fd ["script"] (sp_law23 K):=by
 have z:Zs mg:=⟨ie X G z_all,ie X G z_any,ie X G z_dict,ie X G z_enumerate,ie X G z_isinstance,ie X G z_len,ie X G z_list,ie X G z_max,ie X G z_range,ie X G z_str,ie X G z_tuple,ie X G z_zip⟩;have c:Cs K mg C Cf a_STILL a_HUSH:=⟨⟨_,ig X G g_LETTERS,r_LETTERS⟩,⟨_,ig X G g_LONGEST_NAME,r_LONGEST_NAME⟩,⟨_,ig X G g_MOST_WORDS,r_MOST_WORDS⟩,⟨_,ig X G g_MOST_ROOMS,r_MOST_ROOMS⟩,⟨_,ig X G g_MOST_DOORS,r_MOST_DOORS⟩,⟨_,ig X G g_MOST_FACES,r_MOST_FACES⟩,⟨_,ig X G g_STILL,rfl⟩,⟨_,ig X G g_HUSH,rfl⟩,BY l_STILL c_STILL d_STILL s_STILL v_STILL,BY l_HUSH c_HUSH d_HUSH s_HUSH v_HUSH,⟨⟨pg,hd,po,sa⟩,na1,na2,na3,na4,na5,na6,na7,na8⟩,ig X G aC,mk,kc,⟨⟨pgF,hdF,poF,saF⟩,nf1,nf2,nf3,nf4,nf5⟩,ig X G aF,mkF,kcF⟩;obtain⟨f,fd,e,b,k⟩:=Ia (P:=l.prog) (w:=w) X G z c T;have e0:=hfa.symm.trans e;cases e0;exact⟨fd,b,fun base _ _=>k base⟩
end
end Mum
namespace PySem.W.Fast
def tw8781854365002761405:=0
def tw6624938653850032654:=0
def tw6077702136894741066:=0
def tw15631797455866893092:=0
def tw9593926251506285555:=0
def tw16395784483208164725:=0
def tw2135416343375533960:=0
def tw15264489617183697211:=0
def tw14781869726777595845:=0
def tw17756527796647995532:=0
def tw1833330135708924231:=0
def tw17063931948599401258:=0
def tw12017546458176437034:=0
def tw688641697402361088:=0
def tw2566446616373798156:=0
def tw7504110500383585649:=0
def tw646376450752522540:=0
def tw15470850516102144154:=0
def tw11707848234209999248:=0
def tw13771117646976857262:=0
def tw16291346029305279465:=0
def tw13660782583502229025:=0
def tw17694631700471107758:=0
def tw8190510854300929994:=0
def tw883044603868309518:=0
def tw719633379361747860:=0
def tw7995917834013822346:=0
def tw3508640991623857367:=0
def tw1062421395493190476:=0
def tw2020644861956349980:=0
def tw8396828094507166507:=0
def tw17923636249014653819:=0
def tw8735544829880472505:=0
def tw1210989099637582990:=0
def tw11659359535355750104:=0
def tw1595694984434483566:=0
def tw8580959615270569804:=0
def tw17786074034513301248:=0
def tw12670024788964637054:=0
def tw3577445310593074854:=0
def tw11318047371444194471:=0
def tw11085672728684279793:=0
def tw13419716800314711258:=0
def tw16499491968379678179:=0
def tw10291646358002864507:=0
def tw6490387417147514475:=0
def tw2938475065431655931:=0
def tw8366747606629567148:=0
def tw14443476159509029892:=0
def tw12285578054421935888:=0
def tw11255456867402676750:=0
def tw12085433069790994915:=0
def tw9462048056409309899:=0
def tw8031362863437124608:=0
def tw7064151705207856773:=0
def tw3871553272785762216:=0
def tw12984739575884987862:=0
def tw12043177281520605343:=0
def tw15285462030856248456:=0
def tw6034891824798079097:=0
def tw16759628295401764930:=0
def tw8839363692585784217:=0
def tw18316380330219670051:=0
def tw13941481508710851475:=0
def tw16744739279968214763:=0
def tw4218502351781903552:=0
def tw1074364693596126184:=0
def tw1866230040257881336:=0
def tw11211187162502173954:=0
def tw18134624910857832075:=0
def tw7329438821243798590:=0
def tw12395868150422224102:=0
def tw17925658808848477967:=0
def tw8571920125571518254:=0
def tw8704889002026004112:=0
def tw16163846527403283901:=0
def tw12797569321866632466:=0
def tw4099253818903686179:=0
def tw17193954612918664975:=0
def tw14874079692054025096:=0
def tw10138446263115618031:=0
def tw1599915273084078409:=0
def tw5176605799489614523:=0
def tw6784789983769323930:=0
def tw14632037278833517910:=0
def tw14656348195038862038:=0
def tw14066060437499273786:=0
def tw11724497122335422157:=0
def tw17297324214209594967:=0
def tw12086001614637373896:=0
def tw6847623661063724173:=0
def tw15949883095456836011:=0
def tw17343200719680114950:=0
def tw3627225608608016137:=0
def tw2572715228210216212:=0
def tw12708315508850863138:=0
def tw4797954669673344951:=0
def tw14217569854138873539:=0
def tw2006558662501327600:=0
def tw8920340925019642285:=0
def tw17983490984731218484:=0
def tw12454995875823957202:=0
def tw7144369859602371830:=0
def tw12852393182497685861:=0
def tw7876573797973146464:=0
def tw16851816987824260649:=0
def tw9115086876072697525:=0
def tw699862929614632965:=0
def tw6353538955779889914:=0
def tw4474077487522025941:=0
def tw17286439961256317426:=0
def tw2950725049334368738:=0
def tw3326578149326962046:=0
def tw4973206017554627745:=0
def tw16954262167268815637:=0
def tw9672973917432596586:=0
def tw1151535903190054713:=0
def tw15147995235089206417:=0
def tw18272913574872378129:=0
def tw12584509117078158826:=0
def tw8408244231273459087:=0
def tw8089473839672001589:=0
def tw8677192014660936812:=0
def tw16937753811233822171:=0
def tw11853662982102020825:=0
def tw5642903964612956322:=0
def tw13774722583684038018:=0
def tw9375122325572665642:=0
def tw6064492042782956875:=0
def tw7699775739046598834:=0
def tw2756147340108373468:=0
def tw7071178897880525781:=0
def tw11920132391423719838:=0
def tw4863452263790259307:=0
def tw5114961284434496239:=0
def tw14442635286927420046:=0
def tw16863267673330510614:=0
def tw17237927993478168394:=0
def tw685752532449256495:=0
def tw9537705986725890581:=0
def tw868619200316968009:=0
def tw16616705890392520846:=0
def tw10044602860766514744:=0
def tw1731266448113087736:=0
def tw14502658230061748402:=0
def tw15777467516559309664:=0
def tw13634647390255560613:=0
def tw3913288571748945415:=0
def tw4766413560390150160:=0
def tw16727304082345948304:=0
def tw17581526203981272505:=0
def tw2745654242030493660:=0
def tw11554591412327306749:=0
def tw18014026724165904358:=0
def tw12500996304972255194:=0
def tw10926929094758360869:=0
def tw12332940724202240718:=0
def tw1979708327170566056:=0
def tw5845705268159517602:=0
def tw1418467296071832148:=0
def tw4390258917821493247:=0
def tw14491629558600076787:=0
def tw721839922258897441:=0
def tw2474233946911878086:=0
def tw18391320754729024651:=0
def tw18423377261982651597:=0
def tw3127823215456005259:=0
def tw10445003210925035056:=0
def tw14770798524427314329:=0
def tw374997625773963497:=0
def tw7522029885039523416:=0
def tw10184382549786371386:=0
def tw805432689390794170:=0
def tw1913542387088550876:=0
def tw11114863214294224837:=0
def tw2862280464644073964:=0
def tw12004842687078953283:=0
def tw8576775521418865518:=0
def tw10519285274682596631:=0
def tw12016841968224918190:=0
def tw5705683900951058840:=0
def tw1227986007581762539:=0
def tw8063524997156624970:=0
def tw2634733717479677899:=0
def tw5418617079259275142:=0
def tw14443434014764814546:=0
def tw5458019765239626272:=0
def tw2944365978967914851:=0
def tw4944028462678202963:=0
def tw4880878368144228949:=0
def tw15280301934779292066:=0
def tw5573824846111286245:=0
def tw18070624596736399454:=0
def tw4678913662225281154:=0
def tw16750778523795248291:=0
def tw5186846470409622315:=0
def tw9124641195521210749:=0
def tw12969023691183066821:=0
def tw1778888550283762003:=0
def tw15636455288388574753:=0
def tw4780824827189922458:=0
def tw17786376587842330191:=0
def tw15816146108502637453:=0
def tw17848177842740653770:=0
def tw581335520058510840:=0
def tw9663383048258140565:=0
def tw2102515775594431301:=0
def tw9014322253810813618:=0
def tw10268573952397098748:=0
def tw757594627056529280:=0
def tw12026899290427831169:=0
def tw13833313332225759616:=0
def tw9612882539021434255:=0
def tw17525720357156691517:=0
def tw16635229315653839362:=0
def tw13024621735612265380:=0
def tw8100256403559406642:=0
def tw4661832962389879002:=0
def tw4608379905675079075:=0
def tw6048873191065676861:=0
def tw14681531893532438947:=0
def tw965276718252830724:=0
def tw10708077653385805311:=0
def tw6829224996285622304:=0
def tw17292079417317816557:=0
def tw1773409577233352980:=0
def tw1737122245719823669:=0
def tw6666695693739102646:=0
def tw9908298452852724091:=0
def tw10879221972487370275:=0
def tw14455543830839441244:=0
def tw5839260779309853617:=0
def tw3498311284798678570:=0
def tw11107120058142379024:=0
def tw7681598409702216013:=0
def tw8603276221532626596:=0
def tw14890054884057956402:=0
def tw13877359704459189608:=0
def tw12563458156366024349:=0
def tw7179833578646455788:=0
def tw4206069384687702641:=0
def tw1350744954376517155:=0
def tw1104559015450361164:=0
def tw5704807293934495527:=0
def tw2245505378369873374:=0
def tw16941877887945719055:=0
def tw11113080929646793190:=0
def tw2830628266010404666:=0
def tw12360845816329598546:=0
def tw10689591714316308205:=0
def tw2385723506489753423:=0
def tw14069331077573942614:=0
def tw2861364410783879987:=0
def tw3186967763132571611:=0
def tw15224924421560228907:=0
def tw5539090256570753517:=0
def tw1431106774142848483:=0
def tw15039149124213271091:=0
def tw5428492607396737132:=0
def tw13731968832987520755:=0
def tw14938763422171921629:=0
def tw6491603516479303814:=0
def tw14898093226652927227:=0
def tw14898814099824643184:=0
def tw2446729846661336436:=0
def tw274324678202737323:=0
def tw17979628553568611050:=0
def tw12756202146816114023:=0
def tw14569450997036437249:=0
def tw14748618467762609099:=0
def tw16958286797483142211:=0
def tw15807000225586012401:=0
def tw11716772667805666545:=0
def tw17670486947830352276:=0
def tw2119855378347105665:=0
def tw17541173865038789541:=0
def tw10956957945401362940:=0
def tw9100154512553255522:=0
def tw11119356722929922737:=0
def tw5469962933211556789:=0
def tw3372752009797820754:=0
def tw14793293981095195331:=0
def tw10541335374725280303:=0
def tw10915190866262790911:=0
def tw3011561413152940324:=0
def tw7867295249805150140:=0
def tw11595872853634407893:=0
def tw8906449986010492954:=0
def tw7041864707490126539:=0
def tw13494933560401206162:=0
def tw1351095404654291494:=0
def tw14525213466806375163:=0
def tw3144522040212490664:=0
def tw13769276730760319747:=0
def tw3403262066259716168:=0
def tw4172178878920496743:=0
def tw9125243563576934847:=0
def tw17761565179141255704:=0
def tw9797131594848844620:=0
def tw18417488731982410686:=0
def tw11462204116493116475:=0
def tw595736019876159701:=0
def tw11980427509174474830:=0
def tw15622695288403177263:=0
def tw1456162043024656746:=0
def tw16547436760240594965:=0
def tw9560460313510168647:=0
def tw12747139598818660478:=0
def tw1734668872662319423:=0
def tw6720517168761717629:=0
def tw6933886915680881374:=0
def tw16408708944228131055:=0
def tw1614746405975778400:=0
def tw5924841443591755155:=0
def tw11076693277441712095:=0
def tw3321769718547872782:=0
def tw1234604206915617476:=0
def tw16275329399554063600:=0
def tw5946852492224053923:=0
def tw4130570823056566154:=0
def tw3798139434739261354:=0
def tw7347398732257866142:=0
def tw7194366626869789997:=0
def tw16115195817244740188:=0
def tw7423063212482655776:=0
def tw17509091342527764467:=0
def tw10988399710859504344:=0
def tw8062950729869254413:=0
def tw9910154620559660258:=0
def tw17267965215456050187:=0
def tw17859099853258937555:=0
def tw7797305004195053733:=0
def tw8657966204716536760:=0
def tw4725618829881101806:=0
def tw2027637064772060671:=0
def tw8113112492555673563:=0
def tw13188757812529800481:=0
def tw16174306842765520084:=0
def tw3562442204468488754:=0
def tw5980030548681602896:=0
def tw2078905230655127613:=0
def tw16649544663541112662:=0
def tw17540910391614930773:=0
def tw5083631643470852250:=0
def tw5398269223602382741:=0
def tw13892316707030588336:=0
def tw1194836348551225580:=0
def tw9305648337784378430:=0
def tw12052639949766646006:=0
def tw14518879073806223999:=0
def tw4169124404975660761:=0
def tw7840621449333605379:=0
def tw14160447883831315523:=0
def tw3551714292755940464:=0
def tw7655270271210259919:=0
def tw6040201961917874978:=0
def tw9165912216664532145:=0
def tw16248624324540515184:=0
def tw822314581470203697:=0
def tw5472354985363532488:=0
def tw13316227797744172992:=0
def tw12039908616005239286:=0
def tw17554068391528367472:=0
def tw14185510502191401133:=0
def tw5121790245662213690:=0
def tw12098057575910483602:=0
def tw1532745473933078788:=0
def tw11659604268509155246:=0
def tw18117215923959260448:=0
def tw15010347000538748614:=0
def tw14098417022013046007:=0
def tw14046269440349878595:=0
def tw1029672145817407337:=0
def tw11373084972397113179:=0
def tw9240826208809694264:=0
def tw15759665411923105045:=0
def tw10114802221163367504:=0
def tw4160137431762625955:=0
def tw8494016197280843754:=0
def tw16291905952610285518:=0
def tw17420953064998842745:=0
def tw17709582672190233176:=0
def tw20839269896343899:=0
def tw6077669955699028309:=0
def tw17118979875202670698:=0
end PySem.W.Fast
open PySem PySem.W PyProof.Rows
set_option maxRecDepth 100000 in
set_option maxHeartbeats 0 in
theorem PySem.Challenge.cw_mumtrial_k23_papers_told_holds : PySem.Challenge.rw_mumtrial_k23_papers_told.Holds := by
 w_on;o_law;k_head;(case hw=>w_witness2)
 k_fill
 refine L2.walk_ofK (l:=PySem.Challenge.rw_mumtrial_k23_papers_told) (n:=63) (k:=9) (x:="script") (CX:=L2.CX0) (sp:=Mum.sp_law23) rfl (by decide) rfl ⟨rfl,by decide,by decide⟩ (fun w h Y=>PySem.W.kIn_of Y) ?F (fun _ _ a ns hl _ hS=>⟨a,ns,rfl,hS,hl,fun _=>rfl⟩) (fun _ _ _ _ z=>z)
 case F =>
  intro w mg fa h KX G hmg;refine' Mum.all_mk KX G hmg ?aC ?pg ?hd ?po ?sa ?mk ?kc ?na1 ?na2 ?na3 ?na4 ?na5 ?na6 ?na7 ?na8 ?aF ?pgF ?hdF ?poF ?saF ?mkF ?kcF ?nf1 ?nf2 ?nf3 ?nf4 ?nf5 ?z_all ?z_any ?z_dict ?z_enumerate ?z_isinstance ?z_len ?z_list ?z_max ?z_range ?z_str ?z_tuple ?z_zip ?g_LETTERS ?r_LETTERS ?g_LONGEST_NAME ?r_LONGEST_NAME ?g_MOST_WORDS ?r_MOST_WORDS ?g_MOST_ROOMS ?r_MOST_ROOMS ?g_MOST_DOORS ?r_MOST_DOORS ?g_MOST_FACES ?r_MOST_FACES ?g_STILL ?l_STILL ?c_STILL ?d_STILL ?s_STILL ?v_STILL ?g_HUSH ?l_HUSH ?c_HUSH ?d_HUSH ?s_HUSH ?v_HUSH ?T
  (case aC|pg|hd|po|sa|mk|kc|na1|na2|na3|na4|na5|na6|na7|na8|aF|pgF|hdF|poF|saF|mkF|kcF|nf1|nf2|nf3|nf4|nf5|z_all|z_any|z_dict|z_enumerate|z_isinstance|z_len|z_list|z_max|z_range|z_str|z_tuple|z_zip|g_LETTERS=>k_is)
  (case r_LETTERS=>exact⟨_,rfl⟩)
  (case g_LONGEST_NAME=>k_is)
  (case r_LONGEST_NAME=>exact⟨_,rfl⟩)
  (case g_MOST_WORDS=>k_is)
  (case r_MOST_WORDS=>exact⟨_,rfl⟩)
  (case g_MOST_ROOMS=>k_is)
  (case r_MOST_ROOMS=>exact⟨_,rfl⟩)
  (case g_MOST_DOORS=>k_is)
  (case r_MOST_DOORS=>exact⟨_,rfl⟩)
  (case g_MOST_FACES=>k_is)
  (case r_MOST_FACES=>exact⟨_,rfl⟩)
  (case g_STILL|l_STILL=>k_is)
  (case c_STILL|d_STILL=>rfl)
  (case s_STILL=>decide)
  (case v_STILL=>exact .cons ⟨_,rfl⟩ .nil)
  (case g_HUSH|l_HUSH=>k_is)
  (case c_HUSH|d_HUSH=>rfl)
  (case s_HUSH=>decide)
  (case v_HUSH=>exact .cons ⟨_,rfl⟩ .nil)
  (case T=>constructor<;>first|(refine' Mum.fnG_mk ?a ?l ?c ?k;(case a=>k_is);(case l=>k_is);(case c=>k_is);(case k=>k_is))|(refine' Mum.fnM_mk ?a ?i ?l ?c ?k;(case a=>k_is);(case i=>k_is);(case l=>k_is);(case c=>k_is);(case k=>k_is)))
