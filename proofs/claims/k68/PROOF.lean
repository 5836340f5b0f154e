
import PyProof.Rows.All
import Wide.All
import OpenK.AllK
import Wide.FinOn
import Lean
import PyProof.EqAt
import PyProof.EqKinds
import PyProof.TupleCall
import PyProof.NeKinds
import PyProof.RaisesMany
import PyProof.RulesAs
import PyProof.NsDelKeeps
import PyProof.InstStoreFacts
import PyProof.ExcClass3
import PyProof.ExcInit
import KE.KTryMore
import PyProof.AutoSeq1
import PyProof.WalkInts
import PyProof.DictIter
import PyProof.DictWalks
import PyProof.DictItems
import PyProof.DictItemsLoops
import KE.KPairComp
import PyProof.DictValues
import PyProof.SumAny
import PyProof.Rows.SumAny
import PyProof.Rows.RuleDivmod
import KE.KRevIter
import PyProof.TupleOfGen
import KE.KDictSum
import KE.IntBitsLaws
import PySem.Challenge.RW_mumtrial_k68_joined_words
noncomputable section
open PySem renaming Program->bq,reduceHash->DH,wpAny_mono->dz,wpAny_bind->ah,wpAny_specialOf->FN,wpAny_call_entry->ph,wpAny_pure->aw,wpAny_rule->nW,Builtin->bX,isInstance->vj,wpAny_isInstance->yn,wpAny_holding->iy,wpAny_truthy_bool->qZ,wpAny_seqItems->kN,sizeLine->ak,sysModules->gK,entryOfKey->Bl,Within->ym,mainGlobals->bH,bootBuiltins->iV,GenState->Bk,starEach->ay,compareOp->eT,behindInMarks->kA,standAt->nV,holding->jz,wpAny_execs_nil->qW,wpAny_execs_cons->Bi,swapsWith->mz,assignEach->vh,wpAny_standAt->sP,PassesOwn->Bh,wpAny_passesOwn->kz,letOwnedTupleGo->Bg,wpAny_pyIter_list->vg,foldedSetIterable->ve,binaryOp->qV,sizeLine_eq->Be,getAttr->yh,getMethod->nU,codeAny->zzl86,attributeBase->sO,FuncData->hV,BindsTo->mV,wpAny_call->kW,codeAny_mono->pT,wpAny_Call_Name_kw->mU,callWith->mT,backToKw->jX,keywordEach->jW,NameKind->f_,mem_of_lookup->pR,typeLookup->jU,getItem->mQ,subscripted->wG,sliceBounds->mP,call_meets->wE,valueAt->mO,storedH->mN,callerA->kT,DictEntry->iC,noteFrame->pM,wpAny_newObj_type->iA,ZipApart->pL,wpAny_pyIter_zip->wz,wpAny_callSpecial?_slot->kQ,wpAny_field->cO,wpAny_setField->iz,firstArgMember->pK,wpAny_setField_rec->pJ,wpAny_onRaise->tp,wpAny_letGo->wv,wpAny_attempt->mL,wpAny_dictEntries->mK,wpAny_notOrdered_dict->tj,codeAny_builtin->wq,wpAny_typeOf->sZ,plainId_quiet->wm,excClassObj->ff,checkBuiltinCall->wf,wpAny_loadPart_at->gW,wpAny_isSubtype_exc->pH,setFlight->sX,ExceptHandler->wc,setField->sW,wpAny_typeNameOfWhole_valiter->wa,wpAny_typeNameOf_valiter->v_,wpAny_fieldsOf->v9,wpAny_dictEpoch->pF,wpAny_typeNameOfWhole_keyiter->v8,wpAny_typeNameOf_keyiter->v6
open PySem.Builtin.Tuple renaming tupleHashOf->zO
open PySem.Value renaming builtin->zN
open Bool renaming false_ne_true->gH,not_true->Bn,false_eq_true->kO,false_and->Bf,eq_iff_iff->yj,and_false->pP,and_eq_true->wA,true_and->sR
open Nat renaming add_assoc->Bo,le_refl->aK,lt_of_lt_of_le->fF,lt_irrefl->mD,ne_of_lt->bM,le_trans->bW,le_of_lt->cy,ne_of_gt->fE,zero_le->dA,le_succ->jk,lt_trans->tw,sub_zero->wg,not_le_of_lt->jd,mod_lt->mJ,mul_le_mul->pq
open List renaming append_nil->dO,range->mC,filterMap_cons->vi,mem_cons_self->eL,mem_cons_of_mem->eU,mem_cons->cK,mem_append->bE,mem_append_left->cN,getElem?_eq_some_iff->bG,getElem?_set_ne->Bj,mem_append_right->cV,length_cons->c_,lookup->fZ,map_cons->cg,length_map->ai,nodup_cons->iF,replicate->jV,length_take->aY,getElem?_append_right->wH,getElem?_append_left->pQ,getElem?_map->cH,getElem?_take_of_lt->mS,mem_of_getElem?->cp,length_append->aV,length_drop->jh,size_toArray->bZ,length_singleton->wD,find?_cons->pO,any_cons->pN,length_nil->kU,nodup_nil->wC,lookup_cons->iB,forIn_cons->tq,mem_map->aL,not_mem_nil->jT,any_toArray->wt,drop_zero->pI,take_length->bJ,getElem?_eq_getElem->fJ,mem_singleton->fH,map_append->aF,nodup_append->dk,drop_of_length_le->tf,drop_eq_getElem_cons->wk,contains_cons->je,mem_of_mem_take->sS,append_assoc->ef,pairwise_map->iw,map_map->pC,mem_map_of_mem->gU,getElem?_of_mem->mI,length_filter_le->cW,filter_append->iu,filter_cons->jR,filter_eq_nil_iff->pB,mem_filter->dJ,flatMap_append->pA,flatMap_singleton->vZ,mem_flatMap->eO,Nodup->sQ,pairwise_flatMap->vY,length_pos_iff->pi
open Prod.mk renaming injEq->Bm
open Option.some renaming inj->eM
open PySem.W renaming instObj->qY,lookIn->Bd,plainGet->yi,hasDictIn->Bc,findIn->bB,isFn->qU,makesIn->yg,emptyDict->nS,keepIn->ee,specialIn->Bb,kitOne->Ba,kia_one->jy,callWith_K->pS,fnOf->iE,codeIn->mR,Looks->sY,exmOne->pG,nsIn->bY,mg_of->dW,mg_none_of->fG
open PySem.Heap renaming lt_size->aI,SameBut->gJ,get?_push_of_some->aS,get?_push_size->cJ,size_push->iU,get?_update_self->iD,get?_update_other->jg
open PyProof.Rows renaming AllBare->mB,callWith_type1->yk,IntsAre->tu
open Ne renaming symm->dv
open Array renaming length_toList->kL,getElem?_toList->tD,getElem?_eq_some_iff->gV
open False renaming elim->da
open True renaming intro->ft
open PySem.Calls renaming spliced_cons->A_,callWith_builtin->wF
open Option renaming isSome_iff_exists->wI,map_some->tz
open Int renaming toNat_natCast->ji,emod_nonneg->pE,emod_lt_of_pos->pD,eq_ofNat_of_zero_le->kM
open PySem.Obj renaming mapSeq->tE,isFreed_of_fields->mM,data_mapFields->gX,mapFields->fe
open PySem.Paired renaming snoc->jf
open ForInStep renaming yield->wB
open PySem.NameKind renaming free->kS
open PySem.Builtin.SmallTypes renaming nextOf->kR,ownedTupleIsFree->ww
open PySem.Str renaming ofString->kP
open PySem.F renaming slot_tuple_iterator_next->wx,slot_zip_next->wu,slot_dict_valueiterator_next->sV,slot_dict_keyiterator_next->sT,plainAttrs_list->f8,slot_list_append->jQ,type_list_append->jP
open PySem.Heap.SameBut renaming update->jS
open PySem.SeqAt renaming EqAt->bo
open PySem.Builtin.Str renaming strSliceIndices->tm
open PySem.Txt renaming join->wr
open PySem.Around renaming under_plainId->wo
open PySem.Shared renaming TypeIs->s_
open PySem.Builtin.Dict renaming updateFrom->wj,showsAll->wb
open PySem.Code renaming quiet_builtin->we
open PySem.Builtin.ObjectAttr renaming storeInDict->wd
open PySem.Builtin.Dict_items renaming ownsTuple->sU
open Prod renaming snd->v5
open List.Pairwise renaming imp->pk,imp_of_mem->pj
open PySem.PassesOwn renaming never->bI
theorem Q0:0<=PySem.sizeLine:=by decide
theorem Q1:1<=PySem.sizeLine:=by decide
theorem Q2:2<=PySem.sizeLine:=by decide
theorem Q3:3<=PySem.sizeLine:=by decide
theorem Q4:4<=PySem.sizeLine:=by decide
theorem Q6:6<=PySem.sizeLine:=by decide
theorem zzr0{p:Prop}[Decidable p](h:¬p):decide p=false:=decide_eq_false h
theorem zzr1{p:Prop}[Decidable p](h:p):decide p=true:=decide_eq_true h
abbrev Za:=PySem.W.Frag
abbrev Zb:=List PySem.Str
abbrev Zc:=PySem.Value->PySem.Shared->Prop
abbrev Zd:=List (PySem.Addr×PySem.Obj)
abbrev Ze:=List PySem.Addr
abbrev Zf:=List PySem.Value
section
set_option Elab.async false
set_option linter.all false
set_option maxRecDepth 100000
set_option maxHeartbeats 4000000
namespace L2
open PySem PySem.Spec PyProof.Rows
open Sem (wp)
abbrev fD:=Sum Int Str
def dw:fD->Value->Bool
 |.inl k,v=>Value.isInt k v
 |.inr x,v=>Value.isStrOf x v
def IN(w:World):fD->Int
 |.inl k=>hashInt k
 |.inr x=>hashStr w x
theorem az:∀{k:fD}{v:Value},dw k v=true->(∃i t,k=Sum.inl i/\v=Value.int i t)∨(∃x t,k=Sum.inr x/\v=Value.str x t)
 |.inl i,v,h=>by
  obtain⟨t,e⟩:=Value.isInt_shape (k:=i) (v:=v) h;exact .inl ⟨i,t,rfl,e⟩
 |.inr x,v,h=>by
  obtain⟨t,e⟩:=Value.isStrOf_shape (x:=x) (v:=v) h;exact .inr ⟨x,t,rfl,e⟩
theorem mi(i:Int)(t:Tok):dw (.inl i) (.int i t)=true:=by simp[dw,Value.isInt]
theorem mh(x:Str)(t:Tok):dw (.inr x) (.str x t)=true:=by simp[dw,Value.isStrOf]
theorem xB(a b:Int):decide ((Sum.inl a:fD)=Sum.inl b)=(a==b):=by
 by_cases e:a=b
 ·subst e;simp
 ·have h:¬(Sum.inl a:fD)=Sum.inl b:=fun q=>e (Sum.inl.inj q);rw[zzr0 h];exact(beq_eq_false_iff_ne.mpr e).symm
theorem xx(a b:Str):decide ((Sum.inr a:fD)=Sum.inr b)=decide (a=b):=by
 by_cases e:a=b
 ·subst e;simp
 ·have h:¬(Sum.inr a:fD)=Sum.inr b:=fun q=>e (Sum.inr.inj q);rw[zzr0 h,zzr0 e]
theorem xA(a:Int)(b:Str):decide ((Sum.inl a:fD)=Sum.inr b)=false:=zzr0 (fun q=>nomatch q)
theorem xy(a:Str)(b:Int):decide ((Sum.inr a:fD)=Sum.inl b)=false:=zzr0 (fun q=>nomatch q)
def cD(prog:bq)(w:World):PySem.KeyKind prog w fD where
 is:=dw
 hash:=IN w
 inj:=fun v a b ha hb=>by
  rcases az ha with⟨i,t,rfl,rfl⟩|⟨x,t,rfl,rfl⟩
  ·rcases az hb with⟨j,u,rfl,e⟩|⟨y,u,rfl,e⟩
   ·injection e with e1 _;rw[e1]
   ·exact nomatch e
  ·rcases az hb with⟨j,u,rfl,e⟩|⟨y,u,rfl,e⟩
   ·exact nomatch e
   ·injection e with e1 _;rw[e1]
 byValue:=fun k v h=>by
  rcases az h with⟨i,t,rfl,rfl⟩|⟨x,t,rfl,rfl⟩<;>rfl
 pyHash:=fun hv h=>by
  rcases az hv with⟨i,t,rfl,rfl⟩|⟨x,t,rfl,rfl⟩
  ·exact wpAny_pyHash_int h
  ·exact wpAny_pyHash_str h
 eqBool:=fun hu hv h=>by
  rcases az hu with⟨i,t,rfl,rfl⟩|⟨x,t,rfl,rfl⟩
  ·rcases az hv with⟨j,u,rfl,rfl⟩|⟨y,u,rfl,rfl⟩
   ·rw[xB]at h;exact wpAny_eqBool_int h
   ·rw[xA]at h;exact bo.int_str i t y u _ _ _ _ h
  ·rcases az hv with⟨j,u,rfl,rfl⟩|⟨y,u,rfl,rfl⟩
   ·rw[xy]at h;exact bo.str_int x t j u _ _ _ _ h
   ·rw[xx]at h;exact wpAny_eqBool_str h
 «strs»:=fun k x t v h=>by
  rcases az h with⟨i,u,rfl,e⟩|⟨y,u,rfl,e⟩
  ·exact nomatch e
  ·injection e with e1 _;subst e1;cases v<;>rfl
theorem y9(a:bq)(w:World)(i:Int)(t:Tok):(cD a w).is (.inl i) (.int i t)=true:=mi i t
theorem y8(a:bq)(w:World)(x:Str)(t:Tok):(cD a w).is (.inr x) (.str x t)=true:=mh x t
end L2
namespace L2
open PySem PySem.Spec PyProof.Rows
open Sem (wp)
abbrev nN:=Option fD
def iK:nN->Value->Bool
 |none,v=>match v with
  |.none=>true
  |_=>false
 |some k,v=>dw k v
def He(w:World):nN->Int
 |none=>DH 4238894112
 |some k=>IN w k
theorem bL:∀{k:nN}{v:Value},iK k v=true->(∃i t,k=some (Sum.inl i)/\v=Value.int i t)∨(∃x t,k=some (Sum.inr x)/\v=Value.str x t)∨(k=none/\v=Value.none)
 |none,v,h=>by
  refine .inr (.inr ⟨rfl,?_⟩);cases v<;>first|rfl|cases h
 |some k,v,h=>by
  rcases az (show dw k v=true from h)with⟨i,t,rfl,rfl⟩|⟨i,t,rfl,rfl⟩
  ·exact .inl ⟨i,t,rfl,rfl⟩
  ·exact .inr (.inl ⟨i,t,rfl,rfl⟩)
theorem uh{a b:nN}{v:Value}(f:iK a v=true)(g:iK b v=true):a=b:=by
 rcases bL f with⟨i,t,rfl,rfl⟩|⟨i,t,rfl,rfl⟩|⟨rfl,rfl⟩<;>rcases bL g with⟨j,u,rfl,e⟩|⟨j,u,rfl,e⟩|⟨rfl,e⟩<;>first|rfl|(cases e;rfl)|cases e
def y6(prog:bq)(w:World):PySem.KeyKind prog w nN where
 is:=iK
 hash:=He w
 inj:=fun v a b ha hb=>uh ha hb
 byValue:=fun k v h=>by
  rcases bL h with⟨i,t,rfl,rfl⟩|⟨x,t,rfl,rfl⟩|⟨rfl,rfl⟩<;>rfl
 pyHash:=fun{A E s k v Q} hv h=>by
  rcases bL hv with⟨i,t,rfl,rfl⟩|⟨x,t,rfl,rfl⟩|⟨rfl,rfl⟩
  ·exact wpAny_pyHash_int h
  ·exact wpAny_pyHash_str h
  ·refine PySem.W.pyHash_slot (T:="NoneType") rfl F.slot_NoneType_hash F.entry_NoneType_hash (F.args_NoneType_hash_1 _) (by rw[beq_builtin_none]) (.inl rfl) ?_;show wpAny _ _ (retInt 4238894112) _ _ _;refine dz (wpAny_ret_mkInt (Q:=fun v s'=>∃n t,v=Value.int n t/\Q (DH n) s') ⟨_,_,rfl,h⟩) (fun fin s' ⟨v,e,n,t,e2,q⟩=>⟨n,t,by rw[e,e2],q⟩) (fun _ _ z=>z)
 eqBool:=fun{A E s a b u v Q} hu hv h=>by
  rcases bL hu with⟨i,t,rfl,rfl⟩|⟨x,t,rfl,rfl⟩|⟨rfl,rfl⟩
  ·rcases bL hv with⟨j,u,rfl,rfl⟩|⟨y,u,rfl,rfl⟩|⟨rfl,rfl⟩
   ·exact(cD prog w).eqBool (a:=.inl i) (b:=.inl j) (mi i t) (mi j u) (by rw[show decide ((Sum.inl i:fD)=Sum.inl j)=decide ((some (Sum.inl i):nN)=some (Sum.inl j))from decide_eq_decide.mpr ⟨fun z=>by rw[z],fun z=>by injection z⟩];exact h)
   ·rw[zzr0 (by intro z;injection z with z;cases z)]at h;exact bo.int_str i t y u _ _ _ _ h
   ·rw[zzr0 (by intro z;cases z)]at h;exact bo.int_none i t _ _ _ _ h
  ·rcases bL hv with⟨j,u,rfl,rfl⟩|⟨y,u,rfl,rfl⟩|⟨rfl,rfl⟩
   ·rw[zzr0 (by intro z;injection z with z;cases z)]at h;exact bo.str_int x t j u _ _ _ _ h
   ·exact(cD prog w).eqBool (a:=.inr x) (b:=.inr y) (mh x t) (mh y u) (by rw[show decide ((Sum.inr x:fD)=Sum.inr y)=decide ((some (Sum.inr x):nN)=some (Sum.inr y))from decide_eq_decide.mpr ⟨fun z=>by rw[z],fun z=>by injection z⟩];exact h)
   ·rw[zzr0 (by intro z;cases z)]at h;exact bo.str_none x t _ _ _ _ h
  ·rcases bL hv with⟨j,u,rfl,rfl⟩|⟨y,u,rfl,rfl⟩|⟨rfl,rfl⟩
   ·rw[zzr0 (by intro z;cases z)]at h;exact bo.none_int j u _ _ _ _ h
   ·rw[zzr0 (by intro z;cases z)]at h;exact bo.none_str y u _ _ _ _ h
   ·rw[zzr1 rfl]at h;exact bo.same _ _ _ _ _ h
 «strs»:=fun k x t v h=>by
  rcases bL h with⟨i,u,rfl,e⟩|⟨y,u,rfl,e⟩|⟨rfl,e⟩
  ·exact nomatch e
  ·injection e with e1 _;subst e1;cases v<;>rfl
  ·exact nomatch e
inductive TK where
 |k (a:nN)
 |t (l:List TK)
mutual
def Hn:(x y:TK)->Decidable (x=y)
 |.k a,.k b=>if h:a=b then Decidable.isTrue (by rw[h])else Decidable.isFalse fun e=>h (by injection e)
 |.t l,.t m=>match decTKs l m with
  |Decidable.isTrue h=>Decidable.isTrue (by rw[h])
  |Decidable.isFalse h=>Decidable.isFalse fun e=>h (by injection e)
 |.k _,.t _=>Decidable.isFalse nofun
 |.t _,.k _=>Decidable.isFalse nofun
def decTKs:(x y:List TK)->Decidable (x=y)
 |[],[]=>Decidable.isTrue rfl
 |[],_::_=>Decidable.isFalse nofun
 |_::_,[]=>Decidable.isFalse nofun
 |a::l,b::m=>match Hn a b with
  |Decidable.isTrue h=>match decTKs l m with
   |Decidable.isTrue h'=>Decidable.isTrue (by rw[h,h'])
   |Decidable.isFalse h'=>Decidable.isFalse fun e=>h' (by injection e)
  |Decidable.isFalse h=>Decidable.isFalse fun e=>h (by injection e)
end
instance:DecidableEq TK:=Hn
mutual
def TK.depth:TK->Nat
 |.k _=>0
 |.t l=>TK.depths l+1
def TK.depths:List TK->Nat
 |[]=>0
 |a::r=>max (TK.depth a) (TK.depths r)
end
mutual
def TK.hash(w:World):TK->Int
 |.k a=>He w a
 |.t l=>DH (zO (TK.hashs w l))
def TK.hashs(w:World):List TK->List Int
 |[]=>[]
 |a::r=>TK.hash w a::TK.hashs w r
end
mutual
def TK.draws:TK->Nat
 |.k _=>1
 |.t l=>TK.drawss l+1
def TK.drawss:List TK->Nat
 |[]=>0
 |a::r=>TK.draws a+TK.drawss r
end
mutual
def mn(h:Heap):TK->Value->Prop
 |.k a,v=>iK a v=true
 |.t l,v=>∃a o items n,v=.ref a/\h.get? a=some o/\o.cls=.type "tuple"/\o.data=.seq items n/\TAts h l items.toList
def TAts(h:Heap):List TK->List Value->Prop
 |[],vs=>vs=[]
 |k::r,vs=>∃v us,vs=v::us/\mn h k v/\TAts h r us
end
theorem mn.inj{h:Heap}:∀(d:Nat) {x y:TK}{v:Value},x.depth<=d->mn h x v->mn h y v->x=y:=by
 have w:∀(d:Nat) (s:∀{x y:TK}{v:Value},x.depth<=d->mn h x v->mn h y v->x=y) (xs i:List TK) (m:Zf),TK.depths xs<=d->TAts h xs m->TAts h i m->xs=i:=by
  intro d s xs
  induction xs with
  |nil =>
   intro i m _ hx f;have z:m=[]:=hx;subst z;cases i with
   |nil=>rfl
   |cons y i=>obtain⟨_,_,e,_⟩:=f;cases e
  |cons x xs A =>
   intro i m p hx f;obtain⟨v,L,rfl,B,C⟩:=hx;cases i with
   |nil=>have D:v::L=[]:=f;cases D
   |cons y i =>
    obtain⟨v',N,e,E,G⟩:=f;cases e;have O:max x.depth (TK.depths xs)<=d:=p;rw[s (by omega) B E,A i L (by omega) C G]
 have g:∀(a:nN) (l:List TK) (v:Value),mn h (.k a) v->mn h (.t l) v->False:=by
  intro a l v q H;obtain⟨b,o,items,n,rfl,_⟩:=H;rcases bL (show iK a (.ref b)=true from q)with⟨_,_,_,e⟩|⟨_,_,_,e⟩|⟨_,e⟩<;>cases e
 have M:∀(a b:nN) (v:Value),iK a v=true->iK b v=true->a=b:=fun a b v q H=>uh q H;intro d
 induction d with
 |zero =>
  intro x y v p hx f;cases x with
  |t l=>exact absurd p (by show ¬(TK.depths l+1<=0);omega)
  |k a =>
   cases y with
   |k b=>rw[M a b v hx f]
   |t l=>exact(g a l v hx f).elim
 |succ d s =>
  intro x y v p hx f;cases x with
  |k a =>
   cases y with
   |k b=>rw[M a b v hx f]
   |t l=>exact(g a l v hx f).elim
  |t l =>
   cases y with
   |k b=>exact(g b l v f hx).elim
   |t Q =>
    obtain⟨a,o,items,n,rfl,T,hc,I,hi⟩:=hx;obtain⟨a',o',u,n',e,r,U,j,J⟩:=f;cases e;rw[T]at r;cases r;rw[I]at j;injection j with Y _;subst Y;rw[w d (fun q=>s q) l Q items.toList (by have:TK.depths l+1<=d+1:=p;omega) hi J]
theorem mn.mono{h g:Heap}(k:∀a o items n,h.get? a=some o->o.cls=.type "tuple"->o.data=.seq items n->g.get? a=some o):∀(d:Nat) {x:TK}{v:Value},x.depth<=d->mn h x v->mn g x v:=by
 have m:∀(d:Nat) (i:∀{x:TK}{v:Value},x.depth<=d->mn h x v->mn g x v) (xs:List TK) (j:Zf),TK.depths xs<=d->TAts h xs j->TAts g xs j:=by
  intro d i xs
  induction xs with
  |nil=>intro j _ hx;exact hx
  |cons x xs p =>
   intro j e hx;obtain⟨v,s,rfl,q,r⟩:=hx;have w:max x.depth (TK.depths xs)<=d:=e;exact⟨v,s,rfl,i (by omega) q,p s (by omega) r⟩
 intro d
 induction d with
 |zero =>
  intro x v e hx;cases x with
  |t l=>exact absurd e (by show ¬(TK.depths l+1<=0);omega)
  |k a=>exact hx
 |succ d i =>
  intro x v e hx;cases x with
  |k a=>exact hx
  |t l =>
   obtain⟨a,o,items,n,rfl,y,u,f,hi⟩:=hx;exact⟨a,o,items,n,rfl,k a o items n y u f,u,f,m d (fun z=>i z) l _ (by have:TK.depths l+1<=d+1:=e;omega) hi⟩
section
variable{prog:bq}{w:World}
theorem FX:∀(d:Nat) {A:Around}{E:Zc}{s:Shared}{k:TK}{v:Value}{Q:Int->Shared->Prop},k.depth<=d->A.units+d<cLine->mn s.heap k v->Q (k.hash w) { s with toks:=s.toks+k.draws } ->
  wpAny (model prog w) A (pyHash v) Q E s:=by
 intro d
 induction d with
 |zero =>
  intro A E s k v Q C hu u h;cases k with
  |t l=>exact absurd C (by show ¬(TK.depths l+1<=0);omega)
  |k a=>exact(y6 prog w).pyHash (k:=a) u h
 |succ d ih =>
  intro A E s k v Q C hu u h;cases k with
  |k a=>exact(y6 prog w).pyHash (k:=a) u h
  |t l =>
   obtain⟨a,o,items,n,rfl,U,hc,D,hi⟩:=u;have y:s.TypeIs (.ref a) "tuple":=⟨o,U,hc⟩;have G:TK.depths l<=d:=by have:TK.depths l+1<=d+1:=C;omega
   unfold pyHash
   first|unfold pyHashByItsType|skip
   first|refine ah (wpAny_cRoomFor_or (.inr (by omega)) ?_)|skip
   refine ah (FN y F.slot_tuple_hash.lookup ?_);show wpAny _ _ (if(some (zN "tuple.__hash__")==some Value.none)=true then _ else _) Q E s
   rw[if_neg (by rw[beq_builtin_none];exact gH)];refine ah (FN y F.slot_tuple_hash.lookup ?_);show wpAny _ _ (callSpecialIfBoundUnlessNone? (.ref a) "__hash__" _ >>= _) Q E s;refine ah (wpAny_callSpecialIfBoundUnlessNone?_slot y F.slot_tuple_hash (ph F.slot_tuple_hash y F.entry_tuple_hash ?_ (F.args_tuple_hash_1 _)));show wpAny _ _ (bX.Tuple.tupleItemsOf (.ref a) >>= _) _ _ s;refine ah (wpAny_tupleItemsOf U D ?_);refine ah ?_;rw[<-Array.forIn_toList];refine wpAny_forIn_list _
    (fun g (b:Array Int) H=>∃done left,l=done++left/\TAts s.heap left g/\b.toList=TK.hashs w done/\H={ s with toks:=s.toks+TK.drawss done })
    _ ?_ ?_ _ _ ⟨[],l,rfl,hi,rfl,rfl⟩
   ·rintro x g b H ⟨done,left,e,z,j,rfl⟩;cases left with
    |nil=>have I:x::g=[]:=z;cases I
    |cons f left =>
     obtain⟨x',J,L,h1,Y⟩:=z;cases L;have M:f.depth<=d:=by
      have gen:∀(p:List TK),TK.depths (p++f::left)<=d->f.depth<=d:=by
       intro p
       induction p with
       |nil=>intro N;have O:max f.depth (TK.depths left)<=d:=N;omega
       |cons q p i=>intro N;have O:max q.depth (TK.depths (p++f::left))<=d:=N;exact i (by omega)
      exact gen done (by rw[<-e];exact G)
     have T:TK.hashs w (done++[f])=TK.hashs w done++[f.hash w]:=by
      clear e j
      induction done with
      |nil=>rfl
      |cons q p i=>show _::TK.hashs w (p++[f])=_;rw[i];rfl
     have m:TK.drawss (done++[f])=TK.drawss done+f.draws:=by
      clear e j T
      induction done with
      |nil=>show f.draws+0=0+f.draws;omega
      |cons q p i=>show q.draws+TK.drawss (p++[f])=q.draws+TK.drawss p+f.draws;rw[i];omega
     refine ah (ih (k:=f) M (by show A.units+1+d<cLine;omega) h1 ?_)
     first
      |exact aw ⟨done++[f],left,by rw[e];simp,Y,by rw[T];simp[j],by rw[m];simp[Bo]⟩
      |exact ah (aw (aw ⟨done++[f],left,by rw[e];simp,Y,by rw[T];simp[j],by rw[m];simp[Bo]⟩))
   ·rintro b H ⟨done,left,e,z,j,rfl⟩;cases left with
    |cons f left=>obtain⟨_,_,L,_⟩:=z;cases L
    |nil =>
     rw[dO]at e;subst e;show wpAny _ _ (retInt (zO b.toList)) _ _ _;rw[j];refine wpAny_ret_mkInt ?_;have r:Q (DH (zO (TK.hashs w l))) { s with toks:=s.toks+(TK.drawss l+1) }:=h;show wpAny _ _ (if(decide (-(2:Int) ^ 63<=zO (TK.hashs w l)) && decide (zO (TK.hashs w l)<2 ^ 63))=true then _ else _) Q E _
     unfold DH at r;by_cases B:(decide (-(2:Int) ^ 63<=zO (TK.hashs w l)) && decide (zO (TK.hashs w l)<2 ^ 63))=true
     ·rw[if_pos B];rw[if_pos B]at r;exact aw (by simpa[Bo]using r)
     ·rw[if_neg B];rw[if_neg B]at r;exact ah (nW (aw (by simpa[Bo]using r)))
theorem Cy(d:Nat)(ih:∀{A:Around}{E:Zc}{s:Shared}{x y:TK}{u v:Value}{Q:Bool->Shared->Prop},x.depth<=d->y.depth<=d->A.units+d<cLine->mn s.heap x u->mn s.heap y v->Q (decide (x=y)) s->wpAny (model prog w) A (eqBool u v) Q E s)
  {A:Around}{E:Zc}{s:Shared}{x y:List TK}{a b:Addr}{P:Fin->Shared->Prop}{oa J:Obj}{xs q:Array Value}{na nb:Nat}(hx:TK.depths x<=d) (hy:TK.depths y<=d) (hu:A.units+d<cLine)
  (M:s.heap.get? a=some oa) (N:oa.data=.seq xs na) (O:TAts s.heap x xs.toList) (z:s.heap.get? b=some J) (T:J.cls=.type "tuple") (U:J.data=.seq q nb) (Y:TAts s.heap y q.toList)
  (h:P (.done (.ret (.bool (decide (x=y))))) s):wpAny (model prog w) A (bX.«tuple.__eq__» ⟨[.ref a,.ref b],[]⟩) P E s:=by
 have ab:s.TypeIs (.ref b) "tuple":=⟨J,z,T⟩;show wpAny _ _ (vj (.ref b) (.type "tuple") >>= _) _ _ s;refine ah (yn ab isSubtype_tuple_tuple ?_);simp only[Bn,kO,if_false];refine ah (wpAny_tupleItemsOf M N ?_);refine ah (wpAny_tupleItemsOf z U ?_);refine ah ?_;refine wpAny_forIn_list _
  (fun l r L=>r.1=none/\L=s/\∃n m xs' f,l=List.zip xs' f/\TAts s.heap n xs'/\TAts s.heap m f/\TK.depths n<=d/\TK.depths m<=d/\decide (n=m)=decide (x=y)/\(xs'.length==f.length)=(xs.size==q.size))
  _ ?_ ?_ _ _ ⟨rfl,rfl,x,y,xs.toList,q.toList,rfl,O,Y,hx,hy,rfl,by simp⟩
 ·rintro⟨u,v⟩ l r L ⟨hr,rfl,n,m,xs',f,t,j,g,dx,dy,i,k⟩;cases n with
  |nil =>
   have e:xs'=[]:=j;subst e;simp at t
  |cons k1 o =>
   obtain⟨u',B,rfl,h1,C⟩:=j;cases m with
   |nil =>
    have e:f=[]:=g;subst e;simp at t
   |cons k2 p =>
    obtain⟨v',D,rfl,h2,G⟩:=g;simp only[List.zip_cons_cons,List.cons.injEq,Bm]at t;obtain⟨⟨rfl,rfl⟩,rfl⟩:=t;have al:max k1.depth (TK.depths o)<=d:=dx;have an:max k2.depth (TK.depths p)<=d:=dy;refine ah (ih (x:=k1) (y:=k2) (by omega) (by omega) hu h1 h2 ?_);by_cases hk:k1=k2
    ·subst hk;rw[zzr1 rfl];simp only[Bn,kO,if_false];refine aw ⟨rfl,rfl,o,p,B,D,rfl,C,G,by omega,by omega,?_,by simpa using k⟩;rw[<-i];by_cases H:o=p
     ·simp[H]
     ·simp[H]
    ·rw[zzr0 hk];simp only[Bool.not_false,if_true];have hf:decide (x=y)=false:=by rw[<-i];simp[hk]
     rw[hf]at h;exact ah (aw (aw (aw h)))
 ·rintro⟨r1,r2⟩ L ⟨hr,rfl,n,m,xs',f,t,j,g,dx,dy,i,k⟩;simp only at hr;subst hr;refine aw ?_;have I:(xs.size==q.size)=decide (x=y):=by
   rw[<-i,<-k];cases n with
   |nil =>
    have e:xs'=[]:=j;subst e;cases m with
    |nil=>have e:f=[]:=g;subst e;simp
    |cons _ _=>obtain⟨_,_,rfl,_⟩:=g;simp
   |cons _ _ =>
    obtain⟨_,_,rfl,_⟩:=j;cases m with
    |nil=>have e:f=[]:=g;subst e;simp
    |cons _ _=>obtain⟨_,_,rfl,_⟩:=g;simp at t
  show P (.done (.ret (.bool (xs.size==q.size)))) L;rw[I];exact h
theorem Iz:∀(d:Nat) {A:Around}{E:Zc}{s:Shared}{x y:TK}{u v:Value}{Q:Bool->Shared->Prop},x.depth<=d->y.depth<=d->A.units+d<cLine->mn s.heap x u->mn s.heap y v->Q (decide (x=y)) s ->
  wpAny (model prog w) A (eqBool u v) Q E s:=by
 have g:∀{A:Around}{E:Zc}{s:Shared}{a:nN}{l:List TK}{u v:Value}{Q:Bool->Shared->Prop},A.units<cLine->mn s.heap (.k a) u->mn s.heap (.t l) v->Q false s->wpAny (model prog w) A (eqBool u v) Q E s:=by
  intro A E s a l u v Q j hx f h;obtain⟨b,o,items,n,rfl,L,M,q,hi⟩:=f;have r:s.heap.IsTuple b items:=⟨o,L,M,n,q⟩;rcases bL (show iK a u=true from hx)with⟨i,t,rfl,rfl⟩|⟨i,t,rfl,rfl⟩|⟨rfl,rfl⟩
  ·exact bo.int_tuple i t r j prog w E Q h
  ·exact bo.str_tuple i t r j prog w E Q h
  ·exact bo.none_tuple r j prog w E Q h
 have p:∀{A:Around}{E:Zc}{s:Shared}{a:nN}{l:List TK}{u v:Value}{Q:Bool->Shared->Prop},A.units<cLine->mn s.heap (.t l) u->mn s.heap (.k a) v->Q false s->wpAny (model prog w) A (eqBool u v) Q E s:=by
  intro A E s a l u v Q j hx f h;obtain⟨b,o,items,n,rfl,L,M,q,hi⟩:=hx;have r:s.heap.IsTuple b items:=⟨o,L,M,n,q⟩;rcases bL (show iK a v=true from f)with⟨i,t,rfl,rfl⟩|⟨i,t,rfl,rfl⟩|⟨rfl,rfl⟩
  ·exact bo.tuple_int i t r j prog w E Q h
  ·exact bo.tuple_str i t r j prog w E Q h
  ·exact bo.tuple_none r j prog w E Q h
 have leaves:∀{A:Around}{E:Zc}{s:Shared}{a b:nN}{u v:Value}{Q:Bool->Shared->Prop},mn s.heap (.k a) u->mn s.heap (.k b) v->Q (decide (TK.k a=TK.k b)) s->wpAny (model prog w) A (eqBool u v) Q E s:=by
  intro A E s a b u v Q hx f h;refine(y6 prog w).eqBool (a:=a) (b:=b) hx f ?_;by_cases e:a=b
  ·subst e;simpa using h
  ·have:¬(TK.k a=TK.k b):=fun z=>e (by injection z);rw[zzr0 this]at h;rw[zzr0 e];exact h
 intro d
 induction d with
 |zero =>
  intro A E s x y u v Q B C j hx f h;cases x with
  |t l=>exact absurd B (by show ¬(TK.depths l+1<=0);omega)
  |k a =>
   cases y with
   |t l=>exact absurd C (by show ¬(TK.depths l+1<=0);omega)
   |k b=>exact leaves hx f h
 |succ d ih =>
  intro A E s x y u v Q B C j hx f h;cases x with
  |k a =>
   cases y with
   |k b=>exact leaves hx f h
   |t l =>
    rw[zzr0 (by intro z;cases z)]at h;exact g (by omega) hx f h
  |t l =>
   cases y with
   |k b =>
    rw[zzr0 (by intro z;cases z)]at h;exact p (by omega) hx f h
   |t m =>
    have hl:TK.depths l<=d:=by have:TK.depths l+1<=d+1:=B;omega
    have hm:TK.depths m<=d:=by have:TK.depths m+1<=d+1:=C;omega
    have N:=hx;have O:=f;obtain⟨a,oa,xs,na,rfl,G,T,U,Y⟩:=hx;obtain⟨b,ob,ys,nb,rfl,H,I,ab,al⟩:=f;have J:s.TypeIs (.ref a) "tuple":=⟨oa,G,T⟩;have an:s.TypeIs (.ref b) "tuple":=⟨ob,H,I⟩;have ap:decide (TK.t l=TK.t m)=decide (l=m):=by
     by_cases e:l=m
     ·subst e;simp
     ·have:¬(TK.t l=TK.t m):=fun z=>e (by injection z);rw[zzr0 this,zzr0 e]
    unfold eqBool
    try with_reducible refine iy ?_
    show wpAny _ _ (if(Value.ref a==Value.ref b)=true then _ else _) Q E s
    by_cases D:(Value.ref a==Value.ref b)=true
    ·rw[if_pos D];have e:a=b:=by have:=eq_of_beq D;injection this
     subst e;have e2:TK.t l=TK.t m:=mn.inj _ (aK _) N O;rw[zzr1 e2]at h;exact ah (nW (aw h))
    ·rw[if_neg D];rw[ap]at h;exact ah (wpAny_richCompare_same_room (op:=.Eq) J an F.slot_tuple_eq
      (ph F.slot_tuple_eq J F.entry_tuple_eq (Cy d (fun h1 h2 h3 h4 h5 h6=>ih h1 h2 h3 h4 h5 h6) hl hm (by show A.units+1+d<cLine;omega) G U Y H I ab al ⟨_,rfl,(fun e=>nomatch e),qZ h⟩) (F.args_tuple_eq_2 _ _)) (by omega))
theorem DZ:∀(d:Nat) {A:Around}{E:Zc}{s:Shared}{k:TK}{v:Value}{Q:Bool->Shared->Prop},k.depth<=d->mn s.heap k v->Q true s->wpAny (model prog w) A (eqIsQuiet d v) Q E s:=by
 intro d
 induction d with
 |zero =>
  intro A E s k v Q j i h;cases k with
  |t l=>exact absurd j (by show ¬(TK.depths l+1<=0);omega)
  |k a=>rw[eqIsQuiet_byValue _ ((y6 prog w).byValue a v i)];exact aw h
 |succ d D =>
  intro A E s k v Q j i h;cases k with
  |k a=>rw[eqIsQuiet_byValue _ ((y6 prog w).byValue a v i)];exact aw h
  |t l =>
   have G:TK.depths l<=d:=by have:TK.depths l+1<=d+1:=j;omega
   obtain⟨a,o,items,n,rfl,y,H,m,hi⟩:=i;have z:s.TypeIs (.ref a) "tuple":=⟨o,y,H⟩;unfold eqIsQuiet;refine ah (FN z F.slot_tuple_eq.lookup ?_);show wpAny _ _ (vj (.ref a) (.type "tuple") >>= _) _ _ s;refine ah (yn z isSubtype_tuple_tuple ?_);simp only[Bn,kO,if_false];refine ah (kN y m ?_);refine ah ?_;show wpAny _ _ (forIn items _ _) _ _ s;rw[<-Array.forIn_toList];refine wpAny_forIn_list _ (fun f r p=>r.1=none/\p=s/\∃left,TAts s.heap left f/\TK.depths left<=d) _ ?_ ?_ _ _ ⟨rfl,rfl,l,hi,G⟩
   ·rintro v f r p ⟨q,rfl,left,g,u⟩;cases left with
    |nil=>have e:v::f=[]:=g;cases e
    |cons B left =>
     obtain⟨L,x,e,I,J⟩:=g;cases e;have C:max B.depth (TK.depths left)<=d:=u;refine ah (D (k:=B) (by omega) I ?_);simp only[Bn,kO,if_false];exact aw ⟨rfl,rfl,left,J,by omega⟩
   ·rintro⟨M,N⟩ p ⟨q,rfl,_⟩;simp only at q;subst q;exact aw h
def bw(prog:bq)(w:World):HeapKind prog w TK where
 is:=fun h k a=>mn h k (.ref a)/\k.depth<=8
 hash:=TK.hash w
 draws:=TK.draws
 room:=fun A=>A.units+8<cLine
 inj:=fun hx hy=>mn.inj 8 hx.2 hx.1 hy.1
 keeps:=fun{h h' k a d o es ep} x ho hd hs=>⟨mn.mono (fun b ob items n hb _ hdb=>(hs.2 b fun e=>by
  subst e;rw[ho]at hb;cases hb;rw[hd]at hdb;cases hdb).trans hb) 8 x.2 x.1,x.2⟩
 pyHash:=fun hu hk h=>FX 8 hk.2 hu hk.1 h
 eqBool:=fun hu hx hy h=>Iz 8 hx.2 hy.2 hu hx.1 hy.1 h
 quiet:=fun hk h=>DZ 8 hk.2 hk.1 h
end
end L2
namespace L2
open PySem PySem.Spec PyProof.Rows
inductive V where
 |non|bl (b:Bool)|int (i:Int)|str (x:Str)|byt (b:Array UInt8)|flt (b:UInt64)|ref (a:Addr)|ty (n:String)
 deriving DecidableEq
def RelV:V->Value->Prop
 |.non,u=>u=Value.none
 |.bl b,u=>u=Value.bool b
 |.int i,u=>∃t,u=Value.int i t
 |.str x,u=>∃t,u=Value.str x t
 |.byt b,u=>∃t,u=Value.bytes b t
 |.flt b,u=>∃t,u=Value.float b t
 |.ref a,u=>u=Value.ref a
 |.ty n,u=>u=Value.type n
abbrev bp:List V->List Value->Prop:=Paired RelV
theorem bp.length{xs:List V}{a:Zf}(r:bp xs a):xs.length=a.length:=Paired.length r
theorem bp.get:∀{xs:List V}{a:Zf}{i:Nat}{x:V},bp xs a->xs[i]?=some x->∃u,a[i]?=some u/\RelV x u
 |_,_,_,_,.nil,e=>by simp at e
 |_,_,0,_,.cons r _,e=>by simp at e;subst e;exact⟨_,rfl,r⟩
 |_,_,i+1,x,.cons _ t,e=>by
  obtain⟨u,f,g⟩:=bp.get (i:=i) (x:=x) t (by simpa using e);exact⟨u,by simpa using f,g⟩
theorem bp.set{x:V}{u:Value}(r:RelV x u):∀{xs:List V}{a:Zf}(i:Nat),bp xs a->bp (xs.set i x) (a.set i u)
 |_,_,_,.nil=>.nil
 |_,_,0,.cons _ t=>.cons r t
 |_,_,i+1,.cons q t=>.cons q (bp.set r i t)
theorem bp.append{xs a:List V}{e f:Zf}(h:bp xs e)(s:bp a f):bp (xs++a) (e++f):=by
 induction h with
 |nil=>exact s
 |cons r _ g=>exact .cons r g
theorem bp.take:∀{xs:List V}{a:Zf}(n:Nat),bp xs a->bp (xs.take n) (a.take n)
 |_,_,0,_=>.nil
 |_,_,_+1,.nil=>.nil
 |_,_,n+1,.cons r t=>.cons r (bp.take n t)
theorem bp.drop:∀{xs:List V}{a:Zf}(n:Nat),bp xs a->bp (xs.drop n) (a.drop n)
 |_,_,0,r=>r
 |_,_,_+1,.nil=>.nil
 |_,_,n+1,.cons _ t=>bp.drop n t
def iM:Option V->Option Value->Prop
 |some v,some u=>RelV v u
 |none,none=>True
 |_,_=>False
def KV{κ:Type}:List (κ×V)->List (κ×Value)->Prop:=Paired fun(p:κ×V) (q:κ×Value)=>p.1=q.1/\RelV p.2 q.2
def kV:fD->V
 |.inl i=>.int i
 |.inr x=>.str x
def Hf:nN->V
 |none=>.non
 |some k=>kV k
inductive HO where
 |lst (xs:List V)
 |tup (xs:List V)
 |dK (kvs:List (fD×V))|dT (kvs:List (TK×V))
 |set (S:Int->Bool) (n:Nat)
 |ins (C dx:Addr) (fs:List (Str×V))
 |own (x:Addr)
 |xd (fs:List (Str×V))
 |met (f x:Addr)
 |rng (lo hi:Int)
 |frz (o:Obj) (u:HO)
 |tbl (ps:Array Value)
 |ext (φ:Heap->Prop)
abbrev Hp:=Addr->Option HO
mutual
def g8(H:Hp):TK->V->Prop
 |.k a,v=>v=Hf a
 |.t l,v=>∃b xs,v=.ref b/\H b=some (.tup xs)/\TKAts H l xs
def TKAts(H:Hp):List TK->List V->Prop
 |[],vs=>vs=[]
 |k::r,vs=>∃v us,vs=v::us/\g8 H k v/\TKAts H r us
end
def eF(K:Za)(H:Hp)(a:Addr)(xs:List V):Prop :=
 H a=some (.tup xs)∨∃(o:Obj) (its:Array Value) (n:Nat),K.lookup a=some o/\o.cls=.type "tuple"/\o.data=.seq its n/\its.size<=ak/\bp xs its.toList
theorem eF.keeps{K:Za}{H e:Hp}{a:Addr}{xs:List V}(h:eF K H a xs)(f:∀b xs,H b=some (.tup xs)->e b=some (.tup xs)):eF K e a xs:=h.imp (f a xs) id
mutual
def rK(K:Za)(H:Hp):TK->V->Prop
 |.k a,v=>v=Hf a
 |.t l,v=>∃b xs,v=.ref b/\eF K H b xs/\TKCs K H l xs
def TKCs(K:Za)(H:Hp):List TK->List V->Prop
 |[],vs=>vs=[]
 |k::r,vs=>∃v us,vs=v::us/\rK K H k v/\TKCs K H r us
end
theorem rK.keeps{K:Za}{H f:Hp}(p:∀b xs,H b=some (.tup xs)->f b=some (.tup xs)):∀(d:Nat) {k:TK}{v:V},k.depth<=d->rK K H k v->rK K f k v:=by
 have i:∀(d:Nat) (g:∀{k:TK}{v:V},k.depth<=d->rK K H k v->rK K f k v) (xs:List TK) (h:List V),TK.depths xs<=d->TKCs K H xs h->TKCs K f xs h:=by
  intro d g xs
  induction xs with
  |nil=>intro h _ hx;exact hx
  |cons x xs j =>
   intro h e hx;obtain⟨v,o,rfl,m,n⟩:=hx;have q:max x.depth (TK.depths xs)<=d:=e;exact⟨v,o,rfl,g (by omega) m,j o (by omega) n⟩
 intro d
 induction d with
 |zero =>
  intro k v e hx;cases k with
  |t l=>exact absurd e (by show ¬(TK.depths l+1<=0);omega)
  |k a=>exact hx
 |succ d g =>
  intro k v e hx;cases k with
  |k a=>exact hx
  |t l =>
   obtain⟨b,xs,rfl,r,hi⟩:=hx;exact⟨b,xs,rfl,r.keeps p,i d (fun s=>g s) l xs (by have:TK.depths l+1<=d+1:=e;omega) hi⟩
theorem g8.c{K:Za}{H:Hp}:∀(d:Nat) {k:TK}{v:V},k.depth<=d->g8 H k v->rK K H k v:=by
 have h:∀(d:Nat) (f:∀{k:TK}{v:V},k.depth<=d->g8 H k v->rK K H k v) (xs:List TK) (g:List V),TK.depths xs<=d->TKAts H xs g->TKCs K H xs g:=by
  intro d f xs
  induction xs with
  |nil=>intro g _ hx;exact hx
  |cons x xs i =>
   intro g e hx;obtain⟨v,n,rfl,j,m⟩:=hx;have o:max x.depth (TK.depths xs)<=d:=e;exact⟨v,n,rfl,f (by omega) j,i n (by omega) m⟩
 intro d
 induction d with
 |zero =>
  intro k v e hx;cases k with
  |t l=>exact absurd e (by show ¬(TK.depths l+1<=0);omega)
  |k a=>exact hx
 |succ d f =>
  intro k v e hx;cases k with
  |k a=>exact hx
  |t l =>
   obtain⟨b,xs,rfl,p,hi⟩:=hx;exact⟨b,xs,rfl,.inl p,h d (fun q=>f q) l xs (by have:TK.depths l+1<=d+1:=e;omega) hi⟩
def upd(H:Hp)(a:Addr)(o:HO):Hp:=fun b=>if b=a then some o else H b
theorem aa{H:Hp}{a:Addr}{o:HO}:upd H a o a=some o:=by unfold upd;rw[if_pos rfl]
theorem am{H:Hp}{a b:Addr}{o:HO}(h:b≠a):upd H a o b=H b:=by unfold upd;rw[if_neg h]
theorem lU{H:Hp}{a:Addr}{o u:HO}:upd (upd H a o) a u=upd H a u:=by
 funext b;unfold upd;split<;>rfl
theorem Hc{H:Hp}{a b:Addr}{o u:HO}(h:H a=some o)(f:H b=some u)(d:o≠u):a≠b:=by
 intro e;subst e;rw[h]at f;exact d (eM f)
theorem ag{H:Hp}{a b:Addr}{o:HO}(h:H a=some o)(f:H b=none):a≠b:=by
 intro e;subst e;rw[h]at f;cases f
section
variable(P:bq)(w:World)(K:Za)
def bT(H:Hp)(h:Heap)(a:Addr):HO->Prop
 |.lst xs=>xs.length<=ak/\∃(its:Zf) (n:Nat),bp xs its/\h.get? a=some { cls:=.type "list",data:=.seq its.toArray n }
 |.tup xs=>xs.length<=ak/\∃its:List Value,bp xs its/\IsTup h a its.toArray
 |.dK kvs=>kvs.length<=ak/\(a==gK)=false/\∃vs,KV kvs vs/\h.DictOf (cD P w) a vs
 |.dT kvs=>kvs.length<=ak/\(a==gK)=false/\∃xs:List (TK×Addr×Value),
   Paired (fun(p:TK×V) (q:TK×Addr×Value)=>p.1=q.1/\rK K H p.1 (.ref q.2.1)/\p.1.depth<=8/\RelV p.2 q.2.2) kvs xs /\
   ∃o es ep,h.get? a=some o/\o.ExactDict/\o.data=.dict es ep/\es.toList=xs.map (Bl (bw P w))/\(xs.map (·.1)).Nodup
 |.set S n=>h.SetOf (intKind P w) a S n
 |.ins C dx fs=>H dx=some (.own a)/\fs.length<=1000/\dx≠a/\h.get? a=some (qY C dx) /\
   ∃mA,h.Ns1 dx mA/\(∀f,iM (fs.lookup f) (mA f))/\ym mA (fs.map (·.1))
 |.own _=>∃o,h.get? a=some o
 |.xd fs=>∃mA,h.Ns1 a mA/\∀f,iM (fs.lookup f) (mA f)
 |.rng lo hi=>∃t u v,h.get? a=some { cls:=.type "range",data:=.fields #[.int lo t,.int hi u,.int 1 v] }
 |.frz o u=>h.get? a=some o/\bT H h a u
 |.tbl ps=>h.get? a=some { cls:=.none,data:=.fields ps }
 |.met f x=>h.get? a=some (PySem.W.methodObj (.ref f) (.ref x))
 |.ext φ=>φ h/\(∃o,h.get? a=some o)/\∀h1 h2:Heap,φ h1->(∀o,h1.get? a=some o->h2.get? a=some o)->φ h2
def kg(H:Hp)(h:Heap):Prop:=∀a o,H a=some o->bT P w K H h a o
end
section
variable{P:bq}{w:World}{K:Za}{H H':Hp}{h h':Heap}{a:Addr}{o:HO}
theorem bT.lt(x:bT P w K H h a o):a<h.objs.size:=by
 cases o with
 |lst xs=>obtain⟨_,_,_,_,e⟩:=x;exact aI e
 |tup xs=>obtain⟨_,_,_,p⟩:=x;exact p.lt
 |dK g=>obtain⟨_,_,_,_,o,_,_,e,_⟩:=x;exact aI e
 |dT g=>obtain⟨_,_,_,_,o,_,_,e,_⟩:=x;exact aI e
 |set S n=>obtain⟨o,_,_,_,e,_⟩:=x;exact aI e
 |ins C i fs=>obtain⟨_,_,_,e,_⟩:=x;exact aI e
 |own y=>obtain⟨_,e⟩:=x;exact aI e
 |xd fs=>obtain⟨_,⟨_,_,_,e,_⟩,_⟩:=x;exact aI e
 |rng lo hi=>obtain⟨_,_,_,e⟩:=x;exact aI e
 |frz j u=>obtain⟨e,_⟩:=x;exact aI e
 |tbl k=>exact aI (show h.get? a=some _ from x)
 |met f y=>exact aI (show h.get? a=some _ from x)
 |ext φ=>obtain⟨_,⟨_,e⟩,_⟩:=x;exact aI e
theorem Paired.mapP{α β:Type}{F G:α->β->Prop}{e:List α}{g:List β}(h:Paired F e g)(f:∀a b,F a b->G a b):Paired G e g:=by
 induction h with
 |nil=>exact .nil
 |cons r _ i=>exact .cons (f _ _ r) i
theorem bT.stay(x:bT P w K H h a o)(k:∀b u,(b=a∨H b=some (.own a))->h.get? b=some u->h'.get? b=some u)
  (D:∀b,H b=some (.own a)->H' b=some (.own a)) (E:∀b xs,H b=some (.tup xs)->H' b=some (.tup xs)):bT P w K H' h' a o:=by
 induction o with
 |lst xs=>obtain⟨z,l,n,r,e⟩:=x;exact⟨z,l,n,r,k _ _ (.inl rfl) e⟩
 |tup xs=>obtain⟨z,l,r,g,e,c⟩:=x;exact⟨z,l,r,g,k _ _ (.inl rfl) e,c⟩
 |dK m=>obtain⟨z,y,G,r,g,i,j,e,c⟩:=x;exact⟨z,y,G,r,g,i,j,k _ _ (.inl rfl) e,c⟩
 |dT m =>
  obtain⟨z,y,xs,r,g,i,j,e,c⟩:=x;exact⟨z,y,xs,Paired.mapP r fun p q z=>⟨z.1,rK.keeps E 8 z.2.2.1 z.2.1,z.2.2⟩,g,i,j,k _ _ (.inl rfl) e,c⟩
 |set S n=>obtain⟨g,i,j,t,e,c⟩:=x;exact⟨g,i,j,t,k _ _ (.inl rfl) e,c⟩
 |ins C L fs =>
  obtain⟨d,z,ne,e,s,⟨A,i,j,I,c⟩,r⟩:=x;exact⟨D _ d,z,ne,k _ _ (.inl rfl) e,s,⟨A,i,j,k _ _ (.inr d) I,c⟩,r⟩
 |own y=>obtain⟨g,e⟩:=x;exact⟨g,k _ _ (.inl rfl) e⟩
 |xd fs=>obtain⟨s,⟨A,i,j,e,c⟩,r⟩:=x;exact⟨s,⟨A,i,j,k _ _ (.inl rfl) e,c⟩,r⟩
 |rng lo hi=>obtain⟨t,u,v,e⟩:=x;exact⟨t,u,v,k _ _ (.inl rfl) e⟩
 |frz g u J=>obtain⟨e,q⟩:=x;exact⟨k _ _ (.inl rfl) e,J q⟩
 |tbl B =>
  have e:h.get? a=some { cls:=.none,data:=.fields B }:=x;show h'.get? a=some { cls:=.none,data:=.fields B };exact k a _ (.inl rfl) e
 |met f y =>
  have e:h.get? a=some (PySem.W.methodObj (.ref f) (.ref y)):=x;show h'.get? a=some (PySem.W.methodObj (.ref f) (.ref y));exact k a _ (.inl rfl) e
 |ext φ=>obtain⟨p,⟨o,e⟩,st⟩:=x;exact⟨st _ _ p fun o q=>k _ _ (.inl rfl) q,⟨o,k _ _ (.inl rfl) e⟩,st⟩
theorem kg.lt(x:kg P w K H h)(e:H a=some o):a<h.objs.size:=(x a o e).lt
theorem kg.fresh(x:kg P w K H h)(e:h.objs.size<=a):H a=none:=by
 cases q:H a with
 |none=>rfl
 |some u=>exact absurd (fF (x.lt q) e) (mD _)
theorem kg.kept(x:kg P w K H h)(k:∀b u,h.get? b=some u->h'.get? b=some u):kg P w K H h':=fun a o e =>
 (x a o e).stay (fun b u _ q=>k b u q) (fun _ q=>q) fun _ _ q=>q
theorem kg.laid(x:kg P w K H h)(k:∀b u,h.get? b=some u->h'.get? b=some u)(i:h.objs.size<=a)(new:bT P w K (upd H a o) h' a o):kg P w K (upd H a o) h':=fun b u e=>by
 have f:=x.fresh i;by_cases g:b=a
 ·subst g;rw[aa]at e;cases e;exact new
 ·rw[am g]at e;exact(x b u e).stay (fun c v _ q=>k c v q) (fun c q=>by rw[am (ag q f)];exact q) fun c xs q=>by rw[am (ag q f)];exact q
end
def Rd(H:Hp)(a:Addr)(u:HO):Prop:=H a=some u∨∃o,H a=some (.frz o u)
theorem Rd.ok{P:bq}{w:World}{K:Za}{H:Hp}{h:Heap}{a:Addr}{u:HO}(r:Rd H a u)(x:kg P w K H h):bT P w K H h a u:=by
 rcases r with r|⟨o,r⟩
 ·exact x a u r
 ·obtain⟨_,q⟩:=x a _ r;exact q
def Jb:Option HO->Prop
 |some (.lst _)=>True
 |some (.dK _)=>True
 |some (.dT _)=>True
 |some (.set _ _)=>True
 |some (.ins _ _ _)=>True
 |some (.ext _)=>True
 |_=>False
section
variable{P:bq}{w:World}{K:Za}{H:Hp}{h h':Heap}{x e:Addr}{o':HO}
theorem kg.write(ok:kg P w K H h)(i:Jb (H x))(m:e=x∨H e=some (.own x))(k:∀b u,b≠e->h.get? b=some u->h'.get? b=some u)(l:∃u,h'.get? e=some u)
  (new:bT P w K (upd H x o') h' x o'):kg P w K (upd H x o') h':=fun b u q=>by
 have f:∀c y,H c=some (.own y)->c≠x:=fun c y r z=>by subst z;rw[r]at i;exact i
 have g:∀c xs,H c=some (.tup xs)->c≠x:=fun c xs r z=>by subst z;rw[r]at i;exact i
 by_cases j:b=x
 ·subst j;rw[aa]at q;cases q;exact new
 ·rw[am j]at q;by_cases a:b=e
  ·have n:H b=some (.own x):=by
    rcases m with z|z
    ·exact absurd (a.trans z) j
    ·rw[a];exact z
   rw[q]at n;cases n;obtain⟨v,o⟩:=l;exact⟨v,by rw[a];exact o⟩
  ·refine(ok b u q).stay (fun c v hc r=>k c v ?_ r) (fun c r=>by rw[am (f c b r)];exact r) fun c xs r=>by rw[am (g c xs r)];exact r
   rcases hc with rfl|hc
   ·exact a
   ·rintro rfl;rcases m with z|z
    ·exact f c b hc z
    ·rw[hc]at z;cases z;exact j rfl
end
structure Un(fs ex:Ze)(H H':Hp)(h h':Heap):Prop where
 keep:∀b o,h.get? b=some o->H b=none->b∉fs->b∉ex->h'.get? b=some o
 slot:∀b o,h.get? b=some o->H b=none->b∈fs->b∉ex->∃sl,h'.get? b=some { o with slots:=sl }
 free:∀b o,h.get? b=some o->H b=none->b∉ex->H' b=none
 there:∀b o,h.get? b=some o->b∉ex->∃o',h'.get? b=some o'
 tups:∀b xs,H b=some (.tup xs)->H' b=some (.tup xs)
 frzs:∀b o u,H b=some (.frz o u)->H' b=some (.frz o u)
 tbls:∀b ps,H b=some (.tbl ps)->∃more,H' b=some (.tbl (ps++more))
section
variable{fs fs' ex ex':Ze}{H H1 H2:Hp}{h h1 h2 h':Heap}{a x e:Addr}{o:HO}
theorem Un.any(u:Un fs ex H H1 h h1){b:Addr}{f:Obj}(q:h.get? b=some f)(n:H b=none)(hx:b∉ex):∃i,h1.get? b=some { f with slots:=i }:=by
 by_cases g:b∈fs
 ·exact u.slot b f q n g hx
 ·exact⟨f.slots,u.keep b f q n g hx⟩
theorem Un.kept(k:∀b u,h.get? b=some u->h'.get? b=some u):Un fs ex H H h h' :=
 ⟨fun b f q _ _ _=>k b f q,fun b f q _ _ _=>⟨f.slots,k b f q⟩,fun _ _ _ n _=>n,fun b f q _=>⟨f,k b f q⟩,fun _ _ q=>q,fun _ _ _ q=>q,fun _ g q=>⟨#[],by rw[q];simp⟩⟩
theorem Un.refl:Un fs ex H H h h:=Un.kept fun _ _ q=>q
theorem Un.laid(k:∀b u,h.get? b=some u->h'.get? b=some u)(g:h.objs.size<=a)(f:H a=none):Un fs ex H (upd H a o) h h' where
 keep:=fun b u q _ _ _=>k b u q
 slot:=fun b u q _ _ _=>⟨u.slots,k b u q⟩
 free:=fun b u q n _=>by rw[am (bM (fF (aI q) g))];exact n
 there:=fun b u q _=>⟨u,k b u q⟩
 tups:=fun b xs q=>by rw[am (ag q f)];exact q
 frzs:=fun b u xs q=>by rw[am (ag q f)];exact q
 tbls:=fun b i q=>⟨#[],by rw[am (ag q f),q];simp⟩
theorem Un.write(g:Jb (H x))(m:e=x∨H e=some (.own x))(k:∀b u,b≠e->h.get? b=some u->h'.get? b=some u)(i:∃u,h'.get? e=some u):Un fs ex H (upd H x o) h h':=by
 have hx:∀b,H b=none->b≠x:=fun b n z=>by subst z;rw[n]at g;exact g
 have l:∀b,H b=none->b≠e:=fun b n z=>by
  subst z;rcases m with r|r
  ·exact hx b n r
  ·rw[n]at r;cases r
 have j:∀b u,H b=some u->¬Jb (some u)->b≠x:=fun b u q p z=>by subst z;rw[q]at g;exact p g
 refine⟨fun b u q n _ _=>k b u (l b n) q,fun b u q n _ _=>⟨u.slots,k b u (l b n) q⟩,fun b u q n _=>by rw[am (hx b n)];exact n,fun b u q _=>?_,
  fun b xs q=>by rw[am (j b _ q fun z=>z)];exact q,fun b u xs q=>by rw[am (j b _ q fun z=>z)];exact q,fun b s q=>⟨#[],by rw[am (j b _ q fun z=>z),q];simp⟩⟩
 by_cases f:b=e
 ·subst f;exact i
 ·exact⟨u,k b u f q⟩
end
def trk(h:Heap)(H:Hp):List Addr:=(mC h.objs.size).filter fun a=>(H a).isSome
def xE(h:Heap)(H:Hp):Heap:=PySem.W.hideAll h (trk h H)
theorem Dg(h:Heap)(H:Hp):(xE h H).objs.size=h.objs.size:=PySem.W.hideAll_size _ _
theorem Fi{h:Heap}{H:Hp}{b:Addr}{o:Obj}(e:h.get? b=some o)(n:H b=none):(xE h H).get? b=some o :=
 PySem.W.hideAll_get _ e fun a=>by
  have q:(H b).isSome=true:=(dJ.mp a).2;rw[n]at q;simp at q
theorem GC{h:Heap}{H:Hp}{b:Addr}{o:Obj}(e:(xE h H).get? b=some o):h.get? b=some o/\H b=none:=by
 have a:h.get? b=some o:=PySem.W.of_hideAll (trk h H) e;refine⟨a,?_⟩;cases q:H b with
 |none=>rfl
 |some x =>
  have f:b∈trk h H:=dJ.mpr ⟨List.mem_range.mpr (aI a),by simp[q]⟩;have z:(xE h H).get? b=none:=PySem.W.hideAll_none (trk h H) f;rw[z]at e;cases e
end L2
namespace L2
open PySem PySem.Spec PyProof.Rows
structure Mod(K:Za)(mg:Str->Option Value)(base:Heap):Prop where
 kin:K.In base
 glob:base.Ns bH mg
 blt:∃mb,base.Ns builtinsNs mb/\∀x:Str,x≠"__name__"->mb x=iV x
 nolimit:base.NoLimit
structure Cx where
 prog:bq
 w:World
 K:Za
 mg:Str->Option Value
 base:Heap
 A:Around
 N:List Str
 s₀:Shared
 H₀:Hp
 env:Env
 outer:List Env
 stack:List Env
 ex:List Addr
 fn:Str->Bool
 calm:Bool
 pn:List (Addr×Obj)
 xe:Value->Shared->Prop
def uN(l:List Env):List Addr:=l.filterMap (·.frame)
abbrev Cx.fs(X:Cx):List Addr:=uN X.outer
def Vis(sc:Scope)(x:Str):Prop:=sc.names.lookup x=some .local∨sc.names.lookup x=some .cell∨sc.names.lookup x=some .free
def Loc(sc:Scope)(x:Str):Prop:=sc.names.lookup x=some .local∨sc.names.lookup x=some .cell
def Look(env:Env)(h:Heap)(m:Str->Option Value)(x:Str)(u:Value):Prop :=
 (env.kindOf x=some .local/\m x=some u)∨((env.kindOf x=some .cell∨env.kindOf x=some .free)/\∃c,env.cells.lookup x=some c/\h.IsCell c (some u))
structure Cx.Ok(X:Cx):Prop where
 mod:Mod X.K X.mg X.base
 kind:X.env.scope.kind=.function
 glob:X.env.globals=bH
 blt:X.env.builtins=builtinsNs
 above:X.s₀.heap.objs.size<=X.env.locals
 inj:∀x y c,X.env.cells.lookup x=some c->X.env.cells.lookup y=some c->x=y
 has:∀x,(X.env.kindOf x=some .cell∨X.env.kindOf x=some .free)->∃c,X.env.cells.lookup x=some c
 cab:∀x c,X.fn x=true->X.env.cells.lookup x=some c->X.s₀.heap.objs.size<=c
 hd:X.calm=true->X.A.handled=none
 frames:X.A.frames=some X.stack
 stk:X.stack=X.outer∨(X.stack=X.env::X.outer/\X.env.frame=some X.env.locals)
 exf:∀b∈X.ex,b≠X.env.locals/\∀x c,X.env.cells.lookup x=some c->c≠b
 bs:∀b o,X.base.get? b=some o->X.s₀.heap.get? b=some o/\X.H₀ b=none
 bsz:X.base.objs.size<=X.s₀.heap.objs.size
 noex:∀b o,X.base.get? b=some o->b∉X.ex
 exfs:∀b∈X.ex,b∉X.fs
 funs:X.s₀.heap.FunFrames X.base X.outer
 frf:∀b∈X.fs,X.H₀ b=none
structure Inv(X:Cx)(J4:Zd)(σ:List (Option V))(H:Hp)(s:Shared):Prop where
 ok:X.Ok
 os:s.os=X.s₀.os
 bare:mB s.gens
 base:Un X.fs X.ex X.H₀ H X.s₀.heap s.heap
 loc:∃m,s.heap.Ns X.env.locals m/\∀(i:Nat) (x:Str) (v:V),X.N[i]?=some x->σ[i]?=some (some v)->Vis X.env.scope x->∃u,RelV v u/\Look X.env s.heap m x u
 cell:∀x c,X.env.cells.lookup x=some c->∃v,s.heap.IsCell c v
 free:H X.env.locals=none
 freeC:∀x c,X.env.cells.lookup x=some c->H c=none
 pin:∀p∈X.pn++J4,s.heap.get? p.1=some p.2/\H p.1=none/\p.1≠X.env.locals/\p.1∉X.fs/\∀v,p.2.data≠.cell v
 hok:kg X.prog X.w X.K H s.heap
 len:σ.length=X.N.length
section
variable{X:Cx}{J4:Zd}{σ:List (Option V)}{H H':Hp}{s:Shared}{h':Heap}
theorem Cx.Ok.nofr(ok:X.Ok){b:Addr}{o:Obj}(e:X.base.get? b=some o):b∉X.fs:=fun a=>by
 have:=(ok.funs.mem a).1;rw[e]at this;cases this
theorem Inv.bs(I:Inv X J4 σ H s):∀b o,X.base.get? b=some o->s.heap.get? b=some o/\H b=none:=fun b o e =>
 ⟨I.base.keep b o (I.ok.bs b o e).1 (I.ok.bs b o e).2 (I.ok.nofr e) (I.ok.noex b o e),I.base.free b o (I.ok.bs b o e).1 (I.ok.bs b o e).2 (I.ok.noex b o e)⟩
theorem Inv.bk(I:Inv X J4 σ H s):∀b o,X.base.get? b=some o->s.heap.get? b=some o:=fun b o e=>(I.bs b o e).1
theorem Inv.mod(I:Inv X J4 σ H s):Mod X.K X.mg X.base:=I.ok.mod
theorem Inv.kIn(I:Inv X J4 σ H s):X.K.In s.heap:=I.ok.mod.kin.keeps I.bk
theorem Inv.lt(I:Inv X J4 σ H s):X.env.locals<s.heap.objs.size:=let⟨_,a,_⟩:=I.loc;a.lt
theorem Inv.sz(I:Inv X J4 σ H s):X.s₀.heap.objs.size<=s.heap.objs.size:=bW I.ok.above (cy I.lt)
theorem Inv.nofs(I:Inv X J4 σ H s){a:Addr}(h:s.heap.objs.size<=a):a∉X.fs:=fun e=>by
 obtain⟨_,o,f,_⟩:=I.ok.funs.mem e;exact absurd (fF (aI f) (bW I.sz h)) (mD _)
theorem Inv.cne(I:Inv X J4 σ H s):∀x c,X.env.cells.lookup x=some c->c≠X.env.locals:=fun x c e z=>by
 obtain⟨v,o,g,h⟩:=I.cell x c e;obtain⟨m,⟨i,j,k,a,f,_⟩,_⟩:=I.loc;rw[z,a]at g;cases g;rw[f]at h;cases h
theorem Inv.funs(I:Inv X J4 σ H s):s.heap.FunFrames X.base X.outer:=by
 have all:∀(l:List Env),(∀b∈uN l,b∈X.fs)->X.s₀.heap.FunFrames X.base l->s.heap.FunFrames X.base l:=by
  intro l
  induction l with
  |nil=>intro _ _;trivial
  |cons h r i =>
   intro g j;obtain⟨k,⟨L,o,hf,m,n,p⟩,q⟩:=j;have a:L∈X.fs:=g L (by unfold uN;rw[vi,hf];exact eL);obtain⟨t,e⟩:=I.base.slot L o n (I.ok.frf L a) a fun z=>I.ok.exfs L z a;exact⟨k,⟨L,_,hf,m,e,p⟩,i (fun b f=>g b (by unfold uN;rw[vi,hf];exact eU _ f)) q⟩
 exact all X.outer (fun _ f=>f) I.ok.funs
theorem Inv.stack(I:Inv X J4 σ H s):s.heap.FunFrames X.base X.stack:=by
 rcases I.ok.stk with e|⟨e,hf⟩
 ·rw[e];exact I.funs
 ·rw[e];obtain⟨m,a,_⟩:=I.loc;refine .cons (by rw[I.ok.kind];decide) hf a ?_ I.funs;exact Heap.get?_none_of_le (bW I.ok.bsz I.ok.above)
theorem Inv.stkSub(I:Inv X J4 σ H s):∀b∈uN X.stack,b∈X.env.locals::X.fs:=fun b a=>by
 rcases I.ok.stk with e|⟨e,hf⟩
 ·rw[e]at a;exact eU _ a
 ·rw[e]at a;unfold uN at a;rw[vi,hf]at a;exact a
theorem Inv.stkFree(I:Inv X J4 σ H s):∀b∈uN X.stack,H b=none:=fun b hb=>by
 rcases cK.mp (I.stkSub b hb)with e|hb
 ·rw[e];exact I.free
 ·obtain⟨_,o,a,_⟩:=I.ok.funs.mem hb;exact I.base.free b o a (I.ok.frf b hb) fun z=>I.ok.exfs b z hb
theorem Inv.step{g':Array Bk}{t':Nat}{d':Drawn}{ch:Ze}(I:Inv X J4 σ H s)
  (a:∀b∈ch,(b∈X.ex∨X.s₀.heap.objs.size<=b)/\b≠X.env.locals/\(∀x c,X.env.cells.lookup x=some c->c≠b)/\∀p∈X.pn++J4,p.1≠b)
  (f:∀b o,b≠X.env.locals->b∉X.fs->b∉ch->s.heap.get? b=some o->H b=none->h'.get? b=some o)
  (t:∀b o,b≠X.env.locals->b∈X.fs->b∉ch->s.heap.get? b=some o->H b=none->∃N,h'.get? b=some { o with slots:=N }) (free:∀b o,b∉ch->s.heap.get? b=some o->H b=none->H' b=none)
  (there:∀b o,b∉ch->s.heap.get? b=some o->∃B,h'.get? b=some B)
  (C:∀b xs,H b=some (.tup xs)->H' b=some (.tup xs)) (D:∀b o u,H b=some (.frz o u)->H' b=some (.frz o u)) (E:∀b M,H b=some (.tbl M)->∃G,H' b=some (.tbl (M++G)))
  (ns:∀m,s.heap.Ns X.env.locals m->h'.Ns X.env.locals m) (O:kg X.prog X.w X.K H' h') (hg:mB g') :
  Inv X J4 σ H' { s with heap:=h',gens:=g',drawn:=d',toks:=t' }:=by
 have J:∀b o,X.s₀.heap.get? b=some o->b≠X.env.locals:=fun b o e=>bM (fF (aI e) I.ok.above);have h:∀b o,X.s₀.heap.get? b=some o->b∉X.ex->b∉ch:=fun b o e hx y=>by
  rcases(a b y).1 with z|z
  ·exact hx z
  ·exact absurd (fF (aI e) z) (mD _)
 have cellK:∀x c,X.env.cells.lookup x=some c->∀v,s.heap.IsCell c v->h'.IsCell c v:=fun x c e v ⟨o,A,Q⟩=>by
  have g:c∉ch:=fun z=>(a c z).2.2.1 x c e rfl;by_cases U:c∈X.fs
  ·obtain⟨N,q⟩:=t c o (I.cne x c e) U g A (I.freeC x c e);exact⟨_,q,Q⟩
  ·exact⟨o,f c o (I.cne x c e) U g A (I.freeC x c e),Q⟩
 refine⟨I.ok,I.os,hg,⟨fun b o e n y hx=>?_,fun b o e n y hx=>?_,fun b o e n hx=>?_,fun b o e hx=>?_,fun b xs e=>C b xs (I.base.tups b xs e),fun b o xs e=>D b o xs (I.base.frzs b o xs e),fun b M e=>?_⟩,?_,fun x c e=>?_,?_,fun x c e=>?_,fun p Y=>?_,O,I.len⟩
 ·exact f b o (J b o e) y (h b o e hx) (I.base.keep b o e n y hx) (I.base.free b o e n hx)
 ·obtain⟨N,j⟩:=I.base.slot b o e n y hx;obtain⟨T,L⟩:=t b _ (J b o e) y (h b o e hx) j (I.base.free b o e n hx);exact⟨T,L⟩
 ·obtain⟨B,j⟩:=I.base.there b o e hx;exact free b B (h b o e hx) j (I.base.free b o e n hx)
 ·obtain⟨B,j⟩:=I.base.there b o e hx;exact there b B (h b o e hx) j
 ·obtain⟨m1,j⟩:=I.base.tbls b M e;obtain⟨m2,L⟩:=E b _ j;exact⟨m1++m2,by rw[L,Array.append_assoc]⟩
 ·obtain⟨m,hn,hl⟩:=I.loc;refine⟨m,ns m hn,fun i x v j L e3=>?_⟩;obtain⟨u,r,l⟩:=hl i x v j L e3;refine⟨u,r,?_⟩;rcases l with l|⟨k,c,e,z⟩
  ·exact .inl l
  ·exact .inr ⟨k,c,e,cellK x c e _ z⟩
 ·obtain⟨v,z⟩:=I.cell x c e;exact⟨v,cellK x c e v z⟩
 ·obtain⟨m,⟨o,_,_,A,_⟩,_⟩:=I.loc;exact free _ o (fun z=>(a _ z).2.1 rfl) A I.free
 ·obtain⟨v,o,A,Q⟩:=I.cell x c e;exact free c o (fun z=>(a c z).2.2.1 x c e rfl) A (I.freeC x c e)
 ·obtain⟨e,n,ne,nf,d⟩:=I.pin p Y;have g:p.1∉ch:=fun z=>(a p.1 z).2.2.2 p Y rfl;exact⟨f p.1 p.2 ne nf g e n,free p.1 p.2 g e n,ne,nf,d⟩
theorem Inv.un{t':Nat}(I:Inv X J4 σ H s)(u:Un X.fs [] H H' s.heap h')(f:kg X.prog X.w X.K H' h'):Inv X J4 σ H' { s with heap:=h',toks:=t' }:=by
 obtain⟨m,⟨o,q,t,j,r⟩,_⟩:=id I.loc;obtain⟨v,k⟩:=u.any j I.free (by simp);exact I.step (g':=s.gens) (d':=s.drawn) (ch:=[]) (fun _ z=>nomatch z) (fun b o _ g _ e n=>u.keep b o e n g (by simp)) (fun b o _ g _ e n=>u.slot b o e n g (by simp)) (fun b o _ e n=>u.free b o e n (by simp)) (fun b o _ e=>u.there b o e (by simp)) u.tups u.frzs u.tbls (fun x l=>by
  obtain⟨y,h,i,a,p⟩:=l;rw[j]at a;cases a;exact⟨_,h,i,k,p⟩) f I.bare
theorem Inv.call{g':Array Bk}{t':Nat}{d':Drawn}{ch:Ze}(I:Inv X J4 σ H s)(u:Un (uN X.stack) ch H H' s.heap h')(h:kg X.prog X.w X.K H' h')(q:mB g')
  (f:∀b∈ch,(b∈X.ex∨X.s₀.heap.objs.size<=b)/\b≠X.env.locals/\(∀x c,X.env.cells.lookup x=some c->c≠b)/\∀p∈X.pn++J4,p.1≠b) :
  Inv X J4 σ H' { s with heap:=h',gens:=g',drawn:=d',toks:=t' }:=by
 obtain⟨m,⟨o,A,B,l,r⟩,_⟩:=id I.loc;obtain⟨C,i⟩:=u.any l I.free fun z=>(f _ z).2.1 rfl;exact I.step (ch:=ch) f (fun b o i t a e n=>u.keep b o e n (fun z=>(cK.mp (I.stkSub b z)).elim i t) a) (fun b o _ _ a e n=>u.any e n a) (fun b o a e n=>u.free b o e n a) (fun b o a e=>u.there b o e a) u.tups u.frzs u.tbls (fun D v=>by
  obtain⟨E,j,k,g,y⟩:=v;rw[l]at g;cases g;exact⟨_,j,k,i,y⟩) h q
theorem Inv.turned{t':Nat}{it:Addr}(I:Inv X J4 σ H s)(k:∀b o,b≠it->s.heap.get? b=some o->h'.get? b=some o)(h:H it=none)(g:it≠X.env.locals)
  (i:it∈X.ex∨X.s₀.heap.objs.size<=it) (j:∀x c,X.env.cells.lookup x=some c->c≠it) (l:∀p∈X.pn++J4,p.1≠it):Inv X J4 σ H { s with heap:=h',toks:=t' }:=by
 have f:∀b u,H b=some u->b≠it:=fun b u e z=>by rw[z,h]at e;cases e
 refine I.step (g':=s.gens) (d':=s.drawn) (ch:=[it]) (fun b t=>?_) (fun b o _ _ a e _=>k b o (fun z=>a (by simp[z])) e) (fun b o _ _ a e _=>⟨o.slots,k b o (fun z=>a (by simp[z])) e⟩) (fun _ _ _ _ n=>n)
  (fun b o a e=>⟨o,k b o (fun z=>a (by simp[z])) e⟩) (fun _ _ e=>e) (fun _ _ _ e=>e) (fun b C e=>⟨#[],by rw[e];simp⟩) (fun m w=>?_) (fun b u e=>?_) I.bare
 ·have e:b=it:=by simpa using t
  subst e;exact⟨i,g,j,l⟩
 ·obtain⟨o,y,A,B,r⟩:=w;exact⟨o,y,A,k _ o (dv g) B,r⟩
 ·refine(I.hok b u e).stay (fun c v a q=>k c v ?_ q) (fun _ q=>q) fun _ _ q=>q;rcases a with z|z
  ·rw[z];exact f b u e
  ·exact f c _ z
theorem Inv.tok(I:Inv X J4 σ H s)(t:Nat):Inv X J4 σ H { s with toks:=t }:=I.un (h':=s.heap) (t':=t) Un.refl I.hok
theorem Inv.kept{t':Nat}(I:Inv X J4 σ H s)(k:∀b u,s.heap.get? b=some u->h'.get? b=some u):Inv X J4 σ H { s with heap:=h',toks:=t' }:=I.un (Un.kept k) (I.hok.kept k)
theorem Inv.laid{a:Addr}{o:HO}{t':Nat}(I:Inv X J4 σ H s)(k:∀b u,s.heap.get? b=some u->h'.get? b=some u)(e:s.heap.objs.size<=a)(new:bT X.prog X.w X.K (upd H a o) h' a o):
  Inv X J4 σ (upd H a o) { s with heap:=h',toks:=t' }:=I.un (Un.laid k e (I.hok.fresh e)) (I.hok.laid k e new)
theorem Inv.write{x e:Addr}{o:HO}{t':Nat}(I:Inv X J4 σ H s)(f:Jb (H x))(g:e=x∨H e=some (.own x))(k:∀b u,b≠e->s.heap.get? b=some u->h'.get? b=some u)(a:∃u,h'.get? e=some u)
  (new:bT X.prog X.w X.K (upd H x o) h' x o):Inv X J4 σ (upd H x o) { s with heap:=h',toks:=t' }:=I.un (Un.write f g k a) (I.hok.write f g k a new)
theorem Inv.weak{σ':List (Option V)}(I:Inv X J4 σ H s)(e:σ'.length=σ.length)(w:∀(i:Nat) v,σ'[i]?=some (some v)->σ[i]?=some (some v)):Inv X J4 σ' H s :=
 ⟨I.ok,I.os,I.bare,I.base,let⟨m,f,a⟩:=I.loc;⟨m,f,fun i x v g h j=>a i x v g (w i v h) j⟩,I.cell,I.free,I.freeC,I.pin,I.hok,e.trans I.len⟩
theorem Inv.pins_of{a:Zd}(I:Inv X J4 σ H s)(h:∀p∈a,s.heap.get? p.1=some p.2/\H p.1=none/\p.1≠X.env.locals/\p.1∉X.fs/\∀v,p.2.data≠.cell v):Inv X a σ H s :=
 ⟨I.ok,I.os,I.bare,I.base,I.loc,I.cell,I.free,I.freeC,fun p e=>(bE.mp e).elim (fun z=>I.pin p (cN _ z)) (h p),I.hok,I.len⟩
theorem uc{N:Zb}(e:N.Nodup){i j:Nat}{x:Str}(a:N[i]?=some x)(b:N[j]?=some x):i=j:=by
 obtain⟨h,f⟩:=bG.mp a;obtain⟨k,g⟩:=bG.mp b;exact(List.getElem_inj e).mp (f.trans g.symm)
theorem vy{M:Model}{A:Around}{E:Zc}{i:Nat}{x:Str}{v:V}{u:Value}{Q:Unit->Shared->Prop}(I:Inv X J4 σ H s)(hN:X.N.Nodup)(hi:X.N[i]?=some x)(hx:Loc X.env.scope x)(r:RelV v u)
  (h:∀s',Inv X J4 (σ.set i (some v)) H s'->(∃a,gJ a s.heap s'.heap/\(a=X.env.locals∨X.env.cells.lookup x=some a))->Q () s') (hf:X.fn x=true∨X.env.scope.names.lookup x=some .local:=by first|exact .inl rfl|exact .inr rfl|assumption):wpAny M A (storeName X.env x u) Q E s:=by
 obtain⟨m,hn,hl⟩:=id I.loc;have G:(X.env.scope.kind==.class || (X.env.scope.kind==.module && X.env.locals != X.env.globals))=false:=by rw[I.ok.kind];rfl
 have hiσ:i<σ.length:=by rw[I.len];exact(bG.mp hi).1
 have cne:=I.cne;have tracked:∀{a:Addr}{h':Heap},(∃o,s.heap.get? a=some o/\H a=none)->gJ a s.heap h'->kg X.prog X.w X.K H h':=fun{a h'} ha f b ob e=>by
  obtain⟨_,_,l⟩:=ha;refine(I.hok b ob e).stay (fun c U hc q=>(f.2 c ?_).trans q) (fun _ q=>q) fun _ _ q=>q;rintro rfl;rcases hc with rfl|hc
  ·rw[l]at e;cases e
  ·rw[l]at hc;cases hc
 rcases hx with hk|hk
 ·refine wpAny_storeName_local hk hn (fun h' ab f=>?_) G;obtain⟨oL,_,_,al,_⟩:=id hn;refine h _ ⟨I.ok,I.os,I.bare,⟨fun b o e n B hx=>?_,fun b o e n B hx=>?_,I.base.free,fun b o e hx=>?_,I.base.tups,I.base.frzs,I.base.tbls⟩,⟨_,ab,fun j y v' g t e3=>?_⟩,fun y c e=>?_,I.free,I.freeC,fun p hp=>?_,tracked ⟨oL,al,I.free⟩ f,by simpa using I.len⟩ ⟨_,f,.inl rfl⟩
  ·exact(f.2 b (bM (fF (aI e) I.ok.above))).trans (I.base.keep b o e n B hx)
  ·obtain⟨sl,g⟩:=I.base.slot b o e n B hx;exact⟨sl,(f.2 b (bM (fF (aI e) I.ok.above))).trans g⟩
  ·obtain⟨o',g⟩:=I.base.there b o e hx;exact⟨o',(f.2 b (bM (fF (aI e) I.ok.above))).trans g⟩
  ·by_cases C:j=i
   ·subst C;rw[hi]at g;cases g;rw[List.getElem?_set_self hiσ]at t;cases t;exact⟨u,r,.inl ⟨hk,by simp⟩⟩
   ·rw[Bj (dv C)]at t;obtain⟨u',r',q⟩:=hl j y v' g t e3;refine⟨u',r',?_⟩;rcases q with⟨k,e⟩|⟨k,c,e,z⟩
    ·refine .inl ⟨k,?_⟩;have:y≠x:=fun e=>C (uc hN g (e▸hi));simp[this,e]
    ·exact .inr ⟨k,c,e,z.sameBut f (cne y c e)⟩
  ·obtain⟨U,z⟩:=I.cell y c e;exact⟨U,z.sameBut f (cne y c e)⟩
  ·obtain⟨e,n,ne,nf,d⟩:=I.pin p hp;exact⟨(f.2 p.1 ne).trans e,n,ne,nf,d⟩
 ·have D:X.fn x=true:=by
   rcases hf with z|z
   ·exact z
   ·rw[z]at hk;cases hk
  obtain⟨c,hc⟩:=I.ok.has x (.inl hk);obtain⟨U,z⟩:=I.cell x c hc;refine wpAny_storeName_cell I.ok.kind hk hc z (fun h' J f=>?_);obtain⟨oc,L,O⟩:=id z;refine h { s with heap:=h' } ⟨I.ok,I.os,I.bare,⟨fun b o e n B hx=>?_,fun b o e n B hx=>?_,I.base.free,fun b o e hx=>?_,I.base.tups,I.base.frzs,I.base.tbls⟩,⟨m,hn.sameBut f (dv (cne x c hc)),fun j y v' g t e3=>?_⟩,fun y Y e=>?_,I.free,I.freeC,fun p hp=>?_,tracked ⟨oc,L,I.freeC x c hc⟩ f,by simpa using I.len⟩ ⟨c,f,.inr hc⟩
  ·exact(f.2 b (bM (fF (aI e) (I.ok.cab x c D hc)))).trans (I.base.keep b o e n B hx)
  ·obtain⟨sl,g⟩:=I.base.slot b o e n B hx;exact⟨sl,(f.2 b (bM (fF (aI e) (I.ok.cab x c D hc)))).trans g⟩
  ·obtain⟨o',g⟩:=I.base.there b o e hx;exact⟨o',(f.2 b (bM (fF (aI e) (I.ok.cab x c D hc)))).trans g⟩
  ·by_cases C:j=i
   ·subst C;rw[hi]at g;cases g;rw[List.getElem?_set_self hiσ]at t;cases t;exact⟨u,r,.inr ⟨.inl hk,c,hc,J⟩⟩
   ·rw[Bj (dv C)]at t;obtain⟨u',r',q⟩:=hl j y v' g t e3;refine⟨u',r',?_⟩;rcases q with q|⟨k,Y,e,z'⟩
    ·exact .inl q
    ·refine .inr ⟨k,Y,e,z'.sameBut f ?_⟩;rintro rfl;exact C (uc hN g (I.ok.inj _ _ _ e hc▸hi))
  ·by_cases T:Y=c
   ·subst T;exact⟨_,J⟩
   ·obtain⟨w2,z2⟩:=I.cell y Y e;exact⟨w2,z2.sameBut f T⟩
  ·obtain⟨e,n,ne,nf,d⟩:=I.pin p hp;refine⟨(f.2 p.1 ?_).trans e,n,ne,nf,d⟩;intro q;rw[q,L]at e;have q':oc=p.2:=eM e;exact d U (by rw[<-q'];exact O)
theorem oj{M:Model}{A:Around}{E:Zc}{i:Nat}{x:Str}{v:V}{u:Value}{Q:Unit->Shared->Prop}(I:Inv X J4 σ H s)(e:X.N.Nodup)(hi:X.N[i]?=some x)(hx:Loc X.env.scope x)(r:RelV v u)
  (h:∀a,Inv X J4 (σ.set i (some v)) H a->Q () a) (hf:X.fn x=true∨X.env.scope.names.lookup x=some .local:=by first|exact .inl rfl|exact .inr rfl|assumption):wpAny M A (storeName X.env x u) Q E s :=
 vy I e hi hx r (fun a f _=>h a f) hf
theorem Inv.call'{a:Shared}{ch:Ze}(I:Inv X J4 σ H s)(h:a.os=s.os)(u:Un (uN X.stack) ch H H' s.heap a.heap)(f:kg X.prog X.w X.K H' a.heap)(i:mB a.gens)
  (g:∀b∈ch,(b∈X.ex∨X.s₀.heap.objs.size<=b)/\b≠X.env.locals/\(∀x c,X.env.cells.lookup x=some c->c≠b)/\∀p∈X.pn++J4,p.1≠b):Inv X J4 σ H' a:=by
 obtain⟨h',j,k,l,m⟩:=a;have e:m=s.os:=h;subst e;exact I.call (g':=j) (t':=l) (d':=k) u f i g
end
abbrev XK:=Value->Option Addr->Hp->Prop
abbrev St:=List (Option V)
abbrev VK:=V->Hp->Prop
abbrev TE:=St->Hp->VK->Prop
abbrev TT:=St->Hp->(Bool->Hp->Prop)->Prop
abbrev TA:=St->Hp->(List V->Hp->Prop)->Prop
structure eR where
 nx:St->Hp->Prop
 rt:VK
 bk:St->Hp->Prop:=fun _ _=>False
 ct:St->Hp->Prop:=fun _ _=>False
abbrev bQ(Q:VK):eR:={ nx:=fun _ H=>Q .non H,rt:=Q }
abbrev TS:=eR->St->Hp->Prop
def EP(X:Cx)(J4:Zd)(σ:St)(Q:VK)(u:Value)(s':Shared):Prop:=∃v H',Inv X J4 σ H' s'/\RelV v u/\Q v H'
def TP(X:Cx)(J4:Zd)(σ:St)(Q:Bool->Hp->Prop)(b:Bool)(s':Shared):Prop:=∃H',Inv X J4 σ H' s'/\Q b H'
def AP(X:Cx)(J4:Zd)(σ:St)(Q:List V->Hp->Prop)(us:Zf)(s':Shared):Prop:=∃vs H',Inv X J4 σ H' s'/\bp vs us/\Q vs H'
def SP(X:Cx)(J4:Zd)(D:eR)(f:Flow)(s':Shared):Prop :=
 match f with
 |.next=>∃σ' H',Inv X J4 σ' H' s'/\D.nx σ' H'
 |.brk=>∃σ' H',Inv X J4 σ' H' s'/\D.bk σ' H'
 |.cont=>∃σ' H',Inv X J4 σ' H' s'/\D.ct σ' H'
 |.ret u=>∃v σ' H',Inv X J4 σ' H' s'/\RelV v u/\D.rt v H'
def PE(X:Cx)(e:Expr)(t:TE):Prop :=
 ∀(J4:Zd) (s:Shared) (σ:St) (H:Hp) (Q:VK),Inv X J4 σ H s->t σ H Q->wpAny (model X.prog X.w) X.A (eval e X.env) (EP X J4 σ Q) X.xe s
def PT(X:Cx)(e:Expr)(t:TT):Prop :=
 ∀(J4:Zd) (s:Shared) (σ:St) (H:Hp) (Q:Bool->Hp->Prop),Inv X J4 σ H s->t σ H Q->wpAny (model X.prog X.w) X.A (isTrue e X.env (eval e X.env)) (TP X J4 σ Q) X.xe s
def PW(X:Cx)(e:Expr)(t:TT):Prop :=
 ∀(whole:Sem Value) (J4:Zd) (s:Shared) (σ:St) (H:Hp) (Q:Bool->Hp->Prop),Inv X J4 σ H s->t σ H Q->wpAny (model X.prog X.w) X.A (isTrue e X.env whole) (TP X J4 σ Q) X.xe s
theorem PW.pt{X:Cx}{e:Expr}{t:TT}(h:PW X e t):PT X e t:=h _
def PA(X:Cx)(es:List Expr)(t:TA):Prop :=
 ∀(pos:Pos) (J4:Zd) (s:Shared) (σ:St) (H:Hp) (Q:List V->Hp->Prop),Inv X J4 σ H s->t σ H Q->wpAny (model X.prog X.w) X.A (spliced (backTo pos (ay es X.env))) (AP X J4 σ Q) X.xe s
def PS(X:Cx)(st:Stmt)(t:TS):Prop :=
 ∀(J4:Zd) (s:Shared) (σ:St) (H:Hp) (D:eR),Inv X J4 σ H s->t D σ H->wpAny (model X.prog X.w) X.A (exec st X.env) (SP X J4 D) X.xe s
def vW(X:Cx)(st:List Stmt)(t:TS):Prop :=
 ∀(J4:Zd) (s:Shared) (σ:St) (H:Hp) (D:eR),Inv X J4 σ H s->t D σ H->wpAny (model X.prog X.w) X.A (execs st X.env) (SP X J4 D) X.xe s
theorem cM{α:Type}{t:Sem α}{Q e:α->Shared->Prop}{M:Model}{A:Around}{E:Zc}{s:Shared}(h:wpAny M A t Q E s)(f:∀a s,Q a s->e a s):wpAny M A t e E s:=dz h f fun _ _ x=>x
end L2
namespace L2
open PySem PySem.Spec PyProof.Rows
section
variable{X:Cx}
def k9(i:Nat):TE:=fun σ H Q=>∃v,σ[i]?=some (some v)/\Q v H
abbrev V0:TE:=k9 0
abbrev V1:TE:=k9 1
abbrev V2:TE:=k9 2
abbrev V3:TE:=k9 3
abbrev V4:TE:=k9 4
abbrev V5:TE:=k9 5
abbrev V6:TE:=k9 6
abbrev V7:TE:=k9 7
abbrev V8:TE:=k9 8
abbrev V9:TE:=k9 9
abbrev Ih:TE:=k9 10
abbrev FM:TE:=k9 11
abbrev V12:TE:=k9 12
def tC(v:V):TE:=fun _ H Q=>Q v H
theorem HM{i:Nat}{x:Str}{g:Pos}(o:X.N[i]?=some x)(p:Vis X.env.scope x)(j:(x==("__debug__":Str))=false:=by decide)(k:(x==("__classdict__":Str))=false:=by decide):PE X (.Name x g) (k9 i):=by
 intro J4 s σ H Q I h;obtain⟨v,e,h⟩:=h;obtain⟨m,q,t⟩:=I.loc;obtain⟨u,r,l⟩:=t i x v o e p;have f:EP X J4 σ Q u s:=⟨v,H,I,r,h⟩;rcases l with⟨hk,w⟩|⟨hk,c,n,a⟩
 ·exact wpAny_Name (wpAny_loadName_local I.ok.kind hk q w f) j
 ·rcases hk with hk|hk
  ·exact wpAny_Name (wpAny_loadName_cell I.ok.kind hk n a f) j
  ·exact wpAny_Name (wpAny_loadName_free I.ok.kind hk n a f k) j
theorem af{i j a}:PE X (.Constant (.int i) j a) (tC (.int i)):=fun _ _ _ H _ I h=>wpAny_Constant_int ⟨.int i,H,I.tok _,⟨_,rfl⟩,h⟩
theorem rg{b j a}:PE X (.Constant (.bool b) j a) (tC (.bl b)):=fun _ _ _ H _ I h=>Constant_bool ⟨.bl b,H,I,rfl,h⟩
theorem qo{j a}:PE X (.Constant .none j a) (tC .non):=fun _ _ _ H _ I h=>Constant_none ⟨.non,H,I,rfl,h⟩
theorem bN{x j a}:PE X (.Constant (.str x) j a) (tC (.str x)):=fun _ _ _ H _ I h=>Calls.Constant_str ⟨.str x,H,I.tok _,⟨_,rfl⟩,h⟩
def Gl(X:Cx)(x:Str):Prop:=X.env.kindOf x=some .globalImplicit
theorem ie{E:Zc}{e:Zd}{s:Shared}{σ:St}{H:Hp}{x:Str}{u:Value}{a:Pos}{Q:Zc}(I:Inv X e σ H s)(f:Gl X x)(g:X.mg x=some u)(h:Q u s)
  (i:(x==("__debug__":Str))=false:=by decide):wpAny (model X.prog X.w) X.A (eval (.Name x a) X.env) Q E s :=
 Calls.Name_function_global I.ok.kind f (Calls.loadGlobal_global (by rw[I.ok.glob];exact I.mod.glob.keeps I.bk) g h) i
theorem nj{E:Zc}{e:Zd}{s:Shared}{σ:St}{H:Hp}{x:Str}{u:Value}{a:Pos}{Q:Zc}(I:Inv X e σ H s)(f:Gl X x)(g:X.mg x=none)(i:iV x=some u)(h:Q u s)
  (j:x≠"__name__":=by decide) (k:(x==("__debug__":Str))=false:=by decide):wpAny (model X.prog X.w) X.A (eval (.Name x a) X.env) Q E s:=by
 obtain⟨n,l,m⟩:=I.mod.blt;exact Calls.Name_function_global I.ok.kind f (Calls.loadGlobal_builtin (by rw[I.ok.glob];exact I.mod.glob.keeps I.bk) g (by rw[I.ok.blt];exact l.keeps I.bk) ((m x j).trans i) h) k
theorem Gy{x:Str}{v:V}{u:Value}{a:Pos}(e:Gl X x)(f:X.mg x=some u)(r:RelV v u)(g:(x==("__debug__":Str))=false:=by decide):PE X (.Name x a) (tC v) :=
 fun _ _ _ H _ I h=>ie I e f ⟨v,H,I,r,h⟩ g
theorem oS{x:Str}{v:V}{u:Value}{a:Pos}(e:Gl X x)(f:X.mg x=none)(g:iV x=some u)(r:RelV v u)(i:x≠"__name__":=by decide)(j:(x==("__debug__":Str))=false:=by decide):PE X (.Name x a) (tC v) :=
 fun _ _ _ H _ I h=>nj I e f g ⟨v,H,I,r,h⟩ i j
variable{a b:Expr}{ta tb:TE}{pos:Pos}
def PC(X:Cx)(op:CmpOp)(a b:Expr)(t:TE):Prop :=
 ∀(J4:Zd) (s:Shared) (σ:St) (H:Hp) (Q:VK),Inv X J4 σ H s->t σ H Q ->
  wpAny (model X.prog X.w) X.A (eval a X.env) (fun v s₁=>wpAny (model X.prog X.w) X.A (eval b X.env) (fun u s₂=>wpAny (model X.prog X.w) X.A (eT op v u) (EP X J4 σ Q) X.xe s₂) X.xe s₁) X.xe s
theorem yZ(b:Expr){e:CmpOp}(h:e≠.In)(f:e≠.NotIn):kA e b=false:=by
 have g:(e==CmpOp.In)=false:=by cases e<;>first|rfl|exact absurd rfl h
 have i:(e==CmpOp.NotIn)=false:=by cases e<;>first|rfl|exact absurd rfl f
 cases b<;>simp[kA,g,i]
def CF(ta:TE):TE:=fun σ H Q=>ta σ H fun x H1=>Q (.bl (decide (x=.non))) H1
def BC(ta:TE):TE:=fun σ H Q=>ta σ H fun x H1=>Q (.bl (!decide (x=.non))) H1
theorem RelV.none_iff{x:V}{v:Value}(r:RelV x v):(v==Value.none)=decide (x=.non):=by
 cases x with
 |non=>cases r;rfl
 |bl _=>cases r;rfl
 |int _=>obtain⟨t,rfl⟩:=r;rfl
 |str _=>obtain⟨t,rfl⟩:=r;rfl
 |byt _=>obtain⟨t,rfl⟩:=r;rfl
 |flt _=>obtain⟨t,rfl⟩:=r;rfl
 |ref _=>cases r;rfl
 |ty _=>cases r;rfl
theorem Aw{j e}(g:PE X a ta):PC X .Is a (.Constant .none j e) (CF ta):=by
 intro i s σ H Q I h;refine cM (g i s σ H _ I h) fun v o f=>?_;obtain⟨x,k,l,m,n⟩:=f;exact Constant_none (is_none_gen ⟨.bl _,k,l,by rw[m.none_iff];rfl,n⟩)
theorem BP{j e}(g:PE X a ta):PC X .IsNot a (.Constant .none j e) (BC ta):=by
 intro i s σ H Q I h;refine cM (g i s σ H _ I h) fun v o f=>?_;obtain⟨x,k,l,m,n⟩:=f;exact Constant_none (isnot_none_gen ⟨.bl _,k,l,by rw[m.none_iff];rfl,n⟩)
def tB(t:TE):TT:=fun σ H Q=>t σ H fun x H1=>∃c,x=.bl c/\Q c H1
theorem HQ{e:CmpOp}{t:TE}(h:PC X e a b t)(f:kA e b=false:=by first|exact yZ _ (by decide) (by decide)|rfl):PE X (.Compare a [e] [b] pos) t:=fun g s σ H Q I i=>wpAny_Compare1 (h g s σ H Q I i) f
theorem jp{e:CmpOp}{t:TE}(h:PC X e a b t)(f:kA e b=false:=by first|exact yZ _ (by decide) (by decide)|rfl):PT X (.Compare a [e] [b] pos) (tB t):=by
 intro i s σ H Q I j;refine wpAny_isTrue_Compare1 (cM (h i s σ H _ I j) fun v p f=>cM f fun u r k=>cM k fun c w g=>?_) f;obtain⟨x,l,m,n,o⟩:=g;obtain⟨d,rfl,q⟩:=o;cases n;exact qZ ⟨l,m,q⟩
theorem gf{e:Expr}{t:TE}(h:PE X e t)(g:∀whole,isTrue e X.env whole=(do let v <- whole;nV e.pos;jz [v] (truthy v)):=by intro _;rfl):PT X e (tB t):=by
 intro i s σ H Q I j;refine isTrue_plain (cM (h i s σ H _ I j) fun v o f=>?_) (g _);obtain⟨x,k,l,m,n⟩:=f;obtain⟨d,rfl,q⟩:=n;cases m;exact qZ ⟨k,l,q⟩
variable{tA tB':TT}{rest:List Expr}
def uX(t u:TT):TT:=fun σ H Q=>t σ H fun c H1=>if c=true then u σ H1 Q else Q false H1
def BB(t u:TT):TT:=fun σ H Q=>t σ H fun c H1=>if c=true then Q true H1 else u σ H1 Q
def wR(t:TT):TT:=fun σ H Q=>t σ H fun c H1=>Q (!c) H1
theorem j7(f:PT X a tA):PW X (.BoolOp .And [a] pos) tA:=by
 intro i g s σ H Q I h;refine isTrue_and (cM (f g s σ H Q I h) fun c j e=>?_);cases c with
 |true=>exact isTrue_and_nil e
 |false=>exact e
theorem j6(f:PT X a tA):PW X (.BoolOp .Or [a] pos) tA:=by
 intro i g s σ H Q I h;refine isTrue_or (cM (f g s σ H Q I h) fun c j e=>?_);cases c with
 |false=>exact isTrue_or_nil e
 |true=>exact e
theorem lz(k:PT X a tA)(l:PW X (.BoolOp .And (b::rest) pos) tB'):PW X (.BoolOp .And (a::b::rest) pos) (uX tA tB'):=by
 intro m f s σ H Q I h;refine isTrue_and (cM (k f s σ H _ I h) fun c n e=>?_);obtain⟨g,i,j⟩:=e;cases c with
 |true=>exact l m f n σ g Q i j
 |false=>exact⟨g,i,j⟩
theorem kC(k:PT X a tA)(l:PW X (.BoolOp .Or (b::rest) pos) tB'):PW X (.BoolOp .Or (a::b::rest) pos) (BB tA tB'):=by
 intro m f s σ H Q I h;refine isTrue_or (cM (k f s σ H _ I h) fun c n e=>?_);obtain⟨g,i,j⟩:=e;cases c with
 |true=>exact⟨g,i,j⟩
 |false=>exact l m f n σ g Q i j
theorem m_(e:PT X a tA):PT X (.UnaryOp .Not a pos) (wR tA):=by
 intro f s σ H Q I h;exact isTrue_not (e f s σ H (fun c g=>Q (!c) g) I h)
def rc(ta tb:TE):TE:=fun σ H Q=>ta σ H fun x H1=>∃c,x=.bl c/\if c=true then tb σ H1 Q else Q (.bl false) H1
def G7(ta:TE):TE:=fun σ H Q=>ta σ H fun x H1=>∃c,x=.bl c/\Q (.bl (!c)) H1
theorem t8{e}{t:TE}(h:PE X a t):PE X (.BoolOp e [a] pos) t:=fun f s σ H Q I g=>BoolOp_one (h f s σ H Q I g)
theorem nh(k:PE X a ta)(l:PE X (.BoolOp .And (b::rest) pos) tb):PE X (.BoolOp .And (a::b::rest) pos) (rc ta tb):=by
 intro g s σ H Q I h;refine BoolOp_and (cM (k g s σ H _ I h) fun v m f=>?_);obtain⟨x,i,j,n,e⟩:=f;obtain⟨c,rfl,e⟩:=e;cases n;refine qZ ?_;cases c with
 |true=>exact l g m σ i Q j e
 |false=>exact⟨.bl false,i,j,rfl,e⟩
theorem HN(g:PE X a ta):PE X (.UnaryOp .Not a pos) (G7 ta):=by
 intro i s σ H Q I h;refine UnaryOp_ (cM (g i s σ H _ I h) fun v m e=>?_);obtain⟨x,j,k,l,f⟩:=e;obtain⟨c,rfl,f⟩:=f;cases l;exact not_of (qZ ⟨.bl (!c),j,k,rfl,f⟩)
def tIf(t:TT)(ta tb:TE):TE:=fun σ H Q=>t σ H fun c H1=>if c=true then ta σ H1 Q else tb σ H1 Q
theorem ES{c:Expr}(l:PT X c tA)(m:PE X a ta)(n:PE X b tb):PE X (.IfExp c a b pos) (tIf tA ta tb):=by
 intro e s σ H Q I h;refine wpAny_IfExp (cM (l e s σ H _ I h) fun d g f=>?_);obtain⟨i,j,k⟩:=f;cases d with
 |true=>exact m e g σ i Q j k
 |false=>exact n e g σ i Q j k
end
end L2
namespace L2
open PySem PySem.Spec PyProof.Rows
def av(K:Za)(H:Hp)(a:Addr)(xs:List V):Prop :=
 Rd H a (.lst xs) ∨
  ∃(o:Obj) (its:Array Value) (n:Nat),K.lookup a=some o/\o.cls=.type "list"/\o.dict=none/\o.data=.seq its n/\its.size<=ak/\bp xs its.toList
def cr(K:Za)(H:Hp)(a:Addr)(xs:List V):Prop :=
 Rd H a (.tup xs) ∨
  ∃(o:Obj) (its:Array Value) (n:Nat),K.lookup a=some o/\o.cls=.type "tuple"/\o.data=.seq its n/\its.size<=ak/\bp xs its.toList
def absV:Value->Option V
 |.none=>some .non
 |.bool b=>some (.bl b)
 |.int i _=>some (.int i)
 |.str x _=>some (.str x)
 |.bytes b _=>some (.byt b)
 |.float b _=>some (.flt b)
 |.ref a=>some (.ref a)
 |.type n=>some (.ty n)
 |_=>none
theorem RelV.abs{x:V}{u:Value}(r:RelV x u):absV u=some x:=by
 cases x with
 |non=>cases r;rfl
 |bl _=>cases r;rfl
 |int _=>obtain⟨t,rfl⟩:=r;rfl
 |str _=>obtain⟨t,rfl⟩:=r;rfl
 |byt _=>obtain⟨t,rfl⟩:=r;rfl
 |flt _=>obtain⟨t,rfl⟩:=r;rfl
 |ref _=>cases r;rfl
 |ty _=>cases r;rfl
theorem RelV.inj{x y:V}{u:Value}(r:RelV x u)(q:RelV y u):x=y:=eM (r.abs.symm.trans q.abs)
theorem bp.inj{xs a:List V}{e:Zf}(h:bp xs e)(f:bp a e):xs=a:=by
 induction h generalizing a with
 |nil=>cases f;rfl
 |cons r _ g =>
  cases f with
  |cons i j=>rw[r.inj i,g j]
section
variable{X:Cx}{J4:Zd}{σ:St}{H:Hp}{s:Shared}{a:Addr}{xs ys:List V}
theorem av.of{K:Za}(h:H a=some (.lst xs)):av K H a xs:=.inl (.inl h)
theorem cr.of{K:Za}(h:H a=some (.tup xs)):cr K H a xs:=.inl (.inl h)
theorem Inv.list(I:Inv X J4 σ H s)(h:av X.K H a xs):∃f:List Value,bp xs f/\PlainL s.heap a f.toArray/\xs.length<=ak:=by
 rcases h with h|⟨o,f,n,g,i,j,k,l,r⟩
 ·obtain⟨z,f,n,r,e⟩:=h.ok I.hok;exact⟨f,r,⟨_,n,e,rfl,rfl,rfl⟩,z⟩
 ·refine⟨f.toList,r,⟨o,n,I.kIn a o g,i,j,by simpa using k⟩,?_⟩;have e:=r.length;simp only[kL]at e;omega
theorem Inv.tuple(I:Inv X J4 σ H s)(h:cr X.K H a xs):∃f:List Value,bp xs f/\IsTup s.heap a f.toArray/\xs.length<=ak:=by
 rcases h with h|⟨o,f,n,g,i,j,k,r⟩
 ·obtain⟨z,f,r,p⟩:=h.ok I.hok;exact⟨f,r,p,z⟩
 ·refine⟨f.toList,r,⟨o,I.kIn a o g,i,n,by simpa using j⟩,?_⟩;have e:=r.length;simp only[kL]at e;omega
theorem Inv.list_inj(I:Inv X J4 σ H s)(h:av X.K H a xs)(k:av X.K H a ys):xs=ys:=by
 obtain⟨g,r,⟨o,n,e,_,_,d⟩,_⟩:=I.list h;obtain⟨f,l,⟨p,q,i,_,_,j⟩,_⟩:=I.list k;rw[e]at i;cases i;rw[d]at j;injection j with m _;have:g=f:=by simpa using congrArg Array.toList m
 subst this;exact r.inj l
theorem Inv.tuple_inj(I:Inv X J4 σ H s)(h:cr X.K H a xs)(k:cr X.K H a ys):xs=ys:=by
 obtain⟨g,r,⟨o,e,_,n,d⟩,_⟩:=I.tuple h;obtain⟨f,l,⟨p,i,_,q,j⟩,_⟩:=I.tuple k;rw[e]at i;cases i;rw[d]at j;injection j with m _;have:g=f:=by simpa using congrArg Array.toList m
 subst this;exact r.inj l
end
abbrev Cx.wish(X:Cx)(E:Zc):Cx:={ X with xe:=E }
abbrev Cx.nox(X:Cx):Cx:=X.wish fun _ _=>False
theorem Cx.Ok.wish{X:Cx}(ok:X.Ok)(E:Zc):(X.wish E).Ok :=
 ⟨ok.mod,ok.kind,ok.glob,ok.blt,ok.above,ok.inj,ok.has,ok.cab,ok.hd,ok.frames,ok.stk,ok.exf,ok.bs,ok.bsz,ok.noex,ok.exfs,ok.funs,ok.frf⟩
theorem Cx.Ok.unwish{X:Cx}{E:Zc}(ok:(X.wish E).Ok):X.Ok :=
 ⟨ok.mod,ok.kind,ok.glob,ok.blt,ok.above,ok.inj,ok.has,ok.cab,ok.hd,ok.frames,ok.stk,ok.exf,ok.bs,ok.bsz,ok.noex,ok.exfs,ok.funs,ok.frf⟩
section
variable{X:Cx}{J4:Zd}{σ:St}{H:Hp}{s:Shared}{E:Zc}
theorem Inv.wish(I:Inv X J4 σ H s)(E:Zc):Inv (X.wish E) J4 σ H s:=⟨I.ok.wish E,I.os,I.bare,I.base,I.loc,I.cell,I.free,I.freeC,I.pin,I.hok,I.len⟩
theorem Inv.unwish(I:Inv (X.wish E) J4 σ H s):Inv X J4 σ H s:=⟨I.ok.unwish,I.os,I.bare,I.base,I.loc,I.cell,I.free,I.freeC,I.pin,I.hok,I.len⟩
theorem SP.unwish{D:eR}{f:Flow}{e:Shared}(h:SP (X.wish E) J4 D f e):SP X J4 D f e:=by
 cases f with
 |next=>obtain⟨σ',a,I,q⟩:=h;exact⟨σ',a,I.unwish,q⟩
 |brk=>obtain⟨σ',a,I,q⟩:=h;exact⟨σ',a,I.unwish,q⟩
 |cont=>obtain⟨σ',a,I,q⟩:=h;exact⟨σ',a,I.unwish,q⟩
 |ret u=>obtain⟨v,σ',a,I,r,q⟩:=h;exact⟨v,σ',a,I.unwish,r,q⟩
theorem vW.nox{st:List Stmt}{t:TS}(h:vW X.nox st t):vW X st t:=fun J4 s σ H D I a =>
 dz (h J4 s σ H D (I.wish _) a) (fun _ _ q=>q.unwish) fun _ _ z=>da z
end
section
variable{X:Cx}{st:Stmt}{rest:List Stmt}{t u:TS}{e:Expr}{te:TE}{pos:Pos}
def bA:TS:=fun D σ H=>D.nx σ H
def ax(t u:TS):TS:=fun D σ H=>t { D with nx:=u D } σ H
theorem bg:vW X [] bA:=fun _ _ σ H _ I h=>qW ⟨σ,H,I,h⟩
theorem ae(g:PS X st t)(i:vW X rest u):vW X (st::rest) (ax t u):=by
 intro a s σ H D I h;refine Bi (cM (g a s σ H { D with nx:=u D } I h) fun f j q=>?_);cases f with
 |next =>
  obtain⟨σ',k,l,q⟩:=q;exact i a j σ' k D l q
 |ret v=>exact q
 |brk=>exact q
 |cont=>exact q
theorem aj(a:PS X st t):vW X [st] t:=by
 intro g s σ H D I h;refine Bi (cM (a g s σ H D I h) fun f i q=>?_);cases f with
 |next=>exact qW q
 |ret v=>exact q
 |brk=>exact q
 |cont=>exact q
theorem Inv.quiet{a:Zd}{σ:St}{H:Hp}{s:Shared}(I:Inv X a σ H s):interactive X.env=false:=by simp[interactive,I.ok.kind]
def dH(te:TE):TS:=fun D σ H=>te σ H fun _ H1=>D.nx σ H1
theorem bU(a:PE X e te)(f:mz e none pos.line X.env=pure false:=by rfl):PS X (.Expr e pos) (dH te):=by
 intro g s σ H D I h;exact wpAny_Expr_any (cM (a g s σ H _ I h) fun v l ⟨x,i,j,m,k⟩=>⟨σ,i,j,k⟩) I.quiet f
def bt(te:TE):TS:=fun D σ H=>te σ H D.rt
theorem aD(a:PE X e te):PS X (.Return (some e) pos) (bt te):=by
 intro f s σ H D I h;exact wpAny_Return_some (cM (a f s σ H _ I h) fun v l ⟨x,g,i,j,k⟩=>⟨x,σ,g,i,j,k⟩)
def df(c:TT)(t u:TS):TS:=fun D σ H=>c σ H fun b H1=>if b=true then t D σ H1 else u D σ H1
theorem cv{c:Expr}{a b:List Stmt}{i:TT}(n:PT X c i)(o:vW X a t)(p:vW X b u):PS X (.If c a b pos) (df i t u):=by
 intro f s σ H D I h;refine wpAny_If (cM (n f s σ H _ I h) fun d j g=>?_);obtain⟨k,l,m⟩:=g;cases d with
 |true=>exact o f j σ k D l m
 |false=>exact p f j σ k D l m
def Eb:TS:=fun _ _ _=>False
theorem EK:PS X st Eb:=fun _ _ _ _ _ _ h=>h.elim
end
abbrev TG:=V->St->Hp->(St->Hp->Prop)->Prop
abbrev DF:=List V->St->Hp->(St->Hp->Prop)->Prop
def PG(X:Cx)(target:Expr)(t:TG):Prop :=
 ∀(J4:Zd) (s:Shared) (σ:St) (H:Hp) (v:V) (u:Value) (Q:St->Hp->Prop),Inv X J4 σ H s->RelV v u->t v σ H Q ->
  wpAny (model X.prog X.w) X.A (assign target X.env u) (fun _ s'=>∃σ' H',Inv X J4 σ' H' s'/\Q σ' H') X.xe s
def Jt(X:Cx)(ts:List Expr)(t:DF):Prop :=
 ∀(J4:Zd) (s:Shared) (σ:St) (H:Hp) (vs:List V) (us:Zf) (Q:St->Hp->Prop),Inv X J4 σ H s->bp vs us->t vs σ H Q ->
  wpAny (model X.prog X.w) X.A (assignInOrder ((vh ts X.env).map (·.2)) us) (fun _ s'=>∃σ' H',Inv X J4 σ' H' s'/\Q σ' H') X.xe s
abbrev Ij:=V->V->V->Hp->(Hp->Prop)->Prop
def I_(X:Cx)(t:Ij):Prop :=
 ∀(J4:Zd) (s:Shared) (σ:St) (H:Hp) (o i v:V) (ov iv u:Value) (Q:Hp->Prop),Inv X J4 σ H s->RelV o ov->RelV i iv->RelV v u->t o i v H Q ->
  wpAny (model X.prog X.w) X.A (setItem ov iv u) (fun _ s'=>∃H',Inv X J4 σ H' s'/\Q H') X.xe s
section
variable{X:Cx}{pos:Pos}
def dI(i:Nat):TG:=fun v σ H Q=>Q (σ.set i (some v)) H
abbrev U0:TG:=dI 0
abbrev U1:TG:=dI 1
abbrev U2:TG:=dI 2
abbrev U3:TG:=dI 3
abbrev U4:TG:=dI 4
abbrev U5:TG:=dI 5
abbrev U6:TG:=dI 6
abbrev U7:TG:=dI 7
abbrev U8:TG:=dI 8
abbrev U9:TG:=dI 9
abbrev Jr:TG:=dI 10
abbrev Jq:TG:=dI 11
abbrev U12:TG:=dI 12
theorem BL{i:Nat}{x:Str}(a:X.N.Nodup)(hi:X.N[i]?=some x)(hx:Loc X.env.scope x)(hf:X.fn x=true∨X.env.scope.names.lookup x=some .local:=by first|exact .inl rfl|exact .inr rfl|assumption):PG X (.Name x pos) (dI i):=by
 intro f s σ H v u Q I r h;exact wpAny_assign_Name (oj I a hi hx r (fun g e=>⟨_,H,e,h⟩) hf)
def gR:DF:=fun vs σ H Q=>vs=[]/\Q σ H
def be(t:TG)(u:DF):DF:=fun vs σ H Q=>∃v r,vs=v::r/\t v σ H fun σ' H'=>u r σ' H' Q
theorem cS:Jt X [] gR:=by
 intro a s σ H f g Q I r h;obtain⟨e,h⟩:=h;subst e;cases r;exact assignInOrder_nil ⟨σ,H,I,h⟩
theorem aA{e:Expr}{a:List Expr}{t:TG}{u:DF}(i:PG X e t)(j:Jt X a u)
  (k:(vh (e::a) X.env).map (·.2)=assign e X.env::(vh a X.env).map (·.2):=by rfl):Jt X (e::a) (be t u):=by
 intro g s σ H w x Q I r h;obtain⟨v,y,l,h⟩:=h;subst l;cases r with
 |cons r m =>
  rw[k];refine assignInOrder_cons (cM (i g s σ H _ _ _ I r h) fun _ n f=>?_);obtain⟨σ1,o,p,q⟩:=f;exact j g n σ1 o _ _ Q p m q
def g6(K:Za)(n:Nat)(t:DF):TG:=fun v σ H Q=>∃a xs,v=.ref a/\cr K H a xs/\xs.length=n/\t xs σ H Q
theorem dY{f:List Expr}{k:Nat}{t:DF}{n:Nat}(m:X.calm=true)(h:Jt X f t)
  (p:(vh f X.env).length=n:=by rfl) (g:(vh f X.env).findIdx? (·.1)=none:=by rfl):PG X (.Tuple f k pos) (g6 X.K n t):=by
 intro j s σ H v u Q I r i;obtain⟨a,xs,q,w,x,i⟩:=i;subst q;cases r;obtain⟨y,l,z,C⟩:=I.tuple w;refine assign_Tuple_tuple (I.ok.hd m) z (by simp[p,<-x,l.length]) g fun A hx=>?_;have B:Inv X j σ H { s with heap:=A }:=I.kept (t':=s.toks) fun b o e=>hx b o (bM (aI e)) e;exact h j _ σ H xs _ Q B (by simpa using l) i
def Dh(to ti:TE)(t:Ij):TG:=fun v σ H Q=>to σ H fun o H1=>ti σ H1 fun i H2=>t o i v H2 fun H3=>Q σ H3
theorem xf{o i:Expr}{to j:TE}{t:Ij}(k:PE X o to)(hi:PE X i j)(l:I_ X t)
  (m:∀v,assign (.Subscript o i pos) X.env v=(do
   let e <- jz [v] (eval o X.env)
   let f <- jz [v,e] (eval i X.env)
   nV pos
   jz [v,e,f] (setItem e f v)
   release [v,e,f] []):=by intro _;rfl):PG X (.Subscript o i pos) (Dh to j t):=by
 intro g s σ H v u Q I r h;rw[m];refine ah (iy (cM (k g s σ H _ I h) fun e n a=>?_));obtain⟨x,p,q,w,z⟩:=a;refine ah (iy (cM (hi g n σ p _ q z) fun f A a=>?_));obtain⟨y,B,C,D,E⟩:=a;refine ah (sP (ah (iy (cM (l g A σ B x y v e f u _ C w D r E) fun _ M a=>?_))));obtain⟨G,J,L⟩:=a;exact wpAny_release ⟨σ,G,J,L⟩
def a_(te:TE)(g:TG):TS:=fun D σ H=>te σ H fun x H1=>g x σ H1 D.nx
theorem lB{tg e:Expr}{f:TE}{g:TG}(j:PE X e f)(k:PG X tg g)(l:swapsWithSole [tg] e pos.line X.env=pure false:=by rfl)(m:swappedStores [tg] e X.env=pure none:=by rfl)
  (n:(vh [tg] X.env).map (·.2)=[assign tg X.env]:=by rfl):PS X (.Assign [tg] e pos) (a_ f g):=by
 intro i s σ H D I h;refine wpAny_Assign_stores (cM (j i s σ H _ I h) fun v o a=>?_) l m;obtain⟨x,p,r,t,u⟩:=a;rw[n];exact cM (k i o σ p x v _ r t u) fun _ w q=>q
theorem EJ{i:Nat}{x:Str}{e:Expr}{g:TE}{a:Pos}(j:X.N.Nodup)(hi:X.N[i]?=some x)(hx:Loc X.env.scope x)(k:PE X e g)(l:mz e (some (.Name x a)) pos.line X.env=pure false:=by rfl)(hf:X.fn x=true∨X.env.scope.names.lookup x=some .local:=by first|exact .inl rfl|exact .inr rfl|assumption):
  PS X (.Assign [.Name x a] e pos) (a_ g (dI i)):=by
 intro m s σ H D I h;refine wpAny_Assign_Name (cM (k m s σ H _ I h) fun v t f=>?_) l;obtain⟨y,n,o,p,q⟩:=f;exact oj o j hi hx p (fun u r=>⟨_,n,r,q⟩) hf
end
section
variable{X:Cx}{pos:Pos}
def z9(c:TT)(tb:TS):TS:=fun D σ H=>∃W:Nat->St->Hp->Prop,(∃m,W m σ H)/\∀m σ H,W m σ H ->
 c σ H fun b H1=>if b=true then ∃N:St->Hp->Prop,(∀σ' H',N σ' H'->∃m',m'<m/\W m' σ' H')/\tb { D with nx:=N,ct:=N,bk:=D.nx } σ H1 else D.nx σ H1
theorem yT{c:Expr}{a:List Stmt}{q:TT}{r:TS}(t:Bh (model X.prog X.w) X.A X.env X.xe)(C:PT X c q)(E:vW X a r):PS X (.While c a [] pos) (z9 q r):=by
 intro J4 s σ H D I h;obtain⟨W,⟨G,J⟩,turn⟩:=h;refine wpAny_While (codeAny_whileLoop (fun n L=>∃σ' u,Inv X J4 σ' u L/\W n σ' u) ?_ G ⟨σ,H,I,J⟩);rintro n M ⟨σ1,x,O,Q⟩;refine kz t (cM (C J4 M σ1 x _ O (turn n σ1 x Q)) fun b T j=>?_);obtain⟨y,z,g⟩:=j;cases b with
 |true =>
  obtain⟨N,B,g⟩:=g;rw[if_pos rfl];refine kz t (cM (E J4 T σ1 y _ z g) fun f U i=>?_);cases f with
  |next =>
   obtain⟨σ3,e,k,l⟩:=i;obtain⟨m,o,p⟩:=B σ3 e l;exact⟨m,o,σ3,e,k,p⟩
  |cont =>
   obtain⟨σ3,e,k,l⟩:=i;obtain⟨m,o,p⟩:=B σ3 e l;exact⟨m,o,σ3,e,k,p⟩
  |brk=>exact i
  |ret v=>exact i
 |false =>
  rw[if_neg gH];exact qW ⟨σ1,y,z,g⟩
end
structure It where
 go:Nat->Hp->Prop
 yld:Nat->Hp->V->Hp->Prop
 stop:Nat->Hp->Prop
def lM(X:Cx)(J4:Zd)(H:Hp)(b:Addr):Prop :=
 H b=none/\b≠X.env.locals/\b∉X.fs/\(b∈X.ex∨X.s₀.heap.objs.size<=b)/\(∀x c,X.env.cells.lookup x=some c->c≠b)/\∀p∈X.pn++J4,p.1≠b
theorem Inv.fpOk{X:Cx}{f:Zd}{σ:St}{H g:Hp}{s:Shared}{b:Addr}(I:Inv X f σ H s)(a:s.heap.objs.size<=b)(h:g b=none):lM X f g b:=by
 refine⟨h,fE (fF I.lt a),I.nofs a,.inr (bW I.sz a),fun x c e z=>?_,fun p i z=>?_⟩
 ·obtain⟨v,q⟩:=I.cell x c e;exact absurd (fF q.lt (by rw[z];exact a)) (mD _)
 ·exact absurd (fF (aI (I.pin p i).1) (by rw[z];exact a)) (mD _)
structure uC(P:bq)(w:World)(K:Za)(tg:Expr)(J:It)(fp:Ze)(it:Addr)(tn:Nat->Heap->Prop):Prop where
 mem:it∈fp
 obj:∀i h,tn i h->∀b∈fp,∃o,h.get? b=some o/\∀v,o.data≠.cell v
 keep:∀i h h',tn i h->(∀b∈fp,∀o,h.get? b=some o->h'.get? b=some o)->tn i h'
 item:∀(X:Cx),X.prog=P->X.w=w->X.K=K->X.calm=true->∀(i:Nat) (J4:Zd) (s:Shared) (σ:St) (H:Hp) (E:Zc),Inv X J4 σ H s->(∀b∈fp,lM X J4 H b)->tn i s.heap->J.go i H ->
  wpAny (model P w) X.A (pyNext (.ref it)) (fun r s1=>∃u,r=some u /\
   wpAny (model P w) X.A (Bg tg (.ref it) u) (fun _ s2=>∃x H',Inv X J4 σ H' s2/\RelV x u/\J.yld i H x H'/\tn (i+1) s2.heap/\∀b∈fp,H' b=none) E s1) E s
 done:∀(X:Cx),X.prog=P->X.w=w->X.K=K->X.calm=true->∀(i:Nat) (J4:Zd) (s:Shared) (σ:St) (H:Hp) (E:Zc),Inv X J4 σ H s->(∀b∈fp,lM X J4 H b)->tn i s.heap->J.stop i H ->
  wpAny (model P w) X.A (pyNext (.ref it)) (fun r s1=>r=none/\Inv X J4 σ H s1) E s
 self:∀(A:Around) (i:Nat) (s:Shared) (Q:Zc) (E:Zc),tn i s.heap->Q (.ref it) s->wpAny (model P w) A (pyIter (.ref it)) Q E s
abbrev TI:=St->Hp->(It->Hp->Prop)->Prop
def PIE(X:Cx)(J4:Zd)(σ:St)(tg:Expr)(R:It->Hp->Prop)(itv:Value)(s2:Shared):Prop :=
 ∃(it:Addr) (fp:Ze) (tn:Nat->Heap->Prop) (J:It) (H':Hp),itv=.ref it/\Inv X J4 σ H' s2/\uC X.prog X.w X.K tg J fp it tn/\tn 0 s2.heap/\(∀b∈fp,lM X J4 H' b)/\R J H'
def PI(X:Cx)(tg iter:Expr)(wi:TI):Prop :=
 ∀(J4:Zd) (s:Shared) (σ:St) (H:Hp) (R:It->Hp->Prop),Inv X J4 σ H s->wi σ H R ->
  wpAny (model X.prog X.w) X.A (eval iter X.env) (fun v s1=>wpAny (model X.prog X.w) X.A (pyIter v) (PIE X J4 σ tg R) X.xe s1) X.xe s
theorem vL{M:Model}{A:Around}{E:Zc}{s:Shared}{e:Expr}{it:Addr}{u:Value}{o:Obj}{n:String}{f:Array Value}{Q:Unit->Shared->Prop}(g:s.heap.get? it=some o)(i:o.cls=.type n)(j:o.data=.fields f)
    (k:["enumerate","zip","dict_itemiterator","dict_reverseitemiterator","odict_iterator","itertools.zip_longest","itertools.pairwise"].contains n=false) (a:Q () s):wpAny M A (Bg e (.ref it) u) Q E s:=by
  unfold Bg;cases e<;>first
    |exact aw a
    | (cases u <;> first
        |exact aw a
        | (refine ah (wpAny_load g ?_)
           rw[i,j];show wpAny M A (if(["enumerate","zip","dict_itemiterator","dict_reverseitemiterator","odict_iterator","itertools.zip_longest","itertools.pairwise"].contains n && f[0]?==some (rawInt _))=true then _ else _) Q E s
           rw[if_neg (by intro h;rw[k,Bf]at h;cases h)];exact aw a))
def Cm(K:Za)(a:Addr):It :=
 ⟨fun i H=>∃xs x,av K H a xs/\xs[i]?=some x,fun i H x H'=>H'=H/\∀xs,av K H a xs->xs[i]?=some x,fun i H=>∃xs,av K H a xs/\xs.length<=i⟩
def Jd(K:Za)(a:Addr):It :=
 ⟨fun i H=>∃xs x,cr K H a xs/\xs[i]?=some x,fun i H x H'=>H'=H/\∀xs,cr K H a xs->xs[i]?=some x,fun i H=>∃xs,cr K H a xs/\xs.length<=i⟩
def Io(lo:Int)(n:Nat):It:=⟨fun i _=>i<n,fun i H x H'=>H'=H/\x=.int (lo+i),fun i _=>n<=i⟩
theorem vp{P:bq}{w:World}{K:Za}{M:Expr}(a it:Addr):uC P w K M (Cm K a) [it] it (fun i h=>h.IsListIter it a i) where
 mem:=by simp
 obj:=fun i h st b f=>by
  have e:b=it:=by simpa using f
  subst e;obtain⟨o,e,c,d⟩:=st;exact⟨o,e,fun v z=>by rw[d]at z;cases z⟩
 keep:=fun i h j st k=>st.at fun o e=>k it (by simp) o e
 item:=by
  intro X m n q J i L s σ H E I hf st r;subst m n q;obtain⟨xs,x,l,hx⟩:=r;obtain⟨t,y,p,N⟩:=I.list l;obtain⟨u,O,Q⟩:=y.get hx;obtain⟨A,B,T,C,D,G⟩:=hf it (by simp);refine wpAny_pyNext_list_item st p.isList (x:=u) (by simpa using O) fun j g U=>?_;have Y:Inv X L σ H { s with heap:=j }:=I.turned (t':=s.toks) (fun b o f e=>(U.2 b f).trans e) A B C D G;obtain⟨o,e,c,d⟩:=id g;exact⟨u,rfl,vL (s:={ s with heap:=j }) e c d (by decide) ⟨x,H,Y,Q,⟨rfl,fun ys hy=>by rw[I.list_inj hy l];exact hx⟩,g,fun b f=>(hf b f).1⟩⟩
 done:=by
  intro X m n q J i L s σ H E I hf st r;subst m n q;obtain⟨xs,l,hx⟩:=r;obtain⟨t,y,p,N⟩:=I.list l;obtain⟨A,B,T,C,D,G⟩:=hf it (by simp);have hl:=y.length;exact wpAny_pyNext_list_end (I.ok.hd J) st p.isList (by simp;omega) fun j eb=>⟨rfl,I.turned (t':=s.toks) (fun b o f e=>eb b o f e) A B C D G⟩
 self:=fun _ _ _ _ _ st h=>wpAny_pyIter_listiter st h
theorem zT{P:bq}{w:World}{K:Za}{M:Expr}(a it:Addr):uC P w K M (Jd K a) [it] it (fun i h=>h.IsTupleIter it a i) where
 mem:=by simp
 obj:=fun i h st b f=>by
  have e:b=it:=by simpa using f
  subst e;obtain⟨o,e,c,d⟩:=st;exact⟨o,e,fun v z=>by rw[d]at z;cases z⟩
 keep:=fun i h l st k=>st.at fun o e=>k it (by simp) o e
 item:=by
  intro X n q r J i L s σ H E I hf st t;subst n q r;obtain⟨xs,x,m,hx⟩:=t;obtain⟨g,y,p,N⟩:=I.tuple m;obtain⟨u,O,Q⟩:=y.get hx;obtain⟨A,B,T,C,D,G⟩:=hf it (by simp);refine wpAny_pyNext_tuple_item st (show s.heap.IsTuple a g.toArray from p) (x:=u) (by simpa using O) fun l j U=>?_;have Y:Inv X L σ H { s with heap:=l }:=I.turned (t':=s.toks) (fun b o f e=>(U.2 b f).trans e) A B C D G;obtain⟨o,e,c,d⟩:=id j;exact⟨u,rfl,vL (s:={ s with heap:=l }) e c d (by decide) ⟨x,H,Y,Q,⟨rfl,fun ys hy=>by rw[I.tuple_inj hy m];exact hx⟩,j,fun b f=>(hf b f).1⟩⟩
 done:=by
  intro X n q r J i L s σ H E I hf st t;subst n q r;obtain⟨xs,m,hx⟩:=t;obtain⟨g,y,p,N⟩:=I.tuple m;obtain⟨A,B,T,C,D,G⟩:=hf it (by simp);have hl:=y.length;exact wpAny_pyNext_tuple_end (I.ok.hd J) st (show s.heap.IsTuple a g.toArray from p) (by simp;omega) fun l eb=>⟨rfl,I.turned (t':=s.toks) (fun b o f e=>eb b o f e) A B C D G⟩
 self:=fun _ _ _ _ _ st h=>wpAny_pyIter_tupleiter st h
theorem zU{P:bq}{w:World}{K:Za}{C:Expr}(it:Addr)(lo:Int)(n:Nat):uC P w K C (Io lo n) [it] it (fun i h=>IsRangeIter h it (lo+(i:Nat) * 1) ((n:Int)-(i:Nat)) 1) where
 mem:=by simp
 obj:=fun i h st b a=>by
  have e:b=it:=by simpa using a
  subst e;exact⟨_,st,fun v z=>by
   have D:Data.fields _=Data.cell v:=z;cases D⟩
 keep:=fun i h g st k=>k it (by simp) _ st
 item:=by
  intro X j l m p i B s σ H E I hf st q;subst j l m;obtain⟨r,u,G,x,y,A⟩:=hf it (by simp);have W:=Walks.range (prog:=X.prog) (w:=X.w) (I.ok.hd p) it lo 1 n;refine W.item i s _ _ q st fun v g tk J f L=>?_;obtain⟨t,rfl⟩:=J;have M:Inv X B σ H { s with heap:=g,toks:=tk }:=I.turned (fun b o a e=>L b o (by simpa using a) e) r u x y A;refine⟨_,rfl,vL (s:={ s with heap:=g,toks:=tk }) (n:="range_iterator") f rfl rfl (by decide) ⟨.int (lo+i),H,M,⟨t,?_⟩,⟨rfl,rfl⟩,f,fun b a=>(hf b a).1⟩⟩;rw[Int.mul_one]
 done:=by
  intro X j l m p i B s σ H E I hf st q;subst j l m;obtain⟨r,u,G,x,y,A⟩:=hf it (by simp);exact wpAny_pyNext_range_end (I.ok.hd p) st (by have:n<=i:=q;omega) fun g N=>⟨rfl,I.turned (t':=s.toks) (fun b o a e=>N b o a e) r u x y A⟩
 self:=fun _ _ _ _ _ st h=>wpAny_pyIter_rangeiter st h
end L2
namespace L2
open PySem PySem.Spec PyProof.Rows
section
variable{X:Cx}{tg:Expr}
def bR(K:Za)(tl:TE):TI:=fun σ H R=>tl σ H fun x H1=>∃a,x=.ref a/\(∃xs,av K H1 a xs)/\R (Cm K a) H1
theorem aP{l:Expr}{j:TE}(k:PE X l j):PI X tg l (bR X.K j):=by
 intro m s σ H R I h;refine cM (k m s σ H _ I h) fun v f i=>?_;obtain⟨x,n,g,r,t⟩:=i;obtain⟨a,e,⟨xs,u⟩,q⟩:=t;subst e;cases r;obtain⟨w,z,p,A⟩:=g.list u;refine vg p.isList ?_;refine⟨f.heap.objs.size,[f.heap.objs.size],_,_,n,rfl,g.kept (t':=f.toks) fun b o e=>aS _ e,vp a _,⟨_,cJ _ rfl,rfl,rfl⟩,fun b y=>?_,q⟩;have e:b=f.heap.objs.size:=by simpa using y
 subst e;exact g.fpOk (aK _) (g.hok.fresh (aK _))
theorem EC{a:Zd}{σ:St}{H:Hp}{s:Shared}{R:It->Hp->Prop}{E:Zc}{lo hi:Int}{t u v:Tok}{tk:Nat}(I:Inv X a σ H s)(g:-(2 ^ 62)<=lo)(h:lo<2 ^ 62)(i:-(2 ^ 62)<=hi)(j:hi<2 ^ 62)
  (q:R (Io lo (hi-lo).toNat) H):wpAny (model X.prog X.w) X.A (pyIter (.ref s.heap.objs.size)) (PIE X a σ tg R) E { s with heap:=s.heap.push { cls:=.type "range",data:=.fields #[.int lo t,.int hi u,.int 1 v] },toks:=tk }:=by
 refine wpAny_pyIter_range (IsRange.new ..) (small_one g h i j) ?_;have f:Inv X a σ H { s with heap:=s.heap.push { cls:=.type "range",data:=.fields #[.int lo t,.int hi u,.int 1 v] },toks:=tk }:=I.kept fun b o e=>aS _ e;refine⟨(s.heap.push { cls:=.type "range",data:=.fields #[.int lo t,.int hi u,.int 1 v] }).objs.size,[(s.heap.push { cls:=.type "range",data:=.fields #[.int lo t,.int hi u,.int 1 v] }).objs.size],_,_,H,rfl,
  f.kept (t':=tk) fun b o e=>aS _ e,zU _ lo (hi-lo).toNat,?_,fun b k=>?_,q⟩
 ·have l:lo+((0:Nat):Int) * 1=lo:=by simp
  have m:(((hi-lo).toNat:Nat):Int)-((0:Nat):Int)=bX.Range.rangeSize lo hi 1:=by rw[rangeSize_one];split<;>omega
  show IsRangeIter _ _ (lo+((0:Nat):Int) * 1) ((((hi-lo).toNat:Nat):Int)-((0:Nat):Int)) 1;rw[l,m];exact cJ _ rfl
 ·have e:b=(s.heap.push { cls:=.type "range",data:=.fields #[.int lo t,.int hi u,.int 1 v] }).objs.size:=by simpa using k
  subst e;exact f.fpOk (aK _) (f.hok.fresh (aK _))
def rB(ta:TA):TI:=fun σ H R=>ta σ H fun vs H1=>∃j:Int,vs=[.int j]/\-(2 ^ 62)<=j/\j<2 ^ 62/\R (Io 0 j.toNat) H1
theorem ip{a:Expr}{k:TA}{p f:Pos}(l:Gl X "range")(m:X.mg "range"=none)(n:PA X [a] k)(o:ay [a] X.env=[(false,eval a X.env)]:=by rfl):PI X tg (.Call (.Name "range" p) [a] [] f) (rB k):=by
 intro u s σ H R I h;refine Call_ (nj I l m boot_range (yk (cM (n f u s σ H _ I h) fun z A g=>?_) o rfl));obtain⟨B,C,v,w,i⟩:=g;obtain⟨j,e,i,x,q⟩:=i;subst e;cases w with
 |cons r y =>
  cases y;obtain⟨t,rfl⟩:=r;exact call_range_1 (EC v (by omega) (by omega) i x (by simpa using q))
def eJ(wi:TI)(g:TG)(tb:TS):TS:=fun D σ H=>wi σ H fun J H1=>∃W:Nat->Nat->St->Hp->Prop,(∃m,W 0 m σ H1)/\∀i m σ H,W i m σ H ->
 (J.stop i H/\D.nx σ H)∨(J.go i H/\∃N:St->Hp->Prop,(∀σ' H',N σ' H'->∃m',m'<m/\W (i+1) m' σ' H')/\∀x H',J.yld i H x H'->g x σ H' fun σ2 H2=>tb { D with nx:=N,ct:=N,bk:=D.nx } σ2 H2)
def qk(fp:Ze)(h:Heap):List (Addr×Obj):=fp.filterMap fun b=>(h.get? b).map fun o=>(b,o)
theorem gk{fp:Ze}{h:Heap}{b:Addr}{o:Obj}(a:b∈fp)(e:h.get? b=some o):(b,o)∈qk fp h:=List.mem_filterMap.mpr ⟨b,a,by rw[e];rfl⟩
theorem C8{a:Ze}{h:Heap}{p:Addr×Obj}(f:p∈qk a h):p.1∈a/\h.get? p.1=some p.2:=by
 obtain⟨b,g,e⟩:=List.mem_filterMap.mp f;cases q:h.get? b with
 |none=>rw[q]at e;cases e
 |some o =>
  rw[q]at e;have i:(b,o)=p:=eM e;subst i;exact⟨g,q⟩
theorem Inv.pinned{a:Zd}{σ:St}{H:Hp}{s:Shared}{f:Ze}(I:Inv X a σ H s)(hf:∀b∈f,lM X a H b)(i:∀b∈f,∃o,s.heap.get? b=some o/\∀v,o.data≠.cell v):Inv X (a++qk f s.heap) σ H s :=
 I.pins_of fun p j=>(bE.mp j).elim (fun z=>I.pin p (cV _ z)) fun z=>by
  obtain⟨g,e⟩:=C8 z;obtain⟨k,l,m,_⟩:=hf p.1 g;obtain⟨o,h,d⟩:=i p.1 g;rw[e]at h;cases h;exact⟨e,k,l,m,d⟩
theorem Inv.unpinned{a e:Zd}{σ:St}{H:Hp}{s:Shared}(I:Inv X (a++e) σ H s):Inv X a σ H s:=I.pins_of fun p f=>I.pin p (cV _ (cN _ f))
theorem bV{j:Expr}{y:List Stmt}{wi:TI}{g:TG}{tb:TS}{U:Pos}(E:Bh (model X.prog X.w) X.A X.env X.xe)(hc:X.calm=true)(hi:PI X tg j wi)(hg:PG X tg g)(k:vW X y tb)
  (hs:∀x,ve j X.env x=pure x:=by intro _;rfl):PS X (.For tg j y [] U) (eJ wi g tb):=by
 intro B s σ H D I h;refine wpAny_For (cM (hi B s σ H _ I h) fun v s1 h1=>cM h1 fun an s2 h2=>?_) hs;obtain⟨it,G,tn,J,H2,e,I2,T,Y,f2,W,⟨m0,w0⟩,turn⟩:=h2;subst e;have l:∀{t:Hp},(∀b∈G,t b=none)->∀b∈G,lM X B t b:=fun hn b k=>⟨hn b k,(f2 b k).2⟩;refine codeAny_forLoop_any (fun n s'=>∃i σ' t,Inv X B σ' t s'/\tn i s'.heap/\(∀b∈G,t b=none)/\W i n σ' t) ?_ m0 ⟨0,σ,H2,I2,Y,fun b k=>(f2 b k).1,w0⟩;rintro n s3 ⟨i,σ3,Q,I3,L,M,w3⟩;rcases turn i n σ3 Q w3 with⟨stop,qn⟩|⟨go,N,hN,step⟩
 ·refine kz E (cM (T.done X rfl rfl rfl hc i B s3 σ3 Q X.xe I3 (l M) L stop) fun r s4 a=>?_);obtain⟨hr,I4⟩:=a;subst hr;exact qW ⟨σ3,Q,I4,qn⟩
 ·refine kz E (cM (T.item X rfl rfl rfl hc i B s3 σ3 Q X.xe I3 (l M) L go) fun r s4 a=>?_);obtain⟨u,hr,h4⟩:=a;subst hr;refine kz E (cM h4 fun _ s5 a=>?_);obtain⟨x,H5,I5,r5,y5,C,ab⟩:=a;have al:=I5.pinned (l ab) (T.obj _ _ C);refine kz E (cM (hg _ s5 σ3 H5 x u _ al r5 (step x H5 y5)) fun _ s6 a=>?_);obtain⟨σ6,H6,I6,q6⟩:=a;refine kz E (cM (k _ s6 σ6 H6 _ I6 q6) fun f s7 z=>?_);have again:∀{σ7:St}{p:Hp},Inv X (B++qk G s5.heap) σ7 p s7->N σ7 p->∃m,m<n/\∃i σ' t,Inv X B σ' t s7/\tn i s7.heap/\(∀b∈G,t b=none)/\W i m σ' t:=fun{σ7 p} q O=>by
   obtain⟨m',hm,w7⟩:=hN σ7 p O;refine⟨m',hm,i+1,σ7,p,q.unpinned,T.keep _ _ _ C fun b k o e=>(q.pin (b,o) (cV _ (cV _ (gk k e)))).1,fun b k=>?_,w7⟩;obtain⟨o,e,d⟩:=T.obj _ _ C b k;exact(q.pin (b,o) (cV _ (cV _ (gk k e)))).2.1
  cases f with
  |next=>obtain⟨σ7,p,q,O⟩:=z;exact again q O
  |cont=>obtain⟨σ7,p,q,O⟩:=z;exact again q O
  |brk=>obtain⟨σ7,p,q,z⟩:=z;exact⟨σ7,p,q.unpinned,z⟩
  |ret v=>obtain⟨x7,σ7,p,q,r7,z⟩:=z;exact⟨x7,σ7,p,q.unpinned,r7,z⟩
end
theorem bS{K:Za}{a:Addr}{xs:List V}{g:TG}{k:TS}{D:eR}{σ:St}{H:Hp}(Pv:Nat->St->Hp->Prop)(n:Pv 0 σ H)(o:∀i σ H,i<=xs.length->Pv i σ H->av K H a xs)
  (r:∀i x σ H,xs[i]?=some x->Pv i σ H->g x σ H fun σ2 j=>k { D with nx:=Pv (i+1),ct:=Pv (i+1),bk:=D.nx } σ2 j) (s:∀σ H,Pv xs.length σ H->D.nx σ H) :
  ∃W:Nat->Nat->St->Hp->Prop,(∃m,W 0 m σ H)/\∀i m σ H,W i m σ H ->
   ((Cm K a).stop i H/\D.nx σ H)∨((Cm K a).go i H/\∃N:St->Hp->Prop,(∀σ' f,N σ' f->∃l,l<m/\W (i+1) l σ' f)/\∀x f,(Cm K a).yld i H x f->g x σ f fun σ2 j=>k { D with nx:=N,ct:=N,bk:=D.nx } σ2 j):=by
 refine⟨fun i m σ H=>m=xs.length-i/\i<=xs.length/\Pv i σ H,⟨xs.length,by simp,dA _,n⟩,?_⟩;rintro i m σ H ⟨rfl,hi,p⟩;have q:=o i σ H hi p;by_cases h:i<xs.length
 ·refine .inr ⟨⟨xs,xs[i],q,by simp[h]⟩,Pv (i+1),fun σ' f t=>⟨xs.length-(i+1),by omega,rfl,h,t⟩,fun x f y=>?_⟩;obtain⟨e,y⟩:=y;subst e;exact r i x σ _ (y xs q) p
 ·have e:i=xs.length:=by omega
  subst e;exact .inl ⟨⟨xs,q,aK _⟩,s σ H p⟩
theorem GJ{K:Za}{a:Addr}{xs:List V}{g:TG}{k:TS}{D:eR}{σ:St}{H:Hp}(Pv:Nat->St->Hp->Prop)(n:Pv 0 σ H)(o:∀i σ H,i<=xs.length->Pv i σ H->cr K H a xs)
  (r:∀i x σ H,xs[i]?=some x->Pv i σ H->g x σ H fun σ2 j=>k { D with nx:=Pv (i+1),ct:=Pv (i+1),bk:=D.nx } σ2 j) (s:∀σ H,Pv xs.length σ H->D.nx σ H) :
  ∃W:Nat->Nat->St->Hp->Prop,(∃m,W 0 m σ H)/\∀i m σ H,W i m σ H ->
   ((Jd K a).stop i H/\D.nx σ H)∨((Jd K a).go i H/\∃N:St->Hp->Prop,(∀σ' f,N σ' f->∃l,l<m/\W (i+1) l σ' f)/\∀x f,(Jd K a).yld i H x f->g x σ f fun σ2 j=>k { D with nx:=N,ct:=N,bk:=D.nx } σ2 j):=by
 refine⟨fun i m σ H=>m=xs.length-i/\i<=xs.length/\Pv i σ H,⟨xs.length,by simp,dA _,n⟩,?_⟩;rintro i m σ H ⟨rfl,hi,p⟩;have q:=o i σ H hi p;by_cases h:i<xs.length
 ·refine .inr ⟨⟨xs,xs[i],q,by simp[h]⟩,Pv (i+1),fun σ' f t=>⟨xs.length-(i+1),by omega,rfl,h,t⟩,fun x f y=>?_⟩;obtain⟨e,y⟩:=y;subst e;exact r i x σ _ (y xs q) p
 ·have e:i=xs.length:=by omega
  subst e;exact .inl ⟨⟨xs,q,aK _⟩,s σ H p⟩
theorem jH{lo:Int}{n:Nat}{g:TG}{j:TS}{D:eR}{σ:St}{H:Hp}(Pv:Nat->St->Hp->Prop)(l:Pv 0 σ H)
  (o:∀i σ H,i<n->Pv i σ H->g (.int (lo+i)) σ H fun σ2 h=>j { D with nx:=Pv (i+1),ct:=Pv (i+1),bk:=D.nx } σ2 h) (q:∀σ H,Pv n σ H->D.nx σ H) :
  ∃W:Nat->Nat->St->Hp->Prop,(∃m,W 0 m σ H)/\∀i m σ H,W i m σ H ->
   ((Io lo n).stop i H/\D.nx σ H)∨((Io lo n).go i H/\∃N:St->Hp->Prop,(∀σ' a,N σ' a->∃k,k<m/\W (i+1) k σ' a)/\∀x a,(Io lo n).yld i H x a->g x σ a fun σ2 h=>j { D with nx:=N,ct:=N,bk:=D.nx } σ2 h):=by
 refine⟨fun i m σ H=>m=n-i/\i<=n/\Pv i σ H,⟨n,by simp,dA _,l⟩,?_⟩;rintro i m σ H ⟨rfl,hi,p⟩;by_cases f:i<n
 ·refine .inr ⟨f,Pv (i+1),fun σ' a r=>⟨n-(i+1),by omega,rfl,f,r⟩,fun x a y=>?_⟩;obtain⟨e,y⟩:=y;subst e y;exact o i σ _ f p
 ·have e:i=n:=by omega
  subst e;exact .inl ⟨aK _,q σ H p⟩
end L2
namespace L2
open PySem PySem.Spec PyProof.Rows
abbrev R2:=V->V->Hp->VK->Prop
def pb(X:Cx)(f:Value->Value->Sem Value)(r:R2):Prop :=
 ∀(J4:Zd) (s:Shared) (σ:St) (H:Hp) (x y:V) (v u:Value) (Q:VK),Inv X J4 σ H s->RelV x v->RelV y u->r x y H Q ->
  wpAny (model X.prog X.w) X.A (f v u) (EP X J4 σ Q) X.xe s
def fU(X:Cx)(f:Value)(r:List V->Hp->VK->Prop):Prop :=
 ∀(J4:Zd) (s:Shared) (σ:St) (H:Hp) (xs:List V) (us:Zf) (Q:VK),Inv X J4 σ H s->bp xs us->r xs H Q ->
  wpAny (model X.prog X.w) X.A (call f us) (EP X J4 σ Q) X.xe s
def aE(r:R2)(ta tb:TE):TE:=fun σ H Q=>ta σ H fun x H1=>tb σ H1 fun y H2=>r x y H2 Q
def rI(C:Int->Int->Prop)(g:Int->Int->V):R2:=fun x y H Q=>∃i j,x=.int i/\y=.int j/\C i j/\Q (g i j) H
def DD(g:Int->Int->V):R2:=fun x y H Q=>∃i j,x=.int i/\y=.int j/\Q (g i j) H
section
variable{X:Cx}{a b c:Expr}{ta tb tc:TE}{pos:Pos}
theorem Ic(n:PE X a ta)(o:PE X b tb){k:Zd}{s:Shared}{σ:St}{H:Hp}{R:V->V->Hp->Prop}(I:Inv X k σ H s)
  (h:ta σ H fun x m=>tb σ m fun y g=>R x y g) {Q:Zc}{f:Value->Value->Sem Value}
  (hf:∀v u l x y g,Inv X k σ g l->RelV x v->RelV y u->R x y g->wpAny (model X.prog X.w) X.A (f v u) Q X.xe l) :
  wpAny (model X.prog X.w) X.A (eval a X.env) (fun v i=>wpAny (model X.prog X.w) X.A (eval b X.env) (fun u j=>wpAny (model X.prog X.w) X.A (f v u) Q X.xe j) X.xe i) X.xe s:=by
 refine cM (n k s σ H _ I h) fun v p e=>?_;obtain⟨x,m,q,r,t⟩:=e;refine cM (o k p σ m _ q t) fun u l e=>?_;obtain⟨y,g,z,B,C⟩:=e;exact hf v u l x y g z r B C
theorem aJ{e:Operator}{r:R2}(f:pb X (qV e) r)(g:PE X a ta)(i:PE X b tb):PE X (.BinOp a e b pos) (aE r ta tb):=by
 intro j s σ H Q I h;exact wpAny_BinOp (Ic g i I h fun v u k x y l m n o q=>f j k σ l x y v u Q m n o q)
theorem Jo{f:Value->Value->Sem Value}{C:Int->Int->Prop}{g:Int->Int->Int}
  (rule:∀(i j:Int) (t u:Tok) (s:Shared) (Q:Zc) (E:Zc),C i j->Q (.int (g i j) s.toks) { s with toks:=s.toks+1 }->wpAny (model X.prog X.w) X.A (f (.int i t) (.int j u)) Q E s) :
  pb X f (rI C fun i j=>.int (g i j)):=by
 intro n s σ H x y v u Q I e k h;obtain⟨i,j,rfl,rfl,l,q⟩:=h;obtain⟨t,rfl⟩:=e;obtain⟨m,rfl⟩:=k;exact rule i j t m s _ _ l ⟨.int (g i j),H,I.tok _,⟨_,rfl⟩,q⟩
theorem opI0{f:Value->Value->Sem Value}{g:Int->Int->Int}
  (rule:∀(i j:Int) (t u:Tok) (s:Shared) (Q:Zc) (E:Zc),Q (.int (g i j) s.toks) { s with toks:=s.toks+1 }->wpAny (model X.prog X.w) X.A (f (.int i t) (.int j u)) Q E s) :
  pb X f (DD fun i j=>.int (g i j)):=by
 intro m s σ H x y v u Q I e k h;obtain⟨i,j,rfl,rfl,q⟩:=h;obtain⟨t,rfl⟩:=e;obtain⟨l,rfl⟩:=k;exact rule i j t l s _ _ ⟨.int (g i j),H,I.tok _,⟨_,rfl⟩,q⟩
theorem GB{f:Value->Value->Sem Value}{g:Int->Int->Bool}
  (rule:∀(i j:Int) (t u:Tok) (s:Shared) (Q:Zc) (E:Zc),Q (.bool (g i j)) s->wpAny (model X.prog X.w) X.A (f (.int i t) (.int j u)) Q E s) :
  pb X f (DD fun i j=>.bl (g i j)):=by
 intro m s σ H x y v u Q I e k h;obtain⟨i,j,rfl,rfl,q⟩:=h;obtain⟨t,rfl⟩:=e;obtain⟨l,rfl⟩:=k;exact rule i j t l s _ _ ⟨.bl (g i j),H,I,rfl,q⟩
def Ji(i j:Int):Prop:=0<j/\j<1073741824
def Jg(i j:Int):Prop:=0<=j/\j<=1000000/\i.natAbs<2 ^ 64
def FL(i j:Int):Prop:=(-(2 ^ 64)<i/\i<2 ^ 64)∨(-(2 ^ 64)<j/\j<2 ^ 64)
theorem FL.ok{i j:Int}(h:FL i j):IntMulOk i j:=by
 rcases h with⟨e,f⟩|⟨e,f⟩
 ·exact .of_left (intBits_le_64 e f)
 ·exact .of_right (intBits_le_64 e f)
theorem dq:pb X (qV .Add) (DD fun i j=>.int (i+j)):=opI0 fun _ _ _ _ _ _ _ q=>add_int q
theorem eQ:pb X (qV .Mult) (rI FL fun i j=>.int (i * j)):=Jo fun _ _ _ _ _ _ _ e q=>mul_int q e.ok
theorem sF:pb X (qV .FloorDiv) (rI Ji fun i j=>.int (i / j)):=Jo fun i j _ _ _ _ _ e q=>by
 have f:(0:Int)<j:=e.1;have g:j<1073741824:=e.2;exact floordiv_int (by omega) (by rw[Int.fdiv_eq_ediv_of_nonneg i (by omega)];exact q) (.inl (PyProof.noPylong_small (by omega)))
theorem fj:pb X (qV .Mod) (rI (fun _ j=>0<j) fun i j=>.int (i % j)):=Jo fun i j _ _ _ _ _ e q=>by
 have f:(0:Int)<j:=e;exact mod_int' (by omega) (by rw[Int.fmod_eq_emod_of_nonneg i (by omega)];exact q)
theorem EU:pb X (qV .Pow) (rI Jg fun i j=>.int (i ^ j.toNat)):=Jo fun _ _ _ _ _ _ _ e q=>pow_int_small e.1 e.2.1 e.2.2 q
end
def IH:V->V->Bool
 |.non,.non=>true | .non,.int _=>true | .int _,.non=>true | .non,.bl _=>true | .bl _,.non=>true | .non,.str _=>true | .str _,.non=>true
 |.int _,.int _=>true | .bl _,.bl _=>true | .str _,.str _=>true | .byt _,.byt _=>true
 |.int _,.str _=>true | .str _,.int _=>true | .bl _,.str _=>true | .str _,.bl _=>true
 |_,_=>false
def EE:R2:=fun x y H Q=>IH x y=true/\Q (.bl (decide (x=y))) H
def rNe:R2:=fun x y H Q=>IH x y=true/\Q (.bl (!decide (x=y))) H
theorem B6{i j:Int}:decide (V.int i=V.int j)=(i==j):=by
 rw[yj];simp
theorem Fx{i j:Bool}:decide (V.bl i=V.bl j)=(i==j):=by
 rw[yj];simp
theorem BY{i j:Str}:decide (V.str i=V.str j)=(i==j):=by
 rw[yj];simp
theorem B_{i j:Array UInt8}:decide (V.byt i=V.byt j)=(i.toList==j.toList):=by
 rw[yj];cases i;cases j;simp
section
variable{X:Cx}{a b c:Expr}{ta tb tc:TE}{pos:Pos}
theorem bO{f:Zd}{σ:St}{H:Hp}{s:Shared}{Q:VK}{k g:Bool}(I:Inv X f σ H s)(q:Q (.bl k) H)(e:k=g):EP X f σ Q (.bool g) s:=by
 subst e;exact⟨.bl k,H,I,rfl,q⟩
theorem oU:pb X (eT .Eq) EE:=by
 intro l s σ H x y v u Q I k e h;obtain⟨g,q⟩:=h;cases x with
 |non =>
  cases k;cases y with
  |non=>cases e;exact PySem.EqNone.eq_none_none (bO I q (by simp))
  |bl j=>cases e;exact PySem.EqNone.eq_none_bool (bO I q (by simp))
  |int j=>obtain⟨f,rfl⟩:=e;exact PySem.EqNone.eq_none_int (bO I q (by simp))
  |str j=>obtain⟨f,rfl⟩:=e;exact PySem.EqNone.eq_none_str (bO I q (by simp))
  |_=>exact absurd (show false=true from g) gH
 |bl i =>
  cases k;cases y with
  |non=>cases e;exact PySem.EqNone.eq_bool_none (bO I q (by simp))
  |bl j=>cases e;exact eq_bool (bO I q Fx)
  |str j=>obtain⟨f,rfl⟩:=e;exact PySem.EqMixed.eq_bool_str (bO I q (by simp))
  |_=>exact absurd (show false=true from g) gH
 |int i =>
  obtain⟨t,rfl⟩:=k;cases y with
  |non=>cases e;exact PySem.EqNone.eq_int_none (bO I q (by simp))
  |int j=>obtain⟨f,rfl⟩:=e;exact eq_int (bO I q B6)
  |str j=>obtain⟨f,rfl⟩:=e;exact PySem.EqMixed.eq_int_str (bO I q (by simp))
  |_=>exact absurd (show false=true from g) gH
 |str i =>
  obtain⟨t,rfl⟩:=k;cases y with
  |non=>cases e;exact PySem.EqNone.eq_str_none (bO I q (by simp))
  |bl j=>cases e;exact PySem.EqMixed.eq_str_bool (bO I q (by simp))
  |int j=>obtain⟨f,rfl⟩:=e;exact PySem.EqMixed.eq_str_int (bO I q (by simp))
  |str j=>obtain⟨f,rfl⟩:=e;exact eq_str (bO I q BY)
  |_=>exact absurd (show false=true from g) gH
 |byt i =>
  obtain⟨t,rfl⟩:=k;cases y with
  |byt j=>obtain⟨f,rfl⟩:=e;exact PySem.W.eq_bytes (bO I q B_)
  |_=>exact absurd (show false=true from g) gH
 |_=>cases y<;>exact absurd (show false=true from g) gH
theorem Hb:pb X (eT .NotEq) rNe:=by
 intro l s σ H x y v u Q I k e h;obtain⟨g,q⟩:=h;cases x with
 |non =>
  cases k;cases y with
  |non=>cases e;exact PySem.EqNone.ne_none_none (bO I q (by simp))
  |bl j=>cases e;exact PySem.EqNone.ne_none_bool (bO I q (by simp))
  |int j=>obtain⟨f,rfl⟩:=e;exact PySem.EqNone.ne_none_int (bO I q (by simp))
  |str j=>obtain⟨f,rfl⟩:=e;exact PySem.EqNone.ne_none_str (bO I q (by simp))
  |_=>exact absurd (show false=true from g) gH
 |bl i =>
  cases k;cases y with
  |non=>cases e;exact PySem.EqNone.ne_bool_none (bO I q (by simp))
  |bl j=>cases e;exact ne_bool (bO I q (congrArg not Fx))
  |str j=>obtain⟨f,rfl⟩:=e;exact PySem.EqMixed.ne_bool_str (bO I q (by simp))
  |_=>exact absurd (show false=true from g) gH
 |int i =>
  obtain⟨t,rfl⟩:=k;cases y with
  |non=>cases e;exact PySem.EqNone.ne_int_none (bO I q (by simp))
  |int j=>obtain⟨f,rfl⟩:=e;exact ne_int (bO I q (congrArg not B6))
  |str j=>obtain⟨f,rfl⟩:=e;exact PySem.EqMixed.ne_int_str (bO I q (by simp))
  |_=>exact absurd (show false=true from g) gH
 |str i =>
  obtain⟨t,rfl⟩:=k;cases y with
  |non=>cases e;exact PySem.EqNone.ne_str_none (bO I q (by simp))
  |bl j=>cases e;exact PySem.EqMixed.ne_str_bool (bO I q (by simp))
  |int j=>obtain⟨f,rfl⟩:=e;exact PySem.EqMixed.ne_str_int (bO I q (by simp))
  |str j=>obtain⟨f,rfl⟩:=e;exact ne_str (bO I q (congrArg not BY))
  |_=>exact absurd (show false=true from g) gH
 |byt i =>
  obtain⟨t,rfl⟩:=k;cases y with
  |byt j=>obtain⟨f,rfl⟩:=e;exact PySem.W.ne_bytes (bO I q (congrArg not B_))
  |_=>exact absurd (show false=true from g) gH
 |_=>cases y<;>exact absurd (show false=true from g) gH
theorem yY:pb X (eT .Lt) (DD fun i j=>.bl (decide (i<j))):=GB fun _ _ _ _ _ _ _ q=>lt_int q
theorem EW:pb X (eT .LtE) (DD fun i j=>.bl (decide (i<=j))):=GB fun _ _ _ _ _ _ _ q=>le_int q
theorem kD:pb X (eT .Gt) (DD fun i j=>.bl (decide (j<i))):=GB fun _ _ _ _ _ _ _ q=>gt_int q
theorem IL:pb X (eT .GtE) (DD fun i j=>.bl (decide (j<=i))):=GB fun _ _ _ _ _ _ _ q=>ge_int q
theorem C7:pb X (eT .In) (fun x y H Q=>∃i j,x=.str i/\y=.str j/\Q (.bl (!(bX.Str.occurrences j i 0 j.length 1).isEmpty)) H):=by
 intro g s σ H x y v u Q I e f h;obtain⟨i,j,rfl,rfl,q⟩:=h;obtain⟨t,rfl⟩:=e;obtain⟨k,rfl⟩:=f;exact in_str (bO I q rfl)
theorem EY(b:Expr){e:CmpOp}(h:e≠.In:=by decide)(f:e≠.NotIn:=by decide):kA e b=false:=by
 have g:(e==CmpOp.In)=false:=by cases e<;>first|rfl|exact absurd rfl h
 have i:(e==CmpOp.NotIn)=false:=by cases e<;>first|rfl|exact absurd rfl f
 cases b<;>simp[kA,g,i]
theorem BO{e:CmpOp}{r:R2}(f:pb X (eT e) r)(g:PE X a ta)(i:PE X b tb)(j:kA e b=false):PE X (.Compare a [e] [b] pos) (aE r ta tb):=by
 intro k s σ H Q I h;exact wpAny_Compare1 (Ic g i I h fun v u l x y m n o p q=>f k l σ m x y v u Q n o p q) j
def aW(t:TE):TT:=fun σ H Q=>t σ H fun x H'=>∃k,x=.bl k/\Q k H'
theorem BH{f:CmpOp}{r:R2}(i:pb X (eT f) r)(j:PE X a ta)(l:PE X b tb)(m:kA f b=false):PT X (.Compare a [f] [b] pos) (aW (aE r ta tb)):=by
 intro g s σ H Q I h;refine wpAny_isTrue_Compare1 (cM (j g s σ H _ I h) fun v n ⟨x,o,p,q,t⟩=>cM (l g n σ o _ p t) fun u w ⟨y,A,B,C,D⟩ =>
  cM (i g w σ A x y v u _ B q C D) fun c M ⟨z,E,G,J,k,e,L⟩=>?_) m
 subst e;cases J;exact qZ ⟨E,G,L⟩
theorem qz:(ak:Nat)<2 ^ 63:=by rw[Be];decide
theorem ni:pb X (qV .Add) (fun x y H Q=>∃i j,x=.str i/\y=.str j/\i.length+j.length<=ak/\Q (.str (i++j)) H):=by
 intro l s σ H x y v u Q I e f h;obtain⟨i,j,rfl,rfl,g,q⟩:=h;obtain⟨t,rfl⟩:=e;obtain⟨k,rfl⟩:=f;exact add_str (fun k tk=>⟨.str (i++j),H,I.tok _,⟨_,rfl⟩,q⟩) g
theorem vals1{x:V}{e:Zf}(r:bp [x] e):∃u,e=[u]/\RelV x u:=by
 cases r with
 |cons f g=>cases g;exact⟨_,rfl,f⟩
theorem vals2{x y:V}{e:Zf}(r:bp [x,y] e):∃u f,e=[u,f]/\RelV x u/\RelV y f:=by
 cases r with
 |cons g h =>
  cases h with
  |cons i j=>cases j;exact⟨_,_,rfl,g,i⟩
end
end L2
namespace L2
open PySem PySem.Spec PyProof.Rows
structure AU(h:Heap)(x dx C:Addr)(mA:Str->Option Value):Prop where
 obj:h.get? x=some (qY C dx)
 ns:h.Ns1 dx mA
 ne:dx≠x
theorem qw{h:Heap}{g:Addr}{i:Str->Option Value}(n:h.Ns1 g i):∃j,h.get? g=some j/\∀name,Bd name j=some (i name):=by
 obtain⟨o,k,v,l,m,p,_,r⟩:=n;refine⟨o,l,fun name=>?_⟩;have e:=r name;unfold nsFind findBy at e;rw[<-Array.find?_toList]at e;unfold Bd;rw[m];dsimp only;split
 ·rename_i y q;rw[q]at e;exact congrArg some e
 ·rename_i q;rw[q]at e;have a:k.toList.any (·.refKey)=false:=by
   rw[List.any_eq_false];intro y s;obtain⟨z,t,f⟩:=p y (Array.mem_toList_iff.mp s);simp[iC.refKey,f]
  have u:¬k.toList.any (·.refKey)=true:=by rw[a];exact gH
  rw[if_neg u];exact congrArg some e
theorem AU.look{h:Heap}{x e C:Addr}{f:Str->Option Value}(I:AU h x e C f):∃a,PySem.W.InstAt h x (qY C e) C (some a)/\∀name,Bd name a=some (f name) :=
 let⟨a,g,i⟩:=qw I.ns
 ⟨a,⟨I.obj,rfl,rfl,g⟩,i⟩
section
variable{prog:bq}{w:World}{A:Around}{E:Zc}{s:Shared}{K:Za}{x dx C f:Addr}{mA:Str->Option Value}{name:Str}{v:Value}
theorem GH{a:Bool}{Q:Zc}(X:K.In s.heap)(I:AU s.heap x dx C mA)(g:yi K C name=true)(i:Bc K C=true)
  (j:bB K (.ref C) name=some none) (k:mA name=some v) (e:PySem.W.handedIn v=true) (h:Q v { s with toks:=s.toks+1 }) :
  wpAny (model prog w) A (yh (.ref x) name a) Q E s:=by
 obtain⟨m,J,l⟩:=I.look;exact PySem.W.get_value X J (PySem.W.plainGet_of g).1 (PySem.W.findObj_own i j rfl (by rw[l,k])) e h
theorem Fk{e:Sem Bool}{Q:Value×List Value->Shared->Prop}(X:K.In s.heap)(I:AU s.heap x dx C mA)(a:yi K C name=true)
  (hf:bB K (.ref C) name=some (some (.ref f))) (g:qU K (.ref f)=true) (i:mA name=none) (h:Q (.ref f,[.ref x]) s) :
  wpAny (model prog w) A (nU (.ref x) name e) Q E s:=by
 obtain⟨j,J,k⟩:=I.look;exact PySem.W.method_fn X J (PySem.W.plainGet_of a).1 (PySem.W.plainGet_of a).2 hf (beq_iff_eq.mp g) (by show(Bd name j).map (·.isSome)=some false;rw[k,i];rfl) h
theorem Gf{n:Zb}{Q:Unit->Shared->Prop}(X:K.In s.heap)(I:AU s.heap x dx C mA)
  (o:bB K (.ref C) "__setattr__"=some (some (.builtin "object.__setattr__"))) (p:PySem.W.plainOver K C=true) (q:PySem.W.takerIn K C name=some none) (t:Bc K C=true)
  (u:ym mA n) (z:n.length<=ak)
  (h:∀i,AU i x dx C (fun y=>if y=name then some v else mA y)->gJ dx s.heap i->Q () { s with heap:=i,toks:=s.toks+2 }) :
  wpAny (model prog w) A (setAttr (.ref x) name v) Q E s:=by
 obtain⟨H,J,L⟩:=I.look;refine PySem.W.set_plain X J o (PySem.W.osa_open (s:={ s with toks:=s.toks+1 }) (r:=none) X J p q fun b=>?_);obtain⟨cd,B,j⟩:=PySem.W.any_some t;have hx:s.heap.get? x=some ⟨.ref C,some dx,.plain,#[]⟩:=I.obj;refine ah (aw (ah (ah (wpAny_loadPart hx (ah (sY.here (s:={ s with toks:=s.toks+1 }) (PySem.W.looks_clsIn X B) ?_))))));rw[j];refine aw (a:=some dx) (ah (aw (ah ?_)));refine wpAny_nsSet1 (s:={ s with toks:=s.toks+1 }) I.ns fun i e g=>?_;obtain⟨M,D,G,k,l,m⟩:=e.count (ym.cons name v u);refine ah (wpAny_lookBehind k (by rw[l];exact pastItsLine_dict (bW m (by rw[c_];omega))) ?_);exact aw (h _ ⟨(g.2 _ (dv I.ne)).trans I.obj,e,I.ne⟩ g)
theorem Fb{R:Result->Shared->Prop}{a:Zf}{e:List (Str×Value)}(X:K.In s.heap)(i:yg K C=true)
  (hi:bB K (.ref C) "__init__"=some (some (.ref f))) (hf:PySem.W.typeIn K (.ref f)=some (.type "function"))
  (h:zzl86 (model prog w) (A.under (.builtin "type.__call__" ⟨.ref C::a,e⟩)) (.call (.ref f) ⟨.ref (s.heap.objs.size+1)::a,e⟩) (PySem.W.InitBack (s.heap.objs.size+1) R)
   { s with heap:=(s.heap.push nS).push (qY C s.heap.objs.size) }) :
  zzl86 (model prog w) A (.call (.ref C) ⟨a,e⟩) R s:=by
 obtain⟨j,g,d,t,os⟩:=s;exact PySem.W.make_core (PySem.W.makes_of X i) (PySem.W.looks_findIn X hi) (fun self=>PySem.W.bind_fn X self hf) (.inl rfl) h
end
def cZ(f:Str)(v:V):List (Str×V)->List (Str×V)
 |[]=>[(f,v)]
 | (g,x)::r=>if g=f then(g,v)::r else(g,x)::cZ f v r
theorem ei(f g:Str)(v:V):∀fs:List (Str×V),(cZ f v fs).lookup g=if g=f then some v else fs.lookup g
 |[]=>by
  show fZ g [(f,v)]=_;by_cases h:g=f
  ·have a:(g==f)=true:=beq_iff_eq.mpr h;simp only[fZ,a,if_pos h]
  ·have a:(g==f)=false:=beq_eq_false_iff_ne.mpr h;simp only[fZ,a,if_neg h]
 | (k,x)::r=>by
  have j:=ei f g v r;rw[show cZ f v ((k,x)::r)=(if k=f then(k,v)::r else(k,x)::cZ f v r)from rfl]
  by_cases i:k=f
  ·rw[if_pos i];by_cases h:g=k
   ·have a:(g==k)=true:=beq_iff_eq.mpr h;simp only[fZ,a,if_pos (h.trans i)]
   ·have a:(g==k)=false:=beq_eq_false_iff_ne.mpr h;simp only[fZ,a,if_neg (fun e:g=f=>h (e.trans i.symm))]
  ·rw[if_neg i];by_cases h:g=k
   ·have a:(g==k)=true:=beq_iff_eq.mpr h;simp only[fZ,a,if_neg (fun e:g=f=>i (h.symm.trans e))]
   ·have a:(g==k)=false:=beq_eq_false_iff_ne.mpr h;simp only[fZ,a];exact j
theorem qD(f:Str)(v:V):∀fs:List (Str×V),f∈(cZ f v fs).map (·.1)/\∀g,g∈fs.map (·.1)->g∈(cZ f v fs).map (·.1)
 |[]=>⟨by simp[cZ],fun g h=>by simp at h⟩
 | (k,x)::r=>by
  obtain⟨i,j⟩:=qD f v r;rw[show cZ f v ((k,x)::r)=(if k=f then(k,v)::r else(k,x)::cZ f v r)from rfl]
  by_cases a:k=f
  ·rw[if_pos a];subst a;exact⟨by simp,fun g h=>by simpa using h⟩
  ·rw[if_neg a];refine⟨?_,fun g h=>?_⟩
   ·rw[cg];exact eU _ i
   ·rw[cg]at h ⊢;rcases cK.mp h with e|e
    ·exact cK.mpr (.inl e)
    ·exact eU _ (j g e)
theorem rk(f:Str)(v:V):∀fs:List (Str×V),(cZ f v fs).length<=fs.length+1
 |[]=>by simp[cZ]
 | (k,x)::r=>by
  have e:=rk f v r;rw[show cZ f v ((k,x)::r)=(if k=f then(k,v)::r else(k,x)::cZ f v r)from rfl]
  by_cases a:k=f
  ·rw[if_pos a,c_,c_];omega
  ·rw[if_neg a,c_,c_];omega
theorem iM.some_of{v:V}{o:Option Value}(r:iM (some v) o):∃u,o=some u/\RelV v u:=by
 cases o with
 |none=>exact(show False from r).elim
 |some u=>exact⟨u,rfl,r⟩
theorem iM.none_of{o:Option Value}(r:iM none o):o=none:=by
 cases o with
 |none=>rfl
 |some u=>exact(show False from r).elim
theorem vK{v:V}{u:Value}(r:RelV v u):PySem.W.handedIn u=true:=by
 cases v with
 |non=>cases(show u=Value.none from r);rfl
 |bl b=>cases(show u=Value.bool b from r);rfl
 |int i=>obtain⟨t,e⟩:=(show ∃t,u=Value.int i t from r);cases e;rfl
 |str x=>obtain⟨t,e⟩:=(show ∃t,u=Value.str x t from r);cases e;rfl
 |byt b=>obtain⟨t,e⟩:=(show ∃t,u=Value.bytes b t from r);cases e;rfl
 |flt b=>obtain⟨t,e⟩:=(show ∃t,u=Value.float b t from r);cases e;rfl
 |ref a=>cases(show u=Value.ref a from r);rfl
 |ty n=>cases(show u=Value.type n from r);rfl
section
variable{P:bq}{w:World}{H H':Hp}{h h':Heap}{a C dx:Addr}{fs fs':List (Str×V)}
theorem sJ{K:Za}(i:kg P w K H h)(e:H a=some (.ins C dx fs)):∃g,AU h a dx C g/\(∀f,iM (fs.lookup f) (g f))/\ym g (fs.map (·.1))/\fs.length<=1000/\H dx=some (.own a):=by
 obtain⟨d,z,ne,j,g,n,r,q⟩:=(show bT P w K H h a (.ins C dx fs)from i a _ e);exact⟨g,⟨j,n,ne⟩,r,q,z,d⟩
end
structure DB(K:Za)(C:Addr):Prop where
 pg:yi K C Str.empty=true
 hd:Bc K C=true
 po:PySem.W.plainOver K C=true
 sa:bB K (.ref C) "__setattr__"=some (some (.builtin "object.__setattr__"))
theorem DB.get{K:Za}{C:Addr}(c:DB K C)(f:Str):yi K C f=true:=c.pg
def bP(K:Za)(C:Addr)(f:Str):Prop:=bB K (.ref C) f=some none
theorem bP.taker{K:Za}{C:Addr}{f:Str}(n:bP K C f):PySem.W.takerIn K C f=some none:=by
 unfold PySem.W.takerIn;rw[show bB K (.ref C) f=some none from n]
 rfl
structure GY(K:Za)(C:Addr)(m:Str)(f:Addr):Prop where
 at_:bB K (.ref C) m=some (some (.ref f))
 fn:qU K (.ref f)=true
 kp:ee K (.ref f)=true
section
variable{X:Cx}{J4:Zd}{σ:St}{H:Hp}{s:Shared}{a C dx:Addr}{fs:List (Str×V)}{f:Str}{v:V}{A:Around}{E:Zc}
theorem AJ{b:Bool}{Q:Zc}(I:Inv X J4 σ H s)(e:H a=some (.ins C dx fs))(c:DB X.K C)(n:bP X.K C f)(l:fs.lookup f=some v)
  (h:∀u g,Inv X J4 σ H g->RelV v u->Q u g):wpAny (model X.prog X.w) A (yh (.ref a) f b) Q E s:=by
 obtain⟨j,O,r,_,_,_⟩:=sJ I.hok e;obtain⟨u,k,i⟩:=iM.some_of (v:=v) (o:=j f) (by rw[<-l];exact r f);exact GH I.kIn O (c.get f) c.hd n k (vK i) (h u _ (I.tok _) i)
theorem uk{m:Str}{g:Addr}{i:Sem Bool}{Q:Value×List Value->Shared->Prop}(I:Inv X J4 σ H s)(e:H a=some (.ins C dx fs))(c:DB X.K C)(k:GY X.K C m g)(l:fs.lookup m=none)
  (h:Q (.ref g,[.ref a]) s):wpAny (model X.prog X.w) A (nU (.ref a) m i) Q E s:=by
 obtain⟨j,O,r,_,_,_⟩:=sJ I.hok e;have n:j m=none:=iM.none_of (by rw[<-l];exact r m);exact Fk I.kIn O (c.get m) k.at_ k.fn n h
theorem Aj{y:V}{u:Value}{Q:Unit->Shared->Prop}(I:Inv X J4 σ H s)(e:H a=some (.ins C dx fs))(c:DB X.K C)(n:bP X.K C f)(M:fs.length<1000)(m:RelV y u)
  (h:∀j,Inv X J4 σ (upd H a (.ins C dx (cZ f y fs))) j->Q () j):wpAny (model X.prog X.w) A (setAttr (.ref a) f u) Q E s:=by
 obtain⟨k,O,r,wi,_,l⟩:=sJ I.hok e;have p:(fs.map (·.1)).length<=ak:=by rw[ai,Be];omega
 refine Gf I.kIn O c.sa c.po n.taker c.hd wi p fun t i B=>h _ ?_;have D:∃o,t.get? dx=some o:=let⟨o,_,_,G,_⟩:=i.ns;⟨o,G⟩;refine I.write (x:=a) (e:=dx) (by rw[e];exact ft) (.inr l) (fun b q J z=>(B.2 b J).trans z) D ?_;refine⟨by rw[am O.ne];exact l,?_,O.ne,i.obj,_,i.ns,fun g=>?_,fun g L=>?_⟩
 ·have:=rk f y fs;omega
 ·show iM ((cZ f y fs).lookup g) (if g=f then some u else k g)
  rw[ei];by_cases q:g=f
  ·rw[if_pos q,if_pos q];exact m
  ·rw[if_neg q,if_neg q];exact r g
 ·by_cases q:g=f
  ·rw[q];exact(qD f y fs).1
  ·refine(qD f y fs).2 g (wi g fun z=>L ?_);show(if g=f then some u else k g)=none
   rw[if_neg q];exact z
theorem Inv.made(I:Inv X J4 σ H s):Inv X J4 σ (upd (upd H s.heap.objs.size (.own (s.heap.objs.size+1))) (s.heap.objs.size+1) (.ins C s.heap.objs.size []))
  { s with heap:=(s.heap.push nS).push (qY C s.heap.objs.size) }:=by
 have g:(s.heap.push nS).get? s.heap.objs.size=some nS:=cJ s.heap rfl;have h:((s.heap.push nS).push (qY C s.heap.objs.size)).get? (s.heap.objs.size+1)=some (qY C s.heap.objs.size):=by
  have:=cJ (s.heap.push nS) (o:=qY C s.heap.objs.size) rfl;rwa[iU]at this
 have i:(s.heap.push nS).Ns s.heap.objs.size (fun _=>none):=⟨nS,#[],_,g,rfl,(fun e j=>absurd j (by simp)),fun _=>rfl⟩;have k:=I.laid (a:=s.heap.objs.size) (o:=.own (s.heap.objs.size+1)) (h':=s.heap.push nS) (t':=s.toks) (fun b u q=>aS _ q) (aK _) ⟨_,g⟩;refine k.laid (a:=s.heap.objs.size+1) (o:=.ins C s.heap.objs.size []) (t':=s.toks) (fun b u q=>aS _ q) (Nat.le_of_eq (iU _ _)) ?_;have ne:s.heap.objs.size≠s.heap.objs.size+1:=bM (Nat.lt_succ_self _);refine⟨by rw[am ne,aa],dA _,ne,h,fun _=>none,(Heap.Ns1.of_empty i).at fun o q=>aS _ q,fun _=>ft,fun y l=>absurd rfl l⟩
theorem Cc{g:bq}{w:World}{i:Env}{e:Expr}{f:Str}{k:Pos}{s:Shared}{Q:Zc}(l:sO e f i (eval e i)=eval e i)
  (h:wpAny (model g w) A (eval e i) (fun o j=>wpAny (model g w) A (yh o f true) Q E j) E s):wpAny (model g w) A (eval (.Attribute e f k) i) Q E s :=
 Attribute_any_ h (by rw[arm_eval_Attribute,l])
end
def tO(K:Za)(ta:TE)(f:Str):TE:=fun σ H Q=>ta σ H fun x H1=>∃a C dx fs v,x=.ref a/\H1 a=some (.ins C dx fs)/\DB K C/\bP K C f/\fs.lookup f=some v/\Q v H1
def wZ(K:Za)(ta tv:TE)(f:Str):TS:=fun D σ H=>tv σ H fun y H1=>ta σ H1 fun x H2=>∃a C dx fs,x=.ref a/\H2 a=some (.ins C dx fs)/\DB K C/\bP K C f/\fs.length<1000 /\
 D.nx σ (upd H2 a (.ins C dx (cZ f y fs)))
section
variable{X:Cx}{o e value:Expr}{f:Str}{pos pos' J8:Pos}{ta tv:TE}
theorem jq(i:PE X e ta)(j:sO e f X.env (eval e X.env)=eval e X.env):PE X (.Attribute e f pos) (tO X.K ta f):=by
 intro k s σ H Q I h;refine Cc j (cM (i k s σ H _ I h) fun u z g=>?_);obtain⟨x,m,p,r,a,C,A,fs,v,ex,t,c,n,l,q⟩:=g;subst ex;obtain rfl:u=Value.ref a:=r;exact AJ p t c n l fun B D w y=>⟨v,m,w,y,q⟩
theorem lA(j:PE X o ta)(k:PE X value tv)(m:mz value (some (.Attribute o f pos')) pos.line X.env=pure false):PS X (.Assign [.Attribute o f pos'] value pos) (wZ X.K ta tv f):=by
 intro i s σ H D I h;refine plainObj_wpAny_Assign_Attribute (cM (k i s σ H _ I h) fun u p ⟨y,r,t,v,q⟩=>cM (j i p σ r _ t q) fun w J g=>?_) m;obtain⟨x,L,z,A,a,C,M,fs,ex,B,c,n,l,E⟩:=g;subst ex;obtain rfl:w=Value.ref a:=A;exact Aj z B c n l v fun N G=>⟨σ,_,G,E⟩
end
section
variable{X:Cx}{J4:Zd}{σ:St}{H:Hp}{s:Shared}{A:Around}{E:Zc}{Q:Zc}{c:Value}{b:Bool}
inductive ju(K:Za)(H:Hp):V->Value->Prop where
 |non:ju K H .non (.type "NoneType")
 |bl (x:Bool):ju K H (.bl x) (.type "bool")
 |int (i:Int):ju K H (.int i) (.type "int")
 |str (x:Str):ju K H (.str x) (.type "str")
 |flt (x:UInt64):ju K H (.flt x) (.type "float")
 |lst {a:Addr}{xs:List V}(e:H a=some (.lst xs)):ju K H (.ref a) (.type "list")
 |frz {a:Addr}{o:Obj}{xs:List V}(e:H a=some (.frz o (.lst xs))):ju K H (.ref a) (.type "list")
 |tup {a:Addr}{xs:List V}(e:H a=some (.tup xs)):ju K H (.ref a) (.type "tuple")
 |dK {a:Addr}{kvs:List (fD×V)}(e:H a=some (.dK kvs)):ju K H (.ref a) (.type "dict")
 |dT {a:Addr}{kvs:List (TK×V)}(e:H a=some (.dT kvs)):ju K H (.ref a) (.type "dict")
 |ins {a C dx:Addr}{fs:List (Str×V)}(e:H a=some (.ins C dx fs)) (cl:DB K C) (ha:bB K (.ref C) "__class__"=some (some (.builtin "object.__class__")))
   (hn:Bb K (.builtin "object.__class__") "__get__"=some (some (.builtin "getset_descriptor.__get__"))) (htk:PySem.W.takesIn K (.builtin "object.__class__")=some true)
   (hm:PySem.W.mroIn K C (.type "object")=some true):ju K H (.ref a) (.ref C)
theorem Dd{x:V}{u t:Value}(I:Inv X J4 σ H s)(f:RelV x u)(ty:ju X.K H x t)(e:Ba X.K t c=some b)(h:∀tk,Q (.bool b) { s with toks:=tk }):
  wpAny (model X.prog X.w) A (call (.builtin "isinstance") [u,c]) Q E s:=by
 cases ty with
 |non=>cases(show u=Value.none from f);exact jy PySem.W.kitx_none I.kIn ft e (fun z=>nomatch z) h
 |bl y=>cases(show u=Value.bool y from f);exact jy PySem.W.kitx_bool I.kIn ft e (fun z=>nomatch z) h
 |int i=>obtain⟨t,q⟩:=(show ∃t,u=Value.int i t from f);cases q;exact jy PySem.W.kitx_int I.kIn ft e (fun z=>nomatch z) h
 |str y=>obtain⟨t,q⟩:=(show ∃t,u=Value.str y t from f);cases q;exact jy PySem.W.kitx_str I.kIn ft e (fun z=>nomatch z) h
 |flt y=>obtain⟨t,q⟩:=(show ∃t,u=Value.float y t from f);cases q;exact jy PySem.W.kitx_float I.kIn ft e (fun z=>nomatch z) h
 |@lst a xs g =>
  cases(show u=Value.ref a from f);obtain⟨_,_,n,_,j⟩:=(show bT X.prog X.w X.K H s.heap a (.lst xs)from I.hok a _ g);exact jy PySem.W.kitx_list I.kIn ⟨_,j,rfl⟩ e (fun z=>nomatch z) h
 |@frz a v xs g =>
  cases(show u=Value.ref a from f);obtain⟨_,_,_,n,_,j⟩:=(show bT X.prog X.w X.K H s.heap a (.frz v (.lst xs))from I.hok a _ g);exact jy PySem.W.kitx_list I.kIn ⟨_,j,rfl⟩ e (fun z=>nomatch z) h
 |@tup a xs g =>
  cases(show u=Value.ref a from f);obtain⟨_,_,_,p⟩:=(show bT X.prog X.w X.K H s.heap a (.tup xs)from I.hok a _ g);obtain⟨o,j,l,_⟩:=p;exact jy PySem.W.kitx_tuple I.kIn ⟨o,j,l⟩ e (fun z=>nomatch z) h
 |@dK a k g =>
  cases(show u=Value.ref a from f);obtain⟨_,_,N,_,p⟩:=(show bT X.prog X.w X.K H s.heap a (.dK k)from I.hok a _ g);obtain⟨o,B,D,j,l,_⟩:=p;exact jy PySem.W.kitx_dict I.kIn ⟨o,j,l.1⟩ e (fun z=>nomatch z) h
 |@dT a k g =>
  cases(show u=Value.ref a from f);obtain⟨_,_,xs,_,o,B,D,j,l,_⟩:=(show bT X.prog X.w X.K H s.heap a (.dT k)from I.hok a _ g);exact jy PySem.W.kitx_dict I.kIn ⟨o,j,l.1⟩ e (fun z=>nomatch z) h
 |@ins a C T fs g r G L m M =>
  cases(show u=Value.ref a from f);obtain⟨U,O,_⟩:=sJ I.hok g;obtain⟨Y,J,_⟩:=O.look;exact jy (PySem.W.kitx_own (r.get _) r.hd G L m M) I.kIn J e (fun z=>nomatch z) h
end
end L2
namespace L2
open PySem PySem.Spec PyProof.Rows
structure dF(k:Nat)(A:Around):Prop where
 hd:A.handled=none
 dp:A.depth+3 * k+5<recursionLimit
 un:A.units+16 * k+200<cLine
theorem dF.mono{j k:Nat}{A:Around}(r:dF k A)(h:j<=k):dF j A:=⟨r.hd,by have:=r.dp;omega,by have:=r.un;omega⟩
theorem dF.deeper{k:Nat}{A:Around}(r:dF (k+1) A)(a:Env):dF k (A.deeper a) :=
 ⟨r.hd,by have:=r.dp;show A.depth+1+3 * k+5<_;omega,by have:=r.un;show A.units+3+16 * k+200<_;omega⟩
theorem AD{A:Around}{C:Addr}{a:Zf}{e:List (Str×Value)}:(A.under (.builtin "type.__call__" ⟨.ref C::a,e⟩)).depth=A.depth+1:=by
 first|rfl|simp[Around.under,Code.weight,Code.isCreation,Code.isGuard,Code.isCaller,Code.frames,Code.isFrame,guardIds]
theorem AC{A:Around}{C:Addr}{a:Zf}{e:List (Str×Value)}:(A.under (.builtin "type.__call__" ⟨.ref C::a,e⟩)).units=A.units+1:=by
 first|rfl|simp[Around.under,Code.cUnits,Code.frames,Code.isFrame]
theorem dF.make{k:Nat}{A:Around}(r:dF (k+1) A)(C:Addr)(a:Zf)(e:List (Str×Value)):dF k (A.under (.builtin "type.__call__" ⟨.ref C::a,e⟩)) :=
 ⟨r.hd,by have:=r.dp;rw[AD];omega,by have:=r.un;rw[AC];omega⟩
theorem dF.depth{k:Nat}{A:Around}(r:dF k A):A.depth<recursionLimit:=by have:=r.dp;omega
theorem dF.units{k:Nat}{A:Around}(r:dF k A):A.units+64<cLine:=by have:=r.un;omega
def aN:TA:=fun _ H Q=>Q [] H
def aq(ta:TE)(tr:TA):TA:=fun σ H Q=>ta σ H fun x H1=>tr σ H1 fun xs H2=>Q (x::xs) H2
abbrev au(a:TE):TA:=aq a aN
abbrev aG(a b:TE):TA:=aq a (aq b aN)
abbrev dP(a b c:TE):TA:=aq a (aq b (aq c aN))
section
variable{X:Cx}{e:Expr}{es:List Expr}{te:TE}{t:TA}{pos:Pos}
theorem bf:PA X [] aN:=fun _ _ _ _ H Q I h=>Calls.spliced_nil ⟨[],H,I,.nil,h⟩
theorem aQ(g:PE X e te)(i:PA X es t)(j:ay (e::es) X.env=(false,eval e X.env)::ay es X.env:=by rfl):PA X (e::es) (aq te t):=by
 intro pos f s σ H Q I h;rw[j];show wpAny _ _ (spliced ((false,eval e X.env)::backTo pos (ay es X.env))) _ _ s;refine A_ (cM (g f s σ H _ I h) fun u k a=>?_);obtain⟨x,l,m,n,o⟩:=a;exact cM (i pos f k σ l _ m o) fun w y ⟨xs,p,q,r,v⟩=>⟨x::xs,p,q,.cons n r,v⟩
def ca(t:TA):TE:=fun σ H Q=>t σ H fun xs H1=>xs.length<=ak/\∀p,H1 p=none->Q (.ref p) (upd H1 p (.tup xs))
def bj(t:TA):TE:=fun σ H Q=>t σ H fun xs H1=>xs.length<=ak/\∀p,H1 p=none->Q (.ref p) (upd H1 p (.lst xs))
theorem bc{i}(h:PA X es t):PE X (.Tuple es i pos) (ca t):=by
 intro j s σ H Q I k;refine wpAny_Tuple_spliced (cM (h pos j s σ H _ I k) fun l a ⟨xs,f,g,r,z,q⟩=>⟨by rw[<-r.length];exact z,?_⟩);have hf:f a.heap.objs.size=none:=g.hok.fresh (aK _);refine⟨.ref a.heap.objs.size,upd f a.heap.objs.size (.tup xs),g.laid (t':=a.toks) (fun b u e=>aS _ e) (aK _) ?_,rfl,q _ hf⟩;exact⟨z,l,r,⟨_,cJ _ rfl,rfl,_,rfl⟩⟩
theorem aH(h:PA X es t):PE X (.List es pos) (bj t):=by
 intro i s σ H Q I j;refine wpAny_List_spliced (cM (h pos i s σ H _ I j) fun k a ⟨xs,f,g,r,z,q⟩=>⟨by rw[<-r.length];exact z,?_⟩);have hf:f a.heap.objs.size=none:=g.hok.fresh (aK _);refine⟨.ref a.heap.objs.size,upd f a.heap.objs.size (.lst xs),g.laid (t':=a.toks) (fun b u e=>aS _ e) (aK _) ?_,rfl,q _ hf⟩;exact⟨z,k,0,r,cJ _ rfl⟩
end
abbrev Sp:=List V->Hp->VK->XK->Prop
abbrev DC:=List Env->Hp->Shared->XK->Value->Shared->Prop
structure A8(P:bq)(w:World)(K:Za)(mg:Str->Option Value)(base:Heap)(A:Around)(outer:List Env)(s:Shared)(H:Hp):Prop where
 frames:A.frames=some outer
 mod:Mod K mg base
 bs:∀b o,base.get? b=some o->s.heap.get? b=some o/\H b=none
 bsz:base.objs.size<=s.heap.objs.size
 funs:s.heap.FunFrames base outer
 frf:∀b∈uN outer,H b=none
 hok:kg P w K H s.heap
 bare:mB s.gens
def CE(outer:List Env)(P:bq)(w:World)(K:Za)(H:Hp)(s:Shared)(Q:VK)(u:Value)(s':Shared):Prop :=
 ∃v H',s'.os=s.os/\mB s'.gens/\Un (uN outer) [] H H' s.heap s'.heap/\kg P w K H' s'.heap/\RelV v u/\Q v H'
def CR(CX:DC)(outer:List Env)(P:bq)(w:World)(K:Za)(H:Hp)(s:Shared)(Q:VK)(E:XK)(r:Result)(s':Shared):Prop :=
 match r with
 |.ok (.ret u)=>CE outer P w K H s Q u s'
 |.ok _=>False
 |.error e=>CX outer H s E e s'
structure iN(P:bq)(w:World)(K:Za)(mg:Str->Option Value)(base:Heap)(CX:DC)(k:Nat)(f:Addr)(fd:hV)(ps:Zb)(sp:Sp):Prop where
 len:∀vs H Q E,sp vs H Q E->vs.length=ps.length
 run:∀(A:Around) (outer:List Env) (s:Shared) (H:Hp) (args:Args) (us:Zf) (vs:List V) (Q:VK) (E:XK),dF k A->A8 P w K mg base A outer s H->mV s fd args (ps.zip us)->bp vs us->sp vs H Q E ->
  zzl86 (model P w) A (.call (.ref f) args) (CR CX outer P w K H s Q E) s
theorem A8.make{P:bq}{w:World}{K:Za}{a:Str->Option Value}{base:Heap}{A:Around}{outer:List Env}{s:Shared}{H:Hp}(e:A8 P w K a base A outer s H)(C:Addr)(f:Zf)(g:List (Str×Value)):
  A8 P w K a base (A.under (.builtin "type.__call__" ⟨.ref C::f,g⟩)) outer s H:=⟨by first|exact e.frames|(simpa[Around.under,Code.envs,Code.isFrame,pushEnvs]using e.frames),e.mod,e.bs,e.bsz,e.funs,e.frf,e.hok,e.bare⟩
section
variable{X:Cx}{J4:Zd}{σ:St}{H:Hp}{s s':Shared}
theorem Inv.env0(I:Inv X J4 σ H s):A8 X.prog X.w X.K X.mg X.base X.A X.stack s H :=
 ⟨I.ok.frames,I.ok.mod,I.bs,bW I.ok.bsz I.sz,I.stack,I.stkFree,I.hok,I.bare⟩
theorem Inv.after{Q:VK}{u:Value}(I:Inv X J4 σ H s)(h:CE X.stack X.prog X.w X.K H s Q u s'):EP X J4 σ Q u s':=by
 obtain⟨v,i,os,a,un,e,r,q⟩:=h;obtain⟨j,g,d,t,f⟩:=s';obtain rfl:f=s.os:=os;exact⟨v,i,I.call (h':=j) (g':=g) (d':=d) (t':=t) (ch:=[]) un e a (fun b z=>absurd z (by simp)),r,q⟩
end
def q_(sp:Sp)(dvs:List V)(E:XK)(t:TA):TE:=fun σ H Q=>t σ H fun vs H1=>sp (vs++dvs) H1 Q E
def bF(C:Addr)(m:Str)(sp:Sp)(dvs:List V)(E:XK)(ta:TE)(t:TA):TE:=fun σ H Q=>ta σ H fun x H1=>∃a dx fs,x=.ref a/\H1 a=some (.ins C dx fs)/\fs.lookup m=none /\
 t σ H1 fun vs H2=>sp (x::(vs++dvs)) H2 Q E
def BD(C:Addr)(sp:Sp)(dvs:List V)(E:XK)(t:TA):TE:=fun σ H Q=>t σ H fun vs H1=>∀x dx,H1 x=none->H1 dx=none->dx≠x ->
 sp (.ref x::(vs++dvs)) (upd (upd H1 dx (.own x)) x (.ins C dx [])) (fun v H2=>v=.non/\Q (.ref x) H2) E
def Binds(K:Za)(fd:hV)(ps:Zb)(ds:Zf):Prop :=
 ∀(s:Shared) (us:Zf),K.In s.heap->(us++ds).length=ps.length->mV s fd ⟨us,[]⟩ (ps.zip (us++ds))
theorem Binds.all{K:Za}{f:hV}{e:Zb}(h:∀a:List Value,a.length=e.length->bindArgs f ⟨a,[]⟩=pure (e.zip a)):Binds K f e []:=fun s a _ g=>by
 rw[dO]at g ⊢;exact .of_eq (h a g)
def nI(CX:DC)(X:Cx)(E:XK):Prop:=∀(J4:Zd) (σ:St) (H:Hp) (s:Shared) (e:Value) (s':Shared),Inv X J4 σ H s->CX X.stack H s E e s'->X.xe e s'
section
variable{X:Cx}{CX:DC}{k:Nat}{f C:Addr}{fd:hV}{ps:Zb}{sp:Sp}{dvs:List V}{ds:Zf}{E:XK}{x m:Str}{p pos J6:Pos}{e o:Expr}{es:List Expr}{ta:TE}{t:TA}
theorem Al{g:Zd}{σ:St}{H:Hp}{s:Shared}{Q:VK}{us:Zf}{vs:List V}(F:iN X.prog X.w X.K X.mg X.base CX k f fd ps sp)(j:dF k X.A)(l:Binds X.K fd ps ds)(n:bp dvs ds)(hx:nI CX X E)
  (I:Inv X g σ H s) (r:bp vs us) (h:sp (vs++dvs) H Q E):wpAny (model X.prog X.w) X.A (call (.ref f) us) (EP X g σ Q) X.xe s:=by
 have i:bp (vs++dvs) (us++ds):=r.append n;have q:(us++ds).length=ps.length:=by rw[<-i.length];exact F.len _ _ _ _ h
 refine kW (pT (F.run X.A X.stack s H ⟨us,[]⟩ (us++ds) (vs++dvs) Q E j I.env0 (l s us I.kIn q) i h) fun r v a=>?_);cases r with
 |error e=>exact hx g σ H s e v I a
 |ok y =>
  cases y with
  |ret u=>exact I.after a
  |next=>exact da a
  |brk=>exact da a
  |cont=>exact da a
theorem GA(F:iN X.prog X.w X.K X.mg X.base CX k f fd ps sp)(j:dF k X.A)(l:Gl X x)(n:X.mg x=some (.ref f))(u:ee X.K (.ref f)=true)(v:Binds X.K fd ps ds)(y:bp dvs ds)(hx:nI CX X E)
  (z:PA X (e::es) t) (a:(x==("__debug__":Str))=false:=by decide) (B:ay (e::es) X.env=(false,eval e X.env)::ay es X.env:=by rfl) (g:(backTo pos (ay es X.env)).any (·.1)=false:=by rfl) :
  PE X (.Call (.Name x p) (e::es) [] pos) (q_ sp dvs E t):=by
 intro D s σ H Q I h;refine mU (ie I l n ?_ a);refine pS (h₀:=X.base) I.ok.mod.kin u (cM (z pos D s σ H _ I h) fun G J ⟨L,M,i,r,q⟩=>⟨i.kIn,?_⟩) B g;exact Al F j v y hx i r q
theorem Gw{pl:Sem Bool}(D:PE X o ta)(c:DB X.K C)(n:GY X.K C m f)(F:iN X.prog X.w X.K X.mg X.base CX k f fd ps sp)(G:dF k X.A)(J:Binds X.K fd ps ds)(L:bp dvs ds)(hx:nI CX X E)(M:PA X (e::es) t)
  (g:ay (e::es) X.env=(false,eval e X.env)::ay es X.env:=by rfl) (i:(backTo pos (ay es X.env)).any (·.1)=false:=by rfl)
  (N:eval (.Call (.Attribute o m J6) (e::es) [] pos) X.env=(do
   let v <- eval o X.env
   nV J6.atName
   let(f,first) <- jz [v] (nU v m pl)
   mT pos f first (backTo pos (ay (e::es) X.env)) (jX pos (jW [] X.env))):=by rfl) :
  PE X (.Call (.Attribute o m J6) (e::es) [] pos) (bF C m sp dvs E ta t):=by
 intro y s σ H Q I h;refine PySem.W.methodCall_KW (pl:=pl) (cM (D y s σ H _ I h) fun u O j=>?_) N;obtain⟨x,T,z,U,a,dx,fs,ex,Y,l,q⟩:=j;subst ex;obtain rfl:u=Value.ref a:=U;refine uk z Y c n l ?_;refine pS (first:=[.ref a]) (h₀:=X.base) I.ok.mod.kin n.kp (cM (M pos y O σ T _ z q) fun us s2 ⟨vs,H2,B,r,q2⟩=>⟨B.kIn,?_⟩) g i
 exact Al (us:=.ref a::us) (vs:=.ref a::vs) F G J L hx B (.cons rfl r) q2
theorem ER{pl:Sem Bool}(r:PE X o ta)(c:DB X.K C)(j:GY X.K C m f)(F:iN X.prog X.w X.K X.mg X.base CX k f fd ps sp)(v:dF k X.A)(y:Binds X.K fd ps ds)(z:bp dvs ds)(hx:nI CX X E)
  (B:eval (.Call (.Attribute o m J6) [] [] pos) X.env=(do
   let n <- eval o X.env
   nV J6.atName
   let(f,first) <- jz [n] (nU n m pl)
   mT pos f first (backTo pos (ay [] X.env)) (jX pos (jW [] X.env))):=by rfl) :
  PE X (.Call (.Attribute o m J6) [] [] pos) (bF C m sp dvs E ta aN):=by
 intro D s σ H Q I h;refine PySem.W.methodCall_KW (pl:=pl) (cM (r D s σ H _ I h) fun u L g=>?_) B;obtain⟨x,M,i,G,a,N,fs,ex,J,l,q⟩:=g;subst ex;obtain rfl:u=Value.ref a:=G;refine uk i J c j l ?_;exact PySem.W.callWith_K0 (first:=[.ref a]) i.kIn j.kp (Al (us:=[.ref a]) (vs:=[.ref a]) F v y z hx i (.cons rfl .nil) q)
structure Mk(K:Za)(C f:Addr):Prop where
 makes:yg K C=true
 init:bB K (.ref C) "__init__"=some (some (.ref f))
 fn:qU K (.ref f)=true
 kp:ee K (.ref C)=true
theorem Ek{l:Zd}{σ:St}{H:Hp}{s:Shared}{Q:VK}{g:Zf}{n:List V}(M:Mk X.K C f)(F:iN X.prog X.w X.K X.mg X.base CX k f fd ps sp)(z:dF (k+1) X.A)(B:Binds X.K fd ps ds)(D:bp dvs ds)
  (hx:nI CX X E) (I:Inv X l σ H s) (r:bp n g)
  (h:∀x i,H x=none->H i=none->i≠x->sp (.ref x::(n++dvs)) (upd (upd H i (.own x)) x (.ins C i [])) (fun v G=>v=.non/\Q (.ref x) G) E) :
  wpAny (model X.prog X.w) X.A (call (.ref C) g) (EP X l σ Q) X.xe s:=by
 have q:=h (s.heap.objs.size+1) s.heap.objs.size (I.hok.fresh (jk _)) (I.hok.fresh (aK _)) (bM (Nat.lt_succ_self _));have j:=Inv.made (C:=C) I;have y:bp (V.ref (s.heap.objs.size+1)::(n++dvs)) (Value.ref (s.heap.objs.size+1)::(g++ds)):=.cons rfl (r.append D);have J:(Value.ref (s.heap.objs.size+1)::g++ds).length=ps.length:=by
  have e:=y.length;rw[F.len _ _ _ _ q]at e;exact e.symm
 refine kW (Fb (f:=f) I.kIn M.makes M.init (beq_iff_eq.mp M.fn) (pT (F.run _ X.stack _ _ ⟨Value.ref (s.heap.objs.size+1)::g,[]⟩ (Value.ref (s.heap.objs.size+1)::(g++ds)) _ _ E (z.make C g [])
  (j.env0.make C g []) (B _ (Value.ref (s.heap.objs.size+1)::g) j.kIn J) y q) fun r L a=>?_))
 cases r with
 |error e=>exact hx l σ _ _ e L j a
 |ok N =>
  cases N with
  |ret u =>
   obtain⟨v,O,T,U,Y,q3⟩:=j.after a;subst Y;exact⟨U,⟨V.ref (s.heap.objs.size+1),O,T,rfl,q3⟩⟩
  |next=>exact da a
  |brk=>exact da a
  |cont=>exact da a
theorem Gx(M:Mk X.K C f)(F:iN X.prog X.w X.K X.mg X.base CX k f fd ps sp)(j:dF (k+1) X.A)(l:Gl X x)(n:X.mg x=some (.ref C))(u:Binds X.K fd ps ds)(v:bp dvs ds)(hx:nI CX X E)
  (y:PA X (e::es) t) (a:(x==("__debug__":Str))=false:=by decide) (z:ay (e::es) X.env=(false,eval e X.env)::ay es X.env:=by rfl) (g:(backTo pos (ay es X.env)).any (·.1)=false:=by rfl) :
  PE X (.Call (.Name x p) (e::es) [] pos) (BD C sp dvs E t):=by
 intro B s σ H Q I h;refine mU (ie I l n ?_ a);refine pS (h₀:=X.base) I.ok.mod.kin M.kp (cM (y pos B s σ H _ I h) fun D G ⟨J,L,i,r,q⟩=>⟨i.kIn,?_⟩) z g;exact Ek M F j u v hx i r q
end
structure gG(N P:Zb)(sc:Scope):Prop where
 kind:sc.kind=.function
 co:sc.isCoroutine=false
 gen:sc.isGenerator=false
 nd:N.Nodup
 pre:N.take P.length=P
 par:∀x∈P,sc.names.lookup x=some .local∨sc.names.lookup x=some .cell
 nofree:∀y∈sc.names,y.2≠.free
theorem vS{kindOf:Str->Option f_}{x:Str}:∀{binds:List (Str×Value)}{m:Str->Option Value},(∀v,(x,v)∉binds)->bindL kindOf binds m x=m x
 |[],_,_=>rfl
 | (n,v)::r,m,h=>by
  unfold bindL;rw[vS fun w a=>h w (eU _ a)];split
  ·have:x≠n:=by rintro rfl;exact h v eL
   simp[this]
  ·rfl
theorem vU{kindOf:Str->Option f_}{x:Str}:∀{binds:List (Str×Value)}{m:Str->Option Value},(∀v,(x,v)∉binds)->bindC kindOf binds m x=m x
 |[],_,_=>rfl
 | (n,v)::r,m,h=>by
  unfold bindC;rw[vU fun w a=>h w (eU _ a)];split
  ·rfl
  ·have:x≠n:=by rintro rfl;exact h v eL
   simp[this]
theorem vT{kindOf:Str->Option f_}{x:Str}{v:Value}:∀{P:Zb}{a:Zf}{i:Nat}{m:Str->Option Value},P.Nodup->P[i]?=some x->a[i]?=some v->kindOf x=some .local ->
  bindL kindOf (P.zip a) m x=some v
 |[],_,_,_,_,h,_,_=>by simp at h
 |_::_,[],_,_,_,_,h,_=>by simp at h
 |p::P,w::a,0,m,g,e,f,j=>by
  simp at e f;subst e;subst f;show bindL kindOf ((p,w)::P.zip a) m p=_;unfold bindL;rw[vS fun v k=>(iF.mp g).1 (List.of_mem_zip k).1,if_pos j];simp
 |p::P,w::a,i+1,m,g,e,f,j=>by
  show bindL kindOf ((p,w)::P.zip a) m x=_;unfold bindL;exact vT (i:=i) (iF.mp g).2 (by simpa using e) (by simpa using f) j
theorem vV{kindOf:Str->Option f_}{x:Str}{v:Value}:∀{P:Zb}{a:Zf}{i:Nat}{m:Str->Option Value},P.Nodup->P[i]?=some x->a[i]?=some v->kindOf x≠some .local ->
  bindC kindOf (P.zip a) m x=some v
 |[],_,_,_,_,h,_,_=>by simp at h
 |_::_,[],_,_,_,_,h,_=>by simp at h
 |p::P,w::a,0,m,g,e,f,j=>by
  simp at e f;subst e;subst f;show bindC kindOf ((p,w)::P.zip a) m p=_;unfold bindC;rw[vU fun v k=>(iF.mp g).1 (List.of_mem_zip k).1,if_neg j];simp
 |p::P,w::a,i+1,m,g,e,f,j=>by
  show bindC kindOf ((p,w)::P.zip a) m x=_;unfold bindC;exact vV (i:=i) (iF.mp g).2 (by simpa using e) (by simpa using f) j
def start(N:Zb)(vs:List V):St:=vs.map some++jV (N.length-vs.length) none
def u_(CX:DC)(P:bq)(w:World)(K:Za)(mg:Str->Option Value)(base:Heap)(N:Zb)(qual:Str)(scope:Scope)(f:Addr)(cd:Value)(A:Around)(outer:List Env)(s:Shared)(H:Hp)(E:XK):Cx where
 prog:=P
 w:=w
 K:=K
 mg:=mg
 base:=base
 A:=A.deeper (envOfC qual scope s.heap.objs.size f cd)
 N:=N
 s₀:=s
 H₀:=H
 env:=envOfC qual scope s.heap.objs.size f cd
 outer:=outer
 stack:=envOfC qual scope s.heap.objs.size f cd::outer
 ex:=[]
 calm:=true
 fn:=fun _=>true
 pn:=[]
 xe:=fun e s'=>wpAny (model P w) (A.deeper (envOfC qual scope s.heap.objs.size f cd)) (leaving (envOfC qual scope s.heap.objs.size f cd) e) (fun _ s''=>CX outer H s E e s'') (fun e' s''=>CX outer H s E e' s'') s'
theorem zm{a:Scope}{n:Nat}{x:Str}(h:a.names.lookup x=some .cell):∃c,(cellsFrom n a.names []).lookup x=some c:=by
 have q:=PySem.W.cellsFrom_some a.names n [] (.inl h);exact wI.mp q
theorem Df{J:DC}{P:bq}{w:World}{K:Za}{G:Str->Option Value}{base:Heap}{N m:Zb}{g:Str}{scope:Scope}{f:Addr}{cd:Value}{A:Around}{outer:List Env}{s L:Shared}{H:Hp}{E:XK}{I:Zf}{o:List V}
  (S:gG N m scope) (Q:A.handled=none) (l:A8 P w K G base A outer s H) (hl:o.length=m.length) (r:bp o I)
  (x:InCallC s s.heap.objs.size (bindL (envOfC g scope s.heap.objs.size f cd).kindOf (m.zip I) fun _=>none) (cellsFrom (s.heap.objs.size+1) scope.names []) (bindC (envOfC g scope s.heap.objs.size f cd).kindOf (m.zip I) fun _=>none) L) :
  Inv (u_ J P w K G base N g scope f cd A outer s H E) [] (start N o) H L:=by
 have T:m.length<=N.length:=by have:=congrArg List.length S.pre;rw[aY]at this;omega
 obtain⟨D,tk,rfl,M⟩:=x.done;have t:∀b:Addr,b∉(u_ J P w K G base N g scope f cd A outer s H E).ex:=fun b z=>absurd (show b∈([]:Ze)from z) (by simp);refine⟨⟨l.mod,S.kind,rfl,rfl,aK _,fun y z c D j=>?_,fun y hy=>?_,fun y c _ h=>?_,fun _=>Q,Around.frames_deeper l.frames,.inr ⟨rfl,rfl⟩,fun b z=>absurd z (t b),l.bs,l.bsz,fun b _ _=>t b,fun b z=>absurd z (t b),l.funs,l.frf⟩,
  rfl,l.bare,Un.kept M,⟨_,x.toInCall.ns,fun i y v D j h3=>?_⟩,fun y c h=>⟨_,x.cell y c h⟩,l.hok.fresh (aK _),fun y c h=>?_,fun p B=>absurd (show p∈([]:Zd)from B) (by simp),l.hok.kept M,?_⟩
 ·exact name_of_addr x.apart (pR D) (pR j)
 ·have hy:scope.names.lookup y=some .cell∨scope.names.lookup y=some .free:=hy;rcases hy with hy|hy
  ·exact zm hy
  ·exact absurd rfl (S.nofree _ (pR hy))
 ·exact cy (x.above y c (pR h))
 ·have hi:i<o.length:=by
   unfold start at j;by_cases hi:i<o.length
   ·exact hi
   ·rw[wH (by simpa using hi)]at j;rw[List.getElem?_replicate]at j;split at j<;>cases j
  have U:o[i]?=some v:=by
   unfold start at j;rw[pQ (by simpa using hi),cH]at j;cases e:o[i]? with
   |none=>rw[e]at j;cases j
   |some a=>rw[e]at j;cases j;rfl
  obtain⟨u,O,Y⟩:=r.get U;have B:m[i]?=some y:=by
   rw[<-S.pre,mS (by omega)];exact D
  have C:m.Nodup:=by rw[<-S.pre];exact S.nd.sublist (List.take_sublist _ _)
  refine⟨u,Y,?_⟩;rcases S.par y (cp B)with k|k
  ·exact .inl ⟨k,vT C B O k⟩
  ·obtain⟨c,e⟩:=zm (n:=s.heap.objs.size+1) k;refine .inr ⟨.inl k,c,e,?_⟩;have q:=x.cell y c e;rw[vV C B O (by show scope.names.lookup y≠_;rw[k];decide)]at q;exact q
 ·exact l.hok.fresh (cy (x.above y c (pR h)))
 ·unfold start;show _=N.length;rw[aV,ai,List.length_replicate];omega
theorem Hi{D:DC}{P:bq}{w:World}{K:Za}{G:Str->Option Value}{base:Heap}{k:Nat}{f:Addr}{name a:Str}{params:Arguments}{h:List Stmt}{scope:Scope}{dV kV doc pm g ct oc:Value}{an od:Option Addr}
  {L:Array (Option Value)}{N ps:Zb}{M:Sp}(lk:K.lookup f=some ⟨oc,od,.func (iE name a params h scope dV kV doc pm an g ct),L⟩) (O:mR K g a=true) (S:gG N ps scope)
  (len:∀i H Q E,M i H Q E->i.length=ps.length)
  (j:∀(A:Around) (outer:List Env) (s:Shared) (H:Hp) (i:List V) (Q:VK) (E:XK),dF k (A.deeper (envOfC a scope s.heap.objs.size f g))->M i H Q E ->
   ∃t,vW (u_ D P w K G base N a scope f g A outer s H E) h t/\t (bQ Q) (start N i) H) :
  iN P w K G base D (k+1) f (iE name a params h scope dV kV doc pm an g ct) ps M:=by
 refine⟨len,fun A outer s H args us i Q E T z hb r B=>?_⟩;have hl:=len _ _ _ _ B;have KX:K.In s.heap:=z.mod.kin.keeps fun b o e=>(z.bs b o e).1;have U:s.heap.NoLimit:=z.mod.nolimit.keeps fun b o e=>(z.bs b o e).1;have l:∀y∈ps.zip us,scope.names.lookup y.1=some .local∨(scope.names.lookup y.1=some .cell/\((cellsFrom (s.heap.objs.size+1) scope.names []).lookup y.1).isSome=true):=fun⟨n,v⟩ hy=>by
  rcases S.par n (List.of_mem_zip hy).1 with q|q
  ·exact .inl q
  ·exact .inr ⟨q,PySem.W.cellsFrom_some _ _ _ (.inl q)⟩
 refine codeAny_call_function T.depth (KX _ _ lk) rfl S.co S.gen rfl (PySem.W.codeRec_of KX O) (hb _ _ _ _ ?_);refine wpAny_newFunctionEnv_cells S.kind l fun ab he s1 x=>?_;subst he;refine⟨U.keeps x.toInCall.keep,codeAny_func ?_⟩;obtain⟨t,ht,hq⟩:=j A outer s H i Q E (T.deeper _) B;have I:Inv (u_ D P w K G base N a scope f g A outer s H E) [] (start N i) H s1:=Df S T.hd z hl r x;refine dz (ht [] s1 (start N i) H _ I hq) (fun fl Y m=>?_) fun e Y m=>m;have C:∀{σ':St}{p:Hp}{v:V}{u:Value},Inv (u_ D P w K G base N a scope f g A outer s H E) [] σ' p Y->RelV v u->Q v p->CE outer P w K H s Q u Y :=
  fun{σ' p v u} J rv q=>⟨v,p,J.os,J.bare,J.base,J.hok,rv,q⟩
 cases fl with
 |ret u =>
  obtain⟨v,σ',p,J,rv,q⟩:=m;exact C J rv q
 |next =>
  obtain⟨σ',p,J,q⟩:=m;exact C (v:=V.non) (u:=Value.none) J rfl q
 |brk =>
  obtain⟨_,_,_,q⟩:=m;exact da q
 |cont =>
  obtain⟨_,_,_,q⟩:=m;exact da q
end L2
namespace L2
open PySem PySem.Spec PyProof.Rows
section
variable{X:Cx}{x:Str}{p pos:Pos}{e:Expr}{es:List Expr}{t:TA}{id T:String}{r:List V->Hp->VK->Prop}
def cU(r:List V->Hp->VK->Prop)(t:TA):TE:=fun σ H Q=>t σ H fun vs H1=>r vs H1 Q
theorem yW(i:fU X (.builtin id) r)(j:Gl X x)(k:X.mg x=none)(l:iV x=some (.builtin id))(m:PA X (e::es) t)(n:x≠"__name__":=by decide)(a:(x==("__debug__":Str))=false:=by decide)
  (o:ay (e::es) X.env=(false,eval e X.env)::ay es X.env:=by rfl) (f:(backTo pos (ay es X.env)).any (·.1)=false:=by rfl):PE X (.Call (.Name x p) (e::es) [] pos) (cU r t):=by
 intro g s σ H Q I h;refine mU (nj I j k l ?_ n a);exact PyProof.Rows.callWith_builtin1 (cM (m pos g s σ H _ I h) fun q u ⟨v,w,y,z,A⟩=>i g u σ w v q Q y z A) o f
theorem qp(i:fU X (.type T) r)(j:Gl X x)(k:X.mg x=none)(l:iV x=some (.type T))(m:PA X (e::es) t)(n:x≠"__name__":=by decide)(a:(x==("__debug__":Str))=false:=by decide)
  (o:ay (e::es) X.env=(false,eval e X.env)::ay es X.env:=by rfl) (f:(backTo pos (ay es X.env)).any (·.1)=false:=by rfl):PE X (.Call (.Name x p) (e::es) [] pos) (cU r t):=by
 intro g s σ H Q I h;refine mU (nj I j k l ?_ n a);exact yk (cM (m pos g s σ H _ I h) fun q u ⟨v,w,y,z,A⟩=>i g u σ w v q Q y z A) o f
end
end L2
namespace HT
open PySem PyProof.Rows
section
variable{prog:bq}{w:World}{A:Around}{E:Zc}{s:Shared}
def sIx(n d:Nat):Option Int->Nat
 |none=>d
 |some v=>if v<0 then(v+(n:Int)).toNat else min v.toNat n
theorem sIx_none(n d:Nat):sIx n d none=d:=rfl
theorem sIx_nat(n d k:Nat):sIx n d (some (k:Int))=min k n:=by
 show(if(k:Int)<0 then((k:Int)+(n:Int)).toNat else min (k:Int).toNat n)=min k n
 rw[if_neg (by omega),ji]
theorem sIx_le(n d:Nat)(e:d<=n)(o:Option Int):sIx n d o<=n:=by
 cases o with
 |none=>exact e
 |some v =>
  show(if v<0 then(v+(n:Int)).toNat else min v.toNat n)<=n
  by_cases a:v<0
  ·rw[if_pos a];omega
  ·rw[if_neg a];exact Nat.min_le_right _ _
theorem clip_eq(v:Int)(n d:Nat):(if v<0 then max (v+(n:Int)) 0 else min v (n:Int))=((sIx n d (some v):Nat):Int):=by
 show(if v<0 then max (v+(n:Int)) 0 else min v (n:Int))=(((if v<0 then(v+(n:Int)).toNat else min v.toNat n):Nat):Int)
 by_cases a:v<0
 ·simp only[if_pos a];omega
 ·simp only[if_neg a];omega
end
end HT
namespace L2
open PySem PySem.Spec PyProof.Rows
abbrev TO:=St->Hp->(Option Int->Hp->Prop)->Prop
def PO(X:Cx)(e:Option Expr)(t:TO):Prop :=
 ∀(J4:Zd) (s:Shared) (σ:St) (H:Hp) (Q:Option Int->Hp->Prop),Inv X J4 σ H s->t σ H Q ->
  wpAny (model X.prog X.w) X.A (evalPart e X.env) (fun u s'=>∃o H',Inv X J4 σ H' s'/\IsPart u o/\Q o H') X.xe s
def iW:TO:=fun _ H Q=>Q none H
def mF(t:TE):TO:=fun σ H Q=>t σ H fun x H1=>∃i,x=.int i/\Q (some i) H1
section
variable{X:Cx}{e:Expr}{te:TE}{lo hi:Option Expr}{tl th:TO}{pos p2:Pos}
theorem j8:PO X none iW:=by
 intro a s σ H Q I h;rw[evalPart_none];exact aw ⟨none,H,I,.none,h⟩
theorem ic(h:PE X e te):PO X (some e) (mF te):=by
 intro f s σ H Q I g;rw[evalPart_some];refine cM (h f s σ H _ I g) fun u n a=>?_;obtain⟨x,j,k,l,m⟩:=a;obtain⟨i,rfl,q⟩:=m;obtain⟨t,rfl⟩:=l;exact⟨some i,j,k,.int i t,q⟩
def SlR(X:Cx)(r:V->Option Int->Option Int->Hp->VK->Prop):Prop :=
 ∀(J4:Zd) (s:Shared) (σ:St) (H:Hp) (x:V) (v vl vu:Value) (lo hi:Option Int) (sl:Addr) (Q:VK),Inv X J4 σ H s->RelV x v->s.heap.IsSliceOf sl vl vu .none->IsPart vl lo->IsPart vu hi->r x lo hi H Q ->
  ∃T id,jU (.type T) "__getitem__"=pure (some (.builtin id))/\s.TypeIs v T/\wpAny (model X.prog X.w) X.A (mQ v (.ref sl)) (EP X J4 σ Q) X.xe s
def F_(r:V->Option Int->Option Int->Hp->VK->Prop)(te:TE)(tl th:TO):TE:=fun σ H Q=>te σ H fun x H1=>tl σ H1 fun l H2=>th σ H2 fun u H3=>r x l u H3 Q
theorem gQ{r:V->Option Int->Option Int->Hp->VK->Prop}(m:SlR X r)(n:PE X e te)(o:PO X lo tl)(p:PO X hi th):PE X (.Subscript e (.Slice lo hi none p2) pos) (F_ r te tl th):=by
 intro g s σ H Q I h;refine Subscript_ (cM (n g s σ H _ I h) fun v t f=>?_);obtain⟨x,y,z,B,C⟩:=f;refine wpAny_Slice (cM (o g t σ y _ z C) fun i D ⟨l,E,G,J,L⟩=>cM (p g D σ E _ G L) fun j a f=>?_);obtain⟨u,k,M,N,O⟩:=f;rw[evalPart_none];refine aw ?_;have U:Inv X g σ k { a with heap:=a.heap.push { cls:=.type "slice",data:=.fields #[i,j,.none] } }:=M.kept (t':=a.toks) fun b ob q=>aS _ q;obtain⟨T,id,Y,ht,hg⟩:=m g { a with heap:=a.heap.push { cls:=.type "slice",data:=.fields #[i,j,.none] } } σ k x v i j l u a.heap.objs.size Q U B (Heap.IsSliceOf.new ..) J N O;show wpAny (model X.prog X.w) X.A (subscriptTail e (.Slice lo hi none p2) v (.ref a.heap.objs.size)) (EP X g σ Q) X.xe { a with heap:=a.heap.push { cls:=.type "slice",data:=.fields #[i,j,.none] } };exact tail_any (ops:=[.ref a.heap.objs.size,v]) ht Y hg (by with_unfolding_all rfl)
def kJ(xs:List V)(lo hi:Option Int):List V:=(xs.drop (HT.sIx xs.length 0 lo)).take (HT.sIx xs.length xs.length hi-HT.sIx xs.length 0 lo)
theorem zj(xs:List V)(lo hi:Option Int):(kJ xs lo hi).length<=xs.length:=by
 unfold kJ;rw[aY,jh];omega
end
end L2
namespace L2
open PySem PySem.Spec PyProof.Rows
def Hh(n:Nat)(i:Int):Option Nat:=if 0<=i then(if i<n then some i.toNat else none)else if -(n:Int)<=i then some (i+n).toNat else none
def xR{α:Type}(xs:List α)(i:Int):Option α:=(Hh xs.length i).bind fun j=>xs[j]?
theorem BV{n:Nat}{i:Int}{j:Nat}(h:Hh n i=some j):seqIndex? i n=some j/\j<n/\-(n:Int)<=i/\i<n:=by
 unfold Hh at h;by_cases f:0<=i
 ·rw[if_pos f]at h;by_cases a:i<n
  ·rw[if_pos a]at h;have e:i.toNat=j:=eM h;exact⟨by rw[seqIndex_of f a,e],by omega,by omega,a⟩
  ·rw[if_neg a]at h;cases h
 ·rw[if_neg f]at h;by_cases a:-(n:Int)<=i
  ·rw[if_pos a]at h;have e:(i+n).toNat=j:=eM h;exact⟨by rw[seqIndex_neg (by omega) a,e],by omega,a,by omega⟩
  ·rw[if_neg a]at h;cases h
theorem xQ{α:Type}{xs:List α}{i:Int}{v:α}(h:xR xs i=some v):∃j,seqIndex? i xs.length=some j/\xs[j]?=some v/\j<xs.length/\-(xs.length:Int)<=i/\i<xs.length:=by
 unfold xR at h;cases e:Hh xs.length i with
 |none=>rw[e]at h;cases h
 |some j =>
  rw[e]at h;obtain⟨a,f,g,k⟩:=BV e;exact⟨j,a,h,f,g,k⟩
theorem cT{α:Type}{xs:List α}{j:Nat}{v:α}(h:xs[j]?=some v):xR xs (j:Int)=some v:=by
 have a:j<xs.length:=(bG.mp h).1;have e:Hh xs.length (j:Int)=some j:=by
  unfold Hh;rw[if_pos (by omega),if_pos (by omega)];simp
 unfold xR;rw[e];exact h
def GV(b:Expr):Prop:=∀o i,wG b false o i=operate [o,i] (mQ o i)
def GZ(X:Cx)(r:R2):Prop :=
 ∀(value slice:Expr) (J4:Zd) (s:Shared) (σ:St) (H:Hp) (x y:V) (v u:Value) (Q:VK),Inv X J4 σ H s->RelV x v->RelV y u->r x y H Q ->
  wG slice false v u=operate [v,u] (mQ v u)->wpAny (model X.prog X.w) X.A (subscriptTail value slice v u) (EP X J4 σ Q) X.xe s
def MtR(X:Cx)(id:String)(r:V->List V->Hp->VK->Prop):Prop :=
 ∀(J4:Zd) (s:Shared) (σ:St) (H:Hp) (x:V) (xs:List V) (v:Value) (us:Zf) (Q:VK),Inv X J4 σ H s->RelV x v->bp xs us->r x xs H Q ->
  wpAny (model X.prog X.w) X.A (call (.builtin id) (v::us)) (EP X J4 σ Q) X.xe s
section
variable{X:Cx}{a b:Expr}{ta tb:TE}{pos:Pos}
theorem GZ.or{r e:R2}(h:GZ X r)(k:GZ X e):GZ X (fun x y H Q=>r x y H Q∨e x y H Q):=by
 intro value slice f s σ H x y v u Q I g i q j;rcases q with q|q
 ·exact h value slice f s σ H x y v u Q I g i q j
 ·exact k value slice f s σ H x y v u Q I g i q j
theorem BN{r:R2}(e:GZ X r)(f:PE X a ta)(g:PE X b tb)(i:GV b):PE X (.Subscript a b pos) (aE r ta tb):=by
 intro j s σ H Q I h;exact Subscript_ (Ic f g I h fun v u k x y l m n o q=>e a b j k σ l x y v u Q m n o q (i _ _))
def cj(K:Za):R2:=fun x y H Q=>∃p xs i v,x=.ref p/\y=.int i/\av K H p xs/\xR xs i=some v/\Q v H
def jo(K:Za):R2:=fun x y H Q=>∃p xs i v,x=.ref p/\y=.int i/\cr K H p xs/\xR xs i=some v/\Q v H
def As:R2:=fun x y H Q=>∃z i c,x=.str z/\y=.int i/\z.length<=ak/\xR z.cps.toList i=some c/\Q (.str ⟨#[c]⟩) H
theorem BU:GZ X (cj X.K):=by
 intro value slice n s σ H x y v u Q I C D h o;obtain⟨p,xs,i,z,rfl,rfl,E,G,q⟩:=h;cases C;obtain⟨t,rfl⟩:=D;obtain⟨g,r,k,T⟩:=I.list E;obtain⟨j,f,J,U,L,M⟩:=xQ G;obtain⟨w,A,l⟩:=r.get J;have N:=r.length;have Y:=qz;have e:EP X n σ Q w s:=⟨z,H,I,l,q⟩;by_cases B:0<=i
 ·have m:i.toNat=j:=by
   rw[seqIndex_of B M]at f;exact eM f
  exact item_listR k.isList B (by omega) (by rw[m];simpa using A) e o
 ·have m:(i+(g.toArray.size:Int)).toNat=j:=by
   rw[seqIndex_neg (by omega) L]at f;rw[bZ,<-N];exact eM f
  exact subscriptTail_builtinR (x:=w) k.isList.typeIs slot_list_getitem.lookup
   (wpAny_getItem_list_neg (Q:=fun r O=>r=w/\EP X n σ Q r O) k.isList (by omega) (by rw[bZ]<;>omega) (by omega) (by rw[m];simpa using A) ⟨rfl,e⟩) o
theorem Fe:GZ X (jo X.K):=by
 intro value slice g s σ H x y v u Q I l m h n;obtain⟨p,xs,i,z,rfl,rfl,o,A,q⟩:=h;cases l;obtain⟨t,rfl⟩:=m;obtain⟨B,r,k,L⟩:=I.tuple o;obtain⟨j,C,D,M,N,O⟩:=xQ A;obtain⟨w,E,e⟩:=r.get D;have G:=r.length;have T:=qz;have f:EP X g σ Q w s:=⟨z,H,I,e,q⟩;exact subscriptTail_builtinR (x:=w) k.typeIs slot_tuple_getitem.lookup
  (getItem_tuple (j:=j) (Q:=fun r J=>r=w/\EP X g σ Q r J) k (by omega) (by omega) (by rw[bZ,<-G];exact C) (by simpa using E) ⟨rfl,f⟩) n
theorem Ff:GZ X As:=by
 intro value slice A s σ H x y v u Q I f g h k;obtain⟨z,i,c,rfl,rfl,B,l,q⟩:=h;obtain⟨t,rfl⟩:=f;obtain⟨C,rfl⟩:=g;obtain⟨j,e,m,D,n,o⟩:=xQ l;have p:z.cps.toList.length=z.length:=by simp[Str.length]
 rw[p]at e n o;have E:=qz;exact tail_any (typeIs_str s z t) slot_str_getitem.lookup (getItem_str (c:=c) (by
  have r:decide (i < -(2 ^ 63:Int))=false:=zzr0 (by omega);have w:decide (i ≥ 2 ^ 63)=false:=zzr0 (by omega);rw[r,w,Bool.or_false]) (by rw[e];simpa using m) ⟨.str ⟨#[c]⟩,H,I.tok _,⟨_,rfl⟩,q⟩) k
def sD(K:Za):R2:=fun x y H Q=>cj K x y H Q∨jo K x y H Q∨As x y H Q
theorem HY:GZ X (sD X.K):=BU.or (Fe.or Ff)
theorem AB(e:Zf)(n j:Nat)(u:Value):tE (·.setIfInBounds j u) { cls:=.type "list",data:=.seq e.toArray n }={ cls:=.type "list",data:=.seq (e.set j u).toArray n }:=by
 simp[tE]
theorem Inv.lst{g:Zd}{σ:St}{H:Hp}{s:Shared}{p:Addr}{xs:List V}(I:Inv X g σ H s)(h:H p=some (.lst xs)):
  ∃(f:Zf) (n:Nat),bp xs f/\s.heap.get? p=some { cls:=.type "list",data:=.seq f.toArray n }/\xs.length<=ak:=by
 obtain⟨z,f,n,r,e⟩:=I.hok p _ h;exact⟨f,n,r,e,z⟩
theorem Inv.lstUpd{l:Zd}{σ:St}{H:Hp}{s:Shared}{p:Addr}{xs j:List V}{i g:Zf}{n k:Nat}{f:Obj->Obj}(I:Inv X l σ H s)(h:H p=some (.lst xs))
  (m:s.heap.get? p=some { cls:=.type "list",data:=.seq i.toArray n }) (hf:f { cls:=.type "list",data:=.seq i.toArray n }={ cls:=.type "list",data:=.seq g.toArray k }) (r:bp j g) (o:j.length<=ak) (t:Nat) :
  Inv X l σ (upd H p (.lst j)) { s with heap:=s.heap.update p f,toks:=t }:=by
 have e:(s.heap.update p f).get? p=some { cls:=.type "list",data:=.seq g.toArray k }:=by
  rw[iD f m (by rw[hf]<;>rfl),hf]
 refine I.write (x:=p) (e:=p) (by rw[h];trivial) (.inl rfl) (fun b u v q=>(jg _ _ (dv v)).trans q) ⟨_,e⟩ ?_;exact⟨o,g,k,r,e⟩
def vB:V->V->V->Hp->(Hp->Prop)->Prop:=fun o i v H Q=>∃p xs k j,o=.ref p/\i=.int k/\H p=some (.lst xs)/\Hh xs.length k=some j/\Q (upd H p (.lst (xs.set j v)))
theorem oE:I_ X vB:=by
 intro B s σ H o i v L M u Q I C D E h;obtain⟨p,xs,k,j,rfl,rfl,w,G,q⟩:=h;cases C;obtain⟨t,rfl⟩:=D;obtain⟨e,n,r,g,J⟩:=I.lst w;obtain⟨f,N,x,y⟩:=BV G;have l:=r.length;have O:=qz;have z:Inv X B σ (upd H p (.lst (xs.set j v))) { s with heap:=s.heap.update p (tE (·.setIfInBounds j u)) } :=
  I.lstUpd w g (AB e n j u) (r.set E j) (by rw[List.length_set];exact J) s.toks
 by_cases A:0<=k
 ·have m:k.toNat=j:=by
   rw[seqIndex_of A y]at f;exact eM f
  exact PySem.W.ki_setAt g A (by omega) (by rw[bZ,<-l];exact y) (by rw[m];exact⟨_,z,q⟩)
 ·have m:(k+(e.toArray.size:Int)).toNat=j:=by
   rw[seqIndex_neg (by omega) x]at f;rw[bZ,<-l];exact eM f
  exact PySem.W.ki_setBack g (by omega) (by rw[bZ,<-l];exact x) (by omega) (by rw[m];exact⟨_,z,q⟩)
theorem wY(lo hi:Option Int)(n:Nat):(mP lo hi none n).1=((HT.sIx n 0 lo:Nat):Int)/\(mP lo hi none n).2.1=((HT.sIx n n hi:Nat):Int)/\(mP lo hi none n).2.2=1:=by
 refine⟨?_,?_,rfl⟩
 ·cases lo with
  |none=>simp[mP,HT.sIx]
  |some i =>
   simp only[mP,HT.sIx,Option.getD_none,show(1:Int) > 0 by decide,if_true];by_cases h:i<0
   ·simp only[h,if_true]<;>omega
   ·simp only[h,if_false]<;>omega
 ·cases hi with
  |none=>simp[mP,HT.sIx]
  |some i =>
   simp only[mP,HT.sIx,Option.getD_none,show(1:Int) > 0 by decide,if_true];by_cases h:i<0
   ·simp only[h,if_true]<;>omega
   ·simp only[h,if_false]<;>omega
theorem uY(e:Zf)(lo hi:Option Int):slicePick e.toArray lo hi none=((e.drop (HT.sIx e.length 0 lo)).take (HT.sIx e.length e.length hi-HT.sIx e.length 0 lo)).toArray:=by
 obtain⟨f,g,h⟩:=wY lo hi e.toArray.size;unfold slicePick;rw[f,g,h];simp only[sliceRange_one,pick_run,bZ]<;>rfl
def CZ(K:Za):V->Option Int->Option Int->Hp->VK->Prop:=fun x lo hi H Q=>∃a xs,x=.ref a/\av K H a xs/\∀p,H p=none->Q (.ref p) (upd H p (.lst (kJ xs lo hi)))
theorem oC:SlR X (CZ X.K):=by
 intro n s σ H x v p t lo hi u Q I g i j k h;obtain⟨a,xs,rfl,hx,q⟩:=h;cases g;obtain⟨l,r,f,m⟩:=I.list hx;have e:=r.length;refine⟨"list",_,slot_list_getitem.lookup,f.isList.typeIs,?_⟩;refine wpAny_getItem_list_slice f.isList i j k .none (by simp) ?_ (by rw[bZ]<;>omega);rw[uY,<-e];refine⟨.ref s.heap.objs.size,_,I.laid (t':=s.toks) (o:=.lst (kJ xs lo hi)) (fun b w q=>aS _ q) (aK _) ?_,rfl,q _ (I.hok.fresh (aK _))⟩;exact⟨bW (zj xs lo hi) m,_,0,(r.drop (HT.sIx xs.length 0 lo)).take (HT.sIx xs.length xs.length hi-HT.sIx xs.length 0 lo),cJ _ rfl⟩
theorem xN:fU X (.builtin "len") (fun xs H Q=>∃p f,xs=[.ref p]/\(av X.K H p f∨cr X.K H p f)/\Q (.int f.length) H):=by
 intro m s σ H xs n Q I r h;obtain⟨p,f,rfl,hq,q⟩:=h;obtain⟨u,rfl,k⟩:=vals1 r;cases k;have o:=qz;rcases hq with hq|hq
 ·obtain⟨g,i,j,l⟩:=I.list hq;have e:=i.length;exact Calls.call_len_list j.isList (by simp only[bZ]<;>omega) ⟨.int f.length,H,I.tok _,⟨s.toks+1,by rw[bZ,e]⟩,q⟩
 ·obtain⟨g,i,j,l⟩:=I.tuple hq;have e:=i.length;exact len_tuple j (by simp only[bZ]<;>omega) ⟨.int f.length,H,I.tok _,⟨s.toks+1,by rw[bZ,e]⟩,q⟩
theorem xM:fU X (.builtin "len") (fun xs H Q=>∃z,xs=[.str z]/\z.length<=ak/\Q (.int z.length) H):=by
 intro e s σ H xs f Q I r h;obtain⟨z,rfl,g,q⟩:=h;obtain⟨u,rfl,t,rfl⟩:=vals1 r;have i:=qz;exact len_str (by omega) ⟨.int z.length,H,I.tok _,⟨_,rfl⟩,q⟩
theorem fU.or{f:Value}{r e:List V->Hp->VK->Prop}(h:fU X f r)(k:fU X f e):fU X f (fun xs H Q=>r xs H Q∨e xs H Q):=by
 intro g s σ H xs i Q I j q;rcases q with q|q
 ·exact h g s σ H xs i Q I j q
 ·exact k g s σ H xs i Q I j q
theorem xL:fU X (.type "list") (fun xs H Q=>∃p i,xs=[.ref p]/\(av X.K H p i∨cr X.K H p i)/\∀l,H l=none->Q (.ref l) (upd H l (.lst i))):=by
 intro C s σ H xs E Q I r h;obtain⟨p,i,rfl,hq,q⟩:=h;obtain⟨u,rfl,D⟩:=vals1 r;cases D;have m:∀(f:Zf),bp i f->i.length<=ak->∀(g:Heap) (j:Nat),(∀b B,s.heap.get? b=some B->g.get? b=some B) ->
   g.get? s.heap.objs.size=some { cls:=.type "list",dict:=none,data:=.seq f.toArray j,slots:=#[] }->EP X C σ Q (.ref s.heap.objs.size) { s with heap:=g }:=fun f k t g j kp e =>
  ⟨.ref s.heap.objs.size,_,I.laid (t':=s.toks) kp (aK _) (show bT X.prog X.w X.K _ g _ (.lst i)from⟨t,f,j,k,e⟩),rfl,q _ (I.hok.fresh (aK _))⟩
 rcases hq with hq|hq
 ·obtain⟨f,k,x,t⟩:=I.list hq;have v:=k.length;obtain⟨o,y,z,n,A⟩:=x.isList;exact call_list_seq p (.inl rfl) y z A (fun g j kp e=>m f k t g j kp e) (by simp only[bZ]<;>omega)
 ·obtain⟨f,k,x,t⟩:=I.tuple hq;have v:=k.length;obtain⟨o,y,z,n,A⟩:=x;exact call_list_seq p (.inr rfl) y z A (fun g j kp e=>m f k t g j kp e) (by simp only[bZ]<;>omega)
def tyV(K:Za)(T:String)(x:V)(H:Hp):Prop:=match x with
 |.str _=>T="str"
 |.int _=>T="int"
 |.ref p=>(T="list"/\∃xs,av K H p xs)∨(T="tuple"/\∃o,K.lookup p=some o/\o.cls=.type "tuple"/\o.dict=none) ∨
   (T="dict"/\((∃kvs,H p=some (.dK kvs))∨∃kvs,H p=some (.dT kvs)))∨(T="set"/\∃S n,H p=some (.set S n))
 |_=>False
theorem DV{m:Zd}{σ:St}{H:Hp}{s:Shared}{T:String}{x:V}{v:Value}(I:Inv X m σ H s)(r:RelV x v)(ty:tyV X.K T x H):
  s.TypeIs v T/\∀a,v=.ref a->∃k,s.heap.get? a=some k/\k.dict=none:=by
 cases x with
 |str z =>
  obtain⟨t,rfl⟩:=r;cases(show T="str" from ty);exact⟨typeIs_str s z t,fun _ e=>nomatch e⟩
 |int i =>
  obtain⟨t,rfl⟩:=r;cases(show T="int" from ty);exact⟨typeIs_int s i t,fun _ e=>nomatch e⟩
 |ref p =>
  cases r;rcases ty with⟨rfl,xs,q⟩|⟨rfl,o,f,u,g⟩|⟨rfl,f⟩|⟨rfl,S,n,f⟩
  ·obtain⟨w,_,l,_⟩:=I.list q;refine⟨l.isList.typeIs,fun a e=>?_⟩;cases e;obtain⟨o,n,e,c,g,_⟩:=l;exact⟨o,e,g⟩
  ·refine⟨⟨o,I.kIn p o f,u⟩,fun a e=>?_⟩;cases e;exact⟨o,I.kIn _ o f,g⟩
  ·have z:∃o,s.heap.get? p=some o/\o.ExactDict:=by
    rcases f with⟨h,f⟩|⟨h,f⟩
    ·obtain⟨_,_,_,_,o,_,_,e,ex,_⟩:=I.hok p _ f;exact⟨o,e,ex⟩
    ·obtain⟨_,_,_,_,o,_,_,e,ex,_⟩:=I.hok p _ f;exact⟨o,e,ex⟩
   obtain⟨o,e,ex⟩:=z;refine⟨⟨o,e,ex.1⟩,fun a j=>?_⟩;cases j;exact⟨o,e,ex.2.1⟩
  ·obtain⟨o,_,_,_,e,ex,_⟩:=I.hok p _ f;refine⟨⟨o,e,ex.1⟩,fun a j=>?_⟩;cases j;exact⟨o,e,ex.2.1⟩
 |_=>exact da ty
def IF(K:Za)(T:String)(r:V->List V->Hp->VK->Prop)(to:TE):TE:=fun σ H Q=>to σ H fun x H1=>tyV K T x H1/\r x [] H1 Q
def Af(K:Za)(T:String)(r:V->List V->Hp->VK->Prop)(to:TE)(t:TA):TE:=fun σ H Q=>to σ H fun x H1=>tyV K T x H1/\t σ H1 fun xs H2=>r x xs H2 Q
variable{o e:Expr}{es:List Expr}{to:TE}{t:TA}{name:Str}{J6 J5:Pos}{T id:String}{r:V->List V->Hp->VK->Prop}
theorem HR(p:PlainAttrs T)(i:Slot T name id)(j:typeOf (.builtin id)=pure (.type "method_descriptor"))(q:MtR X id r)(u:PE X o to)
  (f:sO o name X.env (eval o X.env)=eval o X.env:=by rfl) (g:(J6.endLine==J5.line)=true:=by rfl):PE X (.Call (.Attribute o name J6) [] [] J5) (IF X.K T r to):=by
 intro l s σ H Q I h;refine wpAny_Call_method0_late f g (cM (u l s σ H _ I h) fun v w k=>?_);obtain⟨x,y,m,n,ty,z⟩:=k;obtain⟨A,B⟩:=DV m n ty;exact⟨T,id,p,i,j,A,B,wF rfl (PySem.evalArgs_none (q l w σ y x [] v [] Q m n .nil z))⟩
theorem i5(w:PlainAttrs T)(j:Slot T name id)(l:typeOf (.builtin id)=pure (.type "method_descriptor"))(y:MtR X id r)(z:PE X o to)(A:PA X (e::es) t)
  (g:sO o name X.env (eval o X.env)=eval o X.env:=by rfl)
  (k:((backTo J5 (ay (e::es) X.env)).all (fun x=>!x.1) && (jX J5 (jW [] X.env)).all (fun x=>x.1.isSome)
   && decide ((e::es).length+([]:List Keyword).length+(if([]:List Keyword).isEmpty then 0 else 1)<30))=true:=by rfl)
  (i:(J6.endLine==J5.line)=true:=by rfl) (B:ay (e::es) X.env=(false,eval e X.env)::ay es X.env:=by rfl) (f:(backTo J5 (ay es X.env)).any (·.1)=false:=by rfl) :
  PE X (.Call (.Attribute o name J6) (e::es) [] J5) (Af X.K T r to t):=by
 intro m s σ H Q I h;refine wpAny_Call_method_late g k i rfl (cM (z m s σ H _ I h) fun v C n=>?_);obtain⟨x,D,p,q,ty,E⟩:=n;obtain⟨G,J⟩:=DV p q ty;refine⟨T,id,w,j,l,G,J,?_⟩;have u:=A J5 m C σ D _ p E;rw[B]at u ⊢;refine wF (by show(false || (backTo J5 (ay es X.env)).any (·.1))=false;rw[f]<;>rfl) (Calls.evalArgs_plain ?_);exact cM u fun L M ⟨N,O,U,Y,q2⟩=>y m M σ O x N v L Q U q Y q2
end
end L2
namespace L2
open PySem PySem.Spec PyProof.Rows
def Jc(X:Cx)(id:String)(r:V->List V->Hp->VK->Prop):Prop :=
 ∀(J4:Zd) (s:Shared) (σ:St) (H:Hp) (x:V) (xs:List V) (v:Value) (us:Zf) (Q:VK),Inv X J4 σ H s->RelV x v->bp xs us->r x xs H Q ->
  wpAny (model X.prog X.w) X.A (call (.builtin id) (v::us)) (EP X J4 σ Q) X.xe s
theorem bp.one{x:V}{a:Zf}(h:bp [x] a):∃u,a=[u]/\RelV x u:=by
 cases h with
 |cons r t=>cases t;exact⟨_,rfl,r⟩
theorem bp.two{x y:V}{a:Zf}(h:bp [x,y] a):∃u v,a=[u,v]/\RelV x u/\RelV y v:=by
 cases h with
 |cons r t =>
  obtain⟨v,e,q⟩:=bp.one t;exact⟨_,v,by rw[e],r,q⟩
theorem bp.zero:∀{a:Zf},bp [] a->a=[]
 |_,.nil=>rfl
theorem bp.dropLast{xs:List V}{a:Zf}(h:bp xs a):bp xs.dropLast a.dropLast:=by
 induction h with
 |nil=>exact .nil
 |cons r t e =>
  cases t with
  |nil=>exact .nil
  |cons q f=>exact .cons r e
theorem AK{α:Type}(l:List α):l.eraseIdx (l.length-1)=l.dropLast:=by
 induction l with
 |nil=>rfl
 |cons a r f =>
  cases r with
  |nil=>rfl
  |cons b r =>
   have e:(a::b::r).length-1=((b::r).length-1)+1:=by
    have g:(a::b::r).length=r.length+2:=rfl;have h:(b::r).length=r.length+1:=rfl;omega
   rw[e,List.eraseIdx_cons_succ,f]
   all_goals rfl
section
variable{X:Cx}{J4:Zd}{σ:St}{H:Hp}{s:Shared}{l b:Addr}{xs ys zs:List V}
theorem Inv.lset{a its':Zf}{n:Nat}{f:Array Value->Array Value}{g:Nat}(I:Inv X J4 σ H s)(h:H l=some (.lst xs))
  (e:s.heap.get? l=some { cls:=.type "list",data:=.seq a.toArray n }) (hf:f a.toArray=its'.toArray) (i:bp ys its') (j:ys.length<=ak) :
  Inv X J4 σ (upd H l (.lst ys)) { s with heap:=s.heap.update l (tE f),toks:=g }:=by
 have q:=PySem.IsL.update e f;rw[hf]at q;refine I.write (x:=l) (e:=l) (by rw[h];exact trivial) (.inl rfl) (fun o u k m=>(jg s.heap (tE f) (dv k)).trans m) ⟨_,q⟩ ?_;exact⟨j,its',_,i,q⟩
theorem Inv.lnew{a:Zf}{t':Nat}(I:Inv X J4 σ H s)(e:bp ys a)(f:ys.length<=ak):
  Inv X J4 σ (upd H s.heap.objs.size (.lst ys)) { s with heap:=s.heap.push { cls:=.type "list",data:=.seq a.toArray },toks:=t' } :=
 I.laid (fun _ _ q=>aS _ q) (aK _) ⟨f,a,0,e,cJ _ rfl⟩
theorem Inv.fresh(I:Inv X J4 σ H s):H s.heap.objs.size=none:=I.hok.fresh (aK _)
theorem Inv.lstM(I:Inv X J4 σ H s)(f:H l=some (.lst xs)):xs.length<=ak/\∃(a:Zf) (n:Nat),bp xs a/\xs.length=a.length/\s.heap.get? l=some { cls:=.type "list",data:=.seq a.toArray n }:=by
 obtain⟨z,a,n,r,e⟩:=I.hok l _ f;exact⟨z,a,n,r,r.length,e⟩
theorem EX{n:Nat}(h:n<=ak):bX.List.listTooLong n=false:=by
 unfold bX.List.listTooLong;exact zzr0 (by omega)
end
section
variable{X:Cx}
def gF:V->List V->Hp->VK->Prop:=fun x vs H Q=>∃l xs y,x=.ref l/\vs=[y]/\H l=some (.lst xs)/\xs.length<ak/\Q .non (upd H l (.lst (xs++[y])))
theorem dS:Jc X "list.append" gF:=by
 intro k s σ H x m v o Q I g i h;obtain⟨l,xs,y,rfl,rfl,f,p,q⟩:=h;cases g;obtain⟨u,rfl,j⟩:=i.one;obtain⟨z,a,n,r,t,e⟩:=I.lstM f;refine wE F.slot_list_append ⟨_,e,rfl⟩ F.entry_list_append (F.args_list_append_2 _ _) (PySem.list_append l a.toArray n u (by rw[bZ];omega)) ⟨e,?_⟩;refine⟨.non,_,I.lset (its':=a++[u]) f e (by simp) (r.append (.cons j .nil)) ?_,rfl,q⟩;rw[aV,wD];omega
def sE:V->List V->Hp->VK->Prop:=fun x vs H Q=>∃l b xs zs,x=.ref l/\vs=[.ref b]/\H l=some (.lst xs)/\H b=some (.lst zs)/\xs.length+zs.length<=ak/\Q .non (upd H l (.lst (xs++zs)))
theorem qt:Jc X "list.extend" sE:=by
 intro B s σ H x C v D Q I k m h;obtain⟨l,b,xs,E,rfl,rfl,j,o,G,q⟩:=h;cases k;obtain⟨u,rfl,p⟩:=m.one;cases p;obtain⟨z,f,n,r,J,e⟩:=I.lstM j;obtain⟨L,a,t,w,y,A⟩:=I.lstM o;have i:f.toArray.size+a.toArray.size<=ak:=by rw[bZ,bZ];omega
 have g:¬(!f.toArray.isEmpty && bX.List.listTooLong (f.toArray.size+a.toArray.size))=true:=by
  rw[EX i,pP];exact gH
 refine wE F.slot_list_extend ⟨_,e,rfl⟩ F.entry_list_extend (F.args_list_extend_2 _ _)
  (AutoSeq1.list_extend_list_list_0 l f.toArray n b a.toArray t g (by rw[bZ];omega) (by omega)) ⟨e,A,?_⟩
 refine⟨.non,_,I.lset (its':=f++a) j e (by simp) (r.append w) ?_,rfl,q⟩;rw[aV];omega
def II:V->List V->Hp->VK->Prop:=fun x vs H Q=>∃l xs y,x=.ref l/\vs=[]/\H l=some (.lst xs)/\xs[xs.length-1]?=some y/\Q y (upd H l (.lst xs.dropLast))
theorem HU:Jc X "list.pop" II:=by
 intro w s σ H x A v B Q I j k h;obtain⟨l,xs,y,rfl,rfl,i,m,q⟩:=h;cases j;have f:=k.zero;subst f;obtain⟨z,a,n,r,o,e⟩:=I.lstM i;obtain⟨u,p,t⟩:=r.get m;have g:a.toArray[a.toArray.size-1]?=some u:=by
  show a.toArray[a.length-1]?=some u;rw[<-tD,<-o];exact p
 refine wE F.slot_list_pop ⟨_,e,rfl⟩ F.entry_list_pop (F.args_list_pop_1 _) (MeetsSeq.list_pop_last l a.toArray n u g (by rw[bZ];omega)) ⟨e,?_⟩;refine⟨y,_,I.lset (its':=a.dropLast) i e ?_ r.dropLast ?_,t,q⟩
 ·show a.toArray.eraseIdxIfInBounds (a.toArray.size-1)=a.dropLast.toArray;rw[bZ,List.eraseIdxIfInBounds_toArray,AK]
 ·rw[List.length_dropLast];omega
def lr:R2:=fun x y H Q=>∃l b xs zs,x=.ref l/\y=.ref b/\H l=some (.lst xs)/\H b=some (.lst zs)/\xs.length+zs.length<=ak/\∀p,H p=none->Q (.ref p) (upd H p (.lst (xs++zs)))
theorem gh:pb X (qV .Add) lr:=by
 intro w s σ H x y v u Q I g i h;obtain⟨l,b,xs,A,rfl,rfl,j,k,B,q⟩:=h;cases g;cases i;obtain⟨z,f,n,r,C,e⟩:=I.lstM j;obtain⟨D,a,E,m,o,p⟩:=I.lstM k;refine PySem.P.add_list e p ?_ (by rw[bZ,bZ];omega);have t:f.toArray++a.toArray=(f++a).toArray:=by simp
 rw[t];exact⟨.ref _,_,I.lnew (t':=s.toks) (r.append m) (by rw[aV];omega),rfl,q _ I.fresh⟩
end
end L2
namespace L2
open PySem PySem.Spec PyProof.Rows
section
variable{κ:Type}[DecidableEq κ]
def de(kvs:List (κ×V))(k:κ):Option V:=(kvs.find? fun kv=>decide (kv.1=k)).map (·.2)
def fh(kvs:List (κ×V))(k:κ)(v:V):List (κ×V) :=
 if(kvs.any fun kv=>decide (kv.1=k))=true then kvs.map (fun kv=>if kv.1=k then(kv.1,v)else kv)else kvs++[(k,v)]
theorem dB{p:κ×V}{r:List (κ×V)}{k:κ}(e:p.1=k):de (p::r) k=some p.2:=by simp[de,pO,e]
theorem db{p:κ×V}{r:List (κ×V)}{k:κ}(e:¬p.1=k):de (p::r) k=de r k:=by simp[de,pO,e]
theorem kZ(k:κ):∀a:List (κ×V),(a.any fun f=>decide (f.1=k))=(de a k).isSome
 |[]=>rfl
 |p::r=>by
  rw[pN];by_cases e:p.1=k
  ·simp only[dB e,zzr1 e,Bool.true_or,Option.isSome_some]
  ·rw[db e,zzr0 e,Bool.false_or];exact kZ k r
theorem yy(k j:κ)(y:V):∀a:List (κ×V),de (a.map fun f=>if f.1=k then(f.1,y)else f) j=(de a j).map fun x=>if j=k then y else x
 |[]=>rfl
 |p::r=>by
  have g:=yy k j y r;rw[cg];by_cases h:p.1=k
  ·rw[if_pos h];by_cases e:p.1=j
   ·rw[dB (p:=(p.1,y)) e,dB e,tz,if_pos (e.symm.trans h)]
   ·rw[db (p:=(p.1,y)) e,db e,g]
  ·rw[if_neg h];by_cases e:p.1=j
   ·rw[dB (p:=p) e,dB e,tz,if_neg (fun z=>h (e.trans z))]
   ·rw[db (p:=p) e,db e,g]
theorem vn(k j:κ)(y:V):∀a:List (κ×V),de a k=none->de (a++[(k,y)]) j=if j=k then some y else de a j
 |[],_=>by
  by_cases e:k=j
  ·rw[if_pos e.symm];exact dB (p:=(k,y)) e
  ·rw[if_neg (fun z=>e z.symm)];exact db (p:=(k,y)) e
 |p::r,f=>by
  rw[List.cons_append];have g:¬p.1=k:=fun z=>by rw[dB z]at f;cases f
  rw[db g]at f;have h:=vn k j y r f;by_cases e:p.1=j
  ·rw[dB e,dB e,if_neg (fun z=>g (e.trans z))]
  ·rw[db e,db e,h]
theorem yv(f:List (κ×V))(k j:κ)(y:V):de (fh f k y) j=if j=k then some y else de f j:=by
 unfold fh;by_cases a:(f.any fun g=>decide (g.1=k))=true
 ·rw[if_pos a,yy];rw[kZ]at a;by_cases e:j=k
  ·obtain⟨x,hx⟩:=wI.mp a;rw[if_pos e,e,hx,tz,if_pos rfl]
  ·rw[if_neg e];cases de f j with
   |none=>rfl
   |some x=>rw[tz,if_neg e]
 ·rw[if_neg a];refine vn k j y f ?_;rw[kZ]at a;cases q:de f k with
  |none=>rfl
  |some x=>rw[q]at a;exact(a rfl).elim
theorem i6(a:List (κ×V))(k:κ)(v:V):(fh a k v).length<=a.length+1:=by
 unfold fh;split
 ·rw[ai];omega
 ·rw[aV,c_,kU];omega
theorem oK{a:List (κ×V)}{k:κ}(v:V)(h:de a k=none):fh a k v=a++[(k,v)]:=by
 unfold fh;rw[kZ,h];exact if_neg (by decide)
theorem iM.isSome_eq{o:Option V}{u:Option Value}(r:iM o u):o.isSome=u.isSome:=by
 cases o with
 |none=>cases u with
  |none=>rfl
  |some _=>exact(show False from r).elim
 |some _=>cases u with
  |none=>exact(show False from r).elim
  |some _=>rfl
theorem iM.getD{o:Option V}{u:Option Value}{d:V}{a:Value}(r:iM o u)(e:RelV d a):RelV (o.getD d) (u.getD a):=by
 cases o with
 |none=>cases u with
  |none=>exact e
  |some _=>exact(show False from r).elim
 |some _=>cases u with
  |none=>exact(show False from r).elim
  |some _=>exact r
theorem KV.val{a:List (κ×V)}{g:List (κ×Value)}(r:KV a g)(k:κ):iM (de a k) (mO g k):=by
 unfold KV at r
 induction r with
 |nil=>exact ft
 |@cons p q m qs h t j =>
  obtain⟨i,l⟩:=h;by_cases e:p.1=k
  ·have f:q.1=k:=i.symm.trans e;have b:mO (q::qs) k=some q.2:=by simp[mO,pO,f]
   rw[dB e,b];exact l
  ·have f:¬q.1=k:=fun z=>e (i.trans z);have b:mO (q::qs) k=mO qs k:=by simp[mO,pO,f]
   rw[db e,b];exact j
theorem KV.any{a:List (κ×V)}{f:List (κ×Value)}(r:KV a f)(k:κ):(a.any fun e=>decide (e.1=k))=f.any fun e=>decide (e.1=k):=by
 unfold KV at r
 induction r with
 |nil=>rfl
 |cons h t g=>rw[pN,pN,g,h.1]
theorem KV.repl{f:List (κ×V)}{i:List (κ×Value)}(r:KV f i)(k:κ){y:V}{u:Value}(j:RelV y u):
  KV (f.map fun a=>if a.1=k then(a.1,y)else a) (i.map fun a=>if a.1=k then(a.1,u)else a):=by
 unfold KV at r ⊢
 induction r with
 |nil=>exact .nil
 |@cons p q n qs h t l =>
  rw[cg,cg];refine .cons ?_ l;obtain⟨g,m⟩:=h;by_cases e:p.1=k
  ·rw[if_pos e,if_pos (g.symm.trans e)];exact⟨g,j⟩
  ·rw[if_neg e,if_neg (fun z=>e (g.trans z))];exact⟨g,m⟩
theorem KV.put{a:List (κ×V)}{f:List (κ×Value)}(r:KV a f)(k:κ){y:V}{u:Value}(g:RelV y u):KV (fh a k y) (stored f k u):=by
 unfold fh stored;rw[r.any k];by_cases e:(f.any fun h=>decide (h.1=k))=true
 ·rw[if_pos e,if_pos e];exact r.repl k g
 ·rw[if_neg e,if_neg e];exact jf r ⟨rfl,g⟩
theorem KV.length{a:List (κ×V)}{e:List (κ×Value)}(r:KV a e):a.length=e.length:=Paired.length r
end
theorem rq{P:bq}{w:World}{k:fD}{u:Value}(r:RelV (kV k) u):(cD P w).is k u=true:=by
 cases k with
 |inl i=>obtain⟨t,e⟩:=(show ∃t,u=Value.int i t from r);subst e;exact y9 P w i t
 |inr x=>obtain⟨t,e⟩:=(show ∃t,u=Value.str x t from r);subst e;exact y8 P w x t
theorem xD:∀{k:nN}{u:Value},RelV (Hf k) u->iK k u=true
 |none,u,r=>by cases(show u=Value.none from r);rfl
 |some (.inl i),u,r=>by obtain⟨t,rfl⟩:=r;exact mi i t
 |some (.inr x),u,r=>by obtain⟨t,rfl⟩:=r;exact mh x t
abbrev KT(K:Za)(H:Hp):List (TK×V)->List (TK×Addr×Value)->Prop:=Paired fun p q=>p.1=q.1/\rK K H p.1 (.ref q.2.1)/\p.1.depth<=8/\RelV p.2 q.2.2
theorem KT.val{K:Za}{H:Hp}{a:List (TK×V)}{xs:List (TK×Addr×Value)}(r:KT K H a xs)(k:TK):iM (de a k) ((atKey xs k).map (·.2)):=by
 induction r with
 |nil=>exact ft
 |@cons p q l qs h t i =>
  obtain⟨g,_,_,j⟩:=h;by_cases e:p.1=k
  ·have f:q.1=k:=g.symm.trans e;have b:atKey (q::qs) k=some q.2:=by simp[atKey,pO,f]
   rw[dB e,b];exact j
  ·have f:¬q.1=k:=fun z=>e (g.trans z);have b:atKey (q::qs) k=atKey qs k:=by simp[atKey,pO,f]
   rw[db e,b];exact i
theorem KT.repl{K:Za}{H:Hp}{a:List (TK×V)}{xs:List (TK×Addr×Value)}(r:KT K H a xs)(k:TK){y:V}{u:Value}(l:RelV y u):
  KT K H (a.map fun g=>if g.1=k then(g.1,y)else g) (xs.map (putAt k u)):=by
 induction r with
 |nil=>exact .nil
 |@cons p q n qs h t m =>
  rw[cg,cg];refine .cons ?_ m;obtain⟨f,i,j⟩:=h;unfold putAt;by_cases e:p.1=k
  ·rw[if_pos e,if_pos (f.symm.trans e)];exact⟨f,i,j.1,l⟩
  ·rw[if_neg e,if_neg (fun z=>e (f.trans z))];exact⟨f,i,j⟩
theorem KT.put{K:Za}{H:Hp}{a:List (TK×V)}{xs:List (TK×Addr×Value)}(r:KT K H a xs)(k:TK){b:Addr}{y:V}{u:Value}(g:rK K H k (.ref b))(h:k.depth<=8)(f:RelV y u):
  KT K H (fh a k y) (mN xs k b u):=by
 have e:(a.any fun i=>decide (i.1=k))=(atKey xs k).isSome:=by
  rw[kZ,(r.val k).isSome_eq,Option.isSome_map]
 unfold fh mN;rw[e];by_cases q:(atKey xs k).isSome=true
 ·rw[if_pos q,if_pos q];exact r.repl k f
 ·rw[if_neg q,if_neg q];exact jf r ⟨rfl,g,h,f⟩
theorem KT.keeps{K:Za}{H a:Hp}{kvs:List (TK×V)}{xs:List (TK×Addr×Value)}(r:KT K H kvs xs)(f:∀b e,H b=some (.tup e)->a b=some (.tup e)):KT K a kvs xs :=
 Paired.mapP r fun _ _ z=>⟨z.1,rK.keeps f 8 z.2.2.1 z.2.1,z.2.2⟩
section
variable{P:bq}{w:World}{K:Za}{H:Hp}{h:Heap}{a:Addr}
theorem Es{u:HO}(ok:kg P w K H h)(e:Rd H a u):bT P w K H h a u:=e.ok ok
theorem rG{f:List (fD×V)}(ok:kg P w K H h)(e:Rd H a (.dK f)):f.length<=ak/\(a==gK)=false/\∃g,KV f g/\h.DictOf (cD P w) a g :=
 show bT P w K H h a (.dK f)from Es ok e
theorem IW{f:List (fD×V)}(ok:kg P w K H h)(e:H a=some (.dK f)):f.length<=ak/\(a==gK)=false/\∃g,KV f g/\h.DictOf (cD P w) a g:=rG ok (.inl e)
theorem HC(ok:kg P w K H h)(y:K.In h):∀(d:Nat) {k:TK}{v:V}{u:Value},k.depth<=d->rK K H k v->RelV v u->mn h k u:=by
 have z:∀(d:Nat) (s:∀{k:TK}{v:V}{u:Value},k.depth<=d->rK K H k v->RelV v u->mn h k u) (g:List TK) (i:List V) (x:Zf),TK.depths g<=d->TKCs K H g i->bp i x->TAts h g x:=by
  intro d s g
  induction g with
  |nil =>
   intro i x _ hx r;have e:i=[]:=hx;subst e;cases r
   rfl
  |cons k g A =>
   intro i x j hx r;obtain⟨v,B,rfl,m,C⟩:=hx;cases r with
   |@cons _ u _ q G I =>
    have J:max k.depth (TK.depths g)<=d:=j;exact⟨u,q,rfl,s (by omega) m G,A B q (by omega) C I⟩
 intro d
 induction d with
 |zero =>
  intro k v u j hx r;cases k with
  |t l=>exact absurd j (by show ¬(TK.depths l+1<=0);omega)
  |k b =>
   have e:v=Hf b:=hx;subst e;exact xD r
 |succ d s =>
  intro k v u j hx r;cases k with
  |k b =>
   have e:v=Hf b:=hx;subst e;exact xD r
  |t l =>
   obtain⟨b,xs,rfl,D,hi⟩:=hx;cases(show u=Value.ref b from r);obtain⟨f,E,L,m,C,n,M⟩:∃f:List Value,bp xs f/\IsTup h b f.toArray:=by
    rcases D with D|⟨o,f,n,N,O,Q,T,r⟩
    ·obtain⟨_,f,E,p⟩:=(show bT P w K H h b (.tup xs)from ok b _ D);exact⟨f,E,p⟩
    ·exact⟨f.toList,r,o,y b o N,O,n,by simpa using Q⟩
   exact⟨b,L,f.toArray,n,rfl,m,C,M,by simpa using z d (fun m=>s m) l xs f (by have:TK.depths l+1<=d+1:=j;omega) hi E⟩
theorem xz{k:TK}(ok:kg P w K H h)(f:K.In h)(e:rK K H k (.ref a))(g:k.depth<=8):(bw P w).is h k a:=⟨HC ok f 8 g e rfl,g⟩
theorem um{f:List (TK×V)}(ok:kg P w K H h)(i:K.In h)(e:Rd H a (.dT f)):f.length<=ak/\(a==gK)=false /\
  ∃xs,KT K H f xs/\h.DictOfH (bw P w) a xs:=by
 obtain⟨z,y,xs,r,o,j,k,n,s,u,v,A⟩:=(show bT P w K H h a (.dT f)from Es ok e);refine⟨z,y,xs,r,o,j,k,n,s,u,v,fun x hx=>?_,A⟩;have all:∀{l:List (TK×V)}{m:List (TK×Addr×Value)},KT K H l m->∀x∈m,(bw P w).is h x.1 x.2.1:=by
  intro l m q
  induction q with
  |nil=>intro x hx;exact nomatch hx
  |@cons p q C qs g t B =>
   intro x hx;rcases cK.mp hx with e|hx
   ·subst e;exact xz ok i (by rw[<-g.1];exact g.2.1) (by rw[<-g.1];exact g.2.2.1)
   ·exact B x hx
 exact all r x hx
theorem Hj{f:List (TK×V)}(ok:kg P w K H h)(g:K.In h)(e:H a=some (.dT f)):f.length<=ak/\(a==gK)=false /\
  ∃xs,KT K H f xs/\h.DictOfH (bw P w) a xs:=um ok g (.inl e)
end
mutual
def nF(K:Za)(H:Hp):TK->V->Prop
 |.k a,v=>v=Hf a
 |.t l,v=>∃b xs,v=.ref b/\cr K H b xs/\TKIns K H l xs
def TKIns(K:Za)(H:Hp):List TK->List V->Prop
 |[],vs=>vs=[]
 |k::r,vs=>∃v us,vs=v::us/\nF K H k v/\TKIns K H r us
end
theorem g8.isIn{K:Za}{H:Hp}:∀(d:Nat) {k:TK}{v:V},k.depth<=d->g8 H k v->nF K H k v:=by
 have h:∀(d:Nat) (f:∀{k:TK}{v:V},k.depth<=d->g8 H k v->nF K H k v) (xs:List TK) (g:List V),TK.depths xs<=d->TKAts H xs g->TKIns K H xs g:=by
  intro d f xs
  induction xs with
  |nil=>intro g _ hx;exact hx
  |cons x xs i =>
   intro g e hx;obtain⟨v,n,rfl,j,m⟩:=hx;have o:max x.depth (TK.depths xs)<=d:=e;exact⟨v,n,rfl,f (by omega) j,i n (by omega) m⟩
 intro d
 induction d with
 |zero =>
  intro k v e hx;cases k with
  |t l=>exact absurd e (by show ¬(TK.depths l+1<=0);omega)
  |k a=>exact hx
 |succ d f =>
  intro k v e hx;cases k with
  |k a=>exact hx
  |t l =>
   obtain⟨b,xs,rfl,p,hi⟩:=hx;exact⟨b,xs,rfl,cr.of p,h d (fun q=>f q) l xs (by have:TK.depths l+1<=d+1:=e;omega) hi⟩
theorem FY{X:Cx}{y:Zd}{σ:St}{H:Hp}{s:Shared}(I:Inv X y σ H s):∀(d:Nat) {k:TK}{v:V}{u:Value},k.depth<=d->nF X.K H k v->RelV v u->mn s.heap k u:=by
 have p:∀(d:Nat) (m:∀{k:TK}{v:V}{u:Value},k.depth<=d->nF X.K H k v->RelV v u->mn s.heap k u) (a:List TK) (f:List V) (o:Zf),TK.depths a<=d->TKIns X.K H a f->bp f o->TAts s.heap a o:=by
  intro d m a
  induction a with
  |nil =>
   intro f o _ hx r;have e:f=[]:=hx;subst e;cases r
   rfl
  |cons k a q =>
   intro f o g hx r;obtain⟨v,w,rfl,h,x⟩:=hx;cases r with
   |@cons _ u _ i z A =>
    have B:max k.depth (TK.depths a)<=d:=g;exact⟨u,i,rfl,m (by omega) h z,q w i (by omega) x A⟩
 intro d
 induction d with
 |zero =>
  intro k v u g hx r;cases k with
  |t l=>exact absurd g (by show ¬(TK.depths l+1<=0);omega)
  |k b =>
   have e:v=Hf b:=hx;subst e;exact xD r
 |succ d m =>
  intro k v u g hx r;cases k with
  |k b =>
   have e:v=Hf b:=hx;subst e;exact xD r
  |t l =>
   obtain⟨b,xs,rfl,C,hi⟩:=hx;cases(show u=Value.ref b from r);obtain⟨j,D,⟨E,h,x,n,G⟩,_⟩:=I.tuple C;exact⟨b,E,j.toArray,n,rfl,h,x,G,by simpa using p d (fun h=>m h) l xs j (by have:TK.depths l+1<=d+1:=g;omega) hi D⟩
theorem xC{X:Cx}{f:Zd}{σ:St}{H:Hp}{s:Shared}{k:TK}{b:Addr}(I:Inv X f σ H s)(e:nF X.K H k (.ref b))(a:k.depth<=8):(bw X.prog X.w).is s.heap k b:=⟨FY I 8 a e rfl,a⟩
theorem im{P:bq}{w:World}{A:Around}(a:A.units+16<cLine):(bw P w).room A.in1:=by
 show A.units+1+8<cLine;omega
def yd(K:Za)(H:Hp)(a:Addr)(y:V)(r:Option V):Prop :=
 (∃kvs k,Rd H a (.dK kvs)/\y=kV k/\r=de kvs k)∨∃kvs k b,Rd H a (.dT kvs)/\y=.ref b/\nF K H k (.ref b)/\k.depth<=8/\r=de kvs k
def Jf(H:Hp)(a:Addr)(y v:V)(H':Hp):Prop :=
 (∃kvs k,H a=some (.dK kvs)/\y=kV k/\kvs.length<ak/\H'=upd H a (.dK (fh kvs k v))) ∨
 ∃kvs k b,H a=some (.dT kvs)/\y=.ref b/\g8 H k (.ref b)/\k.depth<=8/\kvs.length<ak/\H'=upd H a (.dT (fh kvs k v))
section
variable{X:Cx}{J4:Zd}{σ:St}{H:Hp}{s:Shared}{a:Addr}{y v:V}{u r:Value}{o:Option V}{A:Around}{E:Zc}
theorem Inv.big(I:Inv X J4 σ H s):gK<s.heap.objs.size:=by
 have h:bH<s.heap.objs.size:=(I.mod.glob.keeps I.bk).lt;exact tw (by decide) h
theorem Dm{Q:Zc}(D:A.units+16<cLine)(I:Inv X J4 σ H s)(g:yd X.K H a y (some v))(B:RelV y u)(h:∀j C,Inv X J4 σ H C->RelV v j->Q j C):
  wpAny (model X.prog X.w) A (mQ (.ref a) u) Q E s:=by
 rcases g with⟨m,k,e,n,l⟩|⟨m,k,b,e,n,G,J,l⟩
 ·subst n;obtain⟨z,L,M,f,q⟩:=rG I.hok e;obtain⟨j,t,i⟩:=iM.some_of (v:=v) (o:=mO M k) (by rw[l];exact f.val k);exact wpAny_getItem_of (rq B) q.mapOf t (h j _ (I.tok _) i)
 ·subst n;cases(show u=Value.ref b from B);obtain⟨z,L,xs,f,q⟩:=um I.hok I.kIn e;obtain⟨j,t,i⟩:=iM.some_of (v:=v) (o:=(atKey xs k).map (·.2)) (by rw[l];exact f.val k);obtain⟨p,N,x⟩:=Option.map_eq_some_iff.mp t;refine wpAny_getItem_heap (im D) (xC I G J) q N ?_;rw[x];exact h j _ (I.tok _) i
theorem d_in{Q:Zc}(t:A.units+16<cLine)(I:Inv X J4 σ H s)(g:yd X.K H a y o)(n:RelV y u)(h:∀p,Inv X J4 σ H p->Q (.bool o.isSome) p):
  wpAny (model X.prog X.w) A (eT .In u (.ref a)) Q E s:=by
 rcases g with⟨i,k,e,j,l⟩|⟨i,k,b,e,j,x,B,l⟩
 ·subst j;obtain⟨z,hd,C,f,m⟩:=rG I.hok e;refine wpAny_in_of (rq n) hd m.mapOf ?_;rw[<-(f.val k).isSome_eq,<-l];exact h _ (I.tok _)
 ·subst j;cases(show u=Value.ref b from n);obtain⟨z,hd,xs,f,m⟩:=um I.hok I.kIn e;refine wpAny_in_heap (im t) (xC I x B) hd m ?_;have q:=(f.val k).isSome_eq;rw[Option.isSome_map]at q;rw[<-q,<-l];exact h _ (I.tok _)
theorem GQ{Q:Zc}(t:A.units+16<cLine)(I:Inv X J4 σ H s)(g:yd X.K H a y o)(n:RelV y u)(h:∀p,Inv X J4 σ H p->Q (.bool (!o.isSome)) p):
  wpAny (model X.prog X.w) A (eT .NotIn u (.ref a)) Q E s:=by
 rcases g with⟨i,k,e,j,l⟩|⟨i,k,b,e,j,x,B,l⟩
 ·subst j;obtain⟨z,hd,C,f,m⟩:=rG I.hok e;refine wpAny_notIn_of (rq n) hd m.mapOf ?_;rw[<-(f.val k).isSome_eq,<-l];exact h _ (I.tok _)
 ·subst j;cases(show u=Value.ref b from n);obtain⟨z,hd,xs,f,m⟩:=um I.hok I.kIn e;refine wpAny_notIn_heap (im t) (xC I x B) hd m ?_;have q:=(f.val k).isSome_eq;rw[Option.isSome_map]at q;rw[<-q,<-l];exact h _ (I.tok _)
theorem xJ{f:Heap}{g:Nat}{ob:HO}(I:Inv X J4 σ H s)(h:Jb (H a))(i:gJ a s.heap f)(j:∃q,f.get? a=some q)(new:bT X.prog X.w X.K (upd H a ob) f a ob):
  Inv X J4 σ (upd H a ob) { s with heap:=f,toks:=g } :=
 I.write (x:=a) (e:=a) h (.inl rfl) (fun b q k z=>(i.2 b k).trans z) j new
theorem Fs{P:bq}{w:World}{K:Za}{i:Hp}{h:Heap}{e:List (fD×V)}{f:List (fD×Value)}(z:e.length<=ak)(j:(a==gK)=false)(g:KV e f)(k:h.DictOf (cD P w) a f):
  bT P w K i h a (.dK e):=⟨z,j,f,g,k⟩
theorem Dl{J:Hp}{Q:Unit->Shared->Prop}(Y:A.units+16<cLine)(I:Inv X J4 σ H s)(g:Jf H a y v J)(L:RelV y u)(M:RelV v r)(h:∀N,Inv X J4 σ J N->Q () N):
  wpAny (model X.prog X.w) A (setItem (.ref a) u r) Q E s:=by
 rcases g with⟨f,k,e,p,l,t⟩|⟨f,k,b,e,p,O,m,l,t⟩
 ·subst p t;obtain⟨z,x,vs,i,B⟩:=IW I.hok e;have C:vs.length<=ak:=by rw[<-i.length];exact z
  have D:(fh f k v).length<=ak:=by have:=i6 f k v;omega
  refine wpAny_setItem_pairs (hsz:=C) (rq L) B fun T j G=>h _ ?_;have he:∃q,T.get? a=some q:=let⟨q,_,_,n,_⟩:=j;⟨q,n⟩;exact xJ I (by rw[e];exact ft) G he (Fs D x (i.put k M) j)
 ·subst p t;cases(show u=Value.ref b from L);obtain⟨z,x,xs,i,B⟩:=Hj I.hok I.kIn e;have C:xs.length<=ak:=by rw[<-Paired.length i];exact z
  have D:(fh f k v).length<=ak:=by have:=i6 f k v;omega
  refine wpAny_setItem_heap (hsz:=C) (im Y) (xz I.hok I.kIn (g8.c 8 m O) m) B fun T j G=>h _ ?_;obtain⟨q,es,ep,n,h2,h3,h4,_,h5⟩:=j;refine xJ I (by rw[e];exact ft) G ⟨q,n⟩ ⟨D,x,_,(i.put k (g8.c 8 m O) m M).keeps fun c ys U=>?_,q,es,ep,n,h2,h3,h4,h5⟩;rw[am (Hc U e (fun z=>nomatch z))];exact U
end
def Dv(i:Expr):Prop:=∀ov iv,wG i false ov iv=operate [ov,iv] (mQ ov iv)
theorem Gb{a:bq}{w:World}{A:Around}{E:Zc}{s:Shared}{k:Env}{value slice:Expr}{p:Pos}{T id:String}{Q:Zc}
  (t:jU (.type T) "__getitem__"=pure (some (.builtin id))) (u:Dv slice)
  (h:wpAny (model a w) A (eval value k) (fun o g=>wpAny (model a w) A (eval slice k) (fun i e=>e.TypeIs o T/\wpAny (model a w) A (mQ o i) Q E e) E g) E s) :
  wpAny (model a w) A (eval (.Subscript value slice p) k) Q E s:=by
 refine Subscript_ (dz h (fun o g m=>dz m (fun i e f=>?_) fun _ _ x=>x) fun _ _ x=>x);obtain⟨q,f⟩:=f;unfold subscriptTail;refine ah ?_;rw[getitemInPython_of_ne q.not_modules];refine ah (FN q t ?_);have l:wpAny (model a w) A (wG slice false o i) (fun r j=>wpAny (model a w) A (letTemporaryGo value o r >>= fun _=>pure r) Q E j) E e:=by
  rw[u o i];exact wpAny_operating (dz f (fun r j n=>ah (wpAny_letTemporaryGo (aw n))) fun _ _ x=>x)
 first
  |exact aw (ah l)
  |exact ah (aw (ah l))
  |exact ah l
theorem zi{X:Cx}{i:Zd}{σ:St}{H:Hp}{s:Shared}{a:Addr}{y:V}{o:Option V}(I:Inv X i σ H s)(g:yd X.K H a y o):s.TypeIs (.ref a) "dict":=by
 rcases g with⟨f,k,e,_,_⟩|⟨f,k,b,e,_,_,_⟩
 ·obtain⟨_,_,j,_,h⟩:=rG I.hok e;exact h.typeIs
 ·obtain⟨_,_,xs,_,h⟩:=um I.hok I.kIn e;exact h.typeIs
def vx(K:Za)(td ty:TE):TE:=fun σ H Q=>td σ H fun x H1=>ty σ H1 fun y H2=>∃a v,x=.ref a/\yd K H2 a y (some v)/\Q v H2
def Ga(K:Za)(ty td:TE):TE:=fun σ H Q=>ty σ H fun y H1=>td σ H1 fun x H2=>∃a o,x=.ref a/\yd K H2 a y o/\Q (.bl o.isSome) H2
def sr(K:Za)(ty td:TE):TE:=fun σ H Q=>ty σ H fun y H1=>td σ H1 fun x H2=>∃a o,x=.ref a/\yd K H2 a y o/\Q (.bl (!o.isSome)) H2
def vA(td ty tv:TE):TS:=fun D σ H=>tv σ H fun v H1=>td σ H1 fun x H2=>ty σ H2 fun y H3=>∃a H4,x=.ref a/\Jf H3 a y v H4/\D.nx σ H4
section
variable{X:Cx}{o i e value:Expr}{pos pos' J8:Pos}{td ty tv:TE}
theorem oR(m:X.A.units+16<cLine)(n:PE X o td)(hi:PE X i ty)(p:Dv i):PE X (.Subscript o i pos) (vx X.K td ty):=by
 intro k s σ H Q I h;refine Gb PySem.F.slot_dict_getitem.lookup p (cM (n k s σ H _ I h) fun u q ⟨x,r,t,w,z⟩=>cM (hi k q σ r _ t z) fun G J f=>?_);obtain⟨y,B,l,C,a,v,ex,g,D⟩:=f;subst ex;obtain rfl:u=Value.ref a:=w;exact⟨zi l g,Dm m l g C fun L M E j=>⟨v,B,E,j,D⟩⟩
theorem Ax(k:X.A.units+16<cLine)(hi:PE X i ty)(l:PE X o td):PC X .In i o (Ga X.K ty td):=by
 intro j s σ H Q I h;refine cM (hi j s σ H _ I h) fun D m ⟨y,n,p,q,r⟩=>cM (l j m σ n _ p r) fun u E f=>?_;obtain⟨x,t,v,w,a,z,ex,g,B⟩:=f;subst ex;obtain rfl:u=Value.ref a:=w;exact d_in k v g q fun G C=>⟨.bl z.isSome,t,C,rfl,B⟩
theorem qq(k:X.A.units+16<cLine)(hi:PE X i ty)(l:PE X o td):PC X .NotIn i o (sr X.K ty td):=by
 intro j s σ H Q I h;refine cM (hi j s σ H _ I h) fun D m ⟨y,n,p,q,r⟩=>cM (l j m σ n _ p r) fun u E f=>?_;obtain⟨x,t,v,w,a,z,ex,g,B⟩:=f;subst ex;obtain rfl:u=Value.ref a:=w;exact GQ k v g q fun G C=>⟨.bl (!z.isSome),t,C,rfl,B⟩
theorem oP(k:X.A.units+16<cLine)(l:PE X o td)(hi:PE X i ty)(m:PE X value tv)(n:mz value (some (.Subscript o i pos')) pos.line X.env=pure false):
  PS X (.Assign [.Subscript o i pos'] value pos) (vA td ty tv):=by
 intro f s σ H D I h;refine wpAny_Assign_Subscript (cM (m f s σ H _ I h) fun r p ⟨v,q,t,w,z⟩=>cM (l f p σ q _ t z) fun u B ⟨x,C,E,G,J⟩=>cM (hi f B σ C _ E J) fun T U j=>?_) n;obtain⟨y,Y,L,M,a,N,ex,g,O⟩:=j;subst ex;obtain rfl:u=Value.ref a:=G;exact Dl k L g M w fun s4 Q=>⟨σ,N,Q,O⟩
end
theorem Ft{P:bq}{w:World}{K:Za}{H:Hp}(h:Heap)(a:gK<h.objs.size):bT P w K H (h.push { cls:=.type "dict",data:=.dict #[] }) h.objs.size (.dK []) :=
 ⟨dA _,beq_eq_false_iff_ne.mpr (dv (bM a)),[],.nil,Heap.DictOf.new h⟩
theorem Fq{P:bq}{w:World}{K:Za}{H:Hp}(h:Heap)(a:gK<h.objs.size):bT P w K H (h.push { cls:=.type "dict",data:=.dict #[] }) h.objs.size (.dT []) :=
 ⟨dA _,beq_eq_false_iff_ne.mpr (dv (bM a)),[],.nil,_,#[],0,cJ _ rfl,⟨rfl,rfl,rfl⟩,rfl,rfl,wC⟩
def wW:TE:=fun _ H Q=>∀p,H p=none->Q (.ref p) (upd H p (.dK []))
def Ae:TE:=fun _ H Q=>∀p,H p=none->Q (.ref p) (upd H p (.dT []))
section
variable{X:Cx}{pos:Pos}
theorem t_:PE X (.Dict [] [] pos) wW:=fun e s σ H Q I h =>
 wpAny_Dict_empty ⟨.ref s.heap.objs.size,_,I.laid (a:=s.heap.objs.size) (o:=.dK []) (t':=s.toks) (fun _ _ q=>aS _ q) (aK _) (Ft s.heap I.big),rfl,h _ (I.hok.fresh (aK _))⟩
theorem yV:PE X (.Dict [] [] pos) Ae:=fun e s σ H Q I h =>
 wpAny_Dict_empty ⟨.ref s.heap.objs.size,_,I.laid (a:=s.heap.objs.size) (o:=.dT []) (t':=s.toks) (fun _ _ q=>aS _ q) (aK _) (Fq s.heap I.big),rfl,h _ (I.hok.fresh (aK _))⟩
end
def jr(kvs more:List (fD×V)):List (fD×V):=more.foldl (fun acc kv=>fh acc kv.1 kv.2) kvs
theorem KV.merge:∀{a:List (fD×V)}{i:List (fD×Value)}{f:List (fD×V)}{g:List (fD×Value)},KV a i->KV f g->KV (jr f a) (merged g i):=by
 intro a i f g r;unfold KV at r
 induction r generalizing f g with
 |nil=>intro q;exact q
 |@cons p q l qs h t j =>
  intro k;have e:KV (fh f p.1 p.2) (stored g q.1 q.2):=by
   have:=k.put p.1 h.2;rw[<-h.1];exact this
  exact j e
theorem mG:∀(e a:List (fD×V)),(jr a e).length<=a.length+e.length
 |[],a=>by show a.length<=a.length+0;omega
 |p::r,a=>by
  have f:=mG r (fh a p.1 p.2);have g:=i6 a p.1 p.2;show(jr (fh a p.1 p.2) r).length<=_;rw[c_];omega
structure M2(X:Cx)(o:Expr)(m:Str)(J6:Pos)(e f:Expr)(J5:Pos):Prop where
 base:sO o m X.env (eval o X.env)=eval o X.env
 few:((backTo J5 (ay [e,f] X.env)).all (fun x=>!x.1) && (jX J5 (jW [] X.env)).all (fun x=>x.1.isSome)
  && decide (([e,f]:List Expr).length+([]:List Keyword).length+(if([]:List Keyword).isEmpty then 0 else 1)<30))=true
 line:(J6.endLine==J5.line)=true
 trees:backTo J5 (ay [e,f] X.env)=[(false,eval e X.env),(false,eval f X.env)]
def IsD(H:Hp)(a:Addr):Prop:=(∃kvs,Rd H a (.dK kvs))∨∃kvs,Rd H a (.dT kvs)
theorem HZ{X:Cx}{l:Zd}{σ:St}{H:Hp}{s:Shared}{a:Addr}(I:Inv X l σ H s)(d:IsD H a):
  s.TypeIs (.ref a) "dict"/\(∀b,Value.ref a=.ref b->∃f,s.heap.get? b=some f/\f.dict=none)/\(a==gK)=false:=by
 rcases d with⟨h,e⟩|⟨h,e⟩
 ·obtain⟨_,i,m,_,g⟩:=rG I.hok e;refine⟨g.typeIs,fun b q=>?_,i⟩;cases q;obtain⟨f,_,_,j,k,_⟩:=g;exact⟨f,j,k.2.1⟩
 ·obtain⟨_,i,xs,_,g⟩:=um I.hok I.kIn e;refine⟨g.typeIs,fun b q=>?_,i⟩;cases q;obtain⟨f,_,_,j,k,_⟩:=g;exact⟨f,j,k.2.1⟩
section
variable{X:Cx}{J4:Zd}{σ:St}{H:Hp}{s:Shared}{a:Addr}{y d:V}{u r:Value}{o:Option V}{A:Around}{E:Zc}
theorem Ib{Q:Zc}(x:A.units+16<cLine)(I:Inv X J4 σ H s)(g:yd X.K H a y o)(p:RelV y u)(q:RelV d r)(h:∀t v,Inv X J4 σ H v->RelV (o.getD d) t->Q t v):
  wpAny (model X.prog X.w) A (call (.builtin "dict.get") [.ref a,u,r]) Q E s:=by
 rcases g with⟨j,k,e,m,l⟩|⟨j,k,b,e,m,B,C,l⟩
 ·subst m;obtain⟨z,n,D,f,i⟩:=rG I.hok e;refine call_meetsIn PySem.F.slot_dict_get i.typeIs PySem.F.entry_dict_get (PySem.F.args_dict_get_3 _ _ _) (meets_dict_get_default (cD X.prog X.w) a (rq p) n r) ⟨_,i.mapOf,h _ _ (I.tok _) ?_⟩;rw[l];exact(f.val k).getD q
 ·subst m;cases(show u=Value.ref b from p);obtain⟨z,n,xs,f,i⟩:=um I.hok I.kIn e;refine call_meetsIn PySem.F.slot_dict_get i.typeIs PySem.F.entry_dict_get (PySem.F.args_dict_get_3 _ _ _) (meetsH_dict_get_default (bw X.prog X.w) a b n r) ⟨im x,k,xs,xC I B C,i,h _ _ (I.tok _) ?_⟩;rw[l];exact(f.val k).getD q
end
def tS(K:Za)(td ty tx:TE):TE:=fun σ H Q=>td σ H fun x H1=>∃a,x=.ref a/\IsD H1 a/\ty σ H1 fun y H2=>tx σ H2 fun z H3=>∃o,yd K H3 a y o/\Q (o.getD z) H3
section
variable{X:Cx}{o e f:Expr}{J6 J5:Pos}{td ty tx:TE}
theorem oQ(n:X.A.units+16<cLine)(p:PE X o td)(q:PE X e ty)(hf:PE X f tx)(m:M2 X o "get" J6 e f J5):PE X (.Call (.Attribute o "get" J6) [e,f] [] J5) (tS X.K td ty tx):=by
 intro i s σ H Q I h;refine wpAny_Call_method m.base m.few m.line PySem.F.plainAttrs_dict PySem.F.slot_dict_get PySem.F.type_dict_get (cM (p i s σ H _ I h) fun u r j=>?_);obtain⟨x,t,l,v,a,ex,d,w⟩:=j;subst ex;obtain rfl:u=Value.ref a:=v;obtain⟨B,C,_⟩:=HZ l d;refine⟨B,C,?_⟩;rw[m.trees];refine wF rfl (Calls.evalArgs_plain (A_ (cM (q i r σ t _ l w) fun Y D ⟨y,E,G,J,L⟩ =>
  A_ (cM (hf i D σ E _ G L) fun fv s3 ⟨z,M,N,O,ov,g,T⟩=>Calls.spliced_nil ?_))))
 exact Ib n N g J O fun w' s4 U k=>⟨_,M,U,k,T⟩
end
end L2
namespace Att
open PySem PySem.W PySem.Calls PyProof.Rows
theorem ints_of_wellAll{P:Params}{h:Heap}:∀(e:List Int) (vs:Zf),WellAll P h vs (e.map WData.int)->tu vs e:=by
 intro e
 induction e with
 |nil =>
  intro vs w;rw[List.map_nil]at w;cases w;exact .nil
 |cons n e f =>
  intro vs w;rw[cg]at w;cases w with
  |cons a b =>
   cases a;exact .cons _ _ (f _ b)
theorem script_of{l:OpenLaw}{n:Nat}(u:l.most=some n){P:Params}{h:Heap}{args:List WData}{f:Zf}
  (g:l.row.toRowW.claim.pre args=true) (o:WellAll P h f args) :
  ∃a s e,f=[Value.ref a]/\args=[WData.list (e.map WData.int)]/\h.get? a=some { cls:=.type "list",data:=.seq s.toArray }/\tu s e/\e.length<=n:=by
 have p:WShape.hasAll [] args [.list .int]=true:=(pre_splitW g).1;have t:l.pre.holds [] { args:=args }=true:=(pre_splitW g).2;obtain⟨d,r,rfl,v,w⟩:=hasAllW_cons p;obtain rfl:=hasAllW_nil w;obtain⟨xs,rfl,x⟩:=hasW_list v;obtain⟨e,rfl⟩:=items_int x;have i:e.length<=n:=by
  unfold OpenLaw.pre at t;have k:(WTm.not (.lt (.lit (.int (n:Int))) (.len (.arg 0)))).holds [] { args:=[.list (e.map .int)] }=true:=by
   have k:=(holds_andW t).1;rw[u]at k;exact k
  have m:=condW_of k (w_not (w_lt w_lit (w_len_list (w_arg rfl))));rw[ai]at m;refine Nat.le_of_not_lt fun q=>?_;have y:(n:Int)<((e.length:Nat):Int):=by omega
  first
   | (rw[zzr1 y]at m;exact absurd m (by decide))
   | (simp at m;omega)
 cases o with
 |cons z A =>
  cases A;cases z with
  |list B j=>exact⟨_,_,e,rfl,rfl,B,ints_of_wellAll e _ j,i⟩
theorem post_true(l:OpenLaw)(args:List WData):l.row.toRowW.claim.post args (.bool true) args=true :=
 postW_of (r:=l.row.toRowW) (X:=(true==true))
  (show WShape.has [] (.bool true) .bool=true by first|rfl|decide|simp[WShape.has,WShape.arms,WShape.armsAll])
  (show(WTm.eq .res (.lit (.bool true))).value [] { args:=args,res:=some (.bool true),after:=args }=some (.bool (true==true))from w_eq_bool (w_res rfl) w_lit) rfl
theorem attach_call{l:OpenLaw}{n:Nat}{q:bq}{loose:Zb}{B:(Str->Option Value)->Heap->Prop}{C:World->Heap->Prop}{d:DefRec}
  (I:l.most=some n) (u:d.params.defaults=[])
  (call:∀(w:World) (g e:Shared) (p v:Str->Option Value) (i:Addr) (o:Obj) (x cd doc:Value) (a:Addr) (h:Zf) (s:List Int),
   Ground q loose [] B w g p v e.heap->C w e.heap ->
   e.heap.get? i=some o->o.data=.func (docDef d.name d.params d.body d.scope x cd doc)->e.heap.CodeRec cd d.name->p d.name=some (.ref i) ->
   e.heap.get? a=some { cls:=.type "list",data:=.seq h.toArray }->tu h s->s.length<=n->e.gens=#[] ->
   zzl86 (model l.prog w) kT (.call (.ref i) ⟨[.ref a],[]⟩) (fun r t=>r=.ok (.ret (.bool true))/\OldK e.heap t.heap/\t.os=e.os/\mB t.gens) e) :
  WalkO q loose B C l.row.toRowW d [] (fun f h=>PySem.call f h):=by
 intro w g e p v G Y i o x cd doc J kV L M y D z N args E as j H O A Q;obtain rfl:J=.none:=Dflts.none D u;obtain rfl:kV=.none:=Dflts.noKw D;obtain⟨a,h,s,rfl,rfl,k,hints,m⟩:=script_of I j A;refine enter_call (pT (call w g e p v i o x cd doc a h s G Y L (fd_plain M) y z k hints m N) fun r t T=>?_);obtain⟨rfl,U,h3,h4⟩:=T;exact⟨.inl ⟨.bool true,.bool true,[],rfl,fun _=>rfl,.bool true,post_true l _,fun _=>⟨List.Pairwise.nil,fun _ hm=>(nomatch hm)⟩⟩,U,h3,h4⟩
end Att
namespace L2
open PySem PySem.Spec PyProof.Rows
theorem vm:∀{a:Zf}{e:List Int},tu a e->bp (e.map V.int) a
 |_,_,.nil=>.nil
 |_,_,.cons n t h=>.cons ⟨t,rfl⟩ (vm h)
def GW(H:Hp):Prop:=∀b,H b=none∨∃o xs,H b=some (.frz o (.lst xs))
theorem Fc{P:bq}{w:World}{K:Za}{A Q:Str->Option Value}{CX:DC}{k:Nat}{T a:Addr}{fd:hV}{x:Str}{sp:Sp}{f:Shared}{t:Zf}{B:List Int}
  (KX:K.In f.heap) (C:f.heap.Ns bH A) (i:f.heap.Ns builtinsNs Q) (U:∀x:Str,x≠"__name__"->Q x=iV x) (D:f.heap.NoLimit) (hg:f.gens=#[])
  (O:f.heap.get? a=some { cls:=.type "list",data:=.seq t.toArray }) (hi:tu t B) (hl:B.length<=ak) (hr:dF k kT)
  (F:∀base:Heap,K.In base->base.Ns bH A->iN P w K A base CX k T fd [x] sp) (y:∀(s:Shared) (u:Value),mV s fd ⟨[u],[]⟩ [(x,u)])
  (Y:∀H:Hp,GW H->av K H a (B.map V.int)->sp [.ref a] H (fun v _=>v=.bl true) fun _ _ _=>False)
  (ab:∀H e j,CX [] H f (fun _ _ _=>False) e j->False) :
  zzl86 (model P w) kT (.call (.ref T) ⟨[.ref a],[]⟩) (fun r j=>r=.ok (.ret (.bool true))/\OldK f.heap j.heap/\j.os=f.os/\mB j.gens) f:=by
 have rv:=vm hi;have E:=hi.length;have p:∀H:Hp,GW H->av K H a (B.map V.int)->kg P w K H f.heap->(∀b,H b≠none->b=a)->(H a≠none->K.lookup a=none) ->
   zzl86 (model P w) kT (.call (.ref T) ⟨[.ref a],[]⟩) (fun r j=>r=.ok (.ret (.bool true))/\OldK f.heap j.heap/\j.os=f.os/\mB j.gens) f:=by
  intro H hO hS G hA hK;have g:∀{b:Addr}{o:Obj},f.heap.get? b=some o->H b=none->(xE f.heap H).get? b=some o:=fun e n=>Fi e n;have al:∀{b:Addr}{o:Obj}{es:Array iC}{I:Nat},f.heap.get? b=some o->o.data=.dict es I->H b=none:=fun{b o es I} e d=>by
   cases q:H b with
   |none=>rfl
   |some u =>
    have e':b=a:=hA b (by rw[q];simp);subst e';rw[O]at e;cases e;have d':Data.seq t.toArray _=Data.dict es I:=d;cases d'
  have l:∀{b:Addr}{m:Str->Option Value},f.heap.Ns b m->(xE f.heap H).Ns b m:=fun{b m} ⟨o,es,I,e,d,r⟩=>⟨o,es,I,g e (al e d),d,r⟩;have J:K.In (xE f.heap H):=fun b o e=>g (KX b o e) (by
   cases q:H b with
   |none=>rfl
   |some u =>
    have e':b=a:=hA b (by rw[q];simp);subst e';rw[hK (by rw[q];simp)]at e;cases e)
  have hM:Mod K A (xE f.heap H):=⟨J,l C,⟨Q,l i,U⟩,let⟨mc,h1,h2⟩:=D;⟨mc,l h1,h2⟩⟩;have e0:A8 P w K A (xE f.heap H) kT [] f H:=⟨rfl,hM,fun b o e=>GC e,Nat.le_of_eq (Dg _ _),trivial,fun b i=>absurd (show b∈([]:Ze)from i) (by simp),G,.of_eq hg⟩;refine pT ((F _ J (l C)).run kT [] f H ⟨[.ref a],[]⟩ [.ref a] [.ref a] _ _ hr e0 (y f (.ref a)) (.cons rfl .nil) (Y H hO hS)) fun r j h=>?_;cases r with
  |error e=>exact(ab H e j h).elim
  |ok fl =>
   cases fl with
   |next=>exact da h
   |brk=>exact da h
   |cont=>exact da h
   |ret u =>
    obtain⟨v,H',os,L,un,M,r',q⟩:=h;have q':v=.bl true:=q;subst q';obtain rfl:u=Value.bool true:=r';refine⟨rfl,OldK.of_keep fun b o e=>?_,os,L⟩;cases q:H b with
    |none=>exact un.keep b o e q (by intro z;exact absurd (show b∈([]:Ze)from z) (by simp)) (by simp)
    |some u =>
     rcases hO b with z|⟨ob,xs,z⟩
     ·rw[q]at z;cases z
     ·have z2:=un.frzs b ob _ z;obtain⟨e1,_⟩:=G b _ z;obtain⟨e2,_⟩:=M b _ z2;rw[e]at e1;cases e1;exact e2
 cases hk:K.lookup a with
 |some o =>
  have e:=KX a o hk;rw[O]at e;cases e;refine p (fun _=>none) (fun _=>.inl rfl) (.inr ⟨_,t.toArray,_,hk,rfl,rfl,rfl,by rw[bZ,E];exact hl,by simpa using rv⟩) (fun b u z=>by have N:(none:Option HO)=some u:=z;cases N) (fun b z=>absurd rfl z) fun z=>absurd rfl z
 |none =>
  refine p (fun b=>if b=a then some (.frz { cls:=.type "list",data:=.seq t.toArray } (.lst (B.map V.int)))else none) (fun b=>?_) (.inl (.inr ⟨{ cls:=.type "list",data:=.seq t.toArray },if_pos rfl⟩)) (fun b u z=>?_) (fun b z=>?_) fun _=>hk
  ·by_cases i:b=a
   ·exact .inr ⟨_,_,if_pos i⟩
   ·exact .inl (if_neg i)
  ·by_cases i:b=a
   ·have N:=(if_pos i).symm.trans z;cases N;subst i;exact⟨O,by rw[ai];exact hl,t,_,rv,O⟩
   ·have N:=(if_neg i).symm.trans z;cases N
  ·by_cases i:b=a
   ·exact i
   ·exact absurd (if_neg i) z
end L2
namespace L2
open PySem PySem.Spec PyProof.Rows
theorem FU{l:PySem.W.OpenLaw}{n k:Nat}{q:bq}{loose:Zb}{N:(Str->Option Value)->Heap->Prop}{I:World->Heap->Prop}{d:DefRec}{K:Params->Za}{CX:World->DC}{sp:World->Sp}{x:Str}
  (O:l.most=some n) (y:n<=ak) (z:d.params.defaults=[]) (Q:dF k kT)
  (U:∀(w:World) (h:Heap),I w h->(K w.params).In h)
  (F:∀(w:World) (j:Str->Option Value) (r:Addr) (h:Heap),(K w.params).In h->h.Ns bH j->j d.name=some (.ref r) ->
   ∃A:hV,(∀(s:Shared) (u:Value),mV s A ⟨[u],[]⟩ [(x,u)]) /\
    ∀base:Heap,(K w.params).In base->base.Ns bH j->iN l.prog w (K w.params) j base (CX w) k r A [x] (sp w))
  (B:∀(w:World) (H:Hp) (a:Addr) (t:List Int),t.length<=n->GW H->av (K w.params) H a (t.map V.int)->sp w [.ref a] H (fun v _=>v=.bl true) fun _ _ _=>False)
  (C:∀(w:World) (H:Hp) (s:Shared) (e:Value) (D:Shared),CX w [] H s (fun _ _ _=>False) e D->False) :
  PySem.W.WalkO q loose N I l.row.toRowW d [] (fun f J=>PySem.call f J):=by
 refine Att.attach_call O z fun w L m j mb r o pm cd doc a J t G Y ho hd ab E p hints i hg=>?_;have M:=U w _ Y;obtain⟨A,hb,hF⟩:=F w j r _ M G.T.g E;exact Fc M G.T.g G.T.b G.T.builtins G.T.nolimit hg p hints (bW i y) Q hF hb (fun H hO hS=>B w H a t i hO hS) fun H e D=>C w H m e D
theorem walk_ofK{l:PySem.W.OpenLaw}{n k:Nat}{q:bq}{loose:Zb}{A:(Str->Option Value)->Heap->Prop}{t:World->Heap->Prop}{d:DefRec}{K:Params->Za}{CX:DC}{sp:Za->Sp}{x:Str}
  (B:l.most=some n) (j:n<=ak) (m:d.params.defaults=[]) (C:dF k kT)
  (D:∀(w:World) (h:Heap),t w h->(K w.params).In h)
  (F:∀(w:World) (g:Str->Option Value) (y:Addr) (h:Heap),(K w.params).In h->h.Ns bH g->g d.name=some (.ref y) ->
   ∃z:hV,(∀(s:Shared) (u:Value),mV s z ⟨[u],[]⟩ [(x,u)]) /\
    ∀base:Heap,(K w.params).In base->base.Ns bH g->iN l.prog w (K w.params) g base CX k y z [x] (sp (K w.params)))
  (o:∀(K:Za) (H:Hp) (a:Addr) (i:List Int),i.length<=n->GW H->av K H a (i.map V.int)->sp K [.ref a] H (fun v _=>v=.bl true) fun _ _ _=>False)
  (p:∀(H:Hp) (s:Shared) (e:Value) (r:Shared),CX [] H s (fun _ _ _=>False) e r->False) :
  PySem.W.WalkO q loose A t l.row.toRowW d [] (fun f E=>PySem.call f E) :=
 FU (K:=K) (CX:=fun _=>CX) (sp:=fun w=>sp (K w.params)) B j m C D F (fun w H a i G I J=>o (K w.params) H a i G I J) fun _ H s e r=>p H s e r
end L2
namespace L2
open PySem PySem.Spec PyProof.Rows
def ii(s:Stmt)(j:Nat):Stmt:=match s with
 |.ClassDef _ _ _ body _ _ _ _ _ _ _=>body.getD j (.Pass ⟨0,0,0,0⟩)
 |_=>.Pass ⟨0,0,0,0⟩
def ik(s:Stmt):Arguments:=match s with
 |.FunctionDef _ a _ _ _ _ _ _ _ _=>a
 |_=>{ posonlyargs:=[],args:=[],vararg:=none,kwonlyargs:=[],kw_defaults:=[],kwarg:=none,defaults:=[] }
def eZ(s:Stmt):List Stmt:=match s with
 |.FunctionDef _ _ b _ _ _ _ _ _ _=>b
 |_=>[]
def bz(s:Stmt):Scope:=match s with
 |.FunctionDef _ _ _ _ _ _ sc _ _ _=>sc
 |_=>{ kind:=.function,names:=[],isGenerator:=false,isCoroutine:=false }
abbrev CX0:DC:=fun _ _ _ _ _ _=>False
abbrev E0:XK:=fun _ _ _=>False
abbrev aO(sp:Sp)(a:TA):TE:=q_ sp [] E0 a
theorem BQ{X:Cx}:nI CX0 X E0:=fun _ _ _ _ _ _ _ h=>h.elim
structure Hy(K:Za)(x qual:Str)(st:Stmt)(f:Addr)(fd:hV):Prop where
 ex:∃(oc:Value) (od:Option Addr) (kV doc pm:Value) (an:Option Addr) (cdv ct:Value) (osl:Array (Option Value)),
  fd=iE x qual (ik st) (eZ st) (bz st) .none kV doc pm an cdv ct/\K.lookup f=some ⟨oc,od,.func fd,osl⟩/\mR K cdv qual=true
 kp:ee K (.ref f)=true
section
variable{P:bq}{w:World}{K:Za}{mg:Str->Option Value}{base:Heap}
theorem Hy.ok{x a:Str}{st:Stmt}{f:Addr}{o:hV}{N j:Zb}{k:Nat}{l:Sp}(F:Hy K x a st f o)(S:gG N j (bz st))(len:∀g H Q E,l g H Q E->g.length=j.length)
  (i:∀(e:Value) (A:Around) (outer:List Env) (s:Shared) (H:Hp) (g:List V) (Q:VK) (E:XK),dF k (A.deeper (envOfC a (bz st) s.heap.objs.size f e))->l g H Q E ->
   ∃t,vW (u_ CX0 P w K mg base N a (bz st) f e A outer s H E).nox (eZ st) t/\t (bQ Q) (start N g) H):iN P w K mg base CX0 (k+1) f o j l:=by
 obtain⟨u,v,kV,doc,y,z,e,B,p,rfl,lk,m⟩:=F.ex;refine Hi lk m S len fun A outer s H g Q E r n=>?_;obtain⟨t,h,q⟩:=i e A outer s H g Q E r n;exact⟨t,h.nox,q⟩
theorem Hy.binds{x a:Str}{st:Stmt}{f:Addr}{l:hV}{ps:Zb}(F:Hy K x a st f l)
  (h:∀(kV doc g:Value) (i:Option Addr) (e j:Value) (k:Zf),k.length=ps.length->bindArgs (iE x a (ik st) (eZ st) (bz st) .none kV doc g i e j) ⟨k,[]⟩=pure (ps.zip k)):Binds K l ps []:=by
 obtain⟨o,p,kV,doc,g,i,e,j,m,rfl,lk,n⟩:=F.ex;exact .all (h kV doc g i e j)
theorem Fm{x a:Str}{st:Stmt}{f:Addr}{m:Value}{n h:Option Addr}{g:Array (Option Value)}{kV doc i e j:Value}(l:K.lookup f=some ⟨m,n,.func (iE x a (ik st) (eZ st) (bz st) .none kV doc i h e j),g⟩)
  (c:mR K e a=true) (k:ee K (.ref f)=true):Hy K x a st f (iE x a (ik st) (eZ st) (bz st) .none kV doc i h e j):=⟨⟨m,n,kV,doc,i,h,e,j,g,rfl,l,c⟩,k⟩
end
theorem vJ{A:Around}{k:Nat}(a:dF k A):A.units+16<cLine:=Nat.lt_of_le_of_lt (Nat.add_le_add_left (by decide:16<=64) _) a.units
theorem ar{n:Nat}(h:n<=2000):n<ak:=Nat.lt_of_le_of_lt h (by decide)
section
variable{X:Cx}
theorem pv(i:Nat){x:Str}{a:Pos}(f:X.N[i]?=some x:=by rfl)(g:Vis X.env.scope x:=by first|exact Or.inl rfl|exact Or.inr (Or.inl rfl)|exact Or.inr (Or.inr rfl))(h:(x==("__debug__":Str))=false:=by decide)
  (e:(x==("__classdict__":Str))=false:=by decide):PE X (.Name x a) (k9 i):=HM f g h e
end
theorem bv{A B:Prop}(h:B):if false=true then A else B:=by
 rw[if_neg gH];exact h
theorem bC{A B:Prop}(h:A):if true=true then A else B:=by
 rw[if_pos rfl];exact h
theorem qE{c A B:Prop}[Decidable c](a:c->A)(e:¬c->B):if c then A else B:=by
 by_cases h:c
 ·rw[if_pos h];exact a h
 ·rw[if_neg h];exact e h
def ac(H H':Hp):Prop:=∀b o,H b=some o->H' b=some o
theorem ac.refl(H:Hp):ac H H:=fun _ _ h=>h
theorem ac.trans{H e f:Hp}(a:ac H e)(b:ac e f):ac H f:=fun c o h=>b c o (a c o h)
theorem ac.free{H a:Hp}(e:ac H a){l:Addr}(h:a l=Option.none):H l=Option.none:=by
 cases q:H l with
 |none=>rfl
 |some o =>
  rw[e l o q]at h;cases h
theorem ac.seq{K:Za}{H f:Hp}{a:Addr}{xs:List V}(e:ac H f)(h:av K H a xs):av K f a xs:=by
 rcases h with(h|⟨o,h⟩)|h
 ·exact .inl (.inl (e _ _ h))
 ·exact .inl (.inr ⟨o,e _ _ h⟩)
 ·exact .inr h
section
variable{prog:bq}{w:World}{A:Around}{R:Result->Shared->Prop}{s:Shared}
abbrev XF:Value->Shared->Prop:=fun _ _=>False
abbrev AI(ifs:List Expr)(env:Env):Sem Bool:=forIn ifs true fun c r=>if r=true then do let ok <- isTrue c env (eval c env);pure (wB ok)else pure (wB r)
theorem xK{t target j:Expr}{u:List Expr}{scope:Scope}{B:Pos}{it y:Value}{a:Env}(I:Nat->Shared->Prop)
  (turn:∀n s,I n s->wpAny (model prog w) A (pyNext it) (fun r e=>match r with
   |none=>R (.ok .next) e
   |some v=>wpAny (model prog w) A (Bg target it v) (fun _ f=>wpAny (model prog w) A (assign target a v) (fun _ k =>
     wpAny (model prog w) A (AI u a) (fun ok g =>
      if ok=true then wpAny (model prog w) A (eval t a) (fun x l =>
       wpAny (model prog w) A (call (.builtin "list.append") [y,x]) (fun _ o=>∃m,m<n/\I m o) XF l) XF g
      else ∃m,m<n/\I m g) XF k) XF f) XF e) XF s)
  (n:Nat) (h:I n s):zzl86 (model prog w) A (.compLoop (.ListComp t [⟨target,j,u,0⟩] scope B) 0 it y a) R s:=by
 refine codeAny_loop rfl I (fun n s G=>?_) n h;show wpAny _ A ((compTurn (.ListComp t [⟨target,j,u,0⟩] scope B) 0 it y a).onRaise (fun x=>do pM x a;theTreesLotGoes x)) _ _ s
 refine wpAny_noted ?_;rw[compTurn_list];refine ah (sP (ah (dz (turn n s G) (fun r e p=>?_) fun _ _ i=>i.elim)));cases r with
 |none=>exact aw p
 |some v =>
  refine ah (dz p (fun _ f z=>?_) fun _ _ i=>i.elim);refine ah (dz z (fun _ k C=>ah (dz C (fun ok g q=>?_) fun _ _ i=>i.elim)) fun _ _ i=>i.elim);cases ok with
  |false=>exact aw ⟨rfl,q⟩
  |true =>
   exact ah (ah (dz q (fun x l D=>ah (dz D (fun _ o E=>aw (aw ⟨rfl,E⟩)) fun _ _ i=>i.elim)) fun _ _ i=>i.elim))
end
theorem nB{env:Env}:∀(names:List (Str×f_)) (a:List (Str×Addr)),(∀y∈names,y.2=.free->∃c,env.cells.lookup y.1=some c)->(∀x c,a.lookup x=some c->env.cells.lookup x=some c) ->
  ∃f:List (Str×Addr),(forIn names a fun(x:Str×f_) (r:List (Str×Addr))=>if(x.2==kS)=true then(cellOf env x.1 >>= fun c=>(pure (wB ((x.1,c)::r)):Sem (ForInStep (List (Str×Addr)))))else pure (wB r))=pure f /\
   (∀x c,f.lookup x=some c->env.cells.lookup x=some c)/\(∀x,(a.lookup x).isSome=true->(f.lookup x).isSome=true)/\∀y∈names,y.2=.free->(f.lookup y.1).isSome=true
 |[],a,_,m=>⟨a,rfl,m,fun _ h=>h,fun _ h=>nomatch h⟩
 | (n,k)::r,a,has,m=>by
  have t:∀y∈r,y.2=.free->∃c,env.cells.lookup y.1=some c:=fun y hy=>has y (eU _ hy);by_cases p:k=.free
  ·subst p;obtain⟨c,u⟩:=has (n,.free) eL rfl;obtain⟨f,e,q,o,s⟩:=nB r ((n,c)::a) t (fun x d l=>by
    rw[iB]at l;cases hx:x==n with
    |true =>
     rw[hx]at l;have:x=n:=by simpa using hx
     subst this;cases l;exact u
    |false=>rw[hx]at l;exact m x d l)
   have g:(((n,c)::a).lookup n).isSome=true:=by rw[iB,beq_self_eq_true];rfl
   have i:∀x,(a.lookup x).isSome=true->(((n,c)::a).lookup x).isSome=true:=fun x hx=>by
    rw[iB];cases x==n with
    |true=>rfl
    |false=>exact hx
   refine⟨f,?_,q,fun x hx=>o x (i x hx),fun y hy hf=>?_⟩
   ·rw[tq];have j:cellOf env n=pure c:=by unfold cellOf;rw[u]
    simp only[beq_self_eq_true,if_true,j];exact e
   ·rcases cK.mp hy with rfl|hy
    ·exact o _ g
    ·exact s y hy hf
  ·obtain⟨f,e,q,o,s⟩:=nB r a t m;refine⟨f,?_,q,o,fun y hy hf=>?_⟩
   ·rw[tq];have v:(k==kS)=false:=by simpa using p
    simp only[v,kO,if_false];exact e
   ·rcases cK.mp hy with rfl|hy
    ·exact absurd hf p
    ·exact s y hy hf
theorem ux{env:Env}{scope:Scope}(has:∀y∈scope.names,y.2=.free->∃c,env.cells.lookup y.1=some c):
  ∃a:List (Str×Addr),closureFor scope env=pure a/\(∀x c,a.lookup x=some c->env.cells.lookup x=some c)/\∀y∈scope.names,y.2=.free->(a.lookup y.1).isSome=true:=by
 obtain⟨a,e,f,_,g⟩:=nB (env:=env) scope.names [] has (fun _ _ h=>nomatch h);refine⟨a,?_,f,g⟩;unfold closureFor
 first
  |exact e
  | (simp only[bind_pure];exact e)
  | (rw[show(forIn scope.names [] _:Sem (List (Str×Addr)))=pure a from e];rfl)
def dL(X:Cx)(N:Zb)(scope:Scope)(C:Addr)(cl:List (Str×Addr))(s₀:Shared)(H₀:Hp)(ex:Ze)(pn:Zd):Cx where
 prog:=X.prog
 w:=X.w
 K:=X.K
 mg:=X.mg
 base:=X.base
 A:=X.A
 N:=N
 s₀:=s₀
 H₀:=H₀
 env:=compEnvC scope cl C X.env
 outer:=X.stack
 stack:=X.stack
 ex:=ex
 fn:=fun _=>false
 calm:=X.calm
 pn:=pn
 xe:=XF
def mm(sc scope:Scope)(k:Nat)(N XN:Zb)(fi:List Nat):Bool :=
 decide (scope.kind=.function) &&
 (scope.names.all fun y=>decide (y.2≠.cell) && (decide (y.2≠.local) || decide (scope.names.lookup y.1=some .local)) && (decide (y.2≠.free) || decide (sc.names.lookup y.1=some .cell) || decide (sc.names.lookup y.1=some .free))) &&
 decide (N.length=k+fi.length) &&
 ((mC fi.length).all fun j=>match fi[j]? with
  |some i=>match N[k+j]?,XN[i]? with
   |some x,some y=>decide (x=y) && decide (scope.names.lookup x=some .free)
   |_,_=>false
  |none=>false)
structure nP(sc scope:Scope)(k:Nat)(N XN:Zb)(fi:List Nat):Prop where
 kind:scope.kind=.function
 cell:∀y∈scope.names,y.2≠.cell
 nm:∀y∈scope.names,y.2=.local->scope.names.lookup y.1=some .local
 fr:∀y∈scope.names,y.2=.free->sc.names.lookup y.1=some .cell∨sc.names.lookup y.1=some .free
 len:N.length=k+fi.length
 sl:∀j i,fi[j]?=some i->∃x,N[k+j]?=some x/\XN[i]?=some x/\scope.names.lookup x=some .free
theorem nP.of{sc scope:Scope}{k:Nat}{N g:Zb}{l:List Nat}(h:mm sc scope k N g l=true):nP sc scope k N g l:=by
 unfold mm at h;simp only[wA,List.all_eq_true,Bool.or_eq_true,decide_eq_true_eq]at h;obtain⟨⟨⟨n,m⟩,o⟩,p⟩:=h;refine⟨n,fun y f=>(m y f).1.1,fun y f e=>((m y f).1.2).resolve_left fun z=>z e,fun y f e=>?_,o,fun j i e=>?_⟩
 ·rcases(m y f).2 with(z|z)|z
  ·exact absurd e z
  ·exact .inl z
  ·exact .inr z
 ·have r:j<l.length:=(bG.mp e).1;have q:=p j (List.mem_range.mpr r);rw[e]at q;dsimp only at q;cases a:N[k+j]? with
  |none=>rw[a]at q;cases q
  |some x =>
   cases b:g[i]? with
   |none=>rw[a,b]at q;cases q
   |some y =>
    rw[a,b]at q;simp only[wA,decide_eq_true_eq]at q;exact⟨x,rfl,by rw[q.1],q.2⟩
theorem hZ{a:Env}:∀{names:List (Str×f_)}{x:Str},names.lookup x=some .free ->
  (names.map fun(n,k)=>if(k==kS && a.scope.kind==.function && a.kindOf n==some .cell)then(n,f_.cell)else(n,k)).lookup x=some .cell ∨
  (names.map fun(n,k)=>if(k==kS && a.scope.kind==.function && a.kindOf n==some .cell)then(n,f_.cell)else(n,k)).lookup x=some .free
 |[],_,h=>by simp at h
 | (n,k)::r,x,h=>by
  have f:=@hZ a r x;simp only[cg];cases hx:x==n with
  |true =>
   simp only[iB,hx]at h;cases h;by_cases e:(kS==kS && a.scope.kind==.function && a.kindOf n==some .cell)=true
   ·left;rw[if_pos e];simp[iB,hx]
   ·right;rw[if_neg e];simp[iB,hx]
  |false =>
   simp only[iB,hx]at h;by_cases e:(k==kS && a.scope.kind==.function && a.kindOf n==some .cell)=true
   ·rw[if_pos e];simp only[iB,hx];exact f h
   ·rw[if_neg e];simp only[iB,hx];exact f h
def cx(k:Nat)(fi:List Nat)(σ:St):St:=jV k none++fi.map fun i=>(σ[i]?).join
theorem AO(k:Nat)(a:List Nat)(σ:St):(cx k a σ).length=k+a.length:=by simp[cx]
theorem uw{k:Nat}{f:List Nat}{σ:St}{i:Nat}{v:V}(h:(cx k f σ)[i]?=some (some v)):∃j t,i=k+j/\f[j]?=some t/\σ[t]?=some (some v):=by
 unfold cx at h;by_cases hi:i<k
 ·rw[pQ (by simpa using hi),List.getElem?_replicate_of_lt hi]at h;cases h
 ·rw[wH (by simp;omega),List.length_replicate,cH]at h;refine⟨i-k,?_⟩;cases e:f[i-k]? with
  |none=>rw[e]at h;cases h
  |some t =>
   rw[e]at h;simp only[tz]at h;refine⟨t,by omega,rfl,?_⟩;have a:=eM h;cases g:σ[t]? with
   |none=>rw[g]at a;cases a
   |some o=>rw[g]at a;simp only[Option.join]at a;first|(rw[a])|(subst a;rfl)|(simpa using a)
def zA(k:Nat)(g:TG):Prop:=∀x σ H Q,g x σ H Q->g x σ H fun σ2 H2=>Q σ2 H2/\σ2.length=σ.length/\∀i,k<=i->σ2[i]?=σ[i]?
def Ch(k:Nat)(g:DF):Prop:=∀x σ H Q,g x σ H Q->g x σ H fun σ2 H2=>Q σ2 H2/\σ2.length=σ.length/\∀i,k<=i->σ2[i]?=σ[i]?
theorem aU{k i:Nat}(h:i<k):zA k (dI i):=fun x σ H Q q=>⟨q,by simp,fun j a=>by rw[Bj (by omega)]⟩
theorem jD{k:Nat}:Ch k gR:=fun x σ H Q ⟨e,q⟩=>⟨e,q,rfl,fun _ _=>rfl⟩
def FJ(g:TG):Prop:=∀x σ H Q Q',(∀σ2 H2,Q σ2 H2->Q' σ2 H2)->g x σ H Q->g x σ H Q'
def x_(g:DF):Prop:=∀x σ H Q Q',(∀σ2 H2,Q σ2 H2->Q' σ2 H2)->g x σ H Q->g x σ H Q'
theorem bh{i:Nat}:FJ (dI i):=fun _ _ _ _ _ f q=>f _ _ q
theorem cA:x_ gR:=fun _ _ _ _ _ f ⟨e,q⟩=>⟨e,f _ _ q⟩
theorem du{g:TG}{u:DF}(a:FJ g)(h:x_ u):x_ (be g u):=fun _ _ _ _ _ f ⟨v,r,e,q⟩=>⟨v,r,e,a _ _ _ _ _ (fun _ _ q=>h _ _ _ _ _ f q) q⟩
theorem cz{k:Nat}{g:TG}{u:DF}(a:zA k g)(f:FJ g)(h:Ch k u)(j:x_ u):Ch k (be g u):=fun x σ H Q ⟨v,r,e,q⟩ =>
 ⟨v,r,e,f _ _ _ _ _ (fun σ2 p ⟨q,l,s⟩=>j _ _ _ _ _ (fun σ3 t ⟨m,n,o⟩=>⟨m,n.trans l,fun i hi=>(o i hi).trans (s i hi)⟩) (h _ _ _ _ q)) (a _ _ _ _ q)⟩
theorem md{K:Za}{k n:Nat}{t:DF}(h:Ch k t):zA k (g6 K n t):=fun x σ H Q ⟨a,xs,e,f,g,q⟩=>⟨a,xs,e,f,g,h _ _ _ _ q⟩
def Hv(X:Cx)(ifs:List Expr)(t:TT):Prop :=
 ∀(J4:Zd) (s:Shared) (σ:St) (H:Hp) (Q:Bool->Hp->Prop),Inv X J4 σ H s->t σ H Q->wpAny (model X.prog X.w) X.A (AI ifs X.env) (TP X J4 σ Q) X.xe s
def jn:TT:=fun _ H Q=>Q true H
theorem dh{X:Cx}:Hv X [] jn:=fun a s σ H Q I h=>aw ⟨H,I,h⟩
theorem fP{X:Cx}{c:Expr}{t:TT}(h:PT X c t):Hv X [c] t:=by
 intro a s σ H Q I e;unfold AI;rw[tq];simp only[if_true];refine ah (ah (cM (h a s σ H Q I e) fun b f q=>aw ?_));exact aw q
def dg(k:Nat)(fi:List Nat)(wi:TI)(g:TG)(tc:TT)(te:TE):TE:=fun σ H Q=>wi σ H fun J H1=>∀l,H1 l=none->∃W:Nat->Nat->List V->Hp->Prop,(∃m,W 0 m [] (upd H1 l (.lst [])))/\∀i m vs H2,W i m vs H2->H2 l=some (.lst vs) /\
 ((J.stop i H2/\Q (.ref l) H2)∨(J.go i H2/\∀x H3,J.yld i H2 x H3->g x (cx k fi σ) H3 fun σ2 H4=>tc σ2 H4 fun b H5 =>
  if b=true then te σ2 H5 fun v H6=>H6 l=some (.lst vs)/\vs.length<ak/\∃m',m'<m/\W (i+1) m' (vs++[v]) (upd H6 l (.lst (vs++[v])))else ∃m',m'<m/\W (i+1) m' vs H5))
section
variable{X:Cx}{J4:Zd}{σ:St}
theorem GU{k:Nat}{N:Zb}{scope:Scope}{E:List Nat}{H:Hp}{s:Shared}{t:List (Str×Addr)}{u:Ze}(S:nP X.env.scope scope k N X.N E)(I:Inv X J4 σ H s)
  (g:∀x c,t.lookup x=some c->X.env.cells.lookup x=some c) (v:∀y∈scope.names,y.2=.free->(t.lookup y.1).isSome=true) (hf:∀b∈u,lM X J4 H b) (w:∀b∈u,b<s.heap.objs.size) :
  (dL X N scope s.heap.objs.size t s H u (X.pn++J4)).Ok where
 mod:=I.ok.mod
 kind:=S.kind
 glob:=I.ok.glob
 blt:=I.ok.blt
 above:=aK _
 inj:=fun x y c G J=>I.ok.inj x y c (g x c G) (g y c J)
 has:=fun x h=>by
  have A:∃y∈scope.names,y.1=x/\y.2=.free:=by
   have h':(relabel scope X.env).names.lookup x=some .cell∨(relabel scope X.env).names.lookup x=some .free:=h;have j:∀(l:List (Str×f_)) (kd:f_),l.lookup x=some kd->(x,kd)∈l:=by
    intro l
    induction l with
    |nil=>intro kd e;cases e
    |cons a r L =>
     intro kd e;obtain⟨n,B⟩:=a;rw[iB]at e;cases hx:x==n with
     |true =>
      rw[hx]at e;have:x=n:=by simpa using hx
      subst this;cases e;exact eL
     |false=>rw[hx]at e;exact eU _ (L kd e)
   have f:∀kd,(x,kd)∈(relabel scope X.env).names->kd=.cell∨kd=.free->∃y∈scope.names,y.1=x/\y.2=.free:=by
    intro kd M C;obtain⟨⟨n,B⟩,m,e⟩:=aL.mp M;dsimp only at e;by_cases p:(B==kS && X.env.scope.kind==.function && X.env.kindOf n==some .cell)=true
    ·have D:B=.free:=by
      simp only[wA]at p;simpa using p.1.1
     rw[if_pos p]at e;cases e;exact⟨_,m,rfl,D⟩
    ·rw[if_neg p]at e;cases e;rcases C with rfl|rfl
     ·exact absurd rfl (S.cell _ m)
     ·exact⟨_,m,rfl,rfl⟩
   rcases h' with h'|h'
   ·exact f _ (j _ _ h') (.inl rfl)
   ·exact f _ (j _ _ h') (.inr rfl)
  obtain⟨y,m,rfl,C⟩:=A;exact wI.mp (v y m C)
 cab:=fun x c h=>by cases h
 hd:=I.ok.hd
 frames:=I.ok.frames
 stk:=.inl rfl
 exf:=fun b i=>⟨bM (w b i),fun x c e=>(hf b i).2.2.2.2.1 x c (g x c e)⟩
 bs:=I.bs
 bsz:=bW I.ok.bsz I.sz
 noex:=fun b o e i=>by
  rcases(hf b i).2.2.2.1 with z|z
  ·exact I.ok.noex b o e z
  ·exact absurd (fF (aI (I.ok.bs b o e).1) z) (mD _)
 exfs:=fun b i z=>by
  obtain⟨_,O,Q,_⟩:=hf b i;rcases cK.mp (I.stkSub b z)with q|q
  ·exact O q
  ·exact Q q
 funs:=I.stack
 frf:=I.stkFree
theorem FC{k:Nat}{N:Zb}{scope:Scope}{T:List Nat}{H:Hp}{s:Shared}{E:List (Str×Addr)}{G:Ze}{f:Heap}{t':Nat}{m:Str->Option Value}(S:nP X.env.scope scope k N X.N T)(I:Inv X J4 σ H s)
  (h:∀x c,E.lookup x=some c->X.env.cells.lookup x=some c) (B:∀y∈scope.names,y.2=.free->(E.lookup y.1).isSome=true) (hf:∀b∈G,lM X J4 H b) (J:∀b∈G,b<s.heap.objs.size)
  (hn:f.Ns s.heap.objs.size m) (g:∀b o,s.heap.get? b=some o->f.get? b=some o) :
  Inv (dL X N scope s.heap.objs.size E s H G (X.pn++J4)) [] (cx k T σ) H { s with heap:=f,toks:=t' }:=by
 have A:∀(l:List (Str×f_)) (x:Str) (kd:f_),l.lookup x=some kd->(x,kd)∈l:=by
  intro l
  induction l with
  |nil=>intro x kd e;cases e
  |cons a r ih =>
   intro x kd e;obtain⟨n,k'⟩:=a;rw[iB]at e;cases hx:x==n with
   |true =>
    rw[hx]at e;have:x=n:=by simpa using hx
    subst this;cases e;exact eL
   |false=>rw[hx]at e;exact eU _ (ih x kd e)
 refine⟨GU S I h B hf J,rfl,I.bare,Un.kept g,⟨m,hn,fun i x v e1 e2 e3=>?_⟩,fun x c e=>?_,I.hok.fresh (aK _),fun x c e=>I.freeC x c (h x c e),fun p U=>?_,I.hok.kept g,?_⟩
 ·obtain⟨j,t,rfl,ht,hv⟩:=uw e2;obtain⟨y,hy,L,C⟩:=S.sl j t ht;have D:N[k+j]?=some x:=e1;rw[hy]at D;cases D;have w:=A _ _ _ C;obtain⟨c,Y⟩:=wI.mp (B _ w rfl);have hX:=h _ _ Y;obtain⟨mX,ab,M⟩:=I.loc;have kX:=S.fr _ w rfl;obtain⟨u,ru,lk⟩:=M t x v L hv (by rcases kX with z|z;exact .inr (.inl z);exact .inr (.inr z));refine⟨u,ru,.inr ⟨?_,c,Y,?_⟩⟩
  ·exact hZ C
  ·rcases lk with⟨z,_⟩|⟨_,c',e',q⟩
   ·have z':X.env.scope.names.lookup x=some .local:=z;rcases kX with kX|kX<;>rw[z']at kX<;>cases kX
   ·rw[hX]at e';cases e';obtain⟨o,O,Q⟩:=q;exact⟨o,g _ o O,Q⟩
 ·obtain⟨v,o,O,Q⟩:=I.cell x c (h x c e);exact⟨v,o,g _ o O,Q⟩
 ·rw[dO]at U;obtain⟨e,n,ne,nf,d⟩:=I.pin p U;refine⟨g _ _ e,n,bM (aI e),fun z=>?_,d⟩;rcases cK.mp (I.stkSub _ z)with q|q
  ·exact ne q
  ·exact nf q
 ·rw[AO];exact S.len.symm
structure ye(X:Cx)(J4:Zd)(H:Hp)(C:Addr):Prop where
 free:H C=none
 loc:C≠X.env.locals
 young:X.s₀.heap.objs.size<=C
 cells:∀x c,X.env.cells.lookup x=some c->c≠C
 pin:∀p∈X.pn++J4,p.1≠C
theorem uu{elt iter tg:Expr}{ifs:List Expr}{scope:Scope}{pos:Pos}{k:Nat}{N:Zb}{fi:List Nat}{cl:List (Str×Addr)}{g:TG}{tc:TT}{te:TE}{it:Addr}{fp:Ze}{tn:Nat->Heap->Prop}{J:It}{s:Hp}{s2:Shared}{Q:VK}
  {E:Zc}{RR:Value->Addr->Result->Shared->Prop}
  (S:nP X.env.scope scope k N X.N fi) (hc:X.calm=true) (a6:∀x c,cl.lookup x=some c->X.env.cells.lookup x=some c) (ce:∀y∈scope.names,y.2=.free->(cl.lookup y.1).isSome=true)
  (hg:∀C cl G H ex pn,PG (dL X N scope C cl G H ex pn) tg g) (ho:zA k g) (ht:∀C cl G H ex pn,Hv (dL X N scope C cl G H ex pn) ifs tc) (he:∀C cl G H ex pn,PE (dL X N scope C cl G H ex pn) elt te)
  (I2:Inv X J4 σ s s2) (T:uC X.prog X.w X.K tg J fp it tn) (bb:tn 0 s2.heap) (f2:∀b∈fp,lM X J4 s b)
  (hw:∀l,s l=none->∃W:Nat->Nat->List V->Hp->Prop,(∃m,W 0 m [] (upd s l (.lst [])))/\∀i m O s,W i m O s->s l=some (.lst O) /\
   ((J.stop i s/\Q (.ref l) s)∨(J.go i s/\∀x H3,J.yld i s x H3->g x (cx k fi σ) H3 fun σ2 H4=>tc σ2 H4 fun b H5 =>
    if b=true then te σ2 H5 fun v H6=>H6 l=some (.lst O)/\O.length<ak/\∃U,U<m/\W (i+1) U (O++[v]) (upd H6 l (.lst (O++[v])))else ∃U,U<m/\W (i+1) U O H5)))
  (hR:∀D C L s' U,Inv X J4 σ L s'->s'.heap.Ns C U->ye X J4 L C->Q (.ref D) L->RR (.ref D) C (.ok .next) s') :
  wpAny (model X.prog X.w) X.A (newList []) (fun acc s₃=>wpAny (model X.prog X.w) X.A (newFunctionEnv scope X.env.globals cl [] X.env.qual none .none (some X.env)) (fun as s₄ =>
   zzl86 (model X.prog X.w) X.A (.compStart (.ListComp elt [⟨tg,iter,ifs,0⟩] scope pos) 0 (.ref it) acc { as with scope:=relabel scope X.env }) (RR acc as.locals) s₄) E s₃) E s2:=by
 have an:s s2.heap.objs.size=none:=I2.fresh;obtain⟨W,⟨m0,w0⟩,turn⟩:=hw _ an;refine iA (wpAny_newFunctionEnv S.cell (by intro y hy;simp at hy) (fun I ab al=>?_) S.kind);dsimp only at ab al ⊢;have I3:Inv X J4 σ (upd s s2.heap.objs.size (.lst [])) { s2 with heap:=s2.heap.push { cls:=.type "list",data:=.seq ([]:Zf).toArray },toks:=s2.toks }:=I2.lnew (ys:=[]) .nil (dA _);generalize bd:({ s2 with heap:=s2.heap.push { cls:=.type "list",data:=.seq ([]:Zf).toArray },toks:=s2.toks }:Shared)=B at I3;have ap:B.heap=s2.heap.push { cls:=.type "list",data:=.seq ([]:Zf).toArray }:=by rw[<-bd]
 have ch:B.heap.objs.size=s2.heap.objs.size+1:=by rw[ap,iU]
 have bi:∀b∈fp,b<s2.heap.objs.size:=fun b f=>by
  obtain⟨o,e,_⟩:=T.obj 0 _ bb b f;exact aI e
 have f3:∀b∈fp,lM X J4 (upd s s2.heap.objs.size (.lst [])) b:=fun b f=>⟨by rw[am (bM (bi b f))];exact(f2 b f).1,(f2 b f).2⟩;have aC:∀b∈fp,b<B.heap.objs.size:=fun b f=>by rw[ch];exact Nat.lt_succ_of_lt (bi b f)
 have bl:∀b o,B.heap.get? b=some o->I.get? b=some o:=fun b o e=>by
  have f:b≠B.heap.objs.size:=bM (aI e);rw[ap]at e f;exact al.extBut b o f (aS _ e)
 have ci:I.Ns B.heap.objs.size (fun x=>([]:List (Str×Value)).reverse.lookup x):=by rw[ap];exact ab
 have I4:Inv (dL X N scope B.heap.objs.size cl B (upd s s2.heap.objs.size (.lst [])) fp (X.pn++J4)) [] (cx k fi σ) (upd s s2.heap.objs.size (.lst [])) { B with heap:=I,toks:=s2.toks+([]:List (Str×Value)).length } :=
  FC S I3 a6 ce f3 aC ci bl
 have bm:tn 0 I:=T.keep _ _ _ bb fun b f o e=>bl b o (by rw[ap];exact aS _ e);generalize M:dL X N scope B.heap.objs.size cl B (upd s s2.heap.objs.size (.lst [])) fp (X.pn++J4)=Y at I4;have yp:Y.prog=X.prog:=by rw[<-M];rfl
 have yw:Y.w=X.w:=by rw[<-M];rfl
 have yK:Y.K=X.K:=by rw[<-M];rfl
 have yA:Y.A=X.A:=by rw[<-M];rfl
 have yx:Y.xe=XF:=by rw[<-M];rfl
 have yc:Y.calm=true:=by rw[<-M];exact hc
 have gY:PG Y tg g:=by rw[<-M];exact hg _ _ _ _ _ _
 have tY:Hv Y ifs tc:=by rw[<-M];exact ht _ _ _ _ _ _
 have eY:PE Y elt te:=by rw[<-M];exact he _ _ _ _ _ _
 have bn:Y.env=compEnvC scope cl B.heap.objs.size X.env:=by rw[<-M];rfl
 have fY:∀{L:Hp},(∀b∈fp,L b=none)->∀b∈fp,lM Y [] L b:=fun hn b f=>by
  obtain⟨f0,f1,b0,b1,f4,f5⟩:=f3 b f;rw[<-M];refine⟨hn b f,bM (aC b f),fun z=>?_,.inl f,fun x c e=>f4 x c (a6 x c e),fun p hp=>?_⟩
  ·rcases cK.mp (I3.stkSub _ z)with q|q
   ·exact f1 q
   ·exact b0 q
  ·rw[dO]at hp;exact f5 p hp
 have aT:∀s4:Shared,s4={ B with heap:=I,toks:=s2.toks+([]:List (Str×Value)).length } ->
   zzl86 (model X.prog X.w) X.A (.compLoop (.ListComp elt [⟨tg,iter,ifs,0⟩] scope pos) 0 (.ref it) (.ref s2.heap.objs.size) Y.env) (RR (.ref s2.heap.objs.size) B.heap.objs.size) s4:=by
  rintro s4 rfl;refine xK (fun n s'=>∃i O L,Inv Y [] (cx k fi σ) L s'/\tn i s'.heap/\(∀b∈fp,L b=none)/\W i n O L) ?_ m0 ⟨0,[],_,I4,bm,fun b f=>(f3 b f).1,w0⟩;rintro n s5 ⟨i,O,H5,I5,b2,b3,w5⟩;obtain⟨c1,aX⟩:=turn i n O H5 w5;rcases aX with⟨stop,q⟩|⟨go,step⟩
  ·have d:=T.done Y yp yw yK yc i [] s5 _ H5 XF I5 (fY b3) b2 stop;rw[yA]at d;refine cM d fun r s6 a=>?_;obtain⟨hr,I6⟩:=a;subst hr;have hu:Un (uN X.stack) fp (upd s s2.heap.objs.size (.lst [])) H5 B.heap s6.heap:=by have:=I6.base;rw[<-M]at this;exact this
   have ck:s6.os=B.os:=by have:=I6.os;rw[<-M]at this;exact this
   have b4:kg X.prog X.w X.K H5 s6.heap:=by have:=I6.hok;rw[<-M]at this;exact this
   have cm:H5 B.heap.objs.size=none:=by have:=I6.free;rw[<-M]at this;exact this
   obtain⟨m6,b5,_⟩:=I6.loc;have b6:s6.heap.Ns B.heap.objs.size m6:=by rw[<-M]at b5;exact b5
   have IX:Inv X J4 σ H5 s6:=I3.call' ck hu b4 I6.bare fun b f=>by
    obtain⟨f0,f1,b0,b1,f4,f5⟩:=f3 b f;exact⟨b1,f1,f4,f5⟩
   refine hR _ _ H5 s6 m6 IX b6 ⟨cm,fE I3.lt,I3.sz,fun x c e z=>?_,fun p hp z=>?_⟩ q
   ·obtain⟨v,o,ho,_⟩:=I3.cell x c e;exact absurd (aI ho) (by rw[z];exact mD _)
   ·exact absurd (aI (I3.pin p hp).1) (by rw[z];exact mD _)
  ·have d:=T.item Y yp yw yK yc i [] s5 _ H5 XF I5 (fY b3) b2 go;rw[yA]at d;refine cM d fun r s6 a=>?_;obtain⟨u,hr,h6⟩:=a;subst hr;refine cM h6 fun _ s7 a=>?_;obtain⟨x,H7,I7,r7,y7,a0,cn⟩:=a;have co:=I7.pinned (fY cn) (T.obj _ _ a0);have a7:=gY _ s7 _ H7 x u _ co r7 (ho _ _ _ _ (step x H7 y7));rw[yp,yw,yA,yx]at a7;refine cM a7 fun _ s8 a=>?_;obtain⟨σ8,H8,I8,q8,l8,k8⟩:=a;have a8:=tY _ s8 σ8 H8 _ I8 q8;rw[yp,yw,yA,yx]at a8;have again:∀{H9:Hp}{s9:Shared}{a4:List V}{U:Nat},Inv Y ([]++qk fp s7.heap) σ8 H9 s9->U<n->W (i+1) U a4 H9->∃m,m<n/\∃i O L,Inv Y [] (cx k fi σ) L s9/\tn i s9.heap/\(∀b∈fp,L b=none)/\W i m O L:=fun{H9 s9 a4 U} I9 hm w9=>by
    refine⟨U,hm,i+1,a4,H9,(I9.unpinned).weak l8.symm (fun j v e=>?_),T.keep _ _ _ a0 fun b f o e=>(I9.pin (b,o) (cV _ (cV _ (gk f e)))).1,fun b f=>?_,w9⟩
    ·obtain⟨j',t,rfl,_,_⟩:=uw e;rw[k8 _ (Nat.le_add_right _ _)];exact e
    ·obtain⟨o,e,_⟩:=T.obj _ _ a0 b f;exact(I9.pin (b,o) (cV _ (cV _ (gk f e)))).2.1
   refine cM a8 fun b s9 a=>?_;obtain⟨H9,I9,q9⟩:=a;cases b with
   |false =>
    rw[if_neg gH]at q9 ⊢;obtain⟨U,hm,w9⟩:=q9;exact again I9 hm w9
   |true =>
    rw[if_pos rfl]at q9 ⊢;have a9:=eY _ s9 σ8 H9 _ I9 q9;rw[yp,yw,yA,yx]at a9;refine cM a9 fun y cs a=>?_;obtain⟨v,b7,ct,cB,b8,a5,U,hm,cC⟩:=a;have cc:=dS (X:=Y) _ cs σ8 b7 (.ref s2.heap.objs.size) [v] (.ref s2.heap.objs.size) [y] (fun z L=>z=.non/\L=upd b7 s2.heap.objs.size (.lst (O++[v]))) ct rfl (.cons cB .nil) ⟨_,O,v,rfl,rfl,b8,a5,rfl,rfl⟩;rw[yp,yw,yA,yx]at cc;refine cM cc fun _ c2 a=>?_;obtain⟨_,c3,cL,_,_,c0⟩:=a;subst c0;exact again cL hm cC
 have h:=codeAny_compStart_list (prog:=X.prog) (w:=X.w) (A:=X.A) (elt:=elt) (target:=tg) (iter:=iter) (ifs:=ifs) (rest:=[]) (scope:=scope) (pos:=pos) (it:=.ref it) (acc:=.ref s2.heap.objs.size) (env:=Y.env) (aT _ rfl) (T.self _ 0 _ _ _ bm (aT _ rfl));rw[bn]at h;rw[<-bd]at h;exact h
end
section
variable{X:Cx}
theorem ye.turned{a:Zd}{σ:St}{H:Hp}{s:Shared}{C:Addr}{f:Heap}(c:ye X a H C)(I:Inv X a σ H s)(g:gJ C s.heap f):Inv X a σ H { s with heap:=f } :=
 I.turned (t':=s.toks) (fun b o h e=>g.extBut b o h e) c.free c.loc (.inr c.young) c.cells c.pin
theorem Gz{m i p:Expr}{n:List Expr}{scope:Scope}{r:Pos}{k:Nat}{N:Zb}{G:List Nat}{wi:TI}{g:TG}{L:TT}{M:TE}(U:mm X.env.scope scope k N X.N G=true)(Y:X.calm=true)(hi:PI X p i wi)
  (hg:∀C l a f ex o,PG (dL X N scope C l a f ex o) p g) (ho:zA k g) (ht:∀C l a f ex o,Hv (dL X N scope C l a f ex o) n L) (he:∀C l a f ex o,PE (dL X N scope C l a f ex o) m M)
  (hs:∀x,ve i X.env x=pure x:=by intro _;rfl):PE X (.ListComp m [⟨p,i,n,0⟩] scope r) (dg k G wi g L M):=by
 intro O s σ H Q I h;have S:=nP.of U;obtain⟨l,j,t,u⟩:=ux (env:=X.env) (scope:=scope) fun y hy e=>I.ok.has y.1 (S.fr y hy e);rw[eval_ListComp];refine wpAny_comprehension_free (use:=none) rfl hs j S.kind S.nm (cM (hi O s σ H _ I h) fun v s1 h1=>cM h1 fun ab s2 h2=>?_);obtain⟨it,fp,tn,J,H2,e,I2,T,z,f2,hw⟩:=h2;subst e;refine uu (RR:=fun B C=>compPost (model X.prog X.w) X.A X.xe none (EP X O σ Q) B C) S Y t u hg ho ht he I2 T z f2 hw ?_;intro D C H' s' m' I' hn ce q;exact⟨m',hn,fun h' E=>⟨.ref D,H',ce.turned I' E,rfl,q⟩⟩
theorem Av{m f B:Expr}{n:List Expr}{scope:Scope}{p o t:Pos}{k:Nat}{N:Zb}{fi:List Nat}{wi:TI}{g:TG}{tc:TT}{te:TE}{j:Nat}{y:Str}(hN:X.N.Nodup)(hj:X.N[j]?=some y)(L:Loc X.env.scope y)(hS:mm X.env.scope scope k N X.N fi=true)(hc:X.calm=true)(hi:PI X B f wi)
  (hg:∀C u i l ex E,PG (dL X N scope C u i l ex E) B g) (ho:zA k g) (ht:∀C u i l ex E,Hv (dL X N scope C u i l ex E) n tc) (he:∀C u i l ex E,PE (dL X N scope C u i l ex E) m te)
  (M:mz (.ListComp m [⟨B,f,n,0⟩] scope p) (some (.Name y t)) o.line X.env=pure true:=by rfl)
  (hs:∀x,ve f X.env x=pure x:=by intro _;rfl) (hf:X.fn y=true∨X.env.scope.names.lookup y=some .local:=by first|exact .inl rfl|exact .inr rfl|assumption) :
  PS X (.Assign [.Name y t] (.ListComp m [⟨B,f,n,0⟩] scope p) o) (a_ (dg k fi wi g tc te) (dI j)):=by
 intro O s σ H D I h;have S:=nP.of hS;obtain⟨u,r,U,Y⟩:=ux (env:=X.env) (scope:=scope) fun y L e=>I.ok.has y.1 (S.fr y L e);rw[exec_Assign_Name_used _ _ _ _ M];refine ah (sP (ah ?_));show wpAny _ X.A (do let _ <- comprehension (.ListComp m [⟨B,f,n,0⟩] scope p) scope X.env _ (newList []) false (eval f X.env) (some (assign (.Name y t) X.env))) _ _ s
 refine ah (dz (wpAny_comprehension_free (use:=some (assign (.Name y t) X.env)) (Q:=fun _ G=>SP X O D .next G) rfl hs r S.kind S.nm
  (cM (hi O s σ H _ I h) fun v s1 h1=>cM h1 fun aX s2 h2=>?_)) (fun _ G hq=>aw (aw hq)) fun _ _ e=>e)
 obtain⟨it,fp,tn,J,H2,e,I2,T,ab,f2,hw⟩:=h2;subst e;refine uu (RR:=fun al C=>compPost (model X.prog X.w) X.A X.xe (some (assign (.Name y t) X.env)) (fun _ G=>SP X O D .next G) al C) (Q:=fun x H1=>dI j x σ H1 D.nx) S hc U Y hg ho ht he I2 T ab f2 hw ?_;intro A C H' G m' I' hn ce q;show wpAny _ X.A (assign (.Name y t) X.env (.ref A)) _ _ _;refine wpAny_assign_Name (vy I' hN hj L (v:=.ref A) rfl (fun a0 an ap=>?_) hf);obtain⟨a,as,ha⟩:=ap;have aC:C≠a:=by
  rcases ha with z|z
  ·rw[z];exact ce.loc
  ·exact dv (ce.cells y a z)
 refine⟨m',hn.sameBut as aC,fun h' aT=>?_⟩;exact⟨_,H',ce.turned an aT,q⟩
end
theorem Inv.turnedNew{X:Cx}{i:Zd}{σ:St}{H:Hp}{s:Shared}{g:Heap}{p:Nat}{ch:Ze}{o:HO}(I:Inv X i σ H s)(hf:∀b∈ch,lM X i H b)
  (k:∀b q,b∉ch->s.heap.get? b=some q->g.get? b=some q) (L:∃q,g.get? s.heap.objs.size=some q) (t:∀y,o≠.own y) (new:bT X.prog X.w X.K (upd H s.heap.objs.size o) g s.heap.objs.size o) :
  Inv X i σ (upd H s.heap.objs.size o) { s with heap:=g,toks:=p }:=by
 have a:H s.heap.objs.size=none:=I.fresh;have j:∀b q,s.heap.get? b=some q->b≠s.heap.objs.size:=fun b q e=>bM (aI e);have l:∀b u,H b=some u->b∉ch:=fun b u e z=>by rw[(hf b z).1]at e;cases e
 refine I.step (g':=s.gens) (d':=s.drawn) (ch:=ch) (fun b h=>?_) (fun b q _ _ f e _=>k b q f e) (fun b q _ _ f e _=>⟨q.slots,k b q f e⟩) (fun b q _ e n=>by rw[am (j b q e)];exact n) (fun b q f e=>⟨q,k b q f e⟩)
  (fun b xs e=>by rw[am (ag e a)];exact e) (fun b q u e=>by rw[am (ag e a)];exact e) (fun b M e=>⟨#[],by rw[am (ag e a),e];simp⟩) (fun m x=>?_) (fun b u e=>?_) I.bare
 ·obtain⟨N,A,O,B,C,D⟩:=hf b h;exact⟨B,A,C,D⟩
 ·obtain⟨q,E,G,J,r⟩:=x;exact⟨q,E,G,k _ q (fun z=>(hf _ z).2.1 rfl) J,r⟩
 ·by_cases h:b=s.heap.objs.size
  ·subst h;rw[aa]at e;cases e;exact new
  ·rw[am h]at e;refine(I.hok b u e).stay (fun c v f q=>k c v ?_ q) (fun c q=>by rw[am (ag q a)];exact q) fun c xs q=>by rw[am (ag q a)];exact q
   rcases f with z|z
   ·subst z;exact l _ _ e
   ·exact l _ _ z
def Iw(K:Za)(a:Addr):It :=
 ⟨fun i H=>∃xs x,av K H a xs/\xs[i]?=some x,fun i H x H'=>∃p v,x=.ref p/\H p=none/\(∀xs,av K H a xs->xs[i]?=some v)/\H'=upd H p (.tup [.int i,v]),fun i H=>∃xs,av K H a xs/\xs.length<=i⟩
theorem Cw{P:bq}{w:World}{K:Za}{es:List Expr}{kx:Nat}{J8:Pos}(a e it:Addr)(n:e≠it):
  uC P w K (.Tuple es kx J8) (Iw K a) [e,it] e (fun i h=>(∃f,IsEnum h e it i f)/\h.IsListIter it a i) where
 mem:=by simp
 obj:=fun i h st b m=>by
  obtain⟨⟨f,j⟩,o,G,J,hd⟩:=st;rcases cK.mp m with z|z
  ·subst z;exact⟨_,j,fun v z=>by cases z⟩
  ·have L:b=it:=by simpa using z
   subst L;exact⟨o,G,fun v z=>by rw[hd]at z;cases z⟩
 keep:=fun i h C st k=>⟨let⟨f,j⟩:=st.1;⟨f,k e (by simp) _ j⟩,st.2.at fun o e=>k it (by simp) o e⟩
 item:=by
  intro X M N O J i J4 s σ H E I hf st Q;subst M N O;obtain⟨⟨f,j⟩,l⟩:=st;obtain⟨xs,x,D,hx⟩:=Q;obtain⟨T,U,p,hz⟩:=I.list D;obtain⟨u,hu,ru⟩:=U.get hx;obtain⟨e0,e1,e2,e3,e4,e5⟩:=hf e (by simp);obtain⟨Y,f1,f2,f3,f4,f5⟩:=hf it (by simp);refine wpAny_pyNext_enum_item j l p.isList (x:=u) (by simpa using hu) n fun C ab r al a5 an=>?_;refine⟨_,rfl,wpAny_letOwnedTupleGo_enum (s:={ s with heap:=C,toks:=s.toks+1 }) ab fun h2 ap as=>?_⟩;have g:gJ e C h2:=as;have t:s.heap.objs.size≠e:=fE (aI j);have A:h2.get? s.heap.objs.size=some { cls:=.type "tuple",data:=.seq #[.int i s.toks,u] }:=g.extBut _ _ t al;have aC:H s.heap.objs.size=none:=I.fresh;have aT:upd H s.heap.objs.size (.tup [.int i,x]) e=none:=by rw[am (dv t)];exact e0
  have aX:s.heap.objs.size≠it:=by
   obtain⟨o,G,_⟩:=l;exact fE (aI G)
  have a0:upd H s.heap.objs.size (.tup [.int i,x]) it=none:=by rw[am (dv aX)];exact Y
  have I2:Inv X J4 σ (upd H s.heap.objs.size (.tup [.int i,x])) { s with heap:=h2,toks:=s.toks+1 }:=by
   refine I.turnedNew (ch:=[e,it]) hf (fun b o m q=>?_) ⟨_,A⟩ (fun _ z=>nomatch z) ⟨by show 2<=ak;decide,[.int i s.toks,u],.cons ⟨_,rfl⟩ (.cons ru .nil),⟨_,A,rfl,_,rfl⟩⟩;have B:b≠e:=fun z=>m (by simp[z]);have a4:b≠it:=fun z=>m (by simp[z]);exact g.extBut _ _ B (an b o B a4 q)
  refine⟨.ref s.heap.objs.size,_,I2,rfl,⟨_,x,rfl,aC,fun ys hy=>by rw[I.list_inj hy D];exact hx,rfl⟩,⟨⟨u,by simpa using ap⟩,r.at fun o y=>(g.2 it (dv n)).trans y⟩,fun b m=>?_⟩;rcases cK.mp m with z|z
  ·subst z;exact aT
  ·have L:b=it:=by simpa using z
   subst L;exact a0
 done:=by
  intro X M N O J i J4 s σ H E I hf st Q;subst M N O;obtain⟨⟨f,j⟩,l⟩:=st;obtain⟨xs,D,hx⟩:=Q;obtain⟨T,U,p,hz⟩:=I.list D;obtain⟨Y,f1,f2,f3,f4,f5⟩:=hf it (by simp);have hl:=U.length;exact wpAny_pyNext_enum_end (I.ok.hd J) j l p.isList (by simp;omega) fun C eb=>⟨rfl,I.turned (t':=s.toks) (fun b o m e=>eb b o m e) Y f1 f3 f4 f5⟩
 self:=fun _ _ _ _ _ st h=>let⟨_,j⟩:=st.1;wpAny_pyIter_enum j h
section
variable{X:Cx}{p pos:Pos}{es:List Expr}{kx:Nat}{J8:Pos}
def uj(K:Za)(ta:TA):TI:=fun σ H R=>ta σ H fun vs H1=>∃a,vs=[.ref a]/\(∃xs,av K H1 a xs)/\R (Iw K a) H1
theorem ma{a:Expr}{n:TA}(w:Gl X "enumerate")(x:X.mg "enumerate"=none)(y:PA X [a] n)(A:ay [a] X.env=[(false,eval a X.env)]:=by rfl):PI X (.Tuple es kx J8) (.Call (.Name "enumerate" p) [a] [] pos) (uj X.K n):=by
 intro r s σ H R I h;refine Call_ (nj I w x boot_enumerate (yk (cM (y pos r s σ H _ I h) fun T s1 i=>?_) A rfl));obtain⟨U,t,g,B,C⟩:=i;obtain⟨l,e,⟨xs,D⟩,q⟩:=C;subst e;obtain⟨u,rfl,E⟩:=vals1 B;cases E;obtain⟨G,Y,J,hz⟩:=g.list D;refine call_enumerate_list J.isList fun j v k L M=>?_;refine wpAny_pyIter_enum (s:={ s1 with heap:=j }) v ?_;have m:∀b o,s1.heap.get? b=some o->j.get? b=some o:=M;have N:Inv X r σ t { s1 with heap:=j }:=g.kept (t':=s1.toks) m;refine⟨_,[s1.heap.objs.size+1,s1.heap.objs.size],_,_,t,rfl,N,Cw l _ _ (Nat.succ_ne_self _),⟨⟨_,v⟩,k⟩,fun b O=>?_,q⟩;have f:s1.heap.objs.size<=b:=by
  rcases cK.mp O with z|z
  ·rw[z];exact jk _
  ·have Q:b=s1.heap.objs.size:=by simpa using z
   rw[Q];exact aK _
 exact g.fpOk f (g.hok.fresh f)
end
def Jx(x:Str):It:=⟨fun i _=>i<x.cps.size,fun i H y H'=>H'=H/\∃c,x.cps[i]?=some c/\y=.str ⟨#[c]⟩,fun i _=>x.cps.size<=i⟩
theorem zV{P:bq}{w:World}{K:Za}{D:Expr}(x:Str)(t:Tok)(it:Addr):uC P w K D (Jx x) [it] it (fun i h=>h.IsStrIter it "str_ascii_iterator" x t i) where
 mem:=by simp
 obj:=fun i h st b a=>by
  have e:b=it:=by simpa using a
  subst e;obtain⟨o,e,c,d⟩:=st;exact⟨o,e,fun v z=>by rw[d]at z;cases z⟩
 keep:=fun i h g st k=>by
  obtain⟨o,e,c,d⟩:=st;exact⟨o,k it (by simp) o e,c,d⟩
 item:=by
  intro X j l m B i C s σ H E I hf st n;subst j l m;have p:i<x.cps.size:=n;obtain⟨q,r,G,u,y,A⟩:=hf it (by simp);have hx:x.cps[i]?=some x.cps[i]:=by simp[p]
  refine wpAny_pyNext_ascii_item st hx fun g f J=>?_;have L:Inv X C σ H { s with heap:=g,toks:=s.toks+1 }:=I.turned (t':=s.toks+1) (fun b o a e=>(J.2 b a).trans e) q r u y A;obtain⟨o,e,c,d⟩:=id f;exact⟨_,rfl,vL (s:={ s with heap:=g,toks:=s.toks+1 }) e c d (by decide) ⟨.str ⟨#[x.cps[i]]⟩,H,L,⟨_,rfl⟩,⟨rfl,_,hx,rfl⟩,f,fun b a=>(hf b a).1⟩⟩
 done:=by
  intro X j l m B i C s σ H E I hf st n;subst j l m;have M:x.cps.size<=i:=n;obtain⟨q,r,G,u,y,A⟩:=hf it (by simp);exact wpAny_pyNext_ascii_end (I.ok.hd B) st (by simp;omega) fun g N=>⟨rfl,I.turned (t':=s.toks) (fun b o a e=>N b o a e) q r u y A⟩
 self:=fun _ _ _ _ _ st h=>wpAny_pyIter_striter_ascii st h
theorem Cu{P:bq}{w:World}{K:Za}{D:Expr}(x:Str)(t:Tok)(it:Addr):uC P w K D (Jx x) [it] it (fun i h=>h.IsStrIter it "str_iterator" x t i) where
 mem:=by simp
 obj:=fun i h st b a=>by
  have e:b=it:=by simpa using a
  subst e;obtain⟨o,e,c,d⟩:=st;exact⟨o,e,fun v z=>by rw[d]at z;cases z⟩
 keep:=fun i h g st k=>by
  obtain⟨o,e,c,d⟩:=st;exact⟨o,k it (by simp) o e,c,d⟩
 item:=by
  intro X j l m B i C s σ H E I hf st n;subst j l m;have p:i<x.cps.size:=n;obtain⟨q,r,G,u,y,A⟩:=hf it (by simp);have hx:x.cps[i]?=some x.cps[i]:=by simp[p]
  refine wpAny_pyNext_wide_item st hx fun g f J=>?_;have L:Inv X C σ H { s with heap:=g,toks:=s.toks+1 }:=I.turned (t':=s.toks+1) (fun b o a e=>(J.2 b a).trans e) q r u y A;obtain⟨o,e,c,d⟩:=id f;exact⟨_,rfl,vL (s:={ s with heap:=g,toks:=s.toks+1 }) e c d (by decide) ⟨.str ⟨#[x.cps[i]]⟩,H,L,⟨_,rfl⟩,⟨rfl,_,hx,rfl⟩,f,fun b a=>(hf b a).1⟩⟩
 done:=by
  intro X j l m B i C s σ H E I hf st n;subst j l m;have M:x.cps.size<=i:=n;obtain⟨q,r,G,u,y,A⟩:=hf it (by simp);exact wpAny_pyNext_wide_end (I.ok.hd B) st (by simp;omega) fun g N=>⟨rfl,I.turned (t':=s.toks) (fun b o a e=>N b o a e) q r u y A⟩
 self:=fun _ _ _ _ _ st h=>wpAny_pyIter_striter_wide st h
section
variable{X:Cx}{p pos:Pos}{tg:Expr}
def IQ(tl:TE):TI:=fun σ H R=>tl σ H fun v H1=>∃x,v=.str x/\R (Jx x) H1
theorem HJ{l:Expr}{k:TE}(r:PE X l k):PI X tg l (IQ k):=by
 intro m s σ H R I h;refine cM (r m s σ H _ I h) fun v a i=>?_;obtain⟨y,j,g,u,w⟩:=i;obtain⟨x,e,q⟩:=w;subst e;obtain⟨t,rfl⟩:=u;have f:∀b∈[a.heap.objs.size],lM X m j b:=fun b z=>by
  have e:b=a.heap.objs.size:=by simpa using z
  subst e;exact g.fpOk (aK _) (g.hok.fresh (aK _))
 cases n:x.cps.all (·<128)
 ·refine wpAny_pyIter_wide n ?_;exact⟨a.heap.objs.size,[a.heap.objs.size],_,_,j,rfl,g.kept (t':=a.toks) fun b o e=>aS _ e,Cu x t _,⟨_,cJ _ rfl,rfl,rfl⟩,f,q⟩
 ·refine wpAny_pyIter_ascii n ?_;exact⟨a.heap.objs.size,[a.heap.objs.size],_,_,j,rfl,g.kept (t':=a.toks) fun b o e=>aS _ e,zV x t _,⟨_,cJ _ rfl,rfl,rfl⟩,f,q⟩
end
def Im(K:Za)(a b:Addr):It :=
  ⟨fun i H=>∃xs ys x y,av K H a xs/\av K H b ys/\xs[i]?=some x/\ys[i]?=some y,
   fun i H x H'=>∃p u v,x=.ref p/\H p=none/\(∀xs,av K H a xs->xs[i]?=some u)/\(∀ys,av K H b ys->ys[i]?=some v)/\H'=upd H p (.tup [u,v]),
   fun i H=>∃xs ys,av K H a xs/\av K H b ys/\(xs.length<=i∨ys.length<=i)⟩
theorem DX{P:bq}{w:World}{K:Za}{es:List Expr}{kx:Nat}{J8:Pos}(a b z TI TO t A:Addr)(D:pL z TI TO t A a b):
  uC P w K (.Tuple es kx J8) (Im K a b) [z,TI,TO,t,A] z (fun i h=>IsZip h z TI TO .none/\IsPair h TI (.ref t) (.ref A)/\(∃a b,IsPair h TO a b)/\h.IsListIter t a i/\h.IsListIter A b i) where
 mem:=by simp
 obj:=fun i h st c f=>by
  obtain⟨p,j,⟨u,v,l⟩,G,J⟩:=st;simp only[cK,jT,or_false]at f;rcases f with rfl|rfl|rfl|rfl|rfl
  ·exact⟨_,p,fun v z=>by cases z⟩
  ·exact⟨_,j,fun v z=>by cases z⟩
  ·exact⟨_,l,fun v z=>by cases z⟩
  ·obtain⟨o,e,c,d⟩:=G;exact⟨o,e,fun v z=>by rw[d]at z;cases z⟩
  ·obtain⟨o,e,c,d⟩:=J;exact⟨o,e,fun v z=>by rw[d]at z;cases z⟩
 keep:=fun i h M st k=>by
  obtain⟨p,j,⟨u,v,l⟩,G,J⟩:=st;exact⟨k z (by simp) _ p,k TI (by simp) _ j,⟨u,v,k TO (by simp) _ l⟩,G.at fun o e=>k t (by simp) o e,J.at fun o e=>k A (by simp) o e⟩
 item:=by
  intro X hP hw hK f i J4 s σ H E I hf st hg;subst hP hw hK;obtain⟨p,j,⟨u0,v0,l⟩,G,J⟩:=st;obtain⟨xs,ys,x,y,B,C,hx,hy⟩:=hg;obtain⟨an,rx,px,zx⟩:=I.list B;obtain⟨ap,ry,py,zy⟩:=I.list C;obtain⟨u,hu,ru⟩:=rx.get hx;obtain⟨v,hv,rv⟩:=ry.get hy;refine wpAny_pyNext_zip_item D p j l G J px.isList py.isList (x:=u) (y:=v) (by simpa using hu) (by simpa using hv) fun M a1 a2 a3 a4 a5 a6 hk=>?_;refine⟨_,rfl,wpAny_letOwnedTupleGo_zip (s:={ s with heap:=M }) a1 fun L as aC=>?_⟩;have g:gJ z M L:=aC;have N:s.heap.objs.size≠z:=fE (aI p);have O:s.heap.objs.size≠TO:=fE (aI l);have Q:s.heap.objs.size≠TI:=fE (aI j);have T:s.heap.objs.size≠t:=by obtain⟨o,U,_⟩:=G;exact fE (aI U)
  have Y:s.heap.objs.size≠A:=by obtain⟨o,U,_⟩:=J;exact fE (aI U)
  have ab:IsPair L s.heap.objs.size u v:=g.extBut _ _ N a5;have I2:Inv X J4 σ (upd H s.heap.objs.size (.tup [x,y])) { s with heap:=L,toks:=s.toks }:=by
   refine I.turnedNew (ch:=[z,TI,TO,t,A]) hf (fun c o f q=>?_) ⟨_,ab⟩ (fun _ z=>nomatch z) ⟨by show 2<=ak;decide,[u,v],.cons ru (.cons rv .nil),⟨_,ab,rfl,_,rfl⟩⟩;have n1:c≠z:=fun q=>f (by simp[q]);exact g.extBut _ _ n1 (hk c o n1 (fun q=>f (by simp[q])) (fun q=>f (by simp[q])) (fun q=>f (by simp[q])) q)
  refine⟨.ref s.heap.objs.size,_,I2,rfl,⟨_,x,y,rfl,I.fresh,fun zs p=>by rw[I.list_inj p B];exact hx,fun zs p=>by rw[I.list_inj p C];exact hy,rfl⟩,⟨as,g.extBut _ _ D.TIz (hk _ _ D.TIz D.TITO D.TIi1 D.TIi2 j),⟨_,_,g.extBut _ _ D.TOz a2⟩,a3.at fun o e=>g.extBut _ _ D.i1z e,a4.at fun o e=>g.extBut _ _ D.i2z e⟩,fun c f=>?_⟩;have aT:=(hf c f).1;simp only[cK,jT,or_false]at f;have ne:c≠s.heap.objs.size:=by
   rcases f with rfl|rfl|rfl|rfl|rfl
   ·exact N.symm
   ·exact Q.symm
   ·exact O.symm
   ·exact T.symm
   ·exact Y.symm
  rw[am ne];exact aT
 done:=by
  intro X hP hw hK f i J4 s σ H E I hf st hg;subst hP hw hK;obtain⟨p,j,⟨u0,v0,l⟩,G,J⟩:=st;obtain⟨xs,ys,B,C,al⟩:=hg;obtain⟨an,rx,px,zx⟩:=I.list B;obtain⟨ap,ry,py,zy⟩:=I.list C;have lx:=rx.length;have ly:=ry.length;refine wpAny_pyNext_zip_end (I.ok.hd f) D p j l G J px.isList py.isList (by rcases al with q|q;exact .inl (by simp;omega);exact .inr (by simp;omega)) fun M hk=>⟨rfl,?_⟩;have tr:∀c q,H c=some q->c∉[z,TI,TO,t,A]:=fun c q e m=>by rw[(hf c m).1]at e;cases e
  have kk:∀c o,c∉[z,TI,TO,t,A]->s.heap.get? c=some o->M.get? c=some o:=fun c o f q=>hk c o (fun q=>f (by simp[q])) (fun q=>f (by simp[q])) (fun q=>f (by simp[q])) (fun q=>f (by simp[q])) q;refine I.step (g':=s.gens) (d':=s.drawn) (t':=s.toks) (ch:=[z,TI,TO,t,A]) (fun c f=>?_) (fun c o _ _ f e _=>kk c o f e) (fun c o _ _ f e _=>⟨o.slots,kk c o f e⟩) (fun _ _ _ _ n=>n) (fun c o f e=>⟨o,kk c o f e⟩) (fun _ _ e=>e) (fun _ _ _ e=>e) (fun c ps e=>⟨#[],by rw[e];simp⟩) (fun m hm=>?_) (fun c q e=>?_) I.bare
  ·obtain⟨f0,f1,f2,f3,f4,f5⟩:=hf c f;exact⟨f3,f1,f4,f5⟩
  ·obtain⟨q,aX,ep,U,r⟩:=hm;exact⟨q,aX,ep,kk _ q (fun z=>(hf _ z).2.1 rfl) U,r⟩
  ·refine(I.hok c q e).stay (fun d v hd q'=>kk d v ?_ q') (fun _ q=>q) fun _ _ q=>q;rcases hd with z|z
   ·subst z;exact tr _ _ e
   ·exact tr _ _ z
 self:=fun _ _ _ _ _ st h=>wz st.1 h
section
variable{prog:bq}{w:World}{A:Around}{E:Zc}{s:Shared}
theorem j_{it t:Addr}{i:Nat}{items:Array Value}{x:Value}{Q:Zc}(st:s.heap.IsTupleIter it t i)(g:s.heap.IsTuple t items)(hx:items[i]?=some x)
  (k:∀f,f.IsTupleIter it t (i+1)->gJ it s.heap f->Q x { s with heap:=f }):wpAny (model prog w) A (kR (.ref it)) Q E s:=by
 obtain⟨m,e,h,a⟩:=id st;obtain⟨n,j,_,o,l⟩:=g;unfold kR;refine ah (kQ (name:=kP "__next__") st.typeIs wx
  (ph wx st.typeIs F.entry_tuple_iterator_next ?_ (F.args_tuple_iterator_next_1 _)))
 show wpAny _ _ (field (.ref it) 0 >>= _) _ _ s;refine ah (cO e a (x:=.ref t) rfl ?_);show wpAny _ _ (if(Value.ref t==Value.none)=true then _ else _) _ _ s
 rw[if_neg (show ¬((Value.ref t==Value.none)=true)from gH)];show wpAny _ _ (field (.ref it) 1 >>= _) _ _ s;refine ah (cO e a (x:=.int i 0) rfl ?_);show wpAny _ _ (seqItems? (.ref t) >>= _) _ _ s;refine ah (kN j l ?_);simp only[ji,hx];refine ah (iz e a (by simp) (aw ⟨x,rfl,aw (k _ ?_ (jS ..))⟩));exact⟨_,iD _ e (mM (gX a _)),(Obj.cls_mapFields ..).trans h,by
  rw[gX a];simp[rawInt]⟩
theorem rh{it t:Addr}{i:Nat}{items:Array Value}{Q:Zc}(j:A.handled=none)(st:s.heap.IsTupleIter it t i)(l:s.heap.IsTuple t items)(hx:items[i]?=none)
  (k:∀f e,Heap.ExtBut it s.heap f->(∃o,f.get? e=some o/\o.cls=.type "StopIteration")->E (.ref e) { s with heap:=f }):wpAny (model prog w) A (kR (.ref it)) Q E s:=by
 obtain⟨q,g,r,h⟩:=id st;obtain⟨u,n,_,v,p⟩:=l;unfold kR;refine ah (kQ (name:=kP "__next__") st.typeIs wx
  (ph wx st.typeIs F.entry_tuple_iterator_next ?_ (F.args_tuple_iterator_next_1 _)))
 show wpAny _ _ (field (.ref it) 0 >>= _) _ _ s;refine ah (cO g h (x:=.ref t) rfl ?_);show wpAny _ _ (if(Value.ref t==Value.none)=true then _ else _) _ _ s
 rw[if_neg (show ¬((Value.ref t==Value.none)=true)from gH)];show wpAny _ _ (field (.ref it) 1 >>= _) _ _ s;refine ah (cO g h (x:=.int i 0) rfl ?_);show wpAny _ _ (seqItems? (.ref t) >>= _) _ _ s;refine ah (kN n p ?_);simp only[ji,hx];refine ah (nW (ah (iz g h (by simp) ?_)));show wpAny _ _ (newExc (.type "StopIteration") [] >>= _) _ _ _;refine ah ?_;simp only[newExc,newTuple];refine ah (iA ?_ (by size_fits));refine ah (m:=pK _ _) (wpAny_of_eq (a:=Value.none) (by first|rfl|(simp only[pK];rfl)) ?_)
 refine iA ?_ (by size_fits);simp only[raiseNew];refine ah (wpAny_handled ?_)
 first|rw[show A.in1.handled=none from j] | rw[j]
 refine ah (aw (wpAny_throw ?_));exact k _ _ (((jS ..).extBut.push _).push _) ⟨_,cJ _ rfl,rfl⟩
theorem Cn{z TI TO L M l1 l2:Addr}{k1 k2:Nat}{xs ys:Array Value}{x y a b:Value}{Q:Zc}(D:pL z TI TO L M l1 l2)
  (gz:IsZip s.heap z TI TO .none) (gI:IsPair s.heap TI (.ref L) (.ref M)) (gO:IsPair s.heap TO a b)
  (g1:s.heap.IsTupleIter L l1 k1) (g2:s.heap.IsTupleIter M l2 k2) (t1:s.heap.IsTuple l1 xs) (t2:s.heap.IsTuple l2 ys) (hx:xs[k1]?=some x) (hy:ys[k2]?=some y)
  (k:∀N,IsZip N z TI TO (rawInt s.heap.objs.size)->IsPair N TO x y->N.IsTupleIter L l1 (k1+1)->N.IsTupleIter M l2 (k2+1)->IsPair N s.heap.objs.size x y->N.objs.size=s.heap.objs.size+1 ->
   (∀c o,c≠z->c≠TO->c≠L->c≠M->s.heap.get? c=some o->N.get? c=some o)->Q (.ref s.heap.objs.size) { s with heap:=N }) :
  wpAny (model prog w) A (bX.«zip.__next__» ⟨[.ref z],[]⟩) (fun aT s'=>∃v,aT=.done (.ret v)/\Q v s') E s:=by
 show wpAny _ _ (field (.ref z) 2 >>= _) _ _ _;refine ah (cO gz rfl (x:=.bool false) rfl ?_);show wpAny _ _ (field (.ref z) 3 >>= _) _ _ _;refine ah (cO gz rfl (x:=.ref TI) rfl ?_);refine ah (kN gI rfl ?_);show wpAny _ _ (ww (.ref z) >>= _) _ _ _;refine ah ?_;unfold ww;refine ah (cO gz rfl (x:=.none) rfl (aw ?_));simp only[if_true];refine ah (nW ?_);refine ah (cO gz rfl (x:=.ref TO) rfl ?_);refine ah (pJ gz (by simp) fun m₁ q g=>?_)
 replace q:IsZip m₁ z TI TO .ellipsis:=q
 refine ah ?_;simp only[List.zipIdx_cons,List.zipIdx_nil,tq,List.forIn_nil];refine ah (ah (tp ?_));show wpAny _ _ (kR (.ref L) >>= _) _ _ _;refine ah (j_ (g1.extBut g.extBut D.i1z) (t1.extBut g.extBut D.l1z) hx fun m₂ O h=>aw ?_);have B:IsPair m₂ TO a b:=h.extBut _ _ D.TOi1 (g.extBut _ _ D.TOz gO);refine ah (kN B rfl ?_);refine ah (wpAny_updateSeq_pair B fun m₃ t i=>?_)
 replace t:IsPair m₃ TO x b:=t
 refine ah (wv (aw ?_));refine ah (ah (tp ?_));show wpAny _ _ (kR (.ref M) >>= _) _ _ _;refine ah (j_ (((g2.extBut g.extBut D.i2z).extBut h.extBut D.i12.symm).extBut i.extBut D.TOi2.symm)
  (((t2.extBut g.extBut D.l2z).extBut h.extBut D.l2i1).extBut i.extBut D.l2TO) hy fun m₄ T m=>aw ?_)
 have C:IsPair m₄ TO x b:=m.extBut _ _ D.TOi2 t;refine ah (kN C rfl ?_);refine ah (wpAny_updateSeq_pair C fun f j n=>?_)
 replace j:IsPair f TO x y:=j
 refine ah (wv (aw (aw ?_)));refine ah (kN j rfl ?_);refine ah (wpAny_newTuple ?_);have ap:f.objs.size=s.heap.objs.size:=by rw[n.1,m.1,i.1,h.1,g.1]
 have G:IsZip f z TI TO .ellipsis:=n.extBut _ _ D.TOz.symm (m.extBut _ _ D.i2z.symm (i.extBut _ _ D.TOz.symm (h.extBut _ _ D.i1z.symm q)));have U:∀c o,c≠z->c≠TO->c≠L->c≠M->s.heap.get? c=some o->f.get? c=some o:=fun c o Y c2 c3 c4 e =>
  n.extBut _ _ c2 (m.extBut _ _ c4 (i.extBut _ _ c2 (h.extBut _ _ c3 (g.extBut _ _ Y e))))
 have ab:f.IsTupleIter L l1 (k1+1):=((O.extBut i.extBut D.TOi1.symm).extBut m.extBut D.i12).extBut n.extBut D.TOi1.symm;have al:f.IsTupleIter M l2 (k2+1):=T.extBut n.extBut D.TOi2.symm;have as:z<f.objs.size:=aI G;show wpAny _ _ (bX.SmallTypes.ownedTupleHandOut (.ref z) (.ref f.objs.size) >>= _) _ _ _;refine ah ?_;unfold bX.SmallTypes.ownedTupleHandOut;have an:IsZip (f.push { cls:=.type "tuple",data:=.seq #[x,y] }) z TI TO .ellipsis:=aS _ G;refine ah (pJ an (by simp) fun m₇ u H=>?_)
 replace u:IsZip m₇ z TI TO (rawInt f.objs.size):=u
 refine pJ u (by simp) fun p l I=>?_
 replace l:IsZip p z TI TO (rawInt f.objs.size):=l
 have up:∀c o,c≠z->f.get? c=some o->p.get? c=some o:=fun c o Y e=>I.extBut _ _ Y (H.extBut _ _ Y (aS _ e));have J:IsPair p f.objs.size x y:=I.extBut _ _ (fE as) (H.extBut _ _ (fE as) (cJ _ rfl));have aC:p.objs.size=f.objs.size+1:=by rw[I.1,H.1,iU]
 rw[ap]at l J aC;refine aw ⟨_,rfl,?_⟩;show Q (.ref f.objs.size) _;rw[ap];refine k p l (up _ _ D.TOz j) ?_ ?_ J aC fun c o Y c2 c3 c4 e=>up c o Y (U c o Y c2 c3 c4 e)
 ·obtain⟨o,e,r⟩:=ab;exact⟨o,up _ o D.i1z e,r⟩
 ·obtain⟨o,e,r⟩:=al;exact⟨o,up _ o D.i2z e,r⟩
theorem DJ{z TI TO v y J L:Addr}{M N:Nat}{xs O:Array Value}{a b:Value}{Q:Fin->Shared->Prop}(hh:A.handled=none)(D:pL z TI TO v y J L)
  (B:IsZip s.heap z TI TO .none) (gI:IsPair s.heap TI (.ref v) (.ref y)) (gO:IsPair s.heap TO a b)
  (g1:s.heap.IsTupleIter v J M) (g2:s.heap.IsTupleIter y L N) (t1:s.heap.IsTuple J xs) (t2:s.heap.IsTuple L O) (T:xs[M]?=none∨O[N]?=none)
  (k:∀U e,(∀c o,c≠z->c≠TO->c≠v->c≠y->s.heap.get? c=some o->U.get? c=some o)->(∃o,U.get? e=some o/\o.cls=.type "StopIteration")->E (.ref e) { s with heap:=U }) :
  wpAny (model prog w) A (bX.«zip.__next__» ⟨[.ref z],[]⟩) Q E s:=by
 show wpAny _ _ (field (.ref z) 2 >>= _) _ _ _;refine ah (cO B rfl (x:=.bool false) rfl ?_);show wpAny _ _ (field (.ref z) 3 >>= _) _ _ _;refine ah (cO B rfl (x:=.ref TI) rfl ?_);refine ah (kN gI rfl ?_);show wpAny _ _ (ww (.ref z) >>= _) _ _ _;refine ah ?_;unfold ww;refine ah (cO B rfl (x:=.none) rfl (aw ?_));simp only[if_true];refine ah (nW ?_);refine ah (cO B rfl (x:=.ref TO) rfl ?_);refine ah (pJ B (by simp) fun m₁ i f=>?_)
 replace i:IsZip m₁ z TI TO .ellipsis:=i
 refine ah ?_;simp only[List.zipIdx_cons,List.zipIdx_nil,tq,List.forIn_nil];refine ah (ah (tp ?_));show wpAny _ _ (kR (.ref v) >>= _) _ _ _;cases hx:xs[M]? with
 |none =>
  refine ah (rh hh (g1.extBut f.extBut D.i1z) (t1.extBut f.extBut D.l1z) hx fun m₂ e g Y=>?_);obtain⟨oe,t,C⟩:=Y;have j:IsZip m₂ z TI TO .ellipsis:=g _ _ D.i1z.symm i;have u:e≠z:=fun q=>by subst q;rw[j]at t;cases t;simp at C
  refine pJ j (by simp) fun n _ h=>k n e (fun c o G _ c3 _ q=>h.extBut _ _ G (g _ _ c3 (f.extBut _ _ G q))) ⟨oe,h.extBut _ _ u t,C⟩
 |some x =>
  have hy:O[N]?=none:=by rcases T with q|q;rw[hx]at q;cases q;exact q
  refine ah (j_ (g1.extBut f.extBut D.i1z) (t1.extBut f.extBut D.l1z) hx fun m₂ ab g=>aw ?_);have l:IsPair m₂ TO a b:=g.extBut _ _ D.TOi1 (f.extBut _ _ D.TOz gO);refine ah (kN l rfl ?_);refine ah (wpAny_updateSeq_pair l fun n al h=>?_);refine ah (wv (aw ?_));refine ah (ah (tp ?_));show wpAny _ _ (kR (.ref y) >>= _) _ _ _;refine ah (rh hh (((g2.extBut f.extBut D.i2z).extBut g.extBut D.i12.symm).extBut h.extBut D.TOi2.symm)
   (((t2.extBut f.extBut D.l2z).extBut g.extBut D.l2i1).extBut h.extBut D.l2TO) hy fun H e p Y=>?_)
  obtain⟨oe,t,C⟩:=Y;have m:IsZip H z TI TO .ellipsis:=p _ _ D.i2z.symm (h.extBut _ _ D.TOz.symm (g.extBut _ _ D.i1z.symm i));have u:e≠z:=fun q=>by subst q;rw[m]at t;cases t;simp at C
  refine pJ m (by simp) fun I _ r=>k I e (fun c o G c2 c3 c4 q=>r.extBut _ _ G (p _ _ c4 (h.extBut _ _ c2 (g.extBut _ _ c3 (f.extBut _ _ G q))))) ⟨oe,r.extBut _ _ u t,C⟩
theorem u4{z TI TO f g h i:Addr}{j l:Nat}{xs ys:Array Value}{x y a b:Value}{Q:Option Value->Shared->Prop}(D:pL z TI TO f g h i)
  (m:IsZip s.heap z TI TO .none) (p:IsPair s.heap TI (.ref f) (.ref g)) (q:IsPair s.heap TO a b)
  (r:s.heap.IsTupleIter f h j) (t:s.heap.IsTupleIter g i l) (u:s.heap.IsTuple h xs) (v:s.heap.IsTuple i ys) (hx:xs[j]?=some x) (B:ys[l]?=some y)
  (k:∀e,IsZip e z TI TO (rawInt s.heap.objs.size)->IsPair e TO x y->e.IsTupleIter f h (j+1)->e.IsTupleIter g i (l+1)->IsPair e s.heap.objs.size x y->e.objs.size=s.heap.objs.size+1 ->
   (∀c o,c≠z->c≠TO->c≠f->c≠g->s.heap.get? c=some o->e.get? c=some o)->Q (some (.ref s.heap.objs.size)) { s with heap:=e }) :
  wpAny (model prog w) A (pyNext (.ref z)) Q E s:=by
 have n:s.TypeIs (.ref z) "zip":=⟨_,m,rfl⟩;unfold pyNext;exact ah (mL (kQ (name:=kP "__next__") n wu
  (ph wu n F.entry_zip_next
   (Cn D m p q r t u v hx B fun e a1 a2 a3 C G H I=>aw (k e a1 a2 a3 C G H I)) (F.args_zip_next_1 _))))
theorem xr{z TI TO f g h i:Addr}{m n:Nat}{xs ys:Array Value}{a b:Value}{Q:Option Value->Shared->Prop}(r:A.handled=none)(D:pL z TI TO f g h i)
  (p:IsZip s.heap z TI TO .none) (t:IsPair s.heap TI (.ref f) (.ref g)) (u:IsPair s.heap TO a b)
  (v:s.heap.IsTupleIter f h m) (x:s.heap.IsTupleIter g i n) (y:s.heap.IsTuple h xs) (B:s.heap.IsTuple i ys) (j:xs[m]?=none∨ys[n]?=none)
  (k:∀l,(∀c o,c≠z->c≠TO->c≠f->c≠g->s.heap.get? c=some o->l.get? c=some o)->Q none { s with heap:=l }):wpAny (model prog w) A (pyNext (.ref z)) Q E s:=by
 have q:s.TypeIs (.ref z) "zip":=⟨_,p,rfl⟩;unfold pyNext;refine ah (mL (kQ (name:=kP "__next__") q wu
  (ph wu q F.entry_zip_next (DJ r D p t u v x y B j fun l e kp C=>?_) (F.args_zip_next_1 _))))
 obtain⟨o,G,H⟩:=C;refine ah (yn (T:="StopIteration") (b:=true) ⟨o,G,H⟩ isSubtype_stop ?_);exact aw (k _ kp)
end
abbrev Jm(h:Heap)(l1:Addr):Heap:=h.push { cls:=.type "tuple_iterator",data:=.fields #[.ref l1,.int 0 0] }
abbrev Jl(h:Heap)(l1 l2:Addr):Heap:=(Jm h l1).push { cls:=.type "tuple_iterator",data:=.fields #[.ref l2,.int 0 0] }
abbrev Jk(h:Heap)(l1 l2:Addr):Heap:=(Jl h l1 l2).push { cls:=.type "tuple",data:=.seq #[.ref h.objs.size,.ref (Jm h l1).objs.size] }
abbrev Jj(h:Heap)(l1 l2:Addr):Heap:=(Jk h l1 l2).push { cls:=.type "tuple",data:=.seq #[.none,.none] }
abbrev Iu(h:Heap)(l1 l2:Addr):Heap:=(Jj h l1 l2).push { cls:=.type "zip",data:=.fields #[.none,.bool false,.bool false,.ref (Jl h l1 l2).objs.size,.ref (Jk h l1 l2).objs.size] }
theorem AA(l1 l2:Addr)(xs a:Array Value):
  Meets (bX.«zip.__new__» ⟨[.type "zip",.ref l1,.ref l2],[]⟩) (fun _ R s=>s.heap.IsTuple l1 xs/\s.heap.IsTuple l2 a /\
   R (.ok (.ret (.ref (Jj s.heap l1 l2).objs.size))) { s with heap:=Iu s.heap l1 l2 }) :=
 .of_wp fun e w A R s h=>by
  obtain⟨f,g,d,tk,os⟩:=s;obtain⟨j,k,h⟩:=h;have i:=sub_zip;have l:Heap.IsTuple (Shared.heap ⟨f,g,d,tk,os⟩) l1 xs:=j;have m:Heap.IsTuple (Shared.heap ⟨f.push { cls:=.type "tuple_iterator",data:=.fields #[.ref l1,.int 0 0] },g,d,tk,os⟩) l2 a:=Heap.IsTuple.push k _
  wp_walk using wpAny_pyIter_tuple l,wpAny_pyIter_tuple m
  exact⟨_,rfl,h⟩
section
variable{prog:bq}{w:World}{A:Around}{E:Zc}{s:Shared}
theorem Dq{a e:Addr}{xs ys:Array Value}{Q:Zc}(r:s.heap.IsTuple a xs)(t:s.heap.IsTuple e ys)
  (k:∀f,IsZip f (s.heap.objs.size+4) (s.heap.objs.size+2) (s.heap.objs.size+3) .none->IsPair f (s.heap.objs.size+2) (.ref s.heap.objs.size) (.ref (s.heap.objs.size+1)) ->
   IsPair f (s.heap.objs.size+3) .none .none->f.IsTupleIter s.heap.objs.size a 0->f.IsTupleIter (s.heap.objs.size+1) e 0->(∀c o,s.heap.get? c=some o->f.get? c=some o)->Q (.ref (s.heap.objs.size+4)) { s with heap:=f }) :
  wpAny (model prog w) A (call (.type "zip") [.ref a,.ref e]) Q E s:=by
 refine callType_new F.called_zip (by decide) (F.typeCall_zip_2 _ _) (F.newCall_zip_2 _ _) (fun g=>F.args_object_init_3 g _ _) F.entry_zip_new
  (AA a e xs ys) ⟨r,t,?_⟩
 have h:(Jm s.heap a).objs.size=s.heap.objs.size+1:=iU ..;have i:(Jl s.heap a e).objs.size=s.heap.objs.size+2:=by rw[iU,h]
 have j:(Jk s.heap a e).objs.size=s.heap.objs.size+3:=by rw[iU,i]
 have m:(Jj s.heap a e).objs.size=s.heap.objs.size+4:=by rw[iU,j]
 have l:(Iu s.heap a e).get? (Jj s.heap a e).objs.size=some _:=cJ _ rfl;have n:(Iu s.heap a e).get? (Jk s.heap a e).objs.size=some _:=aS _ (cJ _ rfl);have p:(Iu s.heap a e).get? (Jl s.heap a e).objs.size=some _:=aS _ (aS _ (cJ _ rfl));have q:(Iu s.heap a e).get? (Jm s.heap a).objs.size=some _:=aS _ (aS _ (aS _ (cJ _ rfl)));have u:(Iu s.heap a e).get? s.heap.objs.size=some _:=aS _ (aS _ (aS _ (aS _ (cJ _ rfl))));show _/\_;rw[i,j,m]at l;rw[h,i]at p;rw[j]at n;rw[h]at q;rw[m];exact⟨⟨_,l,rfl⟩,k _ l p n ⟨_,u,rfl,rfl⟩ ⟨_,q,rfl,rfl⟩ fun c o x =>
  aS _ (aS _ (aS _ (aS _ (aS _ x))))⟩
end
def G0(K:Za)(a b:Addr):It :=
  ⟨fun i H=>∃xs ys x y,cr K H a xs/\cr K H b ys/\xs[i]?=some x/\ys[i]?=some y,
   fun i H x H'=>∃p u v,x=.ref p/\H p=none/\(∀xs,cr K H a xs->xs[i]?=some u)/\(∀ys,cr K H b ys->ys[i]?=some v)/\H'=upd H p (.tup [u,v]),
   fun i H=>∃xs ys,cr K H a xs/\cr K H b ys/\(xs.length<=i∨ys.length<=i)⟩
theorem Cr{P:bq}{w:World}{K:Za}{es:List Expr}{kx:Nat}{J8:Pos}(a b z TI TO t A:Addr)(D:pL z TI TO t A a b):
  uC P w K (.Tuple es kx J8) (G0 K a b) [z,TI,TO,t,A] z (fun i h=>IsZip h z TI TO .none/\IsPair h TI (.ref t) (.ref A)/\(∃a b,IsPair h TO a b)/\h.IsTupleIter t a i/\h.IsTupleIter A b i) where
 mem:=by simp
 obj:=fun i h st c f=>by
  obtain⟨p,j,⟨u,v,l⟩,M,N⟩:=st;simp only[cK,jT,or_false]at f;rcases f with rfl|rfl|rfl|rfl|rfl
  ·exact⟨_,p,fun v z=>by cases z⟩
  ·exact⟨_,j,fun v z=>by cases z⟩
  ·exact⟨_,l,fun v z=>by cases z⟩
  ·obtain⟨o,e,c,d⟩:=M;exact⟨o,e,fun v z=>by rw[d]at z;cases z⟩
  ·obtain⟨o,e,c,d⟩:=N;exact⟨o,e,fun v z=>by rw[d]at z;cases z⟩
 keep:=fun i h O st k=>by
  obtain⟨p,j,⟨u,v,l⟩,⟨o1,e1,r1⟩,⟨o2,e2,r2⟩⟩:=st;exact⟨k z (by simp) _ p,k TI (by simp) _ j,⟨u,v,k TO (by simp) _ l⟩,⟨o1,k t (by simp) o1 e1,r1⟩,⟨o2,k A (by simp) o2 e2,r2⟩⟩
 item:=by
  intro X hP hw hK f i J4 s σ H E I hf st hg;subst hP hw hK;obtain⟨p,j,⟨u0,v0,l⟩,M,N⟩:=st;obtain⟨xs,ys,x,y,C,G,hx,hy⟩:=hg;obtain⟨J,rx,px,zx⟩:=I.tuple C;obtain⟨L,ry,py,zy⟩:=I.tuple G;obtain⟨u,hu,ru⟩:=rx.get hx;obtain⟨v,hv,rv⟩:=ry.get hy;refine u4 D p j l M N (xs:=J.toArray) (ys:=L.toArray) px py (x:=u) (y:=v) (by simpa using hu) (by simpa using hv) fun O a1 a2 a3 a4 a5 a6 hk=>?_;refine⟨_,rfl,wpAny_letOwnedTupleGo_zip (s:={ s with heap:=O }) a1 fun B ap as=>?_⟩;have g:gJ z O B:=as;have Q:s.heap.objs.size≠z:=fE (aI p);have T:s.heap.objs.size≠TO:=fE (aI l);have U:s.heap.objs.size≠TI:=fE (aI j);have Y:s.heap.objs.size≠t:=by obtain⟨o,ho,_⟩:=M;exact fE (aI ho)
  have ab:s.heap.objs.size≠A:=by obtain⟨o,ho,_⟩:=N;exact fE (aI ho)
  have al:IsPair B s.heap.objs.size u v:=g.extBut _ _ Q a5;have I2:Inv X J4 σ (upd H s.heap.objs.size (.tup [x,y])) { s with heap:=B,toks:=s.toks }:=by
   refine I.turnedNew (ch:=[z,TI,TO,t,A]) hf (fun c o f q=>?_) ⟨_,al⟩ (fun _ z=>nomatch z) ⟨by show 2<=ak;decide,[u,v],.cons ru (.cons rv .nil),⟨_,al,rfl,_,rfl⟩⟩;have n1:c≠z:=fun q=>f (by simp[q]);exact g.extBut _ _ n1 (hk c o n1 (fun q=>f (by simp[q])) (fun q=>f (by simp[q])) (fun q=>f (by simp[q])) q)
  have aC:B.IsTupleIter t a (i+1):=by obtain⟨o,e,r⟩:=a3;exact⟨o,g.extBut _ _ D.i1z e,r⟩
  have aT:B.IsTupleIter A b (i+1):=by obtain⟨o,e,r⟩:=a4;exact⟨o,g.extBut _ _ D.i2z e,r⟩
  refine⟨.ref s.heap.objs.size,_,I2,rfl,⟨_,x,y,rfl,I.fresh,fun zs p=>by rw[I.tuple_inj p C];exact hx,fun zs p=>by rw[I.tuple_inj p G];exact hy,rfl⟩,⟨ap,g.extBut _ _ D.TIz (hk _ _ D.TIz D.TITO D.TIi1 D.TIi2 j),⟨_,_,g.extBut _ _ D.TOz a2⟩,aC,aT⟩,fun c f=>?_⟩;have aX:=(hf c f).1;simp only[cK,jT,or_false]at f;have ne:c≠s.heap.objs.size:=by
   rcases f with rfl|rfl|rfl|rfl|rfl
   ·exact Q.symm
   ·exact U.symm
   ·exact T.symm
   ·exact Y.symm
   ·exact ab.symm
  rw[am ne];exact aX
 done:=by
  intro X hP hw hK f i J4 s σ H E I hf st hg;subst hP hw hK;obtain⟨p,j,⟨u0,v0,l⟩,M,N⟩:=st;obtain⟨xs,ys,C,G,an⟩:=hg;obtain⟨J,rx,px,zx⟩:=I.tuple C;obtain⟨L,ry,py,zy⟩:=I.tuple G;have lx:=rx.length;have ly:=ry.length;refine xr (I.ok.hd f) D p j l M N (xs:=J.toArray) (ys:=L.toArray) px py (by rcases an with q|q;exact .inl (by simp;omega);exact .inr (by simp;omega)) fun O hk=>⟨rfl,?_⟩;have tr:∀c q,H c=some q->c∉[z,TI,TO,t,A]:=fun c q e m=>by rw[(hf c m).1]at e;cases e
  have kk:∀c o,c∉[z,TI,TO,t,A]->s.heap.get? c=some o->O.get? c=some o:=fun c o f q=>hk c o (fun q=>f (by simp[q])) (fun q=>f (by simp[q])) (fun q=>f (by simp[q])) (fun q=>f (by simp[q])) q;refine I.step (g':=s.gens) (d':=s.drawn) (t':=s.toks) (ch:=[z,TI,TO,t,A]) (fun c f=>?_) (fun c o _ _ f e _=>kk c o f e) (fun c o _ _ f e _=>⟨o.slots,kk c o f e⟩) (fun _ _ _ _ n=>n) (fun c o f e=>⟨o,kk c o f e⟩) (fun _ _ e=>e) (fun _ _ _ e=>e) (fun c ps e=>⟨#[],by rw[e];simp⟩) (fun m hm=>?_) (fun c q e=>?_) I.bare
  ·obtain⟨f0,f1,f2,f3,f4,f5⟩:=hf c f;exact⟨f3,f1,f4,f5⟩
  ·obtain⟨q,a0,ep,ho,r⟩:=hm;exact⟨q,a0,ep,kk _ q (fun z=>(hf _ z).2.1 rfl) ho,r⟩
  ·refine(I.hok c q e).stay (fun d v hd q'=>kk d v ?_ q') (fun _ q=>q) fun _ _ q=>q;rcases hd with z|z
   ·subst z;exact tr _ _ e
   ·exact tr _ _ z
 self:=fun _ _ _ _ _ st h=>wz st.1 h
section
variable{X:Cx}{p pos:Pos}{es:List Expr}{kx:Nat}{J8:Pos}
def BW(K:Za)(ta:TA):TI:=fun σ H R=>ta σ H fun vs H1=>∃a b,vs=[.ref a,.ref b]/\(((∃xs,av K H1 a xs)/\(∃ys,av K H1 b ys)/\R (Im K a b) H1)∨((∃xs,cr K H1 a xs)/\(∃ys,cr K H1 b ys)/\R (G0 K a b) H1))
theorem BK{a b:Expr}{J:TA}(O:Gl X "zip")(Q:X.mg "zip"=none)(T:PA X [a,b] J)(U:ay [a,b] X.env=[(false,eval a X.env),(false,eval b X.env)]:=by rfl)(j:ay [b] X.env=[(false,eval b X.env)]:=by rfl):
  PI X (.Tuple es kx J8) (.Call (.Name "zip" p) [a,b] [] pos) (BW X.K J):=by
 intro x s σ H R I h;refine Call_ (nj I O Q boot_zip (yk (cM (T pos x s σ H _ I h) fun us s1 y=>?_) (by rw[U,j]) (by rw[j];rfl)));obtain⟨vs,k,f,Y,q1⟩:=y;obtain⟨L,M,e,q⟩:=q1;subst e;obtain⟨u,v,rfl,ru,rv⟩:=vals2 Y;cases ru;cases rv;have l:∀b∈[s1.heap.objs.size+4,s1.heap.objs.size+2,s1.heap.objs.size+3,s1.heap.objs.size,s1.heap.objs.size+1],lM X x k b:=fun b N=>by
  have m:s1.heap.objs.size<=b:=by
   simp only[cK,jT,or_false]at N;rcases N with rfl|rfl|rfl|rfl|rfl<;>omega
  exact f.fpOk m (f.hok.fresh m)
 rcases q with⟨⟨xs,hx⟩,⟨ys,z⟩,q⟩|⟨⟨xs,hx⟩,⟨ys,z⟩,q⟩
 ·obtain⟨n,rx,r,zx⟩:=f.list hx;obtain⟨t,ry,w,zy⟩:=f.list z;obtain⟨o1,n1,A,_⟩:=id r;obtain⟨o2,n2,B,_⟩:=id w;refine call_zip_2 r.isList w.isList fun g a1 a2 a3 C D a6 E=>?_;refine wz (s:={ s1 with heap:=g }) a1 ?_;have i:∀b o,s1.heap.get? b=some o->g.get? b=some o:=E;have G:Inv X x σ k { s1 with heap:=g }:=f.kept (t':=s1.toks) i;exact⟨_,_,_,_,k,rfl,G,DX L M _ _ _ _ _ (zipApart_new (aI A) (aI B)),⟨a1,a2,⟨_,_,a3⟩,C,D⟩,l,q⟩
 ·obtain⟨n,rx,r,zx⟩:=f.tuple hx;obtain⟨t,ry,w,zy⟩:=f.tuple z;obtain⟨o1,A,_⟩:=id r;obtain⟨o2,B,_⟩:=id w;refine Dq (xs:=n.toArray) (ys:=t.toArray) r w fun g a1 a2 a3 C D E=>?_;refine wz (s:={ s1 with heap:=g }) a1 ?_;have i:∀b o,s1.heap.get? b=some o->g.get? b=some o:=E;have G:Inv X x σ k { s1 with heap:=g }:=f.kept (t':=s1.toks) i;exact⟨_,_,_,_,k,rfl,G,Cr L M _ _ _ _ _ (zipApart_new (aI A) (aI B)),⟨a1,a2,⟨_,_,a3⟩,C,D⟩,l,q⟩
end
inductive DT where
 |k (a:fD)
 |t (l:List DT)
 |s (l:List DT)
mutual
def Ho:(x y:DT)->Decidable (x=y)
 |.k a,.k b=>if h:a=b then Decidable.isTrue (by rw[h])else Decidable.isFalse fun e=>h (by injection e)
 |.t l,.t m=>match decDTs l m with
  |Decidable.isTrue h=>Decidable.isTrue (by rw[h])
  |Decidable.isFalse h=>Decidable.isFalse fun e=>h (by injection e)
 |.s l,.s m=>match decDTs l m with
  |Decidable.isTrue h=>Decidable.isTrue (by rw[h])
  |Decidable.isFalse h=>Decidable.isFalse fun e=>h (by injection e)
 |.k _,.t _=>Decidable.isFalse nofun
 |.k _,.s _=>Decidable.isFalse nofun
 |.t _,.k _=>Decidable.isFalse nofun
 |.t _,.s _=>Decidable.isFalse nofun
 |.s _,.k _=>Decidable.isFalse nofun
 |.s _,.t _=>Decidable.isFalse nofun
def decDTs:(x y:List DT)->Decidable (x=y)
 |[],[]=>Decidable.isTrue rfl
 |[],_::_=>Decidable.isFalse nofun
 |_::_,[]=>Decidable.isFalse nofun
 |a::l,b::m=>match Ho a b with
  |Decidable.isTrue h=>match decDTs l m with
   |Decidable.isTrue h'=>Decidable.isTrue (by rw[h,h'])
   |Decidable.isFalse h'=>Decidable.isFalse fun e=>h' (by injection e)
  |Decidable.isFalse h=>Decidable.isFalse fun e=>h (by injection e)
end
instance:DecidableEq DT:=Ho
mutual
def DT.depth:DT->Nat
 |.k _=>0
 |.t l=>DT.depths l+1
 |.s l=>DT.depths l+1
def DT.depths:List DT->Nat
 |[]=>0
 |a::r=>max (DT.depth a) (DT.depths r)
end
mutual
def sN(h:Heap):DT->Value->Prop
 |.k a,v=>dw a v=true
 |.t l,v=>∃a items,v=.ref a/\h.IsTuple a items/\DAts h l items.toList
 |.s l,v=>∃a items,v=.ref a/\h.IsList a items/\DAts h l items.toList
def DAts(h:Heap):List DT->List Value->Prop
 |[],vs=>vs=[]
 |k::r,vs=>∃v us,vs=v::us/\sN h k v/\DAts h r us
end
theorem DAts.length{h:Heap}:∀{xs:List DT}{a:Zf},DAts h xs a->xs.length=a.length
 |[],a,e=>by have f:a=[]:=e;rw[f];rfl
 |x::xs,a,e=>by
  obtain⟨v,i,rfl,_,g⟩:=e;simp[DAts.length g]
theorem DAts.get{h:Heap}:∀{xs:List DT}{a:Zf}{i:Nat}{v:Value},DAts h xs a->a[i]?=some v->∃x,xs[i]?=some x/\sN h x v
 |[],a,i,v,e,q=>by have f:a=[]:=e;subst f;simp at q
 |x::xs,a,i,v,e,q=>by
  obtain⟨u,m,rfl,g,j⟩:=e;cases i with
  |zero =>
   simp at q;subst q;exact⟨x,rfl,g⟩
  |succ i =>
   obtain⟨y,k,l⟩:=DAts.get j (i:=i) (v:=v) (by simpa using q);exact⟨y,by simpa using k,l⟩
theorem DT.depths_get{l:List DT}{x:DT}{i d:Nat}(h:DT.depths l<=d)(e:l[i]?=some x):x.depth<=d:=by
 induction l generalizing i with
 |nil=>simp at e
 |cons a r f =>
  have g:max a.depth (DT.depths r)<=d:=h;cases i with
  |zero=>simp at e;subst e;omega
  |succ i=>exact f (by omega) (by simpa using e)
theorem AH{h:Heap}{a:Addr}{i j:Array Value}(x:h.IsList a i)(y:h.IsList a j):i=j:=by
 obtain⟨o,g,_,n,k⟩:=x;obtain⟨l,e,_,m,f⟩:=y;rw[g]at e;cases e;rw[k]at f;injection f
theorem za{h:Heap}{a:Addr}{i j:Array Value}(x:h.IsTuple a i)(y:h.IsTuple a j):i=j:=by
 obtain⟨o,g,_,n,k⟩:=x;obtain⟨l,e,_,m,f⟩:=y;rw[g]at e;cases e;rw[k]at f;injection f
theorem jG{h:Heap}{a:Addr}{i j:Array Value}(x:h.IsList a i)(y:h.IsTuple a j):False:=by
 obtain⟨o,g,k,_⟩:=x;obtain⟨l,e,f,_⟩:=y;rw[g]at e;cases e;rw[k]at f;simp at f
theorem vI{a b:fD}{v:Value}(g:dw a v=true)(f:dw b v=true):a=b:=by
 rcases az g with⟨i,t,rfl,rfl⟩|⟨i,t,rfl,rfl⟩
 ·rcases az f with⟨j,u,rfl,e⟩|⟨j,u,rfl,e⟩
  ·cases e;rfl
  ·cases e
 ·rcases az f with⟨j,u,rfl,e⟩|⟨j,u,rfl,e⟩
  ·cases e
  ·cases e;rfl
theorem ir{a:fD}{b:Addr}(h:dw a (.ref b)=true):False:=by
 rcases az h with⟨_,_,_,e⟩|⟨_,_,_,e⟩<;>cases e
theorem sN.inj{h:Heap}:∀(d:Nat) {x y:DT}{v:Value},x.depth<=d->sN h x v->sN h y v->x=y:=by
 have p:∀(d:Nat) (q:∀{x y:DT}{v:Value},x.depth<=d->sN h x v->sN h y v->x=y) (xs g:List DT) (r:Zf),DT.depths xs<=d->DAts h xs r->DAts h g r->xs=g:=by
  intro d q xs
  induction xs with
  |nil =>
   intro g r _ hx f;have u:r=[]:=hx;subst u;cases g with
   |nil=>rfl
   |cons y g=>obtain⟨_,_,e,_⟩:=f;cases e
  |cons x xs w =>
   intro g r n hx f;obtain⟨v,H,rfl,z,A⟩:=hx;cases g with
   |nil=>have B:v::H=[]:=f;cases B
   |cons y g =>
    obtain⟨L,I,e,C,D⟩:=f;cases e;have J:max x.depth (DT.depths xs)<=d:=n;rw[q (by omega) z C,w g H (by omega) A D]
 intro d
 induction d with
 |zero =>
  intro x y v n hx f;cases x with
  |t l=>exact absurd n (by show ¬(DT.depths l+1<=0);omega)
  |s l=>exact absurd n (by show ¬(DT.depths l+1<=0);omega)
  |k a =>
   cases y with
   |k b=>rw[vI hx f]
   |t l=>obtain⟨b,_,rfl,_⟩:=f;exact(ir hx).elim
   |s l=>obtain⟨b,_,rfl,_⟩:=f;exact(ir hx).elim
 |succ d q =>
  intro x y v n hx f;cases x with
  |k a =>
   cases y with
   |k b=>rw[vI hx f]
   |t l=>obtain⟨b,_,rfl,_⟩:=f;exact(ir hx).elim
   |s l=>obtain⟨b,_,rfl,_⟩:=f;exact(ir hx).elim
  |t l =>
   obtain⟨a,i,rfl,hi,hx⟩:=hx;cases y with
   |k b=>exact(ir f).elim
   |t m =>
    obtain⟨E,j,e,o,f⟩:=f;cases e;rw[za o hi]at f;rw[p d (fun G=>q G) l m i.toList (by have:DT.depths l+1<=d+1:=n;omega) hx f]
   |s m =>
    obtain⟨E,j,e,o,f⟩:=f;cases e;exact(jG o hi).elim
  |s l =>
   obtain⟨a,i,rfl,hi,hx⟩:=hx;cases y with
   |k b=>exact(ir f).elim
   |s m =>
    obtain⟨E,j,e,o,f⟩:=f;cases e;rw[AH o hi]at f;rw[p d (fun G=>q G) l m i.toList (by have:DT.depths l+1<=d+1:=n;omega) hx f]
   |t m =>
    obtain⟨E,j,e,o,f⟩:=f;cases e;exact(jG hi o).elim
theorem fR{l m:List DT}(f:l.length=m.length):((mC l.length).all fun j=>decide (l[j]?=m[j]?))=decide (l=m):=by
 by_cases e:l=m
 ·subst e;simp
 ·rw[zzr0 e];rw[List.all_eq_false];apply Classical.byContradiction;intro h;apply e;apply List.ext_getElem?;intro i;by_cases hi:i<l.length
  ·apply Classical.byContradiction;intro a;exact h ⟨i,List.mem_range.mpr hi,by simpa using a⟩
  ·rw[List.getElem?_eq_none (by omega),List.getElem?_eq_none (by omega)]
section
variable{s:Shared}
theorem Hk:∀(d:Nat) {A:Around}{x y:DT}{u v:Value},y.depth<=d->A.units+d<cLine->sN s.heap x u->sN s.heap y v->bo A s u v (decide (x=y)):=by
 have leaves:∀{A:Around}{a b:fD}{u v:Value},dw a u=true->dw b v=true->bo A s u v (decide (DT.k a=DT.k b)):=by
  intro A a b u v B G;have J:decide (DT.k a=DT.k b)=decide (a=b):=by
   by_cases e:a=b
   ·subst e;simp
   ·have:¬(DT.k a=DT.k b):=fun z=>e (by injection z);rw[zzr0 this,zzr0 e]
  rw[J];rcases az B with⟨i,t,rfl,rfl⟩|⟨i,t,rfl,rfl⟩
  ·rcases az G with⟨j,u,rfl,rfl⟩|⟨j,u,rfl,rfl⟩
   ·rw[xB];exact bo.int_int i t j u
   ·rw[xA];exact bo.int_str i t j u
  ·rcases az G with⟨j,u,rfl,rfl⟩|⟨j,u,rfl,rfl⟩
   ·rw[xy];exact bo.str_int i t j u
   ·rw[xx];have:=bo.str_str (A:=A) (s:=s) i t j u;rwa[show(i==j)=decide (i=j)from by by_cases e:i=j<;>simp[e]]at this
 have kt:∀{A:Around}{a:fD}{u:Value}{b:Addr}{items:Array Value},A.units<cLine->dw a u=true->s.heap.IsTuple b items->bo A s u (.ref b) false/\bo A s (.ref b) u false:=by
  intro A a u b items h B w;rcases az B with⟨i,t,rfl,rfl⟩|⟨i,t,rfl,rfl⟩
  ·exact⟨bo.int_tuple i t w h,bo.tuple_int i t w h⟩
  ·exact⟨bo.str_tuple i t w h,bo.tuple_str i t w h⟩
 have L:∀{A:Around}{a:fD}{u:Value}{b:Addr}{items:Array Value},A.units<cLine->dw a u=true->s.heap.IsList b items->bo A s u (.ref b) false/\bo A s (.ref b) u false:=by
  intro A a u b items h B w;rcases az B with⟨i,t,rfl,rfl⟩|⟨i,t,rfl,rfl⟩
  ·exact⟨bo.int_list i t w h,bo.list_int i t w h⟩
  ·exact⟨bo.str_list i t w h,bo.list_str i t w h⟩
 intro d
 induction d with
 |zero =>
  intro A x y u v o h hx f;cases y with
  |t l=>exact absurd o (by show ¬(DT.depths l+1<=0);omega)
  |s l=>exact absurd o (by show ¬(DT.depths l+1<=0);omega)
  |k b =>
   cases x with
   |t l =>
    obtain⟨a,i,rfl,hi,_⟩:=hx;rw[zzr0 (by intro z;cases z)];exact(kt (by omega) f hi).2
   |s l =>
    obtain⟨a,i,rfl,hi,_⟩:=hx;rw[zzr0 (by intro z;cases z)];exact(L (by omega) f hi).2
   |k a=>exact leaves hx f
 |succ d Q =>
  intro A x y u v o h hx f;have items:∀{l m:List DT}{i j:Array Value},DT.depths m<=d->DAts s.heap l i.toList->DAts s.heap m j.toList->∀n (B:n<i.size) (G:n<j.size),bo A.in1 s i[n] j[n] (decide (l[n]?=m[n]?)):=by
   intro l m i j H hi p n B G;obtain⟨x,ex,hx⟩:=hi.get (i:=n) (v:=i[n]) (by simp[B]);obtain⟨y,O,f⟩:=p.get (i:=n) (v:=j[n]) (by simp[G]);rw[ex,O];have J:decide ((some x:Option DT)=some y)=decide (x=y):=by
    by_cases e:x=y
    ·subst e;simp
    ·rw[zzr0 e,zzr0 fun z=>e (eM z)]
   rw[J];exact Q (DT.depths_get H O) (by show A.units+1+d<cLine;omega) hx f
  cases x with
  |k a =>
   cases y with
   |k b=>exact leaves hx f
   |t l =>
    obtain⟨b,i,rfl,hi,_⟩:=f;rw[zzr0 (by intro z;cases z)];exact(kt (by omega) hx hi).1
   |s l =>
    obtain⟨b,i,rfl,hi,_⟩:=f;rw[zzr0 (by intro z;cases z)];exact(L (by omega) hx hi).1
  |t l =>
   have C:=hx;obtain⟨a,i,rfl,hi,hx⟩:=hx;cases y with
   |k b =>
    rw[zzr0 (by intro z;cases z)];exact(kt (by omega) f hi).2
   |s m =>
    obtain⟨b,j,rfl,p,_⟩:=f;rw[zzr0 (by intro z;cases z)];exact bo.tuple_list hi p (by omega)
   |t m =>
    have H:DT.depths m<=d:=by have:DT.depths m+1<=d+1:=o;omega
    have D:=f;obtain⟨b,j,rfl,p,f⟩:=f;by_cases g:a=b
    ·subst g;have e:DT.t l=DT.t m:=sN.inj _ (aK _) C D;rw[zzr1 e];exact bo.same _
    ·have r:=SeqAt.RcAt.tuples (A:=A) hi p (by omega) (items H hx f);have I:=hx.length;have M:=f.length;simp only[kL]at I M;have q:((mC (min i.size j.size)).all (fun n=>decide (l[n]?=m[n]?)) && i.size==j.size)=decide (DT.t l=DT.t m):=by
      by_cases e:l.length=m.length
      ·have N:i.size=j.size:=by omega
       rw[<-N,Nat.min_self,<-I,fR e];by_cases E:l=m
       ·subst E;simp
       ·have:¬(DT.t l=DT.t m):=fun z=>E (by injection z);rw[zzr0 this,zzr0 E];rfl
      ·have N:(i.size==j.size)=false:=by simp;omega
       have:¬(DT.t l=DT.t m):=fun z=>e (by injection z with z;rw[z]);rw[N,zzr0 this,pP]
     rw[q]at r;exact .of_refs g r
  |s l =>
   have C:=hx;obtain⟨a,i,rfl,hi,hx⟩:=hx;cases y with
   |k b =>
    rw[zzr0 (by intro z;cases z)];exact(L (by omega) f hi).2
   |t m =>
    obtain⟨b,j,rfl,p,_⟩:=f;rw[zzr0 (by intro z;cases z)];exact bo.list_tuple hi p (by omega)
   |s m =>
    have H:DT.depths m<=d:=by have:DT.depths m+1<=d+1:=o;omega
    have D:=f;obtain⟨b,j,rfl,p,f⟩:=f;by_cases g:a=b
    ·subst g;have e:DT.s l=DT.s m:=sN.inj _ (aK _) C D;rw[zzr1 e];exact bo.same _
    ·have I:=hx.length;have M:=f.length;simp only[kL]at I M;by_cases e:l.length=m.length
     ·have r:=SeqAt.RcAt.lists (A:=A) hi p (by omega) (by omega) (items H hx f);rw[<-I,fR e]at r;have q:decide (l=m)=decide (DT.s l=DT.s m):=by
       by_cases E:l=m
       ·subst E;simp
       ·have:¬(DT.s l=DT.s m):=fun z=>E (by injection z);rw[zzr0 this,zzr0 E]
      rw[q]at r;exact .of_refs g r
     ·have:¬(DT.s l=DT.s m):=fun z=>e (by injection z with z;rw[z]);rw[zzr0 this];exact .of_refs g (SeqAt.RcAt.lists_lengths hi p (by simp;omega) (by omega))
end
theorem BZ(a b:fD):decide (DT.k a=DT.k b)=decide (a=b):=by
 by_cases e:a=b
 ·subst e;simp
 ·rw[zzr0 e,zzr0 fun z=>e (by injection z)]
theorem Hl(l m:List DT):decide (DT.t l=DT.t m)=decide (l=m):=by
 by_cases e:l=m
 ·subst e;simp
 ·rw[zzr0 e,zzr0 fun z=>e (by injection z)]
theorem Hm(l m:List DT):decide (DT.s l=DT.s m)=decide (l=m):=by
 by_cases e:l=m
 ·subst e;simp
 ·rw[zzr0 e,zzr0 fun z=>e (by injection z)]
theorem Fw(x y:DT):decide ((some x:Option DT)=some y)=decide (x=y):=by
 by_cases e:x=y
 ·subst e;simp
 ·rw[zzr0 e,zzr0 fun z=>e (eM z)]
section
variable{A:Around}{s:Shared}
theorem o5{d:Nat}(g:A.units+1+d<cLine){l m:List DT}{i j:Array Value}(h:DT.depths m<=d)(hi:DAts s.heap l i.toList)(k:DAts s.heap m j.toList):
  ∀n (a:n<i.size) (e:n<j.size),bo A.in1 s i[n] j[n] (decide (l[n]?=m[n]?)):=by
 intro n a e;obtain⟨x,ex,hx⟩:=hi.get (i:=n) (v:=i[n]) (by simp[a]);obtain⟨y,f,o⟩:=k.get (i:=n) (v:=j[n]) (by simp[e]);rw[ex,f,Fw];exact Hk d (DT.depths_get h f) g hx o
theorem Bv{l m:List DT}{i j:Array Value}(hi:DAts s.heap l i.toList)(g:DAts s.heap m j.toList):((mC (min i.size j.size)).all (fun n=>decide (l[n]?=m[n]?)) && i.size==j.size)=decide (l=m):=by
 have f:=hi.length;have h:=g.length;simp only[kL]at f h;by_cases e:l.length=m.length
 ·have a:i.size=j.size:=by omega
  rw[<-a,Nat.min_self,<-f,fR e];simp
 ·have a:(i.size==j.size)=false:=by simp;omega
  rw[a,zzr0 fun z=>e (by rw[z]),pP]
theorem IU{x y:DT}{u v:Value}(o:y.depth<=14)(w:A.units+16<cLine)(hx:sN s.heap x u)(f:sN s.heap y v):SeqAt.RcAt A s u v (decide (x=y)):=by
 cases x with
 |k a =>
  rcases az (show dw a u=true from hx)with⟨i,t,rfl,rfl⟩|⟨i,t,rfl,rfl⟩
  ·cases y with
   |k b =>
    rw[BZ];rcases az (show dw b v=true from f)with⟨j,h,rfl,rfl⟩|⟨j,h,rfl,rfl⟩
    ·rw[xB];exact SeqAt.RcAt.int_int i t j h
    ·rw[xA];exact SeqAt.RcAt.int_str i t j h
   |t m=>obtain⟨b,j,rfl,g,_⟩:=f;rw[zzr0 (by intro z;cases z)];exact SeqAt.RcAt.int_tuple i t g (by omega)
   |s m=>obtain⟨b,j,rfl,g,_⟩:=f;rw[zzr0 (by intro z;cases z)];exact SeqAt.RcAt.int_list i t g (by omega)
  ·cases y with
   |k b =>
    rw[BZ];rcases az (show dw b v=true from f)with⟨j,h,rfl,rfl⟩|⟨j,h,rfl,rfl⟩
    ·rw[xy];exact SeqAt.RcAt.str_int i t j h
    ·rw[xx];have:=SeqAt.RcAt.str_str (A:=A) (s:=s) i t j h;rwa[show(i==j)=decide (i=j)from by by_cases e:i=j<;>simp[e]]at this
   |t m=>obtain⟨b,j,rfl,g,_⟩:=f;rw[zzr0 (by intro z;cases z)];exact SeqAt.RcAt.str_tuple i t g (by omega)
   |s m=>obtain⟨b,j,rfl,g,_⟩:=f;rw[zzr0 (by intro z;cases z)];exact SeqAt.RcAt.str_list i t g (by omega)
 |t l =>
  obtain⟨a,i,rfl,hi,hx⟩:=hx;cases y with
  |k b =>
   rw[zzr0 (by intro z;cases z)];rcases az (show dw b v=true from f)with⟨j,h,rfl,rfl⟩|⟨j,h,rfl,rfl⟩
   ·exact SeqAt.RcAt.tuple_int j h hi (by omega)
   ·exact SeqAt.RcAt.tuple_str j h hi (by omega)
  |t m =>
   obtain⟨b,j,rfl,g,f⟩:=f;have n:DT.depths m<=13:=by have:DT.depths m+1<=14:=o;omega
   have r:=SeqAt.RcAt.tuples (A:=A) hi g (by omega) (o5 (by omega) n hx f);rw[Bv hx f]at r;rw[Hl];exact r
  |s m=>obtain⟨b,j,rfl,g,_⟩:=f;rw[zzr0 (by intro z;cases z)];exact SeqAt.RcAt.tuple_list hi g (by omega)
 |s l =>
  obtain⟨a,i,rfl,hi,hx⟩:=hx;cases y with
  |k b =>
   rw[zzr0 (by intro z;cases z)];rcases az (show dw b v=true from f)with⟨j,h,rfl,rfl⟩|⟨j,h,rfl,rfl⟩
   ·exact SeqAt.RcAt.list_int j h hi (by omega)
   ·exact SeqAt.RcAt.list_str j h hi (by omega)
  |t m=>obtain⟨b,j,rfl,g,_⟩:=f;rw[zzr0 (by intro z;cases z)];exact SeqAt.RcAt.list_tuple hi g (by omega)
  |s m =>
   obtain⟨b,j,rfl,g,f⟩:=f;have n:DT.depths m<=13:=by have:DT.depths m+1<=14:=o;omega
   have p:=hx.length;have q:=f.length;simp only[kL]at p q;rw[Hm];by_cases e:l.length=m.length
   ·have r:=SeqAt.RcAt.lists (A:=A) hi g (by omega) (by omega) (o5 (by omega) n hx f);rw[<-p,fR e]at r;exact r
   ·rw[zzr0 fun z=>e (by rw[z])];exact SeqAt.RcAt.lists_lengths hi g (by simp;omega) (by omega)
theorem IV{x y:DT}{u v:Value}(o:y.depth<=14)(w:A.units+16<cLine)(hx:sN s.heap x u)(f:sN s.heap y v):SeqAt.RcNeAt A s u v (!decide (x=y)):=by
 cases x with
 |k a =>
  rcases az (show dw a u=true from hx)with⟨i,t,rfl,rfl⟩|⟨i,t,rfl,rfl⟩
  ·cases y with
   |k b =>
    rw[BZ];rcases az (show dw b v=true from f)with⟨j,h,rfl,rfl⟩|⟨j,h,rfl,rfl⟩
    ·rw[xB];exact SeqAt.RcNeAt.int_int i t j h
    ·rw[xA];exact SeqAt.RcNeAt.int_str i t j h
   |t m=>obtain⟨b,j,rfl,g,_⟩:=f;rw[zzr0 (by intro z;cases z)];exact SeqAt.RcNeAt.int_tuple i t g (by omega)
   |s m=>obtain⟨b,j,rfl,g,_⟩:=f;rw[zzr0 (by intro z;cases z)];exact SeqAt.RcNeAt.int_list i t g (by omega)
  ·cases y with
   |k b =>
    rw[BZ];rcases az (show dw b v=true from f)with⟨j,h,rfl,rfl⟩|⟨j,h,rfl,rfl⟩
    ·rw[xy];exact SeqAt.RcNeAt.str_int i t j h
    ·rw[xx];have:=SeqAt.RcNeAt.str_str (A:=A) (s:=s) i t j h;rwa[show(i==j)=decide (i=j)from by by_cases e:i=j<;>simp[e]]at this
   |t m=>obtain⟨b,j,rfl,g,_⟩:=f;rw[zzr0 (by intro z;cases z)];exact SeqAt.RcNeAt.str_tuple i t g (by omega)
   |s m=>obtain⟨b,j,rfl,g,_⟩:=f;rw[zzr0 (by intro z;cases z)];exact SeqAt.RcNeAt.str_list i t g (by omega)
 |t l =>
  obtain⟨a,i,rfl,hi,hx⟩:=hx;cases y with
  |k b =>
   rw[zzr0 (by intro z;cases z)];rcases az (show dw b v=true from f)with⟨j,h,rfl,rfl⟩|⟨j,h,rfl,rfl⟩
   ·exact SeqAt.RcNeAt.tuple_int j h hi (by omega)
   ·exact SeqAt.RcNeAt.tuple_str j h hi (by omega)
  |t m =>
   obtain⟨b,j,rfl,g,f⟩:=f;have n:DT.depths m<=13:=by have:DT.depths m+1<=14:=o;omega
   have r:=SeqAt.RcNeAt.tuples (A:=A) hi g (by omega) (o5 (by omega) n hx f);rw[Bv hx f]at r;rw[Hl];exact r
  |s m=>obtain⟨b,j,rfl,g,_⟩:=f;rw[zzr0 (by intro z;cases z)];exact SeqAt.RcNeAt.tuple_list hi g (by omega)
 |s l =>
  obtain⟨a,i,rfl,hi,hx⟩:=hx;cases y with
  |k b =>
   rw[zzr0 (by intro z;cases z)];rcases az (show dw b v=true from f)with⟨j,h,rfl,rfl⟩|⟨j,h,rfl,rfl⟩
   ·exact SeqAt.RcNeAt.list_int j h hi (by omega)
   ·exact SeqAt.RcNeAt.list_str j h hi (by omega)
  |t m=>obtain⟨b,j,rfl,g,_⟩:=f;rw[zzr0 (by intro z;cases z)];exact SeqAt.RcNeAt.list_tuple hi g (by omega)
  |s m =>
   obtain⟨b,j,rfl,g,f⟩:=f;have n:DT.depths m<=13:=by have:DT.depths m+1<=14:=o;omega
   have p:=hx.length;have q:=f.length;simp only[kL]at p q;rw[Hm];by_cases e:l.length=m.length
   ·have r:=SeqAt.RcNeAt.lists (A:=A) hi g (by omega) (by omega) (o5 (by omega) n hx f);rw[<-p,fR e]at r;exact r
   ·rw[zzr0 fun z=>e (by rw[z])];exact SeqAt.RcNeAt.lists_lengths hi g (by simp;omega) (by omega)
end
mutual
def iO(K:Za)(H:Hp):DT->V->Prop
 |.k a,v=>v=kV a
 |.t l,v=>∃b xs,v=.ref b/\cr K H b xs/\DIns K H l xs
 |.s l,v=>∃b xs,v=.ref b/\av K H b xs/\DIns K H l xs
def DIns(K:Za)(H:Hp):List DT->List V->Prop
 |[],vs=>vs=[]
 |k::r,vs=>∃v us,vs=v::us/\iO K H k v/\DIns K H r us
end
section
variable{X:Cx}{J4:Zd}{σ:St}{H:Hp}{s:Shared}
theorem nu(I:Inv X J4 σ H s):∀(d:Nat) {k:DT}{v:V}{u:Value},k.depth<=d->iO X.K H k v->RelV v u->sN s.heap k u:=by
 have h:∀(d:Nat) (i:∀{k:DT}{v:V}{u:Value},k.depth<=d->iO X.K H k v->RelV v u->sN s.heap k u) (f:List DT) (j:List V) (o:Zf),DT.depths f<=d->DIns X.K H f j->bp j o->DAts s.heap f o:=by
  intro d i f
  induction f with
  |nil =>
   intro j o _ hx r;have e:j=[]:=hx;subst e;cases r
   rfl
  |cons k f p =>
   intro j o g hx r;obtain⟨v,q,rfl,m,A⟩:=hx;cases r with
   |@cons _ u _ n B C =>
    have D:max k.depth (DT.depths f)<=d:=g;exact⟨u,n,rfl,i (by omega) m B,p q n (by omega) A C⟩
 intro d
 induction d with
 |zero =>
  intro k v u g hx r;cases k with
  |t l=>exact absurd g (by show ¬(DT.depths l+1<=0);omega)
  |s l=>exact absurd g (by show ¬(DT.depths l+1<=0);omega)
  |k b =>
   have e:v=kV b:=hx;subst e;exact rq (P:=X.prog) (w:=X.w) r
 |succ d i =>
  intro k v u g hx r;cases k with
  |k b =>
   have e:v=kV b:=hx;subst e;exact rq (P:=X.prog) (w:=X.w) r
  |t l =>
   obtain⟨b,xs,rfl,x,hi⟩:=hx;cases(show u=Value.ref b from r);obtain⟨a,y,z,_⟩:=I.tuple x;exact⟨b,a.toArray,rfl,z,by simpa using h d (fun m=>i m) l xs a (by have:DT.depths l+1<=d+1:=g;omega) hi y⟩
  |s l =>
   obtain⟨b,xs,rfl,x,hi⟩:=hx;cases(show u=Value.ref b from r);obtain⟨a,y,z,_⟩:=I.list x;exact⟨b,a.toArray,rfl,z.isList,by simpa using h d (fun m=>i m) l xs a (by have:DT.depths l+1<=d+1:=g;omega) hi y⟩
theorem o6(I:Inv X J4 σ H s):∀{a:List DT}{f:List V}{g:Zf},DT.depths a<=8->DIns X.K H a f->bp f g->DAts s.heap a g
 |[],f,g,_,hx,r=>by
  have e:f=[]:=hx;subst e;cases r
  rfl
 |k::a,f,g,i,hx,r=>by
  obtain⟨v,j,rfl,l,m⟩:=hx;cases r with
  |@cons _ u _ h n o =>
   have p:max k.depth (DT.depths a)<=8:=i;exact⟨u,h,rfl,nu I 8 (by omega) l n,o6 I (by omega) m o⟩
end
def lq(K:Za):R2:=fun x y H Q=>∃d e:DT,iO K H d x/\iO K H e y/\d.depth<=8/\e.depth<=8/\Q (.bl (decide (d=e))) H
def Gr(K:Za):R2:=fun x y H Q=>∃d e:DT,iO K H d x/\iO K H e y/\d.depth<=8/\e.depth<=8/\Q (.bl (!decide (d=e))) H
section
variable{X:Cx}
theorem gZ(f:X.A.units+16<cLine):pb X (eT .Eq) (lq X.K):=by
 intro l s σ H x y v u Q I g i h;obtain⟨d,e,hx,j,k,a,q⟩:=h;exact IU (bW a (by decide)) f (nu I 8 k hx g) (nu I 8 a j i) X.prog X.w X.xe _ ⟨.bl _,H,I,rfl,q⟩
theorem EV(f:X.A.units+16<cLine):pb X (eT .NotEq) (Gr X.K):=by
 intro l s σ H x y v u Q I g i h;obtain⟨d,e,hx,j,k,a,q⟩:=h;exact IV (bW a (by decide)) f (nu I 8 k hx g) (nu I 8 a j i) X.prog X.w X.xe _ ⟨.bl _,H,I,rfl,q⟩
def jB(K:Za)(neg:Bool):R2:=fun x y H Q=>∃(d:DT) (ds:List DT) (p:Addr) (xs:List V),iO K H d x/\y=.ref p/\(av K H p xs∨cr K H p xs)/\DIns K H ds xs/\d.depth<=8/\DT.depths ds<=8/\Q (.bl (if neg then !decide (d∈ds)else decide (d∈ds))) H
open Classical in
theorem o9{h:Heap}{d:DT}(g:d.depth<=8):∀{a:List DT}{f:Zf},DAts h a f->DT.depths a<=8->f.any (fun u=>@decide (sN h d u) (propDecidable _))=decide (d∈a)
 |[],f,e,_=>by
  have j:f=[]:=e;subst j
  rfl
 |x::a,f,e,k=>by
  obtain⟨u,l,rfl,i,m⟩:=e;have o:max x.depth (DT.depths a)<=8:=k;rw[pN,o9 g m (by omega)];by_cases q:d=x
  ·subst q;simp[i]
  ·have n:¬sN h d u:=fun z=>q (sN.inj 8 g z i);simp[n,q]
open Classical in
theorem ue{A:Around}{s:Shared}{d:DT}{v:Value}(g:d.depth<=8)(i:A.units+8<cLine)(j:sN s.heap d v):∀{f:List DT}{a:Zf},DAts s.heap f a->DT.depths f<=8->∀u∈a,bo A s u v (@decide (sN s.heap d u) (propDecidable _))
 |[],a,e,_,u,hm=>by
  have k:a=[]:=e;subst k;cases hm
 |x::f,a,e,l,u,hm=>by
  obtain⟨r,m,rfl,h,o⟩:=e;have p:max x.depth (DT.depths f)<=8:=l;rcases cK.mp hm with rfl|hm
  ·have q:=Hk 8 (A:=A) g i h j;by_cases z:x=d
   ·subst z;rw[zzr1 h];rwa[zzr1 rfl]at q
   ·have n:¬sN s.heap d u:=fun w=>z (sN.inj 8 g w h).symm;rw[zzr0 n];rwa[zzr0 z]at q
  ·exact ue g i j o (by omega) u hm
theorem lC(t:X.A.units+16<cLine):pb X (eT .In) (jB X.K false):=by
 intro z s σ H x y v u Q I m n h;obtain⟨d,B,p,xs,hx,rfl,hq,e,f,a,q⟩:=h;cases n;have l:=nu I 8 f hx m;have g:X.A.in1.units+8<cLine:=by show X.A.units+1+8<cLine;omega
 rcases hq with hq|hq
 ·obtain⟨i,r,j,o⟩:=I.list hq;have hi:=o6 I a e r;refine SeqAt.in_listAt _ j.isList (fun w k=>ue f g l hi a w (by simpa using k)) ⟨.bl _,H,I,rfl,?_⟩;rw[wt,o9 f hi a];exact q
 ·obtain⟨i,r,j,o⟩:=I.tuple hq;have hi:=o6 I a e r;refine SeqAt.in_tupleAt _ j (fun w k=>ue f g l hi a w (by simpa using k)) ⟨.bl _,H,I,rfl,?_⟩;rw[wt,o9 f hi a];exact q
theorem iq(t:X.A.units+16<cLine):pb X (eT .NotIn) (jB X.K true):=by
 intro z s σ H x y v u Q I m n h;obtain⟨d,B,p,xs,hx,rfl,hq,e,f,a,q⟩:=h;cases n;have l:=nu I 8 f hx m;have g:X.A.in1.units+8<cLine:=by show X.A.units+1+8<cLine;omega
 rcases hq with hq|hq
 ·obtain⟨i,r,j,o⟩:=I.list hq;have hi:=o6 I a e r;refine SeqAt.notIn_listAt _ j.isList (fun w k=>ue f g l hi a w (by simpa using k)) ⟨.bl _,H,I,rfl,?_⟩;rw[wt,o9 f hi a];exact q
 ·obtain⟨i,r,j,o⟩:=I.tuple hq;have hi:=o6 I a e r;refine SeqAt.notIn_tupleAt _ j (fun w k=>ue f g l hi a w (by simpa using k)) ⟨.bl _,H,I,rfl,?_⟩;rw[wt,o9 f hi a];exact q
end
def ur(z:Str)(lo hi:Option Int):Str:=⟨((z.cps.toList.drop (HT.sIx z.length 0 lo)).take (HT.sIx z.length z.length hi-HT.sIx z.length 0 lo)).toArray⟩
theorem sliceRange_one(a b:Nat):sliceRange (a:Int) (b:Int) 1=(mC (b-a)).map (fun k=>a+k):=by
 unfold sliceRange;simp only[show(1:Int) > 0 from by decide,if_true];by_cases h:(a:Int)<(b:Int)
 ·have e:(if(a:Int)<(b:Int)then((b:Int)-a+1-1) / 1 else 0).toNat=b-a:=by rw[if_pos h];omega
  rw[e];exact List.map_congr_left fun k _=>by omega
 ·have e:(if(a:Int)<(b:Int)then((b:Int)-a+1-1) / 1 else 0).toNat=b-a:=by rw[if_neg h];omega
  rw[e];exact List.map_congr_left fun k _=>by omega
theorem zk(v:Option Int)(n d:Nat):(match v with|none=>(d:Int)|some i=>max 0 (min (if i<0 then i+(n:Int)else i) (n:Int)))=((HT.sIx n d v:Nat):Int):=by
 cases v with
 |none=>rfl
 |some i =>
  rw[<-HT.clip_eq i n d];dsimp only;by_cases h:i<0
  ·rw[if_pos h,if_pos h];omega
  ·rw[if_neg h,if_neg h];omega
theorem oB(lo hi:Option Int)(n:Nat):tm lo hi 1 n=(mC (HT.sIx n n hi-HT.sIx n 0 lo)).map (fun k=>HT.sIx n 0 lo+k):=by
 have a:=zk lo n 0;have e:=zk hi n n;rw[<-sliceRange_one,<-a,<-e];unfold tm;simp only[show(1:Int) > 0 from by decide,if_true];cases lo<;>cases hi<;>rfl
theorem CJ(z:Str)(lo hi:Option Int):Txt.slice z lo hi=ur z lo hi:=by
 have k:HT.sIx z.length 0 lo<=z.length:=HT.sIx_le _ _ (dA _) _;have l:HT.sIx z.length z.length hi<=z.length:=HT.sIx_le _ _ (aK _) _;have f:z.cps.toList.length=z.length:=by simp[Str.length]
 have e:(tm lo hi 1 z.length).filterMap (z.cps[·]?)=(z.cps.toList.drop (HT.sIx z.length 0 lo)).take (HT.sIx z.length z.length hi-HT.sIx z.length 0 lo):=by
  rw[oB];generalize HT.sIx z.length 0 lo=a at *;generalize HT.sIx z.length z.length hi=b at *;have h:=StrLaws.picks z.cps.toList (b-a) a (by omega);simpa using h
 unfold Txt.slice;by_cases h:((1:Int)==1 && (tm lo hi 1 z.length).length==z.length)=true
 ·rw[if_pos h];have g:(tm lo hi 1 z.length).length=z.length:=by simpa using h
  rw[oB,ai,List.length_range]at g;unfold ur;have i:HT.sIx z.length 0 lo=0:=by omega
  have j:HT.sIx z.length z.length hi-HT.sIx z.length 0 lo=z.cps.toList.length:=by omega
  rw[j,i,pI,bJ]
 ·rw[if_neg h];unfold ur;rw[e]
section
variable{X:Cx}
def Gq:V->Option Int->Option Int->Hp->VK->Prop:=fun x lo hi H Q=>∃z,x=.str z/\z.length<=ak/\Q (.str (ur z lo hi)) H
theorem Ai:SlR X Gq:=by
 intro g s σ H x v m n lo hi p Q I r y B f h;obtain⟨z,rfl,C,q⟩:=h;obtain⟨t,rfl⟩:=r;rw[<-CJ]at q;refine⟨"str",_,F.slot_str_getitem.lookup,typeIs_str _ _ _,?_⟩;obtain⟨o,D,E,G⟩:=y;have a:∀(l u:Option (Int×Tok)),m=partValue l->n=partValue u->lo=l.map (·.1)->hi=u.map (·.1)->wpAny (model X.prog X.w) X.A (mQ (.str z t) (.ref p)) (EP X g σ Q) X.xe s:=by
  rintro l u rfl rfl rfl rfl;refine wpAny_getItem_str_slice (l:=l) (u:=u) (st:=none) ⟨o,D,E,G⟩ rfl (post_val_or_str ⟨bW (Txt.slice_le z _ _) C,fun e k=>⟨.str _,H,I.tok _,⟨_,rfl⟩,q⟩⟩)
 cases B with
 |none =>
  cases f with
  |none=>exact a none none rfl rfl rfl rfl
  |int j u=>exact a none (some (j,u)) rfl rfl rfl rfl
 |int i e =>
  cases f with
  |none=>exact a (some (i,e)) none rfl rfl rfl rfl
  |int j u=>exact a (some (i,e)) (some (j,u)) rfl rfl rfl rfl
def G_(K:Za):V->List V->Hp->VK->Prop:=fun x vs H Q=>∃z p ys,x=.str z/\vs=[.ref p]/\av K H p (ys.map V.str)/\(ys.map (·.length)).sum+ys.length * z.length<=16777216/\Q (.str (wr z ys)) H
theorem Gd{a:Zb}:∀{us:Zf},bp (a.map V.str) us->StrsAre us a:=by
 induction a with
 |nil=>intro us r;cases r;exact .nil
 |cons y a e =>
  intro us r;cases r with
  |cons f g =>
   obtain⟨t,rfl⟩:=f;exact .cons _ _ (e g)
theorem GG:Jc X "str.join" (G_ X.K):=by
 intro m s σ H x n v o Q I a e h;obtain⟨z,p,w,rfl,rfl,f,g,q⟩:=h;obtain⟨t,rfl⟩:=a;obtain⟨u,rfl,i⟩:=e.one;cases i;obtain⟨j,r,l,_⟩:=I.list f;exact join_list l.isList (by simpa using Gd r) g fun y k=>⟨.str _,H,I.tok _,⟨_,rfl⟩,q⟩
end
section
variable{X:Cx}
def Ii(K:Za)(H:Hp)(x:V)(t:Value):Prop:=ju K H x t∨(∃a xs,x=.ref a/\t=.type "tuple"/\cr K H a xs)∨(∃a xs,x=.ref a/\t=.type "list"/\av K H a xs)
theorem AG{k:Zd}{σ:St}{H:Hp}{s:Shared}{A:Around}{E:Zc}{Q:Zc}{c:Value}{b:Bool}{x:V}{u t:Value}(I:Inv X k σ H s)(f:RelV x u)(ty:Ii X.K H x t)(e:Ba X.K t c=some b)(h:∀tk,Q (.bool b) { s with toks:=tk }):
  wpAny (model X.prog X.w) A (call (.builtin "isinstance") [u,c]) Q E s:=by
 rcases ty with ty|⟨a,xs,rfl,rfl,q⟩|⟨a,xs,rfl,rfl,q⟩
 ·exact Dd I f ty e h
 ·cases(show u=Value.ref a from f);obtain⟨g,l,p,m⟩:=I.tuple q;obtain⟨o,i,j,_⟩:=p;exact jy PySem.W.kitx_tuple I.kIn ⟨o,i,j⟩ e (fun z=>nomatch z) h
 ·cases(show u=Value.ref a from f);obtain⟨g,l,p,m⟩:=I.list q;obtain⟨o,n,i,j,_⟩:=p;exact jy PySem.W.kitx_list I.kIn ⟨o,i,j⟩ e (fun z=>nomatch z) h
theorem eB:fU X (.builtin "isinstance") (fun xs H Q=>∃x c t b,xs=[x,.ty c]/\Ii X.K H x t/\Ba X.K t (.type c)=some b/\Q (.bl b) H):=by
 intro g s σ H xs i Q I r h;obtain⟨x,c,t,b,rfl,ty,a,q⟩:=h;obtain⟨u,v,rfl,e,f⟩:=vals2 r;cases(show v=Value.type c from f);exact AG I e ty a fun tk=>⟨.bl b,H,I.tok _,rfl,q⟩
theorem FD{bs:List Bool}{a:Zf}(r:bp (bs.map V.bl) a){i:Nat}{v:Value}(h:a[i]?=some v):v=.bool ((bs[i]?).getD false)/\i<bs.length:=by
 have hi:i<a.length:=(bG.mp h).1;have g:=r.length;rw[ai]at g;have e:i<bs.length:=by omega
 obtain⟨u,f,j⟩:=r.get (i:=i) (x:=V.bl bs[i]) (by simp[e]);rw[h]at f;cases f;refine⟨?_,e⟩;rw[fJ e];exact j
theorem xU(bs:List Bool):((mC bs.length).all fun i=>(bs[i]?).getD false)=bs.all id:=by
 induction bs with
 |nil=>rfl
 |cons b bs a =>
  rw[c_,List.range_succ_eq_map,List.all_cons,List.all_map,List.all_cons,<-a]
  rfl
theorem xT(bs:List Bool):((mC bs.length).any fun i=>(bs[i]?).getD false)=bs.any id:=by
 induction bs with
 |nil=>rfl
 |cons b bs a =>
  rw[c_,List.range_succ_eq_map,pN,List.any_map,pN,<-a]
  rfl
theorem lH(l:X.calm=true):fU X (.builtin "all") (fun xs H Q=>∃(p:Addr) (bs:List Bool),xs=[.ref p]/\av X.K H p (bs.map V.bl)/\Q (.bl (bs.all id)) H):=by
 intro m s σ H xs E Q I r h;obtain⟨p,bs,rfl,t,q⟩:=h;obtain⟨u,rfl,x⟩:=vals1 r;cases x;obtain⟨a,j,f,G⟩:=I.list t;obtain⟨o,n,y,_⟩:=id f;have k:=j.length;rw[ai]at k;refine call_all_walk (vg f.isList ?_);refine⟨s.heap.objs.size,_,_,_,_,_,fun i=>(bs[i]?).getD false,rfl,Walks.list (prog:=X.prog) (w:=X.w) (A:=X.A.in1) (I.ok.hd l) s.heap.objs.size p (bM (aI y)) a.toArray,⟨⟨_,cJ _ rfl,rfl,rfl⟩,f.isList.push _⟩,?_,?_⟩
 ·intro i v J L M z g;obtain⟨e,_⟩:=FD j (i:=i) (v:=v) (by simpa using z);rw[e];exact qZ g
 ·intro B tk C;have D:Inv X m σ H { s with heap:=B,toks:=tk }:=I.kept fun b o e=>C b o (by simp;exact bM (aI e)) (aS _ e);rw[bZ,<-k,xU];exact⟨.bl _,H,D,rfl,q⟩
theorem zo(l:X.calm=true):fU X (.builtin "any") (fun xs H Q=>∃(p:Addr) (bs:List Bool),xs=[.ref p]/\av X.K H p (bs.map V.bl)/\Q (.bl (bs.any id)) H):=by
 intro m s σ H xs E Q I r h;obtain⟨p,bs,rfl,t,q⟩:=h;obtain⟨u,rfl,x⟩:=vals1 r;cases x;obtain⟨a,j,f,G⟩:=I.list t;obtain⟨o,n,y,_⟩:=id f;have k:=j.length;rw[ai]at k;refine call_any_walk (vg f.isList ?_);refine⟨s.heap.objs.size,_,_,_,_,_,fun i=>(bs[i]?).getD false,rfl,Walks.list (prog:=X.prog) (w:=X.w) (A:=X.A.in1) (I.ok.hd l) s.heap.objs.size p (bM (aI y)) a.toArray,⟨⟨_,cJ _ rfl,rfl,rfl⟩,f.isList.push _⟩,?_,?_⟩
 ·intro i v J L M z g;obtain⟨e,_⟩:=FD j (i:=i) (v:=v) (by simpa using z);rw[e];exact qZ g
 ·intro B tk C;have D:Inv X m σ H { s with heap:=B,toks:=tk }:=I.kept fun b o e=>C b o (by simp;exact bM (aI e)) (aS _ e);rw[bZ,<-k,xT];exact⟨.bl _,H,D,rfl,q⟩
theorem Az:pb X (eT .In) (fun x y H Q=>∃c j,x=.str ⟨#[c]⟩/\y=.str j/\Q (.bl (decide (c∈j.cps.toList))) H):=by
 intro a s σ H x y v u Q I e f h;obtain⟨c,j,rfl,rfl,q⟩:=h;rw[<-StrLaws.found_one]at q;exact C7 a s σ H _ _ v u Q I e f ⟨_,_,rfl,rfl,q⟩
theorem uy(O:X.calm=true):fU X (.type "list") (fun xs H Q=>∃(d:Addr) (f:List (fD×V)),xs=[.ref d]/\Rd H d (.dK f)/\∀l,H l=none->Q (.ref l) (upd H l (.lst (f.map fun g=>kV g.1)))):=by
 intro J4 s σ H xs us Q I r h;obtain⟨d,f,rfl,T,q⟩:=h;obtain⟨u,rfl,U⟩:=vals1 r;cases U;obtain⟨z,n,M,y,Y⟩:=rG I.hok T;obtain⟨ep,E⟩:=Y.dictAt;have hl:=y.length;refine PySem.W.kdl_call (PySem.W.kdl_dict (knd:=cD X.prog X.w) (kvs:=M) (ep:=ep) n) (I.ok.hd O) E (by rw[<-hl];exact z) fun h' tk m c G hD A=>?_;have B:bp (f.map fun g=>kV g.1) m.toList:=by
  obtain⟨hn,hP⟩:=A;have J:∀(a:Zf) (L:List (fD×V)) (C:List (fD×Value)),KV L C->a.length=C.length->(∀(j:Nat) (v:Value),a[j]?=some v->∃k x,C[j]?=some (k,x)/\(cD X.prog X.w).is k v=true)->bp (L.map fun g=>kV g.1) a:=by
   intro a L C rl
   induction rl generalizing a with
   |nil=>intro D _;cases a with
    |nil=>exact .nil
    |cons _ _=>cases D
   |@cons p w' ps ab hp _ ih =>
    intro D N;cases a with
    |nil=>cases D
    |cons v a =>
     obtain⟨k,x,e,G⟩:=N 0 v rfl;have e':w'=(k,x):=by simpa using e
     refine .cons ?_ (ih a (by simpa using D) fun j v B=>by simpa using N (j+1) v (by simpa using B));have ek:p.1=k:=by rw[hp.1,e']
     show RelV (kV p.1) v;rw[ek];rcases az (show dw k v=true from G)with⟨i,t,rfl,rfl⟩|⟨i,t,rfl,rfl⟩
     ·exact⟨t,rfl⟩
     ·exact⟨t,rfl⟩
  exact J m.toList f M y (by rw[kL];exact hn) fun j v B=>hP j v (by rw[<-tD];exact B)
 refine⟨.ref s.heap.objs.size,_,I.laid (o:=.lst (f.map fun g=>kV g.1)) G (aK _) ⟨by rw[ai];exact z,m.toList,c,B,by rw[Array.toArray_toList];exact hD⟩,rfl,q _ I.fresh⟩
end
section
variable{prog:bq}{w:World}{K:Type}[DecidableEq K]{knd:HeapKind prog w K}{A:Around}{E:Zc}{s:Shared}
theorem tF{d a:Addr}{xs:List (K×Addr×Value)}{k:K}{v:Value}{Q:Zc}(t:knd.room A)(f:knd.is s.heap k a)(B:s.heap.DictOfH knd d xs)
  (there:∀p,atKey xs k=some p->Q p.2 { s with toks:=s.toks+knd.draws k })
  (new:atKey xs k=none->∀q,q.DictOfH knd d (xs++[(k,a,v)])->gJ d s.heap q->Q v { s with heap:=q,toks:=s.toks+knd.draws k })
  (C:xs.length<=ak):wpAny (model prog w) A (dictSetDefault d (.ref a) v) Q E s:=by
 obtain⟨o,H,D,h,G,g,n,i,r⟩:=B;unfold dictSetDefault
 try with_reducible refine iy ?_
 refine ah (knd.pyHash t f ?_);refine ah (wpAny_dictFind_heap (s:={ s with toks:=s.toks+knd.draws k }) t f h g n i r ?_ ?_)
 ·intro l;have m:k∉xs.map (·.1):=not_mem_keys_of_get l;refine ah (nW (ah (wpAny_updateDictKeys (hz:=by have e:=size_of_entries n;omega) (s:={ s with toks:=s.toks+knd.draws k }) h g (aw (new (atKey_none_of_get l) _ ⟨_,_,D+1,iD _ h (Obj.isFreed_of_dict (Obj.data_mapDictKeys g _)),
   G.mapDictKeys _,Obj.data_mapDictKeys g _,?_,?_,?_⟩ (jS ..))))))
  ·simp[n,Bl]
  ·intro x hx;rcases bE.mp hx with hx|hx
   ·exact knd.keeps (i x hx) h g (jS ..)
   ·simp only[fH]at hx;subst hx;exact knd.keeps f h g (jS ..)
  ·rw[aF,dk];refine⟨r,by simp,?_⟩;intro x hx y u;simp only[cg,List.map_nil,fH]at u;subst u;exact fun e=>m (e▸hx)
 ·intro j p z;refine ah (mK (s:={ s with toks:=s.toks+knd.draws k }) h g ?_);rw[entry_at n j,z];exact ah (nW (aw (there p (atKey_of_get r z))))
theorem oY(knd:HeapKind prog w K)(d a:Addr)(j:(d==gK)=false)(dflt:Value):
  MeetsIn prog w (bX.«dict.setdefault» ⟨[.ref d,.ref a,dflt],[]⟩) (fun A R s=>knd.room A.in1/\∃k xs,knd.is s.heap k a/\s.heap.DictOfH knd d xs/\xs.length<=ak /\
   (∀p,atKey xs k=some p->R (.ok (.ret p.2)) { s with toks:=s.toks+knd.draws k }) /\
   (atKey xs k=none->∀e,e.DictOfH knd d (xs++[(k,a,dflt)])->gJ d s.heap e->R (.ok (.ret dflt)) { s with heap:=e,toks:=s.toks+knd.draws k })) :=
 .of_wp fun A R s ⟨l,k,xs,f,i,m,n,o⟩=>by
  unfold bX.«dict.setdefault»;refine ah ?_;unfold bX.Dict.keyAndDefault;refine ah (tj i.typeIs ?_);show wpAny _ _ (pure (d,Value.ref a,some dflt)) _ _ s;refine aw ?_;show wpAny _ _ (if(d==gK)=true then _ else(dictSetDefault d (.ref a) dflt >>= _)) _ _ s
  rw[if_neg (by rw[j];exact gH)];exact ah (tF l f i (fun p q=>aw ⟨p.2,rfl,n p q⟩) (fun r e g h=>aw ⟨dflt,rfl,o r e g h⟩) m)
end
section
variable{X:Cx}
def BF:V->List V->Hp->VK->Prop:=fun x vs H Q=>∃(d b:Addr) (kvs:List (TK×V)) (k:TK) (z:V),x=.ref d/\vs=[.ref b,z]/\H d=some (.dT kvs)/\g8 H k (.ref b)/\k.depth<=8/\kvs.length<ak /\
 (∀v,de kvs k=some v->Q v H)/\(de kvs k=none->Q z (upd H d (.dT (kvs++[(k,z)]))))
theorem C9(C:X.A.units+16<cLine):Jc X "dict.setdefault" BF:=by
 intro J4 s σ H x vs v us Q I D E h;obtain⟨d,b,a,k,z,rfl,rfl,l,n,j,hz,G,J⟩:=h;cases D;obtain⟨u,v,rfl,L,q⟩:=E.two;cases L;obtain⟨_,g,xs,f,r⟩:=Hj I.hok I.kIn l;have hl:a.length=xs.length:=Paired.length f;refine call_meetsIn PySem.F.slot_dict_setdefault r.typeIs PySem.F.entry_dict_setdefault (PySem.F.args_dict_setdefault_3 _ _ _) (oY (bw X.prog X.w) d b g v)
  ⟨im C,k,xs,xz I.hok I.kIn (g8.c 8 j n) j,r,by omega,fun p M=>?_,fun N h' m O=>?_⟩
 ·have e:=f.val k;rw[M]at e;cases i:de a k with
  |none=>rw[i]at e;exact e.elim
  |some y =>
   rw[i]at e;exact⟨y,H,I.tok _,e,G y i⟩
 ·have e:=f.val k;rw[N]at e;have i:de a k=none:=by
   cases i:de a k with
   |none=>rfl
   |some y=>rw[i]at e;exact e.elim
  obtain⟨o,T,U,t,Y,h3,h4,_,h5⟩:=m;refine⟨z,_,xJ (ob:=.dT (a++[(k,z)])) I (by rw[l];exact ft) O ⟨o,t⟩ ⟨by rw[aV,wD];omega,g,_,KT.keeps (kvs:=a++[(k,z)]) (xs:=xs++[(k,b,v)]) (jf f ⟨rfl,g8.c 8 j n,j,q⟩) fun c ys B=>?_,o,T,U,t,Y,h3,h4,h5⟩,q,J i⟩;rw[am (Hc B l (fun z=>nomatch z))];exact B
end
theorem fQ:entryFor table "dict.update.loop"=some bX.«dict.update.loop»:=entryFor_of_fast (by kernel_rfl)
theorem cw:plainId "dict.update.loop"=true:=by decide +kernel
theorem xm:jU (.type "list") "keys"=pure none:=am_miss_of_fast (by decide +kernel)
section
variable{prog:bq}{w:World}{A:Around}{E:Zc}{s:Shared}
theorem vF{a:Addr}{o:Obj}{xs:Array Value}{k:Nat}{Q:Option Value->Shared->Prop}(hx:s.heap.get? a=some o)(m:o.cls=.type "list")(f:o.data=.seq xs k)(n:o.dict=none)(r:A.handled=none)
  (h:∀l tk,(∀b p,s.heap.get? b=some p->l.get? b=some p)->Q none { s with heap:=l,toks:=tk }):wpAny (model prog w) A (getAttr? (.ref a) "keys") Q E s:=by
 obtain⟨c,t,u,v⟩:=o;simp only at m f n;subst m f n;obtain⟨x,g,d,tk,os⟩:=s;have q:∀i,(⟨x,g,d,i,os⟩:Shared).TypeIs (.ref a) "list":=fun _=>⟨_,hx,rfl⟩;have y:=sub_AttributeError;have z:=F.slot_list_getattribute.lookup;have B:=F.slot_list_getattribute.bind (.ref a);have C:=am_list_getattr_none;unfold getAttr? getAttrBy? getAttrBy
 repeat (any_goals (first|assumption|exact q _|((with_reducible show wpAny _ _ (call (zN "list.__getattribute__") _ _) _ _ _);refine wE F.slot_list_getattribute (q _) am_entry_list_getattribute (F.args_list_getattribute_2 _ _) (meets_getattribute_miss_list a xs k v "keys" _ xm (by decide +kernel) (by decide +kernel)) ⟨hx,r,fun l i e j=>?_⟩)|wp_step))
 obtain⟨D,G,H⟩:=j.there;show wpAny _ _ (getattributeRaised _ _ _ _ _ _ _) _ _ _;unfold getattributeRaised hookOrError attributeErrorLeaves
 repeat (any_goals (first|assumption|wp_step))
 all_goals first|exact h _ _ j.keeps|trace_state
def AT(h:Heap)(u:Value)(kv:fD×Value):Prop:=∃t ku,u=.ref t/\h.IsTuple t #[ku,kv.2]/\dw kv.1 ku=true
theorem Ag{κ:Type}[DecidableEq κ](a:List (κ×Value))(k:κ)(v:Value):(stored a k v).length<=a.length+1:=by
 unfold stored;split
 ·rw[ai];omega
 ·rw[aV,wD];exact aK _
theorem DS{R:Result->Shared->Prop}(hh:A.handled=none){D it l:Addr}{items:Array Value}{ps:List (fD×Value)}(B:D≠it)(T:l≠it)(U:l≠D)(a7:ps.length=items.size):
  ∀(n i:Nat) (s:Shared) (a:List (fD×Value)),items.size-i=n->i<=items.size->a.length+(items.size-i)<=ak->s.heap.IsListIter it l i->s.heap.IsList l items->s.heap.DictOf (cD prog w) D a ->
   (∀(j:Nat) (u:Value) (N:fD×Value),items[j]?=some u->ps[j]?=some N->AT s.heap u N) ->
   (∀z tk,z.DictOf (cD prog w) D (merged a (ps.drop i))->(∀b o,b≠D->b≠it->s.heap.get? b=some o->z.get? b=some o)->R (.ok (.ret .none)) { s with heap:=z,toks:=tk }) ->
   zzl86 (model prog w) A (.builtin "dict.update.loop" ⟨[.ref D,.ref it,rawInt i,.none],[]⟩) R s:=by
 intro n
 induction n with
 |zero =>
  intro i s a hn hi hz p O Q Y hR;have e:i=items.size:=by omega
  subst e;refine wq fQ ?_;rw[wo cw _];show wpAny _ A.in1 (pyNext (.ref it) >>= _) _ _ s;refine ah (wpAny_pyNext_list_end hh p O (by simp) fun z eb=>?_);show wpAny _ _ (bX.Dict.addKeywords D [] >>= _) _ _ _;refine ah (aw (aw ?_));have C:z.DictOf (cD prog w) D a:=Q.extBut eb B;have q:=hR z s.toks (by rw[tf (by omega)];exact C) fun b o _ hb e=>eb b o hb e;exact q
 |succ n ih =>
  intro i s a hn hi hz p O Q Y hR;have I:i<items.size:=by omega
  refine wq fQ ?_;rw[wo cw _];show wpAny _ A.in1 (pyNext (.ref it) >>= _) _ _ s;have hu:items[i]?=some items[i]:=by simp[I]
  have hk:ps[i]?=some ps[i]:=fJ (by omega);obtain⟨t,ku,eu,ht,ab⟩:=Y i _ _ hu hk;refine ah (wpAny_pyNext_list_item p O (x:=items[i]) hu fun h J al=>?_);rw[eu];have m:gJ it s.heap h:=al;have nt:t≠it:=by
   rintro rfl;obtain⟨o,G,L,_⟩:=ht;obtain⟨o',f,g,_⟩:=p;rw[G]at f;cases f;rw[L]at g;simp at g
  have M:h.IsTuple t #[ku,ps[i].2]:=ht.extBut m.extBut nt;have an:s_ { s with heap:=h } (.ref t) "tuple":=M.typeIs (s:={ s with heap:=h });obtain⟨ot,ap,a8,a9,as⟩:=id M;refine ah (iy ?_);refine ah (wpAny_tryCatch ?_);unfold bX.Dict.pairItems;refine ah (sZ an ?_);rw[if_pos (by decide)];refine ah (kN ap as (aw ?_));show wpAny _ _ (jz [ku,ps[i].2] (dictSet D ku ps[i].2)) _ _ _;have aC:h.DictOf (cD prog w) D a:=Q.extBut m.extBut B;refine iy (wpAny_dictSet_pairs (knd:=cD prog w) (k:=ps[i].1) ab aC (fun y aT aX=>?_) (by omega));have v:gJ D h y:=aX;show wpAny _ _ (again _) _ _ _;refine aw ⟨wm cw _,?_⟩;have a0:h.IsList l items:=O.extBut m.extBut T;have kp:∀b o,b≠D->b≠it->s.heap.get? b=some o->y.get? b=some o:=fun b o h y e=>v.extBut b o h (m.extBut b o y e);refine ih (i+1) _ (stored a ps[i].1 ps[i].2) (by omega) I (by have:=Ag a ps[i].1 ps[i].2;omega) (J.extBut v.extBut (dv B)) (a0.extBut v.extBut U) aT (fun j u N h y=>?_) fun z tk C a4=>?_
  ·obtain⟨t2,a5,e2,H,a6⟩:=Y j u N h y;have n1:t2≠it:=by
    rintro rfl;obtain⟨o,G,L,_⟩:=H;obtain⟨o',f,g,_⟩:=p;rw[G]at f;cases f;rw[L]at g;simp at g
   have n2:t2≠D:=by
    rintro rfl;obtain⟨o,G,L,_⟩:=H;obtain⟨o',_,_,f,g,_⟩:=Q;rw[G]at f;cases f;have:=g.1;rw[L]at this;simp at this
   obtain⟨o,G,r⟩:=H;exact⟨t2,a5,e2,⟨o,kp _ o n2 n1 G,r⟩,a6⟩
  ·refine hR z tk ?_ fun b o h y e=>a4 b o h y (kp b o h y e);have ed:ps.drop i=ps[i]::ps.drop (i+1):=wk (by omega);rw[ed];exact C
theorem r8{l:Addr}{o:Obj}{items:Array Value}{n:Nat}{ps:List (fD×Value)}{Q:Zc}(T:A.handled=none)(U:s.heap.get? l=some o)(J:o.cls=.type "list")(v:o.data=.seq items n)(L:o.dict=none)
  (M:ps.length=items.size) (hp:∀(j:Nat) (u:Value) (H:fD×Value),items[j]?=some u->ps[j]?=some H->AT s.heap u H) (hz:items.size<=ak)
  (h:∀x tk,x.DictOf (cD prog w) s.heap.objs.size (merged [] ps)->(∀b o,s.heap.get? b=some o->x.get? b=some o)->Q (.ref s.heap.objs.size) { s with heap:=x,toks:=tk }) :
  wpAny (model prog w) A (call (.type "dict") [.ref l]) Q E s:=by
 refine callType_codes (Q₁:=fun y m=>y=.ref s.heap.objs.size/\m={ s with heap:=s.heap.push { cls:=.type "dict",data:=.dict #[] } }) F.kt_called_dict (F.kt_typeCall_dict_1 _) F.entry_dict_init (kt_code_dict_new _ ⟨rfl,rfl⟩) ?_;rintro y m ⟨rfl,rfl⟩;have f:(s.heap.push { cls:=.type "dict",data:=.dict #[] }).DictOf (cD prog w) s.heap.objs.size []:=Heap.DictOf.new s.heap;have p:(s.heap.push { cls:=.type "dict",data:=.dict #[] }).get? l=some o:=aS _ U;have z:l<s.heap.objs.size:=aI U;refine⟨f.typeIs,F.args_dict_init_2 _ _,?_⟩;unfold bX.«dict.__init__»;refine ah ?_;unfold bX.Dict.selfAndRest;refine ah (tj f.typeIs ?_);show wpAny _ _ (pure (s.heap.objs.size,[Value.ref l])) _ _ _;refine aw ?_;show wpAny _ _ (wj "dict.__init__" s.heap.objs.size (.ref l) [] .none) _ _ _;unfold wj;have N:s_ { s with heap:=s.heap.push { cls:=.type "dict",data:=.dict #[] } } (.ref l) "list":=⟨o,p,J⟩;refine ah (sZ N ?_);rw[if_pos (by decide)];refine ah (vF p J v L T fun q O k1=>?_);have k:∀b I,(s.heap.push { cls:=.type "dict",data:=.dict #[] }).get? b=some I->q.get? b=some I:=k1;rw[if_pos (by rfl:(none:Option Value).isNone=true)];refine ah (nW ?_);have B:q.IsList l items:=⟨o,k _ _ p,J,n,v⟩;refine ah (vg (s:={ s with heap:=q,toks:=O }) B ?_);have C:q.DictOf (cD prog w) s.heap.objs.size []:=by
  obtain⟨Y,es,ep,g,r⟩:=f;exact⟨Y,es,ep,k _ _ g,r⟩
 have i:s.heap.objs.size<q.objs.size:=by
  obtain⟨Y,es,ep,g,r⟩:=C;exact aI g
 refine aw ⟨wm cw _,?_⟩;refine DS (A:=A.in1) (prog:=prog) (w:=w) T (D:=s.heap.objs.size) (it:=q.objs.size) (l:=l) (items:=items) (ps:=ps) (bM i) (bM (tw z i)) (bM z) M items.size 0 _ [] (wg _) (dA _) (by rw[kU];omega)
  ⟨_,cJ _ rfl,rfl,rfl⟩ (B.push _) (C.push _) (fun j u H a b=>?_) fun x tk G kp=>?_
 ·obtain⟨t,ku,e,ht,hk⟩:=hp j u H a b;obtain⟨ot,g,r⟩:=ht;exact⟨t,ku,e,⟨ot,aS _ (k _ _ (aS _ g)),r⟩,hk⟩
 ·rw[pI]at G;refine⟨rfl,h x tk G fun b I e=>kp b I (bM (aI e)) (bM (tw (aI e) i)) (aS _ (k _ _ (aS _ e)))⟩
end
section
variable{X:Cx}
theorem xP(hc:X.calm=true):fU X (.type "dict") (fun xs H Q=>∃(l:Addr) (k:Ze) (f:List (fD×V)),xs=[.ref l]/\av X.K H l (k.map V.ref)/\k.length=f.length /\
  (∀(j:Nat) (t:Addr) (g:fD×V),k[j]?=some t->f[j]?=some g->H t=some (.tup [kV g.1,g.2]))/\∀p,H p=none->Q (.ref p) (upd H p (.dK (jr [] f)))):=by
 intro J4 s σ H xs us Q I r h;obtain⟨l,k,f,rfl,v,z,D,q⟩:=h;obtain⟨u,rfl,ru⟩:=vals1 r;cases ru;obtain⟨E,Y,⟨o,n,ho,G,J,L⟩,M⟩:=I.list v;have N:∀(k:Ze) (f:List (fD×V)),k.length=f.length->(∀(j:Nat) (t:Addr) (g:fD×V),k[j]?=some t->f[j]?=some g->H t=some (.tup [kV g.1,g.2]))->∃y:List (fD×Value),KV f y/\∀(j:Nat) (t:Addr) (g:fD×Value),k[j]?=some t->y[j]?=some g->AT s.heap (.ref t) g:=by
  intro k
  induction k with
  |nil =>
   intro f v _;cases f with
   |nil=>exact⟨[],.nil,fun j t g e=>by simp at e⟩
   |cons _ _=>cases v
  |cons t k ih =>
   intro f v D;cases f with
   |nil=>cases v
   |cons g f =>
    obtain⟨y,O,r2⟩:=ih f (by simpa using v) fun j T m a b=>D (j+1) T m (by simpa using a) (by simpa using b);obtain⟨_,ab,rt,p⟩:=(show bT X.prog X.w X.K H s.heap t (.tup [kV g.1,g.2])from I.hok t _ (D 0 t g rfl rfl));obtain⟨a,b,e,ra,rb⟩:=rt.two;subst e;refine⟨(g.1,b)::y,.cons ⟨rfl,rb⟩ O,fun j T m A U=>?_⟩;cases j with
    |zero =>
     simp at A U;subst A U;exact⟨t,a,rfl,p,rq (P:=X.prog) (w:=X.w) ra⟩
    |succ j=>exact r2 j T m (by simpa using A) (by simpa using U)
 obtain⟨y,B,pa⟩:=N k f z D;have C:=Y.length;rw[ai]at C;have al:=B.length;refine r8 (prog:=X.prog) (w:=X.w) (ps:=y) (I.ok.hd hc) ho G L J (by rw[bZ];omega) (fun j u g a b=>?_) (by rw[bZ,<-C];rw[ai]at M;exact M) fun h' tk hD kp=>?_
 ·have a':E[j]?=some u:=by simpa using a
  have hj:j<k.length:=by
   have:=(bG.mp a').1;omega
  obtain⟨u',e1,O⟩:=Y.get (i:=j) (x:=V.ref k[j]) (by simp[hj]);rw[a']at e1;cases e1;cases(show u=Value.ref k[j]from O);exact pa j k[j] g (by simp[hj]) b
 ·have hm:(jr [] f).length<=ak:=by
   have A:=mG f [];rw[kU]at A;rw[ai]at M;omega
  exact⟨.ref s.heap.objs.size,_,I.laid (o:=.dK (jr [] f)) kp (aK _) (Fs hm (beq_eq_false_iff_ne.mpr (dv (bM I.big))) (B.merge .nil) hD),rfl,q _ I.fresh⟩
end
abbrev eN:R2:=DD fun i j=>.int (i+j)
abbrev fM:R2:=rI FL fun i j=>.int (i * j)
abbrev f6:R2:=rI (fun _ j=>0<j) fun i j=>.int (i % j)
abbrev tX:R2:=rI Ji fun i j=>.int (i / j)
abbrev G9:R2:=rI Jg fun i j=>.int (i ^ j.toNat)
abbrev C0:R2:=DD fun i j=>.bl (decide (i<j))
abbrev HG:R2:=DD fun i j=>.bl (decide (i<=j))
abbrev oJ:R2:=DD fun i j=>.bl (decide (j<i))
abbrev rGeI:R2:=DD fun i j=>.bl (decide (j<=i))
abbrev EG:R2:=fun x y H Q=>∃i j,x=.str i/\y=.str j/\i.length+j.length<=ak/\Q (.str (i++j)) H
abbrev rInS:R2:=fun x y H Q=>∃c j,x=.str ⟨#[c]⟩/\y=.str j/\Q (.bl (decide (c∈j.cps.toList))) H
abbrev tW(K:Za):List V->Hp->VK->Prop:=fun xs H Q=>∃x c t b,xs=[x,.ty c]/\Ii K H x t/\Ba K t (.type c)=some b/\Q (.bl b) H
abbrev HH(K:Za):List V->Hp->VK->Prop:=fun xs H Q=>∃(p:Addr) (bs:List Bool),xs=[.ref p]/\av K H p (bs.map V.bl)/\Q (.bl (bs.all id)) H
abbrev rAny(K:Za):List V->Hp->VK->Prop:=fun xs H Q=>∃(p:Addr) (bs:List Bool),xs=[.ref p]/\av K H p (bs.map V.bl)/\Q (.bl (bs.any id)) H
abbrev Gs(K:Za):List V->Hp->VK->Prop:=fun xs H Q=>∃(l:Addr) (ts:Ze) (kvs:List (fD×V)),xs=[.ref l]/\av K H l (ts.map V.ref)/\ts.length=kvs.length /\
  (∀(j:Nat) (t:Addr) (kv:fD×V),ts[j]?=some t->kvs[j]?=some kv->H t=some (.tup [kV kv.1,kv.2]))/\∀p,H p=none->Q (.ref p) (upd H p (.dK (jr [] kvs)))
abbrev cY(K:Za):List V->Hp->VK->Prop:=fun xs H Q =>
 (∃p ys,xs=[.ref p]/\(av K H p ys∨cr K H p ys)/\∀l,H l=none->Q (.ref l) (upd H l (.lst ys))) ∨
 (∃(d:Addr) (kvs:List (fD×V)),xs=[.ref d]/\Rd H d (.dK kvs)/\∀l,H l=none->Q (.ref l) (upd H l (.lst (kvs.map fun kv=>kV kv.1))))
abbrev cu(K:Za):List V->Hp->VK->Prop:=fun xs H Q =>
 (∃p ys,xs=[.ref p]/\(av K H p ys∨cr K H p ys)/\Q (.int ys.length) H)∨(∃z,xs=[.str z]/\z.length<=ak/\Q (.int z.length) H)
theorem eD:iV "isinstance"=some (.builtin "isinstance"):=by decide +kernel
theorem nC:iV "list"=some (.type "list"):=by decide +kernel
theorem zp:iV "tuple"=some (.type "tuple"):=by decide +kernel
theorem uz:iV "dict"=some (.type "dict"):=by decide +kernel
theorem AR:iV "bool"=some (.type "bool"):=by decide +kernel
theorem Dt:iV "int"=some (.type "int"):=by decide +kernel
theorem Ds:iV "str"=some (.type "str"):=by decide +kernel
section
variable{X:Cx}{p pos:Pos}
theorem Dr:fU X (.builtin "len") (cu X.K):=xN.or xM
theorem AQ(a:X.calm=true):fU X (.type "list") (cY X.K):=xL.or (uy a)
theorem nc(a:Gl X "bool")(e:X.mg "bool"=none):PE X (.Name "bool" pos) (tC (.ty "bool")):=oS a e AR rfl
theorem vD(a:Gl X "int")(e:X.mg "int"=none):PE X (.Name "int" pos) (tC (.ty "int")):=oS a e Dt rfl
theorem vC(a:Gl X "str")(e:X.mg "str"=none):PE X (.Name "str" pos) (tC (.ty "str")):=oS a e Ds rfl
theorem t7(a:Gl X "list")(e:X.mg "list"=none):PE X (.Name "list" pos) (tC (.ty "list")):=oS a e nC rfl
theorem rf(a:Gl X "tuple")(e:X.mg "tuple"=none):PE X (.Name "tuple" pos) (tC (.ty "tuple")):=oS a e zp rfl
end
def Gc(mg:Str->Option Value)(x:Str)(v:V):Prop:=∃u,mg x=some u/\RelV v u
theorem hW{X:Cx}{x:Str}{v:V}{a:Pos}(e:Gl X x)(h:Gc X.mg x v)(f:(x==("__debug__":Str))=false:=by decide):PE X (.Name x a) (tC v):=by
 obtain⟨u,g,r⟩:=h;exact Gy e g r f
structure iT(P:bq)(w:World)(K:Za)(mg:Str->Option Value)(base:Heap)(x:Str)(ps:Zb)(k:Nat)(sp:Sp):Prop where
 ex:∃f fd,iN P w K mg base CX0 k f fd ps sp/\mg x=some (.ref f)/\ee K (.ref f)=true/\Binds K fd ps []
structure New(P:bq)(w:World)(K:Za)(mg:Str->Option Value)(base:Heap)(x:Str)(C:Addr)(ps:Zb)(k:Nat)(sp:Sp):Prop where
 ex:∃f fd,iN P w K mg base CX0 k f fd ps sp/\mg x=some (.ref C)/\Mk K C f/\Binds K fd ps []
structure DG(P:bq)(w:World)(K:Za)(mg:Str->Option Value)(base:Heap)(C:Addr)(m:Str)(ps:Zb)(k:Nat)(sp:Sp):Prop where
 ex:∃f fd,iN P w K mg base CX0 k f fd ps sp/\DB K C/\GY K C m f/\Binds K fd ps []
section
variable{X:Cx}{k:Nat}{ps:Zb}{sp:Sp}{x m:Str}{C:Addr}{p pos J6:Pos}{o e:Expr}{es:List Expr}{t:TA}{ta:TE}
theorem Ha(D:iT X.prog X.w X.K X.mg X.base x ps k sp)(h:dF k X.A)(i:Gl X x)(j:PA X (e::es) t)(a:(x==("__debug__":Str))=false:=by decide)
  (l:ay (e::es) X.env=(false,eval e X.env)::ay es X.env:=by rfl) (g:(backTo pos (ay es X.env)).any (·.1)=false:=by rfl) :
  PE X (.Call (.Name x p) (e::es) [] pos) (aO sp t):=by
 obtain⟨f,s,F,n,q,r⟩:=D.ex;exact GA F h i n q r .nil BQ j a l g
theorem EQ(D:New X.prog X.w X.K X.mg X.base x C ps k sp)(h:dF (k+1) X.A)(i:Gl X x)(j:PA X (e::es) t)(a:(x==("__debug__":Str))=false:=by decide)
  (l:ay (e::es) X.env=(false,eval e X.env)::ay es X.env:=by rfl) (g:(backTo pos (ay es X.env)).any (·.1)=false:=by rfl) :
  PE X (.Call (.Name x p) (e::es) [] pos) (BD C sp [] E0 t):=by
 obtain⟨f,r,F,n,M,q⟩:=D.ex;exact Gx M F h i n q .nil BQ j a l g
theorem HP{pl:Sem Bool}(M:DG X.prog X.w X.K X.mg X.base C m ps k sp)(i:dF k X.A)(j:PE X o ta)(l:PA X (e::es) t)
  (a:ay (e::es) X.env=(false,eval e X.env)::ay es X.env:=by rfl) (g:(backTo pos (ay es X.env)).any (·.1)=false:=by rfl)
  (n:eval (.Call (.Attribute o m J6) (e::es) [] pos) X.env=(do
   let h <- eval o X.env
   nV J6.atName
   let(f,first) <- jz [h] (nU h m pl)
   mT pos f first (backTo pos (ay (e::es) X.env)) (jX pos (jW [] X.env))):=by rfl) :
  PE X (.Call (.Attribute o m J6) (e::es) [] pos) (bF C m sp [] E0 ta t):=by
 obtain⟨f,s,F,c,q,r⟩:=M.ex;exact Gw j c q F i r .nil BQ l a g n
theorem Gv{pl:Sem Bool}(M:DG X.prog X.w X.K X.mg X.base C m ps k sp)(g:dF k X.A)(h:PE X o ta)
  (i:eval (.Call (.Attribute o m J6) [] [] pos) X.env=(do
   let a <- eval o X.env
   nV J6.atName
   let(f,first) <- jz [a] (nU a m pl)
   mT pos f first (backTo pos (ay [] X.env)) (jX pos (jW [] X.env))):=by rfl) :
  PE X (.Call (.Attribute o m J6) [] [] pos) (bF C m sp [] E0 ta aN):=by
 obtain⟨f,n,F,c,j,l⟩:=M.ex;exact ER h c j F g l .nil BQ i
end
def IR(K:Za)(tl:TE):TI:=fun σ H R=>tl σ H fun x H1=>∃a,x=.ref a/\(((∃xs,av K H1 a xs)/\R (Cm K a) H1)∨((∃xs,cr K H1 a xs)/\R (Jd K a) H1))
theorem HK{X:Cx}{u l:Expr}{r:TE}(w:PE X l r):PI X u l (IR X.K r):=by
 intro t s σ H R I h;refine cM (w t s σ H _ I h) fun v f j=>?_;obtain⟨x,k,g,y,z⟩:=j;obtain⟨a,e,q⟩:=z;subst e;cases y;have i:∀b∈[f.heap.objs.size],lM X t k b:=fun b A=>by
  have e:b=f.heap.objs.size:=by simpa using A
  subst e;exact g.fpOk (aK _) (g.hok.fresh (aK _))
 rcases q with⟨⟨xs,m⟩,q⟩|⟨⟨xs,m⟩,q⟩
 ·obtain⟨n,B,p,C⟩:=g.list m;refine vg p.isList ?_;exact⟨f.heap.objs.size,[f.heap.objs.size],_,_,k,rfl,g.kept (t':=f.toks) fun b o e=>aS _ e,vp a _,⟨_,cJ _ rfl,rfl,rfl⟩,i,q⟩
 ·obtain⟨n,B,p,C⟩:=g.tuple m;refine wpAny_pyIter_tuple p ?_;exact⟨f.heap.objs.size,[f.heap.objs.size],_,_,k,rfl,g.kept (t':=f.toks) fun b o e=>aS _ e,zT a _,⟨_,cJ _ rfl,rfl,rfl⟩,i,q⟩
theorem lF{K:Za}{a:Addr}{xs:List V}{g:TG}{k:TS}{D:eR}{σ:St}{H:Hp}(Pv:Nat->St->Hp->Prop)(n:Pv 0 σ H)(o:∀i σ H,i<=xs.length->Pv i σ H->av K H a xs)
  (r:∀i x σ H p,xs[i]?=some x->Pv i σ H->H p=none->g (.ref p) σ (upd H p (.tup [.int i,x])) fun σ2 j=>k { D with nx:=Pv (i+1),ct:=Pv (i+1),bk:=D.nx } σ2 j) (s:∀σ H,Pv xs.length σ H->D.nx σ H) :
  ∃W:Nat->Nat->St->Hp->Prop,(∃m,W 0 m σ H)/\∀i m σ H,W i m σ H ->
   ((Iw K a).stop i H/\D.nx σ H)∨((Iw K a).go i H/\∃N:St->Hp->Prop,(∀σ' f,N σ' f->∃l,l<m/\W (i+1) l σ' f)/\∀x f,(Iw K a).yld i H x f->g x σ f fun σ2 j=>k { D with nx:=N,ct:=N,bk:=D.nx } σ2 j):=by
 refine⟨fun i m σ H=>m=xs.length-i/\i<=xs.length/\Pv i σ H,⟨xs.length,by simp,dA _,n⟩,?_⟩;rintro i m σ H ⟨rfl,hi,p⟩;have q:=o i σ H hi p;by_cases h:i<xs.length
 ·refine .inr ⟨⟨xs,xs[i],q,by simp[h]⟩,Pv (i+1),fun σ' f u=>⟨xs.length-(i+1),by omega,rfl,h,u⟩,fun x f y=>?_⟩;obtain⟨t,v,rfl,w,z,rfl⟩:=y;exact r i v σ H t (z xs q) p w
 ·have e:i=xs.length:=by omega
  subst e;exact .inl ⟨⟨xs,q,aK _⟩,s σ H p⟩
def Wc(n:Nat)(Pv:Nat->List V->Hp->Prop):Nat->Nat->List V->Hp->Prop:=fun i m vs H=>m=n-i/\i<=n/\Pv i vs H
theorem r6{n i:Nat}{Pv:Nat->List V->Hp->Prop}{a:List V}{H:Hp}(hi:i<n)(p:Pv (i+1) a H):∃e,e<n-i/\Wc n Pv (i+1) e a H:=⟨n-(i+1),by omega,rfl,hi,p⟩
abbrev cR(k:Nat)(fi:List Nat)(σ:St)(J:It)(g:TG)(tc:TT)(te:TE)(H1:Hp)(l:Addr)(Q:Hp->Prop):Prop :=
 ∃W:Nat->Nat->List V->Hp->Prop,(∃m,W 0 m [] (upd H1 l (.lst [])))/\∀i m vs H2,W i m vs H2->H2 l=some (.lst vs) /\
  ((J.stop i H2/\Q H2)∨(J.go i H2/\∀x H3,J.yld i H2 x H3->g x (cx k fi σ) H3 fun σ2 H4=>tc σ2 H4 fun b H5 =>
   if b=true then te σ2 H5 fun v H6=>H6 l=some (.lst vs)/\vs.length<ak/\∃m',m'<m/\W (i+1) m' (vs++[v]) (upd H6 l (.lst (vs++[v])))else ∃m',m'<m/\W (i+1) m' vs H5))
theorem jK{k:Nat}{r:List Nat}{J:It}{g:TG}{s:TT}{t:TE}{σ:St}{u:Hp}{Q:Hp->Prop}{l:Addr}(n:Nat)(Pv:Nat->List V->Hp->Prop)(A:Pv 0 [] (upd u l (.lst [])))
  (B:∀i a H,i<=n->Pv i a H->H l=some (.lst a)) (o:∀i a H,i<n->Pv i a H->J.go i H) (q:∀a H,Pv n a H->J.stop n H/\Q H)
  (C:∀i a H x j,i<n->Pv i a H->J.yld i H x j->g x (cx k r σ) j fun σ2 D=>s σ2 D fun b w =>
   if b=true then t σ2 w fun v z=>z l=some (.lst a)/\a.length<ak/\∃f,f<n-i/\Wc n Pv (i+1) f (a++[v]) (upd z l (.lst (a++[v])))else ∃f,f<n-i/\Wc n Pv (i+1) f a w) :
  cR k r σ J g s t u l Q:=by
 refine⟨Wc n Pv,⟨n,by simp[Wc],dA _,A⟩,?_⟩;rintro i m a H ⟨rfl,hi,p⟩;refine⟨B i a H hi p,?_⟩;by_cases h:i<n
 ·exact .inr ⟨o i a H h p,fun x j y=>C i a H x j h p y⟩
 ·have e:i=n:=by omega
  subst e;exact .inl (q a H p)
section
variable{K:Za}{k:Nat}{fi:List Nat}{g:TG}{tc:TT}{te:TE}{σ:St}{H1:Hp}{Q:Hp->Prop}{l:Addr}
theorem cE{a:Addr}{xs:List V}(Pv:Nat->List V->Hp->Prop)(n:Pv 0 [] (upd H1 l (.lst [])))
  (h:∀i e H,i<=xs.length->Pv i e H->H l=some (.lst e)/\av K H a xs) (o:∀e H,Pv xs.length e H->Q H)
  (q:∀i e H x,xs[i]?=some x->i<xs.length->Pv i e H->g x (cx k fi σ) H fun σ2 r=>tc σ2 r fun b j =>
   if b=true then te σ2 j fun v m=>m l=some (.lst e)/\e.length<ak/\∃f,f<xs.length-i/\Wc xs.length Pv (i+1) f (e++[v]) (upd m l (.lst (e++[v])))else ∃f,f<xs.length-i/\Wc xs.length Pv (i+1) f e j) :
  cR k fi σ (Cm K a) g tc te H1 l Q:=by
 refine jK xs.length Pv n (fun i e H hi p=>(h i e H hi p).1) (fun i e H hi p=>⟨xs,xs[i],(h i e H (cy hi) p).2,by simp[hi]⟩) (fun e H p=>⟨⟨xs,(h _ e H (aK _) p).2,aK _⟩,o e H p⟩) fun i e H x s hi p y=>?_;obtain⟨rfl,y⟩:=y;exact q i e _ x (y xs (h i e _ (cy hi) p).2) hi p
theorem AM{lo:Int}{n:Nat}(Pv:Nat->List V->Hp->Prop)(j:Pv 0 [] (upd H1 l (.lst [])))
  (m:∀i a H,i<=n->Pv i a H->H l=some (.lst a)) (o:∀a H,Pv n a H->Q H)
  (q:∀i a H,i<n->Pv i a H->g (.int (lo+i)) (cx k fi σ) H fun σ2 r=>tc σ2 r fun b f =>
   if b=true then te σ2 f fun v h=>h l=some (.lst a)/\a.length<ak/\∃e,e<n-i/\Wc n Pv (i+1) e (a++[v]) (upd h l (.lst (a++[v])))else ∃e,e<n-i/\Wc n Pv (i+1) e a f) :
  cR k fi σ (Io lo n) g tc te H1 l Q:=by
 refine jK n Pv j m (fun i a H hi p=>hi) (fun a H p=>⟨aK _,o a H p⟩) fun i a H x s hi p y=>?_;obtain⟨rfl,rfl⟩:=y;exact q i a _ hi p
theorem FB{x:Str}(Pv:Nat->List V->Hp->Prop)(j:Pv 0 [] (upd H1 l (.lst [])))
  (m:∀i a H,i<=x.cps.size->Pv i a H->H l=some (.lst a)) (n:∀a H,Pv x.cps.size a H->Q H)
  (o:∀i a H c,x.cps[i]?=some c->i<x.cps.size->Pv i a H->g (.str ⟨#[c]⟩) (cx k fi σ) H fun σ2 q=>tc σ2 q fun b f =>
   if b=true then te σ2 f fun v h=>h l=some (.lst a)/\a.length<ak/\∃e,e<x.cps.size-i/\Wc x.cps.size Pv (i+1) e (a++[v]) (upd h l (.lst (a++[v])))else ∃e,e<x.cps.size-i/\Wc x.cps.size Pv (i+1) e a f) :
  cR k fi σ (Jx x) g tc te H1 l Q:=by
 refine jK x.cps.size Pv j m (fun i a H hi p=>hi) (fun a H p=>⟨aK _,n a H p⟩) fun i a H y t hi p r=>?_;obtain⟨rfl,c,s,rfl⟩:=r;exact o i a _ c s hi p
end
theorem gN{j:Nat}{x:V}{σ:St}{H:Hp}{Q:St->Hp->Prop}(h:Q (σ.set j (some x)) H):dI j x σ H Q:=h
theorem rN{σ:St}{H:Hp}{A B:Hp->Prop}(h:A H):jn σ H (fun b a=>if b=true then A a else B a):=by
 show(if(true:Bool)=true then A H else B H)
 exact h
inductive Hw{T0 T1:Type}(P:T0->T1->Prop):Prop
 |mk (x0:T0) (x1:T1):P x0 x1->Hw P
inductive Il{T0 T1 T2:Type}(P:T0->T1->T2->Prop):Prop
 |mk (x0:T0) (x1:T1) (x2:T2):P x0 x1 x2->Il P
inductive NE4{T0 T1 T2 T3:Type}(P:T0->T1->T2->T3->Prop):Prop
 |mk (x0:T0) (x1:T1) (x2:T2) (x3:T3):P x0 x1 x2 x3->NE4 P
inductive NA3(p0 p1 p2:Prop):Prop
 |mk:p0->p1->p2->NA3 p0 p1 p2
inductive Hx(p0 p1 p2 p3:Prop):Prop
 |mk:p0->p1->p2->p3->Hx p0 p1 p2 p3
inductive Ja(p0 p1 p2 p3 p4:Prop):Prop
 |mk:p0->p1->p2->p3->p4->Ja p0 p1 p2 p3 p4
inductive Jv(p0 p1 p2 p3 p4 p5:Prop):Prop
 |mk:p0->p1->p2->p3->p4->p5->Jv p0 p1 p2 p3 p4 p5
theorem Obj.mapF{o:Obj}{a:Array Value}(e:o.data=.fields a)(f:Array Value->Array Value):o.mapFields f={ o with data:=.fields (f a) }:=by
 obtain⟨c,d,g,h⟩:=o;cases e
 rfl
structure Iq(fs:Ze)(e:Addr)(T:Option Addr)(h h':Heap):Prop where
 keep:∀b o,h.get? b=some o->b≠e->some b≠T->b∉fs->h'.get? b=some o
 slot:∀b o,h.get? b=some o->b≠e->some b≠T->b∈fs->∃sl,h'.get? b=some { o with slots:=sl }
 there:∀b o,h.get? b=some o->∃o',h'.get? b=some o'
def Trc(n:Nat)(h:Heap)(e:Addr)(vs:Array Value)(T:Option Addr):Prop :=
 (vs[1]?=some .none/\T=none)∨∃t oT ts,T=some t/\vs[1]?=some (.ref t)/\n<=t/\t≠e/\h.get? t=some oT/\oT.data=.fields ts/\ts[3]?=some .none
def g9(a C:Addr)(od:Option Addr):Heap->Prop:=fun h=>∃vs,h.get? a=some { cls:=.ref C,dict:=od,data:=.fields vs }/\1<vs.size
def cI(a C:Addr)(od:Option Addr):Heap->Prop:=fun h=>∃vs,h.get? a=some { cls:=.ref C,dict:=od,data:=.fields vs }/\vs[1]?=some .none
theorem qF{P:bq}{w:World}{K:Za}{H:Hp}{h:Heap}{a C:Addr}{g:Option Addr}{f:Array Value}(e:h.get? a=some { cls:=.ref C,dict:=g,data:=.fields f })(z:1<f.size):bT P w K H h a (.ext (g9 a C g)) :=
 ⟨⟨f,e,z⟩,⟨_,e⟩,fun _ _ ⟨i,q,y⟩ k=>⟨i,k _ q,y⟩⟩
theorem jI{P:bq}{w:World}{K:Za}{H:Hp}{h:Heap}{a C:Addr}{g:Option Addr}{f:Array Value}(e:h.get? a=some { cls:=.ref C,dict:=g,data:=.fields f })(z:f[1]?=some .none):bT P w K H h a (.ext (cI a C g)) :=
 ⟨⟨f,e,z⟩,⟨_,e⟩,fun _ _ ⟨i,q,y⟩ k=>⟨i,k _ q,y⟩⟩
structure lN(n:Nat)(h:Heap)(H:Hp)(a C:Addr)(od:Option Addr):Prop where
 trk:H a=some (.ext (g9 a C od))
 new:n<=a
 tr:∃vs T,h.get? a=some { cls:=.ref C,dict:=od,data:=.fields vs }/\1<vs.size/\Trc n h a vs T/\∀t,T=some t->H t=none
theorem lN.mono{n g:Nat}{h:Heap}{H:Hp}{a C:Addr}{i:Option Addr}(x:lN n h H a C i)(l:g<=n):lN g h H a C i :=
 ⟨x.trk,bW l x.new,let⟨j,T,e,z,k,f⟩:=x.tr;⟨j,T,e,z,by
  rcases k with q|⟨t,m,o,p,r,s,u⟩
  ·exact .inl q
  ·exact .inr ⟨t,m,o,p,r,bW l s,u⟩,f⟩⟩
theorem Fh{P:bq}{w:World}{K:Za}{H:Hp}{h f:Heap}{fs:Ze}{a C:Addr}{j T:Option Addr}{e:Array Value}(ok:kg P w K H h)(k:H a=some (.ext (g9 a C j)))(n:∀t,T=some t->H t=none)(i:∀b∈fs,H b=none)
  (p:Iq fs a T h f) (s:f.get? a=some { cls:=.ref C,dict:=j,data:=.fields e }) (z:1<e.size):kg P w K H f:=fun b u q=>by
 by_cases l:b=a
 ·subst l;rw[k]at q;cases q;exact qF s z
 ·have m:∀c o v,H c=some v->c≠a->h.get? c=some o->f.get? c=some o:=fun c o v hc x g =>
   p.keep c o g x (fun z=>by rw[n c z.symm]at hc;cases hc) fun z=>by rw[i c z]at hc;cases hc
  refine(ok b u q).stay (fun c o hc g=>?_) (fun _ r=>r) fun _ _ r=>r;rcases hc with rfl|hc
  ·exact m c o u q l g
  ·exact m c o _ hc (fun z=>by rw[z,k]at hc;cases hc) g
structure o_(X:Cx)(J4:Zd)(n:Nat):Prop where
 s0:X.s₀.heap.objs.size<=n
 loc:X.env.locals<n
 cell:∀x c,X.env.cells.lookup x=some c->c<n
 pin:∀p∈X.pn++J4,p.1<n
theorem Inv.young{X:Cx}{a:Zd}{σ:St}{H:Hp}{s:Shared}(I:Inv X a σ H s):o_ X a s.heap.objs.size :=
 ⟨I.sz,I.lt,fun x c e=>let⟨_,_,q,_⟩:=I.cell x c e;aI q,fun p f=>aI (I.pin p f).1⟩
section
variable{X:Cx}{J4:Zd}{σ:St}{H:Hp}{s:Shared}{n:Nat}{a C:Addr}{od:Option Addr}
def Hz(P:bq)(w:World)(K:Za):DC:=fun outer H s E e s'=>∃a C od H',e=.ref a/\s'.os=s.os/\mB s'.gens/\Un (uN outer) [] H H' s.heap s'.heap/\kg P w K H' s'.heap/\lN s.heap.objs.size s'.heap H' a C od/\E (.ref C) (some a) H'
end
abbrev jm:List Value:=[.type "ValueError",.type "Exception",.type "BaseException",.type "object"]
inductive dZ:List Value->Prop
 |base:dZ jm
 |own {a:Addr}{r:Zf}:dZ r->dZ (.ref a::r)
theorem dZ.has{l:Zf}(x:dZ l){n:String}{b:Bool}(e:jm.contains (.type n)=b):l.contains (.type n)=b:=by
 induction x with
 |base=>exact e
 |own _ a=>rw[je,a];rfl
section
variable{prog:bq}{w:World}{A:Around}{E:Zc}{h:Heap}{g:Array Bk}{d:Drawn}{t:Nat}{os:OsState}
variable{nm q:Str}{C N:Addr}{bs bm:Zf}{hdct:Bool}{sn:Zb}{sub:Zf}{ab:Bool}{col:Option Bool}{dd:Option Addr}{k0 k1 k2 k3 k5:Option Value}
theorem Bt{M:Model}(e:dZ bm){f:Zf}{Q:Unit->Shared->Prop}(a:h.get? C=some (ff nm q C N bs bm hdct sn sub ab col dd k0 k1 k2 k3 k5 "ValueError.__new__"))
  (i:Q () ⟨h,g,d,t,os⟩):wpAny M A (wf "ValueError.__new__" ⟨.ref C::f,[]⟩) Q E ⟨h,g,d,t,os⟩:=by
 have G:=PySem.F.excBase_ValueError;have j:(Value.ref C::bm).contains (.type "ValueError")=true:=by rw[je,e.has (b:=true) (by decide +kernel)];rfl
 have k:=G.noStar;simp only[wf,G.newKind,G.newSplit,G.newRow]
 repeat (first|refine gW a ?_|(refine pH a ?_;rw[j])|refine wpAny_staticBase_exc a ?_|refine wpAny_madeBy_exc a ?_|simp only[bne_self_eq_false,kO,if_false] | wp_step)
 exact i
theorem G4{R:Result->Shared->Prop}(a:dZ bm){e:Zf}(f:h.get? C=some (ff nm q C N bs bm hdct sn sub ab col dd k0 k1 k2 k3 k5 "ValueError.__new__"))(m:e.length<=ak)
  (i:R (.ok (.ret (.ref (h.objs.size+1)))) ⟨(h.push { cls:=.type "tuple",data:=.seq e.toArray }).push { cls:=.ref C,data:=.fields #[.ref h.objs.size,.none,.none,.none,.bool false,.none] },g,d,t,os⟩) :
  zzl86 (model prog w) A (.builtin "ValueError.__new__" ⟨.ref C::e,[]⟩) R ⟨h,g,d,t,os⟩:=by
 have G:=PySem.F.excBase_ValueError;have n:=G.ends;have j:(Value.ref C::bm).contains (.type "ValueError")=true:=by rw[je,a.has (b:=true) (by decide +kernel)];rfl
 have k:(Value.ref C::bm).contains (.type "AttributeError")=false:=by rw[je,a.has (b:=false) (by decide +kernel)];rfl
 have l:(Value.ref C::bm).contains (.type "NameError")=false:=by rw[je,a.has (b:=false) (by decide +kernel)];rfl
 refine codeAny_builtinAt G.entry ?_;unfold bX.«BaseException.__new__»;refine PySem.wpAt_bind ?_;show PySem.wpAt _ _ _ (stack >>= _) _ _ _;refine PySem.wpAt_bind (PySem.wpAt_stack fun p below=>PySem.wpAt_of_wpAny ?_)
 wp_walk
 refine PySem.wpAt_of_wpAny ?_;rw[G.owner]
 repeat (first|with_reducible refine wpAny_madeHere_exc G.canon f ?_|with_reducible refine gW f ?_|(with_reducible refine pH f ?_;first|rw[j] | rw[k] | rw[l])|wp_step)
 show R _ _;rw[iU];exact i
theorem FP(m:dZ bm){a:Zf}{j:Addr}{n:Obj}{Q:Fin->Shared->Prop}(f:h.get? C=some (ff nm q C N bs bm hdct sn sub ab col dd k0 k1 k2 k3 k5 "ValueError.__new__"))
  (hi:sY (model prog w) h (jU (.ref C) "__init__") (some (.ref j))) (k:h.get? j=some n) (l:n.cls=.type "function") (u:a.length<=ak)
  (v:∀i,(∀b o,h.get? b=some o->i.get? b=some o)->i.objs.size=h.objs.size+2->i.get? (h.objs.size+1)=some { cls:=.ref C,data:=.fields #[.ref h.objs.size,.none,.none,.none,.bool false,.none] } ->
   wpAny (model prog w) A (call (.ref j) (.ref (h.objs.size+1)::a)) (fun r p=>r=.none/\Q (.done (.ret (.ref (h.objs.size+1)))) p) E ⟨i,g,d,t,os⟩) :
  wpAny (model prog w) A (bX.«type.__call__» ⟨.ref C::a,[]⟩) Q E ⟨h,g,d,t,os⟩:=by
 repeat (first|with_reducible refine gW f ?_|with_reducible refine wpAny_madeBy_exc f ?_|wp_step)
 refine codeAny_call_builtin_code (we _ PySem.F.excBase_ValueError.quiet) (Bt m f (G4 m f u ?_));show wpAny _ _ _ _ _ _;have kp:∀b o,h.get? b=some o->((h.push { cls:=.type "tuple",data:=.seq a.toArray }).push { cls:=.ref C,data:=.fields #[.ref h.objs.size,.none,.none,.none,.bool false,.none] }).get? b=some o :=
  fun b o e=>aS _ (aS _ e)
 have y:=kp _ _ f;have s:((h.push { cls:=.type "tuple",data:=.seq a.toArray }).push { cls:=.ref C,data:=.fields #[.ref h.objs.size,.none,.none,.none,.bool false,.none] }).get? (h.objs.size+1)
  =some { cls:=.ref C,data:=.fields #[.ref h.objs.size,.none,.none,.none,.bool false,.none] }:=by heap_get
 have z:(Value.ref C::bm).contains (.ref C)=true:=by simp
 unfold vj
 repeat (first|with_reducible refine gW s ?_|(with_reducible refine pH y ?_;rw[z])|wp_step)
 show wpAny _ _ (jU (.ref C) _) _ _ _;refine hi _ _ _ _ kp ?_;refine iy (ah ?_);unfold bindSpecial;refine ah (sZ (T:="function") ⟨_,kp _ _ k,l⟩ ?_);rw[if_pos (by decide)];refine aw (ah (dz (v _ kp (by rw[iU,iU]) s) (fun r p B=>?_) fun _ _ x=>x));obtain⟨rfl,D⟩:=B
 wp_walk
 exact D
theorem HA(m:dZ bm){e:Zf}{i:Addr}{l:Obj}{Q:Zc}(f:h.get? C=some (ff nm q C N bs bm hdct sn sub ab col dd k0 k1 k2 k3 k5 "ValueError.__new__"))
  (hi:sY (model prog w) h (jU (.ref C) "__init__") (some (.ref i))) (j:h.get? i=some l) (k:l.cls=.type "function") (n:e.length<=ak)
  (p:∀a,(∀b o,h.get? b=some o->a.get? b=some o)->a.objs.size=h.objs.size+2->a.get? (h.objs.size+1)=some { cls:=.ref C,data:=.fields #[.ref h.objs.size,.none,.none,.none,.bool false,.none] } ->
   wpAny (model prog w) (A.under (.builtin "type.__call__" ⟨.ref C::e,[]⟩)) (call (.ref i) (.ref (h.objs.size+1)::e)) (fun r s=>r=.none/\Q (.ref (h.objs.size+1)) s) E ⟨a,g,d,t,os⟩) :
  wpAny (model prog w) A (call (.ref C) e) Q E ⟨h,g,d,t,os⟩:=by
 have u:=tc_lookup;have v:=tc_bind (.ref C);have x:(⟨h,g,d,t,os⟩:Shared).TypeIs (.ref C) "type":=⟨_,f,rfl⟩;refine kW (codeAny_of_tree ?_);show wpAny _ _ (callAny (.ref C) _) _ _ _
 repeat (any_goals (first|assumption|with_reducible refine gW f ?_|wp_step))
 exact⟨rfl,codeAny_call_builtin_at (we _ (by decide +kernel)) entry_typeCall (wpAny_check_type_call_sub f (FP m f hi j k n fun a a1 a2 a3=>p a a1 a2 a3))⟩
end
structure jL(K:Za)(C:Addr):Prop where
 obj:∃nm q N bs bm sn sub ab col dd k0 k1 k2 k3 k5,K.lookup C=some (ff nm q C N bs bm true sn sub ab col dd k0 k1 k2 k3 k5 "ValueError.__new__")/\dZ bm
 sa:bB K (.ref C) "__setattr__"=some (some (.builtin "object.__setattr__"))
 ga:bB K (.ref C) "__getattribute__"=some (some (.builtin "BaseException.__getattribute__"))
 gx:bB K (.ref C) "__getattr__"=some none
theorem jL.cd{K:Za}{C:Addr}(c:jL K C):∃cd,PySem.W.clsIn K C=some cd/\dZ cd.mro/\cd.hasDict=true:=by
 obtain⟨f,q,N,bs,g,h,sub,i,a,j,k,l,m,n,o,e,v⟩:=c.obj;exact⟨_,by unfold PySem.W.clsIn;rw[e],.own v,rfl⟩
theorem dZ.ne{l:Zf}(x:dZ l):l.isEmpty=false:=by cases x<;>rfl
theorem yL(self:Value){l:Zf}(x:dZ l):refuseLoop self "__setattr__" l=pure ():=by
 induction x with
 |base=>exact PySem.F.store_ValueError.passes self
 |own _ a=>rw[refuseLoop_ref];exact a
section
variable{prog:bq}{w:World}{A:Around}{E:Zc}{s:Shared}{K:Za}{x C:Addr}{od:Option Addr}{vs:Array Value}{name:Str}{v:Value}
open PySem.W
theorem G3{M:Model}{h:Heap}{cd:ClassData}(X:K.In h)(e:clsIn K C=some cd)(a:dZ cd.mro){n:String}(f:jm.contains (.type n)=true):Looks M h (isSubtype (.ref C) (.type n)) true :=
 looks_mroIn X (by unfold mroIn;rw[e,Option.bind_some,if_neg (by rw[a.ne];decide),a.has f])
theorem DN{M:Model}{h:Heap}(hx:h.get? x=some { cls:=.ref C,dict:=od,data:=.fields vs }):Looks M h (typeOf (.ref x)) (.ref C):=(Looks.ld hx).andThen .now
theorem Bu{f:Zf}{Q:Zc}(X:K.In s.heap)(c:jL K C)(hx:s.heap.get? x=some { cls:=.ref C,dict:=od,data:=.fields vs })(T:f.length<=ak)(u:0<vs.size)
  (h:∀l,(∀b o,b≠x->s.heap.get? b=some o->l.get? b=some o)->l.get? x=some { cls:=.ref C,dict:=od,data:=.fields (vs.setIfInBounds 0 (.ref s.heap.objs.size)) }->Q .none { s with heap:=l }) :
  wpAny (model prog w) A (call (.builtin "ValueError.__init__") (.ref x::f)) Q E s:=by
 obtain⟨U,q,N,bs,B,Y,sub,ab,D,dd,k0,k1,k2,k3,k5,e,H⟩:=c.obj;have G:=PySem.F.excBase_ValueError;have m:=X _ _ e;have I:(Value.ref C::B).contains (.type "ValueError")=true:=by rw[je,H.has (b:=true) (by decide +kernel)];rfl
 have c2:=G.noStar;obtain⟨i,g,d,t,os⟩:=s;dsimp only at hx m;refine kW (codeAny_call_builtin G.init.plain G.initEntry ?_);have J:∀(p:Unit->Shared->Prop),p () ⟨i,g,d,t,os⟩->wpAny (model prog w) A.in1 (wf "ValueError.__init__" ⟨.ref x::f,[]⟩) p (fun e z=>match (Except.error e:Result)with | .ok (.ret v)=>Q v z | .ok _=>False | .error e=>E e z) ⟨i,g,d,t,os⟩:=fun p L=>by
  simp only[wf,G.initKind,G.initSplit,G.initRow]
  repeat (first|with_reducible refine gW hx ?_|with_reducible refine gW m ?_|(with_reducible refine pH m ?_;rw[I])|wp_step)
  refine tp ?_;rw[show ∀(a b:String) (n:Nat),Bind.check ⟨.positional,"*","ValueError",.self,[⟨"args",.varPos,false⟩]⟩ a b n (List.map (fun y=>y.fst) ({ pos:=Value.ref x::f }:Args).kw)=pure ()from fun a b n=>check_star_args _ _ _ _ _ _];exact aw L
 refine J _ ?_;unfold bX.«BaseException.__init__»;have j:(i.push { cls:=.type "tuple",data:=.seq f.toArray }).get? x=some { cls:=.ref C,dict:=od,data:=.fields vs }:=aS _ hx;obtain⟨r,M⟩:∃r,vs[0]?=some r:=⟨vs[0],by simp[u]⟩
 wp_walk
 rw[M];have k:Q .none ⟨(i.push { cls:=.type "tuple",data:=.seq f.toArray }).update x (fe (·.setIfInBounds 0 (.ref i.objs.size))),g,d,t,os⟩:=by
  refine h _ (fun b o O e=>?_) ?_
  ·rw[jg _ _ (dv O)];exact aS _ e
  ·rw[iD _ j rfl];rfl
 refine aw (ah (iz j rfl u ?_));cases r<;>first|exact wv (aw k)|exact aw (aw k)
theorem DP{h:Heap}{e:Addr}{a:Obj}(hx:h.get? x=some { cls:=.ref C,dict:=some e,data:=.fields vs })(f:h.get? e=some a):InstAt h x { cls:=.ref C,dict:=some e,data:=.fields vs } C (some a):=⟨hx,rfl,rfl,f⟩
theorem FQ{h:Heap}(hx:h.get? x=some { cls:=.ref C,dict:=none,data:=.fields vs }):InstAt h x { cls:=.ref C,dict:=none,data:=.fields vs } C none:=⟨hx,rfl,rfl,ft⟩
theorem Ix{R:Result->Shared->Prop}{n:Obj}{od:Option Obj}{tk:Tok}(X:K.In s.heap)(c:jL K C)(I:InstAt s.heap x n C od)(o:takerIn K C name=some none)
  (h:∀b,wpAny (model prog w) A.in1 (bX.ObjectAttr.storeInOwnDict (.ref x) (.ref C) (.str name tk) name v b) (fun j i=>match j with | .done f=>R (.ok f) i | .again k=>k.quiet=true/\zzl86 (model prog w) A k R i) (fun e i=>R (.error e) i) s) :
  zzl86 (model prog w) A (.call (.builtin "object.__setattr__") ⟨[.ref x,.str name tk,v],[]⟩) R s:=by
 have SF:=PySem.F.store_object;obtain⟨cd,l,m,_⟩:=c.cd;have sub:Looks (model prog w) s.heap (vj (.ref x) (.type "object")) true:=I.type.andThen (G3 X l m (by decide +kernel));refine codeAny_call_builtin SF.slot.plain SF.entry (@check_slot (model prog w) _ _ s "object.__setattr__" "object" "__setattr__" (.ref x) [.str name tk,v] [] _ SF.kind SF.split sub (SF.args (.ref x) (.str name tk) v) ?_);obtain⟨g,p,q⟩:=Option.bind_eq_some_iff.mp o;have r:Looks (model prog w) s.heap (mroOf (.ref C)) cd.mro:=(looks_clsIn X l).andThen .now;have t:Looks (model prog w) s.heap (bX.ObjectAttr.storeTaker? g) none:=by
  cases g with
  |none=>exact .now
  |some a =>
   obtain⟨b,u,e⟩:=Option.map_eq_some_iff.mp q;refine(looks_takesIn X u).andThen ?_;cases b with
   |true=>cases e
   |false=>exact .now
 rw[osa_eq,refuse_eq];refine ah (ah (I.type.here (ah (r.here ?_))));rw[yL _ m];refine aw (ah (I.type.here (ah ((looks_findIn X p).here (ah (t.here ?_))))));exact h _
theorem Cp{Q:Unit->Shared->Prop}(X:K.In s.heap)(c:jL K C)(hx:s.heap.get? x=some { cls:=.ref C,dict:=none,data:=.fields vs })(p:takerIn K C name=some none)
  (h:∀f tk,(∀b o,b≠x->s.heap.get? b=some o->f.get? b=some o)->f.get? x=some { cls:=.ref C,dict:=some s.heap.objs.size,data:=.fields vs } ->
   f.Ns1 s.heap.objs.size (fun y=>if y=name then some v else none)->Q () { s with heap:=f,toks:=tk }) :
  wpAny (model prog w) A (setAttr (.ref x) name v) Q E s:=by
 obtain⟨cd,q,_,r⟩:=c.cd;have I:=FQ hx;refine set_plain X I c.sa (Ix (s:={ s with toks:=s.toks+1 }) X c I p fun b=>?_);obtain⟨a,g,d,t,os⟩:=s;dsimp only at hx I X;have i:(a.push { cls:=.type "dict",data:=.dict #[] }).get? x=some { cls:=.ref C,dict:=none,data:=.fields vs }:=aS _ hx;have xs:x≠a.objs.size:=bM (aI hx);refine ah (aw (ah (ah (wpAny_loadPart hx (ah ((looks_clsIn X q).here ?_))))));rw[r];refine ah (wpAny_alloc' (ah (wpAny_update' i ?_)));refine aw ?_;have u:((a.push { cls:=.type "dict",data:=.dict #[] }).update x fun o=>{ o with dict:=some a.objs.size }).get? a.objs.size=some { cls:=.type "dict",data:=.dict #[] } :=
  (jg _ _ xs).trans (Heap.get?_push_at rfl rfl)
 have z:((a.push { cls:=.type "dict",data:=.dict #[] }).update x fun o=>{ o with dict:=some a.objs.size }).Ns a.objs.size (fun _=>none):=⟨_,#[],_,u,rfl,fun e B=>absurd B (by simp),fun _=>rfl⟩;show wpAny _ _ (wd a.objs.size (.str name _) name v) _ _ _;unfold wd bX.ObjectAttr.newKeyGuard;refine ah (aw (ah (wpAny_nsSet1 (Heap.Ns1.of_empty z) fun f j n=>?_)));obtain⟨J,D,G,k,l,m⟩:=j.count (Within.cons name v Within.nil);refine ah (wpAny_lookBehind k (by rw[l];exact pastItsLine_dict (bW m (by rw[c_,kU,Be];omega))) ?_);refine aw (h f _ (fun b o H e=>?_) ?_ j)
 ·exact(n.2 b (bM (aI e))).trans ((jg _ _ (dv H)).trans (aS _ e))
 ·exact(n.2 x xs).trans (iD _ i rfl)
theorem Co{Q:Unit->Shared->Prop}{f:Addr}{k:Str->Option Value}{q:Zb}(X:K.In s.heap)(c:jL K C)(hx:s.heap.get? x=some { cls:=.ref C,dict:=some f,data:=.fields vs })(l:s.heap.Ns1 f k)
  (r:Within k q) (N:q.length<ak) (u:takerIn K C name=some none)
  (h:∀i tk,(∀b o,b≠f->s.heap.get? b=some o->i.get? b=some o)->i.Ns1 f (fun y=>if y=name then some v else k y)->Q () { s with heap:=i,toks:=tk }) :
  wpAny (model prog w) A (setAttr (.ref x) name v) Q E s:=by
 obtain⟨cd,z,_,B⟩:=c.cd;obtain⟨D,G,_⟩:=qw l;have I:=DP hx G;refine set_plain X I c.sa (Ix (s:={ s with toks:=s.toks+1 }) X c I u fun b=>?_);obtain⟨O,g,d,t,os⟩:=s;dsimp only at hx I X l;refine ah (aw (ah (ah (wpAny_loadPart hx (ah ((looks_clsIn X z).here ?_))))));rw[B];refine aw (a:=some f) ?_;show wpAny _ _ (wd f (.str name _) name v) _ _ _;unfold wd bX.ObjectAttr.newKeyGuard;refine ah (aw (ah (wpAny_nsSet1 l fun i j H=>?_)));obtain⟨T,J,L,m,n,p⟩:=j.count (Within.cons name v r);refine ah (wpAny_lookBehind m (by rw[n];exact pastItsLine_dict (bW p (by rw[c_];omega))) ?_);exact aw (h i _ (fun b o M e=>(H.2 b M).trans e) j)
theorem xget{Q:Zc}{j:Addr}{k:Str->Option Value}{a:Bool}(X:K.In s.heap)(c:jL K C)(hx:s.heap.get? x=some { cls:=.ref C,dict:=some j,data:=.fields vs })(n:s.heap.Ns1 j k)
  (o:findIn K (.ref C) name=some none) (p:k name=some v) (q:handedIn v=true) (h:Q v { s with toks:=s.toks+1 }):wpAny (model prog w) A (yh (.ref x) name a) Q E s:=by
 obtain⟨cd,l,e,r⟩:=c.cd;obtain⟨f,u,y⟩:=qw n;have I:=DP hx u;have G:=PySem.F.attrBase_ValueError;obtain⟨m,g,d,t,os⟩:=s;dsimp only at hx I X;have i:=I.type (M:=model prog w);have z:=looks_findIn (M:=model prog w) X c.ga;have L2:=looks_findIn (M:=model prog w) X c.gx;have hf:findObj K C (some f) name=some (.value v):=findObj_own (by unfold hasDictIn;rw[l];exact r) o rfl (by rw[y,p]);have B:=looks_find (M:=model prog w) X I hf;have sub:Looks (model prog w) m (vj (.ref x) (.type "BaseException")) true:=i.andThen (G3 X l e (by decide +kernel));unfold yh getAttrBy;refine ah (wpAny_mkText (iy (ah (i.at (ah (z.at ?_))))));have ne:(onTheHeap (Value.ref C) && zN "BaseException.__getattribute__"==zN "object.__getattribute__")=false:=by
  rw[show(zN "BaseException.__getattribute__"==zN "object.__getattribute__")=false from by decide +kernel,pP]
 dsimp only;rw[ne,if_neg (by decide)];have D:Looks (model prog w) m (hookBefore (.ref C)) none:=L2;refine ah (D.at (ah (mL (iy ?_))));unfold callGetattribute;rw[show(a && onTheHeap (zN "BaseException.__getattribute__"))=false from pP _,if_neg (by decide)];unfold boundAndCalled;rw[G.ga.bind];refine ah (aw ?_);show wpAny _ _ (call (.builtin "BaseException.__getattribute__") [.ref x,.str name _]) _ _ _;refine kW (codeAny_call_builtin G.ga.plain PySem.F.entry_bexc_ga ?_);refine @check_slot (model prog w) _ _ _ "BaseException.__getattribute__" "BaseException" "__getattribute__" (.ref x) [.str name _] [] _ (by decide +kernel) (by decide +kernel) sub (PySem.F.args_bexc_ga _ _) ?_;unfold bX.«object.__getattribute__»;refine ah (aw (ah (aw (ah (i.at (ah (B.at ?_)))))));refine aw ?_;show wpAny _ _ (handedOut v) _ _ _;rw[handedOut_of q];exact aw h
end
theorem upd_id{H:Hp}{a:Addr}{o:HO}(e:H a=some o):upd H a o=H:=by
 funext b;unfold upd;split
 ·rename_i q;rw[q,e]
 ·rfl
def i9(d:Addr)(fs:List (Str×V)):Heap->Prop:=fun h=>∃mA,h.Ns1 d mA/\∀f,iM (fs.lookup f) (mA f)
theorem yo{P:bq}{w:World}{K:Za}{H:Hp}{h:Heap}{d:Addr}{fs:List (Str×V)}{a:Str->Option Value}(n:h.Ns1 d a)(r:∀f,iM (fs.lookup f) (a f)):bT P w K H h d (.ext (i9 d fs)):=by
 refine⟨⟨a,n,r⟩,?_,fun j l ⟨m,⟨o,g,i,e,q⟩,z⟩ k=>⟨m,⟨o,g,i,k _ e,q⟩,z⟩⟩;obtain⟨o,g,i,e,_⟩:=n;exact⟨o,e⟩
structure Ht(K:Za)(T:Addr):Prop where
 rd:PySem.W.readsIn K T (.type "type")=true
 fi:PySem.W.findCls K (.ref T) (.type "type") "__init__"=some (.val (.builtin "ValueError.__init__"))
 ga:Bb K (.ref T) "__getattribute__"=some (some (.builtin "type.__getattribute__"))
section
variable{X:Cx}{J4:Zd}{σ:St}{H:Hp}{s:Shared}{a C:Addr}{od:Option Addr}
theorem Inv.exc(I:Inv X J4 σ H s)(e:H a=some (.ext (g9 a C od))):∃f,s.heap.get? a=some { cls:=.ref C,dict:=od,data:=.fields f }/\1<f.size:=(I.hok a _ e).1
theorem Inv.excN(I:Inv X J4 σ H s)(e:H a=some (.ext (cI a C od))):∃f,s.heap.get? a=some { cls:=.ref C,dict:=od,data:=.fields f }/\f[1]?=some .none:=(I.hok a _ e).1
def Eh(K:Za)(t:TA):TE:=fun σ H Q=>t σ H fun vs H1=>∃a C od us,vs=.ref a::us/\H1 a=some (.ext (cI a C od))/\jL K C/\us.length<=ak/\Q .non H1
theorem ET{T:Addr}{x:Str}{p k i:Pos}{e:Expr}{es:List Expr}{t:TA}{pl:Sem Bool}(B:Ht X.K T)(E:Gl X x)(G:X.mg x=some (.ref T))(J:PA X (e::es) t)(l:(x==("__debug__":Str))=false:=by decide)
  (m:ay (e::es) X.env=(false,eval e X.env)::ay es X.env:=by rfl) (n:(backTo i (ay es X.env)).any (·.1)=false:=by rfl)
  (L:eval (.Call (.Attribute (.Name x p) "__init__" k) (e::es) [] i) X.env=(do
   let A <- eval (.Name x p) X.env
   nV k.atName
   let(f,first) <- jz [A] (nU A "__init__" pl)
   mT i f first (backTo i (ay (e::es) X.env)) (jX i (jW [] X.env))):=by rfl) :
  PE X (.Call (.Attribute (.Name x p) "__init__" k) (e::es) [] i) (Eh X.K t):=by
 intro J4 s σ H Q I h;refine PySem.W.methodCall_KW (pl:=pl) (ie I E G ?_ l) L;refine PySem.W.method_cls I.kIn B.ga (PySem.W.cls_value I.kIn B.rd B.fi rfl ?_);refine callWith_builtin1 (cM (J i J4 _ σ H _ (I.tok _) h) fun us M v=>?_) m n;obtain⟨vs,N,w,r,a,C,od,O,U,y,c,Y,q⟩:=v;subst U;cases r with
 |cons ra rr =>
  obtain rfl:=(show _=Value.ref a from ra);obtain⟨ws,ew,j⟩:=w.excN y;have h0:0<ws.size:=fF Nat.zero_lt_one (cy (gV.mp j).1);refine Bu w.kIn c ew (by rw[<-rr.length];exact Y) h0 fun h' kp D=>⟨.non,N,?_,rfl,q⟩;have z:=w.write (x:=a) (e:=a) (o:=.ext (cI a C od)) (h':=h') (t':=M.toks) (by rw[y];exact ft) (.inl rfl) (fun b u nb g=>kp b u nb g) ⟨_,D⟩ (jI D (by rw[Array.getElem?_setIfInBounds_ne (by decide)];exact j));rw[upd_id y]at z;exact z
def Ej(K:Za)(ta tv:TE)(f:Str):TS:=fun D σ H=>tv σ H fun y H1=>ta σ H1 fun x H2=>∃a C,x=.ref a/\jL K C/\bP K C f /\
  ((H2 a=some (.ext (cI a C none))/\∀d,H2 d=none->d≠a->D.nx σ (upd (upd H2 d (.ext (i9 d [(f,y)]))) a (.ext (cI a C (some d))))) ∨
   (∃d fs,H2 a=some (.ext (cI a C (some d)))/\H2 d=some (.ext (i9 d fs))/\fs.length<1000/\D.nx σ (upd H2 d (.ext (i9 d (cZ f y fs))))))
theorem BI{o value:Expr}{f:Str}{J A:Pos}{U Y:TE}(ha:PE X o U)(hv:PE X value Y)(hs:mz value (some (.Attribute o f A)) J.line X.env=pure false):PS X (.Assign [.Attribute o f A] value J) (Ej X.K U Y f):=by
 intro J4 s σ H D I h;refine plainObj_wpAny_Assign_Attribute (cM (hv J4 s σ H _ I h) fun u s1 ⟨y,H1,I1,ry,q⟩=>cM (ha J4 s1 σ H1 _ I1 q) fun ov j O=>?_) hs;obtain⟨x,m,p,rx,a,C,ex,c,n,L⟩:=O;subst ex;obtain rfl:ov=Value.ref a:=rx;rcases L with⟨e,L⟩|⟨d,fs,e,ed,hl,L⟩
 ·obtain⟨vs,g,g1⟩:=p.excN e;refine Cp p.kIn c g n.taker fun h' tk kp gx N=>?_;have nd:j.heap.objs.size≠a:=fE (aI g);have hn:m j.heap.objs.size=none:=p.hok.fresh (aK _);have other:∀b u,m b=some u->(∀φ,u≠.ext φ)->b≠a:=fun b u z nz i=>nz _ (by rw[i,e]at z;exact(eM z).symm);have B:∀b,b≠a->b≠j.heap.objs.size->upd (upd m j.heap.objs.size (.ext (i9 j.heap.objs.size [(f,y)]))) a (.ext (cI a C (some j.heap.objs.size))) b=m b:=fun b h1 h2=>by rw[am h1,am h2]
  have M:∀b u,m b=some u->b≠j.heap.objs.size:=fun b u z i=>by rw[i,hn]at z;cases z
  have un:Un X.fs [] m (upd (upd m j.heap.objs.size (.ext (i9 j.heap.objs.size [(f,y)]))) a (.ext (cI a C (some j.heap.objs.size)))) j.heap h':=by
   have Q:∀b,m b=none->b≠a:=fun b z i=>by rw[i,e]at z;cases z
   refine⟨fun b o z G _ _=>kp b o (Q b G) z,fun b o z G _ _=>⟨o.slots,kp b o (Q b G) z⟩,fun b o z G _=>by rw[B b (Q b G) (bM (aI z))];exact G,fun b o z _=>?_,
    fun b xs z=>by rw[B b (other b _ z (by intro φ i;cases i)) (M b _ z)];exact z,fun b ob u z=>by rw[B b (other b _ z (by intro φ i;cases i)) (M b _ z)];exact z,
    fun b ps z=>⟨#[],by rw[B b (other b _ z (by intro φ i;cases i)) (M b _ z),z];simp⟩⟩
   by_cases E:b=a
   ·rw[E];exact⟨_,gx⟩
   ·exact⟨o,kp b o E z⟩
  have ok:kg X.prog X.w X.K (upd (upd m j.heap.objs.size (.ext (i9 j.heap.objs.size [(f,y)]))) a (.ext (cI a C (some j.heap.objs.size)))) h':=fun b u z=>by
   by_cases E:b=a
   ·subst E;rw[aa]at z;cases z;exact jI gx g1
   ·by_cases hd:b=j.heap.objs.size
    ·subst hd;rw[am E,aa]at z;cases z;refine yo N fun k=>?_;show iM (fZ k [(f,y)]) _;by_cases q:k=f
     ·rw[q,if_pos rfl];simp[fZ];exact ry
     ·rw[if_neg q];have:(k==f)=false:=beq_eq_false_iff_ne.mpr q;simp only[fZ,this];exact ft
    ·rw[B b E hd]at z;refine(p.hok b u z).stay (fun l v hc t=>kp l v ?_ t) (fun l t=>by rw[B l (other l _ t (by intro φ i;cases i)) (M l _ t)];exact t) fun l xs t=>by rw[B l (other l _ t (by intro φ i;cases i)) (M l _ t)];exact t
     rcases hc with rfl|hc
     ·exact E
     ·exact other l _ hc (by intro φ i;cases i)
  exact⟨σ,_,p.un (t':=tk) un ok,L _ hn nd⟩
 ·obtain⟨vs,g,g1⟩:=p.excN e;obtain⟨mA,nA,rA⟩:=(p.hok d _ ed).1;have wi:ym mA (fs.map (·.1)):=fun k hg=>by
   have r:=rA k;cases q:fs.lookup k with
   |none=>rw[q]at r;exact absurd (iM.none_of r) hg
   |some y'=>exact aL.mpr ⟨(k,y'),pR q,rfl⟩
  refine Co p.kIn c g nA wi (by rw[ai,Be];omega) n.taker fun h' tk kp N=>?_;have T:∃o,h'.get? d=some o:=let⟨o,_,_,e',_⟩:=N;⟨o,e'⟩;refine⟨σ,_,p.write (x:=d) (e:=d) (h':=h') (t':=tk) (by rw[ed];exact ft) (.inl rfl) (fun b u nb z=>kp b u nb z) T (yo N fun k=>?_),L⟩;rw[ei];by_cases q:k=f
  ·rw[if_pos q,if_pos q];exact ry
  ·rw[if_neg q,if_neg q];exact rA k
def Ea(K:Za)(ta:TE)(f:Str):TE:=fun σ H Q=>ta σ H fun x H1=>∃a C d fs v,x=.ref a/\H1 a=some (.ext (g9 a C (some d)))/\H1 d=some (.ext (i9 d fs))/\jL K C/\bP K C f/\fs.lookup f=some v/\Q v H1
theorem BM{e:Expr}{f:Str}{j:Pos}{m:TE}(r:PE X e m)(t:sO e f X.env (eval e X.env)=eval e X.env):PE X (.Attribute e f j) (Ea X.K m f):=by
 intro J4 s σ H Q I h;refine Cc t (cM (r J4 s σ H _ I h) fun u J k=>?_);obtain⟨x,w,i,y,a,C,d,fs,v,ex,z,A,c,n,l,q⟩:=k;subst ex;obtain rfl:u=Value.ref a:=y;obtain⟨L,g,_⟩:=i.exc z;obtain⟨B,D,E⟩:=(i.hok d _ A).1;obtain⟨M,G,p⟩:=iM.some_of (v:=v) (o:=B f) (by rw[<-l];exact E f);exact xget i.kIn c g D n G (vK p) ⟨v,w,i.tok _,p,q⟩
end
section
variable{M:Model}{A:Around}{E:Zc}{s:Shared}{env:Env}{nm q:Str}{C N a:Addr}{bs bm:Zf}{hdct:Bool}{sn:Zb}{sub:Zf}{ab:Bool}{col:Option Bool}{dd od:Option Addr}{k0 k1 k2 k3 k5:Option Value}{newId:String}{vs:Array Value}
theorem Bs{x:Sem Value}{Q:Flow->Shared->Prop}(j:dZ bm)(k:A.handled=none)
  (h:wpAny M A x (fun v e=>∃a od vs,v=.ref a/\e.heap.get? C=some (ff nm q C N bs bm hdct sn sub ab col dd k0 k1 k2 k3 k5 newId)/\e.heap.get? a=some { cls:=.ref C,dict:=od,data:=.fields vs }/\vs[1]?=some .none/\E (.ref a) e) E s) :
  wpAny M A (raiseStmt env (some x) none) Q E s:=by
 have l:(Value.ref C::bm).contains (.type "BaseException")=true:=by rw[je,j.has (b:=true) (by decide +kernel)];rfl
 unfold raiseStmt;refine ah (dz h (fun v e m=>?_) fun _ _ y=>y);obtain⟨a,od,vs,rfl,f,i,n,o⟩:=m;obtain⟨p,g,d,tk,os⟩:=e
 repeat (first|with_reducible refine cO i rfl n ?_|with_reducible refine gW i ?_|with_reducible refine gW f ?_|(with_reducible refine pH f ?_;rw[l])|wp_step)
 exact wpAny_raiseNew_none k o
end
section
variable{X:Cx}{J4:Zd}{σ:St}{H:Hp}{s:Shared}{C f:Addr}{k:Nat}{fd:hV}{ps:Zb}{sp:Sp}
theorem CK{i:Zf}{n:List V}{J:Hp->Prop}(c:jL X.K C)(hi:bB X.K (.ref C) "__init__"=some (some (.ref f)))(hf:qU X.K (.ref f)=true)
  (F:iN X.prog X.w X.K X.mg X.base CX0 k f fd ps sp) (Q:dF (k+1) X.A) (T:Binds X.K fd ps []) (I:Inv X J4 σ H s) (r:bp n i) (U:i.length<=ak)
  (h:sp (.ref (s.heap.objs.size+1)::n) (upd H (s.heap.objs.size+1) (.ext (cI (s.heap.objs.size+1) C none))) (fun v m=>v=.non/\J m) E0) {E:Zc} :
  wpAny (model X.prog X.w) X.A (call (.ref C) i) (fun u L=>u=.ref (s.heap.objs.size+1)/\∃m,Inv X J4 σ m L/\J m) E s:=by
 obtain⟨nm,q,N,bs,bm,sn,sub,ab,Y,dd,k0,k1,k2,k3,k5,e,hv⟩:=c.obj;have p:=I.kIn;obtain⟨x,y,B⟩:∃x,X.K.lookup f=some x/\x.cls=.type "function":=by
  obtain⟨o,ho,e⟩:=Option.map_eq_some_iff.mp (beq_iff_eq.mp hf);exact⟨o,ho,e⟩
 obtain⟨j,g,d,t,os⟩:=s;refine HA (q:=q) (h:=j) hv (p _ _ e) (PySem.W.looks_findIn p hi) (p _ _ y) B U fun h' kp z gx=>?_;dsimp only at h I;have D:=I.laid (a:=j.objs.size+1) (o:=.ext (cI (j.objs.size+1) C none)) (h':=h') (t':=t) kp (jk _) (jI gx rfl);have M:bp (V.ref (j.objs.size+1)::n) (Value.ref (j.objs.size+1)::i):=.cons rfl r;have hl:((Value.ref (j.objs.size+1)::i)++[]).length=ps.length:=by rw[dO,<-M.length];exact F.len _ _ _ _ h
 have O:=T _ (Value.ref (j.objs.size+1)::i) D.kIn hl;rw[dO]at O;refine kW (pT (F.run _ X.stack _ _ ⟨Value.ref (j.objs.size+1)::i,[]⟩ (Value.ref (j.objs.size+1)::i) _ _ E0 (Q.make C i []) (D.env0.make C i []) O M h) fun G L l=>?_);cases G with
 |error e=>exact l.elim
 |ok fl =>
  cases fl with
  |ret u =>
   obtain⟨v,H',I3,rv,ev,q3⟩:=D.after l;subst ev;exact⟨rv,rfl,H',I3,q3⟩
  |next=>exact da l
  |brk=>exact da l
  |cont=>exact da l
end
abbrev Cx.hnd(X:Cx)(v:Value):Cx:={ X with A:=X.A.mark (some v),calm:=false,xe:=fun _ _=>False }
section
variable{X:Cx}{J4:Zd}{σ:St}{H:Hp}{s:Shared}{n:Nat}{a C:Addr}{od:Option Addr}{v:Value}
theorem Inv.hnd(I:Inv X J4 σ H s)(v:Value):Inv (X.hnd v) J4 σ H s :=
 ⟨⟨I.ok.mod,I.ok.kind,I.ok.glob,I.ok.blt,I.ok.above,I.ok.inj,I.ok.has,I.ok.cab,(fun z=>nomatch z),I.ok.frames,I.ok.stk,I.ok.exf,I.ok.bs,I.ok.bsz,I.ok.noex,I.ok.exfs,I.ok.funs,I.ok.frf⟩,I.os,I.bare,I.base,I.loc,I.cell,I.free,I.freeC,I.pin,I.hok,I.len⟩
theorem Inv.unhnd(e:Inv (X.hnd v) J4 σ H s)(ok:X.Ok):Inv X J4 σ H s:=⟨ok,e.os,e.bare,e.base,e.loc,e.cell,e.free,e.freeC,e.pin,e.hok,e.len⟩
theorem Br{M:Model}{A:Around}{Q:Unit->Shared->Prop}{E:Zc}(I:Inv X J4 σ H s)(y:o_ X J4 n)(l:lN n s.heap H a C od)(h:∀r,Inv X J4 σ H r->lN n r.heap H a C od->Q () r):
  wpAny M A (sX (.ref a) none) Q E s:=by
 obtain⟨G,T,e,z,J,w⟩:=l.tr;unfold sX;rcases J with⟨m,rfl⟩|⟨t,O,U,rfl,m,j,k,B,i,D⟩
 ·refine ah (cO e rfl m ?_);rw[if_neg (by decide)];exact aw (h s I l)
 ·refine ah (cO e rfl m ?_);rw[if_pos (show(Value.ref t != Value.none)=true from by simp)];refine iz B i (gV.mp D).1 ?_;have kp:∀b o,b≠t->s.heap.get? b=some o->(s.heap.update t (fe (·.setIfInBounds 3 ((none:Option Addr).elim Value.none fun f=>rawInt f)))).get? b=some o:=fun b o L g=>by
   rw[jg _ _ (dv L)];exact g
  have u:=(gV.mp D).1;refine h _ (I.turned (t':=s.toks) (it:=t) kp (w t rfl) (fun q=>absurd j (jd (q▸y.loc))) (.inr (bW y.s0 j)) (fun x c g q=>absurd j (jd (q▸y.cell x c g))) (fun p N q=>absurd j (jd (q▸y.pin p N))))
   ⟨l.trk,l.new,G,some t,kp a _ (dv k) e,z,.inr ⟨t,_,_,rfl,m,j,k,iD _ B (mM (gX i _)),gX i _,by simp[u]⟩,w⟩
theorem sK{M:Model}{A:Around}{E:Zc}{i:Nat}{x:Str}{t:Pos}{Q:Unit->Shared->Prop}(I:Inv X J4 σ H s)(O:X.N.Nodup)(hi:X.N[i]?=some x)(hx:X.env.scope.names.lookup x=some .local)
  (h:∀G,Inv X J4 (σ.set i none) H G->Q () G):wpAny M A (do bindName X.env x .none;unbindBehindTheSuite X.env x t) Q E s:=by
 obtain⟨m,J,T⟩:=id I.loc;have l:(X.env.scope.kind==.class || (X.env.scope.kind==.module && X.env.locals != X.env.globals))=false:=by rw[I.ok.kind];rfl
 have hiσ:i<σ.length:=by rw[I.len];exact(bG.mp hi).1
 have cne:=I.cne;refine wpAny_nameGoes_keeps hx J l fun U v u f=>?_;obtain⟨oL,_,_,Y,_⟩:=id J;have tracked:kg X.prog X.w X.K H U:=fun b ob e=>by
  refine(I.hok b ob e).stay (fun c L hc q=>(f.2 c ?_).trans q) (fun _ q=>q) fun _ _ q=>q;rintro rfl;rcases hc with rfl|hc
  ·rw[I.free]at e;cases e
  ·rw[I.free]at hc;cases hc
 refine h _ ⟨I.ok,I.os,I.bare,⟨fun b o e n B hx=>?_,fun b o e n B hx=>?_,I.base.free,fun b o e hx=>?_,I.base.tups,I.base.frzs,I.base.tbls⟩,⟨_,u,fun j y v' g r e3=>?_⟩,fun y c e=>?_,I.free,I.freeC,fun p hp=>?_,tracked,by simpa using I.len⟩
 ·exact(f.2 b (bM (fF (aI e) I.ok.above))).trans (I.base.keep b o e n B hx)
 ·obtain⟨sl,g⟩:=I.base.slot b o e n B hx;exact⟨sl,(f.2 b (bM (fF (aI e) I.ok.above))).trans g⟩
 ·obtain⟨o',g⟩:=I.base.there b o e hx;exact⟨o',(f.2 b (bM (fF (aI e) I.ok.above))).trans g⟩
 ·by_cases D:j=i
  ·subst D;rw[List.getElem?_set_self hiσ]at r;cases r
  ·rw[Bj (dv D)]at r;obtain⟨u',r',q⟩:=T j y v' g r e3;refine⟨u',r',?_⟩;rcases q with⟨k,e⟩|⟨k,c,e,z⟩
   ·refine .inl ⟨k,?_⟩;have:y≠x:=fun e=>D (uc O g (e▸hi));simp[this,e]
   ·exact .inr ⟨k,c,e,z.sameBut f (cne y c e)⟩
 ·obtain⟨L,z⟩:=I.cell y c e;exact⟨L,z.sameBut f (cne y c e)⟩
 ·obtain⟨e,n,ne,nf,d⟩:=I.pin p hp;exact⟨(f.2 p.1 ne).trans e,n,ne,nf,d⟩
def XE(X:Cx)(J4:Zd)(σ:St)(W:XK)(e:Value)(s':Shared):Prop:=∃n a C od H',e=.ref a/\o_ X J4 n/\Inv X J4 σ H' s'/\lN n s'.heap H' a C od/\W (.ref C) (some a) H'
def XS(X:Cx)(J4:Zd)(W:St->XK)(e:Value)(s':Shared):Prop:=∃n a C od σ' H',e=.ref a/\o_ X J4 n/\Inv X J4 σ' H' s'/\lN n s'.heap H' a C od/\W σ' (.ref C) (some a) H'
def Ju(X:Cx)(e:Expr)(t:XK->TE):Prop:=∀(J4:Zd) (s:Shared) (σ:St) (H:Hp) (Q:VK) (W:XK),Inv X J4 σ H s->t W σ H Q->wpAny (model X.prog X.w) X.A (eval e X.env) (EP X J4 σ Q) (XE X J4 σ W) s
def PH(X:Cx)(hs:List wc)(t:eR->St->XK):Prop:=∀(J4:Zd) (n:Nat) (s:Shared) (σ:St) (H:Hp) (D:eR) (a C:Addr) (od:Option Addr),Inv X J4 σ H s->o_ X J4 n->lN n s.heap H a C od->t D σ (.ref C) (some a) H ->
 wpAny (model X.prog X.w) X.A (handleBy (.ref a) X.env hs) (SP X J4 D) X.xe s
def IB(tb:(St->XK)->TS)(th:eR->St->XK):TS:=fun D σ H=>tb (th D) D σ H
def G6(te:XK->TE)(i:Nat):(St->XK)->TS:=fun W D σ H=>te (W σ) σ H fun v H1=>D.nx (σ.set i (some v)) H1
def wS(te:XK->TE):(St->XK)->TS:=fun W D σ H=>te (W σ) σ H fun _ H1=>D.nx σ H1
def CG(tc:TT)(ta tb:(St->XK)->TS):(St->XK)->TS:=fun W=>df tc (ta W) (tb W)
def p_(t:TS):(St->XK)->TS:=fun _=>t
def Ik(X:Cx)(b:Stmt)(t:(St->XK)->TS):Prop:=∀(J4:Zd) (s:Shared) (σ:St) (H:Hp) (D:eR) (W:St->XK),Inv X J4 σ H s->t W D σ H->wpAny (model X.prog X.w) X.A (exec b X.env) (SP X J4 D) (XS X J4 W) s
theorem XE.xs{e:Value}{W:St->XK}(h:XE X J4 σ (W σ) e s):XS X J4 W e s:=let⟨n,a,C,od,f,g,y,I,i,q⟩:=h;⟨n,a,C,od,σ,f,g,y,I,i,q⟩
theorem HI{e:Expr}{j:XK->TE}{x:Str}{i:Nat}{k f:Pos}(l:X.N.Nodup)(hi:X.N[i]?=some x)(hx:Loc X.env.scope x)(m:Ju X e j)
  (o:mz e (some (.Name x k)) f.line X.env=pure false:=by rfl) (hf:X.fn x=true∨X.env.scope.names.lookup x=some .local:=by first|exact .inl rfl|exact .inr rfl|assumption) :
  Ik X (.Assign [.Name x k] e f) (G6 j i):=by
 intro J4 s σ H D W I h;refine wpAny_Assign_Name (dz (m J4 s σ H _ (W σ) I h) (fun v w g=>?_) fun _ _ z=>z.xs) o;obtain⟨y,p,q,r,t⟩:=g;exact oj q l hi hx r (fun A u=>⟨_,p,u,t⟩) hf
theorem xa{e:Expr}{g:XK->TE}{f:Pos}(i:Ju X e g)(j:mz e none f.line X.env=pure false:=by rfl):Ik X (.Expr e f) (wS g):=by
 intro J4 s σ H D W I h;exact wpAny_Expr_any (dz (i J4 s σ H _ (W σ) I h) (fun v o ⟨x,k,l,p,m⟩=>⟨σ,k,l,m⟩) fun _ _ z=>z.xs) I.quiet j
section
variable{f:Addr}{k:Nat}{fd:hV}{ps:Zb}{sp:Sp}{x:Str}{p pos:Pos}{e:Expr}{es:List Expr}{t:TA}
theorem XE.of{W:XK}{j:Value}{l:Hp}{m o:Shared}(r:Inv X J4 σ l m)(h:Hz X.prog X.w X.K X.stack l m W j o):XE X J4 σ W j o:=by
 obtain⟨a,C,od,u,y,os,g,un,i,A,q⟩:=h;exact⟨_,a,C,od,u,y,r.young,r.call' (ch:=[]) os un i g (fun b z=>absurd z (by simp)),A,q⟩
theorem EO(F:iN X.prog X.w X.K X.mg X.base (Hz X.prog X.w X.K) k f fd ps sp)(E:dF k X.A)(G:Gl X x)(J:X.mg x=some (.ref f))(L:ee X.K (.ref f)=true)(M:Binds X.K fd ps [])
  (N:PA X.nox (e::es) t) (m:(x==("__debug__":Str))=false:=by decide) (O:ay (e::es) X.env=(false,eval e X.env)::ay es X.env:=by rfl) (o:(backTo pos (ay es X.env)).any (·.1)=false:=by rfl) :
  Ju X (.Call (.Name x p) (e::es) [] pos) (fun W=>q_ sp [] W t):=by
 intro J4 s σ H Q W I h;refine mU (ie I G J ?_ m);refine pS (h₀:=X.base) I.ok.mod.kin L (dz (N pos J4 s σ H _ (I.wish _) h) (fun j B ⟨T,U,g,r,q⟩=>⟨g.kIn,?_⟩) fun _ _ z=>da z) O o;have l:=g.unwish;dsimp only at q;rw[dO]at q;have Y:(j++[]).length=ps.length:=by rw[dO,<-r.length];exact F.len _ _ _ _ q
 have D:=M B j l.kIn Y;rw[dO]at D;refine kW (pT (F.run X.A X.stack B U ⟨j,[]⟩ j T Q W E l.env0 D r q) fun y s' i=>?_);cases y with
 |error ev=>exact XE.of l i
 |ok fl =>
  cases fl with
  |ret u=>exact l.after i
  |next=>exact da i
  |brk=>exact da i
  |cont=>exact da i
end
section
variable{cn nme:Str}{Dc:Addr}{np hpos:Pos}{b0:Stmt}{suite:List Stmt}{rest:List wc}{th:TS}{tr:eR->St->XK}{i:Nat}
def IE(K:Za)(Dc:Addr)(i:Nat)(th:TS)(tr:eR->St->XK):eR->St->XK:=fun D σ cls oa H=>∃C a b,cls=.ref C/\oa=some a/\pG K (.ref C) (.ref Dc)=some b /\
 if b=true then th { nx:=fun σ' H'=>D.nx (σ'.set i none) H',rt:=D.rt,bk:=fun σ' H'=>D.bk (σ'.set i none) H',ct:=fun σ' H'=>D.ct (σ'.set i none) H' } (σ.set i (some (.ref a))) H else tr D σ cls oa H
def IC:eR->St->XK:=fun _ _ _ _ _=>False
theorem HL:PH X [] IC:=fun _ _ _ _ _ _ _ _ _ _ _ _ h=>h.elim
theorem IK(l:X.N.Nodup)(hi:X.N[i]?=some nme)(hx:X.env.scope.names.lookup nme=some .local)(A:Gl X cn)(B:X.mg cn=some (.ref Dc))(o:∀a:Addr,vW (X.hnd (.ref a)) (b0::suite) th)(p:PH X rest tr)
  (r:(cn==("__debug__":Str))=false:=by decide):PH X (.ExceptHandler (some (.Name cn np)) (some nme) (b0::suite) hpos::rest) (IE X.K Dc i th tr):=by
 intro J4 n s σ H D a C od I y t ⟨U,Y,b,E,G,ex,h⟩;cases E;cases G;obtain⟨vs,g,_⟩:=I.exc t.trk;refine wpAny_handleBy_cons (codeAny_handlers_test ?_) (by intro q;cases q);refine ie (X:=X.hnd (.ref a)) (I.hnd (.ref a)) A B ?_ r;refine(PySem.W.exm_one (M:=model X.prog X.w) I.kIn (DN g) ex).here ?_;cases b with
 |false=>exact p J4 n s σ H D a C od I y t h
 |true =>
  refine codeAny_handlers_suite_as (Br I y t fun s1 J L=>?_);refine oj (X:=X) J l hi (.inl hx) (v:=.ref a) (u:=.ref a) rfl (fun O Q=>?_) (.inr hx);refine dz (o a J4 O _ H _ (Q.hnd (.ref a)) h) (fun f s3 m=>?_) fun _ _ z=>da z;cases f with
  |next=>obtain⟨σ',e,j,q⟩:=m;exact sK (j.unhnd I.ok) l hi hx fun x k=>⟨_,e,k,q⟩
  |brk=>obtain⟨σ',e,j,q⟩:=m;exact sK (j.unhnd I.ok) l hi hx fun x k=>⟨_,e,k,q⟩
  |cont=>obtain⟨σ',e,j,q⟩:=m;exact sK (j.unhnd I.ok) l hi hx fun x k=>⟨_,e,k,q⟩
  |ret u=>obtain⟨v,σ',e,j,T,q⟩:=m;exact sK (j.unhnd I.ok) l hi hx fun x k=>⟨v,_,e,k,T,q⟩
def ID(K:Za)(Dc:Addr)(th:TS)(tr:eR->St->XK):eR->St->XK:=fun D σ cls oa H=>∃C b,cls=.ref C/\pG K (.ref C) (.ref Dc)=some b/\if b=true then th D σ H else tr D σ cls oa H
theorem IJ(r:Gl X cn)(t:X.mg cn=some (.ref Dc))(l:∀a:Addr,vW (X.hnd (.ref a)) (b0::suite) th)(m:PH X rest tr)
  (o:(cn==("__debug__":Str))=false:=by decide):PH X (.ExceptHandler (some (.Name cn np)) none (b0::suite) hpos::rest) (ID X.K Dc th tr):=by
 intro J4 n s σ H D a C od I y p ⟨J,b,x,ex,h⟩;cases x;obtain⟨L,g,_⟩:=I.exc p.trk;refine wpAny_handleBy_cons (codeAny_handlers_test ?_) (by intro q;cases q);refine ie (X:=X.hnd (.ref a)) (I.hnd (.ref a)) r t ?_ o;refine(PySem.W.exm_one (M:=model X.prog X.w) I.kIn (DN g) ex).here ?_;cases b with
 |false=>exact m J4 n s σ H D a C od I y p h
 |true =>
  refine codeAny_handlers_suite (Br I y p fun A B E=>?_);refine dz (l a J4 A _ H _ (B.hnd (.ref a)) h) (fun f N k=>?_) fun _ _ z=>da z;cases f with
  |next=>obtain⟨σ',e,j,q⟩:=k;exact⟨σ',e,j.unhnd I.ok,q⟩
  |brk=>obtain⟨σ',e,j,q⟩:=k;exact⟨σ',e,j.unhnd I.ok,q⟩
  |cont=>obtain⟨σ',e,j,q⟩:=k;exact⟨σ',e,j.unhnd I.ok,q⟩
  |ret u=>obtain⟨v,σ',e,j,G,q⟩:=k;exact⟨v,σ',e,j.unhnd I.ok,G,q⟩
end
end
structure FK(P:bq)(w:World)(K:Za)(mg:Str->Option Value)(base:Heap)(x:Str)(ps:Zb)(k:Nat)(sp:Sp):Prop where
 ex:∃f fd,iN P w K mg base (Hz P w K) k f fd ps sp/\mg x=some (.ref f)/\ee K (.ref f)=true/\Binds K fd ps []
structure Ie(P:bq)(w:World)(K:Za)(mg:Str->Option Value)(base:Heap)(x:Str)(C:Addr)(ps:Zb)(k:Nat)(sp:Sp):Prop where
 ex:∃f fd,iN P w K mg base CX0 k f fd ps sp/\mg x=some (.ref C)/\jL K C/\bB K (.ref C) "__init__"=some (some (.ref f))/\qU K (.ref f)=true/\ee K (.ref C)=true/\Binds K fd ps []
section
variable{X:Cx}{k:Nat}{ps:Zb}{sp:Sp}{E:XK}{x:Str}{C:Addr}{p pos np J5:Pos}{e:Expr}{es:List Expr}{t:TA}{st:Stmt}{ts:TS}
theorem xh(D:FK X.prog X.w X.K X.mg X.base x ps k sp)(h:dF k X.A)(i:Gl X x)(j:PA X.nox (e::es) t)(a:(x==("__debug__":Str))=false:=by decide)
  (l:ay (e::es) X.env=(false,eval e X.env)::ay es X.env:=by rfl) (g:(backTo pos (ay es X.env)).any (·.1)=false:=by rfl) :
  Ju X (.Call (.Name x p) (e::es) [] pos) (fun W=>q_ sp [] W t):=by
 obtain⟨f,q,F,m,n,o⟩:=D.ex;exact EO F h i m n o j a l g
end
section
variable{P:bq}{w:World}{K:Za}{mg:Str->Option Value}{base:Heap}
theorem Hy.okX{x a:Str}{st:Stmt}{f:Addr}{n:hV}{N i:Zb}{k:Nat}{j:Sp}(F:Hy K x a st f n)(S:gG N i (bz st))(len:∀g H Q E,j g H Q E->g.length=i.length)
  (h:∀(e:Value) (A:Around) (outer:List Env) (s:Shared) (H:Hp) (g:List V) (Q:VK) (E:XK),dF k (A.deeper (envOfC a (bz st) s.heap.objs.size f e))->j g H Q E ->
   ∃t,vW (u_ (Hz P w K) P w K mg base N a (bz st) f e A outer s H E) (eZ st) t/\t (bQ Q) (start N g) H):iN P w K mg base (Hz P w K) (k+1) f n i j:=by
 obtain⟨q,r,kV,doc,u,v,e,y,o,rfl,lk,l⟩:=F.ex;refine Hi lk l S len fun A outer s H g Q E p m=>?_;exact h e A outer s H g Q E p m
end
end L2
namespace L2
open PySem PySem.W
theorem H_{K:Frag}{C D:Addr}{b:Bool}(e:subIn K (.ref D) (.type "BaseException")=some true)(f:isClsIn K D=true)(g:typeIn K (.ref D)=some (.type "type"))(h:subIn K (.ref C) (.ref D)=some b):exmOne K (.ref C) (.ref D)=some b:=by
 have a:(clsIn K D).isSome=true:=f;unfold exmOne;rw[e,if_pos (by decide)];show(if((clsIn K D).isSome && typeIn K (.ref D)==some (.type "type"))=true then subIn K (.ref C) (.ref D)else none)=some b
 rw[if_pos (by rw[a,g];decide)];exact h
theorem vv{K:Za}{H:Hp}:∀xs:List Str,TKCs K H (xs.map fun x=>TK.k (some (.inr x))) (xs.map V.str)
 |[]=>by show TKCs K H [] [];unfold TKCs;rfl
 |x::xs=>by
  rw[cg,cg];unfold TKCs;refine⟨_,_,rfl,?_,vv xs⟩;unfold rK
  rfl
theorem D0{K:Za}{H:Hp}{a:Addr}{xs:Zb}(h:eF K H a (xs.map V.str)):rK K H (.t (xs.map fun x=>TK.k (some (.inr x)))) (.ref a):=by
 unfold rK;exact⟨a,_,rfl,h,vv xs⟩
section
variable{X:Cx}{J4:Zd}{σ:St}{H:Hp}{s:Shared}{k:Nat}{f C:Addr}{fd:hV}{ps:Zb}{sp:Sp}
def sk(C:Addr)(sp:Sp)(t:TA):(St->XK)->TS:=fun W _ σ H=>t σ H fun vs H1=>vs.length<=ak/\∀a,H1 a=none ->
 sp (.ref a::vs) (upd H1 a (.ext (cI a C none))) (fun v H2=>v=.non/\∃od,H2 a=some (.ext (cI a C od))/\W σ (.ref C) (some a) (upd H2 a (.ext (g9 a C od)))) E0
theorem EI{x:Str}{np p B:Pos}{e:Expr}{es:List Expr}{t:TA}(c:jL X.K C)(hi:bB X.K (.ref C) "__init__"=some (some (.ref f)))(hf:qU X.K (.ref f)=true)(kp:ee X.K (.ref C)=true)
  (F:iN X.prog X.w X.K X.mg X.base CX0 k f fd ps sp) (hr:dF (k+1) X.A) (hb:Binds X.K fd ps []) (hc:X.calm=true) (hg:Gl X x) (hm:X.mg x=some (.ref C)) (ha:PA X.nox (e::es) t) (G:(x==("__debug__":Str))=false:=by decide)
  (he:ay (e::es) X.env=(false,eval e X.env)::ay es X.env:=by rfl) (J:(backTo p (ay es X.env)).any (·.1)=false:=by rfl) :
  Ik X (.Raise (some (.Call (.Name x np) (e::es) [] p)) none B) (sk C sp t):=by
 intro J4 s σ H D W I h;obtain⟨nm,q,N,bs,bm,sn,sub,Y,col,dd,k0,k1,k2,k3,k5,eC,hv⟩:=c.obj;rw[arm_exec_Raise];simp only[evalOpt,Option.map];refine ah (sP (Bs (C:=C) (nm:=nm) (q:=q) (N:=N) (bs:=bs) (bm:=bm) (hdct:=true) (sn:=sn) (sub:=sub) (ab:=Y) (col:=col) (dd:=dd) (k0:=k0) (k1:=k1) (k2:=k2) (k3:=k3) (k5:=k5) (newId:="ValueError.__new__") hv (I.ok.hd hc) ?_));refine ah (dz (Q:=fun v i=>∃a l L,v=.ref a/\i.heap.get? C=some (ff nm q C N bs bm true sn sub Y col dd k0 k1 k2 k3 k5 "ValueError.__new__")/\i.heap.get? a=some { cls:=.ref C,dict:=l,data:=.fields L }/\L[1]?=some .none/\XS X J4 W (.ref a) i) ?_ (fun v s3 h3=>ah (sP (aw h3))) fun _ _ y=>y);refine mU (ie I hg hm ?_ G);refine pS (h₀:=X.base) I.ok.mod.kin kp (dz (ha p J4 s σ H _ (I.wish _) h) (fun us i ⟨L,H1,m,r,hz,q1⟩=>⟨m.kIn,?_⟩) fun _ _ z=>da z) he J;have M:=m.unwish;refine dz (CK (E:=XS X J4 W) c hi hf F hr hb M r (by rw[<-r.length];exact hz) (q1 (i.heap.objs.size+1) (M.hok.fresh (jk _)))) (fun u s2 O=>?_) fun _ _ z=>z;obtain⟨eu,H2,T,l,e2,q2⟩:=O;obtain⟨U,n,j⟩:=T.excN e2;refine⟨i.heap.objs.size+1,l,U,eu,T.kIn _ _ eC,n,j,?_⟩;have w1:1<U.size:=(gV.mp j).1;have I3:=T.write (x:=i.heap.objs.size+1) (e:=i.heap.objs.size+1) (o:=.ext (g9 (i.heap.objs.size+1) C l)) (h':=s2.heap) (t':=s2.toks) (by rw[e2];exact ft) (.inl rfl) (fun b u _ g=>g) ⟨_,n⟩ (qF n w1);exact⟨i.heap.objs.size,_,C,l,σ,_,rfl,M.young,I3,⟨aa,jk _,U,none,n,w1,.inl ⟨j,rfl⟩,fun t z=>by cases z⟩,q2⟩
theorem C2{x:Str}{j i a:Pos}{e:Expr}{es:List Expr}{t:TA}(D:Ie X.prog X.w X.K X.mg X.base x C ps k sp)(l:dF (k+1) X.A)(m:X.calm=true)(n:Gl X x)(o:PA X.nox (e::es) t)(g:(x==("__debug__":Str))=false:=by decide)
  (p:ay (e::es) X.env=(false,eval e X.env)::ay es X.env:=by rfl) (h:(backTo i (ay es X.env)).any (·.1)=false:=by rfl) :
  Ik X (.Raise (some (.Call (.Name x j) (e::es) [] i)) none a) (sk C sp t):=by
 obtain⟨f,fd,F,q,c,hi,hf,kp,r⟩:=D.ex;exact EI c hi hf kp F l r m n q o g p h
end
section
variable{prog:bq}{w:World}{A:Around}{E:Zc}{h:Heap}{g:Array Bk}{d:Drawn}{t:Nat}{os:OsState}
variable{nm q:Str}{C N:Addr}{bs bm:Zf}{hdct:Bool}{sn:Zb}{sub:Zf}{ab:Bool}{col:Option Bool}{dd:Option Addr}{k0 k1 k2 k3 k5:Option Value}
theorem DO(j:dZ bm){a:Zf}{Q:Fin->Shared->Prop}(f:h.get? C=some (ff nm q C N bs bm hdct sn sub ab col dd k0 k1 k2 k3 k5 "ValueError.__new__"))
  (hi:sY (model prog w) h (jU (.ref C) "__init__") (some (.builtin "ValueError.__init__"))) (m:a.length<=ak)
  (n:∀i,(∀b o,h.get? b=some o->i.get? b=some o)->i.objs.size=h.objs.size+2->i.get? (h.objs.size+1)=some { cls:=.ref C,data:=.fields #[.ref h.objs.size,.none,.none,.none,.bool false,.none] } ->
   wpAny (model prog w) A (call (.builtin "ValueError.__init__") (.ref (h.objs.size+1)::a)) (fun r k=>r=.none/\Q (.done (.ret (.ref (h.objs.size+1)))) k) E ⟨i,g,d,t,os⟩) :
  wpAny (model prog w) A (bX.«type.__call__» ⟨.ref C::a,[]⟩) Q E ⟨h,g,d,t,os⟩:=by
 repeat (first|with_reducible refine gW f ?_|with_reducible refine wpAny_madeBy_exc f ?_|wp_step)
 refine codeAny_call_builtin_code (we _ PySem.F.excBase_ValueError.quiet) (Bt j f (G4 j f m ?_));show wpAny _ _ _ _ _ _;have kp:∀b o,h.get? b=some o->((h.push { cls:=.type "tuple",data:=.seq a.toArray }).push { cls:=.ref C,data:=.fields #[.ref h.objs.size,.none,.none,.none,.bool false,.none] }).get? b=some o :=
  fun b o e=>aS _ (aS _ e)
 have p:=kp _ _ f;have l:((h.push { cls:=.type "tuple",data:=.seq a.toArray }).push { cls:=.ref C,data:=.fields #[.ref h.objs.size,.none,.none,.none,.bool false,.none] }).get? (h.objs.size+1)
  =some { cls:=.ref C,data:=.fields #[.ref h.objs.size,.none,.none,.none,.bool false,.none] }:=by heap_get
 have s:(Value.ref C::bm).contains (.ref C)=true:=by simp
 unfold vj
 repeat (first|with_reducible refine gW l ?_|(with_reducible refine pH p ?_;rw[s])|wp_step)
 show wpAny _ _ (jU (.ref C) _) _ _ _;refine hi _ _ _ _ kp ?_;refine iy (ah ?_);rw[PySem.F.excBase_ValueError.init.bind];refine aw (ah (dz (n _ kp (by rw[iU,iU]) l) (fun r k u=>?_) fun _ _ x=>x));obtain⟨rfl,v⟩:=u
 wp_walk
 exact v
theorem FR(i:dZ bm){e:Zf}{Q:Zc}(f:h.get? C=some (ff nm q C N bs bm hdct sn sub ab col dd k0 k1 k2 k3 k5 "ValueError.__new__"))
  (hi:sY (model prog w) h (jU (.ref C) "__init__") (some (.builtin "ValueError.__init__"))) (j:e.length<=ak)
  (k:∀a,(∀b o,h.get? b=some o->a.get? b=some o)->a.objs.size=h.objs.size+2->a.get? (h.objs.size+1)=some { cls:=.ref C,data:=.fields #[.ref h.objs.size,.none,.none,.none,.bool false,.none] } ->
   wpAny (model prog w) (A.under (.builtin "type.__call__" ⟨.ref C::e,[]⟩)) (call (.builtin "ValueError.__init__") (.ref (h.objs.size+1)::e)) (fun r l=>r=.none/\Q (.ref (h.objs.size+1)) l) E ⟨a,g,d,t,os⟩) :
  wpAny (model prog w) A (call (.ref C) e) Q E ⟨h,g,d,t,os⟩:=by
 have m:=tc_lookup;have n:=tc_bind (.ref C);have p:(⟨h,g,d,t,os⟩:Shared).TypeIs (.ref C) "type":=⟨_,f,rfl⟩;refine kW (codeAny_of_tree ?_);show wpAny _ _ (callAny (.ref C) _) _ _ _
 repeat (any_goals (first|assumption|with_reducible refine gW f ?_|wp_step))
 exact⟨rfl,codeAny_call_builtin_at (we _ (by decide +kernel)) entry_typeCall (wpAny_check_type_call_sub f (DO i f hi j fun a a1 a2 a3=>k a a1 a2 a3))⟩
end
section
variable{X:Cx}{J4:Zd}{σ:St}{H:Hp}{s:Shared}{C:Addr}
theorem Ak{us:Zf}(c:jL X.K C)(hi:bB X.K (.ref C) "__init__"=some (some (.builtin "ValueError.__init__")))(I:Inv X J4 σ H s)(i:us.length<=ak){E:Zc}:
  wpAny (model X.prog X.w) X.A (call (.ref C) us) (fun u p=>u=.ref (s.heap.objs.size+1)/\Inv X J4 σ (upd H (s.heap.objs.size+1) (.ext (cI (s.heap.objs.size+1) C none))) p) E s:=by
 obtain⟨G,q,N,bs,J,L,sub,M,r,O,Q,T,U,Y,k5,e,v⟩:=c.obj;have j:=I.kIn;obtain⟨f,g,d,t,os⟩:=s;refine FR (q:=q) (h:=f) v (j _ _ e) (PySem.W.looks_findIn j hi) i fun h' kp z k=>?_;have l:=I.laid (a:=f.objs.size+1) (o:=.ext (cI (f.objs.size+1) C none)) (h':=h') (t':=t) kp (jk _) (jI k rfl);refine Bu (s:=⟨h',g,d,t,os⟩) (od:=none) l.kIn c k i (Nat.succ_pos 5) fun y B m=>⟨rfl,rfl,?_⟩;have n:=l.write (x:=f.objs.size+1) (e:=f.objs.size+1) (o:=.ext (cI (f.objs.size+1) C none)) (h':=y) (t':=t) (by rw[aa];exact ft) (.inl rfl) (fun b u D q=>B b u D q) ⟨_,m⟩ (jI m (by rfl));rw[lU]at n;exact n
def jA(C:Addr)(t:TA):(St->XK)->TS:=fun W _ σ H=>t σ H fun vs H1=>vs.length<=ak/\∀a,H1 a=none->W σ (.ref C) (some a) (upd H1 a (.ext (g9 a C none)))
theorem l9{x:Str}{np l m:Pos}{e:Expr}{es:List Expr}{t:TA}(c:jL X.K C)(hi:bB X.K (.ref C) "__init__"=some (some (.builtin "ValueError.__init__")))(kp:ee X.K (.ref C)=true)
  (hc:X.calm=true) (hg:Gl X x) (hm:X.mg x=some (.ref C)) (ha:PA X.nox (e::es) t) (n:(x==("__debug__":Str))=false:=by decide)
  (he:ay (e::es) X.env=(false,eval e X.env)::ay es X.env:=by rfl) (p:(backTo l (ay es X.env)).any (·.1)=false:=by rfl) :
  Ik X (.Raise (some (.Call (.Name x np) (e::es) [] l)) none m) (jA C t):=by
 intro J4 s σ H D W I h;obtain⟨nm,q,N,bs,bm,sn,sub,L,col,M,O,T,U,Y,k5,eC,hv⟩:=c.obj;rw[arm_exec_Raise];simp only[evalOpt,Option.map];refine ah (sP (Bs (C:=C) (nm:=nm) (q:=q) (N:=N) (bs:=bs) (bm:=bm) (hdct:=true) (sn:=sn) (sub:=sub) (ab:=L) (col:=col) (dd:=M) (k0:=O) (k1:=T) (k2:=U) (k3:=Y) (k5:=k5) (newId:="ValueError.__new__") hv (I.ok.hd hc) ?_));refine ah (dz (Q:=fun v f=>∃a od w,v=.ref a/\f.heap.get? C=some (ff nm q C N bs bm true sn sub L col M O T U Y k5 "ValueError.__new__")/\f.heap.get? a=some { cls:=.ref C,dict:=od,data:=.fields w }/\w[1]?=some .none/\XS X J4 W (.ref a) f) ?_ (fun v s3 h3=>ah (sP (aw h3))) fun _ _ y=>y);refine mU (ie I hg hm ?_ n);refine pS (h₀:=X.base) I.ok.mod.kin kp (dz (ha l J4 s σ H _ (I.wish _) h) (fun us f ⟨w,H1,j,r,hz,q1⟩=>⟨j.kIn,?_⟩) fun _ _ z=>da z) he p;have A:=j.unwish;refine dz (Ak (us:=us) (E:=XS X J4 W) c hi A (by rw[<-r.length];exact hz)) (fun u s2 B=>?_) fun _ _ z=>z;obtain⟨eu,G⟩:=B;have q2:=q1 (f.heap.objs.size+1) (A.hok.fresh (jk _));have e2:upd H1 (f.heap.objs.size+1) (.ext (cI (f.heap.objs.size+1) C none)) (f.heap.objs.size+1)=some (.ext (cI (f.heap.objs.size+1) C none)):=aa;obtain⟨J,k,i⟩:=G.excN e2;refine⟨f.heap.objs.size+1,none,J,eu,G.kIn _ _ eC,k,i,?_⟩;have w1:1<J.size:=(gV.mp i).1;have I3:=G.write (x:=f.heap.objs.size+1) (e:=f.heap.objs.size+1) (o:=.ext (g9 (f.heap.objs.size+1) C none)) (h':=s2.heap) (t':=s2.toks) (by rw[e2];exact ft) (.inl rfl) (fun b u _ g=>g) ⟨_,k⟩ (qF k w1);rw[lU]at I3;exact⟨f.heap.objs.size,_,C,none,σ,_,rfl,A.young,I3,⟨aa,jk _,J,none,k,w1,.inl ⟨i,rfl⟩,fun t z=>by cases z⟩,q2⟩
end
section
variable{X:Cx}
def kB(t u:(St->XK)->TS):(St->XK)->TS:=fun W=>ax (t W) (u W)
end
end L2
end

section
set_option Elab.async false
set_option linter.all false
set_option maxRecDepth 100000
namespace L2
open PySem PySem.Spec PyProof.Rows PySem.W
structure XO(K:Frag)(C:Addr)(bm:Zf):Prop where
 ex:∃nm q N bs sn sub ab col dd k0 k1 k2 k3 k5,K.lookup C=some (ff nm q C N bs bm true sn sub ab col dd k0 k1 k2 k3 k5 "ValueError.__new__")
structure XG(K:Frag):Prop where
 hn:specialIn K (.builtin "object.__class__") "__get__"=some (some (.builtin "getset_descriptor.__get__"))
 htk:takesIn K (.builtin "object.__class__")=some true
structure XX(K:Frag)(mg:Str->Option Value)(x:Str)(C Ct:Addr):Prop where
 g:mg x=some (.ref C)
 o:XO K C (.ref Ct::jm)
 sa:findIn K (.ref C) "__setattr__"=some (some (.builtin "object.__setattr__"))
 ga:findIn K (.ref C) "__getattribute__"=some (some (.builtin "BaseException.__getattribute__"))
 gx:findIn K (.ref C) "__getattr__"=some none
 kp:keepIn K (.ref C)=true
 cl:findIn K (.ref C) "__class__"=some (some (.builtin "object.__class__"))
section
variable{K:Frag}{mg:Str->Option Value}{x y:Str}{C D Ct:Addr}{bm:Zf}
theorem XO.cls(h:XO K C bm):∃cd,clsIn K C=some cd/\cd.mro=.ref C::bm:=by
 obtain⟨f,q,N,bs,g,sub,i,a,j,k,l,m,n,o,e⟩:=h.ex;exact⟨_,by unfold clsIn;rw[e],rfl⟩
theorem XO.ty(h:XO K C bm):typeIn K (.ref C)=some (.type "type"):=by
 obtain⟨f,q,N,bs,g,sub,i,a,j,k,l,m,n,o,e⟩:=h.ex;show(K.lookup C).map (·.cls)=_;rw[e];rfl
theorem XO.sub(h:XO K C bm)(v:Value):subIn K (.ref C) v=some ((Value.ref C::bm).contains v):=by
 obtain⟨cd,e,m⟩:=h.cls;unfold subIn mroIn;dsimp only;rw[e];show(if cd.mro.isEmpty then none else some (cd.mro.contains v))=_
 rw[m];rfl
theorem XO.kitC(h:XO K C bm){a:Zf}(g:XO K D a):kitCls K (.ref C) (.ref D)=some ((Value.ref C::bm).contains (.ref D)):=by
 obtain⟨cd,e,m⟩:=g.cls;unfold kitCls;dsimp only;rw[e,g.ty,if_pos (show((some cd).isSome && some (Value.type "type")==some (Value.type "type"))=true by show(some (Value.type "type")==some (Value.type "type"))=true;decide)];exact h.sub _
theorem BE(a b:Addr):((Value.ref a)==(Value.ref b))=decide (b=a):=by
 by_cases e:b=a
 ·subst e;simp
 ·rw[zzr0 e];exact beq_false_of_ne fun z=>e (by injection z with z;exact z.symm)
theorem HB(a:Addr):jm.contains (Value.ref a)=false:=rfl
theorem XX.cls(h:XX K mg x C Ct):jL K C:=by
 obtain⟨f,q,N,bs,g,sub,i,a,j,k,l,m,n,p,e⟩:=h.o.ex;exact⟨⟨f,q,N,bs,_,g,sub,i,a,j,k,l,m,n,p,e,.own .base⟩,h.sa,h.ga,h.gx⟩
theorem XO.exm(h:XO K C bm){a:Zf}(g:XO K D a)(b:a.contains (.type "BaseException")=true):exmOne K (.ref C) (.ref D)=some ((Value.ref C::bm).contains (.ref D)):=by
 unfold exmOne;rw[g.sub,je,b,if_pos (by simp)];exact h.kitC g
theorem XX.exm(h:XX K mg x C Ct)(g:XX K mg y D Ct)(a:D≠Ct):exmOne K (.ref C) (.ref D)=some (decide (D=C)):=by
 have f:((Value.ref D)==(Value.ref Ct))=false:=by rw[BE];exact zzr0 fun z=>a z.symm
 rw[h.o.exm g.o rfl,je,je,HB,f,BE];by_cases e:C=D
 ·subst e;simp
 ·rw[zzr0 e,zzr0 fun z=>e z.symm];rfl
end
theorem l_{X:Cx}{b:Stmt}{t:TS}(h:PS X.nox b t):Ik X b (p_ t):=fun a s σ H D W I q=>dz (h a s σ H D (I.wish _) q) (fun _ _ z=>z.unwish) fun _ _ z=>da z
structure A7(n:Nat)(h:Heap)(H:Hp)(a C:Addr)(od:Option Addr)(L:Addr):Prop where
 trk:H a=some (.ext (g9 a C od))
 new:n<=a
 tr:∃vs t oT ts,h.get? a=some { cls:=.ref C,dict:=od,data:=.fields vs }/\vs[1]?=some (.ref t)/\n<=t/\t≠a/\h.get? t=some oT/\oT.data=.fields ts/\ts[3]?=some (rawInt L)/\H t=none
section
variable{M:Model}{A:Around}{E:Zc}{s:Shared}{base:Heap}{env:Env}{outer:List Env}{L e:Addr}{oe:Obj}{vs:Array Value}{Q:Unit->Shared->Prop}
theorem Bq{f:Value}{g:Bool}(v:A.frames=some (env::outer))(y:s.heap.FunFrames base (env::outer))(hf:env.frame=some L)
  (B:s.heap.get? e=some oe) (t:oe.data=.fields vs) (n:1<vs.size)
  (h:∀u p C D,Iq (uN (env::outer)) e none s.heap u->u.get? e=some { oe with data:=.fields p }->p[1]?=some (.ref s.heap.objs.size) ->
   u.get? s.heap.objs.size=some C->C.data=.fields D->D[3]?=some (rawInt L)->Q () { s with heap:=u }) :
  wpAny M A (do let U <- frameOf env;let l <- entryPlaceOf L g;let Y <- EntryCells.newEntry f U .none (rawInt L) .none l;sW (.ref e) 1 Y) Q E s:=by
 have w:e∉uN (env::outer):=fun z=>by
  obtain⟨_,o,m,q2⟩:=y.mem z;rw[B]at m;cases m;exact q2 vs t
 refine ah (wpAny_frameOf_fun v y hf fun a r=>ah (wpAny_entryPlaceOf fun l x=>?_));unfold EntryCells.newEntry newFields;refine ah (iA ?_ (x.sizeOk5 _ _ _ _ _));generalize G:({ cls:=.type "traceback",dict:=none,data:=.fields ([f,.ref L,.none,rawInt L,.none]++(if l.isEmpty then jV 6 Value.none else l)).toArray }:Obj)=i
 have dN:i.data=.fields ([f,.ref L,.none,rawInt L,.none]++(if l.isEmpty then jV 6 Value.none else l)).toArray:=by rw[<-G]
 have fN:i.isFreed=false:=by rw[<-G];rfl
 have H:a.get? e=some oe:=(r.2.1 e w).trans B;have I:=aS (h:=a) i H;have J:a.objs.size=s.heap.objs.size:=r.1;refine iz I t n ?_;have ne:a.objs.size≠e:=fE (aI H);have d3:=gX t (·.setIfInBounds 1 (Value.ref a.objs.size));have e3:=iD (fe (·.setIfInBounds 1 (Value.ref a.objs.size))) I (mM d3);have t3:((a.push i).update e (fe (·.setIfInBounds 1 (Value.ref a.objs.size)))).get? a.objs.size=some i:=(jg (a.push i) _ (dv ne)).trans (cJ a fN);have k:∀b o,b≠e->a.get? b=some o->((a.push i).update e (fe (·.setIfInBounds 1 (Value.ref a.objs.size)))).get? b=some o:=fun b o j q=>by
  rw[jg _ _ (dv j)];exact aS _ q
 have N:((a.push i).update e (fe (·.setIfInBounds 1 (Value.ref a.objs.size)))).get? e=some { oe with data:=.fields (vs.setIfInBounds 1 (Value.ref a.objs.size)) }:=by
  rw[e3,Obj.mapF t]
 refine h _ _ _ _ ⟨fun b o q j _ O=>k b o j ((r.2.1 b O).trans q),fun b o q j _ O=>?_,fun b o q=>?_⟩ N ?_ (by rw[<-J];exact t3) dN ?_
 ·obtain⟨T,m⟩:=r.2.2 b o q;exact⟨T,k b _ j m⟩
 ·by_cases j:b=e
  ·rw[j];exact⟨_,N⟩
  ·obtain⟨T,m⟩:=r.2.2 b o q;exact⟨_,k b _ j m⟩
 ·rw[<-J];simp[n]
 ·simp
theorem FO{n:Nat}{T:Option Addr}(l:A.frames=some (env::outer))(J:s.heap.FunFrames base (env::outer))(hf:env.frame=some L)
  (r:s.heap.get? e=some oe) (u:oe.data=.fields vs) (Y:Trc n s.heap e vs T)
  (h:∀k g y v,Iq (uN (env::outer)) e T s.heap k->k.get? e=some { oe with data:=.fields g }->g[1]?=some (.ref s.heap.objs.size) ->
   k.get? s.heap.objs.size=some y->y.data=.fields v->v[3]?=some (rawInt L)->Q () { s with heap:=k }):wpAny M A (pM (.ref e) env) Q E s:=by
 unfold pM;simp only[hf];rcases Y with⟨m,rfl⟩|⟨t,y,v,rfl,m,_,B,w,i,N⟩
 ·refine ah (cO r u m ?_);rw[if_neg (by decide)];exact Bq l J hf r u (gV.mp m).1 h
 ·refine ah (cO r u m ?_);rw[if_pos (show(Value.ref t != Value.none)=true from by simp)];refine ah (cO w i N ?_);rw[if_neg (show ¬((Value.none==rawInt L)=true)from by simp[rawInt])];refine ah (iz w i (gV.mp N).1 ?_);have a:∀b,b≠t->(s.heap.update t (fe (·.setIfInBounds 3 Value.none))).get? b=s.heap.get? b:=fun b f=>jg _ _ (dv f);have tt:=iD (fe (·.setIfInBounds 3 Value.none)) w (mM (gX i _));have p:∀b o,s.heap.get? b=some o->(∀ws,o.data≠.fields ws)->b≠t:=fun b o f j q=>by
   rw[q,w]at f;cases f;exact j v i
  have sz:(s.heap.update t (fe (·.setIfInBounds 3 Value.none))).objs.size=s.heap.objs.size:=Heap.size_after_update ..;refine Bq (s:={ s with heap:=s.heap.update t (fe (·.setIfInBounds 3 Value.none)) }) l (J.of_keeps fun b o f j=>⟨o,(a b (p b o f j)).trans f,rfl⟩) hf ((a e (dv B)).trans r) u (gV.mp m).1 ?_;intro k g C D x q1 O U q4 q5;rw[sz]at O U;refine h k g C D ⟨fun b o q G H I=>x.keep b o ((a b fun z=>H (by rw[z])).trans q) G (by simp) I,fun b o q G H I=>x.slot b o ((a b fun z=>H (by rw[z])).trans q) G (by simp) I,fun b o q=>?_⟩ q1 O U q4 q5;by_cases f:b=t
  ·rw[f];exact x.there t _ tt
  ·exact x.there b o ((a b f).trans q)
end
section
variable{X:Cx}{J4:Zd}{σ:St}{H:Hp}{s:Shared}{n:Nat}{a C:Addr}{od:Option Addr}
def Fly(X:Cx)(n:Nat)(h:Heap)(H:Hp)(a C:Addr)(od:Option Addr):Prop:=lN n h H a C od∨A7 n h H a C od X.env.locals
theorem DK{M:Model}{Q:Unit->Shared->Prop}{E:Zc}(I:Inv X J4 σ H s)(y:o_ X J4 n)(st:X.stack=X.env::X.outer)(j:X.env.frame=some X.env.locals)(fl:Fly X n s.heap H a C od)
  (h:∀L,Inv X J4 σ H L->A7 n L.heap H a C od X.env.locals->Q () L):wpAny M X.A (pM (.ref a) X.env) Q E s:=by
 rcases fl with fl|fl
 ·obtain⟨vs,T,e,z,tr,fT⟩:=fl.tr;have k:=I.stack;rw[st]at k;refine FO (n:=n) (base:=X.base) (by rw[I.ok.frames,st]) k j e rfl tr fun h' r oT ts u q1 q2 q3 q4 q5=>?_;have z':1<r.size:=(gV.mp q2).1;have N:∀b∈uN (X.env::X.outer),H b=none:=fun b f=>I.stkFree b (by rw[st];exact f);have O:=Fh I.hok fl.trk fT N u q1 z';have nT:∀t,T=some t->n<=t:=fun t J=>by
   rcases tr with⟨_,q⟩|⟨t',_,_,q,_,l,_⟩
   ·rw[q]at J;cases J
   ·rw[q]at J;cases J;exact l
  have U:∀b,b≠X.env.locals->b∉X.fs->b∉uN (X.env::X.outer):=fun b Y h2 f=>by
   unfold uN at f;rw[vi,j]at f;exact(cK.mp f).elim Y h2
  have i:∀b,H b=none->b≠a:=fun b f q=>by rw[q,fl.trk]at f;cases f
  obtain⟨m0,⟨oL,aC,aT,v,rL⟩,_⟩:=id I.loc;have w:X.env.locals∈uN (X.env::X.outer):=by unfold uN;rw[vi,j];exact eL
  have ab:some X.env.locals≠T:=fun q=>absurd (nT _ q.symm) (jd y.loc);obtain⟨aX,al⟩:=u.slot _ oL v (i _ I.free) ab w;refine h _ (I.step (g':=s.gens) (d':=s.drawn) (t':=s.toks) (ch:=T.toList) (fun b f=>?_) (fun b o hL hf hc g B=>?_) (fun b o hL hf hc g B=>?_) (fun b o _ _ B=>B) (fun b o _ g=>u.there b o g)
   (fun _ _ g=>g) (fun _ _ _ g=>g) (fun b ps g=>⟨#[],by rw[g];simp⟩) (fun m hm=>?_) O I.bare) ⟨fl.trk,fl.new,r,s.heap.objs.size,oT,ts,q1,q2,?_,?_,q3,q4,q5,?_⟩
  ·have hT:T=some b:=by cases T with
    |none=>simp at f
    |some t=>simp at f;rw[f]
   have D:=nT b hT;exact⟨.inr (bW y.s0 D),fun q=>absurd D (jd (q▸y.loc)),fun x c g q=>absurd D (jd (q▸y.cell x c g)),fun p hp q=>absurd D (jd (q▸y.pin p hp))⟩
  ·exact u.keep b o g (i b B) (fun q=>hc (by rw[<-q];simp)) (U b hL hf)
  ·refine u.slot b o g (i b B) (fun q=>hc (by rw[<-q];simp)) ?_;unfold uN;rw[vi,j];exact eU _ hf
  ·obtain⟨o',an,ap,G,r'⟩:=hm;rw[v]at G;cases G;exact⟨_,an,ap,al,r'⟩
  ·exact bW (bW fl.new (cy (aI e))) (aK _)
  ·exact fE (aI e)
  ·exact I.hok.fresh (aK _)
 ·obtain⟨vs,t,oT,ts,e,Y,D,a0,hT,as,h3,nt⟩:=fl.tr;unfold pM;simp only[j];refine ah (cO e rfl Y ?_);rw[if_pos (show(Value.ref t != Value.none)=true from by simp)];refine ah (cO hT as h3 ?_);rw[if_pos (show(rawInt X.env.locals==rawInt X.env.locals)=true from by simp)];exact aw (h s I fl)
theorem DM{M:Model}{A:Around}{Q:Unit->Shared->Prop}{E:Zc}{L:Addr}(r:Option Addr)(I:Inv X J4 σ H s)(y:o_ X J4 n)(J:A7 n s.heap H a C od L)
  (h:∀l m t u v,Inv X J4 σ H l->l.heap.get? a=some { cls:=.ref C,dict:=od,data:=.fields m }->m[1]?=some (.ref t)->n<=t->t≠a->l.heap.get? t=some u->u.data=.fields v->v[3]?=some (r.elim Value.none fun f=>rawInt f)->H t=none->Q () l) :
  wpAny M A (sX (.ref a) r) Q E s:=by
 obtain⟨m,t,u,v,e,z,j,k,B,i,D,G⟩:=J.tr;unfold sX;refine ah (cO e rfl z ?_);rw[if_pos (show(Value.ref t != Value.none)=true from by simp)];refine iz B i (gV.mp D).1 ?_;have kp:∀b o,b≠t->s.heap.get? b=some o->(s.heap.update t (fe (·.setIfInBounds 3 (r.elim Value.none fun f=>rawInt f)))).get? b=some o:=fun b o N g=>by
  rw[jg _ _ (dv N)];exact g
 have w:=(gV.mp D).1;exact h _ m t _ _ (I.turned (t':=s.toks) (it:=t) kp G (fun q=>absurd j (jd (q▸y.loc))) (.inr (bW y.s0 j)) (fun x c g q=>absurd j (jd (q▸y.cell x c g))) (fun p O q=>absurd j (jd (q▸y.pin p O))))
  (kp a _ (dv k) e) z j k (iD _ B (mM (gX i _))) (gX i _) (by simp[w]) G
theorem Bp{M:Model}{Q:Unit->Shared->Prop}{E:Zc}(I:Inv X J4 σ H s)(y:o_ X J4 n)(st:X.stack=X.env::X.outer)(i:X.env.frame=some X.env.locals)(j:Fly X n s.heap H a C od)
  (h:∀e,Inv X J4 σ H e->lN n e.heap H a C od->Q () e):wpAny M X.A (pM (.ref a) X.env) (fun _ e=>wpAny M X.A (sX (.ref a) none) Q E e) E s:=by
 refine DK I y st i j fun G k f=>DM none k y f fun l m t o p q r g u v w x z B=>h l q ⟨f.trk,f.new,m,some t,r,(gV.mp g).1,.inr ⟨t,o,p,rfl,g,u,v,w,x,z⟩,fun J D=>by cases D;exact B⟩
def Hr(X:Cx)(J4:Zd)(W:St->XK)(e:Value)(s':Shared):Prop:=∃n a C od σ' H',e=.ref a/\o_ X J4 n/\Inv X J4 σ' H' s'/\Fly X n s'.heap H' a C od/\W σ' (.ref C) (some a) H'
theorem XS.two{W:St->XK}{e:Value}{f:Shared}(h:XS X J4 W e f):Hr X J4 W e f:=let⟨n,a,C,od,σ',g,i,y,I,j,q⟩:=h;⟨n,a,C,od,σ',g,i,y,I,.inl j,q⟩
theorem zP{W:St->XK}{M:Model}(st:X.stack=X.env::X.outer)(g:X.env.frame=some X.env.locals):Bh M X.A X.env (Hr X J4 W):=by
 rintro e L ⟨n,a,C,od,σ',k,rfl,y,I,l,q⟩;refine DK I y st g l fun N m f=>?_;obtain⟨h,t,i,j,o,p,O,r,Q,u,T,U⟩:=id f.tr;refine ah (cO o rfl p ?_);rw[if_neg (show ¬((Value.ref t==Value.none)=true)from by simp)];rw[g];exact DM (some X.env.locals) m y f fun Y h t i j v w x z B D E G J=>⟨n,a,C,od,σ',k,rfl,y,v,.inr ⟨f.trk,f.new,h,t,i,j,w,x,z,B,D,E,G,J⟩,q⟩
end
def PY(X:Cx)(b:List Stmt)(t:(St->XK)->TS):Prop:=∀(J4:Zd) (s:Shared) (σ:St) (H:Hp) (D:eR) (W:St->XK),Inv X J4 σ H s->t W D σ H->wpAny (model X.prog X.w) X.A (execs b X.env) (SP X J4 D) (Hr X J4 W) s
def I0(X:Cx)(b:Stmt)(t:(St->XK)->TS):Prop:=∀(J4:Zd) (s:Shared) (σ:St) (H:Hp) (D:eR) (W:St->XK),Inv X J4 σ H s->t W D σ H->wpAny (model X.prog X.w) X.A (exec b X.env) (SP X J4 D) (Hr X J4 W) s
section
variable{X:Cx}{J4:Zd}{σ:St}{H:Hp}{s:Shared}{t u:(St->XK)->TS}{b:Stmt}{bs:List Stmt}{pos:Pos}
theorem At(h:Ik X b t):I0 X b t:=fun J4 s σ H D W I q=>dz (h J4 s σ H D W I q) (fun _ _ z=>z) fun _ _ z=>z.two
theorem iI(h:I0 X b t):PY X [b] t:=by
 intro J4 s σ H D W I q;refine Bi (dz (h J4 s σ H D W I q) (fun f a q=>?_) fun _ _ y=>y);cases f with
 |next=>exact qW q
 |ret v=>exact q
 |brk=>exact q
 |cont=>exact q
theorem fO(h:I0 X b t)(a:PY X bs u):PY X (b::bs) (kB t u):=by
 intro J4 s σ H D W I q;refine Bi (dz (h J4 s σ H _ W I q) (fun f e q=>?_) fun _ _ y=>y);cases f with
 |next=>obtain⟨σ1,g,i,j⟩:=q;exact a J4 e σ1 g D W i j
 |ret v=>exact q
 |brk=>exact q
 |cont=>exact q
theorem tZ:PY X [] (p_ bA):=fun _ _ σ H _ _ I h=>qW ⟨σ,H,I,h⟩
theorem yQ{c:Expr}{a b:List Stmt}{f:TT}{g i:(St->XK)->TS}(n:PT X.nox c f)(o:PY X a g)(p:PY X b i):I0 X (.If c a b pos) (CG f g i):=by
 intro J4 s σ H D W I h;refine wpAny_If (dz (n J4 s σ H _ (I.wish _) h) (fun d j e=>?_) fun _ _ z=>da z);obtain⟨k,l,m⟩:=e;cases d with
 |true=>exact o J4 j σ k D W l.unwish m
 |false=>exact p J4 j σ k D W l.unwish m
def Ef(wi:TI)(g:TG)(tb:(St->XK)->TS):(St->XK)->TS:=fun W=>eJ wi g (tb W)
theorem Hr.unpinned{g:Zd}{W:St->XK}{e:Value}{f:Shared}(h:Hr X (J4++g) W e f):Hr X J4 W e f:=by
 obtain⟨n,a,C,i,σ',j,k,y,I,l,q⟩:=h;exact⟨n,a,C,i,σ',j,k,⟨y.s0,y.loc,y.cell,fun p m=>y.pin p (by rcases bE.mp m with z|z;exact cN _ z;exact cV _ (cN _ z))⟩,I.unpinned,l,q⟩
theorem EH{tg j:Expr}{B:List Stmt}{wi:TI}{g:TG}{tb:(St->XK)->TS}(hc:X.calm=true)(hi:PI X.nox tg j wi)(hg:PG X.nox tg g)(k:PY X B tb)
  (hs:∀x,ve j X.env x=pure x:=by intro _;rfl) (st:X.stack=X.env::X.outer:=by rfl) (sf:X.env.frame=some X.env.locals:=by rfl):I0 X (.For tg j B [] pos) (Ef wi g tb):=by
 intro J4 s σ H D E I h;have M:Bh (model X.prog X.w) X.A X.env (Hr X J4 E):=zP st sf;refine wpAny_For (dz (hi J4 s σ H _ (I.wish _) h) (fun v s1 h1=>dz h1 (fun aC s2 h2=>?_) fun _ _ z=>da z) fun _ _ z=>da z) hs;obtain⟨it,L,tn,J,H2,e,ab,T,al,an,W,⟨m0,w0⟩,turn⟩:=h2;subst e;have I2:=ab.unwish;have f2:∀b∈L,lM X J4 H2 b:=an;have l:∀{y:Hp},(∀b∈L,y b=none)->∀b∈L,lM X J4 y b:=fun hn b k=>⟨hn b k,(f2 b k).2⟩;refine codeAny_forLoop_any (fun n s'=>∃i σ' y,Inv X J4 σ' y s'/\tn i s'.heap/\(∀b∈L,y b=none)/\W i n σ' y) ?_ m0 ⟨0,σ,H2,I2,al,fun b k=>(f2 b k).1,w0⟩;rintro n s3 ⟨i,σ3,Y,I3,O,Q,w3⟩;rcases turn i n σ3 Y w3 with⟨stop,qn⟩|⟨go,N,hN,step⟩
 ·refine kz M (dz (T.done X rfl rfl rfl hc i J4 s3 σ3 Y _ I3 (l Q) O stop) (fun r s4 a=>?_) fun _ _ z=>z);obtain⟨hr,I4⟩:=a;subst hr;exact qW ⟨σ3,Y,I4,qn⟩
 ·refine kz M (dz (T.item X rfl rfl rfl hc i J4 s3 σ3 Y _ I3 (l Q) O go) (fun r s4 a=>?_) fun _ _ z=>z);obtain⟨u,hr,h4⟩:=a;subst hr;refine kz M (dz h4 (fun _ s5 a=>?_) fun _ _ z=>z);obtain⟨x,H5,I5,r5,y5,G,ap⟩:=a;have as:=I5.pinned (l ap) (T.obj _ _ G);refine kz M (dz (hg _ s5 σ3 H5 x u _ (as.wish _) r5 (step x H5 y5)) (fun _ s6 a=>?_) fun _ _ z=>da z);obtain⟨σ6,H6,I6,q6⟩:=a;refine kz M (dz (k _ s6 σ6 H6 _ E I6.unwish q6) (fun f s7 C=>?_) fun _ _ z=>z.unpinned);have again:∀{σ7:St}{p:Hp},Inv X (J4++qk L s5.heap) σ7 p s7->N σ7 p->∃m,m<n/\∃i σ' y,Inv X J4 σ' y s7/\tn i s7.heap/\(∀b∈L,y b=none)/\W i m σ' y:=fun{σ7 p} q U=>by
   obtain⟨m',hm,w7⟩:=hN σ7 p U;refine⟨m',hm,i+1,σ7,p,q.unpinned,T.keep _ _ _ G fun b k o e=>(q.pin (b,o) (cV _ (cV _ (gk k e)))).1,fun b k=>?_,w7⟩;obtain⟨o,e,d⟩:=T.obj _ _ G b k;exact(q.pin (b,o) (cV _ (cV _ (gk k e)))).2.1
  cases f with
  |next=>obtain⟨σ7,p,q,U⟩:=C;exact again q U
  |cont=>obtain⟨σ7,p,q,U⟩:=C;exact again q U
  |brk=>obtain⟨σ7,p,q,C⟩:=C;exact⟨σ7,p,q.unpinned,C⟩
  |ret v=>obtain⟨x7,σ7,p,q,r7,C⟩:=C;exact⟨x7,σ7,p,q.unpinned,r7,C⟩
theorem Gu{g:List Stmt}{k:wc}{l:List wc}{m:(St->XK)->TS}{i:eR->St->XK}(o:PY X g m)(p:PH X (k::l) i)(st:X.stack=X.env::X.outer:=by rfl)(r:X.env.frame=some X.env.locals:=by rfl):
  PS X (.Try g (k::l) [] [] pos) (IB m i):=by
 intro J4 s σ H D I h;refine wpAny_Try_except (dz (o J4 s σ H D (i D) I h) (fun f w q=>?_) fun e w ⟨n,a,C,x,σ',z,A,y,B,E,q⟩=>?_)
 ·cases f with
  |next=>exact qW q
  |ret v=>exact q
  |brk=>exact q
  |cont=>exact q
 ·subst A;exact Bp B y st r E fun G J j=>p J4 _ G σ' z D a C x J y j q
end
theorem Au{P:bq}{w:World}{K:Za}{l:Str->Option Value}{base:Heap}{N:Zb}{i:Str}{scope:Scope}{f:Addr}{cd:Value}{A:Around}{outer:List Env}{m:Shared}{o:Hp}{E:XK}{b:List Stmt}{t:(St->XK)->TS}
  (h:PY (u_ (Hz P w K) P w K l base N i scope f cd A outer m o E) b t):vW (u_ (Hz P w K) P w K l base N i scope f cd A outer m o E) b (t fun _=>E):=by
 intro p s σ H D I q;refine dz (h p s σ H D (fun _=>E) I q) (fun _ _ z=>z) fun e J k=>?_;obtain⟨n,a,C,r,σ',u,v,y,x,B,q⟩:=k;subst v;show wpAny _ _ _ _ _ _;unfold leaving;exact ah (Bp x y rfl rfl B fun G g j=>⟨a,C,r,u,rfl,g.os,g.bare,g.base,g.hok,j.mono y.s0,q⟩)
def G5:Expr->List Str
 |.Name x _=>[x]
 |.Tuple es _ _=>es.filterMap fun e=>match e with | .Name x _=>some x|_=>none
 |_=>[]
theorem bK{X:Cx}{b:List Stmt}{t:TS}{D:eR}{σ:St}{H:Hp}(r:t D σ H)(p:vW X b t):∃t,vW X b t/\t D σ H:=⟨t,p,r⟩
section
variable{X:Cx}{k k0:Nat}{ps:Zb}{sp:Sp}{x m:Str}{C:Addr}{p pos J6:Pos}{o e a b:Expr}{es:List Expr}{t:TA}{ta tb te:TE}
theorem qf(h:dF k0 X.A)(D:iT X.prog X.w X.K X.mg X.base x ps k sp)(i:PA X (e::es) t)(j:k<=k0:=by decide)(l:Gl X x:=by rfl)(f:(x==("__debug__":Str))=false:=by decide)
  (n:ay (e::es) X.env=(false,eval e X.env)::ay es X.env:=by rfl) (g:(backTo pos (ay es X.env)).any (·.1)=false:=by rfl) :
  PE X (.Call (.Name x p) (e::es) [] pos) (aO sp t):=Ha D (h.mono j) l i f n g
theorem qm{pl:Sem Bool}(j:dF k0 X.A)(M:DG X.prog X.w X.K X.mg X.base C m ps k sp)(l:PE X o ta)(n:PA X (e::es) t)(q:k<=k0:=by decide)
  (g:ay (e::es) X.env=(false,eval e X.env)::ay es X.env:=by rfl) (h:(backTo pos (ay es X.env)).any (·.1)=false:=by rfl)
  (r:eval (.Call (.Attribute o m J6) (e::es) [] pos) X.env=(do
   let i <- eval o X.env
   nV J6.atName
   let(f,first) <- jz [i] (nU i m pl)
   mT pos f first (backTo pos (ay (e::es) X.env)) (jX pos (jW [] X.env))):=by rfl) :
  PE X (.Call (.Attribute o m J6) (e::es) [] pos) (bF C m sp [] E0 ta t):=HP (pl:=pl) M (j.mono q) l n g h r
theorem qj{pl:Sem Bool}(h:dF k0 X.A)(M:DG X.prog X.w X.K X.mg X.base C m ps k sp)(i:PE X o ta)(j:k<=k0:=by decide)
  (l:eval (.Call (.Attribute o m J6) [] [] pos) X.env=(do
   let g <- eval o X.env
   nV J6.atName
   let(f,first) <- jz [g] (nU g m pl)
   mT pos f first (backTo pos (ay [] X.env)) (jX pos (jW [] X.env))):=by rfl) :
  PE X (.Call (.Attribute o m J6) [] [] pos) (bF C m sp [] E0 ta aN):=Gv (pl:=pl) M (h.mono j) i l
theorem xl(f:PE X a ta)(g:PE X b tb)(h:Dv b:=by exact fun _ _=>rfl):PE X (.Subscript a b pos) (aE (cj X.K) ta tb):=BN BU f g h
theorem xt(f:PE X a ta)(g:PE X b tb)(h:Dv b:=by exact fun _ _=>rfl):PE X (.Subscript a b pos) (aE (jo X.K) ta tb):=BN Fe f g h
theorem xq(f:PE X a ta)(g:PE X b tb)(h:Dv b:=by exact fun _ _=>rfl):PE X (.Subscript a b pos) (aE (sD X.K) ta tb):=BN HY f g h
theorem xs'(f:PE X a ta)(g:PE X b tb)(h:Dv b:=by exact fun _ _=>rfl):PE X (.Subscript a b pos) (aE As ta tb):=BN Ff f g h
theorem kG{f:CmpOp}{r:R2}(g:pb X (eT f) r)(h:PE X a ta)(i:PE X b tb)(j:kA f b=false:=by exact EY _):PT X (.Compare a [f] [b] pos) (aW (aE r ta tb)):=BH g h i j
theorem GK{f:CmpOp}{r:R2}(g:pb X (eT f) r)(h:PE X a ta)(i:PE X b tb)(j:kA f b=false:=by exact EY _):PE X (.Compare a [f] [b] pos) (aE r ta tb):=BO g h i j
theorem BA{f:CmpOp}{r:R2}(g:pb X (eT f) r)(h:PE X a ta)(i:PE X b tb)(j:kA f b=false:=by with_unfolding_all rfl):PT X (.Compare a [f] [b] pos) (aW (aE r ta tb)):=BH g h i j
theorem eci{f:CmpOp}{r:R2}(g:pb X (eT f) r)(h:PE X a ta)(i:PE X b tb)(j:kA f b=false:=by with_unfolding_all rfl):PE X (.Compare a [f] [b] pos) (aE r ta tb):=BO g h i j
theorem qB{id:String}{r:List V->Hp->VK->Prop}(h:fU X (.builtin id) r)(i:X.mg x=none)(j:iV x=some (.builtin id))(l:PA X (e::es) t)(n:Gl X x:=by rfl)(q:x≠"__name__":=by decide)(f:(x==("__debug__":Str))=false:=by decide)
  (s:ay (e::es) X.env=(false,eval e X.env)::ay es X.env:=by rfl) (g:(backTo pos (ay es X.env)).any (·.1)=false:=by rfl):PE X (.Call (.Name x p) (e::es) [] pos) (cU r t):=yW h n i j l q f s g
theorem qL(g:X.calm=true)(h:X.mg "list"=none)(i:PA X (e::es) t)(j:Gl X "list":=by rfl)
  (l:ay (e::es) X.env=(false,eval e X.env)::ay es X.env:=by rfl) (f:(backTo pos (ay es X.env)).any (·.1)=false:=by rfl):PE X (.Call (.Name "list" p) (e::es) [] pos) (cU (cY X.K) t):=qp (AQ g) j h nC i (by decide) (by decide) l f
theorem ql(g:X.mg "len"=none)(h:PA X (e::es) t)(i:Gl X "len":=by rfl)
  (j:ay (e::es) X.env=(false,eval e X.env)::ay es X.env:=by rfl) (f:(backTo pos (ay es X.env)).any (·.1)=false:=by rfl):PE X (.Call (.Name "len" p) (e::es) [] pos) (cU (cu X.K) t):=yW Dr i g PySem.boot_len h (by decide) (by decide) j f
theorem qs(i:Nat){f:Pos}(g:X.N.Nodup)(h:PE X e te)(hi:X.N[i]?=some x:=by rfl)(hx:Loc X.env.scope x:=by first|exact Or.inl rfl|exact Or.inr rfl)(j:mz e (some (.Name x f)) pos.line X.env=pure false:=by rfl)(hf:X.fn x=true∨X.env.scope.names.lookup x=some .local:=by first|exact .inl rfl|exact .inr rfl|assumption):
  PS X (.Assign [.Name x f] e pos) (a_ te (dI i)):=EJ g hi hx h j hf
theorem gn(i:Nat)(f:X.N.Nodup)(hi:X.N[i]?=some x:=by rfl)(hx:Loc X.env.scope x:=by first|exact Or.inl rfl|exact Or.inr rfl)(hf:X.fn x=true∨X.env.scope.names.lookup x=some .local:=by first|exact .inl rfl|exact .inr rfl|assumption):PG X (.Name x pos) (dI i):=BL f hi hx hf
theorem gc(i:Nat)(f:X.N.Nodup:=by exact of_decide_eq_true (by with_unfolding_all rfl))(hi:X.N[i]?=some x:=by rfl)(hx:Loc X.env.scope x:=by exact Or.inl rfl)(hf:X.fn x=true∨X.env.scope.names.lookup x=some .local:=by first|exact .inl rfl|exact .inr rfl|assumption):PG X (.Name x pos) (dI i):=BL f hi hx hf
theorem a1(f:PE X a ta)(g:ay [a] X.env=(false,eval a X.env)::ay [] X.env:=by rfl):PA X [a] (aq ta aN):=aQ f bf g
theorem a2(g:PE X a ta)(h:PE X b tb)(i:ay [a,b] X.env=(false,eval a X.env)::ay [b] X.env:=by rfl)(f:ay [b] X.env=(false,eval b X.env)::ay [] X.env:=by rfl):PA X [a,b] (aq ta (aq tb aN)):=aQ g (aQ h bf f) i
theorem a3{c:Expr}{h:TE}(i:PE X a ta)(j:PE X b tb)(l:PE X c h)(n:ay [a,b,c] X.env=(false,eval a X.env)::ay [b,c] X.env:=by rfl)(f:ay [b,c] X.env=(false,eval b X.env)::ay [c] X.env:=by rfl)(g:ay [c] X.env=(false,eval c X.env)::ay [] X.env:=by rfl):PA X [a,b,c] (aq ta (aq tb (aq h aN))):=aQ i (a2 j l f g) n
variable{elt iter tg:Expr}{ifs:List Expr}{scope:Scope}{fi:List Nat}{wi:TI}{g:TG}{tc:TT}
theorem qc(hi:PI X tg iter wi)(q:zA k g)
  (h:∀C l f j ex n,PG (dL X (G5 tg++fi.map fun i=>X.N.getD i "") scope C l f j ex n) tg g/\Hv (dL X (G5 tg++fi.map fun i=>X.N.getD i "") scope C l f j ex n) ifs tc/\PE (dL X (G5 tg++fi.map fun i=>X.N.getD i "") scope C l f j ex n) elt te)
  (r:mm X.env.scope scope k (G5 tg++fi.map fun i=>X.N.getD i "") X.N fi=true:=by with_unfolding_all rfl) (s:X.calm=true:=by rfl)
  (u:∀x,ve iter X.env x=pure x:=by intro _;rfl):PE X (.ListComp elt [⟨tg,iter,ifs,0⟩] scope pos) (dg k fi wi g tc te) :=
 Gz r s hi (fun _ _ _ _ _ _=>(h _ _ _ _ _ _).1) q (fun _ _ _ _ _ _=>(h _ _ _ _ _ _).2.1) (fun _ _ _ _ _ _=>(h _ _ _ _ _ _).2.2) u
theorem qsc(j:Nat){y:Str}{n u:Pos}(v:X.N.Nodup)(hi:PI X tg iter wi)(w:zA k g)
  (h:∀C q f l ex r,PG (dL X (G5 tg++fi.map fun i=>X.N.getD i "") scope C q f l ex r) tg g/\Hv (dL X (G5 tg++fi.map fun i=>X.N.getD i "") scope C q f l ex r) ifs tc/\PE (dL X (G5 tg++fi.map fun i=>X.N.getD i "") scope C q f l ex r) elt te)
  (z:X.N[j]?=some y:=by rfl) (A:Loc X.env.scope y:=by first|exact Or.inl rfl|exact Or.inr rfl)
  (B:mm X.env.scope scope k (G5 tg++fi.map fun i=>X.N.getD i "") X.N fi=true:=by with_unfolding_all rfl) (D:X.calm=true:=by rfl)
  (s:mz (.ListComp elt [⟨tg,iter,ifs,0⟩] scope pos) (some (.Name y u)) n.line X.env=pure true:=by rfl)
  (E:∀x,ve iter X.env x=pure x:=by intro _;rfl) (hf:X.fn y=true∨X.env.scope.names.lookup y=some .local:=by first|exact .inl rfl|exact .inr rfl|assumption) :
  PS X (.Assign [.Name y u] (.ListComp elt [⟨tg,iter,ifs,0⟩] scope pos) n) (a_ (dg k fi wi g tc te) (dI j)) :=
 Av v z A B D hi (fun _ _ _ _ _ _=>(h _ _ _ _ _ _).1) w (fun _ _ _ _ _ _=>(h _ _ _ _ _ _).2.1) (fun _ _ _ _ _ _=>(h _ _ _ _ _ _).2.2) s E hf
end
end L2
end

section
set_option Elab.async false
set_option linter.all false
set_option maxRecDepth 100000
namespace L2
open PySem PySem.Spec PyProof.Rows
theorem C6{α β:Type}{F:α->β->Prop}{e:List α}{f:List β}(g:Paired F e f){i:Nat}{a:α}{b:β}(h:e[i]?=some a)(j:f[i]?=some b):F a b:=by
 induction g generalizing i with
 |nil=>cases h
 |cons r _ k =>
  cases i with
  |zero=>injection h with h;injection j with j;subst h j;exact r
  |succ i=>exact k h j
structure nH(h:Heap)(d:Addr)(es:Array iC)(ep:Nat):Prop where
 ex:∃o,h.get? d=some o/\o.ExactDict/\o.data=.dict es ep
section
variable{prog:bq}{w:World}{A:Around}{E:Zc}{s:Shared}{d v it:Addr}{es:Array iC}{ep i:Nat}
theorem nH.ty(h:nH s.heap d es ep):s.TypeIs (.ref d) "dict":=let⟨o,a,e,_⟩:=h.ex;⟨o,a,e.1⟩
end
structure Ir(P:bq)(w:World)(K:Za)(d:Addr)(o:Obj)(u:HO)(n:Nat)(ent:Nat->Hp->V->V->Prop)(es:Array iC)(ep:Nat):Prop where
 ex:o.ExactDict
 dat:o.data=.dict es ep
 sz:es.size=n
 get:∀{H:Hp}{h:Heap}{i:Nat}(hi:i<es.size),kg P w K H h->H d=some (.frz o u)->∃a b,ent i H a b/\RelV a es[i].key/\RelV b es[i].val
def Ia(K:Za)(kvs:List (TK×V)):Nat->Hp->V->V->Prop:=fun i H a b=>∃k,kvs[i]?=some (k,b)/\rK K H k a
theorem vM{P:bq}{w:World}{K:Za}{H:Hp}{h:Heap}{d:Addr}{o:Obj}{f:List (TK×V)}(s:kg P w K H h)(e:H d=some (.frz o (.dT f))):
  (d==gK)=false/\∃es t,Ir P w K d o (.dT f) f.length (Ia K f) es t:=by
 obtain⟨g,z,n,xs,u,U,es,t,p,ex,y,v,Y⟩:=(show bT P w K H h d (.frz o (.dT f))from s d _ e);rw[g]at p;cases p;have D:es.size=xs.length:=by rw[<-kL,v,ai]
 refine⟨n,es,t,ex,y,by rw[D,Paired.length u],fun{E G i} hi q I=>?_⟩;obtain⟨J,z',x,xs',j,L,M,N,k,O,r,l,Q⟩:=(show bT P w K E G d (.frz o (.dT f))from q d _ I);rw[J]at k;cases k;rw[y]at r;cases r;have T:es.size=xs'.length:=by rw[<-kL,l,ai]
 have m:i<xs'.length:=by omega
 have A:i<f.length:=by rw[Paired.length j];exact m
 have B:=C6 j (i:=i) (a:=f[i]) (b:=xs'[i]) (by simp[A]) (by simp[m]);have C:es[i]=Bl (bw P w) xs'[i]:=by
  have:es.toList[i]?=some es[i]:=by simp[hi]
  rw[l,cH,fJ m]at this;injection this with this;exact this.symm
 refine⟨.ref xs'[i].2.1,f[i].2,⟨f[i].1,by simp[A],B.2.1⟩,?_,?_⟩
 ·rw[C];exact rfl
 ·rw[C];exact B.2.2.2
section
variable{prog:bq}{w:World}{A:Around}{E:Zc}{s:Shared}{d v it:Addr}{es:Array iC}{ep i:Nat}
theorem Ar{Q:Zc}(h:nH s.heap d es ep)(a:(d==gK)=false)(q:Q (.ref s.heap.objs.size) { s with heap:=s.heap.push { cls:=.type "dict_values",data:=.fields #[.ref d] } }):
  wpAny (model prog w) A (call (.builtin "dict.values") [.ref d]) Q E s:=by
 refine ph F.slot_dict_values h.ty F.entry_dict_values ?_ (F.args_dict_values_1 _);refine ah ?_;unfold bX.Dict.noArgs;refine ah <| tj h.ty <| ?_;refine aw (show wpAny _ _ (wb d >>= _) _ _ s from ?_);unfold wb;rw[if_neg (fun z=>by rw[a]at z;cases z)];exact ah <| aw <| ah <| iA <| aw ⟨_,rfl,q⟩
theorem CV{Q:Option Value->Shared->Prop}(j:s.heap.IsValIter it d i es.size ep)(h:nH s.heap d es ep)(hi:i<es.size)
  (q:∀k,k.IsValIter it d (i+1) es.size ep->gJ it s.heap k->Q (some es[i].val) { s with heap:=k }):wpAny (model prog w) A (pyNext (.ref it)) Q E s:=by
 obtain⟨r,f,l,a⟩:=id j;obtain⟨o,m,hx,e⟩:=h.ex;have g:=j.typeIs;unfold pyNext;refine ah <| mL <| kQ (name:=kP "__next__") g sV <| ph sV g F.entry_dict_valueiterator_next ?_ (F.args_dict_valueiterator_next_1 _);refine ah <| aw <| ah <| ah ?_
 first|refine ah <| wa g <| aw ?_|refine ah <| v_ g <| aw ?_
 refine ah <| v9 f a ?_;simp only[show sU "dict_valueiterator"=false by decide,kO,if_false];show wpAny _ _ (if(Value.ref d==Value.none)=true then _ else _) _ _ _
 rw[if_neg (show ¬((Value.ref d==Value.none)=true)from gH)];refine ah <| aw <| ah <| mK m e ?_;rw[if_neg (by simp)];refine ah <| aw <| ah <| pF m e ?_;rw[if_neg (by simp)];refine aw ?_;simp only[show ¬((i:Int)<0)from by omega,if_false,ji,Array.getElem?_eq_getElem hi];refine ah ?_
 first|refine ah <| wa g <| aw ?_|refine ah <| v_ g <| aw ?_
 refine ah <| wpAny_isOneOf_valiter g ?_;show wpAny _ _ (sW (.ref it) 1 (rawInt ((i:Int)+1)) >>= _) _ _ s;refine ah <| iz f a (by simp) ?_;have n:(s.heap.update it (fe (·.setIfInBounds 1 (rawInt ((i:Int)+1))))).IsValIter it d (i+1) es.size ep:=⟨_,iD _ f (mM (gX a _)),(Obj.cls_mapFields ..).trans l,by rw[gX a];simp[rawInt]⟩;have p:=Heap.IsValIter.typeIs (s:={ s with heap:=s.heap.update it (fe (·.setIfInBounds 1 (rawInt ((i:Int)+1)))) }) n;refine ah <| iy <| ah <| wpAny_isOneOf_valiter p <| ah <| wpAny_isOneOf_valiter p ?_;show wpAny _ _ (pure es[i].val) _ _ _;exact aw <| aw ⟨_,rfl,aw <| q _ n (jS ..)⟩
theorem EA{Q:Option Value->Shared->Prop}(p:A.handled=none)(g:s.heap.IsValIter it d i es.size ep)(h:nH s.heap d es ep)(hi:es.size<=i)
  (q:∀l,Heap.ExtBut it s.heap l->Q none { s with heap:=l }):wpAny (model prog w) A (pyNext (.ref it)) Q E s:=by
 obtain⟨t,j,r,k⟩:=id g;obtain⟨o,n,hx,e⟩:=h.ex;have f:=g.typeIs;unfold pyNext;refine ah <| mL <| kQ (name:=kP "__next__") f sV <| ph sV f F.entry_dict_valueiterator_next ?_ (F.args_dict_valueiterator_next_1 _);refine ah <| aw <| ah <| ah ?_
 first|refine ah <| wa f <| aw ?_|refine ah <| v_ f <| aw ?_
 refine ah <| v9 j k ?_;simp only[show sU "dict_valueiterator"=false by decide,kO,if_false];show wpAny _ _ (if(Value.ref d==Value.none)=true then _ else _) _ _ _
 rw[if_neg (show ¬((Value.ref d==Value.none)=true)from gH)];refine ah <| aw <| ah <| mK n e ?_;rw[if_neg (by simp)];refine ah <| aw <| ah <| pF n e ?_;rw[if_neg (by simp)];refine aw ?_;simp only[show ¬((i:Int)<0)from by omega,if_false,ji,Array.getElem?_eq_none hi];refine ah ?_
 first|refine ah <| wa f <| aw ?_|refine ah <| v_ f <| aw ?_
 show wpAny _ _ (sW (.ref it) 0 .none >>= _) _ _ s;refine ah <| iz j k (by simp) ?_;show wpAny _ _ (newExc (.type "StopIteration") [] >>= _) _ _ _;refine ah ?_;simp only[newExc,newTuple];refine ah <| iA ?_ (by size_fits);refine ah (m:=pK _ _) <| wpAny_of_eq (a:=Value.none) (by first|rfl|(simp only[pK];rfl)) <| iA ?_ (by size_fits)
 simp only[raiseNew];refine ah <| wpAny_handled ?_;rw[show A.in1.handled=none from p];refine ah <| aw <| wpAny_throw ?_;refine ah (yn (b:=true) (T:="StopIteration") ⟨_,cJ _ rfl,rfl⟩ isSubtype_stop (aw (q _ (((jS ..).extBut.push _).push _))))
end
end L2
end

section
set_option Elab.async false
set_option linter.all false
set_option maxRecDepth 100000
namespace L2
open PySem PySem.Spec PyProof.Rows
section
variable{prog:bq}{w:World}{A:Around}{E:Zc}{s:Shared}{d v it:Addr}{es:Array iC}{ep i:Nat}
theorem CY{Q:Zc}(j:(d==gK)=false)(h:nH s.heap d es ep)
  (q:∀f,f.IsKeyIter s.heap.objs.size d 0 es.size ep->(∀b o,s.heap.get? b=some o->f.get? b=some o)->Q (.ref s.heap.objs.size) { s with heap:=f }):wpAny (model prog w) A (pyIter (.ref d)) Q E s:=by
 obtain⟨o,g,hx,a⟩:=h.ex;refine wpAny_pyIter_slot h.ty F.slot_dict_iter <| ph F.slot_dict_iter h.ty F.entry_dict_iter ?_ (F.args_dict_iter_1 _);unfold bX.«dict.__iter__»;refine ah ?_;unfold bX.Dict.dictSlotNone;refine ah <| tj h.ty <| ?_;refine aw (show wpAny _ _ (wb d >>= _) _ _ s from ?_);unfold wb;rw[if_neg (fun z=>by rw[j]at z;cases z)];refine ah <| aw <| ah <| mK g a <| ah <| pF g a ?_;refine ah (iA (aw ⟨_,rfl,"dict_keyiterator",_,⟨_,cJ _ rfl,rfl⟩,sT.lookup,?_⟩));exact q _ ⟨_,cJ _ rfl,rfl,by simp[rawInt]⟩ fun b o e=>aS _ e
theorem CW{Q:Option Value->Shared->Prop}(j:s.heap.IsKeyIter it d i es.size ep)(h:nH s.heap d es ep)(hi:i<es.size)
  (q:∀k,k.IsKeyIter it d (i+1) es.size ep->gJ it s.heap k->Q (some es[i].key) { s with heap:=k }):wpAny (model prog w) A (pyNext (.ref it)) Q E s:=by
 obtain⟨r,f,l,a⟩:=id j;obtain⟨o,m,hx,e⟩:=h.ex;have g:=j.typeIs;unfold pyNext;refine ah <| mL <| kQ (name:=kP "__next__") g sT <| ph sT g F.entry_dict_keyiterator_next ?_ (F.args_dict_keyiterator_next_1 _);refine ah <| aw <| ah <| ah ?_
 first|refine ah <| v8 g <| aw ?_|refine ah <| v6 g <| aw ?_
 refine ah <| v9 f a ?_;simp only[show sU "dict_keyiterator"=false by decide,kO,if_false];show wpAny _ _ (if(Value.ref d==Value.none)=true then _ else _) _ _ _
 rw[if_neg (show ¬((Value.ref d==Value.none)=true)from gH)];refine ah <| aw <| ah <| mK m e ?_;rw[if_neg (by simp)];refine ah <| aw <| ah <| pF m e ?_;rw[if_neg (by simp)];refine aw ?_;simp only[show ¬((i:Int)<0)from by omega,if_false,ji,Array.getElem?_eq_getElem hi];refine ah ?_
 first|refine ah <| v8 g <| aw ?_|refine ah <| v6 g <| aw ?_
 refine ah <| wpAny_isOneOf_keyiter g ?_;show wpAny _ _ (sW (.ref it) 1 (rawInt ((i:Int)+1)) >>= _) _ _ s;refine ah <| iz f a (by simp) ?_;have n:(s.heap.update it (fe (·.setIfInBounds 1 (rawInt ((i:Int)+1))))).IsKeyIter it d (i+1) es.size ep:=⟨_,iD _ f (mM (gX a _)),(Obj.cls_mapFields ..).trans l,by rw[gX a];simp[rawInt]⟩;have p:=Heap.IsKeyIter.typeIs (s:={ s with heap:=s.heap.update it (fe (·.setIfInBounds 1 (rawInt ((i:Int)+1)))) }) n;refine ah <| iy <| ah <| wpAny_isOneOf_keyiter p ?_;show wpAny _ _ (pure es[i].key) _ _ _;exact aw <| aw ⟨_,rfl,aw <| q _ n (jS ..)⟩
theorem EB{Q:Option Value->Shared->Prop}(p:A.handled=none)(g:s.heap.IsKeyIter it d i es.size ep)(h:nH s.heap d es ep)(hi:es.size<=i)
  (q:∀l,Heap.ExtBut it s.heap l->Q none { s with heap:=l }):wpAny (model prog w) A (pyNext (.ref it)) Q E s:=by
 obtain⟨t,j,r,k⟩:=id g;obtain⟨o,n,hx,e⟩:=h.ex;have f:=g.typeIs;unfold pyNext;refine ah <| mL <| kQ (name:=kP "__next__") f sT <| ph sT f F.entry_dict_keyiterator_next ?_ (F.args_dict_keyiterator_next_1 _);refine ah <| aw <| ah <| ah ?_
 first|refine ah <| v8 f <| aw ?_|refine ah <| v6 f <| aw ?_
 refine ah <| v9 j k ?_;simp only[show sU "dict_keyiterator"=false by decide,kO,if_false];show wpAny _ _ (if(Value.ref d==Value.none)=true then _ else _) _ _ _
 rw[if_neg (show ¬((Value.ref d==Value.none)=true)from gH)];refine ah <| aw <| ah <| mK n e ?_;rw[if_neg (by simp)];refine ah <| aw <| ah <| pF n e ?_;rw[if_neg (by simp)];refine aw ?_;simp only[show ¬((i:Int)<0)from by omega,if_false,ji,Array.getElem?_eq_none hi];refine ah ?_
 first|refine ah <| v8 f <| aw ?_|refine ah <| v6 f <| aw ?_
 show wpAny _ _ (sW (.ref it) 0 .none >>= _) _ _ s;refine ah <| iz j k (by simp) ?_;show wpAny _ _ (newExc (.type "StopIteration") [] >>= _) _ _ _;refine ah ?_;simp only[newExc,newTuple];refine ah <| iA ?_ (by size_fits);refine ah (m:=pK _ _) <| wpAny_of_eq (a:=Value.none) (by first|rfl|(simp only[pK];rfl)) <| iA ?_ (by size_fits)
 simp only[raiseNew];refine ah <| wpAny_handled ?_;rw[show A.in1.handled=none from p];refine ah <| aw <| wpAny_throw ?_;refine ah (yn (b:=true) (T:="StopIteration") ⟨_,cJ _ rfl,rfl⟩ isSubtype_stop (aw (q _ (((jS ..).extBut.push _).push _))))
end
def Ip(d:Addr)(o:Obj)(u:HO)(n:Nat)(ent:Nat->Hp->V->V->Prop):It :=
 ⟨fun i H=>H d=some (.frz o u)/\i<n,fun i H x H'=>H'=H/\∃b,ent i H x b,fun i H=>H d=some (.frz o u)/\n<=i⟩
theorem Cv{P:bq}{w:World}{K:Za}{Q:Expr}{d it:Addr}{o:Obj}{u:HO}{n:Nat}{l:Nat->Hp->V->V->Prop}{L:Array iC}{M:Nat}(f:Ir P w K d o u n l L M):
  uC P w K Q (Ip d o u n l) [it] it (fun i h=>h.IsKeyIter it d i n M) where
 mem:=by simp
 obj:=fun i h st b j=>by
  have e:b=it:=by simpa using j
  subst e;obtain⟨o,e,c,d⟩:=st;exact⟨o,e,fun v z=>by rw[d]at z;cases z⟩
 keep:=fun i h q st k=>st.at fun o e=>k it (by simp) o e
 item:=by
  intro X t x y N i O s σ H E I hf st A;subst t x y;obtain⟨r,hi⟩:=A;have m:i<L.size:=by rw[f.sz];exact hi
  obtain⟨g,T⟩:=(show bT X.prog X.w X.K H s.heap d (.frz o u)from I.hok d _ r);obtain⟨a,b,U,Y,rb⟩:=f.get m I.hok r;obtain⟨B,C,f2,D,G,J⟩:=hf it (by simp);rw[<-f.sz]at st;refine CW st ⟨o,g,f.ex,f.dat⟩ m fun q p sb=>?_;have I1:Inv X O σ H { s with heap:=q }:=I.turned (t':=s.toks) (fun b o j e=>(sb.2 b j).trans e) B C D G J;obtain⟨oi,e,c,dd⟩:=id p;exact⟨_,rfl,vL (s:={ s with heap:=q }) e c dd (by decide) ⟨a,H,I1,Y,⟨rfl,b,U⟩,by rw[<-f.sz];exact p,fun b j=>(hf b j).1⟩⟩
 done:=by
  intro X t x y N i O s σ H E I hf st A;subst t x y;obtain⟨r,hi⟩:=A;obtain⟨g,T⟩:=(show bT X.prog X.w X.K H s.heap d (.frz o u)from I.hok d _ r);obtain⟨B,C,f2,D,G,J⟩:=hf it (by simp);rw[<-f.sz]at st;exact EB (I.ok.hd N) st ⟨o,g,f.ex,f.dat⟩ (by rw[f.sz];exact hi) fun q eb=>⟨rfl,I.turned (t':=s.toks) (fun b o j e=>eb b o j e) B C D G J⟩
 self:=fun _ _ _ _ _ st h=>wpAny_pyIter_keyiter st h
def Fg(K:Za)(tl:TE):TI:=fun σ H R=>tl σ H fun x H1=>∃d kvs,x=.ref d /\
 ((H1 d=some (.dT kvs)/\∀o,R (Ip d o (.dT kvs) kvs.length (Ia K kvs)) (upd H1 d (.frz o (.dT kvs))))∨∃o,H1 d=some (.frz o (.dT kvs))/\R (Ip d o (.dT kvs) kvs.length (Ia K kvs)) H1)
section
variable{X:Cx}{J4:Zd}{σ:St}{l tg:Expr}{tl:TE}
theorem vH{R:It->Hp->Prop}{a:Hp}{s1:Shared}{d:Addr}{o:Obj}{u:HO}{n:Nat}{f:Nat->Hp->V->V->Prop}{m:Array iC}{p:Nat}(i:Ir X.prog X.w X.K d o u n f m p)(h:(d==gK)=false)(j:Inv X J4 σ a s1)(e:a d=some (.frz o u))(q:R (Ip d o u n f) a):
  wpAny (model X.prog X.w) X.A (pyIter (.ref d)) (PIE X J4 σ tg R) X.xe s1:=by
 obtain⟨g,_⟩:=(show bT X.prog X.w X.K a s1.heap d (.frz o u)from j.hok d _ e);refine CY h ⟨o,g,i.ex,i.dat⟩ fun r k s=>?_;have t:Inv X J4 σ a { s1 with heap:=r,toks:=s1.toks }:=j.kept (t':=s1.toks) s;refine⟨_,[_],_,_,a,rfl,t,Cv i,by rw[<-i.sz];exact k,fun b v=>?_,q⟩;have e:b=s1.heap.objs.size:=by simpa using v
 subst e;exact j.fpOk (aK _) (j.hok.fresh (aK _))
theorem EN(D:PE X l tl):PI X tg l (Fg X.K tl):=by
 intro J4 s σ H R I h;refine cM (D J4 s σ H _ I h) fun v s1 k=>?_;obtain⟨x,m,j,E,d,g,ex,q⟩:=k;subst ex;cases E;rcases q with⟨e,q⟩|⟨o,e,q⟩
 ·obtain⟨z,i,xs',n,o,G,J,t,r⟩:=id (show bT X.prog X.w X.K m s1.heap d (.dT g)from j.hok d _ e);have C:Inv X J4 σ (upd m d (.frz o (.dT g))) { s1 with heap:=s1.heap,toks:=s1.toks } :=
   j.write (x:=d) (e:=d) (t':=s1.toks) (by rw[e];trivial) (.inl rfl) (fun _ _ _ q=>q) ⟨o,t⟩ ⟨t,z,i,xs',Paired.mapP n (fun p q r=>⟨r.1,rK.keeps (fun b L u=>by rw[am (fun z=>by rw[z,e]at u;cases u)];exact u) 8 r.2.2.1 r.2.1,r.2.2⟩),o,G,J,t,r⟩
  obtain⟨f,y,A,B⟩:=vM C.hok (aa (H:=m) (a:=d));exact vH B f C aa (q o)
 ·obtain⟨f,y,A,B⟩:=vM j.hok e;exact vH B f j e q
end
end L2
end

section
set_option Elab.async false
set_option linter.all false
set_option maxRecDepth 100000
namespace HT
open PySem PySem.Spec PyProof.Rows
end HT
namespace L2
open PySem PySem.Spec PyProof.Rows
end L2
namespace HT
open PySem PySem.Spec PyProof.Rows
end HT
namespace L2
open PySem PySem.Spec PyProof.Rows
end L2
end

section
set_option Elab.async false
set_option linter.all false
set_option maxRecDepth 100000
namespace L2
open PySem PySem.Spec PyProof.Rows
def Jh(_ j:Int):Prop:=0<j/\j.natAbs.log2<9000
abbrev BG:List V->Hp->VK->Prop:=fun xs H Q=>∃i j,xs=[.int i,.int j]/\Jh i j/\∀p,H p=none->Q (.ref p) (upd H p (.tup [.int (i / j),.int (i % j)]))
section
variable{X:Cx}
theorem xO:fU X (.builtin "divmod") BG:=by
 intro k s σ H xs l Q I r h;obtain⟨i,j,rfl,a,q⟩:=h;obtain⟨u,v,rfl,f,g⟩:=vals2 r;obtain⟨t,rfl⟩:=f;obtain⟨m,rfl⟩:=g;have n:0<j:=a.1;refine divmod_int (by omega) ?_ (.inl (PyProof.noPylong_of_log2 a.2));rw[Int.fdiv_eq_ediv_of_nonneg i (by omega),Int.fmod_eq_emod_of_nonneg i (by omega)];exact⟨.ref s.heap.objs.size,_,I.laid (t':=s.toks+1+1) (fun b o e=>aS _ e) (aK _) (show bT X.prog X.w X.K _ _ _ (.tup [.int (i / j),.int (i % j)])from⟨by show 2<=ak;decide,_,.cons ⟨_,rfl⟩ (.cons ⟨_,rfl⟩ .nil),IsTup.new _ _⟩),rfl,q _ (I.hok.fresh (aK _))⟩
variable{tg l:Expr}{ta:TA}{p pos:Pos}
end
end L2
namespace L2
open PySem PySem.Spec PyProof.Rows
end L2
end

section
set_option Elab.async false
set_option linter.all false
set_option maxRecDepth 100000
namespace L2
open PySem PySem.Spec PyProof.Rows
end L2
end

section
set_option Elab.async false
set_option linter.all false
set_option maxRecDepth 100000
namespace HT
open PySem PyProof.Rows
end HT
namespace L2
open PySem PySem.Spec PyProof.Rows
end L2
end

section
set_option Elab.async false
set_option linter.all false
set_option maxRecDepth 100000
namespace HT
open PySem PyProof.Rows
section
variable{prog:bq}{w:World}{A:Around}{E:Zc}{s:Shared}
end
end HT
end

section
set_option Elab.async false
set_option linter.all false
set_option maxRecDepth 100000
namespace L2
open PySem PySem.Spec PyProof.Rows
theorem nH.kept{h h':Heap}{d:Addr}{a:Array iC}{f:Nat}(r:nH h d a f)(k:∀o,h.get? d=some o->h'.get? d=some o):nH h' d a f:=let⟨o,g,e⟩:=r.ex;⟨o,k o g,e⟩
end L2
end

section
set_option Elab.async false
set_option linter.all false
set_option maxRecDepth 100000
namespace HT
open PySem PyProof.Rows
end HT
end

section
set_option Elab.async false
set_option linter.all false
set_option maxRecDepth 100000
namespace L2
open PySem PySem.Spec PyProof.Rows
def txK(f:Zb):TK:=.t (f.map fun x=>TK.k (some (.inr x)))
theorem vo{K:Za}{H:Hp}:∀{a:Zb}{xs:List V},TKCs K H (a.map fun x=>TK.k (some (.inr x))) xs->xs=a.map V.str
 |[],xs,h=>by rw[List.map_nil]at h;unfold TKCs at h;exact h
 |s::a,xs,h=>by
  rw[cg]at h;unfold TKCs at h;obtain⟨v,g,rfl,e,f⟩:=h;unfold rK at e;rw[e,vo f]
  rfl
theorem DW{K:Za}{H:Hp}{f:Zb}{a:V}(h:rK K H (txK f) a):∃b,a=.ref b/\eF K H b (f.map V.str):=by
 unfold txK rK at h;obtain⟨b,xs,rfl,e,g⟩:=h;rw[vo g]at e;exact⟨b,rfl,e⟩
section
variable{prog:bq}{w:World}{A:Around}{s:Shared}{d v:Addr}{es:Array iC}{ep:Nat}
theorem Aq(e:s.heap.IsValuesView v d)(h:nH s.heap d es ep):∃i:Obj,(∀(E Q:Zc),Q (.ref s.heap.objs.size) { s with heap:=s.heap.push i }->wpAny (model prog w) A (pyIter (.ref v)) Q E s)/\(s.heap.push i).IsValIter s.heap.objs.size d 0 es.size ep:=by
 obtain⟨l,f,k,g⟩:=id e;obtain⟨o,j,hx,a⟩:=h.ex;refine⟨{ cls:=.type "dict_valueiterator",data:=.fields #[.ref d,rawInt 0,rawInt es.size,rawInt ep] },fun E Q q=>?_,⟨_,cJ _ rfl,rfl,by simp[rawInt]⟩⟩;refine wpAny_pyIter_slot e.typeIs F.slot_dict_values_iter <| ph F.slot_dict_values_iter e.typeIs F.entry_dict_values_iter ?_ (F.args_dict_values_iter_1 _);unfold bX.«dict_values.__iter__» bX.Dict_items.dictOf bX.Dict_items.newIterator;refine ah <| aw <| ah <| ah <| cO f g (x:=.ref d) rfl <| aw <| ah <| ah <| mK j a <| ah <| pF j a ?_;simp only[show sU "dict_valueiterator"=false by decide,kO,if_false];exact iA (aw ⟨_,rfl,"dict_valueiterator",_,⟨_,cJ _ rfl,rfl⟩,sV.lookup,q⟩)
theorem DR:PySem.W.KdlSrc prog w "dict_values" v d es.size (fun i x=>(es[i]?).map (·.val)=some x) fun h=>h.IsValuesView v d/\nH h d es ep where
 type:=fun s r=>r.1.typeIs
 there:=fun h r=>by obtain⟨o,f,_⟩:=r.2.ex;obtain⟨C,g,_⟩:=r.1;exact⟨aI g,aI f⟩
 keep:=fun h j r k=>⟨let⟨o,e,c⟩:=r.1;⟨o,k v (.inl rfl) o e,c⟩,r.2.kept (k d (.inr rfl))⟩
 notList:=by decide
 notTuple:=by decide
 hint:=fun A E s Q r q=>PySem.W.kdl_hint_values r.1.typeIs q
 iter:=fun A s p r=>by
  obtain⟨t,u,y⟩:=Aq (prog:=prog) (w:=w) (A:=A) r.1 r.2;have ne:d≠s.heap.objs.size:=by obtain⟨o,f,_⟩:=r.2.ex;exact bM (aI f)
  refine⟨t,fun i h=>h.IsValIter s.heap.objs.size d i es.size ep/\nH h d es ep,u,⟨by simp,?_,?_,?_,?_⟩,y,r.2.kept fun o e=>aS _ e⟩
  ·rintro i h j ⟨a,b⟩ k;obtain⟨o,e,c⟩:=a;exact⟨⟨o,k _ (by simp) o e,c⟩,b.kept fun o e=>k d (by simp) o e⟩
  ·rintro i m Q E hi ⟨a,b⟩ q;refine CV a b hi fun j z n=>q _ _ _ (by simp[hi]) ⟨z,b.kept fun o e=>(n.2 d ne).trans e⟩ fun b o l e=>(n.2 b (by simpa using l)).trans e
  ·rintro m Q E ⟨a,b⟩ q;exact EA p a b (aK _) fun j B=>q _ _ fun b o l e=>B b o (by simpa using l) e
  ·rintro i m Q E ⟨a,b⟩ q;exact wpAny_pyIter_valiter a q
end
def Ec(tl:TE):TE:=fun σ H Q=>tl σ H fun x H1=>∃(d:Addr) (kvs:List (TK×V)),x=.ref d/\Rd H1 d (.dT kvs)/\∀l,H1 l=none->Q (.ref l) (upd H1 l (.lst (kvs.map v5)))
section
variable{X:Cx}{p2 pos2 J6 J5:Pos}
theorem yU{l:Expr}{G:TE}(N:X.calm=true)(O:Gl X "list")(C:X.mg "list"=none)(T:PE X l G)(i:sO l "values" X.env (eval l X.env)=eval l X.env:=by rfl)(k:(J6.endLine==J5.line)=true:=by rfl)
  (r:ay [.Call (.Attribute l "values" J6) [] [] J5] X.env=[(false,eval (.Call (.Attribute l "values" J6) [] [] J5) X.env)]:=by rfl) :
  PE X (.Call (.Name "list" p2) [.Call (.Attribute l "values" J6) [] [] J5] [] pos2) (Ec G):=by
 intro U s σ H Q I h;refine Call_ (nj I O C nC (yk ?_ (by rw[r];rfl) (by rfl)));rw[r];show wpAny _ _ (spliced ((false,eval (.Call (.Attribute l "values" J6) [] [] J5) X.env)::[])) _ _ s;refine A_ ?_;refine wpAny_Call_method0_late i k (cM (T U s σ H _ I h) fun v s1 D=>?_);obtain⟨x,Y,E,r1,d,m,ex,e,q⟩:=D;subst ex;cases r1;obtain⟨z,t,xs,u,o,es,ep,J,ex,hd,n,nd⟩:=id (show bT X.prog X.w X.K Y s1.heap d (.dT m)from Es E.hok e);have p:nH s1.heap d es ep:=⟨o,J,ex,hd⟩;refine⟨"dict","dict.values",F.plainAttrs_dict,F.slot_dict_values,F.type_dict_values,p.ty,fun a z=>?_,wF rfl (PySem.evalArgs_none (Ar p t ?_))⟩
 ·cases z;exact⟨o,J,ex.2.1⟩
 refine Calls.spliced_nil ?_;have g:=Paired.length u;have y:es.size=xs.length:=by rw[<-kL,n,ai]
 refine PySem.W.kdl_call (s:={ s1 with heap:=s1.heap.push { cls:=.type "dict_values",data:=.fields #[.ref d] } }) (DR (v:=s1.heap.objs.size) (d:=d) (es:=es) (ep:=ep)) (I.ok.hd N) ⟨⟨_,cJ _ rfl,rfl,rfl⟩,p.kept fun o e=>aS _ e⟩ (by rw[y,<-g];exact z) fun h' tk f c hk hD A=>?_;obtain⟨hn,hP⟩:=A;have L:f.toList=xs.map fun x=>x.2.2:=by
  apply List.ext_getElem?;intro j;by_cases hj:j<f.size
  ·have B:f[j]?=some f[j]:=by simp[hj]
   have e2:=hP j _ B;have e3:es[j]?=(xs[j]?).map fun x=>Bl (bw X.prog X.w) x:=by rw[<-tD,n,cH]
   rw[tD,B,cH,<-e2,e3];cases xs[j]?<;>rfl
  ·have B:f[j]?=none:=by simp;omega
   rw[tD,B,cH,List.getElem?_eq_none (by omega)]
   rfl
 have hv:bp (m.map v5) f.toList:=by
  rw[L];clear L g y n nd e q z
  induction u with
  |nil=>exact .nil
  |cons h _ ih=>exact .cons h.2.2.2 ih
 have M:s1.heap.objs.size<=(s1.heap.push { cls:=.type "dict_values",data:=.fields #[.ref d] }).objs.size:=by rw[iU];exact jk _
 exact⟨.ref _,_,E.laid (o:=.lst (m.map v5)) (fun b o e=>hk b o (aS _ e)) M ⟨by rw[ai];exact z,f.toList,c,hv,by rw[Array.toArray_toList];exact hD⟩,rfl,q _ (E.hok.fresh M)⟩
end
section
variable{prog:bq}{w:World}{A:Around}{E:Zc}{s:Shared}
def FF(prog:bq)(w:World)(h:Heap)(u:Value)(x:TK×Addr×Value):Prop:=∃t,u=.ref t/\h.IsTuple t #[.ref x.2.1,x.2.2]/\(bw prog w).is h x.1 x.2.1
def storeAll(acc xs:List (TK×Addr×Value)):List (TK×Addr×Value):=xs.foldl (fun a x=>mN a x.1 x.2.1 x.2.2) acc
theorem yJ(e:List (TK×Addr×Value))(k:TK)(a:Addr)(v:Value):(mN e k a v).length<=e.length+1:=by
 unfold mN;split
 ·rw[ai];omega
 ·rw[aV,wD];exact aK _
theorem sj{h h':Heap}{k:TK}{a:Addr}(t:(bw prog w).is h k a)(m:∀b o items n,h.get? b=some o->o.cls=.type "tuple"->o.data=.seq items n->h'.get? b=some o):(bw prog w).is h' k a:=⟨mn.mono m 8 t.2 t.1,t.2⟩
theorem sM{h f:Heap}{D:Addr}{a:List (TK×Addr×Value)}(g:h.DictOfH (bw prog w) D a)(e:∀o,h.get? D=some o->f.get? D=some o)(m:∀b o items n,h.get? b=some o->o.cls=.type "tuple"->o.data=.seq items n->f.get? b=some o):f.DictOfH (bw prog w) D a:=by
 obtain⟨o,i,j,k,l,p,q,r,t⟩:=g;exact⟨o,i,j,e o k,l,p,q,fun x hx=>sj (r x hx) m,t⟩
theorem Cq{R:Result->Shared->Prop}(hh:A.handled=none)(hu:A.units+14<cLine){D it l:Addr}{items:Array Value}{ps:List (TK×Addr×Value)}(C:D≠it)(U:l≠it)(Y:l≠D)(a7:ps.length=items.size):
  ∀(n i:Nat) (s:Shared) (a:List (TK×Addr×Value)),items.size-i=n->i<=items.size->a.length+(items.size-i)<=ak->s.heap.IsListIter it l i->s.heap.IsList l items->s.heap.DictOfH (bw prog w) D a ->
   (∀(j:Nat) (u:Value) (x:TK×Addr×Value),items[j]?=some u->ps[j]?=some x->FF prog w s.heap u x) ->
   (∀y tk,y.DictOfH (bw prog w) D (storeAll a (ps.drop i))->(∀b o,b≠D->b≠it->s.heap.get? b=some o->y.get? b=some o)->R (.ok (.ret .none)) { s with heap:=y,toks:=tk }) ->
   zzl86 (model prog w) A (.builtin "dict.update.loop" ⟨[.ref D,.ref it,rawInt i,.none],[]⟩) R s:=by
 intro n
 induction n with
 |zero =>
  intro i s a hn hi hz p Q T hp hR;have e:i=items.size:=by omega
  subst e;refine wq fQ ?_;rw[wo cw _];show wpAny _ A.in1 (pyNext (.ref it) >>= _) _ _ s;refine ah (wpAny_pyNext_list_end hh p Q (by simp) fun y eb=>?_);show wpAny _ _ (bX.Dict.addKeywords D [] >>= _) _ _ _;refine ah (aw (aw ?_));have G:∀b o,b≠it->s.heap.get? b=some o->y.get? b=some o:=fun b o hb e=>eb b o hb e;have H:y.DictOfH (bw prog w) D a:=sM T (fun o e=>G D o C e) fun b o items n e c d=>G b o (by
   rintro rfl;obtain⟨o',f,h,_⟩:=p;rw[e]at f;cases f;rw[c]at h;simp at h) e
  have q:=hR y s.toks (by rw[tf (by omega)];exact H) fun b o _ hb e=>G b o hb e;exact q
 |succ n ih =>
  intro i s a hn hi hz p Q T hp hR;have I:i<items.size:=by omega
  refine wq fQ ?_;rw[wo cw _];show wpAny _ A.in1 (pyNext (.ref it) >>= _) _ _ s;have J:items[i]?=some items[i]:=by simp[I]
  have hk:ps[i]?=some ps[i]:=fJ (by omega);obtain⟨t,eu,ht,ab⟩:=hp i _ _ J hk;refine ah (wpAny_pyNext_list_item p Q (x:=items[i]) J fun m L al=>?_);rw[eu];have g:gJ it s.heap m:=al;have z:∀b o,s.heap.get? b=some o->o.cls=.type "tuple"->b≠it:=by
   rintro b o e c rfl;obtain⟨o',f,h,_⟩:=p;rw[e]at f;cases f;rw[c]at h;simp at h
  have nD:∀b o,s.heap.get? b=some o->o.cls=.type "tuple"->b≠D:=by
   rintro b o e c rfl;obtain⟨o',_,_,f,h,_⟩:=T;rw[e]at f;cases f;have:=h.1;rw[c]at this;simp at this
  have nt:t≠it:=by
   obtain⟨o,M,N,_⟩:=ht;exact z t o M N
  have O:m.IsTuple t #[.ref ps[i].2.1,ps[i].2.2]:=ht.extBut g.extBut nt;have an:s_ { s with heap:=m } (.ref t) "tuple":=O.typeIs (s:={ s with heap:=m });obtain⟨ot,ap,a8,a9,as⟩:=id O;refine ah (iy ?_);refine ah (wpAny_tryCatch ?_);unfold bX.Dict.pairItems;refine ah (sZ an ?_);rw[if_pos (by decide)];refine ah (kN ap as (aw ?_));show wpAny _ _ (jz [.ref ps[i].2.1,ps[i].2.2] (dictSet D (.ref ps[i].2.1) ps[i].2.2)) _ _ _;have m1:∀b o items n,s.heap.get? b=some o->o.cls=.type "tuple"->o.data=.seq items n->m.get? b=some o:=fun b o _ _ e c _=>(g.2 b (z b o e c)).trans e;have aC:m.DictOfH (bw prog w) D a:=sM T (fun o e=>(g.2 D C).trans e) m1;refine iy (wpAny_dictSet_heap (knd:=bw prog w) (k:=ps[i].1) (by show A.units+1+8<cLine;omega) (sj ab m1) aC (fun B aT aX=>?_) (by omega));have v:gJ D m B:=aX;show wpAny _ _ (again _) _ _ _;refine aw ⟨wm cw _,?_⟩;have a0:m.IsList l items:=Q.extBut g.extBut U;have kp:∀b o,b≠D->b≠it->s.heap.get? b=some o->B.get? b=some o:=fun b o m B e=>v.extBut b o m (g.extBut b o B e);refine ih (i+1) _ (mN a ps[i].1 ps[i].2.1 ps[i].2.2) (by omega) I (by have:=yJ a ps[i].1 ps[i].2.1 ps[i].2.2;omega) (L.extBut v.extBut (dv C)) (a0.extBut v.extBut Y) aT (fun j u x m B=>?_) fun y tk H a4=>?_
  ·obtain⟨t2,e2,a5,a6⟩:=hp j u x m B;obtain⟨o,M,N,r⟩:=id a5;exact⟨t2,e2,⟨o,kp _ o (nD t2 o M N) (z t2 o M N) M,N,r⟩,sj a6 fun b o _ _ e c _=>kp b o (nD b o e c) (z b o e c) e⟩
  ·refine hR y tk ?_ fun b o m B e=>a4 b o m B (kp b o m B e);have ed:ps.drop i=ps[i]::ps.drop (i+1):=wk (by omega);rw[ed];exact H
theorem qH{l:Addr}{o:Obj}{items:Array Value}{n:Nat}{ps:List (TK×Addr×Value)}{Q:Zc}(U:A.handled=none)(hu:A.units+16<cLine)(Y:s.heap.get? l=some o)(L:o.cls=.type "list")(v:o.data=.seq items n)(M:o.dict=none)
  (N:ps.length=items.size) (hp:∀(j:Nat) (u:Value) (x:TK×Addr×Value),items[j]?=some u->ps[j]?=some x->FF prog w s.heap u x) (hz:items.size<=ak)
  (h:∀y tk,y.DictOfH (bw prog w) s.heap.objs.size (storeAll [] ps)->(∀b o,s.heap.get? b=some o->y.get? b=some o)->Q (.ref s.heap.objs.size) { s with heap:=y,toks:=tk }) :
  wpAny (model prog w) A (call (.type "dict") [.ref l]) Q E s:=by
 refine callType_codes (Q₁:=fun z k=>z=.ref s.heap.objs.size/\k={ s with heap:=s.heap.push { cls:=.type "dict",data:=.dict #[] } }) F.kt_called_dict (F.kt_typeCall_dict_1 _) F.entry_dict_init (kt_code_dict_new _ ⟨rfl,rfl⟩) ?_;rintro z k ⟨rfl,rfl⟩;have m:(s.heap.push { cls:=.type "dict",data:=.dict #[] }).DictOfH (bw prog w) s.heap.objs.size []:=Heap.DictOfH.new s.heap;have p:(s.heap.push { cls:=.type "dict",data:=.dict #[] }).get? l=some o:=aS _ Y;have B:l<s.heap.objs.size:=aI Y;have C:s_ { s with heap:=s.heap.push { cls:=.type "dict",data:=.dict #[] } } (.ref s.heap.objs.size) "dict":=m.typeIs;refine⟨C,F.args_dict_init_2 _ _,?_⟩;unfold bX.«dict.__init__»;refine ah ?_;unfold bX.Dict.selfAndRest;refine ah (tj C ?_);show wpAny _ _ (pure (s.heap.objs.size,[Value.ref l])) _ _ _;refine aw ?_;show wpAny _ _ (wj "dict.__init__" s.heap.objs.size (.ref l) [] .none) _ _ _;unfold wj;have O:s_ { s with heap:=s.heap.push { cls:=.type "dict",data:=.dict #[] } } (.ref l) "list":=⟨o,p,L⟩;refine ah (sZ O ?_);rw[if_pos (by decide)];refine ah (vF p L v M U fun q T k1=>?_);have f:∀b J,(s.heap.push { cls:=.type "dict",data:=.dict #[] }).get? b=some J->q.get? b=some J:=k1;rw[if_pos (by rfl:(none:Option Value).isNone=true)];refine ah (nW ?_);have G:q.IsList l items:=⟨o,f _ _ p,L,n,v⟩;refine ah (vg (s:={ s with heap:=q,toks:=T }) G ?_);have H:q.DictOfH (bw prog w) s.heap.objs.size []:=sM m (fun o e=>f _ o e) fun b o _ _ e _ _=>f b o e;have i:s.heap.objs.size<q.objs.size:=by
  obtain⟨od,es,ep,g,r⟩:=H;exact aI g
 refine aw ⟨wm cw _,?_⟩;refine Cq (A:=A.in1) (prog:=prog) (w:=w) U (by show A.units+1+14<cLine;omega) (D:=s.heap.objs.size) (it:=q.objs.size) (l:=l) (items:=items) (ps:=ps) (bM i) (bM (tw B i)) (bM B) N items.size 0 _ [] (wg _) (dA _) (by rw[kU];omega)
  ⟨_,cJ _ rfl,rfl,rfl⟩ (G.push _) (sM H (fun o e=>aS _ e) fun b o _ _ e _ _=>aS _ e) (fun j u x a b=>?_) fun y tk I kp=>?_
 ·obtain⟨t,e,ht,hk⟩:=hp j u x a b;obtain⟨ot,g,r⟩:=ht;exact⟨t,e,⟨ot,aS _ (f _ _ (aS _ g)),r⟩,sj hk fun b o _ _ e _ _=>aS _ (f _ _ (aS _ e))⟩
 ·rw[pI]at I;refine⟨rfl,h y tk I fun b J e=>kp b J (bM (aI e)) (bM (tw (aI e) i)) (aS _ (f _ _ (aS _ e)))⟩
end
def putAll(acc:List (TK×V))(kvs:List (TK×V)):List (TK×V):=kvs.foldl (fun a x=>fh a x.1 x.2) acc
theorem t6:∀(e a:List (TK×V)),(putAll a e).length<=a.length+e.length
 |[],a=>aK _
 |kv::e,a=>by
  have f:=t6 e (fh a kv.1 kv.2);have g:=i6 a kv.1 kv.2;show(putAll (fh a kv.1 kv.2) e).length<=_;rw[c_];omega
abbrev EF(K:Za):List V->Hp->VK->Prop:=fun xs H Q=>∃(l:Addr) (ts bs:Ze) (kvs:List (TK×V)),xs=[.ref l]/\av K H l (ts.map V.ref)/\ts.length=kvs.length/\bs.length=kvs.length /\
  (∀(j:Nat) (t b:Addr) (kv:TK×V),ts[j]?=some t->bs[j]?=some b->kvs[j]?=some kv->H t=some (.tup [.ref b,kv.2])/\rK K H kv.1 (.ref b)/\kv.1.depth<=8)/\∀p,H p=none->Q (.ref p) (upd H p (.dT (putAll [] kvs)))
theorem va{X:Cx}(hc:X.calm=true)(hu:X.A.units+16<cLine):fU X (.type "dict") (EF X.K):=by
 intro J4 s σ H xs us Q I r h;obtain⟨l,ts,bs,f,rfl,m,v,k,J,q⟩:=h;obtain⟨u,rfl,ru⟩:=vals1 r;cases ru;obtain⟨L,rv,⟨o,n,ho,M,N,O⟩,T⟩:=I.list m;have U:∀(ts bs:Ze) (f:List (TK×V)),ts.length=f.length->bs.length=f.length->(∀(j:Nat) (t b:Addr) (g:TK×V),ts[j]?=some t->bs[j]?=some b->f[j]?=some g->H t=some (.tup [.ref b,g.2])/\rK X.K H g.1 (.ref b)/\g.1.depth<=8)->∃ps:List (TK×Addr×Value),KT X.K H f ps/\∀(j:Nat) (t:Addr) (x:TK×Addr×Value),ts[j]?=some t->ps[j]?=some x->FF X.prog X.w s.heap (.ref t) x:=by
  intro ts
  induction ts with
  |nil =>
   intro bs f m _ _;cases f with
   |nil=>exact⟨[],.nil,fun j t g e=>by simp at e⟩
   |cons _ _=>cases m
  |cons t ts Y =>
   intro bs f m hb J;cases f with
   |nil=>cases m
   |cons g f =>
    cases bs with
    |nil=>cases hb
    |cons b bs =>
     obtain⟨ps,r1,r2⟩:=Y bs f (by simpa using m) (by simpa using hb) fun j t' b' ab a c d=>J (j+1) t' b' ab (by simpa using a) (by simpa using c) (by simpa using d);obtain⟨g1,g2,g3⟩:=J 0 t b g rfl rfl rfl;obtain⟨_,al,rt,p⟩:=(show bT X.prog X.w X.K H s.heap t (.tup [.ref b,g.2])from I.hok t _ g1);obtain⟨x,y,e,rx,ry⟩:=rt.two;subst e;cases(show x=Value.ref b from rx);refine⟨(g.1,b,y)::ps,.cons ⟨rfl,g2,g3,ry⟩ r1,fun j t' x' B C=>?_⟩;cases j with
     |zero =>
      simp at B C;subst B C;exact⟨t,rfl,p,xz I.hok I.kIn g2 g3⟩
     |succ j=>exact r2 j t' x' (by simpa using B) (by simpa using C)
 obtain⟨ps,D,pa⟩:=U ts bs f v k J;have E:=rv.length;rw[ai]at E;have an:=Paired.length D;have all:∀{f:List (TK×V)}{ps:List (TK×Addr×Value)},KT X.K H f ps->∀{acc:List (TK×V)}{acc':List (TK×Addr×Value)},KT X.K H acc acc'->KT X.K H (putAll acc f) (storeAll acc' ps):=by
  intro f ps r
  induction r with
  |nil=>exact fun a=>a
  |@cons p q ps qs h t Y =>
   intro acc acc' a;show KT X.K H (putAll (fh acc p.1 p.2) ps) (storeAll (mN acc' q.1 q.2.1 q.2.2) qs);refine Y ?_;rw[<-h.1];exact a.put p.1 h.2.1 h.2.2.1 h.2.2.2
 refine qH (prog:=X.prog) (w:=X.w) (ps:=ps) (I.ok.hd hc) hu ho M O N (by rw[bZ];omega) (fun j u x a b=>?_) (by rw[bZ,<-E];rw[ai]at T;exact T) fun h' tk hD kp=>?_
 ·have a':L[j]?=some u:=by simpa using a
  have hj:j<ts.length:=by
   have:=(bG.mp a').1;omega
  obtain⟨u',e1,r1⟩:=rv.get (i:=j) (x:=V.ref ts[j]) (by simp[hj]);rw[a']at e1;cases e1;cases(show u=Value.ref ts[j]from r1);exact pa j ts[j] x (by simp[hj]) b
 ·have hm:(putAll [] f).length<=ak:=by
   have B:=t6 f [];rw[kU]at B;rw[ai]at T;omega
  obtain⟨q',es,ep,hq,C,h3,h4,_,h5⟩:=hD;have G:=all D (acc:=[]) (acc':=[]) .nil;have fr:H s.heap.objs.size=none:=I.fresh;exact⟨.ref s.heap.objs.size,_,I.laid (o:=.dT (putAll [] f)) kp (aK _) ⟨hm,beq_eq_false_iff_ne.mpr (dv (bM I.big)),_,G.keeps fun c ys ec=>by rw[am (fun z=>by rw[z,fr]at ec;cases ec)];exact ec,q',es,ep,hq,C,h3,h4,h5⟩,rfl,q _ fr⟩
end L2
end

section
set_option Elab.async false
set_option linter.all false
set_option maxRecDepth 100000
namespace L2
open PySem PySem.Spec PyProof.Rows
section
variable{X:Cx}
theorem b9{l:List Expr}{p:Pos}{a:List Expr}{e:TE}{t:TA}(f:PE X (.List l p) e)(g:PA X a t):PA X (.List l p::a) (aq e t):=aQ f g rfl
theorem qsL(i:Nat){x:Str}{l:List Expr}{p e a:Pos}{f:TE}(g:X.N.Nodup)(h:PE X (.List l p) f)(hi:X.N[i]?=some x:=by rfl)(hx:Loc X.env.scope x:=by first|exact Or.inl rfl|exact Or.inr rfl)(hf:X.fn x=true∨X.env.scope.names.lookup x=some .local:=by first|exact .inl rfl|exact .inr rfl|assumption):
  PS X (.Assign [.Name x a] (.List l p) e) (a_ f (dI i)):=EJ g hi hx h rfl hf
end
end L2
end
set_option Elab.async false
set_option linter.all false
set_option maxRecDepth 100000
set_option maxHeartbeats 4000000
namespace Mum
open PySem PySem.Spec PyProof.Rows L2
def wO(K:Za):TS :=
 ax (df (aW (aE rGeI V0 (aE G9 (tC (.int 10)) (tC (.int 18))))) (bt V0) (bA))
 (ax (a_ (aE f6 (aE eN (aE eN (aE fM (aE f6 V0 (tC (.int 1000000007))) (tC (.int 69069))) (aE fM V1 (tC (.int 40503)))) (tC (.int 977))) (tC (.int 2147483629))) U2)
 (ax (a_ (aE f6 (aE eN (aE eN (aE fM V2 V2) (aE fM V1 (tC (.int 7919)))) (aE f6 V0 (tC (.int 65537)))) (tC (.int 2147483587))) U3)
 (ax (a_ (aE f6 (aE eN (aE eN (aE fM V3 V3) (aE fM V2 (tC (.int 31)))) (tC (.int 5))) (tC (.int 2147483563))) U4)
 (bt (aE eN (aE fM (aE eN (aE fM V2 (tC (.int 2147483659))) V3) (tC (.int 2147483693))) V4)))))
def xX:List Str:=["cell","at","one","two","three"]
def z5(K:Za):TS :=
 ax (a_ (cU (cY K) (au (F_ (CZ K) V0 (iW) (mF (tC (.int 12)))))) U1)
 (ax (eJ (uj K (au (F_ (CZ K) V0 (mF (tC (.int 12))) (mF (tC (.int 63)))))) (g6 K 2 (be U2 (be U3 (gR)))) (a_ (aE eN (aE (cj K) V1 (aE f6 V2 (tC (.int 12)))) V3) (Dh V1 (aE f6 V2 (tC (.int 12))) vB)))
 (bt (bj (dP V1 (tC (.int 0)) (tC (.int 0))))))
def AY:List Str:=["script","cells","k","cell"]
def zY(K:Za)(sp_law_spread:Sp):TS :=
 ax (df (aW (aE C0 (aE (cj K) V0 (tC (.int 2))) V1)) (ax (a_ (aE (cj K) V0 (tC (.int 1))) U2)
 (ax (a_ (tC (.int 0)) U3)
 (ax (df (aW (aE C0 V2 (cU (cu K) (au (aE (cj K) V0 (tC (.int 0))))))) (a_ (aE (cj K) (aE (cj K) V0 (tC (.int 0))) V2) U3) (df (aW (aE oJ (cU (cu K) (au (aE (cj K) V0 (tC (.int 0))))) (tC (.int 0)))) (a_ (aE f6 (aE (cj K) (aE (cj K) V0 (tC (.int 0))) (aE f6 (aE eN (aE fM V2 (tC (.int 5))) (tC (.int 3))) (cU (cu K) (au (aE (cj K) V0 (tC (.int 0))))))) (aE eN (aE G9 (tC (.int 10)) (tC (.int 17))) V2)) U3) (bA)))
 (ax (a_ (aE eN V2 (tC (.int 1))) (Dh V0 (tC (.int 1)) vB))
 (a_ (aO sp_law_spread (aG V3 V2)) (Dh V0 (tC (.int 2)) vB)))))) (bA))
 (ax (a_ (aE f6 (aE (cj K) V0 (tC (.int 2))) V1) U4)
 (ax (a_ (aE tX (aE (cj K) V0 (tC (.int 2))) V1) (Dh V0 (tC (.int 2)) vB))
 (bt V4)))
def AW:List Str:=["pen","many","at","cell","found"]
def yC(K:Za)(sp_law_take:Sp):TS :=
 ax (a_ (tC (.str "abcdefghijklmnopqrstuvwxyz")) U2)
 (ax (a_ (Af K "str" (G_ K) (tC (.str "")) (aq (dg 1 [2,0] (rB (au (tC (.int 7)))) U0 (jn) (aE As V1 (aO sp_law_take (aG V2 (tC (.int 26)))))) aN)) U3)
 (ax (a_ (aO sp_law_take (aG V0 (tC (.int 3)))) U4)
 (ax (a_ (aO sp_law_take (aG V0 (tC (.int 26)))) U5)
 (ax (a_ (aO sp_law_take (aG V0 (tC (.int 8)))) U6)
 (ax (a_ (bj (aN)) U7)
 (ax (eJ (rB (au V1)) U8 (ax (a_ (aE As V2 (aE f6 (aE eN V5 (aE fM (tC (.int 3)) V8)) (tC (.int 26)))) U9)
 (ax (a_ (F_ Gq V3 (iW) (mF (aE f6 (aE eN V6 (aE fM V8 (aE f6 V4 (tC (.int 2))))) (tC (.int 8))))) Jr)
 (ax (a_ (aE (cj K) (bj (dP (tC (.int 0)) (cU (cu K) (au Ih)) (aE tX (cU (cu K) (au Ih)) (tC (.int 2))))) V4) Jq)
 (dH (Af K "list" gF V7 (au (aE EG (aE EG (F_ Gq Ih (iW) (mF FM)) V9) (F_ Gq Ih (mF FM) (iW))))))))))
 (bt V7)))))))
def zF:List Str:=["pen","many","letters","base","way","turn","size","found","k","sign","part","at"]
def CA(K:Za):TS :=
 df (aW (aE (jB K true) V1 V0)) (dH (Af K "list" gF V0 (au V1))) (bA)
def Dw:List Str:=["doors","door"]
def pZ(K:Za)(sp_law_take:Sp)(sp_law_put:Sp):TS :=
 ax (a_ (bj (aN)) U5)
 (ax (a_ (aO sp_law_take (aG V0 (tC (.int 2)))) U6)
 (ax (eJ (uj K (au V3)) (g6 K 2 (be U7 (be U8 (gR)))) (ax (eJ (rB (aq (aE (cj K) (bj (aq (tC (.int 0)) (dP (tC (.int 1)) (tC (.int 1)) (tC (.int 2))))) (aO sp_law_take (aG V0 (tC (.int 4))))) aN)) U9 (ax (a_ (ca (aq (tC (.str "say")) (aq (aE (cj K) V2 (aO sp_law_take (aG V0 (cU (cu K) (au V2))))) aN))) Jr)
 (dH (aO sp_law_put (aq V5 (aq (ca (aq V8 (aq Ih (aq (aE (cj K) V3 (aO sp_law_take (aG V0 (cU (cu K) (au V3))))) aN)))) aN))))))
 (ax (eJ (bR K V1) Jq (eJ (rB (aq (aE (cj K) (bj (aq V4 (dP (tC (.int 1)) (tC (.int 1)) (tC (.int 2))))) (aO sp_law_take (aG V0 (tC (.int 4))))) aN)) U9 (dH (aO sp_law_put (aq V5 (aq (ca (aq V8 (aq (ca (aG (tC (.str "ask")) FM)) (aq (aE (cj K) V3 (aO sp_law_take (aG V0 (cU (cu K) (au V3))))) aN)))) aN))))))
 (ax (a_ (aE (cj K) (bj (aq (F_ (CZ K) V3 (mF (aE eN V7 (tC (.int 1)))) (iW)) (au (F_ (CZ K) V3 (iW) (mF V7))))) V6) U12)
 (df (uX (aW (aE (Gr K) V12 (bj (aN)))) (aW (aE EE (aO sp_law_take (aG V0 (tC (.int 3)))) (tC (.int 0))))) (dH (aO sp_law_put (aq V5 (aq (ca (aq V8 (aq (ca (au (tC (.str "still")))) (aq (aE (sD K) V12 (aO sp_law_take (aG V0 (cU (cu K) (au V12))))) aN)))) aN)))) (bA))))))
 (bt V5)))
def qN:List Str:=["pen","asks","says","rooms","full","doors","down","k","room","turn","sign","ask","later"]
def uQ(K:Za)(C_Machine:Addr)(sp_Machine_init:Sp):TS :=
 bt (BD C_Machine sp_Machine_init [] E0 (aq (cU (cY K) (au (aE (sD K) V0 (tC (.int 0))))) (aq (cU (cY K) (au (aE (sD K) V0 (tC (.int 1))))) (aq (cU (cY K) (au (aE (sD K) V0 (tC (.int 2))))) (aq (cU (cY K) (au (aE (sD K) V0 (tC (.int 3))))) aN)))))
def vc:List Str:=["told"]
def CC(K:Za):TS :=
 bt (rc (aE rNe V0 (tC (.str ""))) (rc (aE HG (cU (cu K) (au V0)) (tC (.int 8))) (cU (HH K) (au (dg 1 [] (IQ V0) U0 (jn) (aE rInS V0 (tC (.str "abcdefghijklmnopqrstuvwxyz"))))))))
def Dx:List Str:=["text"]
def CD(K:Za):TS :=
 ax (a_ (wW) U1)
 (ax (eJ (bR K V0) U2 (vA V1 V2 (tC (.bl true))))
 (bt V1))
def Dy:List Str:=["things","keys","thing"]
def mW(K:Za)(sp_is_name:Sp)(sp_as_keys:Sp):TS :=
 ax (df (aW (aE EE (cU (cu K) (au V0)) (tC (.int 0)))) (bt (tC (.int 0))) (bA))
 (ax (a_ (aO sp_as_keys (au V2)) U3)
 (ax (eJ (uj K (au V0)) (g6 K 2 (be U4 (be U5 (gR)))) (ax (df (BB (aW (aE EE V4 V1)) (BB (tB (Ga K V5 V3)) (wR (tB (aO sp_is_name (au V5)))))) (bt V4) (bA))
 (vA V3 V5 (tC (.bl true)))))
 (bt (tC .non))))
def nJ:List Str:=["names","most","taken","ahead","number","name"]
def wP(K:Za)(a_STILL:Addr):TS :=
 bt (aE lr (aE lr (dg 1 [] (bR K V0) U0 (jn) (ca (aG (tC (.str "ask")) V0))) (dg 1 [] (bR K V1) U0 (jn) (ca (aG (tC (.str "say")) V0)))) (bj (au (tC (.ref a_STILL)))))
def xY:List Str:=["asks","says"]
def mY(K:Za)(sp_as_keys:Sp):TS :=
 ax (a_ (aO sp_as_keys (au V1)) U3)
 (ax (a_ (Ae) U4)
 (ax (eJ (uj K (au V0)) (g6 K 2 (be U5 (be U6 (gR)))) (ax (df (BB (aW (aE EE V5 (tC (.int 2000)))) (tB (Ga K V6 V4))) (bt V5) (bA))
 (ax (df (BB (tB (sr K (aE (sD K) V6 (tC (.int 0))) V3)) (BB (aW (aE (jB K true) (aE (sD K) V6 (tC (.int 1))) V2)) (tB (sr K (aE (sD K) V6 (tC (.int 2))) V3)))) (bt V5) (bA))
 (vA V4 V6 (tC (.bl true))))))
 (bt (tC .non))))
def nK:List Str:=["doors","rooms","signs","own_rooms","ahead","number","door"]
def iR(K:Za):TS :=
 ax (a_ (Ae) U1)
 (ax (eJ (bR K V0) (g6 K 3 (be U2 (be U3 (be U4 (gR))))) (dH (Af K "list" gF (Af K "dict" BF V1 (aG (ca (aq V2 (au V3))) (bj (aN)))) (au V4))))
 (bt V1))
def iS:List Str:=["doors","goals","start","sign","goal"]
def tI(K:Za)(a_STILL:Addr):TS :=
 ax (a_ (wW) U2)
 (ax (a_ (bj (au V1)) U3)
 (ax (z9 (aW (aE oJ (cU (cu K) (au V3)) (tC (.int 0)))) (ax (a_ (IF K "list" II V3) U4)
 (eJ (IR K (tS K V0 (ca (aG V4 (tC (.ref a_STILL)))) (ca (aN)))) U5 (df (tB (sr K V5 V2)) (ax (vA V2 V5 (tC (.bl true)))
 (dH (Af K "list" gF V3 (au V5)))) (bA)))))
 (bt V2)))
def uD:List Str:=["goals","room","led","waiting","here","goal"]
def nX(K:Za):TS :=
 ax (eJ (uj K (au V0)) (g6 K 2 (be U2 (be U3 (gR)))) (df (tB (Ga K V3 (vx K V1 V3))) (bt V2) (bA)))
 (bt (tC .non))
def pc:List Str:=["rooms","led","number","room"]
def yz(K:Za):TS :=
 df (tB (BC V1)) (Eb) (bA)
def zB:List Str:=["part","number"]
def wM(K:Za)(sp_need_none:Sp)(sp_first_wrong_door:Sp)(sp_door_signs:Sp)(sp_first_wrong_name:Sp):TS :=
 ax (dH (aO sp_need_none (aG (tC (.str "asks")) (aO sp_first_wrong_name (dP V0 (tC (.int 4)) (bj (aN)))))))
 (ax (dH (aO sp_need_none (aG (tC (.str "says")) (aO sp_first_wrong_name (dP V1 (tC (.int 4)) V0)))))
 (ax (dH (aO sp_need_none (aG (tC (.str "rooms")) (aO sp_first_wrong_name (dP V2 (tC (.int 150)) (bj (aN)))))))
 (dH (aO sp_need_none (aq (tC (.str "doors")) (au (aO sp_first_wrong_door (dP V3 V2 (aO sp_door_signs (aG V0 V1))))))))))
def xW:List Str:=["asks","says","rooms","doors"]
def p9(K:Za):TS :=
 ax (a_ (wW) U2)
 (ax (eJ (bR K V0) U3 (vA V2 V3 (bj (aN))))
 (ax (eJ (bR K V1) U4 (dH (Af K "list" gF (vx K V2 (aE (sD K) V4 (tC (.int 0)))) (au V4))))
 (bt V2)))
def qQ:List Str:=["rooms","doors","leaving","room","door"]
def p7(K:Za):TS :=
 bt (cU (HH K) (aq (dg 1 [] (bR K V0) U0 (jn) (aE EE (aE (sD K) (aE (sD K) V0 (tC (.int 1))) (tC (.int 0))) (tC (.str "ask")))) aN))
def qO:List Str:=["doors"]
def m5(K:Za)(sp_need_none:Sp)(sp_first_led_round:Sp)(sp_led_by_still:Sp)(sp_goals_by_start_and_sign:Sp)(sp_as_keys:Sp)(sp_has_asks_alone:Sp)(sp_doors_by_start:Sp)(sp_need_parts:Sp):TS :=
 ax (dH (aO sp_need_parts (aq V1 (dP V2 V3 V4))))
 (ax (wZ K V0 (cU (cY K) (au V1)) "own_asks")
 (ax (wZ K V0 (cU (cY K) (au V2)) "own_says")
 (ax (wZ K V0 (cU (cY K) (au V3)) "own_rooms")
 (ax (wZ K V0 (cU (cY K) (au V4)) "own_doors")
 (ax (wZ K V0 (aO sp_doors_by_start (aG V3 V4)) "leaving")
 (ax (wZ K V0 (aO sp_as_keys (aq (dg 1 [0] (bR K V3) U0 (tB (aO sp_has_asks_alone (au (vx K (tO K V1 "leaving") V0)))) V0) aN)) "quiet")
 (ax (wZ K V0 (aO sp_goals_by_start_and_sign (au V4)) "sign_goals")
 (ax (wZ K V0 (cU (Gs K) (aq (dg 1 [0] (bR K V3) U0 (jn) (ca (aG V0 (aO sp_led_by_still (aq (tO K V1 "sign_goals") (au V0)))))) aN)) "still_led")
 (dH (aO sp_need_none (aG (tC (.str "still")) (aO sp_first_led_round (aq V3 (au (tO K V0 "still_led")))))))))))))))
def nM:List Str:=["self","asks","says","rooms","doors"]
def dU(p:Addr)(H H':Hp):Prop:=∀b o,H b=some o->b≠p->H' b=some o
theorem dU.refl(p:Addr)(H:Hp):dU p H H:=fun _ _ h _=>h
theorem dU.trans{p:Addr}{H e f:Hp}(a:dU p H e)(b:dU p e f):dU p H f:=fun c o h n=>b c o (a c o h n) n
theorem ac.exB{p:Addr}{H e:Hp}(a:ac H e):dU p H e:=fun b o h _=>a b o h
theorem dU.upd(p:Addr)(H:Hp)(o:HO):dU p H (upd H p o):=fun b u h n=>by rw[am n];exact h
theorem ac.new{H:Hp}{a:Addr}{o:HO}(h:H a=none):ac H (upd H a o):=fun b u e=>by rw[am (ag e h)];exact e
theorem dU.free{p:Addr}{H a:Hp}(e:dU p H a){u:HO}(f:a p=some u){l:Addr}(h:a l=none):H l=none:=by
 cases q:H l with
 |none=>rfl
 |some o =>
  by_cases z:l=p
  ·subst z;rw[f]at h;cases h
  ·rw[e l o q z]at h;cases h
theorem kp{H:Hp}{a b:Addr}{o x:HO}(h:H b=some o)(n:H a=none):upd H a x b=some o:=by rw[am (ag h n)];exact h
structure Cg(H:Hp)(p c:Addr)(at_ rest:Int)(ns:List Int):Prop where
 pen:H p=some (.lst [.ref c,.int at_,.int rest])
 cells:H c=some (.lst (ns.map V.int))
 at0:0<=at_
 rest0:0<=rest
theorem Cg.ne{H:Hp}{p c:Addr}{a r:Int}{g:List Int}(h:Cg H p c a r g):c≠p:=by
 intro e;have i:=h.pen;have f:=h.cells;rw[e,i]at f;injection f with f;injection f with f;cases g with
 |nil=>cases f
 |cons n g=>injection f with f;cases f
def gp(H:Hp)(p c:Addr):Prop:=∃a r ns,Cg H p c a r ns
theorem gp.ex{H H':Hp}{p c:Addr}(h:gp H p c)(e:ac H H'):gp H' p c:=by
 obtain⟨a,r,f,g,i,j,k⟩:=h;exact⟨a,r,f,e _ _ g,e _ _ i,j,k⟩
theorem gp.pen{H:Hp}{p c:Addr}(h:gp H p c):∃o,H p=some o:=by
 obtain⟨a,r,f,e,_⟩:=h;exact⟨_,e⟩
theorem gp.cell{H:Hp}{p c:Addr}(h:gp H p c):∃o,H c=some o:=by
 obtain⟨a,r,f,_,e,_⟩:=h;exact⟨_,e⟩
theorem gp.upd{H:Hp}{p c l:Addr}{o:HO}(h:gp H p c)(e:p≠l)(f:c≠l):gp (upd H l o) p c:=by
 obtain⟨a,r,g,i,j,k,m⟩:=h;exact⟨a,r,g,by rw[am e];exact i,by rw[am f];exact j,k,m⟩
theorem gp.nep{H:Hp}{p c l:Addr}(h:gp H p c)(a:H l=none):p≠l:=let⟨_,e⟩:=h.pen;ag e a
theorem gp.nec{H:Hp}{p c l:Addr}(h:gp H p c)(a:H l=none):c≠l:=let⟨_,e⟩:=h.cell;ag e a
theorem dU.new{p:Addr}{H:Hp}{a:Addr}{o:HO}(h:H a=none):dU p H (L2.upd H a o):=fun b u e _=>by rw[am (ag e h)];exact e
inductive lV (vs:List V)(H:Hp)(Q:VK)(E:XK):Prop
 |mk (c a:Int):(vs=[.int c,.int a])->(0<=a)->(∀r:Int,0<=r->Q (.int r) H)->lV  vs H Q E
theorem o7{i j:Int}(a:-(2 ^ 64)<j)(e:j<2 ^ 64):FL i j:=.inr ⟨a,e⟩
theorem CL{K:Za}{f:List V}{H:Hp}{Q:VK}{E:XK}(h:lV f H Q E):wO K (bQ Q) (start xX f) H:=by
 obtain⟨c,a,rfl,x,k⟩:=h;refine⟨_,rfl,_,_,rfl,rfl,⟨by decide,by decide,by decide⟩,_,_,rfl,rfl,_,rfl,?_⟩;refine qE (fun h=>?_) (fun _=>?_)
 ·refine⟨_,rfl,k _ ?_⟩;have:=of_decide_eq_true h;have e:((10:Int) ^ (18:Int).toNat)=1000000000000000000:=by decide
  omega
 ·have one:∀z:Int,0<=z % 2147483629/\z % 2147483629<2147483629:=fun z=>⟨pE _ (by decide),pD _ (by decide)⟩;have two:∀z:Int,0<=z % 2147483587/\z % 2147483587<2147483587:=fun z=>⟨pE _ (by decide),pD _ (by decide)⟩;have three:∀z:Int,0<=z % 2147483563/\z % 2147483563<2147483563:=fun z=>⟨pE _ (by decide),pD _ (by decide)⟩;refine⟨_,rfl,_,_,rfl,rfl,(by show(0:Int)<1000000007;decide),_,_,rfl,rfl,o7 (by decide) (by decide),_,rfl,_,_,rfl,rfl,o7 (by decide) (by decide),_,_,rfl,rfl,_,_,rfl,rfl,_,_,rfl,rfl,(by show(0:Int)<2147483629;decide),?_⟩;generalize l:(c % 1000000007 * 69069+a * 40503+977)=g;obtain⟨m,n⟩:=one g;generalize g % 2147483629=o at m n ⊢;refine⟨_,rfl,_,rfl,_,_,rfl,rfl,o7 (by omega) (by omega),_,rfl,_,_,rfl,rfl,o7 (by decide) (by decide),_,_,rfl,rfl,_,rfl,_,_,rfl,rfl,(by show(0:Int)<65537;decide),_,_,rfl,rfl,_,_,rfl,rfl,(by show(0:Int)<2147483587;decide),?_⟩;generalize p:(o * o+a * 7919+c % 65537)=i;obtain⟨s,t⟩:=two i;generalize i % 2147483587=q at s t ⊢;refine⟨_,rfl,_,rfl,_,_,rfl,rfl,o7 (by omega) (by omega),_,rfl,_,_,rfl,rfl,o7 (by decide) (by decide),_,_,rfl,rfl,_,_,rfl,rfl,_,_,rfl,rfl,(by show(0:Int)<2147483563;decide),?_⟩;generalize u:(q * q+o * 31+5)=j;obtain⟨v,w⟩:=three j;generalize j % 2147483563=r at v w ⊢;refine⟨_,rfl,_,_,rfl,rfl,o7 (by decide) (by decide),_,rfl,_,_,rfl,rfl,_,_,rfl,rfl,o7 (by decide) (by decide),_,rfl,_,_,rfl,rfl,k _ ?_⟩;omega
theorem Cd{ns:List Int}{a:Int}(e:0<=a)(g:a<ns.length):∃z,xR (ns.map V.int) a=some (.int z):=by
 obtain⟨n,rfl⟩:=kM e;have f:n<ns.length:=by omega
 exact⟨ns[n],cT (by simp[f])⟩
inductive eK (vs:List V)(H:Hp)(Q:VK)(E:XK):Prop
 |mk (p c:Addr) (m:Int):(vs=[.ref p,.int m])->(gp H p c)->(0<m)->(m<1073741824)->(∀(r:Int) (H':Hp),0<=r->r<m->gp H' p c->dU p H H'->Q (.int r) H')->eK  vs H Q E
theorem dX{H:Hp}{Q:VK}{E:XK}{p c:Addr}{m:Int}(e:gp H p c)(f:0<m)(g:m<1073741824)(k:∀(r:Int) (a:Hp),0<=r->r<m->gp a p c->dU p H a->Q (.int r) a):eK [.ref p,.int m] H Q E:=by
 exact⟨p,c,m,rfl,e,f,g,k⟩
theorem Gh{K:Za}{t:List V}{H:Hp}{Q:VK}{E:XK}(h:eK t H Q E):zY K lV (bQ Q) (start AW t) H:=by
 obtain⟨p,c,m,rfl,⟨a,r,ns,h⟩,j,l,k⟩:=h;have f:∀(H':Hp) (n u:Int) (x y:Option V),Cg H' p c n u ns->dU p H H' ->
   (ax (a_ (aE f6 (aE (cj K) V0 (tC (.int 2))) V1) U4) (ax (a_ (aE tX (aE (cj K) V0 (tC (.int 2))) V1) (Dh V0 (tC (.int 2)) vB)) (bt V4)))
    (bQ Q) [some (.ref p),some (.int m),x,y,none] H':=by
  intro H' n u x y g ex;refine⟨_,rfl,p,_,2,_,rfl,rfl,av.of g.pen,rfl,_,rfl,_,_,rfl,rfl,j,?_⟩;refine⟨_,rfl,p,_,2,_,rfl,rfl,av.of g.pen,rfl,_,rfl,_,_,rfl,rfl,⟨j,l⟩,_,rfl,p,_,_,_,rfl,rfl,g.pen,rfl,?_⟩;refine⟨_,rfl,k _ _ (pE _ (by omega)) (pD _ j) ⟨n,_,ns,aa,?_,g.at0,Int.ediv_nonneg g.rest0 (by omega)⟩ (ex.trans (dU.upd _ _ _))⟩;rw[am g.ne];exact g.cells
 refine⟨_,rfl,p,_,2,_,rfl,rfl,av.of h.pen,rfl,_,rfl,_,_,rfl,rfl,_,rfl,?_⟩;refine qE (fun B=>?_) (fun B=>?_)
 ·-- at=pen[1];cell=0;if at<len(pen[0])
  refine⟨_,rfl,p,_,1,_,rfl,rfl,av.of h.pen,rfl,?_⟩;have o:(V.int ((ns.map V.int).length:Nat))=V.int (ns.length:Nat):=by rw[ai]
  refine⟨_,rfl,_,rfl,p,_,0,_,rfl,rfl,av.of h.pen,rfl,.inl ⟨c,_,rfl,.inl (av.of h.cells),_,_,rfl,o,_,rfl,?_⟩⟩;refine qE (fun v=>?_) (fun v=>?_)
  ·obtain⟨z,s⟩:=Cd (ns:=ns) h.at0 (of_decide_eq_true v);refine⟨_,rfl,p,_,0,_,rfl,rfl,av.of h.pen,rfl,_,rfl,c,_,_,_,rfl,rfl,av.of h.cells,s,?_⟩;refine⟨_,rfl,_,_,rfl,rfl,_,rfl,p,_,_,_,rfl,rfl,h.pen,rfl,?_⟩;refine⟨_,rfl,_,rfl,_,_,rfl,h.at0,fun q i=>⟨_,rfl,p,_,_,_,rfl,rfl,aa,rfl,?_⟩⟩;rw[lU];refine f _ (a+1) q _ _ ⟨aa,by rw[am h.ne];exact h.cells,by have:=h.at0;omega,i⟩ (dU.upd _ _ _)
  ·refine⟨_,rfl,p,_,0,_,rfl,rfl,av.of h.pen,rfl,.inl ⟨c,_,rfl,.inl (av.of h.cells),_,_,o,rfl,_,rfl,?_⟩⟩;refine qE (fun w=>?_) (fun w=>?_)
   ·have A:(0:Int)<ns.length:=of_decide_eq_true w;obtain⟨z,s⟩:=Cd (ns:=ns) (a:=(a * 5+3) % (ns.length:Int)) (pE _ (by omega)) (pD _ A);refine⟨_,rfl,p,_,0,_,rfl,rfl,av.of h.pen,rfl,_,rfl,_,_,rfl,rfl,o7 (by decide) (by decide),_,_,rfl,rfl,_,rfl,p,_,0,_,rfl,rfl,av.of h.pen,rfl,.inl ⟨c,_,rfl,.inl (av.of h.cells),_,_,rfl,o,A,c,_,_,_,rfl,rfl,av.of h.cells,s,?_⟩⟩;refine⟨_,_,rfl,rfl,⟨by decide,by decide,by decide⟩,_,rfl,_,_,rfl,rfl,_,_,rfl,rfl,?_,?_⟩
    ·have e:((10:Int) ^ (17:Int).toNat)=100000000000000000:=by decide
     have:=h.at0;show(0:Int)<10 ^ (17:Int).toNat+a;omega
    refine⟨_,rfl,_,_,rfl,rfl,_,rfl,p,_,_,_,rfl,rfl,h.pen,rfl,?_⟩;refine⟨_,rfl,_,rfl,_,_,rfl,h.at0,fun q i=>⟨_,rfl,p,_,_,_,rfl,rfl,aa,rfl,?_⟩⟩;rw[lU];refine f _ (a+1) q _ _ ⟨aa,by rw[am h.ne];exact h.cells,by have:=h.at0;omega,i⟩ (dU.upd _ _ _)
   ·refine⟨_,rfl,_,_,rfl,rfl,_,rfl,p,_,_,_,rfl,rfl,h.pen,rfl,?_⟩;refine⟨_,rfl,_,rfl,_,_,rfl,h.at0,fun q i=>⟨_,rfl,p,_,_,_,rfl,rfl,aa,rfl,?_⟩⟩;rw[lU];refine f _ (a+1) q _ _ ⟨aa,by rw[am h.ne];exact h.cells,by have:=h.at0;omega,i⟩ (dU.upd _ _ _)
 ·exact f H a r _ _ h (dU.refl _ _)
inductive sw(K:Za)(vs:List V)(H:Hp)(Q:VK)(E:XK):Prop
 |mk (a:Addr) (ns:List Int):(vs=[.ref a])->(av K H a (ns.map V.int))->(ns.length<=63)->(∀(p c:Addr) (H':Hp),H p=none->gp H' p c->ac H H'->Q (.ref p) H')->sw K vs H Q E
theorem vR(a:List Int)(lo hi:Option Int):∃e:List Int,kJ (a.map V.int) lo hi=e.map V.int/\e.length=(kJ (a.map V.int) lo hi).length:=by
 refine⟨(a.drop (HT.sIx (a.map V.int).length 0 lo)).take (HT.sIx (a.map V.int).length (a.map V.int).length hi-HT.sIx (a.map V.int).length 0 lo),?_,?_⟩
 ·unfold kJ;rw[List.map_take,List.map_drop]
 ·unfold kJ;rw[aY,aY,jh,jh,ai]
theorem Gj{K:Za}{vs:List V}{H:Hp}{Q:VK}{E:XK}(h:sw K vs H Q E):z5 K (bQ Q) (start AY vs) H:=by
 obtain⟨a,s,rfl,hs,hn,k⟩:=h;obtain⟨D,e0,l0⟩:=vR s none (some 12);obtain⟨B,e1,l1⟩:=vR s (some 12) (some 63);have G:B≠[]->D.length=12:=by
  intro L;have l:0<B.length:=by cases B with|nil=>exact absurd rfl L|cons _ _=>simp
  rw[l1]at l;rw[l0];unfold kJ at l ⊢;rw[aY,jh,ai]at l;rw[aY,jh,ai];have s1:HT.sIx s.length 0 (some 12)=min 12 s.length:=HT.sIx_nat _ _ 12;have s2:HT.sIx s.length s.length (some 12)=min 12 s.length:=HT.sIx_nat _ _ 12;rw[HT.sIx_none,s2];rw[s1]at l;omega
 refine⟨_,rfl,_,rfl,a,_,rfl,hs,fun q hq=>.inl ⟨q,_,rfl,.inl (av.of aa),fun c C=>?_⟩⟩;rw[e0]at C ⊢;have M:H c=none:=by
  have:c≠q:=fun z=>by subst z;rw[aa]at C;cases C
  rw[am this]at C;exact C
 have hS:ac H (upd (upd H q (.lst (D.map V.int))) c (.lst (D.map V.int))):=(ac.new hq).trans (ac.new C);refine⟨_,rfl,_,rfl,_,rfl,a,_,rfl,hS.seq hs,fun r N=>⟨r,rfl,⟨_,av.of aa⟩,?_⟩⟩;rw[e1];have O:c≠r:=ag aa N
 let T:Nat->L2.St->Hp->Prop:=fun i σ w=>Il fun(j:List Int) (x y:Option V)=>Ja (σ=[some (.ref a),some (.ref c),x,y]) (w c=some (.lst (j.map V.int))) (j.length=D.length) (w r=some (.lst (B.map V.int))) (ac H w)
 refine lF (xs:=B.map V.int) T
  ⟨D,none,none,rfl,kp aa N,rfl,aa,hS.trans (ac.new N)⟩ (fun i σ w _ zq=>by obtain⟨j,x,y,_,_,_,h,_⟩:=zq;exact av.of h) ?_ ?_
 ·rintro i x σ w t hi ⟨j,u,v,rfl,f,I,J,m⟩ U;have A:i<B.length:=by
   have:=(bG.mp hi).1;rwa[ai]at this
  have al:=G (fun z=>by rw[z]at A;simp at A);obtain⟨z,rfl⟩:∃z,x=V.int z:=by
   rw[cH,fJ A]at hi;exact⟨_,(eM hi).symm⟩
  have g:upd w t (.tup [.int i,.int z]) c=some (.lst (j.map V.int)):=kp f U;have n:(i:Int) % 12=((i % 12:Nat):Int):=by omega
  have Y:i % 12<j.length:=by omega
  refine⟨t,_,rfl,cr.of aa,rfl,_,_,rfl,_,_,rfl,rfl,?_⟩;have ab:xR (j.map V.int) ((i:Int) % 12)=some (.int j[i % 12]):=by rw[n];exact cT (by simp[Y])
  refine⟨_,rfl,_,rfl,_,_,rfl,rfl,(by show(0:Int)<12;decide),c,_,_,_,rfl,rfl,av.of g,ab,_,rfl,_,_,rfl,rfl,_,rfl,_,rfl,_,_,rfl,rfl,(by show(0:Int)<12;decide),c,_,_,i % 12,rfl,rfl,g,?_,?_⟩
  ·rw[n];unfold Hh;rw[if_pos (by omega),if_pos (by rw[ai];omega)];rw[ji]
  ·refine⟨j.set (i % 12) (j[i % 12]+z),_,_,rfl,?_,by rw[List.length_set];exact I,?_,?_⟩
   ·rw[aa,List.map_set]
   ·rw[am O.symm];exact kp J U
   ·intro b o e;rw[am (ag e M)];exact kp (m b o e) U
 ·rintro σ w ⟨j,x,y,rfl,f,I,J,m⟩;refine⟨_,rfl,(by show 3<=ak;decide),fun p hp=>k p c _ (m.free hp) ⟨0,0,j,aa,kp f hp,Int.le_refl _,Int.le_refl _⟩ (m.trans (ac.new hp))⟩
def uf(c:Nat):Prop:=97<=c/\c<=122
structure nO(w:Str):Prop where
 lo:1<=w.length
 hi:w.length<=8
 al:∀c∈w.cps.toList,uf c
theorem Cf:∀n:Nat,n<26->(("abcdefghijklmnopqrstuvwxyz":Str).cps.toList)[n]?=some (97+n):=by decide +kernel
theorem Ce:("abcdefghijklmnopqrstuvwxyz":Str).length<=ak:=by decide +kernel
theorem FE{r:Int}(a:0<=r)(e:r<26):xR (("abcdefghijklmnopqrstuvwxyz":Str).cps.toList) r=some (97+r.toNat):=by
 obtain⟨n,rfl⟩:=kM a;rw[ji];exact cT (Cf n (by omega))
theorem u6(f:List Nat):∀a:Array Nat,((f.map fun c=>(⟨#[c]⟩:Str)).foldl (fun a p=>a++("":Str).cps++p.cps) a).toList=a.toList++f:=by
 have e:("":Str).cps=#[]:=by decide +kernel
 induction f with
 |nil=>intro a;simp
 |cons c f g =>
  intro a;rw[cg,List.foldl_cons,g,e];simp
theorem AF(a:List Nat):(wr "" (a.map fun c=>(⟨#[c]⟩:Str))).cps.toList=a:=by
 unfold wr bX.Str.glued;cases a with
 |nil=>rfl
 |cons c a =>
  rw[cg];show((a.map fun c=>(⟨#[c]⟩:Str)).foldl (fun e p=>e++("":Str).cps++p.cps) #[c]).toList=_;rw[u6]
  rfl
theorem Ge{a b:Str}(h:a.cps.toList=b.cps.toList):a=b:=by
 cases a with|mk x=>cases b with|mk y=>exact congrArg Str.mk (Array.toList_inj.mp h)
theorem eX(a:Str):a.length=a.cps.toList.length:=by simp[Str.length]
theorem xS(a b:Str):(a++b).cps.toList=a.cps.toList++b.cps.toList:=by
 show(a.cps++b.cps).toList=_;simp
theorem Fy(z:Str)(m:Nat):(ur z none (some (m:Int))).cps.toList=z.cps.toList.take m:=by
 unfold ur;rw[HT.sIx_none,HT.sIx_nat,pI,wg,eX];show List.take _ _=_;rw[List.take_eq_take_iff];omega
theorem Fz(z:Str)(m:Nat):(ur z (some (m:Int)) none).cps.toList=z.cps.toList.drop m:=by
 unfold ur;rw[HT.sIx_none,HT.sIx_nat,eX];show List.take _ _=_;rw[List.take_of_length_le (by rw[jh];omega)];by_cases h:m<=z.cps.toList.length
 ·rw[Nat.min_eq_left h]
 ·rw[Nat.min_eq_right (by omega),List.drop_length,tf (by omega)]
def eP(way size k:Nat):Nat:=(size+k * (way % 2)) % 8
def zM(way m:Nat):Nat:=if way=0 then 0 else if way=1 then m else m / 2
def mE(b:List Nat)(way turn size k:Nat):List Nat :=
 (b.take (eP way size k)).take (zM way (eP way size k))++[97+(turn+3 * k) % 26]++(b.take (eP way size k)).drop (zM way (eP way size k))
def yq(b:List Nat)(way turn size k:Nat):Str:=⟨(mE b way turn size k).toArray⟩
theorem pU{b:List Nat}(f:b.length=7)(e turn a k:Nat):(mE b e turn a k).length=eP e a k+1:=by
 have g:eP e a k<8:=mJ _ (by decide);unfold mE;rw[aV,aV,aY,jh,aY,f];have:zM e (eP e a k)<=eP e a k:=by unfold zM;split;omega;split;omega;omega
 simp;omega
theorem FS{b:List Nat}(i:b.length=7)(g:∀c∈b,uf c)(f turn a k:Nat):nO (yq b f turn a k):=by
 have j:eP f a k<8:=mJ _ (by decide);have h:=pU i f turn a k;have e:(yq b f turn a k).cps.toList=mE b f turn a k:=by simp[yq]
 refine⟨?_,?_,?_⟩
 ·rw[eX,e];omega
 ·rw[eX,e];omega
 ·rw[e];intro c hc;unfold mE at hc;rcases bE.mp hc with hc|hc
  ·rcases bE.mp hc with hc|hc
   ·exact g c (sS (sS hc))
   ·have:c=97+(turn+3 * k) % 26:=by simpa using hc
    subst this;have:(turn+3 * k) % 26<26:=mJ _ (by decide);exact⟨by omega,by omega⟩
  ·exact g c (sS (List.mem_of_mem_drop hc))
theorem DQ{b:List Nat}(g:b.length=7){f turn a:Nat}(t:f<3){j k:Nat}(u:j<26)(v:k<26)(h:yq b f turn a j=yq b f turn a k):j=k:=by
 have o:∀i,eP f a i<8:=fun i=>mJ _ (by decide);have e:mE b f turn a j=mE b f turn a k:=by
  have:=congrArg (fun s=>Str.cps s |>.toList) h;simpa[yq]using this
 have p:eP f a j=eP f a k:=by
  have:=congrArg List.length e;rw[pU g,pU g]at this;omega
 have q:97+(turn+3 * j) % 26=97+(turn+3 * k) % 26:=by
  have l:∀i,zM f (eP f a i)<=eP f a i:=fun i=>by unfold zM;split;omega;split;omega;omega
  have get:∀i,(mE b f turn a i)[zM f (eP f a i)]?=some (97+(turn+3 * i) % 26):=by
   intro i;unfold mE;have r:((b.take (eP f a i)).take (zM f (eP f a i))).length=zM f (eP f a i):=by
    rw[aY,aY,g];have:=o i;have:=l i;omega
   rw[ef,wH (by omega),r,Nat.sub_self]
   rfl
  have m:=get j;have n:=get k;rw[e,p]at m;rw[m]at n;exact eM n
 omega
def e_(ws:Zb):Prop:=ws.Nodup/\∀w∈ws,nO w
def jY(b:List Nat)(way turn size n:Nat):List Str:=(mC n).map (yq b way turn size)
theorem zQ{b:List Nat}(g:b.length=7)(i:∀c∈b,uf c){a turn e n:Nat}(l:a<3)(q:n<=26):e_ (jY b a turn e n):=by
 refine⟨?_,fun w m=>?_⟩
 ·unfold jY;rw[List.nodup_iff_pairwise_ne,iw];refine(List.nodup_range (n:=n)).imp_of_mem ?_;intro j k o p f h;exact f (DQ g l (by have:=List.mem_range.mp o;omega) (by have:=List.mem_range.mp p;omega) h)
 ·obtain⟨k,_,rfl⟩:=aL.mp m;exact FS g i _ _ _ _
inductive lg (vs:List V)(H:Hp)(Q:VK)(E:XK):Prop
 |mk (p c:Addr) (n:Nat):(vs=[.ref p,.int n])->(gp H p c)->(n<=26)->(∀(l:Addr) (ws:Zb) (H':Hp),e_ ws->ws.length=n->H l=none->H' l=some (.lst (ws.map V.str))->gp H' p c->dU p H H'->Q (.ref l) H')->lg  vs H Q E
theorem Et{K:Za}{A:List V}{H:Hp}{Q:VK}{E:XK}(h:lg A H Q E):yC K eK (bQ Q) (start zF A) H:=by
 obtain⟨p,c,n,rfl,C,hn,k⟩:=h;refine⟨rfl,7,rfl,by decide,by decide,fun l I=>?_⟩
 let as:Nat->List V->Hp->Prop:=fun i A u=>∃o:List Nat,A=o.map (fun c=>V.str ⟨#[c]⟩)/\o.length=i/\(∀c∈o,uf c)/\gp u p c/\dU p H u/\u l=some (.lst A)
 refine AM (lo:=0) (n:=Int.toNat 7) as
  ⟨[],rfl,rfl,(fun _ h=>nomatch h),C.ex (ac.new I),dU.new I,aa⟩ (fun i A u _ zq=>by obtain⟨_,_,_,_,_,_,h⟩:=zq;exact h) ?_ ?_
 rotate_left
 ·rintro i A u hi ⟨o,rfl,g,w,v,aC,aT⟩;have J:=C.nep I;have aX:=C.nec I;refine gN (rN ?_);refine⟨_,rfl,_,rfl,dX v (by decide) (by decide) fun r H2 h0 h1 D s=>⟨_,r,_,rfl,rfl,Ce,FE h0 h1,?_⟩⟩;have a0:=s l _ aT J.symm;refine⟨a0,by rw[ai,g];exact ar (by omega),r6 hi ⟨o++[97+r.toNat],by rw[aF];rfl,by rw[aV,g];rfl,?_,D.upd J aX,?_,aa⟩⟩
  ·intro x hc;rcases bE.mp hc with hc|hc
   ·exact w x hc
   ·have:x=97+r.toNat:=by simpa using hc
    subst this;exact⟨by omega,by omega⟩
  ·intro b o' e nb;rw[am (ag e I)];exact s b o' (aC b o' e nb) nb
 ·rintro A H1 ⟨o,rfl,g,w,a4,L,a5⟩;refine⟨"",l,o.map fun c=>(⟨#[c]⟩:Str),rfl,rfl,av.of (by rw[a5,pC];rfl),?_,?_⟩
  ·have e0:("":Str).length=0:=by decide +kernel
   rw[e0,Nat.mul_zero,pC];have:∀o:List Nat,(o.map ((fun x=>Str.length x) ∘ fun c=>(⟨#[c]⟩:Str))).sum=o.length:=by
    intro o
    induction o with
    |nil=>rfl
    |cons c o ih=>rw[cg,List.sum_cons,ih,c_];show 1+_=_;omega
   rw[this,g];decide
  refine⟨_,rfl,dX a4 (by decide) (by decide) fun bd H2 w0 w1 D s=>?_⟩;refine⟨_,rfl,dX D (by decide) (by decide) fun turn H3 t0 t1 a6 M=>?_⟩;refine⟨_,rfl,dX a6 (by decide) (by decide) fun bb H4 s0 s1 N O=>?_⟩;have T:dU p H H4:=((L.trans s).trans M).trans O;obtain⟨j,rfl⟩:=kM w0;obtain⟨G,rfl⟩:=kM t0;obtain⟨sz,rfl⟩:=kM s0;have hb:=AF o;generalize wr "" (o.map fun c=>(⟨#[c]⟩:Str))=base at hb ⊢;refine⟨(by show 0<=ak;decide),fun f hf=>?_⟩;obtain⟨op,a7⟩:=N.pen;have y:H f=none:=T.free a7 hf;have U:=C.nep y;have Y:=C.nec y;refine⟨_,rfl,n,rfl,by omega,by omega,jH (lo:=0) (n:=((n:Int)).toNat) (fun i σ u=>∃(a b c' d:Option V),σ=[some (.ref p),some (.int n),some (.str "abcdefghijklmnopqrstuvwxyz"),some (.str base),some (.int j),some (.int G),some (.int sz),some (.ref f),a,b,c',d] /\
   gp u p c/\dU p H u/\u f=some (.lst ((jY o j G sz i).map V.str)))
   ⟨_,_,_,_,rfl,N.upd U Y,T.trans (dU.new hf),aa⟩ ?_ ?_⟩
  ·rintro i σ u hi ⟨a,b,c',d,rfl,v,t,z⟩;have bi:i<n:=by omega
   have bl:j<3:=by omega
   have a8:((G:Int)+3 * (0+(i:Int))) % 26=(((G+3 * i) % 26:Nat):Int):=by omega
   refine⟨_,rfl,_,rfl,_,rfl,_,_,rfl,rfl,.inl ⟨by decide,by decide⟩,_,_,rfl,rfl,_,_,rfl,rfl,(by show(0:Int)<26;decide),_,_,_,rfl,rfl,Ce,FE (pE _ (by decide)) (pD _ (by decide)),?_⟩;have ab:base.length<=ak:=by rw[eX,hb,g];decide
   have e8:((sz:Int)+(0+(i:Int)) * ((j:Int) % 2)) % 8=((eP j sz i:Nat):Int):=by
    unfold eP;have:j=0∨j=1∨j=2:=by omega
    rcases this with rfl|rfl|rfl<;>simp<;>omega
   refine⟨_,rfl,_,rfl,_,rfl,_,rfl,_,_,rfl,rfl,(by show(0:Int)<2;decide),_,_,rfl,rfl,.inr ⟨by omega,by omega⟩,_,_,rfl,rfl,_,_,rfl,rfl,(by show(0:Int)<8;decide),_,rfl,base,rfl,ab,?_⟩;rw[e8];have m:=Fy base (eP j sz i);rw[hb]at m;generalize ur base none (some ((eP j sz i:Nat):Int))=part at m ⊢;have h8:eP j sz i<8:=mJ _ (by decide);have B:part.length=eP j sz i:=by rw[eX,m,aY,g];omega
   have pz:part.length<=ak:=by rw[B];exact cy (ar (by omega))
   refine⟨_,rfl,.inr ⟨part,rfl,pz,_,rfl,.inr ⟨part,rfl,pz,_,_,rfl,rfl,⟨by decide,by decide⟩,(by show 3<=ak;decide),fun q hq=>?_⟩⟩⟩;have al:H q=none:=by
    obtain⟨bm,an⟩:=v.pen;exact t.free an hq
   have a9:xR [V.int 0,V.int (part.length:Nat),V.int ((part.length:Int) / 2)] (j:Int)=some (.int (zM j (eP j sz i):Nat)):=by
    rw[B];have:j=0∨j=1∨j=2:=by omega
    rcases this with rfl|rfl|rfl
    ·rfl
    ·rfl
    ·show some (V.int (((eP 2 sz i:Nat):Int) / 2))=some (V.int ((zM 2 (eP 2 sz i):Nat):Int));have:zM 2 (eP 2 sz i)=eP 2 sz i / 2:=rfl;rw[this];congr 2
   refine⟨_,rfl,q,_,_,_,rfl,rfl,av.of aa,a9,?_⟩;have ap:upd u q (.lst [V.int 0,V.int (part.length:Nat),V.int ((part.length:Int) / 2)]) f=some (.lst ((jY o j G sz i).map V.str)):=kp z hq;have c1:=Fy part (zM j (eP j sz i));have c2:=Fz part (zM j (eP j sz i));have l1:(ur part none (some ((zM j (eP j sz i):Nat):Int))).length<=8:=by rw[eX,c1,aY,m,aY,g];omega
   have l2:(ur part (some ((zM j (eP j sz i):Nat):Int)) none).length<=8:=by rw[eX,c2,jh,m,aY,g];omega
   refine⟨_,rfl,.inl ⟨rfl,_,av.of ap⟩,_,rfl,_,rfl,_,rfl,part,rfl,pz,_,rfl,_,_,rfl,rfl,?_,_,rfl,_,rfl,_,rfl,part,rfl,pz,_,_,rfl,rfl,?_,f,_,_,rfl,rfl,ap,?_,?_⟩
   ·have:Str.length ⟨#[97+(((G:Int)+3 * (0+(i:Int))) % 26).toNat]⟩=1:=rfl;rw[this];exact cy (ar (by omega))
   ·rw[eX,xS,aV,<-eX,<-eX];have:Str.length ⟨#[97+(((G:Int)+3 * (0+(i:Int))) % 26).toNat]⟩=1:=rfl;rw[this];exact cy (ar (by omega))
   ·rw[ai];unfold jY;rw[ai,List.length_range];exact ar (by omega)
   ·refine⟨_,_,_,_,rfl,(v.upd (C.nep al) (C.nec al)).upd U Y,?_,?_⟩
    ·intro b' o' e nb;rw[am (ag e y)];exact kp (t b' o' e nb) hq
    ·rw[aa];unfold jY;rw[List.range_succ,aF,aF];congr 3;show[V.str _]=[V.str _];congr 2;refine Ge ?_;rw[xS,xS,c1,c2,m,a8,ji];simp[yq,mE]
  ·rintro σ u ⟨a,b,c',d,rfl,v,t,z⟩;have en:((n:Int)).toNat=n:=by omega
   rw[en]at z;exact⟨_,rfl,k f _ u (zQ g w (by omega) hn) (by unfold jY;rw[ai,List.length_range]) y z v t⟩
structure ao where
 a:Str
 sg:List Str
 b:Str
deriving DecidableEq
def SignAt(H:Hp)(s:Addr)(sg:Zb):Prop:=H s=some (.tup (sg.map V.str))
def fS(H:Hp)(t:Addr)(d:ao):Prop:=∃s,H t=some (.tup [.str d.a,.ref s,.str d.b])/\SignAt H s d.sg
def pd(H H':Hp):Prop:=∀b xs,H b=some (.tup xs)->H' b=some (.tup xs)
theorem fS.kt{H H':Hp}{t:Addr}{d:ao}(k:pd H H')(h:fS H t d):fS H' t d:=by
 obtain⟨s,a,e⟩:=h;exact⟨s,k _ _ a,k _ _ e⟩
theorem dU.kt{p:Addr}{H a:Hp}{xs:List V}(e:dU p H a)(f:H p=some (.lst xs)):pd H a:=fun b g h=>e b _ h (fun z=>by rw[z,f]at h;cases h)
theorem ac.kt{H a:Hp}(e:ac H a):pd H a:=fun b f h=>e b _ h
theorem pd.trans{H e f:Hp}(a:pd H e)(b:pd e f):pd H f:=fun x xs h=>b x xs (a x xs h)
theorem gm{H:Hp}{l:Addr}{xs:List V}{o:HO}(h:H l=some (.lst xs)):pd H (upd H l o):=fun b a e=>by
 rw[am (fun z=>by rw[z,h]at e;cases e)];exact e
abbrev cF(H:Hp)(ts:Ze)(ds:List ao):Prop:=Paired (fS H) ts ds
theorem Paired.get{α β:Type}{R:α->β->Prop}{xs:List α}{a:List β}{i:Nat}{y:β}(g:Paired R xs a)(h:a[i]?=some y):∃x,xs[i]?=some x/\R x y:=by
 induction g generalizing i with
 |nil=>cases h
 |cons r _ e =>
  cases i with
  |zero=>injection h with h;subst h;exact⟨_,rfl,r⟩
  |succ i=>exact e h
theorem Paired.getL{α β:Type}{R:α->β->Prop}{xs:List α}{a:List β}{i:Nat}{x:α}(g:Paired R xs a)(h:xs[i]?=some x):∃y,a[i]?=some y/\R x y:=by
 induction g generalizing i with
 |nil=>cases h
 |cons r _ e =>
  cases i with
  |zero=>injection h with h;subst h;exact⟨_,rfl,r⟩
  |succ i=>exact e h
theorem cF.kt{H H':Hp}{a:Ze}{e:List ao}(k:pd H H')(h:cF H a e):cF H' a e:=Paired.mapP h fun _ _ r=>r.kt k
theorem upd_id{H:Hp}{a:Addr}{o:HO}(h:H a=some o):upd H a o=H:=by
 funext b;by_cases e:b=a
 ·subst e;rw[aa,h]
 ·rw[am e]
def cq(x:Str):DT:=.k (.inr x)
def u8(d:ao):DT:=.t [cq d.a,.t (d.sg.map cq),cq d.b]
theorem oF{x y:Str}(h:cq x=cq y):x=y:=by
 unfold cq at h;injection h with h;injection h
theorem eh:∀{x y:Zb},x.map cq=y.map cq->x=y
 |[],[],_=>rfl
 |[],_::_,h=>by cases h
 |_::_,[],h=>by cases h
 |a::x,b::y,h=>by
  rw[cg,cg]at h;injection h with e f;rw[oF e,eh f]
theorem GS{x y:ao}(h:u8 x=u8 y):x=y:=by
 unfold u8 at h;injection h with h;injection h with e h;injection h with a h;injection h with f h;injection a with a;cases x;cases y;simp only at *;rw[oF e,eh a,oF f]
theorem dC(xs:Zb):DT.depths (xs.map cq)=0:=by
 induction xs with
 |nil=>rfl
 |cons x xs a=>rw[cg];show max (DT.depth (cq x)) (DT.depths _)=0;rw[a];rfl
theorem xH(d:ao):(u8 d).depth=2:=by
 show DT.depths [cq d.a,.t (d.sg.map cq),cq d.b]+1=2;show max (DT.depth (cq d.a)) (max (DT.depths (d.sg.map cq)+1) (max (DT.depth (cq d.b)) 0))+1=2;rw[dC]
 rfl
theorem Dk(a:List ao):DT.depths (a.map u8)<=8:=by
 induction a with
 |nil=>exact dA _
 |cons x xs e=>rw[cg];show max (DT.depth (u8 x)) (DT.depths _)<=8;rw[xH];omega
theorem js{K:Za}{H:Hp}:∀xs:List Str,DIns K H (xs.map cq) (xs.map V.str)
 |[]=>by show DIns K H [] [];unfold DIns;rfl
 |x::xs=>by
  rw[cg,cg];unfold DIns;refine⟨_,_,rfl,?_,js xs⟩;unfold cq iO
  rfl
theorem vQ{K:Za}{H:Hp}(x:Str):iO K H (cq x) (.str x):=by unfold cq iO;rfl
theorem eA{K:Za}{H:Hp}{s:Addr}{a:Zb}(h:cr K H s (a.map V.str)):iO K H (.t (a.map cq)) (.ref s):=by
 unfold iO;exact⟨s,_,rfl,h,js _⟩
theorem fS.dIn{K:Za}{H:Hp}{t:Addr}{d:ao}(h:fS H t d):iO K H (u8 d) (.ref t):=by
 obtain⟨s,a,e⟩:=h;unfold u8;unfold iO;refine⟨t,_,rfl,cr.of a,?_⟩;unfold DIns;refine⟨_,_,rfl,vQ _,?_⟩;unfold DIns;refine⟨_,_,rfl,eA (cr.of e),?_⟩;unfold DIns;refine⟨_,_,rfl,vQ _,?_⟩;unfold DIns
 rfl
theorem cF.dIns{K:Za}{H:Hp}{a:Ze}{e:List ao}(h:cF H a e):DIns K H (e.map u8) (a.map V.ref):=by
 induction h with
 |nil=>show DIns K H [] [];unfold DIns;rfl
 |cons r _ f =>
  rw[cg,cg];unfold DIns;exact⟨_,_,rfl,r.dIn,f⟩
theorem BT{d:ao}{a:List ao}:u8 d∈a.map u8↔d∈a:=by
 constructor
 ·intro h;obtain⟨x,hx,e⟩:=aL.mp h;rw[<-GS e];exact hx
 ·exact gU
def oM(ds:List ao)(d:ao):List ao:=if d∈ds then ds else ds++[d]
inductive le (vs:List V)(H:Hp)(Q:VK)(E:XK):Prop
 |mk (l t:Addr) (ts:Ze) (ds:List ao) (d:ao):(vs=[.ref l,.ref t])->(H l=some (.lst (ts.map V.ref)))->(cF H ts ds)->(fS H t d)->(ds.length<=2000)->(∀ts':List Addr,cF H ts' (oM ds d)->Q .non (upd H l (.lst (ts'.map V.ref))))->le  vs H Q E
theorem HF{K:Za}{i:List V}{H:Hp}{Q:VK}{E:XK}(h:le i H Q E):CA K (bQ Q) (start Dw i) H:=by
 obtain⟨l,t,j,g,d,rfl,a,e,m,n,k⟩:=h;refine⟨_,rfl,_,rfl,u8 d,g.map u8,l,_,m.dIn,rfl,.inl (av.of a),e.dIns,by rw[xH];decide,Dk g,_,rfl,?_⟩;by_cases f:d∈g
 ·rw[if_pos rfl,zzr1 (BT.mpr f)];refine bv ?_;have:=k j (by unfold oM;rw[if_pos f];exact e);rw[upd_id a]at this;exact this
 ·rw[if_pos rfl,zzr0 (fun z=>f (BT.mp z))];refine bC ?_;refine⟨_,rfl,.inl ⟨rfl,_,av.of a⟩,_,rfl,l,_,_,rfl,rfl,a,?_,?_⟩
  ·rw[ai,Paired.length e];exact ar n
  ·have:=k (j++[t]) (by unfold oM;rw[if_neg f];exact jf e m);rw[aF]at this;exact this
structure DI(R:ao->Prop)(H0:Hp)(p c l:Addr)(m:Nat)(H:Hp):Prop where
 pen:gp H p c
 ds:∃ts ds,H l=some (.lst (ts.map V.ref))/\cF H ts ds/\ds.Nodup/\(∀d∈ds,R d)/\ds.length<=m
 ex:dU p H0 H
 fr:H0 l=none
 pl:p≠l
 cl:c≠l
section
variable{R:ao->Prop}{H0 H H':Hp}{p c l:Addr}{m:Nat}
theorem gp.lst{H:Hp}{p c:Addr}(h:gp H p c):∃xs,H p=some (.lst xs):=by
 obtain⟨a,r,f,e,_⟩:=h;exact⟨_,e⟩
theorem DI.took(h:DI R H0 p c l m H)(a:gp H' p c)(e:dU p H H'):DI R H0 p c l m H':=by
 obtain⟨f,g,i,j,k⟩:=h.ds;obtain⟨xs,hx⟩:=h.pen.lst;exact⟨a,⟨f,g,e _ _ i h.pl.symm,j.kt (e.kt hx),k⟩,h.ex.trans e,h.fr,h.pl,h.cl⟩
theorem DI.new(h:DI R H0 p c l m H){q:Addr}{o:HO}(a:H q=none):DI R H0 p c l m (upd H q o) :=
 h.took (h.pen.ex (ac.new a)) (dU.new a)
theorem DI.up(h:DI R H0 p c l m H){n:Nat}(a:m<=n):DI R H0 p c l n H:=by
 obtain⟨e,f,g,i,j,k,o⟩:=h.ds;exact⟨h.pen,⟨e,f,g,i,j,k,bW o a⟩,h.ex,h.fr,h.pl,h.cl⟩
theorem DI.put(h:DI R H0 p c l m H){t:Addr}{d:ao}{Q:VK}{E:XK}(r:fS H t d)(s:R d)(u:m<=2000)(k:∀H',DI R H0 p c l (m+1) H'->Q .non H'):le [.ref l,.ref t] H Q E:=by
 obtain⟨v,f,i,w,j,q,y⟩:=h.ds;refine⟨l,t,v,f,d,rfl,i,w,r,bW y u,fun g z=>k _ ⟨h.pen.upd h.pl h.cl,⟨g,oM f d,aa,z.kt (gm i),?_,?_,?_⟩,?_,h.fr,h.pl,h.cl⟩⟩
 ·unfold oM;split
  ·exact j
  ·next A =>
   rw[dk];refine⟨j,by simp,?_⟩;intro a B b C e;have:b=d:=by simpa using C
   subst this;exact A (e▸B)
 ·intro x hx;unfold oM at hx;split at hx
  ·exact q x hx
  ·rcases bE.mp hx with hx|hx
   ·exact q x hx
   ·have:x=d:=by simpa using hx
    rw[this];exact s
 ·unfold oM;split
  ·omega
  ·rw[aV];show f.length+1<=m+1;omega
 ·intro b o e n;rw[am (ag e h.fr)];exact h.ex b o e n
end
theorem gp.ne_strs{H:Hp}{p c a:Addr}{g:Zb}(h:gp H p c)(f:H a=some (.lst (g.map V.str))):a≠p:=by
 intro e;obtain⟨x,y,j,i,_⟩:=h;rw[e,i]at f;injection f with f;injection f with f;cases g with
 |nil=>cases f
 |cons w g=>injection f with f;cases f
theorem sC{K:Za}{r:R2}(B:∀x y H Q,cj K x y H Q->r x y H Q){σ:L2.St}{H:Hp}{Q:VK}{p c a:Addr}{j:Nat}{e:Zb}(C:σ[0]?=some (some (.ref p)))(o:σ[j]?=some (some (.ref a)))(q:gp H p c)
  (g:H a=some (.lst (e.map V.str))) (h:e≠[]) (s:e.length<=2000) (k:∀w∈e,∀H',gp H' p c->dU p H H'->Q (.str w) H') :
  ∃v,σ[j]?=some (some v)/\∃t,σ[0]?=some (some t)/\∃u,σ[j]?=some (some u)/\cu K [u] H fun y D=>eK [t,y] D (fun y E=>r v y E Q) E0:=by
 have I:0<e.length:=by cases e with|nil=>exact absurd rfl h|cons _ _=>simp
 have G:(V.int ((e.map V.str).length:Nat))=V.int (e.length:Nat):=by rw[ai]
 have i:=q.ne_strs g;have l:∀(x:Int) (H':Hp),0<=x->x<(e.length:Int)->gp H' p c->dU p H H'->cj K (.ref a) (.int x) H' Q:=by
  intro x H' m z f ex;obtain⟨n,rfl⟩:=kM m;have A:n<e.length:=by omega
  exact⟨a,_,(n:Int),.str e[n],rfl,rfl,av.of (ex _ _ g i),cT (by simp[A]),k _ (List.getElem_mem A) H' f ex⟩
 exact⟨_,o,_,C,_,o,.inl ⟨a,_,rfl,.inl (av.of g),by rw[G];exact dX q (by omega) (by omega) fun x H' m z f ex=>B _ _ _ _ (l x H' m z f ex)⟩⟩
def Up(up:Bool)(J3:Zb)(a b:Str):Prop:=∃i j:Nat,J3[i]?=some a/\J3[j]?=some b/\(if up=true then i<j else j<i)
structure lL(J0 J2 J3:Zb)(up:Bool)(d:ao):Prop where
 a:d.a∈J3
 b:d.b∈J3
 sg:(∃w∈J0,d.sg=[("ask":Str),w])∨(∃w∈J2,d.sg=[("say":Str),w])∨(d.sg=[("still":Str)]/\Up up J3 d.a d.b)
def aB:List Str:=[("still":Str)]
structure vX(J0 J2 J3:Zb)(d:ao):Prop where
 a:d.a∈J3
 b:d.b∈J3
 sg:(∃w∈J0,d.sg=[("ask":Str),w])∨(∃w∈J2,d.sg=[("say":Str),w])∨d.sg=aB
theorem lL.d{J0 e f:Zb}{up:Bool}{d:ao}(h:lL J0 e f up d):vX J0 e f d:=⟨h.a,h.b,h.sg.imp id (Or.imp id And.left)⟩
inductive Reach(ds:List ao)(a:Str):Str->Prop
 |one {b:Str}(h:(⟨a,aB,b⟩:ao)∈ds):Reach ds a b
 |step {b c:Str}(r:Reach ds a b) (h:(⟨b,aB,c⟩:ao)∈ds):Reach ds a c
theorem oZ{e:Zb}(n:e.Nodup){i j:Nat}{a:Str}(hi:e[i]?=some a)(o:e[j]?=some a):i=j:=by
 obtain⟨f,g⟩:=bG.mp hi;obtain⟨k,l⟩:=bG.mp o;have m:=List.pairwise_iff_getElem.mp n;rcases Nat.lt_trichotomy i j with h|h|h
 ·exact absurd (g.trans l.symm) (m i j f k h)
 ·exact h
 ·exact absurd (l.trans g.symm) (m j i k f h)
theorem Up.trans{up:Bool}{e:Zb}(g:e.Nodup){a b c:Str}(l:Up up e a b)(m:Up up e b c):Up up e a c:=by
 obtain⟨i,j,n,o,h⟩:=l;obtain⟨r,k,p,q,f⟩:=m;have:=oZ g o p;subst this;refine⟨i,k,n,q,?_⟩;cases up
 ·simp at h f ⊢;omega
 ·simp at h f ⊢;omega
theorem Up.irr{up:Bool}{e:Zb}(f:e.Nodup){a:Str}(h:Up up e a a):False:=by
 obtain⟨i,j,g,k,h⟩:=h;have:=oZ f g k;subst this;cases up
 ·simp at h
 ·simp at h
theorem DU{j k g:Zb}{i:List ao}{up:Bool}(l:g.Nodup)(m:∀d∈i,lL j k g up d){a b:Str}(h:Reach i a b):Up up g a b:=by
 have f:∀{a b:Str},(⟨a,aB,b⟩:ao)∈i->Up up g a b:=by
  intro a b h;rcases(m _ h).sg with⟨w,_,e⟩|⟨w,_,e⟩|⟨_,e⟩
  ·cases e
  ·cases e
  ·exact e
 induction h with
 |one h=>exact f h
 |step r h n=>exact n.trans l (f h)
inductive gD (vs:List V)(H:Hp)(Q:VK)(E:XK):Prop
 |mk (p c l1 l2 l3:Addr) (J0 J2 J3:Zb) (full:Int):(vs=[.ref p,.ref l1,.ref l2,.ref l3,.int full])->(gp H p c)->(H l1=some (.lst (J0.map V.str)))->(H l2=some (.lst (J2.map V.str)))->(H l3=some (.lst (J3.map V.str)))->(J0.length<=4)->(J2≠[])->(J2.length<=4)->(J3≠[])->(J3.length<=26)->(0<=full)->(full<=2)->(∀(l:Addr) (ts:Ze) (ds:List ao) (up:Bool) (H':Hp),H l=none->H' l=some (.lst (ts.map V.ref))->cF H' ts ds->ds.Nodup->(∀d∈ds,lL J0 J2 J3 up d)->ds.length<=600->gp H' p c->dU p H H'->Q (.ref l) H')->gD  vs H Q E
theorem at4{x r:Int}(a:0<=x)(e:x<=2)(f:0<=r)(g:r<4):∃j:Int,xR [V.int x,.int 1,.int 1,.int 2] r=some (.int j)/\0<=j/\j<=2:=by
 have:r=0∨r=1∨r=2∨r=3:=by omega
 rcases this with rfl|rfl|rfl|rfl
 ·exact⟨x,rfl,a,e⟩
 ·exact⟨1,rfl,by decide,by decide⟩
 ·exact⟨1,rfl,by decide,by decide⟩
 ·exact⟨2,rfl,by decide,by decide⟩
theorem Dn(a:Zb)(k:Nat):kJ (a.map V.str) (some (k:Int)) none=(a.drop k).map V.str:=by
 unfold kJ;rw[HT.sIx_none,HT.sIx_nat,ai,List.take_of_length_le (by rw[jh,ai];omega),List.map_drop];by_cases h:k<=a.length
 ·rw[Nat.min_eq_left h]
 ·rw[Nat.min_eq_right (by omega),tf (by simp),tf (by rw[ai];omega)]
theorem Cb(a:Zb)(k:Nat):kJ (a.map V.str) none (some (k:Int))=(a.take k).map V.str:=by
 unfold kJ;rw[HT.sIx_none,HT.sIx_nat,ai,pI,wg,List.map_take,List.take_eq_take_iff,ai];omega
theorem eo{K:Za}{H:Hp}{a:Addr}{e:Zb}(h:av K H a (e.map V.str)):iO K H (.s (e.map cq)) (.ref a):=by
 unfold iO;exact⟨a,_,rfl,h,js _⟩
theorem sL{K:Za}{H:Hp}{a:Addr}(h:av K H a []):iO K H (.s []) (.ref a):=by
 unfold iO;refine⟨a,_,rfl,h,?_⟩;unfold DIns
 rfl
inductive DdI(G:ao->Prop)(H:Hp)(p c l l1 l2 l3:Addr)(full dn:Int)(i:Nat)(σ:L2.St)(H':Hp):Prop
 |mk (a7 a8 a9 a10 a11 a12:Option V):σ=[some (.ref p),some (.ref l1),some (.ref l2),some (.ref l3),some (.int full),some (.ref l),some (.int dn),a7,a8,a9,a10,a11,a12]->DI G H p c l (11 * i) H'->DdI G H p c l l1 l2 l3 full dn i σ H'
theorem u1{K:Za}{vs:List V}{H:Hp}{Q:VK}{E:XK}(h:gD vs H Q E):pZ K eK le (bQ Q) (start qN vs) H:=by
 obtain⟨p,c,l1,l2,l3,J0,J2,J3,a,rfl,hp,h1,h2,h3,ha,b4,hs,aT,hr,f0,f2,k⟩:=h;have n1:=hp.ne_strs h1;have n2:=hp.ne_strs h2;have n3:=hp.ne_strs h3;refine⟨(by show 0<=ak;decide),fun l hl=>?_⟩;have aX:=hp.nep hl;have b5:=hp.nec hl;refine⟨_,rfl,dX (hp.ex (ac.new hl)) (by decide) (by decide) fun M H1 d0 d1 b6 a0=>?_⟩;generalize hG:lL J0 J2 J3 (decide (M=0))=G;have base:DI G H p c l 0 H1:=⟨b6,⟨[],[],a0 _ _ aa aX.symm,.nil,wC,by simp,dA _⟩,(dU.new hl).trans a0,hl,aX,b5⟩;refine⟨_,rfl,l3,rfl,⟨_,av.of (base.ex _ _ h3 n3)⟩,?_⟩;refine lF (xs:=J3.map V.str) (DdI G H p c l l1 l2 l3 a M)
  ⟨_,_,_,_,_,_,rfl,base⟩ (fun i σ H' _ zq=>by obtain⟨_,_,_,_,_,_,_,D⟩:=zq;exact av.of (D.ex _ _ h3 n3)) ?_ ?_
 ·rintro i x σ H' t hi ⟨a7,a8,C,m,v,A,rfl,D⟩ ht;obtain⟨room,f,rfl⟩:∃room,J3[i]?=some room/\x=V.str room:=by
   rw[cH]at hi;cases q:J3[i]? with
   |none=>rw[q]at hi;cases hi
   |some r=>rw[q]at hi;exact⟨r,rfl,(eM hi).symm⟩
  have c2:i<J3.length:=(bG.mp f).1;have N:room∈J3:=cp f;refine⟨t,_,rfl,cr.of aa,rfl,_,_,rfl,_,_,rfl,rfl,?_⟩;have D1:=D.new ht (o:=.tup [.int i,.str room]);refine⟨(by show 4<=ak;decide),fun q hq=>⟨_,rfl,dX (D1.new hq).pen (by decide) (by decide) fun r H2 r0 r1 b7 a4=>?_⟩⟩;obtain⟨j,hj,j0,j2⟩:=at4 (x:=0) (by decide) (by decide) r0 r1;have D2:=(D1.new hq).took b7 a4;refine⟨q,_,_,_,rfl,rfl,av.of (a4 q _ aa (D1.pen.nep hq).symm),hj,j,rfl,by omega,by omega,?_⟩
  let b8:Nat->L2.St->Hp->Prop:=fun i' σ O=>Hw fun(C m:Option V)=>σ=[some (.ref p),some (.ref l1),some (.ref l2),some (.ref l3),some (.int a),some (.ref l),some (.int M),some (.int i),some (.str room),C,m,v,A]/\DI G H p c l (11 * i+i') O
  refine jH (lo:=0) (n:=j.toNat) b8
   ⟨_,_,rfl,D2⟩ ?_ ?_
  ·rintro i' σ H3 I ⟨C,m,rfl,D3⟩;refine sC (fun _ _ _ _ h=>h) rfl rfl D3.pen (D3.ex _ _ h2 n2) b4 (by omega) fun w hw H4 cc ce=>?_;have D4:=D3.took cc ce;refine⟨(by show 2<=ak;decide),fun L g=>?_⟩;have D5:=D4.new g (o:=.tup [.str "say",.str w]);refine⟨_,rfl,_,rfl,_,rfl,sC (fun _ _ _ _ h=>h) rfl rfl D5.pen (D5.ex _ _ h3 n3) aT (by omega) fun U J H6 ch a5=>?_⟩;have D6:=D5.took ch a5;refine⟨(by show 3<=ak;decide),fun dr u=>?_⟩;have D7:=D6.new u (o:=.tup [.str room,.ref L,.str U]);have a6:H6 L=some (.tup [.str "say",.str w]):=a5 _ _ aa (D4.pen.nep g).symm;refine D7.put (d:=⟨room,["say",w],U⟩) ⟨L,aa,kp a6 u⟩ ?_ (by omega) fun H8 Y=>⟨_,_,rfl,Y⟩;rw[<-hG];exact⟨N,J,.inr (.inl ⟨w,hw,rfl⟩)⟩
  rintro σ H3 ⟨C,m,rfl,bb⟩;have D3:DI G H p c l (11 * i+2) H3:=bb.up (by omega);clear bb;refine⟨_,rfl,l1,rfl,⟨_,av.of (D3.ex _ _ h1 n1)⟩,?_⟩
  let ci:Nat->L2.St->Hp->Prop:=fun i' σ O=>Hw fun(C v:Option V)=>σ=[some (.ref p),some (.ref l1),some (.ref l2),some (.ref l3),some (.int a),some (.ref l),some (.int M),some (.int i),some (.str room),C,m,v,A]/\DI G H p c l (11 * i+2+2 * i') O
  refine bS (xs:=J0.map V.str) ci
   ⟨_,_,rfl,D3⟩ (fun i σ H' _ zq=>by obtain⟨_,_,_,D⟩:=zq;exact av.of (D.ex _ _ h1 n1)) ?_ ?_
  ·rintro i' x σ H4 I ⟨C,v,rfl,D4⟩;obtain⟨ask,al,rfl⟩:∃ask,J0[i']?=some ask/\x=V.str ask:=by
    rw[cH]at I;cases q:J0[i']? with
    |none=>rw[q]at I;cases I
    |some r=>rw[q]at I;exact⟨r,rfl,(eM I).symm⟩
   have c3:i'<J0.length:=(bG.mp al).1;have ck:ask∈J0:=cp al;refine⟨_,rfl,(by show 4<=ak;decide),fun q hq=>⟨_,rfl,dX (D4.new hq).pen (by decide) (by decide) fun r H5 r0 r1 cl bd=>?_⟩⟩;obtain⟨j,hj,j0,j2⟩:=at4 f0 f2 r0 r1;have D5:=(D4.new hq).took cl bd;refine⟨q,_,_,_,rfl,rfl,av.of (bd q _ aa (D4.pen.nep hq).symm),hj,j,rfl,by omega,by omega,?_⟩
   let cm:Nat->L2.St->Hp->Prop:=fun bi σ O=>∃C:Option V,σ=[some (.ref p),some (.ref l1),some (.ref l2),some (.ref l3),some (.int a),some (.ref l),some (.int M),some (.int i),some (.str room),C,m,some (.str ask),A]/\DI G H p c l (11 * i+2+2 * i'+bi) O
   refine jH (lo:=0) (n:=j.toNat) cm
    ⟨_,rfl,D5⟩ ?_ ?_
   ·rintro bi σ H6 c1 ⟨C,rfl,D6⟩;refine⟨_,rfl,_,rfl,_,rfl,(by show 2<=ak;decide),fun L g=>?_⟩;have D7:=D6.new g (o:=.tup [.str "ask",.str ask]);refine sC (fun _ _ _ _ h=>h) rfl rfl D7.pen (D7.ex _ _ h3 n3) aT (by omega) fun U J H8 cn bl=>?_;have Y:=D7.took cn bl;refine⟨(by show 3<=ak;decide),fun dr u=>?_⟩;have D9:=Y.new u (o:=.tup [.str room,.ref L,.str U]);have bm:H8 L=some (.tup [.str "ask",.str ask]):=bl _ _ aa (D6.pen.nep g).symm;refine D9.put (d:=⟨room,["ask",ask],U⟩) ⟨L,aa,kp bm u⟩ ?_ (by omega) fun H8 Y=>⟨_,rfl,Y⟩;rw[<-hG];exact⟨N,J,.inl ⟨ask,ck,rfl⟩⟩
   ·rintro σ H6 ⟨C,rfl,D6⟩;exact⟨_,_,rfl,D6.up (by omega)⟩
  rintro σ H4 ⟨C,v,rfl,bn⟩;have D4:DI G H p c l (11 * i+10) H4:=bn.up (by rw[ai];omega);clear bn;have B:∀(H9:Hp) (A:Option V),DI G H p c l (11 * i+11) H9->DdI G H p c l l1 l2 l3 a M (i+1) [some (.ref p),some (.ref l1),some (.ref l2),some (.ref l3),some (.int a),some (.ref l),some (.int M),some (.int i),some (.str room),C,m,v,A] H9:=fun H9 A D9=>⟨_,_,_,_,_,_,rfl,D9.up (by omega)⟩;refine⟨_,rfl,_,rfl,_,_,rfl,rfl,_,rfl,l3,_,rfl,av.of (D4.ex _ _ h3 n3),fun q1 co=>?_⟩;have D5:=D4.new co (o:=.lst (kJ (J3.map V.str) (some ((i:Int)+1)) none));refine⟨_,rfl,_,rfl,_,rfl,l3,_,rfl,av.of (D5.ex _ _ h3 n3),fun q2 b0=>?_⟩;have e1:kJ (J3.map V.str) (some ((i:Int)+1)) none=(J3.drop (i+1)).map V.str:=Dn J3 (i+1);rw[Cb];have D6:=D5.new b0 (o:=.lst ((J3.take i).map V.str));refine⟨(by show 2<=ak;decide),fun q3 ap=>?_⟩;have D7:=D6.new ap (o:=.lst [.ref q1,.ref q2]);obtain⟨lt,q,hq,ab,T⟩:∃(lt:Zb) (q:Addr),xR [V.ref q1,.ref q2] M=some (.ref q) /\
    upd (upd (upd H4 q1 (.lst (kJ (J3.map V.str) (some ((i:Int)+1)) none))) q2 (.lst ((J3.take i).map V.str))) q3 (.lst [.ref q1,.ref q2]) q=some (.lst (lt.map V.str))/\lt.length<=26 /\
    ∀w∈lt,w∈J3/\Up (decide (M=0)) J3 room w:=by
   have:M=0∨M=1:=by omega
   rcases this with rfl|rfl
   ·refine⟨J3.drop (i+1),q1,rfl,?_,by rw[jh];omega,fun w hw=>⟨List.mem_of_mem_drop hw,?_⟩⟩
    ·refine(kp (kp aa b0) ap).trans ?_;rw[e1]
    ·obtain⟨n,hn⟩:=mI hw;rw[List.getElem?_drop]at hn;exact⟨i,i+1+n,f,hn,by rw[if_pos (by decide)];omega⟩
   ·refine⟨J3.take i,q2,rfl,?_,by rw[aY];omega,fun w hw=>⟨sS hw,?_⟩⟩
    ·exact kp aa ap
    ·obtain⟨n,hn⟩:=mI hw;have cs:n<i:=by
      have:=(bG.mp hn).1;rw[aY]at this;omega
     rw[mS cs]at hn;exact⟨i,n,f,hn,by rw[if_neg (by decide)];omega⟩
  refine⟨_,rfl,q3,_,_,_,rfl,rfl,av.of aa,hq,?_⟩;generalize upd (upd (upd H4 q1 (.lst (kJ (J3.map V.str) (some ((i:Int)+1)) none))) q2 (.lst ((J3.take i).map V.str))) q3 (.lst [.ref q1,.ref q2])=H7 at D7 ab ⊢;refine⟨_,rfl,(by show 0<=ak;decide),fun e he=>⟨.s (lt.map cq),.s [],eo (av.of (kp ab he)),sL (av.of aa),?_,by decide,_,rfl,?_⟩⟩
  ·show DT.depths (lt.map cq)+1<=8;rw[dC];decide
  have Y:=D7.new he (o:=.lst []);by_cases hz:lt=[]
  ·have ez:(!decide (DT.s (lt.map cq)=DT.s []))=false:=by rw[hz,zzr1 (by rfl)];rfl
   rw[ez];exact bv (bv (B _ _ (Y.up (by omega))))
  ·have ez:(!decide (DT.s (lt.map cq)=DT.s []))=true:=by
    rw[zzr0 (fun z=>hz (eh (y:=[]) (by injection z)))];rfl
   rw[ez];refine bC ?_;refine⟨_,rfl,dX Y.pen (by decide) (by decide) fun r H9 r0 r1 ct b1=>⟨rfl,_,rfl,?_⟩⟩;have D9:=Y.took ct b1;refine qE (fun _=>?_) (fun _=>B _ _ (D9.up (by omega)));refine⟨_,rfl,_,rfl,(by show 1<=ak;decide),fun L g=>?_⟩;have b2:=D9.new g (o:=.tup [.str "still"]);have as:upd H9 L (.tup [.str "still"]) q=some (.lst (lt.map V.str)):=kp (b1 _ _ (kp ab he) (Y.pen.ne_strs (kp ab he))) g;refine sC (fun _ _ _ _ h=>.inl h) rfl rfl b2.pen as hz (by omega) fun U J cB b3 an=>?_;have cC:=b2.took b3 an;refine⟨(by show 3<=ak;decide),fun dr u=>?_⟩;have cL:=cC.new u (o:=.tup [.str room,.ref L,.str U]);have aC:cB L=some (.tup [.str "still"]):=an _ _ aa (D9.pen.nep g).symm;refine cL.put (d:=⟨room,[("still":Str)],U⟩) ⟨L,aa,kp aC u⟩ ?_ (by omega) fun c4 c0=>B _ _ c0;rw[<-hG];exact⟨N,(T.2 U J).1,.inr (.inr ⟨rfl,(T.2 U J).2⟩)⟩
 ·rintro σ H' ⟨a7,a8,C,m,v,A,rfl,D⟩;obtain⟨ts,ds,g1,g2,g3,g4,g5⟩:=D.ds;rw[ai]at g5;rw[<-hG]at g4;exact⟨_,rfl,k l ts ds _ H' hl g1 g2 g3 g4 (by omega) D.pen D.ex⟩
structure aR(J0 J2 J3:Zb)(ds:List ao):Prop where
 okA:e_ J0
 okS:e_ J2
 apart:∀w∈J2,w∉J0
 okR:e_ J3
 asks0:J0≠[]
 says0:J2≠[]
 rooms0:J3≠[]
 asks4:J0.length<=4
 says4:J2.length<=4
 rooms26:J3.length<=150
 nodup:ds.Nodup
 good:∀d∈ds,vX J0 J2 J3 d
 few:ds.length<=2000
 noround:∀r,¬Reach ds r r
structure jv(H:Hp)(t l1 l2 l3 l4:Addr)(ts:Ze)(J0 J2 J3:Zb)(ds:List ao):Prop where
 t:H t=some (.tup [.ref l1,.ref l2,.ref l3,.ref l4])
 a1:H l1=some (.lst (J0.map V.str))
 a2:H l2=some (.lst (J2.map V.str))
 a3:H l3=some (.lst (J3.map V.str))
 a4:H l4=some (.lst (ts.map V.ref))
 ds:cF H ts ds
theorem gp.ne_refs{H:Hp}{p c a:Addr}{ts:Ze}(h:gp H p c)(f:H a=some (.lst (ts.map V.ref))):a≠p:=by
 intro e;obtain⟨x,y,j,i,_⟩:=h;rw[e,i]at f;injection f with f;injection f with f;cases ts with
 |nil=>cases f
 |cons w g =>
  injection f with _ f;cases g with
  |nil=>cases f
  |cons w g=>injection f with f;cases f
theorem jv.ex{H f:Hp}{p c t g i l3 j:Addr}{k:Ze}{l m n:Zb}{o:List ao}(h:jv H t g i l3 j k l m n o)(a:gp H p c)(e:dU p H f):jv f t g i l3 j k l m n o:=by
 obtain⟨xs,hx⟩:=a.lst;exact⟨e.kt hx _ _ h.t,e _ _ h.a1 (a.ne_strs h.a1),e _ _ h.a2 (a.ne_strs h.a2),e _ _ h.a3 (a.ne_strs h.a3),e _ _ h.a4 (a.ne_refs h.a4),h.ds.kt (e.kt hx)⟩
theorem jv.same{H a:Hp}{t f g l3 i:Addr}{j:Ze}{k l m:Zb}{n:List ao}(h:jv H t f g l3 i j k l m n)(e:ac H a):jv a t f g l3 i j k l m n :=
 ⟨e _ _ h.t,e _ _ h.a1,e _ _ h.a2,e _ _ h.a3,e _ _ h.a4,h.ds.kt (ac.kt e)⟩
theorem bx{a:Zb}{i:Nat}{x:V}(h:(a.map V.str)[i]?=some x):∃w,a[i]?=some w/\x=.str w:=by
 rw[cH]at h;cases q:a[i]? with
 |none=>rw[q]at h;cases h
 |some r=>rw[q]at h;exact⟨r,rfl,(eM h).symm⟩
theorem take_snoc{α:Type}{a:List α}{i:Nat}{w:α}(h:a[i]?=some w):a.take (i+1)=a.take i++[w]:=by
 obtain⟨hi,rfl⟩:=bG.mp h;rw[List.take_succ_eq_append_getElem hi]
def oX(w:Str):Bool:=!decide (w=("":Str)) && (decide (w.length<=8) && w.cps.toList.all fun c=>decide (c∈("abcdefghijklmnopqrstuvwxyz":Str).cps.toList))
theorem nO.b{w:Str}(h:nO w):oX w=true:=by
 unfold oX;have a:¬(w=("":Str)):=fun e=>by
  have:=h.lo;rw[e]at this;exact absurd this (by decide +kernel)
 rw[zzr0 a,zzr1 h.hi,Bool.not_false,sR,sR,List.all_eq_true];intro c f;obtain⟨g,i⟩:=h.al c f;refine zzr1 ?_;have:=Cf (c-97) (by omega);have e:97+(c-97)=c:=by omega
 rw[e]at this;exact cp this
inductive sp_is_name (vs:List V)(H:Hp)(Q:VK)(E:XK):Prop
 |mk (w:Str):(vs=[.str w])->(w.length<=2000)->(∀H',ac H H'->Q (.bl (oX w)) H')->sp_is_name  vs H Q E
theorem Ao{K:Za}{a:List V}{H:Hp}{Q:VK}{E:XK}(h:sp_is_name a H Q E):CC K (bQ Q) (start Dx a) H:=by
 obtain⟨w,rfl,s,k⟩:=h;refine⟨_,rfl,rfl,_,rfl,?_⟩;have t:(!decide (V.str w=V.str ("":Str)))=!decide (w=("":Str)):=by
  congr 1;by_cases e:w=("":Str)
  ·rw[zzr1 e,zzr1 (by rw[e])]
  ·rw[zzr0 e,zzr0 (fun z=>e (by injection z))]
 rw[t];refine qE (fun m=>?_) (fun m=>?_)
 ·refine⟨_,rfl,.inr ⟨w,rfl,cy (ar s),_,_,rfl,rfl,_,rfl,?_⟩⟩;refine qE (fun n=>?_) (fun n=>?_)
  ·refine⟨_,rfl,w,rfl,fun l r=>?_⟩
   let p:Nat->List V->Hp->Prop:=fun i a j=>a=((w.cps.toList.take i).map fun c=>V.bl (decide (c∈("abcdefghijklmnopqrstuvwxyz":Str).cps.toList)))/\ac H j/\j l=some (.lst a)
   refine FB p
    ⟨rfl,ac.new r,aa⟩ (fun i a j _ h=>h.2.2) ?_ ?_
   ·rintro a j ⟨rfl,q,f⟩;refine⟨l,w.cps.toList.map fun c=>decide (c∈("abcdefghijklmnopqrstuvwxyz":Str).cps.toList),rfl,av.of ?_,?_⟩
    ·rw[f,pC];have:w.cps.toList.take w.cps.size=w.cps.toList:=by
      rw[List.take_of_length_le];simp
     rw[this]
     rfl
    ·have:=k j q;have g:decide (w.length<=8)=true:=zzr1 (by have:=of_decide_eq_true n;omega);unfold oX at this;rw[m,g,sR,sR]at this;rw[List.all_map];exact this
   ·rintro i a j c u hi ⟨rfl,q,f⟩;refine gN (rN ?_);refine⟨_,rfl,c,_,rfl,rfl,f,?_,r6 hi ⟨?_,?_,aa⟩⟩
    ·rw[ai,aY];have:w.length=w.cps.toList.length:=eX w;exact ar (by omega)
    ·rw[take_snoc (by rw[<-u];simp),aF]
     rfl
    ·intro b o e;rw[am (ag e r)];exact q b o e
  ·have:=k H (ac.refl H);have g:decide (w.length<=8)=false:=zzr0 (fun z=>n (zzr1 (by omega)));unfold oX at this;rw[m,g,sR,Bf]at this;exact this
 ·have:=k H (ac.refl H);unfold oX at this;rw[Bool.eq_false_iff.mpr m,Bf]at this;exact this
def bD(ws:Zb):List (fD×V):=ws.foldl (fun acc w=>fh acc (.inr w) (.bl true)) []
theorem fB(a:Zb)(w:Str):bD (a++[w])=fh (bD a) (.inr w) (.bl true):=by
 unfold bD;rw[List.foldl_append]
 rfl
theorem yR{κ:Type}[DecidableEq κ](a:List (κ×V))(k:κ)(v:V):(fh a k v).length<=a.length+1:=by
 unfold fh;split
 ·rw[ai];omega
 ·rw[aV];exact aK _
theorem k6{α:Type}(P:List α->Prop)(f:P [])(g:∀a w,P a->P (a++[w]))(a:List α):P a:=by
 have:∀n (a:List α),a.length=n->P a:=by
  intro n
  induction n with
  |zero=>intro a h;rw[List.length_eq_zero_iff.mp h];exact f
  |succ n i =>
   intro a h;have e:a≠[]:=fun z=>by rw[z]at h;cases h
   rw[<-List.dropLast_concat_getLast e];exact g _ _ (i _ (by rw[List.length_dropLast,h];rfl))
 exact this _ a rfl
theorem nk(a:Zb):(bD a).length<=a.length:=by
 refine k6 (fun a=>(bD a).length<=a.length) (aK _) (fun a w h=>?_) a;show(bD (a++[w])).length<=(a++[w]).length;rw[fB,aV];have:=yR (bD a) (.inr w) (.bl true);show _<=a.length+1;omega
theorem ug(a:Zb)(x:Str):de (bD a) (.inr x)=if x∈a then some (.bl true)else none:=by
 refine k6 (fun a=>de (bD a) (.inr x)=if x∈a then some (.bl true)else none) rfl (fun a w h=>?_) a
 show de (bD (a++[w])) (.inr x)=_;rw[fB,yv,h];by_cases e:x=w
 ·subst e;rw[if_pos rfl,if_pos (by simp)]
 ·have f:¬((Sum.inr x:fD)=.inr w):=fun z=>e (by injection z);rw[if_neg f];by_cases m:x∈a
  ·rw[if_pos m,if_pos (cN _ m)]
  ·rw[if_neg m,if_neg (fun z=>by rcases bE.mp z with z|z;exact m z;exact e (by simpa using z))]
theorem jE(a:Zb)(x:Str):(de (bD a) (.inr x)).isSome=decide (x∈a):=by
 rw[ug];by_cases m:x∈a
 ·rw[if_pos m,zzr1 m];rfl
 ·rw[if_neg m,zzr0 m];rfl
inductive sp_as_keys(K:Za)(vs:List V)(H:Hp)(Q:VK)(E:XK):Prop
 |mk (l:Addr) (ws:Zb):(vs=[.ref l])->(av K H l (ws.map V.str))->(ws.length<=2000)->(∀d,H d=none->Q (.ref d) (upd H d (.dK (bD ws))))->sp_as_keys K vs H Q E
theorem Ap{K:Za}{o:List V}{H:Hp}{Q:VK}{E:XK}(h:sp_as_keys K o H Q E):CD K (bQ Q) (start Dy o) H:=by
 obtain⟨l,j,rfl,q,t,k⟩:=h;refine fun d p=>?_;have a:∀f,av K (upd H d (.dK f)) l (j.map V.str):=fun f=>(ac.new p).seq q;refine⟨_,rfl,l,rfl,⟨_,a _⟩,?_⟩
 let n:Nat->L2.St->Hp->Prop:=fun i σ m=>∃x,σ=[some (.ref l),some (.ref d),x]/\m=upd H d (.dK (bD (j.take i)))
 refine bS (xs:=j.map V.str) n ⟨_,rfl,rfl⟩ (fun i σ m _ r=>by obtain⟨_,_,e⟩:=r;exact by rw[e];exact a _) ?_ ?_
 ·rintro i x σ m hi ⟨y,rfl,rfl⟩;obtain⟨w,s,rfl⟩:=bx hi;have g:(bD (j.take i)).length<ak:=ar (bW (nk _) (by rw[aY];omega));refine⟨_,rfl,_,rfl,d,_,rfl,.inl ⟨_,.inr w,aa,rfl,g,rfl⟩,_,rfl,?_⟩;rw[lU,take_snoc s,fB]
 ·rintro σ m ⟨x,rfl,rfl⟩;rw[ai,bJ];exact⟨_,rfl,k d p⟩
def Fl(most:Nat):Nat->List Str->List Str->Option Nat
 |_,_,[]=>none
 |i,ahead,n::ns=>if i=most∨n∈ahead∨oX n=false then some i else Fl most (i+1) (ahead++[n]) ns
def cP(names:Zb)(most:Nat)(taken:Zb):Option Nat:=if names=[]then some 0 else Fl most 0 taken names
def oV:Option Nat->V
 |none=>.non
 |some i=>.int i
inductive sp_first_wrong_name(K:Za)(vs:List V)(H:Hp)(Q:VK)(E:XK):Prop
 |mk (l t:Addr) (names taken:Zb) (most:Nat):(vs=[.ref l,.int most,.ref t])->(av K H l (names.map V.str))->(av K H t (taken.map V.str))->(names.length+taken.length<=2000)->((∀w∈names,w.length<=2000))->(∀H',ac H H'->Q (oV (cP names most taken)) H')->sp_first_wrong_name K vs H Q E
theorem qI{K:Za}{H:Hp}{Q:VK}{E:XK}{l:Addr}{ws:Zb}(a:av K H l (ws.map V.str))(e:ws.length<=2000)(k:∀d,H d=none->Q (.ref d) (upd H d (.dK (bD ws)))):sp_as_keys K [.ref l] H Q E:=by
 exact⟨l,ws,rfl,a,e,k⟩
theorem De{H:Hp}{Q:VK}{E:XK}{w:Str}(e:w.length<=2000)(k:∀a,ac H a->Q (.bl (oX w)) a):sp_is_name [.str w] H Q E:=by
 exact⟨w,rfl,e,k⟩
theorem mx{K:Za}{M:List V}{H:Hp}{Q:VK}{E:XK}(h:sp_first_wrong_name K M H Q E):mW K sp_is_name (sp_as_keys K) (bQ Q) (start nJ M) H:=by
 obtain⟨l,t,names,taken,a,rfl,v,U,hz,Y,k⟩:=h;refine⟨_,rfl,.inl ⟨l,_,rfl,.inl v,rfl,_,rfl,?_⟩⟩;by_cases A:names=[]
 ·subst A;refine bC ?_;have:=k H (ac.refl H);exact this
 have e0:decide (V.int ((names.map V.str).length:Nat)=V.int 0)=false:=zzr0 (fun z=>A (by
  injection z with z;rw[ai]at z;exact List.length_eq_zero_iff.mp (by omega)))
 rw[e0];refine bv ?_;have r:∀H',ac H H'->Q (oV (Fl a 0 taken names)) H':=by
  unfold cP at k;rw[if_neg A]at k;exact k
 refine⟨_,rfl,qI U (by omega) fun d B=>?_⟩;refine⟨_,rfl,l,rfl,⟨_,(ac.new B).seq v⟩,?_⟩
 let C:Nat->L2.St->Hp->Prop:=fun i σ H'=>∃x y,σ=[some (.ref l),some (.int a),some (.ref t),some (.ref d),x,y]/\ac H H'/\H' d=some (.dK (bD (taken++names.take i)))/\Fl a i (taken++names.take i) (names.drop i)=Fl a 0 taken names
 refine lF (xs:=names.map V.str) C
  ⟨_,_,rfl,ac.new B,by rw[List.take_zero,dO];exact aa,by rw[List.take_zero,dO,pI]⟩ (fun i σ H' _ zq=>by obtain⟨_,_,_,n,_⟩:=zq;exact n.seq v) ?_ ?_
 ·rintro i x σ H' q hi ⟨x4,x5,rfl,n,D,hf⟩ N;obtain⟨w,f,rfl⟩:=bx hi;have G:i<names.length:=(bG.mp f).1;have ed:names.drop i=w::names.drop (i+1):=by
   rw[wk G];congr 1;exact(bG.mp f).2
  rw[ed]at hf;have j:upd H' q (.tup [.int i,.str w]) d=some (.dK (bD (taken++names.take i))):=kp D N;have g:ac H (upd H' q (.tup [.int i,.str w])):=n.trans (ac.new N);have I:w.length<=2000:=Y w (cp f);refine⟨q,_,rfl,cr.of aa,rfl,_,_,rfl,_,_,rfl,rfl,?_⟩;generalize upd H' q (.tup [.int i,.str w])=O at j g ⊢;refine⟨_,rfl,_,rfl,rfl,_,rfl,?_⟩;by_cases s:i=a
  ·have J:decide (V.int (i:Nat)=V.int (a:Nat))=true:=zzr1 (by rw[s]);rw[J];refine bC (bC ?_);refine⟨_,rfl,?_⟩;have:=r O g;rw[<-hf]at this;unfold Fl at this;rw[if_pos (.inl s)]at this;exact this
  have J:decide (V.int (i:Nat)=V.int (a:Nat))=false:=zzr0 (fun z=>s (by injection z with z;omega));rw[J];refine bv ?_;refine⟨_,rfl,_,rfl,d,_,rfl,.inl ⟨_,.inr w,.inl j,rfl,rfl⟩,_,rfl,?_⟩;rw[jE];by_cases u:w∈taken++names.take i
  ·rw[zzr1 u];refine bC (bC ?_);refine⟨_,rfl,?_⟩;have:=r O g;rw[<-hf]at this;unfold Fl at this;rw[if_pos (.inr (.inl u))]at this;exact this
  rw[zzr0 u];refine bv ?_;refine⟨_,rfl,De I fun H3 m=>⟨_,rfl,?_⟩⟩;have L:=m _ _ j;cases T:oX w with
  |false =>
   refine bC ?_;refine⟨_,rfl,?_⟩;have:=r H3 (g.trans m);rw[<-hf]at this;unfold Fl at this;rw[if_pos (.inr (.inr T))]at this;exact this
  |true =>
   refine bv ?_;have p:(bD (taken++names.take i)).length<ak:=ar (bW (nk _) (by rw[aV,aY];omega));refine⟨_,rfl,_,rfl,d,_,rfl,.inl ⟨_,.inr w,L,rfl,p,rfl⟩,_,_,rfl,?_,?_,?_⟩
   ·intro b o e;rw[am (ag e B)];exact m _ _ (g _ _ e)
   ·rw[aa,take_snoc f,<-ef,fB]
   ·rw[<-hf,take_snoc f,<-ef]
    conv=>rhs;unfold Fl
    rw[if_neg];rintro(z|z|z)
    ·exact s z
    ·exact u z
    ·rw[T]at z;cases z
 ·rintro σ H' ⟨x,y,rfl,n,_,hf⟩;rw[ai,List.drop_length]at hf;have:=r H' n;rw[<-hf]at this;exact this
theorem zc{a:Nat}:∀(e ahead:Zb) (i:Nat),i+e.length<=a->(ahead++e).Nodup->(∀w∈e,nO w)->Fl a i ahead e=none
 |[],_,_,_,_,_=>rfl
 |n::e,ahead,i,h,f,g=>by
  rw[c_]at h;unfold Fl;rw[if_neg]
  ·refine zc e (ahead++[n]) (i+1) (by omega) (by rw[ef];exact f) fun w j=>g w (eU _ j)
  ·rintro(z|z|z)
   ·omega
   ·rw[dk]at f;exact f.2.2 n z n (eL) rfl
   ·rw[(g n eL).b]at z;cases z
theorem g7{a:Nat}{e taken:Zb}(f:e≠[])(i:e.length<=a)(g:(taken++e).Nodup)(h:∀w∈e,nO w):cP e a taken=none:=by
 unfold cP;rw[if_neg f];exact zc e taken 0 (by omega) g h
theorem gb{n:Nat}(h:n<=9000):n<ak:=Nat.lt_of_le_of_lt h (by decide)
def qi(x:Str):TK:=.k (some (.inr x))
def ul(sg:Zb):TK:=.t (sg.map qi)
def Ca(d:ao):TK:=.t [qi d.a,ul d.sg,qi d.b]
theorem sB{x y:Str}(h:qi x=qi y):x=y:=by
 unfold qi at h;injection h with h;injection h with h;injection h
theorem rj:∀{x y:Zb},x.map qi=y.map qi->x=y
 |[],[],_=>rfl
 |[],_::_,h=>by cases h
 |_::_,[],h=>by cases h
 |a::x,b::y,h=>by
  rw[cg,cg]at h;injection h with e f;rw[sB e,rj f]
theorem xG{x y:Zb}(h:ul x=ul y):x=y:=by
 unfold ul at h;injection h with h;exact rj h
theorem GR{x y:ao}(h:Ca x=Ca y):x=y:=by
 unfold Ca at h;injection h with h;injection h with a h;injection h with e h;injection h with f h;cases x;cases y;simp only at *;rw[sB a,xG e,sB f]
theorem zW(xs:Zb):TK.depths (xs.map qi)=0:=by
 induction xs with
 |nil=>rfl
 |cons x xs a=>rw[cg];show max (TK.depth (qi x)) (TK.depths _)=0;rw[a];rfl
theorem vq(a:Zb):(ul a).depth=1:=by
 show TK.depths (a.map qi)+1=1;rw[zW]
theorem vt(d:ao):(Ca d).depth=2:=by
 show max (TK.depth (qi d.a)) (max (TK.depth (ul d.sg)) (max (TK.depth (qi d.b)) 0))+1=2;rw[vq]
 rfl
theorem By{H:Hp}:∀xs:List Str,TKAts H (xs.map qi) (xs.map V.str)
 |[]=>by show TKAts H [] [];unfold TKAts;rfl
 |x::xs=>by
  rw[cg,cg];unfold TKAts;refine⟨_,_,rfl,?_,By xs⟩;unfold qi g8
  rfl
theorem wJ{H:Hp}(x:Str):g8 H (qi x) (.str x):=by unfold qi g8;rfl
theorem SignAt.tk{H:Hp}{s:Addr}{a:Zb}(h:SignAt H s a):g8 H (ul a) (.ref s):=by
 unfold ul g8;exact⟨s,_,rfl,h,By _⟩
theorem fS.tk{H:Hp}{t:Addr}{d:ao}(h:fS H t d):g8 H (Ca d) (.ref t):=by
 obtain⟨s,a,e⟩:=h;unfold Ca g8;refine⟨t,_,rfl,a,?_⟩;unfold TKAts;refine⟨_,_,rfl,wJ _,?_⟩;unfold TKAts;refine⟨_,_,rfl,SignAt.tk e,?_⟩;unfold TKAts;refine⟨_,_,rfl,wJ _,?_⟩;unfold TKAts
 rfl
section
variable{κ:Type}[DecidableEq κ]
def kE(ks:List κ):List (κ×V):=ks.foldl (fun acc k=>fh acc k (.bl true)) []
theorem nn(a:List κ)(w:κ):kE (a++[w])=fh (kE a) w (.bl true):=by
 unfold kE;rw[List.foldl_append]
 rfl
theorem Db(a:List κ):(kE a).length<=a.length:=by
 refine k6 (fun a=>(kE a).length<=a.length) (aK _) (fun a w h=>?_) a;show(kE (a++[w])).length<=(a++[w]).length;rw[nn,aV];have:=yR (kE a) w (.bl true);show _<=a.length+1;omega
theorem Fd(a:List κ)(x:κ):(de (kE a) x).isSome=decide (x∈a):=by
 refine k6 (fun a=>(de (kE a) x).isSome=decide (x∈a)) rfl (fun a w h=>?_) a;show(de (kE (a++[w])) x).isSome=_;rw[nn,yv];by_cases e:x=w
 ·subst e;rw[if_pos rfl,zzr1 (by simp)]
  rfl
 ·rw[if_neg e,h];by_cases m:x∈a
  ·rw[zzr1 m,zzr1 (cN _ m)]
  ·rw[zzr0 m,zzr0 (fun z=>by rcases bE.mp z with z|z;exact m z;exact e (by simpa using z))]
end
theorem BS{d:ao}{a:List ao}:Ca d∈a.map Ca↔d∈a:=by
 constructor
 ·intro h;obtain⟨x,hx,e⟩:=aL.mp h;rw[<-GR e];exact hx
 ·exact gU
def nG(K:Za)(H:Hp)(v:V)(sg:Zb):Prop:=∃s,v=.ref s/\cr K H s (sg.map V.str)
theorem ac.sqT{K:Za}{H f:Hp}{a:Addr}{xs:List V}(e:ac H f)(h:cr K H a xs):cr K f a xs:=by
 rcases h with(h|⟨o,h⟩)|h
 ·exact .inl (.inl (e _ _ h))
 ·exact .inl (.inr ⟨o,e _ _ h⟩)
 ·exact .inr h
theorem Signs.same{K:Za}{H f:Hp}(e:ac H f){xs:List V}{a:List (List Str)}(h:Paired (nG K H) xs a):Paired (nG K f) xs a :=
 Paired.mapP h fun _ _ ⟨s,g,i⟩=>⟨s,g,ac.sqT e i⟩
def u7(sg:Zb):DT:=.t (sg.map cq)
theorem BX{x y:Zb}(h:u7 x=u7 y):x=y:=by
 unfold u7 at h;injection h with h;exact eh h
theorem ij(a:Zb):(u7 a).depth=1:=by
 show DT.depths (a.map cq)+1=1;rw[dC]
theorem Dj(a:List (List Str)):DT.depths (a.map u7)<=8:=by
 induction a with
 |nil=>exact dA _
 |cons x xs e=>rw[cg];show max (DT.depth (u7 x)) (DT.depths _)<=8;rw[ij];omega
theorem Signs.dIns{K:Za}{H:Hp}{xs:List V}{a:List (List Str)}(h:Paired (nG K H) xs a):DIns K H (a.map u7) xs:=by
 induction h with
 |nil=>show DIns K H [] [];unfold DIns;rfl
 |cons q _ f =>
  obtain⟨s,e,r⟩:=q;rw[cg];unfold DIns;refine⟨_,_,rfl,?_,f⟩;rw[e];exact eA r
theorem BR{d:Zb}{a:List (List Str)}:u7 d∈a.map u7↔d∈a:=by
 constructor
 ·intro h;obtain⟨x,hx,e⟩:=aL.mp h;rw[<-BX e];exact hx
 ·exact gU
theorem Paired.app{α β:Type}{R:α->β->Prop}{a:List α}{b:List β}{c:List α}{d:List β}(g:Paired R a b)(h:Paired R c d):Paired R (a++c) (b++d):=by
 induction g with
 |nil=>exact h
 |cons r _ e=>exact .cons r e
def eE(w:Str):List Str:=[("ask":Str),w]
def fu(w:Str):List Str:=[("say":Str),w]
def jJ(J0 J2:Zb):List (List Str):=J0.map eE++J2.map fu++[aB]
theorem tU{K:Za}{h:Str}{σ:L2.St}{H:Hp}{a l:Addr}{j:Zb}{Q:Hp->Prop}(B:H a=some (.lst (j.map V.str)))(A:H l=none)(J:j.length<=2000)
  (k:∀(xs:List V) (f:Hp),Paired (nG K f) xs (j.map fun w=>[h,w])->ac H f->f l=some (.lst xs)->Q f) :
  cR 1 [] σ (Cm K a) U0 jn (ca (aG (tC (.str h)) V0)) H l Q:=by
 let r:Nat->List V->Hp->Prop:=fun i g f=>Paired (nG K f) g ((j.take i).map fun w=>[h,w])/\ac H f/\f l=some (.lst g)
 refine cE (xs:=j.map V.str) r
  ⟨.nil,ac.new A,aa⟩ (fun i g f _ C=>by obtain⟨_,D,E⟩:=C;exact⟨E,av.of (D _ _ B)⟩) ?_ ?_
 ·rintro g f ⟨m,u,n⟩;rw[ai,bJ]at m;exact k g f m u n
 ·rintro i g f x hx hi ⟨m,u,n⟩;obtain⟨w,G,rfl⟩:=bx hx;refine gN (rN ?_);refine⟨_,rfl,(by show 2<=ak;decide),fun t p=>⟨kp n p,?_,r6 hi ⟨?_,?_,aa⟩⟩⟩
  ·rw[Paired.length m,ai,aY];exact ar (by omega)
  ·rw[take_snoc G,aF];have q:pd (upd f t (.tup [.str h,.str w])) (upd (upd f t (.tup [.str h,.str w])) l (.lst (g++[.ref t]))):=gm (kp n p);have y:pd f (upd (upd f t (.tup [.str h,.str w])) l (.lst (g++[.ref t]))):=(ac.kt (ac.new p)).trans q;refine Paired.app (Paired.mapP m fun v L ⟨s,I,e2⟩=>⟨s,I,?_⟩) (.cons ⟨t,rfl,cr.of (q _ _ aa)⟩ .nil);rcases e2 with(e2|⟨o,e2⟩)|e2
   ·exact .inl (.inl (y _ _ e2))
   ·refine .inl (.inr ⟨o,?_⟩);rw[am (fun z=>by rw[z,n]at e2;cases e2)];exact kp e2 p
   ·exact .inr e2
  ·intro b o e;rw[am (ag e A)];exact kp (u _ _ e) p
inductive sp_door_signs(K:Za)(vs:List V)(H:Hp)(Q:VK)(E:XK):Prop
 |mk (l1 l2:Addr) (J0 J2:Zb):(vs=[.ref l1,.ref l2])->(H l1=some (.lst (J0.map V.str)))->(H l2=some (.lst (J2.map V.str)))->(J0.length<=100)->(J2.length<=100)->(∀(l:Addr) (xs:List V) (H':Hp),Paired (nG K H') xs (jJ J0 J2)->ac H H'->H' l=some (.lst xs)->Q (.ref l) H')->sp_door_signs K vs H Q E
theorem u3{K:Za}{st:Addr}(i:∀H,cr K H st (aB.map V.str)){n:List V}{H:Hp}{Q:VK}{E:XK}(h:sp_door_signs K n H Q E):wP K st (bQ Q) (start xY n) H:=by
 obtain⟨y,z,J,L,rfl,o,p,A,B,k⟩:=h;refine⟨_,rfl,y,rfl,⟨_,av.of o⟩,fun a C=>?_⟩;refine tU o C (by omega) fun f M q j D=>?_;refine⟨_,rfl,z,rfl,⟨_,av.of (j _ _ p)⟩,fun b G=>?_⟩;refine tU (j _ _ p) G (by omega) fun g r s l I=>?_;have t:f.length<=100:=by rw[Paired.length q,ai];exact A
 have u:g.length<=100:=by rw[Paired.length s,ai];exact B
 refine⟨a,b,f,g,rfl,rfl,l _ _ D,I,cy (ar (by omega)),fun c v=>?_⟩;refine⟨(by show 1<=ak;decide),fun d m=>?_⟩;refine⟨c,d,_,_,rfl,rfl,kp aa m,aa,?_,fun e w=>k e _ _ ?_ ?_ aa⟩
 ·rw[aV];show _+1<=ak;exact cy (ar (by omega))
 ·have x:ac r (upd (upd (upd r c (.lst (f++g))) d (.lst [.ref st])) e (.lst (f++g++[.ref st]))):=((ac.new v).trans (ac.new m)).trans (ac.new w);exact Paired.app (Paired.app (Signs.same (l.trans x) q) (Signs.same x s)) (.cons ⟨st,rfl,i _⟩ .nil)
 ·exact(((j.trans l).trans (ac.new v)).trans (ac.new m)).trans (ac.new w)
def GI(J3:Zb)(sgs:List (List Str)):Nat->List ao->List ao->Option Nat
 |_,_,[]=>none
 |i,ahead,d::ds=>if i=2000∨d∈ahead∨d.a∉J3∨d.sg∉sgs∨d.b∉J3 then some i else GI J3 sgs (i+1) (ahead++[d]) ds
inductive sp_first_wrong_door(K:Za)(vs:List V)(H:Hp)(Q:VK)(E:XK):Prop
 |mk (l l3 sl:Addr) (ts:Ze) (ds:List ao) (J3:Zb) (xs:List V) (sgs:List (List Str)):(vs=[.ref l,.ref l3,.ref sl])->(H l=some (.lst (ts.map V.ref)))->(cF H ts ds)->(H l3=some (.lst (J3.map V.str)))->(J3.length<=2000)->(H sl=some (.lst xs))->(Paired (nG K H) xs sgs)->(ds.length<=9000)->(∀H',ac H H'->Q (oV (GI J3 sgs 0 [] ds)) H')->sp_first_wrong_door K vs H Q E
theorem eV{a:Ze}{i:Nat}{x:V}(h:(a.map V.ref)[i]?=some x):∃w,a[i]?=some w/\x=.ref w:=by
 rw[cH]at h;cases q:a[i]? with
 |none=>rw[q]at h;cases h
 |some r=>rw[q]at h;exact⟨r,rfl,(eM h).symm⟩
theorem my{K:Za}{vs:List V}{H:Hp}{Q:VK}{E:XK}(h:sp_first_wrong_door K vs H Q E):mY K (sp_as_keys K) (bQ Q) (start nK vs) H:=by
 obtain⟨l,l3,sl,ts,p,w,xs,m,rfl,hl,B,h3,hr,U,Y,hz,k⟩:=h;refine⟨_,rfl,qI (av.of h3) hr fun d hd=>?_⟩;refine fun e he=>?_;have C:ac H (upd (upd H d (.dK (bD w))) e (.dT [])):=(ac.new hd).trans (ac.new he);have ab:H e=none:=(ac.new hd).free he;refine⟨_,rfl,l,rfl,⟨_,av.of (C _ _ hl)⟩,?_⟩
 let al:Nat->L2.St->Hp->Prop:=fun i σ H'=>∃x y,σ=[some (.ref l),some (.ref l3),some (.ref sl),some (.ref d),some (.ref e),x,y]/\ac H H'/\H' d=some (.dK (bD w))/\H' e=some (.dT (kE ((p.take i).map Ca)))/\GI w m i (p.take i) (p.drop i)=GI w m 0 [] p
 refine lF (xs:=ts.map V.ref) al
  ⟨_,_,rfl,C,kp aa he,aa,rfl⟩ (fun i σ H' _ zq=>by obtain⟨_,_,_,D,_⟩:=zq;exact av.of (D _ _ hl)) ?_ ?_
 ·rintro i x σ H' q hi ⟨x5,x6,rfl,D,an,ap,hf⟩ hq;obtain⟨t,ht,rfl⟩:=eV hi;obtain⟨f,r,as⟩:=Paired.getL B ht;have aC:i<p.length:=(bG.mp r).1;have ed:p.drop i=f::p.drop (i+1):=by
   rw[wk aC];congr 1;exact(bG.mp r).2
  rw[ed]at hf;have g:ac H (upd H' q (.tup [.int i,.ref t])):=D.trans (ac.new hq);have j:upd H' q (.tup [.int i,.ref t]) d=_:=kp an hq;have u:upd H' q (.tup [.int i,.ref t]) e=_:=kp ap hq;refine⟨q,_,rfl,cr.of aa,rfl,_,_,rfl,_,_,rfl,rfl,?_⟩;generalize upd H' q (.tup [.int i,.ref t])=H2 at j u g ⊢;have A:=as.kt (ac.kt g);have aT:nF K H2 (Ca f) (.ref t):=g8.isIn 8 (by rw[vt];decide) A.tk;have G:(Ca f).depth<=8:=by rw[vt];decide
  obtain⟨s,v,I⟩:=A;have n:(i=2000∨f∈p.take i∨f.a∉w∨f.sg∉m∨f.b∉w)->Q (.int i) H2:=by
   intro c;have:=k H2 g;rw[<-hf]at this;unfold GI at this;rw[if_pos c]at this;exact this
  refine⟨_,rfl,rfl,_,rfl,?_⟩;by_cases L:i=2000
  ·have e1:decide (V.int (i:Nat)=V.int 2000)=true:=zzr1 (by rw[L];rfl);rw[e1];exact bC (bC ⟨_,rfl,n (.inl L)⟩)
  have e1:decide (V.int (i:Nat)=V.int 2000)=false:=zzr0 (fun z=>L (by injection z with z;omega));rw[e1];refine bv ?_;refine⟨_,rfl,_,rfl,e,_,rfl,.inr ⟨_,Ca f,t,.inl u,rfl,aT,G,rfl⟩,_,rfl,?_⟩;rw[Fd];by_cases M:f∈p.take i
  ·rw[zzr1 (BS.mpr M)];exact bC ⟨_,rfl,n (.inr (.inl M))⟩
  rw[zzr0 (fun z=>M (BS.mp z))];refine bv ?_;refine⟨_,rfl,.inr (.inl ⟨t,_,0,_,rfl,rfl,cr.of v,rfl,_,rfl,d,_,rfl,.inl ⟨_,.inr f.a,.inl j,rfl,rfl⟩,_,rfl,?_⟩)⟩;rw[jE];by_cases N:f.a∈w;rotate_left
  ·rw[zzr0 N];exact bC (bC ⟨_,rfl,n (.inr (.inr (.inl N)))⟩)
  rw[zzr1 N];refine bv ?_;refine⟨_,rfl,.inr (.inl ⟨t,_,1,_,rfl,rfl,cr.of v,rfl,_,rfl,u7 f.sg,m.map u7,sl,xs,eA (cr.of I),rfl,.inl (av.of (g _ _ U)),Signs.dIns (Signs.same g Y),by rw[ij];decide,Dj _,_,rfl,?_⟩)⟩;rw[if_pos rfl];by_cases O:f.sg∈m;rotate_left
  ·rw[zzr0 (fun z=>O (BR.mp z))];exact bC (bC ⟨_,rfl,n (.inr (.inr (.inr (.inl O))))⟩)
  rw[zzr1 (BR.mpr O)];refine bv ?_;refine⟨_,rfl,.inr (.inl ⟨t,_,2,_,rfl,rfl,cr.of v,rfl,_,rfl,d,_,rfl,.inl ⟨_,.inr f.b,.inl j,rfl,rfl⟩,_,rfl,?_⟩)⟩;rw[jE];by_cases T:f.b∈w;rotate_left
  ·rw[zzr0 T];exact bC ⟨_,rfl,n (.inr (.inr (.inr (.inr T))))⟩
  rw[zzr1 T];refine bv ?_;have J:(kE ((p.take i).map Ca)).length<ak:=gb (bW (Db _) (by rw[ai,aY];omega));refine⟨_,rfl,_,rfl,e,_,rfl,.inr ⟨_,Ca f,t,u,rfl,fS.tk ⟨s,v,I⟩,G,J,rfl⟩,_,_,rfl,?_,?_,?_,?_⟩
  ·intro b o q;rw[am (ag q ab)];exact g _ _ q
  ·rw[am (fun z=>by rw[z,u]at j;cases j)];exact j
  ·rw[aa,take_snoc r,aF];exact congrArg (fun z=>some (HO.dT z)) (nn _ _).symm
  ·rw[<-hf,take_snoc r]
   conv=>rhs;unfold GI
   rw[if_neg];rintro(z|z|z|z|z)
   ·exact L z
   ·exact M z
   ·exact z N
   ·exact z O
   ·exact z T
 ·rintro σ H' ⟨x,y,rfl,D,_,_,hf⟩;have:=k H' D;rw[<-hf,ai,Paired.length B,List.drop_length]at this;exact this
theorem ze{g:Zb}{e:List (List Str)}:∀(f ahead:List ao) (i:Nat),i+f.length<=2000->(ahead++f).Nodup->(∀d∈f,d.a∈g/\d.sg∈e/\d.b∈g)->GI g e i ahead f=none
 |[],_,_,_,_,_=>rfl
 |n::k,ahead,i,l,h,j=>by
  rw[c_]at l;unfold GI;rw[if_neg]
  ·refine ze k (ahead++[n]) (i+1) (by omega) (by rw[ef];exact h) fun w m=>j w (eU _ m)
  ·have:=j n eL;rintro(z|z|z|z|z)
   ·omega
   ·rw[dk]at h;exact h.2.2 n z n (eL) rfl
   ·exact z this.1
   ·exact z this.2.1
   ·exact z this.2.2
inductive sp_need_none (vs:List V)(H:Hp)(Q:VK)(E:XK):Prop
 |mk (x:V):(vs=[x,.non])->(Q .non H)->sp_need_none  vs H Q E
theorem w_{K:Za}{a:List V}{H:Hp}{Q:VK}{E:XK}(h:sp_need_none a H Q E):yz K (bQ Q) (start zB a) H:=by
 obtain⟨x,rfl,k⟩:=h;refine⟨_,rfl,_,rfl,?_⟩;have e:(!decide (V.non=V.non))=false:=by rw[zzr1 rfl];rfl
 rw[e];exact bv k
structure Lists(H:Hp)(l1 l2 l3 l4:Addr)(ts:Ze)(J0 J2 J3:Zb)(ds:List ao):Prop where
 a1:H l1=some (.lst (J0.map V.str))
 a2:H l2=some (.lst (J2.map V.str))
 a3:H l3=some (.lst (J3.map V.str))
 a4:H l4=some (.lst (ts.map V.ref))
 ds:cF H ts ds
theorem Lists.same{H a:Hp}{f g l3 i:Addr}{j:Ze}{k l m:Zb}{n:List ao}(h:Lists H f g l3 i j k l m n)(e:ac H a):Lists a f g l3 i j k l m n :=
 ⟨e _ _ h.a1,e _ _ h.a2,e _ _ h.a3,e _ _ h.a4,h.ds.kt (ac.kt e)⟩
inductive sp_need_parts (vs:List V)(H:Hp)(Q:VK)(E:XK):Prop
 |mk (l1 l2 l3 l4:Addr) (ts:Ze) (J0 J2 J3:Zb) (ds:List ao):(vs=[.ref l1,.ref l2,.ref l3,.ref l4])->(Lists H l1 l2 l3 l4 ts J0 J2 J3 ds)->(aR J0 J2 J3 ds)->(∀H',ac H H'->Q .non H')->sp_need_parts  vs H Q E
theorem aR.signs{J0 i f:Zb}{j:List ao}(m:aR J0 i f j):∀d∈j,d.a∈f/\d.sg∈jJ J0 i/\d.b∈f:=by
 intro d k;have g:=m.good d k;refine⟨g.a,?_,g.b⟩;unfold jJ;rcases g.sg with⟨w,h,e⟩|⟨w,h,e⟩|e
 ·rw[e];exact cN _ (cN _ (aL.mpr ⟨w,h,rfl⟩))
 ·rw[e];exact cN _ (cV _ (aL.mpr ⟨w,h,rfl⟩))
 ·rw[e];exact cV _ (by simp[aB])
theorem qr{a:Zb}(h:e_ a):∀w∈a,w.length<=2000:=fun w e=>bW (h.2 w e).hi (by decide)
theorem uZ{K:Za}{s:List V}{H:Hp}{Q:VK}{E:XK}(h:sp_need_parts s H Q E):wM K sp_need_none (sp_first_wrong_door K) (sp_door_signs K) (sp_first_wrong_name K) (bQ Q) (start xW s) H:=by
 obtain⟨l,t,u,x,y,f,g,j,n,rfl,L,m,k⟩:=h;have z:cP f 4 []=none:=g7 m.asks0 m.asks4 m.okA.1 m.okA.2;have A:cP g 4 f=none:=g7 m.says0 m.says4 (by
  rw[dk];exact⟨m.okA.1,m.okS.1,fun a B b C e=>m.apart b C (e▸B)⟩) m.okS.2
 have D:cP j 150 []=none:=g7 m.rooms0 (by have:=m.rooms26;omega) m.okR.1 m.okR.2;have G:GI j (jJ f g) 0 [] n=none:=ze n [] 0 (by have:=m.few;omega) m.nodup m.signs;have Y:=m.asks4;have z2:=m.says4;have z3:=m.rooms26;have z4:=m.few;refine⟨_,rfl,(by show 0<=ak;decide),fun e i=>⟨l,e,f,[],4,rfl,av.of (kp L.a1 i),av.of aa,by simp;omega,qr m.okA,fun H1 I=>?_⟩⟩;rw[z];refine⟨_,rfl,?_⟩;have o:=(ac.new i).trans I;refine⟨_,rfl,_,rfl,t,l,g,f,4,rfl,av.of (o _ _ L.a2),av.of (o _ _ L.a1),by omega,qr m.okS,fun H2 J=>?_⟩;rw[A];refine⟨_,rfl,?_⟩;have v:=o.trans J;refine⟨_,rfl,(by show 0<=ak;decide),fun e i=>⟨u,e,j,[],150,rfl,av.of (kp (v _ _ L.a3) i),av.of aa,by simp;omega,qr m.okR,fun H3 M=>?_⟩⟩;rw[D];refine⟨_,rfl,?_⟩;have p:=(v.trans (ac.new i)).trans M;refine⟨_,rfl,_,rfl,_,rfl,_,rfl,l,t,f,g,rfl,p _ _ L.a1,p _ _ L.a2,by omega,by omega,fun N xs H4 hx O q=>?_⟩;have w:=p.trans O;have r:=L.same w;refine⟨x,u,N,y,n,j,xs,jJ f g,rfl,r.a4,r.ds,r.a3,by omega,q,hx,by omega,fun T U=>?_⟩;rw[G];exact⟨_,rfl,k T (w.trans U)⟩
section
variable{κ ι:Type}[DecidableEq κ]{e:ι->κ}
def dQ(e:ι->κ)(ps:List (ι×Addr)):List (κ×V):=ps.map fun x=>(e x.1,V.ref x.2)
theorem mf(inj:∀x y,e x=e y->x=y){i:ι}:∀{a:List (ι×Addr)},i∉a.map (·.1)->de (dQ e a) (e i)=none
 |[],_=>rfl
 |x::a,h=>by
  rw[cg,cK]at h;show de ((e x.1,V.ref x.2)::dQ e a) (e i)=none;rw[db (fun z=>h (.inl (inj _ _ z).symm))];exact mf inj (fun z=>h (.inr z))
theorem d_(inj:∀x y,e x=e y->x=y){i:ι}{a:Addr}:∀{f:List (ι×Addr)},(f.map (·.1)).Nodup->(i,a)∈f->de (dQ e f) (e i)=some (.ref a)
 |[],_,h=>by cases h
 |x::f,g,h=>by
  rw[cg,iF]at g;show de ((e x.1,V.ref x.2)::dQ e f) (e i)=_;rcases cK.mp h with h|h
  ·rw[<-h];exact dB rfl
  ·rw[db (fun z=>g.1 (by rw[inj _ _ z];exact aL.mpr ⟨_,h,rfl⟩))];exact d_ inj g.2 h
theorem vG(f:List (ι×Addr))(i:ι)(a:Addr):dQ e (f++[(i,a)])=dQ e f++[(e i,.ref a)]:=by
 unfold dQ;rw[aF]
 rfl
end
structure DL{ι:Type}(H0 H:Hp)(d:Addr)(ps:List (ι×Addr)):Prop where
 nd:(ps.map (·.1)).Nodup
 na:(ps.map (·.2)).Nodup
 fr:∀x∈ps,H0 x.2=none
 frd:H0 d=none
 ned:∀x∈ps,x.2≠d
 same:ac H0 H
theorem DL.snoc{ι:Type}{f H k:Hp}{d:Addr}{g:List (ι×Addr)}{i:ι}{a:Addr}(h:DL f H d g)(hi:i∉g.map (·.1))(l:∀x∈g,x.2≠a)(m:f a=none)(n:a≠d)(s:ac f k):DL f k d (g++[(i,a)]):=by
 refine⟨?_,?_,?_,h.frd,?_,s⟩
 ·rw[aF,dk];refine⟨h.nd,by simp,fun x hx y j e=>?_⟩;have:y=i:=by simpa using j
  exact hi (by rw[<-this,<-e];exact hx)
 ·rw[aF,dk];refine⟨h.na,by simp,fun x hx y j e=>?_⟩;have:y=a:=by simpa using j
  obtain⟨z,o,rfl⟩:=aL.mp hx;exact l z o (e.trans this)
 ·intro x hx;rcases bE.mp hx with hx|hx
  ·exact h.fr x hx
  ·have:x=(i,a):=by simpa using hx
   rw[this];exact m
 ·intro x hx;rcases bE.mp hx with hx|hx
  ·exact h.ned x hx
  ·have:x=(i,a):=by simpa using hx
   rw[this];exact n
theorem Fa{ι:Type}:∀{a:List (ι×Addr)},(a.map (·.2)).Nodup->∀{x y:ι×Addr},x∈a->y∈a->x.2=y.2->x=y
 |[],_,x,_,h,_,_=>by cases h
 |p::a,f,x,y,hx,g,e=>by
  rw[cg,iF]at f;rcases cK.mp hx with hx'|hx'<;>rcases cK.mp g with hy'|hy'
  ·rw[hx',hy']
  ·exact absurd (aL.mpr ⟨y,hy',by rw[<-e,hx']⟩) f.1
  ·exact absurd (aL.mpr ⟨x,hx',by rw[e,hy']⟩) f.1
  ·exact Fa f.2 hx' hy' e
theorem ig:∀x y:Str,(Sum.inr x:fD)=Sum.inr y->x=y:=fun x y h=>by injection h
def bu(ds:List ao)(r:Str):List ao:=ds.filter fun d=>decide (d.a=r)
inductive sp_doors_by_start (vs:List V)(H:Hp)(Q:VK)(E:XK):Prop
 |mk (l3 l4:Addr) (ts:Ze) (J3:Zb) (ds:List ao):(vs=[.ref l3,.ref l4])->(H l3=some (.lst (J3.map V.str)))->(H l4=some (.lst (ts.map V.ref)))->(cF H ts ds)->(J3.Nodup)->(J3.length<=2000)->(ds.length<=9000)->((∀d∈ds,d.a∈J3))->(∀(d:Addr) (ps:List (Str×Addr)) (H':Hp),ps.map (·.1)=J3->H' d=some (.dK (dQ Sum.inr ps))->(∀x∈ps,∃us,H' x.2=some (.lst (us.map V.ref))/\cF H' us (bu ds x.1))->ac H H'->Q (.ref d) H')->sp_doors_by_start  vs H Q E
theorem oH{K:Za}{vs:List V}{H:Hp}{Q:VK}{E:XK}(h:sp_doors_by_start vs H Q E):p9 K (bQ Q) (start qQ vs) H:=by
 obtain⟨l3,l4,ts,J3,L,rfl,h3,h4,M,ap,hz,bb,aC,k⟩:=h;refine fun d hd=>?_;refine⟨_,rfl,l3,rfl,⟨_,av.of (kp h3 hd)⟩,?_⟩
 let aT:Nat->L2.St->Hp->Prop:=fun i σ j=>∃x y,σ=[some (.ref l3),some (.ref l4),some (.ref d),x,y]/\∃l:List (Str×Addr),l.map (·.1)=J3.take i/\j d=some (.dK (dQ Sum.inr l))/\DL H j d l/\∀x∈l,j x.2=some (.lst [])
 refine bS (xs:=J3.map V.str) aT
  ⟨_,_,rfl,[],rfl,aa,⟨by simp,by simp,by simp,hd,by simp,ac.new hd⟩,by simp⟩ (fun i σ j _ zq=>by obtain⟨_,_,_,_,_,_,D,_⟩:=zq;exact av.of (D.same _ _ h3)) ?_ ?_
 ·rintro i x σ j hi ⟨x3,N,rfl,l,m,n,D,g⟩;obtain⟨w,hw,rfl⟩:=bx hi;have v:w∉l.map (·.1):=by
   rw[m];intro z;have:=ap;rw[<-List.take_append_drop (i+1) J3,take_snoc hw,dk]at this;have:=this.1;rw[dk]at this;exact this.2.2 w z w (by simp) rfl
  refine⟨(by show 0<=ak;decide),fun a G=>?_⟩;have O:(dQ (Sum.inr:Str->fD) l).length<ak:=ar (by
   unfold dQ;rw[ai,<-ai (f:=(·.1)) (as:=l),m,aY];omega)
  have aX:H a=none:=D.same.free G;have T:a≠d:=(ag n G).symm;have U:∀x∈l,x.2≠a:=fun x hx=>ag (g x hx) G;refine⟨_,rfl,_,rfl,d,_,rfl,.inl ⟨_,.inr w,kp n G,rfl,O,rfl⟩,_,_,rfl,l++[(w,a)],?_,?_,?_,?_⟩
  ·rw[aF,m,take_snoc hw];rfl
  ·rw[aa,oK _ (mf ig v),vG]
  ·refine D.snoc v U aX T ?_;intro b o q;rw[am (ag q hd)];exact kp (D.same _ _ q) G
  ·intro x hx;rcases bE.mp hx with hx|hx
   ·rw[am (D.ned x hx)];exact kp (g x hx) G
   ·have:x=(w,a):=by simpa using hx
    rw[this,am T];exact aa
 ·rintro σ H1 ⟨x3,N,rfl,l,m,a0,D1,g⟩;rw[ai,bJ]at m;refine⟨_,rfl,l4,rfl,⟨_,av.of (D1.same _ _ h4)⟩,?_⟩
  let a4:Nat->L2.St->Hp->Prop:=fun i σ j=>∃N,σ=[some (.ref l3),some (.ref l4),some (.ref d),x3,N]/\j d=some (.dK (dQ Sum.inr l))/\DL H j d l/\∀x∈l,∃I,j x.2=some (.lst (I.map V.ref))/\cF j I (bu (L.take i) x.1)
  refine bS (xs:=ts.map V.ref) a4
   ⟨_,rfl,a0,D1,fun x hx=>⟨[],g x hx,.nil⟩⟩ (fun i σ j _ zq=>by obtain⟨_,_,_,D,_⟩:=zq;exact av.of (D.same _ _ h4)) ?_ ?_
  ·rintro i x σ j hi ⟨N,rfl,n,D,g⟩;obtain⟨t,ht,rfl⟩:=eV hi;obtain⟨u,B,a5⟩:=Paired.getL M ht;have A:=a5.kt (ac.kt D.same);have Y:=A;obtain⟨s,a6,bd⟩:=A;have ab:u.a∈l.map (·.1):=by rw[m];exact aC u (cp B)
   obtain⟨⟨r,a⟩,p,er⟩:=aL.mp ab;obtain rfl:r=u.a:=er;obtain⟨I,C,al⟩:=g _ p;have bi:i<L.length:=(bG.mp B).1;have a7:I.length<=9000:=by
    rw[Paired.length al];refine bW (cW _ _) ?_;rw[aY];omega
   have KT:pd j (upd j a (.lst (I.map V.ref++[.ref t]))):=gm C;refine⟨_,rfl,_,rfl,.inr (.inl ⟨t,_,0,_,rfl,rfl,cr.of a6,rfl,d,.ref a,rfl,.inl ⟨_,.inr u.a,.inl n,rfl,(d_ ig D.nd p).symm⟩,.inl ⟨rfl,_,av.of C⟩,_,rfl,a,_,_,rfl,rfl,C,?_,_,rfl,?_,?_,?_⟩)⟩
   ·rw[ai];exact gb a7
   ·rw[am (D.ned _ p).symm];exact n
   ·refine⟨D.nd,D.na,D.fr,D.frd,D.ned,fun b o q=>?_⟩;rw[am (ag q (D.fr _ p))];exact D.same _ _ q
   ·intro x hx;have an:∀r',bu (L.take (i+1)) r'=bu (L.take i) r'++(if u.a=r' then[u]else[]):=by
     intro r';unfold bu;rw[take_snoc B,iu];congr 1;by_cases c:u.a=r'
     ·rw[if_pos c];simp[c]
     ·rw[if_neg c];simp[c]
    by_cases c:x.2=a
    ·have ex:=Fa D.na hx p c;subst ex;refine⟨I++[t],?_,?_⟩
     ·show upd j a _ a=_;rw[aa,aF];rfl
     ·rw[an];show cF _ _ (bu (L.take i) u.a++(if u.a=u.a then[u]else[]))
      rw[if_pos rfl];exact Paired.app (al.kt KT) (.cons (Y.kt KT) .nil)
    ·obtain⟨a8,h1,h2⟩:=g x hx;have a9:¬(u.a=x.1):=fun z=>by
      have e1:=d_ (e:=(Sum.inr:Str->fD)) ig D.nd p;have J:=d_ (e:=(Sum.inr:Str->fD)) (i:=x.1) (a:=x.2) ig D.nd hx;rw[<-z,e1]at J;injection J with J;injection J with J;exact c J.symm
     refine⟨a8,by rw[am c];exact h1,?_⟩;rw[an,if_neg a9,dO];exact h2.kt KT
  ·rintro σ j ⟨N,rfl,n,D,g⟩;rw[ai,Paired.length M,bJ]at g;exact⟨_,rfl,k d l j m n g D.same⟩
def zb(d:ao):Bool:=match d.sg with
 |s::_=>decide (s=("ask":Str))
 |[]=>false
inductive sp_has_asks_alone (vs:List V)(H:Hp)(Q:VK)(E:XK):Prop
 |mk (a:Addr) (us:Ze) (ds:List ao):(vs=[.ref a])->(H a=some (.lst (us.map V.ref)))->(cF H us ds)->(ds.length<=9000)->((∀d∈ds,d.sg≠[]))->(∀H',ac H H'->Q (.bl (ds.all zb)) H')->sp_has_asks_alone  vs H Q E
theorem oG{K:Za}{f:List V}{H:Hp}{Q:VK}{E:XK}(h:sp_has_asks_alone f H Q E):p7 K (bQ Q) (start qO f) H:=by
 obtain⟨a,O,L,rfl,M,v,Y,C,k⟩:=h;refine⟨_,rfl,a,rfl,⟨_,av.of M⟩,fun l N=>?_⟩
 let D:Nat->List V->Hp->Prop:=fun i f n=>f=(L.take i).map (fun d=>V.bl (zb d))/\ac H n/\n l=some (.lst f)
 refine cE (xs:=O.map V.ref) D
  ⟨rfl,ac.new N,aa⟩ (fun i f n _ T=>by obtain⟨_,p,r⟩:=T;exact⟨r,av.of (p _ _ M)⟩) ?_ ?_
 ·rintro f n ⟨rfl,p,r⟩;rw[ai,Paired.length v,bJ]at r;refine⟨l,L.map zb,rfl,av.of (by rw[r,pC];rfl),?_⟩;rw[List.all_map];exact k n p
 ·rintro i f n x hx hi ⟨rfl,p,r⟩;obtain⟨t,U,rfl⟩:=eV hx;obtain⟨G,w,I⟩:=Paired.getL v U;obtain⟨s,J,m⟩:=I.kt (ac.kt p);have A:=cp w;obtain⟨u,g,B⟩:∃u g,G.sg=u::g:=by
   cases q:G.sg with
   |nil=>exact absurd q (C G A)
   |cons x y=>exact⟨x,y,rfl⟩
  unfold SignAt at m;rw[B]at m;refine gN (rN ?_);refine⟨_,rfl,.inr (.inl ⟨t,_,1,_,rfl,rfl,cr.of J,rfl,.inr (.inl ⟨s,_,0,.str u,rfl,rfl,cr.of m,cT (j:=0) rfl,rfl,r,?_,r6 hi ⟨?_,?_,aa⟩⟩)⟩)⟩
  ·rw[ai,aY];exact gb (by omega)
  ·rw[take_snoc w,aF];congr 1;show[V.bl _]=[V.bl _];congr 2;unfold zb;rw[B];show decide (V.str u=V.str _)=decide (u=_);by_cases c:u=("ask":Str)
   ·rw[zzr1 c,zzr1 (by rw[c])]
   ·rw[zzr0 c,zzr0 (fun z=>c (by injection z))]
  ·intro b o e;rw[am (ag e N)];exact p _ _ e
def uM(x:Str×List Str):TK:=.t [qi x.1,ul x.2]
theorem h_:∀x y:Str×List Str,uM x=uM y->x=y:=by
 intro x y h;unfold uM at h;injection h with h;injection h with a h;injection h with e h;cases x;cases y;simp only at *;rw[sB a,xG e]
theorem l7(x:Str×List Str):(uM x).depth<=8:=by
 show max (TK.depth (qi x.1)) (max (TK.depth (ul x.2)) 0)+1<=8;rw[vq];show max 0 (max 1 0)+1<=8
 decide
def ba(ds:List ao)(x:Str×List Str):List Str:=(ds.filter fun d=>decide (d.a=x.1/\d.sg=x.2)).map (·.b)
theorem xF(e:List ao)(d:ao)(x:Str×List Str):ba (e++[d]) x=ba e x++(if(d.a,d.sg)=x then[d.b]else[]):=by
 unfold ba;rw[iu,aF];congr 1;by_cases c:(d.a,d.sg)=x
 ·subst c;simp
 ·rw[if_neg c];have:¬(d.a=x.1/\d.sg=x.2):=fun z=>c (by cases x;simp only at z;rw[z.1,z.2]);simp[jR];intro f g;exact this ⟨f,g⟩
theorem lE{e:List ao}{x:Str×List Str}(h:∀d∈e,(d.a,d.sg)≠x):ba e x=[]:=by
 unfold ba;rw[List.map_eq_nil_iff,pB];intro d f;have:¬(d.a=x.1/\d.sg=x.2):=fun z=>h d f (by cases x;simp only at z;rw[z.1,z.2]);simp;intro g i;exact this ⟨g,i⟩
theorem dj{a:List ao}{x:Str×List Str}{b:Str}:b∈ba a x↔(⟨x.1,x.2,b⟩:ao)∈a:=by
 unfold ba;rw[aL];constructor
 ·rintro⟨d,e,rfl⟩;rw[dJ]at e;obtain⟨i,j⟩:=e;obtain⟨f,g⟩:=of_decide_eq_true j;cases d;simp only at f g;rw[<-f,<-g];exact i
 ·intro h;exact⟨_,dJ.mpr ⟨h,zzr1 ⟨rfl,rfl⟩⟩,rfl⟩
structure i_(H:Hp)(g:Addr)(ps:List ((Str×List Str)×Addr))(ds:List ao):Prop where
 nd:(ps.map (·.1)).Nodup
 g:H g=some (.dT (dQ uM ps))
 ls:∀x∈ps,H x.2=some (.lst ((ba ds x.1).map V.str))
 all:∀d∈ds,(d.a,d.sg)∈ps.map (·.1)
theorem i_.same{H H':Hp}{g:Addr}{a:List ((Str×List Str)×Addr)}{e:List ao}(h:i_ H g a e)(s:ac H H'):i_ H' g a e:=⟨h.nd,s _ _ h.g,fun x hx=>s _ _ (h.ls x hx),h.all⟩
inductive oz (vs:List V)(H:Hp)(Q:VK)(E:XK):Prop
 |mk (l4:Addr) (ts:Ze) (ds:List ao):(vs=[.ref l4])->(H l4=some (.lst (ts.map V.ref)))->(cF H ts ds)->(ds.length<=9000)->(∀(g:Addr) (ps:List ((Str×List Str)×Addr)) (H':Hp),i_ H' g ps ds->ac H H'->Q (.ref g) H')->oz  vs H Q E
theorem iH{K:Za}{vs:List V}{H:Hp}{Q:VK}{E:XK}(h:oz vs H Q E):iR K (bQ Q) (start iS vs) H:=by
 obtain⟨l4,ts,T,rfl,h4,ab,hz,k⟩:=h;refine fun g hg=>?_;refine⟨_,rfl,l4,rfl,⟨_,av.of (kp h4 hg)⟩,?_⟩
 let aT:Nat->L2.St->Hp->Prop:=fun i σ u=>∃x y z,σ=[some (.ref l4),some (.ref g),x,y,z]/\∃p:List ((Str×List Str)×Addr),DL H u g p/\u g=some (.dT (dQ uM p))/\p.length<=i/\(∀x∈p,u x.2=some (.lst ((ba (T.take i) x.1).map V.str)))/\∀d∈T.take i,(d.a,d.sg)∈p.map (·.1)
 refine bS (xs:=ts.map V.ref) aT
  ⟨_,_,_,rfl,[],⟨by simp,by simp,by simp,hg,by simp,ac.new hg⟩,aa,by simp,by simp,by simp⟩ (fun i σ u _ zq=>by obtain⟨_,_,_,_,_,D,_⟩:=zq;exact av.of (D.same _ _ h4)) ?_ ?_
 ·rintro i x σ u hi ⟨x2,x3,x4,rfl,p,D,w,al,m,l⟩;obtain⟨t,ht,rfl⟩:=eV hi;obtain⟨f,C,aX⟩:=Paired.getL ab ht;have a8:i<T.length:=(bG.mp C).1;obtain⟨s,a0,a4⟩:=aX.kt (ac.kt D.same);refine⟨t,_,rfl,cr.of a0,rfl,_,_,rfl,_,_,rfl,_,_,rfl,rfl,?_⟩;refine⟨_,rfl,.inr (.inr (.inl ⟨rfl,.inr ⟨_,w⟩⟩)),_,rfl,_,rfl,(by show 2<=ak;decide),fun kt an=>⟨(by show 0<=ak;decide),fun nl U=>?_⟩⟩;have G:ac u (upd (upd u kt (.tup [.str f.a,.ref s])) nl (.lst [])):=(ac.new an).trans (ac.new U);have L:upd (upd u kt (.tup [.str f.a,.ref s])) nl (.lst []) kt=some (.tup [.str f.a,.ref s]):=kp aa U;have M:upd (upd u kt (.tup [.str f.a,.ref s])) nl (.lst []) nl=some (.lst []):=aa;have j:u nl=none:=(ac.new an).free U;generalize upd (upd u kt (.tup [.str f.a,.ref s])) nl (.lst [])=H2 at G L M ⊢;have a5:g8 H2 (uM (f.a,f.sg)) (.ref kt):=by
   unfold uM g8;refine⟨kt,_,rfl,L,?_⟩;unfold TKAts;refine⟨_,_,rfl,wJ _,?_⟩;unfold TKAts;refine⟨_,_,rfl,SignAt.tk (G _ _ a4),?_⟩;unfold TKAts
   rfl
  have a6:(dQ uM p).length<ak:=gb (by unfold dQ;rw[ai];omega);have I:∀x,ba (T.take (i+1)) x=ba (T.take i) x++(if(f.a,f.sg)=x then[f.b]else[]):=fun x=>by rw[take_snoc C,xF]
  have a7:∀x,(ba (T.take i) x).length<=9000:=fun x=>by
   unfold ba;rw[ai];refine bW (cW _ _) ?_;rw[aY];omega
  refine⟨g,kt,_,uM (f.a,f.sg),.ref nl,rfl,rfl,G _ _ w,a5,l7 _,a6,fun v J=>?_,fun J=>?_⟩
  ·-- there ap
   have N:(f.a,f.sg)∈p.map (·.1):=by
    refine Classical.byContradiction fun z=>?_;rw[mf h_ z]at J;cases J
   obtain⟨⟨r,a⟩,n,er⟩:=aL.mp N;obtain rfl:r=(f.a,f.sg):=er;rw[d_ h_ D.nd n]at J;injection J with J;subst J;have as:=G _ _ (m _ n);refine⟨.inl ⟨rfl,_,av.of as⟩,_,rfl,a,_,_,rfl,rfl,as,by rw[ai];exact gb (a7 _),_,_,_,rfl,p,⟨D.nd,D.na,D.fr,D.frd,D.ned,fun b o q=>?_⟩,?_,by omega,?_,?_⟩
   ·rw[am (ag q (D.fr _ n))];exact G _ _ (D.same _ _ q)
   ·rw[am (D.ned _ n).symm];exact G _ _ w
   ·intro x hx;by_cases c:x.2=a
    ·have ex:=Fa D.na hx n c;subst ex;show upd H2 a _ a=_;rw[aa,I,if_pos rfl,aF];rfl
    ·have Y:¬((f.a,f.sg)=x.1):=fun z=>by
      have e1:=d_ (e:=uM) h_ D.nd n;have e2:=d_ (e:=uM) (i:=x.1) (a:=x.2) h_ D.nd hx;rw[<-z,e1]at e2;injection e2 with e2;injection e2 with e2;exact c e2.symm
     rw[am c,I,if_neg Y,dO];exact G _ _ (m x hx)
   ·intro d hd;rw[take_snoc C]at hd;rcases bE.mp hd with hd|hd
    ·exact l d hd
    ·have:d=f:=by simpa using hd
     rw[this];exact N
  ·-- a new list
   have A:(f.a,f.sg)∉p.map (·.1):=by
    intro z;obtain⟨⟨r,a⟩,n,er⟩:=aL.mp z;obtain rfl:r=(f.a,f.sg):=er;rw[d_ h_ D.nd n]at J;cases J
   have B:nl≠g:=(ag w j).symm;have O:upd H2 g (.dT (dQ uM p++[(uM (f.a,f.sg),.ref nl)])) nl=some (.lst []):=by rw[am B];exact M
   refine⟨.inl ⟨rfl,_,av.of O⟩,_,rfl,nl,_,_,rfl,rfl,O,(by show 0<ak;decide),_,_,_,rfl,p++[((f.a,f.sg),nl)],?_,?_,?_,?_,?_⟩
   ·refine D.snoc A (fun x hx=>ag (m x hx) j) (D.same.free j) B ?_;intro b o q;rw[am (ag q (D.same.free j)),am (ag q hg)];exact G _ _ (D.same _ _ q)
   ·rw[am B.symm,aa,vG]
   ·rw[aV];show _+1<=_;omega
   ·intro x hx;rcases bE.mp hx with hx|hx
    ·have Y:¬((f.a,f.sg)=x.1):=fun z=>A (by rw[z];exact aL.mpr ⟨x,hx,rfl⟩);rw[am (ag (m x hx) j),am (D.ned x hx),I,if_neg Y,dO];exact G _ _ (m x hx)
    ·have:x=((f.a,f.sg),nl):=by simpa using hx
     subst this;have aC:ba (T.take i) (f.a,f.sg)=[]:=lE fun d hd z=>A (by rw[<-z];exact l d hd);show upd _ nl _ nl=_;rw[aa,I,if_pos rfl,aC]
     rfl
   ·intro d hd;rw[aF];rw[take_snoc C]at hd;rcases bE.mp hd with hd|hd
    ·exact cN _ (l d hd)
    ·have:d=f:=by simpa using hd
     rw[this];exact cV _ (by simp)
 ·rintro σ u ⟨x2,x3,x4,rfl,p,D,w,al,m,l⟩;rw[ai,Paired.length ab,bJ]at m l;exact⟨_,rfl,k g p u ⟨D.nd,w,m,l⟩ D.same⟩
theorem oW:∀{L R:Zb},L.Nodup->(∀y∈L,y∈R)->L.length<=R.length
 |[],_,_,_=>dA _
 |x::L,R,a,h=>by
  rw[iF]at a;have hx:=h x eL;have:=oW (L:=L) (R:=R.erase x) a.2 fun y f=>(List.mem_erase_of_ne (fun e:y=x=>a.1 (by rw[<-e];exact f))).mpr (h y (eU _ f));rw[List.length_erase_of_mem hx]at this;have:0<R.length:=List.length_pos_of_mem hx;rw[c_];omega
theorem Reach.in_{e:List ao}{a b:Str}{f:Zb}(g:∀d∈e,d.b∈f)(h:Reach e a b):b∈f:=by
 cases h with
 |one h=>exact g _ h
 |step r h=>exact g _ h
inductive wX (vs:List V)(H:Hp)(Q:VK)(E:XK):Prop
 |mk (g:Addr) (room:Str) (ps:List ((Str×List Str)×Addr)) (ds:List ao) (J3:Zb):(vs=[.ref g,.str room])->(i_ H g ps ds)->((∀d∈ds,d.b∈J3))->(J3.length<=2000)->(∀(d:Addr) (L:Zb) (H':Hp),H' d=some (.dK (bD L))->L.Nodup->(∀w,w∈L↔Reach ds room w)->H d=none->ac H H'->Q (.ref d) H')->wX  vs H Q E
structure Iv(H0 H:Hp)(ds:List ao)(room:Str)(d w:Addr)(L W:Zb)(open_:Str->Prop):Prop where
 d:H d=some (.dK (bD L))
 w:H w=some (.lst (W.map V.str))
 same:ac H0 H
 nd:L.Nodup
 sound:∀y∈L,Reach ds room y
 wait:∀y∈W,y=room∨y∈L
 closed:∀y,(y=room∨y∈L)->y∉W->¬open_ y->∀c∈ba ds (y,aB),c∈L
theorem rZ{K:Za}{st:Addr}(bi:∀H,cr K H st (aB.map V.str)){vs:List V}{H:Hp}{Q:VK}{E:XK}(h:wX vs H Q E):tI K st (bQ Q) (start uD vs) H:=by
 obtain⟨g,room,ps,ds,t,rfl,G,bm,hz,k⟩:=h;refine fun d hd=>?_;refine⟨_,rfl,(by show 1<=ak;decide),fun w hw=>?_⟩;have aC:H w=none:=(ac.new hd).free hw;have Y:d≠w:=ag aa hw;refine⟨fun m σ C=>∃(L W:Zb) (x y:Option V),σ=[some (.ref g),some (.str room),some (.ref d),some (.ref w),x,y]/\Iv H C ds room d w L W (fun _=>False)/\m=2 * (t.length-L.length)+W.length/\m<=2 * t.length+1,
  ⟨_,[],[room],_,_,rfl,⟨kp aa hw,aa,(ac.new hd).trans (ac.new hw),wC,by simp,by simp,?_⟩,rfl,aK _⟩,?_⟩
 ·intro y hy T;rcases hy with rfl|hy
  ·simp at T
  ·cases hy
 rintro m σ H1 ⟨L,W,x4,x5,rfl,D,rfl,hbound⟩;have U:∀{l:Zb},l.Nodup->(∀y∈l,Reach ds room y)->l.length<=t.length:=fun nd sd=>oW nd fun y hy=>(sd y hy).in_ bm;refine⟨_,rfl,.inl ⟨w,_,rfl,.inl (av.of D.w),_,_,rfl,rfl,_,rfl,?_⟩⟩;refine qE (fun B=>?_) (fun B=>?_)
 ·have aT:W≠[]:=by
   intro z;rw[z]at B;exact absurd (of_decide_eq_true B) (by decide)
  obtain⟨s,f,rfl⟩:∃s f,W=s++[f]:=⟨W.dropLast,W.getLast aT,(List.dropLast_concat_getLast aT).symm⟩;have ab:f=room∨f∈L:=D.wait f (by simp);refine⟨fun σ' C=>∃(l n:Zb) (x y:Option V),σ'=[some (.ref g),some (.str room),some (.ref d),some (.ref w),x,y]/\Iv H C ds room d w l n (fun _=>False)/\2 * (t.length-l.length)+n.length<2 * (t.length-L.length)+(s++[f]).length,
   fun σ' C ⟨l,n,x,y,e,D',hm⟩=>⟨_,hm,l,n,x,y,e,D',rfl,by omega⟩,?_⟩
  have al:((s++[f]).map V.str)[((s++[f]).map V.str).length-1]?=some (.str f):=by simp
  have an:((s++[f]).map V.str).dropLast=s.map V.str:=by rw[aF];simp
  refine⟨_,rfl,.inl ⟨rfl,_,av.of D.w⟩,w,_,_,rfl,rfl,D.w,al,?_⟩;rw[an];have aX:upd H1 w (.lst (s.map V.str)) d=some (.dK (bD L)):=by rw[am Y];exact D.d
  have a0:upd H1 w (.lst (s.map V.str)) w=some (.lst (s.map V.str)):=aa;have S1:ac H (upd H1 w (.lst (s.map V.str))):=fun b o q=>by rw[am (ag q aC)];exact D.same _ _ q
  generalize upd H1 w (.lst (s.map V.str))=H2 at aX a0 S1 ⊢;have G2:=G.same S1;refine⟨_,rfl,g,rfl,.inr ⟨_,.inl G2.g⟩,_,rfl,(by show 2<=ak;decide),fun kt a4=>⟨(by show 0<=ak;decide),fun et ap=>⟨de (dQ uM ps) (uM (f,aB)),.inr ⟨_,uM (f,aB),kt,.inl ?_,rfl,?_,l7 _,rfl⟩,?_⟩⟩⟩
  ·exact kp (kp G2.g a4) ap
  ·unfold uM nF;refine⟨kt,_,rfl,cr.of (kp aa ap),?_⟩;unfold TKIns;refine⟨_,_,rfl,?_,?_⟩
   ·unfold qi nF;rfl
   unfold TKIns;refine⟨_,_,rfl,?_,?_⟩
   ·unfold ul nF;refine⟨st,_,rfl,bi _,?_⟩;unfold aB;show TKIns K _ [qi _] [V.str _];unfold TKIns;refine⟨_,_,rfl,?_,?_⟩
    ·unfold qi nF;rfl
    unfold TKIns;rfl
   unfold TKIns;rfl
  have S3:ac H2 (upd (upd H2 kt (.tup [.str f,.ref st])) et (.tup [])):=(ac.new a4).trans (ac.new ap);have I:upd (upd H2 kt (.tup [.str f,.ref st])) et (.tup []) et=some (.tup []):=aa;generalize upd (upd H2 kt (.tup [.str f,.ref st])) et (.tup [])=H3 at S3 I ⊢;have D3:Iv H H3 ds room d w L s (fun y=>y=f):=⟨S3 _ _ aX,S3 _ _ a0,S1.trans S3,D.nd,D.sound,fun y hy=>D.wait y (cN _ hy),fun y hy T ho=>D.closed y hy (fun z=>by rcases bE.mp z with z|z;exact T z;exact ho (by simpa using z)) (fun z=>z)⟩;have a5:2 * (t.length-L.length)+s.length<2 * (t.length-L.length)+(s++[f]).length:=by rw[aV];show _<_+(_+1);omega
  have a6:∀(H4:Hp) (l n:Zb) (x y:Option V),Iv H H4 ds room d w l n (fun y=>y=f)->(∀c∈ba ds (f,aB),c∈l)->2 * (t.length-l.length)+n.length<2 * (t.length-L.length)+(s++[f]).length ->
    ∃(l n:Zb) (x' y':Option V),[some (V.ref g),some (.str room),some (.ref d),some (.ref w),x,y]=[some (.ref g),some (.str room),some (.ref d),some (.ref w),x',y']/\Iv H H4 ds room d w l n (fun _=>False)/\2 * (t.length-l.length)+n.length<2 * (t.length-L.length)+(s++[f]).length:=by
   intro H4 l n x y p hc hm;refine⟨l,n,x,y,rfl,⟨p.d,p.w,p.same,p.nd,p.sound,p.wait,fun y hy T _=>?_⟩,hm⟩;by_cases e:y=f
   ·rw[e];exact hc
   ·exact p.closed y hy T e
  by_cases J:(f,aB)∈ps.map (·.1)
  ·obtain⟨⟨r,a⟩,a7,er⟩:=aL.mp J;obtain rfl:r=(f,aB):=er;rw[d_ h_ G.nd a7];have a8:=G.ls _ a7;refine⟨a,rfl,.inl ⟨⟨_,av.of ((S1.trans S3) _ _ a8)⟩,?_⟩⟩
   let as:Nat->L2.St->Hp->Prop:=fun j σ C=>Il fun(l n:Zb) (y:Option V)=>Ja (σ=[some (.ref g),some (.str room),some (.ref d),some (.ref w),some (.str f),y]) (Iv H C ds room d w l n (fun y=>y=f)) ((f=room∨f∈l)) ((∀c∈(ba ds (f,aB)).take j,c∈l)) (2 * (t.length-l.length)+n.length<2 * (t.length-L.length)+(s++[f]).length)
   refine bS (xs:=(ba ds (f,aB)).map V.str) as
    ⟨L,s,_,rfl,D3,ab,by simp,a5⟩ (fun j σ C _ zq=>by obtain⟨_,_,_,_,D',_,_,_⟩:=zq;exact av.of (D'.same _ _ a8)) ?_ ?_
   ·rintro j x σ H4 hj ⟨l,n,y,rfl,p,hh,hc,hm⟩;obtain⟨i,u,rfl⟩:=bx hj;have v:(⟨f,aB,i⟩:ao)∈ds:=dj.mp (cp u);have O:Reach ds room i:=by
     rcases hh with hh|hh
     ·rw[hh]at v;exact .one v
     ·exact .step (p.sound _ hh) v
    have bn:=U p.nd p.sound;refine⟨_,rfl,_,rfl,d,_,rfl,.inl ⟨_,.inr i,.inl p.d,rfl,rfl⟩,_,rfl,?_⟩;rw[jE];by_cases c:i∈l
    ·rw[zzr1 c];refine bv ⟨l,n,_,rfl,p,hh,?_,hm⟩;intro c' A;rw[take_snoc u]at A;rcases bE.mp A with h|h
     ·exact hc c' h
     ·have:c'=i:=by simpa using h
      rw[this];exact c
    ·rw[zzr0 c];refine bC ?_;have a9:(l++[i]).Nodup:=by
      rw[dk];refine⟨p.nd,by simp,fun a ha b hb e=>?_⟩;have:b=i:=by simpa using hb
      exact c (by rw[<-this,<-e];exact ha)
     have bb:∀y∈l++[i],Reach ds room y:=by
      intro y hy;rcases bE.mp hy with hy|hy
      ·exact p.sound y hy
      ·have:y=i:=by simpa using hy
       rw[this];exact O
     have M:=U a9 bb;rw[aV]at M;have b0:l.length+1<=t.length:=M;have b1:n.length<=9000:=by omega
     refine⟨_,rfl,_,rfl,d,_,rfl,.inl ⟨_,.inr i,p.d,rfl,ar (bW (nk _) (by omega)),rfl⟩,?_⟩;have bd:upd H4 d (.dK (fh (bD l) (.inr i) (.bl true))) w=some (.lst (n.map V.str)):=by rw[am Y.symm];exact p.w
     refine⟨_,rfl,.inl ⟨rfl,_,av.of bd⟩,_,rfl,w,_,_,rfl,rfl,bd,by rw[ai];exact gb b1,l++[i],n++[i],_,rfl,⟨?_,?_,?_,a9,bb,?_,?_⟩,?_,?_,?_⟩
     ·rw[am Y,aa,fB]
     ·rw[aa,aF];rfl
     ·intro b o q;rw[am (ag q aC),am (ag q hd)];exact p.same _ _ q
     ·intro y hy;rcases bE.mp hy with hy|hy
      ·rcases p.wait y hy with h|h
       ·exact .inl h
       ·exact .inr (cN _ h)
      ·exact .inr (cV _ hy)
     ·intro y hy T ho c' A;have b2:y∉n:=fun z=>T (cN _ z);have b3:y≠i:=fun z=>T (cV _ (by simp[z]));refine cN _ (p.closed y ?_ b2 ho c' A);rcases hy with hy|hy
      ·exact .inl hy
      ·rcases bE.mp hy with hy|hy
       ·exact .inr hy
       ·exact absurd (by simpa using hy) b3
     ·rcases hh with h|h
      ·exact .inl h
      ·exact .inr (cN _ h)
     ·intro c' A;rw[take_snoc u]at A;rcases bE.mp A with h|h
      ·exact cN _ (hc c' h)
      ·exact cV _ h
     ·rw[aV,aV];show 2 * (t.length-(l.length+1))+(n.length+1)<_;omega
   ·rintro σ H4 ⟨l,n,y,rfl,p,hh,hc,hm⟩;rw[ai,bJ]at hc;exact a6 H4 l n _ _ p hc hm
  ·rw[mf h_ J];refine⟨et,rfl,.inr ⟨⟨_,cr.of I⟩,?_⟩⟩;have N:ba ds (f,aB)=[]:=lE fun x hx z=>J (by rw[<-z];exact G.all x hx)
   let as:Nat->L2.St->Hp->Prop:=fun j σ C=>σ=[some (.ref g),some (.str room),some (.ref d),some (.ref w),some (.str f),x5]/\C=H3
   refine GJ (xs:=[]) as ⟨rfl,rfl⟩ (fun j σ C _ zq=>by obtain⟨_,e⟩:=zq;exact by rw[e];exact cr.of I) (fun j x σ C hj=>by cases hj) ?_;rintro σ C ⟨rfl,rfl⟩;exact a6 _ L s _ _ D3 (by rw[N];simp) a5
 ·have N:W=[]:=by
   cases W with
   |nil=>rfl
   |cons a W=>exact absurd (zzr1 (by rw[ai,c_];omega)) B
  subst N;refine⟨_,rfl,k d L H1 D.d D.nd (fun w=>⟨D.sound w,fun hr=>?_⟩) hd D.same⟩
  induction hr with
  |one h=>exact D.closed room (.inl rfl) (by simp) (fun z=>z) _ (dj.mpr h)
  |step r h ih=>exact D.closed _ (.inr ih) (by simp) (fun z=>z) _ (dj.mpr h)
inductive sp_first_led_round (vs:List V)(H:Hp)(Q:VK)(E:XK):Prop
 |mk (l3 d:Addr) (J3:Zb) (ps:List (Str×Addr)):(vs=[.ref l3,.ref d])->(H l3=some (.lst (J3.map V.str)))->(H d=some (.dK (dQ Sum.inr ps)))->(ps.map (·.1)=J3)->(J3.Nodup)->((∀x∈ps,∃L,H x.2=some (.dK (bD L))/\x.1∉L))->(∀H',ac H H'->Q .non H')->sp_first_led_round  vs H Q E
theorem m8{K:Za}{p:List V}{H:Hp}{Q:VK}{E:XK}(h:sp_first_led_round p H Q E):nX K (bQ Q) (start pc p) H:=by
 obtain⟨q,d,u,v,rfl,s,z,f,m,A,k⟩:=h;refine⟨_,rfl,q,rfl,⟨_,av.of s⟩,?_⟩
 let n:Nat->L2.St->Hp->Prop:=fun i σ e=>∃x y,σ=[some (.ref q),some (.ref d),x,y]/\ac H e
 refine lF (xs:=u.map V.str) n ⟨_,_,rfl,ac.refl H⟩ (fun i σ e _ B=>by obtain⟨_,_,_,S⟩:=B;exact av.of (S _ _ s)) ?_ ?_
 ·rintro i x σ e t hi ⟨J,M,rfl,S⟩ C;obtain⟨w,D,rfl⟩:=bx hi;refine⟨t,_,rfl,cr.of aa,rfl,_,_,rfl,_,_,rfl,rfl,?_⟩;have l:ac H (upd e t (.tup [.int i,.str w])):=S.trans (ac.new C);generalize upd e t (.tup [.int i,.str w])=N at l ⊢;have g:w∈v.map (·.1):=by rw[f];exact cp D
  obtain⟨⟨r,a⟩,j,G⟩:=aL.mp g;obtain rfl:r=w:=G;obtain⟨L,o,I⟩:=A _ j;refine⟨_,rfl,_,rfl,_,rfl,d,.ref a,rfl,.inl ⟨_,.inr r,.inl (l _ _ z),rfl,(d_ ig (by rw[f];exact m) j).symm⟩,a,_,rfl,.inl ⟨_,.inr r,.inl (l _ _ o),rfl,rfl⟩,_,rfl,?_⟩;rw[jE,zzr0 I];exact bv ⟨_,_,rfl,l⟩
 ·rintro σ e ⟨x,y,rfl,S⟩;exact k e S
abbrev lk(f:Str)(fs:List (Str×V)):Option V:=fs.lookup f
def m9(ds:List ao)(r:Str):Bool:=(bu ds r).all zb
structure aZ(C:Addr)(H:Hp)(x:Addr)(J0 J2 J3:Zb)(ds:List ao):Prop where
 at_:∃(dx:Addr) (fs:List (Str×V)) (o1 o2 o3 o4 lv qu sg sl:Addr) (ts:Ze) (lps:List (Str×Addr)) (gps:List ((Str×List Str)×Addr)) (sps:List (Str×Addr)),
  H x=some (.ins C dx fs)/\lk "is_quiet" fs=none/\lk "goals" fs=none/\lk "led_from" fs=none/\lk "rooms" fs=none /\
  lk "own_asks" fs=some (.ref o1)/\lk "own_says" fs=some (.ref o2)/\lk "own_rooms" fs=some (.ref o3)/\lk "own_doors" fs=some (.ref o4) /\
  lk "leaving" fs=some (.ref lv)/\lk "quiet" fs=some (.ref qu)/\lk "sign_goals" fs=some (.ref sg)/\lk "still_led" fs=some (.ref sl) /\
  Lists H o1 o2 o3 o4 ts J0 J2 J3 ds /\
  lps.map (·.1)=J3/\H lv=some (.dK (dQ Sum.inr lps))/\(∀x∈lps,∃us,H x.2=some (.lst (us.map V.ref))/\cF H us (bu ds x.1)) /\
  H qu=some (.dK (bD (J3.filter (m9 ds))))/\i_ H sg gps ds /\
  sps.map (·.1)=J3/\H sl=some (.dK (dQ Sum.inr sps))/\(∀x∈sps,∃L,H x.2=some (.dK (bD L))/\L.Nodup/\∀w,w∈L↔Reach ds x.1 w)
 ok:aR J0 J2 J3 ds
 more:∃(dx:Addr) (fs:List (Str×V)),H x=some (.ins C dx fs)/\lk "asks" fs=none/\lk "says" fs=none/\lk "doors" fs=none/\lk "doors_from" fs=none
theorem gP(f:Str)(v:V):∀fs:List (Str×V),(cZ f v fs).length<=fs.length+1
 |[]=>aK _
 | (g,x)::r=>by
  unfold cZ;split
  ·exact jk _
  ·rw[c_,c_];have:=gP f v r;omega
theorem ud:∀(a qs:List (Str×Addr)),((qs++a).map (·.1)).Nodup->jr (dQ Sum.inr qs) (dQ Sum.inr a)=dQ Sum.inr (qs++a)
 |[],qs,_=>by rw[dO];rfl
 |p::a,qs,g=>by
  show jr (fh (dQ Sum.inr qs) (Sum.inr p.1) (.ref p.2)) (dQ Sum.inr a)=_;have e:qs++p::a=(qs++[p])++a:=by simp
  rw[e]at g ⊢;have f:p.1∉qs.map (·.1):=by
   rw[aF,aF,dk]at g;have:=g.1;rw[dk]at this;intro z;exact this.2.2 _ z _ (by simp) rfl
  rw[oK _ (mf ig f)];have:=ud a (qs++[p]) g;rw[<-this];have h:dQ (Sum.inr:Str->fD) (qs++[p])=dQ Sum.inr qs++[(Sum.inr p.1,V.ref p.2)]:=by
   unfold dQ;rw[aF];rfl
  rw[h]
inductive oy(C:Addr)(vs:List V)(H:Hp)(Q:VK)(E:XK):Prop
 |mk (x dx l1 l2 l3 l4:Addr) (ts:Ze) (J0 J2 J3:Zb) (ds:List ao):(vs=[.ref x,.ref l1,.ref l2,.ref l3,.ref l4])->(H x=some (.ins C dx []))->(Lists H l1 l2 l3 l4 ts J0 J2 J3 ds)->(aR J0 J2 J3 ds)->(∀H',aZ C H' x J0 J2 J3 ds->dU x H H'->Q .non H')->oy C vs H Q E
theorem Lists.exI{H f:Hp}{x C p:Addr}{fs:List (Str×V)}{g i l3 j:Addr}{k:Ze}{l m n:Zb}{o:List ao}(h:Lists H g i l3 j k l m n o)(hx:H x=some (.ins C p fs))(e:dU x H f):Lists f g i l3 j k l m n o:=by
 have ne:∀{b:Addr}{xs:List V},H b=some (.lst xs)->b≠x:=fun a z=>by rw[z,hx]at a;cases a
 exact⟨e _ _ h.a1 (ne h.a1),e _ _ h.a2 (ne h.a2),e _ _ h.a3 (ne h.a3),e _ _ h.a4 (ne h.a4),h.ds.kt fun b xs a=>e _ _ a fun z=>by rw[z,hx]at a;cases a⟩
theorem dU.ktI{H f:Hp}{x C g:Addr}{fs:List (Str×V)}(e:dU x H f)(hx:H x=some (.ins C g fs)):pd H f:=fun b xs a=>e _ _ a fun z=>by rw[z,hx]at a;cases a
theorem dU.neI{H:Hp}{x C e:Addr}{fs:List (Str×V)}(hx:H x=some (.ins C e fs)){b:Addr}{xs:List V}(a:H b=some (.lst xs)):b≠x:=fun z=>by rw[z,hx]at a;cases a
theorem E_{H:Hp}{x C f:Addr}{fs:List (Str×V)}(hx:H x=some (.ins C f fs)){b:Addr}{a:List (fD×V)}(e:H b=some (.dK a)):b≠x:=fun z=>by rw[z,hx]at e;cases e
theorem Hd{H:Hp}{x C f:Addr}{fs:List (Str×V)}(hx:H x=some (.ins C f fs)){b:Addr}{a:List (TK×V)}(e:H b=some (.dT a)):b≠x:=fun z=>by rw[z,hx]at e;cases e
structure MC(K:Za)(C:Addr):Prop where
 cls:DB K C
 a1:bP K C "own_asks"
 a2:bP K C "own_says"
 a3:bP K C "own_rooms"
 a4:bP K C "own_doors"
 a5:bP K C "leaving"
 a6:bP K C "quiet"
 a7:bP K C "sign_goals"
 a8:bP K C "still_led"
theorem zf{H:Hp}{x C a:Addr}{fs:List (Str×V)}(f:Str)(y:V)(hx:H x=some (.ins C a fs)):∃e,e=upd H x (.ins C a (cZ f y fs))/\e x=some (.ins C a (cZ f y fs))/\dU x H e :=
 ⟨_,rfl,aa,dU.upd _ _ _⟩
theorem rF{p:Str->Bool}{a:Zb}{i:Nat}{w:Str}(h:a[i]?=some w):(a.take (i+1)).filter p=(a.take i).filter p++(if p w=true then[w]else[]):=by
 rw[take_snoc h,iu];congr 1;by_cases c:p w=true
 ·rw[if_pos c];simp[c]
 ·rw[if_neg c];simp[c]
theorem AE(a:List ao)(r:Str):(bu a r).length<=a.length:=cW _ _
theorem aR.sg0{a f g:Zb}{ds:List ao}(m:aR a f g ds){r:Str}:∀d∈bu ds r,d.sg≠[]:=by
 intro d h;have:=m.good d (dJ.mp h).1;rcases this.sg with⟨w,_,e⟩|⟨w,_,e⟩|e<;>rw[e]<;>exact List.cons_ne_nil _ _
theorem Gn{K:Za}{C:Addr}(M:MC K C){B:List V}{H:Hp}{Q:VK}{E:XK}(h:oy C B H Q E):
  m5 K sp_need_none sp_first_led_round wX oz (sp_as_keys K) sp_has_asks_alone sp_doors_by_start sp_need_parts (bQ Q) (start nM B) H:=by
 obtain⟨x,G,l1,l2,l3,l4,ts,J0,J2,I,ds,rfl,hx,L,m,k⟩:=h;have z3:=m.rooms26;have z4:=m.few;refine⟨_,rfl,_,rfl,_,rfl,_,rfl,l1,l2,l3,l4,ts,J0,J2,I,ds,rfl,L,m,fun H1 S1=>?_⟩;have aC:=S1 _ _ hx;have L1:=L.same S1;have E1:dU x H H1:=ac.exB S1;refine⟨_,rfl,.inl ⟨l1,_,rfl,.inl (av.of L1.a1),fun o1 aT=>⟨_,rfl,x,C,G,_,rfl,kp aC aT,M.cls,M.a1,(by show 0<1000;decide),?_⟩⟩⟩;obtain⟨H2,e2,aX,F2⟩:=zf "own_asks" (.ref o1) (kp (x:=.lst (J0.map V.str)) aC aT);rw[<-e2];have n1:o1≠x:=(ag aC aT).symm;have f1:=F2 _ _ aa n1;have E2:dU x H1 H2:=(dU.new aT).trans F2;have ce:=L1.exI aC E2;have dp:(cZ ("own_asks":Str) (.ref o1) []).length<=1:=gP _ _ _;clear e2 F2;refine⟨_,rfl,.inl ⟨l2,_,rfl,.inl (av.of ce.a2),fun o2 a0=>⟨_,rfl,x,C,G,_,rfl,kp aX a0,M.cls,M.a2,by omega,?_⟩⟩⟩;obtain⟨H3,e3,a9,F3⟩:=zf "own_says" (.ref o2) (kp (x:=.lst (J2.map V.str)) aX a0);rw[<-e3];have n2:o2≠x:=(ag aX a0).symm;have f2:=F3 _ _ aa n2;have E3:dU x H2 H3:=(dU.new a0).trans F3;have L3:=ce.exI aX E3;have dr:=gP ("own_says":Str) (.ref o2) (cZ ("own_asks":Str) (.ref o1) []);clear e3 F3;refine⟨_,rfl,.inl ⟨l3,_,rfl,.inl (av.of L3.a3),fun o3 bb=>⟨_,rfl,x,C,G,_,rfl,kp a9 bb,M.cls,M.a3,by omega,?_⟩⟩⟩;obtain⟨H4,e4,bd,F4⟩:=zf "own_rooms" (.ref o3) (kp (x:=.lst (I.map V.str)) a9 bb);rw[<-e4];have n3:o3≠x:=(ag a9 bb).symm;have f3:=F4 _ _ aa n3;have E4:dU x H3 H4:=(dU.new bb).trans F4;have L4:=L3.exI a9 E4;have dt:=gP ("own_rooms":Str) (.ref o3) (cZ ("own_says":Str) (.ref o2) (cZ ("own_asks":Str) (.ref o1) []));clear e4 F4;refine⟨_,rfl,.inl ⟨l4,_,rfl,.inl (av.of L4.a4),fun o4 bi=>⟨_,rfl,x,C,G,_,rfl,kp bd bi,M.cls,M.a4,by omega,?_⟩⟩⟩;obtain⟨H5,e5,n,F5⟩:=zf "own_doors" (.ref o4) (kp (x:=.lst (ts.map V.ref)) bd bi);rw[<-e5];have n4:o4≠x:=(ag bd bi).symm;have f4:=F5 _ _ aa n4;have E5:dU x H4 H5:=(dU.new bi).trans F5;have L5:=L4.exI bd E5;generalize b2:cZ ("own_doors":Str) (.ref o4) (cZ ("own_rooms":Str) (.ref o3) (cZ ("own_says":Str) (.ref o2) (cZ ("own_asks":Str) (.ref o1) [])))=s at n;have dy:s.length<=4:=by
  rw[<-b2];have:=gP ("own_doors":Str) (.ref o4) (cZ ("own_rooms":Str) (.ref o3) (cZ ("own_says":Str) (.ref o2) (cZ ("own_asks":Str) (.ref o1) [])));omega
 clear e5 F5;refine⟨_,rfl,_,rfl,l3,l4,ts,I,ds,rfl,L5.a3,L5.a4,L5.ds,m.okR.1,by omega,by omega,fun d hd=>(m.good d hd).a,fun O bl d1 T U b3 S6=>⟨_,rfl,x,C,G,s,rfl,S6 _ _ n,M.cls,M.a5,by omega,?_⟩⟩;obtain⟨H6,e6,u,F6⟩:=zf "leaving" (.ref O) (S6 _ _ n);rw[<-e6];have E6:dU x H5 H6:=(ac.exB S6).trans F6;have L6:=L5.exI n E6;have b4:=F6 _ _ U (E_ (S6 _ _ n) U);have ch:∀y∈bl,∃A,H6 y.2=some (.lst (A.map V.ref))/\cF H6 A (bu ds y.1):=fun y hy=>by
  obtain⟨A,J,g2⟩:=b3 y hy;exact⟨A,F6 _ _ J (dU.neI (S6 _ _ n) J),g2.kt (F6.ktI (S6 _ _ n))⟩
 have cC:(bl.map (·.1)).Nodup:=by rw[T];exact m.okR.1
 have dT:=gP ("leaving":Str) (.ref O) s;have cL:lk "leaving" (cZ ("leaving":Str) (.ref O) s)=some (.ref O):=by
  show fZ _ _=_;rw[ei,if_pos rfl]
 clear e6 F6 U b3;refine⟨_,rfl,l3,rfl,⟨_,av.of L6.a3⟩,fun f hf=>?_⟩
 let c0:Nat->List V->Hp->Prop:=fun i B H'=>B=((I.take i).filter (m9 ds)).map V.str/\ac H6 H'/\H' f=some (.lst B)
 refine cE (xs:=I.map V.str) c0 ⟨rfl,ac.new hf,aa⟩ (fun i B H' _ zq=>by obtain⟨_,S,h'⟩:=zq;exact⟨h',av.of (S _ _ L6.a3)⟩) ?_ ?_;rotate_left
 ·rintro i B H' x' b5 hi ⟨rfl,S,f'⟩;obtain⟨r,hr,rfl⟩:=bx b5;obtain⟨⟨r',a⟩,ci,er⟩:=aL.mp (show r∈bl.map (·.1) by rw[T];exact cp hr);obtain rfl:r'=r:=er;obtain⟨A,c1,c2⟩:=ch _ ci;refine gN ?_;refine⟨_,rfl,x,C,G,_,.ref O,rfl,S _ _ u,M.cls,M.a5,cL,_,rfl,O,.ref a,rfl,.inl ⟨_,.inr r',.inl (S _ _ b4),rfl,(d_ ig cC ci).symm⟩,a,A,bu ds r',rfl,S _ _ c1,c2.kt (ac.kt S),bW (AE _ _) (by omega),m.sg0,fun bm l=>⟨_,rfl,?_⟩⟩;have ck:(((I.take i).filter (m9 ds)).map V.str).length<ak:=by
   rw[ai];refine ar (bW (cW _ _) ?_);rw[aY];omega
  refine qE (fun hq=>?_) (fun hq=>?_)
  ·refine⟨_,rfl,l _ _ f',ck,r6 hi ⟨?_,?_,aa⟩⟩
   ·rw[rF hr,if_pos (show m9 ds r'=true from hq),aF];rfl
   ·intro b o q;rw[am (ag q hf)];exact l _ _ (S _ _ q)
  ·refine r6 hi ⟨?_,S.trans l,?_⟩
   ·rw[rF hr,if_neg (show ¬m9 ds r'=true from hq),dO]
   ·exact l _ _ f'
 rintro B d2 ⟨rfl,S7,f7⟩;rw[ai,bJ]at f7;refine qI (ws:=I.filter (m9 ds)) (av.of f7) (bW (cW _ _) (by omega)) fun qu bn=>⟨_,rfl,x,C,G,_,rfl,kp (S7 _ _ u) bn,M.cls,M.a6,by omega,?_⟩;obtain⟨H7,e7,ab,F7⟩:=zf "quiet" (.ref qu) (kp (x:=.dK (bD (I.filter (m9 ds)))) (S7 _ _ u) bn);rw[<-e7];have n7:qu≠x:=(ag (S7 _ _ u) bn).symm;have c3:=F7 _ _ aa n7;have E7:dU x H6 H7:=((ac.exB S7).trans (dU.new bn)).trans F7;have L7:=L6.exI u E7;have dV:=gP ("quiet":Str) (.ref qu) (cZ ("leaving":Str) (.ref O) s);clear e7 F7;refine⟨_,rfl,l4,ts,ds,rfl,L7.a4,L7.ds,by omega,fun sg b6 d3 G' S8=>⟨_,rfl,x,C,G,_,rfl,S8 _ _ ab,M.cls,M.a7,by omega,?_⟩⟩;obtain⟨H8,e8,v,F8⟩:=zf "sign_goals" (.ref sg) (S8 _ _ ab);rw[<-e8];have E8:dU x H7 H8:=(ac.exB S8).trans F8;have L8:=L7.exI ab E8;have G8:i_ H8 sg b6 ds:=⟨G'.nd,F8 _ _ G'.g (Hd (S8 _ _ ab) G'.g),fun y hy=>F8 _ _ (G'.ls y hy) (dU.neI (S8 _ _ ab) (G'.ls y hy)),G'.all⟩;have d0:=gP ("sign_goals":Str) (.ref sg) (cZ ("quiet":Str) (.ref qu) (cZ ("leaving":Str) (.ref O) s));have c4:lk "sign_goals" (cZ ("sign_goals":Str) (.ref sg) (cZ ("quiet":Str) (.ref qu) (cZ ("leaving":Str) (.ref O) s)))=some (.ref sg):=by
  show fZ _ _=_;rw[ei,if_pos rfl]
 clear e8 F8 G';refine⟨_,rfl,l3,rfl,⟨_,av.of L8.a3⟩,fun b0 cl=>?_⟩
 let c5:Nat->List V->Hp->Prop:=fun i B H'=>Hw fun(A:Ze) (pl:List (Str×Addr))=>Jv (B=A.map V.ref) (Paired (fun t (p:Str×Addr)=>H' t=some (.tup [.str p.1,.ref p.2])) A pl) (pl.map (·.1)=I.take i) ((∀p∈pl,∃L,H' p.2=some (.dK (bD L))/\L.Nodup/\∀w,w∈L↔Reach ds p.1 w)) (ac H8 H') (H' b0=some (.lst B))
 refine cE (xs:=I.map V.str) c5
  ⟨[],[],rfl,.nil,rfl,by simp,ac.new cl,aa⟩ (fun i B H' _ zq=>by obtain⟨_,_,_,_,_,_,S,h'⟩:=zq;exact⟨h',av.of (S _ _ L8.a3)⟩) ?_ ?_
 rotate_left
 ·rintro i B H' x' b5 hi ⟨A,pl,rfl,al,cm,c6,S,f'⟩;obtain⟨r,hr,rfl⟩:=bx b5;have c7:A.length<=150:=by
   rw[Paired.length al,<-ai (f:=(·.1)) (as:=pl),cm,aY];omega
  refine gN (rN ?_);refine⟨_,rfl,_,rfl,x,C,G,_,.ref sg,rfl,S _ _ v,M.cls,M.a7,c4,_,rfl,sg,r,b6,ds,I,rfl,G8.same S,fun d hd=>(m.good d hd).b,by omega,fun ld Lr bm c8 nd dc d4 l=>⟨(by show 2<=ak;decide),fun t ht=>⟨?_,?_,r6 hi ⟨A++[t],pl++[(r,ld)],?_,?_,?_,?_,?_,aa⟩⟩⟩⟩
  ·exact kp (l _ _ f') ht
  ·rw[ai];exact ar (by omega)
  ·rw[aF];rfl
  ·have KT:pd (upd bm t (.tup [.str r,.ref ld])) (upd (upd bm t (.tup [.str r,.ref ld])) b0 (.lst (A.map V.ref++[.ref t]))):=gm (kp (l _ _ f') ht);exact Paired.app (Paired.mapP al fun t' p' e=>KT _ _ (kp (l _ _ e) ht)) (.cons (KT _ _ aa) .nil)
  ·rw[aF,cm,take_snoc hr];rfl
  ·have cn:∀{b:Addr}{dd:List (fD×V)},upd bm t (.tup [.str r,.ref ld]) b=some (.dK dd)->b≠b0:=fun hb z=>by rw[z,kp (l _ _ f') ht]at hb;cases hb
   intro p hp;rcases bE.mp hp with hp|hp
   ·obtain⟨L0,J,g2⟩:=c6 p hp;refine⟨L0,?_,g2⟩;have:=kp (x:=.tup [.str r,.ref ld]) (l _ _ J) ht;rw[am (cn this)];exact this
   ·have:p=(r,ld):=by simpa using hp
    subst this;refine⟨Lr,?_,nd,dc⟩;have:=kp (x:=.tup [.str r,.ref ld]) c8 ht;rw[am (cn this)];exact this
  ·intro b o q;rw[am (ag q cl)];exact kp (l _ _ (S _ _ q)) ht
 rintro B d5 ⟨A,sps,rfl,al,D,co,S9,f9⟩;rw[ai,bJ]at D;have di:(sps.map (·.1)).Nodup:=by rw[D];exact m.okR.1
 refine⟨b0,A,dQ Sum.inr sps,rfl,av.of f9,?_,?_,fun sl N=>⟨_,rfl,x,C,G,_,rfl,kp (S9 _ _ v) N,M.cls,M.a8,by omega,?_⟩⟩
 ·rw[Paired.length al];unfold dQ;rw[ai]
 ·intro j t kv hj b7;obtain⟨p,hp,e⟩:=Paired.getL al hj;unfold dQ at b7;rw[cH,hp]at b7;have:=eM b7;rw[<-this];exact e
 have b1:jr [] (dQ Sum.inr sps)=dQ Sum.inr sps:=ud sps [] di;rw[b1];obtain⟨H9,e9,b8,F9⟩:=zf "still_led" (.ref sl) (kp (x:=.dK (dQ Sum.inr sps)) (S9 _ _ v) N);rw[<-e9];have n9:sl≠x:=(ag (S9 _ _ v) N).symm;have cs:=F9 _ _ aa n9;have E9:dU x H8 H9:=((ac.exB S9).trans (dU.new N)).trans F9;have L9:=L8.exI v E9;have an:∀p∈sps,∃L,H9 p.2=some (.dK (bD L))/\L.Nodup/\∀w,w∈L↔Reach ds p.1 w:=fun p hp=>by
  obtain⟨L0,J,g2⟩:=co p hp;have g3:=kp (x:=.dK (dQ Sum.inr sps)) J N;exact⟨L0,F9 _ _ g3 (E_ (kp (S9 _ _ v) N) g3),g2⟩
 clear e9 F9;have ct:lk "still_led" (cZ ("still_led":Str) (.ref sl) (cZ ("sign_goals":Str) (.ref sg) (cZ ("quiet":Str) (.ref qu) (cZ ("leaving":Str) (.ref O) s))))=some (.ref sl):=by
  show fZ _ _=_;rw[ei,if_pos rfl]
 refine⟨_,rfl,_,rfl,x,C,G,_,.ref sl,rfl,b8,M.cls,M.a8,ct,l3,sl,I,sps,rfl,L9.a3,cs,D,m.okR.1,fun p hp=>?_,fun cB ap=>⟨_,rfl,k cB ?_ ?_⟩⟩
 ·obtain⟨L0,J,g2,g3⟩:=an p hp;exact⟨L0,J,fun z=>m.noround _ ((g3 _).mp z)⟩
 ·have cc:dU x H6 H9:=(E7.trans E8).trans E9;have dm:=((E6.trans E7).trans E8).trans E9;have Y:∀{b:Addr}{o:HO},H9 b=some o->cB b=some o:=fun h=>ap _ _ h;have LL:Lists H5 o1 o2 o3 o4 ts J0 J2 I ds:=⟨(E3.trans (E4.trans E5)) _ _ f1 n1,(E4.trans E5) _ _ f2 n2,E5 _ _ f3 n3,f4,L5.ds⟩;refine⟨⟨G,_,o1,o2,o3,o4,O,qu,sg,sl,ts,bl,b6,sps,Y b8,?_,?_,?_,?_,?_,?_,?_,?_,?_,?_,?_,ct,(LL.exI n dm).same ap,T,?_,?_,?_,?_,D,Y cs,fun p hp=>?_⟩,m,⟨G,_,Y b8,?_,?_,?_,?_⟩⟩
  rotate_right 9
  ·exact Y (cc _ _ b4 (E_ u b4))
  ·intro y hy;obtain⟨dn,J,g2⟩:=ch y hy;exact⟨dn,Y (cc _ _ J (dU.neI u J)),(g2.kt (cc.ktI u)).kt (ac.kt ap)⟩
  ·exact Y ((E8.trans E9) _ _ c3 n7)
  ·exact i_.same ⟨G8.nd,E9 _ _ G8.g (Hd v G8.g),fun y hy=>E9 _ _ (G8.ls y hy) (dU.neI v (G8.ls y hy)),G8.all⟩ ap
  ·obtain⟨L0,J,g2⟩:=an p hp;exact⟨L0,Y J,g2⟩
  all_goals(show fZ _ _=_;subst b2;repeat (rw[ei];first|rw[if_pos rfl] | rw[if_neg (by decide +kernel)]))
  all_goals rfl
 ·exact((((((((E1.trans E2).trans E3).trans E4).trans E5).trans E6).trans E7).trans E8).trans E9).trans (ac.exB ap)
theorem GO(a b:Str):decide (cq a=cq b)=decide (a=b):=by
 by_cases e:a=b
 ·rw[zzr1 e,zzr1 (by rw[e])]
 ·rw[zzr0 e,zzr0 (fun z=>e (oF z))]
theorem aZ.by{C:Addr}{H e:Hp}{x:Addr}{s t u:Zb}{v:List ao}(h:aZ C H x s t u v)
  (j:∀b w,H b=some (.lst (List.map V.str w))->e b=some (.lst (List.map V.str w))) (z:∀b k,H b=some (.lst (List.map V.ref k))->e b=some (.lst (List.map V.ref k))) (A:pd H e)
  (l:∀b a,H b=some (.dK a)->e b=some (.dK a)) (B:∀b a,H b=some (.dT a)->e b=some (.dT a)) (hi:∀b C f fs,H b=some (.ins C f fs)->e b=some (.ins C f fs)):aZ C e x s t u v:=by
 obtain⟨f,fs,D,E,I,J,M,N,O,Q,k,m,n,o,T,a1,a2,a3,U,Y,b2,b3,b4,b5,b6,b7,b8,L,c1,c2,c3,c4,G,d1,d2,d3⟩:=h.at_;refine⟨⟨f,fs,D,E,I,J,M,N,O,Q,k,m,n,o,hi _ _ _ _ T,a1,a2,a3,U,Y,b2,b3,b4,b5,b6,b7,b8,⟨j _ _ L.a1,j _ _ L.a2,j _ _ L.a3,z _ _ L.a4,L.ds.kt A⟩,c1,l _ _ c2,fun y i=>?_,l _ _ c4,⟨G.nd,B _ _ G.g,fun y i=>j _ _ (G.ls y i),G.all⟩,d1,l _ _ d2,fun y i=>?_⟩,h.ok,by obtain⟨f,fs,g,r⟩:=h.more;exact⟨f,fs,hi _ _ _ _ g,r⟩⟩
 ·obtain⟨us,p,q⟩:=c3 y i;exact⟨us,z _ _ p,q.kt A⟩
 ·obtain⟨L0,p,q⟩:=d3 y i;exact⟨L0,l _ _ p,q⟩
theorem aZ.same{C:Addr}{H a:Hp}{x:Addr}{f g i:Zb}{j:List ao}(h:aZ C H x f g i j)(S:ac H a):aZ C a x f g i j :=
 h.by (fun _ _ e=>S _ _ e) (fun _ _ e=>S _ _ e) (ac.kt S) (fun _ _ e=>S _ _ e) (fun _ _ e=>S _ _ e) (fun _ _ _ _ e=>S _ _ e)
def hushSg:List Str:=[("hush":Str)]
inductive j4(C:Addr)(vs:List V)(H:Hp)(Q:VK)(E:XK):Prop
 |mk (t l1 l2 l3 l4:Addr) (ts:Ze) (J0 J2 J3:Zb) (ds:List ao):(vs=[.ref t])->(jv H t l1 l2 l3 l4 ts J0 J2 J3 ds)->(aR J0 J2 J3 ds)->(∀(x:Addr) (H':Hp),aZ C H' x J0 J2 J3 ds->ac H H'->Q (.ref x) H')->j4 C vs H Q E
theorem Am{K:Za}{C:Addr}{D:List V}{H:Hp}{Q:VK}{E:XK}(h:j4 C D H Q E):uQ K C (oy C) (bQ Q) (start vc D) H:=by
 obtain⟨t,L,N,O,U,f,g,i,j,Y,rfl,T,m,k⟩:=h;refine⟨_,rfl,.inr (.inl ⟨t,_,0,_,rfl,rfl,cr.of T.t,rfl,.inl ⟨L,_,rfl,.inl (av.of T.a1),fun s G=>?_⟩⟩)⟩;have u:=T.same (ac.new (o:=.lst (g.map V.str)) G);refine⟨_,rfl,.inr (.inl ⟨t,_,1,_,rfl,rfl,cr.of u.t,rfl,.inl ⟨N,_,rfl,.inl (av.of u.a2),fun v w=>?_⟩⟩)⟩;have y:=u.same (ac.new (o:=.lst (i.map V.str)) w);refine⟨_,rfl,.inr (.inl ⟨t,_,2,_,rfl,rfl,cr.of y.t,rfl,.inl ⟨O,_,rfl,.inl (av.of y.a3),fun z p=>?_⟩⟩)⟩;have A:=y.same (ac.new (o:=.lst (j.map V.str)) p);refine⟨_,rfl,.inr (.inl ⟨t,_,3,_,rfl,rfl,cr.of A.t,rfl,.inl ⟨U,_,rfl,.inl (av.of A.a4),fun B l=>?_⟩⟩)⟩;have T4:=A.same (ac.new (o:=.lst (f.map V.ref)) l);have I:=(((ac.new (o:=.lst (g.map V.str)) G).trans (ac.new (o:=.lst (i.map V.str)) w)).trans (ac.new (o:=.lst (j.map V.str)) p)).trans (ac.new (o:=.lst (f.map V.ref)) l);refine fun x r hx a n=>?_;have J:ac H (upd (upd (upd (upd (upd (upd H s (.lst (g.map V.str))) v (.lst (i.map V.str))) z (.lst (j.map V.str))) B (.lst (f.map V.ref))) r (.own x)) x (.ins C r [])) :=
  (I.trans (ac.new a)).trans (ac.new (by rw[am n.symm];exact hx))
 have e:upd (upd (upd (upd (upd H s (.lst (g.map V.str))) v (.lst (i.map V.str))) z (.lst (j.map V.str))) B (.lst (f.map V.ref))) r (.own x) x=none:=by rw[am n.symm];exact hx
 refine⟨x,r,s,v,z,B,f,g,i,j,Y,rfl,aa,⟨?_,?_,?_,?_,T.ds.kt (ac.kt J)⟩,m,fun H' M ex=>⟨rfl,k x H' M fun b o q=>?_⟩⟩
 ·exact kp (kp (kp (kp (kp aa w) p) l) a) e
 ·exact kp (kp (kp (kp aa p) l) a) e
 ·exact kp (kp (kp aa l) a) e
 ·exact kp (kp aa a) e
 ·have hq:=J _ _ q;exact ex _ _ hq (ag (I.trans (ac.new a) _ _ q) e)
theorem sI{w:Str}{a:Zb}:cq w∈a.map cq↔w∈a:=by
 constructor
 ·intro h;obtain⟨x,hx,e⟩:=aL.mp h;rw[<-oF e];exact hx
 ·exact gU
def rQ(K:Za):TS :=
 bt (cU (cY K) (au (tO K V0 "own_rooms")))
def se:List Str:=["self"]
def mZ(K:Za):TS :=
 bt (cU (cY K) (au (tS K (tO K V0 "still_led") V1 (ca (aN)))))
def nL:List Str:=["self","room"]
def rR(K:Za):TS :=
 bt (cU (cY K) (au (tS K (tO K V0 "sign_goals") (ca (aG V1 V2)) (ca (aN)))))
def sh:List Str:=["self","room","sign"]
def tJ(K:Za):TS :=
 ax (a_ (cU (cY K) (au V1)) U2)
 (ax (a_ (tC (.int 0)) U3)
 (ax (z9 (aW (aE C0 V3 (cU (cu K) (au V2)))) (ax (eJ (bR K V0) (g6 K 3 (be U4 (be U5 (be U6 (gR))))) (df (uX (aW (aE (lq K) V4 (aE (sD K) V2 V3))) (uX (aW (aE (lq K) V5 (ca (au (tC (.str "still")))))) (aW (aE (jB K true) V6 V2)))) (dH (Af K "list" gF V2 (au V6))) (bA)))
 (a_ (aE eN V3 (tC (.int 1))) U3)))
 (bt V2)))
def uE:List Str:=["doors","rooms","found","at","room","sign","other"]
inductive gM(C:Addr)(vs:List V)(H:Hp)(Q:VK)(E:XK):Prop
 |mk (x:Addr) (J0 J2 J3:Zb) (ds:List ao):(vs=[.ref x])->(aZ C H x J0 J2 J3 ds)->(∀l,H l=none->Q (.ref l) (upd H l (.lst (J3.map V.str))))->gM C vs H Q E
theorem Ep{K:Za}{C:Addr}(M:MC K C){a:List V}{H:Hp}{Q:VK}{E:XK}(h:gM C a H Q E):rQ K (bQ Q) (start se a) H:=by
 obtain⟨x,n,o,p,q,rfl,h,k⟩:=h;obtain⟨f,fs,r,s,e,t,u,v,w,y,z,g,i,j,l,a1,a2,a3,A,B,D,m,G,I,J,N,O,L,_⟩:=h.at_;exact⟨_,rfl,x,C,f,fs,.ref e,rfl,l,M.cls,M.a3,m,.inl ⟨e,_,rfl,.inl (av.of L.a3),k⟩⟩
theorem y_:∀{L:Zb},L.Nodup->(bD L).map (fun a=>kV a.1)=L.map V.str:=by
 intro L;refine k6 (fun L=>L.Nodup->(bD L).map (fun a=>kV a.1)=L.map V.str) (fun _=>rfl) (fun f w g e=>?_) L;rw[dk]at e;have h:de (bD f) (.inr w)=none:=by
  rw[ug,if_neg (fun z=>e.2.2 w z w (by simp) rfl)]
 show(bD (f++[w])).map _=_;rw[fB,oK _ h,aF,g e.1,aF]
 rfl
inductive iZ(C:Addr)(vs:List V)(H:Hp)(Q:VK)(E:XK):Prop
 |mk (x:Addr) (r:Str) (J0 J2 J3:Zb) (ds:List ao):(vs=[.ref x,.str r])->(aZ C H x J0 J2 J3 ds)->(r∈J3)->(∀(l:Addr) (L:Zb) (H':Hp),H' l=some (.lst (L.map V.str))->L.Nodup->(∀w,w∈L↔Reach ds r w)->H l=none->ac H H'->Q (.ref l) H')->iZ C vs H Q E
theorem yP{K:Za}{C:Addr}(M:MC K C){j:List V}{H:Hp}{Q:VK}{E:XK}(h:iZ C j H Q E):mZ K (bQ Q) (start nL j) H:=by
 obtain⟨x,r,N,O,T,U,rfl,h,t,k⟩:=h;obtain⟨u,fs,Y,o2,o3,o4,lv,qu,sg,m,ts,v,w,g,y,a1,a2,a3,a4,b1,b2,b3,b4,b5,b6,b7,z,L,c1,c2,c3,c4,G,n,o,A⟩:=h.at_;have i:=h.ok.okR.1;obtain⟨⟨p,a⟩,f,B⟩:=aL.mp (show r∈g.map (·.1) by rw[n];exact t);obtain rfl:p=r:=B;obtain⟨D,I,q,J⟩:=A _ f;refine⟨_,rfl,x,C,u,fs,.ref m,rfl,y,M.cls,M.a8,z,m,rfl,.inl ⟨_,.inl o⟩,_,rfl,(by show 0<=ak;decide),fun et e=>⟨_,.inl ⟨_,.inr p,.inl (kp o e),rfl,rfl⟩,?_⟩⟩;rw[d_ ig (by rw[n];exact i) f];refine .inr ⟨a,_,rfl,.inl (kp I e),fun l s=>k l D _ ?_ q J ((ac.new e).free s) ((ac.new e).trans (ac.new s))⟩;rw[aa,y_ q]
inductive io(C:Addr)(vs:List V)(H:Hp)(Q:VK)(E:XK):Prop
 |mk (x s:Addr) (r:Str) (sg J0 J2 J3:Zb) (ds:List ao):(vs=[.ref x,.str r,.ref s])->(aZ C H x J0 J2 J3 ds)->(H s=some (.tup (sg.map V.str)))->(∀(l:Addr) (H':Hp),H' l=some (.lst ((ba ds (r,sg)).map V.str))->H l=none->ac H H'->Q (.ref l) H')->io C vs H Q E
theorem CQ{K:Za}{C:Addr}(M:MC K C){t:List V}{H:Hp}{Q:VK}{E:XK}(h:io C t H Q E):rR K (bQ Q) (start sh t) H:=by
 obtain⟨x,s,r,e,Y,J2,J3,w,rfl,h,A,k⟩:=h;obtain⟨B,fs,o1,o2,o3,o4,lv,qu,u,sl,ts,D,m,I,J,a1,a2,a3,a4,b1,b2,b3,b4,b5,b6,N,b8,L,c1,c2,c3,c4,G,d1,d2,d3⟩:=h.at_;have O:=h.ok.okR.1;refine⟨_,rfl,x,C,B,fs,.ref u,rfl,J,M.cls,M.a7,N,u,rfl,.inr ⟨_,.inl G.g⟩,_,rfl,_,rfl,(by show 2<=ak;decide),fun kt j=>⟨(by show 0<=ak;decide),fun v i=>⟨de (dQ uM m) (uM (r,e)),.inr ⟨_,uM (r,e),kt,.inl (kp (kp G.g j) i),rfl,?_,l7 _,rfl⟩,?_⟩⟩⟩
 ·refine g8.isIn 8 (l7 _) ?_;unfold uM g8;refine⟨kt,_,rfl,kp aa i,?_⟩;unfold TKAts;refine⟨_,_,rfl,wJ _,?_⟩;unfold TKAts;refine⟨_,_,rfl,SignAt.tk (kp (kp A j) i),?_⟩;unfold TKAts
  rfl
 have n:ac H (upd (upd H kt (.tup [.str r,.ref s])) v (.tup [])):=(ac.new j).trans (ac.new i);by_cases f:(r,e)∈m.map (·.1)
 ·obtain⟨⟨y,a⟩,o,T⟩:=aL.mp f;obtain rfl:y=(r,e):=T;rw[d_ h_ G.nd o];exact .inl ⟨a,_,rfl,.inl (av.of (n _ _ (G.ls _ o))),fun l p=>k l _ aa (n.free p) (n.trans (ac.new p))⟩
 ·rw[mf h_ f];have q:ba w (r,e)=[]:=lE fun y U z=>f (by rw[<-z];exact G.all y U);refine .inl ⟨v,[],rfl,.inr (cr.of aa),fun l p=>k l _ ?_ (n.free p) (n.trans (ac.new p))⟩;rw[q];exact aa
theorem Reach.trans{ds:List ao}{a b c:Str}(e:Reach ds a b)(f:Reach ds b c):Reach ds a c:=by
 induction f with
 |one h=>exact .step e h
 |step r h g=>exact .step g h
def yb(ds:List ao)(gs:Zb)(w:Str):Prop:=∃g∈gs,w=g∨Reach ds g w
inductive gL(K:Za)(vs:List V)(H:Hp)(Q:VK)(E:XK):Prop
 |mk (l4 l:Addr) (ts:Ze) (ds:List ao) (gs J3:Zb):(vs=[.ref l4,.ref l])->(H l4=some (.lst (ts.map V.ref)))->(cF H ts ds)->(H l=some (.lst (gs.map V.str)))->((∀d∈ds,d.b∈J3))->(J3.length<=2000)->(gs.length<=2000)->(∀(f:Addr) (F:Zb) (H':Hp),H' f=some (.lst (F.map V.str))->(∀w,w∈F↔yb ds gs w)->F.length<=4000->H f=none->ac H H'->Q (.ref f) H')->gL K vs H Q E
structure SO(H0 H:Hp)(ds:List ao)(gs:Zb)(f:Addr)(X:Zb):Prop where
 f:H f=some (.lst ((gs++X).map V.str))
 same:ac H0 H
 nd:X.Nodup
 new:∀y∈X,y∉gs
 sound:∀y∈X,yb ds gs y
theorem yb.step{ds:List ao}{f:Zb}{a b:Str}(h:yb ds f a)(e:(⟨a,aB,b⟩:ao)∈ds):yb ds f b:=by
 obtain⟨g,i,rfl|h⟩:=h
 ·exact⟨_,i,.inr (.one e)⟩
 ·exact⟨g,i,.inr (.step h e)⟩
theorem xI(a b:Zb):decide (u7 a=u7 b)=decide (a=b):=by
 by_cases e:a=b
 ·rw[zzr1 e,zzr1 (by rw[e])]
 ·rw[zzr0 e,zzr0 (fun z=>e (BX z))]
inductive SoI(l4 l f:Addr)(at_:Int)(H:Hp)(ds:List ao)(gs X:Zb)(here:Str)(j:Nat)(σ:L2.St)(H':Hp):Prop
 |mk (X' Y:Zb) (x y z:Option V):σ=[some (.ref l4),some (.ref l),some (.ref f),some (.int at_),x,y,z]->X'=X++Y->SO H H' ds gs f X'->(∀d∈ds.take j,d.a=here->d.sg=aB->d.b∈gs++X')->SoI l4 l f at_ H ds gs X here j σ H'
theorem yN{K:Za}{vs:List V}{H:Hp}{Q:VK}{E:XK}(h:gL K vs H Q E):tJ K (bQ Q) (start uE vs) H:=by
 obtain⟨l4,l,ts,ds,u,J3,rfl,h4,an,hl,a5,hz,bn,k⟩:=h;refine⟨_,rfl,.inl ⟨l,_,rfl,.inl (av.of hl),fun f hf=>?_⟩⟩;have M:∀{X:Zb},X.Nodup->(∀y∈X,y∉u)->(∀y∈X,yb ds u y)->X.length<=J3.length:=fun nd nw sd=>oW nd fun y hy=>by
  obtain⟨g,hg,e|h⟩:=sd y hy
  ·exact absurd (by rw[e];exact hg) (nw y hy)
  ·exact h.in_ a5
 refine⟨fun m σ H'=>∃(X:Zb) (p:Nat) (x y z:Option V),σ=[some (.ref l4),some (.ref l),some (.ref f),some (.int p),x,y,z]/\SO H H' ds u f X/\p<=(u++X).length/\(∀i y,i<p->(u++X)[i]?=some y->∀c,(⟨y,aB,c⟩:ao)∈ds->c∈u++X)/\m=u.length+J3.length-p,
  ⟨_,[],0,_,_,_,rfl,⟨by rw[dO];exact aa,ac.new hf,wC,by simp,by simp⟩,dA _,fun i y h=>by omega,rfl⟩,?_⟩
 rintro m σ H1 ⟨X,p,x4,x5,x6,rfl,D,b0,ap,rfl⟩;have b1:=M D.nd D.new D.sound;refine⟨_,rfl,_,rfl,.inl ⟨f,_,rfl,.inl (av.of D.f),_,_,rfl,rfl,_,rfl,?_⟩⟩;refine qE (fun O=>?_) (fun O=>?_)
 ·have C:p<(u++X).length:=by
   have:=of_decide_eq_true O;rw[ai]at this;omega
  have bi:p<u.length+J3.length:=by rw[aV]at C;omega
  generalize T:(u++X)[p]=here;have J:(u++X)[p]?=some here:=by rw[<-T];exact fJ C
  have U:∀{Y:Zb}{y:Str},(∀y∈Y,yb ds u y)->y∈u++Y->yb ds u y:=fun sd hy=>by
   rcases bE.mp hy with hy|hy
   ·exact⟨_,hy,.inl rfl⟩
   ·exact sd _ hy
  refine⟨fun σ' H'=>∃(N:Zb) (x y z:Option V),σ'=[some (.ref l4),some (.ref l),some (.ref f),some (.int ((p+1:Nat):Int)),x,y,z]/\SO H H' ds u f N/\p+1<=(u++N).length/\(∀i y,i<p+1->(u++N)[i]?=some y->∀c,(⟨y,aB,c⟩:ao)∈ds->c∈u++N),
   fun σ' H' ⟨N,x,y,z,e,D',h1,h2⟩=>⟨_,(by omega:u.length+J3.length-(p+1)<u.length+J3.length-p),N,p+1,x,y,z,e,D',h1,h2,rfl⟩,?_⟩
  refine⟨_,rfl,l4,rfl,⟨_,av.of (D.same _ _ h4)⟩,?_⟩;refine bS (xs:=ts.map V.ref) (SoI l4 l f p H ds u X here)
   ⟨X,[],_,_,_,rfl,by simp,D,by simp⟩ (fun j σ H' _ zq=>by obtain⟨_,_,_,_,_,_,_,D',_⟩:=zq;exact av.of (D'.same _ _ h4)) ?_ ?_
  ·rintro j y σ H2 hj ⟨N,Y,a6,a7,a8,rfl,rfl,G,A⟩;obtain⟨t,ht,rfl⟩:=eV hj;obtain⟨v,as,aC⟩:=Paired.getL an ht;obtain⟨s,a9,bb⟩:=aC.kt (ac.kt G.same);have aT:=cp as;have bl:=M G.nd G.new G.sound;have ab:(u++(X++Y))[p]?=some here:=by
    rw[<-ef,pQ C];exact J
   refine⟨t,_,rfl,cr.of a9,rfl,_,_,rfl,_,_,rfl,_,_,rfl,rfl,?_⟩;have B:∀(H3:Hp) (X3 Y3:Zb) (q4 q5 q6:Option V),X3=X++Y3->SO H H3 ds u f X3->(∀y∈X++Y,y∈X3)->(v.a=here->v.sg=aB->v.b∈u++X3) ->
     SoI l4 l f p H ds u X here (j+1) [some (.ref l4),some (.ref l),some (.ref f),some (.int p),q4,q5,q6] H3:=by
    intro H3 X3 Y3 q4 q5 q6 e I aX a0;refine⟨X3,Y3,q4,q5,q6,rfl,e,I,fun d hd e1 e2=>?_⟩;rw[take_snoc as]at hd;rcases bE.mp hd with hd|hd
    ·rcases bE.mp (A d hd e1 e2)with h|h
     ·exact cN _ h
     ·exact cV _ (aX _ h)
    ·have:d=v:=by simpa using hd
     subst this;exact a0 e1 e2
   refine⟨_,rfl,_,rfl,_,rfl,.inl ⟨f,_,_,_,rfl,rfl,av.of G.f,cT (j:=p) (by rw[cH,ab];rfl),cq v.a,cq here,vQ _,vQ _,(by show 0<=8;decide),(by show 0<=8;decide),_,rfl,?_⟩⟩;rw[GO];by_cases c1:v.a=here;rotate_left
   ·rw[zzr0 c1];exact bv (bv (B H2 _ _ _ _ _ rfl G (fun _ h=>h) fun e=>absurd e c1))
   rw[zzr1 c1];refine bC ?_;refine⟨_,rfl,(by show 1<=ak;decide),fun st L=>⟨u7 v.sg,u7 aB,eA (cr.of (kp bb L)),eA (cr.of aa),by rw[ij];decide,by rw[ij];decide,_,rfl,?_⟩⟩;rw[xI];have I:SO H (upd H2 st (.tup [.str "still"])) ds u f (X++Y):=⟨kp G.f L,G.same.trans (ac.new L),G.nd,G.new,G.sound⟩;have bm:H st=none:=G.same.free L;generalize upd H2 st (.tup [.str "still"])=H3 at I ⊢;by_cases c2:v.sg=aB;rotate_left
   ·rw[zzr0 c2];exact bv (bv (B H3 _ _ _ _ _ rfl I (fun _ h=>h) fun _ e=>absurd e c2))
   rw[zzr1 c2];refine bC ?_;refine⟨_,rfl,_,rfl,cq v.b,(u++(X++Y)).map cq,f,_,vQ _,rfl,.inl (av.of I.f),js _,(by show 0<=8;decide),by rw[dC];decide,_,rfl,?_⟩;rw[if_pos rfl];by_cases c3:v.b∈u++(X++Y)
   ·rw[zzr1 (sI.mpr c3)];exact bv (B H3 _ _ _ _ _ rfl I (fun _ h=>h) fun _ _=>c3)
   rw[zzr0 (fun z=>c3 (sI.mp z))];refine bC ?_;refine⟨_,rfl,.inl ⟨rfl,_,av.of I.f⟩,_,rfl,f,_,_,rfl,rfl,I.f,by rw[ai,aV];exact gb (by omega),?_⟩;have al:(⟨here,aB,v.b⟩:ao)∈ds:=by
    have:v=⟨here,aB,v.b⟩:=by cases v;simp only at c1 c2;rw[c1,c2]
    rw[<-this];exact aT
   refine B _ (X++(Y++[v.b])) _ _ _ _ rfl ⟨?_,?_,?_,?_,?_⟩ ?_ ?_
   ·rw[aa];have:u++(X++(Y++[v.b]))=u++(X++Y)++[v.b]:=by simp
    rw[this,aF (l₂:=[v.b])]
    rfl
   ·intro b o q;rw[am (ag q hf)];exact I.same _ _ q
   ·rw[<-ef,dk];refine⟨I.nd,by simp,fun a ha b hb e=>?_⟩;have:b=v.b:=by simpa using hb
    exact c3 (cV _ (by rw[<-this,<-e];exact ha))
   ·intro y hy;rw[<-ef]at hy;rcases bE.mp hy with hy|hy
    ·exact I.new y hy
    ·have:y=v.b:=by simpa using hy
     rw[this];exact fun z=>c3 (cN _ z)
   ·intro y hy;rw[<-ef]at hy;rcases bE.mp hy with hy|hy
    ·exact I.sound y hy
    ·have:y=v.b:=by simpa using hy
     rw[this];exact(U D.sound (cp J)).step al
   ·intro y hy;rw[<-ef];exact cN _ hy
   ·intro _ _;exact cV _ (by simp)
  ·rintro σ H2 ⟨N,Y,a6,a7,a8,rfl,rfl,G,A⟩;rw[ai,Paired.length an,bJ]at A;refine⟨_,rfl,_,_,rfl,rfl,X++Y,_,_,_,rfl,G,?_,fun i y hi hy c hc=>?_⟩
   ·rw[<-ef,aV];omega
   ·by_cases e:i=p
    ·subst e;rw[<-ef,pQ C,J]at hy;have:=eM hy;subst this;exact A _ hc rfl rfl
    ·have bd:i<p:=by omega
     rw[<-ef,pQ (by omega)]at hy;have:=ap i y bd hy c hc;rw[<-ef];exact cN _ this
 ·have a4:p=(u++X).length:=by
   have:¬(p<(u++X).length):=fun z=>O (zzr1 (by rw[ai];omega));omega
  refine⟨_,rfl,k f (u++X) H1 D.f (fun w=>⟨fun hw=>?_,fun hw=>?_⟩) (by rw[aV];omega) hf D.same⟩
  ·rcases bE.mp hw with hw|hw
   ·exact⟨_,hw,.inl rfl⟩
   ·exact D.sound _ hw
  ·have closed:∀y∈u++X,∀c,(⟨y,aB,c⟩:ao)∈ds->c∈u++X:=fun y hy c hc=>by
    obtain⟨n,hn⟩:=mI hy;exact ap n y (by rw[a4];exact(bG.mp hn).1) hn c hc
   obtain⟨g,hg,rfl|h⟩:=hw
   ·exact cN _ hg
   ·induction h with
    |one e=>exact closed _ (cN _ hg) _ e
    |step r e ih=>exact closed _ ih _ e

theorem t4(a:List ao)(d:ao):(oM a d).length<=a.length+1:=by
 unfold oM;split
 ·omega
 ·rw[aV];exact aK _
theorem kb{a:List ao}{i:Nat}{d:ao}{p:ao->Bool}(h:a[i]?=some d):(a.take (i+1)).filter p=(a.take i).filter p++(if p d=true then[d]else[]):=by
 rw[take_snoc h,iu];congr 1;by_cases c:p d=true
 ·rw[if_pos c];simp[c]
 ·rw[if_neg c];simp[c]
theorem Fn{K:Za}{a b:Addr}{xs ys:List V}{g:TG}{o:TS}{D:eR}{σ:L2.St}{H:Hp}(r:xs.length=ys.length)(Pv:Nat->L2.St->Hp->Prop)(s:Pv 0 σ H)(w:∀i σ H,i<=xs.length->Pv i σ H->av K H a xs/\av K H b ys)
  (z:∀i x y σ H p,xs[i]?=some x->ys[i]?=some y->Pv i σ H->H p=none->g (.ref p) σ (upd H p (.tup [x,y])) fun σ2 k=>o { D with nx:=Pv (i+1),ct:=Pv (i+1),bk:=D.nx } σ2 k) (A:∀σ H,Pv xs.length σ H->D.nx σ H) :
  ∃W:Nat->Nat->L2.St->Hp->Prop,(∃m,W 0 m σ H)/\∀i m σ H,W i m σ H ->
   ((Im K a b).stop i H/\D.nx σ H)∨((Im K a b).go i H/\∃N:L2.St->Hp->Prop,(∀σ' f,N σ' f->∃q,q<m/\W (i+1) q σ' f)/\∀x f,(Im K a b).yld i H x f->g x σ f fun σ2 k=>o { D with nx:=N,ct:=N,bk:=D.nx } σ2 k):=by
 refine⟨fun i m σ H=>m=xs.length-i/\i<=xs.length/\Pv i σ H,⟨xs.length,by simp,dA _,s⟩,?_⟩;rintro i m σ H ⟨rfl,hi,p⟩;obtain⟨l,n⟩:=w i σ H hi p;by_cases h:i<xs.length
 ·have j:i<ys.length:=by omega
  refine .inr ⟨⟨xs,ys,xs[i],ys[i],l,n,by simp[h],by simp[j]⟩,Pv (i+1),fun σ' f B=>⟨xs.length-(i+1),by omega,rfl,h,B⟩,fun x f y=>?_⟩;obtain⟨t,u,v,rfl,C,E,G,rfl⟩:=y;exact z i u v σ H t (E xs l) (G ys n) p C
 ·have e:i=xs.length:=by omega
  subst e;exact .inl ⟨⟨xs,ys,l,n,.inl (aK _)⟩,A σ H p⟩
theorem GP(o:Str)(L:Zb):decide (cq o∈L.map cq)=decide (o∈L):=by
 by_cases c:o∈L
 ·rw[zzr1 (sI.mpr c),zzr1 c]
 ·rw[zzr0 (fun z=>c (sI.mp z)),zzr0 c]
theorem cr.same{K:Za}{H e:Hp}{a:Addr}{xs:List V}(S:ac H e)(h:cr K H a xs):cr K e a xs:=by
 rcases h with(h|⟨o,h⟩)|h
 ·exact .inl (.inl (S _ _ h))
 ·exact .inl (.inr ⟨o,S _ _ h⟩)
 ·exact .inr h
theorem av.same{K:Za}{H e:Hp}{a:Addr}{xs:List V}(S:ac H e)(h:av K H a xs):av K e a xs:=by
 rcases h with(h|⟨o,h⟩)|h
 ·exact .inl (.inl (S _ _ h))
 ·exact .inl (.inr ⟨o,S _ _ h⟩)
 ·exact .inr h
mutual
theorem iO.same{K:Za}{H f:Hp}(S:ac H f):∀{d:DT}{v:V},iO K H d v->iO K f d v
 |.k a,v,h=>by unfold iO at h ⊢;exact h
 |.t l,v,h=>by
  unfold iO at h ⊢;obtain⟨b,xs,e,q,r⟩:=h;exact⟨b,xs,e,cr.same S q,DIns.same S r⟩
 |.s l,v,h=>by
  unfold iO at h ⊢;obtain⟨b,xs,e,q,r⟩:=h;exact⟨b,xs,e,av.same S q,DIns.same S r⟩
theorem DIns.same{K:Za}{H g:Hp}(S:ac H g):∀{f:List DT}{a:List V},DIns K H f a->DIns K g f a
 |[],a,h=>by unfold DIns at h ⊢;exact h
 |d::f,a,h=>by
  unfold DIns at h ⊢;obtain⟨v,i,e,q,r⟩:=h;exact⟨v,i,e,iO.same S q,DIns.same S r⟩
end
theorem DIns.get{K:Za}{H:Hp}:∀{f:List DT}{a:List V}{i:Nat}{v:V},DIns K H f a->a[i]?=some v->∃d,f[i]?=some d/\iO K H d v
 |[],a,i,v,h,e=>by unfold DIns at h;subst h;simp at e
 |d::f,a,i,v,h,e=>by
  unfold DIns at h;obtain⟨l,m,rfl,q,r⟩:=h;cases i with
  |zero=>simp at e;subst e;exact⟨d,rfl,q⟩
  |succ i =>
   simp at e;obtain⟨g,j,k⟩:=DIns.get r e;exact⟨g,by simpa using j,k⟩
theorem DIns.len{K:Za}{H:Hp}:∀{e:List DT}{a:List V},DIns K H e a->a.length=e.length
 |[],a,h=>by unfold DIns at h;subst h;rfl
 |d::e,a,h=>by
  unfold DIns at h;obtain⟨f,g,rfl,q,r⟩:=h;rw[c_,c_,DIns.len r]
theorem uo{n:Nat}:∀{a:List DT}{i:Nat}{d:DT},DT.depths a<=n->a[i]?=some d->d.depth<=n
 |[],i,d,_,e=>by simp at e
 |x::a,i,d,h,e=>by
  have f:max (DT.depth x) (DT.depths a)<=n:=h;cases i with
  |zero=>simp at e;subst e;omega
  |succ i=>simp at e;exact uo (by omega) e
theorem GL{l:List DT}{n:Nat}(h:(DT.t l).depth<=n+1):DT.depths l<=n:=by
 have:DT.depths l+1<=n+1:=h;omega
theorem GN{l:List DT}{n:Nat}(h:(DT.s l).depth<=n+1):DT.depths l<=n:=by
 have:DT.depths l+1<=n+1:=h;omega
theorem Fu{l:List DT}{n:Nat}(h:(DT.t l).depth<=n):1<=n:=by
 have:DT.depths l+1<=n:=h;omega
theorem Fv{l:List DT}{n:Nat}(h:(DT.s l).depth<=n):1<=n:=by
 have:DT.depths l+1<=n:=h;omega
inductive Kd(K:Za)(H:Hp):DT->V->Prop
 |int (i:Int):Kd K H (.k (.inl i)) (.int i)
 |str (x:Str):Kd K H (.k (.inr x)) (.str x)
 |tup {a:Addr}{xs:List V}{l:List DT}(q:cr K H a xs) (r:DIns K H l xs):Kd K H (.t l) (.ref a)
 |lst {a:Addr}{xs:List V}{l:List DT}(q:av K H a xs) (r:DIns K H l xs):Kd K H (.s l) (.ref a)
theorem iO.kd{K:Za}{H:Hp}:∀{d:DT}{v:V},iO K H d v->Kd K H d v
 |.k (.inl i),v,h=>by unfold iO at h;subst h;exact .int i
 |.k (.inr x),v,h=>by unfold iO at h;subst h;exact .str x
 |.t l,v,h=>by
  unfold iO at h;obtain⟨b,xs,rfl,q,r⟩:=h;exact .tup q r
 |.s l,v,h=>by
  unfold iO at h;obtain⟨b,xs,rfl,q,r⟩:=h;exact .lst q r

open Classical in
theorem uq(a:List ao):DT.depths (a.map u8)<=2:=by
 induction a with
 |nil=>exact dA _
 |cons x xs e=>rw[cg];show max (DT.depth (u8 x)) (DT.depths _)<=2;rw[xH];omega
def tN(K:Za):TS :=
 bt (cU (cY K) (au (tO K V0 "own_asks")))
def uI:List Str:=["self"]
def tM(K:Za):TS :=
 bt (cU (cY K) (au (tO K V0 "own_says")))
def uH:List Str:=["self"]
def k7(K:Za):TS :=
 bt (cU (cY K) (au (tS K (tO K V0 "leaving") V1 (ca (aN)))))
def lK:List Str:=["self","room"]


theorem Ah{C x:Addr}{H:Hp}{k l m:Zb}{n:List ao}(h:aZ C H x k l m n):∃(j:Addr) (fs:List (Str×V)) (f g i:Addr) (a:List (Str×Addr)),H x=some (.ins C j fs)/\lk "asks" fs=none/\lk "says" fs=none/\lk "doors_from" fs=none/\lk "is_quiet" fs=none/\lk "own_asks" fs=some (.ref f)/\lk "own_says" fs=some (.ref g)/\lk "leaving" fs=some (.ref i) /\
  H f=some (.lst (k.map V.str))/\H g=some (.lst (l.map V.str))/\a.map (·.1)=m/\H i=some (.dK (dQ Sum.inr a))/\(∀x∈a,∃o,H x.2=some (.lst (o.map V.ref))/\cF H o (bu n x.1)):=by
 obtain⟨j,fs,f,g,I,J,i,M,N,O,Q,a,q,r,p,a1,a2,a3,T,s,t,U,Y,u,b6,b7,b8,L,v,w,y,c4,G,d1,d2,d3⟩:=h.at_;obtain⟨z,A,e,B,D,e3,E⟩:=h.more;rw[p]at e;cases e;exact⟨j,fs,f,g,i,a,p,B,D,E,a1,s,t,u,L.a1,L.a2,v,w,y⟩
inductive fL(C:Addr)(vs:List V)(H:Hp)(Q:VK)(E:XK):Prop
 |mk (x:Addr) (J0 J2 J3:Zb) (ds:List ao):(vs=[.ref x])->(aZ C H x J0 J2 J3 ds)->(∀l,H l=none->Q (.ref l) (upd H l (.lst (J0.map V.str))))->fL C vs H Q E
theorem Go{K:Za}{C:Addr}(M:MC K C){a:List V}{H:Hp}{Q:VK}{E:XK}(h:fL C a H Q E):tN K (bQ Q) (start uI a) H:=by
 obtain⟨x,m,n,o,p,rfl,h,k⟩:=h;obtain⟨f,fs,e,q,r,g,i,a1,a2,a3,s,j,t,u,l,v,_⟩:=Ah h;exact⟨_,rfl,x,C,f,fs,.ref e,rfl,i,M.cls,M.a1,j,.inl ⟨e,_,rfl,.inl (av.of l),k⟩⟩
inductive fK(C:Addr)(vs:List V)(H:Hp)(Q:VK)(E:XK):Prop
 |mk (x:Addr) (J0 J2 J3:Zb) (ds:List ao):(vs=[.ref x])->(aZ C H x J0 J2 J3 ds)->(∀l,H l=none->Q (.ref l) (upd H l (.lst (J2.map V.str))))->fK C vs H Q E
theorem Gi{K:Za}{C:Addr}(M:MC K C){a:List V}{H:Hp}{Q:VK}{E:XK}(h:fK C a H Q E):tM K (bQ Q) (start uH a) H:=by
 obtain⟨x,m,n,o,p,rfl,h,k⟩:=h;obtain⟨f,fs,q,e,r,g,i,a1,a2,a3,s,t,j,u,v,l,_⟩:=Ah h;exact⟨_,rfl,x,C,f,fs,.ref e,rfl,i,M.cls,M.a2,j,.inl ⟨e,_,rfl,.inl (av.of l),k⟩⟩
inductive gE(C:Addr)(vs:List V)(H:Hp)(Q:VK)(E:XK):Prop
 |mk (x:Addr) (r:Str) (J0 J2 J3:Zb) (ds:List ao):(vs=[.ref x,.str r])->(aZ C H x J0 J2 J3 ds)->(r∈J3)->(∀(l:Addr) (us:Ze) (H':Hp),H' l=some (.lst (us.map V.ref))->cF H' us (bu ds r)->H l=none->ac H H'->Q (.ref l) H')->gE C vs H Q E
theorem u2{K:Za}{C:Addr}(M:MC K C){n:List V}{H:Hp}{Q:VK}{E:XK}(h:gE C n H Q E):k7 K (bQ Q) (start lK n) H:=by
 obtain⟨x,r,I,J,L,N,rfl,h,t,k⟩:=h;obtain⟨u,fs,O,T,o,i,v,a1,a2,a3,U,Y,b2,w,c1,c2,p,q,y⟩:=Ah h;have j:=h.ok.okR.1;obtain⟨⟨s,a⟩,e,z⟩:=aL.mp (show r∈i.map (·.1) by rw[p];exact t);obtain rfl:s=r:=z;obtain⟨A,B,D⟩:=y _ e;refine⟨_,rfl,x,C,u,fs,.ref o,rfl,v,M.cls,M.a5,w,o,rfl,.inl ⟨_,.inl q⟩,_,rfl,(by show 0<=ak;decide),fun G f=>⟨_,.inl ⟨_,.inr s,.inl (kp q f),rfl,rfl⟩,?_⟩⟩;rw[d_ ig (by rw[p];exact j) e];have g:ac H (upd H G (.tup [])):=ac.new f;refine .inl ⟨a,_,rfl,.inl (av.of (g _ _ B)),fun l m=>k l A _ aa ?_ (g.free m) (g.trans (ac.new m))⟩;exact D.kt (ac.kt (g.trans (ac.new m)))
def rS(K:Za):TS :=
 bt (cU (cY K) (au (tO K V0 "own_doors")))
def si:List Str:=["self"]
def zD:List Str:=["found","due"]



def yB(K:Za)(sp_law_same:Sp):TS :=
 ax (df (tB (CF V1)) (bt (CF V0)) (bA))
 (ax (df (tB (cU (tW K) (aG V1 (tC (.ty "bool"))))) (bt (rc (cU (tW K) (aG V0 (tC (.ty "bool")))) (aE EE V0 V1))) (bA))
 (ax (df (tB (cU (tW K) (aG V1 (tC (.ty "str"))))) (bt (rc (cU (tW K) (aG V0 (tC (.ty "str")))) (aE (lq K) V0 V1))) (bA))
 (ax (df (tB (cU (tW K) (aG V1 (tC (.ty "int"))))) (bt (rc (cU (tW K) (aG V0 (tC (.ty "int")))) (rc (G7 (cU (tW K) (aG V0 (tC (.ty "bool"))))) (aE (lq K) V0 V1)))) (bA))
 (ax (df (uX (tB (cU (tW K) (aG V1 (tC (.ty "tuple"))))) (wR (tB (cU (tW K) (aG V0 (tC (.ty "tuple"))))))) (bt (tC (.bl false))) (bA))
 (ax (df (uX (tB (cU (tW K) (aG V1 (tC (.ty "list"))))) (wR (tB (cU (tW K) (aG V0 (tC (.ty "list"))))))) (bt (tC (.bl false))) (bA))
 (ax (df (aW (aE rNe (cU (cu K) (au V0)) (cU (cu K) (au V1)))) (bt (tC (.bl false))) (bA))
 (bt (cU (HH K) (aq (dg 2 [] (BW K (aG V0 V1)) (g6 K 2 (be U0 (be U1 (gR)))) (jn) (aO sp_law_same (aG V0 V1))) aN)))))))))




def FZ(K:Za)(C_Machine:Addr)(sp_Machine_led_from:Sp)(sp_Machine_goals:Sp):TS :=
 bt (cU (rAny K) (aq (dg 1 [0,2] (bR K (aE lr (bj (au V1)) (bF C_Machine "led_from" sp_Machine_led_from [] E0 V0 (au V1)))) U0 (jn) (aE oJ (cU (cu K) (aq (bF C_Machine "goals" sp_Machine_goals [] E0 V1 (aG V0 (ca (aq (tC (.str "ask")) (au V2))))) aN)) (tC (.int 0)))) aN))
def GX:List Str:=["I","room","ask"]
def kH(K:Za)(C_Machine:Addr)(sp_Machine_rooms:Sp)(sp_Machine_asks:Sp)(sp_takes:Sp)(C_NoTaker:Addr)(sp_NoTaker_init:Sp):(L2.St->XK)->TS :=
 Ef (bR K (bF C_Machine "rooms" sp_Machine_rooms [] E0 V0 aN)) U1 (Ef (bR K (bF C_Machine "asks" sp_Machine_asks [] E0 V0 aN)) U2 (CG (wR (tB (aO sp_takes (dP V0 V1 V2)))) (sk C_NoTaker sp_NoTaker_init (aG V1 V2)) (p_ bA)))
def kK:List Str:=["I","room","ask"]
def uP(K:Za)(sp_law_put:Sp)(sp_law_take:Sp)(sp_law_still_on:Sp):TS :=
 ax (a_ V1 (g6 K 4 (be U2 (be U3 (be U4 (be U5 (gR)))))))
 (ax (a_ (cU (cY K) (au V5)) U5)
 (ax (eJ (bR K V4) U6 (eJ (bR K V2) U7 (ax (a_ (aO sp_law_still_on (aG V5 (bj (au V6)))) U8)
 (df (aW (aE (lq K) (dg 1 [8,7] (bR K V5) U0 (uX (aW (aE (jB K false) (aE (sD K) V0 (tC (.int 0))) V1)) (aW (aE (lq K) (aE (sD K) V0 (tC (.int 1))) (ca (aG (tC (.str "ask")) V2))))) V0) (bj (aN)))) (ax (a_ (aE (cj K) (bj (aq V6 (aq (aE (cj K) V4 (aO sp_law_take (aG V0 (cU (cu K) (au V4))))) aN))) (aO sp_law_take (aG V0 (tC (.int 2))))) U9)
 (dH (aO sp_law_put (aq V5 (aq (ca (dP V6 (ca (aG (tC (.str "ask")) V7)) V9)) aN))))) (bA)))))
 (bt (ca (aq V2 (dP V3 V4 V5))))))
def vb:List Str:=["pen","told","asks","says","rooms","doors","room","ask","there","other"]
def z6(K:Za)(sp_law_still_on:Sp):TS :=
 ax (eJ (bR K (aE (sD K) V0 (tC (.int 2)))) U1 (ax (a_ (aO sp_law_still_on (aG (aE (sD K) V0 (tC (.int 3))) (bj (au V1)))) U2)
 (eJ (bR K (aE (sD K) V0 (tC (.int 0)))) U3 (df (aW (aE (lq K) (dg 1 [2,3] (bR K (aE (sD K) V0 (tC (.int 3)))) U0 (uX (aW (aE (jB K false) (aE (sD K) V0 (tC (.int 0))) V1)) (aW (aE (lq K) (aE (sD K) V0 (tC (.int 1))) (ca (aG (tC (.str "ask")) V2))))) V0) (bj (aN)))) (bt (ca (aG V1 V3))) (bA)))))
 (bt (tC .non))
def AZ:List Str:=["told","room","there","ask"]





def pX(K:Za):TS :=
 ax (a_ (cU BG (aG V0 (cU (cu K) (au (tC (.str "abcdefghijklmnopqrstuvwxyz")))))) (g6 K 2 (be U1 (be U2 (gR)))))
 (bt (aE EG (aE As (tC (.str "abcdefghijklmnopqrstuvwxyz")) V1) (aE As (tC (.str "abcdefghijklmnopqrstuvwxyz")) V2)))
def qK:List Str:=["number","tens","ones"]
def D_(K:Za):TS :=
 bt (dg 1 [1] (bR K V0) U0 (aW (aE (jB K false) V0 V1)) V0)
def FI:List Str:=["words","others"]
def zX(K:Za)(sp_common:Sp)(C_Machine:Addr)(sp_Machine_asks:Sp)(sp_Machine_says:Sp):TS :=
 bt (aE lr (aO sp_common (aG (bF C_Machine "says" sp_Machine_says [] E0 V0 aN) (bF C_Machine "asks" sp_Machine_asks [] E0 V1 aN))) (aO sp_common (aG (bF C_Machine "says" sp_Machine_says [] E0 V1 aN) (bF C_Machine "asks" sp_Machine_asks [] E0 V0 aN))))
def AV:List Str:=["M","N"]
def tL(K:Za)(C_Machine:Addr)(sp_Machine_asks:Sp)(sp_wires_of:Sp):TS :=
 ax (a_ (aO sp_wires_of (aG V0 V1)) U2)
 (bt (dg 1 [2] (bR K (aE lr (bF C_Machine "asks" sp_Machine_asks [] E0 V0 aN) (bF C_Machine "asks" sp_Machine_asks [] E0 V1 aN))) U0 (aW (aE (jB K true) V0 V1)) V0))
def uG:List Str:=["M","N","wires"]
def z7(K:Za)(C_Machine:Addr)(sp_Machine_doors:Sp)(sp_Machine_rooms:Sp):TS :=
 bt (rc (aE HG (cU (cu K) (au (bF C_Machine "rooms" sp_Machine_rooms [] E0 V0 aN))) (tC (.int 10))) (aE HG (cU (cu K) (au (bF C_Machine "doors" sp_Machine_doors [] E0 V0 aN))) (tC (.int 40))))
def A6:List Str:=["M"]
def rM:List Str:=["M","N"]
def wQ(K:Za)(C_Machine:Addr)(sp_Machine_doors_from:Sp)(a_STILL:Addr):TS :=
 bt (dg 3 [2] (bR K (bF C_Machine "doors_from" sp_Machine_doors_from [] E0 V0 (au V1))) (g6 K 3 (be U0 (be U1 (be U2 (gR))))) (BB (aW (aE (lq K) V1 (tC (.ref a_STILL)))) (aW (aE (jB K true) (aE (jo K) V1 (tC (.int 1))) V3))) (ca (aG V1 V2)))
def xZ:List Str:=["M","room","wires"]
def uR(K:Za)(sp_alone_from:Sp):TS :=
 ax (a_ V2 (g6 K 2 (be U4 (be U5 (gR)))))
 (ax (a_ (dg 2 [2,5] (bR K (aO sp_alone_from (dP V0 V4 V3))) (g6 K 2 (be U0 (be U1 (gR)))) (jn) (ca (dP V2 V0 (ca (aG V1 V3))))) U6)
 (bt (aE lr V6 (dg 2 [2,4] (bR K (aO sp_alone_from (dP V1 V5 V3))) (g6 K 2 (be U0 (be U1 (gR)))) (jn) (ca (dP V2 V0 (ca (aG V3 V1))))))))
def vd:List Str:=["M","N","here","wires","one","other","doors"]
def wL(K:Za)(C_Machine:Addr)(sp_Machine_goals:Sp)(sp_Machine_says:Sp):TS :=
 bt (bF C_Machine "goals" sp_Machine_goals [] E0 V0 (aq V1 (aq (ca (aG (tIf (aW (aE (jB K false) V2 (bF C_Machine "says" sp_Machine_says [] E0 V0 aN))) (tC (.str "say")) (tC (.str "ask"))) V2)) aN)))
def xV:List Str:=["M","room","word"]
def p8(K:Za)(sp_wire_goals:Sp):TS :=
 ax (a_ (bj (aN)) U4)
 (ax (eJ (bR K V3) U5 (ax (a_ (aO sp_wire_goals (dP V1 (aE (jo K) V2 (tC (.int 1))) V5)) U6)
 (eJ (bR K (aO sp_wire_goals (dP V0 (aE (jo K) V2 (tC (.int 0))) V5))) U7 (dH (Af K "list" sE V4 (aq (dg 1 [2,5,7] (bR K V6) U0 (jn) (ca (dP V1 (ca (aG (tC (.str "say")) V2)) (ca (aG V3 V0))))) aN))))))
 (bt V4))
def qP:List Str:=["M","N","here","wires","doors","word","others","goal"]
def pW(K:Za)(C_Machine:Addr)(sp_Machine_rooms:Sp):TS :=
 ax (a_ (bj (aN)) U2)
 (ax (eJ (bR K (bF C_Machine "rooms" sp_Machine_rooms [] E0 V0 aN)) U3 (dH (Af K "list" sE V2 (au (dg 1 [3] (bR K (bF C_Machine "rooms" sp_Machine_rooms [] E0 V1 aN)) U0 (jn) (ca (aG V1 V0)))))))
 (bt V2))
def qJ:List Str:=["M","N","pairs","room"]
def FH:List Str:=["M","N","wires","names","doors","here","named_doors"]
def rO(K:Za)(sp_law_asks_left:Sp)(sp_law_take:Sp)(sp_law_names:Sp):TS :=
 ax (a_ (aO sp_law_names (aG V0 (tC (.int 13)))) U2)
 (ax (a_ (bj (aq (bj (aN)) (dP (bj (aN)) (bj (aN)) (bj (aN))))) U3)
 (ax (a_ (bj (aq (bj (au (tC (.int 0)))) (aq (bj (au (tC (.int 0)))) (aq (bj (au (tC (.int 1)))) (aq (bj (au (tC (.int 1)))) (aq (bj (au (tC (.int 2)))) (aq (bj (au (tC (.int 2)))) (aq (bj (au (tC (.int 3)))) (aq (bj (au (tC (.int 3)))) (aq (bj (aG (tC (.int 1)) (tC (.int 2)))) (aq (bj (aG (tC (.int 1)) (tC (.int 2)))) (aq (bj (aG (tC (.int 0)) (tC (.int 3)))) (aq (bj (aG (tC (.int 0)) (tC (.int 3)))) (aq (bj (aN)) (aq (bj (aG (tC (.int 0)) (tC (.int 2)))) (au (bj (aG (tC (.int 1)) (tC (.int 3)))))))))))))))))))) U4)
 (ax (eJ (bR K (F_ (CZ K) V2 (iW) (mF (tC (.int 8))))) U5 (eJ (bR K (aE (cj K) V4 (aO sp_law_take (aG V0 (aE eN (tC (.int 13)) (aE fM (tC (.int 2)) V1)))))) U6 (df (aW (aE C0 (cU (cu K) (au (aE (cj K) V3 V6))) (aE eN (tC (.int 2)) (aE fM (tC (.int 2)) V1)))) (dH (Af K "list" gF (aE (cj K) V3 V6) (au V5))) (bA))))
 (ax (eJ (rB (au (tC (.int 4)))) U6 (df (aW (aE (lq K) (aE (cj K) V3 V6) (bj (aN)))) (dH (Af K "list" gF (aE (cj K) V3 V6) (au (aE (cj K) V2 (aE eN (tC (.int 8)) V6))))) (bA)))
 (ax (df (uX (aW (aE EE V1 (tC (.int 0)))) (aW (aE (lq K) (aO sp_law_asks_left (au V3)) (bj (aN))))) (dH (Af K "list" gF (aE (cj K) V3 (tC (.int 0))) (au (aE (cj K) V2 (tC (.int 12)))))) (bA))
 (bt V3))))))
def r9:List Str:=["pen","loose","words","some","ways","word","at"]
def rP(K:Za):TS :=
 ax (a_ (aE lr (dg 1 [0] (bR K (aE (cj K) V0 (tC (.int 1)))) U0 (aW (aE (jB K false) V0 (aE (cj K) V1 (tC (.int 2))))) V0) (dg 1 [0] (bR K (aE (cj K) V0 (tC (.int 3)))) U0 (aW (aE (jB K false) V0 (aE (cj K) V1 (tC (.int 0))))) V0)) U1)
 (bt (dg 1 [1] (bR K (aE lr (aE (cj K) V0 (tC (.int 0))) (aE (cj K) V0 (tC (.int 2))))) U0 (aW (aE (jB K true) V0 V1)) V0))
def r_:List Str:=["some","wired"]
def zZ(K:Za)(sp_law_draw_doors:Sp)(sp_law_take:Sp)(sp_law_names:Sp):TS :=
 ax (a_ (aO sp_law_names (aG V0 (aE eN (tC (.int 1)) (aO sp_law_take (aq V0 (au V3)))))) U4)
 (ax (a_ (aO sp_law_draw_doors (aq V0 (aq V1 (aq V2 (aq V4 (au (aO sp_law_take (aG V0 (tC (.int 2)))))))))) U5)
 (bt (ca (aq V1 (dP V2 V4 V5)))))
def AX:List Str:=["pen","asks","says","most","rooms","doors"]
def wN(K:Za)(C_Machine:Addr)(sp_Machine_says:Sp)(sp_asks_of_both:Sp)(C_NoJoin:Addr)(sp_common:Sp)(sp_Machine_asks:Sp)(sp_is_small:Sp):(L2.St->XK)->TS :=
 kB (CG (BB (wR (tB (aO sp_is_small (au V0)))) (wR (tB (aO sp_is_small (au V1))))) (jA C_NoJoin (au (tC (.str "more than ten rooms, or more than forty doors")))) (p_ bA))
 (kB (CG (BB (aW (aE oJ (cU (cu K) (au (aO sp_common (aG (bF C_Machine "asks" sp_Machine_asks [] E0 V0 aN) (bF C_Machine "asks" sp_Machine_asks [] E0 V1 aN))))) (tC (.int 0)))) (aW (aE oJ (cU (cu K) (au (aO sp_common (aG (bF C_Machine "says" sp_Machine_says [] E0 V0 aN) (bF C_Machine "says" sp_Machine_says [] E0 V1 aN))))) (tC (.int 0))))) (jA C_NoJoin (au (tC (.str "an ask or a say that both have")))) (p_ bA))
 (kB (CG (aW (aE EE (cU (cu K) (au (aO sp_asks_of_both (aG V0 V1)))) (tC (.int 0)))) (jA C_NoJoin (au (tC (.str "no ask is left")))) (p_ bA))
 (CG (BB (aW (aE oJ (cU (cu K) (au (aO sp_asks_of_both (aG V0 V1)))) (tC (.int 4)))) (aW (aE oJ (cU (cu K) (au (aE lr (bF C_Machine "says" sp_Machine_says [] E0 V0 aN) (bF C_Machine "says" sp_Machine_says [] E0 V1 aN)))) (tC (.int 4))))) (jA C_NoJoin (au (tC (.str "more than four asks or says are left")))) (p_ bA))))
def CB(K:Za)(C_Machine:Addr)(sp_Machine_init:Sp)(sp_Machine_says:Sp)(sp_asks_of_both:Sp)(sp_doors_alone:Sp)(sp_doors_together:Sp)(sp_pairs_of_rooms:Sp)(sp_name_of_number:Sp)(sp_wires_of:Sp)(sp_need_all_asks_taken:Sp)(sp_need_join:Sp):(L2.St->XK)->TS :=
 kB (wS (fun W=>q_ sp_need_join [] W (aG V0 V1)))
 (kB (wS (fun W=>q_ sp_need_all_asks_taken [] W (au V0)))
 (kB (wS (fun W=>q_ sp_need_all_asks_taken [] W (au V1)))
 (kB (p_ (a_ (aO sp_wires_of (aG V0 V1)) U2))
 (kB (p_ (a_ (cU (EF K) (aq (dg 2 [] (uj K (au (aO sp_pairs_of_rooms (aG V0 V1)))) (g6 K 2 (be U0 (be U1 (gR)))) (jn) (ca (aG V1 (aO sp_name_of_number (au V0))))) aN)) U3))
 (kB (p_ (a_ (bj (aN)) U4))
 (kB (p_ (eJ (Fg K V3) U5 (dH (Af K "list" sE V4 (au (aE lr (aO sp_doors_alone (aq V0 (dP V1 V5 V2))) (aO sp_doors_together (aq V0 (dP V1 V5 V2)))))))))
 (kB (p_ (a_ (dg 3 [3] (bR K V4) (g6 K 3 (be U0 (be U1 (be U2 (gR))))) (jn) (ca (dP (vx K V3 V0) V1 (vx K V3 V2)))) U6))
 (p_ (bt (BD C_Machine sp_Machine_init [] E0 (aq (aO sp_asks_of_both (aG V0 V1)) (dP (aE lr (bF C_Machine "says" sp_Machine_says [] E0 V0 aN) (bF C_Machine "says" sp_Machine_says [] E0 V1 aN)) (Ec V3) V6))))))))))))
def tK(K:Za)(sp_law_take:Sp)(sp_law_put:Sp)(sp_law_willing:Sp)(sp_law_part:Sp):TS :=
 ax (a_ (aO sp_law_part (aq V0 (dP V1 V2 (tC (.int 11))))) U3)
 (ax (df (aW (aE oJ (aO sp_law_take (aG V0 (tC (.int 5)))) (tC (.int 0)))) (a_ (aO sp_law_willing (aG V0 V3)) U3) (bA))
 (ax (a_ V3 (g6 K 4 (be U1 (be U2 (be U4 (be U5 (gR)))))))
 (ax (df (aW (aE EE (aO sp_law_take (aG V0 (tC (.int 3)))) (tC (.int 0)))) (ax (a_ (aE eN (tC (.int 39)) (aO sp_law_take (aG V0 (tC (.int 4))))) U6)
 (eJ (rB (au (aE fM (aE fM (cU (cu K) (au V4)) (cU (cu K) (au V4))) (cU (cu K) (au V2))))) U7 (ax (a_ (aE (cj K) V4 (aE f6 V7 (cU (cu K) (au V4)))) U8)
 (ax (a_ (aE (cj K) V4 (aE f6 (aE tX V7 (cU (cu K) (au V4))) (cU (cu K) (au V4)))) U9)
 (df (aW (aE C0 (cU (cu K) (au V5)) V6)) (dH (aO sp_law_put (aq V5 (aq (ca (aq V8 (aq (ca (aq (tC (.str "say")) (aq (aE (cj K) V2 (aE tX V7 (aE fM (cU (cu K) (au V4)) (cU (cu K) (au V4))))) aN))) (au V9)))) aN)))) (bA)))))) (bA))
 (bt (ca (aq V1 (dP V2 V4 V5)))))))
def uF:List Str:=["pen","asks","says","told","rooms","doors","goal","number","room","other"]
def pY(K:Za)(sp_law_not_taken:Sp)(sp_law_asks_left:Sp):TS :=
 ax (a_ (aO sp_law_asks_left (aq (bj (aq (aE (jo K) V0 (tC (.int 0))) (dP (aE (jo K) V0 (tC (.int 1))) (aE (jo K) V1 (tC (.int 0))) (aE (jo K) V1 (tC (.int 1)))))) aN)) U2)
 (ax (a_ (aE lr (aE (jo K) V0 (tC (.int 1))) (aE (jo K) V1 (tC (.int 1)))) U3)
 (ax (eJ (bR K (bj (aG V0 V1))) U4 (df (BB (aW (aE oJ (cU (cu K) (au (aE (jo K) V4 (tC (.int 2))))) (tC (.int 10)))) (aW (aE oJ (cU (cu K) (au (aE (jo K) V4 (tC (.int 3))))) (tC (.int 40))))) (bt (ca (au (tC (.str "join"))))) (bA)))
 (ax (df (aW (aE (Gr K) (aE lr (dg 1 [1] (bR K (aE (jo K) V0 (tC (.int 0)))) U0 (aW (aE (jB K false) V0 (aE (jo K) V1 (tC (.int 0))))) V0) (dg 1 [1] (bR K (aE (jo K) V0 (tC (.int 1)))) U0 (aW (aE (jB K false) V0 (aE (jo K) V1 (tC (.int 1))))) V0)) (bj (aN)))) (bt (ca (au (tC (.str "join"))))) (bA))
 (ax (df (BB (aW (aE (lq K) V2 (bj (aN)))) (BB (aW (aE oJ (cU (cu K) (au V2)) (tC (.int 4)))) (aW (aE oJ (cU (cu K) (au V3)) (tC (.int 4)))))) (bt (ca (au (tC (.str "join"))))) (bA))
 (ax (eJ (bR K (bj (aG V0 V1))) U4 (df (tB (BC (aO sp_law_not_taken (au V4)))) (bt (aO sp_law_not_taken (au V4))) (bA)))
 (bt (bj (aG V2 V3))))))))
def qM:List Str:=["first","second","asks","says","told"]
def F0(K:Za)(sp_law_same:Sp)(C_Machine:Addr)(sp_Machine_says:Sp)(sp_Machine_asks:Sp)(sp_law_joined_due:Sp)(sp_Machine_doors:Sp)(sp_Machine_rooms:Sp)(sp_joined:Sp)(C_NoTaker:Addr)(C_NoJoin:Addr)(sp_law_machine:Sp)(sp_law_any_part:Sp)(sp_law_two_words:Sp)(sp_law_take:Sp)(sp_law_open:Sp):TS :=
 ax (a_ (aO sp_law_open (au V0)) U1)
 (ax (a_ (aO sp_law_two_words (aq V1 (aq (aE (cj K) (bj (dP (tC (.int 0)) (tC (.int 0)) (tC (.int 1)))) (aO sp_law_take (aG V1 (tC (.int 3))))) aN))) U2)
 (ax (a_ (aO sp_law_any_part (dP V1 (aE (cj K) V2 (tC (.int 0))) (aE (cj K) V2 (tC (.int 1))))) U3)
 (ax (a_ (aO sp_law_any_part (dP V1 (aE (cj K) V2 (tC (.int 2))) (aE (cj K) V2 (tC (.int 3))))) U4)
 (ax (a_ (bj (aG (aO sp_law_machine (au V3)) (aO sp_law_machine (au V4)))) U5)
 (ax (a_ (tC .non) U6)
 (ax (a_ (tC .non) U7)
 (ax (IB (G6 (fun W=>q_ sp_joined [] W (aG (aE (cj K) V5 (tC (.int 0))) (aE (cj K) V5 (tC (.int 1))))) 6) (ID K C_NoJoin (a_ (ca (au (tC (.str "join")))) U7) (IE K C_NoTaker 8 (a_ (ca (aG (Ea K V8 "room") (Ea K V8 "ask"))) U7) (IC))))
 (ax (eJ (BW K (aG V5 (bj (aq V3 (au V4))))) (g6 K 2 (be U9 (be Jr (gR)))) (df (wR (tB (aO sp_law_same (aG (bj (aq (bF C_Machine "asks" sp_Machine_asks [] E0 V9 aN) (dP (bF C_Machine "says" sp_Machine_says [] E0 V9 aN) (bF C_Machine "rooms" sp_Machine_rooms [] E0 V9 aN) (bF C_Machine "doors" sp_Machine_doors [] E0 V9 aN)))) (cU (cY K) (au Ih)))))) (bt (tC (.bl false))) (bA)))
 (ax (a_ (aO sp_law_joined_due (aG V3 V4)) Jq)
 (ax (df (tB (CF V6)) (bt (aO sp_law_same (aG V7 FM))) (bA))
 (bt (aO sp_law_same (aG (bj (aq (bF C_Machine "asks" sp_Machine_asks [] E0 V6 aN) (au (bF C_Machine "says" sp_Machine_says [] E0 V6 aN)))) FM)))))))))))))
def Ci:List Str:=["script","pen","some","first","second","machines","found","wrong","e","machine","told","due"]
def EL:List Str:=["script"]
def lh(C:Addr):Sp:=fun vs H Q _=>∃(x dx o4:Addr) (fs:List (Str×V)) (ts:Ze),vs=[.ref x]/\H x=some (.ins C dx fs)/\lk "own_doors" fs=some (.ref o4)/\H o4=some (.lst (ts.map V.ref))/\∀l,H l=none->Q (.ref l) (upd H l (.lst (ts.map V.ref)))
theorem Ew{K:Za}{C:Addr}(M:MC K C){a:List V}{H:Hp}{Q:VK}{E:XK}(h:lh C a H Q E):rS K (bQ Q) (start si a) H:=by
 obtain⟨x,f,e,fs,l,rfl,g,i,j,k⟩:=h;exact⟨_,rfl,x,C,f,fs,.ref e,rfl,g,M.cls,M.a4,i,.inl ⟨e,_,rfl,.inl (av.of j),k⟩⟩
structure XC(K:Za)(Cx:Addr):Prop where
 cls:jL K Cx
 p:bP K Cx "part"
 n:bP K Cx "number"
 self:pG K (.ref Cx) (.ref Cx)=some true
theorem Reach.mono{f ds':List ao}(h:∀a b,(⟨a,aB,b⟩:ao)∈f->(⟨a,aB,b⟩:ao)∈ds'){a b:Str}(r:Reach f a b):Reach ds' a b:=by
 induction r with
 |one e=>exact .one (h _ _ e)
 |step _ e g=>exact .step g (h _ _ e)
def IA(K:Za)(f g:Str):TS:=ax (dH (Eh K (dP V0 V1 V2))) (ax (Ej K V0 V1 f) (Ej K V0 V2 g))
def Ig(a:Addr)(H H':Hp):Prop:=∀b o,H b=some o->b≠a->H' b=some o
inductive tT(Cx:Addr)(f g:Str)(vs:List V)(H:Hp)(Q:VK)(E:XK):Prop
 |mk (a:Addr) (x y:V):(vs=[.ref a,x,y])->(H a=some (.ext (cI a Cx none)))->(∀d H',H' a=some (.ext (cI a Cx (some d)))->H' d=some (.ext (i9 d [(f,x),(g,y)]))->d≠a->Ig a H H'->Q .non H')->tT Cx f g vs H Q E
theorem HE{K:Za}{Cx:Addr}{f g n0 n1 n2:Str}(c:jL K Cx)(p:bP K Cx f)(q:bP K Cx g)(r:f≠g){j:List V}{H:Hp}{Q:VK}{E:XK}(h:tT Cx f g j H Q E):IA K f g (bQ Q) (start [n0,n1,n2] j) H:=by
 obtain⟨a,x,y,rfl,l,k⟩:=h;refine⟨_,rfl,_,rfl,_,rfl,a,Cx,none,[x,y],rfl,l,c,(by show 2<=ak;decide),?_⟩;refine⟨_,rfl,_,rfl,a,Cx,rfl,c,p,.inl ⟨l,fun d m i=>?_⟩⟩;have n:upd (upd H d (.ext (i9 d [(f,x)]))) a (.ext (cI a Cx (some d))) a=some (.ext (cI a Cx (some d))):=aa;have s:upd (upd H d (.ext (i9 d [(f,x)]))) a (.ext (cI a Cx (some d))) d=some (.ext (i9 d [(f,x)])):=by rw[am i,aa]
 refine⟨_,rfl,_,rfl,a,Cx,rfl,c,q,.inr ⟨d,_,n,s,(by show 1<1000;decide),?_⟩⟩;refine k d _ (by rw[am i.symm];exact n) ?_ i fun b o e t=>?_
 ·rw[aa];have:cZ g y [(f,x)]=[(f,x),(g,y)]:=by simp[cZ,r]
  rw[this]
 ·rw[am (fun z=>by rw[z,m]at e;cases e),am t,am (fun z=>by rw[z,m]at e;cases e)];exact e
structure XF(K:Za)(C:Addr)(fs:Zb):Prop where
 cls:jL K C
 no:∀f∈fs,bP K C f
 self:pG K (.ref C) (.ref C)=some true
section
variable{j z:Int}{r rest:(L2.St->XK)->TS}{W:L2.St->XK}{D:eR}{σ:L2.St}{H:Hp}{C:Addr}{f g:Str}{i1 i2:Nat}{x y:V}
def Hs(C:Addr)(H H':Hp)(a:Addr):Prop:=ac H H'/\∃od,H' a=some (.ext (g9 a C od))/\(od=none∨∃d fs,od=some d/\H' d=some (.ext (i9 d fs)))
end
section
variable{K:Za}{mg:Str->Option Value}{Ct:Addr}
theorem Iy{x:Str}{C:Addr}{fs:Zb}(h:XX K mg x C Ct)(a:C≠Ct)(e:∀f∈fs,bP K C f):XF K C fs:=⟨h.cls,e,by rw[h.exm h a,zzr1 rfl]⟩
theorem no1{C:Addr}{f:Str}(h:bP K C f):∀g∈[f],bP K C g:=fun g a=>by
 have:g=f:=by simpa using a
 rw[this];exact h
theorem no2{C:Addr}{f a:Str}(h:bP K C f)(i:bP K C a):∀g∈[f,a],bP K C g:=fun g j=>by
 rcases cK.mp j with e|e
 ·rw[e];exact h
 ·exact no1 i g e
end
def lI(ds:List ao)(r a:Str):Prop:=∃h,(h=r∨Reach ds r h)/\∃b,(⟨h,eE a,b⟩:ao)∈ds
open Classical in
def takesB(ds:List ao)(r a:Str):Bool:=decide (lI ds r a)
theorem q0{ds:List ao}{r a:Str}:takesB ds r a=true↔lI ds r a:=by unfold takesB;exact @decide_eq_true_iff _ (Classical.propDecidable _)
theorem wK{ds:List ao}{r a:Str}:takesB ds r a=false↔¬lI ds r a:=by unfold takesB;exact @decide_eq_false_iff_not _ (Classical.propDecidable _)
theorem rD{e:List ao}{h:Str}{f:Zb}:0<(ba e (h,f)).length↔∃b,(⟨h,f,b⟩:ao)∈e:=by
 rw[List.length_pos_iff_exists_mem];constructor
 ·rintro⟨b,a⟩;exact⟨b,dj.mp a⟩
 ·rintro⟨b,a⟩;exact⟨b,dj.mpr a⟩
theorem Cz{ds:List ao}{r a:Str}{L:Zb}(i:∀w,w∈L↔Reach ds r w):((r::L).map fun h=>decide ((0:Int)<(ba ds (h,eE a)).length)).any id=takesB ds r a:=by
 rw[yj,q0,List.any_eq_true];constructor
 ·rintro⟨b,f,e⟩;obtain⟨h,g,rfl⟩:=aL.mp f;have:=of_decide_eq_true e;refine⟨h,?_,rD.mp (by omega)⟩;rcases cK.mp g with e|e
  ·exact .inl e
  ·exact .inr ((i h).mp e)
 ·rintro⟨h,g,f⟩;refine⟨true,aL.mpr ⟨h,?_,zzr1 (by have:=rD.mpr f;omega)⟩,rfl⟩;rcases g with e|e
  ·rw[e];exact eL
  ·exact eU _ ((i h).mpr e)
inductive sp_takes(C:Addr)(vs:List V)(H:Hp)(Q:VK)(E:XK):Prop
 |mk (x:Addr) (r a:Str) (J0 J2 J3:Zb) (ds:List ao):(vs=[.ref x,.str r,.str a])->(aZ C H x J0 J2 J3 ds)->(r∈J3)->(∀H',ac H H'->Q (.bl (takesB ds r a)) H')->sp_takes C vs H Q E
theorem Eo{K:Za}{C:Addr}{f:List V}{H:Hp}{Q:VK}{E:XK}(h:sp_takes C f H Q E):FZ K C (iZ C) (io C) (bQ Q) (start GX f) H:=by
 obtain⟨x,r,a,J0,J2,t,p,rfl,M,hr,k⟩:=h;refine⟨_,rfl,(by show 1<=ak;decide),fun l u=>?_⟩;have v:ac H (upd H l (.lst [.str r])):=ac.new u;have e1:upd H l (.lst [.str r]) l=some (.lst [.str r]):=aa;generalize upd H l (.lst [.str r])=H1 at v e1 ⊢;have M1:=M.same v;obtain⟨z,fs,o1,o2,o3,o4,lv,qu,A,sl,ts,B,D,G,I,a1,a2,a3,a4,_⟩:=id M1.at_;refine⟨_,rfl,x,z,fs,rfl,I,a3,_,rfl,x,r,J0,J2,t,p,rfl,M1,hr,fun l2 L J e2 nd hL _ S2=>?_⟩;have N:∀w∈L,w∈t:=fun w O=>((hL w).mp O).in_ fun d hd=>(M.ok.good d hd).b;have zL:=oW nd N;have z3:=M.ok.rooms26;refine⟨l,l2,_,_,rfl,rfl,S2 _ _ e1,e2,by rw[ai];show 1+L.length<=ak;exact cy (ar (by omega)),fun m T=>?_⟩;have eq:([.str r]++L.map V.str:List V)=(r::L).map V.str:=rfl;rw[eq];have U:ac H (upd J m (.lst ((r::L).map V.str))):=(v.trans S2).trans (ac.new T);have Y:upd J m (.lst ((r::L).map V.str)) m=some (.lst ((r::L).map V.str)):=aa;generalize upd J m (.lst ((r::L).map V.str))=H3 at U Y ⊢;refine⟨m,rfl,⟨_,av.of Y⟩,fun q hq=>?_⟩
 let ab:Nat->List V->Hp->Prop:=fun i f j=>f=(((r::L).take i).map fun h=>decide ((0:Int)<(ba p (h,eE a)).length)).map V.bl/\ac H3 j/\j q=some (.lst f)
 refine cE (xs:=(r::L).map V.str) ab ⟨rfl,ac.new hq,aa⟩ (fun i f j _ zq=>by obtain⟨_,S,h⟩:=zq;exact⟨h,av.of (S _ _ Y)⟩) ?_ ?_
 ·rintro f j ⟨rfl,S,h⟩;rw[ai,bJ]at h;refine⟨q,_,rfl,av.of h,?_⟩;rw[Cz hL];exact k j (U.trans S)
 ·rintro i f j y hy hi ⟨rfl,S,h⟩;obtain⟨w,O,rfl⟩:=bx hy;refine gN (rN ?_);have M':=M.same (U.trans S);obtain⟨z,fs,o1,o2,o3,o4,lv,qu,A,sl,ts,B,D,G,I,a1,a2,a3,a4,_⟩:=id M'.at_;refine⟨_,rfl,x,z,fs,rfl,I,a2,_,rfl,_,rfl,(by show 2<=ak;decide),fun s hs=>?_⟩;have S4:ac j (upd j s (.tup ((eE a).map V.str))):=ac.new hs;refine⟨x,s,w,eE a,J0,J2,t,p,rfl,M'.same S4,aa,fun g H5 hg _ S5=>?_⟩;have n:=S4.trans S5;refine .inl ⟨g,_,rfl,.inl (av.of hg),_,_,rfl,rfl,n _ _ h,?_,?_⟩
  ·rw[ai,ai,aY];exact ar (by rw[c_];omega)
  refine r6 hi ⟨?_,fun b o e=>?_,aa⟩
  ·rw[take_snoc O,aF,aF];show _++[V.bl (decide ((0:Int)<(((ba p (w,eE a)).map V.str).length:Nat)))]=_;rw[ai];rfl
  ·rw[am (ag e hq)];exact n _ _ (S _ _ e)
def lackIn(ds:List ao)(r:Str):List Str->Option (Str×Str)
 |[]=>none
 |a::as=>if takesB ds r a=true then lackIn ds r as else some (r,a)
def lack(ds:List ao)(J0:Zb):List Str->Option (Str×Str)
 |[]=>none
 |r::rs=>match lackIn ds r J0 with
  |some x=>some x
  |none=>lack ds J0 rs
theorem lD{f:List ao}{r:Str}:∀{e:Zb},(∀a∈e,takesB f r a=true)->lackIn f r e=none
 |[],_=>rfl
 |a::e,h=>by
  unfold lackIn;rw[if_pos (h a eL)];exact lD fun b g=>h b (eU _ g)
theorem qC{f:List ao}{r a:Str}:∀{e:Zb}{j:Nat},(∀b∈e.take j,takesB f r b=true)->e[j]?=some a->takesB f r a=false->lackIn f r e=some (r,a)
 |[],j,_,h,_=>by cases h
 |b::e,0,_,h,n=>by
  cases h;unfold lackIn;rw[if_neg (by rw[n];decide)]
 |b::e,j+1,g,h,n=>by
  unfold lackIn;rw[if_pos (g b eL)];exact qC (fun c i=>g c (eU _ i)) h n
theorem qA{f:List ao}{g:Zb}:∀{e:Zb},(∀r∈e,∀a∈g,takesB f r a=true)->lack f g e=none
 |[],_=>rfl
 |r::e,h=>by
  unfold lack;rw[lD (h r eL)];exact qA fun b i=>h b (eU _ i)
theorem xv{f:List ao}{g:Zb}{r:Str}{x:Str×Str}:∀{e:Zb}{i:Nat},(∀b∈e.take i,∀a∈g,takesB f b a=true)->e[i]?=some r->lackIn f r g=some x->lack f g e=some x
 |[],i,_,h,_=>by cases h
 |b::e,0,_,h,n=>by
  cases h;unfold lack;rw[n]
 |b::e,i+1,j,h,n=>by
  unfold lack;rw[lD (j b eL)];exact xv (fun c k=>j c (eU _ k)) h n
def Jp(Ck:Addr)(r a:Str)(H H':Hp)(e:Addr):Prop:=ac H H'/\∃d,H' e=some (.ext (g9 e Ck (some d)))/\H' d=some (.ext (i9 d [("room",.str r),("ask",.str a)]))
theorem GF{K:Za}{H:Hp}{l m:Addr}{a b:Zb}{Q:VK}(e:H l=some (.lst (a.map V.str)))(f:H m=some (.lst (b.map V.str)))(k:Q (.bl (!decide (a=b))) H):Gr K (.ref l) (.ref m) H Q:=by
 refine⟨.s (a.map cq),.s (b.map cq),eo (av.of e),eo (av.of f),?_,?_,?_⟩
 ·show DT.depths _+1<=8;rw[dC];decide
 ·show DT.depths _+1<=8;rw[dC];decide
 ·rw[decide_eq_decide.mpr (show DT.s (a.map cq)=DT.s (b.map cq)↔a=b from⟨fun h=>eh (by injection h),fun h=>by rw[h]⟩)];exact k
theorem ED{f:Addr}{W:L2.St->XK}{D:eR}{σ:L2.St}{H:Hp}{i j:Nat}{r a:Str}(l:σ[i]?=some (some (.str r)))(m:σ[j]?=some (some (.str a)))(k:∀e g,Jp f r a H g e->W σ (.ref f) (some e) g):
  sk f (tT f "room" "ask") (aG (k9 i) (k9 j)) W D σ H:=by
 refine⟨_,l,_,m,(by show 2<=ak;decide),fun e n=>⟨e,_,_,rfl,aa,fun d g p s t kp=>⟨rfl,some d,p,k e _ ⟨fun b o q=>?_,d,aa,by rw[am t];exact s⟩⟩⟩⟩;have h:b≠e:=ag q n;rw[am h];exact kp b o (by rw[am h];exact q) h
inductive iY(C Ck:Addr)(vs:List V)(H:Hp)(Q:VK)(E:XK):Prop
 |mk (x:Addr) (J0 J2 J3:Zb) (ds:List ao):(vs=[.ref x])->(aZ C H x J0 J2 J3 ds)->((lack ds J0 J3=none->∀H',ac H H'->Q .non H'))->(∀r a,lack ds J0 J3=some (r,a)->∀e H',Jp Ck r a H H' e->E (.ref Ck) (some e) H')->iY C Ck vs H Q E
theorem yO{K:Za}{C B:Addr}{vs:List V}{H:Hp}{Q:VK}{E:XK}(h:iY C B vs H Q E):kH K C (gM C) (fL C) (sp_takes C) B (tT B "room" "ask") (fun _=>E) (bQ Q) (start kK vs) H:=by
 obtain⟨x,g,D,l,n,rfl,M,k,kx⟩:=h;obtain⟨G,fs,o1,o2,o3,o4,lv,qu,ab,sl,ts,al,an,ap,I,a1,a2,a3,a4,_⟩:=id M.at_;refine⟨_,rfl,x,G,fs,rfl,I,a4,x,g,D,l,n,rfl,M,fun o h1=>?_⟩;have u:ac H (upd H o (.lst (l.map V.str))):=ac.new h1;have J:upd H o (.lst (l.map V.str)) o=some (.lst (l.map V.str)):=aa;generalize upd H o (.lst (l.map V.str))=H1 at u J ⊢;refine⟨o,rfl,⟨_,av.of J⟩,?_⟩
 let L:Nat->L2.St->Hp->Prop:=fun i σ m=>∃y z,σ=[some (.ref x),y,z]/\ac H1 m/\∀r∈l.take i,∀a∈g,takesB n r a=true
 refine bS (xs:=l.map V.str) L ⟨_,_,rfl,ac.refl _,by simp⟩ (fun i σ m _ N=>by obtain⟨_,_,_,S,_⟩:=N;exact av.of (S _ _ J)) ?_ ?_
 ·rintro i v σ p hi ⟨y,z,rfl,w,ok⟩;obtain⟨r,O,rfl⟩:=bx hi;have M2:=M.same (u.trans w);obtain⟨G,fs,I,a1,_⟩:=id M2.more;refine⟨_,rfl,x,G,fs,rfl,I,a1,x,g,D,l,n,rfl,M2,fun s h2=>?_⟩;have T:ac H1 (upd p s (.lst (g.map V.str))):=w.trans (ac.new h2);have U:upd p s (.lst (g.map V.str)) s=some (.lst (g.map V.str)):=aa;generalize upd p s (.lst (g.map V.str))=H3 at T U ⊢;refine⟨s,rfl,⟨_,av.of U⟩,?_⟩
  let Y:Nat->L2.St->Hp->Prop:=fun j σ m=>∃z,σ=[some (.ref x),some (.str r),z]/\ac H3 m/\∀a∈g.take j,takesB n r a=true
  refine bS (xs:=g.map V.str) Y ⟨_,rfl,ac.refl _,by simp⟩ (fun i σ m _ N=>by obtain⟨_,_,S,_⟩:=N;exact av.of (S _ _ U)) ?_ ?_
  ·rintro j v σ H4 hj ⟨z,rfl,A,f⟩;obtain⟨a,ha,rfl⟩:=bx hj;have t:=(u.trans T).trans A;refine⟨_,rfl,_,rfl,_,rfl,x,r,a,g,D,l,n,rfl,M.same t,cp O,fun H5 S5=>⟨_,rfl,?_⟩⟩;cases q:takesB n r a with
   |true =>
    refine bv ⟨_,rfl,A.trans S5,fun b hb=>?_⟩;rw[take_snoc ha]at hb;rcases bE.mp hb with hb|hb
    ·exact f b hb
    ·have:b=a:=by simpa using hb
     rw[this];exact q
   |false =>
    refine bC ?_;exact ED rfl rfl fun e m ⟨S,X⟩=>kx r a (xv ok O (qC f ha q)) e m ⟨(t.trans S5).trans S,X⟩
  ·rintro σ H4 ⟨z,rfl,A,f⟩;rw[ai,bJ]at f;refine⟨_,_,rfl,T.trans A,fun b hb=>?_⟩;rw[take_snoc O]at hb;rcases bE.mp hb with hb|hb
   ·exact ok b hb
   ·have:b=r:=by simpa using hb
    rw[this];exact f
 ·rintro σ p ⟨y,z,rfl,w,ok⟩;rw[ai,bJ]at ok;exact k (qA ok) p (u.trans w)
def zt(F:Zb)(a:Str)(d:ao):Bool:=decide (d.a∈F) && decide (d.sg=eE a)
theorem o8{f:List ao}{F:Zb}{r a:Str}(i:∀w,w∈F↔yb f [r] w):f.filter (zt F a)=[]↔takesB f r a=false:=by
 rw[wK,pB];constructor
 ·rintro h ⟨w,j,b,k⟩;refine h _ k ?_;unfold zt;rw[zzr1,zzr1]
  ·rfl
  ·rfl
  ·exact(i w).mpr ⟨r,eL,j⟩
 ·intro n d hd q;unfold zt at q;rw[wA]at q;have l:=of_decide_eq_true q.1;have m:=of_decide_eq_true q.2;obtain⟨g,o,e⟩:=(i _).mp l;have:g=r:=by simpa using o
  subst this;obtain⟨x,p,b⟩:=d;exact n ⟨x,e,b,by rw[<-m];exact hd⟩
theorem zr{K:Za}{σ:L2.St}{jt ja:Nat}{I f l:Addr}{B:Ze}{r:List ao}{F:Zb}{a:Str}{m:Hp}{Q:Hp->Prop}(st:σ[jt]?=some (some (.ref f)))(N:σ[ja]?=some (some (.str a)))
  (O:m I=some (.lst (B.map V.ref))) (hd:cF m B r) (hf:m f=some (.lst (F.map V.str))) (z:r.length<=2000) (J:m l=none)
  (k:∀(g:Ze) (e:Hp),e l=some (.lst (g.map V.ref))->cF e g (r.filter (zt F a))->ac m e->Q e) :
  cR 1 [jt,ja] σ (Cm K I) U0 (uX (aW (aE (jB K false) (aE (sD K) V0 (tC (.int 0))) V1)) (aW (aE (lq K) (aE (sD K) V0 (tC (.int 1))) (ca (aG (tC (.str "ask")) V2))))) V0 m l Q:=by
 have T:cx 1 [jt,ja] σ=[none,some (.ref f),some (.str a)]:=by simp[cx,st,N]
 let C:Nat->List V->Hp->Prop:=fun i t e=>∃g:List Addr,t=g.map V.ref/\cF e g ((r.take i).filter (zt F a))/\ac m e/\e l=some (.lst t)
 refine cE (xs:=B.map V.ref) C
  ⟨[],rfl,.nil,ac.new J,aa⟩ (fun i t e _ U=>by obtain⟨_,_,_,S,n⟩:=U;exact⟨n,av.of (S _ _ O)⟩) ?_ ?_
 ·rintro t e ⟨g,rfl,D,S,n⟩;rw[ai,Paired.length hd,bJ]at D;exact k g e n D S
 ·rintro i t e y Y hi ⟨g,rfl,D,S,n⟩;obtain⟨u,hu,rfl⟩:=eV Y;obtain⟨w,j,E⟩:=Paired.getL hd hu;obtain⟨sb,p,v⟩:=E.kt (ac.kt S);have ab:i<r.length:=(bG.mp j).1;have zu:g.length<=i:=by
   have:=Paired.length D;rw[this];refine bW (cW _ _) ?_;rw[aY];omega
  rw[T];refine gN ?_;refine⟨_,rfl,.inr (.inl ⟨u,_,0,_,rfl,rfl,cr.of p,rfl,_,rfl,cq w.a,F.map cq,f,_,vQ _,rfl,.inl (av.of (S _ _ hf)),js _,(by show 0<=8;decide),by rw[dC];decide,_,rfl,?_⟩)⟩;rw[if_neg gH,GP];by_cases x:w.a∈F;rotate_left
  ·rw[zzr0 x];refine bv (bv (r6 hi ⟨g,rfl,?_,S,n⟩));rw[kb j,if_neg (by unfold zt;rw[zzr0 x,Bf];decide),dO];exact D
  rw[zzr1 x];refine bC ?_;refine⟨_,rfl,.inr (.inl ⟨u,_,1,_,rfl,rfl,cr.of p,rfl,_,rfl,(by show 2<=ak;decide),fun s hs=>?_⟩)⟩;have h:ac e (upd e s (.tup ((eE a).map V.str))):=ac.new hs;have L:upd e s (.tup ((eE a).map V.str)) s=some (.tup ((eE a).map V.str)):=aa;have G:(.tup [.str "ask",.str a]:HO)=.tup ((eE a).map V.str):=rfl;rw[G];generalize upd e s (.tup ((eE a).map V.str))=H at h L ⊢;have M:=D.kt (ac.kt h);refine⟨u7 w.sg,u7 (eE a),eA (cr.of (h _ _ v)),eA (cr.of L),by rw[ij];decide,by rw[ij];decide,_,rfl,?_⟩;rw[xI];by_cases A:w.sg=eE a;rotate_left
  ·rw[zzr0 A];refine bv (r6 hi ⟨g,rfl,?_,S.trans h,h _ _ n⟩);rw[kb j,if_neg (by unfold zt;rw[zzr0 A,pP];decide),dO];exact M
  rw[zzr1 A];refine bC ?_;have S3:ac m (upd H l (.lst (g.map V.ref++[.ref u]))):=fun b o q=>by
   rw[am (ag q J)];exact h _ _ (S _ _ q)
  have kt:pd H (upd H l (.lst (g.map V.ref++[.ref u]))):=fun b xs q=>by
   rw[am (fun z=>by rw[z,h _ _ n]at q;cases q)];exact q
  refine⟨_,rfl,h _ _ n,by rw[ai];exact ar (by omega),r6 hi ⟨g++[u],by rw[aF];rfl,?_,S3,aa⟩⟩;rw[kb j,if_pos (by unfold zt;rw[zzr1 x,zzr1 A];rfl)];exact jf (M.kt kt) ⟨sb,kt _ _ (h _ _ p),kt _ _ (h _ _ v)⟩
theorem zh{K:Za}{H:Hp}{l q:Addr}{e:Ze}{a:List ao}{Q:VK}(f:H l=some (.lst (e.map V.ref)))(g:cF H e a)(i:H q=some (.lst []))(h:Q (.bl (decide (a=[]))) H):lq K (.ref l) (.ref q) H Q:=by
 refine⟨.s (a.map u8),.s [],(by unfold iO;exact⟨l,_,rfl,av.of f,g.dIns⟩),(by unfold iO;exact⟨q,_,rfl,av.of i,by unfold DIns;rfl⟩),?_,(by decide),?_⟩
 ·show DT.depths _+1<=8;have:=uq a;omega
 ·rw[decide_eq_decide.mpr (show DT.s (a.map u8)=DT.s []↔a=[]from⟨fun z=>List.map_eq_nil_iff.mp (by injection z),fun z=>by rw[z];rfl⟩)];exact h
inductive oq(K:Za)(vs:List V)(H:Hp)(Q:VK)(E:XK):Prop
 |mk (t l1 l2 l3 l4:Addr) (ts:Ze) (J0 J2 J3:Zb) (ds:List ao):(vs=[.ref t])->(jv H t l1 l2 l3 l4 ts J0 J2 J3 ds)->(aR J0 J2 J3 ds)->((lack ds J0 J3=none->∀H',ac H H'->Q .non H'))->(∀r a,lack ds J0 J3=some (r,a)->∀u H',H' u=some (.tup [.str r,.str a])->ac H H'->Q (.ref u) H')->oq K vs H Q E
theorem Gk{K:Za}{vs:List V}{H:Hp}{Q:VK}{E:XK}(h:oq K vs H Q E):z6 K (gL K) (bQ Q) (start AZ vs) H:=by
 obtain⟨t,l1,l2,l3,l4,ts,G,J2,A,s,rfl,T,m,k,kx⟩:=h;have hb:∀d∈s,d.b∈A:=fun d hd=>(m.good d hd).b;have z3:=m.rooms26;have z4:=m.few;refine⟨_,rfl,.inr (.inl ⟨t,_,2,_,rfl,rfl,cr.of T.t,rfl,l3,rfl,⟨_,av.of T.a3⟩,?_⟩)⟩
 let I:Nat->L2.St->Hp->Prop:=fun i σ w=>∃x y z,σ=[some (.ref t),x,y,z]/\ac H w/\∀r∈A.take i,∀a∈G,takesB s r a=true
 refine bS (xs:=A.map V.str) I ⟨_,_,_,rfl,ac.refl _,by simp⟩ (fun i σ w _ J=>by obtain⟨_,_,_,_,S,_⟩:=J;exact av.of (S _ _ T.a3)) ?_ ?_
 ·rintro i v σ H1 hi ⟨x,y,z,rfl,L,ok⟩;obtain⟨r,hr,rfl⟩:=bx hi;have M:=T.same L;refine⟨_,rfl,.inr (.inl ⟨t,_,3,_,rfl,rfl,cr.of M.t,rfl,_,rfl,(by show 1<=ak;decide),fun q hq=>?_⟩)⟩;have T2:=M.same (ac.new (o:=.lst [.str r]) hq);refine⟨l4,q,ts,s,[r],A,rfl,T2.a4,T2.ds,aa,hb,by omega,by simp,fun f F B hf hF _ _ N=>?_⟩;have n:ac H1 B:=(ac.new hq).trans N;have C:=M.same n;refine⟨_,rfl,.inr (.inl ⟨t,_,0,_,rfl,rfl,cr.of C.t,rfl,l1,rfl,⟨_,av.of C.a1⟩,?_⟩)⟩
  let O:Nat->L2.St->Hp->Prop:=fun j σ w=>∃z,σ=[some (.ref t),some (.str r),some (.ref f),z]/\ac B w/\∀a∈G.take j,takesB s r a=true
  refine bS (xs:=G.map V.str) O ⟨_,rfl,ac.refl _,by simp⟩ (fun i σ w _ J=>by obtain⟨_,_,S,_⟩:=J;exact av.of (S _ _ C.a1)) ?_ ?_
  ·rintro j v σ H4 hj ⟨z,rfl,p,g⟩;obtain⟨a,ha,rfl⟩:=bx hj;have D:=C.same p;have f4:=p _ _ hf;refine⟨_,rfl,.inr (.inl ⟨t,_,3,_,rfl,rfl,cr.of D.t,rfl,l4,rfl,⟨_,av.of D.a4⟩,fun l hl=>?_⟩)⟩;refine zr (K:=K) (jt:=2) (ja:=3) rfl rfl D.a4 D.ds f4 z4 hl fun us H5 h5 D5 S5=>⟨(by show 0<=ak;decide),fun e U=>?_⟩;refine zh (kp h5 U) (D5.kt (ac.kt (ac.new U))) aa ⟨_,rfl,?_⟩;have Y:ac H4 (upd H5 e (.lst [])):=S5.trans (ac.new U);generalize upd H5 e (.lst [])=H6 at Y ⊢;cases q:takesB s r a with
   |true =>
    rw[zzr0 (fun z=>by rw[o8 hF,q]at z;cases z)];refine bv ⟨_,rfl,p.trans Y,fun b hb=>?_⟩;rw[take_snoc ha]at hb;rcases bE.mp hb with hb|hb
    ·exact g b hb
    ·have:b=a:=by simpa using hb
     rw[this];exact q
   |false =>
    rw[zzr1 ((o8 hF).mpr q)];refine bC ⟨_,rfl,_,rfl,(by show 2<=ak;decide),fun u hu=>?_⟩;exact kx r a (xv ok hr (qC g ha q)) u _ aa ((((L.trans n).trans p).trans Y).trans (ac.new hu))
  ·rintro σ H4 ⟨z,rfl,p,g⟩;rw[ai,bJ]at g;refine⟨_,_,_,rfl,(L.trans n).trans p,fun b hb=>?_⟩;rw[take_snoc hr]at hb;rcases bE.mp hb with hb|hb
   ·exact ok b hb
   ·have:b=r:=by simpa using hb
    rw[this];exact g
 ·rintro σ B ⟨x,y,z,rfl,N,ok⟩;rw[ai,bJ]at ok;exact k (qA ok) B N
theorem Reach.unask{ds:List ao}{d:ao}(n:d.sg≠aB){a b:Str}(r:Reach (ds++[d]) a b):Reach ds a b:=by
 have f:∀{x y:Str},(⟨x,aB,y⟩:ao)∈ds++[d]->(⟨x,aB,y⟩:ao)∈ds:=fun q=>by
  rcases bE.mp q with q|q
  ·exact q
  ·have e:=fH.mp q;exact absurd (by rw[<-e]) n
 induction r with
 |one q=>exact .one (f q)
 |step _ q g=>exact .step g (f q)
theorem lI.mono{ds e:List ao}(h:∀d∈ds,d∈e){r a:Str}:lI ds r a->lI e r a:=fun⟨w,f,b,g⟩=>⟨w,f.imp id (Reach.mono fun x y=>h _),b,h _ g⟩
theorem mem_putD{a:List ao}{d x:ao}:x∈oM a d↔x∈a∨x=d:=by
 unfold oM;split
 ·rename_i h;exact⟨.inl,fun z=>z.elim id fun e=>by rw[e];exact h⟩
 ·simp
theorem aR.putOne{i j k:Zb}{f:List ao}{d:ao}(m:aR i j k f)(g:vX i j k d)(n:d.sg≠aB)(z:f.length+1<=2000):aR i j k (oM f d):=by
 refine⟨m.okA,m.okS,m.apart,m.okR,m.asks0,m.says0,m.rooms0,m.asks4,m.says4,m.rooms26,?_,fun x hx=>?_,?_,fun r q=>?_⟩
 ·unfold oM;split
  ·exact m.nodup
  ·rename_i h;rw[dk];exact⟨m.nodup,by simp,fun a l b o e=>h (by rw[<-fH.1 o,<-e];exact l)⟩
 ·rcases mem_putD.mp hx with h|h
  ·exact m.good x h
  ·rw[h];exact g
 ·have:=t4 f d;omega
 ·refine m.noround r ?_;unfold oM at q;split at q
  ·exact q
  ·exact q.unask n
theorem Du(a:Str):eE a≠aB:=by unfold eE aB;intro h;injection h with _ h;cases h
structure TX(H0:Hp)(p c l:Addr)(R:List ao->Prop)(H:Hp):Prop where
 pen:gp H p c
 ds:∃ts ds,H l=some (.lst (ts.map V.ref))/\cF H ts ds/\R ds
 ex:dU p H0 H
 fr:H0 l=none
 pl:p≠l
 cl:c≠l
section
variable{H0 H H':Hp}{p c l:Addr}{R R':List ao->Prop}
theorem TX.took(h:TX H0 p c l R H)(a:gp H' p c)(e:dU p H H'):TX H0 p c l R H':=by
 obtain⟨f,g,i,j,k⟩:=h.ds;obtain⟨xs,hx⟩:=h.pen.lst;exact⟨a,⟨f,g,e _ _ i h.pl.symm,j.kt (e.kt hx),k⟩,h.ex.trans e,h.fr,h.pl,h.cl⟩
theorem TX.same(h:TX H0 p c l R H)(S:ac H H'):TX H0 p c l R H':=h.took (h.pen.ex S) (ac.exB S)
theorem TX.imp(h:TX H0 p c l R H)(q:∀a,R a->R' a):TX H0 p c l R' H:=by
 obtain⟨e,a,f,g,i⟩:=h.ds;exact⟨h.pen,⟨e,a,f,g,q _ i⟩,h.ex,h.fr,h.pl,h.cl⟩
theorem TX.put{a:Ze}{e:List ao}(h:TX H0 p c l R H)(f:∃xs,H l=some (.lst xs))(g:cF H a e)(r:R' e):TX H0 p c l R' (upd H l (.lst (a.map V.ref))):=by
 obtain⟨xs,hx⟩:=f;refine⟨h.pen.upd h.pl h.cl,⟨a,e,aa,g.kt fun b i q=>?_,r⟩,fun b o q n=>?_,h.fr,h.pl,h.cl⟩
 ·rw[am (fun z=>by rw[z,hx]at q;cases q)];exact q
 ·rw[am (ag q h.fr)];exact h.ex _ _ q n
end
def WR(J0 J2 J3:Zb)(D:List (Str×Str))(n:Nat)(ds:List ao):Prop:=aR J0 J2 J3 ds/\ds.length<=n/\∀x∈D,lI ds x.1 x.2
theorem WR.up{J0 a e:Zb}{D:List (Str×Str)}{n f:Nat}{g:List ao}(h:WR J0 a e D n g)(z:n<=f):WR J0 a e D f g:=⟨h.1,bW h.2.1 z,h.2.2⟩
abbrev Sg:=List Str
structure FMs where
 fs:List (List Str)
 ss:List (List Sg)
abbrev FMst:=FMs×List (List (Sg×Nat))
theorem vE{α:Type}[DecidableEq α]:∀{L R:List α},L.Nodup->(∀y∈L,y∈R)->L.length<=R.length
 |[],_,_,_=>dA _
 |x::L,R,h,a=>by
  rw[iF]at h;have hx:x∈R:=a x eL;have g:∀y∈L,y∈R.erase x:=fun y f=>(List.mem_erase_of_ne (fun e=>h.1 (by rw[<-e];exact f))).2 (a y (eU _ f));have i:=vE h.2 g;rw[List.length_erase_of_mem hx]at i;have j:0<R.length:=List.length_pos_of_mem hx;rw[c_];omega
theorem FV{κ:Type}[DecidableEq κ]{a:List (κ×V)}{k:κ}(h:∀e∈a,e.1≠k):de a k=none:=by
 unfold de;rw[List.find?_eq_none.2 fun e f=>by simpa using h e f]
 rfl
theorem qG(e:Zb):(ul e).depth<=8:=by
 have:∀l:List Str,TK.depths (l.map qi)=0:=by
  intro l
  induction l with
  |nil=>rfl
  |cons a l f=>show max (TK.depth (qi a)) (TK.depths _)=0;rw[f];rfl
 show TK.depths (e.map qi)+1<=8;rw[this];decide
theorem eF.kt{K:Za}{H e:Hp}{a:Addr}{xs:List V}(k:pd H e)(h:eF K H a xs):eF K e a xs:=h.keeps k
theorem Bw{K:Za}{H:Hp}:∀xs:List Str,TKIns K H (xs.map qi) (xs.map V.str)
 |[]=>by show TKIns K H [] [];unfold TKIns;rfl
 |x::xs=>by
  rw[cg,cg];unfold TKIns;refine⟨_,_,rfl,?_,Bw xs⟩;unfold qi nF
  rfl
theorem eF.sq{K:Za}{H:Hp}{a:Addr}{xs:List V}(h:eF K H a xs):cr K H a xs:=h.imp .inl id
theorem Bx{K:Za}{H:Hp}{a:Addr}{f:Zb}(h:eF K H a (f.map V.str)):nF K H (ul f) (.ref a):=by
 unfold ul nF;exact⟨a,_,rfl,eF.sq h,Bw f⟩
open Builtin.Int (intBits)
theorem aZ.mth{C x:Addr}{H:Hp}{g i j:Zb}{k:List ao}(h:aZ C H x g i j k):∃(e:Addr) (fs:List (Str×V)),H x=some (.ins C e fs)/\lk "asks" fs=none/\lk "says" fs=none/\lk "rooms" fs=none/\lk "doors" fs=none/\lk "doors_from" fs=none/\lk "goals" fs=none:=by
 obtain⟨e,fs,v,w,y,z,A,B,D,E,G,l,m,n,f,a1,a2,a3,o,_⟩:=h.at_;obtain⟨p,q,a,r,s,t,u⟩:=h.more;rw[f]at a;cases a;exact⟨e,fs,f,r,s,o,t,u,a2⟩
theorem fC:∀a:List Str,DT.depths (a.map cq)=0
 |[]=>rfl
 |w::a=>by show max 0 (DT.depths (a.map cq))=0;rw[fC a];rfl
theorem nv{K:Za}{σ:L2.St}{H:Hp}{n:List Nat}{a b l:Addr}{g os:Zb}{neg:Bool}{Q:Hp->Prop}(hσ:cx 1 n σ=[none,some (.ref b)])(s:H a=some (.lst (g.map V.str)))(t:H b=some (.lst (os.map V.str)))(p:H l=none)(E:g.length<=900)
  (k:∀f,ac H f->f l=some (.lst ((g.filter fun w=>if neg=true then !decide (w∈os)else decide (w∈os)).map V.str))->Q f) :
  cR 1 n σ (Cm K a) U0 (aW (aE (jB K neg) V0 V1)) V0 H l Q:=by
 let u:Nat->List V->Hp->Prop:=fun i j f=>j=((g.take i).filter fun w=>if neg=true then !decide (w∈os)else decide (w∈os)).map V.str/\ac H f/\f l=some (.lst j)
 refine cE (xs:=g.map V.str) u ⟨rfl,ac.new p,aa⟩ (fun i j f _ y=>by obtain⟨_,S,A⟩:=y;exact⟨A,av.of (S _ _ s)⟩) ?_ ?_
 ·rintro j q ⟨rfl,S,m⟩;rw[ai,bJ]at m;exact k q S m
 ·rintro i j q x hx hi ⟨rfl,S,m⟩;obtain⟨w,r,rfl⟩:=bx hx;rw[hσ];refine gN ⟨_,rfl,_,rfl,cq w,os.map cq,b,_,rfl,rfl,.inl (av.of (S _ _ t)),js os,dA _,by rw[fC];decide,_,rfl,?_⟩;have B:(cq w∈os.map cq)↔w∈os:=⟨fun z=>by obtain⟨v,C,e⟩:=aL.1 z;have e:DT.k (.inr v)=DT.k (.inr w):=e;injection e with e;injection e with e;rw[<-e];exact C,gU⟩;have D:(if neg=true then !decide (cq w∈os.map cq)else decide (cq w∈os.map cq))=(if neg=true then !decide (w∈os)else decide (w∈os)):=by rw[decide_eq_decide.2 B]
  rw[D];by_cases c:(if neg=true then !decide (w∈os)else decide (w∈os))=true
  ·rw[c];refine bC ⟨_,rfl,m,?_,r6 hi ⟨?_,fun b o e=>?_,aa⟩⟩
   ·have:=cW (fun w=>if neg=true then !decide (w∈os)else decide (w∈os)) (g.take i)
    rw[aY]at this;rw[ai]at hi ⊢;exact ar (by omega)
   ·rw[take_snoc r,iu,aF];have:[w].filter (fun w=>if neg=true then !decide (w∈os)else decide (w∈os))=[w]:=by rw[jR,if_pos c];rfl
    rw[this];rfl
   ·rw[am (ag e p)];exact S _ _ e
  ·rw[Bool.eq_false_iff.2 c];refine bv (r6 hi ⟨?_,S,m⟩);rw[take_snoc r,iu];have:[w].filter (fun w=>if neg=true then !decide (w∈os)else decide (w∈os))=[]:=by rw[jR,if_neg c];rfl
   rw[this,dO]
inductive sp_common(vs:List V)(H:Hp)(Q:VK)(E:XK):Prop
 |mk (a b:Addr) (ws os:Zb):(vs=[.ref a,.ref b])->(H a=some (.lst (ws.map V.str)))->(H b=some (.lst (os.map V.str)))->(ws.length<=900)->(∀(l:Addr) (H':Hp),H' l=some (.lst ((ws.filter fun w=>decide (w∈os)).map V.str))->H l=none->ac H H'->Q (.ref l) H')->sp_common vs H Q E
theorem CU{K:Za}{e:List V}{H:Hp}{Q:VK}{E:XK}(h:sp_common e H Q E):D_ K (bQ Q) (start FI e) H:=by
 obtain⟨a,b,o,os,rfl,f,i,j,k⟩:=h;refine⟨_,rfl,a,rfl,⟨_,av.of f⟩,fun l g=>?_⟩;exact nv (neg:=false) rfl f i g j fun m S n=>k l m n g S
def br(J0 J2 asks' says':Zb):List Str:=J2.filter (fun w=>decide (w∈asks'))++says'.filter fun w=>decide (w∈J0)
def cQ(J0 J2 asks' says':Zb):List Str:=(J0++asks').filter fun w=>!decide (w∈br J0 J2 asks' says')
inductive k_(C:Addr)(vs:List V)(H:Hp)(Q:VK)(E:XK):Prop
 |mk (M N:Addr) (J0 J2 J3 asks' says' rooms':Zb) (ds ds':List ao):(vs=[.ref M,.ref N])->(aZ C H M J0 J2 J3 ds)->(aZ C H N asks' says' rooms' ds')->(∀(l:Addr) (H':Hp),H' l=some (.lst ((br J0 J2 asks' says').map V.str))->H l=none->ac H H'->Q (.ref l) H')->k_ C vs H Q E
theorem Em{K:Za}{C:Addr}{vs:List V}{H:Hp}{Q:VK}{E:XK}(h:k_ C vs H Q E):zX K sp_common C (fL C) (fK C) (bQ Q) (start AV vs) H:=by
 obtain⟨M,N,g,i,J3,a,e,f,ds,t,rfl,L,U,k⟩:=h;have z1:=L.ok.says4;have z2:=U.ok.says4;obtain⟨Y,ab,g1,b1,al,_⟩:=L.mth;refine⟨_,rfl,M,Y,ab,rfl,g1,al,M,g,i,J3,ds,rfl,L,fun r an=>?_⟩;have j:ac H (upd H r (.lst (i.map V.str))):=ac.new an;have u:upd H r (.lst (i.map V.str)) r=some (.lst (i.map V.str)):=aa;generalize upd H r (.lst (i.map V.str))=v at j u ⊢;have x:=U.same j;obtain⟨ap,as,h1,aC,b2,_⟩:=x.mth;refine⟨_,rfl,N,ap,as,rfl,h1,aC,N,a,e,f,t,rfl,x,fun m aT=>?_⟩;have n:ac v (upd v m (.lst (a.map V.str))):=ac.new aT;have y:upd v m (.lst (a.map V.str)) m=some (.lst (a.map V.str)):=aa;have z:=n _ _ u;show sp_common [.ref r,.ref m] (upd v m (.lst (a.map V.str))) _ _;generalize upd v m (.lst (a.map V.str))=F1 at n y z ⊢;refine⟨r,m,i,a,rfl,z,y,by omega,fun la O aX bn a0=>?_⟩;have T:=(j.trans n).trans a0;have a4:=L.same T;have A:=U.same T;obtain⟨a5,a6,g2,b3,a7,_⟩:=A.mth;refine⟨_,rfl,N,a5,a6,rfl,g2,a7,N,a,e,f,t,rfl,A,fun s a8=>?_⟩;have o:ac O (upd O s (.lst (e.map V.str))):=ac.new a8;have B:upd O s (.lst (e.map V.str)) s=some (.lst (e.map V.str)):=aa;generalize upd O s (.lst (e.map V.str))=D at o B ⊢;have G:=a4.same o;obtain⟨a9,bb,h2,bd,b4,_⟩:=G.mth;refine⟨_,rfl,M,a9,bb,rfl,h2,bd,M,g,i,J3,ds,rfl,G,fun p bi=>?_⟩;have q:ac D (upd D p (.lst (g.map V.str))):=ac.new bi;have I:upd D p (.lst (g.map V.str)) p=some (.lst (g.map V.str)):=aa;have J:=q _ _ B;show sp_common [.ref s,.ref p] (upd D p (.lst (g.map V.str))) _ _;generalize upd D p (.lst (g.map V.str))=F2 at q I J ⊢;refine⟨s,p,e,g,rfl,J,I,by omega,fun lb H2 bl b0 bm=>?_⟩;have S2:=(o.trans q).trans bm;refine⟨la,lb,_,_,rfl,rfl,S2 _ _ aX,bl,?_,fun l hl=>?_⟩
 ·rw[ai,ai];have h1:=cW (fun w=>decide (w∈a)) i;have h2:=cW (fun w=>decide (w∈g)) e;exact cy (ar (by omega))
 exact k l _ (by rw[aa,<-aF];rfl) ((T.trans S2).free hl) ((T.trans S2).trans (ac.new hl))
inductive ln(C:Addr)(vs:List V)(H:Hp)(Q:VK)(E:XK):Prop
 |mk (M N:Addr) (J0 J2 J3 asks' says' rooms':Zb) (ds ds':List ao):(vs=[.ref M,.ref N])->(aZ C H M J0 J2 J3 ds)->(aZ C H N asks' says' rooms' ds')->(∀(l:Addr) (H':Hp),H' l=some (.lst ((cQ J0 J2 asks' says').map V.str))->H l=none->ac H H'->Q (.ref l) H')->ln C vs H Q E
theorem Ex{K:Za}{C:Addr}{B:List V}{H:Hp}{Q:VK}{E:XK}(h:ln C B H Q E):tL K C (fL C) (k_ C) (bQ Q) (start uG B) H:=by
 obtain⟨M,N,i,D,G,a,f,e,I,m,rfl,t,u,k⟩:=h;have z1:=t.ok.asks4;have z2:=u.ok.asks4;refine⟨_,rfl,_,rfl,M,N,i,D,G,a,f,e,I,m,rfl,t,u,fun wl q x _ r=>?_⟩;have n:=t.same r;obtain⟨U,fs,g,a1,_⟩:=n.mth;refine⟨_,rfl,M,U,fs,rfl,g,a1,M,i,D,G,I,rfl,n,fun w Y=>?_⟩;have y:ac q (upd q w (.lst (i.map V.str))):=ac.new Y;have J:upd q w (.lst (i.map V.str)) w=some (.lst (i.map V.str)):=aa;generalize upd q w (.lst (i.map V.str))=o at y J ⊢;have p:=u.same (r.trans y);obtain⟨dy,gs,g',b1,_⟩:=p.mth;refine⟨_,rfl,N,dy,gs,rfl,g',b1,N,a,f,e,m,rfl,p,fun v hv=>?_⟩;have z:ac o (upd o v (.lst (a.map V.str))):=ac.new hv;have L:upd o v (.lst (a.map V.str)) v=some (.lst (a.map V.str)):=aa;show lr (.ref w) (.ref v) (upd o v (.lst (a.map V.str))) _;generalize upd o v (.lst (a.map V.str))=s at z L ⊢;refine⟨w,v,_,_,rfl,rfl,z _ _ J,L,by rw[ai,ai];exact cy (ar (by omega)),fun c hc=>?_⟩;have O:ac s (upd s c (.lst (i.map V.str++a.map V.str))):=ac.new hc;have T:upd s c (.lst (i.map V.str++a.map V.str)) c=some (.lst ((i++a).map V.str)):=by rw[aa,aF]
 refine⟨c,rfl,⟨_,av.of aa⟩,fun l A=>?_⟩;generalize upd s c (.lst (i.map V.str++a.map V.str))=H4 at O T A ⊢;have j:=y.trans (z.trans O);refine nv (neg:=true) rfl T (j _ _ x) A (by rw[aV];omega) fun H' S h'=>k l H' h' ((r.trans j).free A) (r.trans (j.trans S))
theorem aZ.own{C x:Addr}{H:Hp}{k l m:Zb}{i:List ao}(h:aZ C H x k l m i):∃(g e:Addr) (fs:List (Str×V)) (f:Ze),H x=some (.ins C g fs)/\lk "rooms" fs=none/\lk "doors" fs=none/\lk "own_doors" fs=some (.ref e)/\H e=some (.lst (f.map V.ref))/\cF H f i:=by
 obtain⟨g,fs,v,w,y,e,z,A,B,D,f,n,o,p,j,a1,a2,a3,q,E,G,I,r,J,M,N,O,L,_⟩:=h.at_;obtain⟨s,t,a,Q,T,u,U⟩:=h.more;rw[j]at a;cases a;exact⟨g,e,fs,f,j,q,u,r,L.a4,L.ds⟩
structure JoinOk(J0 J2 J3 asks' says' rooms':Zb)(ds ds':List ao):Prop where
 r1:J3.length<=10
 d1:ds.length<=40
 r2:rooms'.length<=10
 d2:ds'.length<=40
 apA:∀w∈J0,w∉asks'
 apS:∀w∈J2,w∉says'
 a0:cQ J0 J2 asks' says'≠[]
 a4:(cQ J0 J2 asks' says').length<=4
 s4:(J2++says').length<=4
theorem i7{a os:Zb}(h:∀w∈a,w∉os):a.filter (fun w=>decide (w∈os))=[]:=pB.2 fun w e z=>h w e (of_decide_eq_true z)
def aM(J3 rooms':Zb):List (Str×Str):=J3.flatMap fun r=>rooms'.map fun o=>(r,o)
def Js(H:Hp)(u:Addr)(p:Str×Str):Prop:=H u=some (.tup [.str p.1,.str p.2])
theorem yX{e a:Zb}{i:Nat}{r:Str}(h:e[i]?=some r):aM (e.take (i+1)) a=aM (e.take i) a++a.map fun o=>(r,o):=by
 unfold aM;rw[take_snoc h,pA,vZ]
theorem iJ{e a:Zb}:(aM e a).length=e.length * a.length:=by
 unfold aM
 induction e with
 |nil=>simp
 |cons r g f=>rw[List.flatMap_cons,aV,f,ai,c_,Nat.succ_mul,Nat.add_comm]
inductive lY(C:Addr)(vs:List V)(H:Hp)(Q:VK)(E:XK):Prop
 |mk (M N:Addr) (J0 J2 J3 asks' says' rooms':Zb) (ds ds':List ao):(vs=[.ref M,.ref N])->(aZ C H M J0 J2 J3 ds)->(aZ C H N asks' says' rooms' ds')->(J3.length<=10)->(rooms'.length<=10)->(∀(l:Addr) (us:Ze) (H':Hp),H' l=some (.lst (us.map V.ref))->Paired (Js H') us (aM J3 rooms')->H l=none->ac H H'->Q (.ref l) H')->lY C vs H Q E
theorem CO{K:Za}{C:Addr}{vs:List V}{H:Hp}{Q:VK}{E:XK}(h:lY C vs H Q E):pW K C (gM C) (bQ Q) (start qJ vs) H:=by
 obtain⟨M,N,J0,J2,j,p,s,a,ds,ab,rfl,MM,MN,z1,z2,k⟩:=h;refine⟨(by show 0<=ak;decide),fun e t=>?_⟩;have T:ac H (upd H e (.lst [])):=ac.new t;have p0:upd H e (.lst []) e=some (.lst (([]:Ze).map V.ref)):=aa;generalize upd H e (.lst [])=U at T p0 ⊢;obtain⟨dx,fs,g,_,_,a1,_⟩:=(MM.same T).mth;refine⟨_,rfl,M,dx,fs,rfl,g,a1,M,J0,J2,j,ds,rfl,MM.same T,fun v D=>?_⟩;have S1:ac U (upd U v (.lst (j.map V.str))):=ac.new D;have r1:upd U v (.lst (j.map V.str)) v=some (.lst (j.map V.str)):=aa;have al:v≠e:=(ag p0 D).symm;refine⟨v,rfl,⟨_,av.of aa⟩,?_⟩;generalize upd U v (.lst (j.map V.str))=H1 at S1 r1 ⊢
 let zI:Nat->L2.St->Hp->Prop:=fun i σ f=>Hw fun(w:Ze) (x3:Option V)=>Ja (σ=[some (.ref M),some (.ref N),some (.ref e),x3]) (f e=some (.lst (w.map V.ref))) (Paired (Js f) w (aM (j.take i) a)) (ac H f) (f v=some (.lst (j.map V.str)))
 refine bS (xs:=j.map V.str) zI ⟨[],_,rfl,S1 _ _ p0,.nil,T.trans S1,r1⟩ (fun i σ f _ zq=>by obtain⟨_,_,_,_,_,_,h'⟩:=zq;exact av.of h') ?_ ?_;rotate_left
 ·rintro σ A ⟨w,x3,rfl,Y,G,I,_⟩;rw[ai,bJ]at G;exact⟨_,rfl,k e w A Y G t I⟩
 rintro i x σ A hx ⟨w,x3,rfl,Y,G,I,an⟩;obtain⟨r,hr,rfl⟩:=bx hx;have il:=(bG.1 hr).1;obtain⟨dy,gs,g',_,_,b1,_⟩:=(MN.same I).mth;refine⟨_,rfl,.inl ⟨rfl,_,av.of Y⟩,_,rfl,N,dy,gs,rfl,g',b1,N,p,s,a,ab,rfl,MN.same I,fun J ap=>?_⟩;have S3:ac A (upd A J (.lst (a.map V.str))):=ac.new ap;have o3:upd A J (.lst (a.map V.str)) J=some (.lst (a.map V.str)):=aa;refine⟨J,rfl,⟨_,av.of aa⟩,fun cl y=>?_⟩;generalize upd A J (.lst (a.map V.str))=H3 at S3 o3 y ⊢
 let zC:Nat->List V->Hp->Prop:=fun n vs f=>∃m:List Addr,Hx (vs=m.map V.ref) (ac H3 f) (f cl=some (.lst vs)) (Paired (Js f) m ((a.take n).map fun o=>(r,o)))
 refine cE (xs:=a.map V.str) zC ⟨[],rfl,ac.new y,aa,.nil⟩ (fun i vs f _ zq=>by obtain⟨_,_,S,h',_⟩:=zq;exact⟨h',av.of (S _ _ o3)⟩) ?_ ?_
 ·rintro vs z ⟨m,rfl,S4,h4,B⟩;rw[ai,bJ]at B;have l:=S3.trans S4;have L:=l _ _ Y;have lu:=Paired.length G;have lw:=Paired.length B;rw[iJ,aY]at lu;rw[ai]at lw;have aC:min i j.length * a.length<=10 * 10:=pq (by omega) z2;have kt:pd z (upd z e (.lst (w.map V.ref++m.map V.ref))):=gm L;refine⟨e,cl,_,_,rfl,rfl,L,h4,by rw[ai,ai];exact cy (ar (by omega)),w++m,_,rfl,by rw[aa,aF],?_,fun b o q=>?_,?_⟩
  ·rw[yX hr];exact Paired.app (Paired.mapP G fun _ _ q=>kt _ _ (l _ _ q)) (Paired.mapP B fun _ _ q=>kt _ _ q)
  ·rw[am (ag q t)];exact l _ _ (I _ _ q)
  ·rw[am al];exact l _ _ an
 ·rintro n vs z x hx hn ⟨m,rfl,S4,h4,B⟩;obtain⟨o,ho,rfl⟩:=bx hx;have nl:=(bG.1 ho).1;refine gN (rN ⟨_,rfl,_,rfl,(by show 2<=ak;decide),fun u as=>?_⟩);have O:ac z (upd z u (.tup [.str r,.str o])):=ac.new as;have u5:upd z u (.tup [.str r,.str o]) u=some (.tup [.str r,.str o]):=aa;generalize upd z u (.tup [.str r,.str o])=H5 at O u5 ⊢;have kt:pd H5 (upd H5 cl (.lst (m.map V.ref++[.ref u]))):=gm (O _ _ h4);refine⟨O _ _ h4,by rw[ai,Paired.length B,ai,aY];exact ar (by omega),r6 hn ⟨m++[u],by rw[aF];rfl,fun b o q=>?_,aa,?_⟩⟩
  ·rw[am (ag q y)];exact O _ _ (S4 _ _ q)
  ·rw[take_snoc ho,aF];exact jf (Paired.mapP B fun _ _ q=>kt _ _ (O _ _ q)) (kt _ _ u5)
def cX(J2:Zb)(w:Str):List Str:=if w∈J2 then fu w else eE w
inductive om(C:Addr)(vs:List V)(H:Hp)(Q:VK)(E:XK):Prop
 |mk (M:Addr) (r w:Str) (J0 J2 J3:Zb) (ds:List ao):(vs=[.ref M,.str r,.str w])->(aZ C H M J0 J2 J3 ds)->(∀(l:Addr) (H':Hp),H' l=some (.lst ((ba ds (r,cX J2 w)).map V.str))->H l=none->ac H H'->Q (.ref l) H')->om C vs H Q E
theorem En{K:Za}{C:Addr}{t:List V}{H:Hp}{Q:VK}{E:XK}(h:om C t H Q E):wL K C (io C) (fK C) (bQ Q) (start xV t) H:=by
 obtain⟨M,r,w,u,a,x,y,rfl,o,k⟩:=h;obtain⟨A,fs,g,a1,a2,a3,U,Y,D⟩:=o.mth;refine⟨_,rfl,M,A,fs,rfl,g,D,_,rfl,_,rfl,_,rfl,M,A,fs,rfl,g,a2,M,u,a,x,y,rfl,o,fun f p=>?_⟩;have m:ac H (upd H f (.lst (a.map V.str))):=ac.new p;have B:upd H f (.lst (a.map V.str)) f=some (.lst (a.map V.str)):=aa;generalize upd H f (.lst (a.map V.str))=n at m B ⊢;refine⟨cq w,a.map cq,f,_,rfl,rfl,.inl (av.of B),js a,dA _,by rw[fC];decide,_,rfl,?_⟩;have G:(cq w∈a.map cq)↔w∈a:=⟨fun z=>by obtain⟨v,I,e⟩:=aL.1 z;have e:DT.k (.inr v)=DT.k (.inr w):=e;injection e with e;injection e with e;rw[<-e];exact I,gU⟩;have J:(if false=true then !decide (cq w∈a.map cq)else decide (cq w∈a.map cq))=decide (w∈a):=decide_eq_decide.2 G
 rw[J];have i:∀(kd:Str),cX a w=[kd,w]->∀(q:Addr),n q=none->io C [.ref M,.str r,.ref q] (upd n q (.tup [.str kd,.str w])) Q E0:=fun kd e q j=>by
  have s:ac n (upd n q (.tup [.str kd,.str w])):=ac.new j;refine⟨M,q,r,cX a w,u,a,x,y,rfl,o.same (m.trans s),by rw[e];exact aa,fun l L N O T=>k l L N ((m.trans s).free O) ((m.trans s).trans T)⟩
 by_cases c:w∈a
 ·rw[zzr1 c];refine bC ⟨_,rfl,(by show 2<=ak;decide),fun q j=>?_⟩;exact i "say" (if_pos c) q j
 ·rw[zzr0 c];refine bv ⟨_,rfl,(by show 2<=ak;decide),fun q j=>?_⟩;exact i "ask" (if_neg c) q j
def kY(sg:Zb):Str:=sg.getD 1 ""
def cb(wires:Zb)(d:ao):Bool:=decide (d.sg=aB) || !decide (kY d.sg∈wires)
def kf(ds:List ao)(r:Str)(wires:Zb):List ao:=(bu ds r).filter (cb wires)
def A9(H:Hp)(u:Addr)(d:ao):Prop:=∃s,H u=some (.tup [.ref s,.str d.b])/\SignAt H s d.sg
theorem A9.kt{H H':Hp}{u:Addr}{d:ao}(k:pd H H')(h:A9 H u d):A9 H' u d:=by
 obtain⟨s,a,e⟩:=h;exact⟨s,k _ _ a,k _ _ e⟩
theorem o0{l:List ao}{p:ao->Bool}{i:Nat}{e:ao}(h:l[i]?=some e):(l.take (i+1)).filter p=(l.take i).filter p++(if p e=true then[e]else[]):=by
 rw[take_snoc h,iu];by_cases c:p e=true
 ·rw[if_pos c];simp[c]
 ·rw[if_neg c];simp[c]
theorem rm{ds:List ao}{r:Str}:(bu ds r).length<=ds.length:=by
 unfold bu
 first|exact cW _ _|(rw[ai];exact cW _ _)
inductive oA(C:Addr)(vs:List V)(H:Hp)(Q:VK)(E:XK):Prop
 |mk (M wl:Addr) (r:Str) (J0 J2 J3 wires:Zb) (ds:List ao):(vs=[.ref M,.str r,.ref wl])->(aZ C H M J0 J2 J3 ds)->(r∈J3)->(H wl=some (.lst (wires.map V.str)))->(ds.length<=40)->(∀(l:Addr) (us:Ze) (H':Hp),H' l=some (.lst (us.map V.ref))->Paired (A9 H') us (kf ds r wires)->H l=none->ac H H'->Q (.ref l) H')->oA C vs H Q E
theorem Ez{K:Za}{C st:Addr}(ab:∀H,cr K H st (aB.map V.str)){p:List V}{H:Hp}{Q:VK}{E:XK}(h:oA C p H Q E):wQ K C (gE C) st (bQ Q) (start xZ p) H:=by
 obtain⟨M,wl,r,J0,J2,J3,f,ds,rfl,MA,hr,al,zd,k⟩:=h;obtain⟨dx,fs,g,_,_,_,_,a5,_⟩:=MA.mth;refine⟨_,rfl,M,dx,fs,rfl,g,a5,_,rfl,M,r,J0,J2,J3,ds,rfl,MA,hr,fun dl us H1 N y _ S1=>⟨dl,rfl,⟨_,av.of N⟩,fun O A=>?_⟩⟩;have t:∀d∈bu ds r,vX J0 J2 J3 d:=fun d B=>MA.ok.good d (by unfold bu at B;exact(dJ.1 B).1);have ll:=rm (ds:=ds) (r:=r);unfold kf at k;generalize bu ds r=L at y t ll k
 let zC:Nat->List V->Hp->Prop:=fun n p Y=>∃l:List Addr,Hx (p=l.map V.ref) (ac H1 Y) (Y O=some (.lst p)) (Paired (A9 Y) l ((L.take n).filter (cb f)))
 refine cE (xs:=us.map V.ref) zC ⟨[],rfl,ac.new A,aa,.nil⟩ (fun i p Y _ zq=>by obtain⟨_,_,S,h',_⟩:=zq;exact⟨h',av.of (S _ _ N)⟩) ?_ ?_
 ·rintro p m ⟨l,rfl,D,T,I⟩;rw[ai,Paired.length y,bJ]at I;exact k O l m T I (S1.free A) (S1.trans D)
 ·rintro n p m x hx hn ⟨l,rfl,D,T,I⟩;obtain⟨u,hu,rfl⟩:=eV hx;obtain⟨d,B,s,g1,g2⟩:=Paired.getL y hu;have nl:=(bG.1 B).1;have an:=D _ _ g1;have G:m s=some (.tup (d.sg.map V.str)):=D _ _ g2;refine⟨u,_,rfl,cr.of an,rfl,_,_,rfl,_,_,rfl,_,_,rfl,rfl,?_⟩;refine⟨_,rfl,u7 d.sg,u7 aB,eA (cr.of G),eA (ab m),by rw[ij];decide,by rw[ij];decide,_,rfl,?_⟩;rw[xI];have U:cb f d=true->(ca (aG V1 V2)) [some (.str d.a),some (.ref s),some (.str d.b),some (.ref wl)] m fun v H6=>H6 O=some (.lst (l.map V.ref))/\(l.map V.ref).length<ak/\∃m',m'<(us.map V.ref).length-n/\Wc (us.map V.ref).length zC (n+1) m' (l.map V.ref++[v]) (upd H6 O (.lst (l.map V.ref++[v]))):=fun c=>by
   refine⟨_,rfl,_,rfl,(by show 2<=ak;decide),fun q hq=>?_⟩;have J:ac m (upd m q (.tup [.ref s,.str d.b])):=ac.new hq;have q3:upd m q (.tup [.ref s,.str d.b]) q=some (.tup [.ref s,.str d.b]):=aa;generalize upd m q (.tup [.ref s,.str d.b])=H3 at J q3 ⊢;have kt:pd H3 (upd H3 O (.lst (l.map V.ref++[.ref q]))):=gm (J _ _ T);refine⟨J _ _ T,?_,r6 hn ⟨l++[q],by rw[aF];rfl,fun b o e=>?_,aa,?_⟩⟩
   ·have:=cW (cb f) (L.take n);rw[aY]at this;rw[ai,Paired.length I];exact ar (by omega)
   ·rw[am (ag e A)];exact J _ _ (D _ _ e)
   ·rw[o0 B,if_pos c];exact jf (Paired.mapP I fun _ _ x=>A9.kt (fun b xs e=>kt _ _ (J _ _ e)) x) ⟨s,kt _ _ q3,kt _ _ (J _ _ G)⟩
  by_cases c:d.sg=aB
  ·rw[zzr1 c];exact bC (bC (U (by unfold cb;rw[zzr1 c];rfl)))
  rw[zzr0 c];obtain⟨kd,w,ew⟩:∃kd w,d.sg=[kd,w]:=by
   rcases(t d (cp B)).sg with⟨w,_,e⟩|⟨w,_,e⟩|e
   ·exact⟨_,w,e⟩
   ·exact⟨_,w,e⟩
   ·exact absurd e c
  have ea:cb f d=!decide (w∈f):=by unfold cb kY;rw[zzr0 c,ew];rfl
  refine bv ⟨_,rfl,s,_,1,.str w,rfl,rfl,cr.of G,by rw[ew];exact cT (j:=1) rfl,_,rfl,cq w,f.map cq,wl,_,rfl,rfl,.inl (av.of ((S1.trans D) _ _ al)),js f,dA _,by rw[fC];decide,_,rfl,?_⟩;have em:(cq w∈f.map cq)↔w∈f:=⟨fun z=>by obtain⟨v,hv,e⟩:=aL.1 z;have e:DT.k (.inr v)=DT.k (.inr w):=e;injection e with e;injection e with e;rw[<-e];exact hv,gU⟩;have ec:(if true=true then !decide (cq w∈f.map cq)else decide (cq w∈f.map cq))=cb f d:=by
   rw[ea];show(!decide (cq w∈f.map cq))=_;rw[decide_eq_decide.2 em]
  rw[ec];by_cases cc:cb f d=true
  ·rw[cc];exact bC (U cc)
  ·rw[Bool.eq_false_iff.2 cc];refine bv (r6 hn ⟨l,rfl,D,T,?_⟩);rw[o0 B,if_neg cc,dO];exact I
structure JD where
 a:Str×Str
 sg:List Str
 b:Str×Str
def EM(p:Str×Str):List V:=[.str p.1,.str p.2]
def gq(K:Za)(H:Hp)(u:Addr)(e:JD):Prop:=∃h s g:Addr,H u=some (.tup [.ref h,.ref s,.ref g])/\eF K H h (EM e.a)/\SignAt H s e.sg/\H g=some (.tup (EM e.b))
theorem gq.kt{K:Za}{H a:Hp}{u:Addr}{e:JD}(k:pd H a)(h:gq K H u e):gq K a u e:=by
 obtain⟨x,s,g,f,i,j,l⟩:=h;exact⟨x,s,g,k _ _ f,eF.kt k i,k _ _ j,k _ _ l⟩
theorem uv{K:Za}{σ:L2.St}{H:Hp}{M l w:Addr}{N:List Nat}{B:Ze}{L:List ao}{p:Str×Str}{x:Str}{O:TE}{f:ao->JD}{Q:Hp->Prop}(hσ:cx 2 N σ=[none,none,some (.ref w),some (.str x)])(C:H M=some (.lst (B.map V.ref)))(T:Paired (A9 H) B L)(hp:eF K H w (EM p))(m:H l=none)(hz:L.length<=900)
  (D:∀(d:ao) (s:Addr) (J:Hp) (R:VK),J s=some (.tup (d.sg.map V.str))->eF K J w (EM p)->(∀(q:Addr) (E:Hp),gq K E q (f d)->ac J E->R (.ref q) E)->O [some (.ref s),some (.str d.b),some (.ref w),some (.str x)] J R)
  (k:∀(a:Ze) (g:Hp),g l=some (.lst (a.map V.ref))->Paired (gq K g) a (L.map f)->ac H g->Q g) :
  cR 2 N σ (Cm K M) (g6 K 2 (be U0 (be U1 (gR)))) (jn) O H l Q:=by
 let zC:Nat->List V->Hp->Prop:=fun n t g=>∃a:List Addr,Hx (t=a.map V.ref) (ac H g) (g l=some (.lst t)) (Paired (gq K g) a ((L.take n).map f))
 refine cE (xs:=B.map V.ref) zC ⟨[],rfl,ac.new m,aa,.nil⟩ (fun i t g _ zq=>by obtain⟨_,_,S,h',_⟩:=zq;exact⟨h',av.of (S _ _ C)⟩) ?_ ?_
 ·rintro t G ⟨a,rfl,j,z,v⟩;rw[ai,Paired.length T,bJ]at v;exact k a G z v j
 ·rintro n t G y hy hn ⟨a,rfl,j,z,v⟩;obtain⟨u,I,rfl⟩:=eV hy;obtain⟨d,U,s,g1,g2⟩:=Paired.getL T I;have nl:=(bG.1 U).1;rw[hσ];refine⟨u,_,rfl,cr.of (j _ _ g1),rfl,_,_,rfl,_,_,rfl,rfl,rN ?_⟩;refine D d s G _ (j _ _ g2) (eF.kt (ac.kt j) hp) fun q Y hq A=>?_;have kt:pd Y (upd Y l (.lst (a.map V.ref++[.ref q]))):=gm (A _ _ z);refine⟨A _ _ z,by rw[ai,Paired.length v,ai,aY];exact ar (by omega),r6 hn ⟨a++[q],by rw[aF];rfl,fun b o e=>?_,aa,?_⟩⟩
  ·rw[am (ag e m)];exact A _ _ (j _ _ e)
  ·rw[take_snoc U,aF];exact jf (Paired.mapP v fun _ _ r=>gq.kt (fun b xs e=>kt _ _ (A _ _ e)) r) (hq.kt kt)
def nE(ds ds':List ao)(wires:Zb)(p:Str×Str):List JD:=(kf ds p.1 wires).map (fun d=>⟨p,d.sg,(d.b,p.2)⟩)++(kf ds' p.2 wires).map fun d=>⟨p,d.sg,(p.1,d.b)⟩
theorem uA{ds:List ao}{r:Str}{wires:Zb}:(kf ds r wires).length<=ds.length:=bW (cW _ _) rm
inductive l6(K:Za)(C:Addr)(vs:List V)(H:Hp)(Q:VK)(E:XK):Prop
 |mk (M N hr wl:Addr) (p:Str×Str) (J0 J2 J3 asks' says' rooms' wires:Zb) (ds ds':List ao):(vs=[.ref M,.ref N,.ref hr,.ref wl])->(aZ C H M J0 J2 J3 ds)->(aZ C H N asks' says' rooms' ds')->(eF K H hr (EM p))->(p.1∈J3)->(p.2∈rooms')->(H wl=some (.lst (wires.map V.str)))->(ds.length<=40)->(ds'.length<=40)->(∀(l:Addr) (us:Ze) (H':Hp),H' l=some (.lst (us.map V.ref))->Paired (gq K H') us (nE ds ds' wires p)->H l=none->ac H H'->Q (.ref l) H')->l6 K C vs H Q E
theorem CT{K:Za}{C:Addr}{vs:List V}{H:Hp}{Q:VK}{E:XK}(h:l6 K C vs H Q E):uR K (oA C) (bQ Q) (start vd vs) H:=by
 obtain⟨M,N,o,wl,p,J0,J2,J3,t,u,i,a,ds,x,rfl,MM,MN,O,p1,p2,y,z1,z2,k⟩:=h;refine⟨_,rfl,o,_,rfl,eF.sq O,rfl,_,_,rfl,_,_,rfl,rfl,?_⟩;refine⟨_,rfl,_,rfl,_,rfl,M,wl,p.1,J0,J2,J3,a,ds,rfl,MM,p1,y,z1,fun al us H1 z T _ S1=>⟨al,rfl,⟨_,av.of z⟩,fun cl U=>?_⟩⟩;have l1:=uA (ds:=ds) (r:=p.1) (wires:=a);have l2:=uA (ds:=x) (r:=p.2) (wires:=a);refine uv (p:=p) (f:=fun d=>⟨p,d.sg,(d.b,p.2)⟩) rfl z T (eF.kt (ac.kt S1) O) U (by omega) (fun d s J R Y v kk=>?_) fun ws H2 h2 hw S2=>?_
 ·refine⟨_,rfl,_,rfl,_,rfl,_,rfl,(by show 2<=ak;decide),fun g hg=>⟨(by show 3<=ak;decide),fun q w=>?_⟩⟩;have Sg:ac J (upd J g (.tup [.str d.b,.str p.2])):=ac.new hg;have A:upd J g (.tup [.str d.b,.str p.2]) g=some (.tup (EM (d.b,p.2))):=aa
  change upd J g (.tup [.str d.b,.str p.2]) q=none at w
  show R (.ref q) (upd (upd J g (.tup [.str d.b,.str p.2])) q (.tup [.ref o,.ref s,.ref g]));generalize upd J g (.tup [.str d.b,.str p.2])=B at Sg A w ⊢;have j:ac B (upd B q (.tup [.ref o,.ref s,.ref g])):=ac.new w;exact kk q _ ⟨o,s,g,aa,eF.kt (ac.kt (Sg.trans j)) v,(Sg.trans j) _ _ Y,j _ _ A⟩ (Sg.trans j)
 have e:=S1.trans S2;refine⟨_,rfl,_,rfl,_,rfl,_,rfl,N,wl,p.2,t,u,i,a,x,rfl,MN.same e,p2,e _ _ y,z2,fun ab aC H3 n D _ S3=>⟨ab,rfl,⟨_,av.of n⟩,fun an G=>?_⟩⟩;have ap:=e.trans S3;refine uv (p:=p) (f:=fun d=>⟨p,d.sg,(p.1,d.b)⟩) rfl n D (eF.kt (ac.kt ap) O) G (by omega) (fun d s J R Y v kk=>?_) fun I H4 h4 L S4=>?_
 ·refine⟨_,rfl,_,rfl,_,rfl,_,rfl,(by show 2<=ak;decide),fun g hg=>⟨(by show 3<=ak;decide),fun q w=>?_⟩⟩;have Sg:ac J (upd J g (.tup [.str p.1,.str d.b])):=ac.new hg;have A:upd J g (.tup [.str p.1,.str d.b]) g=some (.tup (EM (p.1,d.b))):=aa
  change upd J g (.tup [.str p.1,.str d.b]) q=none at w
  show R (.ref q) (upd (upd J g (.tup [.str p.1,.str d.b])) q (.tup [.ref o,.ref s,.ref g]));generalize upd J g (.tup [.str p.1,.str d.b])=B at Sg A w ⊢;have j:ac B (upd B q (.tup [.ref o,.ref s,.ref g])):=ac.new w;exact kk q _ ⟨o,s,g,aa,eF.kt (ac.kt (Sg.trans j)) v,(Sg.trans j) _ _ Y,j _ _ A⟩ (Sg.trans j)
 have m:=S3.trans S4;have lw:=Paired.length hw;have as:=Paired.length L;rw[ai]at lw as;refine⟨cl,an,_,_,rfl,rfl,m _ _ h2,h4,by rw[ai,ai];exact cy (ar (by omega)),fun l hl=>?_⟩;have S5:ac H4 (upd H4 l (.lst (ws.map V.ref++I.map V.ref))):=ac.new hl;refine k l (ws++I) _ (by rw[aa,aF]) ?_ ((e.trans m).free hl) (e.trans (m.trans S5));exact Paired.app (Paired.mapP hw fun _ _ r=>gq.kt (ac.kt (m.trans S5)) r) (Paired.mapP L fun _ _ r=>gq.kt (ac.kt S5) r)
def mq(p:Str×Str)(w:Str)(os:Zb)(g:Str):List JD:=os.map fun o=>⟨p,fu w,(g,o)⟩
def uO(ds ds':List ao)(J2 says':Zb)(p:Str×Str)(w:Str):List JD:=(ba ds (p.1,cX J2 w)).flatMap (mq p w (ba ds' (p.2,cX says' w)))
def pV(ds ds':List ao)(J2 says' wires:Zb)(p:Str×Str):List JD:=wires.flatMap (uO ds ds' J2 says' p)
theorem mj{ds:List ao}{x:Str×List Str}:(ba ds x).length<=ds.length:=by
 unfold ba;rw[ai];exact cW _ _
theorem ka{α β:Type}{f:α->List β}{n:Nat}(h:∀a,(f a).length<=n):∀l:List α,(l.flatMap f).length<=l.length * n
 |[]=>by simp
 |a::l=>by
  rw[List.flatMap_cons,aV,c_,Nat.succ_mul];have:=h a;have:=ka h l;omega
theorem DY{ds h:List ao}{i e:Zb}{p:Str×Str}{w:Str}(j:ds.length<=40)(k:h.length<=40):(uO ds h i e p w).length<=1600:=by
 have a:=mj (ds:=ds) (x:=(p.1,cX i w));have b:=mj (ds:=h) (x:=(p.2,cX e w));have:=ka (f:=mq p w (ba h (p.2,cX e w))) (n:=40) (fun g=>by unfold mq;rw[ai];omega) (ba ds (p.1,cX i w));unfold uO;omega
theorem FA{K:Za}{σ:L2.St}{H:Hp}{J t l:Addr}{L:List Nat}{os:Zb}{p:Str×Str}{w g:Str}{Q:Hp->Prop}(hσ:cx 1 L σ=[none,some (.ref l),some (.str w),some (.str g)])(E:H J=some (.lst (os.map V.str)))(hp:eF K H l (EM p))(u:H t=none)(hz:os.length<=900)
  (k:∀(f:Ze) (j:Hp),j t=some (.lst (f.map V.ref))->Paired (gq K j) f (mq p w os g)->ac H j->Q j) :
  cR 1 L σ (Cm K J) U0 (jn) (ca (dP V1 (ca (aG (tC (.str "say")) V2)) (ca (aG V3 V0)))) H t Q:=by
 let zC:Nat->List V->Hp->Prop:=fun n v j=>∃f:List Addr,Hx (v=f.map V.ref) (ac H j) (j t=some (.lst v)) (Paired (gq K j) f (mq p w (os.take n) g))
 refine cE (xs:=os.map V.str) zC ⟨[],rfl,ac.new u,aa,.nil⟩ (fun i v j _ zq=>by obtain⟨_,_,S,h',_⟩:=zq;exact⟨h',av.of (S _ _ E)⟩) ?_ ?_
 ·rintro v m ⟨f,rfl,A,B,x⟩;rw[ai,bJ]at x;exact k f m B x A
 ·rintro n v m y hy hn ⟨f,rfl,A,B,x⟩;obtain⟨o,M,rfl⟩:=bx hy;have nl:=(bG.1 M).1;rw[hσ];refine gN (rN ⟨_,rfl,_,rfl,(by show 2<=ak;decide),fun s hs=>?_⟩);have N:ac m (upd m s (.tup [.str "say",.str w])):=ac.new hs;have O:upd m s (.tup [.str "say",.str w]) s=some (.tup ((fu w).map V.str)):=aa;generalize upd m s (.tup [.str "say",.str w])=z at N O ⊢;refine⟨_,rfl,_,rfl,(by show 2<=ak;decide),fun q hq=>⟨(by show 3<=ak;decide),fun d G=>?_⟩⟩;have I:ac z (upd z q (.tup [.str g,.str o])):=ac.new hq;have T:upd z q (.tup [.str g,.str o]) q=some (.tup (EM (g,o))):=aa
  change upd z q (.tup [.str g,.str o]) d=none at G
  generalize upd z q (.tup [.str g,.str o])=C at I T G ⊢;have D:ac C (upd C d (.tup [.ref l,.ref s,.ref q])):=ac.new G;have U:upd C d (.tup [.ref l,.ref s,.ref q]) d=some (.tup [.ref l,.ref s,.ref q]):=aa;generalize upd C d (.tup [.ref l,.ref s,.ref q])=Y at D U ⊢;have a:=N.trans (I.trans D);have kt:pd Y (upd Y t (.lst (f.map V.ref++[.ref d]))):=gm (a _ _ B);refine⟨a _ _ B,by rw[ai,Paired.length x];unfold mq;rw[ai,aY];exact ar (by omega),r6 hn ⟨f++[d],by rw[aF];rfl,fun b o e=>?_,aa,?_⟩⟩
  ·rw[am (ag e u)];exact a _ _ (A _ _ e)
  ·unfold mq;rw[take_snoc M,aF];refine jf (Paired.mapP x fun _ _ r=>gq.kt (fun b xs e=>kt _ _ (a _ _ e)) r) (gq.kt kt ⟨l,s,q,U,eF.kt (ac.kt ((A.trans a))) hp,(I.trans D) _ _ O,D _ _ T⟩)
inductive l5(K:Za)(C:Addr)(vs:List V)(H:Hp)(Q:VK)(E:XK):Prop
 |mk (M N hr wl:Addr) (p:Str×Str) (J0 J2 J3 asks' says' rooms' wires:Zb) (ds ds':List ao):(vs=[.ref M,.ref N,.ref hr,.ref wl])->(aZ C H M J0 J2 J3 ds)->(aZ C H N asks' says' rooms' ds')->(eF K H hr (EM p))->(H wl=some (.lst (wires.map V.str)))->(wires.length<=8)->(ds.length<=40)->(ds'.length<=40)->(∀(l:Addr) (us:Ze) (H':Hp),H' l=some (.lst (us.map V.ref))->Paired (gq K H') us (pV ds ds' J2 says' wires p)->H l=none->ac H H'->Q (.ref l) H')->l5 K C vs H Q E
theorem CS{K:Za}{C:Addr}{vs:List V}{H:Hp}{Q:VK}{E:XK}(h:l5 K C vs H Q E):p8 K (om C) (bQ Q) (start qP vs) H:=by
 obtain⟨M,N,hr,wl,p,J0,u,J3,L,a,z,l,ds,m,rfl,MM,MN,hp,ap,zw,z1,z2,k⟩:=h;refine⟨(by show 0<=ak;decide),fun dl U=>?_⟩;have S0:ac H (upd H dl (.lst [])):=ac.new U;have d0:upd H dl (.lst []) dl=some (.lst (([]:Ze).map V.ref)):=aa;generalize upd H dl (.lst [])=H0 at S0 d0 ⊢;refine⟨_,rfl,wl,rfl,⟨_,av.of (S0 _ _ ap)⟩,?_⟩
 let zI:Nat->L2.St->Hp->Prop:=fun i σ s=>NE4 fun(v:Ze) (x5 x6 Y:Option V)=>Hx (σ=[some (.ref M),some (.ref N),some (.ref hr),some (.ref wl),some (.ref dl),x5,x6,Y]) (s dl=some (.lst (v.map V.ref))) (Paired (gq K s) v (pV ds m u a (l.take i) p)) (ac H s)
 refine bS (xs:=l.map V.str) zI ⟨[],_,_,_,rfl,d0,.nil,S0⟩ (fun i σ s _ zq=>by obtain⟨_,_,_,_,_,_,_,S⟩:=zq;exact av.of (S _ _ ap)) ?_ ?_;rotate_left
 ·rintro σ H1 ⟨v,x5,x6,Y,rfl,hd,hu,S1⟩;rw[ai,bJ]at hu;exact⟨_,rfl,k dl v H1 hd hu U S1⟩
 rintro i x σ H1 hx ⟨v,x5,x6,Y,rfl,A,as,S1⟩;obtain⟨w,hw,rfl⟩:=bx hx;have il:=(bG.1 hw).1;refine⟨_,rfl,_,rfl,hr,_,1,.str p.2,rfl,rfl,eF.sq (eF.kt (ac.kt S1) hp),cT (j:=1) rfl,_,rfl,N,p.2,w,L,a,z,m,rfl,MN.same S1,fun ol H2 aC a5 S2=>?_⟩;have ab:=S1.trans S2;refine⟨_,rfl,_,rfl,hr,_,0,.str p.1,rfl,rfl,eF.sq (eF.kt (ac.kt ab) hp),cT (j:=0) rfl,_,rfl,M,p.1,w,J0,u,J3,ds,rfl,MM.same ab,fun gl H3 al a6 S3=>⟨gl,rfl,⟨_,av.of al⟩,?_⟩⟩;have an:=S2.trans S3;have a7:=S1.trans an;have a8:ol≠dl:=(ag A a5).symm;have a9:gl≠dl:=(ag (S2 _ _ A) a6).symm;have J:=S3 _ _ aC;have bb:=an _ _ A;have lG:=mj (ds:=ds) (x:=(p.1,cX u w));have lO:=mj (ds:=m) (x:=(p.2,cX a w));have eW:pV ds m u a (l.take (i+1)) p=pV ds m u a (l.take i) p++uO ds m u a p w:=by unfold pV;rw[take_snoc hw,pA,vZ]
 have lT:(pV ds m u a (l.take i) p).length<=12800:=by
  have h1:=ka (f:=uO ds m u a p) (n:=1600) (fun w=>DY z1 z2) (l.take i);rw[aY]at h1;unfold pV;have:min i l.length * 1600<=8 * 1600:=Nat.mul_le_mul_right _ (by omega);omega
 have aT:=Paired.mapP as fun _ _ r=>gq.kt (ac.kt an) r;unfold uO at eW;generalize ba ds (p.1,cX u w)=G at al lG eW;generalize ba m (p.2,cX a w)=O at J lO eW;generalize pV ds m u a (l.take i) p=T at aT eW lT;clear aC A as S2 S3 ab
 let zJ:Nat->L2.St->Hp->Prop:=fun j σ s=>Hw fun(v:Ze) (Y:Option V)=>Jv (σ=[some (.ref M),some (.ref N),some (.ref hr),some (.ref wl),some (.ref dl),some (.str w),some (.ref ol),Y]) (s dl=some (.lst (v.map V.ref))) (Paired (gq K s) v (T++(G.take j).flatMap (mq p w O))) (ac H s) (s ol=some (.lst (O.map V.str))) (s gl=some (.lst (G.map V.str)))
 refine bS (xs:=G.map V.str) zJ ⟨v,_,rfl,bb,by show Paired _ v (T++[]);rw[dO];exact aT,a7,J,al⟩ (fun j σ s _ zq=>by obtain⟨_,_,_,_,_,_,_,h'⟩:=zq;exact av.of h') ?_ ?_
 ·rintro j y σ H4 hy ⟨B,Y,rfl,D,t,S4,I,aX⟩;obtain⟨g,hg,rfl⟩:=bx hy;have jl:=(bG.1 hg).1;refine⟨_,rfl,.inl ⟨rfl,_,av.of D⟩,_,rfl,ol,rfl,⟨_,av.of I⟩,fun cl bd=>?_⟩;refine FA (p:=p) (w:=w) (g:=g) rfl I (eF.kt (ac.kt S4) hp) bd (by omega) fun ws H5 h5 a0 S5=>?_;have a4:=S5 _ _ D;have kt:pd H5 (upd H5 dl (.lst (B.map V.ref++ws.map V.ref))):=gm a4;have lu:=Paired.length t;have lw:=Paired.length a0;have lf:=ka (f:=mq p w O) (n:=40) (fun g=>by unfold mq;rw[ai];omega) (G.take j);rw[aY]at lf;have lm:min j G.length * 40<=40 * 40:=Nat.mul_le_mul_right _ (by omega);rw[aV]at lu;unfold mq at lw;rw[ai]at lw;refine⟨dl,cl,_,_,rfl,rfl,a4,h5,by rw[ai,ai];have:100000<=ak:=(by decide);omega,B++ws,_,rfl,by rw[aa,aF],?_,fun b o q=>?_,by rw[am a8];exact S5 _ _ I,by rw[am a9];exact S5 _ _ aX⟩
  ·rw[take_snoc hg,pA,vZ,<-ef];exact Paired.app (Paired.mapP t fun _ _ r=>gq.kt (fun b xs e=>kt _ _ (S5 _ _ e)) r) (Paired.mapP a0 fun _ _ r=>r.kt kt)
  ·rw[am (ag q U)];exact S5 _ _ (S4 _ _ q)
 ·rintro σ H4 ⟨B,Y,rfl,D,t,S4,I,aX⟩;rw[ai,bJ,<-eW]at t;exact⟨B,_,_,_,rfl,D,t,S4⟩
def DE(n:Nat):Str:=⟨#[97+n / 26,97+n % 26]⟩
theorem GD{n m:Nat}(h:DE n=DE m):n=m:=by
 unfold DE at h;injection h with h;injection h with h;injection h with e a;injection a with a _;omega
theorem EZ{n:Nat}(h:n<200):nO (DE n):=⟨by show 1<=2;decide,by show 2<=8;decide,fun c a=>by
 have a:c∈[97+n / 26,97+n % 26]:=a;simp only[cK,jT,or_false]at a;unfold uf;omega⟩
def sH(J3 rooms':Zb)(p:Str×Str):Str:=DE (List.idxOf p (aM J3 rooms'))
def iL(ds ds':List ao)(J2 says' wires:Zb)(p:Str×Str):List JD:=nE ds ds' wires p++pV ds ds' J2 says' wires p
def HS(J3 rooms':Zb)(e:JD):ao:=⟨sH J3 rooms' e.a,e.sg,sH J3 rooms' e.b⟩
def ui(ds ds':List ao)(J2 says' J3 rooms' wires:Zb):List JD:=(aM J3 rooms').flatMap (iL ds ds' J2 says' wires)
def AL(ds ds':List ao)(J2 says' J3 rooms' wires:Zb):List ao:=(ui ds ds' J2 says' J3 rooms' wires).map (HS J3 rooms')
def gj(J3 rooms':Zb):List Str:=(aM J3 rooms').map (sH J3 rooms')
theorem fk{J3 a:Zb}{p:Str×Str}:p∈aM J3 a↔p.1∈J3/\p.2∈a:=by
 unfold aM;rw[eO];constructor
 ·rintro⟨r,e,h⟩;obtain⟨o,f,rfl⟩:=aL.1 h;exact⟨e,f⟩
 ·rintro⟨g,i⟩;exact⟨p.1,g,aL.2 ⟨p.2,i,rfl⟩⟩
theorem j9{f e:Zb}(g:f.Nodup)(h:e.Nodup):(aM f e).Nodup:=by
 unfold aM sQ;rw[vY];refine⟨fun a _=>?_,pk (fun{a b} n x hx y i=>?_) g⟩
 ·rw[iw];exact pk (fun{a b} n z=>n (by injection z)) h
 ·obtain⟨_,_,rfl⟩:=aL.1 hx;obtain⟨_,_,rfl⟩:=aL.1 i;intro z;injection z with z;exact n z
theorem sG{J3 rooms':Zb}{p q:Str×Str}(a:p∈aM J3 rooms')(f:q∈aM J3 rooms')(h:sH J3 rooms' p=sH J3 rooms' q):p=q:=by
 have e:=GD h;have g:=List.idxOf_lt_length_iff.2 a;have i:=List.idxOf_lt_length_iff.2 f;have j:=List.getElem_idxOf g;have k:=List.getElem_idxOf i;rw[<-j,<-k];congr 1
inductive Hu(ds ds':List ao)(J2 says' wires:Zb)(p:Str×Str)(sg:Zb)(q:Str×Str):Prop
 |l (b:Str):⟨p.1,sg,b⟩∈ds->cb wires ⟨p.1,sg,b⟩=true->q=(b,p.2)->Hu ds ds' J2 says' wires p sg q
 |r (b:Str):⟨p.2,sg,b⟩∈ds'->cb wires ⟨p.2,sg,b⟩=true->q=(p.1,b)->Hu ds ds' J2 says' wires p sg q
 |t (w g o:Str):w∈wires->sg=fu w->⟨p.1,cX J2 w,g⟩∈ds->⟨p.2,cX says' w,o⟩∈ds'->q=(g,o)->Hu ds ds' J2 says' wires p sg q
theorem cG{f:List ao}{r:Str}{e:Zb}{d:ao}:d∈kf f r e↔d∈f/\d.a=r/\cb e d=true:=by
 unfold kf bu;rw[dJ,dJ,decide_eq_true_iff,and_assoc]
theorem eg{x ds':List ao}{y f i:Zb}{p:Str×Str}{e:JD}:e∈iL x ds' y f i p↔e.a=p/\Hu x ds' y f i p e.sg e.b:=by
 unfold iL nE pV uO mq;rw[bE,bE,aL,aL,eO];constructor
 ·rintro((⟨d,m,rfl⟩|⟨d,m,rfl⟩)|⟨w,n,h⟩)
  ·obtain⟨j,k,q⟩:=cG.1 m;obtain⟨a,s,b⟩:=d;cases k;exact⟨rfl,.l b j q rfl⟩
  ·obtain⟨j,k,q⟩:=cG.1 m;obtain⟨a,s,b⟩:=d;cases k;exact⟨rfl,.r b j q rfl⟩
  ·obtain⟨g,z,h⟩:=eO.1 h;obtain⟨o,A,rfl⟩:=aL.1 h;exact⟨rfl,.t w g o n rfl (dj.1 z) (dj.1 A) rfl⟩
 ·obtain⟨a,B,b⟩:=e;rintro⟨e,h⟩;have e:a=p:=e;subst e;rcases h with⟨u,j,k,e⟩|⟨u,j,k,e⟩|⟨w,g,o,n,v,j,k,e⟩
  ·have e:b=(u,a.2):=e;subst e;exact .inl (.inl ⟨_,cG.2 ⟨j,rfl,k⟩,rfl⟩)
  ·have e:b=(a.1,u):=e;subst e;exact .inl (.inr ⟨_,cG.2 ⟨j,rfl,k⟩,rfl⟩)
  ·have e:b=(g,o):=e;have v:B=fu w:=v;subst e;subst v;exact .inr ⟨w,n,eO.2 ⟨g,dj.2 j,aL.2 ⟨o,dj.2 k,rfl⟩⟩⟩
theorem Hu.in_{s l J3 f e a i:Zb}{n j:List ao}(m:aR s l J3 n)(r:aR f e a j){p q:Str×Str}{t:Zb}(u:p∈aM J3 a)(h:Hu n j l e i p t q):q∈aM J3 a:=by
 obtain⟨v,x⟩:=fk.1 u;rcases h with⟨b,k,_,rfl⟩|⟨b,k,_,rfl⟩|⟨w,g,o,_,_,k,y,rfl⟩
 ·exact fk.2 ⟨(m.good _ k).b,x⟩
 ·exact fk.2 ⟨v,(r.good _ k).b⟩
 ·exact fk.2 ⟨(m.good _ k).b,(r.good _ y).b⟩
theorem xu{t o l j g f i:Zb}{r k:List ao}(m:aR t o l r)(u:aR j g f k){d:ao}:d∈AL r k o g l f i↔∃p q,p∈aM l f/\q∈aM l f/\Hu r k o g i p d.sg q/\d=⟨sH l f p,d.sg,sH l f q⟩:=by
 unfold AL ui;rw[aL];constructor
 ·rintro⟨e,s,rfl⟩;obtain⟨p,n,s⟩:=eO.1 s;obtain⟨rfl,h⟩:=eg.1 s;exact⟨e.a,e.b,n,h.in_ m u n,h,rfl⟩
 ·rintro⟨p,q,n,v,h,e⟩;exact⟨⟨p,d.sg,q⟩,eO.2 ⟨p,n,eg.2 ⟨rfl,h⟩⟩,e.symm⟩
theorem rC{f:List ao}(h:f.Nodup)(x:Str×List Str):(ba f x).Nodup:=by
 unfold ba;have j:(f.filter fun d=>decide (d.a=x.1/\d.sg=x.2)).Nodup:=h.filter _;unfold sQ;rw[iw];refine pj (fun{d e} k l n z=>n ?_) j;obtain⟨a1,a2⟩:=of_decide_eq_true (dJ.1 k).2;obtain⟨g,i⟩:=of_decide_eq_true (dJ.1 l).2;obtain⟨a,s,b⟩:=d;obtain⟨m,o,p⟩:=e;simp only at a1 a2 g i z;rw[a1,a2,g,i,z]
theorem ke{e:Zb}{a b k w:Str}(h:cb e ⟨a,[k,w],b⟩=true):w∉e:=by
 unfold cb kY at h;rw[zzr0 (show ¬[k,w]=aB from fun z=>by cases z)]at h;intro z;have h:(!decide (w∈e))=true:=h;rw[zzr1 z]at h;cases h
theorem yt{i g f e:Zb}(j:g.Nodup)(k:e.Nodup)(l:∀w∈g,w∉e):(br i g f e).Nodup:=by
 unfold br;refine dk.2 ⟨j.filter _,k.filter _,fun a h b m z=>?_⟩;rw[z]at h;exact l b (dJ.1 h).1 (dJ.1 m).1
theorem qv{f g a e:Zb}{w:Str}:w∈br f g a e↔(w∈g/\w∈a)∨(w∈e/\w∈f):=by
 unfold br;rw[bE,dJ,dJ,decide_eq_true_iff,decide_eq_true_iff]
theorem me{J0 f a e:Zb}{w:Str}:w∈cQ J0 f a e↔(w∈J0∨w∈a)/\w∉br J0 f a e:=by
 unfold cQ;rw[dJ,bE,Bool.not_eq_true',decide_eq_false_iff_not]
section
variable{J0 J2 J3 asks' says' rooms':Zb}{ds ds':List ao}
theorem vP(m:aR J0 J2 J3 ds)(r:aR asks' says' rooms' ds')(J:JoinOk J0 J2 J3 asks' says' rooms' ds ds'):(AL ds ds' J2 says' J3 rooms' (br J0 J2 asks' says')).Nodup:=by
 unfold AL ui sQ;rw[iw,vY];have inj:=fun{p q:Str×Str}=>sG (J3:=J3) (rooms':=rooms') (p:=p) (q:=q);refine⟨fun p v=>?_,pj (fun{p q} v I n x hx y i z=>?_) (j9 m.okR.1 r.okR.1)⟩
 ·obtain⟨U,Y⟩:=fk.1 v;have same:∀{x y:JD},x∈iL ds ds' J2 says' (br J0 J2 asks' says') p->y∈iL ds ds' J2 says' (br J0 J2 asks' says') p->HS J3 rooms' x=HS J3 rooms' y->x.sg=y.sg/\x.b=y.b:=fun{x y} hx i z=>by
   unfold HS at z;injection z with _ h H;exact⟨h,inj ((eg.1 hx).2.in_ m r v) ((eg.1 i).2.in_ m r v) H⟩
  have big:(iL ds ds' J2 says' (br J0 J2 asks' says') p).Pairwise fun x y=>¬(x.sg=y.sg/\x.b=y.b):=by
   have L:∀{x:JD},x∈nE ds ds' (br J0 J2 asks' says') p->∀{k w:Str},x.sg=[k,w]->w∉br J0 J2 asks' says':=fun{x} hx {k w} e=>by
    unfold nE at hx;rcases bE.1 hx with hx|hx
    ·obtain⟨d,j,rfl⟩:=aL.1 hx;obtain⟨_,_,A⟩:=cG.1 j;obtain⟨a,s,b⟩:=d;have e:s=[k,w]:=e;rw[e]at A;exact ke A
    ·obtain⟨d,j,rfl⟩:=aL.1 hx;obtain⟨_,_,A⟩:=cG.1 j;obtain⟨a,s,b⟩:=d;have e:s=[k,w]:=e;rw[e]at A;exact ke A
   unfold iL;refine List.pairwise_append.2 ⟨?_,?_,fun x hx y i z=>?_⟩
   ·unfold nE;refine List.pairwise_append.2 ⟨?_,?_,fun x hx y i z=>?_⟩
    ·rw[iw];have C:(kf ds p.1 (br J0 J2 asks' says')).Nodup:=(m.nodup.filter _).filter _;refine pj (fun{d e} j B n z=>n ?_) C;obtain⟨_,a1,_⟩:=cG.1 j;obtain⟨_,u,_⟩:=cG.1 B;obtain⟨a,s,b⟩:=d;obtain⟨M,N,O⟩:=e;obtain⟨f,h⟩:=z;simp only at a1 u f h;injection h with h;rw[a1,u,f,h]
    ·rw[iw];have C:(kf ds' p.2 (br J0 J2 asks' says')).Nodup:=(r.nodup.filter _).filter _;refine pj (fun{d e} j B n z=>n ?_) C;obtain⟨_,a1,_⟩:=cG.1 j;obtain⟨_,u,_⟩:=cG.1 B;obtain⟨a,s,b⟩:=d;obtain⟨M,N,O⟩:=e;obtain⟨f,h⟩:=z;simp only at a1 u f h;injection h with _ h;rw[a1,u,f,h]
    ·obtain⟨d,j,rfl⟩:=aL.1 hx;obtain⟨e,B,rfl⟩:=aL.1 i;obtain⟨D,a1,_⟩:=cG.1 j;obtain⟨E,u,_⟩:=cG.1 B;obtain⟨f,h⟩:=z;have f:d.sg=e.sg:=f;have h:(d.b,p.2)=(p.1,e.b):=h;injection h with h H;rcases(m.good d D).sg with⟨w,l,q⟩|⟨w,l,q⟩|q<;>rcases(r.good e E).sg with⟨G,t,q'⟩|⟨G,t,q'⟩|q'<;>rw[q,q']at f
     ·injection f with _ f;injection f with f;rw[f]at l;exact J.apA _ l t
     ·injection f with f;exact absurd f (by decide)
     ·cases f
     ·injection f with f;exact absurd f (by decide)
     ·injection f with _ f;injection f with f;rw[f]at l;exact J.apS _ l t
     ·cases f
     ·cases f
     ·cases f
     ·refine m.noround p.1 (.one ?_);obtain⟨a,s,b⟩:=d;simp only at a1 q h;rw[<-q];rw[a1,h]at D;exact D
   ·unfold pV;rw[vY];refine⟨fun w l=>?_,pk (fun{w G} n x hx y i z=>n ?_) (yt m.okS.1 r.okS.1 J.apS)⟩
    ·unfold uO;rw[vY];refine⟨fun g hg=>?_,pk (fun{g g'} n x hx y i z=>n ?_) (rC m.nodup _)⟩
     ·unfold mq;rw[iw];refine pk (fun{o Q} n z=>n ?_) (rC r.nodup _);have h:(g,o)=(g,Q):=z.2;injection h
     ·unfold mq at hx i;obtain⟨_,_,rfl⟩:=aL.1 hx;obtain⟨_,_,rfl⟩:=aL.1 i;have h:=z.2;simp only at h;injection h
    ·unfold uO mq at hx i;obtain⟨_,_,hx⟩:=eO.1 hx;obtain⟨_,_,i⟩:=eO.1 i;obtain⟨_,_,rfl⟩:=aL.1 hx;obtain⟨_,_,rfl⟩:=aL.1 i;have f:fu w=fu G:=z.1;unfold fu at f;injection f with _ f;injection f
   ·unfold pV uO mq at i;obtain⟨w,l,i⟩:=eO.1 i;obtain⟨_,_,i⟩:=eO.1 i;obtain⟨_,_,rfl⟩:=aL.1 i;exact L hx (show x.sg=[("say":Str),w]from z.1) l
  exact pj (fun{x y} hx i n z=>n (same hx i z)) big
 ·have E:=(eg.1 hx).1;have T:=(eg.1 i).1;unfold HS at z;injection z with z;rw[E,T]at z;exact n (inj v I z)
def Dz(ds:List ao)(a b:Str):Prop:=b=a∨Reach ds a b
theorem Dz.trans{ds:List ao}{a b c:Str}(h1:Dz ds a b)(h2:Dz ds b c):Dz ds a c:=by
 rcases h1 with rfl|h1
 ·exact h2
 ·rcases h2 with rfl|h2
  ·exact .inr h1
  ·exact .inr (h1.trans h2)
theorem vz{p q:Str×Str}{f:Zb}:Hu ds ds' J2 says' f p aB q↔(∃b,(⟨p.1,aB,b⟩:ao)∈ds/\q=(b,p.2))∨∃b,(⟨p.2,aB,b⟩:ao)∈ds'/\q=(p.1,b):=by
 constructor
 ·rintro(⟨b,h,_,rfl⟩|⟨b,h,_,rfl⟩|⟨w,g,o,j,e,_⟩)
  ·exact .inl ⟨b,h,rfl⟩
  ·exact .inr ⟨b,h,rfl⟩
  ·cases e
 ·have i:∀a b:Str,cb f ⟨a,aB,b⟩=true:=fun a b=>by unfold cb;rw[zzr1 rfl];rfl
  rintro(⟨b,h,rfl⟩|⟨b,h,rfl⟩)
  ·exact .l b h (i _ _) rfl
  ·exact .r b h (i _ _) rfl
theorem HD(m:aR J0 J2 J3 ds)(n:aR asks' says' rooms' ds'){f:Zb}{x y:Str}(h:Reach (AL ds ds' J2 says' J3 rooms' f) x y):∃p q,p∈aM J3 rooms'/\q∈aM J3 rooms'/\x=sH J3 rooms' p/\y=sH J3 rooms' q/\Dz ds p.1 q.1/\Dz ds' p.2 q.2/\(Reach ds p.1 q.1∨Reach ds' p.2 q.2):=by
 induction h with
 |one h =>
  obtain⟨p,q,g,i,st,e⟩:=(xu m n).1 h;injection e with j _ k;refine⟨p,q,g,i,j,k,?_⟩;rcases vz.1 st with⟨b,a,rfl⟩|⟨b,a,rfl⟩
  ·exact⟨.inr (.one a),.inl rfl,.inl (.one a)⟩
  ·exact⟨.inl rfl,.inr (.one a),.inr (.one a)⟩
 |step r h o =>
  obtain⟨p,q,g,i,j,k,l1,l2,z⟩:=o;obtain⟨t,s,l,u,st,e⟩:=(xu m n).1 h;injection e with v _ w;obtain rfl:q=t:=sG i l (k.symm.trans v);refine⟨p,s,g,u,j,w,?_⟩;rcases vz.1 st with⟨b,a,rfl⟩|⟨b,a,rfl⟩
  ·exact⟨l1.trans (.inr (.one a)),l2,.inl (by rcases l1 with e|l1;rw[<-e];exact .one a;exact .step l1 a)⟩
  ·exact⟨l1,l2.trans (.inr (.one a)),.inr (by rcases l2 with e|l2;rw[<-e];exact .one a;exact .step l2 a)⟩
theorem HV(m:aR J0 J2 J3 ds)(i:aR asks' says' rooms' ds')(J:JoinOk J0 J2 J3 asks' says' rooms' ds ds')(few:(AL ds ds' J2 says' J3 rooms' (br J0 J2 asks' says')).length<=2000):
  aR (cQ J0 J2 asks' says') (J2++says') (gj J3 rooms') (AL ds ds' J2 says' J3 rooms' (br J0 J2 asks' says')) where
 okA:=⟨by unfold cQ;exact(dk.2 ⟨m.okA.1,i.okA.1,fun a ha b t z=>J.apA a ha (z▸t)⟩).filter _,fun w f=>(me.1 f).1.elim (m.okA.2 w) (i.okA.2 w)⟩
 okS:=⟨dk.2 ⟨m.okS.1,i.okS.1,fun a ha b t z=>J.apS a ha (z▸t)⟩,fun w f=>(bE.1 f).elim (m.okS.2 w) (i.okS.2 w)⟩
 apart:=fun w f z=>by
  obtain⟨k,j⟩:=me.1 z;rcases bE.1 f with hs|hs<;>rcases k with ha|ha
  ·exact m.apart w hs ha
  ·exact j (qv.2 (.inl ⟨hs,ha⟩))
  ·exact j (qv.2 (.inr ⟨hs,ha⟩))
  ·exact i.apart w hs ha
 okR:=by
  unfold gj;refine⟨?_,fun w f=>?_⟩
  ·unfold sQ;rw[iw];exact pj (fun{p q} l s n z=>n (sG l s z)) (j9 m.okR.1 i.okR.1)
  ·obtain⟨p,l,rfl⟩:=aL.1 f;have:=List.idxOf_lt_length_iff.2 l;rw[iJ]at this;have:J3.length * rooms'.length<=10 * 10:=pq J.r1 J.r2;exact EZ (by omega)
 asks0:=J.a0
 says0:=fun z=>m.says0 (List.append_eq_nil_iff.1 z).1
 rooms0:=fun z=>by
  unfold gj at z;have z:=congrArg List.length z;rw[ai,iJ,kU]at z;have k:=pi.2 m.rooms0;have j:=pi.2 i.rooms0;have:=Nat.mul_pos k j;omega
 asks4:=J.a4
 says4:=J.s4
 rooms26:=by
  unfold gj;rw[ai,iJ];have:J3.length * rooms'.length<=10 * 10:=pq J.r1 J.r2;omega
 nodup:=vP m i J
 good:=fun d v=>by
  obtain⟨p,q,l,s,st,e⟩:=(xu m i).1 v;refine⟨by rw[e];exact gU l,by rw[e];exact gU s,?_⟩;rcases st with⟨b,k,j,_⟩|⟨b,k,j,_⟩|⟨w,g,o,f,x,_⟩
  ·rcases(m.good _ k).sg with⟨w,f,e'⟩|⟨w,f,e'⟩|e'
   ·have e':d.sg=[("ask":Str),w]:=e';rw[e']at j;exact .inl ⟨w,me.2 ⟨.inl f,ke j⟩,e'⟩
   ·exact .inr (.inl ⟨w,cN _ f,e'⟩)
   ·exact .inr (.inr e')
  ·rcases(i.good _ k).sg with⟨w,f,e'⟩|⟨w,f,e'⟩|e'
   ·have e':d.sg=[("ask":Str),w]:=e';rw[e']at j;exact .inl ⟨w,me.2 ⟨.inr f,ke j⟩,e'⟩
   ·exact .inr (.inl ⟨w,cV _ f,e'⟩)
   ·exact .inr (.inr e')
  ·refine .inr (.inl ⟨w,?_,x⟩);rcases qv.1 f with h|h
   ·exact cN _ h.1
   ·exact cV _ h.1
 few:=few
 noround:=fun r h=>by
  obtain⟨p,q,l,s,y,A,_,_,u⟩:=HD m i h;rw[sG l s (y.symm.trans A)]at u;exact u.elim (m.noround _) (i.noround _)
end
theorem AN{K:Za}{k:Nat}{j:List Nat}{g:TG}{m:TT}{n:TE}{σ:L2.St}{o:Hp}{Q:Hp->Prop}{l a:Addr}{xs:List V}(Pv:Nat->List V->Hp->Prop)(s:Pv 0 [] (upd o l (.lst [])))
  (h:∀i e H,i<=xs.length->Pv i e H->H l=some (.lst e)/\av K H a xs) (w:∀e H,Pv xs.length e H->Q H)
  (z:∀i e H x p,xs[i]?=some x->i<xs.length->Pv i e H->H p=none->g (.ref p) (cx k j σ) (upd H p (.tup [.int i,x])) fun σ2 A=>m σ2 A fun b q =>
   if b=true then n σ2 q fun v r=>r l=some (.lst e)/\e.length<ak/\∃f,f<xs.length-i/\Wc xs.length Pv (i+1) f (e++[v]) (upd r l (.lst (e++[v])))else ∃f,f<xs.length-i/\Wc xs.length Pv (i+1) f e q) :
  cR k j σ (Iw K a) g m n o l Q:=by
 refine jK xs.length Pv s (fun i e H hi p=>(h i e H hi p).1) (fun i e H hi p=>?_) (fun e H p=>?_) fun i e H x D hi p y=>?_
 ·exact⟨xs,xs[i],(h i e H (cy hi) p).2,by simp[hi]⟩
 ·exact⟨⟨xs,(h _ e H (aK _) p).2,aK _⟩,w e H p⟩
 ·obtain⟨t,u,rfl,B,C,rfl⟩:=y;exact z i e H u t (C xs (h i e H (cy hi) p).2) hi p B
inductive oo(vs:List V)(H:Hp)(Q:VK)(E:XK):Prop
 |mk (n:Nat):(vs=[.int n])->(n<200)->(∀H',ac H H'->Q (.str (DE n)) H')->oo vs H Q E
theorem IY{c:Nat}(h:c<26):xR (Str.cps "abcdefghijklmnopqrstuvwxyz").toList (c:Int)=some (97+c):=by
 refine cT ?_;have:∀c:_root_.Fin 26,(Str.cps "abcdefghijklmnopqrstuvwxyz").toList[c.1]?=some (97+c.1):=by decide
 exact this ⟨c,h⟩
theorem Eu{K:Za}{a:List V}{H:Hp}{Q:VK}{E:XK}(h:oo a H Q E):pX K (bQ Q) (start qK a) H:=by
 obtain⟨n,rfl,i,k⟩:=h;refine⟨_,rfl,.inr ⟨_,rfl,(by show 26<=ak;decide),n,26,rfl,⟨by decide,by decide⟩,fun p e=>?_⟩⟩;have S:ac H (upd H p (.tup [.int ((n:Int) / 26),.int ((n:Int) % 26)])):=ac.new e;have f:(n:Int) / 26=((n / 26:Nat):Int):=by omega
 have g:(n:Int) % 26=((n % 26:Nat):Int):=by omega
 refine⟨p,_,rfl,cr.of aa,rfl,_,_,rfl,_,_,rfl,rfl,?_⟩;refine⟨_,rfl,_,_,_,rfl,rfl,(by show 26<=ak;decide),by rw[f];exact IY (c:=n / 26) (by omega),_,rfl,_,_,_,rfl,rfl,(by show 26<=ak;decide),by rw[g];exact IY (c:=n % 26) (by omega),_,_,rfl,rfl,(by show 1+1<=ak;decide),k _ S⟩
theorem Di{d:Addr}{o:Obj}{u:HO}{n:Nat}{f:Nat->Hp->V->V->Prop}{g:TG}{k:TS}{D:eR}{σ:L2.St}{H:Hp}(Pv:Nat->L2.St->Hp->Prop)(r:Pv 0 σ H)(s:∀i σ H,i<=n->Pv i σ H->H d=some (.frz o u))
  (t:∀i σ H a b,i<n->Pv i σ H->f i H a b->g a σ H fun σ2 j=>k { D with nx:=Pv (i+1),ct:=Pv (i+1),bk:=D.nx } σ2 j) (v:∀σ H,Pv n σ H->D.nx σ H) :
  ∃W:Nat->Nat->L2.St->Hp->Prop,(∃m,W 0 m σ H)/\∀i m σ H,W i m σ H ->
   ((Ip d o u n f).stop i H/\D.nx σ H)∨((Ip d o u n f).go i H/\∃N:L2.St->Hp->Prop,(∀σ' h,N σ' h->∃l,l<m/\W (i+1) l σ' h)/\∀x h,(Ip d o u n f).yld i H x h->g x σ h fun σ2 j=>k { D with nx:=N,ct:=N,bk:=D.nx } σ2 j):=by
 refine⟨fun i m σ H=>m=n-i/\i<=n/\Pv i σ H,⟨n,by simp,dA _,r⟩,?_⟩;rintro i m σ H ⟨rfl,hi,p⟩;have q:=s i σ H hi p;by_cases lt:i<n
 ·refine .inr ⟨⟨q,lt⟩,Pv (i+1),fun σ' h w=>⟨n-(i+1),by omega,rfl,lt,w⟩,fun x h y=>?_⟩;obtain⟨rfl,b,z⟩:=y;exact t i σ _ x b lt p z
 ·have e:i=n:=by omega
  subst e;exact .inl ⟨⟨q,aK _⟩,v σ H p⟩
def C3(p:Str×Str):List Str:=[p.1,p.2]
theorem BJ{p q:Str×Str}(h:ul (C3 p)=ul (C3 q)):p=q:=by
 have h:=xG h;unfold C3 at h;injection h with e a;injection a with a;exact Prod.ext e a
def rp(J3 rooms':Zb)(L:List (Str×Str)):List (TK×V):=L.map fun p=>(ul (C3 p),.str (sH J3 rooms' p))
theorem t5:∀(f a:List (TK×V)),((a++f).map Prod.fst).Nodup->putAll a f=a++f
 |[],a,_=>(dO _).symm
 |kv::f,a,h=>by
  show putAll (fh a kv.1 kv.2) f=_;have g:de a kv.1=none:=FV fun x hx z=>by
   rw[aF,dk]at h;exact h.2.2 _ (gU hx) kv.1 (eL) z
  rw[oK _ g];have e:a++[(kv.1,kv.2)]++f=a++kv::f:=by rw[ef];rfl
  rw[t5 f _ (by rw[e];exact h),e]
theorem C_{e a:Zb}{L:List (Str×Str)}(h:L.Nodup):((rp e a L).map Prod.fst).Nodup:=by
 unfold rp sQ;rw[iw,iw];exact pk (fun{p q} n z=>n (BJ z)) h
theorem xw{e a:Zb}:∀{L:List (Str×Str)}{p:Str×Str},p∈L->de (rp e a L) (ul (C3 p))=some (.str (sH e a p))
 |q::L,p,h=>by
  show de ((ul (C3 q),V.str (sH e a q))::rp e a L) _=_;by_cases c:q=p
  ·rw[c,dB rfl]
  ·rw[db (fun z=>c (BJ z))];exact xw ((cK.1 h).resolve_left (fun z=>c z.symm))
inductive sp_joined(C:Addr)(vs:List V)(H:Hp)(Q:VK)(E:XK):Prop
 |mk (M N:Addr) (J0 J2 J3 asks' says' rooms':Zb) (ds ds':List ao):(vs=[.ref M,.ref N])->(aZ C H M J0 J2 J3 ds)->(aZ C H N asks' says' rooms' ds')->(JoinOk J0 J2 J3 asks' says' rooms' ds ds')->(∀r∈J3,∀a∈J0,lI ds r a)->(∀r∈rooms',∀a∈asks',lI ds' r a)->((AL ds ds' J2 says' J3 rooms' (br J0 J2 asks' says')).length<=2000) ->
  (∀(x:Addr) (H':Hp),aZ C H' x (cQ J0 J2 asks' says') (J2++says') (gj J3 rooms') (AL ds ds' J2 says' J3 rooms' (br J0 J2 asks' says'))->ac H H'->Q (.ref x) H')->sp_joined C vs H Q E
theorem rJ{K:Za}{σ:L2.St}{H:Hp}{q:List Nat}{a b l sm:Addr}{p:List V}{j:Int}{g os:Zb}{Q:Hp->Prop}(hσ:cx 1 q σ=[none,some (.ref sm)])(u:H sm=some (.lst p))(y:xR p j=some (.ref b))(A:H a=some (.lst (g.map V.str)))(B:H b=some (.lst (os.map V.str)))(r:H l=none)(L:g.length<=900)
  (k:∀f,ac H f->f l=some (.lst ((g.filter fun w=>decide (w∈os)).map V.str))->Q f) :
  cR 1 q σ (Cm K a) U0 (aW (aE (jB K false) V0 (aE (cj K) V1 (tC (.int j))))) V0 H l Q:=by
 let C:Nat->List V->Hp->Prop:=fun i m f=>m=((g.take i).filter fun w=>decide (w∈os)).map V.str/\ac H f/\f l=some (.lst m)
 refine cE (xs:=g.map V.str) C ⟨rfl,ac.new r,aa⟩ (fun i m f _ D=>by obtain⟨_,S,E⟩:=D;exact⟨E,av.of (S _ _ A)⟩) ?_ ?_
 ·rintro m s ⟨rfl,S,n⟩;rw[ai,bJ]at n;exact k s S n
 ·rintro i m s x hx hi ⟨rfl,S,n⟩;obtain⟨w,t,rfl⟩:=bx hx;rw[hσ];refine gN ⟨_,rfl,_,rfl,sm,p,j,_,rfl,rfl,av.of (S _ _ u),y,cq w,os.map cq,b,_,rfl,rfl,.inl (av.of (S _ _ B)),js os,dA _,by rw[fC];decide,_,rfl,?_⟩;have G:(cq w∈os.map cq)↔w∈os:=⟨fun z=>by obtain⟨v,I,e⟩:=aL.1 z;have e:DT.k (.inr v)=DT.k (.inr w):=e;injection e with e;injection e with e;rw[<-e];exact I,gU⟩;have J:(if false=true then !decide (cq w∈os.map cq)else decide (cq w∈os.map cq))=decide (w∈os):=decide_eq_decide.2 G
  rw[J];by_cases c:w∈os
  ·rw[zzr1 c];refine bC ⟨_,rfl,n,?_,r6 hi ⟨?_,fun b o e=>?_,aa⟩⟩
   ·rw[ai]at hi ⊢;exact ar (bW (cW _ _) (by rw[aY];omega))
   ·rw[take_snoc t,iu,aF];have:[w].filter (fun w=>decide (w∈os))=[w]:=by rw[jR,if_pos (zzr1 c)];rfl
    rw[this];rfl
   ·rw[am (ag e r)];exact S _ _ e
  ·rw[zzr0 c];refine bv (r6 hi ⟨?_,S,n⟩);rw[take_snoc t,iu];have:[w].filter (fun w=>decide (w∈os))=[]:=by rw[jR,if_neg (by rw[zzr0 c];decide)];rfl
   rw[this,dO]
structure F4(H:Hp)(sm:Addr)(A:Nat->Addr)(S:Nat->List Str):Prop where
 l:H sm=some (.lst [.ref (A 0),.ref (A 1),.ref (A 2),.ref (A 3)])
 s:∀k,k<4->H (A k)=some (.lst ((S k).map V.str))
theorem F4.same{H H':Hp}{a:Addr}{A:Nat->Addr}{S:Nat->List Str}(h:F4 H a A S)(e:ac H H'):F4 H' a A S:=⟨e _ _ h.l,fun k f=>e _ _ (h.s k f)⟩
theorem F4.ix{A:Nat->Addr}{k:Nat}(h:k<4):xR [V.ref (A 0),.ref (A 1),.ref (A 2),.ref (A 3)] (k:Int)=some (.ref (A k)):=by
 refine cT ?_;rcases k with _|_|_|_|k
 ·rfl
 ·rfl
 ·rfl
 ·rfl
 ·omega
inductive lp(vs:List V)(H:Hp)(Q:VK)(E:XK):Prop
 |mk (sm:Addr) (A:Nat->Addr) (S:Nat->List Str):(vs=[.ref sm])->(F4 H sm A S)->((∀k,k<4->(S k).length<=4))->(∀(l:Addr) (H':Hp),H' l=some (.lst ((cQ (S 0) (S 1) (S 2) (S 3)).map V.str))->H l=none->ac H H'->Q (.ref l) H')->lp vs H Q E
theorem Ey{K:Za}{t:List V}{H:Hp}{Q:VK}{E:XK}(h:lp t H Q E):rP K (bQ Q) (start r_ t) H:=by
 obtain⟨sm,A,S,rfl,F,z,k⟩:=h;have O:=z 0 (by decide);have T:=z 1 (by decide);have U:=z 2 (by decide);have Y:=z 3 (by decide);refine⟨_,rfl,sm,_,1,_,rfl,rfl,av.of F.l,F4.ix (k:=1) (by decide),A 1,rfl,⟨_,av.of (F.s 1 (by decide))⟩,fun C o=>?_⟩;refine rJ (sm:=sm) (j:=((2:Nat):Int)) rfl F.l (F4.ix (k:=2) (by decide)) (F.s 1 (by decide)) (F.s 2 (by decide)) o (by omega) fun H1 u D=>?_;have e:=F.same u;refine⟨_,rfl,sm,_,3,_,rfl,rfl,av.of e.l,F4.ix (k:=3) (by decide),A 3,rfl,⟨_,av.of (e.s 3 (by decide))⟩,fun G p=>?_⟩;refine rJ (sm:=sm) (j:=((0:Nat):Int)) rfl e.l (F4.ix (k:=0) (by decide)) (e.s 3 (by decide)) (e.s 0 (by decide)) p (by omega) fun f v I=>?_;have f1:=cW (fun w=>decide (w∈S 2)) (S 1);have f2:=cW (fun w=>decide (w∈S 0)) (S 3);refine⟨C,G,_,_,rfl,rfl,v _ _ D,I,by rw[ai,ai];exact cy (ar (by omega)),fun g q=>?_⟩;have x:ac f (upd f g (.lst (((S 1).filter fun w=>decide (w∈S 2)).map V.str++((S 3).filter fun w=>decide (w∈S 0)).map V.str))):=ac.new q;have y:upd f g (.lst (((S 1).filter fun w=>decide (w∈S 2)).map V.str++((S 3).filter fun w=>decide (w∈S 0)).map V.str)) g=some (.lst ((br (S 0) (S 1) (S 2) (S 3)).map V.str)):=by rw[aa,<-aF];rfl
 generalize upd f g (.lst (((S 1).filter fun w=>decide (w∈S 2)).map V.str++((S 3).filter fun w=>decide (w∈S 0)).map V.str))=i at x y ⊢;have a:=u.trans (v.trans x);have m:=F.same a;refine⟨_,rfl,sm,_,0,_,rfl,rfl,av.of m.l,F4.ix (k:=0) (by decide),_,rfl,sm,_,2,_,rfl,rfl,av.of m.l,F4.ix (k:=2) (by decide),A 0,A 2,_,_,rfl,rfl,m.s 0 (by decide),m.s 2 (by decide),by rw[ai,ai];exact cy (ar (by omega)),fun c J=>?_⟩;have n:ac i (upd i c (.lst ((S 0).map V.str++(S 2).map V.str))):=ac.new J;have B:upd i c (.lst ((S 0).map V.str++(S 2).map V.str)) c=some (.lst ((S 0++S 2).map V.str)):=by rw[aa,aF]
 refine⟨c,rfl,⟨_,av.of aa⟩,fun l r=>?_⟩;generalize upd i c (.lst ((S 0).map V.str++(S 2).map V.str))=H4 at n B r ⊢;exact nv (neg:=true) rfl B (n _ _ y) r (by rw[aV];omega) fun L M N=>k l L N ((a.trans n).free r) (a.trans (n.trans M))
theorem nr{α:Type}(p:α->Bool):∀l:List α,(l.filter p).length+(l.filter fun x=>!p x).length=l.length
 |[]=>rfl
 |x::l=>by
  have h:=nr p l;rw[jR,jR];cases p x
  ·rw[if_neg (by decide),if_pos (by decide),c_,c_];omega
  ·rw[if_pos (by decide),if_neg (by decide),c_,c_];omega
theorem vk{a:Zb}{w:Str}:kY (cX a w)=w:=by unfold cX;split<;>rfl
theorem zS{J2:Zb}{w:Str}:cX J2 w≠aB:=by unfold cX fu eE aB;split<;>(intro h;cases h)
theorem tG{e W:Zb}{w a b:Str}(h:w∈W):cb W ⟨a,cX e w,b⟩=false:=by
 unfold cb;rw[zzr0 zS,Bool.false_or];show(!decide (kY (cX e w)∈W))=false;rw[vk,zzr1 h];rfl
theorem IT{t r s k j i:Zb}{q l:List ao}(m:aR t r s q)(G:aR k j i l)(J:JoinOk t r s k j i q l):(AL q l r j s i (br t r k j)).length<=2000:=by
 have D:=vP m G J;unfold AL at D ⊢;rw[ai];have u:(ui q l r j s i (br t r k j)).Nodup:=(iw.1 D).imp fun h e=>h (congrArg _ e);generalize br t r k j=W at u;have sub:∀e∈ui q l r j s i W,e∈(((q.filter (cb W)).flatMap fun d=>i.map fun o=>(⟨(d.a,o),d.sg,(d.b,o)⟩:JD))++((l.filter (cb W)).flatMap fun d=>s.map fun o=>(⟨(o,d.a),d.sg,(o,d.b)⟩:JD)))++((q.filter fun d=>!cb W d).flatMap fun d=>(l.filter fun d=>!cb W d).map fun v=>(⟨(d.a,v.a),fu (kY d.sg),(d.b,v.b)⟩:JD)):=fun e z=>by
  unfold ui at z;obtain⟨p,H,z⟩:=eO.1 z;obtain⟨A,st⟩:=eg.1 z;obtain⟨I,L⟩:=fk.1 H;obtain⟨a,M,b⟩:=e;have A:a=p:=A;subst A;obtain⟨a1,a2⟩:=a;rcases st with⟨B,x,y,e⟩|⟨B,x,y,e⟩|⟨w,g,o,E,C,x,y,e⟩
  ·have e:b=(B,a2):=e;subst e;exact cN _ (cN _ (eO.2 ⟨_,dJ.2 ⟨x,y⟩,aL.2 ⟨a2,L,rfl⟩⟩))
  ·have e:b=(a1,B):=e;subst e;exact cN _ (cV _ (eO.2 ⟨_,dJ.2 ⟨x,y⟩,aL.2 ⟨a1,I,rfl⟩⟩))
  ·have e:b=(g,o):=e;have C:M=fu w:=C;subst e;subst C;refine cV _ (eO.2 ⟨_,dJ.2 ⟨x,by rw[tG E];rfl⟩,aL.2 ⟨_,dJ.2 ⟨y,by rw[tG E];rfl⟩,?_⟩⟩);show(⟨(a1,a2),fu (kY (cX r w)),(g,o)⟩:JD)=_;rw[vk]
 haveI:DecidableEq JD:=fun _ _=>Classical.propDecidable _
 have len:=vE u sub;rw[aV,aV]at len;have N:=ka (f:=fun d:ao=>i.map fun o=>(⟨(d.a,o),d.sg,(d.b,o)⟩:JD)) (n:=10) (fun a=>by rw[ai];exact J.r2) (q.filter (cb W));have O:=ka (f:=fun d:ao=>s.map fun o=>(⟨(o,d.a),d.sg,(o,d.b)⟩:JD)) (n:=10) (fun a=>by rw[ai];exact J.r1) (l.filter (cb W));have Q:=J.d1;have T:=J.d2;have U:=nr (cb W) q;have Y:=nr (cb W) l;have f3:=ka (f:=fun d:ao=>(l.filter fun d=>!cb W d).map fun v=>(⟨(d.a,v.a),fu (kY d.sg),(d.b,v.b)⟩:JD)) (n:=40) (fun a=>by rw[ai];omega) (q.filter fun d=>!cb W d);omega
inductive lX(C:Addr)(vs:List V)(H:Hp)(Q:VK)(E:XK):Prop
 |mk (M:Addr) (J0 J2 J3:Zb) (ds:List ao):(vs=[.ref M])->(aZ C H M J0 J2 J3 ds)->(∀H',ac H H'->Q (.bl (decide (J3.length<=10/\ds.length<=40))) H')->lX C vs H Q E
theorem CM{K:Za}{C:Addr}{t:List V}{H:Hp}{Q:VK}{E:XK}(h:lX C t H Q E):z7 K C (lh C) (gM C) (bQ Q) (start A6 t) H:=by
 obtain⟨M,A,B,e,u,rfl,l,k⟩:=h;obtain⟨D,O,fs,T,g,a1,a2,_⟩:=l.own;refine⟨_,rfl,M,D,fs,rfl,g,a1,M,A,B,e,u,rfl,l,fun w G=>?_⟩;have j:ac H (upd H w (.lst (e.map V.str))):=ac.new G;have x:upd H w (.lst (e.map V.str)) w=some (.lst (e.map V.str)):=aa;generalize upd H w (.lst (e.map V.str))=m at j x ⊢;refine .inl ⟨w,_,rfl,.inl (av.of x),_,_,rfl,rfl,_,rfl,?_⟩;rw[ai];by_cases c:e.length<=10;rotate_left
 ·rw[zzr0 (by omega)];refine bv ?_;have:=k _ j;rw[zzr0 (fun z=>c z.1)]at this;exact this
 rw[zzr1 (by omega)];refine bC ?_;have n:=l.same j;obtain⟨f,o,i,a,y,I,p,q,r,s⟩:=n.own;refine⟨_,rfl,M,f,i,rfl,y,p,M,f,o,i,a,rfl,y,q,r,fun v J=>?_⟩;have L:ac m (upd m v (.lst (a.map V.ref))):=ac.new J;have N:upd m v (.lst (a.map V.ref)) v=some (.lst (a.map V.ref)):=aa;refine .inl ⟨v,_,rfl,.inl (av.of N),_,_,rfl,rfl,?_⟩;have:=Paired.length s;rw[ai];show Q (.bl (decide ((a.length:Int)<=40))) _;rw[show decide ((a.length:Int)<=40)=decide (e.length<=10/\u.length<=40)from decide_eq_decide.2 (by omega)];exact k _ (j.trans L)
inductive lZ(C Cj:Addr)(vs:List V)(H:Hp)(Q:VK)(E:XK):Prop
 |mk (M N:Addr) (J0 J2 J3 asks' says' rooms':Zb) (ds ds':List ao):(vs=[.ref M,.ref N])->(aZ C H M J0 J2 J3 ds)->(aZ C H N asks' says' rooms' ds')->(JoinOk J0 J2 J3 asks' says' rooms' ds ds'->∀H',ac H H'->Q .non H')->(¬JoinOk J0 J2 J3 asks' says' rooms' ds ds'->∀a H',Hs Cj H H' a->E (.ref Cj) (some a) H')->lZ C Cj vs H Q E
theorem rE{a os:Zb}(h:¬∀w∈a,w∉os):0<(a.filter (fun w=>decide (w∈os))).length:=by
 refine pi.2 fun z=>h fun w e q=>?_;exact pB.1 z w e (zzr1 q)
theorem CP{K:Za}{C Cj:Addr}{vs:List V}{H:Hp}{Q:VK}{E:XK}(h:lZ C Cj vs H Q E):wN K C (fK C) (ln C) Cj sp_common (fL C) (lX C) (fun _=>E) (bQ Q) (start rM vs) H:=by
 obtain⟨M,N,m,j,L,f,e,i,O,l,rfl,r,t,k,kx⟩:=h;have T:∀s:Str,¬JoinOk m j L f e i O l->∀y:Hp,ac H y->(jA Cj (au (tC (.str s)))) (fun _=>E) (bQ Q) (start rM [.ref M,.ref N]) y:=fun s n y S3 =>
  ⟨(by show 1<=ak;decide),fun a ha=>kx n a _ ⟨S3.trans (ac.new ha),none,aa,.inl rfl⟩⟩
 have y1:=r.ok.asks4;have y2:=r.ok.says4;have y3:=t.ok.asks4;have y4:=t.ok.says4;refine⟨_,rfl,M,m,j,L,O,rfl,r,fun H1 S1=>⟨_,rfl,?_⟩⟩;by_cases c1:L.length<=10/\O.length<=40;rotate_left
 ·rw[zzr0 c1];exact bC (bC (T _ (fun J=>c1 ⟨J.r1,J.d1⟩) _ S1))
 rw[zzr1 c1];refine bv ?_;refine⟨_,rfl,N,f,e,i,l,rfl,t.same S1,fun H2 S2=>⟨_,rfl,?_⟩⟩;have A:=S1.trans S2;by_cases c2:i.length<=10/\l.length<=40;rotate_left
 ·rw[zzr0 c2];exact bC (T _ (fun J=>c2 ⟨J.r2,J.d2⟩) _ A)
 rw[zzr1 c2];refine bv ?_;obtain⟨dx,fs,g,a1,_⟩:=(r.same A).mth;refine⟨_,rfl,M,dx,fs,rfl,g,a1,M,m,j,L,O,rfl,r.same A,fun w hw=>?_⟩;have S3:ac H2 (upd H2 w (.lst (m.map V.str))):=ac.new hw;have w3:upd H2 w (.lst (m.map V.str)) w=some (.lst (m.map V.str)):=aa;generalize upd H2 w (.lst (m.map V.str))=y at S3 w3 ⊢;have U:=A.trans S3;obtain⟨a5,a6,g',b1,_⟩:=(t.same U).mth;refine⟨_,rfl,N,a5,a6,rfl,g',b1,N,f,e,i,l,rfl,t.same U,fun v hv=>?_⟩;have S4:ac y (upd y v (.lst (f.map V.str))):=ac.new hv;have v4:upd y v (.lst (f.map V.str)) v=some (.lst (f.map V.str)):=aa;show sp_common [.ref w,.ref v] (upd y v (.lst (f.map V.str))) _ _;generalize upd y v (.lst (f.map V.str))=H4 at S4 v4 ⊢;refine⟨w,v,m,f,rfl,S4 _ _ w3,v4,by omega,fun c H5 hc _ S5=>?_⟩;have B:=U.trans (S4.trans S5);refine .inl ⟨c,_,rfl,.inl (av.of hc),_,_,rfl,rfl,_,rfl,?_⟩;rw[ai];by_cases c3:∀w∈m,w∉f;rotate_left
 ·have:=rE c3;rw[zzr1 (by omega)];exact bC (bC (T _ (fun J=>c3 J.apA) _ B))
 rw[i7 c3,zzr0 (by decide)];refine bv ?_;obtain⟨ex,es,e1,_,e2,_⟩:=(r.same B).mth;refine⟨_,rfl,M,ex,es,rfl,e1,e2,M,m,j,L,O,rfl,r.same B,fun w2 a7=>?_⟩;have S6:ac H5 (upd H5 w2 (.lst (j.map V.str))):=ac.new a7;have w6:upd H5 w2 (.lst (j.map V.str)) w2=some (.lst (j.map V.str)):=aa;generalize upd H5 w2 (.lst (j.map V.str))=H6 at S6 w6 ⊢;have Y:=B.trans S6;obtain⟨a8,a9,bb,_,bd,_⟩:=(t.same Y).mth;refine⟨_,rfl,N,a8,a9,rfl,bb,bd,N,f,e,i,l,rfl,t.same Y,fun v2 bi=>?_⟩;have S7:ac H6 (upd H6 v2 (.lst (e.map V.str))):=ac.new bi;have v7:upd H6 v2 (.lst (e.map V.str)) v2=some (.lst (e.map V.str)):=aa;show sp_common [.ref w2,.ref v2] (upd H6 v2 (.lst (e.map V.str))) _ _;generalize upd H6 v2 (.lst (e.map V.str))=H7 at S7 v7 ⊢;refine⟨w2,v2,j,e,rfl,S7 _ _ w6,v7,by omega,fun bl H8 bm _ S8=>?_⟩;have D:=Y.trans (S7.trans S8);refine .inl ⟨bl,_,rfl,.inl (av.of bm),_,_,rfl,rfl,_,rfl,?_⟩;rw[ai];by_cases c4:∀w∈j,w∉e;rotate_left
 ·have:=rE c4;rw[zzr1 (by omega)];exact bC (T _ (fun J=>c4 J.apS) _ D)
 rw[i7 c4,zzr0 (by decide)];refine bv ?_;refine⟨_,rfl,_,rfl,M,N,m,j,L,f,e,i,O,l,rfl,r.same D,t.same D,fun al H9 bn _ S9=>?_⟩;refine .inl ⟨al,_,rfl,.inl (av.of bn),rfl,_,rfl,?_⟩;have G:=D.trans S9;rw[ai];by_cases c5:cQ m j f e=[]
 ·rw[zzr1 (by rw[c5];rfl)];exact bC (T _ (fun J=>J.a0 c5) _ G)
 have ch:=pi.2 c5;rw[zzr0 (by intro z;injection z with z;omega)];refine bv ?_;refine⟨_,rfl,_,rfl,M,N,m,j,L,f,e,i,O,l,rfl,r.same G,t.same G,fun b0 I an _ b2=>?_⟩;have p:=G.trans b2;refine .inl ⟨b0,_,rfl,.inl (av.of an),_,_,rfl,rfl,_,rfl,?_⟩;rw[ai];by_cases c6:(cQ m j f e).length<=4;rotate_left
 ·rw[zzr1 (by omega)];exact bC (bC (T _ (fun J=>c6 J.a4) _ p))
 rw[zzr0 (by omega)];refine bv ?_;obtain⟨fx,fz,f1,_,f2,_⟩:=(r.same p).mth;refine⟨_,rfl,M,fx,fz,rfl,f1,f2,M,m,j,L,O,rfl,r.same p,fun q b3=>?_⟩;have ap:ac I (upd I q (.lst (j.map V.str))):=ac.new b3;have as:upd I q (.lst (j.map V.str)) q=some (.lst (j.map V.str)):=aa;generalize upd I q (.lst (j.map V.str))=u at ap as ⊢;have x:=p.trans ap;obtain⟨b4,b5,b6,_,b7,_⟩:=(t.same x).mth;refine⟨_,rfl,N,b4,b5,rfl,b6,b7,N,f,e,i,l,rfl,t.same x,fun o b8=>?_⟩;have ab:ac u (upd u o (.lst (e.map V.str))):=ac.new b8;have aC:upd u o (.lst (e.map V.str)) o=some (.lst (e.map V.str)):=aa;show lr (.ref q) (.ref o) (upd u o (.lst (e.map V.str))) _;generalize upd u o (.lst (e.map V.str))=aT at ab aC ⊢;refine⟨q,o,_,_,rfl,rfl,ab _ _ as,aC,by rw[ai,ai];exact cy (ar (by omega)),fun aX cc=>?_⟩;have ce:ac aT (upd aT aX (.lst (j.map V.str++e.map V.str))):=ac.new cc;have S0:=x.trans (ab.trans ce);refine .inl ⟨aX,_,rfl,.inl (av.of aa),_,_,rfl,rfl,_,rfl,?_⟩;rw[aV,ai,ai];by_cases c7:j.length+e.length<=4
 ·rw[zzr0 (by omega)];exact bv (k ⟨c1.1,c1.2,c2.1,c2.2,c3,c4,c5,c6,by rw[aV];exact c7⟩ _ S0)
 ·rw[zzr1 (by omega)];exact bC (T _ (fun J=>c7 (by rw[<-aV];exact J.s4)) _ S0)
inductive j5(C Cj Ck:Addr)(vs:List V)(H:Hp)(Q:VK)(E:XK):Prop
 |mk (M N:Addr) (J0 J2 J3 asks' says' rooms':Zb) (ds ds':List ao):(vs=[.ref M,.ref N])->(aZ C H M J0 J2 J3 ds)->(aZ C H N asks' says' rooms' ds')->(¬JoinOk J0 J2 J3 asks' says' rooms' ds ds'->∀a H',Hs Cj H H' a->E (.ref Cj) (some a) H')->(JoinOk J0 J2 J3 asks' says' rooms' ds ds'->∀r a,lack ds J0 J3=some (r,a)->∀e H',Jp Ck r a H H' e->E (.ref Ck) (some e) H')->(JoinOk J0 J2 J3 asks' says' rooms' ds ds'->lack ds J0 J3=none->∀r a,lack ds' asks' rooms'=some (r,a)->∀e H',Jp Ck r a H H' e->E (.ref Ck) (some e) H') ->
  (JoinOk J0 J2 J3 asks' says' rooms' ds ds'->lack ds J0 J3=none->lack ds' asks' rooms'=none->∀(x:Addr) (H':Hp),aZ C H' x (cQ J0 J2 asks' says') (J2++says') (gj J3 rooms') (AL ds ds' J2 says' J3 rooms' (br J0 J2 asks' says'))->ac H H'->Q (.ref x) H')->j5 C Cj Ck vs H Q E
theorem An{K:Za}{C Cj Ck:Addr}{vs:List V}{H:Hp}{Q:VK}{E:XK}(h:j5 C Cj Ck vs H Q E):CB K C (oy C) (fK C) (ln C) (l6 K C) (l5 K C) (lY C) oo (k_ C) (iY C Ck) (lZ C Cj) (fun _=>E) (bQ Q) (start FH vs) H:=by
 obtain⟨M,N,G,A,J3,y,v,l,Y,B,rfl,MM,MN,kj,k1,k2,k⟩:=h;have m:=MM.ok;have m':=MN.ok;have z1:=m.says4;have z2:=m'.says4;have b2:=j9 m.okR.1 m'.okR.1;refine⟨_,rfl,_,rfl,M,N,G,A,J3,y,v,l,Y,B,rfl,MM,MN,fun J H1 S1=>?_,kj⟩;have few:=IT m m' J;have MJ:=HV m m' J few;have k:=k J;have lP:(aM J3 l).length<=100:=by rw[iJ];exact pq J.r1 J.r2
 refine⟨_,rfl,M,G,A,J3,Y,rfl,MM.same S1,fun n1 H2 U=>?_,fun r a e x I X=>k1 J r a e x I ⟨S1.trans X.1,X.2⟩⟩;have D:=S1.trans U;refine⟨_,rfl,N,y,v,l,B,rfl,MN.same D,fun n2 H3 S3=>?_,fun r a e x I X=>k2 J n1 r a e x I ⟨D.trans X.1,X.2⟩⟩;have k:=k n1 n2;have ab:=D.trans S3;refine⟨_,rfl,_,rfl,M,N,G,A,J3,y,v,l,Y,B,rfl,MM.same ab,MN.same ab,fun wl H4 b3 _ S4=>?_⟩;have an:=ab.trans S4;have lW:(br G A y v).length<=8:=by
  unfold br;have h1:=cW (fun w=>decide (w∈y)) A;have h2:=cW (fun w=>decide (w∈G)) v;rw[aV];omega
 clear S1 U D S3 ab S4;refine⟨_,rfl,_,rfl,M,N,G,A,J3,y,v,l,Y,B,rfl,MM.same an,MN.same an,J.r1,J.r2,fun pl us H5 a9 bb _ S5=>⟨pl,rfl,⟨_,av.of a9⟩,fun cl bd=>?_⟩⟩;have b4:=an.trans S5;have a6:=S5 _ _ b3;have b5:=Paired.length bb;clear an S5 b3
 let zE:Nat->List V->Hp->Prop:=fun i vs I=>∃ts:List Addr,Ja (vs=ts.map V.ref) (ac H5 I) (I cl=some (.lst vs)) (ts.length=i) (∀(j:Nat) (t u:Addr),ts[j]?=some t->us[j]?=some u->I t=some (.tup [.ref u,.str (DE j)]))
 refine AN (xs:=us.map V.ref) zE ⟨[],rfl,ac.new bd,aa,rfl,fun j t u e=>by simp at e⟩ (fun i vs I _ zq=>by obtain⟨_,_,S,h',_⟩:=zq;exact⟨h',av.of (S _ _ a9)⟩) ?_ ?_;rotate_left
 ·rintro i vs H6 x p hx hi ⟨ts,rfl,S6,h6,lt,a0⟩ hp;obtain⟨u,hu,rfl⟩:=eV hx;rw[ai]at hi;have Sp:ac H6 (upd H6 p (.tup [.int i,.ref u])):=ac.new hp;have pp:upd H6 p (.tup [.int i,.ref u]) p=some (.tup [.int i,.ref u]):=aa;generalize upd H6 p (.tup [.int i,.ref u])=H7 at Sp pp ⊢;refine⟨p,_,rfl,cr.of pp,rfl,_,_,rfl,_,_,rfl,rfl,rN ⟨_,rfl,_,rfl,i,rfl,by omega,fun H8 S8=>⟨(by show 2<=ak;decide),fun t ht=>?_⟩⟩⟩;have S9:ac H8 (upd H8 t (.tup [.ref u,.str (DE i)])):=ac.new ht;have t9:upd H8 t (.tup [.ref u,.str (DE i)]) t=some (.tup [.ref u,.str (DE i)]):=aa;show _/\_/\_;generalize upd H8 t (.tup [.ref u,.str (DE i)])=H9 at S9 t9 ⊢;have a4:=Sp.trans (S8.trans S9);have kt:pd H9 (upd H9 cl (.lst (ts.map V.ref++[.ref t]))):=gm (a4 _ _ h6);refine⟨a4 _ _ h6,by rw[ai];exact ar (by omega),r6 (by rw[ai];exact hi) ⟨ts++[t],by rw[aF];rfl,fun b o e=>?_,aa,by rw[aV,lt];rfl,fun j t' u' h1 h2=>?_⟩⟩
  ·rw[am (ag e bd)];exact a4 _ _ (S6 _ _ e)
  ·by_cases c:j<ts.length
   ·rw[pQ c]at h1;exact kt _ _ (a4 _ _ (a0 j t' u' h1 h2))
   ·have ej:j=ts.length:=by
     have:=(bG.1 h1).1;rw[aV]at this;have:j<ts.length+1:=this;omega
    rw[ej,wH (aK _),Nat.sub_self]at h1;have h1:some t=some t':=h1;cases h1;rw[ej,lt,hu]at h2;cases h2;rw[ej,lt];exact kt _ _ t9
 rintro vs H6 ⟨ts,rfl,S6,h6,lt,a0⟩;rw[ai]at lt;have a7:Paired (Js H6) us (aM J3 l):=Paired.mapP bb fun _ _ r=>S6 _ _ r;have bi:=b4.trans S6;have a8:=S6 _ _ a6;refine⟨cl,ts,us,rp J3 l (aM J3 l),rfl,av.of h6,by rw[lt,b5];unfold rp;rw[ai],by rw[b5];unfold rp;rw[ai],fun j t b kv h1 h2 h3=>?_,fun O hnd=>?_⟩
 ·unfold rp at h3;rw[cH]at h3;obtain⟨p,hp,rfl⟩:=Option.map_eq_some_iff.1 h3;obtain⟨b',b6,pr⟩:=Paired.get a7 hp;rw[h2]at b6;cases b6;have en:sH J3 l p=DE j:=by
   obtain⟨hj,e⟩:=bG.1 hp;unfold sH;rw[<-e,b2.idxOf_getElem j hj]
  refine⟨by rw[a0 j t b h1 h2];show _=some (HO.tup [.ref b,.str (sH J3 l p)]);rw[en],D0 (xs:=C3 p) (.inl pr),qG _⟩
 rw[t5 _ [] (by rw[List.nil_append];exact C_ b2),List.nil_append];have Sn:ac H6 (upd H6 O (.dT (rp J3 l (aM J3 l)))):=ac.new hnd;have n7:upd H6 O (.dT (rp J3 l (aM J3 l))) O=some (.dT (rp J3 l (aM J3 l))):=aa;generalize upd H6 O (.dT (rp J3 l (aM J3 l)))=H7 at Sn n7 ⊢;have n0:H O=none:=bi.free hnd;have bl:=bi.trans Sn;have aC:=Sn _ _ a8;clear b4 S6 bi Sn a6 a8 a0 lt h6 bb a7 a9 bd hnd;refine⟨(by show 0<=ak;decide),fun dl aT=>?_⟩;have Sd:ac H7 (upd H7 dl (.lst [])):=ac.new aT;have d8:upd H7 dl (.lst []) dl=some (.lst (([]:Ze).map V.ref)):=aa;generalize upd H7 dl (.lst [])=H8 at Sd d8 ⊢;have b7:H dl=none:=bl.free aT;have n8:=Sd _ _ n7;have bm:O≠dl:=ag n7 aT;have b8:wl≠dl:=ag aC aT;have cc:=bl.trans Sd;have ap:=Sd _ _ aC;clear bl Sd aC n7 aT;refine⟨_,rfl,O,_,rfl,.inl ⟨n8,fun ob=>?_⟩⟩;have ce:pd H8 (upd H8 O (.frz ob (.dT (rp J3 l (aM J3 l))))):=fun b xs e=>by rw[am (fun z=>by rw[z,n8]at e;cases e)];exact e
 have bn:ac H (upd H8 O (.frz ob (.dT (rp J3 l (aM J3 l))))):=fun b o e=>by rw[am (ag e n0)];exact cc _ _ e
 have d9:upd H8 O (.frz ob (.dT (rp J3 l (aM J3 l)))) dl=some (.lst (([]:Ze).map V.ref)):=by rw[am bm.symm];exact d8
 have n9:upd H8 O (.frz ob (.dT (rp J3 l (aM J3 l)))) O=some (.frz ob (.dT (rp J3 l (aM J3 l)))):=aa;have w9:upd H8 O (.frz ob (.dT (rp J3 l (aM J3 l)))) wl=some (.lst ((br G A y v).map V.str)):=by rw[am (fun z=>by rw[z,n8]at ap;cases ap)];exact ap
 generalize upd H8 O (.frz ob (.dT (rp J3 l (aM J3 l))))=H9 at ce bn d9 n9 w9 ⊢;have cB:wl≠O:=fun z=>by rw[z,n9]at w9;cases w9
 clear n8 d8 ap cc ce;have lJ:∀i,((aM J3 l).take i |>.flatMap (iL Y B A v (br G A y v))).length<=2000:=fun i=>by
  refine bW ?_ few;unfold AL ui;rw[ai]
  conv=>rhs;rw[<-List.take_append_drop i (aM J3 l),pA,aV]
  exact Nat.le_add_right _ _
 let zI:Nat->L2.St->Hp->Prop:=fun i σ I=>Il fun(us:Ze) (x5 x6:Option V)=>Jv (σ=[some (.ref M),some (.ref N),some (.ref wl),some (.ref O),some (.ref dl),x5,x6]) (I dl=some (.lst (us.map V.ref))) (Paired (gq K I) us (((aM J3 l).take i).flatMap (iL Y B A v (br G A y v)))) (ac H I) (I O=some (.frz ob (.dT (rp J3 l (aM J3 l))))) (I wl=some (.lst ((br G A y v).map V.str)))
 have ch:(rp J3 l (aM J3 l)).length=(aM J3 l).length:=by unfold rp;rw[ai]
 refine Di zI ⟨[],_,_,rfl,d9,.nil,bn,n9,w9⟩ (fun i σ I _ zq=>by obtain⟨_,_,_,_,_,_,_,h',_⟩:=zq;exact h') ?_ ?_
 ·rintro i σ H1 a b hi ⟨us,x5,x6,rfl,as,T,S1,n1,w1⟩ ⟨ky,hk,ci⟩;rw[ch]at hi;have hp:(aM J3 l)[i]?=some (aM J3 l)[i]:=fJ hi;have ek:ky=ul (C3 (aM J3 l)[i]):=by
   unfold rp at hk;rw[cH,hp]at hk;have hk:some (ul (C3 (aM J3 l)[i]),V.str (sH J3 l (aM J3 l)[i]))=some (ky,b):=hk;injection hk with hk;injection hk with hk _;exact hk.symm
  have ck:=cp hp;generalize(aM J3 l)[i]=p at hp ek ck;rw[ek]at ci;obtain⟨hr,rfl,a5⟩:=DW ci;have a5:eF K H1 hr (EM p):=a5;obtain⟨p1,p2⟩:=fk.1 ck;refine gN ⟨_,rfl,.inl ⟨rfl,_,av.of as⟩,_,rfl,_,rfl,_,rfl,_,rfl,M,N,hr,wl,p,G,A,J3,y,v,l,br G A y v,Y,B,rfl,MM.same S1,MN.same S1,a5,p1,p2,w1,J.d1,J.d2,fun la ua H2 cC cm _ U=>?_⟩;have D:=S1.trans U;refine⟨_,rfl,_,rfl,_,rfl,_,rfl,M,N,hr,wl,p,G,A,J3,y,v,l,br G A y v,Y,B,rfl,MM.same D,MN.same D,eF.kt (ac.kt U) a5,U _ _ w1,lW,J.d1,J.d2,fun lt ut H3 cL cn _ S3=>?_⟩;have c0:=U.trans S3;have snoc:((aM J3 l).take (i+1)).flatMap (iL Y B A v (br G A y v))=((aM J3 l).take i).flatMap (iL Y B A v (br G A y v))++(nE Y B (br G A y v) p++pV Y B A v (br G A y v) p):=by
   rw[take_snoc hp,pA,vZ];rfl
  have l0:=lJ (i+1);rw[snoc,aV,aV,<-Paired.length cm,<-Paired.length cn,<-Paired.length T]at l0;refine⟨la,lt,_,_,rfl,rfl,S3 _ _ cC,cL,by rw[ai,ai];exact cy (ar (by omega)),fun lc c1=>?_⟩;have S4:ac H3 (upd H3 lc (.lst (ua.map V.ref++ut.map V.ref))):=ac.new c1;have c4:upd H3 lc (.lst (ua.map V.ref++ut.map V.ref)) lc=some (.lst ((ua++ut).map V.ref)):=by rw[aa,aF]
  generalize upd H3 lc (.lst (ua.map V.ref++ut.map V.ref))=H4 at S4 c4 ⊢;have aX:=c0.trans S4;have co:=aX _ _ as;have kt:pd H4 (upd H4 dl (.lst (us.map V.ref++(ua++ut).map V.ref))):=gm co;refine⟨dl,lc,_,_,rfl,rfl,co,c4,by rw[ai,ai,aV];exact cy (ar (by omega)),us++(ua++ut),_,_,rfl,by rw[aa,<-aF],?_,fun b o q=>?_,?_,?_⟩
  ·rw[snoc];exact Paired.app (Paired.mapP T fun _ _ r=>gq.kt kt (gq.kt (ac.kt aX) r)) (Paired.app (Paired.mapP cm fun _ _ r=>gq.kt kt (gq.kt (ac.kt (S3.trans S4)) r)) (Paired.mapP cn fun _ _ r=>gq.kt kt (gq.kt (ac.kt S4) r)))
  ·rw[am (ag q b7)];exact aX _ _ (S1 _ _ q)
  ·rw[am bm];exact aX _ _ n1
  ·rw[am b8];exact aX _ _ w1
 rintro σ H1 ⟨us,x5,x6,rfl,as,T,S1,n1,w1⟩;rw[ch,bJ]at T;have lj:=few;unfold AL at lj;rw[ai]at lj;have T:Paired (gq K H1) us (ui Y B A v J3 l (br G A y v)):=T;have b0:∀e∈ui Y B A v J3 l (br G A y v),e.a∈aM J3 l/\e.b∈aM J3 l:=fun e he=>by
  unfold ui at he;obtain⟨p,hp,he⟩:=eO.1 he;obtain⟨rfl,st⟩:=eg.1 he;exact⟨hp,st.in_ m m' hp⟩
 clear lJ n9 d9 w9 bn b8 cB b7 bm;refine⟨_,rfl,dl,rfl,⟨_,av.of as⟩,fun fl cs=>?_⟩;unfold AL at MJ k;generalize ui Y B A v J3 l (br G A y v)=L at T lj b0 MJ k
 let zC:Nat->List V->Hp->Prop:=fun n vs I=>∃ws:List Addr,Hx (vs=ws.map V.ref) (ac H1 I) (I fl=some (.lst vs)) (cF I ws ((L.take n).map (HS J3 l)))
 refine cE (xs:=us.map V.ref) zC ⟨[],rfl,ac.new cs,aa,.nil⟩ (fun i vs I _ zq=>by obtain⟨_,_,S,h',_⟩:=zq;exact⟨h',av.of (S _ _ as)⟩) ?_ ?_;rotate_left
 ·rintro n vs H2 x hx hn ⟨ws,rfl,U,h2,hw⟩;obtain⟨u,hu,rfl⟩:=eV hx;obtain⟨e,he,hh,s,g,g1,g2,g3,g4⟩:=Paired.getL T hu;have nl:=(bG.1 he).1;obtain⟨ia,ib⟩:=b0 e (cp he);have rd:Rd H2 O (.dT (rp J3 l (aM J3 l))):=.inr ⟨ob,U _ _ n1⟩;refine⟨u,_,rfl,cr.of (U _ _ g1),rfl,_,_,rfl,_,_,rfl,_,_,rfl,rfl,rN ?_⟩;refine⟨_,rfl,_,rfl,O,_,rfl,.inr ⟨_,ul (C3 e.a),hh,rd,rfl,Bx (f:=C3 e.a) (eF.kt (ac.kt U) g2),qG _,(xw ia).symm⟩,?_⟩;refine⟨_,rfl,_,rfl,_,rfl,O,_,rfl,.inr ⟨_,ul (C3 e.b),g,rd,rfl,Bx (f:=C3 e.b) (.inl (U _ _ g4)),qG _,(xw ib).symm⟩,(by show 3<=ak;decide),fun q hq=>?_⟩;have S3:ac H2 (upd H2 q (.tup [.str (sH J3 l e.a),.ref s,.str (sH J3 l e.b)])):=ac.new hq;have q3:upd H2 q (.tup [.str (sH J3 l e.a),.ref s,.str (sH J3 l e.b)]) q=some (.tup [.str (sH J3 l e.a),.ref s,.str (sH J3 l e.b)]):=aa;show _/\_/\_;generalize upd H2 q (.tup [.str (sH J3 l e.a),.ref s,.str (sH J3 l e.b)])=H3 at S3 q3 ⊢;have kt:pd H3 (upd H3 fl (.lst (ws.map V.ref++[.ref q]))):=gm (S3 _ _ h2);refine⟨S3 _ _ h2,by rw[ai,Paired.length hw,ai,aY];exact ar (by omega),r6 hn ⟨ws++[q],by rw[aF];rfl,fun b o z=>?_,aa,?_⟩⟩
  ·rw[am (ag z cs)];exact S3 _ _ (U _ _ z)
  ·rw[take_snoc he,aF];exact jf (Paired.mapP hw fun _ _ r=>fS.kt (fun b xs z=>kt _ _ (S3 _ _ z)) r) ⟨s,kt _ _ q3,kt _ _ (S3 _ _ (U _ _ g3))⟩
 rintro vs H2 ⟨ws,rfl,U,h2,hw⟩;rw[ai,Paired.length T,bJ]at hw;have D:=S1.trans U;have n2:=U _ _ n1;clear T b0 lj as n1 w1 S1 U;refine⟨_,rfl,_,rfl,M,N,G,A,J3,y,v,l,Y,B,rfl,MM.same D,MN.same D,fun al H3 c2 _ S3=>?_⟩;have ab:=D.trans S3;obtain⟨dx,fs,g1,_,g2,_⟩:=(MM.same ab).mth;refine⟨_,rfl,M,dx,fs,rfl,g1,g2,M,G,A,J3,Y,rfl,MM.same ab,fun s1 c3=>?_⟩;have S4:ac H3 (upd H3 s1 (.lst (A.map V.str))):=ac.new c3;have s4:upd H3 s1 (.lst (A.map V.str)) s1=some (.lst (A.map V.str)):=aa;generalize upd H3 s1 (.lst (A.map V.str))=H4 at S4 s4 ⊢;have an:=ab.trans S4;obtain⟨c5,c6,c7,_,c8,_⟩:=(MN.same an).mth;refine⟨_,rfl,N,c5,c6,rfl,c7,c8,N,y,v,l,B,rfl,MN.same an,fun s2 dc=>?_⟩;have S5:ac H4 (upd H4 s2 (.lst (v.map V.str))):=ac.new dc;have s5:upd H4 s2 (.lst (v.map V.str)) s2=some (.lst (v.map V.str)):=aa;show lr (.ref s1) (.ref s2) (upd H4 s2 (.lst (v.map V.str))) _;generalize upd H4 s2 (.lst (v.map V.str))=H5 at S5 s5 ⊢;refine⟨s1,s2,_,_,rfl,rfl,S5 _ _ s4,s5,by rw[ai,ai];exact cy (ar (by omega)),fun sl dd=>?_⟩;have S6:ac H5 (upd H5 sl (.lst (A.map V.str++v.map V.str))):=ac.new dd;have s6:upd H5 sl (.lst (A.map V.str++v.map V.str)) sl=some (.lst ((A++v).map V.str)):=by rw[aa,aF]
 generalize upd H5 sl (.lst (A.map V.str++v.map V.str))=H6 at S6 s6 ⊢;have ct:=S3.trans (S4.trans (S5.trans S6));refine⟨_,rfl,O,_,rfl,.inr ⟨ob,ct _ _ n2⟩,fun rl di=>?_⟩;have e7:(rp J3 l (aM J3 l)).map v5=(gj J3 l).map V.str:=by unfold rp gj;rw[pC,pC];rfl
 rw[e7];have S7:ac H6 (upd H6 rl (.lst ((gj J3 l).map V.str))):=ac.new di;have r7:upd H6 rl (.lst ((gj J3 l).map V.str)) rl=some (.lst ((gj J3 l).map V.str)):=aa;generalize upd H6 rl (.lst ((gj J3 l).map V.str))=H7 at S7 r7 ⊢;have b1:=ct.trans S7;refine⟨_,rfl,fun x dx hx dm dn=>?_⟩;have S8:ac H7 (upd (upd H7 dx (.own x)) x (.ins C dx [])):=(ac.new dm).trans (ac.new (by rw[am dn.symm];exact hx));refine⟨x,dx,al,sl,rl,fl,ws,cQ G A y v,A++v,gj J3 l,L.map (HS J3 l),rfl,aa,⟨S8 _ _ ((S4.trans (S5.trans (S6.trans S7))) _ _ c2),S8 _ _ (S7 _ _ s6),S8 _ _ r7,(b1.trans S8) _ _ h2,hw.kt (ac.kt (b1.trans S8))⟩,MJ,fun I Mx ex=>⟨rfl,k x I Mx fun b o q=>?_⟩⟩;have hq:=(D.trans b1) _ _ q;exact ex _ _ (S8 _ _ hq) (ag hq hx)
def tIs(l:List Int):TA:=l.foldr (fun i t=>aq (tC (.int i)) t) aN
def Jn(L:List (List Int)):TA:=L.foldr (fun l t=>aq (bj (tIs l)) t) aN
theorem Ee{σ:L2.St}:∀(l:List Int) {H:Hp}{Q:List V->Hp->Prop},Q (l.map V.int) H->tIs l σ H Q
 |[],_,_,h=>h
 |i::l,H,Q,h=>Ee (σ:=σ) l (H:=H) (Q:=fun xs a=>Q (.int i::xs) a) h
theorem Ed{σ:L2.St}:∀(L:List (List Int)) {H:Hp}{Q:List V->Hp->Prop},(∀l∈L,l.length<=2000) ->
  (∀(f:Ze) (g:Hp),ac H g->Paired (fun a (l:List Int)=>g a=some (.lst (l.map V.int))) f L->(∀a∈f,H a=none)->f.Nodup->Q (f.map V.ref) g)->Jn L σ H Q
 |[],H,Q,_,k=>k [] H (fun _ _ e=>e) .nil (fun a h=>by cases h) .nil
 |l::L,H,Q,i,k=>by
  show tIs l σ H fun xs j=>xs.length<=ak/\∀p,j p=none->Jn L σ (upd j p (.lst xs)) fun xs q=>Q (.ref p::xs) q;refine Ee l ⟨by rw[ai];exact cy (ar (i l eL)),fun p m=>?_⟩;have S:ac H (upd H p (.lst (l.map V.int))):=ac.new m;refine Ed L (fun r h=>i r (eU _ h)) fun f g n s o t=>k (p::f) g (S.trans n) (.cons (n _ _ aa) s) (fun a ha=>?_) ?_
  ·rcases cK.1 ha with rfl|ha
   ·exact m
   ·exact S.free (o a ha)
  ·refine iF.2 ⟨fun z=>?_,t⟩;have:=o p z;rw[aa]at this;cases this
theorem Ei{L:List (List Int)}{j:Nat}{rest:TS}{D:eR}{σ:L2.St}{H:Hp}(h:∀l∈L,l.length<=2000)(i:L.length<=2000)
  (k:∀(e:Ze) (f:Hp) (y:Addr),ac H f->Paired (fun a (l:List Int)=>f a=some (.lst (l.map V.int))) e L->(∀a∈e,H a=none)->e.Nodup->f y=none->rest D (σ.set j (some (.ref y))) (upd f y (.lst (e.map V.ref)))):ax (a_ (bj (Jn L)) (dI j)) rest D σ H :=
 show Jn L σ H _ from Ed L h fun e f S g m n=>⟨by rw[ai,Paired.length g];exact cy (ar i),fun y o=>k e f y S g m n o⟩
def cf(i j:Nat):Bool:=decide ((i,j)∈[(0,1),(2,3)])
structure WI(lim:Nat)(P:Zb)(S:Nat->List Str):Prop where
 nd:∀k,k<4->(S k).Nodup
 len:∀k,k<4->(S k).length<=lim
 sub:∀k,k<4->∀w∈S k,w∈P
 ap:∀i j,cf i j=true->∀w∈S i,w∉S j
def yS(S:Nat->List Str)(k:Nat)(w:Str):Nat->List Str:=fun j=>if j=k then S k++[w]else S j
theorem jC{S:Nat->List Str}{k:Nat}{w:Str}:yS S k w k=S k++[w]:=if_pos rfl
theorem oO{S:Nat->List Str}{k j:Nat}{w:Str}(h:j≠k):yS S k w j=S j:=if_neg h
theorem Hq{i j:Nat}(h:cf i j=true):i<4/\j<4/\i≠j:=by
 have h:=of_decide_eq_true h;simp only[cK,jT,or_false,Bm]at h;omega
structure Jw(lim:Nat)(S0:Nat->List Str)(w:Str)(l:List Nat)(S:Nat->List Str):Prop where
 at_:∀k,k<4->S k=S0 k∨(k∈l/\S k=S0 k++[w]/\(S0 k).length<lim)
theorem Jw.wi{g:Nat}{S0 S:Nat->List Str}{P:Zb}{w:Str}{l:List Nat}(h:Jw g S0 w l S)(W:WI g P S0)(n:w∉P)(p:∀i j,cf i j=true->¬(i∈l/\j∈l)):WI g (P++[w]) S:=by
 have m:∀k,k<4->∀x∈S k,x∈S0 k∨(x=w/\k∈l):=fun k f x hx=>by
  rcases h.at_ k f with e|⟨q,r,_⟩
  ·rw[e]at hx;exact .inl hx
  ·rw[r]at hx;rcases bE.1 hx with z|z
   ·exact .inl z
   ·exact .inr ⟨fH.1 z,q⟩
 refine⟨fun k f=>?_,fun k f=>?_,fun k f x hx=>?_,fun i j c x hx s=>?_⟩
 ·rcases h.at_ k f with e|⟨_,e,_⟩
  ·rw[e];exact W.nd k f
  ·rw[e];refine dk.2 ⟨W.nd k f,iF.2 ⟨by simp,.nil⟩,fun a t b u z=>?_⟩;rw[fH.1 u]at z;exact n (z▸W.sub k f a t)
 ·rcases h.at_ k f with e|⟨_,e,z⟩
  ·rw[e];exact W.len k f
  ·rw[e,aV];show _+1<=g;omega
 ·rcases m k f x hx with z|z
  ·exact cN _ (W.sub k f x z)
  ·exact cV _ (fH.2 z.1)
 ·obtain⟨hi,o,ne⟩:=Hq c;rcases m i hi x hx with z|z<;>rcases m j o x s with y|y
  ·exact W.ap i j c x z y
  ·exact n (y.1▸W.sub i hi x z)
  ·exact n (z.1▸W.sub j o x y)
  ·exact p i j c ⟨z.2,y.2⟩
structure TW(H0:Hp)(p c:Addr)(A:Nat->Addr)(S:Nat->List Str)(H':Hp):Prop where
 pen:gp H' p c
 ex:∀b o,H0 b=some o->b≠p->(∀k,k<4->b≠A k)->H' b=some o
 s:∀k,k<4->H' (A k)=some (.lst ((S k).map V.str))
structure TA4(p c:Addr)(A:Nat->Addr):Prop where
 p:∀k,k<4->A k≠p
 c:∀k,k<4->A k≠c
 inj:∀i j,i<4->j<4->A i=A j->i=j
section
variable{H0 H' H'':Hp}{p c:Addr}{A:Nat->Addr}{S:Nat->List Str}
theorem TW.took(h:TW H0 p c A S H')(a:TA4 p c A)(f:gp H'' p c)(ex:dU p H' H''):TW H0 p c A S H'':=⟨f,fun b o q n m=>ex _ _ (h.ex b o q n m) n,fun k e=>ex _ _ (h.s k e) (a.p k e)⟩
theorem TW.same(h:TW H0 p c A S H')(e:ac H' H''):TW H0 p c A S H'':=⟨h.pen.ex e,fun b o q n m=>e _ _ (h.ex b o q n m),fun k a=>e _ _ (h.s k a)⟩
theorem TW.put(h:TW H0 p c A S H')(a:TA4 p c A){k:Nat}(f:k<4)(w:Str):TW H0 p c A (yS S k w) (upd H' (A k) (.lst ((S k).map V.str++[.str w]))):=by
 refine⟨h.pen.upd (a.p k f).symm (a.c k f).symm,fun b o q n m=>?_,fun j g=>?_⟩
 ·rw[am (m k f)];exact h.ex b o q n m
 ·by_cases e:j=k
  ·subst e;rw[aa,jC,aF];rfl
  ·rw[am (fun z=>e (a.inj j k g f z)),oO e];exact h.s j g
end
structure AS(S:Nat->List Str):Prop where
 ok:∀k,k<4->e_ (S k)
 ne:∀k,k<4->S k≠[]
 len:∀k,k<4->(S k).length<=4
 ap:∀i j,cf i j=true->∀w∈S i,w∉S j
inductive su(vs:List V)(H:Hp)(Q:VK)(E:XK):Prop
 |mk (p c:Addr) (L:Nat):(vs=[.ref p,.int (L:Int)])->(L<=1)->(gp H p c)->(∀(sm:Addr) (A:Nat->Addr) (S:Nat->List Str) (H':Hp),F4 H' sm A S->AS S->gp H' p c->dU p H H'->Q (.ref sm) H')->su vs H Q E
def yu:List (List Int):=[[0],[0],[1],[1],[2],[2],[3],[3],[1,2],[1,2],[0,3],[0,3],[],[0,2],[1,3]]
def tH:List (List Nat):=[[0],[0],[1],[1],[2],[2],[3],[3],[1,2],[1,2],[0,3],[0,3],[],[0,2],[1,3]]
theorem FT{r:Nat}(h:r<15):∃l:List Nat,yu[r]?=some (l.map Int.ofNat)/\l.Nodup/\(∀k∈l,k<4)/\(∀i j,cf i j=true->¬(i∈l/\j∈l)):=by
 have:∀r:_root_.Fin 15,yu[r.1]?=some ((tH.getD r.1 []).map Int.ofNat)/\(tH.getD r.1 []).Nodup/\(∀k∈tH.getD r.1 [],k<4)/\¬(0∈tH.getD r.1 []/\1∈tH.getD r.1 [])/\¬(2∈tH.getD r.1 []/\3∈tH.getD r.1 []):=by decide
 obtain⟨a,e,f,g,m⟩:=this ⟨r,h⟩;refine⟨_,a,e,f,fun i j c=>?_⟩;have c:=of_decide_eq_true c;simp only[cK,jT,or_false,Bm]at c;rcases c with⟨rfl,rfl⟩|⟨rfl,rfl⟩
 ·exact g
 ·exact m
theorem Gg{K:Za}{vs:List V}{H:Hp}{Q:VK}{E:XK}(h:su vs H Q E):rO K lp eK lg (bQ Q) (start r9 vs) H:=by
 obtain⟨p,c,L,rfl,hL,hp,k⟩:=h;refine⟨_,rfl,p,c,13,rfl,hp,by decide,fun wl t H1 ok len _ a9 an cB=>?_⟩;show ax _ _ _ _ _;refine Ei (L:=[[],[],[],[]]) (by decide) (by decide) fun Y H2 v S2 pr fr nd as=>?_;obtain⟨b0,b1,b2,b3,rfl⟩:∃b0 b1 b2 b3,Y=[b0,b1,b2,b3]:=by
  have:=Paired.length pr;rcases Y with _|⟨b0,_|⟨b1,_|⟨b2,_|⟨b3,_|⟨b4,Y⟩⟩⟩⟩⟩
  ·cases this
  ·cases this
  ·cases this
  ·cases this
  ·exact⟨_,_,_,_,rfl⟩
  ·simp at this
 let A:Nat->Addr:=fun k=>[b0,b1,b2,b3].getD k 0
 have hA:∀k,k<4->H2 (A k)=some (.lst [])/\H1 (A k)=none:=fun k f=>by
  have g:[b0,b1,b2,b3][k]?=some (A k):=by
   rcases k with _|_|_|_|k
   ·rfl
   ·rfl
   ·rfl
   ·rfl
   ·omega
  obtain⟨l,hl,h⟩:=Paired.getL pr g;have:l=[]:=by
   have:=cp hl;simpa using this
  rw[this]at h;exact⟨h,fr _ (cp g)⟩
 have a6:∀i j,i<4->j<4->A i=A j->i=j:=fun i j hi G e=>by
  have l4:[b0,b1,b2,b3].length=4:=rfl;have g:∀k (h:k<4),A k=[b0,b1,b2,b3][k]:=fun k h=>by
   show[b0,b1,b2,b3].getD k 0=_;rw[List.getD_eq_getElem?_getD,fJ (by omega)]
   rfl
  rw[g i hi,g j G]at e;have pw:=List.pairwise_iff_getElem.1 nd;rcases Nat.lt_trichotomy i j with h|h|h
  ·exact absurd e (pw i j (by omega) (by omega) h)
  ·exact h
  ·exact absurd e.symm (pw j i (by omega) (by omega) h)
 have S3:ac H2 (upd H2 v (.lst ([b0,b1,b2,b3].map V.ref))):=ac.new as;have b7:upd H2 v (.lst ([b0,b1,b2,b3].map V.ref)) v=some (.lst [.ref (A 0),.ref (A 1),.ref (A 2),.ref (A 3)]):=aa;have a7:∀k,k<4->v≠A k:=fun k f=>(ag (hA k f).1 as).symm;show ax _ _ _ _ _;refine Ei (L:=yu) (by decide) (by decide) fun Y H4 yl S4 py fy _ aC=>?_;have S5:ac H4 (upd H4 yl (.lst (Y.map V.ref))):=ac.new aC;have bb:upd H4 yl (.lst (Y.map V.ref)) yl=some (.lst (Y.map V.ref)):=aa;generalize upd H4 yl (.lst (Y.map V.ref))=H5 at S5 bb ⊢;have bd:=an.ex S2;have aT:=bd.ex S3;have bi:=(aT.ex S4).ex S5;have w5:=S5 _ _ (S4 _ _ (S3 _ _ (S2 _ _ a9)));have b8:=S5 _ _ (S4 _ _ b7);have A5:∀k,k<4->H5 (A k)=some (.lst []):=fun k f=>S5 _ _ (S4 _ _ (S3 _ _ (hA k f).1));have ce:Paired (fun a (l:List Int)=>H5 a=some (.lst (l.map V.int))) Y yu:=Paired.mapP py fun _ _ r=>S5 _ _ r;have TA:TA4 p c A:=⟨fun k f=>(an.nep (hA k f).2).symm,fun k f=>(an.nec (hA k f).2).symm,a6⟩;have nw:wl≠p/\∀k,k<4->wl≠A k:=⟨an.ne_strs a9,fun k f=>ag a9 (hA k f).2⟩;have N:v≠p/\∀k,k<4->v≠A k:=⟨(bd.nep as).symm,a7⟩;have ch:yl≠p/\∀k,k<4->yl≠A k:=⟨((aT.ex S4).nep aC).symm,fun k f=>(ag (S4 _ _ (S3 _ _ (hA k f).1)) aC).symm⟩;have aX:∀a∈Y,a≠p/\∀k,k<4->a≠A k:=fun a ha=>⟨(aT.nep (fy a ha)).symm,fun k f=>(ag (S3 _ _ (hA k f).1) (fy a ha)).symm⟩;have fA:∀k,k<4->H1 (A k)=none:=fun k f=>(hA k f).2;have ci:ac H1 H5:=S2.trans (S3.trans (S4.trans S5));clear hA nd fr pr a6 b7 S2 S3 S4 S5 bd aT py fy aC as a7
 clear_value A
 refine⟨_,rfl,_,rfl,wl,_,rfl,av.of w5,fun q hq=>?_⟩;have ck:kJ (t.map V.str) none (some (8:Int))=(t.take 8).map V.str:=Cb t 8;rw[ck];have S6:ac H5 (upd H5 q (.lst ((t.take 8).map V.str))):=ac.new hq;have q6:upd H5 q (.lst ((t.take 8).map V.str)) q=some (.lst ((t.take 8).map V.str)):=aa;refine⟨q,rfl,⟨_,av.of aa⟩,?_⟩;generalize upd H5 q (.lst ((t.take 8).map V.str))=H6 at S6 q6 ⊢;have nq:q≠p/\∀k,k<4->q≠A k:=⟨(bi.nep hq).symm,fun k f=>(ag (A5 k f) hq).symm⟩;have T0:TW H6 p c A (fun _=>[]) H6:=⟨bi.ex S6,fun b o e _ _=>e,fun k f=>S6 _ _ (A5 k f)⟩;have w6:=S6 _ _ w5;have I:=S6 _ _ b8;have cC:=S6 _ _ bb;have c0:Paired (fun a (l:List Int)=>H6 a=some (.lst (l.map V.int))) Y yu:=Paired.mapP ce fun _ _ r=>S6 _ _ r;have c1:=ci.trans S6;clear ci S6 w5 b8 bb ce hq bi A5;have bl:=ok.1
 let zI:Nat->L2.St->Hp->Prop:=fun i σ H'=>Il fun(S:Nat->List Str) (x5 x6:Option V)=>NA3 (σ=[some (.ref p),some (.int (L:Int)),some (.ref wl),some (.ref v),some (.ref yl),x5,x6]) (TW H6 p c A S H') (WI (2+2 * L) (t.take i) S)
 refine bS (xs:=(t.take 8).map V.str) zI ⟨_,_,_,rfl,T0,⟨fun _ _=>.nil,fun _ _=>dA _,(fun _ _ w h=>by cases h),(fun _ _ _ w h=>by cases h)⟩⟩ (fun i σ H' _ zq=>by obtain⟨_,_,_,_,T,_⟩:=zq;exact av.of (T.ex _ _ q6 nq.1 nq.2)) ?_ ?_
 ·rintro i x σ H7 hx ⟨S,x5,x6,rfl,T7,W7⟩;obtain⟨w,hw,rfl⟩:=bx hx;have i8:i<8:=by
   have:=(bG.1 hw).1;rw[aY]at this;omega
  have u:t[i]?=some w:=by rw[mS i8]at hw;exact hw
  have wn:w∉t.take i:=fun z=>by
   obtain⟨j,G⟩:=mI z;have jl:=(bG.1 G).1;rw[aY]at jl;rw[mS (by omega)]at G;have:=oZ bl G u;omega
  refine gN ⟨_,rfl,_,rfl,_,rfl,_,_,rfl,rfl,.inl ⟨by decide,by decide⟩,_,_,rfl,rfl,dX T7.pen (by omega) (by omega) fun r H8 r0 r1 c3 c4=>?_⟩;have O:=T7.took TA c3 c4;obtain⟨n,rfl⟩:∃n:Nat,r=n:=⟨r.toNat,by omega⟩;have c5:n<15:=by omega
  obtain⟨l,hl,c6,l4,lc⟩:=FT c5;obtain⟨yr,cl,ya⟩:=Paired.get c0 hl;have a0:=cp cl;refine⟨yl,_,n,_,rfl,rfl,av.of (O.ex _ _ cC ch.1 ch.2),cT (by rw[cH,cl];rfl),yr,rfl,⟨_,av.of (O.ex _ _ ya (aX yr a0).1 (aX yr a0).2)⟩,?_⟩
  let zJ:Nat->L2.St->Hp->Prop:=fun j σ H'=>Hw fun(m:Nat->List Str) (x6:Option V)=>NA3 (σ=[some (.ref p),some (.int (L:Int)),some (.ref wl),some (.ref v),some (.ref yl),some (.str w),x6]) (TW H6 p c A m H') (Jw (2+2 * L) S w (l.take j) m)
  refine bS (xs:=(l.map Int.ofNat).map V.int) zJ ⟨S,_,rfl,O,⟨fun k f=>.inl rfl⟩⟩ (fun i σ H' _ zq=>by obtain⟨_,_,_,T,_⟩:=zq;exact av.of (T.ex _ _ ya (aX yr a0).1 (aX yr a0).2)) ?_ ?_
  ·rintro j y σ U hy ⟨m,x6,rfl,J,M9⟩;rw[cH,cH]at hy;obtain⟨y',c7,rfl⟩:=Option.map_eq_some_iff.1 hy;obtain⟨B,a4,rfl⟩:=Option.map_eq_some_iff.1 c7;have k4:=l4 B (cp a4);have kn:B∉l.take j:=fun z=>by
    obtain⟨j',bm⟩:=mI z;have jl:=(bG.1 bm).1;rw[aY]at jl;rw[mS (by omega)]at bm;obtain⟨a1,e1⟩:=bG.1 bm;obtain⟨a2,e2⟩:=bG.1 a4;exact List.pairwise_iff_getElem.1 c6 j' j a1 a2 (by omega) (e1.trans e2.symm)
   have eS:m B=S B:=(M9.at_ B k4).elim id fun z=>absurd z.1 kn;have C:=J.s B k4;have ab:=J.ex _ _ I N.1 N.2;refine gN ⟨_,rfl,_,rfl,v,_,B,_,rfl,rfl,av.of ab,F4.ix k4,.inl ⟨A B,_,rfl,.inl (av.of C),_,rfl,_,_,rfl,rfl,.inl ⟨by decide,by decide⟩,_,_,rfl,rfl,_,_,rfl,rfl,_,rfl,?_⟩⟩;have lS:=W7.len B k4;have ec:decide ((((m B).map V.str).length:Int)<2+2 * (L:Int))=decide ((S B).length<2+2 * L):=by rw[ai,eS];exact decide_eq_decide.2 (by omega)
   rw[ec];have bn:l.take (j+1)=l.take j++[B]:=by
    obtain⟨a1,e1⟩:=bG.1 a4;rw[List.take_succ,a4];rfl
   by_cases c2:(S B).length<2+2 * L
   ·rw[zzr1 c2];refine bC ⟨_,rfl,_,rfl,v,_,B,_,rfl,rfl,av.of ab,F4.ix k4,.inl ⟨rfl,_,av.of C⟩,_,rfl,A B,_,_,rfl,rfl,C,by rw[ai,eS];exact ar (by omega),yS m B w,_,rfl,J.put TA k4 w,⟨fun k f=>?_⟩⟩;by_cases e:k=B
    ·subst e;refine .inr ⟨by rw[bn];exact cV _ (fH.2 rfl),by rw[jC,eS],c2⟩
    ·rw[oO e,bn];exact(M9.at_ k f).imp id fun z=>⟨cN _ z.1,z.2⟩
   ·rw[zzr0 c2];refine bv ⟨m,_,rfl,J,⟨fun k f=>?_⟩⟩;rw[bn];exact(M9.at_ k f).imp id fun z=>⟨cN _ z.1,z.2⟩
  ·rintro σ U ⟨m,x6,rfl,J,M9⟩;rw[ai,ai,bJ]at M9;refine⟨m,_,_,rfl,J,?_⟩;rw[take_snoc u];exact M9.wi W7 wn lc
 rintro σ H7 ⟨S,x5,x6,rfl,T7,W7⟩;have l8:((t.take 8).map V.str).length=8:=by rw[ai,aY,len];rfl
 rw[l8]at W7;refine⟨4,rfl,by decide,by decide,?_⟩
 let zR:Nat->L2.St->Hp->Prop:=fun i σ H'=>Hw fun(S:Nat->List Str) (x6:Option V)=>Hx (σ=[some (.ref p),some (.int (L:Int)),some (.ref wl),some (.ref v),some (.ref yl),x5,x6]) (TW H6 p c A S H') (WI (2+2 * L) (t.take (8+i)) S) (∀k,k<i->S k≠[])
 refine jH (lo:=0) (n:=4) zR ⟨S,_,rfl,T7,W7,fun k f=>by omega⟩ ?_ ?_
 ·rintro i σ H8 i4 ⟨m,di,rfl,O,D,N8⟩;have e0:(0:Int)+(i:Int)=(i:Int):=Int.zero_add _;rw[e0];have b5:=O.ex _ _ I N.1 N.2;have dm:=O.s i i4;refine gN ⟨_,rfl,_,rfl,v,_,i,_,rfl,rfl,av.of b5,F4.ix i4,(by show 0<=ak;decide),fun e he=>?_⟩;have J:=O.same (ac.new (o:=.lst []) he);have e9:upd H8 e (.lst []) e=some (.lst []):=aa;have C:upd H8 e (.lst []) (A i)=some (.lst ((m i).map V.str)):=J.s i i4;have ab:upd H8 e (.lst []) v=_:=J.ex _ _ I N.1 N.2;have w9:upd H8 e (.lst []) wl=_:=J.ex _ _ w6 nw.1 nw.2;show lq K (.ref (A i)) (.ref e) (upd H8 e (.lst [])) _;generalize upd H8 e (.lst [])=U at J e9 C ab w9 ⊢;refine⟨.s ((m i).map cq),.s [],eo (av.of C),sL (av.of e9),by show DT.depths ((m i).map cq)+1<=8;rw[dC];decide,by decide,_,rfl,?_⟩;have ec:decide (DT.s ((m i).map cq)=DT.s [])=decide (m i=[]):=decide_eq_decide.2 ⟨fun z=>by injection z with z;exact eh (y:=[]) z,fun z=>by rw[z];rfl⟩;rw[ec];have u:t[8+i]?=some t[8+i]:=fJ (by omega);have wn:t[8+i]∉t.take (8+i):=fun z=>by
   obtain⟨j,G⟩:=mI z;have jl:=(bG.1 G).1;rw[aY]at jl;rw[mS (by omega)]at G;have:=oZ bl G u;omega
  have cm:t.take (8+(i+1))=t.take (8+i)++[t[8+i]]:=take_snoc u;by_cases c:m i=[]
  ·rw[zzr1 c];refine bC ⟨_,rfl,_,rfl,v,_,i,_,rfl,rfl,av.of ab,F4.ix i4,.inl ⟨rfl,_,av.of C⟩,_,rfl,_,rfl,_,_,rfl,rfl,wl,_,((8+i:Nat):Int),_,rfl,by simp,av.of w9,cT (by rw[cH,u];rfl),A i,_,_,rfl,rfl,C,by rw[c];decide,yS m i t[8+i],_,rfl,J.put TA i4 _,?_,fun k f=>?_⟩
   ·rw[cm];refine Jw.wi (S0:=m) (l:=[i]) ⟨fun k f=>?_⟩ D wn fun a b cc z=>?_
    ·by_cases e:k=i
     ·subst e;exact .inr ⟨fH.2 rfl,jC,by rw[c];show 0<2+2 * L;omega⟩
     ·exact .inl (oO e)
    ·exact(Hq cc).2.2 ((fH.1 z.1).trans (fH.1 z.2).symm)
   ·by_cases e:k=i
    ·subst e;rw[jC];simp
    ·rw[oO e];exact N8 k (by omega)
  ·rw[zzr0 c];refine bv ⟨m,_,rfl,J,⟨D.nd,D.len,fun k f w hw=>?_,D.ap⟩,fun k f=>?_⟩
   ·rw[cm];exact cN _ (D.sub k f w hw)
   ·by_cases e:k=i
    ·subst e;exact c
    ·exact N8 k (by omega)
 clear W7 T7 x6;rintro σ H8 ⟨m,x6,rfl,O,D,N8⟩;clear S;have b5:=O.ex _ _ I N.1 N.2;have F8:F4 H8 v A m:=⟨b5,O.s⟩;have b6:∀(a5:Nat->List Str) (U:Hp),TW H6 p c A a5 U->AS a5->Q (.ref v) U:=fun a5 U T W=>by
  refine k v A a5 U ⟨T.ex _ _ I N.1 N.2,T.s⟩ W T.pen fun b o e n=>?_;have e1:=cB _ _ e n;exact T.ex _ _ (c1 _ _ e1) n fun k f=>ag e1 (fA k f)
 have names:∀k,k<4->e_ (m k):=fun k f=>⟨D.nd k f,fun w hw=>ok.2 w (sS (D.sub k f w hw))⟩;have W0:AS m:=⟨names,N8,fun k f=>by have:=D.len k f;omega,D.ap⟩;have l0:=D.len 0 (by decide);by_cases cL:L=0;rotate_left
 ·refine⟨_,rfl,rfl,_,rfl,?_⟩;rw[zzr0 (fun z:V.int (L:Int)=V.int 0=>by injection z with z;omega)];exact bv (bv ⟨_,rfl,b6 m H8 O W0⟩)
 subst cL;refine⟨_,rfl,rfl,_,rfl,bC ?_⟩;refine⟨_,rfl,v,A,m,rfl,F8,W0.len,fun al U c8 _ S9=>⟨(by show 0<=ak;decide),fun e he=>?_⟩⟩;have M:=(O.same S9).same (ac.new (o:=.lst []) he);have cn:upd U e (.lst []) e=some (.lst []):=aa;have a8:upd U e (.lst []) al=some (.lst ((cQ (m 0) (m 1) (m 2) (m 3)).map V.str)):=ac.new he _ _ c8;show lq K (.ref al) (.ref e) (upd U e (.lst [])) _;generalize upd U e (.lst [])=dc at M cn a8 ⊢;refine⟨.s ((cQ (m 0) (m 1) (m 2) (m 3)).map cq),.s [],eo (av.of a8),sL (av.of cn),by show DT.depths (List.map cq _)+1<=8;rw[dC];decide,by decide,_,rfl,?_⟩;cases decide (DT.s ((cQ (m 0) (m 1) (m 2) (m 3)).map cq)=DT.s []);rotate_left
 ·have co:=M.ex _ _ I N.1 N.2;have dd:=M.ex _ _ w6 nw.1 nw.2;have h0:=M.s 0 (by decide);have u:t[12]?=some t[12]:=fJ (by omega);have wn:∀k,k<4->t[12]∉m k:=fun k f z=>by
   obtain⟨j,G⟩:=mI (D.sub k f _ z);have jl:=(bG.1 G).1;rw[aY]at jl;rw[mS (by omega)]at G;have:=oZ bl G u;omega
  refine bC ⟨_,rfl,v,_,0,_,rfl,rfl,av.of co,F4.ix (k:=0) (by decide),.inl ⟨rfl,_,av.of h0⟩,_,rfl,wl,_,((12:Nat):Int),_,rfl,rfl,av.of dd,cT (by rw[cH,u];rfl),A 0,_,_,rfl,rfl,h0,by rw[ai];exact ar (by omega),_,rfl,b6 (yS m 0 t[12]) _ (M.put TA (by decide) _) ?_⟩;have cs:=cp u;generalize t[12]=w at wn cs;have p0:yS m 0 w 0=m 0++[w]:=jC;have pn:∀k,k≠0->yS m 0 w k=m k:=fun k f=>oO f;refine⟨fun k f=>?_,fun k f=>?_,fun k f=>?_,fun i j cc x hx=>?_⟩
  ·by_cases e:k=0
   ·subst e;rw[p0];refine⟨dk.2 ⟨D.nd 0 f,iF.2 ⟨by simp,.nil⟩,fun a ha b hb z=>?_⟩,fun x hx=>?_⟩
    ·rw[fH.1 hb]at z;exact wn 0 f (z▸ha)
    ·rcases bE.1 hx with z|z
     ·exact(names 0 f).2 x z
     ·rw[fH.1 z];exact ok.2 w cs
   ·rw[pn k e];exact names k f
  ·by_cases e:k=0
   ·subst e;rw[p0];simp
   ·rw[pn k e];exact N8 k f
  ·by_cases e:k=0
   ·subst e;rw[p0,aV];show _+1<=4;omega
   ·rw[pn k e];exact W0.len k f
  ·have c2:=of_decide_eq_true cc;simp only[cK,jT,or_false,Bm]at c2;have ct:=D.ap i j cc;rcases c2 with⟨rfl,rfl⟩|⟨rfl,rfl⟩
   ·rw[p0]at hx;rw[pn 1 (by decide)];rcases bE.1 hx with z|z
    ·exact ct x z
    ·rw[fH.1 z];exact wn 1 (by decide)
   ·rw[pn 2 (by decide)]at hx;rw[pn 3 (by decide)];exact ct x hx
 ·exact bv ⟨_,rfl,b6 m dc M W0⟩
inductive on(vs:List V)(H:Hp)(Q:VK)(E:XK):Prop
 |mk (p c l1 l2:Addr) (J0 J2:Zb) (most:Int):(vs=[.ref p,.ref l1,.ref l2,.int most])->(gp H p c)->(H l1=some (.lst (J0.map V.str)))->(H l2=some (.lst (J2.map V.str)))->(e_ J0)->(e_ J2)->((∀w∈J2,w∉J0))->(J0≠[])->(J2≠[])->(J0.length<=4)->(J2.length<=4)->(0<most)->(most<=11) ->
  (∀(t l3 l4:Addr) (ts:Ze) (J3:Zb) (ds:List ao) (H':Hp),jv H' t l1 l2 l3 l4 ts J0 J2 J3 ds->aR J0 J2 J3 ds->J3.length<=11->ds.length<=600->H l4=none->gp H' p c->dU p H H'->Q (.ref t) H')->on vs H Q E
theorem Er{K:Za}{vs:List V}{H:Hp}{Q:VK}{E:XK}(h:on vs H Q E):zZ K gD eK lg (bQ Q) (start AX vs) H:=by
 obtain⟨p,c,l1,l2,J0,J2,al,rfl,y,h1,h2,A,B,apart,a0,s0,a3,s4,m0,m3,k⟩:=h;refine⟨_,rfl,_,rfl,_,rfl,dX y m0 (by omega) fun r H1 r0 r1 C D=>?_⟩;obtain⟨rn,rfl⟩:=kM r0;refine⟨_,_,rfl,rfl,p,c,1+rn,rfl,C,by omega,fun G I H2 m j an u e J=>?_⟩;have L:=D.trans J;have v:=L _ _ h1 (y.ne_strs h1);have w:=L _ _ h2 (y.ne_strs h2);have x:I≠[]:=fun z=>by rw[z]at j;rw[kU]at j;omega
 refine⟨_,rfl,_,rfl,_,rfl,_,rfl,_,rfl,dX e (by decide) (by decide) fun f H3 f0 f1 a g=>?_⟩;have e3:=L.trans g;have n:=g _ _ v (e.ne_strs v);have o:=g _ _ w (e.ne_strs w);have q:=g _ _ u (e.ne_strs u);refine⟨p,c,l1,l2,G,J0,J2,I,f,rfl,a,n,o,q,a3,s0,s4,x,by omega,f0,by omega,fun l4 ts ds up H4 M N O nd l few T i=>?_⟩;have e4:=e3.trans i;have U:=i _ _ n (a.ne_strs n);have Y:=i _ _ o (a.ne_strs o);have ab:=i _ _ q (a.ne_strs q);refine⟨_,rfl,_,rfl,_,rfl,_,rfl,(by show 4<=ak;decide),fun t ht=>?_⟩;have s:ac H4 (upd H4 t (.tup [.ref l1,.ref l2,.ref G,.ref l4])):=ac.new ht;refine k t G l4 ts I ds _ ⟨aa,s _ _ U,s _ _ Y,s _ _ ab,s _ _ N,O.kt (ac.kt s)⟩ ⟨A,B,apart,m,a0,s0,x,by omega,s4,by omega,nd,fun d hd=>(l d hd).d,by omega,fun r h=>(DU m.1 l h).irr m.1⟩ (by omega) few (by obtain⟨xs,hx⟩:=a.lst;exact e3.free hx M) (T.ex s) (e4.trans (dU.new ht))
inductive iX (vs:List V)(H:Hp)(Q:VK)(E:XK):Prop
 |mk (p c t l1 l2 l3 l4:Addr) (ts:Ze) (J0 J2 J3:Zb) (ds:List ao):(vs=[.ref p,.ref t])->(gp H p c)->(jv H t l1 l2 l3 l4 ts J0 J2 J3 ds)->(aR J0 J2 J3 ds)->(J3.length<=26)->(ds.length<=800)->(∀(t' l4':Addr) (ts':Ze) (ds':List ao) (H':Hp),jv H' t' l1 l2 l3 l4' ts' J0 J2 J3 ds'->aR J0 J2 J3 ds'->(∀r∈J3,∀a∈J0,lI ds' r a)->ds'.length<=ds.length+4 * J3.length->H l4'=none->gp H' p c->dU p H H'->Q (.ref t') H')->iX  vs H Q E
theorem yM{K:Za}{vs:List V}{H:Hp}{Q:VK}{E:XK}(h:iX vs H Q E):uP K le eK (gL K) (bQ Q) (start vb vs) H:=by
 obtain⟨p,c,t,l1,l2,O,l4,ts,J0,U,C,ds,rfl,hp,T,m,b3,z8,k⟩:=h;have a4:=m.asks4;refine⟨_,rfl,t,_,rfl,cr.of T.t,rfl,_,_,rfl,_,_,rfl,_,_,rfl,_,_,rfl,rfl,?_⟩;refine⟨_,rfl,.inl ⟨l4,_,rfl,.inl (av.of T.a4),fun f hf=>?_⟩⟩;have B0:TX H p c f (WR J0 U C [] ds.length) (upd H f (.lst (ts.map V.ref))):=⟨hp.ex (ac.new hf),⟨ts,ds,aa,T.ds.kt (ac.kt (ac.new hf)),m,aK _,by simp⟩,dU.new hf,hf,hp.nep hf,hp.nec hf⟩;generalize upd H f (.lst (ts.map V.ref))=H1 at B0 ⊢;have A:∀{I:Hp}{R:List ao->Prop},TX H p c f R I->I l1=some (.lst (J0.map V.str))/\I l2=some (.lst (U.map V.str))/\I O=some (.lst (C.map V.str)):=fun B =>
  ⟨B.ex _ _ T.a1 (hp.ne_strs T.a1),B.ex _ _ T.a2 (hp.ne_strs T.a2),B.ex _ _ T.a3 (hp.ne_strs T.a3)⟩
 refine⟨_,rfl,O,rfl,⟨_,av.of (A B0).2.2⟩,?_⟩
 let aX:Nat->L2.St->Hp->Prop:=fun i σ I=>NE4 fun(a6 Y a8 a9:Option V)=>σ=[some (.ref p),some (.ref t),some (.ref l1),some (.ref l2),some (.ref O),some (.ref f),a6,Y,a8,a9]/\TX H p c f (WR J0 U C ((C.take i).flatMap fun r=>J0.map fun a=>(r,a)) (ds.length+4 * i)) I
 refine bS (xs:=C.map V.str) aX
  ⟨_,_,_,_,rfl,B0⟩ (fun i σ I _ zq=>by obtain⟨_,_,_,_,_,B⟩:=zq;exact av.of (A B).2.2) ?_ ?_
 ·rintro i v σ H2 hi ⟨a6,Y,a8,a9,rfl,J⟩;obtain⟨r,hr,rfl⟩:=bx hi;have b4:i<C.length:=(bG.mp hr).1;have ab:=cp hr;refine⟨_,rfl,l1,rfl,⟨_,av.of (A J).1⟩,?_⟩
  let a0:Nat->L2.St->Hp->Prop:=fun j σ I=>Il fun(Y a8 a9:Option V)=>σ=[some (.ref p),some (.ref t),some (.ref l1),some (.ref l2),some (.ref O),some (.ref f),some (.str r),Y,a8,a9]/\TX H p c f (WR J0 U C ((C.take i).flatMap (fun r=>J0.map fun a=>(r,a))++(J0.take j).map fun a=>(r,a)) (ds.length+4 * i+j)) I
  refine bS (xs:=J0.map V.str) a0
   ⟨_,_,_,rfl,J.imp fun ds h=>by simpa using h⟩ (fun i σ I _ zq=>by obtain⟨_,_,_,_,B⟩:=zq;exact av.of (A B).1) ?_ ?_
  ·rintro j v σ H3 hj ⟨Y,a8,a9,rfl,B3⟩;obtain⟨a,ha,rfl⟩:=bx hj;have b5:j<J0.length:=(bG.mp ha).1;have a5:=cp ha;have al:∀D n,WR J0 U C ((C.take i).flatMap (fun r=>J0.map fun a=>(r,a))++(J0.take j).map fun a=>(r,a)) n D->lI D r a->WR J0 U C ((C.take i).flatMap (fun r=>J0.map fun a=>(r,a))++(J0.take (j+1)).map fun a=>(r,a)) n D:=fun D n w tk=>by
    refine⟨w.1,w.2.1,fun x hx=>?_⟩;rw[take_snoc ha,aF,<-ef]at hx;rcases bE.mp hx with h|h
    ·exact w.2.2 x h
    ·have:x=(r,a):=by simpa using h
     rw[this];exact tk
   refine⟨_,rfl,_,rfl,(by show 1<=ak;decide),fun q hq=>?_⟩;have B4:=B3.same (ac.new (o:=.lst [.str r]) hq);have q4:upd H3 q (.lst [.str r]) q=some (.lst [.str r]):=aa;generalize upd H3 q (.lst [.str r])=H4 at B4 q4 ⊢;obtain⟨us,D,g1,g2,G⟩:=B4.ds;refine⟨f,q,us,D,[r],C,rfl,g1,g2,q4,fun d hd=>(G.1.good d hd).b,by omega,(by show 1<=2000;decide),fun th F H5 bb hF _ _ S5=>?_⟩;have B5:=B4.same S5;have f5:=S5 _ _ g1;have d5:=g2.kt (ac.kt S5);refine⟨_,rfl,f,rfl,⟨_,av.of f5⟩,fun l hl=>?_⟩;refine zr (K:=K) (jt:=8) (ja:=7) rfl rfl f5 d5 bb G.1.few hl fun vs H6 h6 D6 S6=>⟨(by show 0<=ak;decide),fun e he=>?_⟩;refine zh (kp h6 he) (D6.kt (ac.kt (ac.new he))) aa ⟨_,rfl,?_⟩;have S7:ac H5 (upd H6 e (.lst [])):=S6.trans (ac.new he);generalize upd H6 e (.lst [])=H7 at S7 ⊢;have f7:=S7 _ _ f5;have d7:=d5.kt (ac.kt S7);have B7:TX H p c f (fun an=>an=D) H7:=by
    have B:=B5.same S7;exact⟨B.pen,⟨us,D,f7,d7,rfl⟩,B.ex,B.fr,B.pl,B.cl⟩
   cases q:takesB D r a with
   |true =>
    rw[zzr0 (fun z=>by rw[o8 hF,q]at z;cases z)];exact bv ⟨_,_,_,rfl,B7.imp fun an e=>by rw[e];exact al _ _ (G.up (by omega)) (q0.mp q)⟩
   |false =>
    rw[zzr1 ((o8 hF).mpr q)];refine bC ?_;have bd:=(A B7).2.2;refine⟨_,rfl,_,rfl,_,rfl,_,rfl,.inl ⟨O,_,rfl,.inl (av.of bd),?_⟩⟩;rw[ai];refine dX B7.pen (by omega) (by omega) fun x H8 x0 x1 bi bl=>?_;obtain⟨n,rfl⟩:=kM x0;have B8:=B7.took bi bl;obtain⟨w,hw⟩:∃w,C[n]?=some w:=⟨_,fJ (by omega)⟩;refine⟨O,_,(n:Int),.str w,rfl,rfl,av.of (A B8).2.2,cT (j:=n) (by rw[cH,hw];rfl),(by show 2<=ak;decide),fun u hu=>?_⟩;have B9:=B8.same (ac.new (o:=.lst [.str r,.str w]) hu);have u9:upd H8 u (.lst [.str r,.str w]) u=some (.lst ([r,w].map V.str)):=aa;generalize upd H8 u (.lst [.str r,.str w])=H9 at B9 u9 ⊢;refine⟨_,rfl,dX B9.pen (by decide) (by decide) fun y L y0 y1 ap M=>?_⟩;have bm:=B9.took ap M;obtain⟨g,hg,bn⟩:∃g,xR ([r,w].map V.str) y=some (.str g)/\g∈C:=by
     have:y=0∨y=1:=by omega
     rcases this with rfl|rfl
     ·exact⟨r,rfl,ab⟩
     ·exact⟨w,rfl,cp hw⟩
    refine⟨u,_,y,.str g,rfl,rfl,av.of (M _ _ u9 (B9.pen.ne_strs u9)),hg,?_⟩;refine⟨_,rfl,_,rfl,_,rfl,(by show 2<=ak;decide),fun s hs=>⟨_,rfl,(by show 3<=ak;decide),fun d hd=>?_⟩⟩;have as:ac L (upd (upd L s (.tup [.str "ask",.str a])) d (.tup [.str r,.ref s,.str g])):=(ac.new hs).trans (ac.new hd);have N:fS (upd (upd L s (.tup [.str "ask",.str a])) d (.tup [.str r,.ref s,.str g])) d ⟨r,eE a,g⟩:=⟨s,aa,kp aa hd⟩;generalize upd (upd L s (.tup [.str "ask",.str a])) d (.tup [.str r,.ref s,.str g])=b6 at as N ⊢;have aC:=bm.same as;obtain⟨b0,b1,k1,k2,rfl⟩:=id aC.ds;have zz:=G.2.1;have aT:vX J0 U C ⟨r,eE a,g⟩:=⟨ab,bn,.inl ⟨a,a5,rfl⟩⟩;refine⟨f,d,b0,_,⟨r,eE a,g⟩,rfl,k1,k2,N,G.1.few,fun b7 D2=>?_⟩;refine⟨_,_,_,rfl,aC.put ⟨_,k1⟩ D2 (al _ _ ⟨G.1.putOne aT (Du a) (by omega),?_,fun x hx=>(G.2.2 x hx).mono fun y hy=>mem_putD.mpr (.inl hy)⟩ ⟨r,.inl rfl,g,mem_putD.mpr (.inr rfl)⟩)⟩;have:=t4 b1 ⟨r,eE a,g⟩;omega
  ·rintro σ H3 ⟨Y,a8,a9,rfl,B3⟩;refine⟨_,_,_,_,rfl,B3.imp fun D h=>?_⟩;rw[ai]at h;refine⟨h.1,by have:=h.2.1;omega,fun x hx=>h.2.2 x ?_⟩;rw[take_snoc hr,pA]at hx;rw[bJ];simpa using hx
 ·rintro σ H2 ⟨a6,Y,a8,a9,rfl,J⟩;rw[ai,bJ]at J;obtain⟨us,D,g1,g2,G⟩:=J.ds;obtain⟨q1,q2,q3⟩:=A J;refine⟨_,rfl,_,rfl,_,rfl,_,rfl,(by show 4<=ak;decide),fun t' b2=>?_⟩;have S3:=ac.new (o:=.tup [.ref l1,.ref l2,.ref O,.ref f]) b2;exact k t' f us D _ ⟨aa,S3 _ _ q1,S3 _ _ q2,S3 _ _ q3,S3 _ _ g1,g2.kt (ac.kt S3)⟩ G.1 (fun r hr a ha=>G.2.2 (r,a) (eO.mpr ⟨r,hr,aL.mpr ⟨a,ha,rfl⟩⟩)) G.2.1 J.fr (J.pen.ex S3) (J.ex.trans (ac.exB S3))
structure TY(H0:Hp)(p c l:Addr)(R:List ao->Prop)(H:Hp):Prop where
 pen:gp H p c
 ds:∃ts ds,H l=some (.lst (ts.map V.ref))/\cF H ts ds/\R ds
 ex:∀b o,H0 b=some o->b≠p->b≠l->H b=some o
 pl:p≠l
 cl:c≠l
section
variable{H0 H H':Hp}{p c l:Addr}{R R':List ao->Prop}
theorem TY.took(h:TY H0 p c l R H)(a:gp H' p c)(e:dU p H H'):TY H0 p c l R H':=by
 obtain⟨f,g,i,j,k⟩:=h.ds;obtain⟨xs,hx⟩:=h.pen.lst;exact⟨a,⟨f,g,e _ _ i h.pl.symm,j.kt (e.kt hx),k⟩,fun b o q n m=>e _ _ (h.ex b o q n m) n,h.pl,h.cl⟩
theorem TY.same(h:TY H0 p c l R H)(S:ac H H'):TY H0 p c l R H':=h.took (h.pen.ex S) (ac.exB S)
theorem TY.put{a:Ze}{e:List ao}(h:TY H0 p c l R H)(f:∃xs,H l=some (.lst xs))(g:cF H a e)(r:R' e):TY H0 p c l R' (upd H l (.lst (a.map V.ref))):=by
 obtain⟨xs,hx⟩:=f;refine⟨h.pen.upd h.pl h.cl,⟨a,e,aa,g.kt fun b i q=>?_,r⟩,fun b o q n m=>?_,h.pl,h.cl⟩
 ·rw[am (fun z=>by rw[z,hx]at q;cases q)];exact q
 ·rw[am m];exact h.ex _ _ q n m
end
abbrev anyR(K:Za)(sp_law_take sp_law_put:Sp):TS :=
 ax (a_ V3 (g6 K 4 (be U1 (be U2 (be U4 (be U5 (gR)))))))
 (ax (df (aW (aE EE (aO sp_law_take (aG V0 (tC (.int 3)))) (tC (.int 0)))) (ax (a_ (aE eN (tC (.int 39)) (aO sp_law_take (aG V0 (tC (.int 4))))) U6)
 (eJ (rB (au (aE fM (aE fM (cU (cu K) (au V4)) (cU (cu K) (au V4))) (cU (cu K) (au V2))))) U7 (ax (a_ (aE (cj K) V4 (aE f6 V7 (cU (cu K) (au V4)))) U8)
 (ax (a_ (aE (cj K) V4 (aE f6 (aE tX V7 (cU (cu K) (au V4))) (cU (cu K) (au V4)))) U9)
 (df (aW (aE C0 (cU (cu K) (au V5)) V6)) (dH (aO sp_law_put (aq V5 (aq (ca (aq V8 (aq (ca (aq (tC (.str "say")) (aq (aE (cj K) V2 (aE tX V7 (aE fM (cU (cu K) (au V4)) (cU (cu K) (au V4))))) aN))) (au V9)))) aN)))) (bA)))))) (bA))
 (bt (ca (aq V1 (dP V2 V4 V5)))))
inductive sy(vs:List V)(H:Hp)(Q:VK)(E:XK):Prop
 |mk (p c l1 l2:Addr) (J0 J2:Zb):(vs=[.ref p,.ref l1,.ref l2])->(gp H p c)->(H l1=some (.lst (J0.map V.str)))->(H l2=some (.lst (J2.map V.str)))->(e_ J0)->(e_ J2)->((∀w∈J2,w∉J0))->(J0≠[])->(J2≠[])->(J0.length<=4)->(J2.length<=4) ->
  (∀(t l3 l4:Addr) (ts:Ze) (J3:Zb) (ds:List ao) (H':Hp),jv H' t l1 l2 l3 l4 ts J0 J2 J3 ds->aR J0 J2 J3 ds->J3.length<=11->ds.length<=650->gp H' p c->dU p H H'->Q (.ref t) H')->sy vs H Q E
theorem zv{K:Za}{p c t I A e f:Addr}{ts:Ze}{J0 h a:Zb}{J:List ao}{H D:Hp}{Q:VK}(T:jv D t I A e f ts J0 h a J)(m:aR J0 h a J)(U:a.length<=11)(few:J.length<=650)(fr:H f=none)(Y:gp D p c)(e1:dU p H D)(ab:gp H p c)(h1:H I=some (.lst (J0.map V.str)))(h2:H A=some (.lst (h.map V.str)))
  (k:∀(t e f:Addr) (ts:Ze) (a:Zb) (J:List ao) (y:Hp),jv y t I A e f ts J0 h a J->aR J0 h a J->a.length<=11->J.length<=650->gp y p c->dU p H y->Q (.ref t) y) :
  anyR K eK le (bQ Q) [some (.ref p),some (.ref I),some (.ref A),some (.ref t),none,none,none,none,none,none] D:=by
 refine⟨_,rfl,t,_,rfl,cr.of T.t,rfl,_,_,rfl,_,_,rfl,_,_,rfl,_,_,rfl,rfl,?_⟩;have n1:I≠f:=ag h1 fr;have n2:A≠f:=ag h2 fr;have al:=m.rooms0;have n3:e≠f:=fun z=>by
  have a3:=T.a3;rw[z,T.a4]at a3;injection a3 with a3;injection a3 with a3;rcases a with _|⟨r,rs⟩
  ·exact al rfl
  ·rcases ts with _|⟨u,us⟩
   ·cases a3
   ·injection a3 with a3;cases a3
 have B1:TY D p c f (fun j=>aR J0 h a j/\j.length<=650) D:=⟨Y,⟨ts,J,T.a4,T.ds,m,few⟩,fun _ _ q _ _=>q,ab.nep fr,ab.nec fr⟩;have an:∀H2:Hp,TY D p c f (fun j=>aR J0 h a j/\j.length<=650) H2->∀(x3 x6 x7 x8 x9:Option V),(bt (ca (aq V1 (dP V2 V4 V5)))) (bQ Q) [some (.ref p),some (.ref I),some (.ref A),x3,some (.ref e),some (.ref f),x6,x7,x8,x9] H2:=fun H2 B x3 x6 x7 x8 x9=>by
  obtain⟨us,es,g1,g2,g3,g4⟩:=B.ds;refine⟨_,rfl,_,rfl,_,rfl,_,rfl,(by show 4<=ak;decide),fun t' a0=>?_⟩;have S3:=ac.new (o:=.tup [.ref I,.ref A,.ref e,.ref f]) a0;refine k t' e f us a es _ ⟨aa,S3 _ _ (B.ex _ _ T.a1 (Y.ne_strs T.a1) n1),S3 _ _ (B.ex _ _ T.a2 (Y.ne_strs T.a2) n2),S3 _ _ (B.ex _ _ T.a3 (Y.ne_strs T.a3) n3),S3 _ _ g1,g2.kt (ac.kt S3)⟩ g3 U g4 (B.pen.ex S3) fun b o q n=>S3 _ _ (B.ex _ _ (e1 _ _ q n) n (ag q fr))
 refine⟨_,rfl,dX Y (by decide) (by decide) fun x H2 x0 x1 ap a5=>⟨rfl,_,rfl,?_⟩⟩;have B2:=B1.took ap a5;refine qE (fun _=>?_) (fun _=>an H2 B2 _ _ _ _ _);refine⟨_,rfl,dX ap (by decide) (by decide) fun g H3 g0 g4 a6 a7=>⟨_,_,rfl,rfl,?_⟩⟩;have B3:=B2.took a6 a7;have k1:∀{y:Hp}{R:List ao->Prop},TY D p c f R y->y A=some (.lst (h.map V.str)):=fun B=>B.ex _ _ T.a2 (Y.ne_strs T.a2) n2;have G:∀{y:Hp}{R:List ao->Prop},TY D p c f R y->y e=some (.lst (a.map V.str)):=fun B=>B.ex _ _ T.a3 (Y.ne_strs T.a3) n3;have s4:=m.says4;have l:=pi.2 al;have a9:=pi.2 m.says0;refine⟨_,rfl,.inl ⟨e,_,rfl,.inl (av.of (G B3)),_,rfl,.inl ⟨e,_,rfl,.inl (av.of (G B3)),?_⟩⟩⟩;rw[ai];refine⟨_,_,rfl,rfl,.inl ⟨by omega,by omega⟩,_,rfl,.inl ⟨A,_,rfl,.inl (av.of (k1 B3)),?_⟩⟩;rw[ai];have rr:a.length * a.length<=121:=pq U U;have rs:a.length * a.length * h.length<=484:=pq rr s4;have er:((a.length:Nat):Int) * (a.length:Nat)=((a.length * a.length:Nat):Int):=(Int.natCast_mul _ _).symm;have es:((a.length * a.length:Nat):Int) * (h.length:Nat)=((a.length * a.length * h.length:Nat):Int):=(Int.natCast_mul _ _).symm;refine⟨((a.length * a.length:Nat):Int),_,congrArg V.int er,rfl,.inl ⟨by omega,by omega⟩,?_⟩;refine⟨((a.length * a.length * h.length:Nat):Int),congrArg (fun x=>[V.int x]) es,by omega,by omega,?_⟩;have bb:0<a.length * a.length:=Nat.mul_pos l l;generalize hN:a.length * a.length * h.length=N at rs;rw[show((N:Nat):Int).toNat=N from rfl]
 let zI:Nat->L2.St->Hp->Prop:=fun i σ y=>Il fun(x7 x8 x9:Option V)=>σ=[some (.ref p),some (.ref I),some (.ref A),some (.ref t),some (.ref e),some (.ref f),some (.int (39+g)),x7,x8,x9]/\TY D p c f (fun j=>aR J0 h a j/\j.length<=650) y
 refine jH (lo:=0) (n:=N) zI ⟨_,_,_,rfl,B3⟩ ?_ (by rintro σ H4 ⟨x7,x8,x9,rfl,v⟩;exact an H4 v _ _ _ _ _);rintro i σ H4 hi ⟨x7,x8,x9,rfl,v⟩;rw[show(0:Int)+(i:Int)=(i:Int)from Int.zero_add _];have i1:i % a.length<a.length:=mJ _ l;have i2:i / a.length % a.length<a.length:=mJ _ l;have i3:i / (a.length * a.length)<h.length:=Nat.div_lt_of_lt_mul (by rw[hN];exact hi);obtain⟨L,as⟩:∃w,a[i % a.length]?=some w:=⟨_,fJ i1⟩;obtain⟨M,aC⟩:∃w,a[i / a.length % a.length]?=some w:=⟨_,fJ i2⟩;obtain⟨E,aT⟩:∃w,h[i / (a.length * a.length)]?=some w:=⟨_,fJ i3⟩;have j1:(i:Int) % (a.length:Nat)=((i % a.length:Nat):Int):=by rw[Int.natCast_emod]
 have j2:(i:Int) / (a.length:Nat) % (a.length:Nat)=((i / a.length % a.length:Nat):Int):=by rw[Int.natCast_emod,Int.natCast_ediv]
 have j3:(i:Int) / ((a.length * a.length:Nat):Int)=((i / (a.length * a.length):Nat):Int):=by rw[Int.natCast_ediv]
 refine gN ⟨_,rfl,_,rfl,_,rfl,.inl ⟨e,_,rfl,.inl (av.of (G v)),?_⟩⟩;rw[ai];refine⟨_,_,rfl,rfl,by omega,?_⟩;refine⟨e,_,_,.str L,rfl,congrArg V.int j1,av.of (G v),cT (by rw[cH,as];rfl),?_⟩;refine⟨_,rfl,_,rfl,_,rfl,.inl ⟨e,_,rfl,.inl (av.of (G v)),?_⟩⟩;rw[ai];refine⟨_,_,rfl,rfl,⟨by omega,by omega⟩,_,rfl,.inl ⟨e,_,rfl,.inl (av.of (G v)),?_⟩⟩;rw[ai];refine⟨_,_,rfl,rfl,by omega,?_⟩;refine⟨e,_,_,.str M,rfl,congrArg V.int j2,av.of (G v),cT (by rw[cH,aC];rfl),?_⟩;obtain⟨us,fs,g1,g2,g3,g5⟩:=v.ds;refine⟨_,rfl,.inl ⟨f,_,rfl,.inl (av.of g1),_,rfl,_,_,rfl,rfl,_,rfl,?_⟩⟩;rw[ai,Paired.length g2];refine qE (fun q=>?_) (fun _=>⟨_,_,_,rfl,v⟩);have q:=of_decide_eq_true q;refine⟨_,rfl,_,rfl,_,rfl,_,rfl,_,rfl,.inl ⟨e,_,rfl,.inl (av.of (G v)),_,rfl,.inl ⟨e,_,rfl,.inl (av.of (G v)),?_⟩⟩⟩;rw[ai];refine⟨_,_,rfl,rfl,.inl ⟨by omega,by omega⟩,?_⟩;refine⟨_,((a.length * a.length:Nat):Int),rfl,congrArg V.int er,⟨by omega,by omega⟩,?_⟩;refine⟨A,_,_,.str E,rfl,congrArg V.int j3,av.of (k1 v),cT (by rw[cH,aT];rfl),(by show 2<=ak;decide),fun s hs=>⟨_,rfl,(by show 3<=ak;decide),fun d hd=>?_⟩⟩;have C:ac H4 (upd (upd H4 s (.tup [.str "say",.str E])) d (.tup [.str L,.ref s,.str M])):=(ac.new hs).trans (ac.new hd);have O:fS (upd (upd H4 s (.tup [.str "say",.str E])) d (.tup [.str L,.ref s,.str M])) d ⟨L,fu E,M⟩:=⟨s,aa,kp aa hd⟩;generalize upd (upd H4 s (.tup [.str "say",.str E])) d (.tup [.str L,.ref s,.str M])=bd at C O ⊢;have a8:=v.same C;have aX:vX J0 h a ⟨L,fu E,M⟩:=⟨cp as,cp aC,.inr (.inl ⟨E,cp aT,rfl⟩)⟩;have sn:fu E≠aB:=by unfold fu aB;intro z;cases z
 refine⟨f,d,us,fs,⟨L,fu E,M⟩,rfl,C _ _ g1,g2.kt (ac.kt C),O,g3.few,fun bi D2=>?_⟩;have:=t4 fs ⟨L,fu E,M⟩;exact⟨_,_,_,rfl,a8.put ⟨_,C _ _ g1⟩ D2 ⟨g3.putOne aX sn (by omega),by omega⟩⟩
theorem Gp{K:Za}{w:List V}{H:Hp}{Q:VK}{E:XK}(h:sy w H Q E):tK K eK le iX on (bQ Q) (start uF w) H:=by
 obtain⟨p,c,y,z,A,B,rfl,i,j,l,n,o,G,I,J,L,M,k⟩:=h;refine⟨_,rfl,_,rfl,_,rfl,p,c,y,z,A,B,11,rfl,i,j,l,n,o,G,I,J,L,M,by decide,by decide,fun t N O U Y ds H1 T m e few fr f q=>?_⟩;refine⟨_,rfl,dX f (by decide) (by decide) fun x H2 x0 x1 a g=>⟨_,_,rfl,rfl,_,rfl,?_⟩⟩;have C:=T.ex f g;have r:=q.trans g;refine qE (fun _=>?_) (fun _=>zv C m e (by omega) fr a r i j l k);refine⟨_,rfl,_,rfl,p,c,t,y,z,N,O,U,A,B,Y,ds,rfl,a,C,m,by omega,by omega,fun t' ab al an H3 T3 m3 _ D s u v=>?_⟩;obtain⟨xs,hx⟩:=a.lst;exact zv T3 m3 e (by omega) (r.free hx s) u (r.trans v) i j l k
theorem rH{K:Za}{σ:L2.St}{H:Hp}{q:List Nat}{a b l sm:Addr}{p:List V}{j:Int}{g os:Zb}{Q:Hp->Prop}(hσ:cx 1 q σ=[none,some (.ref sm)])(u:H sm=some (.tup p))(y:xR p j=some (.ref b))(A:H a=some (.lst (g.map V.str)))(B:H b=some (.lst (os.map V.str)))(r:H l=none)(L:g.length<=900)
  (k:∀f,ac H f->f l=some (.lst ((g.filter fun w=>decide (w∈os)).map V.str))->Q f) :
  cR 1 q σ (Cm K a) U0 (aW (aE (jB K false) V0 (aE (jo K) V1 (tC (.int j))))) V0 H l Q:=by
 let C:Nat->List V->Hp->Prop:=fun i m f=>m=((g.take i).filter fun w=>decide (w∈os)).map V.str/\ac H f/\f l=some (.lst m)
 refine cE (xs:=g.map V.str) C ⟨rfl,ac.new r,aa⟩ (fun i m f _ D=>by obtain⟨_,S,E⟩:=D;exact⟨E,av.of (S _ _ A)⟩) ?_ ?_
 ·rintro m s ⟨rfl,S,n⟩;rw[ai,bJ]at n;exact k s S n
 ·rintro i m s x hx hi ⟨rfl,S,n⟩;obtain⟨w,t,rfl⟩:=bx hx;rw[hσ];refine gN ⟨_,rfl,_,rfl,sm,p,j,_,rfl,rfl,cr.of (S _ _ u),y,cq w,os.map cq,b,_,rfl,rfl,.inl (av.of (S _ _ B)),js os,dA _,by rw[fC];decide,_,rfl,?_⟩;have G:(cq w∈os.map cq)↔w∈os:=⟨fun z=>by obtain⟨v,I,e⟩:=aL.1 z;have e:DT.k (.inr v)=DT.k (.inr w):=e;injection e with e;injection e with e;rw[<-e];exact I,gU⟩;have J:(if false=true then !decide (cq w∈os.map cq)else decide (cq w∈os.map cq))=decide (w∈os):=decide_eq_decide.2 G
  rw[J];by_cases c:w∈os
  ·rw[zzr1 c];refine bC ⟨_,rfl,n,?_,r6 hi ⟨?_,fun b o e=>?_,aa⟩⟩
   ·rw[ai]at hi ⊢;exact ar (bW (cW _ _) (by rw[aY];omega))
   ·rw[take_snoc t,iu,aF];have:[w].filter (fun w=>decide (w∈os))=[w]:=by rw[jR,if_pos (zzr1 c)];rfl
    rw[this];rfl
   ·rw[am (ag e r)];exact S _ _ e
  ·rw[zzr0 c];refine bv (r6 hi ⟨?_,S,n⟩);rw[take_snoc t,iu];have:[w].filter (fun w=>decide (w∈os))=[]:=by rw[jR,if_neg (by rw[zzr0 c];decide)];rfl
   rw[this,dO]
abbrev Hg:TS:=bt (ca (au (tC (.str "join"))))
theorem jF{D:eR}{σ:L2.St}{H:Hp}(k:∀u a,a u=some (.tup [.str "join"])->ac H a->D.rt (.ref u) a):Hg D σ H :=
 ⟨(by show 1<=ak;decide),fun u e=>k u _ aa (ac.new e)⟩
theorem vO{K:Za}{D:eR}{g h i j:Option V}{t o p k l:Addr}{q:Ze}{r s a:Zb}{e:List ao}{H:Hp}(T:jv H t o p k l q r s a e)
  (v:a.length<=10/\e.length<=40->D.nx [g,h,i,j,some (.ref t)] H) (m:¬(a.length<=10/\e.length<=40)->∀u f,f u=some (.tup [.str "join"])->ac H f->D.rt (.ref u) f) :
  (df (BB (aW (aE oJ (cU (cu K) (au (aE (jo K) V4 (tC (.int 2))))) (tC (.int 10)))) (aW (aE oJ (cU (cu K) (au (aE (jo K) V4 (tC (.int 3))))) (tC (.int 40))))) Hg bA) D [g,h,i,j,some (.ref t)] H:=by
 refine⟨_,rfl,t,_,2,_,rfl,rfl,cr.of T.t,rfl,.inl ⟨k,_,rfl,.inl (av.of T.a3),_,_,rfl,rfl,_,rfl,?_⟩⟩;rw[ai];by_cases c:a.length<=10;rotate_left
 ·rw[zzr1 (by omega)];exact bC (bC (jF (m fun z=>c z.1)))
 rw[zzr0 (by omega)];refine bv ?_;refine⟨_,rfl,t,_,3,_,rfl,rfl,cr.of T.t,rfl,.inl ⟨l,_,rfl,.inl (av.of T.a4),_,_,rfl,rfl,_,rfl,?_⟩⟩;rw[ai,Paired.length T.ds];by_cases n:e.length<=40
 ·rw[zzr0 (by omega)];exact bv (v ⟨c,n⟩)
 ·rw[zzr1 (by omega)];exact bC (jF (m fun z=>n z.2))
abbrev notT(sp_law_not_taken:Sp):TS:=df (tB (BC (aO sp_law_not_taken (au V4)))) (bt (aO sp_law_not_taken (au V4))) (bA)
theorem vN{K:Za}{D:eR}{w x y A:Option V}{t l o p q:Addr}{s:Ze}{f j g:Zb}{h:List ao}{H:Hp}(T:jv H t l o p q s f j g h)(m:aR f j g h)
  (C:lack h f g=none->∀i,ac H i->D.nx [w,x,y,A,some (.ref t)] i) (E:∀r a,lack h f g=some (r,a)->∀u i,i u=some (.tup [.str r,.str a])->ac H i->D.rt (.ref u) i) :
  notT (oq K) D [w,x,y,A,some (.ref t)] H:=by
 refine⟨_,rfl,t,l,o,p,q,s,f,j,g,h,rfl,T,m,fun n B k=>⟨_,rfl,?_⟩,fun r a e u B O k=>⟨_,rfl,?_⟩⟩
 ·rw[zzr1 rfl];exact bv (C n B k)
 ·rw[zzr0 (fun z=>by cases z)];refine bC ⟨_,rfl,t,l,o,p,q,s,f,j,g,h,rfl,T.same k,m,fun n=>?_,fun G I J L M v N=>?_⟩
  ·rw[n]at e;cases e
  ·exact E G I J L M v (k.trans N)
inductive ow(K:Za)(vs:List V)(H:Hp)(Q:VK)(E:XK):Prop
 |mk (t l1 l2 l3 l4 t' m1 m2 m3 m4:Addr) (ts ts':Ze) (J0 J2 J3 asks' says' rooms':Zb) (ds ds':List ao):(vs=[.ref t,.ref t'])->(jv H t l1 l2 l3 l4 ts J0 J2 J3 ds)->(aR J0 J2 J3 ds)->(jv H t' m1 m2 m3 m4 ts' asks' says' rooms' ds')->(aR asks' says' rooms' ds') ->
  (¬JoinOk J0 J2 J3 asks' says' rooms' ds ds'->∀u H',H' u=some (.tup [.str "join"])->ac H H'->Q (.ref u) H') ->
  (JoinOk J0 J2 J3 asks' says' rooms' ds ds'->∀r a,lack ds J0 J3=some (r,a)->∀u H',H' u=some (.tup [.str r,.str a])->ac H H'->Q (.ref u) H') ->
  (JoinOk J0 J2 J3 asks' says' rooms' ds ds'->lack ds J0 J3=none->∀r a,lack ds' asks' rooms'=some (r,a)->∀u H',H' u=some (.tup [.str r,.str a])->ac H H'->Q (.ref u) H') ->
  (JoinOk J0 J2 J3 asks' says' rooms' ds ds'->lack ds J0 J3=none->lack ds' asks' rooms'=none->∀l al sl H',H' l=some (.lst [.ref al,.ref sl])->H' al=some (.lst ((cQ J0 J2 asks' says').map V.str))->H' sl=some (.lst ((J2++says').map V.str))->ac H H'->Q (.ref l) H')->ow K vs H Q E
theorem Gm{K:Za}{vs:List V}{H:Hp}{Q:VK}{E:XK}(h:ow K vs H Q E):pY K (oq K) lp (bQ Q) (start qM vs) H:=by
 obtain⟨t,l1,l2,l3,l4,B,m1,m2,m3,m4,ts,cm,C,J2,J3,o,f,A,ds,aT,rfl,T,m,T',m',kj,k1,k2,k⟩:=h;have y1:=m.asks4;have y2:=m.says4;have y3:=m'.asks4;have y4:=m'.says4;refine⟨_,rfl,t,_,0,_,rfl,rfl,cr.of T.t,rfl,_,rfl,t,_,1,_,rfl,rfl,cr.of T.t,rfl,_,rfl,B,_,0,_,rfl,rfl,cr.of T'.t,rfl,_,rfl,B,_,1,_,rfl,rfl,cr.of T'.t,rfl,(by show 4<=ak;decide),fun q hq=>?_⟩;have S1:ac H (upd H q (.lst [.ref l1,.ref l2,.ref m1,.ref m2])):=ac.new hq;have q1:upd H q (.lst [.ref l1,.ref l2,.ref m1,.ref m2]) q=some (.lst [.ref l1,.ref l2,.ref m1,.ref m2]):=aa;generalize upd H q (.lst [.ref l1,.ref l2,.ref m1,.ref m2])=H1 at S1 q1 ⊢;have T1:=T.same S1;have aX:=T'.same S1;refine⟨q,fun k=>[l1,l2,m1,m2].getD k 0,fun k=>[C,J2,o,f].getD k [],rfl,⟨q1,fun k hk=>?_⟩,fun k hk=>?_,fun al H2 Y _ S2=>?_⟩
 ·rcases k with _|_|_|_|k
  ·exact T1.a1
  ·exact T1.a2
  ·exact aX.a1
  ·exact aX.a2
  ·omega
 ·rcases k with _|_|_|_|k
  ·exact y1
  ·exact y2
  ·exact y3
  ·exact y4
  ·omega
 have Y:H2 al=some (.lst ((cQ C J2 o f).map V.str)):=Y;have p:=S1.trans S2;clear S1 S2 T1 aX q1;have T2:=T.same p;have a5:=T'.same p;refine⟨_,rfl,t,_,1,_,rfl,rfl,cr.of T2.t,rfl,_,rfl,B,_,1,_,rfl,rfl,cr.of a5.t,rfl,l2,m2,_,_,rfl,rfl,T2.a2,a5.a2,by rw[ai,ai];exact cy (ar (by omega)),fun sl bn=>?_⟩;have S3:ac H2 (upd H2 sl (.lst (J2.map V.str++f.map V.str))):=ac.new bn;have a6:upd H2 sl (.lst (J2.map V.str++f.map V.str)) sl=some (.lst ((J2++f).map V.str)):=by rw[aa,aF]
 generalize upd H2 sl (.lst (J2.map V.str++f.map V.str))=H3 at S3 a6 ⊢;have b0:=S3 _ _ Y;have b1:=p.trans S3;clear p S3 T2 a5 Y bn;refine⟨_,rfl,_,rfl,(by show 2<=ak;decide),fun fl b2=>?_⟩;have S4:ac H3 (upd H3 fl (.lst [.ref t,.ref B])):=ac.new b2;have f4:upd H3 fl (.lst [.ref t,.ref B]) fl=some (.lst [.ref t,.ref B]):=aa;generalize upd H3 fl (.lst [.ref t,.ref B])=H4 at S4 f4 ⊢;have L:=b1.trans S4;have T4:=T.same L;have M:=T'.same L;have b3:=S4 _ _ b0;have b4:=S4 _ _ a6;clear b1 S4 b0 a6 b2;refine⟨fl,rfl,⟨_,av.of f4⟩,?_⟩
 let zI:Nat->L2.St->Hp->Prop:=fun i σ v=>∃x4:Option V,σ=[some (.ref t),some (.ref B),some (.ref al),some (.ref sl),x4]/\v=H4/\(0<i->J3.length<=10/\ds.length<=40)/\(1<i->A.length<=10/\aT.length<=40)
 refine bS (xs:=[.ref t,.ref B]) zI ⟨_,rfl,rfl,fun z=>absurd z (mD _),fun z=>absurd z (by decide)⟩ (fun i σ v _ zq=>by obtain⟨_,_,e,_⟩:=zq;rw[e];exact av.of f4) ?_ ?_
 ·rintro i x σ H5 hx ⟨x4,rfl,rfl,c1,c2⟩;rcases i with _|_|i
  ·cases hx;exact gN (vO T4 (fun c=>⟨_,rfl,rfl,fun _=>c,fun z=>absurd z (by decide)⟩) fun n u v D S=>kj (fun J=>n ⟨J.r1,J.d1⟩) u v D (L.trans S))
  ·cases hx;exact gN (vO M (fun c=>⟨_,rfl,rfl,fun _=>c1 (by decide),fun _=>c⟩) fun n u v D S=>kj (fun J=>n ⟨J.r2,J.d2⟩) u v D (L.trans S))
  ·cases hx
 rintro σ H5 ⟨x4,rfl,rfl,c1,c2⟩;have c1:=c1 (by show 0<2;decide);have c2:=c2 (by show 1<2;decide);refine⟨_,rfl,t,_,0,_,rfl,rfl,cr.of T4.t,rfl,l1,rfl,⟨_,av.of T4.a1⟩,fun a hl=>?_⟩;refine rH (sm:=B) (j:=((0:Nat):Int)) rfl M.t rfl T4.a1 M.a1 hl (by omega) fun H6 S6 h6=>?_;have T6:=T4.same S6;have a7:=M.same S6;refine⟨_,rfl,t,_,1,_,rfl,rfl,cr.of T6.t,rfl,l2,rfl,⟨_,av.of T6.a2⟩,fun b hb=>?_⟩;refine rH (sm:=B) (j:=((1:Nat):Int)) rfl a7.t rfl T6.a2 a7.a2 hb (by omega) fun H7 S7 h7=>?_;have f1:=cW (fun w=>decide (w∈o)) C;have f2:=cW (fun w=>decide (w∈f)) J2;refine⟨a,b,_,_,rfl,rfl,S7 _ _ h6,h7,by rw[ai,ai];exact cy (ar (by omega)),fun cl b5=>⟨(by show 0<=ak;decide),fun e he=>?_⟩⟩;have S8:ac H7 (upd H7 cl (.lst ((C.filter fun w=>decide (w∈o)).map V.str++(J2.filter fun w=>decide (w∈f)).map V.str))):=ac.new b5;have c8:upd H7 cl (.lst ((C.filter fun w=>decide (w∈o)).map V.str++(J2.filter fun w=>decide (w∈f)).map V.str)) cl=some (.lst (((C.filter fun w=>decide (w∈o))++(J2.filter fun w=>decide (w∈f))).map V.str)):=by rw[aa,aF]
 generalize upd H7 cl (.lst ((C.filter fun w=>decide (w∈o)).map V.str++(J2.filter fun w=>decide (w∈f)).map V.str))=H8 at S8 c8 he ⊢;have S9:ac H8 (upd H8 e (.lst [])):=ac.new he;have e9:upd H8 e (.lst []) e=some (.lst (([]:Zb).map V.str)):=aa;have ab:=L.trans (S6.trans (S7.trans (S8.trans S9)));have a8:=S6.trans (S7.trans (S8.trans S9));refine GF (S9 _ _ c8) e9 ⟨_,rfl,?_⟩;have a9:=a8 _ _ b3;have bb:=a8 _ _ b4;generalize upd H8 e (.lst [])=H9 at ab a9 bb ⊢;clear S6 S7 S8 S9 a8 T6 a7 h6 h7 c8 e9 hl hb b5 he b3 b4 f4 T4 M L f1 f2;by_cases c3:(C.filter fun w=>decide (w∈o))++(J2.filter fun w=>decide (w∈f))=[];rotate_left
 ·rw[zzr0 c3];refine bC (jF fun u v D S=>kj (fun J=>c3 ?_) u v D (ab.trans S));rw[i7 J.apA,i7 J.apS];rfl
 rw[zzr1 c3];refine bv ?_;obtain⟨cc,ce⟩:=List.append_eq_nil_iff.1 c3;have ch:∀w∈C,w∉o:=fun w hw z=>pB.1 cc w hw (zzr1 z);have ci:∀w∈J2,w∉f:=fun w hw z=>pB.1 ce w hw (zzr1 z);refine⟨_,rfl,(by show 0<=ak;decide),fun g hg=>?_⟩;have N:ac H9 (upd H9 g (.lst [])):=ac.new hg;have bd:upd H9 g (.lst []) g=some (.lst []):=aa;generalize upd H9 g (.lst [])=an at N bd ⊢;have O:=N _ _ a9;have as:=N _ _ bb;have G:=ab.trans N;clear ab N a9 bb hg;refine⟨.s ((cQ C J2 o f).map cq),.s [],eo (av.of O),sL (av.of bd),by show DT.depths (List.map cq _)+1<=8;rw[dC];decide,by decide,_,rfl,?_⟩;have ec:decide (DT.s ((cQ C J2 o f).map cq)=DT.s [])=decide (cQ C J2 o f=[]):=decide_eq_decide.2 ⟨fun z=>by injection z with z;exact eh (y:=[]) z,fun z=>by rw[z];rfl⟩;rw[ec];by_cases c5:cQ C J2 o f=[]
 ·rw[zzr1 c5];exact bC (bC (jF fun u v D S=>kj (fun J=>J.a0 c5) u v D (G.trans S)))
 rw[zzr0 c5];refine bv ?_;refine⟨_,rfl,.inl ⟨al,_,rfl,.inl (av.of O),_,_,rfl,rfl,_,rfl,?_⟩⟩;rw[ai];by_cases c6:(cQ C J2 o f).length<=4;rotate_left
 ·rw[zzr1 (by omega)];exact bC (bC (jF fun u v D S=>kj (fun J=>c6 J.a4) u v D (G.trans S)))
 rw[zzr0 (by omega)];refine bv ?_;refine⟨_,rfl,.inl ⟨sl,_,rfl,.inl (av.of as),_,_,rfl,rfl,_,rfl,?_⟩⟩;rw[ai];by_cases c7:(J2++f).length<=4;rotate_left
 ·rw[zzr1 (by omega)];exact bC (jF fun u v D S=>kj (fun J=>c7 J.s4) u v D (G.trans S))
 rw[zzr0 (by omega)];refine bv ?_;have J:JoinOk C J2 J3 o f A ds aT:=⟨c1.1,c1.2,c2.1,c2.2,ch,ci,c5,c6,c7⟩;clear bd ec;refine⟨_,rfl,_,rfl,(by show 2<=ak;decide),fun U b6=>?_⟩;have ap:ac an (upd an U (.lst [.ref t,.ref B])):=ac.new b6;have bi:upd an U (.lst [.ref t,.ref B]) U=some (.lst [.ref t,.ref B]):=aa;generalize upd an U (.lst [.ref t,.ref B])=ck at ap bi ⊢;have aC:=G.trans ap;have b7:=ap _ _ O;have b8:=ap _ _ as;refine⟨U,rfl,⟨_,av.of bi⟩,?_⟩
 let zJ:Nat->L2.St->Hp->Prop:=fun i σ v=>∃x4:Option V,σ=[some (.ref t),some (.ref B),some (.ref al),some (.ref sl),x4]/\ac ck v/\(0<i->lack ds C J3=none)/\(1<i->lack aT o A=none)
 refine bS (xs:=[.ref t,.ref B]) zJ ⟨_,rfl,ac.refl _,fun z=>absurd z (mD _),fun z=>absurd z (by decide)⟩ (fun i σ v _ zq=>by obtain⟨_,_,S,_⟩:=zq;exact av.of (S _ _ bi)) ?_ ?_
 ·rintro i x σ bl hx ⟨x4,rfl,p,d1,d2⟩;have I:=aC.trans p;rcases i with _|_|i
  ·cases hx;exact gN (vN (T.same I) m (fun n v S=>⟨_,rfl,p.trans S,fun _=>n,fun z=>absurd z (by decide)⟩) fun r a e u v D S=>k1 J r a e u v D (I.trans S))
  ·cases hx;exact gN (vN (T'.same I) m' (fun n v S=>⟨_,rfl,p.trans S,fun _=>d1 (by decide),fun _=>n⟩) fun r a e u v D S=>k2 J (d1 (by decide)) r a e u v D (I.trans S))
  ·cases hx
 rintro σ bl ⟨x4,rfl,p,d1,d2⟩;refine⟨_,rfl,_,rfl,(by show 2<=ak;decide),fun l hl=>?_⟩;have bm:ac bl (upd bl l (.lst [.ref al,.ref sl])):=ac.new hl;exact k J (d1 (by show 0<2;decide)) (d2 (by show 1<2;decide)) l al sl _ aa (bm _ _ (p _ _ b7)) (bm _ _ (p _ _ b8)) ((aC.trans p).trans bm)
theorem Dp{K:Za}{k:Nat}{o:List Nat}{g:TG}{q:TT}{r:TE}{σ:L2.St}{s:Hp}{Q:Hp->Prop}{l a b:Addr}{xs ys:List V}(A:xs.length<=ys.length)(Pv:Nat->List V->Hp->Prop)(B:Pv 0 [] (upd s l (.lst [])))
  (m:∀i e H,i<=xs.length->Pv i e H->H l=some (.lst e)/\av K H a xs/\av K H b ys) (C:∀e H,Pv xs.length e H->Q H)
  (D:∀i e H x y p,xs[i]?=some x->ys[i]?=some y->i<xs.length->Pv i e H->H p=none->g (.ref p) (cx k o σ) (upd H p (.tup [x,y])) fun σ2 E=>q σ2 E fun b w =>
   if b=true then r σ2 w fun v z=>z l=some (.lst e)/\e.length<ak/\∃f,f<xs.length-i/\Wc xs.length Pv (i+1) f (e++[v]) (upd z l (.lst (e++[v])))else ∃f,f<xs.length-i/\Wc xs.length Pv (i+1) f e w) :
  cR k o σ (Im K a b) g q r s l Q:=by
 refine jK xs.length Pv B (fun i e H hi p=>(m i e H hi p).1) (fun i e H hi p=>?_) (fun e H p=>?_) fun i e H x L hi p y=>?_
 ·obtain⟨_,h,j⟩:=m i e H (cy hi) p;have n:i<ys.length:=by omega
  exact⟨xs,ys,xs[i],ys[i],h,j,by simp[hi],by simp[n]⟩
 ·obtain⟨_,h,j⟩:=m _ e H (aK _) p;exact⟨⟨xs,ys,h,j,.inl (aK _)⟩,C e H p⟩
 ·obtain⟨_,h,j⟩:=m i e H (cy hi) p;obtain⟨t,u,v,rfl,G,I,J,rfl⟩:=y;exact D i e H u v t (I xs h) (J ys j) hi p G
theorem Do{K:Za}{k:Nat}{o:List Nat}{g:TG}{q:TT}{r:TE}{σ:L2.St}{s:Hp}{Q:Hp->Prop}{l a b:Addr}{xs ys:List V}(A:xs.length<=ys.length)(Pv:Nat->List V->Hp->Prop)(B:Pv 0 [] (upd s l (.lst [])))
  (m:∀i e H,i<=xs.length->Pv i e H->H l=some (.lst e)/\cr K H a xs/\cr K H b ys) (C:∀e H,Pv xs.length e H->Q H)
  (D:∀i e H x y p,xs[i]?=some x->ys[i]?=some y->i<xs.length->Pv i e H->H p=none->g (.ref p) (cx k o σ) (upd H p (.tup [x,y])) fun σ2 E=>q σ2 E fun b w =>
   if b=true then r σ2 w fun v z=>z l=some (.lst e)/\e.length<ak/\∃f,f<xs.length-i/\Wc xs.length Pv (i+1) f (e++[v]) (upd z l (.lst (e++[v])))else ∃f,f<xs.length-i/\Wc xs.length Pv (i+1) f e w) :
  cR k o σ (G0 K a b) g q r s l Q:=by
 refine jK xs.length Pv B (fun i e H hi p=>(m i e H hi p).1) (fun i e H hi p=>?_) (fun e H p=>?_) fun i e H x L hi p y=>?_
 ·obtain⟨_,h,j⟩:=m i e H (cy hi) p;have n:i<ys.length:=by omega
  exact⟨xs,ys,xs[i],ys[i],h,j,by simp[hi],by simp[n]⟩
 ·obtain⟨_,h,j⟩:=m _ e H (aK _) p;exact⟨⟨xs,ys,h,j,.inl (aK _)⟩,C e H p⟩
 ·obtain⟨_,h,j⟩:=m i e H (cy hi) p;obtain⟨t,u,v,rfl,G,I,J,rfl⟩:=y;exact D i e H u v t (I xs h) (J ys j) hi p G
mutual
def DT.few:DT->Prop
 |.k _=>True
 |.t l=>l.length<=2000/\DT.fews l
 |.s l=>l.length<=2000/\DT.fews l
def DT.fews:List DT->Prop
 |[]=>True
 |a::r=>DT.few a/\DT.fews r
end
theorem zg:∀{l:List DT}{i:Nat}{d:DT},DT.fews l->l[i]?=some d->DT.few d
 |[],_,_,_,h=>by cases h
 |a::r,0,d,h,e=>by injection e with e;rw[<-e];exact h.1
 |a::r,i+1,d,h,e=>zg h.2 (by rw[List.getElem?_cons_succ]at e;exact e)
theorem uB:∀n:Nat,(jV n true).all id=true
 |0=>rfl
 |n+1=>uB n
theorem El{α:Type}(a:α)(n:Nat):jV n a++[a]=jV (n+1) a:=by
 rw[List.replicate_succ']
inductive b_(K:Za)(n:Nat)(vs:List V)(H:Hp)(Q:VK)(E:XK):Prop
 |mk (x y:V) (d:DT):(vs=[x,y])->(iO K H d x)->(iO K H d y)->(d.depth<=n)->(DT.few d)->(∀H',ac H H'->Q (.bl true) H')->b_ K n vs H Q E
 |bb (b:Bool):(vs=[.bl b,.bl b])->(Q (.bl true) H)->b_ K n vs H Q E
theorem re{K:Za}{n:Nat}{H:Hp}{f b l:Addr}{xs j:List V}{m:List DT}{σ:L2.St}{J:It}{Q:Hp->Prop}(U:(J=Im K f b/\av K H f xs/\av K H b j)∨(J=G0 K f b/\cr K H f xs/\cr K H b j))(E:DIns K H m xs)(G:DIns K H m j)(Y:DT.depths m<=n)(hz:m.length<=2000)(hf:DT.fews m)(I:H l=none)
  (k:∀a,ac H a->a l=some (.lst ((jV m.length true).map V.bl))->Q a) :
  cR 2 [] σ J (g6 K 2 (be U0 (be U1 (gR)))) (jn) (aO (b_ K n) (aG V0 V1)) H l Q:=by
 have lx:=DIns.len E;have ly:=DIns.len G
 let g:Nat->List V->Hp->Prop:=fun i h a=>h=(jV i true).map V.bl/\ac H a/\a l=some (.lst h)
 have r:∀h a,g xs.length h a->Q a:=by
  rintro h a ⟨rfl,S,q⟩;rw[lx]at q;exact k a S q
 have step:∀i h a x y p,xs[i]?=some x->j[i]?=some y->i<xs.length->g i h a->a p=none->(g6 K 2 (be U0 (be U1 (gR)))) (.ref p) (cx 2 [] σ) (upd a p (.tup [x,y])) fun σ2 H4=>(jn) σ2 H4 fun b L =>
   if b=true then(aO (b_ K n) (aG V0 V1)) σ2 L fun v M=>M l=some (.lst h)/\h.length<ak/\∃s,s<xs.length-i/\Wc xs.length g (i+1) s (h++[v]) (upd M l (.lst (h++[v])))else ∃s,s<xs.length-i/\Wc xs.length g (i+1) s h L:=by
  rintro i h u x y p hx hy hi ⟨rfl,S,h1⟩ hp;have w:ac u (upd u p (.tup [x,y])):=ac.new hp;have N:upd u p (.tup [x,y]) p=some (.tup [x,y]):=aa;generalize upd u p (.tup [x,y])=H2 at w N ⊢;obtain⟨d,A,dx⟩:=DIns.get E hx;obtain⟨d',z,O⟩:=DIns.get G hy;rw[A]at z;injection z with z;rw[<-z]at O;refine⟨p,_,rfl,cr.of N,rfl,_,_,rfl,_,_,rfl,rfl,rN ?_⟩;refine⟨_,rfl,_,rfl,.mk x y d rfl (iO.same (S.trans w) dx) (iO.same (S.trans w) O) (uo Y A) (zg hf A) fun H3 S3=>?_⟩;have t:=w.trans S3;refine⟨t _ _ h1,by rw[ai,List.length_replicate];exact ar (by omega),r6 hi ⟨by rw[<-El,aF];rfl,fun b o e=>?_,aa⟩⟩;rw[am (ag e I)];exact t _ _ (S _ _ e)
 have T:g 0 [] (upd H l (.lst [])):=⟨rfl,ac.new I,aa⟩;rcases U with⟨rfl,B,C⟩|⟨rfl,B,C⟩
 ·exact Dp (xs:=xs) (ys:=j) (by omega) g T (fun i h a _ D=>by obtain⟨_,S,q⟩:=D;exact⟨q,av.same S B,av.same S C⟩) r step
 ·exact Do (xs:=xs) (ys:=j) (by omega) g T (fun i h a _ D=>by obtain⟨_,S,q⟩:=D;exact⟨q,cr.same S B,cr.same S C⟩) r step
theorem CN{K:Za}{n:Nat}(M:n<=8){G:Sp}(o:∀m,n=m+1->G=b_ K m){I:List V}{H:Hp}{Q:VK}{E:XK}(h:b_ K n I H Q E):yB K G (bQ Q) (start zD I) H:=by
 rcases h with⟨x,y,d,rfl,hx,v,t,u,k⟩|⟨b,rfl,k⟩;rotate_left
 ·refine⟨_,rfl,_,rfl,?_⟩;rw[zzr0 (show ¬V.bl b=V.non from fun z=>by cases z)];refine bv ⟨_,rfl,_,"bool",.type "bool",true,rfl,.inl (.bl b),rfl,_,rfl,bC ?_⟩;refine⟨_,rfl,_,"bool",.type "bool",true,rfl,.inl (.bl b),rfl,_,rfl,bC ⟨_,rfl,_,rfl,?_,?_⟩⟩
  ·cases b<;>rfl
  ·rw[zzr1 rfl];exact k
 have a:=iO.kd hx;have p:=iO.kd v;refine⟨_,rfl,_,rfl,?_⟩;have J:decide (y=V.non)=false:=by cases p<;>exact zzr0 nofun
 rw[J];refine bv ?_;cases p with
 |int i =>
  cases a;refine⟨_,rfl,.int i,"bool",_,false,rfl,.inl (ju.int i),rfl,_,rfl,bv ?_⟩;refine⟨_,rfl,.int i,"str",_,false,rfl,.inl (ju.int i),rfl,_,rfl,bv ?_⟩;refine⟨_,rfl,.int i,"int",_,true,rfl,.inl (ju.int i),rfl,_,rfl,bC ?_⟩;refine⟨_,rfl,.int i,"int",_,true,rfl,.inl (ju.int i),rfl,_,rfl,bC ?_⟩;refine⟨_,rfl,.int i,"bool",_,false,rfl,.inl (ju.int i),rfl,_,rfl,_,rfl,bC ?_⟩;refine⟨_,rfl,_,rfl,_,_,hx,v,by omega,by omega,?_⟩;rw[zzr1 rfl];exact k H (ac.refl _)
 |str i =>
  cases a;refine⟨_,rfl,.str i,"bool",_,false,rfl,.inl (ju.str i),rfl,_,rfl,bv ?_⟩;refine⟨_,rfl,.str i,"str",_,true,rfl,.inl (ju.str i),rfl,_,rfl,bC ?_⟩;refine⟨_,rfl,.str i,"str",_,true,rfl,.inl (ju.str i),rfl,_,rfl,bC ?_⟩;refine⟨_,rfl,_,rfl,_,_,hx,v,by omega,by omega,?_⟩;rw[zzr1 rfl];exact k H (ac.refl _)
 |@tup b q L e r =>
  cases a with
  |@tup f xs _ g s =>
  have ty:Ii K H (.ref b) (.type "tuple"):=.inr (.inl ⟨_,_,rfl,rfl,e⟩);have w:Ii K H (.ref f) (.type "tuple"):=.inr (.inl ⟨_,_,rfl,rfl,g⟩);obtain⟨m,rfl⟩:∃m,n=m+1:=⟨n-1,by have:=Fu t;omega⟩;obtain rfl:=o m rfl;refine⟨_,rfl,.ref b,"bool",_,false,rfl,ty,rfl,_,rfl,bv ?_⟩;refine⟨_,rfl,.ref b,"str",_,false,rfl,ty,rfl,_,rfl,bv ?_⟩;refine⟨_,rfl,.ref b,"int",_,false,rfl,ty,rfl,_,rfl,bv ?_⟩;refine⟨_,rfl,.ref b,"tuple",_,true,rfl,ty,rfl,_,rfl,bC ⟨_,rfl,.ref f,"tuple",_,true,rfl,w,rfl,_,rfl,bv ?_⟩⟩;refine⟨_,rfl,.ref b,"list",_,false,rfl,ty,rfl,_,rfl,bv (bv ?_)⟩;refine⟨_,rfl,.inl ⟨f,_,rfl,.inr g,_,rfl,.inl ⟨b,_,rfl,.inr e,rfl,_,rfl,?_⟩⟩⟩;have A:xs.length=q.length:=by rw[DIns.len s,DIns.len r]
  have B:(!decide (V.int (xs.length:Nat)=V.int (q.length:Nat)))=false:=by rw[zzr1 (by rw[A])];rfl
  rw[B];refine bv ⟨_,rfl,_,rfl,f,b,rfl,.inr ⟨⟨_,g⟩,⟨_,e⟩,fun l j=>?_⟩⟩;exact re (.inr ⟨rfl,g,e⟩) s r (GL t) u.1 u.2 j fun C S D=>⟨l,_,rfl,av.of D,by rw[uB];exact k C S⟩
 |@lst b q L e r =>
  cases a with
  |@lst f xs _ g s =>
  have ty:Ii K H (.ref b) (.type "list"):=.inr (.inr ⟨_,_,rfl,rfl,e⟩);have w:Ii K H (.ref f) (.type "list"):=.inr (.inr ⟨_,_,rfl,rfl,g⟩);obtain⟨m,rfl⟩:∃m,n=m+1:=⟨n-1,by have:=Fv t;omega⟩;obtain rfl:=o m rfl;refine⟨_,rfl,.ref b,"bool",_,false,rfl,ty,rfl,_,rfl,bv ?_⟩;refine⟨_,rfl,.ref b,"str",_,false,rfl,ty,rfl,_,rfl,bv ?_⟩;refine⟨_,rfl,.ref b,"int",_,false,rfl,ty,rfl,_,rfl,bv ?_⟩;refine⟨_,rfl,.ref b,"tuple",_,false,rfl,ty,rfl,_,rfl,bv (bv ?_)⟩;refine⟨_,rfl,.ref b,"list",_,true,rfl,ty,rfl,_,rfl,bC ⟨_,rfl,.ref f,"list",_,true,rfl,w,rfl,_,rfl,bv ?_⟩⟩;refine⟨_,rfl,.inl ⟨f,_,rfl,.inl g,_,rfl,.inl ⟨b,_,rfl,.inl e,rfl,_,rfl,?_⟩⟩⟩;have A:xs.length=q.length:=by rw[DIns.len s,DIns.len r]
  have B:(!decide (V.int (xs.length:Nat)=V.int (q.length:Nat)))=false:=by rw[zzr1 (by rw[A])];rfl
  rw[B];refine bv ⟨_,rfl,_,rfl,f,b,rfl,.inl ⟨⟨_,g⟩,⟨_,e⟩,fun l j=>?_⟩⟩;exact re (.inl ⟨rfl,g,e⟩) s r (GN t) u.1 u.2 j fun C S D=>⟨l,_,rfl,av.of D,by rw[uB];exact k C S⟩
theorem gS:∀{a:Zb},DT.fews (a.map cq)
 |[]=>trivial
 |w::a=>⟨trivial,gS⟩
theorem Fp:∀{a:List ao},(∀d∈a,d.sg.length<=2000)->DT.fews (a.map u8)
 |[],_=>trivial
 |d::a,h=>⟨⟨by show 3<=2000;decide,trivial,⟨by show(d.sg.map cq).length<=2000;rw[ai];exact h d eL,gS⟩,trivial,trivial⟩,Fp fun e f=>h e (eU _ f)⟩
theorem Fj{f g h:Zb}{a:List ao}(m:aR f g h a):∀d∈a,d.sg.length<=2000:=fun d i=>by
 rcases(m.good d i).sg with⟨w,_,e⟩|⟨w,_,e⟩|e<;>rw[e]
 ·show 2<=2000;decide
 ·show 2<=2000;decide
 ·show 1<=2000;decide
def ub(J0 J2 J3:Zb)(ds:List ao):DT:=.s [.s (J0.map cq),.s (J2.map cq),.s (J3.map cq),.s (ds.map u8)]
theorem xi{e f g:Zb}{a:List ao}:(ub e f g a).depth<=4:=by
 show max (DT.depths (e.map cq)+1) (max (DT.depths (f.map cq)+1) (max (DT.depths (g.map cq)+1) (max (DT.depths (a.map u8)+1) 0)))+1<=4;have:=uq a;rw[dC,dC,dC];omega
theorem Ay{a e f:Zb}{g:List ao}(m:aR a e f g):DT.few (ub a e f g):=by
 have:=m.asks4;have:=m.says4;have:=m.rooms26;have:=m.few;exact⟨by show 4<=2000;decide,⟨by rw[ai];omega,gS⟩,⟨by rw[ai];omega,gS⟩,⟨by rw[ai];omega,gS⟩,⟨by rw[ai];omega,Fp (Fj m)⟩,trivial⟩
structure JX(K:Za)(Cj Ck:Addr):Prop where
 jj:pG K (.ref Cj) (.ref Cj)=some true
 kj:pG K (.ref Ck) (.ref Cj)=some false
 f:XF K Ck ["room","ask"]
theorem IP{K:Za}{i:Str->Option Value}{l m:Str}{f Cx a g:Addr}(j:XX K i l a f)(h:XX K i m g f)(n:bP K a "room")(o:bP K a "ask")(p:[f,Cx,a,g].Nodup):JX K g a:=by
 have q:a≠f/\g≠f/\g≠a:=by
  refine⟨?_,?_,?_⟩<;>(intro e;simp[e]at p)
 obtain⟨r,k,s⟩:=q;exact⟨by rw[h.exm h k,zzr1 rfl],by rw[j.exm h k,zzr0 s],Iy j r (no2 n o)⟩
def zH(J0 J2 J3 asks' says' rooms':Zb)(ds ds':List ao)(L:Zb):Prop :=
 (¬JoinOk J0 J2 J3 asks' says' rooms' ds ds'/\L=([("join":Str)]))∨(JoinOk J0 J2 J3 asks' says' rooms' ds ds'/\∃r a,lack ds J0 J3=some (r,a)/\L=[r,a])∨(JoinOk J0 J2 J3 asks' says' rooms' ds ds'/\lack ds J0 J3=none/\∃r a,lack ds' asks' rooms'=some (r,a)/\L=[r,a])
theorem zH.uniq{p q s g i f:Zb}{t l:List ao}{L u:Zb}(h:zH p q s g i f t l L)(w:zH p q s g i f t l u):L=u:=by
 rcases h with⟨n,rfl⟩|⟨j,r,a,e,rfl⟩|⟨j,x,r,a,e,rfl⟩<;>rcases w with⟨v,rfl⟩|⟨o,y,z,k,rfl⟩|⟨o,m,y,z,k,rfl⟩
 ·rfl
 ·exact absurd o n
 ·exact absurd o n
 ·exact absurd j v
 ·rw[e]at k;cases k;rfl
 ·rw[e]at m;cases m
 ·exact absurd j v
 ·rw[x]at k;cases k
 ·rw[e]at k;cases k;rfl
theorem zH.len{j k l f g e:Zb}{m i:List ao}{L:Zb}(h:zH j k l f g e m i L):L.length<=2:=by
 rcases h with⟨_,rfl⟩|⟨_,r,a,_,rfl⟩|⟨_,_,r,a,_,rfl⟩
 ·show 1<=2;decide
 ·exact aK _
 ·exact aK _
inductive FG(C:Addr)(J0 J2 J3 asks' says' rooms':Zb)(ds ds':List ao)(H:Hp):V->V->Prop
 |no (u:Addr) (L:Zb):zH J0 J2 J3 asks' says' rooms' ds ds' L->H u=some (.tup (L.map V.str))->FG C J0 J2 J3 asks' says' rooms' ds ds' H .non (.ref u)
 |ok (x:Addr) (rs:Zb) (es:List ao):JoinOk J0 J2 J3 asks' says' rooms' ds ds'->lack ds J0 J3=none->lack ds' asks' rooms'=none->aZ C H x (cQ J0 J2 asks' says') (J2++says') rs es->FG C J0 J2 J3 asks' says' rooms' ds ds' H (.ref x) .non
abbrev Bz(K:Za)(C:Addr):TS :=
 df (wR (tB (aO (b_ K 4) (aq (bj (aq (bF C "asks" (fL C) [] E0 V9 aN) (dP (bF C "says" (fK C) [] E0 V9 aN) (bF C "rooms" (gM C) [] E0 V9 aN) (bF C "doors" (lh C) [] E0 V9 aN)))) (au (cU (cY K) (au Ih))))))) (bt (tC (.bl false))) (bA)
theorem tV{K:Za}{C:Addr}{D:eR}{σ:L2.St}{H:Hp}{x tt w y z A:Addr}{ts:Ze}{f g h:Zb}{i:List ao}(h9:σ[9]?=some (some (.ref x)))(al:σ[10]?=some (some (.ref tt)))(e:aZ C H x f g h i)(T0:jv H tt w y z A ts f g h i)(k:∀H',ac H H'->D.nx σ H'):Bz K C D σ H:=by
 have m:=e.ok;have z4:=m.few;obtain⟨dx,fs,g1,a1,a2,a3,a4,_⟩:=e.mth;refine⟨_,h9,x,dx,fs,rfl,g1,a1,x,f,g,h,i,rfl,e,fun n an=>?_⟩;have S1:ac H (upd H n (.lst (f.map V.str))):=ac.new an;have B:upd H n (.lst (f.map V.str)) n=some (.lst (f.map V.str)):=aa;generalize upd H n (.lst (f.map V.str))=H1 at S1 B ⊢;have M1:=e.same S1;refine⟨_,h9,x,dx,fs,rfl,S1 _ _ g1,a2,x,f,g,h,i,rfl,M1,fun o ap=>?_⟩;have S2:ac H1 (upd H1 o (.lst (g.map V.str))):=ac.new ap;have E:upd H1 o (.lst (g.map V.str)) o=some (.lst (g.map V.str)):=aa;generalize upd H1 o (.lst (g.map V.str))=H2 at S2 E ⊢;have u:=S1.trans S2;refine⟨_,h9,x,dx,fs,rfl,u _ _ g1,a3,x,f,g,h,i,rfl,e.same u,fun p as=>?_⟩;have S3:ac H2 (upd H2 p (.lst (h.map V.str))):=ac.new as;have G:upd H2 p (.lst (h.map V.str)) p=some (.lst (h.map V.str)):=aa;generalize upd H2 p (.lst (h.map V.str))=H3 at S3 G ⊢;have I:=u.trans S3;obtain⟨J,o4,L,j,M,_,N,O,v,b5⟩:=(e.same I).own;refine⟨_,h9,x,J,L,rfl,M,N,x,J,o4,L,j,rfl,M,O,v,fun q aC=>?_⟩;have S4:ac H3 (upd H3 q (.lst (j.map V.ref))):=ac.new aC;have Q:upd H3 q (.lst (j.map V.ref)) q=some (.lst (j.map V.ref)):=aa;show _/\_;generalize upd H3 q (.lst (j.map V.ref))=H4 at S4 Q ⊢;refine⟨(by show 4<=ak;decide),fun T aT=>?_⟩;have S5:ac H4 (upd H4 T (.lst [.ref n,.ref o,.ref p,.ref q])):=ac.new aT;have p5:upd H4 T (.lst [.ref n,.ref o,.ref p,.ref q]) T=some (.lst [.ref n,.ref o,.ref p,.ref q]):=aa;generalize upd H4 T (.lst [.ref n,.ref o,.ref p,.ref q])=U at S5 p5 ⊢;have Y:=I.trans (S4.trans S5);have T5:=T0.same Y;refine⟨_,al,.inl ⟨tt,_,rfl,.inr (cr.of T5.t),fun ql aX=>?_⟩⟩;have S6:ac U (upd U ql (.lst [.ref w,.ref y,.ref z,.ref A])):=ac.new aX;have q6:upd U ql (.lst [.ref w,.ref y,.ref z,.ref A]) ql=some (.lst [.ref w,.ref y,.ref z,.ref A]):=aa;show b_ K 4 [.ref T,.ref ql] (upd U ql (.lst [.ref w,.ref y,.ref z,.ref A])) _ _;generalize upd U ql (.lst [.ref w,.ref y,.ref z,.ref A])=r at S6 q6 ⊢;have T6:=T5.same S6;have parts:∀{a b1 N O v:Addr}{j:Ze},r a=some (.lst [.ref b1,.ref N,.ref O,.ref v])->r b1=some (.lst (f.map V.str))->r N=some (.lst (g.map V.str))->r O=some (.lst (h.map V.str))->r v=some (.lst (j.map V.ref))->cF r j i->iO K r (ub f g h i) (.ref a):=by
  intro a b1 N O v j h0 h1 h2 h3 h4 h5;have d4:iO K r (.s (i.map u8)) (.ref v):=by unfold iO;exact⟨v,_,rfl,av.of h4,h5.dIns⟩
  unfold ub iO;refine⟨a,_,rfl,av.of h0,?_⟩;unfold DIns;refine⟨_,_,rfl,eo (av.of h1),?_⟩;unfold DIns;refine⟨_,_,rfl,eo (av.of h2),?_⟩;unfold DIns;refine⟨_,_,rfl,eo (av.of h3),?_⟩;unfold DIns;refine⟨_,_,rfl,d4,?_⟩;unfold DIns
  rfl
 have ab:=S5.trans S6;have l:=S4.trans ab;exact .mk _ _ (ub f g h i) rfl (parts (S6 _ _ p5) ((S2.trans (S3.trans l)) _ _ B) ((S3.trans l) _ _ E) (l _ _ G) (ab _ _ Q) (b5.kt (ac.kt l))) (parts q6 T6.a1 T6.a2 T6.a3 T6.a4 T6.ds) xi (Ay m) fun H7 S7=>⟨_,rfl,bv (k H7 (Y.trans (S6.trans S7)))⟩
abbrev HX(K:Za)(C:Addr):TS :=
 (ax (eJ (BW K (aG V5 (bj (aq V3 (au V4))))) (g6 K 2 (be U9 (be Jr (gR)))) (Bz K C))
 (ax (a_ (aO (ow K) (aG V3 V4)) Jq)
 (ax (df (tB (CF V6)) (bt (aO (b_ K 4) (aG V7 FM))) (bA))
 (bt (aO (b_ K 4) (aq (bj (aG (bF C "asks" (fL C) [] E0 V6 aN) (bF C "says" (fK C) [] E0 V6 aN))) (au FM)))))))
theorem IS{L:Zb}(h:L.length<=2):DT.few (u7 L):=⟨by rw[ai];omega,gS⟩
theorem w8{K:Za}{C:Addr}{x0 x1 x2 x8:Option V}{vf vw:V}{H:Hp}{Q:VK}{t l1 l2 l3 l4 w m1 m2 m3 m4 ml M N:Addr}{ts ab:Ze}{q m J3 g f h:Zb}{ds v:List ao}(T:jv H t l1 l2 l3 l4 ts q m J3 ds)(T':jv H w m1 m2 m3 m4 ab g f h v)(MM:aZ C H M q m J3 ds)(MN:aZ C H N g f h v)(an:H ml=some (.lst [.ref M,.ref N]))
  (o:FG C q m J3 g f h ds v H vf vw) (k:∀H',Q (.bl true) H') :
  HX K C (bQ Q) [x0,x1,x2,some (.ref t),some (.ref w),some (.ref ml),some vf,some vw,x8,none,none,none] H:=by
 refine⟨_,rfl,_,rfl,_,rfl,(by show 2<=ak;decide),fun zl aC=>?_⟩;have S1:ac H (upd H zl (.lst [.ref t,.ref w])):=ac.new aC;have z1:upd H zl (.lst [.ref t,.ref w]) zl=some (.lst [.ref t,.ref w]):=aa;generalize upd H zl (.lst [.ref t,.ref w])=H1 at S1 z1 ⊢;refine⟨ml,zl,rfl,.inl ⟨⟨_,av.of (S1 _ _ an)⟩,⟨_,av.of z1⟩,?_⟩⟩
 let zI:Nat->L2.St->Hp->Prop:=fun i σ H'=>∃x9 A:Option V,σ=[x0,x1,x2,some (.ref t),some (.ref w),some (.ref ml),some vf,some vw,x8,x9,A,none]/\ac H1 H'
 refine Fn (xs:=[.ref M,.ref N]) (ys:=[.ref t,.ref w]) rfl zI ⟨_,_,rfl,ac.refl _⟩ (fun i σ H' _ zq=>by obtain⟨_,_,_,S⟩:=zq;exact⟨av.of (S _ _ (S1 _ _ an)),av.of (S _ _ z1)⟩) ?_ ?_
 ·rintro i x y σ Y p hx hy ⟨x9,A,rfl,S2⟩ hp;have S3:ac Y (upd Y p (.tup [x,y])):=ac.new hp;have p3:upd Y p (.tup [x,y]) p=some (.tup [x,y]):=aa;generalize upd Y p (.tup [x,y])=H3 at S3 p3 ⊢;have B:=S1.trans (S2.trans S3);refine⟨p,_,rfl,cr.of p3,rfl,_,_,rfl,_,_,rfl,rfl,?_⟩;rcases i with _|_|i
  ·cases hx;cases hy;exact tV rfl rfl (MM.same B) (T.same B) fun H' S=>⟨_,_,rfl,(S2.trans S3).trans S⟩
  ·cases hx;cases hy;exact tV rfl rfl (MN.same B) (T'.same B) fun H' S=>⟨_,_,rfl,(S2.trans S3).trans S⟩
  ·cases hx
 rintro σ Y ⟨x9,A,rfl,S2⟩;have D:=S1.trans S2;have no:∀(L:Zb),zH q m J3 g f h ds v L->∀u H',H' u=some (.tup (L.map V.str))->ac Y H' ->
   (ax (df (tB (CF V6)) (bt (aO (b_ K 4) (aG V7 FM))) (bA))
   (bt (aO (b_ K 4) (aq (bj (aG (bF C "asks" (fL C) [] E0 V6 aN) (bF C "says" (fK C) [] E0 V6 aN))) (au FM))))) (bQ Q) [x0,x1,x2,some (.ref t),some (.ref w),some (.ref ml),some vf,some vw,x8,x9,A,some (.ref u)] H':=fun L dl u H' I S=>by
  rcases o with⟨u0,L0,J,O⟩|⟨x,rs,es,j,e1,e2,_⟩
  ·rw[<-zH.uniq dl J]at O;refine⟨_,rfl,_,rfl,?_⟩;rw[zzr1 rfl];exact bC ⟨_,rfl,_,rfl,.mk _ _ (u7 L) rfl (eA (cr.of ((D.trans S) _ _ O))) (eA (cr.of I)) (by rw[ij];decide) (IS dl.len) fun aT _=>k _⟩
  ·exfalso;rcases dl with⟨n,_⟩|⟨_,r,a,e,_⟩|⟨_,_,r,a,e,_⟩
   ·exact n j
   ·rw[e1]at e;cases e
   ·rw[e2]at e;cases e
 refine⟨_,rfl,_,rfl,t,l1,l2,l3,l4,w,m1,m2,m3,m4,ts,ab,q,m,J3,g,f,h,ds,v,rfl,T.same D,MM.ok,T'.same D,MN.ok,fun n u H' I S=>no [("join":Str)] (.inl ⟨n,rfl⟩) u H' I S,fun j r a e u H' I S=>no [r,a] (.inr (.inl ⟨j,r,a,e,rfl⟩)) u H' I S,fun j e0 r a e u H' I S=>no [r,a] (.inr (.inr ⟨j,e0,r,a,e,rfl⟩)) u H' I S,fun j e1 e2 l al sl H3 hl aX a0 S3=>?_⟩;rcases o with⟨u0,L0,J,O⟩|⟨x,rs,es,_,_,_,MX⟩
 ·exfalso;rcases J with⟨n,_⟩|⟨_,r,a,e,_⟩|⟨_,_,r,a,e,_⟩
  ·exact n j
  ·rw[e1]at e;cases e
  ·rw[e2]at e;cases e
 refine⟨_,rfl,_,rfl,?_⟩;rw[zzr0 (fun z=>by cases z)];refine bv ?_;have M3:=MX.same (D.trans S3);obtain⟨dx,fs,g1,a1,a2,_⟩:=M3.mth;refine⟨_,rfl,x,dx,fs,rfl,g1,a1,x,_,_,rs,es,rfl,M3,fun E a5=>?_⟩;have S4:ac H3 (upd H3 E (.lst ((cQ q m g f).map V.str))):=ac.new a5;have ap:upd H3 E (.lst ((cQ q m g f).map V.str)) E=some (.lst ((cQ q m g f).map V.str)):=aa;generalize upd H3 E (.lst ((cQ q m g f).map V.str))=H4 at S4 ap ⊢;refine⟨_,rfl,x,dx,fs,rfl,S4 _ _ g1,a2,x,_,_,rs,es,rfl,M3.same S4,fun G a6=>?_⟩;have S5:ac H4 (upd H4 G (.lst ((m++f).map V.str))):=ac.new a6;have as:upd H4 G (.lst ((m++f).map V.str)) G=some (.lst ((m++f).map V.str)):=aa;show _/\_;generalize upd H4 G (.lst ((m++f).map V.str))=H5 at S5 as ⊢;refine⟨(by show 2<=ak;decide),fun pl a7=>?_⟩;have S6:ac H5 (upd H5 pl (.lst [.ref E,.ref G])):=ac.new a7;have p6:upd H5 pl (.lst [.ref E,.ref G]) pl=some (.lst [.ref E,.ref G]):=aa;show aq FM aN _ _ _;generalize upd H5 pl (.lst [.ref E,.ref G])=H6 at S6 p6 ⊢;have U:=S4.trans (S5.trans S6);have two:∀{a b c:Addr},H6 a=some (.lst [.ref b,.ref c])->H6 b=some (.lst ((cQ q m g f).map V.str))->H6 c=some (.lst ((m++f).map V.str))->iO K H6 (.s [.s ((cQ q m g f).map cq),.s ((m++f).map cq)]) (.ref a):=fun h0 h1 h2=>by
  unfold iO;refine⟨_,_,rfl,av.of h0,?_⟩;unfold DIns;refine⟨_,_,rfl,eo (av.of h1),?_⟩;unfold DIns;refine⟨_,_,rfl,eo (av.of h2),?_⟩;unfold DIns
  rfl
 have y2:=j.a4;have y4:=j.s4;refine⟨_,rfl,.mk _ _ _ rfl (two p6 (S6 _ _ (S5 _ _ ap)) (S6 _ _ as)) (two (U _ _ hl) (U _ _ aX) (U _ _ a0)) ?_ ?_ fun aT _=>k _⟩
 ·show max (DT.depths ((cQ q m g f).map cq)+1) (max (DT.depths ((m++f).map cq)+1) 0)+1<=4;rw[fC,fC];decide
 ·exact⟨by show 2<=2000;decide,⟨by rw[ai];omega,gS⟩,⟨by rw[ai];omega,gS⟩,ft⟩
inductive sp_law68(K:Za)(vs:List V)(H:Hp)(Q:VK)(E:XK):Prop
 |mk (a:Addr) (ns:List Int):(vs=[.ref a])->(av K H a (ns.map V.int))->(ns.length<=63)->(∀H',Q (.bl true) H')->sp_law68 K vs H Q E
theorem Ev{K:Za}{C Cj B:Addr}(X:JX K Cj B){vs:List V}{H:Hp}{Q:VK}{E:XK}(h:sp_law68 K vs H Q E):F0 K (b_ K 4) C (fK C) (fL C) (ow K) (lh C) (gM C) (j5 C Cj B) B Cj (j4 C) sy su eK (sw K) (bQ Q) (start Ci vs) H:=by
 obtain⟨a,ns,rfl,hs,hn,k⟩:=h;refine⟨_,rfl,a,ns,rfl,hs,hn,fun p c H1 _ ab S1=>?_⟩;refine⟨_,rfl,(by show 3<=ak;decide),fun q hq=>⟨_,rfl,dX (ab.ex (ac.new hq)) (by decide) (by decide) fun r H2 r0 r1 aT aX=>?_⟩⟩;have q2:=aX q _ aa (ab.nep hq).symm;obtain⟨L,hL,L1⟩:∃L:Nat,xR [V.int 0,.int 0,.int 1] r=some (.int (L:Int))/\L<=1:=by
  have:r=0∨r=1∨r=2:=by omega
  rcases this with rfl|rfl|rfl
  ·exact⟨0,rfl,by decide⟩
  ·exact⟨0,rfl,by decide⟩
  ·exact⟨1,rfl,by decide⟩
 refine⟨q,_,r,_,rfl,rfl,av.of q2,hL,p,c,L,rfl,L1,aT,fun sm A S H3 F W D _=>?_⟩;clear S1 q2 hL;have i0:(0:Nat)<4:=by decide
 have i1:(1:Nat)<4:=by decide
 have i2:(2:Nat)<4:=by decide
 have i3:(3:Nat)<4:=by decide
 have al:∀{H:Hp},gp H p c->H sm=some (.lst [.ref (A 0),.ref (A 1),.ref (A 2),.ref (A 3)])->sm≠p:=fun hp h=>hp.ne_refs (ts:=[A 0,A 1,A 2,A 3]) h;refine⟨_,rfl,_,rfl,sm,_,0,_,rfl,rfl,av.of F.l,F4.ix (k:=0) i0,_,rfl,sm,_,1,_,rfl,rfl,av.of F.l,F4.ix (k:=1) i1,p,c,A 0,A 1,S 0,S 1,rfl,D,F.s 0 i0,F.s 1 i1,W.ok 0 i0,W.ok 1 i1,fun w hw z=>W.ap 0 1 (by decide) w z hw,W.ne 0 i0,W.ne 1 i1,W.len 0 i0,W.len 1 i1,fun t l3 l4 ts J3 ds H4 T4 m _ _ an T=>?_⟩;have U:=T _ _ F.l (al D F.l);have s2:=T _ _ (F.s 2 i2) (D.ne_strs (F.s 2 i2));have s3:=T _ _ (F.s 3 i3) (D.ne_strs (F.s 3 i3));refine⟨_,rfl,_,rfl,sm,_,2,_,rfl,rfl,av.of U,F4.ix (k:=2) i2,_,rfl,sm,_,3,_,rfl,rfl,av.of U,F4.ix (k:=3) i3,p,c,A 2,A 3,S 2,S 3,rfl,an,s2,s3,W.ok 2 i2,W.ok 3 i3,fun w hw z=>W.ap 2 3 (by decide) w z hw,W.ne 2 i2,W.ne 3 i3,W.len 2 i2,W.len 3 i3,fun t' m3 m4 a0 y as H5 i m' _ _ a5 a4=>?_⟩;have Y:=T4.ex an a4;clear T4 U s2 s3 F W al D;generalize S 0=J0 at Y m;generalize S 1=J2 at Y m;generalize S 2=G at i m';generalize S 3=I at i m';generalize A 0=l1 at Y;generalize A 1=l2 at Y;generalize A 2=m1 at i;generalize A 3=m2 at i;refine⟨_,rfl,t,l1,l2,l3,l4,ts,J0,J2,J3,ds,rfl,Y,m,fun M H6 M6 S6=>?_⟩;refine⟨_,rfl,t',m1,m2,m3,m4,a0,G,I,y,as,rfl,i.same S6,m',fun N H7 N7 S7=>⟨(by show 2<=ak;decide),fun ml aC=>?_⟩⟩;have S8:ac H7 (upd H7 ml (.lst [.ref M,.ref N])):=ac.new aC;have v:upd H7 ml (.lst [.ref M,.ref N]) ml=some (.lst [.ref M,.ref N]):=aa;show ax _ _ _ _ (upd H7 ml (.lst [.ref M,.ref N]));generalize upd H7 ml (.lst [.ref M,.ref N])=H8 at S8 v ⊢;have M8:=(M6.same S7).same S8;have N8:=N7.same S8;have T8:=Y.same (S6.trans (S7.trans S8));have O:=i.same (S6.trans (S7.trans S8));clear S6 S7 S8 M6 N7 aC Y i;refine⟨_,rfl,ml,_,0,_,rfl,rfl,av.of v,rfl,_,rfl,ml,_,1,_,rfl,rfl,av.of v,rfl,M,N,J0,J2,J3,G,I,y,ds,as,rfl,M8,N8,fun n e H9 X9=>?_,fun j r a lk e H9 X9=>?_,fun j n1 r a lk e H9 X9=>?_,fun j n1 n2 x H9 MX J=>?_⟩
 ·obtain⟨J,_⟩:=X9;refine⟨Cj,true,rfl,X.jj,bC ⟨(by show 1<=ak;decide),fun u hu=>?_⟩⟩;have g:=J.trans (ac.new (o:=.tup [.str "join"]) hu);exact w8 (T8.same g) (O.same g) (M8.same g) (N8.same g) (g _ _ v) (.no u [("join":Str)] (.inl ⟨n,rfl⟩) aa) k
 ·obtain⟨J,d,ha,hd⟩:=X9;refine⟨B,false,rfl,X.kj,bv ⟨B,e,true,rfl,rfl,X.f.self,bC ?_⟩⟩;refine⟨_,rfl,e,B,d,_,.str r,rfl,ha,hd,X.f.cls,X.f.no _ (by simp),(by simp[fZ]),?_⟩;refine⟨_,rfl,e,B,d,_,.str a,rfl,ha,hd,X.f.cls,X.f.no _ (by simp),?_,(by show 2<=ak;decide),fun u hu=>?_⟩
  ·have:(("ask":Str)=="room")=false:=by decide +kernel
   simp[fZ,this]
  have g:=J.trans (ac.new (o:=.tup [.str r,.str a]) hu);exact w8 (T8.same g) (O.same g) (M8.same g) (N8.same g) (g _ _ v) (.no u [r,a] (.inr (.inl ⟨j,r,a,lk,rfl⟩)) aa) k
 ·obtain⟨J,d,ha,hd⟩:=X9;refine⟨B,false,rfl,X.kj,bv ⟨B,e,true,rfl,rfl,X.f.self,bC ?_⟩⟩;refine⟨_,rfl,e,B,d,_,.str r,rfl,ha,hd,X.f.cls,X.f.no _ (by simp),(by simp[fZ]),?_⟩;refine⟨_,rfl,e,B,d,_,.str a,rfl,ha,hd,X.f.cls,X.f.no _ (by simp),?_,(by show 2<=ak;decide),fun u hu=>?_⟩
  ·have:(("ask":Str)=="room")=false:=by decide +kernel
   simp[fZ,this]
  have g:=J.trans (ac.new (o:=.tup [.str r,.str a]) hu);exact w8 (T8.same g) (O.same g) (M8.same g) (N8.same g) (g _ _ v) (.no u [r,a] (.inr (.inr ⟨j,n1,r,a,lk,rfl⟩)) aa) k
 ·exact w8 (T8.same J) (O.same J) (M8.same J) (N8.same J) (J _ _ v) (.ok x _ _ j n1 n2 MX) k
def gC(i:Nat):Stmt:=PySem.Challenge.pw_mumtrial_k68_joined_words.main.body.getD i (.Pass ⟨0,0,0,0⟩)
local macro_rules | `(tactic| walk_at "s")=>`(tactic| exact⟨rfl,rfl,rfl,by decide +kernel,rfl,by decide +kernel,by decide +kernel⟩)
local macro_rules | `(tactic| walk_at "l")=>`(tactic| (intro _ _ _ _ h;first|exact len_h h|exact len_g h|(cases h;subst_vars;rfl)|(obtain⟨_,_,h,_⟩:=h;subst h;rfl)|((repeat obtain⟨_,h⟩:=h);subst_vars;rfl)))
theorem zzlS{e:List Value}{n:Nat}(h:e.length=n+1):∃ a t,e=a::t∧t.length=n:=by
  cases e with
  |nil=>cases h
  |cons a t=>exact⟨a,t,rfl,Nat.succ.inj h⟩
local macro_rules | `(tactic| walk_at "b")=>`(tactic| (intro _ _ _ _ _ _ us hl;(repeat (have h:=zzlS hl;clear hl;obtain⟨_,_,e,hl⟩:=h;subst e));cases List.eq_nil_of_length_eq_zero hl;rfl))
def Je(K:Za)(x qual:Str)(st:Stmt)(f:Addr):Prop:=∃(oc:Value) (od an:Option Addr) (sl:Array (Option Value)) (kV dc pm cd ct:Value),
 K.lookup f=some ⟨oc,od,.func (iE x qual (ik st) (eZ st) (bz st) .none kV dc pm an cd ct),sl⟩/\mR K cd qual=true/\ee K (.ref f)=true
theorem Fo{K:Za}{x a:Str}{st:Stmt}{f:Addr}{e:Value}{g h:Option Addr}{i:Array (Option Value)}{kV j m cd n:Value}(l:K.lookup f=some ⟨e,g,.func (iE x a (ik st) (eZ st) (bz st) .none kV j m h cd n),i⟩)
  (c:mR K cd a=true) (k:ee K (.ref f)=true):Je K x a st f:=⟨e,g,h,i,kV,j,m,cd,n,l,c,k⟩
def iQ(K:Za)(x:Str)(st:Stmt):Prop:=∃f,bY K bH x=some (some (.ref f))/\Je K x x st f
theorem fnG_mk{K:Za}{x:Str}{st:Stmt}{f:Addr}{e:Value}{g h:Option Addr}{i:Array (Option Value)}{kV j m cd n:Value}(a:bY K bH x=some (some (.ref f)))(l:K.lookup f=some ⟨e,g,.func (iE x x (ik st) (eZ st) (bz st) .none kV j m h cd n),i⟩)
  (c:mR K cd x=true) (k:ee K (.ref f)=true):iQ K x st:=⟨f,a,Fo l c k⟩
def DA(K:Za)(C:Addr)(m qual:Str)(st:Stmt):Prop:=∃f,bB K (.ref C) m=some (some (.ref f))/\qU K (.ref f)=true/\Je K m qual st f
theorem fnM_mk{K:Za}{C:Addr}{m e:Str}{st:Stmt}{f:Addr}{g:Value}{h j:Option Addr}{n:Array (Option Value)}{kV o p cd q:Value}(a:bB K (.ref C) m=some (some (.ref f)))(i:qU K (.ref f)=true)
  (l:K.lookup f=some ⟨g,h,.func (iE m e (ik st) (eZ st) (bz st) .none kV o p j cd q),n⟩) (c:mR K cd e=true) (k:ee K (.ref f)=true):DA K C m e st:=⟨f,a,i,Fo l c k⟩
theorem Je.fun_{K:Za}{x a:Str}{st:Stmt}{f:Addr}(T:Je K x a st f):∃e,Hy K x a st f e:=by
 obtain⟨g,h,i,j,kV,m,n,cd,o,l,c,k⟩:=T;exact⟨_,Fm (st:=st) l c k⟩
def IG:Sp:=fun _ _ _ _=>False
theorem IM{P:bq}{w:World}{K:Za}{a:Str->Option Value}{base:Heap}{k:Nat}{f:Addr}{e:hV}{g:Zb}:iN P w K a base CX0 k f e g IG:=⟨fun _ _ _ _ h=>h.elim,fun _ _ _ _ _ _ _ _ _ _ _ _ _ h=>h.elim⟩
def IZ(K:Za)(a:Addr)(ws:Zb):Prop:=∀H,cr K H a (ws.map V.str)
theorem FW{K:Za}{a:Addr}{f:Zb}{o:Obj}{e:Array Value}{n:Nat}(l:K.lookup a=some o)(c:o.cls=.type "tuple")(d:o.data=.seq e n)(z:e.size<=ak)(v:bp (f.map V.str) e.toList):IZ K a f :=
 fun _=>.inr ⟨o,e,n,l,c,d,z,v⟩
section
variable{P:bq}{w:World}{K:Za}{mg:Str->Option Value}{base h:Heap}{C:Addr}{x qual:Str}{st:Stmt}{N ps:Zb}{k:Nat}{sp:Sp}
abbrev zG(ps:Zb)(sp:Sp):Prop:=∀vs H Q E,sp vs H Q E->vs.length=ps.length
abbrev BodyOk(CX:DC)(P:bq)(w:World)(K:Za)(mg:Str->Option Value)(base:Heap)(qual:Str)(st:Stmt)(N:Zb)(k:Nat)(sp:Sp)(nox:Cx->Cx):Prop:=N.Nodup->∀(f:Addr) (cdv:Value) (A:Around) (outer:List Env) (s:Shared) (H:Hp) (vs:List V) (Q:VK) (E:XK),dF k (A.deeper (envOfC qual (bz st) s.heap.objs.size f cdv))->(A.deeper (envOfC qual (bz st) s.heap.objs.size f cdv)).units+16<cLine->sp vs H Q E ->
 ∃t,vW (nox (u_ CX P w K mg base N qual (bz st) f cdv A outer s H E)) (eZ st) t/\t (bQ Q) (start N vs) H
abbrev uJ(x qual:Str)(st:Stmt)(ps:Zb):Prop:=∀(kV doc pm:Value) (an:Option Addr) (cdv ct:Value) (us:Zf),us.length=ps.length->bindArgs (iE x qual (ik st) (eZ st) (bz st) .none kV doc pm an cdv ct) ⟨us,[]⟩=pure (ps.zip us)
theorem dG(X:K.In h)(G:h.Ns bH mg)(T:iQ K x st)(b:BodyOk CX0 P w K mg base x st N k sp Cx.nox)(i:uJ x x st ps)(S:gG N ps (bz st):=by walk_at "s")(l:zG ps sp:=by walk_at "l"):iT P w K mg base x ps (k+1) sp:=by
 obtain⟨f,a,t⟩:=T;obtain⟨j,F⟩:=t.fun_;exact⟨f,j,F.ok S l fun e A outer s H m Q E g h=>b S.nd f e A outer s H m Q E g (vJ g) h,dW X G a,F.kp,F.binds i⟩
theorem dM(j:DB K C)(T:DA K C x qual st)(b:BodyOk CX0 P w K mg base qual st N k sp Cx.nox)(m:uJ x qual st ps)(S:gG N ps (bz st):=by walk_at "s")(l:zG ps sp:=by walk_at "l"):DG P w K mg base C x ps (k+1) sp:=by
 obtain⟨f,a,i,t⟩:=T;obtain⟨n,F⟩:=t.fun_;exact⟨f,n,F.ok S l fun e A outer s H o Q E g h=>b S.nd f e A outer s H o Q E g (vJ g) h,j,⟨a,i,F.kp⟩,F.binds m⟩
theorem dN{y:Str}(j:mg y=some (.ref C))(mk:yg K C=true)(m:ee K (.ref C)=true)(T:DA K C "__init__" qual st)(b:BodyOk CX0 P w K mg base qual st N k sp Cx.nox)(n:uJ "__init__" qual st ps)(S:gG N ps (bz st):=by walk_at "s")(l:zG ps sp:=by walk_at "l"):New P w K mg base y C ps (k+1) sp:=by
 obtain⟨f,a,i,t⟩:=T;obtain⟨o,F⟩:=t.fun_;exact⟨f,o,F.ok S l fun e A outer s H p Q E g h=>b S.nd f e A outer s H p Q E g (vJ g) h,j,⟨mk,a,i,m⟩,F.binds n⟩
theorem dGX(X:K.In h)(G:h.Ns bH mg)(T:iQ K x st)(b:BodyOk (Hz P w K) P w K mg base x st N k sp id)(i:uJ x x st ps)(S:gG N ps (bz st):=by walk_at "s")(l:zG ps sp:=by walk_at "l"):FK P w K mg base x ps (k+1) sp:=by
 obtain⟨f,a,t⟩:=T;obtain⟨j,F⟩:=t.fun_;exact⟨f,j,F.okX S l fun e A outer s H m Q E g h=>b S.nd f e A outer s H m Q E g (vJ g) h,dW X G a,F.kp,F.binds i⟩
theorem dXN{y:Str}(j:mg y=some (.ref C))(m:jL K C)(n:ee K (.ref C)=true)(T:DA K C "__init__" qual st)(b:BodyOk CX0 P w K mg base qual st N k sp Cx.nox)(o:uJ "__init__" qual st ps)(S:gG N ps (bz st):=by walk_at "s")(l:zG ps sp:=by walk_at "l"):Ie P w K mg base y C ps (k+1) sp:=by
 obtain⟨f,a,i,t⟩:=T;obtain⟨p,F⟩:=t.fun_;exact⟨f,p,F.ok S l fun e A outer s H q Q E g h=>b S.nd f e A outer s H q Q E g (vJ g) h,j,m,a,i,n,F.binds o⟩
end
structure Zs(mg:Str->Option Value):Prop where
 all:mg "all"=none
 any:mg "any"=none
 bool:mg "bool"=none
 dict:mg "dict"=none
 divmod:mg "divmod"=none
 enumerate:mg "enumerate"=none
 int:mg "int"=none
 isinstance:mg "isinstance"=none
 len:mg "len"=none
 list:mg "list"=none
 range:mg "range"=none
 str:mg "str"=none
 tuple:mg "tuple"=none
 zip:mg "zip"=none
structure Cs(K:Za)(mg:Str->Option Value)(C Cx Ct a_STILL C_NoTaker C_NoJoin:Addr):Prop where
 LETTERS:Gc mg "LETTERS" (.str "abcdefghijklmnopqrstuvwxyz")
 LONGEST_NAME:Gc mg "LONGEST_NAME" (.int 8)
 MOST_WORDS:Gc mg "MOST_WORDS" (.int 4)
 MOST_ROOMS:Gc mg "MOST_ROOMS" (.int 150)
 MOST_DOORS:Gc mg "MOST_DOORS" (.int 2000)
 MOST_JOINED_ROOMS:Gc mg "MOST_JOINED_ROOMS" (.int 10)
 MOST_JOINED_DOORS:Gc mg "MOST_JOINED_DOORS" (.int 40)
 STILL:Gc mg "STILL" (.ref a_STILL)
 still:IZ K a_STILL aB
 mc:MC K C
 cm:mg "Machine"=some (.ref C)
 makes:yg K C=true
 kc:ee K (.ref C)=true
 xc:XC K Cx
 xb:Ht K Ct
 NoMachine:mg "NoMachine"=some (.ref Cx)
 TrialError:mg "TrialError"=some (.ref Ct)
 kx:ee K (.ref Cx)=true
 xt:XO K Ct jm
 xg:XG K
 x_NoMachine:XX K mg "NoMachine" Cx Ct
 nd:[Ct,Cx,C_NoTaker,C_NoJoin].Nodup
 x_NoTaker:XX K mg "NoTaker" C_NoTaker Ct
 na_NoTaker_room:bP K C_NoTaker "room"
 na_NoTaker_ask:bP K C_NoTaker "ask"
 x_NoJoin:XX K mg "NoJoin" C_NoJoin Ct
 i_NoJoin:bB K (.ref C_NoJoin) "__init__"=some (some (.builtin "ValueError.__init__"))
structure Ts(K:Za)(C Cx C_NoTaker C_NoJoin:Addr):Prop where
 f_law_spread:iQ K "_law_spread" (gC 45)
 f_law_open:iQ K "_law_open" (gC 46)
 f_law_take:iQ K "_law_take" (gC 48)
 f_law_names:iQ K "_law_names" (gC 49)
 f_law_put:iQ K "_law_put" (gC 51)
 f_law_draw_doors:iQ K "_law_draw_doors" (gC 52)
 f_is_name:iQ K "is_name" (gC 13)
 f_as_keys:iQ K "as_keys" (gC 15)
 f_first_wrong_name:iQ K "first_wrong_name" (gC 16)
 f_door_signs:iQ K "door_signs" (gC 17)
 f_first_wrong_door:iQ K "first_wrong_door" (gC 18)
 f_goals_by_start_and_sign:iQ K "goals_by_start_and_sign" (gC 19)
 f_led_by_still:iQ K "led_by_still" (gC 20)
 f_first_led_round:iQ K "first_led_round" (gC 21)
 f_need_none:iQ K "need_none" (gC 22)
 f_need_parts:iQ K "need_parts" (gC 23)
 f_doors_by_start:iQ K "doors_by_start" (gC 24)
 f_has_asks_alone:iQ K "has_asks_alone" (gC 25)
 f_Machine___init__:DA K C "__init__" "Machine.__init__" (ii (gC 26) 0)
 f_law_machine:iQ K "_law_machine" (gC 58)
 f_Machine_rooms:DA K C "rooms" "Machine.rooms" (ii (gC 26) 3)
 f_Machine_led_from:DA K C "led_from" "Machine.led_from" (ii (gC 26) 8)
 f_Machine_goals:DA K C "goals" "Machine.goals" (ii (gC 26) 7)
 f_law_still_on:iQ K "_law_still_on" (gC 50)
 f_Machine_asks:DA K C "asks" "Machine.asks" (ii (gC 26) 1)
 f_Machine_says:DA K C "says" "Machine.says" (ii (gC 26) 2)
 f_Machine_doors:DA K C "doors" "Machine.doors" (ii (gC 26) 4)
 f_Machine_doors_from:DA K C "doors_from" "Machine.doors_from" (ii (gC 26) 6)
 f_NoTaker_init:DA K C_NoTaker "__init__" "NoTaker.__init__" (ii (gC 4) 0)
 f_takes:iQ K "takes" (gC 28)
 f_need_all_asks_taken:iQ K "need_all_asks_taken" (gC 29)
 f_common:iQ K "common" (gC 33)
 f_wires_of:iQ K "wires_of" (gC 34)
 f_asks_of_both:iQ K "asks_of_both" (gC 35)
 f_is_small:iQ K "is_small" (gC 36)
 f_need_join:iQ K "need_join" (gC 37)
 f_alone_from:iQ K "alone_from" (gC 38)
 f_doors_alone:iQ K "doors_alone" (gC 39)
 f_wire_goals:iQ K "wire_goals" (gC 40)
 f_doors_together:iQ K "doors_together" (gC 41)
 f_pairs_of_rooms:iQ K "pairs_of_rooms" (gC 42)
 f_name_of_number:iQ K "name_of_number" (gC 14)
 f_joined:iQ K "joined" (gC 43)
 f_law_willing:iQ K "_law_willing" (gC 53)
 f_law_asks_left:iQ K "_law_asks_left" (gC 55)
 f_law_two_words:iQ K "_law_two_words" (gC 54)
 f_law_part:iQ K "_law_part" (gC 56)
 f_law_same:iQ K "_law_same" (gC 57)
 f_law_any_part:iQ K "_law_any_part" (gC 59)
 f_law_not_taken:iQ K "_law_not_taken" (gC 60)
 f_law_joined_due:iQ K "_law_joined_due" (gC 61)
 f_law68:iQ K "law" (gC 62)
section
variable{P:bq}{w:World}{K:Za}{mg:Str->Option Value}{base h:Heap}{C Cx Ct a_STILL C_NoTaker C_NoJoin:Addr}
section
variable(P:bq)(w:World)(K:Za)(mg:Str->Option Value)(C Cx Ct a_STILL C_NoTaker C_NoJoin:Addr)
abbrev ko:Prop:=∀base,iT P w K mg base "_law_spread" ["cell","at"] 1 lV
abbrev uL:Prop:=∀base,iT P w K mg base "_law_open" ["script"] 1 (sw K)
abbrev eG:Prop:=∀base,iT P w K mg base "_law_take" ["pen","many"] 2 eK
abbrev jc:Prop:=∀base,iT P w K mg base "_law_names" ["pen","many"] 3 lg
abbrev jM:Prop:=∀base,iT P w K mg base "_law_put" ["doors","door"] 1 le
abbrev gv:Prop:=∀base,iT P w K mg base "_law_draw_doors" ["pen","asks","says","rooms","full"] 3 gD
abbrev qR:Prop:=∀base,iT P w K mg base "is_name" ["text"] 1 sp_is_name
abbrev jO:Prop:=∀base,iT P w K mg base "as_keys" ["things"] 1 (sp_as_keys K)
abbrev fm:Prop:=∀base,iT P w K mg base "first_wrong_name" ["names","most","taken"] 2 (sp_first_wrong_name K)
abbrev kq:Prop:=∀base,iT P w K mg base "door_signs" ["asks","says"] 1 (sp_door_signs K)
abbrev fo:Prop:=∀base,iT P w K mg base "first_wrong_door" ["doors","rooms","signs"] 2 (sp_first_wrong_door K)
abbrev c9:Prop:=∀base,iT P w K mg base "goals_by_start_and_sign" ["doors"] 1 oz
abbrev iP:Prop:=∀base,iT P w K mg base "led_by_still" ["goals","room"] 1 wX
abbrev fW:Prop:=∀base,iT P w K mg base "first_led_round" ["rooms","led"] 1 sp_first_led_round
abbrev jb:Prop:=∀base,iT P w K mg base "need_none" ["part","number"] 3 sp_need_none
abbrev km:Prop:=∀base,iT P w K mg base "need_parts" ["asks","says","rooms","doors"] 4 sp_need_parts
abbrev gB:Prop:=∀base,iT P w K mg base "doors_by_start" ["rooms","doors"] 1 sp_doors_by_start
abbrev gy:Prop:=∀base,iT P w K mg base "has_asks_alone" ["doors"] 1 sp_has_asks_alone
abbrev mo:Prop:=∀base,New P w K mg base "Machine" C ["self","asks","says","rooms","doors"] 5 (oy C)
abbrev mH:Prop:=∀base,iT P w K mg base "_law_machine" ["told"] 7 (j4 C)
abbrev dR:Prop:=∀base,DG P w K mg base C "rooms" ["self"] 1 (gM C)
abbrev fq:Prop:=∀base,DG P w K mg base C "led_from" ["self","room"] 1 (iZ C)
abbrev fc:Prop:=∀base,DG P w K mg base C "goals" ["self","room","sign"] 1 (io C)
abbrev fV:Prop:=∀base,iT P w K mg base "_law_still_on" ["doors","rooms"] 1 (gL K)
abbrev dE:Prop:=∀base,DG P w K mg base C "asks" ["self"] 1 (fL C)
abbrev dD:Prop:=∀base,DG P w K mg base C "says" ["self"] 1 (fK C)
abbrev hU:Prop:=∀base,DG P w K mg base C "doors" ["self"] 1 (lh C)
abbrev eI:Prop:=∀base,DG P w K mg base C "doors_from" ["self","room"] 1 (gE C)
abbrev qS:Prop:=∀base,Ie P w K mg base "NoTaker" C_NoTaker ["self","room","ask"] 2 (tT C_NoTaker "room" "ask")
abbrev yf:Prop:=∀base,iT P w K mg base "takes" ["I","room","ask"] 2 (sp_takes C)
abbrev d6:Prop:=∀base,FK P w K mg base "need_all_asks_taken" ["I"] 4 (iY C C_NoTaker)
abbrev pf:Prop:=∀base,iT P w K mg base "common" ["words","others"] 1 sp_common
abbrev kh:Prop:=∀base,iT P w K mg base "wires_of" ["M","N"] 2 (k_ C)
abbrev fX:Prop:=∀base,iT P w K mg base "asks_of_both" ["M","N"] 3 (ln C)
abbrev nR:Prop:=∀base,iT P w K mg base "is_small" ["M"] 2 (lX C)
abbrev lQ:Prop:=∀base,FK P w K mg base "need_join" ["M","N"] 4 (lZ C C_NoJoin)
abbrev kr:Prop:=∀base,iT P w K mg base "alone_from" ["M","room","wires"] 2 (oA C)
abbrev jx:Prop:=∀base,iT P w K mg base "doors_alone" ["M","N","here","wires"] 3 (l6 K C)
abbrev ki:Prop:=∀base,iT P w K mg base "wire_goals" ["M","room","word"] 2 (om C)
abbrev gA:Prop:=∀base,iT P w K mg base "doors_together" ["M","N","here","wires"] 3 (l5 K C)
abbrev gr:Prop:=∀base,iT P w K mg base "pairs_of_rooms" ["M","N"] 2 (lY C)
abbrev gu:Prop:=∀base,iT P w K mg base "name_of_number" ["number"] 1 oo
abbrev zK:Prop:=∀base,FK P w K mg base "joined" ["M","N"] 7 (j5 C C_NoJoin C_NoTaker)
abbrev jw:Prop:=∀base,iT P w K mg base "_law_willing" ["pen","told"] 3 iX
abbrev fb:Prop:=∀base,iT P w K mg base "_law_asks_left" ["some"] 1 lp
abbrev kF:Prop:=∀base,iT P w K mg base "_law_two_words" ["pen","loose"] 4 su
abbrev nQ:Prop:=∀base,iT P w K mg base "_law_part" ["pen","asks","says","most"] 4 on
abbrev uK:Prop:=∀base,iT P w K mg base "_law_same" ["found","due"] 5 (b_ K 4)
abbrev lR:Prop:=∀base,iT P w K mg base "_law_any_part" ["pen","asks","says"] 5 sy
abbrev g_:Prop:=∀base,iT P w K mg base "_law_not_taken" ["told"] 2 (oq K)
abbrev jN:Prop:=∀base,iT P w K mg base "_law_joined_due" ["first","second"] 3 (ow K)
end
theorem C4{X:L2.Cx}:PE X (.List [.List [.Constant (.int 0) 0 ⟨274,13,274,14⟩] ⟨274,12,274,15⟩,.List [.Constant (.int 0) 0 ⟨274,18,274,19⟩] ⟨274,17,274,20⟩,.List [.Constant (.int 1) 0 ⟨274,23,274,24⟩] ⟨274,22,274,25⟩,.List [.Constant (.int 1) 0 ⟨274,28,274,29⟩] ⟨274,27,274,30⟩,.List [.Constant (.int 2) 0 ⟨274,33,274,34⟩] ⟨274,32,274,35⟩,.List [.Constant (.int 2) 0 ⟨274,38,274,39⟩] ⟨274,37,274,40⟩,.List [.Constant (.int 3) 0 ⟨274,43,274,44⟩] ⟨274,42,274,45⟩,.List [.Constant (.int 3) 0 ⟨274,48,274,49⟩] ⟨274,47,274,50⟩,.List [.Constant (.int 1) 0 ⟨274,53,274,54⟩,.Constant (.int 2) 0 ⟨274,56,274,57⟩] ⟨274,52,274,58⟩,.List [.Constant (.int 1) 0 ⟨274,61,274,62⟩,.Constant (.int 2) 0 ⟨274,64,274,65⟩] ⟨274,60,274,66⟩,.List [.Constant (.int 0) 0 ⟨274,69,274,70⟩,.Constant (.int 3) 0 ⟨274,72,274,73⟩] ⟨274,68,274,74⟩,.List [.Constant (.int 0) 0 ⟨274,77,274,78⟩,.Constant (.int 3) 0 ⟨274,80,274,81⟩] ⟨274,76,274,82⟩,.List [] ⟨274,84,274,86⟩,.List [.Constant (.int 0) 0 ⟨274,89,274,90⟩,.Constant (.int 2) 0 ⟨274,92,274,93⟩] ⟨274,88,274,94⟩,.List [.Constant (.int 1) 0 ⟨274,97,274,98⟩,.Constant (.int 3) 0 ⟨274,100,274,101⟩] ⟨274,96,274,102⟩] ⟨274,11,274,103⟩) (bj (aq (bj (au (tC (.int 0)))) (aq (bj (au (tC (.int 0)))) (aq (bj (au (tC (.int 1)))) (aq (bj (au (tC (.int 1)))) (aq (bj (au (tC (.int 2)))) (aq (bj (au (tC (.int 2)))) (aq (bj (au (tC (.int 3)))) (aq (bj (au (tC (.int 3)))) (aq (bj (aG (tC (.int 1)) (tC (.int 2)))) (aq (bj (aG (tC (.int 1)) (tC (.int 2)))) (aq (bj (aG (tC (.int 0)) (tC (.int 3)))) (aq (bj (aG (tC (.int 0)) (tC (.int 3)))) (aq (bj aN) (aq (bj (aG (tC (.int 0)) (tC (.int 2)))) (au (bj (aG (tC (.int 1)) (tC (.int 3)))))))))))))))))))):=by
 refine aH ?_;refine b9 ?_ ?_
 ·refine aH ?_;refine aQ ?_ ?_ ?_
  ·exact af
  rotate_left
  ·rfl
  exact bf
 refine b9 ?_ ?_
 ·refine aH ?_;refine aQ ?_ ?_ ?_
  ·exact af
  rotate_left
  ·rfl
  exact bf
 refine b9 ?_ ?_
 ·refine aH ?_;refine aQ ?_ ?_ ?_
  ·exact af
  rotate_left
  ·rfl
  exact bf
 refine b9 ?_ ?_
 ·refine aH ?_;refine aQ ?_ ?_ ?_
  ·exact af
  rotate_left
  ·rfl
  exact bf
 refine b9 ?_ ?_
 ·refine aH ?_;refine aQ ?_ ?_ ?_
  ·exact af
  rotate_left
  ·rfl
  exact bf
 refine b9 ?_ ?_
 ·refine aH ?_;refine aQ ?_ ?_ ?_
  ·exact af
  rotate_left
  ·rfl
  exact bf
 refine b9 ?_ ?_
 ·refine aH ?_;refine aQ ?_ ?_ ?_
  ·exact af
  rotate_left
  ·rfl
  exact bf
 refine b9 ?_ ?_
 ·refine aH ?_;refine aQ ?_ ?_ ?_
  ·exact af
  rotate_left
  ·rfl
  exact bf
 refine b9 ?_ ?_
 ·refine aH ?_;refine aQ ?_ ?_ ?_
  ·exact af
  rotate_left
  ·rfl
  refine aQ ?_ ?_ ?_
  ·exact af
  rotate_left
  ·rfl
  exact bf
 refine b9 ?_ ?_
 ·refine aH ?_;refine aQ ?_ ?_ ?_
  ·exact af
  rotate_left
  ·rfl
  refine aQ ?_ ?_ ?_
  ·exact af
  rotate_left
  ·rfl
  exact bf
 refine b9 ?_ ?_
 ·refine aH ?_;refine aQ ?_ ?_ ?_
  ·exact af
  rotate_left
  ·rfl
  refine aQ ?_ ?_ ?_
  ·exact af
  rotate_left
  ·rfl
  exact bf
 refine b9 ?_ ?_
 ·refine aH ?_;refine aQ ?_ ?_ ?_
  ·exact af
  rotate_left
  ·rfl
  refine aQ ?_ ?_ ?_
  ·exact af
  rotate_left
  ·rfl
  exact bf
 refine b9 ?_ ?_
 ·refine aH ?_;exact bf
 refine b9 ?_ ?_
 ·refine aH ?_;refine aQ ?_ ?_ ?_
  ·exact af
  rotate_left
  ·rfl
  refine aQ ?_ ?_ ?_
  ·exact af
  rotate_left
  ·rfl
  exact bf
 refine b9 ?_ ?_
 ·refine aH ?_;refine aQ ?_ ?_ ?_
  ·exact af
  rotate_left
  ·rfl
  refine aQ ?_ ?_ ?_
  ·exact af
  rotate_left
  ·rfl
  exact bf
 exact bf
theorem C5{X:L2.Cx}:PE X (.List [.List [] ⟨273,12,273,14⟩,.List [] ⟨273,16,273,18⟩,.List [] ⟨273,20,273,22⟩,.List [] ⟨273,24,273,26⟩] ⟨273,11,273,27⟩) (bj (aq (bj aN) (dP (bj aN) (bj aN) (bj aN)))):=by
 refine aH ?_;refine b9 ?_ ?_
 ·refine aH ?_;exact bf
 refine b9 ?_ ?_
 ·refine aH ?_;exact bf
 refine b9 ?_ ?_
 ·refine aH ?_;exact bf
 refine b9 ?_ ?_
 ·refine aH ?_;exact bf
 exact bf
section
variable(X:K.In h)(G:h.Ns bH mg)(z:Zs mg)(c:Cs K mg C Cx Ct a_STILL C_NoTaker C_NoJoin)(T:Ts K C Cx C_NoTaker C_NoJoin)
include X G z c T
theorem uU:ko P w K mg:=fun base=>dG X G T.f_law_spread (fun S _ _ _ _ _ _ _ _ _ a e h=>bK (CL (K:=K) h) (ae (cv (kG IL (pv 0) (aJ EU af af)) (aj (aD (pv 0))) bg) (ae (qs 2 S (aJ fj (aJ dq (aJ dq (aJ eQ (aJ fj (pv 0) af) af) (aJ eQ (pv 1) af)) af) af)) (ae (qs 3 S (aJ fj (aJ dq (aJ dq (aJ eQ (pv 2) (pv 2)) (aJ eQ (pv 1) af)) (aJ fj (pv 0) af)) af)) (ae (qs 4 S (aJ fj (aJ dq (aJ dq (aJ eQ (pv 3) (pv 3)) (aJ eQ (pv 2) af)) af) af)) (aj (aD (aJ dq (aJ eQ (aJ dq (aJ eQ (pv 2) af) (pv 3)) af) (pv 4))))))))) (by walk_at "b")
theorem yH:uL P w K mg:=fun base=>dG X G T.f_law_open (fun S _ _ _ _ _ _ _ _ _ a e h=>bK (Gj h) (ae (qs 1 S (qL rfl z.list (a1 (gQ oC (pv 0) j8 (ic af))))) (ae (bV bI rfl (ma rfl z.enumerate (a1 (gQ oC (pv 0) (ic af) (ic af)))) (dY rfl (aA (gn 2 S) (aA (gn 3 S) cS))) (aj (lB (aJ dq (xl (pv 1) (aJ fj (pv 2) af)) (pv 3)) (xf (pv 1) (aJ fj (pv 2) af) oE)))) (aj (aD (aH (a3 (pv 1) af af))))))) (by walk_at "b")
theorem yE(a:ko P w K mg):eG P w K mg:=fun base=>dG X G T.f_law_take (fun S _ _ _ _ _ _ _ _ _ e f h=>bK (Gh h) (ae (cv (kG yY (xl (pv 0) af) (pv 1)) (ae (qs 2 S (xl (pv 0) af)) (ae (qs 3 S af) (ae (cv (kG yY (pv 2) (ql z.len (a1 (xl (pv 0) af)))) (aj (qs 3 S (xl (xl (pv 0) af) (pv 2)))) (aj (cv (kG kD (ql z.len (a1 (xl (pv 0) af))) af) (aj (qs 3 S (aJ fj (xl (xl (pv 0) af) (aJ fj (aJ dq (aJ eQ (pv 2) af) af) (ql z.len (a1 (xl (pv 0) af))))) (aJ dq (aJ EU af af) (pv 2))))) bg))) (ae (lB (aJ dq (pv 2) af) (xf (pv 0) af oE)) (aj (lB (qf e (a base) (a2 (pv 3) (pv 2))) (xf (pv 0) af oE))))))) bg) (ae (qs 4 S (aJ fj (xl (pv 0) af) (pv 1))) (ae (lB (aJ sF (xl (pv 0) af) (pv 1)) (xf (pv 0) af oE)) (aj (aD (pv 4))))))) (by walk_at "b")
theorem wV(a:eG P w K mg):jc P w K mg:=fun base=>dG X G T.f_law_names (fun S _ _ _ _ _ _ _ _ _ e f h=>bK (Et h) (ae (qs 2 S bN) (ae (qs 3 S (i5 PySem.F.plainAttrs_str PySem.F.slot_str_join PySem.F.type_str_join GG bN (a1 (qc (ip rfl z.range (a1 af)) (aU (by decide)) fun _ _ _ _ _ _=>⟨gc 0,dh,xs' (pv 1) (qf e (a base) (a2 (pv 2) af))⟩)))) (ae (qs 4 S (qf e (a base) (a2 (pv 0) af))) (ae (qs 5 S (qf e (a base) (a2 (pv 0) af))) (ae (qs 6 S (qf e (a base) (a2 (pv 0) af))) (ae (qs 7 S (aH bf)) (ae (bV bI rfl (ip rfl z.range (a1 (pv 1))) (gn 8 S) (ae (qs 9 S (xs' (pv 2) (aJ fj (aJ dq (pv 5) (aJ eQ af (pv 8))) af))) (ae (qs 10 S (gQ Ai (pv 3) j8 (ic (aJ fj (aJ dq (pv 6) (aJ eQ (pv 8) (aJ fj (pv 4) af))) af)))) (ae (qs 11 S (xl (aH (a3 af (ql z.len (a1 (pv 10))) (aJ sF (ql z.len (a1 (pv 10))) af))) (pv 4))) (aj (bU (i5 f8 jQ jP dS (pv 7) (a1 (aJ ni (aJ ni (gQ Ai (pv 10) j8 (ic (pv 11))) (pv 9)) (gQ Ai (pv 10) (ic (pv 11)) j8)))))))))) (aj (aD (pv 7))))))))))) (by walk_at "b")
theorem z_:jM P w K mg:=fun base=>dG X G T.f_law_put (fun S _ _ _ _ _ _ _ _ _ e a h=>bK (HF h) (aj (cv (BA (iq a) (pv 1) (pv 0)) (aj (bU (i5 f8 jQ jP dS (pv 0) (a1 (pv 1))))) bg))) (by walk_at "b")
theorem n6(a:eG P w K mg)(e:jM P w K mg):gv P w K mg:=fun base=>dG X G T.f_law_draw_doors (fun S _ _ _ _ _ _ _ _ _ f g h=>bK (u1 h) (ae (qs 5 S (aH bf)) (ae (qs 6 S (qf f (a base) (a2 (pv 0) af))) (ae (bV bI rfl (ma rfl z.enumerate (a1 (pv 3))) (dY rfl (aA (gn 7 S) (aA (gn 8 S) cS))) (ae (bV bI rfl (ip rfl z.range (a1 (xl (aH (aQ af (a3 af af af))) (qf f (a base) (a2 (pv 0) af))))) (gn 9 S) (ae (qs 10 S (bc (a2 bN (xl (pv 2) (qf f (a base) (a2 (pv 0) (ql z.len (a1 (pv 2))))))))) (aj (bU (qf f (e base) (a2 (pv 5) (bc (a3 (pv 8) (pv 10) (xl (pv 3) (qf f (a base) (a2 (pv 0) (ql z.len (a1 (pv 3)))))))))))))) (ae (bV bI rfl (aP (pv 1)) (gn 11 S) (aj (bV bI rfl (ip rfl z.range (a1 (xl (aH (aQ (pv 4) (a3 af af af))) (qf f (a base) (a2 (pv 0) af))))) (gn 9 S) (aj (bU (qf f (e base) (a2 (pv 5) (bc (a3 (pv 8) (bc (a2 bN (pv 11))) (xl (pv 3) (qf f (a base) (a2 (pv 0) (ql z.len (a1 (pv 3))))))))))))))) (ae (qs 12 S (xl (aH (a2 (gQ oC (pv 3) (ic (aJ dq (pv 7) af)) j8) (gQ oC (pv 3) j8 (ic (pv 7))))) (pv 6))) (aj (cv (PW.pt (lz (kG (EV g) (pv 12) (aH bf)) (j7 (kG oU (qf f (a base) (a2 (pv 0) af)) af)))) (aj (bU (qf f (e base) (a2 (pv 5) (bc (a3 (pv 8) (bc (a1 bN)) (xq (pv 12) (qf f (a base) (a2 (pv 0) (ql z.len (a1 (pv 12)))))))))))) bg)))))) (aj (aD (pv 5))))))) (by walk_at "b")
theorem Aa:qR P w K mg:=fun base=>dG X G T.f_is_name (fun S _ _ _ _ _ _ _ _ _ a e h=>bK (Ao h) (aj (aD (nh (GK Hb (pv 0) bN) (nh (GK EW (ql z.len (a1 (pv 0))) (hW rfl c.LONGEST_NAME)) (t8 (qB (lH rfl) z.all boot_all (a1 (qc (HJ (pv 0)) (aU (by decide)) fun _ _ _ _ _ _=>⟨gc 0,dh,eci Az (pv 0) (hW rfl c.LETTERS)⟩))))))))) (by walk_at "b")
theorem Ab:jO P w K mg:=fun base=>dG X G T.f_as_keys (fun S _ _ _ _ _ _ _ _ _ e a h=>bK (Ap h) (ae (qs 1 S t_) (ae (bV bI rfl (aP (pv 0)) (gn 2 S) (aj (oP a (pv 1) (pv 2) rg rfl))) (aj (aD (pv 1)))))) (by walk_at "b")
theorem mv(a:qR P w K mg)(e:jO P w K mg):fm P w K mg:=fun base=>dG X G T.f_first_wrong_name (fun S _ _ _ _ _ _ _ _ _ f g h=>bK (mx h) (ae (cv (kG oU (ql z.len (a1 (pv 0))) af) (aj (aD af)) bg) (ae (qs 3 S (qf f (e base) (a1 (pv 2)))) (ae (bV bI rfl (ma rfl z.enumerate (a1 (pv 0))) (dY rfl (aA (gn 4 S) (aA (gn 5 S) cS))) (ae (cv (PW.pt (kC (kG oU (pv 4) (pv 1)) (kC (jp (Ax g (pv 5) (pv 3))) (j6 (m_ (gf (qf f (a base) (a1 (pv 5))))))))) (aj (aD (pv 4))) bg) (aj (oP g (pv 3) (pv 5) rg rfl)))) (aj (aD qo)))))) (by walk_at "b")
theorem uV:kq P w K mg:=fun base=>dG X G T.f_door_signs (fun S _ _ _ _ _ _ _ _ _ a e h=>bK (u3 c.still h) (aj (aD (aJ gh (aJ gh (qc (aP (pv 0)) (aU (by decide)) fun _ _ _ _ _ _=>⟨gc 0,dh,bc (a2 bN (pv 0))⟩) (qc (aP (pv 1)) (aU (by decide)) fun _ _ _ _ _ _=>⟨gc 0,dh,bc (a2 bN (pv 0))⟩)) (aH (a1 (hW rfl c.STILL))))))) (by walk_at "b")
theorem mw(a:jO P w K mg):fo P w K mg:=fun base=>dG X G T.f_first_wrong_door (fun S _ _ _ _ _ _ _ _ _ f e h=>bK (my h) (ae (qs 3 S (qf f (a base) (a1 (pv 1)))) (ae (qs 4 S yV) (ae (bV bI rfl (ma rfl z.enumerate (a1 (pv 0))) (dY rfl (aA (gn 5 S) (aA (gn 6 S) cS))) (ae (cv (PW.pt (kC (kG oU (pv 5) (hW rfl c.MOST_DOORS)) (j6 (jp (Ax e (pv 6) (pv 4)))))) (aj (aD (pv 5))) bg) (ae (cv (PW.pt (kC (jp (qq e (xq (pv 6) af) (pv 3))) (kC (BA (iq e) (xq (pv 6) af) (pv 2)) (j6 (jp (qq e (xq (pv 6) af) (pv 3))))))) (aj (aD (pv 5))) bg) (aj (oP e (pv 4) (pv 6) rg rfl))))) (aj (aD qo)))))) (by walk_at "b")
theorem iG:c9 P w K mg:=fun base=>dG X G T.f_goals_by_start_and_sign (fun S _ _ _ _ _ _ _ _ _ e a h=>bK (iH h) (ae (qs 1 S yV) (ae (bV bI rfl (aP (pv 0)) (dY rfl (aA (gn 2 S) (aA (gn 3 S) (aA (gn 4 S) cS)))) (aj (bU (i5 f8 jQ jP dS (i5 PySem.F.plainAttrs_dict PySem.F.slot_dict_setdefault PySem.F.type_dict_setdefault (C9 a) (pv 1) (a2 (bc (a2 (pv 2) (pv 3))) (aH bf))) (a1 (pv 4)))))) (aj (aD (pv 1)))))) (by walk_at "b")
theorem rV:iP P w K mg:=fun base=>dG X G T.f_led_by_still (fun S _ _ _ _ _ _ _ _ _ e a h=>bK (rZ c.still h) (ae (qs 2 S t_) (ae (qs 3 S (aH (a1 (pv 1)))) (ae (yT bI (kG kD (ql z.len (a1 (pv 3))) af) (ae (qs 4 S (HR f8 PySem.F.slot_list_pop PySem.F.type_list_pop HU (pv 3))) (aj (bV bI rfl (HK (oQ a (pv 0) (bc (a2 (pv 4) (hW rfl c.STILL))) (bc bf) ⟨rfl,rfl,rfl,rfl⟩)) (gn 5 S) (aj (cv (jp (qq a (pv 5) (pv 2))) (ae (oP a (pv 2) (pv 5) rg rfl) (aj (bU (i5 f8 jQ jP dS (pv 3) (a1 (pv 5)))))) bg)))))) (aj (aD (pv 2))))))) (by walk_at "b")
theorem m7:fW P w K mg:=fun base=>dG X G T.f_first_led_round (fun S _ _ _ _ _ _ _ _ _ e a h=>bK (m8 h) (ae (bV bI rfl (ma rfl z.enumerate (a1 (pv 0))) (dY rfl (aA (gn 2 S) (aA (gn 3 S) cS))) (aj (cv (jp (Ax a (pv 3) (oR a (pv 1) (pv 3) (fun _ _=>rfl)))) (aj (aD (pv 2))) bg))) (aj (aD qo)))) (by walk_at "b")
theorem wT:jb P w K mg:=fun base=>dG X G T.f_need_none (fun S _ _ _ _ _ _ _ _ _ a e h=>bK (w_ (K:=K) h) (aj (cv (jp (BP (pv 1))) (aj (EK)) bg))) (by walk_at "b")
theorem uT(a:fm P w K mg)(g:kq P w K mg)(f:fo P w K mg)(e:jb P w K mg):km P w K mg:=fun base=>dG X G T.f_need_parts (fun S _ _ _ _ _ _ _ _ _ i j h=>bK (uZ (K:=K) h) (ae (bU (qf i (e base) (a2 bN (qf i (a base) (a3 (pv 0) (hW rfl c.MOST_WORDS) (aH bf)))))) (ae (bU (qf i (e base) (a2 bN (qf i (a base) (a3 (pv 1) (hW rfl c.MOST_WORDS) (pv 0)))))) (ae (bU (qf i (e base) (a2 bN (qf i (a base) (a3 (pv 2) (hW rfl c.MOST_ROOMS) (aH bf)))))) (aj (bU (qf i (e base) (a2 bN (qf i (f base) (a3 (pv 3) (pv 2) (qf i (g base) (a2 (pv 0) (pv 1))))))))))))) (by walk_at "b")
theorem oh:gB P w K mg:=fun base=>dG X G T.f_doors_by_start (fun S _ _ _ _ _ _ _ _ _ e a h=>bK (oH h) (ae (qs 2 S t_) (ae (bV bI rfl (aP (pv 0)) (gn 3 S) (aj (oP a (pv 2) (pv 3) (aH bf) rfl))) (ae (bV bI rfl (aP (pv 1)) (gn 4 S) (aj (bU (i5 f8 jQ jP dS (oR a (pv 2) (xq (pv 4) af) (fun _ _=>rfl)) (a1 (pv 4)))))) (aj (aD (pv 2))))))) (by walk_at "b")
theorem n_:gy P w K mg:=fun base=>dG X G T.f_has_asks_alone (fun S _ _ _ _ _ _ _ _ _ a e h=>bK (oG h) (aj (aD (qB (lH rfl) z.all boot_all (a1 (qc (aP (pv 0)) (aU (by decide)) fun _ _ _ _ _ _=>⟨gc 0,dh,GK oU (xq (xq (pv 0) af) af) bN⟩)))))) (by walk_at "b")
theorem Ad(l:jO P w K mg)(a:c9 P w K mg)(i:iP P w K mg)(e:fW P w K mg)(k:jb P w K mg)(j:km P w K mg)(f:gB P w K mg)(g:gy P w K mg):mo P w K mg C:=fun base=>dN c.cm c.makes c.kc T.f_Machine___init__ (fun S _ _ _ _ _ _ _ _ _ m n h=>bK (Gn c.mc h) (ae (bU (qf m (j base) (aQ (pv 1) (a3 (pv 2) (pv 3) (pv 4))))) (ae (lA (pv 0) (qL rfl z.list (a1 (pv 1))) rfl) (ae (lA (pv 0) (qL rfl z.list (a1 (pv 2))) rfl) (ae (lA (pv 0) (qL rfl z.list (a1 (pv 3))) rfl) (ae (lA (pv 0) (qL rfl z.list (a1 (pv 4))) rfl) (ae (lA (pv 0) (qf m (f base) (a2 (pv 3) (pv 4))) rfl) (ae (lA (pv 0) (qf m (l base) (a1 (qc (aP (pv 3)) (aU (by decide)) fun _ _ _ _ _ _=>⟨gc 0,fP (gf (qf m (g base) (a1 (oR n (jq (pv 1) rfl) (pv 0) (fun _ _=>rfl))))),pv 0⟩))) rfl) (ae (lA (pv 0) (qf m (a base) (a1 (pv 4))) rfl) (ae (lA (pv 0) (qp (xP rfl) rfl z.dict uz (a1 (qc (aP (pv 3)) (aU (by decide)) fun _ _ _ _ _ _=>⟨gc 0,dh,bc (a2 (pv 0) (qf m (i base) (a2 (jq (pv 1) rfl) (pv 0))))⟩))) rfl) (aj (bU (qf m (k base) (a2 bN (qf m (e base) (a2 (pv 3) (jq (pv 0) rfl))))))))))))))))) (by walk_at "b")
theorem tQ(a:mo P w K mg C):mH P w K mg C:=fun base=>dG X G T.f_law_machine (fun S _ _ _ _ _ _ _ _ _ e f h=>bK (Am h) (aj (aD (EQ (a base) (e.mono (by decide)) rfl (aQ (qL rfl z.list (a1 (xq (pv 0) af))) (a3 (qL rfl z.list (a1 (xq (pv 0) af))) (qL rfl z.list (a1 (xq (pv 0) af))) (qL rfl z.list (a1 (xq (pv 0) af))))))))) (by walk_at "b")
theorem qa:dR P w K mg C:=fun base=>dM c.mc.cls T.f_Machine_rooms (fun S _ _ _ _ _ _ _ _ _ a e h=>bK (Ep c.mc h) (aj (aD (qL rfl z.list (a1 (jq (pv 0) rfl)))))) (by walk_at "b")
theorem mr:fq P w K mg C:=fun base=>dM c.mc.cls T.f_Machine_led_from (fun S _ _ _ _ _ _ _ _ _ e a h=>bK (yP c.mc h) (aj (aD (qL rfl z.list (a1 (oQ a (jq (pv 0) rfl) (pv 1) (bc bf) ⟨rfl,rfl,rfl,rfl⟩)))))) (by walk_at "b")
theorem qb:fc P w K mg C:=fun base=>dM c.mc.cls T.f_Machine_goals (fun S _ _ _ _ _ _ _ _ _ e a h=>bK (CQ c.mc h) (aj (aD (qL rfl z.list (a1 (oQ a (jq (pv 0) rfl) (bc (a2 (pv 1) (pv 2))) (bc bf) ⟨rfl,rfl,rfl,rfl⟩)))))) (by walk_at "b")
theorem rW:fV P w K mg:=fun base=>dG X G T.f_law_still_on (fun S _ _ _ _ _ _ _ _ _ e a h=>bK (yN h) (ae (qs 2 S (qL rfl z.list (a1 (pv 1)))) (ae (qs 3 S af) (ae (yT bI (kG yY (pv 3) (ql z.len (a1 (pv 2)))) (ae (bV bI rfl (aP (pv 0)) (dY rfl (aA (gn 4 S) (aA (gn 5 S) (aA (gn 6 S) cS)))) (aj (cv (PW.pt (lz (kG (gZ a) (pv 4) (xq (pv 2) (pv 3))) (lz (kG (gZ a) (pv 5) (bc (a1 bN))) (j7 (BA (iq a) (pv 6) (pv 2)))))) (aj (bU (i5 f8 jQ jP dS (pv 2) (a1 (pv 6))))) bg))) (aj (qs 3 S (aJ dq (pv 3) af))))) (aj (aD (pv 2))))))) (by walk_at "b")
theorem rU:dE P w K mg C:=fun base=>dM c.mc.cls T.f_Machine_asks (fun S _ _ _ _ _ _ _ _ _ a e h=>bK (Go c.mc h) (aj (aD (qL rfl z.list (a1 (jq (pv 0) rfl)))))) (by walk_at "b")
theorem rT:dD P w K mg C:=fun base=>dM c.mc.cls T.f_Machine_says (fun S _ _ _ _ _ _ _ _ _ a e h=>bK (Gi c.mc h) (aj (aD (qL rfl z.list (a1 (jq (pv 0) rfl)))))) (by walk_at "b")
theorem qd:hU P w K mg C:=fun base=>dM c.mc.cls T.f_Machine_doors (fun S _ _ _ _ _ _ _ _ _ a e h=>bK (Ew c.mc h) (aj (aD (qL rfl z.list (a1 (jq (pv 0) rfl)))))) (by walk_at "b")
theorem kI:eI P w K mg C:=fun base=>dM c.mc.cls T.f_Machine_doors_from (fun S _ _ _ _ _ _ _ _ _ e a h=>bK (u2 c.mc h) (aj (aD (qL rfl z.list (a1 (oQ a (jq (pv 0) rfl) (pv 1) (bc bf) ⟨rfl,rfl,rfl,rfl⟩)))))) (by walk_at "b")
theorem Ac:qS P w K mg C_NoTaker:=fun base=>dXN c.x_NoTaker.g c.x_NoTaker.cls c.x_NoTaker.kp T.f_NoTaker_init (fun S _ _ _ _ _ _ _ _ _ a e h=>bK (HE (n0:="self") (n1:="room") (n2:="ask") c.x_NoTaker.cls c.na_NoTaker_room c.na_NoTaker_ask (by decide +kernel) h) (ae (bU (ET c.xb rfl c.TrialError (a3 (pv 0) (pv 1) (pv 2)))) (ae (BI (pv 0) (pv 1) rfl) (aj (BI (pv 0) (pv 2) rfl))))) (by walk_at "b")
theorem Eg(a:fq P w K mg C)(e:fc P w K mg C):yf P w K mg C:=fun base=>dG X G T.f_takes (fun S _ _ _ _ _ _ _ _ _ f g h=>bK (Eo h) (aj (aD (qB (zo rfl) z.any boot_any (a1 (qc (aP (aJ gh (aH (a1 (pv 1))) (qm f (a base) (pv 0) (a1 (pv 1))))) (aU (by decide)) fun _ _ _ _ _ _=>⟨gc 0,dh,GK kD (ql z.len (a1 (qm f (e base) (pv 1) (a2 (pv 0) (bc (a2 bN (pv 2))))))) af⟩)))))) (by walk_at "b")
theorem jZ(a:dR P w K mg C)(e:dE P w K mg C)(f:qS P w K mg C_NoTaker)(g:yf P w K mg C):d6 P w K mg C C_NoTaker:=fun base=>dGX X G T.f_need_all_asks_taken (fun S _ _ _ _ _ _ _ _ _ i j h=>bK (yO h) (Au (iI (EH rfl (aP (qj i (a base) (pv 0))) (gn 1 S) (iI (EH rfl (aP (qj i (e base) (pv 0))) (gn 2 S) (iI (yQ (m_ (gf (qf i (g base) (a3 (pv 0) (pv 1) (pv 2))))) (iI (At (C2 (f base) (i.mono (by decide)) rfl rfl (a2 (pv 1) (pv 2))))) tZ)))))))) (by walk_at "b")
theorem CI:pf P w K mg:=fun base=>dG X G T.f_common (fun S _ _ _ _ _ _ _ _ _ e a h=>bK (CU h) (aj (aD (qc (aP (pv 0)) (aU (by decide)) fun _ _ _ _ _ _=>⟨gc 0,fP (BA (lC a) (pv 0) (pv 1)),pv 0⟩)))) (by walk_at "b")
theorem yD(a:dE P w K mg C)(e:dD P w K mg C)(f:pf P w K mg):kh P w K mg C:=fun base=>dG X G T.f_wires_of (fun S _ _ _ _ _ _ _ _ _ g i h=>bK (Em (K:=K) h) (aj (aD (aJ gh (qf g (f base) (a2 (qj g (e base) (pv 0)) (qj g (a base) (pv 1)))) (qf g (f base) (a2 (qj g (e base) (pv 1)) (qj g (a base) (pv 0)))))))) (by walk_at "b")
theorem rY(a:dE P w K mg C)(e:kh P w K mg C):fX P w K mg C:=fun base=>dG X G T.f_asks_of_both (fun S _ _ _ _ _ _ _ _ _ f g h=>bK (Ex h) (ae (qs 2 S (qf f (e base) (a2 (pv 0) (pv 1)))) (aj (aD (qc (aP (aJ gh (qj f (a base) (pv 0)) (qj f (a base) (pv 1)))) (aU (by decide)) fun _ _ _ _ _ _=>⟨gc 0,fP (BA (iq g) (pv 0) (pv 1)),pv 0⟩))))) (by walk_at "b")
theorem yI(a:dR P w K mg C)(e:hU P w K mg C):nR P w K mg C:=fun base=>dG X G T.f_is_small (fun S _ _ _ _ _ _ _ _ _ f g h=>bK (CM h) (aj (aD (nh (GK EW (ql z.len (a1 (qj f (a base) (pv 0)))) (hW rfl c.MOST_JOINED_ROOMS)) (t8 (GK EW (ql z.len (a1 (qj f (e base) (pv 0)))) (hW rfl c.MOST_JOINED_DOORS))))))) (by walk_at "b")
theorem wU(e:dE P w K mg C)(a:dD P w K mg C)(j:pf P w K mg)(f:fX P w K mg C)(i:nR P w K mg C):lQ P w K mg C C_NoJoin:=fun base=>dGX X G T.f_need_join (fun S _ _ _ _ _ _ _ _ _ k l h=>bK (CP h) (Au (fO (yQ (PW.pt (kC (m_ (gf (qf k (i base) (a1 (pv 0))))) (j6 (m_ (gf (qf k (i base) (a1 (pv 1)))))))) (iI (At (l9 c.x_NoJoin.cls c.i_NoJoin c.x_NoJoin.kp rfl rfl c.x_NoJoin.g (a1 bN)))) tZ) (fO (yQ (PW.pt (kC (kG kD (ql z.len (a1 (qf k (j base) (a2 (qj k (e base) (pv 0)) (qj k (e base) (pv 1)))))) af) (j6 (kG kD (ql z.len (a1 (qf k (j base) (a2 (qj k (a base) (pv 0)) (qj k (a base) (pv 1)))))) af)))) (iI (At (l9 c.x_NoJoin.cls c.i_NoJoin c.x_NoJoin.kp rfl rfl c.x_NoJoin.g (a1 bN)))) tZ) (fO (yQ (kG oU (ql z.len (a1 (qf k (f base) (a2 (pv 0) (pv 1))))) af) (iI (At (l9 c.x_NoJoin.cls c.i_NoJoin c.x_NoJoin.kp rfl rfl c.x_NoJoin.g (a1 bN)))) tZ) (iI (yQ (PW.pt (kC (kG kD (ql z.len (a1 (qf k (f base) (a2 (pv 0) (pv 1))))) (hW rfl c.MOST_WORDS)) (j6 (kG kD (ql z.len (a1 (aJ gh (qj k (a base) (pv 0)) (qj k (a base) (pv 1))))) (hW rfl c.MOST_WORDS))))) (iI (At (l9 c.x_NoJoin.cls c.i_NoJoin c.x_NoJoin.kp rfl rfl c.x_NoJoin.g (a1 bN)))) tZ))))))) (by walk_at "b")
theorem uW(a:eI P w K mg C):kr P w K mg C:=fun base=>dG X G T.f_alone_from (fun S _ _ _ _ _ _ _ _ _ f e h=>bK (Ez c.still h) (aj (aD (qc (aP (qm f (a base) (pv 0) (a1 (pv 1)))) (md (cz (aU (by decide)) bh (cz (aU (by decide)) bh (cz (aU (by decide)) bh (jD) (cA)) (du bh (cA))) (du bh (du bh (cA))))) fun _ _ _ _ _ _=>⟨dY rfl (aA (gc 0) (aA (gc 1) (aA (gc 2) cS))),fP (PW.pt (kC (kG (gZ e) (pv 1) (hW rfl c.STILL)) (j6 (BA (iq e) (xt (pv 1) af) (pv 3))))),bc (a2 (pv 1) (pv 2))⟩)))) (by walk_at "b")
theorem tR(a:kr P w K mg C):jx P w K mg C:=fun base=>dG X G T.f_doors_alone (fun S _ _ _ _ _ _ _ _ _ e f h=>bK (CT h) (ae (lB (pv 2) (dY rfl (aA (gn 4 S) (aA (gn 5 S) cS)))) (ae (qsc 6 S (aP (qf e (a base) (a3 (pv 0) (pv 4) (pv 3)))) (md (cz (aU (by decide)) bh (cz (aU (by decide)) bh (jD) (cA)) (du bh (cA)))) fun _ _ _ _ _ _=>⟨dY rfl (aA (gc 0) (aA (gc 1) cS)),dh,bc (a3 (pv 2) (pv 0) (bc (a2 (pv 1) (pv 3))))⟩) (aj (aD (aJ gh (pv 6) (qc (aP (qf e (a base) (a3 (pv 1) (pv 5) (pv 3)))) (md (cz (aU (by decide)) bh (cz (aU (by decide)) bh (jD) (cA)) (du bh (cA)))) fun _ _ _ _ _ _=>⟨dY rfl (aA (gc 0) (aA (gc 1) cS)),dh,bc (a3 (pv 2) (pv 0) (bc (a2 (pv 3) (pv 1))))⟩))))))) (by walk_at "b")
theorem uS(a:fc P w K mg C)(e:dD P w K mg C):ki P w K mg C:=fun base=>dG X G T.f_wire_goals (fun S _ _ _ _ _ _ _ _ _ f g h=>bK (En h) (aj (aD (qm f (a base) (pv 0) (a2 (pv 1) (bc (a2 (ES (BA (lC g) (pv 2) (qj f (e base) (pv 0))) bN bN) (pv 2)))))))) (by walk_at "b")
theorem og(a:ki P w K mg C):gA P w K mg C:=fun base=>dG X G T.f_doors_together (fun S _ _ _ _ _ _ _ _ _ e f h=>bK (CS h) (ae (qs 4 S (aH bf)) (ae (bV bI rfl (aP (pv 3)) (gn 5 S) (ae (qs 6 S (qf e (a base) (a3 (pv 1) (xt (pv 2) af) (pv 5)))) (aj (bV bI rfl (aP (qf e (a base) (a3 (pv 0) (xt (pv 2) af) (pv 5)))) (gn 7 S) (aj (bU (i5 f8 PySem.F.slot_list_extend PySem.F.type_list_extend qt (pv 4) (a1 (qc (aP (pv 6)) (aU (by decide)) fun _ _ _ _ _ _=>⟨gc 0,dh,bc (a3 (pv 1) (bc (a2 bN (pv 2))) (bc (a2 (pv 3) (pv 0))))⟩))))))))) (aj (aD (pv 4)))))) (by walk_at "b")
theorem nY(a:dR P w K mg C):gr P w K mg C:=fun base=>dG X G T.f_pairs_of_rooms (fun S _ _ _ _ _ _ _ _ _ e f h=>bK (CO h) (ae (qs 2 S (aH bf)) (ae (bV bI rfl (aP (qj e (a base) (pv 0))) (gn 3 S) (aj (bU (i5 f8 PySem.F.slot_list_extend PySem.F.type_list_extend qt (pv 2) (a1 (qc (aP (qj e (a base) (pv 1))) (aU (by decide)) fun _ _ _ _ _ _=>⟨gc 0,dh,bc (a2 (pv 1) (pv 0))⟩)))))) (aj (aD (pv 2)))))) (by walk_at "b")
theorem nZ:gu P w K mg:=fun base=>dG X G T.f_name_of_number (fun S _ _ _ _ _ _ _ _ _ a e h=>bK (Eu h) (ae (lB (qB xO z.divmod boot_divmod (a2 (pv 0) (ql z.len (a1 (hW rfl c.LETTERS))))) (dY rfl (aA (gn 1 S) (aA (gn 2 S) cS)))) (aj (aD (aJ ni (xs' (hW rfl c.LETTERS) (pv 1)) (xs' (hW rfl c.LETTERS) (pv 2))))))) (by walk_at "b")
theorem CH(n:mo P w K mg C)(e:dD P w K mg C)(a:d6 P w K mg C C_NoTaker)(m:kh P w K mg C)(j:fX P w K mg C)(l:lQ P w K mg C C_NoJoin)(k:jx P w K mg C)(f:gA P w K mg C)(g:gr P w K mg C)(i:gu P w K mg):zK P w K mg C C_NoTaker C_NoJoin:=fun base=>dGX X G T.f_joined (fun S _ _ _ _ _ _ _ _ _ o p h=>bK (An h) (Au (fO (At (xa (xh (l base) (o.mono (by decide)) rfl (a2 (pv 0) (pv 1))))) (fO (At (xa (xh (a base) (o.mono (by decide)) rfl (a1 (pv 0))))) (fO (At (xa (xh (a base) (o.mono (by decide)) rfl (a1 (pv 1))))) (fO (At (l_ (qs 2 S (qf o (m base) (a2 (pv 0) (pv 1)))))) (fO (At (l_ (qs 3 S (qp (va rfl p) rfl z.dict uz (a1 (qc (ma rfl z.enumerate (a1 (qf o (g base) (a2 (pv 0) (pv 1))))) (md (cz (aU (by decide)) bh (cz (aU (by decide)) bh (jD) (cA)) (du bh (cA)))) fun _ _ _ _ _ _=>⟨dY rfl (aA (gc 0) (aA (gc 1) cS)),dh,bc (a2 (pv 1) (qf o (i base) (a1 (pv 0))))⟩)))))) (fO (At (l_ (qs 4 S (aH bf)))) (fO (At (l_ (bV bI rfl (EN (pv 3)) (gn 5 S) (aj (bU (i5 f8 PySem.F.slot_list_extend PySem.F.type_list_extend qt (pv 4) (a1 (aJ gh (qf o (k base) (aQ (pv 0) (a3 (pv 1) (pv 5) (pv 2)))) (qf o (f base) (aQ (pv 0) (a3 (pv 1) (pv 5) (pv 2)))))))))))) (fO (At (l_ (qsc 6 S (aP (pv 4)) (md (cz (aU (by decide)) bh (cz (aU (by decide)) bh (cz (aU (by decide)) bh (jD) (cA)) (du bh (cA))) (du bh (du bh (cA))))) fun _ _ _ _ _ _=>⟨dY rfl (aA (gc 0) (aA (gc 1) (aA (gc 2) cS))),dh,bc (a3 (oR p (pv 3) (pv 0) (fun _ _=>rfl)) (pv 1) (oR p (pv 3) (pv 2) (fun _ _=>rfl)))⟩))) (iI (At (l_ (aD (EQ (n base) (o.mono (by decide)) rfl (aQ (qf o (j base) (a2 (pv 0) (pv 1))) (a3 (aJ gh (qj o (e base) (pv 0)) (qj o (e base) (pv 1))) (yU rfl rfl z.list (pv 3)) (pv 6)))))))))))))))))) (by walk_at "b")
theorem tP(a:eG P w K mg)(f:jM P w K mg)(e:fV P w K mg):jw P w K mg:=fun base=>dG X G T.f_law_willing (fun S _ _ _ _ _ _ _ _ _ g i h=>bK (yM h) (ae (lB (pv 1) (dY rfl (aA (gn 2 S) (aA (gn 3 S) (aA (gn 4 S) (aA (gn 5 S) cS)))))) (ae (qs 5 S (qL rfl z.list (a1 (pv 5)))) (ae (bV bI rfl (aP (pv 4)) (gn 6 S) (aj (bV bI rfl (aP (pv 2)) (gn 7 S) (ae (qs 8 S (qf g (e base) (a2 (pv 5) (aH (a1 (pv 6)))))) (aj (cv (kG (gZ i) (qc (aP (pv 5)) (aU (by decide)) fun _ _ _ _ _ _=>⟨gc 0,fP (PW.pt (lz (BA (lC i) (xq (pv 0) af) (pv 1)) (j7 (kG (gZ i) (xq (pv 0) af) (bc (a2 bN (pv 2))))))),pv 0⟩) (aH bf)) (ae (qs 9 S (xl (aH (a2 (pv 6) (xl (pv 4) (qf g (a base) (a2 (pv 0) (ql z.len (a1 (pv 4)))))))) (qf g (a base) (a2 (pv 0) af)))) (aj (bU (qf g (f base) (a2 (pv 5) (bc (a3 (pv 6) (bc (a2 bN (pv 7))) (pv 9)))))))) bg)))))) (aj (aD (bc (aQ (pv 2) (a3 (pv 3) (pv 4) (pv 5)))))))))) (by walk_at "b")
theorem qh:fb P w K mg:=fun base=>dG X G T.f_law_asks_left (fun S _ _ _ _ _ _ _ _ _ e a h=>bK (Ey h) (ae (qs 1 S (aJ gh (qc (aP (xl (pv 0) af)) (aU (by decide)) fun _ _ _ _ _ _=>⟨gc 0,fP (BA (lC a) (pv 0) (xl (pv 1) af)),pv 0⟩) (qc (aP (xl (pv 0) af)) (aU (by decide)) fun _ _ _ _ _ _=>⟨gc 0,fP (BA (lC a) (pv 0) (xl (pv 1) af)),pv 0⟩))) (aj (aD (qc (aP (aJ gh (xl (pv 0) af) (xl (pv 0) af))) (aU (by decide)) fun _ _ _ _ _ _=>⟨gc 0,fP (BA (iq a) (pv 0) (pv 1)),pv 0⟩))))) (by walk_at "b")
theorem qe(f:eG P w K mg)(e:jc P w K mg)(a:fb P w K mg):kF P w K mg:=fun base=>dG X G T.f_law_two_words (fun S _ _ _ _ _ _ _ _ _ g i h=>bK (Gg h) (by(refine ae (qs 2 S (qf g (e base) (a2 (pv 0) af))) ?_);(with_reducible refine ae ?_ ?_);(with_reducible refine qsL 3 ?_ ?_ (hi:=?_) (hx:=?_) (hf:=?_));(exact S);(with_reducible exact C5);(rfl);(first|exact Or.inl rfl|exact Or.inr rfl);(first|exact .inl rfl|exact .inr rfl|assumption);(with_reducible refine ae ?_ ?_);(with_reducible refine qsL 4 ?_ ?_ (hi:=?_) (hx:=?_) (hf:=?_));(exact S);(with_reducible exact C4);(rfl);(first|exact Or.inl rfl|exact Or.inr rfl);(first|exact .inl rfl|exact .inr rfl|assumption);(refine ae (bV bI rfl (aP (gQ oC (pv 2) j8 (ic af))) (gn 5 S) (aj (bV bI rfl (aP (xl (pv 4) (qf g (f base) (a2 (pv 0) (aJ dq af (aJ eQ af (pv 1))))))) (gn 6 S) (aj (cv (kG yY (ql z.len (a1 (xl (pv 3) (pv 6)))) (aJ dq af (aJ eQ af (pv 1)))) (aj (bU (i5 f8 jQ jP dS (xl (pv 3) (pv 6)) (a1 (pv 5))))) bg))))) ?_);(refine ae (bV bI rfl (ip rfl z.range (a1 af)) (gn 6 S) (aj (cv (kG (gZ i) (xl (pv 3) (pv 6)) (aH bf)) (aj (bU (i5 f8 jQ jP dS (xl (pv 3) (pv 6)) (a1 (xl (pv 2) (aJ dq af (pv 6))))))) bg))) ?_);(refine ae (cv (PW.pt (lz (kG oU (pv 1) af) (j7 (kG (gZ i) (qf g (a base) (a1 (pv 3))) (aH bf))))) (aj (bU (i5 f8 jQ jP dS (xl (pv 3) af) (a1 (xl (pv 2) af))))) bg) ?_);exact(aj (aD (pv 3))))) (by walk_at "b")
theorem yG(e:eG P w K mg)(f:jc P w K mg)(a:gv P w K mg):nQ P w K mg:=fun base=>dG X G T.f_law_part (fun S _ _ _ _ _ _ _ _ _ g i h=>bK (Er (K:=K) h) (ae (qs 4 S (qf g (f base) (a2 (pv 0) (aJ dq af (qf g (e base) (a2 (pv 0) (pv 3))))))) (ae (qs 5 S (qf g (a base) (aQ (pv 0) (aQ (pv 1) (a3 (pv 2) (pv 4) (qf g (e base) (a2 (pv 0) af))))))) (aj (aD (bc (aQ (pv 1) (a3 (pv 2) (pv 4) (pv 5))))))))) (by walk_at "b")
theorem yF:uK P w K mg:=fun base=>by
  have E0:iT P w K mg base "_law_same" ["found","due"] 0 IG:=by
   obtain⟨f,a,t⟩:=T.f_law_same;obtain⟨k,F⟩:=t.fun_;exact⟨f,k,IM,dW X G a,F.kp,F.binds (ps:=["found","due"]) (by walk_at "b")⟩
  have g:∀(n D:Nat) (i:Sp),0<=n->D<=4->(∀m,D=m+1->i=(b_ K m))->iT P w K mg base "_law_same" ["found","due"] n i->iT P w K mg base "_law_same" ["found","due"] (n+1) (b_ K D):=fun n D i A o p q=>dG X G T.f_law_same (fun S _ _ _ _ _ _ _ _ _ r j h=>bK (CN (bW o (by decide)) p h) (ae (cv (jp (Aw (pv 1))) (aj (aD (HQ (Aw (pv 0))))) bg) (ae (cv (gf (qB eB z.isinstance eD (a2 (pv 1) (nc rfl z.bool)))) (aj (aD (nh (qB eB z.isinstance eD (a2 (pv 0) (nc rfl z.bool))) (t8 (GK oU (pv 0) (pv 1)))))) bg) (ae (cv (gf (qB eB z.isinstance eD (a2 (pv 1) (vC rfl z.str)))) (aj (aD (nh (qB eB z.isinstance eD (a2 (pv 0) (vC rfl z.str))) (t8 (GK (gZ j) (pv 0) (pv 1)))))) bg) (ae (cv (gf (qB eB z.isinstance eD (a2 (pv 1) (vD rfl z.int)))) (aj (aD (nh (qB eB z.isinstance eD (a2 (pv 0) (vD rfl z.int))) (nh (HN (qB eB z.isinstance eD (a2 (pv 0) (nc rfl z.bool)))) (t8 (GK (gZ j) (pv 0) (pv 1))))))) bg) (ae (cv (PW.pt (lz (gf (qB eB z.isinstance eD (a2 (pv 1) (rf rfl z.tuple)))) (j7 (m_ (gf (qB eB z.isinstance eD (a2 (pv 0) (rf rfl z.tuple)))))))) (aj (aD rg)) bg) (ae (cv (PW.pt (lz (gf (qB eB z.isinstance eD (a2 (pv 1) (t7 rfl z.list)))) (j7 (m_ (gf (qB eB z.isinstance eD (a2 (pv 0) (t7 rfl z.list)))))))) (aj (aD rg)) bg) (ae (cv (kG Hb (ql z.len (a1 (pv 0))) (ql z.len (a1 (pv 1)))) (aj (aD rg)) bg) (aj (aD (qB (lH rfl) z.all boot_all (a1 (qc (BK rfl z.zip (a2 (pv 0) (pv 1))) (md (cz (aU (by decide)) bh (cz (aU (by decide)) bh (jD) (cA)) (du bh (cA)))) fun _ _ _ _ _ _=>⟨dY rfl (aA (gc 0) (aA (gc 1) cS)),dh,Ha q r rfl (a2 (pv 0) (pv 1))⟩))))))))))))) (by walk_at "b") (l:=fun B H Q E h=>by rcases h with⟨_,_,_,h,_⟩|⟨_,h,_⟩<;>(rw[h];rfl));have s:=g 0 0 _ (by decide) (by decide) (fun m e=>by cases e) E0;have u:=g 1 1 _ (by decide) (by decide) (fun m e=>by cases e;rfl) s;have v:=g 2 2 _ (by decide) (by decide) (fun m e=>by cases e;rfl) u;have x:=g 3 3 _ (by decide) (by decide) (fun m e=>by cases e;rfl) v;have y:=g 4 4 _ (by decide) (by decide) (fun m e=>by cases e;rfl) x;exact y
theorem rX(a:eG P w K mg)(g:jM P w K mg)(e:jw P w K mg)(f:nQ P w K mg):lR P w K mg:=fun base=>dG X G T.f_law_any_part (fun S _ _ _ _ _ _ _ _ _ i j h=>bK (Gp h) (ae (qs 3 S (qf i (f base) (aQ (pv 0) (a3 (pv 1) (pv 2) af)))) (ae (cv (kG kD (qf i (a base) (a2 (pv 0) af)) af) (aj (qs 3 S (qf i (e base) (a2 (pv 0) (pv 3))))) bg) (ae (lB (pv 3) (dY rfl (aA (gn 1 S) (aA (gn 2 S) (aA (gn 4 S) (aA (gn 5 S) cS)))))) (ae (cv (kG oU (qf i (a base) (a2 (pv 0) af)) af) (ae (qs 6 S (aJ dq af (qf i (a base) (a2 (pv 0) af)))) (aj (bV bI rfl (ip rfl z.range (a1 (aJ eQ (aJ eQ (ql z.len (a1 (pv 4))) (ql z.len (a1 (pv 4)))) (ql z.len (a1 (pv 2)))))) (gn 7 S) (ae (qs 8 S (xl (pv 4) (aJ fj (pv 7) (ql z.len (a1 (pv 4)))))) (ae (qs 9 S (xl (pv 4) (aJ fj (aJ sF (pv 7) (ql z.len (a1 (pv 4)))) (ql z.len (a1 (pv 4)))))) (aj (cv (kG yY (ql z.len (a1 (pv 5))) (pv 6)) (aj (bU (qf i (g base) (a2 (pv 5) (bc (a3 (pv 8) (bc (a2 bN (xl (pv 2) (aJ sF (pv 7) (aJ eQ (ql z.len (a1 (pv 4))) (ql z.len (a1 (pv 4)))))))) (pv 9))))))) bg))))))) bg) (aj (aD (bc (aQ (pv 1) (a3 (pv 2) (pv 4) (pv 5))))))))))) (by walk_at "b")
theorem qg(a:fV P w K mg):g_ P w K mg:=fun base=>dG X G T.f_law_not_taken (fun S _ _ _ _ _ _ _ _ _ f e h=>bK (Gk h) (ae (bV bI rfl (aP (xq (pv 0) af)) (gn 1 S) (ae (qs 2 S (qf f (a base) (a2 (xq (pv 0) af) (aH (a1 (pv 1)))))) (aj (bV bI rfl (aP (xq (pv 0) af)) (gn 3 S) (aj (cv (kG (gZ e) (qc (aP (xq (pv 0) af)) (aU (by decide)) fun _ _ _ _ _ _=>⟨gc 0,fP (PW.pt (lz (BA (lC e) (xq (pv 0) af) (pv 1)) (j7 (kG (gZ e) (xq (pv 0) af) (bc (a2 bN (pv 2))))))),pv 0⟩) (aH bf)) (aj (aD (bc (a2 (pv 1) (pv 3))))) bg)))))) (aj (aD qo)))) (by walk_at "b")
theorem n5(e:fb P w K mg)(a:g_ P w K mg):jN P w K mg:=fun base=>dG X G T.f_law_joined_due (fun S _ _ _ _ _ _ _ _ _ g f h=>bK (Gm h) (ae (qs 2 S (qf g (e base) (a1 (aH (aQ (xt (pv 0) af) (a3 (xt (pv 0) af) (xt (pv 1) af) (xt (pv 1) af))))))) (ae (qs 3 S (aJ gh (xt (pv 0) af) (xt (pv 1) af))) (ae (bV bI rfl (aP (aH (a2 (pv 0) (pv 1)))) (gn 4 S) (aj (cv (PW.pt (kC (kG kD (ql z.len (a1 (xt (pv 4) af))) af) (j6 (kG kD (ql z.len (a1 (xt (pv 4) af))) af)))) (aj (aD (bc (a1 bN)))) bg))) (ae (cv (kG (EV f) (aJ gh (qc (aP (xt (pv 0) af)) (aU (by decide)) fun _ _ _ _ _ _=>⟨gc 0,fP (BA (lC f) (pv 0) (xt (pv 1) af)),pv 0⟩) (qc (aP (xt (pv 0) af)) (aU (by decide)) fun _ _ _ _ _ _=>⟨gc 0,fP (BA (lC f) (pv 0) (xt (pv 1) af)),pv 0⟩)) (aH bf)) (aj (aD (bc (a1 bN)))) bg) (ae (cv (PW.pt (kC (kG (gZ f) (pv 2) (aH bf)) (kC (kG kD (ql z.len (a1 (pv 2))) af) (j6 (kG kD (ql z.len (a1 (pv 3))) af))))) (aj (aD (bc (a1 bN)))) bg) (ae (bV bI rfl (aP (aH (a2 (pv 0) (pv 1)))) (gn 4 S) (aj (cv (jp (BP (qf g (a base) (a1 (pv 4))))) (aj (aD (qf g (a base) (a1 (pv 4))))) bg))) (aj (aD (aH (a2 (pv 2) (pv 3)))))))))))) (by walk_at "b")
end
theorem HW(X:K.In h)(G:h.Ns bH mg)(z:Zs mg)(c:Cs K mg C Cx Ct a_STILL C_NoTaker C_NoJoin)(T:Ts K C Cx C_NoTaker C_NoJoin):∃f fd,mg "law"=some (.ref f)/\(∀(s:Shared) (v:Value),mV s fd ⟨[v],[]⟩ [("script",v)])/\∀base:Heap,iN P w K mg base CX0 8 f fd ["script"] (sp_law68 K):=by
 have a8:ko P w K mg:=uU X G z c T;have bn:uL P w K mg:=yH X G z c T;have m:eG P w K mg:=yE X G z c T a8;have O:jc P w K mg:=wV X G z c T m;have L:jM P w K mg:=z_ X G z c T;have Q:gv P w K mg:=n6 X G z c T m L;have b2:qR P w K mg:=Aa X G z c T;have M:jO P w K mg:=Ab X G z c T;have H:fm P w K mg:=mv X G z c T b2 M;have a9:kq P w K mg:=uV X G z c T;have I:fo P w K mg:=mw X G z c T M;have o:c9 P w K mg:=iG X G z c T;have a4:iP P w K mg:=rV X G z c T;have N:fW P w K mg:=m7 X G z c T;have U:jb P w K mg:=wT X G z c T;have bb:km P w K mg:=uT X G z c T H a9 I U;have Y:gB P w K mg:=oh X G z c T;have ab:gy P w K mg:=n_ X G z c T;have a5:mo P w K mg C:=Ad X G z c T M o a4 N U bb Y ab;have D:mH P w K mg C:=tQ X G z c T a5;have n:dR P w K mg C:=qa X G z c T;have J:fq P w K mg C:=mr X G z c T;have p:fc P w K mg C:=qb X G z c T;have x:fV P w K mg:=rW X G z c T;have e:dE P w K mg C:=rU X G z c T;have j:dD P w K mg C:=rT X G z c T;have q:hU P w K mg C:=qd X G z c T;have B:eI P w K mg C:=kI X G z c T;have b3:qS P w K mg C_NoTaker:=Ac X G z c T;have b5:yf P w K mg C:=Eg X G z c T J p;have u:d6 P w K mg C C_NoTaker:=jZ X G z c T n e b3 b5;have bl:pf P w K mg:=CI X G z c T;have a0:kh P w K mg C:=yD X G z c T e j bl;have y:fX P w K mg C:=rY X G z c T e a0;have b0:nR P w K mg C:=yI X G z c T n q;have bm:lQ P w K mg C C_NoJoin:=wU X G z c T e j bl y b0;have bd:kr P w K mg C:=uW X G z c T B
 have a6:jx P w K mg C:=tR X G z c T bd
 have bi:ki P w K mg C:=uS X G z c T p j;have al:gA P w K mg C:=og X G z c T bi;have ap:gr P w K mg C:=nY X G z c T n;have as:gu P w K mg:=nZ X G z c T;have b4:zK P w K mg C C_NoTaker C_NoJoin:=CH X G z c T a5 j u a0 y bm a6 al ap as;have a7:jw P w K mg:=tP X G z c T m L x;have r:fb P w K mg:=qh X G z c T;have aT:kF P w K mg:=qe X G z c T m O r;have b1:nQ P w K mg:=yG X G z c T m O Q;have E:uK P w K mg:=yF X G z c T;have A:lR P w K mg:=rX X G z c T m L a7 b1;have aX:g_ P w K mg:=qg X G z c T x;have aC:jN P w K mg:=n5 X G z c T r aX;obtain⟨f,a,t⟩:=T.f_law68;obtain⟨oc,od,an,sl,kV,dc,pm,cd,ct,l,c1,k1⟩:=t;have F:=Fm (st:=(gC 62)) l c1 k1;have sc:gG Ci EL (bz (gC 62)):=by walk_at "s"
 have S:=sc.nd;exact⟨f,_,dW X G a,fun s v=>.of_eq rfl,fun base=>F.ok (k:=7) sc (by walk_at "l") (fun _ _ _ _ _ _ _ _ hr h=>by have hu:=vJ hr;exact bK (Ev (C:=C) (IP c.x_NoTaker c.x_NoJoin c.na_NoTaker_room c.na_NoTaker_ask c.nd) h) (ae (qs 1 S (qf hr (bn base) (a1 (pv 0)))) (ae (qs 2 S (qf hr (aT base) (a2 (pv 1) (xl (aH (a3 af af af)) (qf hr (m base) (a2 (pv 1) af)))))) (ae (qs 3 S (qf hr (A base) (a3 (pv 1) (xl (pv 2) af) (xl (pv 2) af)))) (ae (qs 4 S (qf hr (A base) (a3 (pv 1) (xl (pv 2) af) (xl (pv 2) af)))) (ae (qs 5 S (aH (a2 (qf hr (D base) (a1 (pv 3))) (qf hr (D base) (a1 (pv 4)))))) (ae (qs 6 S qo) (ae (qs 7 S qo) (ae (Gu (iI (At (HI (i:=6) S rfl (Or.inl rfl) (xh (b4 base) (hr.mono (by decide)) rfl (a2 (xl (pv 5) af) (xl (pv 5) af)))))) (IJ rfl c.x_NoJoin.g (fun a=>aj (qs 7 S (bc (a1 bN)))) (IK (i:=8) S rfl rfl rfl c.x_NoTaker.g (fun a=>aj (qs 7 S (bc (a2 (BM (pv 8) rfl) (BM (pv 8) rfl))))) HL))) (ae (bV bI rfl (BK rfl z.zip (a2 (pv 5) (aH (a2 (pv 3) (pv 4))))) (dY rfl (aA (gn 9 S) (aA (gn 10 S) cS))) (aj (cv (m_ (gf (qf hr (E base) (a2 (aH (aQ (qj hr (e base) (pv 9)) (a3 (qj hr (j base) (pv 9)) (qj hr (n base) (pv 9)) (qj hr (q base) (pv 9))))) (qL rfl z.list (a1 (pv 10))))))) (aj (aD rg)) bg))) (ae (qs 11 S (qf hr (aC base) (a2 (pv 3) (pv 4)))) (ae (cv (jp (Aw (pv 6))) (aj (aD (qf hr (E base) (a2 (pv 7) (pv 11))))) bg) (aj (aD (qf hr (E base) (a2 (aH (a2 (qj hr (e base) (pv 6)) (qj hr (j base) (pv 6)))) (pv 11)))))))))))))))))⟩
theorem all_mk{l:PySem.W.OpenLaw}{fa:Addr}{d0 qX:Str}{NX:Addr}{d1 ci:Zf}{d2:Zb}{d3:Bool}{ck:Option Bool}{d4:Option Addr}{d5 d7 d8 d9 ea:Option Value}{eb qT:Str}{NT:Addr}{ec cl:Zf}{ed:Zb}{ej:Bool}{cm:Option Bool}{ek:Option Addr}{el em en ep er:Option Value}{cn es:Str}{et:Addr}{co a8:Zf}{cs:Zb}{ct:Bool}{a9:Option Bool}{cB:Option Addr}{cC cL c0 c1 c2:Option Value}{c3 eu:Str}{ev:Addr}{c4 bb:Zf}{c5:Zb}{c6:Bool}{bd:Option Bool}{c7:Option Addr}{c8 dc dd di dm:Option Value}{x:Value}{i:Value}{p:Value}{q:Value}{r:Value}{a:Value}{g:Value}{y:Obj}{A:Array Value}{U:Nat}(X:K.In h)(G:h.Ns bH mg)(ew:mg "law"=some (.ref fa))
  (aC:bY K bH "Machine"=some (some (.ref C)))
  (pg:yi K C Str.empty=true)
  (hd:Bc K C=true)
  (po:PySem.W.plainOver K C=true)
  (sa:bB K (.ref C) "__setattr__"=some (some (.builtin "object.__setattr__")))
  (mk:yg K C=true)
  (kc:ee K (.ref C)=true)
  (ey:bB K (.ref C) "own_asks"=some none)
  (ez:bB K (.ref C) "own_says"=some none)
  (eC:bB K (.ref C) "own_rooms"=some none)
  (eH:bB K (.ref C) "own_doors"=some none)
  (eS:bB K (.ref C) "leaving"=some none)
  (eW:bB K (.ref C) "quiet"=some none)
  (eY:bB K (.ref C) "sign_goals"=some none)
  (e1:bB K (.ref C) "still_led"=some none)
  (aX:bY K bH "NoMachine"=some (some (.ref Cx)))
  (aT:bY K bH "TrialError"=some (some (.ref Ct)))
  (xo:K.lookup Cx=some (ff d0 qX Cx NX d1 (.ref Ct::jm) true d2 ci d3 ck d4 d5 d7 d8 d9 ea "ValueError.__new__"))
  (dn:bB K (.ref Cx) "__setattr__"=some (some (.builtin "object.__setattr__")))
  (dp:bB K (.ref Cx) "__getattribute__"=some (some (.builtin "BaseException.__getattribute__")))
  (dr:bB K (.ref Cx) "__getattr__"=some none)
  (xp:bB K (.ref Cx) "part"=some none)
  (xn:bB K (.ref Cx) "number"=some none)
  (e2:PySem.W.subIn K (.ref Cx) (.type "BaseException")=some true)
  (e3:PySem.W.isClsIn K Cx=true)
  (e4:PySem.W.typeIn K (.ref Cx)=some (.type "type"))
  (e5:PySem.W.subIn K (.ref Cx) (.ref Cx)=some true)
  (e6:PySem.W.readsIn K Ct (.type "type")=true)
  (e7:PySem.W.findCls K (.ref Ct) (.type "type") "__init__"=some (.val (.builtin "ValueError.__init__")))
  (e8:Bb K (.ref Ct) "__getattribute__"=some (some (.builtin "type.__getattribute__")))
  (kx:ee K (.ref Cx)=true)
  (e9:bB K (.ref Cx) "__class__"=some (some (.builtin "object.__class__")))
  (fg:Bb K (.builtin "object.__class__") "__get__"=some (some (.builtin "getset_descriptor.__get__")))
  (fi:PySem.W.takesIn K (.builtin "object.__class__")=some true)
  (fl:K.lookup Ct=some (ff eb qT Ct NT ec jm true ed cl ej cm ek el em en ep er "ValueError.__new__"))
  (ds:bY K bH "NoTaker"=some (some (.ref C_NoTaker)))
  (dt:K.lookup C_NoTaker=some (ff cn es C_NoTaker et co (.ref Ct::jm) true cs a8 ct a9 cB cC cL c0 c1 c2 "ValueError.__new__"))
  (bi:bB K (.ref C_NoTaker) "__setattr__"=some (some (.builtin "object.__setattr__")))
  (bl:bB K (.ref C_NoTaker) "__getattribute__"=some (some (.builtin "BaseException.__getattribute__")))
  (bm:bB K (.ref C_NoTaker) "__getattr__"=some none)
  (bn:bB K (.ref C_NoTaker) "__class__"=some (some (.builtin "object.__class__")))
  (dx:ee K (.ref C_NoTaker)=true)
  (b0:bB K (.ref C_NoTaker) "room"=some none)
  (b1:bB K (.ref C_NoTaker) "ask"=some none)
  (dy:bY K bH "NoJoin"=some (some (.ref C_NoJoin)))
  (dK:K.lookup C_NoJoin=some (ff c3 eu C_NoJoin ev c4 (.ref Ct::jm) true c5 bb c6 bd c7 c8 dc dd di dm "ValueError.__new__"))
  (b2:bB K (.ref C_NoJoin) "__setattr__"=some (some (.builtin "object.__setattr__")))
  (b3:bB K (.ref C_NoJoin) "__getattribute__"=some (some (.builtin "BaseException.__getattribute__")))
  (b4:bB K (.ref C_NoJoin) "__getattr__"=some none)
  (b5:bB K (.ref C_NoJoin) "__class__"=some (some (.builtin "object.__class__")))
  (dT:ee K (.ref C_NoJoin)=true)
  (dV:bB K (.ref C_NoJoin) "__init__"=some (some (.builtin "ValueError.__init__")))
  (nd:[Ct,Cx,C_NoTaker,C_NoJoin].Nodup)
  (b6:bY K bH "all"=some none)
  (b7:bY K bH "any"=some none)
  (a5:bY K bH "bool"=some none)
  (a6:bY K bH "dict"=some none)
  (Q:bY K bH "divmod"=some none)
  (M:bY K bH "enumerate"=some none)
  (b8:bY K bH "int"=some none)
  (B:bY K bH "isinstance"=some none)
  (cc:bY K bH "len"=some none)
  (a7:bY K bH "list"=some none)
  (Y:bY K bH "range"=some none)
  (ce:bY K bH "str"=some none)
  (ab:bY K bH "tuple"=some none)
  (ch:bY K bH "zip"=some none)
  (N:bY K bH "LETTERS"=some (some x))
  (O:RelV (.str "abcdefghijklmnopqrstuvwxyz") x)
  (t:bY K bH "LONGEST_NAME"=some (some i))
  (u:RelV (.int 8) i)
  (D:bY K bH "MOST_WORDS"=some (some p))
  (E:RelV (.int 4) p)
  (H:bY K bH "MOST_ROOMS"=some (some q))
  (I:RelV (.int 150) q)
  (J:bY K bH "MOST_DOORS"=some (some r))
  (L:RelV (.int 2000) r)
  (j:bY K bH "MOST_JOINED_ROOMS"=some (some a))
  (m:RelV (.int 10) a)
  (n:bY K bH "MOST_JOINED_DOORS"=some (some g))
  (o:RelV (.int 40) g)
  (al:bY K bH "STILL"=some (some (.ref a_STILL)))
  (an:K.lookup a_STILL=some y)
  (ap:y.cls=.type "tuple")
  (as:y.data=.seq A U)
  (a0:A.size<=ak)
  (a4:bp (aB.map V.str) A.toList)
  (T:Ts K C Cx C_NoTaker C_NoJoin)
 :∃fd:hV,(∀(s:Shared) (v:Value),mV s fd ⟨[v],[]⟩ [("script",v)])/\∀base:Heap,K.In base->base.Ns bH mg->iN l.prog w K mg base CX0 8 fa fd ["script"] (sp_law68 K):=by
 have z:Zs mg:=⟨fG X G b6,fG X G b7,fG X G a5,fG X G a6,fG X G Q,fG X G M,fG X G b8,fG X G B,fG X G cc,fG X G a7,fG X G Y,fG X G ce,fG X G ab,fG X G ch⟩;have c:Cs K mg C Cx Ct a_STILL C_NoTaker C_NoJoin:=⟨⟨_,dW X G N,O⟩,⟨_,dW X G t,u⟩,⟨_,dW X G D,E⟩,⟨_,dW X G H,I⟩,⟨_,dW X G J,L⟩,⟨_,dW X G j,m⟩,⟨_,dW X G n,o⟩,⟨_,dW X G al,rfl⟩,FW an ap as a0 a4,⟨⟨pg,hd,po,sa⟩,ey,ez,eC,eH,eS,eW,eY,e1⟩,dW X G aC,mk,kc,⟨⟨⟨_,_,_,_,_,_,_,_,_,_,_,_,_,_,_,xo,.own .base⟩,dn,dp,dr⟩,xp,xn,H_ e2 e3 e4 e5⟩,⟨e6,e7,e8⟩,dW X G aX,dW X G aT,kx,⟨⟨_,_,_,_,_,_,_,_,_,_,_,_,_,_,fl⟩⟩,⟨fg,fi⟩,⟨dW X G aX,⟨⟨_,_,_,_,_,_,_,_,_,_,_,_,_,_,xo⟩⟩,dn,dp,dr,kx,e9⟩,nd,⟨dW X G ds,⟨⟨_,_,_,_,_,_,_,_,_,_,_,_,_,_,dt⟩⟩,bi,bl,bm,dx,bn⟩,b0,b1,⟨dW X G dy,⟨⟨_,_,_,_,_,_,_,_,_,_,_,_,_,_,dK⟩⟩,b2,b3,b4,dT,b5⟩,dV⟩;obtain⟨f,fd,e,b,k⟩:=HW (P:=l.prog) (w:=w) X G z c T;have e0:=ew.symm.trans e;cases e0;exact⟨fd,b,fun base _ _=>k base⟩
end
end Mum
namespace PySem.W.Fast
def tw10929295910348361538:=0
def tw10268141091884960148:=0
def tw12319616707354811721:=0
def tw5299374307725342233:=0
def tw14090554202172318460:=0
def tw16220218316679964117:=0
def tw10738385847714657980:=0
def tw11971684019964532419:=0
def tw6185501946059897838:=0
def tw2407440526160626081:=0
def tw9938491672027887555:=0
def tw18372487438986519095:=0
def tw8591298343068935834:=0
def tw10808970835221419352:=0
def tw1699340758989917763:=0
def tw17810933300880350049:=0
def tw16542013923963823315:=0
def tw17600636524324945363:=0
def tw1135943946834469457:=0
def tw7692025434155508858:=0
def tw16627468262884058136:=0
def tw17029156589466124289:=0
def tw15097718283366613973:=0
def tw5560750294744948073:=0
def tw11305024196359239882:=0
def tw14452431133322111190:=0
def tw10425313438555359140:=0
def tw14974024976181296473:=0
def tw2188624280532760117:=0
def tw2288205336665515645:=0
def tw6931183866738852885:=0
def tw9068166545354478284:=0
def tw8987817150170043297:=0
def tw7571312675750471238:=0
def tw9984210500060146916:=0
def tw17873049321284939540:=0
def tw6009638609763970745:=0
def tw94983413019138612:=0
def tw18076882879910199316:=0
def tw16443065921510774185:=0
def tw4724427261866875918:=0
def tw12181058956629035629:=0
def tw3955489436027798621:=0
def tw15474306498013574693:=0
def tw100962393144404996:=0
def tw11873248341993338021:=0
def tw15911817831916894672:=0
def tw17745869373891621410:=0
def tw7488491068761263381:=0
def tw12565177640534600134:=0
def tw16591317654180309190:=0
def tw9056892318457170634:=0
def tw2249101035795857238:=0
def tw8003981695824239862:=0
def tw11125201044734715221:=0
def tw2163515192149635241:=0
def tw14743171819693700330:=0
def tw3754159131097404353:=0
def tw6448828144919415987:=0
def tw2155438878992447181:=0
def tw3627508106194031216:=0
def tw5606270512226410358:=0
def tw15889666327088292099:=0
def tw13703667801981105743:=0
def tw4201147768781150918:=0
def tw9586620366322424536:=0
def tw186604577991199526:=0
def tw15233419593716019120:=0
def tw9582428856004855083:=0
def tw14889832580426439679:=0
def tw9086151227248959295:=0
def tw6744996882900321517:=0
def tw3162877213116816004:=0
def tw7761456705538859635:=0
def tw4712422330398083714:=0
def tw660441427509570332:=0
def tw415554850634188148:=0
def tw11021847443115031086:=0
def tw1931292161512926880:=0
def tw143560597004994554:=0
def tw15972586292079940114:=0
def tw7706213478045359620:=0
def tw3603700242672978669:=0
def tw2037010174795849105:=0
def tw14912436762091045553:=0
def tw4140287216262064560:=0
def tw15401640164100905076:=0
def tw1769969260290143273:=0
def tw7374754952439674905:=0
def tw189300897855623501:=0
def tw13584930599603625512:=0
def tw3920004147986973743:=0
def tw14987244834592528400:=0
def tw961354387199102971:=0
def tw851098822192683289:=0
def tw17614122407194290700:=0
def tw13413673521801335144:=0
def tw10163383855721660732:=0
def tw3205773800392969952:=0
def tw5604534318913525600:=0
def tw17141843871854516903:=0
def tw13654850564345850410:=0
def tw9852797776173554683:=0
def tw11253882774338552113:=0
def tw13909286725115726145:=0
def tw10158506862116217675:=0
def tw1113204223085327012:=0
def tw2206325122291452083:=0
def tw1830230463146847701:=0
def tw11860719347109799880:=0
def tw231666554043739767:=0
def tw6636818062110314463:=0
def tw1676140391254742449:=0
def tw15956477988125696054:=0
def tw12519649612914422477:=0
def tw5338778725470246513:=0
def tw946780403420635423:=0
def tw18444475195608744970:=0
def tw9237042850480918565:=0
def tw16496648867926143062:=0
def tw2236245819532979288:=0
def tw4339998889557835977:=0
def tw13689700925807471791:=0
def tw14669297387652533940:=0
def tw9903286661560404323:=0
def tw11235405867750574583:=0
def tw1462215199944307068:=0
def tw4695480571640864185:=0
def tw9142458932609481164:=0
def tw3544603264326490834:=0
def tw9591724659039990342:=0
def tw4989106070611658488:=0
def tw14699300894010900905:=0
def tw8819712874109613154:=0
def tw12034466619136498067:=0
def tw13636879870009699621:=0
def tw10234279852348364704:=0
def tw12730932143905156255:=0
def tw11205682808776597312:=0
def tw16940063944852176628:=0
def tw9086850298785986005:=0
def tw7568922970034270892:=0
def tw6725616160631643257:=0
def tw11392231744005614594:=0
def tw12580716224449829493:=0
def tw4226364559148954318:=0
def tw1225261015730360955:=0
def tw8988791571297685951:=0
def tw7657768118175601770:=0
def tw156448316625035658:=0
def tw4283036995541663695:=0
def tw712616704327803176:=0
def tw17067864100780915488:=0
def tw2278803438534769753:=0
def tw14570407411964033039:=0
def tw3768685415060457833:=0
def tw5735568315475199311:=0
def tw7984943744574920690:=0
def tw18087953436766346344:=0
def tw10680904797766961487:=0
def tw8671679099200921894:=0
def tw6470771131409171687:=0
def tw16402160848057516064:=0
def tw14907268183618958225:=0
def tw18063973867498968214:=0
def tw8209340773482671052:=0
def tw9502985004587645584:=0
def tw238970005269771873:=0
def tw17577788759093585022:=0
def tw7492957174833736699:=0
def tw2908034603814131113:=0
def tw3395204732826825001:=0
def tw8333971935831729737:=0
def tw4546930701487682176:=0
def tw7347661801091066456:=0
def tw1053103954225246087:=0
def tw14130021152825361839:=0
def tw2519620631568832549:=0
def tw14308317719696943200:=0
def tw7562872053379678799:=0
def tw9443331521071249412:=0
def tw13747608902562083813:=0
def tw46059076921743863:=0
def tw15280065482725297781:=0
def tw5529248131381452371:=0
def tw9310504306366919768:=0
def tw11833623314612694506:=0
def tw2675232138289109195:=0
def tw13931216203239818915:=0
def tw5050078737047188034:=0
def tw1708906435828217908:=0
def tw13086034604676554557:=0
def tw3548833098648691600:=0
def tw13828710156390225336:=0
def tw16896913417392451271:=0
def tw16978931759751364675:=0
def tw16906164693479203525:=0
def tw9800051968906226427:=0
def tw1171401918484988490:=0
def tw2695319643708093656:=0
def tw9893629666859527166:=0
def tw436216399968663380:=0
def tw18309268163083066577:=0
def tw927401447588567298:=0
def tw11957037034693540303:=0
def tw6362431671999868755:=0
def tw9817082017541996300:=0
def tw8476606128364796421:=0
def tw11002122716154078475:=0
def tw9711307421652044610:=0
def tw15675280705020132612:=0
def tw8942512840821000788:=0
def tw8370789024588908014:=0
def tw1730414956882071967:=0
def tw8776255839375457465:=0
def tw14494898844668346572:=0
def tw16625284238850948920:=0
def tw16076974454862697407:=0
def tw16663441413913836922:=0
def tw3872118601737408520:=0
def tw3459327577221090965:=0
def tw12475784342145680454:=0
def tw10590400309228986525:=0
def tw5731459515806592791:=0
def tw6138665142480842577:=0
def tw733452220335057259:=0
def tw8529473568785576056:=0
def tw5922455622986928655:=0
def tw5745365182744905399:=0
def tw7889261407535170514:=0
def tw8953513742929607317:=0
def tw856619145992826190:=0
def tw3152693290310352235:=0
def tw9064160921367957230:=0
def tw7771457386451512798:=0
def tw5772721403591777404:=0
def tw1324527979638946911:=0
def tw15335237813788212513:=0
def tw12666595099033693146:=0
def tw1535628893227634172:=0
def tw8339661596365546138:=0
def tw14388830314476731396:=0
def tw11851248525558374747:=0
def tw13681826677216592598:=0
def tw14719327159249752783:=0
def tw9257875804695475250:=0
def tw1460809334548198476:=0
def tw9777402863139606578:=0
def tw1722721610780218381:=0
def tw11095157021966157461:=0
def tw16310379513768824628:=0
def tw8868336139267115241:=0
def tw13066595716209633313:=0
def tw9223723008849952808:=0
def tw11270364080140774664:=0
def tw4682053550714055567:=0
def tw1427761062367130002:=0
def tw8673999204379115639:=0
def tw10115293454263309391:=0
def tw901615176549152962:=0
def tw4221890535106921336:=0
def tw7471968281162689272:=0
def tw11228510919770881385:=0
def tw4581380763347765871:=0
def tw4775278750130291463:=0
def tw5026525614811065493:=0
def tw1966487723554853780:=0
def tw14246738156015145118:=0
def tw460660368875273993:=0
def tw5160954359730052041:=0
def tw3614853267452284471:=0
def tw11362102365466201688:=0
def tw15117215418881542002:=0
def tw9111016781632687145:=0
def tw16270356914950711951:=0
def tw2132029589209914817:=0
def tw10183043520177544384:=0
def tw15983777820681961650:=0
def tw16664670698500356577:=0
def tw10974183453145105425:=0
def tw14273730187755513103:=0
def tw17697614147174595441:=0
def tw15799727520303909422:=0
def tw5275531874152343856:=0
def tw8971737549248469322:=0
def tw5018950371736717496:=0
def tw6030525080210320009:=0
def tw1728952222411314090:=0
def tw11167948200440939796:=0
def tw432545419104093057:=0
def tw13651218490892241916:=0
def tw6193273181447755773:=0
def tw2133277443144149026:=0
def tw9106483735078210880:=0
def tw4740222220207192552:=0
def tw3389999358619719622:=0
def tw8874651115946840872:=0
def tw18377767240481921422:=0
def tw14128342601231459523:=0
def tw12324271035628303225:=0
def tw7250444527936602504:=0
def tw397019197192138000:=0
def tw3197231668536815075:=0
def tw15759712529713692908:=0
def tw8735246488351907310:=0
def tw15876255640874998187:=0
def tw13034107542848227756:=0
def tw17983385331937661540:=0
def tw18034758146050738729:=0
def tw8075945901988787185:=0
def tw1445961537905392860:=0
def tw16724856134217959937:=0
def tw10039694395746694441:=0
def tw9331386494876876384:=0
def tw9839728059711903868:=0
def tw3928974074487448457:=0
def tw1375783265013686305:=0
def tw7883500495213471758:=0
def tw95328988470234724:=0
def tw11261881850416928697:=0
def tw8233799298396884363:=0
def tw3613566960153401054:=0
def tw9196657226867700316:=0
def tw17300032066553451252:=0
def tw15077877341257697251:=0
def tw16178873372777593188:=0
def tw5981533434479802551:=0
def tw4402025552186902976:=0
def tw10320101051179579542:=0
def tw2826975938493629059:=0
def tw4595765779424418941:=0
def tw5513478849948798359:=0
def tw6397350092092561880:=0
def tw475613618560193691:=0
def tw10386951921853631929:=0
def tw13939529841077229808:=0
def tw16645980894564932885:=0
def tw11336189998612511535:=0
def tw17060151000792680637:=0
def tw8723861072668735760:=0
def tw16174974843637405482:=0
def tw11607582985770431505:=0
def tw847306541878707378:=0
def tw17466044385641563809:=0
def tw6141833214681986447:=0
def tw9223508311441805392:=0
def tw16009558017315721515:=0
def tw16083099242613992584:=0
def tw590439844755232437:=0
def tw5947380515992480780:=0
def tw13085138050866101190:=0
def tw16471726562183796204:=0
def tw17820109429181749382:=0
def tw13264126817877418843:=0
def tw13231666998111320650:=0
def tw4885615763972208841:=0
def tw17797631658411998221:=0
def tw9716590216400088319:=0
def tw12228630222299330701:=0
def tw16864039468050994602:=0
def tw12117646955317325277:=0
def tw16676375917356040148:=0
def tw11402094364395343258:=0
def tw13442470842987643080:=0
def tw16197980428597903235:=0
def tw14120097022777070886:=0
def tw16354853866499059420:=0
def tw15357054438931598615:=0
def tw8046525786322629907:=0
def tw1607913134641659529:=0
def tw4837914623355711188:=0
def tw12853528673640133223:=0
def tw14358022832939796491:=0
def tw15432414564317044562:=0
def tw13064096212011461330:=0
def tw7952998972402920439:=0
def tw2283672640048730656:=0
def tw12277477453944392644:=0
def tw1665716225508808841:=0
def tw7744855464129540602:=0
def tw8878626857047016418:=0
def tw18363246370452448168:=0
def tw4725277754472748679:=0
def tw15098565896656060844:=0
def tw2231126850969910217:=0
def tw161557116251317124:=0
def tw268451803994331:=0
def tw9985565288988806468:=0
def tw9935440442123436700:=0
def tw9629273992869242304:=0
def tw17783668640267078569:=0
def tw9603383502132444799:=0
def tw1752721556792148107:=0
def tw15726858221985003206:=0
def tw8264940262501087976:=0
def tw6736407034865398409:=0
def tw1621049378262612496:=0
def tw3359700953267326378:=0
def tw9067124608089641590:=0
def tw6275892784250720707:=0
end PySem.W.Fast
open PySem PySem.W PyProof.Rows
set_option maxRecDepth 100000 in
set_option maxHeartbeats 0 in
theorem PySem.Challenge.cw_mumtrial_k68_joined_words_holds : PySem.Challenge.rw_mumtrial_k68_joined_words.Holds := by
 w_on;o_law;k_head;(case hw=>w_witness2)
 k_fill
 refine L2.walk_ofK (l:=PySem.Challenge.rw_mumtrial_k68_joined_words) (n:=63) (k:=8) (x:="script") (CX:=L2.CX0) (sp:=Mum.sp_law68) rfl (by decide) rfl ⟨rfl,by decide,by decide⟩ (fun w h Y=>PySem.W.kIn_of Y) ?F (fun _ _ a ns hl _ hS=>⟨a,ns,rfl,hS,hl,fun _=>rfl⟩) (fun _ _ _ _ z=>z)
 case F =>
  intro w mg fa h KX G hmg;refine' Mum.all_mk KX G hmg ?aC ?pg ?hd ?po ?sa ?mk ?kc ?na1 ?na2 ?na3 ?na4 ?na5 ?na6 ?na7 ?na8 ?aX ?aT ?xo ?xsa ?xga ?xgx ?xp ?xn ?xs1 ?xs2 ?xs3 ?xs4 ?xrd ?xfi ?xgt ?kx ?xcl ?xgn ?xgk ?xoT ?aXY0 ?xoY0 ?xsaY0 ?xgaY0 ?xgxY0 ?xclY0 ?kxY0 ?xf0Y0 ?xf1Y0 ?aXY1 ?xoY1 ?xsaY1 ?xgaY1 ?xgxY1 ?xclY1 ?kxY1 ?xiY1 ?nd ?z_all ?z_any ?z_bool ?z_dict ?z_divmod ?z_enumerate ?z_int ?z_isinstance ?z_len ?z_list ?z_range ?z_str ?z_tuple ?z_zip ?g_LETTERS ?r_LETTERS ?g_LONGEST_NAME ?r_LONGEST_NAME ?g_MOST_WORDS ?r_MOST_WORDS ?g_MOST_ROOMS ?r_MOST_ROOMS ?g_MOST_DOORS ?r_MOST_DOORS ?g_MOST_JOINED_ROOMS ?r_MOST_JOINED_ROOMS ?g_MOST_JOINED_DOORS ?r_MOST_JOINED_DOORS ?g_STILL ?l_STILL ?c_STILL ?d_STILL ?s_STILL ?v_STILL ?T
  (case aC|pg|hd|po|sa|mk|kc|na1|na2|na3|na4|na5|na6|na7|na8|aX|aT|xo|xsa|xga|xgx|xp|xn|xs1|xs2|xs3|xs4|xrd|xfi|xgt|kx|xcl|xgn|xgk|xoT|aXY0|xoY0|xsaY0|xgaY0|xgxY0|xclY0|kxY0|xf0Y0|xf1Y0|aXY1|xoY1|xsaY1|xgaY1|xgxY1|xclY1|kxY1|xiY1=>k_is)
  (case nd=>decide)
  (case z_all|z_any|z_bool|z_dict|z_divmod|z_enumerate|z_int|z_isinstance|z_len|z_list|z_range|z_str|z_tuple|z_zip|g_LETTERS=>k_is)
  (case r_LETTERS=>exact⟨_,rfl⟩)
  (case g_LONGEST_NAME=>k_is)
  (case r_LONGEST_NAME=>exact⟨_,rfl⟩)
  (case g_MOST_WORDS=>k_is)
  (case r_MOST_WORDS=>exact⟨_,rfl⟩)
  (case g_MOST_ROOMS=>k_is)
  (case r_MOST_ROOMS=>exact⟨_,rfl⟩)
  (case g_MOST_DOORS=>k_is)
  (case r_MOST_DOORS=>exact⟨_,rfl⟩)
  (case g_MOST_JOINED_ROOMS=>k_is)
  (case r_MOST_JOINED_ROOMS=>exact⟨_,rfl⟩)
  (case g_MOST_JOINED_DOORS=>k_is)
  (case r_MOST_JOINED_DOORS=>exact⟨_,rfl⟩)
  (case g_STILL|l_STILL=>k_is)
  (case c_STILL|d_STILL=>rfl)
  (case s_STILL=>decide)
  (case v_STILL=>exact .cons ⟨_,rfl⟩ .nil)
  (case T=>constructor<;>first|(refine' Mum.fnG_mk ?a ?l ?c ?k;(case a=>k_is);(case l=>k_is);(case c=>k_is);(case k=>k_is))|(refine' Mum.fnM_mk ?a ?i ?l ?c ?k;(case a=>k_is);(case i=>k_is);(case l=>k_is);(case c=>k_is);(case k=>k_is)))
