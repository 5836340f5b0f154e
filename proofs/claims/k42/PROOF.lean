
import PyProof.Rows.All
import Wide.All
import OpenK.AllK
import Wide.FinOn
import Lean
import PyProof.EqAt
import PyProof.EqKinds
import PyProof.TupleCall
import PyProof.NeKinds
import PyProof.DictIter
import PyProof.DictWalks
import PyProof.RaisesMany
import PyProof.RulesAs
import PyProof.NsDelKeeps
import PyProof.InstStoreFacts
import PyProof.ExcClass3
import PyProof.ExcInit
import KE.KTryMore
import PyProof.AutoSeq1
import PyProof.WalkInts
import PyProof.DictItems
import PyProof.DictItemsLoops
import KE.KPairComp
import PyProof.DictValues
import PyProof.SumAny
import PyProof.Rows.SumAny
import PyProof.Rows.RuleDivmod
import KE.KRevIter
import PyProof.TupleOfGen
import KE.IntBitsLaws
import PySem.Challenge.RW_mumtrial_k42_made_by_number
noncomputable section
open PySem renaming Program->bj,reduceHash->Cg,wpAny_mono->mL,wpAny_bind->ak,wpAny_specialOf->AX,wpAny_call_entry->qD,wpAny_pure->aF,wpAny_rule->mM,Builtin->bc,wpAny_isInstance->xa,wpAny_holding->iX,wpAny_truthy_bool->tW,wpAny_seqItems->iW,sizeLine->ai,sysModules->gE,mainGlobals->bA,bootBuiltins->lD,starEach->aA,compareOp->eh,behindInMarks->jN,standAt->pd,holding->jY,wpAny_execs_nil->z_,swapsWith->pc,assignEach->tU,wpAny_passesOwn->qE,letOwnedTupleGo->z9,wpAny_pyIter_list->z8,wpAny_pyIter_tuple->z7,foldedSetIterable->w_,binaryOp->jW,sizeLine_eq->tT,getMethod->pb,codeAny->zzl78,attributeBase->tR,FuncData->jM,BindsTo->qA,codeAny_mono->z0,wpAny_Call_Name_kw->zZ,callWith->tP,backToKw->mG,keywordEach->mF,NameKind->iT,mem_of_lookup->re,typeLookup->q_,getItem->lS,subscripted->vm,sliceBounds->lQ,slicePick->vk,Keyword->oh,call_meets->qZ,valueAt->lP,call_meetsIn->qW,callerA->kb,DictEntry->ka,wpAny_newObj_type->j9,ZipApart->fO,wpAny_pyIter_zip->qS,wpAny_callSpecial?_slot->j8,wpAny_field->dw,wpAny_setField->vc,firstArgMember->va,wpAny_setField_rec->lM,wpAny_onRaise->u9,wpAny_letGo->u8,wpAny_attempt->n5,sliceRange->qQ,wpAny_dictEntries->uY,codeAny_builtin->j4,wpAny_typeOf->uX,plainId_quiet->lL,wpAny_typeNameOfWhole_keyiter->uV,wpAny_typeNameOf_keyiter->uU,updateSeq->qJ,wpAny_updateSeq->qI
open PySem.Builtin.Tuple renaming tupleHashOf->yC
open Bool renaming false_ne_true->gm,not_true->Aa,false_eq_true->j6,eq_iff_iff->w8,true_and->qF
open Array renaming forIn_toList->Eb,length_toList->jX,getElem?_eq_getElem->jn,getElem?_eq_none->qM
open Nat renaming add_assoc->Ab,le_refl->ay,lt_of_lt_of_le->cz,lt_irrefl->iV,ne_of_lt->bE,le_trans->aE,le_of_lt->cL,ne_of_gt->dC,zero_le->eS,lt_of_le_of_lt->n6,le_add_right->iM,min_eq_left->uP,mod_lt->qH,succ_mul->gZ,mul_le_mul_right->eo
open List renaming append_nil->ei,range->jZ,mem_filter->eU,filterMap_cons->tV,mem_cons_self->dE,mem_cons_of_mem->dD,mem_cons->cc,mem_append->bw,mem_append_left->de,getElem?_eq_some_iff->bQ,mem_append_right->dL,length_cons->fh,lookup->fL,map_cons->bm,length_map->aj,nodup_cons->iw,length_take->aD,getElem?_append_left->rc,getElem?_map->cD,mem_of_getElem?->cw,length_append->aU,length_drop->eK,size_toArray->bp,reverse_cons->vi,length_reverse->gu,find?_cons->og,any_cons->vh,nodup_nil->qX,map_nil->vf,lookup_cons->g8,forIn_cons->lO,mem_map->aM,not_mem_nil->qU,forIn_nil->u_,getElem?_eq_none->u4,any_toArray->u3,drop_zero->qO,take_length->aZ,getElem?_eq_getElem->eB,mem_singleton->fN,map_append->aw,nodup_append->cZ,drop_of_length_le->nZ,drop_eq_getElem_cons->uW,getElem?_reverse->uT,take_of_length_le->qK,getElem?_of_mem->g7,map_take->uR,map_drop->uQ,mem_of_mem_take->fo,mem_of_mem_drop->uO,append_assoc->fk,nodup_iff_pairwise_ne->uN,map_map->iL,sum_cons->qG,mem_map_of_mem->nX,take_zero->uM,length_filter_le->cC,filter_append->g6,filter_cons_of_neg->uL,filter_cons_of_pos->uK,zipWith->gX
open Option.some renaming inj->eD
open PySem.W renaming instObj->pe,lookIn->z6,plainGet->qC,hasDictIn->tS,findIn->cP,isFn->w6,plainOver->wZ,makesIn->mI,emptyDict->mH,keepIn->gb,fnOf->g9,codeIn->lT,nsIn->bX,mg_of->dO,mg_none_of->gW
open PySem.Heap renaming lt_size->az,SameBut->gD,get?_push_of_some->aO,get?_push_size->cb,size_push->jV,get?_update_self->jp,get?_update_other->lR
open PyProof.Rows renaming AllBare->mK,callWith_type1->mJ,Subscript_->vo,subscriptTail->vn,IntsAre->qV,zipApart_new->u5
open Ne renaming symm->eT
open False renaming elim->iU
open PySem.Str renaming empty->z5,ofString->jo
open True renaming intro->o_
open PySem.Calls renaming spliced_nil->wY,spliced_cons->tQ,callWith_builtin->vj
open Option renaming isSome_iff_exists->zY,map_some->qY,map_eq_some_iff->nW
open Int renaming toNat_natCast->jq,emod_nonneg->jm,emod_lt_of_pos->jl,le_refl->uS,eq_ofNat_of_zero_le->lK
open PySem.Obj renaming mapSeq->fq,data_mapFields->vb
open PySem.Paired renaming snoc->gq
open PySem.F renaming slot_dict_get->n_,entry_dict_get->vg,slot_tuple_iterator_next->vd,slot_zip_next->j5,entry_zip_next->u7,args_zip_next_1->u6,slot_dict_keyiterator_next->qN,plain_extend_loop->nY,plainAttrs_list->fj,slot_list_append->iK,type_list_append->iJ
open ForInStep renaming yield->ve
open PySem.NameKind renaming free->j_
open PySem.Builtin.SmallTypes renaming nextOf->gp,ownedTupleIsFree->j7
open PySem.Heap.SameBut renaming update->lN
open PySem.Shared renaming heap->qR
open PySem.SeqAt renaming EqAt->aV
open PySem.Builtin.Str renaming strSliceIndices->qP
open PySem.Txt renaming join->uZ
open PySem.Around renaming under_plainId->j3
open PySem.PassesOwn renaming never->bo
theorem Q0:0<=PySem.sizeLine:=by decide
theorem Q1:1<=PySem.sizeLine:=by decide
theorem Q2:2<=PySem.sizeLine:=by decide
theorem Q3:3<=PySem.sizeLine:=by decide
theorem Q4:4<=PySem.sizeLine:=by decide
theorem Q6:6<=PySem.sizeLine:=by decide
theorem zzr0{p:Prop}[Decidable p](h:¬p):decide p=false:=decide_eq_false h
theorem zzr1{p:Prop}[Decidable p](h:p):decide p=true:=decide_eq_true h
abbrev Za:=PySem.W.Frag
abbrev Zb:=List PySem.Str
abbrev Zc:=PySem.Value->PySem.Shared->Prop
abbrev Zd:=List (PySem.Addr×PySem.Obj)
abbrev Ze:=List PySem.Addr
abbrev Zf:=List PySem.Value
section
set_option Elab.async false
set_option linter.all false
set_option maxRecDepth 100000
set_option maxHeartbeats 4000000
namespace L2
open PySem PySem.Spec PyProof.Rows
open Sem (wp)
abbrev eG:=Sum Int Str
def cM:eG->Value->Bool
 |.inl k,v=>Value.isInt k v
 |.inr x,v=>Value.isStrOf x v
def GU(w:World):eG->Int
 |.inl k=>hashInt k
 |.inr x=>hashStr w x
theorem av:∀{k:eG}{v:Value},cM k v=true->(∃i t,k=Sum.inl i/\v=Value.int i t)∨(∃x t,k=Sum.inr x/\v=Value.str x t)
 |.inl i,v,h=>by
  obtain⟨t,e⟩:=Value.isInt_shape (k:=i) (v:=v) h;exact .inl ⟨i,t,rfl,e⟩
 |.inr x,v,h=>by
  obtain⟨t,e⟩:=Value.isStrOf_shape (x:=x) (v:=v) h;exact .inr ⟨x,t,rfl,e⟩
theorem k3(i:Int)(t:Tok):cM (.inl i) (.int i t)=true:=by simp[cM,Value.isInt]
theorem kZ(x:Str)(t:Tok):cM (.inr x) (.str x t)=true:=by simp[cM,Value.isStrOf]
theorem wo(a b:Int):decide ((Sum.inl a:eG)=Sum.inl b)=(a==b):=by
 by_cases e:a=b
 ·subst e;simp
 ·have h:¬(Sum.inl a:eG)=Sum.inl b:=fun q=>e (Sum.inl.inj q);rw[zzr0 h];exact(beq_eq_false_iff_ne.mpr e).symm
theorem wk(a b:Str):decide ((Sum.inr a:eG)=Sum.inr b)=decide (a=b):=by
 by_cases e:a=b
 ·subst e;simp
 ·have h:¬(Sum.inr a:eG)=Sum.inr b:=fun q=>e (Sum.inr.inj q);rw[zzr0 h,zzr0 e]
theorem wn(a:Int)(b:Str):decide ((Sum.inl a:eG)=Sum.inr b)=false:=zzr0 (fun q=>nomatch q)
theorem wl(a:Str)(b:Int):decide ((Sum.inr a:eG)=Sum.inl b)=false:=zzr0 (fun q=>nomatch q)
def bV(prog:bj)(w:World):PySem.KeyKind prog w eG where
 is:=cM
 hash:=GU w
 inj:=fun v a b ha hb=>by
  rcases av ha with⟨i,t,rfl,rfl⟩|⟨x,t,rfl,rfl⟩
  ·rcases av hb with⟨j,u,rfl,e⟩|⟨y,u,rfl,e⟩
   ·injection e with e1 _;rw[e1]
   ·exact nomatch e
  ·rcases av hb with⟨j,u,rfl,e⟩|⟨y,u,rfl,e⟩
   ·exact nomatch e
   ·injection e with e1 _;rw[e1]
 byValue:=fun k v h=>by
  rcases av h with⟨i,t,rfl,rfl⟩|⟨x,t,rfl,rfl⟩<;>rfl
 pyHash:=fun hv h=>by
  rcases av hv with⟨i,t,rfl,rfl⟩|⟨x,t,rfl,rfl⟩
  ·exact wpAny_pyHash_int h
  ·exact wpAny_pyHash_str h
 eqBool:=fun hu hv h=>by
  rcases av hu with⟨i,t,rfl,rfl⟩|⟨x,t,rfl,rfl⟩
  ·rcases av hv with⟨j,u,rfl,rfl⟩|⟨y,u,rfl,rfl⟩
   ·rw[wo]at h;exact wpAny_eqBool_int h
   ·rw[wn]at h;exact aV.int_str i t y u _ _ _ _ h
  ·rcases av hv with⟨j,u,rfl,rfl⟩|⟨y,u,rfl,rfl⟩
   ·rw[wl]at h;exact aV.str_int x t j u _ _ _ _ h
   ·rw[wk]at h;exact wpAny_eqBool_str h
 «strs»:=fun k x t v h=>by
  rcases av h with⟨i,u,rfl,e⟩|⟨y,u,rfl,e⟩
  ·exact nomatch e
  ·injection e with e1 _;subst e1;cases v<;>rfl
theorem xQ(prog:bj)(w:World)(i:Int)(t:Tok):(bV prog w).is (.inl i) (.int i t)=true:=k3 i t
theorem xP(prog:bj)(w:World)(x:Str)(t:Tok):(bV prog w).is (.inr x) (.str x t)=true:=kZ x t
end L2
namespace L2
open PySem PySem.Spec PyProof.Rows
open Sem (wp)
abbrev mB:=Option eG
def ib:mB->Value->Bool
 |none,v=>match v with
  |.none=>true
  |_=>false
 |some k,v=>cM k v
def Fz(w:World):mB->Int
 |none=>Cg 4238894112
 |some k=>GU w k
theorem bv:∀{k:mB}{v:Value},ib k v=true->(∃i t,k=some (Sum.inl i)/\v=Value.int i t)∨(∃x t,k=some (Sum.inr x)/\v=Value.str x t)∨(k=none/\v=Value.none)
 |none,v,h=>by
  refine .inr (.inr ⟨rfl,?_⟩);cases v<;>first|rfl|cases h
 |some k,v,h=>by
  rcases av (show cM k v=true from h)with⟨i,t,rfl,rfl⟩|⟨i,t,rfl,rfl⟩
  ·exact .inl ⟨i,t,rfl,rfl⟩
  ·exact .inr (.inl ⟨i,t,rfl,rfl⟩)
theorem sj{a b:mB}{v:Value}(h1:ib a v=true)(h2:ib b v=true):a=b:=by
 rcases bv h1 with⟨i,t,rfl,rfl⟩|⟨i,t,rfl,rfl⟩|⟨rfl,rfl⟩<;>rcases bv h2 with⟨j,u,rfl,e⟩|⟨j,u,rfl,e⟩|⟨rfl,e⟩<;>first|rfl|(cases e;rfl)|cases e
def xO(prog:bj)(w:World):PySem.KeyKind prog w mB where
 is:=ib
 hash:=Fz w
 inj:=fun v a b ha hb=>sj ha hb
 byValue:=fun k v h=>by
  rcases bv h with⟨i,t,rfl,rfl⟩|⟨x,t,rfl,rfl⟩|⟨rfl,rfl⟩<;>rfl
 pyHash:=fun{A E s k v Q} hv h=>by
  rcases bv hv with⟨i,t,rfl,rfl⟩|⟨x,t,rfl,rfl⟩|⟨rfl,rfl⟩
  ·exact wpAny_pyHash_int h
  ·exact wpAny_pyHash_str h
  ·refine PySem.W.pyHash_slot (T:="NoneType") rfl F.slot_NoneType_hash F.entry_NoneType_hash (F.args_NoneType_hash_1 _) (by rw[beq_builtin_none]) (.inl rfl) ?_;show wpAny _ _ (retInt 4238894112) _ _ _;refine mL (wpAny_ret_mkInt (Q:=fun v s'=>∃n t,v=Value.int n t/\Q (Cg n) s') ⟨_,_,rfl,h⟩) (fun fin s' ⟨v,e,n,t,e2,q⟩=>⟨n,t,by rw[e,e2],q⟩) (fun _ _ z=>z)
 eqBool:=fun{A E s a b u v Q} hu hv h=>by
  rcases bv hu with⟨i,t,rfl,rfl⟩|⟨x,t,rfl,rfl⟩|⟨rfl,rfl⟩
  ·rcases bv hv with⟨j,u,rfl,rfl⟩|⟨y,u,rfl,rfl⟩|⟨rfl,rfl⟩
   ·exact(bV prog w).eqBool (a:=.inl i) (b:=.inl j) (k3 i t) (k3 j u) (by rw[show decide ((Sum.inl i:eG)=Sum.inl j)=decide ((some (Sum.inl i):mB)=some (Sum.inl j))from decide_eq_decide.mpr ⟨fun z=>by rw[z],fun z=>by injection z⟩];exact h)
   ·rw[zzr0 (by intro z;injection z with z;cases z)]at h;exact aV.int_str i t y u _ _ _ _ h
   ·rw[zzr0 (by intro z;cases z)]at h;exact aV.int_none i t _ _ _ _ h
  ·rcases bv hv with⟨j,u,rfl,rfl⟩|⟨y,u,rfl,rfl⟩|⟨rfl,rfl⟩
   ·rw[zzr0 (by intro z;injection z with z;cases z)]at h;exact aV.str_int x t j u _ _ _ _ h
   ·exact(bV prog w).eqBool (a:=.inr x) (b:=.inr y) (kZ x t) (kZ y u) (by rw[show decide ((Sum.inr x:eG)=Sum.inr y)=decide ((some (Sum.inr x):mB)=some (Sum.inr y))from decide_eq_decide.mpr ⟨fun z=>by rw[z],fun z=>by injection z⟩];exact h)
   ·rw[zzr0 (by intro z;cases z)]at h;exact aV.str_none x t _ _ _ _ h
  ·rcases bv hv with⟨j,u,rfl,rfl⟩|⟨y,u,rfl,rfl⟩|⟨rfl,rfl⟩
   ·rw[zzr0 (by intro z;cases z)]at h;exact aV.none_int j u _ _ _ _ h
   ·rw[zzr0 (by intro z;cases z)]at h;exact aV.none_str y u _ _ _ _ h
   ·rw[zzr1 rfl]at h;exact aV.same _ _ _ _ _ h
 «strs»:=fun k x t v h=>by
  rcases bv h with⟨i,u,rfl,e⟩|⟨y,u,rfl,e⟩|⟨rfl,e⟩
  ·exact nomatch e
  ·injection e with e1 _;subst e1;cases v<;>rfl
  ·exact nomatch e
inductive TK where
 |k (a:mB)
 |t (l:List TK)
mutual
def FF:(x y:TK)->Decidable (x=y)
 |.k a,.k b=>if h:a=b then Decidable.isTrue (by rw[h])else Decidable.isFalse fun e=>h (by injection e)
 |.t l,.t m=>match decTKs l m with
  |Decidable.isTrue h=>Decidable.isTrue (by rw[h])
  |Decidable.isFalse h=>Decidable.isFalse fun e=>h (by injection e)
 |.k _,.t _=>Decidable.isFalse nofun
 |.t _,.k _=>Decidable.isFalse nofun
def decTKs:(x y:List TK)->Decidable (x=y)
 |[],[]=>Decidable.isTrue rfl
 |[],_::_=>Decidable.isFalse nofun
 |_::_,[]=>Decidable.isFalse nofun
 |a::l,b::m=>match FF a b with
  |Decidable.isTrue h=>match decTKs l m with
   |Decidable.isTrue h'=>Decidable.isTrue (by rw[h,h'])
   |Decidable.isFalse h'=>Decidable.isFalse fun e=>h' (by injection e)
  |Decidable.isFalse h=>Decidable.isFalse fun e=>h (by injection e)
end
instance:DecidableEq TK:=FF
mutual
def TK.depth:TK->Nat
 |.k _=>0
 |.t l=>TK.depths l+1
def TK.depths:List TK->Nat
 |[]=>0
 |a::r=>max (TK.depth a) (TK.depths r)
end
mutual
def TK.hash(w:World):TK->Int
 |.k a=>Fz w a
 |.t l=>Cg (yC (TK.hashs w l))
def TK.hashs(w:World):List TK->List Int
 |[]=>[]
 |a::r=>TK.hash w a::TK.hashs w r
end
mutual
def TK.draws:TK->Nat
 |.k _=>1
 |.t l=>TK.drawss l+1
def TK.drawss:List TK->Nat
 |[]=>0
 |a::r=>TK.draws a+TK.drawss r
end
mutual
def lr(h:Heap):TK->Value->Prop
 |.k a,v=>ib a v=true
 |.t l,v=>∃a o items n,v=.ref a/\h.get? a=some o/\o.cls=.type "tuple"/\o.data=.seq items n/\TAts h l items.toList
def TAts(h:Heap):List TK->List Value->Prop
 |[],vs=>vs=[]
 |k::r,vs=>∃v us,vs=v::us/\lr h k v/\TAts h r us
end
theorem lr.inj{h:Heap}:∀(d:Nat) {x y:TK}{v:Value},x.depth<=d->lr h x v->lr h y v->x=y:=by
 have key:∀(d:Nat) (ih:∀{x y:TK}{v:Value},x.depth<=d->lr h x v->lr h y v->x=y) (xs ys:List TK) (vs:Zf),TK.depths xs<=d->TAts h xs vs->TAts h ys vs->xs=ys:=by
  intro d ih xs
  induction xs with
  |nil =>
   intro ys vs _ hx hy;have hx':vs=[]:=hx;subst hx';cases ys with
   |nil=>rfl
   |cons y ys=>obtain⟨_,_,e,_⟩:=hy;cases e
  |cons x xs ihl =>
   intro ys vs hd hx hy;obtain⟨v,us,rfl,hx1,hx2⟩:=hx;cases ys with
   |nil=>have hy':v::us=[]:=hy;cases hy'
   |cons y ys =>
    obtain⟨v',us',e,hy1,hy2⟩:=hy;cases e;have hd':max x.depth (TK.depths xs)<=d:=hd;rw[ih (by omega) hx1 hy1,ihl ys us (by omega) hx2 hy2]
 have leaf:∀(a:mB) (l:List TK) (v:Value),lr h (.k a) v->lr h (.t l) v->False:=by
  intro a l v h1 h2;obtain⟨b,o,items,n,rfl,_⟩:=h2;rcases bv (show ib a (.ref b)=true from h1)with⟨_,_,_,e⟩|⟨_,_,_,e⟩|⟨_,e⟩<;>cases e
 have kk:∀(a b:mB) (v:Value),ib a v=true->ib b v=true->a=b:=fun a b v h1 h2=>sj h1 h2;intro d
 induction d with
 |zero =>
  intro x y v hd hx hy;cases x with
  |t l=>exact absurd hd (by show ¬(TK.depths l+1<=0);omega)
  |k a =>
   cases y with
   |k b=>rw[kk a b v hx hy]
   |t l=>exact(leaf a l v hx hy).elim
 |succ d ih =>
  intro x y v hd hx hy;cases x with
  |k a =>
   cases y with
   |k b=>rw[kk a b v hx hy]
   |t l=>exact(leaf a l v hx hy).elim
  |t l =>
   cases y with
   |k b=>exact(leaf b l v hy hx).elim
   |t l' =>
    obtain⟨a,o,items,n,rfl,ho,hc,hdt,hi⟩:=hx;obtain⟨a',o',items',n',e,ho',hc',hdt',hi'⟩:=hy;cases e;rw[ho]at ho';cases ho';rw[hdt]at hdt';injection hdt' with e1 _;subst e1;rw[key d (fun h1=>ih h1) l l' items.toList (by have:TK.depths l+1<=d+1:=hd;omega) hi hi']
theorem lr.mono{h h':Heap}(k:∀a o items n,h.get? a=some o->o.cls=.type "tuple"->o.data=.seq items n->h'.get? a=some o):∀(d:Nat) {x:TK}{v:Value},x.depth<=d->lr h x v->lr h' x v:=by
 have key:∀(d:Nat) (ih:∀{x:TK}{v:Value},x.depth<=d->lr h x v->lr h' x v) (xs:List TK) (vs:Zf),TK.depths xs<=d->TAts h xs vs->TAts h' xs vs:=by
  intro d ih xs
  induction xs with
  |nil=>intro vs _ hx;exact hx
  |cons x xs ihl =>
   intro vs hd hx;obtain⟨v,us,rfl,hx1,hx2⟩:=hx;have hd':max x.depth (TK.depths xs)<=d:=hd;exact⟨v,us,rfl,ih (by omega) hx1,ihl us (by omega) hx2⟩
 intro d
 induction d with
 |zero =>
  intro x v hd hx;cases x with
  |t l=>exact absurd hd (by show ¬(TK.depths l+1<=0);omega)
  |k a=>exact hx
 |succ d ih =>
  intro x v hd hx;cases x with
  |k a=>exact hx
  |t l =>
   obtain⟨a,o,items,n,rfl,ho,hc,hdt,hi⟩:=hx;exact⟨a,o,items,n,rfl,k a o items n ho hc hdt,hc,hdt,key d (fun h1=>ih h1) l _ (by have:TK.depths l+1<=d+1:=hd;omega) hi⟩
section
variable{prog:bj}{w:World}
theorem Eh:∀(d:Nat) {A:Around}{E:Zc}{s:Shared}{k:TK}{v:Value}{Q:Int->Shared->Prop},k.depth<=d->A.units+d<cLine->lr s.heap k v->Q (k.hash w) { s with toks:=s.toks+k.draws } ->
  wpAny (model prog w) A (pyHash v) Q E s:=by
 intro d
 induction d with
 |zero =>
  intro A E s k v Q hd hu hk h;cases k with
  |t l=>exact absurd hd (by show ¬(TK.depths l+1<=0);omega)
  |k a=>exact(xO prog w).pyHash (k:=a) hk h
 |succ d ih =>
  intro A E s k v Q hd hu hk h;cases k with
  |k a=>exact(xO prog w).pyHash (k:=a) hk h
  |t l =>
   obtain⟨a,o,items,n,rfl,ho,hc,hdt,hi⟩:=hk;have hT:s.TypeIs (.ref a) "tuple":=⟨o,ho,hc⟩;have hdl:TK.depths l<=d:=by have:TK.depths l+1<=d+1:=hd;omega
   unfold pyHash
   first|unfold pyHashByItsType|skip
   first|refine ak (wpAny_cRoomFor_or (.inr (by omega)) ?_)|skip
   refine ak (AX hT F.slot_tuple_hash.lookup ?_);show wpAny _ _ (if(some (Value.builtin "tuple.__hash__")==some Value.none)=true then _ else _) Q E s
   rw[if_neg (by rw[beq_builtin_none];exact gm)];refine ak (AX hT F.slot_tuple_hash.lookup ?_);show wpAny _ _ (callSpecialIfBoundUnlessNone? (.ref a) "__hash__" _ >>= _) Q E s;refine ak (wpAny_callSpecialIfBoundUnlessNone?_slot hT F.slot_tuple_hash (qD F.slot_tuple_hash hT F.entry_tuple_hash ?_ (F.args_tuple_hash_1 _)));show wpAny _ _ (bc.Tuple.tupleItemsOf (.ref a) >>= _) _ _ s;refine ak (wpAny_tupleItemsOf ho hdt ?_);refine ak ?_;rw[<-Eb];refine wpAny_forIn_list _
    (fun rest (b:Array Int) s'=>∃done left,l=done++left/\TAts s.heap left rest/\b.toList=TK.hashs w done/\s'={ s with toks:=s.toks+TK.drawss done })
    _ ?_ ?_ _ _ ⟨[],l,rfl,hi,rfl,rfl⟩
   ·rintro x rest b s' ⟨done,left,e,hl,hb,rfl⟩;cases left with
    |nil=>have hl':x::rest=[]:=hl;cases hl'
    |cons k' left =>
     obtain⟨x',rest',e',h1,h2⟩:=hl;cases e';have hdk:k'.depth<=d:=by
      have gen:∀(p:List TK),TK.depths (p++k'::left)<=d->k'.depth<=d:=by
       intro p
       induction p with
       |nil=>intro hp;have hp':max k'.depth (TK.depths left)<=d:=hp;omega
       |cons q p ihp=>intro hp;have hp':max q.depth (TK.depths (p++k'::left))<=d:=hp;exact ihp (by omega)
      exact gen done (by rw[<-e];exact hdl)
     have hs:TK.hashs w (done++[k'])=TK.hashs w done++[k'.hash w]:=by
      clear e hb
      induction done with
      |nil=>rfl
      |cons q p ihp=>show _::TK.hashs w (p++[k'])=_;rw[ihp];rfl
     have hdr:TK.drawss (done++[k'])=TK.drawss done+k'.draws:=by
      clear e hb hs
      induction done with
      |nil=>show k'.draws+0=0+k'.draws;omega
      |cons q p ihp=>show q.draws+TK.drawss (p++[k'])=q.draws+TK.drawss p+k'.draws;rw[ihp];omega
     refine ak (ih (k:=k') hdk (by show A.units+1+d<cLine;omega) h1 ?_)
     first
      |exact aF ⟨done++[k'],left,by rw[e];simp,h2,by rw[hs];simp[hb],by rw[hdr];simp[Ab]⟩
      |exact ak (aF (aF ⟨done++[k'],left,by rw[e];simp,h2,by rw[hs];simp[hb],by rw[hdr];simp[Ab]⟩))
   ·rintro b s' ⟨done,left,e,hl,hb,rfl⟩;cases left with
    |cons k' left=>obtain⟨_,_,e',_⟩:=hl;cases e'
    |nil =>
     rw[ei]at e;subst e;show wpAny _ _ (retInt (yC b.toList)) _ _ _;rw[hb];refine wpAny_ret_mkInt ?_;have h':Q (Cg (yC (TK.hashs w l))) { s with toks:=s.toks+(TK.drawss l+1) }:=h;show wpAny _ _ (if(decide (-(2:Int) ^ 63<=yC (TK.hashs w l)) && decide (yC (TK.hashs w l)<2 ^ 63))=true then _ else _) Q E _
     unfold Cg at h';by_cases hr:(decide (-(2:Int) ^ 63<=yC (TK.hashs w l)) && decide (yC (TK.hashs w l)<2 ^ 63))=true
     ·rw[if_pos hr];rw[if_pos hr]at h';exact aF (by simpa[Ab]using h')
     ·rw[if_neg hr];rw[if_neg hr]at h';exact ak (mM (aF (by simpa[Ab]using h')))
theorem A8(d:Nat)(ih:∀{A:Around}{E:Zc}{s:Shared}{x y:TK}{u v:Value}{Q:Bool->Shared->Prop},x.depth<=d->y.depth<=d->A.units+d<cLine->lr s.heap x u->lr s.heap y v->Q (decide (x=y)) s->wpAny (model prog w) A (eqBool u v) Q E s)
  {A:Around}{E:Zc}{s:Shared}{x y:List TK}{a b:Addr}{P:Fin->Shared->Prop}{oa ob:Obj}{xs ys:Array Value}{na nb:Nat}(hx:TK.depths x<=d) (hy:TK.depths y<=d) (hu:A.units+d<cLine)
  (hoa:s.heap.get? a=some oa) (hda:oa.data=.seq xs na) (hia:TAts s.heap x xs.toList) (hob:s.heap.get? b=some ob) (hcb:ob.cls=.type "tuple") (hdb:ob.data=.seq ys nb) (hib:TAts s.heap y ys.toList)
  (h:P (.done (.ret (.bool (decide (x=y))))) s):wpAny (model prog w) A (bc.«tuple.__eq__» ⟨[.ref a,.ref b],[]⟩) P E s:=by
 have hTb:s.TypeIs (.ref b) "tuple":=⟨ob,hob,hcb⟩;show wpAny _ _ (isInstance (.ref b) (.type "tuple") >>= _) _ _ s;refine ak (xa hTb isSubtype_tuple_tuple ?_);simp only[Aa,j6,if_false];refine ak (wpAny_tupleItemsOf hoa hda ?_);refine ak (wpAny_tupleItemsOf hob hdb ?_);refine ak ?_;refine wpAny_forIn_list _
  (fun rest r s'=>r.1=none/\s'=s/\∃x' y' xs' ys',rest=List.zip xs' ys'/\TAts s.heap x' xs'/\TAts s.heap y' ys'/\TK.depths x'<=d/\TK.depths y'<=d/\decide (x'=y')=decide (x=y)/\(xs'.length==ys'.length)=(xs.size==ys.size))
  _ ?_ ?_ _ _ ⟨rfl,rfl,x,y,xs.toList,ys.toList,rfl,hia,hib,hx,hy,rfl,by simp⟩
 ·rintro⟨u,v⟩ rest r s' ⟨hr,rfl,x',y',xs',ys',hz,hx',hy',dx,dy,hdec,hlen⟩;cases x' with
  |nil =>
   have e:xs'=[]:=hx';subst e;simp at hz
  |cons k1 x'' =>
   obtain⟨u',xs'',rfl,h1,hx''⟩:=hx';cases y' with
   |nil =>
    have e:ys'=[]:=hy';subst e;simp at hz
   |cons k2 y'' =>
    obtain⟨v',ys'',rfl,h2,hy''⟩:=hy';simp only[List.zip_cons_cons,List.cons.injEq,Prod.mk.injEq]at hz;obtain⟨⟨rfl,rfl⟩,rfl⟩:=hz;have dx':max k1.depth (TK.depths x'')<=d:=dx;have dy':max k2.depth (TK.depths y'')<=d:=dy;refine ak (ih (x:=k1) (y:=k2) (by omega) (by omega) hu h1 h2 ?_);by_cases hk:k1=k2
    ·subst hk;rw[zzr1 rfl];simp only[Aa,j6,if_false];refine aF ⟨rfl,rfl,x'',y'',xs'',ys'',rfl,hx'',hy'',by omega,by omega,?_,by simpa using hlen⟩;rw[<-hdec];by_cases hxy:x''=y''
     ·simp[hxy]
     ·simp[hxy]
    ·rw[zzr0 hk];simp only[Bool.not_false,if_true];have hf:decide (x=y)=false:=by rw[<-hdec];simp[hk]
     rw[hf]at h;exact ak (aF (aF (aF h)))
 ·rintro⟨r1,r2⟩ s' ⟨hr,rfl,x',y',xs',ys',hz,hx',hy',dx,dy,hdec,hlen⟩;simp only at hr;subst hr;refine aF ?_;have hfin:(xs.size==ys.size)=decide (x=y):=by
   rw[<-hdec,<-hlen];cases x' with
   |nil =>
    have e:xs'=[]:=hx';subst e;cases y' with
    |nil=>have e:ys'=[]:=hy';subst e;simp
    |cons _ _=>obtain⟨_,_,rfl,_⟩:=hy';simp
   |cons _ _ =>
    obtain⟨_,_,rfl,_⟩:=hx';cases y' with
    |nil=>have e:ys'=[]:=hy';subst e;simp
    |cons _ _=>obtain⟨_,_,rfl,_⟩:=hy';simp at hz
  show P (.done (.ret (.bool (xs.size==ys.size)))) s';rw[hfin];exact h
theorem GD:∀(d:Nat) {A:Around}{E:Zc}{s:Shared}{x y:TK}{u v:Value}{Q:Bool->Shared->Prop},x.depth<=d->y.depth<=d->A.units+d<cLine->lr s.heap x u->lr s.heap y v->Q (decide (x=y)) s ->
  wpAny (model prog w) A (eqBool u v) Q E s:=by
 have mixed1:∀{A:Around}{E:Zc}{s:Shared}{a:mB}{l:List TK}{u v:Value}{Q:Bool->Shared->Prop},A.units<cLine->lr s.heap (.k a) u->lr s.heap (.t l) v->Q false s->wpAny (model prog w) A (eqBool u v) Q E s:=by
  intro A E s a l u v Q hu hx hy h;obtain⟨b,o,items,n,rfl,ho,hc,hdt,hi⟩:=hy;have ht:s.heap.IsTuple b items:=⟨o,ho,hc,n,hdt⟩;rcases bv (show ib a u=true from hx)with⟨i,t,rfl,rfl⟩|⟨i,t,rfl,rfl⟩|⟨rfl,rfl⟩
  ·exact aV.int_tuple i t ht hu prog w E Q h
  ·exact aV.str_tuple i t ht hu prog w E Q h
  ·exact aV.none_tuple ht hu prog w E Q h
 have mixed2:∀{A:Around}{E:Zc}{s:Shared}{a:mB}{l:List TK}{u v:Value}{Q:Bool->Shared->Prop},A.units<cLine->lr s.heap (.t l) u->lr s.heap (.k a) v->Q false s->wpAny (model prog w) A (eqBool u v) Q E s:=by
  intro A E s a l u v Q hu hx hy h;obtain⟨b,o,items,n,rfl,ho,hc,hdt,hi⟩:=hx;have ht:s.heap.IsTuple b items:=⟨o,ho,hc,n,hdt⟩;rcases bv (show ib a v=true from hy)with⟨i,t,rfl,rfl⟩|⟨i,t,rfl,rfl⟩|⟨rfl,rfl⟩
  ·exact aV.tuple_int i t ht hu prog w E Q h
  ·exact aV.tuple_str i t ht hu prog w E Q h
  ·exact aV.tuple_none ht hu prog w E Q h
 have leaves:∀{A:Around}{E:Zc}{s:Shared}{a b:mB}{u v:Value}{Q:Bool->Shared->Prop},lr s.heap (.k a) u->lr s.heap (.k b) v->Q (decide (TK.k a=TK.k b)) s->wpAny (model prog w) A (eqBool u v) Q E s:=by
  intro A E s a b u v Q hx hy h;refine(xO prog w).eqBool (a:=a) (b:=b) hx hy ?_;by_cases e:a=b
  ·subst e;simpa using h
  ·have:¬(TK.k a=TK.k b):=fun z=>e (by injection z);rw[zzr0 this]at h;rw[zzr0 e];exact h
 intro d
 induction d with
 |zero =>
  intro A E s x y u v Q hdx hdy hu hx hy h;cases x with
  |t l=>exact absurd hdx (by show ¬(TK.depths l+1<=0);omega)
  |k a =>
   cases y with
   |t l=>exact absurd hdy (by show ¬(TK.depths l+1<=0);omega)
   |k b=>exact leaves hx hy h
 |succ d ih =>
  intro A E s x y u v Q hdx hdy hu hx hy h;cases x with
  |k a =>
   cases y with
   |k b=>exact leaves hx hy h
   |t l =>
    rw[zzr0 (by intro z;cases z)]at h;exact mixed1 (by omega) hx hy h
  |t l =>
   cases y with
   |k b =>
    rw[zzr0 (by intro z;cases z)]at h;exact mixed2 (by omega) hx hy h
   |t m =>
    have hl:TK.depths l<=d:=by have:TK.depths l+1<=d+1:=hdx;omega
    have hm:TK.depths m<=d:=by have:TK.depths m+1<=d+1:=hdy;omega
    have hx0:=hx;have hy0:=hy;obtain⟨a,oa,xs,na,rfl,hoa,hca,hda,hia⟩:=hx;obtain⟨b,ob,ys,nb,rfl,hob,hcb,hdb,hib⟩:=hy;have hTa:s.TypeIs (.ref a) "tuple":=⟨oa,hoa,hca⟩;have hTb:s.TypeIs (.ref b) "tuple":=⟨ob,hob,hcb⟩;have hd':decide (TK.t l=TK.t m)=decide (l=m):=by
     by_cases e:l=m
     ·subst e;simp
     ·have:¬(TK.t l=TK.t m):=fun z=>e (by injection z);rw[zzr0 this,zzr0 e]
    unfold eqBool
    try with_reducible refine iX ?_
    show wpAny _ _ (if(Value.ref a==Value.ref b)=true then _ else _) Q E s
    by_cases hab:(Value.ref a==Value.ref b)=true
    ·rw[if_pos hab];have e:a=b:=by have:=eq_of_beq hab;injection this
     subst e;have e2:TK.t l=TK.t m:=lr.inj _ (ay _) hx0 hy0;rw[zzr1 e2]at h;exact ak (mM (aF h))
    ·rw[if_neg hab];rw[hd']at h;exact ak (wpAny_richCompare_same_room (op:=.Eq) hTa hTb F.slot_tuple_eq
      (qD F.slot_tuple_eq hTa F.entry_tuple_eq (A8 d (fun h1 h2 h3 h4 h5 h6=>ih h1 h2 h3 h4 h5 h6) hl hm (by show A.units+1+d<cLine;omega) hoa hda hia hob hcb hdb hib ⟨_,rfl,(fun e=>nomatch e),tW h⟩) (F.args_tuple_eq_2 _ _)) (by omega))
theorem Ct:∀(d:Nat) {A:Around}{E:Zc}{s:Shared}{k:TK}{v:Value}{Q:Bool->Shared->Prop},k.depth<=d->lr s.heap k v->Q true s->wpAny (model prog w) A (eqIsQuiet d v) Q E s:=by
 intro d
 induction d with
 |zero =>
  intro A E s k v Q hd hk h;cases k with
  |t l=>exact absurd hd (by show ¬(TK.depths l+1<=0);omega)
  |k a=>rw[eqIsQuiet_byValue _ ((xO prog w).byValue a v hk)];exact aF h
 |succ d ih =>
  intro A E s k v Q hd hk h;cases k with
  |k a=>rw[eqIsQuiet_byValue _ ((xO prog w).byValue a v hk)];exact aF h
  |t l =>
   have hl:TK.depths l<=d:=by have:TK.depths l+1<=d+1:=hd;omega
   obtain⟨a,o,items,n,rfl,ho,hc,hdt,hi⟩:=hk;have hT:s.TypeIs (.ref a) "tuple":=⟨o,ho,hc⟩;unfold eqIsQuiet;refine ak (AX hT F.slot_tuple_eq.lookup ?_);show wpAny _ _ (isInstance (.ref a) (.type "tuple") >>= _) _ _ s;refine ak (xa hT isSubtype_tuple_tuple ?_);simp only[Aa,j6,if_false];refine ak (iW ho hdt ?_);refine ak ?_;show wpAny _ _ (forIn items _ _) _ _ s;rw[<-Eb];refine wpAny_forIn_list _ (fun rest r s'=>r.1=none/\s'=s/\∃left,TAts s.heap left rest/\TK.depths left<=d) _ ?_ ?_ _ _ ⟨rfl,rfl,l,hi,hl⟩
   ·rintro v rest r s' ⟨hr,rfl,left,hall,hdl⟩;cases left with
    |nil=>have e:v::rest=[]:=hall;cases e
    |cons k' left =>
     obtain⟨v',rest',e,h1,h2⟩:=hall;cases e;have hdl':max k'.depth (TK.depths left)<=d:=hdl;refine ak (ih (k:=k') (by omega) h1 ?_);simp only[Aa,j6,if_false];exact aF ⟨rfl,rfl,left,h2,by omega⟩
   ·rintro⟨r1,r2⟩ s' ⟨hr,rfl,_⟩;simp only at hr;subst hr;exact aF h
def dP(prog:bj)(w:World):HeapKind prog w TK where
 is:=fun h k a=>lr h k (.ref a)/\k.depth<=8
 hash:=TK.hash w
 draws:=TK.draws
 room:=fun A=>A.units+8<cLine
 inj:=fun hx hy=>lr.inj 8 hx.2 hx.1 hy.1
 keeps:=fun{h h' k a d o es ep} x ho hd hs=>⟨lr.mono (fun b ob items n hb _ hdb=>(hs.2 b fun e=>by
  subst e;rw[ho]at hb;cases hb;rw[hd]at hdb;cases hdb).trans hb) 8 x.2 x.1,x.2⟩
 pyHash:=fun hu hk h=>Eh 8 hk.2 hu hk.1 h
 eqBool:=fun hu hx hy h=>GD 8 hx.2 hy.2 hu hx.1 hy.1 h
 quiet:=fun hk h=>Ct 8 hk.2 hk.1 h
end
end L2
namespace L2
open PySem PySem.Spec PyProof.Rows
inductive V where
 |non|bl (b:Bool)|int (i:Int)|str (x:Str)|byt (b:Array UInt8)|flt (b:UInt64)|ref (a:Addr)|ty (n:String)
 deriving DecidableEq
def RelV:V->Value->Prop
 |.non,u=>u=Value.none
 |.bl b,u=>u=Value.bool b
 |.int i,u=>∃t,u=Value.int i t
 |.str x,u=>∃t,u=Value.str x t
 |.byt b,u=>∃t,u=Value.bytes b t
 |.flt b,u=>∃t,u=Value.float b t
 |.ref a,u=>u=Value.ref a
 |.ty n,u=>u=Value.type n
abbrev aQ:List V->List Value->Prop:=Paired RelV
theorem aQ.length{xs:List V}{us:Zf}(r:aQ xs us):xs.length=us.length:=Paired.length r
theorem aQ.get:∀{xs:List V}{us:Zf}{i:Nat}{x:V},aQ xs us->xs[i]?=some x->∃u,us[i]?=some u/\RelV x u
 |_,_,_,_,.nil,e=>by simp at e
 |_,_,0,_,.cons r _,e=>by simp at e;subst e;exact⟨_,rfl,r⟩
 |_,_,i+1,x,.cons _ t,e=>by
  obtain⟨u,h1,h2⟩:=aQ.get (i:=i) (x:=x) t (by simpa using e);exact⟨u,by simpa using h1,h2⟩
theorem aQ.set{x:V}{u:Value}(r:RelV x u):∀{xs:List V}{us:Zf}(i:Nat),aQ xs us->aQ (xs.set i x) (us.set i u)
 |_,_,_,.nil=>.nil
 |_,_,0,.cons _ t=>.cons r t
 |_,_,i+1,.cons q t=>.cons q (aQ.set r i t)
theorem aQ.append:∀{xs ys:List V}{us ws:Zf},aQ xs us->aQ ys ws->aQ (xs++ys) (us++ws)
 |_,_,_,_,.nil,s=>s
 |_,_,_,_,.cons r t,s=>.cons r (aQ.append t s)
theorem aQ.take:∀{xs:List V}{us:Zf}(n:Nat),aQ xs us->aQ (xs.take n) (us.take n)
 |_,_,0,_=>.nil
 |_,_,_+1,.nil=>.nil
 |_,_,n+1,.cons r t=>.cons r (aQ.take n t)
theorem aQ.drop:∀{xs:List V}{us:Zf}(n:Nat),aQ xs us->aQ (xs.drop n) (us.drop n)
 |_,_,0,r=>r
 |_,_,_+1,.nil=>.nil
 |_,_,n+1,.cons _ t=>aQ.drop n t
def jS:Option V->Option Value->Prop
 |some v,some u=>RelV v u
 |none,none=>True
 |_,_=>False
def KV{κ:Type}:List (κ×V)->List (κ×Value)->Prop:=Paired fun(p:κ×V) (q:κ×Value)=>p.1=q.1/\RelV p.2 q.2
def kV:eG->V
 |.inl i=>.int i
 |.inr x=>.str x
def FA:mB->V
 |none=>.non
 |some k=>kV k
inductive HO where
 |lst (xs:List V)
 |tup (xs:List V)
 |dK (kvs:List (eG×V))|dT (kvs:List (TK×V))
 |set (S:Int->Bool) (n:Nat)
 |ins (C dx:Addr) (fs:List (Str×V))
 |own (x:Addr)
 |xd (fs:List (Str×V))
 |met (f x:Addr)
 |rng (lo hi:Int)
 |frz (o:Obj) (u:HO)
 |tbl (ps:Array Value)
 |ext (φ:Heap->Prop)
abbrev Hp:=Addr->Option HO
mutual
def dk(H:Hp):TK->V->Prop
 |.k a,v=>v=FA a
 |.t l,v=>∃b xs,v=.ref b/\H b=some (.tup xs)/\TKAts H l xs
def TKAts(H:Hp):List TK->List V->Prop
 |[],vs=>vs=[]
 |k::r,vs=>∃v us,vs=v::us/\dk H k v/\TKAts H r us
end
def cN(K:Za)(H:Hp)(a:Addr)(xs:List V):Prop :=
 H a=some (.tup xs)∨∃(o:Obj) (its:Array Value) (n:Nat),K.lookup a=some o/\o.cls=.type "tuple"/\o.data=.seq its n/\its.size<=ai/\aQ xs its.toList
theorem cN.keeps{K:Za}{H H':Hp}{a:Addr}{xs:List V}(h:cN K H a xs)(ht:∀b xs,H b=some (.tup xs)->H' b=some (.tup xs)):cN K H' a xs:=h.imp (ht a xs) id
mutual
def pD(K:Za)(H:Hp):TK->V->Prop
 |.k a,v=>v=FA a
 |.t l,v=>∃b xs,v=.ref b/\cN K H b xs/\TKCs K H l xs
def TKCs(K:Za)(H:Hp):List TK->List V->Prop
 |[],vs=>vs=[]
 |k::r,vs=>∃v us,vs=v::us/\pD K H k v/\TKCs K H r us
end
theorem pD.keeps{K:Za}{H H':Hp}(ht:∀b xs,H b=some (.tup xs)->H' b=some (.tup xs)):∀(d:Nat) {k:TK}{v:V},k.depth<=d->pD K H k v->pD K H' k v:=by
 have key:∀(d:Nat) (ih:∀{k:TK}{v:V},k.depth<=d->pD K H k v->pD K H' k v) (xs:List TK) (vs:List V),TK.depths xs<=d->TKCs K H xs vs->TKCs K H' xs vs:=by
  intro d ih xs
  induction xs with
  |nil=>intro vs _ hx;exact hx
  |cons x xs ihl =>
   intro vs hd hx;obtain⟨v,us,rfl,hx1,hx2⟩:=hx;have hd':max x.depth (TK.depths xs)<=d:=hd;exact⟨v,us,rfl,ih (by omega) hx1,ihl us (by omega) hx2⟩
 intro d
 induction d with
 |zero =>
  intro k v hd hx;cases k with
  |t l=>exact absurd hd (by show ¬(TK.depths l+1<=0);omega)
  |k a=>exact hx
 |succ d ih =>
  intro k v hd hx;cases k with
  |k a=>exact hx
  |t l =>
   obtain⟨b,xs,rfl,hb,hi⟩:=hx;exact⟨b,xs,rfl,hb.keeps ht,key d (fun h1=>ih h1) l xs (by have:TK.depths l+1<=d+1:=hd;omega) hi⟩
theorem dk.c{K:Za}{H:Hp}:∀(d:Nat) {k:TK}{v:V},k.depth<=d->dk H k v->pD K H k v:=by
 have key:∀(d:Nat) (ih:∀{k:TK}{v:V},k.depth<=d->dk H k v->pD K H k v) (xs:List TK) (vs:List V),TK.depths xs<=d->TKAts H xs vs->TKCs K H xs vs:=by
  intro d ih xs
  induction xs with
  |nil=>intro vs _ hx;exact hx
  |cons x xs ihl =>
   intro vs hd hx;obtain⟨v,us,rfl,hx1,hx2⟩:=hx;have hd':max x.depth (TK.depths xs)<=d:=hd;exact⟨v,us,rfl,ih (by omega) hx1,ihl us (by omega) hx2⟩
 intro d
 induction d with
 |zero =>
  intro k v hd hx;cases k with
  |t l=>exact absurd hd (by show ¬(TK.depths l+1<=0);omega)
  |k a=>exact hx
 |succ d ih =>
  intro k v hd hx;cases k with
  |k a=>exact hx
  |t l =>
   obtain⟨b,xs,rfl,hb,hi⟩:=hx;exact⟨b,xs,rfl,.inl hb,key d (fun h1=>ih h1) l xs (by have:TK.depths l+1<=d+1:=hd;omega) hi⟩
def upd(H:Hp)(a:Addr)(o:HO):Hp:=fun b=>if b=a then some o else H b
theorem aa{H:Hp}{a:Addr}{o:HO}:upd H a o a=some o:=by unfold upd;rw[if_pos rfl]
theorem ah{H:Hp}{a b:Addr}{o:HO}(h:b≠a):upd H a o b=H b:=by unfold upd;rw[if_neg h]
theorem qh{H:Hp}{a:Addr}{o u:HO}:upd (upd H a o) a u=upd H a u:=by
 funext b;unfold upd;split<;>rfl
theorem Dc{H:Hp}{a b:Addr}{o u:HO}(h:H a=some o)(h':H b=some u)(d:o≠u):a≠b:=by
 intro e;subst e;rw[h]at h';exact d (eD h')
theorem ae{H:Hp}{a b:Addr}{o:HO}(h:H a=some o)(h':H b=none):a≠b:=by
 intro e;subst e;rw[h]at h';cases h'
section
variable(P:bj)(w:World)(K:Za)
def cq(H:Hp)(h:Heap)(a:Addr):HO->Prop
 |.lst xs=>xs.length<=ai/\∃(its:Zf) (n:Nat),aQ xs its/\h.get? a=some { cls:=.type "list",data:=.seq its.toArray n }
 |.tup xs=>xs.length<=ai/\∃its:List Value,aQ xs its/\IsTup h a its.toArray
 |.dK kvs=>kvs.length<=ai/\(a==gE)=false/\∃vs,KV kvs vs/\h.DictOf (bV P w) a vs
 |.dT kvs=>kvs.length<=ai/\(a==gE)=false/\∃xs:List (TK×Addr×Value),
   Paired (fun(p:TK×V) (q:TK×Addr×Value)=>p.1=q.1/\pD K H p.1 (.ref q.2.1)/\p.1.depth<=8/\RelV p.2 q.2.2) kvs xs /\
   ∃o es ep,h.get? a=some o/\o.ExactDict/\o.data=.dict es ep/\es.toList=xs.map (entryOfKey (dP P w))/\(xs.map (·.1)).Nodup
 |.set S n=>h.SetOf (intKind P w) a S n
 |.ins C dx fs=>H dx=some (.own a)/\fs.length<=1000/\dx≠a/\h.get? a=some (pe C dx) /\
   ∃mA,h.Ns1 dx mA/\(∀f,jS (fs.lookup f) (mA f))/\PySem.Within mA (fs.map (·.1))
 |.own _=>∃o,h.get? a=some o
 |.xd fs=>∃mA,h.Ns1 a mA/\∀f,jS (fs.lookup f) (mA f)
 |.rng lo hi=>∃t u v,h.get? a=some { cls:=.type "range",data:=.fields #[.int lo t,.int hi u,.int 1 v] }
 |.frz o u=>h.get? a=some o/\cq H h a u
 |.tbl ps=>h.get? a=some { cls:=.none,data:=.fields ps }
 |.met f x=>h.get? a=some (PySem.W.methodObj (.ref f) (.ref x))
 |.ext φ=>φ h/\(∃o,h.get? a=some o)/\∀h1 h2:Heap,φ h1->(∀o,h1.get? a=some o->h2.get? a=some o)->φ h2
def k_(H:Hp)(h:Heap):Prop:=∀a o,H a=some o->cq P w K H h a o
end
section
variable{P:bj}{w:World}{K:Za}{H H':Hp}{h h':Heap}{a:Addr}{o:HO}
theorem cq.lt(x:cq P w K H h a o):a<h.objs.size:=by
 cases o with
 |lst xs=>obtain⟨_,_,_,_,e⟩:=x;exact az e
 |tup xs=>obtain⟨_,_,_,p⟩:=x;exact p.lt
 |dK kvs=>obtain⟨_,_,_,_,o,_,_,e,_⟩:=x;exact az e
 |dT kvs=>obtain⟨_,_,_,_,o,_,_,e,_⟩:=x;exact az e
 |set S n=>obtain⟨o,_,_,_,e,_⟩:=x;exact az e
 |ins C dx fs=>obtain⟨_,_,_,e,_⟩:=x;exact az e
 |own y=>obtain⟨_,e⟩:=x;exact az e
 |xd fs=>obtain⟨_,⟨_,_,_,e,_⟩,_⟩:=x;exact az e
 |rng lo hi=>obtain⟨_,_,_,e⟩:=x;exact az e
 |frz ob u=>obtain⟨e,_⟩:=x;exact az e
 |tbl ps=>exact az (show h.get? a=some _ from x)
 |met f y=>exact az (show h.get? a=some _ from x)
 |ext φ=>obtain⟨_,⟨_,e⟩,_⟩:=x;exact az e
theorem Paired.mapP{α β:Type}{F G:α->β->Prop}:∀{l₁:List α}{l₂:List β},Paired F l₁ l₂->(∀a b,F a b->G a b)->Paired G l₁ l₂
 |_,_,.nil,_=>.nil
 |_,_,.cons r t,f=>.cons (f _ _ r) (Paired.mapP t f)
theorem cq.stay(x:cq P w K H h a o)(k:∀b u,(b=a∨H b=some (.own a))->h.get? b=some u->h'.get? b=some u)
  (ho:∀b,H b=some (.own a)->H' b=some (.own a)) (ht:∀b xs,H b=some (.tup xs)->H' b=some (.tup xs)):cq P w K H' h' a o:=by
 induction o with
 |lst xs=>obtain⟨z,its,n,r,e⟩:=x;exact⟨z,its,n,r,k _ _ (.inl rfl) e⟩
 |tup xs=>obtain⟨z,its,r,ob,e,c⟩:=x;exact⟨z,its,r,ob,k _ _ (.inl rfl) e,c⟩
 |dK kvs=>obtain⟨z,y,vs,r,ob,es,ep,e,c⟩:=x;exact⟨z,y,vs,r,ob,es,ep,k _ _ (.inl rfl) e,c⟩
 |dT kvs =>
  obtain⟨z,y,xs,r,ob,es,ep,e,c⟩:=x;exact⟨z,y,xs,Paired.mapP r fun p q z=>⟨z.1,pD.keeps ht 8 z.2.2.1 z.2.1,z.2.2⟩,ob,es,ep,k _ _ (.inl rfl) e,c⟩
 |set S n=>obtain⟨ob,es,ep,t,e,c⟩:=x;exact⟨ob,es,ep,t,k _ _ (.inl rfl) e,c⟩
 |ins C dx fs =>
  obtain⟨d,z,ne,e,mA,⟨od,es,ep,e2,c⟩,r⟩:=x;exact⟨ho _ d,z,ne,k _ _ (.inl rfl) e,mA,⟨od,es,ep,k _ _ (.inr d) e2,c⟩,r⟩
 |own y=>obtain⟨ob,e⟩:=x;exact⟨ob,k _ _ (.inl rfl) e⟩
 |xd fs=>obtain⟨mA,⟨od,es,ep,e,c⟩,r⟩:=x;exact⟨mA,⟨od,es,ep,k _ _ (.inl rfl) e,c⟩,r⟩
 |rng lo hi=>obtain⟨t,u,v,e⟩:=x;exact⟨t,u,v,k _ _ (.inl rfl) e⟩
 |frz ob u ih=>obtain⟨e,q⟩:=x;exact⟨k _ _ (.inl rfl) e,ih q⟩
 |tbl ps =>
  have e:h.get? a=some { cls:=.none,data:=.fields ps }:=x;show h'.get? a=some { cls:=.none,data:=.fields ps };exact k a _ (.inl rfl) e
 |met f y =>
  have e:h.get? a=some (PySem.W.methodObj (.ref f) (.ref y)):=x;show h'.get? a=some (PySem.W.methodObj (.ref f) (.ref y));exact k a _ (.inl rfl) e
 |ext φ=>obtain⟨p,⟨o,e⟩,st⟩:=x;exact⟨st _ _ p fun o q=>k _ _ (.inl rfl) q,⟨o,k _ _ (.inl rfl) e⟩,st⟩
theorem k_.lt(x:k_ P w K H h)(e:H a=some o):a<h.objs.size:=(x a o e).lt
theorem k_.fresh(x:k_ P w K H h)(e:h.objs.size<=a):H a=none:=by
 cases q:H a with
 |none=>rfl
 |some u=>exact absurd (cz (x.lt q) e) (iV _)
theorem k_.kept(x:k_ P w K H h)(k:∀b u,h.get? b=some u->h'.get? b=some u):k_ P w K H h':=fun a o e =>
 (x a o e).stay (fun b u _ q=>k b u q) (fun _ q=>q) fun _ _ q=>q
theorem k_.laid(x:k_ P w K H h)(k:∀b u,h.get? b=some u->h'.get? b=some u)(hp:h.objs.size<=a)(new:cq P w K (upd H a o) h' a o):k_ P w K (upd H a o) h':=fun b u e=>by
 have hn:=x.fresh hp;by_cases hb:b=a
 ·subst hb;rw[aa]at e;cases e;exact new
 ·rw[ah hb]at e;exact(x b u e).stay (fun c v _ q=>k c v q) (fun c q=>by rw[ah (ae q hn)];exact q) fun c xs q=>by rw[ah (ae q hn)];exact q
end
def Rd(H:Hp)(a:Addr)(u:HO):Prop:=H a=some u∨∃o,H a=some (.frz o u)
theorem Rd.ok{P:bj}{w:World}{K:Za}{H:Hp}{h:Heap}{a:Addr}{u:HO}(r:Rd H a u)(x:k_ P w K H h):cq P w K H h a u:=by
 rcases r with r|⟨o,r⟩
 ·exact x a u r
 ·obtain⟨_,q⟩:=x a _ r;exact q
def G5:Option HO->Prop
 |some (.lst _)=>True
 |some (.dK _)=>True
 |some (.dT _)=>True
 |some (.set _ _)=>True
 |some (.ins _ _ _)=>True
 |some (.ext _)=>True
 |_=>False
section
variable{P:bj}{w:World}{K:Za}{H:Hp}{h h':Heap}{x e:Addr}{o':HO}
theorem k_.write(ok:k_ P w K H h)(mu:G5 (H x))(he:e=x∨H e=some (.own x))(k:∀b u,b≠e->h.get? b=some u->h'.get? b=some u)(heo:∃u,h'.get? e=some u)
  (new:cq P w K (upd H x o') h' x o'):k_ P w K (upd H x o') h':=fun b u q=>by
 have nown:∀c y,H c=some (.own y)->c≠x:=fun c y r z=>by subst z;rw[r]at mu;exact mu
 have ntup:∀c xs,H c=some (.tup xs)->c≠x:=fun c xs r z=>by subst z;rw[r]at mu;exact mu
 by_cases hb:b=x
 ·subst hb;rw[aa]at q;cases q;exact new
 ·rw[ah hb]at q;by_cases hbe:b=e
  ·have q':H b=some (.own x):=by
    rcases he with z|z
    ·exact absurd (hbe.trans z) hb
    ·rw[hbe];exact z
   rw[q]at q';cases q';obtain⟨v,hv⟩:=heo;exact⟨v,by rw[hbe];exact hv⟩
  ·refine(ok b u q).stay (fun c v hc r=>k c v ?_ r) (fun c r=>by rw[ah (nown c b r)];exact r) fun c xs r=>by rw[ah (ntup c xs r)];exact r
   rcases hc with rfl|hc
   ·exact hbe
   ·rintro rfl;rcases he with z|z
    ·exact nown c b hc z
    ·rw[hc]at z;cases z;exact hb rfl
end
structure Un(fs ex:Ze)(H H':Hp)(h h':Heap):Prop where
 keep:∀b o,h.get? b=some o->H b=none->b∉fs->b∉ex->h'.get? b=some o
 slot:∀b o,h.get? b=some o->H b=none->b∈fs->b∉ex->∃sl,h'.get? b=some { o with slots:=sl }
 free:∀b o,h.get? b=some o->H b=none->b∉ex->H' b=none
 there:∀b o,h.get? b=some o->b∉ex->∃o',h'.get? b=some o'
 tups:∀b xs,H b=some (.tup xs)->H' b=some (.tup xs)
 frzs:∀b o u,H b=some (.frz o u)->H' b=some (.frz o u)
 tbls:∀b ps,H b=some (.tbl ps)->∃more,H' b=some (.tbl (ps++more))
section
variable{fs fs' ex ex':Ze}{H H1 H2:Hp}{h h1 h2 h':Heap}{a x e:Addr}{o:HO}
theorem Un.any(u:Un fs ex H H1 h h1){b:Addr}{ob:Obj}(q:h.get? b=some ob)(n:H b=none)(hx:b∉ex):∃sl,h1.get? b=some { ob with slots:=sl }:=by
 by_cases hb:b∈fs
 ·exact u.slot b ob q n hb hx
 ·exact⟨ob.slots,u.keep b ob q n hb hx⟩
theorem Un.kept(k:∀b u,h.get? b=some u->h'.get? b=some u):Un fs ex H H h h' :=
 ⟨fun b ob q _ _ _=>k b ob q,fun b ob q _ _ _=>⟨ob.slots,k b ob q⟩,fun _ _ _ n _=>n,fun b ob q _=>⟨ob,k b ob q⟩,fun _ _ q=>q,fun _ _ _ q=>q,fun _ ps q=>⟨#[],by rw[q];simp⟩⟩
theorem Un.refl:Un fs ex H H h h:=Un.kept fun _ _ q=>q
theorem Un.laid(k:∀b u,h.get? b=some u->h'.get? b=some u)(hp:h.objs.size<=a)(hn:H a=none):Un fs ex H (upd H a o) h h' where
 keep:=fun b u q _ _ _=>k b u q
 slot:=fun b u q _ _ _=>⟨u.slots,k b u q⟩
 free:=fun b u q n _=>by rw[ah (bE (cz (az q) hp))];exact n
 there:=fun b u q _=>⟨u,k b u q⟩
 tups:=fun b xs q=>by rw[ah (ae q hn)];exact q
 frzs:=fun b u xs q=>by rw[ah (ae q hn)];exact q
 tbls:=fun b ps q=>⟨#[],by rw[ah (ae q hn),q];simp⟩
theorem Un.write(mu:G5 (H x))(he:e=x∨H e=some (.own x))(k:∀b u,b≠e->h.get? b=some u->h'.get? b=some u)(heo:∃u,h'.get? e=some u):Un fs ex H (upd H x o) h h':=by
 have hx:∀b,H b=none->b≠x:=fun b n z=>by subst z;rw[n]at mu;exact mu
 have hb:∀b,H b=none->b≠e:=fun b n z=>by
  subst z;rcases he with r|r
  ·exact hx b n r
  ·rw[n]at r;cases r
 have hm:∀b u,H b=some u->¬G5 (some u)->b≠x:=fun b u q nm z=>by subst z;rw[q]at mu;exact nm mu
 refine⟨fun b u q n _ _=>k b u (hb b n) q,fun b u q n _ _=>⟨u.slots,k b u (hb b n) q⟩,fun b u q n _=>by rw[ah (hx b n)];exact n,fun b u q _=>?_,
  fun b xs q=>by rw[ah (hm b _ q fun z=>z)];exact q,fun b u xs q=>by rw[ah (hm b _ q fun z=>z)];exact q,fun b ps q=>⟨#[],by rw[ah (hm b _ q fun z=>z),q];simp⟩⟩
 by_cases hbe:b=e
 ·subst hbe;exact heo
 ·exact⟨u,k b u hbe q⟩
end
def Hh(h:Heap)(H:Hp):List Addr:=(jZ h.objs.size).filter fun a=>(H a).isSome
def wt(h:Heap)(H:Hp):Heap:=PySem.W.hideAll h (Hh h H)
theorem BL(h:Heap)(H:Hp):(wt h H).objs.size=h.objs.size:=PySem.W.hideAll_size _ _
theorem Dq{h:Heap}{H:Hp}{b:Addr}{o:Obj}(e:h.get? b=some o)(n:H b=none):(wt h H).get? b=some o :=
 PySem.W.hideAll_get _ e fun hm=>by
  have q:(H b).isSome=true:=(eU.mp hm).2;rw[n]at q;simp at q
theorem ET{h:Heap}{H:Hp}{b:Addr}{o:Obj}(e:(wt h H).get? b=some o):h.get? b=some o/\H b=none:=by
 have e':h.get? b=some o:=PySem.W.of_hideAll (Hh h H) e;refine⟨e',?_⟩;cases q:H b with
 |none=>rfl
 |some x =>
  have hm:b∈Hh h H:=eU.mpr ⟨List.mem_range.mpr (az e'),by simp[q]⟩;have z:(wt h H).get? b=none:=PySem.W.hideAll_none (Hh h H) hm;rw[z]at e;cases e
end L2
namespace L2
open PySem PySem.Spec PyProof.Rows
structure Mod(K:Za)(mg:Str->Option Value)(base:Heap):Prop where
 kin:K.In base
 glob:base.Ns bA mg
 blt:∃mb,base.Ns builtinsNs mb/\∀x:Str,x≠"__name__"->mb x=lD x
 nolimit:base.NoLimit
structure Cx where
 prog:bj
 w:World
 K:Za
 mg:Str->Option Value
 base:Heap
 A:Around
 N:List Str
 s₀:Shared
 H₀:Hp
 env:Env
 outer:List Env
 stack:List Env
 ex:List Addr
 fn:Str->Bool
 calm:Bool
 pn:List (Addr×Obj)
 xe:Value->Shared->Prop
def Cc(l:List Env):List Addr:=l.filterMap (·.frame)
abbrev Cx.fs(X:Cx):List Addr:=Cc X.outer
def Hk(sc:Scope)(x:Str):Prop:=sc.names.lookup x=some .local∨sc.names.lookup x=some .cell∨sc.names.lookup x=some .free
def Loc(sc:Scope)(x:Str):Prop:=sc.names.lookup x=some .local∨sc.names.lookup x=some .cell
def Look(env:Env)(h:Heap)(m:Str->Option Value)(x:Str)(u:Value):Prop :=
 (env.kindOf x=some .local/\m x=some u)∨((env.kindOf x=some .cell∨env.kindOf x=some .free)/\∃c,env.cells.lookup x=some c/\h.IsCell c (some u))
structure Cx.Ok(X:Cx):Prop where
 mod:Mod X.K X.mg X.base
 kind:X.env.scope.kind=.function
 glob:X.env.globals=bA
 blt:X.env.builtins=builtinsNs
 above:X.s₀.heap.objs.size<=X.env.locals
 inj:∀x y c,X.env.cells.lookup x=some c->X.env.cells.lookup y=some c->x=y
 has:∀x,(X.env.kindOf x=some .cell∨X.env.kindOf x=some .free)->∃c,X.env.cells.lookup x=some c
 cab:∀x c,X.fn x=true->X.env.cells.lookup x=some c->X.s₀.heap.objs.size<=c
 hd:X.calm=true->X.A.handled=none
 frames:X.A.frames=some X.stack
 stk:X.stack=X.outer∨(X.stack=X.env::X.outer/\X.env.frame=some X.env.locals)
 exf:∀b∈X.ex,b≠X.env.locals/\∀x c,X.env.cells.lookup x=some c->c≠b
 bs:∀b o,X.base.get? b=some o->X.s₀.heap.get? b=some o/\X.H₀ b=none
 bsz:X.base.objs.size<=X.s₀.heap.objs.size
 noex:∀b o,X.base.get? b=some o->b∉X.ex
 exfs:∀b∈X.ex,b∉X.fs
 funs:X.s₀.heap.FunFrames X.base X.outer
 frf:∀b∈X.fs,X.H₀ b=none
structure Inv(X:Cx)(J3:Zd)(σ:List (Option V))(H:Hp)(s:Shared):Prop where
 ok:X.Ok
 os:s.os=X.s₀.os
 bare:mK s.gens
 base:Un X.fs X.ex X.H₀ H X.s₀.heap s.heap
 loc:∃m,s.heap.Ns X.env.locals m/\∀(i:Nat) (x:Str) (v:V),X.N[i]?=some x->σ[i]?=some (some v)->Hk X.env.scope x->∃u,RelV v u/\Look X.env s.heap m x u
 cell:∀x c,X.env.cells.lookup x=some c->∃v,s.heap.IsCell c v
 free:H X.env.locals=none
 freeC:∀x c,X.env.cells.lookup x=some c->H c=none
 pin:∀p∈X.pn++J3,s.heap.get? p.1=some p.2/\H p.1=none/\p.1≠X.env.locals/\p.1∉X.fs/\∀v,p.2.data≠.cell v
 hok:k_ X.prog X.w X.K H s.heap
 len:σ.length=X.N.length
section
variable{X:Cx}{J3:Zd}{σ:List (Option V)}{H H':Hp}{s:Shared}{h':Heap}
theorem Cx.Ok.nofr(ok:X.Ok){b:Addr}{o:Obj}(e:X.base.get? b=some o):b∉X.fs:=fun hb=>by
 have:=(ok.funs.mem hb).1;rw[e]at this;cases this
theorem Inv.bs(I:Inv X J3 σ H s):∀b o,X.base.get? b=some o->s.heap.get? b=some o/\H b=none:=fun b o e =>
 ⟨I.base.keep b o (I.ok.bs b o e).1 (I.ok.bs b o e).2 (I.ok.nofr e) (I.ok.noex b o e),I.base.free b o (I.ok.bs b o e).1 (I.ok.bs b o e).2 (I.ok.noex b o e)⟩
theorem Inv.bk(I:Inv X J3 σ H s):∀b o,X.base.get? b=some o->s.heap.get? b=some o:=fun b o e=>(I.bs b o e).1
theorem Inv.mod(I:Inv X J3 σ H s):Mod X.K X.mg X.base:=I.ok.mod
theorem Inv.kIn(I:Inv X J3 σ H s):X.K.In s.heap:=I.ok.mod.kin.keeps I.bk
theorem Inv.fr(I:Inv X J3 σ H s):∃m,Fr X.base X.env.locals s.heap m :=
 let⟨m,hn,_⟩:=I.loc
 ⟨m,hn,I.bk,aE I.ok.bsz I.ok.above⟩
theorem Inv.lt(I:Inv X J3 σ H s):X.env.locals<s.heap.objs.size:=let⟨_,hn,_⟩:=I.loc;hn.lt
theorem Inv.sz(I:Inv X J3 σ H s):X.s₀.heap.objs.size<=s.heap.objs.size:=aE I.ok.above (cL I.lt)
theorem Inv.nofs(I:Inv X J3 σ H s){a:Addr}(h:s.heap.objs.size<=a):a∉X.fs:=fun hb=>by
 obtain⟨_,o,ho,_⟩:=I.ok.funs.mem hb;exact absurd (cz (az ho) (aE I.sz h)) (iV _)
theorem Inv.cne(I:Inv X J3 σ H s):∀x c,X.env.cells.lookup x=some c->c≠X.env.locals:=fun x c e z=>by
 obtain⟨v,o,ho,hd⟩:=I.cell x c e;obtain⟨m,⟨o',es,ep,ho',hd',_⟩,_⟩:=I.loc;rw[z,ho']at ho;cases ho;rw[hd']at hd;cases hd
theorem Inv.funs(I:Inv X J3 σ H s):s.heap.FunFrames X.base X.outer:=by
 have all:∀(l:List Env),(∀b∈Cc l,b∈X.fs)->X.s₀.heap.FunFrames X.base l->s.heap.FunFrames X.base l:=by
  intro l
  induction l with
  |nil=>intro _ _;trivial
  |cons env r ih =>
   intro hs hl;obtain⟨hk,⟨L,o,hf,hn,ho,hd⟩,hr⟩:=hl;have hL:L∈X.fs:=hs L (by unfold Cc;rw[tV,hf];exact dE);obtain⟨sl,e⟩:=I.base.slot L o ho (I.ok.frf L hL) hL fun z=>I.ok.exfs L z hL;exact⟨hk,⟨L,_,hf,hn,e,hd⟩,ih (fun b hb=>hs b (by unfold Cc;rw[tV,hf];exact dD _ hb)) hr⟩
 exact all X.outer (fun _ hb=>hb) I.ok.funs
theorem Inv.stack(I:Inv X J3 σ H s):s.heap.FunFrames X.base X.stack:=by
 rcases I.ok.stk with e|⟨e,hf⟩
 ·rw[e];exact I.funs
 ·rw[e];obtain⟨m,hn,_⟩:=I.loc;refine .cons (by rw[I.ok.kind];decide) hf hn ?_ I.funs;exact Heap.get?_none_of_le (aE I.ok.bsz I.ok.above)
theorem Inv.stkSub(I:Inv X J3 σ H s):∀b∈Cc X.stack,b∈X.env.locals::X.fs:=fun b hb=>by
 rcases I.ok.stk with e|⟨e,hf⟩
 ·rw[e]at hb;exact dD _ hb
 ·rw[e]at hb;unfold Cc at hb;rw[tV,hf]at hb;exact hb
theorem Inv.stkFree(I:Inv X J3 σ H s):∀b∈Cc X.stack,H b=none:=fun b hb=>by
 rcases cc.mp (I.stkSub b hb)with e|hb
 ·rw[e];exact I.free
 ·obtain⟨_,o,ho,_⟩:=I.ok.funs.mem hb;exact I.base.free b o ho (I.ok.frf b hb) fun z=>I.ok.exfs b z hb
theorem Inv.step{g':Array GenState}{t':Nat}{d':Drawn}{ch:Ze}(I:Inv X J3 σ H s)
  (hch:∀b∈ch,(b∈X.ex∨X.s₀.heap.objs.size<=b)/\b≠X.env.locals/\(∀x c,X.env.cells.lookup x=some c->c≠b)/\∀p∈X.pn++J3,p.1≠b)
  (keep:∀b o,b≠X.env.locals->b∉X.fs->b∉ch->s.heap.get? b=some o->H b=none->h'.get? b=some o)
  (slot:∀b o,b≠X.env.locals->b∈X.fs->b∉ch->s.heap.get? b=some o->H b=none->∃sl,h'.get? b=some { o with slots:=sl }) (free:∀b o,b∉ch->s.heap.get? b=some o->H b=none->H' b=none)
  (there:∀b o,b∉ch->s.heap.get? b=some o->∃o',h'.get? b=some o')
  (tups:∀b xs,H b=some (.tup xs)->H' b=some (.tup xs)) (frzs:∀b o u,H b=some (.frz o u)->H' b=some (.frz o u)) (tbls:∀b ps,H b=some (.tbl ps)->∃more,H' b=some (.tbl (ps++more)))
  (ns:∀m,s.heap.Ns X.env.locals m->h'.Ns X.env.locals m) (hok:k_ X.prog X.w X.K H' h') (hg:mK g') :
  Inv X J3 σ H' { s with heap:=h',gens:=g',drawn:=d',toks:=t' }:=by
 have neL:∀b o,X.s₀.heap.get? b=some o->b≠X.env.locals:=fun b o e=>bE (cz (az e) I.ok.above);have neC:∀b o,X.s₀.heap.get? b=some o->b∉X.ex->b∉ch:=fun b o e hx hb=>by
  rcases(hch b hb).1 with z|z
  ·exact hx z
  ·exact absurd (cz (az e) z) (iV _)
 have cellK:∀x c,X.env.cells.lookup x=some c->∀v,s.heap.IsCell c v->h'.IsCell c v:=fun x c e v ⟨o,ho,hd⟩=>by
  have nch:c∉ch:=fun z=>(hch c z).2.2.1 x c e rfl;by_cases hc:c∈X.fs
  ·obtain⟨sl,q⟩:=slot c o (I.cne x c e) hc nch ho (I.freeC x c e);exact⟨_,q,hd⟩
  ·exact⟨o,keep c o (I.cne x c e) hc nch ho (I.freeC x c e),hd⟩
 refine⟨I.ok,I.os,hg,⟨fun b o e n hb hx=>?_,fun b o e n hb hx=>?_,fun b o e n hx=>?_,fun b o e hx=>?_,fun b xs e=>tups b xs (I.base.tups b xs e),fun b o xs e=>frzs b o xs (I.base.frzs b o xs e),fun b ps e=>?_⟩,?_,fun x c e=>?_,?_,fun x c e=>?_,fun p hp=>?_,hok,I.len⟩
 ·exact keep b o (neL b o e) hb (neC b o e hx) (I.base.keep b o e n hb hx) (I.base.free b o e n hx)
 ·obtain⟨sl,e1⟩:=I.base.slot b o e n hb hx;obtain⟨sl',e2⟩:=slot b _ (neL b o e) hb (neC b o e hx) e1 (I.base.free b o e n hx);exact⟨sl',e2⟩
 ·obtain⟨o',e1⟩:=I.base.there b o e hx;exact free b o' (neC b o e hx) e1 (I.base.free b o e n hx)
 ·obtain⟨o',e1⟩:=I.base.there b o e hx;exact there b o' (neC b o e hx) e1
 ·obtain⟨m1,e1⟩:=I.base.tbls b ps e;obtain⟨m2,e2⟩:=tbls b _ e1;exact⟨m1++m2,by rw[e2,Array.append_assoc]⟩
 ·obtain⟨m,hn,hl⟩:=I.loc;refine⟨m,ns m hn,fun i x v e1 e2 e3=>?_⟩;obtain⟨u,r,l⟩:=hl i x v e1 e2 e3;refine⟨u,r,?_⟩;rcases l with l|⟨k,c,e,z⟩
  ·exact .inl l
  ·exact .inr ⟨k,c,e,cellK x c e _ z⟩
 ·obtain⟨v,z⟩:=I.cell x c e;exact⟨v,cellK x c e v z⟩
 ·obtain⟨m,⟨o,_,_,ho,_⟩,_⟩:=I.loc;exact free _ o (fun z=>(hch _ z).2.1 rfl) ho I.free
 ·obtain⟨v,o,ho,hd⟩:=I.cell x c e;exact free c o (fun z=>(hch c z).2.2.1 x c e rfl) ho (I.freeC x c e)
 ·obtain⟨e,n,ne,nf,d⟩:=I.pin p hp;have nch:p.1∉ch:=fun z=>(hch p.1 z).2.2.2 p hp rfl;exact⟨keep p.1 p.2 ne nf nch e n,free p.1 p.2 nch e n,ne,nf,d⟩
theorem Inv.un{t':Nat}(I:Inv X J3 σ H s)(u:Un X.fs [] H H' s.heap h')(hok:k_ X.prog X.w X.K H' h'):Inv X J3 σ H' { s with heap:=h',toks:=t' }:=by
 obtain⟨m,⟨o,es,ep,ho,r⟩,_⟩:=id I.loc;obtain⟨sl,hL⟩:=u.any ho I.free (by simp);exact I.step (g':=s.gens) (d':=s.drawn) (ch:=[]) (fun _ z=>nomatch z) (fun b o _ hb _ e n=>u.keep b o e n hb (by simp)) (fun b o _ hb _ e n=>u.slot b o e n hb (by simp)) (fun b o _ e n=>u.free b o e n (by simp)) (fun b o _ e=>u.there b o e (by simp)) u.tups u.frzs u.tbls (fun m' hm=>by
  obtain⟨o',es',ep',ho',r'⟩:=hm;rw[ho]at ho';cases ho';exact⟨_,es',ep',hL,r'⟩) hok I.bare
theorem Inv.call{g':Array GenState}{t':Nat}{d':Drawn}{ch:Ze}(I:Inv X J3 σ H s)(u:Un (Cc X.stack) ch H H' s.heap h')(hok:k_ X.prog X.w X.K H' h')(hg:mK g')
  (hch:∀b∈ch,(b∈X.ex∨X.s₀.heap.objs.size<=b)/\b≠X.env.locals/\(∀x c,X.env.cells.lookup x=some c->c≠b)/\∀p∈X.pn++J3,p.1≠b) :
  Inv X J3 σ H' { s with heap:=h',gens:=g',drawn:=d',toks:=t' }:=by
 obtain⟨m,⟨o,es,ep,ho,r⟩,_⟩:=id I.loc;obtain⟨sl,hL⟩:=u.any ho I.free fun z=>(hch _ z).2.1 rfl;exact I.step (ch:=ch) hch (fun b o hL hb hc e n=>u.keep b o e n (fun z=>(cc.mp (I.stkSub b z)).elim hL hb) hc) (fun b o _ _ hc e n=>u.any e n hc) (fun b o hc e n=>u.free b o e n hc) (fun b o hc e=>u.there b o e hc) u.tups u.frzs u.tbls (fun m' hm=>by
  obtain⟨o',es',ep',ho',r'⟩:=hm;rw[ho]at ho';cases ho';exact⟨_,es',ep',hL,r'⟩) hok hg
theorem Inv.turned{t':Nat}{it:Addr}(I:Inv X J3 σ H s)(k:∀b o,b≠it->s.heap.get? b=some o->h'.get? b=some o)(hn:H it=none)(hL:it≠X.env.locals)
  (h1:it∈X.ex∨X.s₀.heap.objs.size<=it) (h2:∀x c,X.env.cells.lookup x=some c->c≠it) (h3:∀p∈X.pn++J3,p.1≠it):Inv X J3 σ H { s with heap:=h',toks:=t' }:=by
 have nit:∀b u,H b=some u->b≠it:=fun b u e z=>by rw[z,hn]at e;cases e
 refine I.step (g':=s.gens) (d':=s.drawn) (ch:=[it]) (fun b hb=>?_) (fun b o _ _ hc e _=>k b o (fun z=>hc (by simp[z])) e) (fun b o _ _ hc e _=>⟨o.slots,k b o (fun z=>hc (by simp[z])) e⟩) (fun _ _ _ _ n=>n)
  (fun b o hc e=>⟨o,k b o (fun z=>hc (by simp[z])) e⟩) (fun _ _ e=>e) (fun _ _ _ e=>e) (fun b ps e=>⟨#[],by rw[e];simp⟩) (fun m hm=>?_) (fun b u e=>?_) I.bare
 ·have e:b=it:=by simpa using hb
  subst e;exact⟨h1,hL,h2,h3⟩
 ·obtain⟨o,es,ep,ho,r⟩:=hm;exact⟨o,es,ep,k _ o (eT hL) ho,r⟩
 ·refine(I.hok b u e).stay (fun c v hc q=>k c v ?_ q) (fun _ q=>q) fun _ _ q=>q;rcases hc with z|z
  ·rw[z];exact nit b u e
  ·exact nit c _ z
theorem Inv.tok(I:Inv X J3 σ H s)(t:Nat):Inv X J3 σ H { s with toks:=t }:=I.un (h':=s.heap) (t':=t) Un.refl I.hok
theorem Inv.kept{t':Nat}(I:Inv X J3 σ H s)(k:∀b u,s.heap.get? b=some u->h'.get? b=some u):Inv X J3 σ H { s with heap:=h',toks:=t' }:=I.un (Un.kept k) (I.hok.kept k)
theorem Inv.laid{a:Addr}{o:HO}{t':Nat}(I:Inv X J3 σ H s)(k:∀b u,s.heap.get? b=some u->h'.get? b=some u)(hp:s.heap.objs.size<=a)(new:cq X.prog X.w X.K (upd H a o) h' a o):
  Inv X J3 σ (upd H a o) { s with heap:=h',toks:=t' }:=I.un (Un.laid k hp (I.hok.fresh hp)) (I.hok.laid k hp new)
theorem Inv.write{x e:Addr}{o:HO}{t':Nat}(I:Inv X J3 σ H s)(mu:G5 (H x))(he:e=x∨H e=some (.own x))(k:∀b u,b≠e->s.heap.get? b=some u->h'.get? b=some u)(heo:∃u,h'.get? e=some u)
  (new:cq X.prog X.w X.K (upd H x o) h' x o):Inv X J3 σ (upd H x o) { s with heap:=h',toks:=t' }:=I.un (Un.write mu he k heo) (I.hok.write mu he k heo new)
theorem Inv.weak{σ':List (Option V)}(I:Inv X J3 σ H s)(hl:σ'.length=σ.length)(w:∀(i:Nat) v,σ'[i]?=some (some v)->σ[i]?=some (some v)):Inv X J3 σ' H s :=
 ⟨I.ok,I.os,I.bare,I.base,let⟨m,hn,hl'⟩:=I.loc;⟨m,hn,fun i x v e1 e2 e3=>hl' i x v e1 (w i v e2) e3⟩,I.cell,I.free,I.freeC,I.pin,I.hok,hl.trans I.len⟩
theorem Inv.pins_of{pins':Zd}(I:Inv X J3 σ H s)(h:∀p∈pins',s.heap.get? p.1=some p.2/\H p.1=none/\p.1≠X.env.locals/\p.1∉X.fs/\∀v,p.2.data≠.cell v):Inv X pins' σ H s :=
 ⟨I.ok,I.os,I.bare,I.base,I.loc,I.cell,I.free,I.freeC,fun p hp=>(bw.mp hp).elim (fun z=>I.pin p (de _ z)) (h p),I.hok,I.len⟩
theorem xM{N:Zb}(hN:N.Nodup){i j:Nat}{x:Str}(a:N[i]?=some x)(b:N[j]?=some x):i=j:=by
 obtain⟨h1,e1⟩:=bQ.mp a;obtain⟨h2,e2⟩:=bQ.mp b;exact(List.getElem_inj hN).mp (e1.trans e2.symm)
theorem ue{M:Model}{A:Around}{E:Zc}{i:Nat}{x:Str}{v:V}{u:Value}{Q:Unit->Shared->Prop}(I:Inv X J3 σ H s)(hN:X.N.Nodup)(hi:X.N[i]?=some x)(hx:Loc X.env.scope x)(r:RelV v u)
  (h:∀s',Inv X J3 (σ.set i (some v)) H s'->(∃a,gD a s.heap s'.heap/\(a=X.env.locals∨X.env.cells.lookup x=some a))->Q () s') (hf:X.fn x=true∨X.env.scope.names.lookup x=some .local:=by first|exact .inl rfl|exact .inr rfl|assumption):wpAny M A (storeName X.env x u) Q E s:=by
 obtain⟨m,hn,hl⟩:=id I.loc;have hcls:(X.env.scope.kind==.class || (X.env.scope.kind==.module && X.env.locals != X.env.globals))=false:=by rw[I.ok.kind];rfl
 have hiσ:i<σ.length:=by rw[I.len];exact(bQ.mp hi).1
 have cne:=I.cne;have tracked:∀{a:Addr}{h':Heap},(∃o,s.heap.get? a=some o/\H a=none)->gD a s.heap h'->k_ X.prog X.w X.K H h':=fun{a h'} ha hs b ob e=>by
  obtain⟨_,_,hfree⟩:=ha;refine(I.hok b ob e).stay (fun c w' hc q=>(hs.2 c ?_).trans q) (fun _ q=>q) fun _ _ q=>q;rintro rfl;rcases hc with rfl|hc
  ·rw[hfree]at e;cases e
  ·rw[hfree]at hc;cases hc
 rcases hx with hk|hk
 ·refine wpAny_storeName_local hk hn (fun h' hn' hs=>?_) hcls;obtain⟨oL,_,_,hoL,_⟩:=id hn;refine h _ ⟨I.ok,I.os,I.bare,⟨fun b o e n hb hx=>?_,fun b o e n hb hx=>?_,I.base.free,fun b o e hx=>?_,I.base.tups,I.base.frzs,I.base.tbls⟩,⟨_,hn',fun j y v' e1 e2 e3=>?_⟩,fun y c e=>?_,I.free,I.freeC,fun p hp=>?_,tracked ⟨oL,hoL,I.free⟩ hs,by simpa using I.len⟩ ⟨_,hs,.inl rfl⟩
  ·exact(hs.2 b (bE (cz (az e) I.ok.above))).trans (I.base.keep b o e n hb hx)
  ·obtain⟨sl,e1⟩:=I.base.slot b o e n hb hx;exact⟨sl,(hs.2 b (bE (cz (az e) I.ok.above))).trans e1⟩
  ·obtain⟨o',e1⟩:=I.base.there b o e hx;exact⟨o',(hs.2 b (bE (cz (az e) I.ok.above))).trans e1⟩
  ·by_cases hj:j=i
   ·subst hj;rw[hi]at e1;cases e1;rw[List.getElem?_set_self hiσ]at e2;cases e2;exact⟨u,r,.inl ⟨hk,by simp⟩⟩
   ·rw[List.getElem?_set_ne (eT hj)]at e2;obtain⟨u',r',q⟩:=hl j y v' e1 e2 e3;refine⟨u',r',?_⟩;rcases q with⟨k,e⟩|⟨k,c,e,z⟩
    ·refine .inl ⟨k,?_⟩;have:y≠x:=fun e=>hj (xM hN e1 (e▸hi));simp[this,e]
    ·exact .inr ⟨k,c,e,z.sameBut hs (cne y c e)⟩
  ·obtain⟨w',z⟩:=I.cell y c e;exact⟨w',z.sameBut hs (cne y c e)⟩
  ·obtain⟨e,n,ne,nf,d⟩:=I.pin p hp;exact⟨(hs.2 p.1 ne).trans e,n,ne,nf,d⟩
 ·have hfn:X.fn x=true:=by
   rcases hf with z|z
   ·exact z
   ·rw[z]at hk;cases hk
  obtain⟨c,hc⟩:=I.ok.has x (.inl hk);obtain⟨w',z⟩:=I.cell x c hc;refine wpAny_storeName_cell I.ok.kind hk hc z (fun h' hc' hs=>?_);obtain⟨oc,hoc,hocd⟩:=id z;refine h { s with heap:=h' } ⟨I.ok,I.os,I.bare,⟨fun b o e n hb hx=>?_,fun b o e n hb hx=>?_,I.base.free,fun b o e hx=>?_,I.base.tups,I.base.frzs,I.base.tbls⟩,⟨m,hn.sameBut hs (eT (cne x c hc)),fun j y v' e1 e2 e3=>?_⟩,fun y c' e=>?_,I.free,I.freeC,fun p hp=>?_,tracked ⟨oc,hoc,I.freeC x c hc⟩ hs,by simpa using I.len⟩ ⟨c,hs,.inr hc⟩
  ·exact(hs.2 b (bE (cz (az e) (I.ok.cab x c hfn hc)))).trans (I.base.keep b o e n hb hx)
  ·obtain⟨sl,e1⟩:=I.base.slot b o e n hb hx;exact⟨sl,(hs.2 b (bE (cz (az e) (I.ok.cab x c hfn hc)))).trans e1⟩
  ·obtain⟨o',e1⟩:=I.base.there b o e hx;exact⟨o',(hs.2 b (bE (cz (az e) (I.ok.cab x c hfn hc)))).trans e1⟩
  ·by_cases hj:j=i
   ·subst hj;rw[hi]at e1;cases e1;rw[List.getElem?_set_self hiσ]at e2;cases e2;exact⟨u,r,.inr ⟨.inl hk,c,hc,hc'⟩⟩
   ·rw[List.getElem?_set_ne (eT hj)]at e2;obtain⟨u',r',q⟩:=hl j y v' e1 e2 e3;refine⟨u',r',?_⟩;rcases q with q|⟨k,c',e,z'⟩
    ·exact .inl q
    ·refine .inr ⟨k,c',e,z'.sameBut hs ?_⟩;rintro rfl;exact hj (xM hN e1 (I.ok.inj _ _ _ e hc▸hi))
  ·by_cases hcc:c'=c
   ·subst hcc;exact⟨_,hc'⟩
   ·obtain⟨w2,z2⟩:=I.cell y c' e;exact⟨w2,z2.sameBut hs hcc⟩
  ·obtain⟨e,n,ne,nf,d⟩:=I.pin p hp;refine⟨(hs.2 p.1 ?_).trans e,n,ne,nf,d⟩;intro q;rw[q,hoc]at e;have q':oc=p.2:=eD e;exact d w' (by rw[<-q'];exact hocd)
theorem rD{M:Model}{A:Around}{E:Zc}{i:Nat}{x:Str}{v:V}{u:Value}{Q:Unit->Shared->Prop}(I:Inv X J3 σ H s)(hN:X.N.Nodup)(hi:X.N[i]?=some x)(hx:Loc X.env.scope x)(r:RelV v u)
  (h:∀s',Inv X J3 (σ.set i (some v)) H s'->Q () s') (hf:X.fn x=true∨X.env.scope.names.lookup x=some .local:=by first|exact .inl rfl|exact .inr rfl|assumption):wpAny M A (storeName X.env x u) Q E s :=
 ue I hN hi hx r (fun s' I' _=>h s' I') hf
theorem Inv.call'{s':Shared}{ch:Ze}(I:Inv X J3 σ H s)(ho:s'.os=s.os)(u:Un (Cc X.stack) ch H H' s.heap s'.heap)(hok:k_ X.prog X.w X.K H' s'.heap)(hg:mK s'.gens)
  (hch:∀b∈ch,(b∈X.ex∨X.s₀.heap.objs.size<=b)/\b≠X.env.locals/\(∀x c,X.env.cells.lookup x=some c->c≠b)/\∀p∈X.pn++J3,p.1≠b):Inv X J3 σ H' s':=by
 obtain⟨h',g',d',t',o'⟩:=s';have e:o'=s.os:=ho;subst e;exact I.call (g':=g') (t':=t') (d':=d') u hok hg hch
end
abbrev XK:=Value->Option Addr->Hp->Prop
abbrev St:=List (Option V)
abbrev VK:=V->Hp->Prop
abbrev TE:=St->Hp->VK->Prop
abbrev TT:=St->Hp->(Bool->Hp->Prop)->Prop
abbrev TA:=St->Hp->(List V->Hp->Prop)->Prop
structure qg where
 nx:St->Hp->Prop
 rt:VK
 bk:St->Hp->Prop:=fun _ _=>False
 ct:St->Hp->Prop:=fun _ _=>False
abbrev bh(Q:VK):qg:={ nx:=fun _ H=>Q .non H,rt:=Q }
abbrev TS:=qg->St->Hp->Prop
def EP(X:Cx)(J3:Zd)(σ:St)(Q:VK)(u:Value)(s':Shared):Prop:=∃v H',Inv X J3 σ H' s'/\RelV v u/\Q v H'
def TP(X:Cx)(J3:Zd)(σ:St)(Q:Bool->Hp->Prop)(b:Bool)(s':Shared):Prop:=∃H',Inv X J3 σ H' s'/\Q b H'
def AP(X:Cx)(J3:Zd)(σ:St)(Q:List V->Hp->Prop)(us:Zf)(s':Shared):Prop:=∃vs H',Inv X J3 σ H' s'/\aQ vs us/\Q vs H'
def SP(X:Cx)(J3:Zd)(D:qg)(f:Flow)(s':Shared):Prop :=
 match f with
 |.next=>∃σ' H',Inv X J3 σ' H' s'/\D.nx σ' H'
 |.brk=>∃σ' H',Inv X J3 σ' H' s'/\D.bk σ' H'
 |.cont=>∃σ' H',Inv X J3 σ' H' s'/\D.ct σ' H'
 |.ret u=>∃v σ' H',Inv X J3 σ' H' s'/\RelV v u/\D.rt v H'
def PE(X:Cx)(e:Expr)(t:TE):Prop :=
 ∀(J3:Zd) (s:Shared) (σ:St) (H:Hp) (Q:VK),Inv X J3 σ H s->t σ H Q->wpAny (model X.prog X.w) X.A (eval e X.env) (EP X J3 σ Q) X.xe s
def PT(X:Cx)(e:Expr)(t:TT):Prop :=
 ∀(J3:Zd) (s:Shared) (σ:St) (H:Hp) (Q:Bool->Hp->Prop),Inv X J3 σ H s->t σ H Q->wpAny (model X.prog X.w) X.A (isTrue e X.env (eval e X.env)) (TP X J3 σ Q) X.xe s
def PW(X:Cx)(e:Expr)(t:TT):Prop :=
 ∀(whole:Sem Value) (J3:Zd) (s:Shared) (σ:St) (H:Hp) (Q:Bool->Hp->Prop),Inv X J3 σ H s->t σ H Q->wpAny (model X.prog X.w) X.A (isTrue e X.env whole) (TP X J3 σ Q) X.xe s
theorem PW.pt{X:Cx}{e:Expr}{t:TT}(h:PW X e t):PT X e t:=h _
def PA(X:Cx)(es:List Expr)(t:TA):Prop :=
 ∀(pos:Pos) (J3:Zd) (s:Shared) (σ:St) (H:Hp) (Q:List V->Hp->Prop),Inv X J3 σ H s->t σ H Q->wpAny (model X.prog X.w) X.A (spliced (backTo pos (aA es X.env))) (AP X J3 σ Q) X.xe s
def PS(X:Cx)(st:Stmt)(t:TS):Prop :=
 ∀(J3:Zd) (s:Shared) (σ:St) (H:Hp) (D:qg),Inv X J3 σ H s->t D σ H->wpAny (model X.prog X.w) X.A (exec st X.env) (SP X J3 D) X.xe s
def yB(X:Cx)(st:List Stmt)(t:TS):Prop :=
 ∀(J3:Zd) (s:Shared) (σ:St) (H:Hp) (D:qg),Inv X J3 σ H s->t D σ H->wpAny (model X.prog X.w) X.A (execs st X.env) (SP X J3 D) X.xe s
theorem ca{α:Type}{t:Sem α}{Q Q':α->Shared->Prop}{M:Model}{A:Around}{E:Zc}{s:Shared}(h:wpAny M A t Q E s)(hQ:∀a s,Q a s->Q' a s):wpAny M A t Q' E s:=mL h hQ fun _ _ x=>x
end L2
namespace L2
open PySem PySem.Spec PyProof.Rows
section
variable{X:Cx}
def lZ(i:Nat):TE:=fun σ H Q=>∃v,σ[i]?=some (some v)/\Q v H
abbrev V0:TE:=lZ 0
abbrev V1:TE:=lZ 1
abbrev V2:TE:=lZ 2
abbrev V3:TE:=lZ 3
abbrev V4:TE:=lZ 4
abbrev V5:TE:=lZ 5
abbrev V6:TE:=lZ 6
abbrev V7:TE:=lZ 7
abbrev V8:TE:=lZ 8
abbrev V9:TE:=lZ 9
abbrev G1:TE:=lZ 10
abbrev V11:TE:=lZ 11
abbrev V12:TE:=lZ 12
def tC(v:V):TE:=fun _ H Q=>Q v H
theorem FY{i:Nat}{x:Str}{pos:Pos}(hN:X.N[i]?=some x)(hv:Hk X.env.scope x)(hd:(x==("__debug__":Str))=false:=by decide)(hcd:(x==("__classdict__":Str))=false:=by decide):PE X (.Name x pos) (lZ i):=by
 intro J3 s σ H Q I h;obtain⟨v,e,h⟩:=h;obtain⟨m,hn,hl⟩:=I.loc;obtain⟨u,r,l⟩:=hl i x v hN e hv;have fin:EP X J3 σ Q u s:=⟨v,H,I,r,h⟩;rcases l with⟨hk,hm⟩|⟨hk,c,hc,hcell⟩
 ·exact wpAny_Name (wpAny_loadName_local I.ok.kind hk hn hm fin) hd
 ·rcases hk with hk|hk
  ·exact wpAny_Name (wpAny_loadName_cell I.ok.kind hk hc hcell fin) hd
  ·exact wpAny_Name (wpAny_loadName_free I.ok.kind hk hc hcell fin hcd) hd
theorem af{i j pos}:PE X (.Constant (.int i) j pos) (tC (.int i)):=fun _ _ _ H _ I h=>wpAny_Constant_int ⟨.int i,H,I.tok _,⟨_,rfl⟩,h⟩
theorem nC{b j pos}:PE X (.Constant (.bool b) j pos) (tC (.bl b)):=fun _ _ _ H _ I h=>Constant_bool ⟨.bl b,H,I,rfl,h⟩
theorem oI{j pos}:PE X (.Constant .none j pos) (tC .non):=fun _ _ _ H _ I h=>Constant_none ⟨.non,H,I,rfl,h⟩
theorem bq{x j pos}:PE X (.Constant (.str x) j pos) (tC (.str x)):=fun _ _ _ H _ I h=>Calls.Constant_str ⟨.str x,H,I.tok _,⟨_,rfl⟩,h⟩
def Gl(X:Cx)(x:Str):Prop:=X.env.kindOf x=some .globalImplicit
theorem wj{E:Zc}{J3:Zd}{s:Shared}{σ:St}{H:Hp}{x:Str}{u:Value}{pos:Pos}{Q:Zc}(I:Inv X J3 σ H s)(hg:Gl X x)(hm:X.mg x=some u)(h:Q u s)
  (hd:(x==("__debug__":Str))=false:=by decide):wpAny (model X.prog X.w) X.A (eval (.Name x pos) X.env) Q E s :=
 Calls.Name_function_global I.ok.kind hg (Calls.loadGlobal_global (by rw[I.ok.glob];exact I.mod.glob.keeps I.bk) hm h) hd
theorem iQ{E:Zc}{J3:Zd}{s:Shared}{σ:St}{H:Hp}{x:Str}{u:Value}{pos:Pos}{Q:Zc}(I:Inv X J3 σ H s)(hg:Gl X x)(hm:X.mg x=none)(hv:lD x=some u)(h:Q u s)
  (hn:x≠"__name__":=by decide) (hd:(x==("__debug__":Str))=false:=by decide):wpAny (model X.prog X.w) X.A (eval (.Name x pos) X.env) Q E s:=by
 obtain⟨mb,h1,h2⟩:=I.mod.blt;exact Calls.Name_function_global I.ok.kind hg (Calls.loadGlobal_builtin (by rw[I.ok.glob];exact I.mod.glob.keeps I.bk) hm (by rw[I.ok.blt];exact h1.keeps I.bk) ((h2 x hn).trans hv) h) hd
theorem EN{x:Str}{v:V}{u:Value}{pos:Pos}(hg:Gl X x)(hm:X.mg x=some u)(r:RelV v u)(hd:(x==("__debug__":Str))=false:=by decide):PE X (.Name x pos) (tC v) :=
 fun _ _ _ H _ I h=>wj I hg hm ⟨v,H,I,r,h⟩ hd
variable{a b:Expr}{ta tb:TE}{pos:Pos}
def PC(X:Cx)(op:CmpOp)(a b:Expr)(t:TE):Prop :=
 ∀(J3:Zd) (s:Shared) (σ:St) (H:Hp) (Q:VK),Inv X J3 σ H s->t σ H Q ->
  wpAny (model X.prog X.w) X.A (eval a X.env) (fun v s₁=>wpAny (model X.prog X.w) X.A (eval b X.env) (fun u s₂=>wpAny (model X.prog X.w) X.A (eh op v u) (EP X J3 σ Q) X.xe s₂) X.xe s₁) X.xe s
theorem xN(b:Expr){op:CmpOp}(h:op≠.In)(h2:op≠.NotIn):jN op b=false:=by
 have e1:(op==CmpOp.In)=false:=by cases op<;>first|rfl|exact absurd rfl h
 have e2:(op==CmpOp.NotIn)=false:=by cases op<;>first|rfl|exact absurd rfl h2
 cases b<;>simp[jN,e1,e2]
def Cy(ta:TE):TE:=fun σ H Q=>ta σ H fun x H1=>Q (.bl (decide (x=.non))) H1
def Fp(ta:TE):TE:=fun σ H Q=>ta σ H fun x H1=>Q (.bl (!decide (x=.non))) H1
theorem RelV.none_iff{x:V}{v:Value}(r:RelV x v):(v==Value.none)=decide (x=.non):=by
 cases x with
 |non=>cases r;rfl
 |bl _=>cases r;rfl
 |int _=>obtain⟨t,rfl⟩:=r;rfl
 |str _=>obtain⟨t,rfl⟩:=r;rfl
 |byt _=>obtain⟨t,rfl⟩:=r;rfl
 |flt _=>obtain⟨t,rfl⟩:=r;rfl
 |ref _=>cases r;rfl
 |ty _=>cases r;rfl
theorem wb{j pos'}(ha:PE X a ta):PC X .Is a (.Constant .none j pos') (Cy ta):=by
 intro J3 s σ H Q I h;refine ca (ha J3 s σ H _ I h) fun v s1 ⟨x,H1,I1,r1,q1⟩=>?_;exact Constant_none (is_none_gen ⟨.bl _,H1,I1,by rw[r1.none_iff];rfl,q1⟩)
theorem ER{j pos'}(ha:PE X a ta):PC X .IsNot a (.Constant .none j pos') (Fp ta):=by
 intro J3 s σ H Q I h;refine ca (ha J3 s σ H _ I h) fun v s1 ⟨x,H1,I1,r1,q1⟩=>?_;exact Constant_none (isnot_none_gen ⟨.bl _,H1,I1,by rw[r1.none_iff];rfl,q1⟩)
def tB(t:TE):TT:=fun σ H Q=>t σ H fun x H1=>∃c,x=.bl c/\Q c H1
theorem F1{op:CmpOp}{t:TE}(h:PC X op a b t)(h1:jN op b=false:=by first|exact xN _ (by decide) (by decide)|rfl):PE X (.Compare a [op] [b] pos) t:=fun J3 s σ H Q I hw=>wpAny_Compare1 (h J3 s σ H Q I hw) h1
theorem dU{op:CmpOp}{t:TE}(h:PC X op a b t)(h1:jN op b=false:=by first|exact xN _ (by decide) (by decide)|rfl):PT X (.Compare a [op] [b] pos) (tB t):=by
 intro J3 s σ H Q I hw;refine wpAny_isTrue_Compare1 (ca (h J3 s σ H _ I hw) fun v s1 h1=>ca h1 fun u s2 h2=>ca h2 fun c s3 ⟨x,H1,I1,r1,q1⟩=>?_) h1;obtain⟨d,rfl,q⟩:=q1;cases r1;exact tW ⟨H1,I1,q⟩
theorem zc{e:Expr}{t:TE}(h:PE X e t)(he:∀whole,isTrue e X.env whole=(do let v <- whole;pd e.pos;jY [v] (truthy v)):=by intro _;rfl):PT X e (tB t):=by
 intro J3 s σ H Q I hw;refine isTrue_plain (ca (h J3 s σ H _ I hw) fun v s1 ⟨x,H1,I1,r1,q1⟩=>?_) (he _);obtain⟨d,rfl,q⟩:=q1;cases r1;exact tW ⟨H1,I1,q⟩
variable{tA tB':TT}{rest:List Expr}
def CA(t u:TT):TT:=fun σ H Q=>t σ H fun c H1=>if c=true then u σ H1 Q else Q false H1
def DZ(t u:TT):TT:=fun σ H Q=>t σ H fun c H1=>if c=true then Q true H1 else u σ H1 Q
def GF(t:TT):TT:=fun σ H Q=>t σ H fun c H1=>Q (!c) H1
theorem v9(ha:PT X a tA):PW X (.BoolOp .And [a] pos) tA:=by
 intro wh J3 s σ H Q I h;refine isTrue_and (ca (ha J3 s σ H Q I h) fun c s1 e=>?_);cases c with
 |true=>exact isTrue_and_nil e
 |false=>exact e
theorem me(ha:PT X a tA):PW X (.BoolOp .Or [a] pos) tA:=by
 intro wh J3 s σ H Q I h;refine isTrue_or (ca (ha J3 s σ H Q I h) fun c s1 e=>?_);cases c with
 |false=>exact isTrue_or_nil e
 |true=>exact e
theorem v_(ha:PT X a tA)(hb:PW X (.BoolOp .And (b::rest) pos) tB'):PW X (.BoolOp .And (a::b::rest) pos) (CA tA tB'):=by
 intro wh J3 s σ H Q I h;refine isTrue_and (ca (ha J3 s σ H _ I h) fun c s1 ⟨H1,I1,q1⟩=>?_);cases c with
 |true=>exact hb wh J3 s1 σ H1 Q I1 q1
 |false=>exact⟨H1,I1,q1⟩
theorem nu(ha:PT X a tA)(hb:PW X (.BoolOp .Or (b::rest) pos) tB'):PW X (.BoolOp .Or (a::b::rest) pos) (DZ tA tB'):=by
 intro wh J3 s σ H Q I h;refine isTrue_or (ca (ha J3 s σ H _ I h) fun c s1 ⟨H1,I1,q1⟩=>?_);cases c with
 |true=>exact⟨H1,I1,q1⟩
 |false=>exact hb wh J3 s1 σ H1 Q I1 q1
theorem FT(ha:PT X a tA):PT X (.UnaryOp .Not a pos) (GF tA):=by
 intro J3 s σ H Q I h;exact isTrue_not (ha J3 s σ H (fun c H1=>Q (!c) H1) I h)
def Cz(ta tb:TE):TE:=fun σ H Q=>ta σ H fun x H1=>∃c,x=.bl c/\if c=true then tb σ H1 Q else Q (.bl false) H1
theorem FZ{op}{t:TE}(h:PE X a t):PE X (.BoolOp op [a] pos) t:=fun J3 s σ H Q I hw=>BoolOp_one (h J3 s σ H Q I hw)
theorem C3(ha:PE X a ta)(hb:PE X (.BoolOp .And (b::rest) pos) tb):PE X (.BoolOp .And (a::b::rest) pos) (Cz ta tb):=by
 intro J3 s σ H Q I h;refine BoolOp_and (ca (ha J3 s σ H _ I h) fun v s1 ⟨x,H1,I1,r1,q1⟩=>?_);obtain⟨c,rfl,q1⟩:=q1;cases r1;refine tW ?_;cases c with
 |true=>exact hb J3 s1 σ H1 Q I1 q1
 |false=>exact⟨.bl false,H1,I1,rfl,q1⟩
end
end L2
namespace L2
open PySem PySem.Spec PyProof.Rows
def ax(K:Za)(H:Hp)(a:Addr)(xs:List V):Prop :=
 Rd H a (.lst xs) ∨
  ∃(o:Obj) (its:Array Value) (n:Nat),K.lookup a=some o/\o.cls=.type "list"/\o.dict=none/\o.data=.seq its n/\its.size<=ai/\aQ xs its.toList
def bC(K:Za)(H:Hp)(a:Addr)(xs:List V):Prop :=
 Rd H a (.tup xs) ∨
  ∃(o:Obj) (its:Array Value) (n:Nat),K.lookup a=some o/\o.cls=.type "tuple"/\o.data=.seq its n/\its.size<=ai/\aQ xs its.toList
def absV:Value->Option V
 |.none=>some .non
 |.bool b=>some (.bl b)
 |.int i _=>some (.int i)
 |.str x _=>some (.str x)
 |.bytes b _=>some (.byt b)
 |.float b _=>some (.flt b)
 |.ref a=>some (.ref a)
 |.type n=>some (.ty n)
 |_=>none
theorem RelV.abs{x:V}{u:Value}(r:RelV x u):absV u=some x:=by
 cases x with
 |non=>cases r;rfl
 |bl _=>cases r;rfl
 |int _=>obtain⟨t,rfl⟩:=r;rfl
 |str _=>obtain⟨t,rfl⟩:=r;rfl
 |byt _=>obtain⟨t,rfl⟩:=r;rfl
 |flt _=>obtain⟨t,rfl⟩:=r;rfl
 |ref _=>cases r;rfl
 |ty _=>cases r;rfl
theorem RelV.inj{x y:V}{u:Value}(r:RelV x u)(q:RelV y u):x=y:=eD (r.abs.symm.trans q.abs)
theorem aQ.inj:∀{xs ys:List V}{us:Zf},aQ xs us->aQ ys us->xs=ys
 |_,_,_,.nil,.nil=>rfl
 |_,_,_,.cons r t,.cons r' t'=>by rw[r.inj r',aQ.inj t t']
section
variable{X:Cx}{J3:Zd}{σ:St}{H:Hp}{s:Shared}{a:Addr}{xs ys:List V}
theorem ax.of{K:Za}(h:H a=some (.lst xs)):ax K H a xs:=.inl (.inl h)
theorem bC.of{K:Za}(h:H a=some (.tup xs)):bC K H a xs:=.inl (.inl h)
theorem Inv.list(I:Inv X J3 σ H s)(h:ax X.K H a xs):∃its:List Value,aQ xs its/\PlainL s.heap a its.toArray/\xs.length<=ai:=by
 rcases h with h|⟨o,its,n,hk,hc,hd,hs,hz,r⟩
 ·obtain⟨z,its,n,r,e⟩:=h.ok I.hok;exact⟨its,r,⟨_,n,e,rfl,rfl,rfl⟩,z⟩
 ·refine⟨its.toList,r,⟨o,n,I.kIn a o hk,hc,hd,by simpa using hs⟩,?_⟩;have e:=r.length;simp only[jX]at e;omega
theorem Inv.tuple(I:Inv X J3 σ H s)(h:bC X.K H a xs):∃its:List Value,aQ xs its/\IsTup s.heap a its.toArray/\xs.length<=ai:=by
 rcases h with h|⟨o,its,n,hk,hc,hs,hz,r⟩
 ·obtain⟨z,its,r,p⟩:=h.ok I.hok;exact⟨its,r,p,z⟩
 ·refine⟨its.toList,r,⟨o,I.kIn a o hk,hc,n,by simpa using hs⟩,?_⟩;have e:=r.length;simp only[jX]at e;omega
theorem Inv.list_inj(I:Inv X J3 σ H s)(h:ax X.K H a xs)(h':ax X.K H a ys):xs=ys:=by
 obtain⟨its,r,⟨o,n,e,_,_,d⟩,_⟩:=I.list h;obtain⟨its',r',⟨o',n',e',_,_,d'⟩,_⟩:=I.list h';rw[e]at e';cases e';rw[d]at d';injection d' with d1 _;have:its=its':=by simpa using congrArg Array.toList d1
 subst this;exact r.inj r'
theorem Inv.tuple_inj(I:Inv X J3 σ H s)(h:bC X.K H a xs)(h':bC X.K H a ys):xs=ys:=by
 obtain⟨its,r,⟨o,e,_,n,d⟩,_⟩:=I.tuple h;obtain⟨its',r',⟨o',e',_,n',d'⟩,_⟩:=I.tuple h';rw[e]at e';cases e';rw[d]at d';injection d' with d1 _;have:its=its':=by simpa using congrArg Array.toList d1
 subst this;exact r.inj r'
end
abbrev Cx.wish(X:Cx)(E:Zc):Cx:={ X with xe:=E }
abbrev Cx.nox(X:Cx):Cx:=X.wish fun _ _=>False
theorem Cx.Ok.wish{X:Cx}(ok:X.Ok)(E:Zc):(X.wish E).Ok :=
 ⟨ok.mod,ok.kind,ok.glob,ok.blt,ok.above,ok.inj,ok.has,ok.cab,ok.hd,ok.frames,ok.stk,ok.exf,ok.bs,ok.bsz,ok.noex,ok.exfs,ok.funs,ok.frf⟩
theorem Cx.Ok.unwish{X:Cx}{E:Zc}(ok:(X.wish E).Ok):X.Ok :=
 ⟨ok.mod,ok.kind,ok.glob,ok.blt,ok.above,ok.inj,ok.has,ok.cab,ok.hd,ok.frames,ok.stk,ok.exf,ok.bs,ok.bsz,ok.noex,ok.exfs,ok.funs,ok.frf⟩
section
variable{X:Cx}{J3:Zd}{σ:St}{H:Hp}{s:Shared}{E:Zc}
theorem Inv.wish(I:Inv X J3 σ H s)(E:Zc):Inv (X.wish E) J3 σ H s:=⟨I.ok.wish E,I.os,I.bare,I.base,I.loc,I.cell,I.free,I.freeC,I.pin,I.hok,I.len⟩
theorem Inv.unwish(I:Inv (X.wish E) J3 σ H s):Inv X J3 σ H s:=⟨I.ok.unwish,I.os,I.bare,I.base,I.loc,I.cell,I.free,I.freeC,I.pin,I.hok,I.len⟩
theorem SP.unwish{D:qg}{f:Flow}{s':Shared}(h:SP (X.wish E) J3 D f s'):SP X J3 D f s':=by
 cases f with
 |next=>obtain⟨σ',H',I,q⟩:=h;exact⟨σ',H',I.unwish,q⟩
 |brk=>obtain⟨σ',H',I,q⟩:=h;exact⟨σ',H',I.unwish,q⟩
 |cont=>obtain⟨σ',H',I,q⟩:=h;exact⟨σ',H',I.unwish,q⟩
 |ret u=>obtain⟨v,σ',H',I,r,q⟩:=h;exact⟨v,σ',H',I.unwish,r,q⟩
theorem yB.nox{st:List Stmt}{t:TS}(h:yB X.nox st t):yB X st t:=fun J3 s σ H D I hw =>
 mL (h J3 s σ H D (I.wish _) hw) (fun _ _ q=>q.unwish) fun _ _ z=>iU z
end
section
variable{X:Cx}{st:Stmt}{rest:List Stmt}{t u:TS}{e:Expr}{te:TE}{pos:Pos}
def bR:TS:=fun D σ H=>D.nx σ H
def aq(t u:TS):TS:=fun D σ H=>t { D with nx:=u D } σ H
theorem aP:yB X [] bR:=fun _ _ σ H _ I h=>z_ ⟨σ,H,I,h⟩
theorem ab(h1:PS X st t)(h2:yB X rest u):yB X (st::rest) (aq t u):=by
 intro J3 s σ H D I h;refine wpAny_execs_cons (ca (h1 J3 s σ H { D with nx:=u D } I h) fun f s1 q=>?_);cases f with
 |next =>
  obtain⟨σ',H',I',q⟩:=q;exact h2 J3 s1 σ' H' D I' q
 |ret v=>exact q
 |brk=>exact q
 |cont=>exact q
theorem ag(h1:PS X st t):yB X [st] t:=by
 intro J3 s σ H D I h;refine wpAny_execs_cons (ca (h1 J3 s σ H D I h) fun f s1 q=>?_);cases f with
 |next=>exact z_ q
 |ret v=>exact q
 |brk=>exact q
 |cont=>exact q
theorem Inv.quiet{J3:Zd}{σ:St}{H:Hp}{s:Shared}(I:Inv X J3 σ H s):interactive X.env=false:=by simp[interactive,I.ok.kind]
def df(te:TE):TS:=fun D σ H=>te σ H fun _ H1=>D.nx σ H1
theorem bu(he:PE X e te)(hs:pc e none pos.line X.env=pure false:=by rfl):PS X (.Expr e pos) (df te):=by
 intro J3 s σ H D I h;exact wpAny_Expr_any (ca (he J3 s σ H _ I h) fun v s1 ⟨x,H1,I1,r1,q1⟩=>⟨σ,H1,I1,q1⟩) I.quiet hs
def aW(te:TE):TS:=fun D σ H=>te σ H D.rt
theorem au(he:PE X e te):PS X (.Return (some e) pos) (aW te):=by
 intro J3 s σ H D I h;exact wpAny_Return_some (ca (he J3 s σ H _ I h) fun v s1 ⟨x,H1,I1,r1,q1⟩=>⟨x,σ,H1,I1,r1,q1⟩)
def dA(c:TT)(t u:TS):TS:=fun D σ H=>c σ H fun b H1=>if b=true then t D σ H1 else u D σ H1
theorem bT{c:Expr}{a b:List Stmt}{tc:TT}(hc:PT X c tc)(ha:yB X a t)(hb:yB X b u):PS X (.If c a b pos) (dA tc t u):=by
 intro J3 s σ H D I h;refine wpAny_If (ca (hc J3 s σ H _ I h) fun d s1 ⟨H1,I1,q1⟩=>?_);cases d with
 |true=>exact ha J3 s1 σ H1 D I1 q1
 |false=>exact hb J3 s1 σ H1 D I1 q1
def vH:TS:=fun _ _ _=>False
theorem rP:PS X st vH:=fun _ _ _ _ _ _ h=>h.elim
end
abbrev TG:=V->St->Hp->(St->Hp->Prop)->Prop
abbrev Ce:=List V->St->Hp->(St->Hp->Prop)->Prop
def PG(X:Cx)(target:Expr)(t:TG):Prop :=
 ∀(J3:Zd) (s:Shared) (σ:St) (H:Hp) (v:V) (u:Value) (Q:St->Hp->Prop),Inv X J3 σ H s->RelV v u->t v σ H Q ->
  wpAny (model X.prog X.w) X.A (assign target X.env u) (fun _ s'=>∃σ' H',Inv X J3 σ' H' s'/\Q σ' H') X.xe s
def Hm(X:Cx)(ts:List Expr)(t:Ce):Prop :=
 ∀(J3:Zd) (s:Shared) (σ:St) (H:Hp) (vs:List V) (us:Zf) (Q:St->Hp->Prop),Inv X J3 σ H s->aQ vs us->t vs σ H Q ->
  wpAny (model X.prog X.w) X.A (assignInOrder ((tU ts X.env).map (·.2)) us) (fun _ s'=>∃σ' H',Inv X J3 σ' H' s'/\Q σ' H') X.xe s
abbrev Go:=V->V->V->Hp->(Hp->Prop)->Prop
def G3(X:Cx)(t:Go):Prop :=
 ∀(J3:Zd) (s:Shared) (σ:St) (H:Hp) (o i v:V) (ov iv u:Value) (Q:Hp->Prop),Inv X J3 σ H s->RelV o ov->RelV i iv->RelV v u->t o i v H Q ->
  wpAny (model X.prog X.w) X.A (setItem ov iv u) (fun _ s'=>∃H',Inv X J3 σ H' s'/\Q H') X.xe s
abbrev Hl:=V->V->Hp->VK->Prop
def PIp(X:Cx)(op:Operator)(t:Hl):Prop :=
 ∀(J3:Zd) (s:Shared) (σ:St) (H:Hp) (x y:V) (v u:Value) (Q:VK),Inv X J3 σ H s->RelV x v->RelV y u->t x y H Q ->
  wpAny (model X.prog X.w) X.A (inplaceOp op v u) (EP X J3 σ Q) X.xe s
section
variable{X:Cx}{pos:Pos}
def dI(i:Nat):TG:=fun v σ H Q=>Q (σ.set i (some v)) H
abbrev U0:TG:=dI 0
abbrev U1:TG:=dI 1
abbrev U2:TG:=dI 2
abbrev U3:TG:=dI 3
abbrev U4:TG:=dI 4
abbrev U5:TG:=dI 5
abbrev U6:TG:=dI 6
abbrev U7:TG:=dI 7
abbrev U8:TG:=dI 8
abbrev U9:TG:=dI 9
abbrev U10:TG:=dI 10
abbrev U11:TG:=dI 11
abbrev U12:TG:=dI 12
theorem Ao{i:Nat}{x:Str}(hN:X.N.Nodup)(hi:X.N[i]?=some x)(hx:Loc X.env.scope x)(hf:X.fn x=true∨X.env.scope.names.lookup x=some .local:=by first|exact .inl rfl|exact .inr rfl|assumption):PG X (.Name x pos) (dI i):=by
 intro J3 s σ H v u Q I r h;exact wpAny_assign_Name (rD I hN hi hx r (fun s' I'=>⟨_,H,I',h⟩) hf)
def ln:Ce:=fun vs σ H Q=>vs=[]/\Q σ H
def ck(t:TG)(u:Ce):Ce:=fun vs σ H Q=>∃v r,vs=v::r/\t v σ H fun σ' H'=>u r σ' H' Q
theorem eF:Hm X [] ln:=by
 intro J3 s σ H vs us Q I r h;obtain⟨e,h⟩:=h;subst e;cases r;exact assignInOrder_nil ⟨σ,H,I,h⟩
theorem aS{e:Expr}{es:List Expr}{t:TG}{u:Ce}(h1:PG X e t)(h2:Hm X es u)
  (hs:(tU (e::es) X.env).map (·.2)=assign e X.env::(tU es X.env).map (·.2):=by rfl):Hm X (e::es) (ck t u):=by
 intro J3 s σ H vs us Q I r h;obtain⟨v,vr,e1,h⟩:=h;subst e1;cases r with
 |cons r rr =>
  rw[hs];refine assignInOrder_cons (ca (h1 J3 s σ H _ _ _ I r h) fun _ s1 ⟨σ1,H1,I1,q1⟩=>?_);exact h2 J3 s1 σ1 H1 _ _ Q I1 rr q1
def mj(K:Za)(n:Nat)(t:Ce):TG:=fun v σ H Q=>∃a xs,v=.ref a/\bC K H a xs/\xs.length=n/\t xs σ H Q
theorem gw{es:List Expr}{k:Nat}{t:Ce}{n:Nat}(hc:X.calm=true)(h:Hm X es t)
  (hn:(tU es X.env).length=n:=by rfl) (hst:(tU es X.env).findIdx? (·.1)=none:=by rfl):PG X (.Tuple es k pos) (mj X.K n t):=by
 intro J3 s σ H v u Q I r hw;obtain⟨a,xs,e1,hq,hl,hw⟩:=hw;subst e1;cases r;obtain⟨its,rv,ht,hz⟩:=I.tuple hq;refine assign_Tuple_tuple (I.ok.hd hc) ht (by simp[hn,<-hl,rv.length]) hst fun h' hx=>?_;have I1:Inv X J3 σ H { s with heap:=h' }:=I.kept (t':=s.toks) fun b o e=>hx b o (bE (az e)) e;exact h J3 _ σ H xs _ Q I1 (by simpa using rv) hw
def zE(to ti:TE)(t:Go):TG:=fun v σ H Q=>to σ H fun o H1=>ti σ H1 fun i H2=>t o i v H2 fun H3=>Q σ H3
theorem rS{o i:Expr}{to ti:TE}{t:Go}(ho:PE X o to)(hi:PE X i ti)(hs:G3 X t)
  (ha:∀v,assign (.Subscript o i pos) X.env v=(do
   let ov <- jY [v] (eval o X.env)
   let iv <- jY [v,ov] (eval i X.env)
   pd pos
   jY [v,ov,iv] (setItem ov iv v)
   release [v,ov,iv] []):=by intro _;rfl):PG X (.Subscript o i pos) (zE to ti t):=by
 intro J3 s σ H v u Q I r h;rw[ha];refine ak (iX (ca (ho J3 s σ H _ I h) fun ov s1 ⟨x,H1,I1,r1,q1⟩=>?_));refine ak (iX (ca (hi J3 s1 σ H1 _ I1 q1) fun iv s2 ⟨y,H2,I2,r2,q2⟩=>?_));refine ak (wpAny_standAt (ak (iX (ca (hs J3 s2 σ H2 x y v ov iv u _ I2 r1 r2 r q2) fun _ s3 ⟨H3,I3,q3⟩=>?_))));exact wpAny_release ⟨σ,H3,I3,q3⟩
def aJ(te:TE)(g:TG):TS:=fun D σ H=>te σ H fun x H1=>g x σ H1 D.nx
theorem mf{tg e:Expr}{te:TE}{g:TG}(he:PE X e te)(hg:PG X tg g)(hs:swapsWithSole [tg] e pos.line X.env=pure false:=by rfl)(hw:swappedStores [tg] e X.env=pure none:=by rfl)
  (h1:(tU [tg] X.env).map (·.2)=[assign tg X.env]:=by rfl):PS X (.Assign [tg] e pos) (aJ te g):=by
 intro J3 s σ H D I h;refine wpAny_Assign_stores (ca (he J3 s σ H _ I h) fun v s1 ⟨x,H1,I1,r1,q1⟩=>?_) hs hw;rw[h1];exact ca (hg J3 s1 σ H1 x v _ I1 r1 q1) fun _ s2 q=>q
theorem FU{i:Nat}{x:Str}{e:Expr}{te:TE}{pos':Pos}(hN:X.N.Nodup)(hi:X.N[i]?=some x)(hx:Loc X.env.scope x)(he:PE X e te)(hs:pc e (some (.Name x pos')) pos.line X.env=pure false:=by rfl)(hf:X.fn x=true∨X.env.scope.names.lookup x=some .local:=by first|exact .inl rfl|exact .inr rfl|assumption):
  PS X (.Assign [.Name x pos'] e pos) (aJ te (dI i)):=by
 intro J3 s σ H D I h;refine wpAny_Assign_Name (ca (he J3 s σ H _ I h) fun v s1 ⟨y,H1,I1,r1,q1⟩=>?_) hs;exact rD I1 hN hi hx r1 (fun s2 I2=>⟨_,H1,I2,q1⟩) hf
def FN(i:Nat)(te:TE)(ti:Hl):TS:=fun D σ H=>∃x,σ[i]?=some (some x)/\te σ H fun y H1=>ti x y H1 fun z H2=>D.nx (σ.set i (some z)) H2
theorem C0{i:Nat}{x:Str}{e:Expr}{te:TE}{op:Operator}{ti:Hl}{pos':Pos}(hN:X.N.Nodup)(hi:X.N[i]?=some x)(hx:Loc X.env.scope x)(he:PE X e te)(ho:PIp X op ti)(hf:X.fn x=true∨X.env.scope.names.lookup x=some .local:=by first|exact .inl rfl|exact .inr rfl|assumption):
  PS X (.AugAssign (.Name x pos') op e pos) (FN i te ti):=by
 intro J3 s σ H D I h;obtain⟨v,e1,h⟩:=h;obtain⟨m,hn,hl⟩:=I.loc;have vis:Hk X.env.scope x:=by rcases hx with k|k;exact .inl k;exact .inr (.inl k)
 obtain⟨u,r,l⟩:=hl i x v hi e1 vis;refine wpAny_AugAssign_Name ?_;have go:wpAny (model X.prog X.w) X.A (eval e X.env) (fun w s₂=>wpAny (model X.prog X.w) X.A (inplaceOp op u w) (fun r s₃=>wpAny (model X.prog X.w) X.A (storeName X.env x r) (fun _=>SP X J3 D .next) X.xe s₃) X.xe s₂) X.xe s:=by
  refine ca (he J3 s σ H _ I h) fun w s1 ⟨y,H1,I1,r1,q1⟩=>?_;refine ca (ho J3 s1 σ H1 v y u w _ I1 r r1 q1) fun z s2 ⟨zv,H2,I2,r2,q2⟩=>?_;exact rD I2 hN hi hx r2 (fun s3 I3=>⟨_,H2,I3,q2⟩) hf
 rcases l with⟨hk,hm⟩|⟨hk,c,hc,hcell⟩
 ·exact wpAny_loadName_local I.ok.kind hk hn hm go
 ·rcases hk with hk|hk
  ·exact wpAny_loadName_cell I.ok.kind hk hc hcell go
  ·rcases hx with k|k
   ·have:X.env.scope.names.lookup x=some .free:=hk;rw[k]at this;cases this
   ·have:X.env.scope.names.lookup x=some .free:=hk;rw[k]at this;cases this
def Hj(f:Int->Int->Int):Hl:=fun x y H Q=>∃i j,x=.int i/\y=.int j/\Q (.int (f i j)) H
theorem Gg:PIp X .Add (Hj fun i j=>i+j):=by
 intro J3 s σ H x y v u Q I r1 r2 h;obtain⟨i,j,e1,e2,q⟩:=h;subst e1;subst e2;obtain⟨t,rfl⟩:=r1;obtain⟨t',rfl⟩:=r2;exact iadd_int ⟨.int _,H,I.tok _,⟨_,rfl⟩,q⟩
theorem Gf:PIp X .Sub (Hj fun i j=>i-j):=by
 intro J3 s σ H x y v u Q I r1 r2 h;obtain⟨i,j,e1,e2,q⟩:=h;subst e1;subst e2;obtain⟨t,rfl⟩:=r1;obtain⟨t',rfl⟩:=r2;exact isub_int ⟨.int _,H,I.tok _,⟨_,rfl⟩,q⟩
end
section
variable{X:Cx}{pos:Pos}
def vG(c:TT)(tb:TS):TS:=fun D σ H=>∃W:Nat->St->Hp->Prop,(∃m,W m σ H)/\∀m σ H,W m σ H ->
 c σ H fun b H1=>if b=true then ∃N:St->Hp->Prop,(∀σ' H',N σ' H'->∃m',m'<m/\W m' σ' H')/\tb { D with nx:=N,ct:=N,bk:=D.nx } σ H1 else D.nx σ H1
theorem rO{c:Expr}{body:List Stmt}{tc:TT}{tb:TS}(hp:PassesOwn (model X.prog X.w) X.A X.env X.xe)(hc:PT X c tc)(hb:yB X body tb):PS X (.While c body [] pos) (vG tc tb):=by
 intro J3 s σ H D I h;obtain⟨W,⟨m0,w0⟩,turn⟩:=h;refine wpAny_While (codeAny_whileLoop (fun n s'=>∃σ' H',Inv X J3 σ' H' s'/\W n σ' H') ?_ m0 ⟨σ,H,I,w0⟩);rintro n s1 ⟨σ1,H1,I1,w1⟩;refine qE hp (ca (hc J3 s1 σ1 H1 _ I1 (turn n σ1 H1 w1)) fun b s2 ⟨H2,I2,q2⟩=>?_);cases b with
 |true =>
  obtain⟨N,hN,q2⟩:=q2;rw[if_pos rfl];refine qE hp (ca (hb J3 s2 σ1 H2 _ I2 q2) fun f s3 q3=>?_);cases f with
  |next =>
   obtain⟨σ3,H3,I3,n3⟩:=q3;obtain⟨m',hm,w3⟩:=hN σ3 H3 n3;exact⟨m',hm,σ3,H3,I3,w3⟩
  |cont =>
   obtain⟨σ3,H3,I3,n3⟩:=q3;obtain⟨m',hm,w3⟩:=hN σ3 H3 n3;exact⟨m',hm,σ3,H3,I3,w3⟩
  |brk=>exact q3
  |ret v=>exact q3
 |false =>
  rw[if_neg gm];exact z_ ⟨σ1,H2,I2,q2⟩
end
structure It where
 go:Nat->Hp->Prop
 yld:Nat->Hp->V->Hp->Prop
 stop:Nat->Hp->Prop
def lA(X:Cx)(J3:Zd)(H:Hp)(b:Addr):Prop :=
 H b=none/\b≠X.env.locals/\b∉X.fs/\(b∈X.ex∨X.s₀.heap.objs.size<=b)/\(∀x c,X.env.cells.lookup x=some c->c≠b)/\∀p∈X.pn++J3,p.1≠b
theorem Inv.fpOk{X:Cx}{J3:Zd}{σ:St}{H H':Hp}{s:Shared}{b:Addr}(I:Inv X J3 σ H s)(hb:s.heap.objs.size<=b)(hn:H' b=none):lA X J3 H' b:=by
 refine⟨hn,dC (cz I.lt hb),I.nofs hb,.inr (aE I.sz hb),fun x c e z=>?_,fun p hp z=>?_⟩
 ·obtain⟨v,q⟩:=I.cell x c e;exact absurd (cz q.lt (by rw[z];exact hb)) (iV _)
 ·exact absurd (cz (az (I.pin p hp).1) (by rw[z];exact hb)) (iV _)
structure pY(P:bj)(w:World)(K:Za)(tg:Expr)(J:It)(fp:Ze)(it:Addr)(tn:Nat->Heap->Prop):Prop where
 mem:it∈fp
 obj:∀i h,tn i h->∀b∈fp,∃o,h.get? b=some o/\∀v,o.data≠.cell v
 keep:∀i h h',tn i h->(∀b∈fp,∀o,h.get? b=some o->h'.get? b=some o)->tn i h'
 item:∀(X:Cx),X.prog=P->X.w=w->X.K=K->X.calm=true->∀(i:Nat) (J3:Zd) (s:Shared) (σ:St) (H:Hp) (E:Zc),Inv X J3 σ H s->(∀b∈fp,lA X J3 H b)->tn i s.heap->J.go i H ->
  wpAny (model P w) X.A (pyNext (.ref it)) (fun r s1=>∃u,r=some u /\
   wpAny (model P w) X.A (z9 tg (.ref it) u) (fun _ s2=>∃x H',Inv X J3 σ H' s2/\RelV x u/\J.yld i H x H'/\tn (i+1) s2.heap/\∀b∈fp,H' b=none) E s1) E s
 done:∀(X:Cx),X.prog=P->X.w=w->X.K=K->X.calm=true->∀(i:Nat) (J3:Zd) (s:Shared) (σ:St) (H:Hp) (E:Zc),Inv X J3 σ H s->(∀b∈fp,lA X J3 H b)->tn i s.heap->J.stop i H ->
  wpAny (model P w) X.A (pyNext (.ref it)) (fun r s1=>r=none/\Inv X J3 σ H s1) E s
 self:∀(A:Around) (i:Nat) (s:Shared) (Q:Zc) (E:Zc),tn i s.heap->Q (.ref it) s->wpAny (model P w) A (pyIter (.ref it)) Q E s
abbrev TI:=St->Hp->(It->Hp->Prop)->Prop
def PIE(X:Cx)(J3:Zd)(σ:St)(tg:Expr)(R:It->Hp->Prop)(itv:Value)(s2:Shared):Prop :=
 ∃(it:Addr) (fp:Ze) (tn:Nat->Heap->Prop) (J:It) (H':Hp),itv=.ref it/\Inv X J3 σ H' s2/\pY X.prog X.w X.K tg J fp it tn/\tn 0 s2.heap/\(∀b∈fp,lA X J3 H' b)/\R J H'
def PI(X:Cx)(tg iter:Expr)(wi:TI):Prop :=
 ∀(J3:Zd) (s:Shared) (σ:St) (H:Hp) (R:It->Hp->Prop),Inv X J3 σ H s->wi σ H R ->
  wpAny (model X.prog X.w) X.A (eval iter X.env) (fun v s1=>wpAny (model X.prog X.w) X.A (pyIter v) (PIE X J3 σ tg R) X.xe s1) X.xe s
theorem sk{M:Model}{A:Around}{E:Zc}{s:Shared}{tg:Expr}{it:Addr}{u:Value}{o:Obj}{n:String}{vs:Array Value}{Q:Unit->Shared->Prop}(ho:s.heap.get? it=some o)(hc:o.cls=.type n)(hd:o.data=.fields vs)
    (hn:["enumerate","zip","dict_itemiterator","dict_reverseitemiterator","odict_iterator","itertools.zip_longest","itertools.pairwise"].contains n=false) (hQ:Q () s):wpAny M A (z9 tg (.ref it) u) Q E s:=by
  unfold z9;cases tg<;>first
    |exact aF hQ
    | (cases u <;> first
        |exact aF hQ
        | (refine ak (wpAny_load ho ?_)
           rw[hc,hd];show wpAny M A (if(["enumerate","zip","dict_itemiterator","dict_reverseitemiterator","odict_iterator","itertools.zip_longest","itertools.pairwise"].contains n && vs[0]?==some (rawInt _))=true then _ else _) Q E s
           rw[if_neg (by intro h;rw[hn,Bool.false_and]at h;cases h)];exact aF hQ))
def Ea(K:Za)(a:Addr):It :=
 ⟨fun i H=>∃xs x,ax K H a xs/\xs[i]?=some x,fun i H x H'=>H'=H/\∀xs,ax K H a xs->xs[i]?=some x,fun i H=>∃xs,ax K H a xs/\xs.length<=i⟩
def Gq(K:Za)(a:Addr):It :=
 ⟨fun i H=>∃xs x,bC K H a xs/\xs[i]?=some x,fun i H x H'=>H'=H/\∀xs,bC K H a xs->xs[i]?=some x,fun i H=>∃xs,bC K H a xs/\xs.length<=i⟩
def Gs(lo:Int)(n:Nat):It:=⟨fun i _=>i<n,fun i H x H'=>H'=H/\x=.int (lo+i),fun i _=>n<=i⟩
theorem t9{P:bj}{w:World}{K:Za}{tg:Expr}(a it:Addr):pY P w K tg (Ea K a) [it] it (fun i h=>h.IsListIter it a i) where
 mem:=by simp
 obj:=fun i h st b hb=>by
  have e:b=it:=by simpa using hb
  subst e;obtain⟨o,e,c,d⟩:=st;exact⟨o,e,fun v z=>by rw[d]at z;cases z⟩
 keep:=fun i h h' st k=>st.at fun o e=>k it (by simp) o e
 item:=by
  intro X hP hw hK hc i J3 s σ H E I hf st hg;subst hP hw hK;obtain⟨xs,x,hq,hx⟩:=hg;obtain⟨its,rv,p,hz⟩:=I.list hq;obtain⟨u,hu,ru⟩:=rv.get hx;obtain⟨f0,f1,f2,f3,f4,f5⟩:=hf it (by simp);refine wpAny_pyNext_list_item st p.isList (x:=u) (by simpa using hu) fun h' st' sb=>?_;have I1:Inv X J3 σ H { s with heap:=h' }:=I.turned (t':=s.toks) (fun b o hb e=>(sb.2 b hb).trans e) f0 f1 f3 f4 f5;obtain⟨o,e,c,d⟩:=id st';exact⟨u,rfl,sk (s:={ s with heap:=h' }) e c d (by decide) ⟨x,H,I1,ru,⟨rfl,fun ys hy=>by rw[I.list_inj hy hq];exact hx⟩,st',fun b hb=>(hf b hb).1⟩⟩
 done:=by
  intro X hP hw hK hc i J3 s σ H E I hf st hg;subst hP hw hK;obtain⟨xs,hq,hx⟩:=hg;obtain⟨its,rv,p,hz⟩:=I.list hq;obtain⟨f0,f1,f2,f3,f4,f5⟩:=hf it (by simp);have hl:=rv.length;exact wpAny_pyNext_list_end (I.ok.hd hc) st p.isList (by simp;omega) fun h' eb=>⟨rfl,I.turned (t':=s.toks) (fun b o hb e=>eb b o hb e) f0 f1 f3 f4 f5⟩
 self:=fun _ _ _ _ _ st h=>wpAny_pyIter_listiter st h
theorem rg{P:bj}{w:World}{K:Za}{tg:Expr}(a it:Addr):pY P w K tg (Gq K a) [it] it (fun i h=>h.IsTupleIter it a i) where
 mem:=by simp
 obj:=fun i h st b hb=>by
  have e:b=it:=by simpa using hb
  subst e;obtain⟨o,e,c,d⟩:=st;exact⟨o,e,fun v z=>by rw[d]at z;cases z⟩
 keep:=fun i h h' st k=>st.at fun o e=>k it (by simp) o e
 item:=by
  intro X hP hw hK hc i J3 s σ H E I hf st hg;subst hP hw hK;obtain⟨xs,x,hq,hx⟩:=hg;obtain⟨its,rv,p,hz⟩:=I.tuple hq;obtain⟨u,hu,ru⟩:=rv.get hx;obtain⟨f0,f1,f2,f3,f4,f5⟩:=hf it (by simp);refine wpAny_pyNext_tuple_item st (show s.heap.IsTuple a its.toArray from p) (x:=u) (by simpa using hu) fun h' st' sb=>?_;have I1:Inv X J3 σ H { s with heap:=h' }:=I.turned (t':=s.toks) (fun b o hb e=>(sb.2 b hb).trans e) f0 f1 f3 f4 f5;obtain⟨o,e,c,d⟩:=id st';exact⟨u,rfl,sk (s:={ s with heap:=h' }) e c d (by decide) ⟨x,H,I1,ru,⟨rfl,fun ys hy=>by rw[I.tuple_inj hy hq];exact hx⟩,st',fun b hb=>(hf b hb).1⟩⟩
 done:=by
  intro X hP hw hK hc i J3 s σ H E I hf st hg;subst hP hw hK;obtain⟨xs,hq,hx⟩:=hg;obtain⟨its,rv,p,hz⟩:=I.tuple hq;obtain⟨f0,f1,f2,f3,f4,f5⟩:=hf it (by simp);have hl:=rv.length;exact wpAny_pyNext_tuple_end (I.ok.hd hc) st (show s.heap.IsTuple a its.toArray from p) (by simp;omega) fun h' eb=>⟨rfl,I.turned (t':=s.toks) (fun b o hb e=>eb b o hb e) f0 f1 f3 f4 f5⟩
 self:=fun _ _ _ _ _ st h=>wpAny_pyIter_tupleiter st h
theorem yF{P:bj}{w:World}{K:Za}{tg:Expr}(it:Addr)(lo:Int)(n:Nat):pY P w K tg (Gs lo n) [it] it (fun i h=>IsRangeIter h it (lo+(i:Nat) * 1) ((n:Int)-(i:Nat)) 1) where
 mem:=by simp
 obj:=fun i h st b hb=>by
  have e:b=it:=by simpa using hb
  subst e;exact⟨_,st,fun v z=>by
   have z':Data.fields _=Data.cell v:=z;cases z'⟩
 keep:=fun i h h' st k=>k it (by simp) _ st
 item:=by
  intro X hP hw hK hc i J3 s σ H E I hf st hg;subst hP hw hK;obtain⟨f0,f1,f2,f3,f4,f5⟩:=hf it (by simp);have W:=Walks.range (prog:=X.prog) (w:=X.w) (I.ok.hd hc) it lo 1 n;refine W.item i s _ _ hg st fun v h' tk hv st' kk=>?_;obtain⟨t,rfl⟩:=hv;have I1:Inv X J3 σ H { s with heap:=h',toks:=tk }:=I.turned (fun b o hb e=>kk b o (by simpa using hb) e) f0 f1 f3 f4 f5;refine⟨_,rfl,sk (s:={ s with heap:=h',toks:=tk }) (n:="range_iterator") st' rfl rfl (by decide) ⟨.int (lo+i),H,I1,⟨t,?_⟩,⟨rfl,rfl⟩,st',fun b hb=>(hf b hb).1⟩⟩;rw[Int.mul_one]
 done:=by
  intro X hP hw hK hc i J3 s σ H E I hf st hg;subst hP hw hK;obtain⟨f0,f1,f2,f3,f4,f5⟩:=hf it (by simp);exact wpAny_pyNext_range_end (I.ok.hd hc) st (by have:n<=i:=hg;omega) fun h' eb=>⟨rfl,I.turned (t':=s.toks) (fun b o hb e=>eb b o hb e) f0 f1 f3 f4 f5⟩
 self:=fun _ _ _ _ _ st h=>wpAny_pyIter_rangeiter st h
end L2
namespace L2
open PySem PySem.Spec PyProof.Rows
section
variable{X:Cx}{tg:Expr}
def bU(K:Za)(tl:TE):TI:=fun σ H R=>tl σ H fun x H1=>∃a,x=.ref a/\(∃xs,ax K H1 a xs)/\R (Ea K a) H1
def EV(K:Za)(tl:TE):TI:=fun σ H R=>tl σ H fun x H1=>∃a,x=.ref a/\(∃xs,bC K H1 a xs)/\R (Gq K a) H1
theorem aL{l:Expr}{tl:TE}(hl:PE X l tl):PI X tg l (bU X.K tl):=by
 intro J3 s σ H R I h;refine ca (hl J3 s σ H _ I h) fun v s1 ⟨x,H1,I1,r1,q1⟩=>?_;obtain⟨a,e,⟨xs,hq⟩,q⟩:=q1;subst e;cases r1;obtain⟨its,rv,p,hz⟩:=I1.list hq;refine z8 p.isList ?_;refine⟨s1.heap.objs.size,[s1.heap.objs.size],_,_,H1,rfl,I1.kept (t':=s1.toks) fun b o e=>aO _ e,t9 a _,⟨_,cb _ rfl,rfl,rfl⟩,fun b hb=>?_,q⟩;have e:b=s1.heap.objs.size:=by simpa using hb
 subst e;exact I1.fpOk (ay _) (I1.hok.fresh (ay _))
theorem zf{l:Expr}{tl:TE}(hl:PE X l tl):PI X tg l (EV X.K tl):=by
 intro J3 s σ H R I h;refine ca (hl J3 s σ H _ I h) fun v s1 ⟨x,H1,I1,r1,q1⟩=>?_;obtain⟨a,e,⟨xs,hq⟩,q⟩:=q1;subst e;cases r1;obtain⟨its,rv,p,hz⟩:=I1.tuple hq;refine z7 (show s1.heap.IsTuple a its.toArray from p) ?_;refine⟨s1.heap.objs.size,[s1.heap.objs.size],_,_,H1,rfl,I1.kept (t':=s1.toks) fun b o e=>aO _ e,rg a _,⟨_,cb _ rfl,rfl,rfl⟩,fun b hb=>?_,q⟩;have e:b=s1.heap.objs.size:=by simpa using hb
 subst e;exact I1.fpOk (ay _) (I1.hok.fresh (ay _))
theorem CT{J3:Zd}{σ:St}{H:Hp}{s:Shared}{R:It->Hp->Prop}{E:Zc}{lo hi:Int}{t u v:Tok}{tk:Nat}(I:Inv X J3 σ H s)(h1:-(2 ^ 62)<=lo)(h2:lo<2 ^ 62)(h3:-(2 ^ 62)<=hi)(h4:hi<2 ^ 62)
  (q:R (Gs lo (hi-lo).toNat) H):wpAny (model X.prog X.w) X.A (pyIter (.ref s.heap.objs.size)) (PIE X J3 σ tg R) E { s with heap:=s.heap.push { cls:=.type "range",data:=.fields #[.int lo t,.int hi u,.int 1 v] },toks:=tk }:=by
 refine wpAny_pyIter_range (IsRange.new ..) (small_one h1 h2 h3 h4) ?_;have I1:Inv X J3 σ H { s with heap:=s.heap.push { cls:=.type "range",data:=.fields #[.int lo t,.int hi u,.int 1 v] },toks:=tk }:=I.kept fun b o e=>aO _ e;refine⟨(s.heap.push { cls:=.type "range",data:=.fields #[.int lo t,.int hi u,.int 1 v] }).objs.size,[(s.heap.push { cls:=.type "range",data:=.fields #[.int lo t,.int hi u,.int 1 v] }).objs.size],_,_,H,rfl,
  I1.kept (t':=tk) fun b o e=>aO _ e,yF _ lo (hi-lo).toNat,?_,fun b hb=>?_,q⟩
 ·have e1:lo+((0:Nat):Int) * 1=lo:=by simp
  have e2:(((hi-lo).toNat:Nat):Int)-((0:Nat):Int)=bc.Range.rangeSize lo hi 1:=by rw[rangeSize_one];split<;>omega
  show IsRangeIter _ _ (lo+((0:Nat):Int) * 1) ((((hi-lo).toNat:Nat):Int)-((0:Nat):Int)) 1;rw[e1,e2];exact cb _ rfl
 ·have e:b=(s.heap.push { cls:=.type "range",data:=.fields #[.int lo t,.int hi u,.int 1 v] }).objs.size:=by simpa using hb
  subst e;exact I1.fpOk (ay _) (I1.hok.fresh (ay _))
def uw(ta:TA):TI:=fun σ H R=>ta σ H fun vs H1=>∃j:Int,vs=[.int j]/\-(2 ^ 62)<=j/\j<2 ^ 62/\R (Gs 0 j.toNat) H1
theorem i8{a:Expr}{ta:TA}{p pos:Pos}(hg:Gl X "range")(hm:X.mg "range"=none)(ha:PA X [a] ta)(hs:aA [a] X.env=[(false,eval a X.env)]:=by rfl):PI X tg (.Call (.Name "range" p) [a] [] pos) (uw ta):=by
 intro J3 s σ H R I h;refine Call_ (iQ I hg hm boot_range (mJ (ca (ha pos J3 s σ H _ I h) fun us s1 ⟨vs,H1,I1,r1,q1⟩=>?_) hs rfl));obtain⟨j,e,q1,q2,q⟩:=q1;subst e;cases r1 with
 |cons r rr =>
  cases rr;obtain⟨t,rfl⟩:=r;exact call_range_1 (CT I1 (by omega) (by omega) q1 q2 (by simpa using q))
def fz(wi:TI)(g:TG)(tb:TS):TS:=fun D σ H=>wi σ H fun J H1=>∃W:Nat->Nat->St->Hp->Prop,(∃m,W 0 m σ H1)/\∀i m σ H,W i m σ H ->
 (J.stop i H/\D.nx σ H)∨(J.go i H/\∃N:St->Hp->Prop,(∀σ' H',N σ' H'->∃m',m'<m/\W (i+1) m' σ' H')/\∀x H',J.yld i H x H'->g x σ H' fun σ2 H2=>tb { D with nx:=N,ct:=N,bk:=D.nx } σ2 H2)
def rR(fp:Ze)(h:Heap):List (Addr×Obj):=fp.filterMap fun b=>(h.get? b).map fun o=>(b,o)
theorem jA{fp:Ze}{h:Heap}{b:Addr}{o:Obj}(hb:b∈fp)(e:h.get? b=some o):(b,o)∈rR fp h:=List.mem_filterMap.mpr ⟨b,hb,by rw[e];rfl⟩
theorem Bz{fp:Ze}{h:Heap}{p:Addr×Obj}(hp:p∈rR fp h):p.1∈fp/\h.get? p.1=some p.2:=by
 obtain⟨b,hb,e⟩:=List.mem_filterMap.mp hp;cases q:h.get? b with
 |none=>rw[q]at e;cases e
 |some o =>
  rw[q]at e;have e':(b,o)=p:=eD e;subst e';exact⟨hb,q⟩
theorem Inv.pinned{J3:Zd}{σ:St}{H:Hp}{s:Shared}{fp:Ze}(I:Inv X J3 σ H s)(hf:∀b∈fp,lA X J3 H b)(ho:∀b∈fp,∃o,s.heap.get? b=some o/\∀v,o.data≠.cell v):Inv X (J3++rR fp s.heap) σ H s :=
 I.pins_of fun p hp=>(bw.mp hp).elim (fun z=>I.pin p (dL _ z)) fun z=>by
  obtain⟨hb,e⟩:=Bz z;obtain⟨f0,f1,f2,_⟩:=hf p.1 hb;obtain⟨o,e',d⟩:=ho p.1 hb;rw[e]at e';cases e';exact⟨e,f0,f1,f2,d⟩
theorem Inv.unpinned{J3 pl:Zd}{σ:St}{H:Hp}{s:Shared}(I:Inv X (J3++pl) σ H s):Inv X J3 σ H s:=I.pins_of fun p hp=>I.pin p (dL _ (de _ hp))
theorem bG{iter:Expr}{body:List Stmt}{wi:TI}{g:TG}{tb:TS}{pos:Pos}(hp:PassesOwn (model X.prog X.w) X.A X.env X.xe)(hc:X.calm=true)(hi:PI X tg iter wi)(hg:PG X tg g)(hb:yB X body tb)
  (hs:∀x,w_ iter X.env x=pure x:=by intro _;rfl):PS X (.For tg iter body [] pos) (fz wi g tb):=by
 intro J3 s σ H D I h;refine wpAny_For (ca (hi J3 s σ H _ I h) fun v s1 h1=>ca h1 fun itv s2 h2=>?_) hs;obtain⟨it,fp,tn,J,H2,e,I2,T,st2,f2,W,⟨m0,w0⟩,turn⟩:=h2;subst e;have stat:∀{H':Hp},(∀b∈fp,H' b=none)->∀b∈fp,lA X J3 H' b:=fun hn b hb=>⟨hn b hb,(f2 b hb).2⟩;refine codeAny_forLoop_any (fun n s'=>∃i σ' H',Inv X J3 σ' H' s'/\tn i s'.heap/\(∀b∈fp,H' b=none)/\W i n σ' H') ?_ m0 ⟨0,σ,H2,I2,st2,fun b hb=>(f2 b hb).1,w0⟩;rintro n s3 ⟨i,σ3,H3,I3,st3,fr3,w3⟩;rcases turn i n σ3 H3 w3 with⟨stop,qn⟩|⟨go,N,hN,step⟩
 ·refine qE hp (ca (T.done X rfl rfl rfl hc i J3 s3 σ3 H3 X.xe I3 (stat fr3) st3 stop) fun r s4 ⟨hr,I4⟩=>?_);subst hr;exact z_ ⟨σ3,H3,I4,qn⟩
 ·refine qE hp (ca (T.item X rfl rfl rfl hc i J3 s3 σ3 H3 X.xe I3 (stat fr3) st3 go) fun r s4 ⟨u,hr,h4⟩=>?_);subst hr;refine qE hp (ca h4 fun _ s5 ⟨x,H5,I5,r5,y5,st5,fr5⟩=>?_);have I5':=I5.pinned (stat fr5) (T.obj _ _ st5);refine qE hp (ca (hg _ s5 σ3 H5 x u _ I5' r5 (step x H5 y5)) fun _ s6 ⟨σ6,H6,I6,q6⟩=>?_);refine qE hp (ca (hb _ s6 σ6 H6 _ I6 q6) fun f s7 q7=>?_);have again:∀{σ7:St}{H7:Hp},Inv X (J3++rR fp s5.heap) σ7 H7 s7->N σ7 H7->∃m,m<n/\∃i σ' H',Inv X J3 σ' H' s7/\tn i s7.heap/\(∀b∈fp,H' b=none)/\W i m σ' H':=fun{σ7 H7} I7 n7=>by
   obtain⟨m',hm,w7⟩:=hN σ7 H7 n7;refine⟨m',hm,i+1,σ7,H7,I7.unpinned,T.keep _ _ _ st5 fun b hb o e=>(I7.pin (b,o) (dL _ (dL _ (jA hb e)))).1,fun b hb=>?_,w7⟩;obtain⟨o,e,d⟩:=T.obj _ _ st5 b hb;exact(I7.pin (b,o) (dL _ (dL _ (jA hb e)))).2.1
  cases f with
  |next=>obtain⟨σ7,H7,I7,n7⟩:=q7;exact again I7 n7
  |cont=>obtain⟨σ7,H7,I7,n7⟩:=q7;exact again I7 n7
  |brk=>obtain⟨σ7,H7,I7,q7⟩:=q7;exact⟨σ7,H7,I7.unpinned,q7⟩
  |ret v=>obtain⟨x7,σ7,H7,I7,r7,q7⟩:=q7;exact⟨x7,σ7,H7,I7.unpinned,r7,q7⟩
end
theorem cn{K:Za}{a:Addr}{xs:List V}{g:TG}{tb:TS}{D:qg}{σ:St}{H:Hp}(Pv:Nat->St->Hp->Prop)(h0:Pv 0 σ H)(hl:∀i σ H,i<=xs.length->Pv i σ H->ax K H a xs)
  (hs:∀i x σ H,xs[i]?=some x->Pv i σ H->g x σ H fun σ2 H2=>tb { D with nx:=Pv (i+1),ct:=Pv (i+1),bk:=D.nx } σ2 H2) (hd:∀σ H,Pv xs.length σ H->D.nx σ H) :
  ∃W:Nat->Nat->St->Hp->Prop,(∃m,W 0 m σ H)/\∀i m σ H,W i m σ H ->
   ((Ea K a).stop i H/\D.nx σ H)∨((Ea K a).go i H/\∃N:St->Hp->Prop,(∀σ' H',N σ' H'->∃m',m'<m/\W (i+1) m' σ' H')/\∀x H',(Ea K a).yld i H x H'->g x σ H' fun σ2 H2=>tb { D with nx:=N,ct:=N,bk:=D.nx } σ2 H2):=by
 refine⟨fun i m σ H=>m=xs.length-i/\i<=xs.length/\Pv i σ H,⟨xs.length,by simp,eS _,h0⟩,?_⟩;rintro i m σ H ⟨rfl,hi,p⟩;have q:=hl i σ H hi p;by_cases hlt:i<xs.length
 ·refine .inr ⟨⟨xs,xs[i],q,by simp[hlt]⟩,Pv (i+1),fun σ' H' p'=>⟨xs.length-(i+1),by omega,rfl,hlt,p'⟩,fun x H' y=>?_⟩;obtain⟨e,y⟩:=y;subst e;exact hs i x σ _ (y xs q) p
 ·have e:i=xs.length:=by omega
  subst e;exact .inl ⟨⟨xs,q,ay _⟩,hd σ H p⟩
theorem AE{K:Za}{a:Addr}{xs:List V}{g:TG}{tb:TS}{D:qg}{σ:St}{H:Hp}(Pv:Nat->St->Hp->Prop)(h0:Pv 0 σ H)(hl:∀i σ H,i<=xs.length->Pv i σ H->bC K H a xs)
  (hs:∀i x σ H,xs[i]?=some x->Pv i σ H->g x σ H fun σ2 H2=>tb { D with nx:=Pv (i+1),ct:=Pv (i+1),bk:=D.nx } σ2 H2) (hd:∀σ H,Pv xs.length σ H->D.nx σ H) :
  ∃W:Nat->Nat->St->Hp->Prop,(∃m,W 0 m σ H)/\∀i m σ H,W i m σ H ->
   ((Gq K a).stop i H/\D.nx σ H)∨((Gq K a).go i H/\∃N:St->Hp->Prop,(∀σ' H',N σ' H'->∃m',m'<m/\W (i+1) m' σ' H')/\∀x H',(Gq K a).yld i H x H'->g x σ H' fun σ2 H2=>tb { D with nx:=N,ct:=N,bk:=D.nx } σ2 H2):=by
 refine⟨fun i m σ H=>m=xs.length-i/\i<=xs.length/\Pv i σ H,⟨xs.length,by simp,eS _,h0⟩,?_⟩;rintro i m σ H ⟨rfl,hi,p⟩;have q:=hl i σ H hi p;by_cases hlt:i<xs.length
 ·refine .inr ⟨⟨xs,xs[i],q,by simp[hlt]⟩,Pv (i+1),fun σ' H' p'=>⟨xs.length-(i+1),by omega,rfl,hlt,p'⟩,fun x H' y=>?_⟩;obtain⟨e,y⟩:=y;subst e;exact hs i x σ _ (y xs q) p
 ·have e:i=xs.length:=by omega
  subst e;exact .inl ⟨⟨xs,q,ay _⟩,hd σ H p⟩
theorem k4{lo:Int}{n:Nat}{g:TG}{tb:TS}{D:qg}{σ:St}{H:Hp}(Pv:Nat->St->Hp->Prop)(h0:Pv 0 σ H)
  (hs:∀i σ H,i<n->Pv i σ H->g (.int (lo+i)) σ H fun σ2 H2=>tb { D with nx:=Pv (i+1),ct:=Pv (i+1),bk:=D.nx } σ2 H2) (hd:∀σ H,Pv n σ H->D.nx σ H) :
  ∃W:Nat->Nat->St->Hp->Prop,(∃m,W 0 m σ H)/\∀i m σ H,W i m σ H ->
   ((Gs lo n).stop i H/\D.nx σ H)∨((Gs lo n).go i H/\∃N:St->Hp->Prop,(∀σ' H',N σ' H'->∃m',m'<m/\W (i+1) m' σ' H')/\∀x H',(Gs lo n).yld i H x H'->g x σ H' fun σ2 H2=>tb { D with nx:=N,ct:=N,bk:=D.nx } σ2 H2):=by
 refine⟨fun i m σ H=>m=n-i/\i<=n/\Pv i σ H,⟨n,by simp,eS _,h0⟩,?_⟩;rintro i m σ H ⟨rfl,hi,p⟩;by_cases hlt:i<n
 ·refine .inr ⟨hlt,Pv (i+1),fun σ' H' p'=>⟨n-(i+1),by omega,rfl,hlt,p'⟩,fun x H' y=>?_⟩;obtain⟨e,y⟩:=y;subst e y;exact hs i σ _ hlt p
 ·have e:i=n:=by omega
  subst e;exact .inl ⟨ay _,hd σ H p⟩
end L2
namespace L2
open PySem PySem.Spec PyProof.Rows
abbrev R2:=V->V->Hp->VK->Prop
def lu(X:Cx)(f:Value->Value->Sem Value)(r:R2):Prop :=
 ∀(J3:Zd) (s:Shared) (σ:St) (H:Hp) (x y:V) (v u:Value) (Q:VK),Inv X J3 σ H s->RelV x v->RelV y u->r x y H Q ->
  wpAny (model X.prog X.w) X.A (f v u) (EP X J3 σ Q) X.xe s
def UnR(X:Cx)(f:Value->Sem Value)(r:V->Hp->VK->Prop):Prop :=
 ∀(J3:Zd) (s:Shared) (σ:St) (H:Hp) (x:V) (v:Value) (Q:VK),Inv X J3 σ H s->RelV x v->r x H Q ->
  wpAny (model X.prog X.w) X.A (f v) (EP X J3 σ Q) X.xe s
def fM(X:Cx)(f:Value)(r:List V->Hp->VK->Prop):Prop :=
 ∀(J3:Zd) (s:Shared) (σ:St) (H:Hp) (xs:List V) (us:Zf) (Q:VK),Inv X J3 σ H s->aQ xs us->r xs H Q ->
  wpAny (model X.prog X.w) X.A (call f us) (EP X J3 σ Q) X.xe s
def aI(r:R2)(ta tb:TE):TE:=fun σ H Q=>ta σ H fun x H1=>tb σ H1 fun y H2=>r x y H2 Q
def FM(r:V->Hp->VK->Prop)(ta:TE):TE:=fun σ H Q=>ta σ H fun x H1=>r x H1 Q
def rI(C:Int->Int->Prop)(g:Int->Int->V):R2:=fun x y H Q=>∃i j,x=.int i/\y=.int j/\C i j/\Q (g i j) H
def Aj(g:Int->Int->V):R2:=fun x y H Q=>∃i j,x=.int i/\y=.int j/\Q (g i j) H
def rU(g:Int->V):V->Hp->VK->Prop:=fun x H Q=>∃i,x=.int i/\Q (g i) H
section
variable{X:Cx}{a b c:Expr}{ta tb tc:TE}{pos:Pos}
theorem Gn(ha:PE X a ta)(hb:PE X b tb){J3:Zd}{s:Shared}{σ:St}{H:Hp}{R:V->V->Hp->Prop}(I:Inv X J3 σ H s)
  (h:ta σ H fun x H1=>tb σ H1 fun y H2=>R x y H2) {Q:Zc}{f:Value->Value->Sem Value}
  (hf:∀v u s2 x y H2,Inv X J3 σ H2 s2->RelV x v->RelV y u->R x y H2->wpAny (model X.prog X.w) X.A (f v u) Q X.xe s2) :
  wpAny (model X.prog X.w) X.A (eval a X.env) (fun v s₁=>wpAny (model X.prog X.w) X.A (eval b X.env) (fun u s₂=>wpAny (model X.prog X.w) X.A (f v u) Q X.xe s₂) X.xe s₁) X.xe s:=by
 refine ca (ha J3 s σ H _ I h) fun v s1 ⟨x,H1,I1,r1,q1⟩=>?_;refine ca (hb J3 s1 σ H1 _ I1 q1) fun u s2 ⟨y,H2,I2,r2,q2⟩=>?_;exact hf v u s2 x y H2 I2 r1 r2 q2
theorem aB{op:Operator}{r:R2}(ho:lu X (jW op) r)(ha:PE X a ta)(hb:PE X b tb):PE X (.BinOp a op b pos) (aI r ta tb):=by
 intro J3 s σ H Q I h;exact wpAny_BinOp (Gn ha hb I h fun v u s2 x y H2 I2 rx ry q=>ho J3 s2 σ H2 x y v u Q I2 rx ry q)
theorem uh{op:UnaryOp}{r:V->Hp->VK->Prop}(ho:UnR X (unaryOp op) r)(ha:PE X a ta):PE X (.UnaryOp op a pos) (FM r ta):=by
 intro J3 s σ H Q I h;exact UnaryOp_ (ca (ha J3 s σ H _ I h) fun v s1 ⟨x,H1,I1,r1,q1⟩=>ho J3 s1 σ H1 x v Q I1 r1 q1)
theorem Gw{f:Value->Value->Sem Value}{C:Int->Int->Prop}{g:Int->Int->Int}
  (rule:∀(i j:Int) (t u:Tok) (s:Shared) (Q:Zc) (E:Zc),C i j->Q (.int (g i j) s.toks) { s with toks:=s.toks+1 }->wpAny (model X.prog X.w) X.A (f (.int i t) (.int j u)) Q E s) :
  lu X f (rI C fun i j=>.int (g i j)):=by
 intro J3 s σ H x y v u Q I rx ry h;obtain⟨i,j,rfl,rfl,hc,q⟩:=h;obtain⟨t,rfl⟩:=rx;obtain⟨t',rfl⟩:=ry;exact rule i j t t' s _ _ hc ⟨.int (g i j),H,I.tok _,⟨_,rfl⟩,q⟩
theorem GQ{f:Value->Value->Sem Value}{g:Int->Int->Int}
  (rule:∀(i j:Int) (t u:Tok) (s:Shared) (Q:Zc) (E:Zc),Q (.int (g i j) s.toks) { s with toks:=s.toks+1 }->wpAny (model X.prog X.w) X.A (f (.int i t) (.int j u)) Q E s) :
  lu X f (Aj fun i j=>.int (g i j)):=by
 intro J3 s σ H x y v u Q I rx ry h;obtain⟨i,j,rfl,rfl,q⟩:=h;obtain⟨t,rfl⟩:=rx;obtain⟨t',rfl⟩:=ry;exact rule i j t t' s _ _ ⟨.int (g i j),H,I.tok _,⟨_,rfl⟩,q⟩
theorem ES{f:Value->Value->Sem Value}{g:Int->Int->Bool}
  (rule:∀(i j:Int) (t u:Tok) (s:Shared) (Q:Zc) (E:Zc),Q (.bool (g i j)) s->wpAny (model X.prog X.w) X.A (f (.int i t) (.int j u)) Q E s) :
  lu X f (Aj fun i j=>.bl (g i j)):=by
 intro J3 s σ H x y v u Q I rx ry h;obtain⟨i,j,rfl,rfl,q⟩:=h;obtain⟨t,rfl⟩:=rx;obtain⟨t',rfl⟩:=ry;exact rule i j t t' s _ _ ⟨.bl (g i j),H,I,rfl,q⟩
def Hb(i j:Int):Prop:=0<j/\j<1073741824
def Ha(i j:Int):Prop:=0<=j/\j<=1000000/\i.natAbs<2 ^ 64
def DX(i j:Int):Prop:=(-(2 ^ 64)<i/\i<2 ^ 64)∨(-(2 ^ 64)<j/\j<2 ^ 64)
theorem DX.ok{i j:Int}(h:DX i j):IntMulOk i j:=by
 rcases h with⟨h1,h2⟩|⟨h1,h2⟩
 ·exact .of_left (intBits_le_64 h1 h2)
 ·exact .of_right (intBits_le_64 h1 h2)
theorem cF:lu X (jW .Add) (Aj fun i j=>.int (i+j)):=GQ fun _ _ _ _ _ _ _ q=>add_int q
theorem h7:lu X (jW .Sub) (Aj fun i j=>.int (i-j)):=GQ fun _ _ _ _ _ _ _ q=>sub_int q
theorem h9:lu X (jW .Mult) (rI DX fun i j=>.int (i * j)):=Gw fun _ _ _ _ _ _ _ hc q=>mul_int q hc.ok
theorem Au:lu X (jW .FloorDiv) (rI Hb fun i j=>.int (i / j)):=Gw fun i j _ _ _ _ _ hc q=>by
 have h1:(0:Int)<j:=hc.1;have h2:j<1073741824:=hc.2;exact floordiv_int (by omega) (by rw[Int.fdiv_eq_ediv_of_nonneg i (by omega)];exact q) (.inl (PyProof.noPylong_small (by omega)))
theorem eL:lu X (jW .Mod) (rI (fun _ j=>0<j) fun i j=>.int (i % j)):=Gw fun i j _ _ _ _ _ hc q=>by
 have h1:(0:Int)<j:=hc;exact mod_int' (by omega) (by rw[Int.fmod_eq_emod_of_nonneg i (by omega)];exact q)
theorem C4:lu X (jW .Pow) (rI Ha fun i j=>.int (i ^ j.toNat)):=Gw fun _ _ _ _ _ _ _ hc q=>pow_int_small hc.1 hc.2.1 hc.2.2 q
theorem unI{f:Value->Sem Value}{g:Int->Int}
  (rule:∀(i:Int) (t:Tok) (s:Shared) (Q:Zc) (E:Zc),Q (.int (g i) s.toks) { s with toks:=s.toks+1 }->wpAny (model X.prog X.w) X.A (f (.int i t)) Q E s) :
  UnR X f (rU fun i=>.int (g i)):=by
 intro J3 s σ H x v Q I rx h;obtain⟨i,rfl,q⟩:=h;obtain⟨t,rfl⟩:=rx;exact rule i t s _ _ ⟨.int (g i),H,I.tok _,⟨_,rfl⟩,q⟩
theorem on:UnR X (unaryOp .USub) (rU fun i=>.int (-i)):=unI fun _ _ _ _ _ q=>neg_int q
end
def GH:V->V->Bool
 |.non,.non=>true | .non,.int _=>true | .int _,.non=>true | .non,.bl _=>true | .bl _,.non=>true | .non,.str _=>true | .str _,.non=>true
 |.int _,.int _=>true | .bl _,.bl _=>true | .str _,.str _=>true | .byt _,.byt _=>true
 |.int _,.str _=>true | .str _,.int _=>true | .bl _,.str _=>true | .str _,.bl _=>true
 |_,_=>false
def Bw:R2:=fun x y H Q=>GH x y=true/\Q (.bl (decide (x=y))) H
def Hi:R2:=fun x y H Q=>GH x y=true/\Q (.bl (!decide (x=y))) H
theorem AI{i j:Int}:decide (V.int i=V.int j)=(i==j):=by
 rw[w8];simp
theorem DE{i j:Bool}:decide (V.bl i=V.bl j)=(i==j):=by
 rw[w8];simp
theorem AG{i j:Str}:decide (V.str i=V.str j)=(i==j):=by
 rw[w8];simp
theorem AJ{i j:Array UInt8}:decide (V.byt i=V.byt j)=(i.toList==j.toList):=by
 rw[w8];cases i;cases j;simp
section
variable{X:Cx}{a b c:Expr}{ta tb tc:TE}{pos:Pos}
theorem bx{J3:Zd}{σ:St}{H:Hp}{s:Shared}{Q:VK}{k k':Bool}(I:Inv X J3 σ H s)(q:Q (.bl k) H)(e:k=k'):EP X J3 σ Q (.bool k') s:=by
 subst e;exact⟨.bl k,H,I,rfl,q⟩
theorem kq:lu X (eh .Eq) Bw:=by
 intro J3 s σ H x y v u Q I rx ry h;obtain⟨hs,q⟩:=h;cases x with
 |non =>
  cases rx;cases y with
  |non=>cases ry;exact PySem.EqNone.eq_none_none (bx I q (by simp))
  |bl j=>cases ry;exact PySem.EqNone.eq_none_bool (bx I q (by simp))
  |int j=>obtain⟨t',rfl⟩:=ry;exact PySem.EqNone.eq_none_int (bx I q (by simp))
  |str j=>obtain⟨t',rfl⟩:=ry;exact PySem.EqNone.eq_none_str (bx I q (by simp))
  |_=>exact absurd (show false=true from hs) gm
 |bl i =>
  cases rx;cases y with
  |non=>cases ry;exact PySem.EqNone.eq_bool_none (bx I q (by simp))
  |bl j=>cases ry;exact eq_bool (bx I q DE)
  |str j=>obtain⟨t',rfl⟩:=ry;exact PySem.EqMixed.eq_bool_str (bx I q (by simp))
  |_=>exact absurd (show false=true from hs) gm
 |int i =>
  obtain⟨t,rfl⟩:=rx;cases y with
  |non=>cases ry;exact PySem.EqNone.eq_int_none (bx I q (by simp))
  |int j=>obtain⟨t',rfl⟩:=ry;exact eq_int (bx I q AI)
  |str j=>obtain⟨t',rfl⟩:=ry;exact PySem.EqMixed.eq_int_str (bx I q (by simp))
  |_=>exact absurd (show false=true from hs) gm
 |str i =>
  obtain⟨t,rfl⟩:=rx;cases y with
  |non=>cases ry;exact PySem.EqNone.eq_str_none (bx I q (by simp))
  |bl j=>cases ry;exact PySem.EqMixed.eq_str_bool (bx I q (by simp))
  |int j=>obtain⟨t',rfl⟩:=ry;exact PySem.EqMixed.eq_str_int (bx I q (by simp))
  |str j=>obtain⟨t',rfl⟩:=ry;exact eq_str (bx I q AG)
  |_=>exact absurd (show false=true from hs) gm
 |byt i =>
  obtain⟨t,rfl⟩:=rx;cases y with
  |byt j=>obtain⟨t',rfl⟩:=ry;exact PySem.W.eq_bytes (bx I q AJ)
  |_=>exact absurd (show false=true from hs) gm
 |_=>cases y<;>exact absurd (show false=true from hs) gm
theorem C6:lu X (eh .NotEq) Hi:=by
 intro J3 s σ H x y v u Q I rx ry h;obtain⟨hs,q⟩:=h;cases x with
 |non =>
  cases rx;cases y with
  |non=>cases ry;exact PySem.EqNone.ne_none_none (bx I q (by simp))
  |bl j=>cases ry;exact PySem.EqNone.ne_none_bool (bx I q (by simp))
  |int j=>obtain⟨t',rfl⟩:=ry;exact PySem.EqNone.ne_none_int (bx I q (by simp))
  |str j=>obtain⟨t',rfl⟩:=ry;exact PySem.EqNone.ne_none_str (bx I q (by simp))
  |_=>exact absurd (show false=true from hs) gm
 |bl i =>
  cases rx;cases y with
  |non=>cases ry;exact PySem.EqNone.ne_bool_none (bx I q (by simp))
  |bl j=>cases ry;exact ne_bool (bx I q (congrArg not DE))
  |str j=>obtain⟨t',rfl⟩:=ry;exact PySem.EqMixed.ne_bool_str (bx I q (by simp))
  |_=>exact absurd (show false=true from hs) gm
 |int i =>
  obtain⟨t,rfl⟩:=rx;cases y with
  |non=>cases ry;exact PySem.EqNone.ne_int_none (bx I q (by simp))
  |int j=>obtain⟨t',rfl⟩:=ry;exact ne_int (bx I q (congrArg not AI))
  |str j=>obtain⟨t',rfl⟩:=ry;exact PySem.EqMixed.ne_int_str (bx I q (by simp))
  |_=>exact absurd (show false=true from hs) gm
 |str i =>
  obtain⟨t,rfl⟩:=rx;cases y with
  |non=>cases ry;exact PySem.EqNone.ne_str_none (bx I q (by simp))
  |bl j=>cases ry;exact PySem.EqMixed.ne_str_bool (bx I q (by simp))
  |int j=>obtain⟨t',rfl⟩:=ry;exact PySem.EqMixed.ne_str_int (bx I q (by simp))
  |str j=>obtain⟨t',rfl⟩:=ry;exact ne_str (bx I q (congrArg not AG))
  |_=>exact absurd (show false=true from hs) gm
 |byt i =>
  obtain⟨t,rfl⟩:=rx;cases y with
  |byt j=>obtain⟨t',rfl⟩:=ry;exact PySem.W.ne_bytes (bx I q (congrArg not AJ))
  |_=>exact absurd (show false=true from hs) gm
 |_=>cases y<;>exact absurd (show false=true from hs) gm
theorem uk:lu X (eh .Lt) (Aj fun i j=>.bl (decide (i<j))):=ES fun _ _ _ _ _ _ _ q=>lt_int q
theorem GP:lu X (eh .LtE) (Aj fun i j=>.bl (decide (i<=j))):=ES fun _ _ _ _ _ _ _ q=>le_int q
theorem At:lu X (eh .Gt) (Aj fun i j=>.bl (decide (j<i))):=ES fun _ _ _ _ _ _ _ q=>gt_int q
theorem C7:lu X (eh .GtE) (Aj fun i j=>.bl (decide (j<=i))):=ES fun _ _ _ _ _ _ _ q=>ge_int q
theorem By:lu X (eh .In) (fun x y H Q=>∃i j,x=.str i/\y=.str j/\Q (.bl (!(bc.Str.occurrences j i 0 j.length 1).isEmpty)) H):=by
 intro J3 s σ H x y v u Q I rx ry h;obtain⟨i,j,rfl,rfl,q⟩:=h;obtain⟨t,rfl⟩:=rx;obtain⟨t',rfl⟩:=ry;exact in_str (bx I q rfl)
theorem C_(b:Expr){op:CmpOp}(h:op≠.In:=by decide)(h2:op≠.NotIn:=by decide):jN op b=false:=by
 have e1:(op==CmpOp.In)=false:=by cases op<;>first|rfl|exact absurd rfl h
 have e2:(op==CmpOp.NotIn)=false:=by cases op<;>first|rfl|exact absurd rfl h2
 cases b<;>simp[jN,e1,e2]
theorem Aq{op:CmpOp}{r:R2}(ho:lu X (eh op) r)(ha:PE X a ta)(hb:PE X b tb)(hm:jN op b=false):PE X (.Compare a [op] [b] pos) (aI r ta tb):=by
 intro J3 s σ H Q I h;exact wpAny_Compare1 (Gn ha hb I h fun v u s2 x y H2 I2 rx ry q=>ho J3 s2 σ H2 x y v u Q I2 rx ry q) hm
def ba(t:TE):TT:=fun σ H Q=>t σ H fun x H'=>∃k,x=.bl k/\Q k H'
theorem Am{op:CmpOp}{r:R2}(ho:lu X (eh op) r)(ha:PE X a ta)(hb:PE X b tb)(hm:jN op b=false):PT X (.Compare a [op] [b] pos) (ba (aI r ta tb)):=by
 intro J3 s σ H Q I h;refine wpAny_isTrue_Compare1 (ca (ha J3 s σ H _ I h) fun v s1 ⟨x,H1,I1,r1,q1⟩=>ca (hb J3 s1 σ H1 _ I1 q1) fun u s2 ⟨y,H2,I2,r2,q2⟩ =>
  ca (ho J3 s2 σ H2 x y v u _ I2 r1 r2 q2) fun c s3 ⟨z,H3,I3,r3,k,e,q3⟩=>?_) hm
 subst e;cases r3;exact tW ⟨H3,I3,q3⟩
theorem oK:(ai:Nat)<2 ^ 63:=by rw[tT];decide
theorem rW:lu X (jW .Add) (fun x y H Q=>∃i j,x=.str i/\y=.str j/\i.length+j.length<=ai/\Q (.str (i++j)) H):=by
 intro J3 s σ H x y v u Q I rx ry h;obtain⟨i,j,rfl,rfl,hz,q⟩:=h;obtain⟨t,rfl⟩:=rx;obtain⟨t',rfl⟩:=ry;exact add_str (fun t' tk=>⟨.str (i++j),H,I.tok _,⟨_,rfl⟩,q⟩) hz
theorem vals1{x:V}{us:Zf}(r:aQ [x] us):∃u,us=[u]/\RelV x u:=by
 cases r with
 |cons r1 r2=>cases r2;exact⟨_,rfl,r1⟩
theorem vals2{x y:V}{us:Zf}(r:aQ [x,y] us):∃u w',us=[u,w']/\RelV x u/\RelV y w':=by
 cases r with
 |cons r1 r2 =>
  cases r2 with
  |cons r3 r4=>cases r4;exact⟨_,_,rfl,r1,r3⟩
end
end L2
namespace L2
open PySem PySem.Spec PyProof.Rows
structure zQ(h:Heap)(x dx C:Addr)(mA:Str->Option Value):Prop where
 obj:h.get? x=some (pe C dx)
 ns:h.Ns1 dx mA
 ne:dx≠x
theorem BD{h:Heap}{dx:Addr}{mA:Str->Option Value}(n:h.Ns1 dx mA):∃od,h.get? dx=some od/\∀name,z6 name od=some (mA name):=by
 obtain⟨o,es,ep,ho,hd,hk,_,hm⟩:=n;refine⟨o,ho,fun name=>?_⟩;have e:=hm name;unfold nsFind findBy at e;rw[<-Array.find?_toList]at e;unfold z6;rw[hd];dsimp only;split
 ·rename_i y q;rw[q]at e;exact congrArg some e
 ·rename_i q;rw[q]at e;have a:es.toList.any (·.refKey)=false:=by
   rw[List.any_eq_false];intro y hy;obtain⟨z,t,hkey⟩:=hk y (Array.mem_toList_iff.mp hy);simp[ka.refKey,hkey]
  have a':¬es.toList.any (·.refKey)=true:=by rw[a];exact gm
  rw[if_neg a'];exact congrArg some e
theorem zQ.look{h:Heap}{x dx C:Addr}{mA:Str->Option Value}(I:zQ h x dx C mA):∃od,PySem.W.InstAt h x (pe C dx) C (some od)/\∀name,z6 name od=some (mA name) :=
 let⟨od,ho,hl⟩:=BD I.ns
 ⟨od,⟨I.obj,rfl,rfl,ho⟩,hl⟩
section
variable{prog:bj}{w:World}{A:Around}{E:Zc}{s:Shared}{K:Za}{x dx C f:Addr}{mA:Str->Option Value}{name:Str}{v:Value}
theorem EW{expr:Bool}{Q:Zc}(X:K.In s.heap)(I:zQ s.heap x dx C mA)(hg:qC K C name=true)(hh:tS K C=true)
  (ha:cP K (.ref C) name=some none) (hv:mA name=some v) (hv':PySem.W.handedIn v=true) (h:Q v { s with toks:=s.toks+1 }) :
  wpAny (model prog w) A (getAttr (.ref x) name expr) Q E s:=by
 obtain⟨od,J,hl⟩:=I.look;exact PySem.W.get_value X J (PySem.W.plainGet_of hg).1 (PySem.W.findObj_own hh ha rfl (by rw[hl,hv])) hv' h
theorem Ds{pl:Sem Bool}{Q:Value×List Value->Shared->Prop}(X:K.In s.heap)(I:zQ s.heap x dx C mA)(hg:qC K C name=true)
  (hf:cP K (.ref C) name=some (some (.ref f))) (ht:w6 K (.ref f)=true) (hv:mA name=none) (h:Q (.ref f,[.ref x]) s) :
  wpAny (model prog w) A (pb (.ref x) name pl) Q E s:=by
 obtain⟨od,J,hl⟩:=I.look;exact PySem.W.method_fn X J (PySem.W.plainGet_of hg).1 (PySem.W.plainGet_of hg).2 hf (beq_iff_eq.mp ht) (by show(z6 name od).map (·.isSome)=some false;rw[hl,hv];rfl) h
theorem Et{ns:Zb}{Q:Unit->Shared->Prop}(X:K.In s.heap)(I:zQ s.heap x dx C mA)
  (hs:cP K (.ref C) "__setattr__"=some (some (.builtin "object.__setattr__"))) (hp:wZ K C=true) (ht:PySem.W.takerIn K C name=some none) (hh:tS K C=true)
  (hw:PySem.Within mA ns) (hsz:ns.length<=ai)
  (h:∀h',zQ h' x dx C (fun y=>if y=name then some v else mA y)->gD dx s.heap h'->Q () { s with heap:=h',toks:=s.toks+2 }) :
  wpAny (model prog w) A (setAttr (.ref x) name v) Q E s:=by
 obtain⟨od,J,hl⟩:=I.look;refine PySem.W.set_plain X J hs (PySem.W.osa_open (s:={ s with toks:=s.toks+1 }) (r:=none) X J hp ht fun b=>?_);obtain⟨cd,hc,hd'⟩:=PySem.W.any_some hh;have hx:s.heap.get? x=some ⟨.ref C,some dx,.plain,#[]⟩:=I.obj;refine ak (aF (ak (ak (wpAny_loadPart hx (ak (PySem.W.Looks.here (s:={ s with toks:=s.toks+1 }) (PySem.W.looks_clsIn X hc) ?_))))));rw[hd'];refine aF (a:=some dx) (ak (aF (ak ?_)));refine wpAny_nsSet1 (s:={ s with toks:=s.toks+1 }) I.ns fun h' hn2 hs2=>?_;obtain⟨oD,esD,epD,hoD,hdD,hcD⟩:=hn2.count (PySem.Within.cons name v hw);refine ak (wpAny_lookBehind hoD (by rw[hdD];exact pastItsLine_dict (aE hcD (by rw[fh];omega))) ?_);exact aF (h _ ⟨(hs2.2 _ (eT I.ne)).trans I.obj,hn2,I.ne⟩ hs2)
theorem Dg{R:Result->Shared->Prop}{vs:Zf}{kw:List (Str×Value)}(X:K.In s.heap)(hm:mI K C=true)
  (hi:cP K (.ref C) "__init__"=some (some (.ref f))) (hf:PySem.W.typeIn K (.ref f)=some (.type "function"))
  (h:zzl78 (model prog w) (A.under (.builtin "type.__call__" ⟨.ref C::vs,kw⟩)) (.call (.ref f) ⟨.ref (s.heap.objs.size+1)::vs,kw⟩) (PySem.W.InitBack (s.heap.objs.size+1) R)
   { s with heap:=(s.heap.push mH).push (pe C s.heap.objs.size) }) :
  zzl78 (model prog w) A (.call (.ref C) ⟨vs,kw⟩) R s:=by
 obtain⟨hh,g,d,t,os⟩:=s;exact PySem.W.make_core (PySem.W.makes_of X hm) (PySem.W.looks_findIn X hi) (fun self=>PySem.W.bind_fn X self hf) (.inl rfl) h
end
def cE(f:Str)(v:V):List (Str×V)->List (Str×V)
 |[]=>[(f,v)]
 | (g,x)::r=>if g=f then(g,v)::r else(g,x)::cE f v r
theorem bb(f g:Str)(v:V):∀fs:List (Str×V),(cE f v fs).lookup g=if g=f then some v else fs.lookup g
 |[]=>by
  show fL g [(f,v)]=_;by_cases h:g=f
  ·have hb:(g==f)=true:=beq_iff_eq.mpr h;simp only[fL,hb,if_pos h]
  ·have hb:(g==f)=false:=beq_eq_false_iff_ne.mpr h;simp only[fL,hb,if_neg h]
 | (k,x)::r=>by
  have ih:=bb f g v r;rw[show cE f v ((k,x)::r)=(if k=f then(k,v)::r else(k,x)::cE f v r)from rfl]
  by_cases hk:k=f
  ·rw[if_pos hk];by_cases h:g=k
   ·have hb:(g==k)=true:=beq_iff_eq.mpr h;simp only[fL,hb,if_pos (h.trans hk)]
   ·have hb:(g==k)=false:=beq_eq_false_iff_ne.mpr h;simp only[fL,hb,if_neg (fun e:g=f=>h (e.trans hk.symm))]
  ·rw[if_neg hk];by_cases h:g=k
   ·have hb:(g==k)=true:=beq_iff_eq.mpr h;simp only[fL,hb,if_neg (fun e:g=f=>hk (h.symm.trans e))]
   ·have hb:(g==k)=false:=beq_eq_false_iff_ne.mpr h;simp only[fL,hb];exact ih
theorem oN(f:Str)(v:V):∀fs:List (Str×V),f∈(cE f v fs).map (·.1)/\∀g,g∈fs.map (·.1)->g∈(cE f v fs).map (·.1)
 |[]=>⟨by simp[cE],fun g h=>by simp at h⟩
 | (k,x)::r=>by
  obtain⟨i1,i2⟩:=oN f v r;rw[show cE f v ((k,x)::r)=(if k=f then(k,v)::r else(k,x)::cE f v r)from rfl]
  by_cases hk:k=f
  ·rw[if_pos hk];subst hk;exact⟨by simp,fun g h=>by simpa using h⟩
  ·rw[if_neg hk];refine⟨?_,fun g h=>?_⟩
   ·rw[bm];exact dD _ i1
   ·rw[bm]at h ⊢;rcases cc.mp h with e|e
    ·exact cc.mpr (.inl e)
    ·exact dD _ (i2 g e)
theorem pq(f:Str)(v:V):∀fs:List (Str×V),(cE f v fs).length<=fs.length+1
 |[]=>by simp[cE]
 | (k,x)::r=>by
  have ih:=pq f v r;rw[show cE f v ((k,x)::r)=(if k=f then(k,v)::r else(k,x)::cE f v r)from rfl]
  by_cases hk:k=f
  ·rw[if_pos hk,fh,fh];omega
  ·rw[if_neg hk,fh,fh];omega
theorem jS.some_of{v:V}{o:Option Value}(r:jS (some v) o):∃u,o=some u/\RelV v u:=by
 cases o with
 |none=>exact(show False from r).elim
 |some u=>exact⟨u,rfl,r⟩
theorem jS.none_of{o:Option Value}(r:jS none o):o=none:=by
 cases o with
 |none=>rfl
 |some u=>exact(show False from r).elim
theorem BN{v:V}{u:Value}(r:RelV v u):PySem.W.handedIn u=true:=by
 cases v with
 |non=>cases(show u=Value.none from r);rfl
 |bl b=>cases(show u=Value.bool b from r);rfl
 |int i=>obtain⟨t,e⟩:=(show ∃t,u=Value.int i t from r);cases e;rfl
 |str x=>obtain⟨t,e⟩:=(show ∃t,u=Value.str x t from r);cases e;rfl
 |byt b=>obtain⟨t,e⟩:=(show ∃t,u=Value.bytes b t from r);cases e;rfl
 |flt b=>obtain⟨t,e⟩:=(show ∃t,u=Value.float b t from r);cases e;rfl
 |ref a=>cases(show u=Value.ref a from r);rfl
 |ty n=>cases(show u=Value.type n from r);rfl
section
variable{P:bj}{w:World}{H H':Hp}{h h':Heap}{a C dx:Addr}{fs fs':List (Str×V)}
theorem wr{K:Za}(hok:k_ P w K H h)(e:H a=some (.ins C dx fs)):∃mA,zQ h a dx C mA/\(∀f,jS (fs.lookup f) (mA f))/\PySem.Within mA (fs.map (·.1))/\fs.length<=1000/\H dx=some (.own a):=by
 obtain⟨d,z,ne,ob,mA,n,r,q⟩:=(show cq P w K H h a (.ins C dx fs)from hok a _ e);exact⟨mA,⟨ob,n,ne⟩,r,q,z,d⟩
end
structure AW(K:Za)(C:Addr):Prop where
 pg:qC K C z5=true
 hd:tS K C=true
 po:wZ K C=true
 sa:cP K (.ref C) "__setattr__"=some (some (.builtin "object.__setattr__"))
theorem AW.get{K:Za}{C:Addr}(c:AW K C)(f:Str):qC K C f=true:=c.pg
def db(K:Za)(C:Addr)(f:Str):Prop:=cP K (.ref C) f=some none
theorem db.taker{K:Za}{C:Addr}{f:Str}(n:db K C f):PySem.W.takerIn K C f=some none:=by
 unfold PySem.W.takerIn;rw[show cP K (.ref C) f=some none from n]
 rfl
structure Fl(K:Za)(C:Addr)(m:Str)(f:Addr):Prop where
 at_:cP K (.ref C) m=some (some (.ref f))
 fn:w6 K (.ref f)=true
 kp:gb K (.ref f)=true
section
variable{X:Cx}{J3:Zd}{σ:St}{H:Hp}{s:Shared}{a C dx:Addr}{fs:List (Str×V)}{f:Str}{v:V}{A:Around}{E:Zc}
theorem zD{b:Bool}{Q:Zc}(I:Inv X J3 σ H s)(e:H a=some (.ins C dx fs))(c:AW X.K C)(n:db X.K C f)(l:fs.lookup f=some v)
  (h:∀u s',Inv X J3 σ H s'->RelV v u->Q u s'):wpAny (model X.prog X.w) A (getAttr (.ref a) f b) Q E s:=by
 obtain⟨mA,O,r,_,_,_⟩:=wr I.hok e;obtain⟨u,hu,ru⟩:=jS.some_of (v:=v) (o:=mA f) (by rw[<-l];exact r f);exact EW I.kIn O (c.get f) c.hd n hu (BN ru) (h u _ (I.tok _) ru)
theorem sn{m:Str}{g:Addr}{pl:Sem Bool}{Q:Value×List Value->Shared->Prop}(I:Inv X J3 σ H s)(e:H a=some (.ins C dx fs))(c:AW X.K C)(k:Fl X.K C m g)(l:fs.lookup m=none)
  (h:Q (.ref g,[.ref a]) s):wpAny (model X.prog X.w) A (pb (.ref a) m pl) Q E s:=by
 obtain⟨mA,O,r,_,_,_⟩:=wr I.hok e;have hn:mA m=none:=jS.none_of (by rw[<-l];exact r m);exact Ds I.kIn O (c.get m) k.at_ k.fn hn h
theorem yY{y:V}{u:Value}{Q:Unit->Shared->Prop}(I:Inv X J3 σ H s)(e:H a=some (.ins C dx fs))(c:AW X.K C)(n:db X.K C f)(hl:fs.length<1000)(ry:RelV y u)
  (h:∀s',Inv X J3 σ (upd H a (.ins C dx (cE f y fs))) s'->Q () s'):wpAny (model X.prog X.w) A (setAttr (.ref a) f u) Q E s:=by
 obtain⟨mA,O,r,wi,_,ho⟩:=wr I.hok e;have hz:(fs.map (·.1)).length<=ai:=by rw[aj,tT];omega
 refine Et I.kIn O c.sa c.po n.taker c.hd wi hz fun h' O' sb=>h _ ?_;have hd:∃o,h'.get? dx=some o:=let⟨o,_,_,e',_⟩:=O'.ns;⟨o,e'⟩;refine I.write (x:=a) (e:=dx) (by rw[e];exact o_) (.inr ho) (fun b q hb z=>(sb.2 b hb).trans z) hd ?_;refine⟨by rw[ah O.ne];exact ho,?_,O.ne,O'.obj,_,O'.ns,fun g=>?_,fun g hg=>?_⟩
 ·have:=pq f y fs;omega
 ·show jS ((cE f y fs).lookup g) (if g=f then some u else mA g)
  rw[bb];by_cases q:g=f
  ·rw[if_pos q,if_pos q];exact ry
  ·rw[if_neg q,if_neg q];exact r g
 ·by_cases q:g=f
  ·rw[q];exact(oN f y fs).1
  ·refine(oN f y fs).2 g (wi g fun z=>hg ?_);show(if g=f then some u else mA g)=none
   rw[if_neg q];exact z
theorem Inv.made(I:Inv X J3 σ H s):Inv X J3 σ (upd (upd H s.heap.objs.size (.own (s.heap.objs.size+1))) (s.heap.objs.size+1) (.ins C s.heap.objs.size []))
  { s with heap:=(s.heap.push mH).push (pe C s.heap.objs.size) }:=by
 have e1:(s.heap.push mH).get? s.heap.objs.size=some mH:=cb s.heap rfl;have e2:((s.heap.push mH).push (pe C s.heap.objs.size)).get? (s.heap.objs.size+1)=some (pe C s.heap.objs.size):=by
  have:=cb (s.heap.push mH) (o:=pe C s.heap.objs.size) rfl;rwa[jV]at this
 have e3:(s.heap.push mH).Ns s.heap.objs.size (fun _=>none):=⟨mH,#[],_,e1,rfl,(fun e he=>absurd he (by simp)),fun _=>rfl⟩;have I1:=I.laid (a:=s.heap.objs.size) (o:=.own (s.heap.objs.size+1)) (h':=s.heap.push mH) (t':=s.toks) (fun b u q=>aO _ q) (ay _) ⟨_,e1⟩;refine I1.laid (a:=s.heap.objs.size+1) (o:=.ins C s.heap.objs.size []) (t':=s.toks) (fun b u q=>aO _ q) (Nat.le_of_eq (jV _ _)) ?_;have ne:s.heap.objs.size≠s.heap.objs.size+1:=bE (Nat.lt_succ_self _);refine⟨by rw[ah ne,aa],eS _,ne,e2,fun _=>none,(Heap.Ns1.of_empty e3).at fun o q=>aO _ q,fun _=>o_,fun y hy=>absurd rfl hy⟩
theorem Ff{prog:bj}{w:World}{env:Env}{e:Expr}{f:Str}{pos:Pos}{s:Shared}{Q:Zc}(hb:tR e f env (eval e env)=eval e env)
  (h:wpAny (model prog w) A (eval e env) (fun o s₁=>wpAny (model prog w) A (getAttr o f true) Q E s₁) E s):wpAny (model prog w) A (eval (.Attribute e f pos) env) Q E s :=
 Attribute_any_ h (by rw[arm_eval_Attribute,hb])
end
def hC(K:Za)(ta:TE)(f:Str):TE:=fun σ H Q=>ta σ H fun x H1=>∃a C dx fs v,x=.ref a/\H1 a=some (.ins C dx fs)/\AW K C/\db K C f/\fs.lookup f=some v/\Q v H1
def ng(K:Za)(ta tv:TE)(f:Str):TS:=fun D σ H=>tv σ H fun y H1=>ta σ H1 fun x H2=>∃a C dx fs,x=.ref a/\H2 a=some (.ins C dx fs)/\AW K C/\db K C f/\fs.length<1000 /\
 D.nx σ (upd H2 a (.ins C dx (cE f y fs)))
section
variable{X:Cx}{o e value:Expr}{f:Str}{pos pos' J7:Pos}{ta tv:TE}
theorem c9(he:PE X e ta)(hb:tR e f X.env (eval e X.env)=eval e X.env):PE X (.Attribute e f pos) (hC X.K ta f):=by
 intro J3 s σ H Q I h;refine Ff hb (ca (he J3 s σ H _ I h) fun u s1 ⟨x,H1,I1,rx,a,C,dx,fs,v,ex,ea,c,n,l,q⟩=>?_);subst ex;obtain rfl:u=Value.ref a:=rx;exact zD I1 ea c n l fun u' s2 I2 ru=>⟨v,H1,I2,ru,q⟩
theorem fQ(ha:PE X o ta)(hv:PE X value tv)(hs:pc value (some (.Attribute o f pos')) pos.line X.env=pure false):PS X (.Assign [.Attribute o f pos'] value pos) (ng X.K ta tv f):=by
 intro J3 s σ H D I h;refine plainObj_wpAny_Assign_Attribute (ca (hv J3 s σ H _ I h) fun u s1 ⟨y,H1,I1,ry,q⟩=>ca (ha J3 s1 σ H1 _ I1 q) fun ov s2 ⟨x,H2,I2,rx,a,C,dx,fs,ex,ea,c,n,l,q2⟩=>?_) hs;subst ex;obtain rfl:ov=Value.ref a:=rx;exact yY I2 ea c n l ry fun s3 I3=>⟨σ,_,I3,q2⟩
end
end L2
namespace L2
open PySem PySem.Spec PyProof.Rows
structure eg(k:Nat)(A:Around):Prop where
 hd:A.handled=none
 dp:A.depth+3 * k+5<recursionLimit
 un:A.units+16 * k+200<cLine
theorem eg.mono{j k:Nat}{A:Around}(r:eg k A)(h:j<=k):eg j A:=⟨r.hd,by have:=r.dp;omega,by have:=r.un;omega⟩
theorem eg.deeper{k:Nat}{A:Around}(r:eg (k+1) A)(env:Env):eg k (A.deeper env) :=
 ⟨r.hd,by have:=r.dp;show A.depth+1+3 * k+5<_;omega,by have:=r.un;show A.units+3+16 * k+200<_;omega⟩
theorem zr{A:Around}{C:Addr}{us:Zf}{kw:List (Str×Value)}:(A.under (.builtin "type.__call__" ⟨.ref C::us,kw⟩)).depth=A.depth+1:=by
 first|rfl|simp[Around.under,Code.weight,Code.isCreation,Code.isGuard,Code.isCaller,Code.frames,Code.isFrame,guardIds]
theorem zq{A:Around}{C:Addr}{us:Zf}{kw:List (Str×Value)}:(A.under (.builtin "type.__call__" ⟨.ref C::us,kw⟩)).units=A.units+1:=by
 first|rfl|simp[Around.under,Code.cUnits,Code.frames,Code.isFrame]
theorem eg.make{k:Nat}{A:Around}(r:eg (k+1) A)(C:Addr)(us:Zf)(kw:List (Str×Value)):eg k (A.under (.builtin "type.__call__" ⟨.ref C::us,kw⟩)) :=
 ⟨r.hd,by have:=r.dp;rw[zr];omega,by have:=r.un;rw[zq];omega⟩
theorem eg.depth{k:Nat}{A:Around}(r:eg k A):A.depth<recursionLimit:=by have:=r.dp;omega
theorem eg.units{k:Nat}{A:Around}(r:eg k A):A.units+64<cLine:=by have:=r.un;omega
def bF:TA:=fun _ H Q=>Q [] H
def ao(ta:TE)(tr:TA):TA:=fun σ H Q=>ta σ H fun x H1=>tr σ H1 fun xs H2=>Q (x::xs) H2
abbrev aH(a:TE):TA:=ao a bF
abbrev a_(a b:TE):TA:=ao a (ao b bF)
abbrev dz(a b c:TE):TA:=ao a (ao b (ao c bF))
section
variable{X:Cx}{e:Expr}{es:List Expr}{te:TE}{t:TA}{pos:Pos}
theorem cR:PA X [] bF:=fun _ _ _ _ H Q I h=>wY ⟨[],H,I,.nil,h⟩
theorem aG(ha:PE X e te)(hr:PA X es t)(hs:aA (e::es) X.env=(false,eval e X.env)::aA es X.env:=by rfl):PA X (e::es) (ao te t):=by
 intro pos J3 s σ H Q I h;rw[hs];show wpAny _ _ (spliced ((false,eval e X.env)::backTo pos (aA es X.env))) _ _ s;refine tQ (ca (ha J3 s σ H _ I h) fun u s1 ⟨x,H1,I1,r1,q1⟩=>?_);exact ca (hr pos J3 s1 σ H1 _ I1 q1) fun us s2 ⟨xs,H2,I2,r2,q2⟩=>⟨x::xs,H2,I2,.cons r1 r2,q2⟩
def bZ(t:TA):TE:=fun σ H Q=>t σ H fun xs H1=>xs.length<=ai/\∀p,H1 p=none->Q (.ref p) (upd H1 p (.tup xs))
def dQ(t:TA):TE:=fun σ H Q=>t σ H fun xs H1=>xs.length<=ai/\∀p,H1 p=none->Q (.ref p) (upd H1 p (.lst xs))
theorem aN{x1}(h:PA X es t):PE X (.Tuple es x1 pos) (bZ t):=by
 intro J3 s σ H Q I hq;refine wpAny_Tuple_spliced (ca (h pos J3 s σ H _ I hq) fun us s1 ⟨xs,H1,I1,r,z,q⟩=>⟨by rw[<-r.length];exact z,?_⟩);have hf:H1 s1.heap.objs.size=none:=I1.hok.fresh (ay _);refine⟨.ref s1.heap.objs.size,upd H1 s1.heap.objs.size (.tup xs),I1.laid (t':=s1.toks) (fun b u e=>aO _ e) (ay _) ?_,rfl,q _ hf⟩;exact⟨z,us,r,⟨_,cb _ rfl,rfl,_,rfl⟩⟩
theorem br(h:PA X es t):PE X (.List es pos) (dQ t):=by
 intro J3 s σ H Q I hq;refine wpAny_List_spliced (ca (h pos J3 s σ H _ I hq) fun us s1 ⟨xs,H1,I1,r,z,q⟩=>⟨by rw[<-r.length];exact z,?_⟩);have hf:H1 s1.heap.objs.size=none:=I1.hok.fresh (ay _);refine⟨.ref s1.heap.objs.size,upd H1 s1.heap.objs.size (.lst xs),I1.laid (t':=s1.toks) (fun b u e=>aO _ e) (ay _) ?_,rfl,q _ hf⟩;exact⟨z,us,0,r,cb _ rfl⟩
end
abbrev Sp:=List V->Hp->VK->XK->Prop
abbrev Cf:=List Env->Hp->Shared->XK->Value->Shared->Prop
structure zW(P:bj)(w:World)(K:Za)(mg:Str->Option Value)(base:Heap)(A:Around)(outer:List Env)(s:Shared)(H:Hp):Prop where
 frames:A.frames=some outer
 mod:Mod K mg base
 bs:∀b o,base.get? b=some o->s.heap.get? b=some o/\H b=none
 bsz:base.objs.size<=s.heap.objs.size
 funs:s.heap.FunFrames base outer
 frf:∀b∈Cc outer,H b=none
 hok:k_ P w K H s.heap
 bare:mK s.gens
def CE(outer:List Env)(P:bj)(w:World)(K:Za)(H:Hp)(s:Shared)(Q:VK)(u:Value)(s':Shared):Prop :=
 ∃v H',s'.os=s.os/\mK s'.gens/\Un (Cc outer) [] H H' s.heap s'.heap/\k_ P w K H' s'.heap/\RelV v u/\Q v H'
def CR(CX:Cf)(outer:List Env)(P:bj)(w:World)(K:Za)(H:Hp)(s:Shared)(Q:VK)(E:XK)(r:Result)(s':Shared):Prop :=
 match r with
 |.ok (.ret u)=>CE outer P w K H s Q u s'
 |.ok _=>False
 |.error e=>CX outer H s E e s'
structure kI(P:bj)(w:World)(K:Za)(mg:Str->Option Value)(base:Heap)(CX:Cf)(k:Nat)(f:Addr)(fd:jM)(ps:Zb)(sp:Sp):Prop where
 len:∀vs H Q E,sp vs H Q E->vs.length=ps.length
 run:∀(A:Around) (outer:List Env) (s:Shared) (H:Hp) (args:Args) (us:Zf) (vs:List V) (Q:VK) (E:XK),eg k A->zW P w K mg base A outer s H->qA s fd args (ps.zip us)->aQ vs us->sp vs H Q E ->
  zzl78 (model P w) A (.call (.ref f) args) (CR CX outer P w K H s Q E) s
theorem zW.make{P:bj}{w:World}{K:Za}{mg:Str->Option Value}{base:Heap}{A:Around}{outer:List Env}{s:Shared}{H:Hp}(e:zW P w K mg base A outer s H)(C:Addr)(us:Zf)(kw:List (Str×Value)):
  zW P w K mg base (A.under (.builtin "type.__call__" ⟨.ref C::us,kw⟩)) outer s H:=⟨by first|exact e.frames|(simpa[Around.under,Code.envs,Code.isFrame,pushEnvs]using e.frames),e.mod,e.bs,e.bsz,e.funs,e.frf,e.hok,e.bare⟩
section
variable{X:Cx}{J3:Zd}{σ:St}{H:Hp}{s s':Shared}
theorem Inv.env0(I:Inv X J3 σ H s):zW X.prog X.w X.K X.mg X.base X.A X.stack s H :=
 ⟨I.ok.frames,I.ok.mod,I.bs,aE I.ok.bsz I.sz,I.stack,I.stkFree,I.hok,I.bare⟩
theorem Inv.after{Q:VK}{u:Value}(I:Inv X J3 σ H s)(h:CE X.stack X.prog X.w X.K H s Q u s'):EP X J3 σ Q u s':=by
 obtain⟨v,H',os,bare,un,hok,r,q⟩:=h;obtain⟨hh,g,d,t,os'⟩:=s';obtain rfl:os'=s.os:=os;exact⟨v,H',I.call (h':=hh) (g':=g) (d':=d) (t':=t) (ch:=[]) un hok bare (fun b z=>absurd z (by simp)),r,q⟩
end
def Fq(sp:Sp)(dvs:List V)(E:XK)(t:TA):TE:=fun σ H Q=>t σ H fun vs H1=>sp (vs++dvs) H1 Q E
def cA(C:Addr)(m:Str)(sp:Sp)(dvs:List V)(E:XK)(ta:TE)(t:TA):TE:=fun σ H Q=>ta σ H fun x H1=>∃a dx fs,x=.ref a/\H1 a=some (.ins C dx fs)/\fs.lookup m=none /\
 t σ H1 fun vs H2=>sp (x::(vs++dvs)) H2 Q E
def ud(C:Addr)(sp:Sp)(dvs:List V)(E:XK)(t:TA):TE:=fun σ H Q=>t σ H fun vs H1=>∀x dx,H1 x=none->H1 dx=none->dx≠x ->
 sp (.ref x::(vs++dvs)) (upd (upd H1 dx (.own x)) x (.ins C dx [])) (fun v H2=>v=.non/\Q (.ref x) H2) E
def Binds(K:Za)(fd:jM)(ps:Zb)(ds:Zf):Prop :=
 ∀(s:Shared) (us:Zf),K.In s.heap->(us++ds).length=ps.length->qA s fd ⟨us,[]⟩ (ps.zip (us++ds))
theorem Binds.all{K:Za}{fd:jM}{ps:Zb}(h:∀us:List Value,us.length=ps.length->bindArgs fd ⟨us,[]⟩=pure (ps.zip us)):Binds K fd ps []:=fun s us _ hl=>by
 rw[ei]at hl ⊢;exact .of_eq (h us hl)
def mr(CX:Cf)(X:Cx)(E:XK):Prop:=∀(J3:Zd) (σ:St) (H:Hp) (s:Shared) (e:Value) (s':Shared),Inv X J3 σ H s->CX X.stack H s E e s'->X.xe e s'
section
variable{X:Cx}{CX:Cf}{k:Nat}{f C:Addr}{fd:jM}{ps:Zb}{sp:Sp}{dvs:List V}{ds:Zf}{E:XK}{x m:Str}{p pos J5:Pos}{e o:Expr}{es:List Expr}{ta:TE}{t:TA}
theorem yZ{J3:Zd}{σ:St}{H:Hp}{s:Shared}{Q:VK}{us:Zf}{vs:List V}(F:kI X.prog X.w X.K X.mg X.base CX k f fd ps sp)(hr:eg k X.A)(hb:Binds X.K fd ps ds)(hd:aQ dvs ds)(hx:mr CX X E)
  (I:Inv X J3 σ H s) (r:aQ vs us) (h:sp (vs++dvs) H Q E):wpAny (model X.prog X.w) X.A (call (.ref f) us) (EP X J3 σ Q) X.xe s:=by
 have r2:aQ (vs++dvs) (us++ds):=r.append hd;have hl:(us++ds).length=ps.length:=by rw[<-r2.length];exact F.len _ _ _ _ h
 refine wpAny_call (z0 (F.run X.A X.stack s H ⟨us,[]⟩ (us++ds) (vs++dvs) Q E hr I.env0 (hb s us I.kIn hl) r2 h) fun r s' hq=>?_);cases r with
 |error e=>exact hx J3 σ H s e s' I hq
 |ok fl =>
  cases fl with
  |ret u=>exact I.after hq
  |next=>exact iU hq
  |brk=>exact iU hq
  |cont=>exact iU hq
theorem EQ(F:kI X.prog X.w X.K X.mg X.base CX k f fd ps sp)(hr:eg k X.A)(hg:Gl X x)(hm:X.mg x=some (.ref f))(hk:gb X.K (.ref f)=true)(hb:Binds X.K fd ps ds)(hd:aQ dvs ds)(hx:mr CX X E)
  (ha:PA X (e::es) t) (hdb:(x==("__debug__":Str))=false:=by decide) (he:aA (e::es) X.env=(false,eval e X.env)::aA es X.env:=by rfl) (hpl:(backTo pos (aA es X.env)).any (·.1)=false:=by rfl) :
  PE X (.Call (.Name x p) (e::es) [] pos) (Fq sp dvs E t):=by
 intro J3 s σ H Q I h;refine zZ (wj I hg hm ?_ hdb);refine PySem.W.callWith_K (h₀:=X.base) I.ok.mod.kin hk (ca (ha pos J3 s σ H _ I h) fun us s1 ⟨vs,H1,I1,r,q⟩=>⟨I1.kIn,?_⟩) he hpl;exact yZ F hr hb hd hx I1 r q
theorem EL{pl:Sem Bool}(he:PE X o ta)(c:AW X.K C)(hm:Fl X.K C m f)(F:kI X.prog X.w X.K X.mg X.base CX k f fd ps sp)(hr:eg k X.A)(hb:Binds X.K fd ps ds)(hd:aQ dvs ds)(hx:mr CX X E)(ha:PA X (e::es) t)
  (hst:aA (e::es) X.env=(false,eval e X.env)::aA es X.env:=by rfl) (hpl:(backTo pos (aA es X.env)).any (·.1)=false:=by rfl)
  (ht:eval (.Call (.Attribute o m J5) (e::es) [] pos) X.env=(do
   let ov <- eval o X.env
   pd J5.atName
   let(f,first) <- jY [ov] (pb ov m pl)
   tP pos f first (backTo pos (aA (e::es) X.env)) (mG pos (mF [] X.env))):=by rfl) :
  PE X (.Call (.Attribute o m J5) (e::es) [] pos) (cA C m sp dvs E ta t):=by
 intro J3 s σ H Q I h;refine PySem.W.methodCall_KW (pl:=pl) (ca (he J3 s σ H _ I h) fun u s1 ⟨x,H1,I1,rx,a,dx,fs,ex,ea,l,q⟩=>?_) ht;subst ex;obtain rfl:u=Value.ref a:=rx;refine sn I1 ea c hm l ?_;refine PySem.W.callWith_K (first:=[.ref a]) (h₀:=X.base) I.ok.mod.kin hm.kp (ca (ha pos J3 s1 σ H1 _ I1 q) fun us s2 ⟨vs,H2,I2,r,q2⟩=>⟨I2.kIn,?_⟩) hst hpl
 exact yZ (us:=.ref a::us) (vs:=.ref a::vs) F hr hb hd hx I2 (.cons rfl r) q2
theorem C2{pl:Sem Bool}(he:PE X o ta)(c:AW X.K C)(hm:Fl X.K C m f)(F:kI X.prog X.w X.K X.mg X.base CX k f fd ps sp)(hr:eg k X.A)(hb:Binds X.K fd ps ds)(hd:aQ dvs ds)(hx:mr CX X E)
  (ht:eval (.Call (.Attribute o m J5) [] [] pos) X.env=(do
   let ov <- eval o X.env
   pd J5.atName
   let(f,first) <- jY [ov] (pb ov m pl)
   tP pos f first (backTo pos (aA [] X.env)) (mG pos (mF [] X.env))):=by rfl) :
  PE X (.Call (.Attribute o m J5) [] [] pos) (cA C m sp dvs E ta bF):=by
 intro J3 s σ H Q I h;refine PySem.W.methodCall_KW (pl:=pl) (ca (he J3 s σ H _ I h) fun u s1 ⟨x,H1,I1,rx,a,dx,fs,ex,ea,l,q⟩=>?_) ht;subst ex;obtain rfl:u=Value.ref a:=rx;refine sn I1 ea c hm l ?_;exact PySem.W.callWith_K0 (first:=[.ref a]) I1.kIn hm.kp (yZ (us:=[.ref a]) (vs:=[.ref a]) F hr hb hd hx I1 (.cons rfl .nil) q)
structure Mk(K:Za)(C f:Addr):Prop where
 makes:mI K C=true
 init:cP K (.ref C) "__init__"=some (some (.ref f))
 fn:w6 K (.ref f)=true
 kp:gb K (.ref C)=true
theorem CD{J3:Zd}{σ:St}{H:Hp}{s:Shared}{Q:VK}{us:Zf}{vs:List V}(M:Mk X.K C f)(F:kI X.prog X.w X.K X.mg X.base CX k f fd ps sp)(hr:eg (k+1) X.A)(hb:Binds X.K fd ps ds)(hd:aQ dvs ds)
  (hx:mr CX X E) (I:Inv X J3 σ H s) (r:aQ vs us)
  (h:∀x dx,H x=none->H dx=none->dx≠x->sp (.ref x::(vs++dvs)) (upd (upd H dx (.own x)) x (.ins C dx [])) (fun v H2=>v=.non/\Q (.ref x) H2) E) :
  wpAny (model X.prog X.w) X.A (call (.ref C) us) (EP X J3 σ Q) X.xe s:=by
 have hq:=h (s.heap.objs.size+1) s.heap.objs.size (I.hok.fresh (Nat.le_succ _)) (I.hok.fresh (ay _)) (bE (Nat.lt_succ_self _));have I2:=Inv.made (C:=C) I;have r2:aQ (V.ref (s.heap.objs.size+1)::(vs++dvs)) (Value.ref (s.heap.objs.size+1)::(us++ds)):=.cons rfl (r.append hd);have hl:(Value.ref (s.heap.objs.size+1)::us++ds).length=ps.length:=by
  have e:=r2.length;rw[F.len _ _ _ _ hq]at e;exact e.symm
 refine wpAny_call (Dg (f:=f) I.kIn M.makes M.init (beq_iff_eq.mp M.fn) (z0 (F.run _ X.stack _ _ ⟨Value.ref (s.heap.objs.size+1)::us,[]⟩ (Value.ref (s.heap.objs.size+1)::(us++ds)) _ _ E (hr.make C us [])
  (I2.env0.make C us []) (hb _ (Value.ref (s.heap.objs.size+1)::us) I2.kIn hl) r2 hq) fun r s' hq'=>?_))
 cases r with
 |error e=>exact hx J3 σ _ _ e s' I2 hq'
 |ok fl =>
  cases fl with
  |ret u =>
   obtain⟨v,H',I3,rv,ev,q3⟩:=I2.after hq';subst ev;exact⟨rv,⟨V.ref (s.heap.objs.size+1),H',I3,rfl,q3⟩⟩
  |next=>exact iU hq'
  |brk=>exact iU hq'
  |cont=>exact iU hq'
theorem EM(M:Mk X.K C f)(F:kI X.prog X.w X.K X.mg X.base CX k f fd ps sp)(hr:eg (k+1) X.A)(hg:Gl X x)(hm:X.mg x=some (.ref C))(hb:Binds X.K fd ps ds)(hd:aQ dvs ds)(hx:mr CX X E)
  (ha:PA X (e::es) t) (hdb:(x==("__debug__":Str))=false:=by decide) (he:aA (e::es) X.env=(false,eval e X.env)::aA es X.env:=by rfl) (hpl:(backTo pos (aA es X.env)).any (·.1)=false:=by rfl) :
  PE X (.Call (.Name x p) (e::es) [] pos) (ud C sp dvs E t):=by
 intro J3 s σ H Q I h;refine zZ (wj I hg hm ?_ hdb);refine PySem.W.callWith_K (h₀:=X.base) I.ok.mod.kin M.kp (ca (ha pos J3 s σ H _ I h) fun us s1 ⟨vs,H1,I1,r,q⟩=>⟨I1.kIn,?_⟩) he hpl;exact CD M F hr hb hd hx I1 r q
end
structure jF(N P:Zb)(sc:Scope):Prop where
 kind:sc.kind=.function
 co:sc.isCoroutine=false
 gen:sc.isGenerator=false
 nd:N.Nodup
 pre:N.take P.length=P
 par:∀x∈P,sc.names.lookup x=some .local∨sc.names.lookup x=some .cell
 nofree:∀y∈sc.names,y.2≠.free
theorem uD{kindOf:Str->Option iT}{x:Str}:∀{binds:List (Str×Value)}{m:Str->Option Value},(∀v,(x,v)∉binds)->bindL kindOf binds m x=m x
 |[],_,_=>rfl
 | (n,v)::r,m,h=>by
  unfold bindL;rw[uD fun w hw=>h w (dD _ hw)];split
  ·have:x≠n:=by rintro rfl;exact h v dE
   simp[this]
  ·rfl
theorem uF{kindOf:Str->Option iT}{x:Str}:∀{binds:List (Str×Value)}{m:Str->Option Value},(∀v,(x,v)∉binds)->bindC kindOf binds m x=m x
 |[],_,_=>rfl
 | (n,v)::r,m,h=>by
  unfold bindC;rw[uF fun w hw=>h w (dD _ hw)];split
  ·rfl
  ·have:x≠n:=by rintro rfl;exact h v dE
   simp[this]
theorem uE{kindOf:Str->Option iT}{x:Str}{v:Value}:∀{P:Zb}{vs:Zf}{i:Nat}{m:Str->Option Value},P.Nodup->P[i]?=some x->vs[i]?=some v->kindOf x=some .local ->
  bindL kindOf (P.zip vs) m x=some v
 |[],_,_,_,_,h,_,_=>by simp at h
 |_::_,[],_,_,_,_,h,_=>by simp at h
 |p::P,w::vs,0,m,nd,h1,h2,hk=>by
  simp at h1 h2;subst h1;subst h2;show bindL kindOf ((p,w)::P.zip vs) m p=_;unfold bindL;rw[uD fun v hv=>(iw.mp nd).1 (List.of_mem_zip hv).1,if_pos hk];simp
 |p::P,w::vs,i+1,m,nd,h1,h2,hk=>by
  show bindL kindOf ((p,w)::P.zip vs) m x=_;unfold bindL;exact uE (i:=i) (iw.mp nd).2 (by simpa using h1) (by simpa using h2) hk
theorem uG{kindOf:Str->Option iT}{x:Str}{v:Value}:∀{P:Zb}{vs:Zf}{i:Nat}{m:Str->Option Value},P.Nodup->P[i]?=some x->vs[i]?=some v->kindOf x≠some .local ->
  bindC kindOf (P.zip vs) m x=some v
 |[],_,_,_,_,h,_,_=>by simp at h
 |_::_,[],_,_,_,_,h,_=>by simp at h
 |p::P,w::vs,0,m,nd,h1,h2,hk=>by
  simp at h1 h2;subst h1;subst h2;show bindC kindOf ((p,w)::P.zip vs) m p=_;unfold bindC;rw[uF fun v hv=>(iw.mp nd).1 (List.of_mem_zip hv).1,if_neg hk];simp
 |p::P,w::vs,i+1,m,nd,h1,h2,hk=>by
  show bindC kindOf ((p,w)::P.zip vs) m x=_;unfold bindC;exact uG (i:=i) (iw.mp nd).2 (by simpa using h1) (by simpa using h2) hk
def start(N:Zb)(vs:List V):St:=vs.map some++List.replicate (N.length-vs.length) none
def zH(CX:Cf)(P:bj)(w:World)(K:Za)(mg:Str->Option Value)(base:Heap)(N:Zb)(qual:Str)(scope:Scope)(f:Addr)(cd:Value)(A:Around)(outer:List Env)(s:Shared)(H:Hp)(E:XK):Cx where
 prog:=P
 w:=w
 K:=K
 mg:=mg
 base:=base
 A:=A.deeper (envOfC qual scope s.heap.objs.size f cd)
 N:=N
 s₀:=s
 H₀:=H
 env:=envOfC qual scope s.heap.objs.size f cd
 outer:=outer
 stack:=envOfC qual scope s.heap.objs.size f cd::outer
 ex:=[]
 calm:=true
 fn:=fun _=>true
 pn:=[]
 xe:=fun e s'=>wpAny (model P w) (A.deeper (envOfC qual scope s.heap.objs.size f cd)) (leaving (envOfC qual scope s.heap.objs.size f cd) e) (fun _ s''=>CX outer H s E e s'') (fun e' s''=>CX outer H s E e' s'') s'
theorem yh{sc:Scope}{n:Nat}{x:Str}(h:sc.names.lookup x=some .cell):∃c,(cellsFrom n sc.names []).lookup x=some c:=by
 have q:=PySem.W.cellsFrom_some sc.names n [] (.inl h);exact zY.mp q
theorem BK{CX:Cf}{P:bj}{w:World}{K:Za}{mg:Str->Option Value}{base:Heap}{N ps:Zb}{qual:Str}{scope:Scope}{f:Addr}{cd:Value}{A:Around}{outer:List Env}{s s1:Shared}{H:Hp}{E:XK}{us:Zf}{vs:List V}
  (S:jF N ps scope) (hd:A.handled=none) (e0:zW P w K mg base A outer s H) (hl:vs.length=ps.length) (r:aQ vs us)
  (x:InCallC s s.heap.objs.size (bindL (envOfC qual scope s.heap.objs.size f cd).kindOf (ps.zip us) fun _=>none) (cellsFrom (s.heap.objs.size+1) scope.names []) (bindC (envOfC qual scope s.heap.objs.size f cd).kindOf (ps.zip us) fun _=>none) s1) :
  Inv (zH CX P w K mg base N qual scope f cd A outer s H E) [] (start N vs) H s1:=by
 have hpl:ps.length<=N.length:=by have:=congrArg List.length S.pre;rw[aD]at this;omega
 obtain⟨h1,tk,rfl,hk⟩:=x.done;have noA:∀b:Addr,b∉(zH CX P w K mg base N qual scope f cd A outer s H E).ex:=fun b z=>absurd (show b∈([]:Ze)from z) (by simp);refine⟨⟨e0.mod,S.kind,rfl,rfl,ay _,fun y z c h1 h2=>?_,fun y hy=>?_,fun y c _ h=>?_,fun _=>hd,Around.frames_deeper e0.frames,.inr ⟨rfl,rfl⟩,fun b z=>absurd z (noA b),e0.bs,e0.bsz,fun b _ _=>noA b,fun b z=>absurd z (noA b),e0.funs,e0.frf⟩,
  rfl,e0.bare,Un.kept hk,⟨_,x.toInCall.ns,fun i y v h1 h2 h3=>?_⟩,fun y c h=>⟨_,x.cell y c h⟩,e0.hok.fresh (ay _),fun y c h=>?_,fun p hp=>absurd (show p∈([]:Zd)from hp) (by simp),e0.hok.kept hk,?_⟩
 ·exact name_of_addr x.apart (re h1) (re h2)
 ·have hy:scope.names.lookup y=some .cell∨scope.names.lookup y=some .free:=hy;rcases hy with hy|hy
  ·exact yh hy
  ·exact absurd rfl (S.nofree _ (re hy))
 ·exact cL (x.above y c (re h))
 ·have hi:i<vs.length:=by
   unfold start at h2;by_cases hi:i<vs.length
   ·exact hi
   ·rw[List.getElem?_append_right (by simpa using hi)]at h2;rw[List.getElem?_replicate]at h2;split at h2<;>cases h2
  have ha:vs[i]?=some v:=by
   unfold start at h2;rw[rc (by simpa using hi),cD]at h2;cases e:vs[i]? with
   |none=>rw[e]at h2;cases h2
   |some a=>rw[e]at h2;cases h2;rfl
  obtain⟨u,hu,rv⟩:=r.get ha;have hp:ps[i]?=some y:=by
   rw[<-S.pre,List.getElem?_take_of_lt (by omega)];exact h1
  have ndP:ps.Nodup:=by rw[<-S.pre];exact S.nd.sublist (List.take_sublist _ _)
  refine⟨u,rv,?_⟩;rcases S.par y (cw hp)with k|k
  ·exact .inl ⟨k,uE ndP hp hu k⟩
  ·obtain⟨c,e⟩:=yh (n:=s.heap.objs.size+1) k;refine .inr ⟨.inl k,c,e,?_⟩;have q:=x.cell y c e;rw[uG ndP hp hu (by show scope.names.lookup y≠_;rw[k];decide)]at q;exact q
 ·exact e0.hok.fresh (cL (x.above y c (re h)))
 ·unfold start;show _=N.length;rw[aU,aj,List.length_replicate];omega
theorem GY{CX:Cf}{P:bj}{w:World}{K:Za}{mg:Str->Option Value}{base:Heap}{k:Nat}{f:Addr}{name qual:Str}{params:Arguments}{body:List Stmt}{scope:Scope}{dV kV doc pm cdv ct oc:Value}{an od:Option Addr}
  {osl:Array (Option Value)}{N ps:Zb}{sp:Sp}(lk:K.lookup f=some ⟨oc,od,.func (g9 name qual params body scope dV kV doc pm an cdv ct),osl⟩) (hcd:lT K cdv qual=true) (S:jF N ps scope)
  (len:∀vs H Q E,sp vs H Q E->vs.length=ps.length)
  (hbody:∀(A:Around) (outer:List Env) (s:Shared) (H:Hp) (vs:List V) (Q:VK) (E:XK),eg k (A.deeper (envOfC qual scope s.heap.objs.size f cdv))->sp vs H Q E ->
   ∃t,yB (zH CX P w K mg base N qual scope f cdv A outer s H E) body t/\t (bh Q) (start N vs) H) :
  kI P w K mg base CX (k+1) f (g9 name qual params body scope dV kV doc pm an cdv ct) ps sp:=by
 refine⟨len,fun A outer s H args us vs Q E hr e0 hb r hsp=>?_⟩;have hl:=len _ _ _ _ hsp;have KX:K.In s.heap:=e0.mod.kin.keeps fun b o e=>(e0.bs b o e).1;have lim:s.heap.NoLimit:=e0.mod.nolimit.keeps fun b o e=>(e0.bs b o e).1;have hkind:∀y∈ps.zip us,scope.names.lookup y.1=some .local∨(scope.names.lookup y.1=some .cell/\((cellsFrom (s.heap.objs.size+1) scope.names []).lookup y.1).isSome=true):=fun⟨n,v⟩ hy=>by
  rcases S.par n (List.of_mem_zip hy).1 with q|q
  ·exact .inl q
  ·exact .inr ⟨q,PySem.W.cellsFrom_some _ _ _ (.inl q)⟩
 refine codeAny_call_function hr.depth (KX _ _ lk) rfl S.co S.gen rfl (PySem.W.codeRec_of KX hcd) (hb _ _ _ _ ?_);refine wpAny_newFunctionEnv_cells S.kind hkind fun env he s1 x=>?_;subst he;refine⟨lim.keeps x.toInCall.keep,codeAny_func ?_⟩;obtain⟨t,ht,hq⟩:=hbody A outer s H vs Q E (hr.deeper _) hsp;have I:Inv (zH CX P w K mg base N qual scope f cdv A outer s H E) [] (start N vs) H s1:=BK S hr.hd e0 hl r x;refine mL (ht [] s1 (start N vs) H _ I hq) (fun fl s' hs=>?_) fun e s' hs=>hs;have fin:∀{σ':St}{H':Hp}{v:V}{u:Value},Inv (zH CX P w K mg base N qual scope f cdv A outer s H E) [] σ' H' s'->RelV v u->Q v H'->CE outer P w K H s Q u s' :=
  fun{σ' H' v u} J rv q=>⟨v,H',J.os,J.bare,J.base,J.hok,rv,q⟩
 cases fl with
 |ret u =>
  obtain⟨v,σ',H',J,rv,q⟩:=hs;exact fin J rv q
 |next =>
  obtain⟨σ',H',J,q⟩:=hs;exact fin (v:=V.non) (u:=Value.none) J rfl q
 |brk =>
  obtain⟨_,_,_,q⟩:=hs;exact iU q
 |cont =>
  obtain⟨_,_,_,q⟩:=hs;exact iU q
end L2
namespace L2
open PySem PySem.Spec PyProof.Rows
section
variable{X:Cx}{x:Str}{p pos:Pos}{e:Expr}{es:List Expr}{t:TA}{id T:String}{r:List V->Hp->VK->Prop}
def im(r:List V->Hp->VK->Prop)(t:TA):TE:=fun σ H Q=>t σ H fun vs H1=>r vs H1 Q
theorem xI(hc:fM X (.builtin id) r)(hg:Gl X x)(hm:X.mg x=none)(hv:lD x=some (.builtin id))(ha:PA X (e::es) t)(hn:x≠"__name__":=by decide)(hdb:(x==("__debug__":Str))=false:=by decide)
  (he:aA (e::es) X.env=(false,eval e X.env)::aA es X.env:=by rfl) (hpl:(backTo pos (aA es X.env)).any (·.1)=false:=by rfl):PE X (.Call (.Name x p) (e::es) [] pos) (im r t):=by
 intro J3 s σ H Q I h;refine zZ (iQ I hg hm hv ?_ hn hdb);exact PyProof.Rows.callWith_builtin1 (ca (ha pos J3 s σ H _ I h) fun us s1 ⟨vs,H1,I1,r1,q1⟩=>hc J3 s1 σ H1 vs us Q I1 r1 q1) he hpl
theorem d6(hc:fM X (.type T) r)(hg:Gl X x)(hm:X.mg x=none)(hv:lD x=some (.type T))(ha:PA X (e::es) t)(hn:x≠"__name__":=by decide)(hdb:(x==("__debug__":Str))=false:=by decide)
  (he:aA (e::es) X.env=(false,eval e X.env)::aA es X.env:=by rfl) (hpl:(backTo pos (aA es X.env)).any (·.1)=false:=by rfl):PE X (.Call (.Name x p) (e::es) [] pos) (im r t):=by
 intro J3 s σ H Q I h;refine zZ (iQ I hg hm hv ?_ hn hdb);exact mJ (ca (ha pos J3 s σ H _ I h) fun us s1 ⟨vs,H1,I1,r1,q1⟩=>hc J3 s1 σ H1 vs us Q I1 r1 q1) he hpl
end
end L2
namespace HT
open PySem PyProof.Rows
section
variable{prog:bj}{w:World}{A:Around}{E:Zc}{s:Shared}
def sIx(n d:Nat):Option Int->Nat
 |none=>d
 |some v=>if v<0 then(v+(n:Int)).toNat else min v.toNat n
theorem sIx_none(n d:Nat):sIx n d none=d:=rfl
theorem sIx_nat(n d k:Nat):sIx n d (some (k:Int))=min k n:=by
 show(if(k:Int)<0 then((k:Int)+(n:Int)).toNat else min (k:Int).toNat n)=min k n
 rw[if_neg (by omega),jq]
theorem sIx_le(n d:Nat)(hd:d<=n)(o:Option Int):sIx n d o<=n:=by
 cases o with
 |none=>exact hd
 |some v =>
  show(if v<0 then(v+(n:Int)).toNat else min v.toNat n)<=n
  by_cases hv:v<0
  ·rw[if_pos hv];omega
  ·rw[if_neg hv];exact Nat.min_le_right _ _
theorem clip_eq(v:Int)(n d:Nat):(if v<0 then max (v+(n:Int)) 0 else min v (n:Int))=((sIx n d (some v):Nat):Int):=by
 show(if v<0 then max (v+(n:Int)) 0 else min v (n:Int))=(((if v<0 then(v+(n:Int)).toNat else min v.toNat n):Nat):Int)
 by_cases hv:v<0
 ·simp only[if_pos hv];omega
 ·simp only[if_neg hv];omega
end
end HT
namespace L2
open PySem PySem.Spec PyProof.Rows
abbrev TO:=St->Hp->(Option Int->Hp->Prop)->Prop
def PO(X:Cx)(e:Option Expr)(t:TO):Prop :=
 ∀(J3:Zd) (s:Shared) (σ:St) (H:Hp) (Q:Option Int->Hp->Prop),Inv X J3 σ H s->t σ H Q ->
  wpAny (model X.prog X.w) X.A (evalPart e X.env) (fun u s'=>∃o H',Inv X J3 σ H' s'/\IsPart u o/\Q o H') X.xe s
def c6:TO:=fun _ H Q=>Q none H
def fx(t:TE):TO:=fun σ H Q=>t σ H fun x H1=>∃i,x=.int i/\Q (some i) H1
section
variable{X:Cx}{e:Expr}{te:TE}{lo hi:Option Expr}{tl th:TO}{pos p2:Pos}
theorem dH:PO X none c6:=by
 intro J3 s σ H Q I h;rw[evalPart_none];exact aF ⟨none,H,I,.none,h⟩
theorem cy(h:PE X e te):PO X (some e) (fx te):=by
 intro J3 s σ H Q I hw;rw[evalPart_some];refine ca (h J3 s σ H _ I hw) fun u s1 ⟨x,H1,I1,r1,q1⟩=>?_;obtain⟨i,rfl,q⟩:=q1;obtain⟨t,rfl⟩:=r1;exact⟨some i,H1,I1,.int i t,q⟩
def SlR(X:Cx)(r:V->Option Int->Option Int->Hp->VK->Prop):Prop :=
 ∀(J3:Zd) (s:Shared) (σ:St) (H:Hp) (x:V) (v vl vu:Value) (lo hi:Option Int) (sl:Addr) (Q:VK),Inv X J3 σ H s->RelV x v->s.heap.IsSliceOf sl vl vu .none->IsPart vl lo->IsPart vu hi->r x lo hi H Q ->
  ∃T id,q_ (.type T) "__getitem__"=pure (some (.builtin id))/\s.TypeIs v T/\wpAny (model X.prog X.w) X.A (lS v (.ref sl)) (EP X J3 σ Q) X.xe s
def xr(r:V->Option Int->Option Int->Hp->VK->Prop)(te:TE)(tl th:TO):TE:=fun σ H Q=>te σ H fun x H1=>tl σ H1 fun l H2=>th σ H2 fun u H3=>r x l u H3 Q
theorem cj{r:V->Option Int->Option Int->Hp->VK->Prop}(hr:SlR X r)(he:PE X e te)(hl:PO X lo tl)(hu:PO X hi th):PE X (.Subscript e (.Slice lo hi none p2) pos) (xr r te tl th):=by
 intro J3 s σ H Q I h;refine vo (ca (he J3 s σ H _ I h) fun v s1 ⟨x,H1,I1,r1,q1⟩=>?_);refine wpAny_Slice (ca (hl J3 s1 σ H1 _ I1 q1) fun vl s2 ⟨l,H2,I2,pl,q2⟩=>ca (hu J3 s2 σ H2 _ I2 q2) fun vu s3 ⟨u,H3,I3,pu,q3⟩=>?_);rw[evalPart_none];refine aF ?_;have I4:Inv X J3 σ H3 { s3 with heap:=s3.heap.push { cls:=.type "slice",data:=.fields #[vl,vu,.none] } }:=I3.kept (t':=s3.toks) fun b ob q=>aO _ q;obtain⟨T,id,hT,ht,hg⟩:=hr J3 { s3 with heap:=s3.heap.push { cls:=.type "slice",data:=.fields #[vl,vu,.none] } } σ H3 x v vl vu l u s3.heap.objs.size Q I4 r1 (Heap.IsSliceOf.new ..) pl pu q3;show wpAny (model X.prog X.w) X.A (vn e (.Slice lo hi none p2) v (.ref s3.heap.objs.size)) (EP X J3 σ Q) X.xe { s3 with heap:=s3.heap.push { cls:=.type "slice",data:=.fields #[vl,vu,.none] } };exact tail_any (ops:=[.ref s3.heap.objs.size,v]) ht hT hg (by with_unfolding_all rfl)
def eN(xs:List V)(lo hi:Option Int):List V:=(xs.drop (HT.sIx xs.length 0 lo)).take (HT.sIx xs.length xs.length hi-HT.sIx xs.length 0 lo)
theorem x_(xs:List V)(lo hi:Option Int):(eN xs lo hi).length<=xs.length:=by
 unfold eN;rw[aD,eK];omega
end
end L2
namespace L2
open PySem PySem.Spec PyProof.Rows
def D0(n:Nat)(i:Int):Option Nat:=if 0<=i then(if i<n then some i.toNat else none)else if -(n:Int)<=i then some (i+n).toNat else none
def wH{α:Type}(xs:List α)(i:Int):Option α:=(D0 xs.length i).bind fun j=>xs[j]?
theorem AA{n:Nat}{i:Int}{j:Nat}(h:D0 n i=some j):seqIndex? i n=some j/\j<n/\-(n:Int)<=i/\i<n:=by
 unfold D0 at h;by_cases h0:0<=i
 ·rw[if_pos h0]at h;by_cases h1:i<n
  ·rw[if_pos h1]at h;have e:i.toNat=j:=eD h;exact⟨by rw[seqIndex_of h0 h1,e],by omega,by omega,h1⟩
  ·rw[if_neg h1]at h;cases h
 ·rw[if_neg h0]at h;by_cases h1:-(n:Int)<=i
  ·rw[if_pos h1]at h;have e:(i+n).toNat=j:=eD h;exact⟨by rw[seqIndex_neg (by omega) h1,e],by omega,h1,by omega⟩
  ·rw[if_neg h1]at h;cases h
theorem wG{α:Type}{xs:List α}{i:Int}{v:α}(h:wH xs i=some v):∃j,seqIndex? i xs.length=some j/\xs[j]?=some v/\j<xs.length/\-(xs.length:Int)<=i/\i<xs.length:=by
 unfold wH at h;cases e:D0 xs.length i with
 |none=>rw[e]at h;cases h
 |some j =>
  rw[e]at h;obtain⟨h1,h2,h3,h4⟩:=AA e;exact⟨j,h1,h,h2,h3,h4⟩
theorem bW{α:Type}{xs:List α}{j:Nat}{v:α}(h:xs[j]?=some v):wH xs (j:Int)=some v:=by
 have hj:j<xs.length:=(bQ.mp h).1;have e:D0 xs.length (j:Int)=some j:=by
  unfold D0;rw[if_pos (by omega),if_pos (by omega)];simp
 unfold wH;rw[e];exact h
theorem DN{α:Type}(xs:List α)(v:α):wH (xs++[v]) (-1)=some v:=by
 have hl:(xs++[v]).length=xs.length+1:=by simp
 have e:D0 (xs++[v]).length (-1)=some xs.length:=by
  unfold D0;rw[hl,if_neg (by decide),if_pos (by omega)];congr 1;omega
 unfold wH;rw[e];show(xs++[v])[xs.length]?=some v;simp
def Fj(b:Expr):Prop:=∀o i,vm b false o i=operate [o,i] (lS o i)
def Fm(X:Cx)(r:R2):Prop :=
 ∀(value slice:Expr) (J3:Zd) (s:Shared) (σ:St) (H:Hp) (x y:V) (v u:Value) (Q:VK),Inv X J3 σ H s->RelV x v->RelV y u->r x y H Q ->
  vm slice false v u=operate [v,u] (lS v u)->wpAny (model X.prog X.w) X.A (vn value slice v u) (EP X J3 σ Q) X.xe s
def MtR(X:Cx)(id:String)(r:V->List V->Hp->VK->Prop):Prop :=
 ∀(J3:Zd) (s:Shared) (σ:St) (H:Hp) (x:V) (xs:List V) (v:Value) (us:Zf) (Q:VK),Inv X J3 σ H s->RelV x v->aQ xs us->r x xs H Q ->
  wpAny (model X.prog X.w) X.A (call (.builtin id) (v::us)) (EP X J3 σ Q) X.xe s
section
variable{X:Cx}{a b:Expr}{ta tb:TE}{pos:Pos}
theorem Fm.or{r r':R2}(h:Fm X r)(h':Fm X r'):Fm X (fun x y H Q=>r x y H Q∨r' x y H Q):=by
 intro value slice J3 s σ H x y v u Q I rx ry q hs;rcases q with q|q
 ·exact h value slice J3 s σ H x y v u Q I rx ry q hs
 ·exact h' value slice J3 s σ H x y v u Q I rx ry q hs
theorem Ap{r:R2}(hr:Fm X r)(ha:PE X a ta)(hb:PE X b tb)(hs:Fj b):PE X (.Subscript a b pos) (aI r ta tb):=by
 intro J3 s σ H Q I h;exact vo (Gn ha hb I h fun v u s2 x y H2 I2 rx ry q=>hr a b J3 s2 σ H2 x y v u Q I2 rx ry q (hs _ _))
def dh(K:Za):R2:=fun x y H Q=>∃p xs i v,x=.ref p/\y=.int i/\ax K H p xs/\wH xs i=some v/\Q v H
def oH(K:Za):R2:=fun x y H Q=>∃p xs i v,x=.ref p/\y=.int i/\bC K H p xs/\wH xs i=some v/\Q v H
def CU:R2:=fun x y H Q=>∃z i c,x=.str z/\y=.int i/\z.length<=ai/\wH z.cps.toList i=some c/\Q (.str ⟨#[c]⟩) H
theorem Az:Fm X (dh X.K):=by
 intro value slice J3 s σ H x y v u Q I rx ry h hs;obtain⟨p,xs,i,z,rfl,rfl,hq,he,q⟩:=h;cases rx;obtain⟨t,rfl⟩:=ry;obtain⟨its,r,pl,hz⟩:=I.list hq;obtain⟨j,h1,h2,h3,h4,h5⟩:=wG he;obtain⟨w,ew,rw'⟩:=r.get h2;have hl:=r.length;have hn:=oK;have fin:EP X J3 σ Q w s:=⟨z,H,I,rw',q⟩;by_cases h0:0<=i
 ·have hj:i.toNat=j:=by
   rw[seqIndex_of h0 h5]at h1;exact eD h1
  exact item_listR pl.isList h0 (by omega) (by rw[hj];simpa using ew) fin hs
 ·have hj:(i+(its.toArray.size:Int)).toNat=j:=by
   rw[seqIndex_neg (by omega) h4]at h1;rw[bp,<-hl];exact eD h1
  exact subscriptTail_builtinR (x:=w) pl.isList.typeIs slot_list_getitem.lookup
   (wpAny_getItem_list_neg (Q:=fun r s'=>r=w/\EP X J3 σ Q r s') pl.isList (by omega) (by rw[bp]<;>omega) (by omega) (by rw[hj];simpa using ew) ⟨rfl,fin⟩) hs
theorem Dk:Fm X (oH X.K):=by
 intro value slice J3 s σ H x y v u Q I rx ry h hs;obtain⟨p,xs,i,z,rfl,rfl,hq,he,q⟩:=h;cases rx;obtain⟨t,rfl⟩:=ry;obtain⟨its,r,pl,hz⟩:=I.tuple hq;obtain⟨j,h1,h2,h3,h4,h5⟩:=wG he;obtain⟨w,ew,rw'⟩:=r.get h2;have hl:=r.length;have hn:=oK;have fin:EP X J3 σ Q w s:=⟨z,H,I,rw',q⟩;exact subscriptTail_builtinR (x:=w) pl.typeIs slot_tuple_getitem.lookup
  (getItem_tuple (j:=j) (Q:=fun r s'=>r=w/\EP X J3 σ Q r s') pl (by omega) (by omega) (by rw[bp,<-hl];exact h1) (by simpa using ew) ⟨rfl,fin⟩) hs
theorem Dm:Fm X CU:=by
 intro value slice J3 s σ H x y v u Q I rx ry h hs;obtain⟨z,i,c,rfl,rfl,hz,he,q⟩:=h;obtain⟨t,rfl⟩:=rx;obtain⟨t',rfl⟩:=ry;obtain⟨j,h1,h2,h3,h4,h5⟩:=wG he;have hl:z.cps.toList.length=z.length:=by simp[Str.length]
 rw[hl]at h1 h4 h5;have hn:=oK;exact tail_any (typeIs_str s z t) slot_str_getitem.lookup (getItem_str (c:=c) (by
  have e1:decide (i < -(2 ^ 63:Int))=false:=zzr0 (by omega);have e2:decide (i ≥ 2 ^ 63)=false:=zzr0 (by omega);rw[e1,e2,Bool.or_false]) (by rw[h1];simpa using h2) ⟨.str ⟨#[c]⟩,H,I.tok _,⟨_,rfl⟩,q⟩) hs
def pU(K:Za):R2:=fun x y H Q=>dh K x y H Q∨oH K x y H Q∨CU x y H Q
theorem Ge:Fm X (pU X.K):=Az.or (Dk.or Dm)
theorem zo(its:Zf)(n j:Nat)(u:Value):fq (·.setIfInBounds j u) { cls:=.type "list",data:=.seq its.toArray n }={ cls:=.type "list",data:=.seq (its.set j u).toArray n }:=by
 simp[fq]
theorem Inv.lst{J3:Zd}{σ:St}{H:Hp}{s:Shared}{p:Addr}{xs:List V}(I:Inv X J3 σ H s)(h:H p=some (.lst xs)):
  ∃(its:Zf) (n:Nat),aQ xs its/\s.heap.get? p=some { cls:=.type "list",data:=.seq its.toArray n }/\xs.length<=ai:=by
 obtain⟨z,its,n,r,e⟩:=I.hok p _ h;exact⟨its,n,r,e,z⟩
theorem Inv.lstUpd{J3:Zd}{σ:St}{H:Hp}{s:Shared}{p:Addr}{xs ys:List V}{its its':Zf}{n n':Nat}{f:Obj->Obj}(I:Inv X J3 σ H s)(h:H p=some (.lst xs))
  (ho:s.heap.get? p=some { cls:=.type "list",data:=.seq its.toArray n }) (hf:f { cls:=.type "list",data:=.seq its.toArray n }={ cls:=.type "list",data:=.seq its'.toArray n' }) (r:aQ ys its') (hz:ys.length<=ai) (t:Nat) :
  Inv X J3 σ (upd H p (.lst ys)) { s with heap:=s.heap.update p f,toks:=t }:=by
 have e:(s.heap.update p f).get? p=some { cls:=.type "list",data:=.seq its'.toArray n' }:=by
  rw[jp f ho (by rw[hf]<;>rfl),hf]
 refine I.write (x:=p) (e:=p) (by rw[h];trivial) (.inl rfl) (fun b u hb q=>(lR _ _ (eT hb)).trans q) ⟨_,e⟩ ?_;exact⟨hz,its',n',r,e⟩
def rM:V->V->V->Hp->(Hp->Prop)->Prop:=fun o i v H Q=>∃p xs k j,o=.ref p/\i=.int k/\H p=some (.lst xs)/\D0 xs.length k=some j/\Q (upd H p (.lst (xs.set j v)))
theorem km:G3 X rM:=by
 intro J3 s σ H o i v ov iv u Q I ro ri rv h;obtain⟨p,xs,k,j,rfl,rfl,hp,hj,q⟩:=h;cases ro;obtain⟨t,rfl⟩:=ri;obtain⟨its,n,r,ho,hz⟩:=I.lst hp;obtain⟨h1,h2,h3,h4⟩:=AA hj;have hl:=r.length;have hn:=oK;have I':Inv X J3 σ (upd H p (.lst (xs.set j v))) { s with heap:=s.heap.update p (fq (·.setIfInBounds j u)) } :=
  I.lstUpd hp ho (zo its n j u) (r.set rv j) (by rw[List.length_set];exact hz) s.toks
 by_cases h0:0<=k
 ·have hk:k.toNat=j:=by
   rw[seqIndex_of h0 h4]at h1;exact eD h1
  exact PySem.W.ki_setAt ho h0 (by omega) (by rw[bp,<-hl];exact h4) (by rw[hk];exact⟨_,I',q⟩)
 ·have hk:(k+(its.toArray.size:Int)).toNat=j:=by
   rw[seqIndex_neg (by omega) h3]at h1;rw[bp,<-hl];exact eD h1
  exact PySem.W.ki_setBack ho (by omega) (by rw[bp,<-hl];exact h3) (by omega) (by rw[hk];exact⟨_,I',q⟩)
theorem vY(lo hi:Option Int)(n:Nat):(lQ lo hi none n).1=((HT.sIx n 0 lo:Nat):Int)/\(lQ lo hi none n).2.1=((HT.sIx n n hi:Nat):Int)/\(lQ lo hi none n).2.2=1:=by
 refine⟨?_,?_,rfl⟩
 ·cases lo with
  |none=>simp[lQ,HT.sIx]
  |some i =>
   simp only[lQ,HT.sIx,Option.getD_none,show(1:Int) > 0 by decide,if_true];by_cases h:i<0
   ·simp only[h,if_true]<;>omega
   ·simp only[h,if_false]<;>omega
 ·cases hi with
  |none=>simp[lQ,HT.sIx]
  |some i =>
   simp only[lQ,HT.sIx,Option.getD_none,show(1:Int) > 0 by decide,if_true];by_cases h:i<0
   ·simp only[h,if_true]<;>omega
   ·simp only[h,if_false]<;>omega
theorem tu(its:Zf)(lo hi:Option Int):vk its.toArray lo hi none=((its.drop (HT.sIx its.length 0 lo)).take (HT.sIx its.length its.length hi-HT.sIx its.length 0 lo)).toArray:=by
 obtain⟨h1,h2,h3⟩:=vY lo hi its.toArray.size;unfold vk;rw[h1,h2,h3];simp only[sliceRange_one,pick_run,bp]<;>rfl
def nr(K:Za):V->Option Int->Option Int->Hp->VK->Prop:=fun x lo hi H Q=>∃a xs,x=.ref a/\ax K H a xs/\∀p,H p=none->Q (.ref p) (upd H p (.lst (eN xs lo hi)))
theorem dZ:SlR X (nr X.K):=by
 intro J3 s σ H x v vl vu lo hi sl Q I rx hs pl pu h;obtain⟨a,xs,rfl,hx,q⟩:=h;cases rx;obtain⟨its,r,ht,hz⟩:=I.list hx;have hlen:=r.length;refine⟨"list",_,slot_list_getitem.lookup,ht.isList.typeIs,?_⟩;refine wpAny_getItem_list_slice ht.isList hs pl pu .none (by simp) ?_ (by rw[bp]<;>omega);rw[tu,<-hlen];refine⟨.ref s.heap.objs.size,_,I.laid (t':=s.toks) (o:=.lst (eN xs lo hi)) (fun b ob q=>aO _ q) (ay _) ?_,rfl,q _ (I.hok.fresh (ay _))⟩;exact⟨aE (x_ xs lo hi) hz,_,0,(r.drop (HT.sIx xs.length 0 lo)).take (HT.sIx xs.length xs.length hi-HT.sIx xs.length 0 lo),cb _ rfl⟩
theorem wD:fM X (.builtin "len") (fun xs H Q=>∃p ys,xs=[.ref p]/\(ax X.K H p ys∨bC X.K H p ys)/\Q (.int ys.length) H):=by
 intro J3 s σ H xs us Q I r h;obtain⟨p,ys,rfl,hq,q⟩:=h;obtain⟨u,rfl,rx⟩:=vals1 r;cases rx;have hn:=oK;rcases hq with hq|hq
 ·obtain⟨its,r',pl,hz⟩:=I.list hq;have hlen:=r'.length;exact Calls.call_len_list pl.isList (by simp only[bp]<;>omega) ⟨.int ys.length,H,I.tok _,⟨s.toks+1,by rw[bp,hlen]⟩,q⟩
 ·obtain⟨its,r',pl,hz⟩:=I.tuple hq;have hlen:=r'.length;exact len_tuple pl (by simp only[bp]<;>omega) ⟨.int ys.length,H,I.tok _,⟨s.toks+1,by rw[bp,hlen]⟩,q⟩
theorem wC:fM X (.builtin "len") (fun xs H Q=>∃z,xs=[.str z]/\z.length<=ai/\Q (.int z.length) H):=by
 intro J3 s σ H xs us Q I r h;obtain⟨z,rfl,hz,q⟩:=h;obtain⟨u,rfl,t,rfl⟩:=vals1 r;have hn:=oK;exact len_str (by omega) ⟨.int z.length,H,I.tok _,⟨_,rfl⟩,q⟩
theorem fM.or{f:Value}{r r':List V->Hp->VK->Prop}(h:fM X f r)(h':fM X f r'):fM X f (fun xs H Q=>r xs H Q∨r' xs H Q):=by
 intro J3 s σ H xs us Q I rs q;rcases q with q|q
 ·exact h J3 s σ H xs us Q I rs q
 ·exact h' J3 s σ H xs us Q I rs q
theorem wB:fM X (.type "list") (fun xs H Q=>∃p ys,xs=[.ref p]/\(ax X.K H p ys∨bC X.K H p ys)/\∀l,H l=none->Q (.ref l) (upd H l (.lst ys))):=by
 intro J3 s σ H xs us Q I r h;obtain⟨p,ys,rfl,hq,q⟩:=h;obtain⟨u,rfl,rx⟩:=vals1 r;cases rx;have fin:∀(its:Zf),aQ ys its->ys.length<=ai->∀(h':Heap) (c':Nat),(∀b o',s.heap.get? b=some o'->h'.get? b=some o') ->
   h'.get? s.heap.objs.size=some { cls:=.type "list",dict:=none,data:=.seq its.toArray c',slots:=#[] }->EP X J3 σ Q (.ref s.heap.objs.size) { s with heap:=h' }:=fun its r' hz h' c' kp e =>
  ⟨.ref s.heap.objs.size,_,I.laid (t':=s.toks) kp (ay _) (show cq X.prog X.w X.K _ h' _ (.lst ys)from⟨hz,its,c',r',e⟩),rfl,q _ (I.hok.fresh (ay _))⟩
 rcases hq with hq|hq
 ·obtain⟨its,r',pl,hz⟩:=I.list hq;have hlen:=r'.length;obtain⟨o,ho,hc,n,hd⟩:=pl.isList;exact call_list_seq p (.inl rfl) ho hc hd (fun h' c' kp e=>fin its r' hz h' c' kp e) (by simp only[bp]<;>omega)
 ·obtain⟨its,r',pl,hz⟩:=I.tuple hq;have hlen:=r'.length;obtain⟨o,ho,hc,n,hd⟩:=pl;exact call_list_seq p (.inr rfl) ho hc hd (fun h' c' kp e=>fin its r' hz h' c' kp e) (by simp only[bp]<;>omega)
theorem cK:fM X (.type "tuple") (fun xs H Q=>∃p ys,xs=[.ref p]/\((ax X.K H p ys/\∀l,H l=none->Q (.ref l) (upd H l (.tup ys)))∨(bC X.K H p ys/\Q (.ref p) H))):=by
 intro J3 s σ H xs us Q I r h;obtain⟨p,ys,rfl,h⟩:=h;obtain⟨u,rfl,rx⟩:=vals1 r;cases rx;rcases h with⟨hq,q⟩|⟨hq,q⟩
 ·obtain⟨its,r',pl,hz⟩:=I.list hq;have hlen:=r'.length;refine call_tuple_list pl.isList (fun h' kp=>?_) (by simp only[bp]<;>omega);have I1:Inv X J3 σ H { s with heap:=h' }:=I.kept (t':=s.toks) kp;have I2:Inv X J3 σ (upd H h'.objs.size (.tup ys)) { s with heap:=h'.push { cls:=.type "tuple",data:=.seq its.toArray } } :=
   I1.laid (t':=s.toks) (fun b o e=>aO _ e) (ay _) (show cq X.prog X.w X.K _ _ _ (.tup ys)from⟨hz,its,r',IsTup.new _ _⟩)
  exact⟨.ref h'.objs.size,_,I2,rfl,q _ (I1.hok.fresh (ay _))⟩
 ·obtain⟨its,r',pl,hz⟩:=I.tuple hq;exact call_tuple_same pl ⟨.ref p,H,I,rfl,q⟩
def tyV(K:Za)(T:String)(x:V)(H:Hp):Prop:=match x with
 |.str _=>T="str"
 |.int _=>T="int"
 |.ref p=>(T="list"/\∃xs,ax K H p xs)∨(T="tuple"/\∃o,K.lookup p=some o/\o.cls=.type "tuple"/\o.dict=none) ∨
   (T="dict"/\((∃kvs,H p=some (.dK kvs))∨∃kvs,H p=some (.dT kvs)))∨(T="set"/\∃S n,H p=some (.set S n))
 |_=>False
theorem Co{J3:Zd}{σ:St}{H:Hp}{s:Shared}{T:String}{x:V}{v:Value}(I:Inv X J3 σ H s)(r:RelV x v)(ty:tyV X.K T x H):
  s.TypeIs v T/\∀a,v=.ref a->∃ob,s.heap.get? a=some ob/\ob.dict=none:=by
 cases x with
 |str z =>
  obtain⟨t,rfl⟩:=r;cases(show T="str" from ty);exact⟨typeIs_str s z t,fun _ e=>nomatch e⟩
 |int i =>
  obtain⟨t,rfl⟩:=r;cases(show T="int" from ty);exact⟨typeIs_int s i t,fun _ e=>nomatch e⟩
 |ref p =>
  cases r;rcases ty with⟨rfl,xs,hq⟩|⟨rfl,o,hk,hc,hd⟩|⟨rfl,hk⟩|⟨rfl,S,n,hk⟩
  ·obtain⟨its,_,pl,_⟩:=I.list hq;refine⟨pl.isList.typeIs,fun a e=>?_⟩;cases e;obtain⟨o,n,e,c,hd,_⟩:=pl;exact⟨o,e,hd⟩
  ·refine⟨⟨o,I.kIn p o hk,hc⟩,fun a e=>?_⟩;cases e;exact⟨o,I.kIn _ o hk,hd⟩
  ·have z:∃o,s.heap.get? p=some o/\o.ExactDict:=by
    rcases hk with⟨kvs,hk⟩|⟨kvs,hk⟩
    ·obtain⟨_,_,_,_,o,_,_,e,ex,_⟩:=I.hok p _ hk;exact⟨o,e,ex⟩
    ·obtain⟨_,_,_,_,o,_,_,e,ex,_⟩:=I.hok p _ hk;exact⟨o,e,ex⟩
   obtain⟨o,e,ex⟩:=z;refine⟨⟨o,e,ex.1⟩,fun a e2=>?_⟩;cases e2;exact⟨o,e,ex.2.1⟩
  ·obtain⟨o,_,_,_,e,ex,_⟩:=I.hok p _ hk;refine⟨⟨o,e,ex.1⟩,fun a e2=>?_⟩;cases e2;exact⟨o,e,ex.2.1⟩
 |_=>exact iU ty
def El(K:Za)(T:String)(r:V->List V->Hp->VK->Prop)(to:TE):TE:=fun σ H Q=>to σ H fun x H1=>tyV K T x H1/\r x [] H1 Q
def Bg(K:Za)(T:String)(r:V->List V->Hp->VK->Prop)(to:TE)(t:TA):TE:=fun σ H Q=>to σ H fun x H1=>tyV K T x H1/\t σ H1 fun xs H2=>r x xs H2 Q
variable{o e:Expr}{es:List Expr}{to:TE}{t:TA}{name:Str}{J5 J4:Pos}{T id:String}{r:V->List V->Hp->VK->Prop}
theorem zi(pa:PlainAttrs T)(slot:Slot T name id)(hty:typeOf (.builtin id)=pure (.type "method_descriptor"))(hm:MtR X id r)(ho:PE X o to)
  (hbase:tR o name X.env (eval o X.env)=eval o X.env:=by rfl) (hline:(J5.endLine==J4.line)=true:=by rfl):PE X (.Call (.Attribute o name J5) [] [] J4) (El X.K T r to):=by
 intro J3 s σ H Q I h;refine wpAny_Call_method0_late hbase hline (ca (ho J3 s σ H _ I h) fun v s1 ⟨x,H1,I1,r1,ty,q1⟩=>?_);obtain⟨h1,h2⟩:=Co I1 r1 ty;exact⟨T,id,pa,slot,hty,h1,h2,vj rfl (PySem.evalArgs_none (hm J3 s1 σ H1 x [] v [] Q I1 r1 .nil q1))⟩
theorem i_(pa:PlainAttrs T)(slot:Slot T name id)(hty:typeOf (.builtin id)=pure (.type "method_descriptor"))(hm:MtR X id r)(ho:PE X o to)(ha:PA X (e::es) t)
  (hbase:tR o name X.env (eval o X.env)=eval o X.env:=by rfl)
  (hfew:((backTo J4 (aA (e::es) X.env)).all (fun x=>!x.1) && (mG J4 (mF [] X.env)).all (fun x=>x.1.isSome)
   && decide ((e::es).length+([]:List oh).length+(if([]:List oh).isEmpty then 0 else 1)<30))=true:=by rfl)
  (hline:(J5.endLine==J4.line)=true:=by rfl) (hs:aA (e::es) X.env=(false,eval e X.env)::aA es X.env:=by rfl) (hplain:(backTo J4 (aA es X.env)).any (·.1)=false:=by rfl) :
  PE X (.Call (.Attribute o name J5) (e::es) [] J4) (Bg X.K T r to t):=by
 intro J3 s σ H Q I h;refine wpAny_Call_method_late hbase hfew hline rfl (ca (ho J3 s σ H _ I h) fun v s1 ⟨x,H1,I1,r1,ty,q1⟩=>?_);obtain⟨h1,h2⟩:=Co I1 r1 ty;refine⟨T,id,pa,slot,hty,h1,h2,?_⟩;have hA:=ha J4 J3 s1 σ H1 _ I1 q1;rw[hs]at hA ⊢;refine vj (by show(false || (backTo J4 (aA es X.env)).any (·.1))=false;rw[hplain]<;>rfl) (Calls.evalArgs_plain ?_);exact ca hA fun us s2 ⟨vs,H2,I2,r2,q2⟩=>hm J3 s2 σ H2 x vs v us Q I2 r1 r2 q2
end
end L2
namespace L2
open PySem PySem.Spec PyProof.Rows
def Gy(X:Cx)(id:String)(r:V->List V->Hp->VK->Prop):Prop :=
 ∀(J3:Zd) (s:Shared) (σ:St) (H:Hp) (x:V) (xs:List V) (v:Value) (us:Zf) (Q:VK),Inv X J3 σ H s->RelV x v->aQ xs us->r x xs H Q ->
  wpAny (model X.prog X.w) X.A (call (.builtin id) (v::us)) (EP X J3 σ Q) X.xe s
theorem aQ.one:∀{x:V}{us:Zf},aQ [x] us->∃u,us=[u]/\RelV x u
 |_,_,.cons r .nil=>⟨_,rfl,r⟩
theorem aQ.two:∀{x y:V}{us:Zf},aQ [x,y] us->∃u v,us=[u,v]/\RelV x u/\RelV y v
 |_,_,_,.cons r (.cons q .nil)=>⟨_,_,rfl,r,q⟩
theorem aQ.zero:∀{us:Zf},aQ [] us->us=[]
 |_,.nil=>rfl
theorem aQ.dropLast{xs:List V}{us:Zf}(h:aQ xs us):aQ xs.dropLast us.dropLast:=by
 induction h with
 |nil=>exact .nil
 |cons r t ih =>
  cases t with
  |nil=>exact .nil
  |cons q t'=>exact .cons r ih
theorem aQ.reverse{xs:List V}{us:Zf}(h:aQ xs us):aQ xs.reverse us.reverse:=by
 induction h with
 |nil=>exact .nil
 |cons r t ih=>rw[vi,vi];exact aQ.append ih (.cons r .nil)
theorem zF{α:Type}(l:List α):l.eraseIdx (l.length-1)=l.dropLast:=by
 induction l with
 |nil=>rfl
 |cons a r ih =>
  cases r with
  |nil=>rfl
  |cons b r =>
   have e:(a::b::r).length-1=((b::r).length-1)+1:=by
    have h1:(a::b::r).length=r.length+2:=rfl;have h2:(b::r).length=r.length+1:=rfl;omega
   rw[e,List.eraseIdx_cons_succ,ih]
   all_goals rfl
section
variable{X:Cx}{J3:Zd}{σ:St}{H:Hp}{s:Shared}{l b:Addr}{xs ys zs:List V}
theorem Inv.lset{its its':Zf}{n:Nat}{f:Array Value->Array Value}{t':Nat}(I:Inv X J3 σ H s)(hH:H l=some (.lst xs))
  (e:s.heap.get? l=some { cls:=.type "list",data:=.seq its.toArray n }) (hf:f its.toArray=its'.toArray) (hv:aQ ys its') (hz:ys.length<=ai) :
  Inv X J3 σ (upd H l (.lst ys)) { s with heap:=s.heap.update l (fq f),toks:=t' }:=by
 have q:=PySem.IsL.update e f;rw[hf]at q;refine I.write (x:=l) (e:=l) (by rw[hH];exact trivial) (.inl rfl) (fun b' u hb hu=>(lR s.heap (fq f) (eT hb)).trans hu) ⟨_,q⟩ ?_;exact⟨hz,its',_,hv,q⟩
theorem Inv.lnew{its:Zf}{t':Nat}(I:Inv X J3 σ H s)(hv:aQ ys its)(hz:ys.length<=ai):
  Inv X J3 σ (upd H s.heap.objs.size (.lst ys)) { s with heap:=s.heap.push { cls:=.type "list",data:=.seq its.toArray },toks:=t' } :=
 I.laid (fun _ _ q=>aO _ q) (ay _) ⟨hz,its,0,hv,cb _ rfl⟩
theorem Inv.fresh(I:Inv X J3 σ H s):H s.heap.objs.size=none:=I.hok.fresh (ay _)
theorem Inv.lstM(I:Inv X J3 σ H s)(hH:H l=some (.lst xs)):xs.length<=ai/\∃(its:Zf) (n:Nat),aQ xs its/\xs.length=its.length/\s.heap.get? l=some { cls:=.type "list",data:=.seq its.toArray n }:=by
 obtain⟨z,its,n,r,e⟩:=I.hok l _ hH;exact⟨z,its,n,r,r.length,e⟩
theorem C9{n:Nat}(h:n<=ai):bc.List.listTooLong n=false:=by
 unfold bc.List.listTooLong;exact zzr0 (by omega)
end
section
variable{X:Cx}
def f_:V->List V->Hp->VK->Prop:=fun x vs H Q=>∃l xs y,x=.ref l/\vs=[y]/\H l=some (.lst xs)/\xs.length<ai/\Q .non (upd H l (.lst (xs++[y])))
theorem cS:Gy X "list.append" f_:=by
 intro J3 s σ H x vs v us Q I rx rv h;obtain⟨l,xs,y,rfl,rfl,hH,hz,q⟩:=h;cases rx;obtain⟨u,rfl,ru⟩:=rv.one;obtain⟨z,its,n,r,hl,e⟩:=I.lstM hH;refine qZ F.slot_list_append ⟨_,e,rfl⟩ F.entry_list_append (F.args_list_append_2 _ _) (PySem.list_append l its.toArray n u (by rw[bp];omega)) ⟨e,?_⟩;refine⟨.non,_,I.lset (its':=its++[u]) hH e (by simp) (r.append (.cons ru .nil)) ?_,rfl,q⟩;rw[aU,List.length_singleton];omega
def Ak:V->List V->Hp->VK->Prop:=fun x vs H Q=>∃l b xs zs,x=.ref l/\vs=[.ref b]/\H l=some (.lst xs)/\H b=some (.lst zs)/\xs.length+zs.length<=ai/\Q .non (upd H l (.lst (xs++zs)))
theorem BB:Gy X "list.extend" Ak:=by
 intro J3 s σ H x vs v us Q I rx rv h;obtain⟨l,b,xs,zs,rfl,rfl,hH,hB,hz,q⟩:=h;cases rx;obtain⟨u,rfl,ru⟩:=rv.one;cases ru;obtain⟨z,its,n,r,hl,e⟩:=I.lstM hH;obtain⟨z2,its2,n2,r2,hl2,e2⟩:=I.lstM hB;have hsz:its.toArray.size+its2.toArray.size<=ai:=by rw[bp,bp];omega
 have hlong:¬(!its.toArray.isEmpty && bc.List.listTooLong (its.toArray.size+its2.toArray.size))=true:=by
  rw[C9 hsz,Bool.and_false];exact gm
 refine qZ F.slot_list_extend ⟨_,e,rfl⟩ F.entry_list_extend (F.args_list_extend_2 _ _)
  (AutoSeq1.list_extend_list_list_0 l its.toArray n b its2.toArray n2 hlong (by rw[bp];omega) (by omega)) ⟨e,e2,?_⟩
 refine⟨.non,_,I.lset (its':=its++its2) hH e (by simp) (r.append r2) ?_,rfl,q⟩;rw[aU];omega
def GI:V->List V->Hp->VK->Prop:=fun x vs H Q=>∃l xs y,x=.ref l/\vs=[]/\H l=some (.lst xs)/\xs[xs.length-1]?=some y/\Q y (upd H l (.lst xs.dropLast))
theorem Ga:Gy X "list.pop" GI:=by
 intro J3 s σ H x vs v us Q I rx rv h;obtain⟨l,xs,y,rfl,rfl,hH,hy,q⟩:=h;cases rx;have hus:=rv.zero;subst hus;obtain⟨z,its,n,r,hl,e⟩:=I.lstM hH;obtain⟨u,hu,ru⟩:=r.get hy;have hy':its.toArray[its.toArray.size-1]?=some u:=by
  show its.toArray[its.length-1]?=some u;rw[<-Array.getElem?_toList,<-hl];exact hu
 refine qZ F.slot_list_pop ⟨_,e,rfl⟩ F.entry_list_pop (F.args_list_pop_1 _) (MeetsSeq.list_pop_last l its.toArray n u hy' (by rw[bp];omega)) ⟨e,?_⟩;refine⟨y,_,I.lset (its':=its.dropLast) hH e ?_ r.dropLast ?_,ru,q⟩
 ·show its.toArray.eraseIdxIfInBounds (its.toArray.size-1)=its.dropLast.toArray;rw[bp,List.eraseIdxIfInBounds_toArray,zF]
 ·rw[List.length_dropLast];omega
def rN:V->List V->Hp->VK->Prop:=fun x vs H Q=>∃l xs,x=.ref l/\vs=[]/\H l=some (.lst xs)/\Q .non (upd H l (.lst xs.reverse))
theorem rX:Gy X "list.reverse" rN:=by
 intro J3 s σ H x vs v us Q I rx rv h;obtain⟨l,xs,rfl,rfl,hH,q⟩:=h;cases rx;have hus:=rv.zero;subst hus;obtain⟨z,its,n,r,hl,e⟩:=I.lstM hH;refine qZ F.slot_list_reverse ⟨_,e,rfl⟩ F.entry_list_reverse (F.args_list_reverse_1 _) (AutoSeq1.list_reverse_list_0 l its.toArray n (by rw[bp];omega)) ⟨e,?_⟩;refine⟨.non,_,I.lset (its':=its.reverse) hH e (by simp) r.reverse ?_,rfl,q⟩;rw[gu];omega
def md:R2:=fun x y H Q=>∃l b xs zs,x=.ref l/\y=.ref b/\H l=some (.lst xs)/\H b=some (.lst zs)/\xs.length+zs.length<=ai/\∀p,H p=none->Q (.ref p) (upd H p (.lst (xs++zs)))
theorem h_:lu X (jW .Add) md:=by
 intro J3 s σ H x y v u Q I rx ry h;obtain⟨l,b,xs,zs,rfl,rfl,hH,hB,hz,q⟩:=h;cases rx;cases ry;obtain⟨z,its,n,r,hl,e⟩:=I.lstM hH;obtain⟨z2,its2,n2,r2,hl2,e2⟩:=I.lstM hB;refine PySem.P.add_list e e2 ?_ (by rw[bp,bp];omega);have ea:its.toArray++its2.toArray=(its++its2).toArray:=by simp
 rw[ea];exact⟨.ref _,_,I.lnew (t':=s.toks) (r.append r2) (by rw[aU];omega),rfl,q _ I.fresh⟩
end
end L2
namespace L2
open PySem PySem.Spec PyProof.Rows
section
variable{κ:Type}[DecidableEq κ]
def aY(kvs:List (κ×V))(k:κ):Option V:=(kvs.find? fun kv=>decide (kv.1=k)).map (·.2)
def c7(kvs:List (κ×V))(k:κ)(v:V):List (κ×V) :=
 if(kvs.any fun kv=>decide (kv.1=k))=true then kvs.map (fun kv=>if kv.1=k then(kv.1,v)else kv)else kvs++[(k,v)]
theorem cQ{p:κ×V}{r:List (κ×V)}{k:κ}(e:p.1=k):aY (p::r) k=some p.2:=by simp[aY,og,e]
theorem cI{p:κ×V}{r:List (κ×V)}{k:κ}(e:¬p.1=k):aY (p::r) k=aY r k:=by simp[aY,og,e]
theorem iY(k:κ):∀kvs:List (κ×V),(kvs.any fun kv=>decide (kv.1=k))=(aY kvs k).isSome
 |[]=>rfl
 |p::r=>by
  rw[vh];by_cases e:p.1=k
  ·simp only[cQ e,zzr1 e,Bool.true_or,Option.isSome_some]
  ·rw[cI e,zzr0 e,Bool.false_or];exact iY k r
theorem xf(k j:κ)(y:V):∀kvs:List (κ×V),aY (kvs.map fun kv=>if kv.1=k then(kv.1,y)else kv) j=(aY kvs j).map fun x=>if j=k then y else x
 |[]=>rfl
 |p::r=>by
  have ih:=xf k j y r;rw[bm];by_cases h:p.1=k
  ·rw[if_pos h];by_cases e:p.1=j
   ·rw[cQ (p:=(p.1,y)) e,cQ e,qY,if_pos (e.symm.trans h)]
   ·rw[cI (p:=(p.1,y)) e,cI e,ih]
  ·rw[if_neg h];by_cases e:p.1=j
   ·rw[cQ (p:=p) e,cQ e,qY,if_neg (fun z=>h (e.trans z))]
   ·rw[cI (p:=p) e,cI e,ih]
theorem t3(k j:κ)(y:V):∀kvs:List (κ×V),aY kvs k=none->aY (kvs++[(k,y)]) j=if j=k then some y else aY kvs j
 |[],_=>by
  by_cases e:k=j
  ·rw[if_pos e.symm];exact cQ (p:=(k,y)) e
  ·rw[if_neg (fun z=>e z.symm)];exact cI (p:=(k,y)) e
 |p::r,hn=>by
  rw[List.cons_append];have hk:¬p.1=k:=fun z=>by rw[cQ z]at hn;cases hn
  rw[cI hk]at hn;have ih:=t3 k j y r hn;by_cases e:p.1=j
  ·rw[cQ e,cQ e,if_neg (fun z=>hk (e.trans z))]
  ·rw[cI e,cI e,ih]
theorem g_(kvs:List (κ×V))(k j:κ)(y:V):aY (c7 kvs k y) j=if j=k then some y else aY kvs j:=by
 unfold c7;by_cases a:(kvs.any fun kv=>decide (kv.1=k))=true
 ·rw[if_pos a,xf];rw[iY]at a;by_cases e:j=k
  ·obtain⟨x,hx⟩:=zY.mp a;rw[if_pos e,e,hx,qY,if_pos rfl]
  ·rw[if_neg e];cases aY kvs j with
   |none=>rfl
   |some x=>rw[qY,if_neg e]
 ·rw[if_neg a];refine t3 k j y kvs ?_;rw[iY]at a;cases q:aY kvs k with
  |none=>rfl
  |some x=>rw[q]at a;exact(a rfl).elim
theorem e_(kvs:List (κ×V))(k:κ)(v:V):(c7 kvs k v).length<=kvs.length+1:=by
 unfold c7;split
 ·rw[aj];omega
 ·rw[aU,fh,List.length_nil];omega
theorem hZ{kvs:List (κ×V)}{k:κ}(v:V)(h:aY kvs k=none):c7 kvs k v=kvs++[(k,v)]:=by
 unfold c7;rw[iY,h];exact if_neg (by decide)
theorem jS.isSome_eq{o:Option V}{u:Option Value}(r:jS o u):o.isSome=u.isSome:=by
 cases o with
 |none=>cases u with
  |none=>rfl
  |some _=>exact(show False from r).elim
 |some _=>cases u with
  |none=>exact(show False from r).elim
  |some _=>rfl
theorem jS.getD{o:Option V}{u:Option Value}{d:V}{d':Value}(r:jS o u)(rd:RelV d d'):RelV (o.getD d) (u.getD d'):=by
 cases o with
 |none=>cases u with
  |none=>exact rd
  |some _=>exact(show False from r).elim
 |some _=>cases u with
  |none=>exact(show False from r).elim
  |some _=>exact r
theorem KV.val{kvs:List (κ×V)}{vs:List (κ×Value)}(r:KV kvs vs)(k:κ):jS (aY kvs k) (lP vs k):=by
 unfold KV at r
 induction r with
 |nil=>exact o_
 |@cons p q ps qs h t ih =>
  obtain⟨h1,h2⟩:=h;by_cases e:p.1=k
  ·have e':q.1=k:=h1.symm.trans e;have b:lP (q::qs) k=some q.2:=by simp[lP,og,e']
   rw[cQ e,b];exact h2
  ·have e':¬q.1=k:=fun z=>e (h1.trans z);have b:lP (q::qs) k=lP qs k:=by simp[lP,og,e']
   rw[cI e,b];exact ih
theorem KV.any{kvs:List (κ×V)}{vs:List (κ×Value)}(r:KV kvs vs)(k:κ):(kvs.any fun kv=>decide (kv.1=k))=vs.any fun kv=>decide (kv.1=k):=by
 unfold KV at r
 induction r with
 |nil=>rfl
 |cons h t ih=>rw[vh,vh,ih,h.1]
theorem KV.repl{kvs:List (κ×V)}{vs:List (κ×Value)}(r:KV kvs vs)(k:κ){y:V}{u:Value}(ry:RelV y u):
  KV (kvs.map fun kv=>if kv.1=k then(kv.1,y)else kv) (vs.map fun kv=>if kv.1=k then(kv.1,u)else kv):=by
 unfold KV at r ⊢
 induction r with
 |nil=>exact .nil
 |@cons p q ps qs h t ih =>
  rw[bm,bm];refine .cons ?_ ih;obtain⟨h1,h2⟩:=h;by_cases e:p.1=k
  ·rw[if_pos e,if_pos (h1.symm.trans e)];exact⟨h1,ry⟩
  ·rw[if_neg e,if_neg (fun z=>e (h1.trans z))];exact⟨h1,h2⟩
theorem KV.put{kvs:List (κ×V)}{vs:List (κ×Value)}(r:KV kvs vs)(k:κ){y:V}{u:Value}(ry:RelV y u):KV (c7 kvs k y) (stored vs k u):=by
 unfold c7 stored;rw[r.any k];by_cases e:(vs.any fun kv=>decide (kv.1=k))=true
 ·rw[if_pos e,if_pos e];exact r.repl k ry
 ·rw[if_neg e,if_neg e];exact gq r ⟨rfl,ry⟩
theorem KV.length{kvs:List (κ×V)}{vs:List (κ×Value)}(r:KV kvs vs):kvs.length=vs.length:=Paired.length r
end
theorem nJ{P:bj}{w:World}{k:eG}{u:Value}(r:RelV (kV k) u):(bV P w).is k u=true:=by
 cases k with
 |inl i=>obtain⟨t,e⟩:=(show ∃t,u=Value.int i t from r);subst e;exact xQ P w i t
 |inr x=>obtain⟨t,e⟩:=(show ∃t,u=Value.str x t from r);subst e;exact xP P w x t
theorem wq:∀{k:mB}{u:Value},RelV (FA k) u->ib k u=true
 |none,u,r=>by cases(show u=Value.none from r);rfl
 |some (.inl i),u,r=>by obtain⟨t,rfl⟩:=r;exact k3 i t
 |some (.inr x),u,r=>by obtain⟨t,rfl⟩:=r;exact kZ x t
abbrev KT(K:Za)(H:Hp):List (TK×V)->List (TK×Addr×Value)->Prop:=Paired fun p q=>p.1=q.1/\pD K H p.1 (.ref q.2.1)/\p.1.depth<=8/\RelV p.2 q.2.2
theorem KT.val{K:Za}{H:Hp}{kvs:List (TK×V)}{xs:List (TK×Addr×Value)}(r:KT K H kvs xs)(k:TK):jS (aY kvs k) ((atKey xs k).map (·.2)):=by
 induction r with
 |nil=>exact o_
 |@cons p q ps qs h t ih =>
  obtain⟨h1,_,_,h2⟩:=h;by_cases e:p.1=k
  ·have e':q.1=k:=h1.symm.trans e;have b:atKey (q::qs) k=some q.2:=by simp[atKey,og,e']
   rw[cQ e,b];exact h2
  ·have e':¬q.1=k:=fun z=>e (h1.trans z);have b:atKey (q::qs) k=atKey qs k:=by simp[atKey,og,e']
   rw[cI e,b];exact ih
theorem KT.repl{K:Za}{H:Hp}{kvs:List (TK×V)}{xs:List (TK×Addr×Value)}(r:KT K H kvs xs)(k:TK){y:V}{u:Value}(ry:RelV y u):
  KT K H (kvs.map fun kv=>if kv.1=k then(kv.1,y)else kv) (xs.map (putAt k u)):=by
 induction r with
 |nil=>exact .nil
 |@cons p q ps qs h t ih =>
  rw[bm,bm];refine .cons ?_ ih;obtain⟨h1,h2,h3⟩:=h;unfold putAt;by_cases e:p.1=k
  ·rw[if_pos e,if_pos (h1.symm.trans e)];exact⟨h1,h2,h3.1,ry⟩
  ·rw[if_neg e,if_neg (fun z=>e (h1.trans z))];exact⟨h1,h2,h3⟩
theorem KT.put{K:Za}{H:Hp}{kvs:List (TK×V)}{xs:List (TK×Addr×Value)}(r:KT K H kvs xs)(k:TK){b:Addr}{y:V}{u:Value}(hb:pD K H k (.ref b))(h8:k.depth<=8)(ry:RelV y u):
  KT K H (c7 kvs k y) (storedH xs k b u):=by
 have e:(kvs.any fun kv=>decide (kv.1=k))=(atKey xs k).isSome:=by
  rw[iY,(r.val k).isSome_eq,Option.isSome_map]
 unfold c7 storedH;rw[e];by_cases q:(atKey xs k).isSome=true
 ·rw[if_pos q,if_pos q];exact r.repl k ry
 ·rw[if_neg q,if_neg q];exact gq r ⟨rfl,hb,h8,ry⟩
theorem KT.keeps{K:Za}{H H':Hp}{kvs:List (TK×V)}{xs:List (TK×Addr×Value)}(r:KT K H kvs xs)(ht:∀b ys,H b=some (.tup ys)->H' b=some (.tup ys)):KT K H' kvs xs :=
 Paired.mapP r fun _ _ z=>⟨z.1,pD.keeps ht 8 z.2.2.1 z.2.1,z.2.2⟩
section
variable{P:bj}{w:World}{K:Za}{H:Hp}{h:Heap}{a:Addr}
theorem Fs{u:HO}(ok:k_ P w K H h)(e:Rd H a u):cq P w K H h a u:=e.ok ok
theorem nM{kvs:List (eG×V)}(ok:k_ P w K H h)(e:Rd H a (.dK kvs)):kvs.length<=ai/\(a==gE)=false/\∃vs,KV kvs vs/\h.DictOf (bV P w) a vs :=
 show cq P w K H h a (.dK kvs)from Fs ok e
theorem G0{kvs:List (eG×V)}(ok:k_ P w K H h)(e:H a=some (.dK kvs)):kvs.length<=ai/\(a==gE)=false/\∃vs,KV kvs vs/\h.DictOf (bV P w) a vs:=nM ok (.inl e)
theorem FK(ok:k_ P w K H h)(kin:K.In h):∀(d:Nat) {k:TK}{v:V}{u:Value},k.depth<=d->pD K H k v->RelV v u->lr h k u:=by
 have key:∀(d:Nat) (ih:∀{k:TK}{v:V}{u:Value},k.depth<=d->pD K H k v->RelV v u->lr h k u) (ks:List TK) (vs:List V) (us:Zf),TK.depths ks<=d->TKCs K H ks vs->aQ vs us->TAts h ks us:=by
  intro d ih ks
  induction ks with
  |nil =>
   intro vs us _ hx r;have e:vs=[]:=hx;subst e;cases r
   rfl
  |cons k ks ihl =>
   intro vs us hd hx r;obtain⟨v,vs',rfl,h1,h2⟩:=hx;cases r with
   |@cons _ u _ us' r1 r2 =>
    have hd':max k.depth (TK.depths ks)<=d:=hd;exact⟨u,us',rfl,ih (by omega) h1 r1,ihl vs' us' (by omega) h2 r2⟩
 intro d
 induction d with
 |zero =>
  intro k v u hd hx r;cases k with
  |t l=>exact absurd hd (by show ¬(TK.depths l+1<=0);omega)
  |k b =>
   have e:v=FA b:=hx;subst e;exact wq r
 |succ d ih =>
  intro k v u hd hx r;cases k with
  |k b =>
   have e:v=FA b:=hx;subst e;exact wq r
  |t l =>
   obtain⟨b,xs,rfl,hb,hi⟩:=hx;cases(show u=Value.ref b from r);obtain⟨its,rv,ob,h1,h2,n,h3⟩:∃its:List Value,aQ xs its/\IsTup h b its.toArray:=by
    rcases hb with hb|⟨o,its,n,hk,hc,hs,hz,r⟩
    ·obtain⟨_,its,rv,p⟩:=(show cq P w K H h b (.tup xs)from ok b _ hb);exact⟨its,rv,p⟩
    ·exact⟨its.toList,r,o,kin b o hk,hc,n,by simpa using hs⟩
   exact⟨b,ob,its.toArray,n,rfl,h1,h2,h3,by simpa using key d (fun h1=>ih h1) l xs its (by have:TK.depths l+1<=d+1:=hd;omega) hi rv⟩
theorem wm{k:TK}(ok:k_ P w K H h)(kin:K.In h)(e:pD K H k (.ref a))(h8:k.depth<=8):(dP P w).is h k a:=⟨FK ok kin 8 h8 e rfl,h8⟩
theorem pA{kvs:List (TK×V)}(ok:k_ P w K H h)(kin:K.In h)(e:Rd H a (.dT kvs)):kvs.length<=ai/\(a==gE)=false /\
  ∃xs,KT K H kvs xs/\h.DictOfH (dP P w) a xs:=by
 obtain⟨z,y,xs,r,o,es,ep,h1,h2,h3,h4,h5⟩:=(show cq P w K H h a (.dT kvs)from Fs ok e);refine⟨z,y,xs,r,o,es,ep,h1,h2,h3,h4,fun x hx=>?_,h5⟩;have all:∀{l:List (TK×V)}{m:List (TK×Addr×Value)},KT K H l m->∀x∈m,(dP P w).is h x.1 x.2.1:=by
  intro l m q
  induction q with
  |nil=>intro x hx;exact nomatch hx
  |@cons p q ps qs hq t ih =>
   intro x hx;rcases cc.mp hx with e|hx
   ·subst e;exact wm ok kin (by rw[<-hq.1];exact hq.2.1) (by rw[<-hq.1];exact hq.2.2.1)
   ·exact ih x hx
 exact all r x hx
theorem Dx{kvs:List (TK×V)}(ok:k_ P w K H h)(kin:K.In h)(e:H a=some (.dT kvs)):kvs.length<=ai/\(a==gE)=false /\
  ∃xs,KT K H kvs xs/\h.DictOfH (dP P w) a xs:=pA ok kin (.inl e)
end
mutual
def lq(K:Za)(H:Hp):TK->V->Prop
 |.k a,v=>v=FA a
 |.t l,v=>∃b xs,v=.ref b/\bC K H b xs/\TKIns K H l xs
def TKIns(K:Za)(H:Hp):List TK->List V->Prop
 |[],vs=>vs=[]
 |k::r,vs=>∃v us,vs=v::us/\lq K H k v/\TKIns K H r us
end
theorem dk.isIn{K:Za}{H:Hp}:∀(d:Nat) {k:TK}{v:V},k.depth<=d->dk H k v->lq K H k v:=by
 have key:∀(d:Nat) (ih:∀{k:TK}{v:V},k.depth<=d->dk H k v->lq K H k v) (xs:List TK) (vs:List V),TK.depths xs<=d->TKAts H xs vs->TKIns K H xs vs:=by
  intro d ih xs
  induction xs with
  |nil=>intro vs _ hx;exact hx
  |cons x xs ihl =>
   intro vs hd hx;obtain⟨v,us,rfl,hx1,hx2⟩:=hx;have hd':max x.depth (TK.depths xs)<=d:=hd;exact⟨v,us,rfl,ih (by omega) hx1,ihl us (by omega) hx2⟩
 intro d
 induction d with
 |zero =>
  intro k v hd hx;cases k with
  |t l=>exact absurd hd (by show ¬(TK.depths l+1<=0);omega)
  |k a=>exact hx
 |succ d ih =>
  intro k v hd hx;cases k with
  |k a=>exact hx
  |t l =>
   obtain⟨b,xs,rfl,hb,hi⟩:=hx;exact⟨b,xs,rfl,bC.of hb,key d (fun h1=>ih h1) l xs (by have:TK.depths l+1<=d+1:=hd;omega) hi⟩
theorem Ei{X:Cx}{J3:Zd}{σ:St}{H:Hp}{s:Shared}(I:Inv X J3 σ H s):∀(d:Nat) {k:TK}{v:V}{u:Value},k.depth<=d->lq X.K H k v->RelV v u->lr s.heap k u:=by
 have key:∀(d:Nat) (ih:∀{k:TK}{v:V}{u:Value},k.depth<=d->lq X.K H k v->RelV v u->lr s.heap k u) (ks:List TK) (vs:List V) (us:Zf),TK.depths ks<=d->TKIns X.K H ks vs->aQ vs us->TAts s.heap ks us:=by
  intro d ih ks
  induction ks with
  |nil =>
   intro vs us _ hx r;have e:vs=[]:=hx;subst e;cases r
   rfl
  |cons k ks ihl =>
   intro vs us hd hx r;obtain⟨v,vs',rfl,h1,h2⟩:=hx;cases r with
   |@cons _ u _ us' r1 r2 =>
    have hd':max k.depth (TK.depths ks)<=d:=hd;exact⟨u,us',rfl,ih (by omega) h1 r1,ihl vs' us' (by omega) h2 r2⟩
 intro d
 induction d with
 |zero =>
  intro k v u hd hx r;cases k with
  |t l=>exact absurd hd (by show ¬(TK.depths l+1<=0);omega)
  |k b =>
   have e:v=FA b:=hx;subst e;exact wq r
 |succ d ih =>
  intro k v u hd hx r;cases k with
  |k b =>
   have e:v=FA b:=hx;subst e;exact wq r
  |t l =>
   obtain⟨b,xs,rfl,hb,hi⟩:=hx;cases(show u=Value.ref b from r);obtain⟨its,rv,⟨ob,h1,h2,n,h3⟩,_⟩:=I.tuple hb;exact⟨b,ob,its.toArray,n,rfl,h1,h2,h3,by simpa using key d (fun h1=>ih h1) l xs its (by have:TK.depths l+1<=d+1:=hd;omega) hi rv⟩
theorem si{X:Cx}{J3:Zd}{σ:St}{H:Hp}{s:Shared}{k:TK}{b:Addr}(I:Inv X J3 σ H s)(e:lq X.K H k (.ref b))(h8:k.depth<=8):(dP X.prog X.w).is s.heap k b:=⟨Ei I 8 h8 e rfl,h8⟩
theorem eV{P:bj}{w:World}{A:Around}(hu:A.units+16<cLine):(dP P w).room A.in1:=by
 show A.units+1+8<cLine;omega
def lC(K:Za)(H:Hp)(a:Addr)(y:V)(r:Option V):Prop :=
 (∃kvs k,Rd H a (.dK kvs)/\y=kV k/\r=aY kvs k)∨∃kvs k b,Rd H a (.dT kvs)/\y=.ref b/\lq K H k (.ref b)/\k.depth<=8/\r=aY kvs k
def G_(H:Hp)(a:Addr)(y v:V)(H':Hp):Prop :=
 (∃kvs k,H a=some (.dK kvs)/\y=kV k/\kvs.length<ai/\H'=upd H a (.dK (c7 kvs k v))) ∨
 ∃kvs k b,H a=some (.dT kvs)/\y=.ref b/\dk H k (.ref b)/\k.depth<=8/\kvs.length<ai/\H'=upd H a (.dT (c7 kvs k v))
section
variable{X:Cx}{J3:Zd}{σ:St}{H:Hp}{s:Shared}{a:Addr}{y v:V}{u r:Value}{o:Option V}{A:Around}{E:Zc}
theorem Inv.big(I:Inv X J3 σ H s):gE<s.heap.objs.size:=by
 have h:bA<s.heap.objs.size:=(I.mod.glob.keeps I.bk).lt;exact Nat.lt_trans (by decide) h
theorem BR{Q:Zc}(hu:A.units+16<cLine)(I:Inv X J3 σ H s)(g:lC X.K H a y (some v))(ry:RelV y u)(h:∀w' s',Inv X J3 σ H s'->RelV v w'->Q w' s'):
  wpAny (model X.prog X.w) A (lS (.ref a) u) Q E s:=by
 rcases g with⟨kvs,k,e,ey,l⟩|⟨kvs,k,b,e,ey,eb,e8,l⟩
 ·subst ey;obtain⟨z,hd,vs,rel,dd⟩:=nM I.hok e;obtain⟨w',hw,rw'⟩:=jS.some_of (v:=v) (o:=lP vs k) (by rw[l];exact rel.val k);exact wpAny_getItem_of (nJ ry) dd.mapOf hw (h w' _ (I.tok _) rw')
 ·subst ey;cases(show u=Value.ref b from ry);obtain⟨z,hd,xs,rel,dd⟩:=pA I.hok I.kIn e;obtain⟨w',hw,rw'⟩:=jS.some_of (v:=v) (o:=(atKey xs k).map (·.2)) (by rw[l];exact rel.val k);obtain⟨p,hp,hp2⟩:=nW.mp hw;refine wpAny_getItem_heap (eV hu) (si I eb e8) dd hp ?_;rw[hp2];exact h w' _ (I.tok _) rw'
theorem d_in{Q:Zc}(hu:A.units+16<cLine)(I:Inv X J3 σ H s)(g:lC X.K H a y o)(ry:RelV y u)(h:∀s',Inv X J3 σ H s'->Q (.bool o.isSome) s'):
  wpAny (model X.prog X.w) A (eh .In u (.ref a)) Q E s:=by
 rcases g with⟨kvs,k,e,ey,l⟩|⟨kvs,k,b,e,ey,eb,e8,l⟩
 ·subst ey;obtain⟨z,hd,vs,rel,dd⟩:=nM I.hok e;refine wpAny_in_of (nJ ry) hd dd.mapOf ?_;rw[<-(rel.val k).isSome_eq,<-l];exact h _ (I.tok _)
 ·subst ey;cases(show u=Value.ref b from ry);obtain⟨z,hd,xs,rel,dd⟩:=pA I.hok I.kIn e;refine wpAny_in_heap (eV hu) (si I eb e8) hd dd ?_;have q:=(rel.val k).isSome_eq;rw[Option.isSome_map]at q;rw[<-q,<-l];exact h _ (I.tok _)
theorem Fa{Q:Zc}(hu:A.units+16<cLine)(I:Inv X J3 σ H s)(g:lC X.K H a y o)(ry:RelV y u)(h:∀s',Inv X J3 σ H s'->Q (.bool (!o.isSome)) s'):
  wpAny (model X.prog X.w) A (eh .NotIn u (.ref a)) Q E s:=by
 rcases g with⟨kvs,k,e,ey,l⟩|⟨kvs,k,b,e,ey,eb,e8,l⟩
 ·subst ey;obtain⟨z,hd,vs,rel,dd⟩:=nM I.hok e;refine wpAny_notIn_of (nJ ry) hd dd.mapOf ?_;rw[<-(rel.val k).isSome_eq,<-l];exact h _ (I.tok _)
 ·subst ey;cases(show u=Value.ref b from ry);obtain⟨z,hd,xs,rel,dd⟩:=pA I.hok I.kIn e;refine wpAny_notIn_heap (eV hu) (si I eb e8) hd dd ?_;have q:=(rel.val k).isSome_eq;rw[Option.isSome_map]at q;rw[<-q,<-l];exact h _ (I.tok _)
theorem qx{h':Heap}{t':Nat}{ob:HO}(I:Inv X J3 σ H s)(mu:G5 (H a))(hs:gD a s.heap h')(he:∃q,h'.get? a=some q)(new:cq X.prog X.w X.K (upd H a ob) h' a ob):
  Inv X J3 σ (upd H a ob) { s with heap:=h',toks:=t' } :=
 I.write (x:=a) (e:=a) mu (.inl rfl) (fun b q hb z=>(hs.2 b hb).trans z) he new
theorem DA{P:bj}{w:World}{K:Za}{H':Hp}{h':Heap}{kvs:List (eG×V)}{vs:List (eG×Value)}(z:kvs.length<=ai)(hd:(a==gE)=false)(rel:KV kvs vs)(dd:h'.DictOf (bV P w) a vs):
  cq P w K H' h' a (.dK kvs):=⟨z,hd,vs,rel,dd⟩
theorem BQ{H':Hp}{Q:Unit->Shared->Prop}(hu:A.units+16<cLine)(I:Inv X J3 σ H s)(g:G_ H a y v H')(ry:RelV y u)(rv:RelV v r)(h:∀s',Inv X J3 σ H' s'->Q () s'):
  wpAny (model X.prog X.w) A (setItem (.ref a) u r) Q E s:=by
 rcases g with⟨kvs,k,e,ey,l,eH⟩|⟨kvs,k,b,e,ey,eb,e8,l,eH⟩
 ·subst ey eH;obtain⟨z,hd,vs,rel,dd⟩:=G0 I.hok e;have hz:vs.length<=ai:=by rw[<-rel.length];exact z
  have hl:(c7 kvs k v).length<=ai:=by have:=e_ kvs k v;omega
  refine wpAny_setItem_pairs (hsz:=hz) (nJ ry) dd fun h' dd' hs=>h _ ?_;have he:∃q,h'.get? a=some q:=let⟨q,_,_,hq,_⟩:=dd';⟨q,hq⟩;exact qx I (by rw[e];exact o_) hs he (DA hl hd (rel.put k rv) dd')
 ·subst ey eH;cases(show u=Value.ref b from ry);obtain⟨z,hd,xs,rel,dd⟩:=Dx I.hok I.kIn e;have hz:xs.length<=ai:=by rw[<-Paired.length rel];exact z
  have hl:(c7 kvs k v).length<=ai:=by have:=e_ kvs k v;omega
  refine wpAny_setItem_heap (hsz:=hz) (eV hu) (wm I.hok I.kIn (dk.c 8 e8 eb) e8) dd fun h' dd' hs=>h _ ?_;obtain⟨q,es,ep,hq,h2,h3,h4,_,h5⟩:=dd';refine qx I (by rw[e];exact o_) hs ⟨q,hq⟩ ⟨hl,hd,_,(rel.put k (dk.c 8 e8 eb) e8 rv).keeps fun c ys ec=>?_,q,es,ep,hq,h2,h3,h4,h5⟩;rw[ah (Dc ec e (fun z=>nomatch z))];exact ec
theorem zG{b:Addr}{kvs:List (TK×V)}{k:TK}{Q:Unit->Shared->Prop}(hu:A.units+16<cLine)(I:Inv X J3 σ H s)(e:H a=some (.dT kvs))(eb:pD X.K H k (.ref b))(e8:k.depth<=8)(l:kvs.length<ai)(ry:RelV (.ref b) u)(rv:RelV v r)(h:∀s',Inv X J3 σ (upd H a (.dT (c7 kvs k v))) s'->Q () s'):
  wpAny (model X.prog X.w) A (setItem (.ref a) u r) Q E s:=by
 cases(show u=Value.ref b from ry);obtain⟨z,hd,xs,rel,dd⟩:=Dx I.hok I.kIn e;have hz:xs.length<=ai:=by rw[<-Paired.length rel];exact z
 have hl:(c7 kvs k v).length<=ai:=by have:=e_ kvs k v;omega
 refine wpAny_setItem_heap (hsz:=hz) (eV hu) (wm I.hok I.kIn (eb) e8) dd fun h' dd' hs=>h _ ?_;obtain⟨q,es,ep,hq,h2,h3,h4,_,h5⟩:=dd';refine qx I (by rw[e];exact o_) hs ⟨q,hq⟩ ⟨hl,hd,_,(rel.put k (eb) e8 rv).keeps fun c ys ec=>?_,q,es,ep,hq,h2,h3,h4,h5⟩;rw[ah (Dc ec e (fun z=>nomatch z))];exact ec
end
def B5(i:Expr):Prop:=∀ov iv,vm i false ov iv=operate [ov,iv] (lS ov iv)
theorem Em{prog:bj}{w:World}{A:Around}{E:Zc}{s:Shared}{env:Env}{value slice:Expr}{pos:Pos}{T id:String}{Q:Zc}
  (hl:q_ (.type T) "__getitem__"=pure (some (.builtin id))) (hs:B5 slice)
  (h:wpAny (model prog w) A (eval value env) (fun o s₁=>wpAny (model prog w) A (eval slice env) (fun i s₂=>s₂.TypeIs o T/\wpAny (model prog w) A (lS o i) Q E s₂) E s₁) E s) :
  wpAny (model prog w) A (eval (.Subscript value slice pos) env) Q E s:=by
 refine vo (mL h (fun o s₁ h₁=>mL h₁ (fun i s₂ h₂=>?_) fun _ _ x=>x) fun _ _ x=>x);obtain⟨hT,h₂⟩:=h₂;unfold vn;refine ak ?_;rw[getitemInPython_of_ne hT.not_modules];refine ak (AX hT hl ?_);have fin:wpAny (model prog w) A (vm slice false o i) (fun r s₃=>wpAny (model prog w) A (letTemporaryGo value o r >>= fun _=>pure r) Q E s₃) E s₂:=by
  rw[hs o i];exact wpAny_operating (mL h₂ (fun r s₃ h₃=>ak (wpAny_letTemporaryGo (aF h₃))) fun _ _ x=>x)
 first
  |exact aF (ak fin)
  |exact ak (aF (ak fin))
  |exact ak fin
theorem xZ{X:Cx}{J3:Zd}{σ:St}{H:Hp}{s:Shared}{a:Addr}{y:V}{o:Option V}(I:Inv X J3 σ H s)(g:lC X.K H a y o):s.TypeIs (.ref a) "dict":=by
 rcases g with⟨kvs,k,e,_,_⟩|⟨kvs,k,b,e,_,_,_⟩
 ·obtain⟨_,_,vs,_,dd⟩:=nM I.hok e;exact dd.typeIs
 ·obtain⟨_,_,xs,_,dd⟩:=pA I.hok I.kIn e;exact dd.typeIs
def kf(K:Za)(td ty:TE):TE:=fun σ H Q=>td σ H fun x H1=>ty σ H1 fun y H2=>∃a v,x=.ref a/\lC K H2 a y (some v)/\Q v H2
def Bf(K:Za)(ty td:TE):TE:=fun σ H Q=>ty σ H fun y H1=>td σ H1 fun x H2=>∃a o,x=.ref a/\lC K H2 a y o/\Q (.bl o.isSome) H2
def gK(K:Za)(ty td:TE):TE:=fun σ H Q=>ty σ H fun y H1=>td σ H1 fun x H2=>∃a o,x=.ref a/\lC K H2 a y o/\Q (.bl (!o.isSome)) H2
def jO(td ty tv:TE):TS:=fun D σ H=>tv σ H fun v H1=>td σ H1 fun x H2=>ty σ H2 fun y H3=>∃a H4,x=.ref a/\G_ H3 a y v H4/\D.nx σ H4
section
variable{X:Cx}{o i e value:Expr}{pos pos' J7:Pos}{td ty tv:TE}
theorem jy(hu:X.A.units+16<cLine)(ho:PE X o td)(hi:PE X i ty)(hs:B5 i):PE X (.Subscript o i pos) (kf X.K td ty):=by
 intro J3 s σ H Q I h;refine Em PySem.F.slot_dict_getitem.lookup hs (ca (ho J3 s σ H _ I h) fun u s1 ⟨x,H1,I1,rx,q1⟩=>ca (hi J3 s1 σ H1 _ I1 q1) fun iv s2 ⟨y,H2,I2,ry,a,v,ex,g,q2⟩=>?_);subst ex;obtain rfl:u=Value.ref a:=rx;exact⟨xZ I2 g,BR hu I2 g ry fun w' s3 I3 rw'=>⟨v,H2,I3,rw',q2⟩⟩
theorem rV(hu:X.A.units+16<cLine)(hi:PE X i ty)(ho:PE X o td):PC X .In i o (Bf X.K ty td):=by
 intro J3 s σ H Q I h;refine ca (hi J3 s σ H _ I h) fun iv s1 ⟨y,H1,I1,ry,q1⟩=>ca (ho J3 s1 σ H1 _ I1 q1) fun u s2 ⟨x,H2,I2,rx,a,ov,ex,g,q2⟩=>?_;subst ex;obtain rfl:u=Value.ref a:=rx;exact d_in hu I2 g ry fun s3 I3=>⟨.bl ov.isSome,H2,I3,rfl,q2⟩
theorem eX(hu:X.A.units+16<cLine)(hi:PE X i ty)(ho:PE X o td):PC X .NotIn i o (gK X.K ty td):=by
 intro J3 s σ H Q I h;refine ca (hi J3 s σ H _ I h) fun iv s1 ⟨y,H1,I1,ry,q1⟩=>ca (ho J3 s1 σ H1 _ I1 q1) fun u s2 ⟨x,H2,I2,rx,a,ov,ex,g,q2⟩=>?_;subst ex;obtain rfl:u=Value.ref a:=rx;exact Fa hu I2 g ry fun s3 I3=>⟨.bl (!ov.isSome),H2,I3,rfl,q2⟩
theorem fC(hu:X.A.units+16<cLine)(ho:PE X o td)(hi:PE X i ty)(hv:PE X value tv)(hs:pc value (some (.Subscript o i pos')) pos.line X.env=pure false):
  PS X (.Assign [.Subscript o i pos'] value pos) (jO td ty tv):=by
 intro J3 s σ H D I h;refine wpAny_Assign_Subscript (ca (hv J3 s σ H _ I h) fun r s1 ⟨v,H1,I1,rv,q1⟩=>ca (ho J3 s1 σ H1 _ I1 q1) fun u s2 ⟨x,H2,I2,rx,q2⟩=>ca (hi J3 s2 σ H2 _ I2 q2) fun iv s3 ⟨y,H3,I3,ry,a,H4,ex,g,q3⟩=>?_) hs;subst ex;obtain rfl:u=Value.ref a:=rx;exact BQ hu I3 g ry rv fun s4 I4=>⟨σ,H4,I4,q3⟩
end
theorem DB{P:bj}{w:World}{K:Za}{H:Hp}(h:Heap)(hb:gE<h.objs.size):cq P w K H (h.push { cls:=.type "dict",data:=.dict #[] }) h.objs.size (.dK []) :=
 ⟨eS _,beq_eq_false_iff_ne.mpr (eT (bE hb)),[],.nil,Heap.DictOf.new h⟩
theorem Dz{P:bj}{w:World}{K:Za}{H:Hp}(h:Heap)(hb:gE<h.objs.size):cq P w K H (h.push { cls:=.type "dict",data:=.dict #[] }) h.objs.size (.dT []) :=
 ⟨eS _,beq_eq_false_iff_ne.mpr (eT (bE hb)),[],.nil,_,#[],0,cb _ rfl,⟨rfl,rfl,rfl⟩,rfl,rfl,qX⟩
def rB:TE:=fun _ H Q=>∀p,H p=none->Q (.ref p) (upd H p (.dK []))
def l9:TE:=fun _ H Q=>∀p,H p=none->Q (.ref p) (upd H p (.dT []))
section
variable{X:Cx}{pos:Pos}
theorem nz:PE X (.Dict [] [] pos) rB:=fun J3 s σ H Q I h =>
 wpAny_Dict_empty ⟨.ref s.heap.objs.size,_,I.laid (a:=s.heap.objs.size) (o:=.dK []) (t':=s.toks) (fun _ _ q=>aO _ q) (ay _) (DB s.heap I.big),rfl,h _ (I.hok.fresh (ay _))⟩
theorem i9:PE X (.Dict [] [] pos) l9:=fun J3 s σ H Q I h =>
 wpAny_Dict_empty ⟨.ref s.heap.objs.size,_,I.laid (a:=s.heap.objs.size) (o:=.dT []) (t':=s.toks) (fun _ _ q=>aO _ q) (ay _) (Dz s.heap I.big),rfl,h _ (I.hok.fresh (ay _))⟩
end
def iP(kvs more:List (eG×V)):List (eG×V):=more.foldl (fun acc kv=>c7 acc kv.1 kv.2) kvs
theorem KV.merge:∀{more:List (eG×V)}{rs:List (eG×Value)}{kvs:List (eG×V)}{vs:List (eG×Value)},KV more rs->KV kvs vs->KV (iP kvs more) (merged vs rs):=by
 intro more rs kvs vs r;unfold KV at r
 induction r generalizing kvs vs with
 |nil=>intro q;exact q
 |@cons p q ps qs h t ih =>
  intro r0;have e:KV (c7 kvs p.1 p.2) (stored vs q.1 q.2):=by
   have:=r0.put p.1 h.2;rw[<-h.1];exact this
  exact ih e
theorem lG:∀(more kvs:List (eG×V)),(iP kvs more).length<=kvs.length+more.length
 |[],kvs=>by show kvs.length<=kvs.length+0;omega
 |p::r,kvs=>by
  have h1:=lG r (c7 kvs p.1 p.2);have h2:=e_ kvs p.1 p.2;show(iP (c7 kvs p.1 p.2) r).length<=_;rw[fh];omega
structure M1(X:Cx)(o:Expr)(m:Str)(J5:Pos)(e:Expr)(J4:Pos):Prop where
 base:tR o m X.env (eval o X.env)=eval o X.env
 few:((backTo J4 (aA [e] X.env)).all (fun x=>!x.1) && (mG J4 (mF [] X.env)).all (fun x=>x.1.isSome)
  && decide (([e]:List Expr).length+([]:List oh).length+(if([]:List oh).isEmpty then 0 else 1)<30))=true
 line:(J5.endLine==J4.line)=true
 trees:backTo J4 (aA [e] X.env)=[(false,eval e X.env)]
structure M2(X:Cx)(o:Expr)(m:Str)(J5:Pos)(e f:Expr)(J4:Pos):Prop where
 base:tR o m X.env (eval o X.env)=eval o X.env
 few:((backTo J4 (aA [e,f] X.env)).all (fun x=>!x.1) && (mG J4 (mF [] X.env)).all (fun x=>x.1.isSome)
  && decide (([e,f]:List Expr).length+([]:List oh).length+(if([]:List oh).isEmpty then 0 else 1)<30))=true
 line:(J5.endLine==J4.line)=true
 trees:backTo J4 (aA [e,f] X.env)=[(false,eval e X.env),(false,eval f X.env)]
def IsD(H:Hp)(a:Addr):Prop:=(∃kvs,Rd H a (.dK kvs))∨∃kvs,Rd H a (.dT kvs)
theorem Dn{X:Cx}{J3:Zd}{σ:St}{H:Hp}{s:Shared}{a:Addr}(I:Inv X J3 σ H s)(d:IsD H a):
  s.TypeIs (.ref a) "dict"/\(∀b,Value.ref a=.ref b->∃ob,s.heap.get? b=some ob/\ob.dict=none)/\(a==gE)=false:=by
 rcases d with⟨kvs,e⟩|⟨kvs,e⟩
 ·obtain⟨_,hd,vs,_,dd⟩:=nM I.hok e;refine⟨dd.typeIs,fun b q=>?_,hd⟩;cases q;obtain⟨ob,_,_,h1,h2,_⟩:=dd;exact⟨ob,h1,h2.2.1⟩
 ·obtain⟨_,hd,xs,_,dd⟩:=pA I.hok I.kIn e;refine⟨dd.typeIs,fun b q=>?_,hd⟩;cases q;obtain⟨ob,_,_,h1,h2,_⟩:=dd;exact⟨ob,h1,h2.2.1⟩
section
variable{X:Cx}{J3:Zd}{σ:St}{H:Hp}{s:Shared}{a:Addr}{y d:V}{u r:Value}{o:Option V}{A:Around}{E:Zc}
theorem Gi{Q:Zc}(hu:A.units+16<cLine)(I:Inv X J3 σ H s)(g:lC X.K H a y o)(ry:RelV y u)(h:∀w' s',Inv X J3 σ H s'->RelV (o.getD .non) w'->Q w' s'):
  wpAny (model X.prog X.w) A (call (.builtin "dict.get") [.ref a,u]) Q E s:=by
 rcases g with⟨kvs,k,e,ey,l⟩|⟨kvs,k,b,e,ey,eb,e8,l⟩
 ·subst ey;obtain⟨z,hd,vs,rel,dd⟩:=nM I.hok e;refine qW n_ dd.typeIs vg (PySem.F.args_dict_get_2 _ _) (meets_dict_get (bV X.prog X.w) a (nJ ry) hd) ⟨_,dd.mapOf,h _ _ (I.tok _) ?_⟩;rw[l];exact(rel.val k).getD rfl
 ·subst ey;cases(show u=Value.ref b from ry);obtain⟨z,hd,xs,rel,dd⟩:=pA I.hok I.kIn e;refine qW n_ dd.typeIs vg (PySem.F.args_dict_get_2 _ _) (meetsH_dict_get (dP X.prog X.w) a b hd) ⟨eV hu,k,xs,si I eb e8,dd,h _ _ (I.tok _) ?_⟩;rw[l];exact(rel.val k).getD rfl
theorem Gh{Q:Zc}(hu:A.units+16<cLine)(I:Inv X J3 σ H s)(g:lC X.K H a y o)(ry:RelV y u)(rd:RelV d r)(h:∀w' s',Inv X J3 σ H s'->RelV (o.getD d) w'->Q w' s'):
  wpAny (model X.prog X.w) A (call (.builtin "dict.get") [.ref a,u,r]) Q E s:=by
 rcases g with⟨kvs,k,e,ey,l⟩|⟨kvs,k,b,e,ey,eb,e8,l⟩
 ·subst ey;obtain⟨z,hd,vs,rel,dd⟩:=nM I.hok e;refine qW n_ dd.typeIs vg (PySem.F.args_dict_get_3 _ _ _) (meets_dict_get_default (bV X.prog X.w) a (nJ ry) hd r) ⟨_,dd.mapOf,h _ _ (I.tok _) ?_⟩;rw[l];exact(rel.val k).getD rd
 ·subst ey;cases(show u=Value.ref b from ry);obtain⟨z,hd,xs,rel,dd⟩:=pA I.hok I.kIn e;refine qW n_ dd.typeIs vg (PySem.F.args_dict_get_3 _ _ _) (meetsH_dict_get_default (dP X.prog X.w) a b hd r) ⟨eV hu,k,xs,si I eb e8,dd,h _ _ (I.tok _) ?_⟩;rw[l];exact(rel.val k).getD rd
end
def vS(K:Za)(td ty:TE):TE:=fun σ H Q=>td σ H fun x H1=>∃a,x=.ref a/\IsD H1 a/\ty σ H1 fun y H2=>∃o,lC K H2 a y o/\Q (o.getD .non) H2
def vR(K:Za)(td ty tx:TE):TE:=fun σ H Q=>td σ H fun x H1=>∃a,x=.ref a/\IsD H1 a/\ty σ H1 fun y H2=>tx σ H2 fun z H3=>∃o,lC K H3 a y o/\Q (o.getD z) H3
section
variable{X:Cx}{o e f:Expr}{J5 J4:Pos}{td ty tx:TE}
theorem nA(hu:X.A.units+16<cLine)(ho:PE X o td)(he:PE X e ty)(m:M1 X o "get" J5 e J4):PE X (.Call (.Attribute o "get" J5) [e] [] J4) (vS X.K td ty):=by
 intro J3 s σ H Q I h;refine wpAny_Call_method m.base m.few m.line PySem.F.plainAttrs_dict n_ PySem.F.type_dict_get (ca (ho J3 s σ H _ I h) fun u s1 ⟨x,H1,I1,rx,a,ex,d,q1⟩=>?_);subst ex;obtain rfl:u=Value.ref a:=rx;obtain⟨t1,t2,_⟩:=Dn I1 d;refine⟨t1,t2,?_⟩;rw[m.trees];refine vj rfl (Calls.evalArgs_plain (tQ (ca (he J3 s1 σ H1 _ I1 q1) fun iv s2 ⟨y,H2,I2,ry,ov,g,q2⟩=>wY ?_)));exact Gi hu I2 g ry fun w' s3 I3 rw'=>⟨_,H2,I3,rw',q2⟩
theorem rT(hu:X.A.units+16<cLine)(ho:PE X o td)(he:PE X e ty)(hf:PE X f tx)(m:M2 X o "get" J5 e f J4):PE X (.Call (.Attribute o "get" J5) [e,f] [] J4) (vR X.K td ty tx):=by
 intro J3 s σ H Q I h;refine wpAny_Call_method m.base m.few m.line PySem.F.plainAttrs_dict n_ PySem.F.type_dict_get (ca (ho J3 s σ H _ I h) fun u s1 ⟨x,H1,I1,rx,a,ex,d,q1⟩=>?_);subst ex;obtain rfl:u=Value.ref a:=rx;obtain⟨t1,t2,_⟩:=Dn I1 d;refine⟨t1,t2,?_⟩;rw[m.trees];refine vj rfl (Calls.evalArgs_plain (tQ (ca (he J3 s1 σ H1 _ I1 q1) fun iv s2 ⟨y,H2,I2,ry,q2⟩ =>
  tQ (ca (hf J3 s2 σ H2 _ I2 q2) fun fv s3 ⟨z,H3,I3,rz,ov,g,q3⟩=>wY ?_))))
 exact Gh hu I3 g ry rz fun w' s4 I4 rw'=>⟨_,H3,I4,rw',q3⟩
end
end L2
namespace Att
open PySem PySem.W PySem.Calls PyProof.Rows
theorem ints_of_wellAll{P:Params}{h:Heap}:∀(ns:List Int) (vs:Zf),WellAll P h vs (ns.map WData.int)->qV vs ns:=by
 intro ns
 induction ns with
 |nil =>
  intro vs w;rw[vf]at w;cases w;exact .nil
 |cons n ns ih =>
  intro vs w;rw[bm]at w;cases w with
  |cons a b =>
   cases a;exact .cons _ _ (ih _ b)
theorem script_of{l:OpenLaw}{n:Nat}(hn:l.most=some n){P:Params}{h:Heap}{args:List WData}{vals:Zf}
  (hpre:l.row.toRowW.claim.pre args=true) (hwl:WellAll P h vals args) :
  ∃a vs ns,vals=[Value.ref a]/\args=[WData.list (ns.map WData.int)]/\h.get? a=some { cls:=.type "list",data:=.seq vs.toArray }/\qV vs ns/\ns.length<=n:=by
 have hsh:WShape.hasAll [] args [.list .int]=true:=(pre_splitW hpre).1;have hc:l.pre.holds [] { args:=args }=true:=(pre_splitW hpre).2;obtain⟨d,r,rfl,h1,h2⟩:=hasAllW_cons hsh;obtain rfl:=hasAllW_nil h2;obtain⟨xs,rfl,h3⟩:=hasW_list h1;obtain⟨ns,rfl⟩:=items_int h3;have hlen:ns.length<=n:=by
  unfold OpenLaw.pre at hc;have h4:(WTm.not (.lt (.lit (.int (n:Int))) (.len (.arg 0)))).holds [] { args:=[.list (ns.map .int)] }=true:=by
   have h4:=(holds_andW hc).1;rw[hn]at h4;exact h4
  have h5:=condW_of h4 (w_not (w_lt w_lit (w_len_list (w_arg rfl))));rw[aj]at h5;refine Nat.le_of_not_lt fun q=>?_;have q':(n:Int)<((ns.length:Nat):Int):=by omega
  first
   | (rw[zzr1 q']at h5;exact absurd h5 (by decide))
   | (simp at h5;omega)
 cases hwl with
 |cons w1 w2 =>
  cases w2;cases w1 with
  |list ho hall=>exact⟨_,_,ns,rfl,rfl,ho,ints_of_wellAll ns _ hall,hlen⟩
theorem post_true(l:OpenLaw)(args:List WData):l.row.toRowW.claim.post args (.bool true) args=true :=
 postW_of (r:=l.row.toRowW) (X:=(true==true))
  (show WShape.has [] (.bool true) .bool=true by first|rfl|decide|simp[WShape.has,WShape.arms,WShape.armsAll])
  (show(WTm.eq .res (.lit (.bool true))).value [] { args:=args,res:=some (.bool true),after:=args }=some (.bool (true==true))from w_eq_bool (w_res rfl) w_lit) rfl
theorem attach_call{l:OpenLaw}{n:Nat}{q:bj}{loose:Zb}{XP:(Str->Option Value)->Heap->Prop}{YP:World->Heap->Prop}{d:DefRec}
  (hn:l.most=some n) (hdf:d.params.defaults=[])
  (call:∀(w:World) (s₀ s₁:Shared) (mg mb:Str->Option Value) (fa:Addr) (o:Obj) (pm cd doc:Value) (a:Addr) (vs:Zf) (ns:List Int),
   Ground q loose [] XP w s₀ mg mb s₁.heap->YP w s₁.heap ->
   s₁.heap.get? fa=some o->o.data=.func (docDef d.name d.params d.body d.scope pm cd doc)->s₁.heap.CodeRec cd d.name->mg d.name=some (.ref fa) ->
   s₁.heap.get? a=some { cls:=.type "list",data:=.seq vs.toArray }->qV vs ns->ns.length<=n->s₁.gens=#[] ->
   zzl78 (model l.prog w) kb (.call (.ref fa) ⟨[.ref a],[]⟩) (fun r s'=>r=.ok (.ret (.bool true))/\OldK s₁.heap s'.heap/\s'.os=s₁.os/\mK s'.gens) s₁) :
  WalkO q loose XP YP l.row.toRowW d [] (fun f vs=>PySem.call f vs):=by
 intro w s₀ s₁ mg mb G Y fa o pm cd doc dV kV ho hd hcd hD hmg hg args vals as hpre hlay hrd hwl hlo;obtain rfl:dV=.none:=Dflts.none hD hdf;obtain rfl:kV=.none:=Dflts.noKw hD;obtain⟨a,vs,ns,rfl,rfl,hobj,hints,hlen⟩:=script_of hn hpre hwl;refine enter_call (z0 (call w s₀ s₁ mg mb fa o pm cd doc a vs ns G Y ho (fd_plain hd) hcd hmg hobj hints hlen hg) fun r s' hq=>?_);obtain⟨rfl,h2,h3,h4⟩:=hq;exact⟨.inl ⟨.bool true,.bool true,[],rfl,fun _=>rfl,.bool true,post_true l _,fun _=>⟨List.Pairwise.nil,fun _ hm=>(nomatch hm)⟩⟩,h2,h3,h4⟩
end Att
namespace L2
open PySem PySem.Spec PyProof.Rows
theorem tZ:∀{vs:Zf}{ns:List Int},qV vs ns->aQ (ns.map V.int) vs
 |_,_,.nil=>.nil
 |_,_,.cons n t h=>.cons ⟨t,rfl⟩ (tZ h)
def Fk(H:Hp):Prop:=∀b,H b=none∨∃o xs,H b=some (.frz o (.lst xs))
theorem Di{P:bj}{w:World}{K:Za}{mg mb:Str->Option Value}{CX:Cf}{k:Nat}{fa a:Addr}{fd:jM}{x:Str}{sp:Sp}{s₁:Shared}{vs:Zf}{ns:List Int}
  (KX:K.In s₁.heap) (hns:s₁.heap.Ns bA mg) (hb:s₁.heap.Ns builtinsNs mb) (hbb:∀x:Str,x≠"__name__"->mb x=lD x) (hlim:s₁.heap.NoLimit) (hg:s₁.gens=#[])
  (ha:s₁.heap.get? a=some { cls:=.type "list",data:=.seq vs.toArray }) (hi:qV vs ns) (hl:ns.length<=ai) (hr:eg k kb)
  (F:∀base:Heap,K.In base->base.Ns bA mg->kI P w K mg base CX k fa fd [x] sp) (hbind:∀(s:Shared) (u:Value),qA s fd ⟨[u],[]⟩ [(x,u)])
  (hsp:∀H:Hp,Fk H->ax K H a (ns.map V.int)->sp [.ref a] H (fun v _=>v=.bl true) fun _ _ _=>False)
  (hCX:∀H e s',CX [] H s₁ (fun _ _ _=>False) e s'->False) :
  zzl78 (model P w) kb (.call (.ref fa) ⟨[.ref a],[]⟩) (fun r s'=>r=.ok (.ret (.bool true))/\OldK s₁.heap s'.heap/\s'.os=s₁.os/\mK s'.gens) s₁:=by
 have rv:=tZ hi;have lenV:=hi.length;have core:∀H:Hp,Fk H->ax K H a (ns.map V.int)->k_ P w K H s₁.heap->(∀b,H b≠none->b=a)->(H a≠none->K.lookup a=none) ->
   zzl78 (model P w) kb (.call (.ref fa) ⟨[.ref a],[]⟩) (fun r s'=>r=.ok (.ret (.bool true))/\OldK s₁.heap s'.heap/\s'.os=s₁.os/\mK s'.gens) s₁:=by
  intro H hO hS hok hA hK;have base_of:∀{b:Addr}{o:Obj},s₁.heap.get? b=some o->H b=none->(wt s₁.heap H).get? b=some o:=fun e n=>Dq e n;have noA:∀{b:Addr}{o:Obj}{es:Array ka}{ep:Nat},s₁.heap.get? b=some o->o.data=.dict es ep->H b=none:=fun{b o es ep} e d=>by
   cases q:H b with
   |none=>rfl
   |some u =>
    have e':b=a:=hA b (by rw[q];simp);subst e';rw[ha]at e;cases e;have d':Data.seq vs.toArray _=Data.dict es ep:=d;cases d'
  have nsK:∀{b:Addr}{m:Str->Option Value},s₁.heap.Ns b m->(wt s₁.heap H).Ns b m:=fun{b m} ⟨o,es,ep,e,d,r⟩=>⟨o,es,ep,base_of e (noA e d),d,r⟩;have hKb:K.In (wt s₁.heap H):=fun b o e=>base_of (KX b o e) (by
   cases q:H b with
   |none=>rfl
   |some u =>
    have e':b=a:=hA b (by rw[q];simp);subst e';rw[hK (by rw[q];simp)]at e;cases e)
  have hM:Mod K mg (wt s₁.heap H):=⟨hKb,nsK hns,⟨mb,nsK hb,hbb⟩,let⟨mc,h1,h2⟩:=hlim;⟨mc,nsK h1,h2⟩⟩;have e0:zW P w K mg (wt s₁.heap H) kb [] s₁ H:=⟨rfl,hM,fun b o e=>ET e,Nat.le_of_eq (BL _ _),trivial,fun b hb=>absurd (show b∈([]:Ze)from hb) (by simp),hok,.of_eq hg⟩;refine z0 ((F _ hKb (nsK hns)).run kb [] s₁ H ⟨[.ref a],[]⟩ [.ref a] [.ref a] _ _ hr e0 (hbind s₁ (.ref a)) (.cons rfl .nil) (hsp H hO hS)) fun r s' h=>?_;cases r with
  |error e=>exact(hCX H e s' h).elim
  |ok fl =>
   cases fl with
   |next=>exact iU h
   |brk=>exact iU h
   |cont=>exact iU h
   |ret u =>
    obtain⟨v,H',os,bare,un,hok',r',q⟩:=h;have q':v=.bl true:=q;subst q';obtain rfl:u=Value.bool true:=r';refine⟨rfl,OldK.of_keep fun b o e=>?_,os,bare⟩;cases q:H b with
    |none=>exact un.keep b o e q (by intro z;exact absurd (show b∈([]:Ze)from z) (by simp)) (by simp)
    |some u =>
     rcases hO b with z|⟨ob,xs,z⟩
     ·rw[q]at z;cases z
     ·have z2:=un.frzs b ob _ z;obtain⟨e1,_⟩:=hok b _ z;obtain⟨e2,_⟩:=hok' b _ z2;rw[e]at e1;cases e1;exact e2
 cases hk:K.lookup a with
 |some o =>
  have e:=KX a o hk;rw[ha]at e;cases e;refine core (fun _=>none) (fun _=>.inl rfl) (.inr ⟨_,vs.toArray,_,hk,rfl,rfl,rfl,by rw[bp,lenV];exact hl,by simpa using rv⟩) (fun b u z=>by have z':(none:Option HO)=some u:=z;cases z') (fun b z=>absurd rfl z) fun z=>absurd rfl z
 |none =>
  refine core (fun b=>if b=a then some (.frz { cls:=.type "list",data:=.seq vs.toArray } (.lst (ns.map V.int)))else none) (fun b=>?_) (.inl (.inr ⟨{ cls:=.type "list",data:=.seq vs.toArray },if_pos rfl⟩)) (fun b u z=>?_) (fun b z=>?_) fun _=>hk
  ·by_cases hb:b=a
   ·exact .inr ⟨_,_,if_pos hb⟩
   ·exact .inl (if_neg hb)
  ·by_cases hb:b=a
   ·have z':=(if_pos hb).symm.trans z;cases z';subst hb;exact⟨ha,by rw[aj];exact hl,vs,_,rv,ha⟩
   ·have z':=(if_neg hb).symm.trans z;cases z'
  ·by_cases hb:b=a
   ·exact hb
   ·exact absurd (if_neg hb) z
end L2
namespace L2
open PySem PySem.Spec PyProof.Rows
theorem Ef{l:PySem.W.OpenLaw}{n k:Nat}{q:bj}{loose:Zb}{XP:(Str->Option Value)->Heap->Prop}{YP:World->Heap->Prop}{d:DefRec}{K:Params->Za}{CX:World->Cf}{sp:World->Sp}{x:Str}
  (hn:l.most=some n) (hn2:n<=ai) (hdf:d.params.defaults=[]) (hr:eg k kb)
  (hY:∀(w:World) (h:Heap),YP w h->(K w.params).In h)
  (F:∀(w:World) (mg:Str->Option Value) (fa:Addr) (h:Heap),(K w.params).In h->h.Ns bA mg->mg d.name=some (.ref fa) ->
   ∃fd:jM,(∀(s:Shared) (u:Value),qA s fd ⟨[u],[]⟩ [(x,u)]) /\
    ∀base:Heap,(K w.params).In base->base.Ns bA mg->kI l.prog w (K w.params) mg base (CX w) k fa fd [x] (sp w))
  (hsp:∀(w:World) (H:Hp) (a:Addr) (ns:List Int),ns.length<=n->Fk H->ax (K w.params) H a (ns.map V.int)->sp w [.ref a] H (fun v _=>v=.bl true) fun _ _ _=>False)
  (hCX:∀(w:World) (H:Hp) (s:Shared) (e:Value) (s':Shared),CX w [] H s (fun _ _ _=>False) e s'->False) :
  PySem.W.WalkO q loose XP YP l.row.toRowW d [] (fun f vs=>PySem.call f vs):=by
 refine Att.attach_call hn hdf fun w s₀ s₁ mg mb fa o pm cd doc a vs ns G Y ho hd hcd hmg hobj hints hlen hg=>?_;have KX:=hY w _ Y;obtain⟨fd,hb,hF⟩:=F w mg fa _ KX G.T.g hmg;exact Di KX G.T.g G.T.b G.T.builtins G.T.nolimit hg hobj hints (aE hlen hn2) hr hF hb (fun H hO hS=>hsp w H a ns hlen hO hS) fun H e s'=>hCX w H s₁ e s'
theorem walk_ofK{l:PySem.W.OpenLaw}{n k:Nat}{q:bj}{loose:Zb}{XP:(Str->Option Value)->Heap->Prop}{YP:World->Heap->Prop}{d:DefRec}{K:Params->Za}{CX:Cf}{sp:Za->Sp}{x:Str}
  (hn:l.most=some n) (hn2:n<=ai) (hdf:d.params.defaults=[]) (hr:eg k kb)
  (hY:∀(w:World) (h:Heap),YP w h->(K w.params).In h)
  (F:∀(w:World) (mg:Str->Option Value) (fa:Addr) (h:Heap),(K w.params).In h->h.Ns bA mg->mg d.name=some (.ref fa) ->
   ∃fd:jM,(∀(s:Shared) (u:Value),qA s fd ⟨[u],[]⟩ [(x,u)]) /\
    ∀base:Heap,(K w.params).In base->base.Ns bA mg->kI l.prog w (K w.params) mg base CX k fa fd [x] (sp (K w.params)))
  (hsp:∀(K:Za) (H:Hp) (a:Addr) (ns:List Int),ns.length<=n->Fk H->ax K H a (ns.map V.int)->sp K [.ref a] H (fun v _=>v=.bl true) fun _ _ _=>False)
  (hCX:∀(H:Hp) (s:Shared) (e:Value) (s':Shared),CX [] H s (fun _ _ _=>False) e s'->False) :
  PySem.W.WalkO q loose XP YP l.row.toRowW d [] (fun f vs=>PySem.call f vs) :=
 Ef (K:=K) (CX:=fun _=>CX) (sp:=fun w=>sp (K w.params)) hn hn2 hdf hr hY F (fun w H a ns h1 h2 h3=>hsp (K w.params) H a ns h1 h2 h3) fun _ H s e s'=>hCX H s e s'
end L2
namespace L2
open PySem PySem.Spec PyProof.Rows
def cO(s:Stmt)(j:Nat):Stmt:=match s with
 |.ClassDef _ _ _ body _ _ _ _ _ _ _=>body.getD j (.Pass ⟨0,0,0,0⟩)
 |_=>.Pass ⟨0,0,0,0⟩
def gM(s:Stmt):Arguments:=match s with
 |.FunctionDef _ a _ _ _ _ _ _ _ _=>a
 |_=>{ posonlyargs:=[],args:=[],vararg:=none,kwonlyargs:=[],kw_defaults:=[],kwarg:=none,defaults:=[] }
def fG(s:Stmt):List Stmt:=match s with
 |.FunctionDef _ _ b _ _ _ _ _ _ _=>b
 |_=>[]
def bM(s:Stmt):Scope:=match s with
 |.FunctionDef _ _ _ _ _ _ sc _ _ _=>sc
 |_=>{ kind:=.function,names:=[],isGenerator:=false,isCoroutine:=false }
abbrev CX0:Cf:=fun _ _ _ _ _ _=>False
abbrev E0:XK:=fun _ _ _=>False
abbrev aR(sp:Sp)(a:TA):TE:=Fq sp [] E0 a
theorem Ar{X:Cx}:mr CX0 X E0:=fun _ _ _ _ _ _ _ h=>h.elim
structure GB(K:Za)(x qual:Str)(st:Stmt)(f:Addr)(fd:jM):Prop where
 ex:∃(oc:Value) (od:Option Addr) (kV doc pm:Value) (an:Option Addr) (cdv ct:Value) (osl:Array (Option Value)),
  fd=g9 x qual (gM st) (fG st) (bM st) .none kV doc pm an cdv ct/\K.lookup f=some ⟨oc,od,.func fd,osl⟩/\lT K cdv qual=true
 kp:gb K (.ref f)=true
section
variable{P:bj}{w:World}{K:Za}{mg:Str->Option Value}{base:Heap}
theorem GB.ok{x qual:Str}{st:Stmt}{f:Addr}{fd:jM}{N ps:Zb}{k:Nat}{sp:Sp}(F:GB K x qual st f fd)(S:jF N ps (bM st))(len:∀vs H Q E,sp vs H Q E->vs.length=ps.length)
  (hbody:∀(cdv:Value) (A:Around) (outer:List Env) (s:Shared) (H:Hp) (vs:List V) (Q:VK) (E:XK),eg k (A.deeper (envOfC qual (bM st) s.heap.objs.size f cdv))->sp vs H Q E ->
   ∃t,yB (zH CX0 P w K mg base N qual (bM st) f cdv A outer s H E).nox (fG st) t/\t (bh Q) (start N vs) H):kI P w K mg base CX0 (k+1) f fd ps sp:=by
 obtain⟨oc,od,kV,doc,pm,an,cdv,ct,osl,rfl,lk,hcd⟩:=F.ex;refine GY lk hcd S len fun A outer s H vs Q E hr hsp=>?_;obtain⟨t,h,q⟩:=hbody cdv A outer s H vs Q E hr hsp;exact⟨t,h.nox,q⟩
theorem GB.binds{x qual:Str}{st:Stmt}{f:Addr}{fd:jM}{ps:Zb}(F:GB K x qual st f fd)
  (h:∀(kV doc pm:Value) (an:Option Addr) (cdv ct:Value) (us:Zf),us.length=ps.length->bindArgs (g9 x qual (gM st) (fG st) (bM st) .none kV doc pm an cdv ct) ⟨us,[]⟩=pure (ps.zip us)):Binds K fd ps []:=by
 obtain⟨oc,od,kV,doc,pm,an,cdv,ct,osl,rfl,lk,hcd⟩:=F.ex;exact .all (h kV doc pm an cdv ct)
theorem Dv{x qual:Str}{st:Stmt}{f:Addr}{oc:Value}{od an:Option Addr}{osl:Array (Option Value)}{kV doc pm cdv ct:Value}(l:K.lookup f=some ⟨oc,od,.func (g9 x qual (gM st) (fG st) (bM st) .none kV doc pm an cdv ct),osl⟩)
  (c:lT K cdv qual=true) (k:gb K (.ref f)=true):GB K x qual st f (g9 x qual (gM st) (fG st) (bM st) .none kV doc pm an cdv ct):=⟨⟨oc,od,kV,doc,pm,an,cdv,ct,osl,rfl,l,c⟩,k⟩
end
theorem AB{A:Around}{k:Nat}(hr:eg k A):A.units+16<cLine:=n6 (Nat.add_le_add_left (by decide:16<=64) _) hr.units
theorem ar{n:Nat}(h:n<=1000):n<ai:=n6 h (by decide)
section
variable{X:Cx}
theorem pv(i:Nat){x:Str}{pos:Pos}(hN:X.N[i]?=some x:=by rfl)(hv:Hk X.env.scope x:=by first|exact Or.inl rfl|exact Or.inr (Or.inl rfl)|exact Or.inr (Or.inr rfl))(hd:(x==("__debug__":Str))=false:=by decide)
  (hcd:(x==("__classdict__":Str))=false:=by decide):PE X (.Name x pos) (lZ i):=FY hN hv hd hcd
end
theorem cr{A B:Prop}(h:B):if false=true then A else B:=by
 rw[if_neg gm];exact h
theorem cJ{A B:Prop}(h:A):if true=true then A else B:=by
 rw[if_pos rfl];exact h
theorem kr{c A B:Prop}[Decidable c](h1:c->A)(h2:¬c->B):if c then A else B:=by
 by_cases h:c
 ·rw[if_pos h];exact h1 h
 ·rw[if_neg h];exact h2 h
def ac(H H':Hp):Prop:=∀b o,H b=some o->H' b=some o
theorem ac.refl(H:Hp):ac H H:=fun _ _ h=>h
theorem ac.trans{H H1 H2:Hp}(a:ac H H1)(b:ac H1 H2):ac H H2:=fun c o h=>b c o (a c o h)
theorem ac.free{H H':Hp}(e:ac H H'){l:Addr}(h:H' l=Option.none):H l=Option.none:=by
 cases q:H l with
 |none=>rfl
 |some o =>
  rw[e l o q]at h;cases h
theorem ac.seq{K:Za}{H H':Hp}{a:Addr}{xs:List V}(e:ac H H')(h:ax K H a xs):ax K H' a xs:=by
 rcases h with(h|⟨o,h⟩)|h
 ·exact .inl (.inl (e _ _ h))
 ·exact .inl (.inr ⟨o,e _ _ h⟩)
 ·exact .inr h
section
variable{prog:bj}{w:World}{A:Around}{R:Result->Shared->Prop}{s:Shared}
abbrev XF:Value->Shared->Prop:=fun _ _=>False
abbrev zC(ifs:List Expr)(env:Env):Sem Bool:=forIn ifs true fun c r=>if r=true then do let ok <- isTrue c env (eval c env);pure (ve ok)else pure (ve r)
theorem wz{elt target iter:Expr}{ifs:List Expr}{scope:Scope}{pos:Pos}{it acc:Value}{env:Env}(I:Nat->Shared->Prop)
  (turn:∀n s,I n s->wpAny (model prog w) A (pyNext it) (fun r s₁=>match r with
   |none=>R (.ok .next) s₁
   |some v=>wpAny (model prog w) A (z9 target it v) (fun _ s₁'=>wpAny (model prog w) A (assign target env v) (fun _ s₂ =>
     wpAny (model prog w) A (zC ifs env) (fun ok s₃ =>
      if ok=true then wpAny (model prog w) A (eval elt env) (fun x s₄ =>
       wpAny (model prog w) A (call (.builtin "list.append") [acc,x]) (fun _ s₅=>∃m,m<n/\I m s₅) XF s₄) XF s₃
      else ∃m,m<n/\I m s₃) XF s₂) XF s₁') XF s₁) XF s)
  (n:Nat) (h:I n s):zzl78 (model prog w) A (.compLoop (.ListComp elt [⟨target,iter,ifs,0⟩] scope pos) 0 it acc env) R s:=by
 refine codeAny_loop rfl I (fun n s hI=>?_) n h;show wpAny _ A ((compTurn (.ListComp elt [⟨target,iter,ifs,0⟩] scope pos) 0 it acc env).onRaise (fun x=>do noteFrame x env;theTreesLotGoes x)) _ _ s
 refine wpAny_noted ?_;rw[compTurn_list];refine ak (wpAny_standAt (ak (mL (turn n s hI) (fun r s₁ h₁=>?_) fun _ _ h'=>h'.elim)));cases r with
 |none=>exact aF h₁
 |some v =>
  refine ak (mL h₁ (fun _ s₁' h₁'=>?_) fun _ _ h'=>h'.elim);refine ak (mL h₁' (fun _ s₂ h₂=>ak (mL h₂ (fun ok s₃ h₃=>?_) fun _ _ h'=>h'.elim)) fun _ _ h'=>h'.elim);cases ok with
  |false=>exact aF ⟨rfl,h₃⟩
  |true =>
   exact ak (ak (mL h₃ (fun x s₄ h₄=>ak (mL h₄ (fun _ s₅ h₅=>aF (aF ⟨rfl,h₅⟩)) fun _ _ h'=>h'.elim)) fun _ _ h'=>h'.elim))
end
theorem mn{env:Env}:∀(names:List (Str×iT)) (cs0:List (Str×Addr)),(∀y∈names,y.2=.free->∃c,env.cells.lookup y.1=some c)->(∀x c,cs0.lookup x=some c->env.cells.lookup x=some c) ->
  ∃cs:List (Str×Addr),(forIn names cs0 fun(x:Str×iT) (r:List (Str×Addr))=>if(x.2==j_)=true then(cellOf env x.1 >>= fun c=>(pure (ve ((x.1,c)::r)):Sem (ForInStep (List (Str×Addr)))))else pure (ve r))=pure cs /\
   (∀x c,cs.lookup x=some c->env.cells.lookup x=some c)/\(∀x,(cs0.lookup x).isSome=true->(cs.lookup x).isSome=true)/\∀y∈names,y.2=.free->(cs.lookup y.1).isSome=true
 |[],cs0,_,h0=>⟨cs0,rfl,h0,fun _ h=>h,fun _ h=>nomatch h⟩
 | (n,k)::r,cs0,has,h0=>by
  have hr:∀y∈r,y.2=.free->∃c,env.cells.lookup y.1=some c:=fun y hy=>has y (dD _ hy);by_cases hk:k=.free
  ·subst hk;obtain⟨c,hc⟩:=has (n,.free) dE rfl;obtain⟨cs,e,p1,p2,p3⟩:=mn r ((n,c)::cs0) hr (fun x d hd=>by
    rw[g8]at hd;cases hx:x==n with
    |true =>
     rw[hx]at hd;have:x=n:=by simpa using hx
     subst this;cases hd;exact hc
    |false=>rw[hx]at hd;exact h0 x d hd)
   have hself:(((n,c)::cs0).lookup n).isSome=true:=by rw[g8,beq_self_eq_true];rfl
   have hmono:∀x,(cs0.lookup x).isSome=true->(((n,c)::cs0).lookup x).isSome=true:=fun x hx=>by
    rw[g8];cases x==n with
    |true=>rfl
    |false=>exact hx
   refine⟨cs,?_,p1,fun x hx=>p2 x (hmono x hx),fun y hy hf=>?_⟩
   ·rw[lO];have hcell:cellOf env n=pure c:=by unfold cellOf;rw[hc]
    simp only[beq_self_eq_true,if_true,hcell];exact e
   ·rcases cc.mp hy with rfl|hy
    ·exact p2 _ hself
    ·exact p3 y hy hf
  ·obtain⟨cs,e,p1,p2,p3⟩:=mn r cs0 hr h0;refine⟨cs,?_,p1,p2,fun y hy hf=>?_⟩
   ·rw[lO];have hb:(k==j_)=false:=by simpa using hk
    simp only[hb,j6,if_false];exact e
   ·rcases cc.mp hy with rfl|hy
    ·exact absurd hf hk
    ·exact p3 y hy hf
theorem sy{env:Env}{scope:Scope}(has:∀y∈scope.names,y.2=.free->∃c,env.cells.lookup y.1=some c):
  ∃cs:List (Str×Addr),closureFor scope env=pure cs/\(∀x c,cs.lookup x=some c->env.cells.lookup x=some c)/\∀y∈scope.names,y.2=.free->(cs.lookup y.1).isSome=true:=by
 obtain⟨cs,e,p1,_,p3⟩:=mn (env:=env) scope.names [] has (fun _ _ h=>nomatch h);refine⟨cs,?_,p1,p3⟩;unfold closureFor
 first
  |exact e
  | (simp only[bind_pure];exact e)
  | (rw[show(forIn scope.names [] _:Sem (List (Str×Addr)))=pure cs from e];rfl)
def da(X:Cx)(N:Zb)(scope:Scope)(C:Addr)(cl:List (Str×Addr))(s₀:Shared)(H₀:Hp)(ex:Ze)(pn:Zd):Cx where
 prog:=X.prog
 w:=X.w
 K:=X.K
 mg:=X.mg
 base:=X.base
 A:=X.A
 N:=N
 s₀:=s₀
 H₀:=H₀
 env:=compEnvC scope cl C X.env
 outer:=X.stack
 stack:=X.stack
 ex:=ex
 fn:=fun _=>false
 calm:=X.calm
 pn:=pn
 xe:=XF
def k5(sc scope:Scope)(k:Nat)(N XN:Zb)(fi:List Nat):Bool :=
 decide (scope.kind=.function) &&
 (scope.names.all fun y=>decide (y.2≠.cell) && (decide (y.2≠.local) || decide (scope.names.lookup y.1=some .local)) && (decide (y.2≠.free) || decide (sc.names.lookup y.1=some .cell) || decide (sc.names.lookup y.1=some .free))) &&
 decide (N.length=k+fi.length) &&
 ((jZ fi.length).all fun j=>match fi[j]? with
  |some i=>match N[k+j]?,XN[i]? with
   |some x,some y=>decide (x=y) && decide (scope.names.lookup x=some .free)
   |_,_=>false
  |none=>false)
structure mC(sc scope:Scope)(k:Nat)(N XN:Zb)(fi:List Nat):Prop where
 kind:scope.kind=.function
 cell:∀y∈scope.names,y.2≠.cell
 nm:∀y∈scope.names,y.2=.local->scope.names.lookup y.1=some .local
 fr:∀y∈scope.names,y.2=.free->sc.names.lookup y.1=some .cell∨sc.names.lookup y.1=some .free
 len:N.length=k+fi.length
 sl:∀j i,fi[j]?=some i->∃x,N[k+j]?=some x/\XN[i]?=some x/\scope.names.lookup x=some .free
theorem mC.of{sc scope:Scope}{k:Nat}{N XN:Zb}{fi:List Nat}(h:k5 sc scope k N XN fi=true):mC sc scope k N XN fi:=by
 unfold k5 at h;simp only[Bool.and_eq_true,List.all_eq_true,Bool.or_eq_true,decide_eq_true_eq]at h;obtain⟨⟨⟨h1,h2⟩,h3⟩,h4⟩:=h;refine⟨h1,fun y hy=>(h2 y hy).1.1,fun y hy e=>((h2 y hy).1.2).resolve_left fun z=>z e,fun y hy e=>?_,h3,fun j i e=>?_⟩
 ·rcases(h2 y hy).2 with(z|z)|z
  ·exact absurd e z
  ·exact .inl z
  ·exact .inr z
 ·have hj:j<fi.length:=(bQ.mp e).1;have q:=h4 j (List.mem_range.mpr hj);rw[e]at q;dsimp only at q;cases a:N[k+j]? with
  |none=>rw[a]at q;cases q
  |some x =>
   cases b:XN[i]? with
   |none=>rw[a,b]at q;cases q
   |some y =>
    rw[a,b]at q;simp only[Bool.and_eq_true,decide_eq_true_eq]at q;exact⟨x,rfl,by rw[q.1],q.2⟩
theorem gG{env:Env}:∀{names:List (Str×iT)}{x:Str},names.lookup x=some .free ->
  (names.map fun(n,k)=>if(k==j_ && env.scope.kind==.function && env.kindOf n==some .cell)then(n,iT.cell)else(n,k)).lookup x=some .cell ∨
  (names.map fun(n,k)=>if(k==j_ && env.scope.kind==.function && env.kindOf n==some .cell)then(n,iT.cell)else(n,k)).lookup x=some .free
 |[],_,h=>by simp at h
 | (n,k)::r,x,h=>by
  have ih:=@gG env r x;simp only[bm];cases hx:x==n with
  |true =>
   simp only[g8,hx]at h;cases h;by_cases hc:(j_==j_ && env.scope.kind==.function && env.kindOf n==some .cell)=true
   ·left;rw[if_pos hc];simp[g8,hx]
   ·right;rw[if_neg hc];simp[g8,hx]
  |false =>
   simp only[g8,hx]at h;by_cases hc:(k==j_ && env.scope.kind==.function && env.kindOf n==some .cell)=true
   ·rw[if_pos hc];simp only[g8,hx];exact ih h
   ·rw[if_neg hc];simp only[g8,hx];exact ih h
def c_(k:Nat)(fi:List Nat)(σ:St):St:=List.replicate k none++fi.map fun i=>(σ[i]?).join
theorem zJ(k:Nat)(fi:List Nat)(σ:St):(c_ k fi σ).length=k+fi.length:=by simp[c_]
theorem sw{k:Nat}{fi:List Nat}{σ:St}{i:Nat}{v:V}(h:(c_ k fi σ)[i]?=some (some v)):∃j t,i=k+j/\fi[j]?=some t/\σ[t]?=some (some v):=by
 unfold c_ at h;by_cases hi:i<k
 ·rw[rc (by simpa using hi),List.getElem?_replicate_of_lt hi]at h;cases h
 ·rw[List.getElem?_append_right (by simp;omega),List.length_replicate,cD]at h;refine⟨i-k,?_⟩;cases e:fi[i-k]? with
  |none=>rw[e]at h;cases h
  |some t =>
   rw[e]at h;simp only[qY]at h;refine⟨t,by omega,rfl,?_⟩;have h':=eD h;cases e2:σ[t]? with
   |none=>rw[e2]at h';cases h'
   |some o=>rw[e2]at h';simp only[Option.join]at h';first|(rw[h'])|(subst h';rfl)|(simpa using h')
def yk(k:Nat)(g:TG):Prop:=∀x σ H Q,g x σ H Q->g x σ H fun σ2 H2=>Q σ2 H2/\σ2.length=σ.length/\∀i,k<=i->σ2[i]?=σ[i]?
def AU(k:Nat)(g:Ce):Prop:=∀x σ H Q,g x σ H Q->g x σ H fun σ2 H2=>Q σ2 H2/\σ2.length=σ.length/\∀i,k<=i->σ2[i]?=σ[i]?
theorem aT{k i:Nat}(h:i<k):yk k (dI i):=fun x σ H Q q=>⟨q,by simp,fun j hj=>by rw[List.getElem?_set_ne (by omega)]⟩
theorem xJ{k:Nat}:AU k ln:=fun x σ H Q ⟨e,q⟩=>⟨e,q,rfl,fun _ _=>rfl⟩
def DR(g:TG):Prop:=∀x σ H Q Q',(∀σ2 H2,Q σ2 H2->Q' σ2 H2)->g x σ H Q->g x σ H Q'
def wS(g:Ce):Prop:=∀x σ H Q Q',(∀σ2 H2,Q σ2 H2->Q' σ2 H2)->g x σ H Q->g x σ H Q'
theorem gU{i:Nat}:DR (dI i):=fun _ _ _ _ _ f q=>f _ _ q
theorem kU:wS ln:=fun _ _ _ _ _ f ⟨e,q⟩=>⟨e,f _ _ q⟩
theorem rY{g:TG}{u:Ce}(h1:DR g)(h2:wS u):wS (ck g u):=fun _ _ _ _ _ f ⟨v,r,e,q⟩=>⟨v,r,e,h1 _ _ _ _ _ (fun _ _ q=>h2 _ _ _ _ _ f q) q⟩
theorem kS{k:Nat}{g:TG}{u:Ce}(h1:yk k g)(m1:DR g)(h2:AU k u)(m2:wS u):AU k (ck g u):=fun x σ H Q ⟨v,r,e,q⟩ =>
 ⟨v,r,e,m1 _ _ _ _ _ (fun σ2 H2 ⟨q,l,s⟩=>m2 _ _ _ _ _ (fun σ3 H3 ⟨q',l',s'⟩=>⟨q',l'.trans l,fun i hi=>(s' i hi).trans (s i hi)⟩) (h2 _ _ _ _ q)) (h1 _ _ _ _ q)⟩
theorem As{K:Za}{k n:Nat}{t:Ce}(h:AU k t):yk k (mj K n t):=fun x σ H Q ⟨a,xs,e,hs,hl,q⟩=>⟨a,xs,e,hs,hl,h _ _ _ _ q⟩
def FI(X:Cx)(ifs:List Expr)(t:TT):Prop :=
 ∀(J3:Zd) (s:Shared) (σ:St) (H:Hp) (Q:Bool->Hp->Prop),Inv X J3 σ H s->t σ H Q->wpAny (model X.prog X.w) X.A (zC ifs X.env) (TP X J3 σ Q) X.xe s
def iN:TT:=fun _ H Q=>Q true H
theorem cg{X:Cx}:FI X [] iN:=fun J3 s σ H Q I h=>aF ⟨H,I,h⟩
theorem ga{X:Cx}{c:Expr}{t:TT}(h:PT X c t):FI X [c] t:=by
 intro J3 s σ H Q I hw;unfold zC;rw[lO];simp only[if_true];refine ak (ak (ca (h J3 s σ H Q I hw) fun b s1 q=>aF ?_));exact aF q
def cB(k:Nat)(fi:List Nat)(wi:TI)(g:TG)(tc:TT)(te:TE):TE:=fun σ H Q=>wi σ H fun J H1=>∀l,H1 l=none->∃W:Nat->Nat->List V->Hp->Prop,(∃m,W 0 m [] (upd H1 l (.lst [])))/\∀i m vs H2,W i m vs H2->H2 l=some (.lst vs) /\
 ((J.stop i H2/\Q (.ref l) H2)∨(J.go i H2/\∀x H3,J.yld i H2 x H3->g x (c_ k fi σ) H3 fun σ2 H4=>tc σ2 H4 fun b H5 =>
  if b=true then te σ2 H5 fun v H6=>H6 l=some (.lst vs)/\vs.length<ai/\∃m',m'<m/\W (i+1) m' (vs++[v]) (upd H6 l (.lst (vs++[v])))else ∃m',m'<m/\W (i+1) m' vs H5))
section
variable{X:Cx}{J3:Zd}{σ:St}
theorem Fe{k:Nat}{N:Zb}{scope:Scope}{fi:List Nat}{H:Hp}{s:Shared}{cl:List (Str×Addr)}{fp:Ze}(S:mC X.env.scope scope k N X.N fi)(I:Inv X J3 σ H s)
  (hcl:∀x c,cl.lookup x=some c->X.env.cells.lookup x=some c) (hcf:∀y∈scope.names,y.2=.free->(cl.lookup y.1).isSome=true) (hf:∀b∈fp,lA X J3 H b) (hlt:∀b∈fp,b<s.heap.objs.size) :
  (da X N scope s.heap.objs.size cl s H fp (X.pn++J3)).Ok where
 mod:=I.ok.mod
 kind:=S.kind
 glob:=I.ok.glob
 blt:=I.ok.blt
 above:=ay _
 inj:=fun x y c e1 e2=>I.ok.inj x y c (hcl x c e1) (hcl y c e2)
 has:=fun x h=>by
  have key:∃y∈scope.names,y.1=x/\y.2=.free:=by
   have h':(relabel scope X.env).names.lookup x=some .cell∨(relabel scope X.env).names.lookup x=some .free:=h;have mem:∀(l:List (Str×iT)) (kd:iT),l.lookup x=some kd->(x,kd)∈l:=by
    intro l
    induction l with
    |nil=>intro kd e;cases e
    |cons a r ih =>
     intro kd e;obtain⟨n,k'⟩:=a;rw[g8]at e;cases hx:x==n with
     |true =>
      rw[hx]at e;have:x=n:=by simpa using hx
      subst this;cases e;exact dE
     |false=>rw[hx]at e;exact dD _ (ih kd e)
   have back:∀kd,(x,kd)∈(relabel scope X.env).names->kd=.cell∨kd=.free->∃y∈scope.names,y.1=x/\y.2=.free:=by
    intro kd hm hk;obtain⟨⟨n,k'⟩,hy,e⟩:=aM.mp hm;dsimp only at e;by_cases hc:(k'==j_ && X.env.scope.kind==.function && X.env.kindOf n==some .cell)=true
    ·have hk':k'=.free:=by
      simp only[Bool.and_eq_true]at hc;simpa using hc.1.1
     rw[if_pos hc]at e;cases e;exact⟨_,hy,rfl,hk'⟩
    ·rw[if_neg hc]at e;cases e;rcases hk with rfl|rfl
     ·exact absurd rfl (S.cell _ hy)
     ·exact⟨_,hy,rfl,rfl⟩
   rcases h' with h'|h'
   ·exact back _ (mem _ _ h') (.inl rfl)
   ·exact back _ (mem _ _ h') (.inr rfl)
  obtain⟨y,hy,rfl,hk⟩:=key;exact zY.mp (hcf y hy hk)
 cab:=fun x c h=>by cases h
 hd:=I.ok.hd
 frames:=I.ok.frames
 stk:=.inl rfl
 exf:=fun b hb=>⟨bE (hlt b hb),fun x c e=>(hf b hb).2.2.2.2.1 x c (hcl x c e)⟩
 bs:=I.bs
 bsz:=aE I.ok.bsz I.sz
 noex:=fun b o e hb=>by
  rcases(hf b hb).2.2.2.1 with z|z
  ·exact I.ok.noex b o e z
  ·exact absurd (cz (az (I.ok.bs b o e).1) z) (iV _)
 exfs:=fun b hb z=>by
  obtain⟨_,f1,f2,_⟩:=hf b hb;rcases cc.mp (I.stkSub b z)with q|q
  ·exact f1 q
  ·exact f2 q
 funs:=I.stack
 frf:=I.stkFree
theorem DM{k:Nat}{N:Zb}{scope:Scope}{fi:List Nat}{H:Hp}{s:Shared}{cl:List (Str×Addr)}{fp:Ze}{h₁:Heap}{t':Nat}{m:Str->Option Value}(S:mC X.env.scope scope k N X.N fi)(I:Inv X J3 σ H s)
  (hcl:∀x c,cl.lookup x=some c->X.env.cells.lookup x=some c) (hcf:∀y∈scope.names,y.2=.free->(cl.lookup y.1).isSome=true) (hf:∀b∈fp,lA X J3 H b) (hlt:∀b∈fp,b<s.heap.objs.size)
  (hn:h₁.Ns s.heap.objs.size m) (old:∀b o,s.heap.get? b=some o->h₁.get? b=some o) :
  Inv (da X N scope s.heap.objs.size cl s H fp (X.pn++J3)) [] (c_ k fi σ) H { s with heap:=h₁,toks:=t' }:=by
 have memOf:∀(l:List (Str×iT)) (x:Str) (kd:iT),l.lookup x=some kd->(x,kd)∈l:=by
  intro l
  induction l with
  |nil=>intro x kd e;cases e
  |cons a r ih =>
   intro x kd e;obtain⟨n,k'⟩:=a;rw[g8]at e;cases hx:x==n with
   |true =>
    rw[hx]at e;have:x=n:=by simpa using hx
    subst this;cases e;exact dE
   |false=>rw[hx]at e;exact dD _ (ih x kd e)
 refine⟨Fe S I hcl hcf hf hlt,rfl,I.bare,Un.kept old,⟨m,hn,fun i x v e1 e2 e3=>?_⟩,fun x c e=>?_,I.hok.fresh (ay _),fun x c e=>I.freeC x c (hcl x c e),fun p hp=>?_,I.hok.kept old,?_⟩
 ·obtain⟨j,t,rfl,ht,hv⟩:=sw e2;obtain⟨y,hy,hXN,hfr⟩:=S.sl j t ht;have e1':N[k+j]?=some x:=e1;rw[hy]at e1';cases e1';have hmem:=memOf _ _ _ hfr;obtain⟨c,hc⟩:=zY.mp (hcf _ hmem rfl);have hX:=hcl _ _ hc;obtain⟨mX,hnX,hlX⟩:=I.loc;have kX:=S.fr _ hmem rfl;obtain⟨u,ru,lk⟩:=hlX t x v hXN hv (by rcases kX with z|z;exact .inr (.inl z);exact .inr (.inr z));refine⟨u,ru,.inr ⟨?_,c,hc,?_⟩⟩
  ·exact gG hfr
  ·rcases lk with⟨z,_⟩|⟨_,c',e',q⟩
   ·have z':X.env.scope.names.lookup x=some .local:=z;rcases kX with kX|kX<;>rw[z']at kX<;>cases kX
   ·rw[hX]at e';cases e';obtain⟨o,ho,hd⟩:=q;exact⟨o,old _ o ho,hd⟩
 ·obtain⟨v,o,ho,hd⟩:=I.cell x c (hcl x c e);exact⟨v,o,old _ o ho,hd⟩
 ·rw[ei]at hp;obtain⟨e,n,ne,nf,d⟩:=I.pin p hp;refine⟨old _ _ e,n,bE (az e),fun z=>?_,d⟩;rcases cc.mp (I.stkSub _ z)with q|q
  ·exact ne q
  ·exact nf q
 ·rw[zJ];exact S.len.symm
structure wV(X:Cx)(J3:Zd)(H:Hp)(C:Addr):Prop where
 free:H C=none
 loc:C≠X.env.locals
 young:X.s₀.heap.objs.size<=C
 cells:∀x c,X.env.cells.lookup x=some c->c≠C
 pin:∀p∈X.pn++J3,p.1≠C
theorem sv{elt iter tg:Expr}{ifs:List Expr}{scope:Scope}{pos:Pos}{k:Nat}{N:Zb}{fi:List Nat}{cl:List (Str×Addr)}{g:TG}{tc:TT}{te:TE}{it:Addr}{fp:Ze}{tn:Nat->Heap->Prop}{J:It}{H2:Hp}{s2:Shared}{Q:VK}
  {E:Zc}{RR:Value->Addr->Result->Shared->Prop}
  (S:mC X.env.scope scope k N X.N fi) (hc:X.calm=true) (hcl:∀x c,cl.lookup x=some c->X.env.cells.lookup x=some c) (hcf:∀y∈scope.names,y.2=.free->(cl.lookup y.1).isSome=true)
  (hg:∀C cl s₀ H₀ ex pn,PG (da X N scope C cl s₀ H₀ ex pn) tg g) (ho:yk k g) (ht:∀C cl s₀ H₀ ex pn,FI (da X N scope C cl s₀ H₀ ex pn) ifs tc) (he:∀C cl s₀ H₀ ex pn,PE (da X N scope C cl s₀ H₀ ex pn) elt te)
  (I2:Inv X J3 σ H2 s2) (T:pY X.prog X.w X.K tg J fp it tn) (st2:tn 0 s2.heap) (f2:∀b∈fp,lA X J3 H2 b)
  (hw:∀l,H2 l=none->∃W:Nat->Nat->List V->Hp->Prop,(∃m,W 0 m [] (upd H2 l (.lst [])))/\∀i m vs H2,W i m vs H2->H2 l=some (.lst vs) /\
   ((J.stop i H2/\Q (.ref l) H2)∨(J.go i H2/\∀x H3,J.yld i H2 x H3->g x (c_ k fi σ) H3 fun σ2 H4=>tc σ2 H4 fun b H5 =>
    if b=true then te σ2 H5 fun v H6=>H6 l=some (.lst vs)/\vs.length<ai/\∃m',m'<m/\W (i+1) m' (vs++[v]) (upd H6 l (.lst (vs++[v])))else ∃m',m'<m/\W (i+1) m' vs H5)))
  (hR:∀D C H' s' m',Inv X J3 σ H' s'->s'.heap.Ns C m'->wV X J3 H' C->Q (.ref D) H'->RR (.ref D) C (.ok .next) s') :
  wpAny (model X.prog X.w) X.A (newList []) (fun acc s₃=>wpAny (model X.prog X.w) X.A (newFunctionEnv scope X.env.globals cl [] X.env.qual none .none (some X.env)) (fun cenv s₄ =>
   zzl78 (model X.prog X.w) X.A (.compStart (.ListComp elt [⟨tg,iter,ifs,0⟩] scope pos) 0 (.ref it) acc { cenv with scope:=relabel scope X.env }) (RR acc cenv.locals) s₄) E s₃) E s2:=by
 have hfresh:H2 s2.heap.objs.size=none:=I2.fresh;obtain⟨W,⟨m0,w0⟩,turn⟩:=hw _ hfresh;refine j9 (wpAny_newFunctionEnv S.cell (by intro y hy;simp at hy) (fun h₁ hns₁ hsb₁=>?_) S.kind);dsimp only at hns₁ hsb₁ ⊢;have I3:Inv X J3 σ (upd H2 s2.heap.objs.size (.lst [])) { s2 with heap:=s2.heap.push { cls:=.type "list",data:=.seq ([]:Zf).toArray },toks:=s2.toks }:=I2.lnew (ys:=[]) .nil (eS _);generalize hs3:({ s2 with heap:=s2.heap.push { cls:=.type "list",data:=.seq ([]:Zf).toArray },toks:=s2.toks }:Shared)=s3 at I3;have hh3:s3.heap=s2.heap.push { cls:=.type "list",data:=.seq ([]:Zf).toArray }:=by rw[<-hs3]
 have hsz:s3.heap.objs.size=s2.heap.objs.size+1:=by rw[hh3,jV]
 have hlt:∀b∈fp,b<s2.heap.objs.size:=fun b hb=>by
  obtain⟨o,e,_⟩:=T.obj 0 _ st2 b hb;exact az e
 have f3:∀b∈fp,lA X J3 (upd H2 s2.heap.objs.size (.lst [])) b:=fun b hb=>⟨by rw[ah (bE (hlt b hb))];exact(f2 b hb).1,(f2 b hb).2⟩;have hlt3:∀b∈fp,b<s3.heap.objs.size:=fun b hb=>by rw[hsz];exact Nat.lt_succ_of_lt (hlt b hb)
 have old:∀b o,s3.heap.get? b=some o->h₁.get? b=some o:=fun b o e=>by
  have hb:b≠s3.heap.objs.size:=bE (az e);rw[hh3]at e hb;exact hsb₁.extBut b o hb (aO _ e)
 have hns:h₁.Ns s3.heap.objs.size (fun x=>([]:List (Str×Value)).reverse.lookup x):=by rw[hh3];exact hns₁
 have I4:Inv (da X N scope s3.heap.objs.size cl s3 (upd H2 s2.heap.objs.size (.lst [])) fp (X.pn++J3)) [] (c_ k fi σ) (upd H2 s2.heap.objs.size (.lst [])) { s3 with heap:=h₁,toks:=s2.toks+([]:List (Str×Value)).length } :=
  DM S I3 hcl hcf f3 hlt3 hns old
 have st4:tn 0 h₁:=T.keep _ _ _ st2 fun b hb o e=>old b o (by rw[hh3];exact aO _ e);generalize hY:da X N scope s3.heap.objs.size cl s3 (upd H2 s2.heap.objs.size (.lst [])) fp (X.pn++J3)=Y at I4;have yp:Y.prog=X.prog:=by rw[<-hY];rfl
 have yw:Y.w=X.w:=by rw[<-hY];rfl
 have yK:Y.K=X.K:=by rw[<-hY];rfl
 have yA:Y.A=X.A:=by rw[<-hY];rfl
 have yx:Y.xe=XF:=by rw[<-hY];rfl
 have yc:Y.calm=true:=by rw[<-hY];exact hc
 have gY:PG Y tg g:=by rw[<-hY];exact hg _ _ _ _ _ _
 have tY:FI Y ifs tc:=by rw[<-hY];exact ht _ _ _ _ _ _
 have eY:PE Y elt te:=by rw[<-hY];exact he _ _ _ _ _ _
 have yenv:Y.env=compEnvC scope cl s3.heap.objs.size X.env:=by rw[<-hY];rfl
 have fY:∀{H':Hp},(∀b∈fp,H' b=none)->∀b∈fp,lA Y [] H' b:=fun hn b hb=>by
  obtain⟨f0,f1,f2',f3',f4,f5⟩:=f3 b hb;rw[<-hY];refine⟨hn b hb,bE (hlt3 b hb),fun z=>?_,.inl hb,fun x c e=>f4 x c (hcl x c e),fun p hp=>?_⟩
  ·rcases cc.mp (I3.stkSub _ z)with q|q
   ·exact f1 q
   ·exact f2' q
  ·rw[ei]at hp;exact f5 p hp
 have loop:∀s4:Shared,s4={ s3 with heap:=h₁,toks:=s2.toks+([]:List (Str×Value)).length } ->
   zzl78 (model X.prog X.w) X.A (.compLoop (.ListComp elt [⟨tg,iter,ifs,0⟩] scope pos) 0 (.ref it) (.ref s2.heap.objs.size) Y.env) (RR (.ref s2.heap.objs.size) s3.heap.objs.size) s4:=by
  rintro s4 rfl;refine wz (fun n s'=>∃i vs H',Inv Y [] (c_ k fi σ) H' s'/\tn i s'.heap/\(∀b∈fp,H' b=none)/\W i n vs H') ?_ m0 ⟨0,[],_,I4,st4,fun b hb=>(f3 b hb).1,w0⟩;rintro n s5 ⟨i,vs,H5,I5,st5,fr5,w5⟩;obtain⟨hl5,hcase⟩:=turn i n vs H5 w5;rcases hcase with⟨stop,q⟩|⟨go,step⟩
  ·have d:=T.done Y yp yw yK yc i [] s5 _ H5 XF I5 (fY fr5) st5 stop;rw[yA]at d;refine ca d fun r s6 ⟨hr,I6⟩=>?_;subst hr;have hu:Un (Cc X.stack) fp (upd H2 s2.heap.objs.size (.lst [])) H5 s3.heap s6.heap:=by have:=I6.base;rw[<-hY]at this;exact this
   have ho6:s6.os=s3.os:=by have:=I6.os;rw[<-hY]at this;exact this
   have hok6:k_ X.prog X.w X.K H5 s6.heap:=by have:=I6.hok;rw[<-hY]at this;exact this
   have hC6:H5 s3.heap.objs.size=none:=by have:=I6.free;rw[<-hY]at this;exact this
   obtain⟨m6,hn6,_⟩:=I6.loc;have hn6':s6.heap.Ns s3.heap.objs.size m6:=by rw[<-hY]at hn6;exact hn6
   have IX:Inv X J3 σ H5 s6:=I3.call' ho6 hu hok6 I6.bare fun b hb=>by
    obtain⟨f0,f1,f2',f3',f4,f5⟩:=f3 b hb;exact⟨f3',f1,f4,f5⟩
   refine hR _ _ H5 s6 m6 IX hn6' ⟨hC6,dC I3.lt,I3.sz,fun x c e z=>?_,fun p hp z=>?_⟩ q
   ·obtain⟨v,o,ho,_⟩:=I3.cell x c e;exact absurd (az ho) (by rw[z];exact iV _)
   ·exact absurd (az (I3.pin p hp).1) (by rw[z];exact iV _)
  ·have d:=T.item Y yp yw yK yc i [] s5 _ H5 XF I5 (fY fr5) st5 go;rw[yA]at d;refine ca d fun r s6 ⟨u,hr,h6⟩=>?_;subst hr;refine ca h6 fun _ s7 ⟨x,H7,I7,r7,y7,st7,fr7⟩=>?_;have I7':=I7.pinned (fY fr7) (T.obj _ _ st7);have a7:=gY _ s7 _ H7 x u _ I7' r7 (ho _ _ _ _ (step x H7 y7));rw[yp,yw,yA,yx]at a7;refine ca a7 fun _ s8 ⟨σ8,H8,I8,q8,l8,k8⟩=>?_;have a8:=tY _ s8 σ8 H8 _ I8 q8;rw[yp,yw,yA,yx]at a8;have again:∀{H9:Hp}{s9:Shared}{vs':List V}{m':Nat},Inv Y ([]++rR fp s7.heap) σ8 H9 s9->m'<n->W (i+1) m' vs' H9->∃m,m<n/\∃i vs H',Inv Y [] (c_ k fi σ) H' s9/\tn i s9.heap/\(∀b∈fp,H' b=none)/\W i m vs H':=fun{H9 s9 vs' m'} I9 hm w9=>by
    refine⟨m',hm,i+1,vs',H9,(I9.unpinned).weak l8.symm (fun j v e=>?_),T.keep _ _ _ st7 fun b hb o e=>(I9.pin (b,o) (dL _ (dL _ (jA hb e)))).1,fun b hb=>?_,w9⟩
    ·obtain⟨j',t,rfl,_,_⟩:=sw e;rw[k8 _ (iM _ _)];exact e
    ·obtain⟨o,e,_⟩:=T.obj _ _ st7 b hb;exact(I9.pin (b,o) (dL _ (dL _ (jA hb e)))).2.1
   refine ca a8 fun b s9 ⟨H9,I9,q9⟩=>?_;cases b with
   |false =>
    rw[if_neg gm]at q9 ⊢;obtain⟨m',hm,w9⟩:=q9;exact again I9 hm w9
   |true =>
    rw[if_pos rfl]at q9 ⊢;have a9:=eY _ s9 σ8 H9 _ I9 q9;rw[yp,yw,yA,yx]at a9;refine ca a9 fun y s10 ⟨v,H10,I10,r10,hl10,hsz10,m',hm,w10⟩=>?_;have a10:=cS (X:=Y) _ s10 σ8 H10 (.ref s2.heap.objs.size) [v] (.ref s2.heap.objs.size) [y] (fun z H'=>z=.non/\H'=upd H10 s2.heap.objs.size (.lst (vs++[v]))) I10 rfl (.cons r10 .nil) ⟨_,vs,v,rfl,rfl,hl10,hsz10,rfl,rfl⟩;rw[yp,yw,yA,yx]at a10;refine ca a10 fun _ s11 ⟨_,H11,I11,_,_,e11⟩=>?_;subst e11;exact again I11 hm w10
 have hstart:=codeAny_compStart_list (prog:=X.prog) (w:=X.w) (A:=X.A) (elt:=elt) (target:=tg) (iter:=iter) (ifs:=ifs) (rest:=[]) (scope:=scope) (pos:=pos) (it:=.ref it) (acc:=.ref s2.heap.objs.size) (env:=Y.env) (loop _ rfl) (T.self _ 0 _ _ _ st4 (loop _ rfl));rw[yenv]at hstart;rw[<-hs3]at hstart;exact hstart
end
section
variable{X:Cx}
theorem wV.turned{J3:Zd}{σ:St}{H:Hp}{s:Shared}{C:Addr}{h':Heap}(c:wV X J3 H C)(I:Inv X J3 σ H s)(hs:gD C s.heap h'):Inv X J3 σ H { s with heap:=h' } :=
 I.turned (t':=s.toks) (fun b o hb e=>hs.extBut b o hb e) c.free c.loc (.inr c.young) c.cells c.pin
theorem EO{elt iter tg:Expr}{ifs:List Expr}{scope:Scope}{pos:Pos}{k:Nat}{N:Zb}{fi:List Nat}{wi:TI}{g:TG}{tc:TT}{te:TE}(hS:k5 X.env.scope scope k N X.N fi=true)(hc:X.calm=true)(hi:PI X tg iter wi)
  (hg:∀C cl s₀ H₀ ex pn,PG (da X N scope C cl s₀ H₀ ex pn) tg g) (ho:yk k g) (ht:∀C cl s₀ H₀ ex pn,FI (da X N scope C cl s₀ H₀ ex pn) ifs tc) (he:∀C cl s₀ H₀ ex pn,PE (da X N scope C cl s₀ H₀ ex pn) elt te)
  (hs:∀x,w_ iter X.env x=pure x:=by intro _;rfl):PE X (.ListComp elt [⟨tg,iter,ifs,0⟩] scope pos) (cB k fi wi g tc te):=by
 intro J3 s σ H Q I h;have S:=mC.of hS;obtain⟨cl,hclos,hcl,hcf⟩:=sy (env:=X.env) (scope:=scope) fun y hy e=>I.ok.has y.1 (S.fr y hy e);rw[eval_ListComp];refine wpAny_comprehension_free (use:=none) rfl hs hclos S.kind S.nm (ca (hi J3 s σ H _ I h) fun v s1 h1=>ca h1 fun itv s2 h2=>?_);obtain⟨it,fp,tn,J,H2,e,I2,T,st2,f2,hw⟩:=h2;subst e;refine sv (RR:=fun acc C=>compPost (model X.prog X.w) X.A X.xe none (EP X J3 σ Q) acc C) S hc hcl hcf hg ho ht he I2 T st2 f2 hw ?_;intro D C H' s' m' I' hn ce q;exact⟨m',hn,fun h' hs'=>⟨.ref D,H',ce.turned I' hs',rfl,q⟩⟩
theorem ze{elt iter tg:Expr}{ifs:List Expr}{scope:Scope}{pos spos py:Pos}{k:Nat}{N:Zb}{fi:List Nat}{wi:TI}{g:TG}{tc:TT}{te:TE}{j:Nat}{y:Str}(hN:X.N.Nodup)(hj:X.N[j]?=some y)(hy:Loc X.env.scope y)(hS:k5 X.env.scope scope k N X.N fi=true)(hc:X.calm=true)(hi:PI X tg iter wi)
  (hg:∀C cl s₀ H₀ ex pn,PG (da X N scope C cl s₀ H₀ ex pn) tg g) (ho:yk k g) (ht:∀C cl s₀ H₀ ex pn,FI (da X N scope C cl s₀ H₀ ex pn) ifs tc) (he:∀C cl s₀ H₀ ex pn,PE (da X N scope C cl s₀ H₀ ex pn) elt te)
  (hsw:pc (.ListComp elt [⟨tg,iter,ifs,0⟩] scope pos) (some (.Name y py)) spos.line X.env=pure true:=by rfl)
  (hs:∀x,w_ iter X.env x=pure x:=by intro _;rfl) (hf:X.fn y=true∨X.env.scope.names.lookup y=some .local:=by first|exact .inl rfl|exact .inr rfl|assumption) :
  PS X (.Assign [.Name y py] (.ListComp elt [⟨tg,iter,ifs,0⟩] scope pos) spos) (aJ (cB k fi wi g tc te) (dI j)):=by
 intro J3 s σ H D I h;have S:=mC.of hS;obtain⟨cl,hclos,hcl,hcf⟩:=sy (env:=X.env) (scope:=scope) fun y hy e=>I.ok.has y.1 (S.fr y hy e);rw[exec_Assign_Name_used _ _ _ _ hsw];refine ak (wpAny_standAt (ak ?_));show wpAny _ X.A (do let _ <- comprehension (.ListComp elt [⟨tg,iter,ifs,0⟩] scope pos) scope X.env _ (newList []) false (eval iter X.env) (some (assign (.Name y py) X.env))) _ _ s
 refine ak (mL (wpAny_comprehension_free (use:=some (assign (.Name y py) X.env)) (Q:=fun _ s'=>SP X J3 D .next s') rfl hs hclos S.kind S.nm
  (ca (hi J3 s σ H _ I h) fun v s1 h1=>ca h1 fun itv s2 h2=>?_)) (fun _ s' hq=>aF (aF hq)) fun _ _ e=>e)
 obtain⟨it,fp,tn,J,H2,e,I2,T,st2,f2,hw⟩:=h2;subst e;refine sv (RR:=fun acc C=>compPost (model X.prog X.w) X.A X.xe (some (assign (.Name y py) X.env)) (fun _ s'=>SP X J3 D .next s') acc C) (Q:=fun x H1=>dI j x σ H1 D.nx) S hc hcl hcf hg ho ht he I2 T st2 f2 hw ?_;intro A C H' s' m' I' hn ce q;show wpAny _ X.A (assign (.Name y py) X.env (.ref A)) _ _ _;refine wpAny_assign_Name (ue I' hN hj hy (v:=.ref A) rfl (fun s'' I'' hsb=>?_) hf);obtain⟨a,hsa,ha⟩:=hsb;have hCa:C≠a:=by
  rcases ha with z|z
  ·rw[z];exact ce.loc
  ·exact eT (ce.cells y a z)
 refine⟨m',hn.sameBut hsa hCa,fun h' hs'=>?_⟩;exact⟨_,H',ce.turned I'' hs',q⟩
end
theorem Inv.turnedNew{X:Cx}{J3:Zd}{σ:St}{H:Hp}{s:Shared}{h2:Heap}{t':Nat}{ch:Ze}{o:HO}(I:Inv X J3 σ H s)(hf:∀b∈ch,lA X J3 H b)
  (k:∀b q,b∉ch->s.heap.get? b=some q->h2.get? b=some q) (hq:∃q,h2.get? s.heap.objs.size=some q) (hno:∀y,o≠.own y) (new:cq X.prog X.w X.K (upd H s.heap.objs.size o) h2 s.heap.objs.size o) :
  Inv X J3 σ (upd H s.heap.objs.size o) { s with heap:=h2,toks:=t' }:=by
 have hn0:H s.heap.objs.size=none:=I.fresh;have nsz:∀b q,s.heap.get? b=some q->b≠s.heap.objs.size:=fun b q e=>bE (az e);have tr:∀b u,H b=some u->b∉ch:=fun b u e z=>by rw[(hf b z).1]at e;cases e
 refine I.step (g':=s.gens) (d':=s.drawn) (ch:=ch) (fun b hb=>?_) (fun b q _ _ hc e _=>k b q hc e) (fun b q _ _ hc e _=>⟨q.slots,k b q hc e⟩) (fun b q _ e n=>by rw[ah (nsz b q e)];exact n) (fun b q hc e=>⟨q,k b q hc e⟩)
  (fun b xs e=>by rw[ah (ae e hn0)];exact e) (fun b q u e=>by rw[ah (ae e hn0)];exact e) (fun b ps e=>⟨#[],by rw[ah (ae e hn0),e];simp⟩) (fun m hm=>?_) (fun b u e=>?_) I.bare
 ·obtain⟨f0,f1,f2,f3,f4,f5⟩:=hf b hb;exact⟨f3,f1,f4,f5⟩
 ·obtain⟨q,es,ep,ho,r⟩:=hm;exact⟨q,es,ep,k _ q (fun z=>(hf _ z).2.1 rfl) ho,r⟩
 ·by_cases hb:b=s.heap.objs.size
  ·subst hb;rw[aa]at e;cases e;exact new
  ·rw[ah hb]at e;refine(I.hok b u e).stay (fun c v hc q=>k c v ?_ q) (fun c q=>by rw[ah (ae q hn0)];exact q) fun c xs q=>by rw[ah (ae q hn0)];exact q
   rcases hc with z|z
   ·subst z;exact tr _ _ e
   ·exact tr _ _ z
def G7(K:Za)(a:Addr):It :=
 ⟨fun i H=>∃xs x,ax K H a xs/\xs[i]?=some x,fun i H x H'=>∃p v,x=.ref p/\H p=none/\(∀xs,ax K H a xs->xs[i]?=some v)/\H'=upd H p (.tup [.int i,v]),fun i H=>∃xs,ax K H a xs/\xs.length<=i⟩
theorem A7{P:bj}{w:World}{K:Za}{es:List Expr}{kx:Nat}{J7:Pos}(a e it:Addr)(hne:e≠it):
  pY P w K (.Tuple es kx J7) (G7 K a) [e,it] e (fun i h=>(∃old,IsEnum h e it i old)/\h.IsListIter it a i) where
 mem:=by simp
 obj:=fun i h st b hb=>by
  obtain⟨⟨old,he⟩,o,ho,hc,hd⟩:=st;rcases cc.mp hb with z|z
  ·subst z;exact⟨_,he,fun v z=>by cases z⟩
  ·have z':b=it:=by simpa using z
   subst z';exact⟨o,ho,fun v z=>by rw[hd]at z;cases z⟩
 keep:=fun i h h' st k=>⟨let⟨old,he⟩:=st.1;⟨old,k e (by simp) _ he⟩,st.2.at fun o e=>k it (by simp) o e⟩
 item:=by
  intro X hP hw hK hc i J3 s σ H E I hf st hg;subst hP hw hK;obtain⟨⟨old,he⟩,hit⟩:=st;obtain⟨xs,x,hq,hx⟩:=hg;obtain⟨its,rv,p,hz⟩:=I.list hq;obtain⟨u,hu,ru⟩:=rv.get hx;obtain⟨e0,e1,e2,e3,e4,e5⟩:=hf e (by simp);obtain⟨f0,f1,f2,f3,f4,f5⟩:=hf it (by simp);refine wpAny_pyNext_enum_item he hit p.isList (x:=u) (by simpa using hu) hne fun h' ho' hit' ht' hsz' hk'=>?_;refine⟨_,rfl,wpAny_letOwnedTupleGo_enum (s:={ s with heap:=h',toks:=s.toks+1 }) ho' fun h2 he2 hs2=>?_⟩;have hs2':gD e h' h2:=hs2;have hpe:s.heap.objs.size≠e:=dC (az he);have ht2:h2.get? s.heap.objs.size=some { cls:=.type "tuple",data:=.seq #[.int i s.toks,u] }:=hs2'.extBut _ _ hpe ht';have hn0:H s.heap.objs.size=none:=I.fresh;have hue:upd H s.heap.objs.size (.tup [.int i,x]) e=none:=by rw[ah (eT hpe)];exact e0
  have hpi:s.heap.objs.size≠it:=by
   obtain⟨o,ho,_⟩:=hit;exact dC (az ho)
  have hui:upd H s.heap.objs.size (.tup [.int i,x]) it=none:=by rw[ah (eT hpi)];exact f0
  have I2:Inv X J3 σ (upd H s.heap.objs.size (.tup [.int i,x])) { s with heap:=h2,toks:=s.toks+1 }:=by
   refine I.turnedNew (ch:=[e,it]) hf (fun b o hb q=>?_) ⟨_,ht2⟩ (fun _ z=>nomatch z) ⟨by show 2<=ai;decide,[.int i s.toks,u],.cons ⟨_,rfl⟩ (.cons ru .nil),⟨_,ht2,rfl,_,rfl⟩⟩;have nb1:b≠e:=fun z=>hb (by simp[z]);have nb2:b≠it:=fun z=>hb (by simp[z]);exact hs2'.extBut _ _ nb1 (hk' b o nb1 nb2 q)
  refine⟨.ref s.heap.objs.size,_,I2,rfl,⟨_,x,rfl,hn0,fun ys hy=>by rw[I.list_inj hy hq];exact hx,rfl⟩,⟨⟨u,by simpa using he2⟩,hit'.at fun o y=>(hs2'.2 it (eT hne)).trans y⟩,fun b hb=>?_⟩;rcases cc.mp hb with z|z
  ·subst z;exact hue
  ·have z':b=it:=by simpa using z
   subst z';exact hui
 done:=by
  intro X hP hw hK hc i J3 s σ H E I hf st hg;subst hP hw hK;obtain⟨⟨old,he⟩,hit⟩:=st;obtain⟨xs,hq,hx⟩:=hg;obtain⟨its,rv,p,hz⟩:=I.list hq;obtain⟨f0,f1,f2,f3,f4,f5⟩:=hf it (by simp);have hl:=rv.length;exact wpAny_pyNext_enum_end (I.ok.hd hc) he hit p.isList (by simp;omega) fun h' eb=>⟨rfl,I.turned (t':=s.toks) (fun b o hb e=>eb b o hb e) f0 f1 f3 f4 f5⟩
 self:=fun _ _ _ _ _ st h=>let⟨_,he⟩:=st.1;wpAny_pyIter_enum he h
section
variable{X:Cx}{p pos:Pos}{es:List Expr}{kx:Nat}{J7:Pos}
def ux(K:Za)(ta:TA):TI:=fun σ H R=>ta σ H fun vs H1=>∃a,vs=[.ref a]/\(∃xs,ax K H1 a xs)/\R (G7 K a) H1
theorem ny{a:Expr}{ta:TA}(hg:Gl X "enumerate")(hm:X.mg "enumerate"=none)(ha:PA X [a] ta)(hs:aA [a] X.env=[(false,eval a X.env)]:=by rfl):PI X (.Tuple es kx J7) (.Call (.Name "enumerate" p) [a] [] pos) (ux X.K ta):=by
 intro J3 s σ H R I h;refine Call_ (iQ I hg hm boot_enumerate (mJ (ca (ha pos J3 s σ H _ I h) fun us s1 ⟨vs,H1,I1,r1,q1⟩=>?_) hs rfl));obtain⟨l,e,⟨xs,hq⟩,q⟩:=q1;subst e;obtain⟨u,rfl,ru⟩:=vals1 r1;cases ru;obtain⟨its,rv,pl,hz⟩:=I1.list hq;refine call_enumerate_list pl.isList fun h' he hit hsz hk=>?_;refine wpAny_pyIter_enum (s:={ s1 with heap:=h' }) he ?_;have hk':∀b o,s1.heap.get? b=some o->h'.get? b=some o:=hk;have I2:Inv X J3 σ H1 { s1 with heap:=h' }:=I1.kept (t':=s1.toks) hk';refine⟨_,[s1.heap.objs.size+1,s1.heap.objs.size],_,_,H1,rfl,I2,A7 l _ _ (Nat.succ_ne_self _),⟨⟨_,he⟩,hit⟩,fun b hb=>?_,q⟩;have hb':s1.heap.objs.size<=b:=by
  rcases cc.mp hb with z|z
  ·rw[z];exact Nat.le_succ _
  ·have z':b=s1.heap.objs.size:=by simpa using z
   rw[z'];exact ay _
 exact I1.fpOk hb' (I1.hok.fresh hb')
end
def Hr(x:Str):It:=⟨fun i _=>i<x.cps.size,fun i H y H'=>H'=H/\∃c,x.cps[i]?=some c/\y=.str ⟨#[c]⟩,fun i _=>x.cps.size<=i⟩
theorem yG{P:bj}{w:World}{K:Za}{tg:Expr}(x:Str)(t:Tok)(it:Addr):pY P w K tg (Hr x) [it] it (fun i h=>h.IsStrIter it "str_ascii_iterator" x t i) where
 mem:=by simp
 obj:=fun i h st b hb=>by
  have e:b=it:=by simpa using hb
  subst e;obtain⟨o,e,c,d⟩:=st;exact⟨o,e,fun v z=>by rw[d]at z;cases z⟩
 keep:=fun i h h' st k=>by
  obtain⟨o,e,c,d⟩:=st;exact⟨o,k it (by simp) o e,c,d⟩
 item:=by
  intro X hP hw hK hc i J3 s σ H E I hf st hg;subst hP hw hK;have hlt:i<x.cps.size:=hg;obtain⟨f0,f1,f2,f3,f4,f5⟩:=hf it (by simp);have hx:x.cps[i]?=some x.cps[i]:=by simp[hlt]
  refine wpAny_pyNext_ascii_item st hx fun h' st' sb=>?_;have I1:Inv X J3 σ H { s with heap:=h',toks:=s.toks+1 }:=I.turned (t':=s.toks+1) (fun b o hb e=>(sb.2 b hb).trans e) f0 f1 f3 f4 f5;obtain⟨o,e,c,d⟩:=id st';exact⟨_,rfl,sk (s:={ s with heap:=h',toks:=s.toks+1 }) e c d (by decide) ⟨.str ⟨#[x.cps[i]]⟩,H,I1,⟨_,rfl⟩,⟨rfl,_,hx,rfl⟩,st',fun b hb=>(hf b hb).1⟩⟩
 done:=by
  intro X hP hw hK hc i J3 s σ H E I hf st hg;subst hP hw hK;have hge:x.cps.size<=i:=hg;obtain⟨f0,f1,f2,f3,f4,f5⟩:=hf it (by simp);exact wpAny_pyNext_ascii_end (I.ok.hd hc) st (by simp;omega) fun h' eb=>⟨rfl,I.turned (t':=s.toks) (fun b o hb e=>eb b o hb e) f0 f1 f3 f4 f5⟩
 self:=fun _ _ _ _ _ st h=>wpAny_pyIter_striter_ascii st h
theorem A5{P:bj}{w:World}{K:Za}{tg:Expr}(x:Str)(t:Tok)(it:Addr):pY P w K tg (Hr x) [it] it (fun i h=>h.IsStrIter it "str_iterator" x t i) where
 mem:=by simp
 obj:=fun i h st b hb=>by
  have e:b=it:=by simpa using hb
  subst e;obtain⟨o,e,c,d⟩:=st;exact⟨o,e,fun v z=>by rw[d]at z;cases z⟩
 keep:=fun i h h' st k=>by
  obtain⟨o,e,c,d⟩:=st;exact⟨o,k it (by simp) o e,c,d⟩
 item:=by
  intro X hP hw hK hc i J3 s σ H E I hf st hg;subst hP hw hK;have hlt:i<x.cps.size:=hg;obtain⟨f0,f1,f2,f3,f4,f5⟩:=hf it (by simp);have hx:x.cps[i]?=some x.cps[i]:=by simp[hlt]
  refine wpAny_pyNext_wide_item st hx fun h' st' sb=>?_;have I1:Inv X J3 σ H { s with heap:=h',toks:=s.toks+1 }:=I.turned (t':=s.toks+1) (fun b o hb e=>(sb.2 b hb).trans e) f0 f1 f3 f4 f5;obtain⟨o,e,c,d⟩:=id st';exact⟨_,rfl,sk (s:={ s with heap:=h',toks:=s.toks+1 }) e c d (by decide) ⟨.str ⟨#[x.cps[i]]⟩,H,I1,⟨_,rfl⟩,⟨rfl,_,hx,rfl⟩,st',fun b hb=>(hf b hb).1⟩⟩
 done:=by
  intro X hP hw hK hc i J3 s σ H E I hf st hg;subst hP hw hK;have hge:x.cps.size<=i:=hg;obtain⟨f0,f1,f2,f3,f4,f5⟩:=hf it (by simp);exact wpAny_pyNext_wide_end (I.ok.hd hc) st (by simp;omega) fun h' eb=>⟨rfl,I.turned (t':=s.toks) (fun b o hb e=>eb b o hb e) f0 f1 f3 f4 f5⟩
 self:=fun _ _ _ _ _ st h=>wpAny_pyIter_striter_wide st h
section
variable{X:Cx}{p pos:Pos}{tg:Expr}
def GV(tl:TE):TI:=fun σ H R=>tl σ H fun v H1=>∃x,v=.str x/\R (Hr x) H1
theorem FV{l:Expr}{tl:TE}(hl:PE X l tl):PI X tg l (GV tl):=by
 intro J3 s σ H R I h;refine ca (hl J3 s σ H _ I h) fun v s1 ⟨y,H1,I1,r1,q1⟩=>?_;obtain⟨x,e,q⟩:=q1;subst e;obtain⟨t,rfl⟩:=r1;have fin:∀b∈[s1.heap.objs.size],lA X J3 H1 b:=fun b hb=>by
  have e:b=s1.heap.objs.size:=by simpa using hb
  subst e;exact I1.fpOk (ay _) (I1.hok.fresh (ay _))
 cases ha:x.cps.all (·<128)
 ·refine wpAny_pyIter_wide ha ?_;exact⟨s1.heap.objs.size,[s1.heap.objs.size],_,_,H1,rfl,I1.kept (t':=s1.toks) fun b o e=>aO _ e,A5 x t _,⟨_,cb _ rfl,rfl,rfl⟩,fin,q⟩
 ·refine wpAny_pyIter_ascii ha ?_;exact⟨s1.heap.objs.size,[s1.heap.objs.size],_,_,H1,rfl,I1.kept (t':=s1.toks) fun b o e=>aO _ e,yG x t _,⟨_,cb _ rfl,rfl,rfl⟩,fin,q⟩
end
def Hq(K:Za)(a b:Addr):It :=
  ⟨fun i H=>∃xs ys x y,ax K H a xs/\ax K H b ys/\xs[i]?=some x/\ys[i]?=some y,
   fun i H x H'=>∃p u v,x=.ref p/\H p=none/\(∀xs,ax K H a xs->xs[i]?=some u)/\(∀ys,ax K H b ys->ys[i]?=some v)/\H'=upd H p (.tup [u,v]),
   fun i H=>∃xs ys,ax K H a xs/\ax K H b ys/\(xs.length<=i∨ys.length<=i)⟩
theorem Cp{P:bj}{w:World}{K:Za}{es:List Expr}{kx:Nat}{J7:Pos}(a b z TI TO i1 i2:Addr)(D:fO z TI TO i1 i2 a b):
  pY P w K (.Tuple es kx J7) (Hq K a b) [z,TI,TO,i1,i2] z (fun i h=>IsZip h z TI TO .none/\IsPair h TI (.ref i1) (.ref i2)/\(∃a b,IsPair h TO a b)/\h.IsListIter i1 a i/\h.IsListIter i2 b i) where
 mem:=by simp
 obj:=fun i h st c hc=>by
  obtain⟨hz,hTI,⟨u,v,hTO⟩,h1,h2⟩:=st;simp only[cc,qU,or_false]at hc;rcases hc with rfl|rfl|rfl|rfl|rfl
  ·exact⟨_,hz,fun v z=>by cases z⟩
  ·exact⟨_,hTI,fun v z=>by cases z⟩
  ·exact⟨_,hTO,fun v z=>by cases z⟩
  ·obtain⟨o,e,c,d⟩:=h1;exact⟨o,e,fun v z=>by rw[d]at z;cases z⟩
  ·obtain⟨o,e,c,d⟩:=h2;exact⟨o,e,fun v z=>by rw[d]at z;cases z⟩
 keep:=fun i h h' st k=>by
  obtain⟨hz,hTI,⟨u,v,hTO⟩,h1,h2⟩:=st;exact⟨k z (by simp) _ hz,k TI (by simp) _ hTI,⟨u,v,k TO (by simp) _ hTO⟩,h1.at fun o e=>k i1 (by simp) o e,h2.at fun o e=>k i2 (by simp) o e⟩
 item:=by
  intro X hP hw hK hc i J3 s σ H E I hf st hg;subst hP hw hK;obtain⟨hz,hTI,⟨u0,v0,hTO⟩,h1,h2⟩:=st;obtain⟨xs,ys,x,y,hqx,hqy,hx,hy⟩:=hg;obtain⟨its,rx,px,zx⟩:=I.list hqx;obtain⟨jts,ry,py,zy⟩:=I.list hqy;obtain⟨u,hu,ru⟩:=rx.get hx;obtain⟨v,hv,rv⟩:=ry.get hy;refine wpAny_pyNext_zip_item D hz hTI hTO h1 h2 px.isList py.isList (x:=u) (y:=v) (by simpa using hu) (by simpa using hv) fun h' a1 a2 a3 a4 a5 a6 hk=>?_;refine⟨_,rfl,wpAny_letOwnedTupleGo_zip (s:={ s with heap:=h' }) a1 fun h2' hz2 hs2=>?_⟩;have hs2':gD z h' h2':=hs2;have nsz:s.heap.objs.size≠z:=dC (az hz);have nsTO:s.heap.objs.size≠TO:=dC (az hTO);have nsTI:s.heap.objs.size≠TI:=dC (az hTI);have nsi1:s.heap.objs.size≠i1:=by obtain⟨o,ho,_⟩:=h1;exact dC (az ho)
  have nsi2:s.heap.objs.size≠i2:=by obtain⟨o,ho,_⟩:=h2;exact dC (az ho)
  have ht2:IsPair h2' s.heap.objs.size u v:=hs2'.extBut _ _ nsz a5;have I2:Inv X J3 σ (upd H s.heap.objs.size (.tup [x,y])) { s with heap:=h2',toks:=s.toks }:=by
   refine I.turnedNew (ch:=[z,TI,TO,i1,i2]) hf (fun c o hc q=>?_) ⟨_,ht2⟩ (fun _ z=>nomatch z) ⟨by show 2<=ai;decide,[u,v],.cons ru (.cons rv .nil),⟨_,ht2,rfl,_,rfl⟩⟩;have n1:c≠z:=fun q=>hc (by simp[q]);exact hs2'.extBut _ _ n1 (hk c o n1 (fun q=>hc (by simp[q])) (fun q=>hc (by simp[q])) (fun q=>hc (by simp[q])) q)
  refine⟨.ref s.heap.objs.size,_,I2,rfl,⟨_,x,y,rfl,I.fresh,fun zs hz=>by rw[I.list_inj hz hqx];exact hx,fun zs hz=>by rw[I.list_inj hz hqy];exact hy,rfl⟩,⟨hz2,hs2'.extBut _ _ D.TIz (hk _ _ D.TIz D.TITO D.TIi1 D.TIi2 hTI),⟨_,_,hs2'.extBut _ _ D.TOz a2⟩,a3.at fun o e=>hs2'.extBut _ _ D.i1z e,a4.at fun o e=>hs2'.extBut _ _ D.i2z e⟩,fun c hc=>?_⟩;have hcn:=(hf c hc).1;simp only[cc,qU,or_false]at hc;have ne:c≠s.heap.objs.size:=by
   rcases hc with rfl|rfl|rfl|rfl|rfl
   ·exact nsz.symm
   ·exact nsTI.symm
   ·exact nsTO.symm
   ·exact nsi1.symm
   ·exact nsi2.symm
  rw[ah ne];exact hcn
 done:=by
  intro X hP hw hK hc i J3 s σ H E I hf st hg;subst hP hw hK;obtain⟨hz,hTI,⟨u0,v0,hTO⟩,h1,h2⟩:=st;obtain⟨xs,ys,hqx,hqy,hend⟩:=hg;obtain⟨its,rx,px,zx⟩:=I.list hqx;obtain⟨jts,ry,py,zy⟩:=I.list hqy;have lx:=rx.length;have ly:=ry.length;refine wpAny_pyNext_zip_end (I.ok.hd hc) D hz hTI hTO h1 h2 px.isList py.isList (by rcases hend with q|q;exact .inl (by simp;omega);exact .inr (by simp;omega)) fun h' hk=>⟨rfl,?_⟩;have tr:∀c q,H c=some q->c∉[z,TI,TO,i1,i2]:=fun c q e m=>by rw[(hf c m).1]at e;cases e
  have kk:∀c o,c∉[z,TI,TO,i1,i2]->s.heap.get? c=some o->h'.get? c=some o:=fun c o hc q=>hk c o (fun q=>hc (by simp[q])) (fun q=>hc (by simp[q])) (fun q=>hc (by simp[q])) (fun q=>hc (by simp[q])) q;refine I.step (g':=s.gens) (d':=s.drawn) (t':=s.toks) (ch:=[z,TI,TO,i1,i2]) (fun c hc=>?_) (fun c o _ _ hc e _=>kk c o hc e) (fun c o _ _ hc e _=>⟨o.slots,kk c o hc e⟩) (fun _ _ _ _ n=>n) (fun c o hc e=>⟨o,kk c o hc e⟩) (fun _ _ e=>e) (fun _ _ _ e=>e) (fun c ps e=>⟨#[],by rw[e];simp⟩) (fun m hm=>?_) (fun c q e=>?_) I.bare
  ·obtain⟨f0,f1,f2,f3,f4,f5⟩:=hf c hc;exact⟨f3,f1,f4,f5⟩
  ·obtain⟨q,es',ep,ho,r⟩:=hm;exact⟨q,es',ep,kk _ q (fun z=>(hf _ z).2.1 rfl) ho,r⟩
  ·refine(I.hok c q e).stay (fun d v hd q'=>kk d v ?_ q') (fun _ q=>q) fun _ _ q=>q;rcases hd with z|z
   ·subst z;exact tr _ _ e
   ·exact tr _ _ z
 self:=fun _ _ _ _ _ st h=>qS st.1 h
section
variable{prog:bj}{w:World}{A:Around}{E:Zc}{s:Shared}
theorem jz{it t:Addr}{i:Nat}{items:Array Value}{x:Value}{Q:Zc}(st:s.heap.IsTupleIter it t i)(tt:s.heap.IsTuple t items)(hx:items[i]?=some x)
  (k:∀h',h'.IsTupleIter it t (i+1)->gD it s.heap h'->Q x { s with heap:=h' }):wpAny (model prog w) A (gp (.ref it)) Q E s:=by
 obtain⟨oi,gi,ci,di⟩:=id st;obtain⟨ot,gt,_,nt,dt⟩:=tt;unfold gp;refine ak (j8 (name:=jo "__next__") st.typeIs vd
  (qD vd st.typeIs F.entry_tuple_iterator_next ?_ (F.args_tuple_iterator_next_1 _)))
 show wpAny _ _ (field (.ref it) 0 >>= _) _ _ s;refine ak (dw gi di (x:=.ref t) rfl ?_);show wpAny _ _ (if(Value.ref t==Value.none)=true then _ else _) _ _ s
 rw[if_neg (show ¬((Value.ref t==Value.none)=true)from gm)];show wpAny _ _ (field (.ref it) 1 >>= _) _ _ s;refine ak (dw gi di (x:=.int i 0) rfl ?_);show wpAny _ _ (seqItems? (.ref t) >>= _) _ _ s;refine ak (iW gt dt ?_);simp only[jq,hx];refine ak (vc gi di (by simp) (aF ⟨x,rfl,aF (k _ ?_ (lN ..))⟩));exact⟨_,jp _ gi (Obj.isFreed_of_fields (vb di _)),(Obj.cls_mapFields ..).trans ci,by
  rw[vb di];simp[rawInt]⟩
theorem pj{it t:Addr}{i:Nat}{items:Array Value}{Q:Zc}(hh:A.handled=none)(st:s.heap.IsTupleIter it t i)(tt:s.heap.IsTuple t items)(hx:items[i]?=none)
  (k:∀h' e,Heap.ExtBut it s.heap h'->(∃o,h'.get? e=some o/\o.cls=.type "StopIteration")->E (.ref e) { s with heap:=h' }):wpAny (model prog w) A (gp (.ref it)) Q E s:=by
 obtain⟨oi,gi,ci,di⟩:=id st;obtain⟨ot,gt,_,nt,dt⟩:=tt;unfold gp;refine ak (j8 (name:=jo "__next__") st.typeIs vd
  (qD vd st.typeIs F.entry_tuple_iterator_next ?_ (F.args_tuple_iterator_next_1 _)))
 show wpAny _ _ (field (.ref it) 0 >>= _) _ _ s;refine ak (dw gi di (x:=.ref t) rfl ?_);show wpAny _ _ (if(Value.ref t==Value.none)=true then _ else _) _ _ s
 rw[if_neg (show ¬((Value.ref t==Value.none)=true)from gm)];show wpAny _ _ (field (.ref it) 1 >>= _) _ _ s;refine ak (dw gi di (x:=.int i 0) rfl ?_);show wpAny _ _ (seqItems? (.ref t) >>= _) _ _ s;refine ak (iW gt dt ?_);simp only[jq,hx];refine ak (mM (ak (vc gi di (by simp) ?_)));show wpAny _ _ (newExc (.type "StopIteration") [] >>= _) _ _ _;refine ak ?_;simp only[newExc,newTuple];refine ak (j9 ?_ (by size_fits));refine ak (m:=va _ _) (wpAny_of_eq (a:=Value.none) (by first|rfl|(simp only[va];rfl)) ?_)
 refine j9 ?_ (by size_fits);simp only[raiseNew];refine ak (wpAny_handled ?_)
 first|rw[show A.in1.handled=none from hh] | rw[hh]
 refine ak (aF (wpAny_throw ?_));exact k _ _ (((lN ..).extBut.push _).push _) ⟨_,cb _ rfl,rfl⟩
theorem AY{z TI TO i1 i2 l1 l2:Addr}{k1 k2:Nat}{xs ys:Array Value}{x y a b:Value}{Q:Zc}(D:fO z TI TO i1 i2 l1 l2)
  (gz:IsZip s.heap z TI TO .none) (gI:IsPair s.heap TI (.ref i1) (.ref i2)) (gO:IsPair s.heap TO a b)
  (g1:s.heap.IsTupleIter i1 l1 k1) (g2:s.heap.IsTupleIter i2 l2 k2) (t1:s.heap.IsTuple l1 xs) (t2:s.heap.IsTuple l2 ys) (hx:xs[k1]?=some x) (hy:ys[k2]?=some y)
  (k:∀h',IsZip h' z TI TO (rawInt s.heap.objs.size)->IsPair h' TO x y->h'.IsTupleIter i1 l1 (k1+1)->h'.IsTupleIter i2 l2 (k2+1)->IsPair h' s.heap.objs.size x y->h'.objs.size=s.heap.objs.size+1 ->
   (∀c o,c≠z->c≠TO->c≠i1->c≠i2->s.heap.get? c=some o->h'.get? c=some o)->Q (.ref s.heap.objs.size) { s with heap:=h' }) :
  wpAny (model prog w) A (bc.«zip.__next__» ⟨[.ref z],[]⟩) (fun fin s'=>∃v,fin=.done (.ret v)/\Q v s') E s:=by
 show wpAny _ _ (field (.ref z) 2 >>= _) _ _ _;refine ak (dw gz rfl (x:=.bool false) rfl ?_);show wpAny _ _ (field (.ref z) 3 >>= _) _ _ _;refine ak (dw gz rfl (x:=.ref TI) rfl ?_);refine ak (iW gI rfl ?_);show wpAny _ _ (j7 (.ref z) >>= _) _ _ _;refine ak ?_;unfold j7;refine ak (dw gz rfl (x:=.none) rfl (aF ?_));simp only[if_true];refine ak (mM ?_);refine ak (dw gz rfl (x:=.ref TO) rfl ?_);refine ak (lM gz (by simp) fun m₁ gz₁ u₁=>?_)
 replace gz₁:IsZip m₁ z TI TO .ellipsis:=gz₁
 refine ak ?_;simp only[List.zipIdx_cons,List.zipIdx_nil,lO,u_];refine ak (ak (u9 ?_));show wpAny _ _ (gp (.ref i1) >>= _) _ _ _;refine ak (jz (g1.extBut u₁.extBut D.i1z) (t1.extBut u₁.extBut D.l1z) hx fun m₂ g1₂ u₂=>aF ?_);have gO₂:IsPair m₂ TO a b:=u₂.extBut _ _ D.TOi1 (u₁.extBut _ _ D.TOz gO);refine ak (iW gO₂ rfl ?_);refine ak (wpAny_updateSeq_pair gO₂ fun m₃ gO₃ u₃=>?_)
 replace gO₃:IsPair m₃ TO x b:=gO₃
 refine ak (u8 (aF ?_));refine ak (ak (u9 ?_));show wpAny _ _ (gp (.ref i2) >>= _) _ _ _;refine ak (jz (((g2.extBut u₁.extBut D.i2z).extBut u₂.extBut D.i12.symm).extBut u₃.extBut D.TOi2.symm)
  (((t2.extBut u₁.extBut D.l2z).extBut u₂.extBut D.l2i1).extBut u₃.extBut D.l2TO) hy fun m₄ g2₄ u₄=>aF ?_)
 have gO₄:IsPair m₄ TO x b:=u₄.extBut _ _ D.TOi2 gO₃;refine ak (iW gO₄ rfl ?_);refine ak (wpAny_updateSeq_pair gO₄ fun m₅ gO₅ u₅=>?_)
 replace gO₅:IsPair m₅ TO x y:=gO₅
 refine ak (u8 (aF (aF ?_)));refine ak (iW gO₅ rfl ?_);refine ak (wpAny_newTuple ?_);have esz:m₅.objs.size=s.heap.objs.size:=by rw[u₅.1,u₄.1,u₃.1,u₂.1,u₁.1]
 have gz₅:IsZip m₅ z TI TO .ellipsis:=u₅.extBut _ _ D.TOz.symm (u₄.extBut _ _ D.i2z.symm (u₃.extBut _ _ D.TOz.symm (u₂.extBut _ _ D.i1z.symm gz₁)));have kp₅:∀c o,c≠z->c≠TO->c≠i1->c≠i2->s.heap.get? c=some o->m₅.get? c=some o:=fun c o c1 c2 c3 c4 e =>
  u₅.extBut _ _ c2 (u₄.extBut _ _ c4 (u₃.extBut _ _ c2 (u₂.extBut _ _ c3 (u₁.extBut _ _ c1 e))))
 have g1₅:m₅.IsTupleIter i1 l1 (k1+1):=((g1₂.extBut u₃.extBut D.TOi1.symm).extBut u₄.extBut D.i12).extBut u₅.extBut D.TOi1.symm;have g2₅:m₅.IsTupleIter i2 l2 (k2+1):=g2₄.extBut u₅.extBut D.TOi2.symm;have zlt:z<m₅.objs.size:=az gz₅;show wpAny _ _ (bc.SmallTypes.ownedTupleHandOut (.ref z) (.ref m₅.objs.size) >>= _) _ _ _;refine ak ?_;unfold bc.SmallTypes.ownedTupleHandOut;have gz₆:IsZip (m₅.push { cls:=.type "tuple",data:=.seq #[x,y] }) z TI TO .ellipsis:=aO _ gz₅;refine ak (lM gz₆ (by simp) fun m₇ gz₇ u₇=>?_)
 replace gz₇:IsZip m₇ z TI TO (rawInt m₅.objs.size):=gz₇
 refine lM gz₇ (by simp) fun m₈ gz₈ u₈=>?_
 replace gz₈:IsZip m₈ z TI TO (rawInt m₅.objs.size):=gz₈
 have up:∀c o,c≠z->m₅.get? c=some o->m₈.get? c=some o:=fun c o c1 e=>u₈.extBut _ _ c1 (u₇.extBut _ _ c1 (aO _ e));have gT₈:IsPair m₈ m₅.objs.size x y:=u₈.extBut _ _ (dC zlt) (u₇.extBut _ _ (dC zlt) (cb _ rfl));have ez8:m₈.objs.size=m₅.objs.size+1:=by rw[u₈.1,u₇.1,jV]
 rw[esz]at gz₈ gT₈ ez8;refine aF ⟨_,rfl,?_⟩;show Q (.ref m₅.objs.size) _;rw[esz];refine k m₈ gz₈ (up _ _ D.TOz gO₅) ?_ ?_ gT₈ ez8 fun c o c1 c2 c3 c4 e=>up c o c1 (kp₅ c o c1 c2 c3 c4 e)
 ·obtain⟨o,e,r⟩:=g1₅;exact⟨o,up _ o D.i1z e,r⟩
 ·obtain⟨o,e,r⟩:=g2₅;exact⟨o,up _ o D.i2z e,r⟩
theorem Ch{z TI TO i1 i2 l1 l2:Addr}{k1 k2:Nat}{xs ys:Array Value}{a b:Value}{Q:Fin->Shared->Prop}(hh:A.handled=none)(D:fO z TI TO i1 i2 l1 l2)
  (gz:IsZip s.heap z TI TO .none) (gI:IsPair s.heap TI (.ref i1) (.ref i2)) (gO:IsPair s.heap TO a b)
  (g1:s.heap.IsTupleIter i1 l1 k1) (g2:s.heap.IsTupleIter i2 l2 k2) (t1:s.heap.IsTuple l1 xs) (t2:s.heap.IsTuple l2 ys) (fin:xs[k1]?=none∨ys[k2]?=none)
  (k:∀h' e,(∀c o,c≠z->c≠TO->c≠i1->c≠i2->s.heap.get? c=some o->h'.get? c=some o)->(∃o,h'.get? e=some o/\o.cls=.type "StopIteration")->E (.ref e) { s with heap:=h' }) :
  wpAny (model prog w) A (bc.«zip.__next__» ⟨[.ref z],[]⟩) Q E s:=by
 show wpAny _ _ (field (.ref z) 2 >>= _) _ _ _;refine ak (dw gz rfl (x:=.bool false) rfl ?_);show wpAny _ _ (field (.ref z) 3 >>= _) _ _ _;refine ak (dw gz rfl (x:=.ref TI) rfl ?_);refine ak (iW gI rfl ?_);show wpAny _ _ (j7 (.ref z) >>= _) _ _ _;refine ak ?_;unfold j7;refine ak (dw gz rfl (x:=.none) rfl (aF ?_));simp only[if_true];refine ak (mM ?_);refine ak (dw gz rfl (x:=.ref TO) rfl ?_);refine ak (lM gz (by simp) fun m₁ gz₁ u₁=>?_)
 replace gz₁:IsZip m₁ z TI TO .ellipsis:=gz₁
 refine ak ?_;simp only[List.zipIdx_cons,List.zipIdx_nil,lO,u_];refine ak (ak (u9 ?_));show wpAny _ _ (gp (.ref i1) >>= _) _ _ _;cases hx:xs[k1]? with
 |none =>
  refine ak (pj hh (g1.extBut u₁.extBut D.i1z) (t1.extBut u₁.extBut D.l1z) hx fun m₂ e u₂ he=>?_);obtain⟨oe,ge,ce⟩:=he;have gz₂:IsZip m₂ z TI TO .ellipsis:=u₂ _ _ D.i1z.symm gz₁;have nez:e≠z:=fun q=>by subst q;rw[gz₂]at ge;cases ge;simp at ce
  refine lM gz₂ (by simp) fun m₃ _ u₃=>k m₃ e (fun c o c1 _ c3 _ q=>u₃.extBut _ _ c1 (u₂ _ _ c3 (u₁.extBut _ _ c1 q))) ⟨oe,u₃.extBut _ _ nez ge,ce⟩
 |some x =>
  have hy:ys[k2]?=none:=by rcases fin with q|q;rw[hx]at q;cases q;exact q
  refine ak (jz (g1.extBut u₁.extBut D.i1z) (t1.extBut u₁.extBut D.l1z) hx fun m₂ g1₂ u₂=>aF ?_);have gO₂:IsPair m₂ TO a b:=u₂.extBut _ _ D.TOi1 (u₁.extBut _ _ D.TOz gO);refine ak (iW gO₂ rfl ?_);refine ak (wpAny_updateSeq_pair gO₂ fun m₃ gO₃ u₃=>?_);refine ak (u8 (aF ?_));refine ak (ak (u9 ?_));show wpAny _ _ (gp (.ref i2) >>= _) _ _ _;refine ak (pj hh (((g2.extBut u₁.extBut D.i2z).extBut u₂.extBut D.i12.symm).extBut u₃.extBut D.TOi2.symm)
   (((t2.extBut u₁.extBut D.l2z).extBut u₂.extBut D.l2i1).extBut u₃.extBut D.l2TO) hy fun m₄ e u₄ he=>?_)
  obtain⟨oe,ge,ce⟩:=he;have gz₄:IsZip m₄ z TI TO .ellipsis:=u₄ _ _ D.i2z.symm (u₃.extBut _ _ D.TOz.symm (u₂.extBut _ _ D.i1z.symm gz₁));have nez:e≠z:=fun q=>by subst q;rw[gz₄]at ge;cases ge;simp at ce
  refine lM gz₄ (by simp) fun m₅ _ u₅=>k m₅ e (fun c o c1 c2 c3 c4 q=>u₅.extBut _ _ c1 (u₄ _ _ c4 (u₃.extBut _ _ c2 (u₂.extBut _ _ c3 (u₁.extBut _ _ c1 q))))) ⟨oe,u₅.extBut _ _ nez ge,ce⟩
theorem tJ{z TI TO i1 i2 l1 l2:Addr}{k1 k2:Nat}{xs ys:Array Value}{x y a b:Value}{Q:Option Value->Shared->Prop}(D:fO z TI TO i1 i2 l1 l2)
  (gz:IsZip s.heap z TI TO .none) (gI:IsPair s.heap TI (.ref i1) (.ref i2)) (gO:IsPair s.heap TO a b)
  (g1:s.heap.IsTupleIter i1 l1 k1) (g2:s.heap.IsTupleIter i2 l2 k2) (t1:s.heap.IsTuple l1 xs) (t2:s.heap.IsTuple l2 ys) (hx:xs[k1]?=some x) (hy:ys[k2]?=some y)
  (k:∀h',IsZip h' z TI TO (rawInt s.heap.objs.size)->IsPair h' TO x y->h'.IsTupleIter i1 l1 (k1+1)->h'.IsTupleIter i2 l2 (k2+1)->IsPair h' s.heap.objs.size x y->h'.objs.size=s.heap.objs.size+1 ->
   (∀c o,c≠z->c≠TO->c≠i1->c≠i2->s.heap.get? c=some o->h'.get? c=some o)->Q (some (.ref s.heap.objs.size)) { s with heap:=h' }) :
  wpAny (model prog w) A (pyNext (.ref z)) Q E s:=by
 have hT:s.TypeIs (.ref z) "zip":=⟨_,gz,rfl⟩;unfold pyNext;exact ak (n5 (j8 (name:=jo "__next__") hT j5
  (qD j5 hT u7
   (AY D gz gI gO g1 g2 t1 t2 hx hy fun h' a1 a2 a3 a4 a5 a6 a7=>aF (k h' a1 a2 a3 a4 a5 a6 a7)) (u6 _))))
theorem we{z TI TO i1 i2 l1 l2:Addr}{k1 k2:Nat}{xs ys:Array Value}{a b:Value}{Q:Option Value->Shared->Prop}(hh:A.handled=none)(D:fO z TI TO i1 i2 l1 l2)
  (gz:IsZip s.heap z TI TO .none) (gI:IsPair s.heap TI (.ref i1) (.ref i2)) (gO:IsPair s.heap TO a b)
  (g1:s.heap.IsTupleIter i1 l1 k1) (g2:s.heap.IsTupleIter i2 l2 k2) (t1:s.heap.IsTuple l1 xs) (t2:s.heap.IsTuple l2 ys) (fin:xs[k1]?=none∨ys[k2]?=none)
  (k:∀h',(∀c o,c≠z->c≠TO->c≠i1->c≠i2->s.heap.get? c=some o->h'.get? c=some o)->Q none { s with heap:=h' }):wpAny (model prog w) A (pyNext (.ref z)) Q E s:=by
 have hT:s.TypeIs (.ref z) "zip":=⟨_,gz,rfl⟩;unfold pyNext;refine ak (n5 (j8 (name:=jo "__next__") hT j5
  (qD j5 hT u7 (Ch hh D gz gI gO g1 g2 t1 t2 fin fun h' e kp he=>?_) (u6 _))))
 obtain⟨o,ho,hc⟩:=he;refine ak (xa (T:="StopIteration") (b:=true) ⟨o,ho,hc⟩ isSubtype_stop ?_);exact aF (k _ kp)
end
abbrev Hg(h:Heap)(l1:Addr):Heap:=h.push { cls:=.type "tuple_iterator",data:=.fields #[.ref l1,.int 0 0] }
abbrev Hf(h:Heap)(l1 l2:Addr):Heap:=(Hg h l1).push { cls:=.type "tuple_iterator",data:=.fields #[.ref l2,.int 0 0] }
abbrev Hd(h:Heap)(l1 l2:Addr):Heap:=(Hf h l1 l2).push { cls:=.type "tuple",data:=.seq #[.ref h.objs.size,.ref (Hg h l1).objs.size] }
abbrev Hc(h:Heap)(l1 l2:Addr):Heap:=(Hd h l1 l2).push { cls:=.type "tuple",data:=.seq #[.none,.none] }
abbrev Gv(h:Heap)(l1 l2:Addr):Heap:=(Hc h l1 l2).push { cls:=.type "zip",data:=.fields #[.none,.bool false,.bool false,.ref (Hf h l1 l2).objs.size,.ref (Hd h l1 l2).objs.size] }
theorem zn(l1 l2:Addr)(xs ys:Array Value):
  Meets (bc.«zip.__new__» ⟨[.type "zip",.ref l1,.ref l2],[]⟩) (fun _ R s=>s.heap.IsTuple l1 xs/\s.heap.IsTuple l2 ys /\
   R (.ok (.ret (.ref (Hc s.heap l1 l2).objs.size))) { s with heap:=Gv s.heap l1 l2 }) :=
 .of_wp fun prog w A R s h=>by
  obtain⟨hp,g,d,tk,os⟩:=s;obtain⟨q1,q2,h⟩:=h;have hsub:=sub_zip;have T1:Heap.IsTuple (qR ⟨hp,g,d,tk,os⟩) l1 xs:=q1;have T2:Heap.IsTuple (qR ⟨hp.push { cls:=.type "tuple_iterator",data:=.fields #[.ref l1,.int 0 0] },g,d,tk,os⟩) l2 ys:=Heap.IsTuple.push q2 _
  wp_walk using z7 T1,z7 T2
  exact⟨_,rfl,h⟩
section
variable{prog:bj}{w:World}{A:Around}{E:Zc}{s:Shared}
theorem BW{l1 l2:Addr}{xs ys:Array Value}{Q:Zc}(t1:s.heap.IsTuple l1 xs)(t2:s.heap.IsTuple l2 ys)
  (k:∀h',IsZip h' (s.heap.objs.size+4) (s.heap.objs.size+2) (s.heap.objs.size+3) .none->IsPair h' (s.heap.objs.size+2) (.ref s.heap.objs.size) (.ref (s.heap.objs.size+1)) ->
   IsPair h' (s.heap.objs.size+3) .none .none->h'.IsTupleIter s.heap.objs.size l1 0->h'.IsTupleIter (s.heap.objs.size+1) l2 0->(∀c o,s.heap.get? c=some o->h'.get? c=some o)->Q (.ref (s.heap.objs.size+4)) { s with heap:=h' }) :
  wpAny (model prog w) A (call (.type "zip") [.ref l1,.ref l2]) Q E s:=by
 refine callType_new F.called_zip (by decide) (F.typeCall_zip_2 _ _) (F.newCall_zip_2 _ _) (fun obj=>F.args_object_init_3 obj _ _) F.entry_zip_new
  (zn l1 l2 xs ys) ⟨t1,t2,?_⟩
 have z1:(Hg s.heap l1).objs.size=s.heap.objs.size+1:=jV ..;have z2:(Hf s.heap l1 l2).objs.size=s.heap.objs.size+2:=by rw[jV,z1]
 have z3:(Hd s.heap l1 l2).objs.size=s.heap.objs.size+3:=by rw[jV,z2]
 have z4:(Hc s.heap l1 l2).objs.size=s.heap.objs.size+4:=by rw[jV,z3]
 have g5:(Gv s.heap l1 l2).get? (Hc s.heap l1 l2).objs.size=some _:=cb _ rfl;have g4:(Gv s.heap l1 l2).get? (Hd s.heap l1 l2).objs.size=some _:=aO _ (cb _ rfl);have g3:(Gv s.heap l1 l2).get? (Hf s.heap l1 l2).objs.size=some _:=aO _ (aO _ (cb _ rfl));have g2:(Gv s.heap l1 l2).get? (Hg s.heap l1).objs.size=some _:=aO _ (aO _ (aO _ (cb _ rfl)));have g1:(Gv s.heap l1 l2).get? s.heap.objs.size=some _:=aO _ (aO _ (aO _ (aO _ (cb _ rfl))));show _/\_;rw[z2,z3,z4]at g5;rw[z1,z2]at g3;rw[z3]at g4;rw[z1]at g2;rw[z4];exact⟨⟨_,g5,rfl⟩,k _ g5 g3 g4 ⟨_,g1,rfl,rfl⟩ ⟨_,g2,rfl,rfl⟩ fun c o x =>
  aO _ (aO _ (aO _ (aO _ (aO _ x))))⟩
end
def G6(K:Za)(a b:Addr):It :=
  ⟨fun i H=>∃xs ys x y,bC K H a xs/\bC K H b ys/\xs[i]?=some x/\ys[i]?=some y,
   fun i H x H'=>∃p u v,x=.ref p/\H p=none/\(∀xs,bC K H a xs->xs[i]?=some u)/\(∀ys,bC K H b ys->ys[i]?=some v)/\H'=upd H p (.tup [u,v]),
   fun i H=>∃xs ys,bC K H a xs/\bC K H b ys/\(xs.length<=i∨ys.length<=i)⟩
theorem AZ{P:bj}{w:World}{K:Za}{es:List Expr}{kx:Nat}{J7:Pos}(a b z TI TO i1 i2:Addr)(D:fO z TI TO i1 i2 a b):
  pY P w K (.Tuple es kx J7) (G6 K a b) [z,TI,TO,i1,i2] z (fun i h=>IsZip h z TI TO .none/\IsPair h TI (.ref i1) (.ref i2)/\(∃a b,IsPair h TO a b)/\h.IsTupleIter i1 a i/\h.IsTupleIter i2 b i) where
 mem:=by simp
 obj:=fun i h st c hc=>by
  obtain⟨hz,hTI,⟨u,v,hTO⟩,h1,h2⟩:=st;simp only[cc,qU,or_false]at hc;rcases hc with rfl|rfl|rfl|rfl|rfl
  ·exact⟨_,hz,fun v z=>by cases z⟩
  ·exact⟨_,hTI,fun v z=>by cases z⟩
  ·exact⟨_,hTO,fun v z=>by cases z⟩
  ·obtain⟨o,e,c,d⟩:=h1;exact⟨o,e,fun v z=>by rw[d]at z;cases z⟩
  ·obtain⟨o,e,c,d⟩:=h2;exact⟨o,e,fun v z=>by rw[d]at z;cases z⟩
 keep:=fun i h h' st k=>by
  obtain⟨hz,hTI,⟨u,v,hTO⟩,⟨o1,e1,r1⟩,⟨o2,e2,r2⟩⟩:=st;exact⟨k z (by simp) _ hz,k TI (by simp) _ hTI,⟨u,v,k TO (by simp) _ hTO⟩,⟨o1,k i1 (by simp) o1 e1,r1⟩,⟨o2,k i2 (by simp) o2 e2,r2⟩⟩
 item:=by
  intro X hP hw hK hc i J3 s σ H E I hf st hg;subst hP hw hK;obtain⟨hz,hTI,⟨u0,v0,hTO⟩,h1,h2⟩:=st;obtain⟨xs,ys,x,y,hqx,hqy,hx,hy⟩:=hg;obtain⟨its,rx,px,zx⟩:=I.tuple hqx;obtain⟨jts,ry,py,zy⟩:=I.tuple hqy;obtain⟨u,hu,ru⟩:=rx.get hx;obtain⟨v,hv,rv⟩:=ry.get hy;refine tJ D hz hTI hTO h1 h2 (xs:=its.toArray) (ys:=jts.toArray) px py (x:=u) (y:=v) (by simpa using hu) (by simpa using hv) fun h' a1 a2 a3 a4 a5 a6 hk=>?_;refine⟨_,rfl,wpAny_letOwnedTupleGo_zip (s:={ s with heap:=h' }) a1 fun h2' hz2 hs2=>?_⟩;have hs2':gD z h' h2':=hs2;have nsz:s.heap.objs.size≠z:=dC (az hz);have nsTO:s.heap.objs.size≠TO:=dC (az hTO);have nsTI:s.heap.objs.size≠TI:=dC (az hTI);have nsi1:s.heap.objs.size≠i1:=by obtain⟨o,ho,_⟩:=h1;exact dC (az ho)
  have nsi2:s.heap.objs.size≠i2:=by obtain⟨o,ho,_⟩:=h2;exact dC (az ho)
  have ht2:IsPair h2' s.heap.objs.size u v:=hs2'.extBut _ _ nsz a5;have I2:Inv X J3 σ (upd H s.heap.objs.size (.tup [x,y])) { s with heap:=h2',toks:=s.toks }:=by
   refine I.turnedNew (ch:=[z,TI,TO,i1,i2]) hf (fun c o hc q=>?_) ⟨_,ht2⟩ (fun _ z=>nomatch z) ⟨by show 2<=ai;decide,[u,v],.cons ru (.cons rv .nil),⟨_,ht2,rfl,_,rfl⟩⟩;have n1:c≠z:=fun q=>hc (by simp[q]);exact hs2'.extBut _ _ n1 (hk c o n1 (fun q=>hc (by simp[q])) (fun q=>hc (by simp[q])) (fun q=>hc (by simp[q])) q)
  have a3':h2'.IsTupleIter i1 a (i+1):=by obtain⟨o,e,r⟩:=a3;exact⟨o,hs2'.extBut _ _ D.i1z e,r⟩
  have a4':h2'.IsTupleIter i2 b (i+1):=by obtain⟨o,e,r⟩:=a4;exact⟨o,hs2'.extBut _ _ D.i2z e,r⟩
  refine⟨.ref s.heap.objs.size,_,I2,rfl,⟨_,x,y,rfl,I.fresh,fun zs hz=>by rw[I.tuple_inj hz hqx];exact hx,fun zs hz=>by rw[I.tuple_inj hz hqy];exact hy,rfl⟩,⟨hz2,hs2'.extBut _ _ D.TIz (hk _ _ D.TIz D.TITO D.TIi1 D.TIi2 hTI),⟨_,_,hs2'.extBut _ _ D.TOz a2⟩,a3',a4'⟩,fun c hc=>?_⟩;have hcn:=(hf c hc).1;simp only[cc,qU,or_false]at hc;have ne:c≠s.heap.objs.size:=by
   rcases hc with rfl|rfl|rfl|rfl|rfl
   ·exact nsz.symm
   ·exact nsTI.symm
   ·exact nsTO.symm
   ·exact nsi1.symm
   ·exact nsi2.symm
  rw[ah ne];exact hcn
 done:=by
  intro X hP hw hK hc i J3 s σ H E I hf st hg;subst hP hw hK;obtain⟨hz,hTI,⟨u0,v0,hTO⟩,h1,h2⟩:=st;obtain⟨xs,ys,hqx,hqy,hend⟩:=hg;obtain⟨its,rx,px,zx⟩:=I.tuple hqx;obtain⟨jts,ry,py,zy⟩:=I.tuple hqy;have lx:=rx.length;have ly:=ry.length;refine we (I.ok.hd hc) D hz hTI hTO h1 h2 (xs:=its.toArray) (ys:=jts.toArray) px py (by rcases hend with q|q;exact .inl (by simp;omega);exact .inr (by simp;omega)) fun h' hk=>⟨rfl,?_⟩;have tr:∀c q,H c=some q->c∉[z,TI,TO,i1,i2]:=fun c q e m=>by rw[(hf c m).1]at e;cases e
  have kk:∀c o,c∉[z,TI,TO,i1,i2]->s.heap.get? c=some o->h'.get? c=some o:=fun c o hc q=>hk c o (fun q=>hc (by simp[q])) (fun q=>hc (by simp[q])) (fun q=>hc (by simp[q])) (fun q=>hc (by simp[q])) q;refine I.step (g':=s.gens) (d':=s.drawn) (t':=s.toks) (ch:=[z,TI,TO,i1,i2]) (fun c hc=>?_) (fun c o _ _ hc e _=>kk c o hc e) (fun c o _ _ hc e _=>⟨o.slots,kk c o hc e⟩) (fun _ _ _ _ n=>n) (fun c o hc e=>⟨o,kk c o hc e⟩) (fun _ _ e=>e) (fun _ _ _ e=>e) (fun c ps e=>⟨#[],by rw[e];simp⟩) (fun m hm=>?_) (fun c q e=>?_) I.bare
  ·obtain⟨f0,f1,f2,f3,f4,f5⟩:=hf c hc;exact⟨f3,f1,f4,f5⟩
  ·obtain⟨q,es',ep,ho,r⟩:=hm;exact⟨q,es',ep,kk _ q (fun z=>(hf _ z).2.1 rfl) ho,r⟩
  ·refine(I.hok c q e).stay (fun d v hd q'=>kk d v ?_ q') (fun _ q=>q) fun _ _ q=>q;rcases hd with z|z
   ·subst z;exact tr _ _ e
   ·exact tr _ _ z
 self:=fun _ _ _ _ _ st h=>qS st.1 h
section
variable{X:Cx}{p pos:Pos}{es:List Expr}{kx:Nat}{J7:Pos}
def Do(K:Za)(ta:TA):TI:=fun σ H R=>ta σ H fun vs H1=>∃a b,vs=[.ref a,.ref b]/\(((∃xs,ax K H1 a xs)/\(∃ys,ax K H1 b ys)/\R (Hq K a b) H1)∨((∃xs,bC K H1 a xs)/\(∃ys,bC K H1 b ys)/\R (G6 K a b) H1))
theorem An{a b:Expr}{ta:TA}(hg:Gl X "zip")(hm:X.mg "zip"=none)(ha:PA X [a,b] ta)(hs:aA [a,b] X.env=[(false,eval a X.env),(false,eval b X.env)]:=by rfl)(hs2:aA [b] X.env=[(false,eval b X.env)]:=by rfl):
  PI X (.Tuple es kx J7) (.Call (.Name "zip" p) [a,b] [] pos) (Do X.K ta):=by
 intro J3 s σ H R I h;refine Call_ (iQ I hg hm boot_zip (mJ (ca (ha pos J3 s σ H _ I h) fun us s1 ⟨vs,H1,I1,r1,q1⟩=>?_) (by rw[hs,hs2]) (by rw[hs2];rfl)));obtain⟨l1,l2,e,q⟩:=q1;subst e;obtain⟨u,v,rfl,ru,rv⟩:=vals2 r1;cases ru;cases rv;have fin:∀b∈[s1.heap.objs.size+4,s1.heap.objs.size+2,s1.heap.objs.size+3,s1.heap.objs.size,s1.heap.objs.size+1],lA X J3 H1 b:=fun b hb=>by
  have hb':s1.heap.objs.size<=b:=by
   simp only[cc,qU,or_false]at hb;rcases hb with rfl|rfl|rfl|rfl|rfl<;>omega
  exact I1.fpOk hb' (I1.hok.fresh hb')
 rcases q with⟨⟨xs,hx⟩,⟨ys,hy⟩,q⟩|⟨⟨xs,hx⟩,⟨ys,hy⟩,q⟩
 ·obtain⟨its,rx,px,zx⟩:=I1.list hx;obtain⟨jts,ry,py,zy⟩:=I1.list hy;obtain⟨o1,n1,e1,_⟩:=id px;obtain⟨o2,n2,e2,_⟩:=id py;refine call_zip_2 px.isList py.isList fun h' a1 a2 a3 a4 a5 a6 hk=>?_;refine qS (s:={ s1 with heap:=h' }) a1 ?_;have hk':∀b o,s1.heap.get? b=some o->h'.get? b=some o:=hk;have I2:Inv X J3 σ H1 { s1 with heap:=h' }:=I1.kept (t':=s1.toks) hk';exact⟨_,_,_,_,H1,rfl,I2,Cp l1 l2 _ _ _ _ _ (u5 (az e1) (az e2)),⟨a1,a2,⟨_,_,a3⟩,a4,a5⟩,fin,q⟩
 ·obtain⟨its,rx,px,zx⟩:=I1.tuple hx;obtain⟨jts,ry,py,zy⟩:=I1.tuple hy;obtain⟨o1,e1,_⟩:=id px;obtain⟨o2,e2,_⟩:=id py;refine BW (xs:=its.toArray) (ys:=jts.toArray) px py fun h' a1 a2 a3 a4 a5 hk=>?_;refine qS (s:={ s1 with heap:=h' }) a1 ?_;have hk':∀b o,s1.heap.get? b=some o->h'.get? b=some o:=hk;have I2:Inv X J3 σ H1 { s1 with heap:=h' }:=I1.kept (t':=s1.toks) hk';exact⟨_,_,_,_,H1,rfl,I2,AZ l1 l2 _ _ _ _ _ (u5 (az e1) (az e2)),⟨a1,a2,⟨_,_,a3⟩,a4,a5⟩,fin,q⟩
end
inductive DT where
 |k (a:eG)
 |t (l:List DT)
 |s (l:List DT)
mutual
def FG:(x y:DT)->Decidable (x=y)
 |.k a,.k b=>if h:a=b then Decidable.isTrue (by rw[h])else Decidable.isFalse fun e=>h (by injection e)
 |.t l,.t m=>match decDTs l m with
  |Decidable.isTrue h=>Decidable.isTrue (by rw[h])
  |Decidable.isFalse h=>Decidable.isFalse fun e=>h (by injection e)
 |.s l,.s m=>match decDTs l m with
  |Decidable.isTrue h=>Decidable.isTrue (by rw[h])
  |Decidable.isFalse h=>Decidable.isFalse fun e=>h (by injection e)
 |.k _,.t _=>Decidable.isFalse nofun
 |.k _,.s _=>Decidable.isFalse nofun
 |.t _,.k _=>Decidable.isFalse nofun
 |.t _,.s _=>Decidable.isFalse nofun
 |.s _,.k _=>Decidable.isFalse nofun
 |.s _,.t _=>Decidable.isFalse nofun
def decDTs:(x y:List DT)->Decidable (x=y)
 |[],[]=>Decidable.isTrue rfl
 |[],_::_=>Decidable.isFalse nofun
 |_::_,[]=>Decidable.isFalse nofun
 |a::l,b::m=>match FG a b with
  |Decidable.isTrue h=>match decDTs l m with
   |Decidable.isTrue h'=>Decidable.isTrue (by rw[h,h'])
   |Decidable.isFalse h'=>Decidable.isFalse fun e=>h' (by injection e)
  |Decidable.isFalse h=>Decidable.isFalse fun e=>h (by injection e)
end
instance:DecidableEq DT:=FG
mutual
def DT.depth:DT->Nat
 |.k _=>0
 |.t l=>DT.depths l+1
 |.s l=>DT.depths l+1
def DT.depths:List DT->Nat
 |[]=>0
 |a::r=>max (DT.depth a) (DT.depths r)
end
mutual
def qz(h:Heap):DT->Value->Prop
 |.k a,v=>cM a v=true
 |.t l,v=>∃a items,v=.ref a/\h.IsTuple a items/\DAts h l items.toList
 |.s l,v=>∃a items,v=.ref a/\h.IsList a items/\DAts h l items.toList
def DAts(h:Heap):List DT->List Value->Prop
 |[],vs=>vs=[]
 |k::r,vs=>∃v us,vs=v::us/\qz h k v/\DAts h r us
end
theorem DAts.length{h:Heap}:∀{xs:List DT}{vs:Zf},DAts h xs vs->xs.length=vs.length
 |[],vs,e=>by have e':vs=[]:=e;rw[e'];rfl
 |x::xs,vs,e=>by
  obtain⟨v,us,rfl,_,h2⟩:=e;simp[DAts.length h2]
theorem DAts.get{h:Heap}:∀{xs:List DT}{vs:Zf}{i:Nat}{v:Value},DAts h xs vs->vs[i]?=some v->∃x,xs[i]?=some x/\qz h x v
 |[],vs,i,v,e,q=>by have e':vs=[]:=e;subst e';simp at q
 |x::xs,vs,i,v,e,q=>by
  obtain⟨u,us,rfl,h1,h2⟩:=e;cases i with
  |zero =>
   simp at q;subst q;exact⟨x,rfl,h1⟩
  |succ i =>
   obtain⟨y,e1,e2⟩:=DAts.get h2 (i:=i) (v:=v) (by simpa using q);exact⟨y,by simpa using e1,e2⟩
theorem DT.depths_get{l:List DT}{x:DT}{i d:Nat}(h:DT.depths l<=d)(e:l[i]?=some x):x.depth<=d:=by
 induction l generalizing i with
 |nil=>simp at e
 |cons a r ih =>
  have h':max a.depth (DT.depths r)<=d:=h;cases i with
  |zero=>simp at e;subst e;omega
  |succ i=>exact ih (by omega) (by simpa using e)
theorem zB{h:Heap}{a:Addr}{i j:Array Value}(x:h.IsList a i)(y:h.IsList a j):i=j:=by
 obtain⟨o,ho,_,n,hd⟩:=x;obtain⟨o',ho',_,n',hd'⟩:=y;rw[ho]at ho';cases ho';rw[hd]at hd';injection hd'
theorem xV{h:Heap}{a:Addr}{i j:Array Value}(x:h.IsTuple a i)(y:h.IsTuple a j):i=j:=by
 obtain⟨o,ho,_,n,hd⟩:=x;obtain⟨o',ho',_,n',hd'⟩:=y;rw[ho]at ho';cases ho';rw[hd]at hd';injection hd'
theorem jb{h:Heap}{a:Addr}{i j:Array Value}(x:h.IsList a i)(y:h.IsTuple a j):False:=by
 obtain⟨o,ho,hc,_⟩:=x;obtain⟨o',ho',hc',_⟩:=y;rw[ho]at ho';cases ho';rw[hc]at hc';simp at hc'
theorem uv{a b:eG}{v:Value}(h1:cM a v=true)(h2:cM b v=true):a=b:=by
 rcases av h1 with⟨i,t,rfl,rfl⟩|⟨i,t,rfl,rfl⟩
 ·rcases av h2 with⟨j,u,rfl,e⟩|⟨j,u,rfl,e⟩
  ·cases e;rfl
  ·cases e
 ·rcases av h2 with⟨j,u,rfl,e⟩|⟨j,u,rfl,e⟩
  ·cases e
  ·cases e;rfl
theorem gV{a:eG}{b:Addr}(h:cM a (.ref b)=true):False:=by
 rcases av h with⟨_,_,_,e⟩|⟨_,_,_,e⟩<;>cases e
theorem qz.inj{h:Heap}:∀(d:Nat) {x y:DT}{v:Value},x.depth<=d->qz h x v->qz h y v->x=y:=by
 have key:∀(d:Nat) (ih:∀{x y:DT}{v:Value},x.depth<=d->qz h x v->qz h y v->x=y) (xs ys:List DT) (vs:Zf),DT.depths xs<=d->DAts h xs vs->DAts h ys vs->xs=ys:=by
  intro d ih xs
  induction xs with
  |nil =>
   intro ys vs _ hx hy;have hx':vs=[]:=hx;subst hx';cases ys with
   |nil=>rfl
   |cons y ys=>obtain⟨_,_,e,_⟩:=hy;cases e
  |cons x xs ihl =>
   intro ys vs hd hx hy;obtain⟨v,us,rfl,hx1,hx2⟩:=hx;cases ys with
   |nil=>have hy':v::us=[]:=hy;cases hy'
   |cons y ys =>
    obtain⟨v',us',e,hy1,hy2⟩:=hy;cases e;have hd':max x.depth (DT.depths xs)<=d:=hd;rw[ih (by omega) hx1 hy1,ihl ys us (by omega) hx2 hy2]
 intro d
 induction d with
 |zero =>
  intro x y v hd hx hy;cases x with
  |t l=>exact absurd hd (by show ¬(DT.depths l+1<=0);omega)
  |s l=>exact absurd hd (by show ¬(DT.depths l+1<=0);omega)
  |k a =>
   cases y with
   |k b=>rw[uv hx hy]
   |t l=>obtain⟨b,_,rfl,_⟩:=hy;exact(gV hx).elim
   |s l=>obtain⟨b,_,rfl,_⟩:=hy;exact(gV hx).elim
 |succ d ih =>
  intro x y v hd hx hy;cases x with
  |k a =>
   cases y with
   |k b=>rw[uv hx hy]
   |t l=>obtain⟨b,_,rfl,_⟩:=hy;exact(gV hx).elim
   |s l=>obtain⟨b,_,rfl,_⟩:=hy;exact(gV hx).elim
  |t l =>
   obtain⟨a,i,rfl,hi,hx⟩:=hx;cases y with
   |k b=>exact(gV hy).elim
   |t m =>
    obtain⟨a',j,e,hj,hy⟩:=hy;cases e;rw[xV hj hi]at hy;rw[key d (fun h1=>ih h1) l m i.toList (by have:DT.depths l+1<=d+1:=hd;omega) hx hy]
   |s m =>
    obtain⟨a',j,e,hj,hy⟩:=hy;cases e;exact(jb hj hi).elim
  |s l =>
   obtain⟨a,i,rfl,hi,hx⟩:=hx;cases y with
   |k b=>exact(gV hy).elim
   |s m =>
    obtain⟨a',j,e,hj,hy⟩:=hy;cases e;rw[zB hj hi]at hy;rw[key d (fun h1=>ih h1) l m i.toList (by have:DT.depths l+1<=d+1:=hd;omega) hx hy]
   |t m =>
    obtain⟨a',j,e,hj,hy⟩:=hy;cases e;exact(jb hi hj).elim
theorem fH{l m:List DT}(hl:l.length=m.length):((jZ l.length).all fun j=>decide (l[j]?=m[j]?))=decide (l=m):=by
 by_cases e:l=m
 ·subst e;simp
 ·rw[zzr0 e];rw[List.all_eq_false];apply Classical.byContradiction;intro h;apply e;apply List.ext_getElem?;intro i;by_cases hi:i<l.length
  ·apply Classical.byContradiction;intro hne;exact h ⟨i,List.mem_range.mpr hi,by simpa using hne⟩
  ·rw[u4 (by omega),u4 (by omega)]
section
variable{s:Shared}
theorem FC:∀(d:Nat) {A:Around}{x y:DT}{u v:Value},x.depth<=d->y.depth<=d->A.units+d<cLine->qz s.heap x u->qz s.heap y v->aV A s u v (decide (x=y)):=by
 have leaves:∀{A:Around}{a b:eG}{u v:Value},cM a u=true->cM b v=true->aV A s u v (decide (DT.k a=DT.k b)):=by
  intro A a b u v h1 h2;have hd:decide (DT.k a=DT.k b)=decide (a=b):=by
   by_cases e:a=b
   ·subst e;simp
   ·have:¬(DT.k a=DT.k b):=fun z=>e (by injection z);rw[zzr0 this,zzr0 e]
  rw[hd];rcases av h1 with⟨i,t,rfl,rfl⟩|⟨i,t,rfl,rfl⟩
  ·rcases av h2 with⟨j,u,rfl,rfl⟩|⟨j,u,rfl,rfl⟩
   ·rw[wo];exact aV.int_int i t j u
   ·rw[wn];exact aV.int_str i t j u
  ·rcases av h2 with⟨j,u,rfl,rfl⟩|⟨j,u,rfl,rfl⟩
   ·rw[wl];exact aV.str_int i t j u
   ·rw[wk];have:=aV.str_str (A:=A) (s:=s) i t j u;rwa[show(i==j)=decide (i=j)from by by_cases e:i=j<;>simp[e]]at this
 have kt:∀{A:Around}{a:eG}{u:Value}{b:Addr}{items:Array Value},A.units<cLine->cM a u=true->s.heap.IsTuple b items->aV A s u (.ref b) false/\aV A s (.ref b) u false:=by
  intro A a u b items hu h1 ht;rcases av h1 with⟨i,t,rfl,rfl⟩|⟨i,t,rfl,rfl⟩
  ·exact⟨aV.int_tuple i t ht hu,aV.tuple_int i t ht hu⟩
  ·exact⟨aV.str_tuple i t ht hu,aV.tuple_str i t ht hu⟩
 have kl:∀{A:Around}{a:eG}{u:Value}{b:Addr}{items:Array Value},A.units<cLine->cM a u=true->s.heap.IsList b items->aV A s u (.ref b) false/\aV A s (.ref b) u false:=by
  intro A a u b items hu h1 ht;rcases av h1 with⟨i,t,rfl,rfl⟩|⟨i,t,rfl,rfl⟩
  ·exact⟨aV.int_list i t ht hu,aV.list_int i t ht hu⟩
  ·exact⟨aV.str_list i t ht hu,aV.list_str i t ht hu⟩
 intro d
 induction d with
 |zero =>
  intro A x y u v hdx hdy hu hx hy;cases x with
  |t l=>exact absurd hdx (by show ¬(DT.depths l+1<=0);omega)
  |s l=>exact absurd hdx (by show ¬(DT.depths l+1<=0);omega)
  |k a =>
   cases y with
   |t l=>exact absurd hdy (by show ¬(DT.depths l+1<=0);omega)
   |s l=>exact absurd hdy (by show ¬(DT.depths l+1<=0);omega)
   |k b=>exact leaves hx hy
 |succ d ih =>
  intro A x y u v hdx hdy hu hx hy;have items:∀{l m:List DT}{i j:Array Value},DT.depths l<=d->DT.depths m<=d->DAts s.heap l i.toList->DAts s.heap m j.toList->∀n (h1:n<i.size) (h2:n<j.size),aV A.in1 s i[n] j[n] (decide (l[n]?=m[n]?)):=by
   intro l m i j hl hm hi hj n h1 h2;obtain⟨x,ex,hx⟩:=hi.get (i:=n) (v:=i[n]) (by simp[h1]);obtain⟨y,ey,hy⟩:=hj.get (i:=n) (v:=j[n]) (by simp[h2]);rw[ex,ey];have hd:decide ((some x:Option DT)=some y)=decide (x=y):=by
    by_cases e:x=y
    ·subst e;simp
    ·rw[zzr0 e,zzr0 fun z=>e (eD z)]
   rw[hd];exact ih (DT.depths_get hl ex) (DT.depths_get hm ey) (by show A.units+1+d<cLine;omega) hx hy
  cases x with
  |k a =>
   cases y with
   |k b=>exact leaves hx hy
   |t l =>
    obtain⟨b,i,rfl,hi,_⟩:=hy;rw[zzr0 (by intro z;cases z)];exact(kt (by omega) hx hi).1
   |s l =>
    obtain⟨b,i,rfl,hi,_⟩:=hy;rw[zzr0 (by intro z;cases z)];exact(kl (by omega) hx hi).1
  |t l =>
   have hl:DT.depths l<=d:=by have:DT.depths l+1<=d+1:=hdx;omega
   have hx0:=hx;obtain⟨a,i,rfl,hi,hx⟩:=hx;cases y with
   |k b =>
    rw[zzr0 (by intro z;cases z)];exact(kt (by omega) hy hi).2
   |s m =>
    obtain⟨b,j,rfl,hj,_⟩:=hy;rw[zzr0 (by intro z;cases z)];exact aV.tuple_list hi hj (by omega)
   |t m =>
    have hm:DT.depths m<=d:=by have:DT.depths m+1<=d+1:=hdy;omega
    have hy0:=hy;obtain⟨b,j,rfl,hj,hy⟩:=hy;by_cases hab:a=b
    ·subst hab;have e:DT.t l=DT.t m:=qz.inj _ (ay _) hx0 hy0;rw[zzr1 e];exact aV.same _
    ·have r:=SeqAt.RcAt.tuples (A:=A) hi hj (by omega) (items hl hm hx hy);have li:=hx.length;have lj:=hy.length;simp only[jX]at li lj;have q:((jZ (min i.size j.size)).all (fun n=>decide (l[n]?=m[n]?)) && i.size==j.size)=decide (DT.t l=DT.t m):=by
      by_cases e:l.length=m.length
      ·have e1:i.size=j.size:=by omega
       rw[<-e1,Nat.min_self,<-li,fH e];by_cases e2:l=m
       ·subst e2;simp
       ·have:¬(DT.t l=DT.t m):=fun z=>e2 (by injection z);rw[zzr0 this,zzr0 e2];rfl
      ·have e1:(i.size==j.size)=false:=by simp;omega
       have:¬(DT.t l=DT.t m):=fun z=>e (by injection z with z;rw[z]);rw[e1,zzr0 this,Bool.and_false]
     rw[q]at r;exact .of_refs hab r
  |s l =>
   have hl:DT.depths l<=d:=by have:DT.depths l+1<=d+1:=hdx;omega
   have hx0:=hx;obtain⟨a,i,rfl,hi,hx⟩:=hx;cases y with
   |k b =>
    rw[zzr0 (by intro z;cases z)];exact(kl (by omega) hy hi).2
   |t m =>
    obtain⟨b,j,rfl,hj,_⟩:=hy;rw[zzr0 (by intro z;cases z)];exact aV.list_tuple hi hj (by omega)
   |s m =>
    have hm:DT.depths m<=d:=by have:DT.depths m+1<=d+1:=hdy;omega
    have hy0:=hy;obtain⟨b,j,rfl,hj,hy⟩:=hy;by_cases hab:a=b
    ·subst hab;have e:DT.s l=DT.s m:=qz.inj _ (ay _) hx0 hy0;rw[zzr1 e];exact aV.same _
    ·have li:=hx.length;have lj:=hy.length;simp only[jX]at li lj;by_cases e:l.length=m.length
     ·have r:=SeqAt.RcAt.lists (A:=A) hi hj (by omega) (by omega) (items hl hm hx hy);rw[<-li,fH e]at r;have q:decide (l=m)=decide (DT.s l=DT.s m):=by
       by_cases e2:l=m
       ·subst e2;simp
       ·have:¬(DT.s l=DT.s m):=fun z=>e2 (by injection z);rw[zzr0 this,zzr0 e2]
      rw[q]at r;exact .of_refs hab r
     ·have:¬(DT.s l=DT.s m):=fun z=>e (by injection z with z;rw[z]);rw[zzr0 this];exact .of_refs hab (SeqAt.RcAt.lists_lengths hi hj (by simp;omega) (by omega))
end
theorem AH(a b:eG):decide (DT.k a=DT.k b)=decide (a=b):=by
 by_cases e:a=b
 ·subst e;simp
 ·rw[zzr0 e,zzr0 fun z=>e (by injection z)]
theorem FD(l m:List DT):decide (DT.t l=DT.t m)=decide (l=m):=by
 by_cases e:l=m
 ·subst e;simp
 ·rw[zzr0 e,zzr0 fun z=>e (by injection z)]
theorem FE(l m:List DT):decide (DT.s l=DT.s m)=decide (l=m):=by
 by_cases e:l=m
 ·subst e;simp
 ·rw[zzr0 e,zzr0 fun z=>e (by injection z)]
theorem DD(x y:DT):decide ((some x:Option DT)=some y)=decide (x=y):=by
 by_cases e:x=y
 ·subst e;simp
 ·rw[zzr0 e,zzr0 fun z=>e (eD z)]
section
variable{A:Around}{s:Shared}
theorem nL{d:Nat}(hu:A.units+1+d<cLine){l m:List DT}{i j:Array Value}(hl:DT.depths l<=d)(hm:DT.depths m<=d)(hi:DAts s.heap l i.toList)(hj:DAts s.heap m j.toList):
  ∀n (h1:n<i.size) (h2:n<j.size),aV A.in1 s i[n] j[n] (decide (l[n]?=m[n]?)):=by
 intro n h1 h2;obtain⟨x,ex,hx⟩:=hi.get (i:=n) (v:=i[n]) (by simp[h1]);obtain⟨y,ey,hy⟩:=hj.get (i:=n) (v:=j[n]) (by simp[h2]);rw[ex,ey,DD];exact FC d (DT.depths_get hl ex) (DT.depths_get hm ey) hu hx hy
theorem Ad{l m:List DT}{i j:Array Value}(hi:DAts s.heap l i.toList)(hj:DAts s.heap m j.toList):((jZ (min i.size j.size)).all (fun n=>decide (l[n]?=m[n]?)) && i.size==j.size)=decide (l=m):=by
 have li:=hi.length;have lj:=hj.length;simp only[jX]at li lj;by_cases e:l.length=m.length
 ·have e1:i.size=j.size:=by omega
  rw[<-e1,Nat.min_self,<-li,fH e];simp
 ·have e1:(i.size==j.size)=false:=by simp;omega
  rw[e1,zzr0 fun z=>e (by rw[z]),Bool.and_false]
theorem GZ{x y:DT}{u v:Value}(dx:x.depth<=14)(dy:y.depth<=14)(hu:A.units+16<cLine)(hx:qz s.heap x u)(hy:qz s.heap y v):SeqAt.RcAt A s u v (decide (x=y)):=by
 cases x with
 |k a =>
  rcases av (show cM a u=true from hx)with⟨i,t,rfl,rfl⟩|⟨i,t,rfl,rfl⟩
  ·cases y with
   |k b =>
    rw[AH];rcases av (show cM b v=true from hy)with⟨j,t',rfl,rfl⟩|⟨j,t',rfl,rfl⟩
    ·rw[wo];exact SeqAt.RcAt.int_int i t j t'
    ·rw[wn];exact SeqAt.RcAt.int_str i t j t'
   |t m=>obtain⟨b,j,rfl,hj,_⟩:=hy;rw[zzr0 (by intro z;cases z)];exact SeqAt.RcAt.int_tuple i t hj (by omega)
   |s m=>obtain⟨b,j,rfl,hj,_⟩:=hy;rw[zzr0 (by intro z;cases z)];exact SeqAt.RcAt.int_list i t hj (by omega)
  ·cases y with
   |k b =>
    rw[AH];rcases av (show cM b v=true from hy)with⟨j,t',rfl,rfl⟩|⟨j,t',rfl,rfl⟩
    ·rw[wl];exact SeqAt.RcAt.str_int i t j t'
    ·rw[wk];have:=SeqAt.RcAt.str_str (A:=A) (s:=s) i t j t';rwa[show(i==j)=decide (i=j)from by by_cases e:i=j<;>simp[e]]at this
   |t m=>obtain⟨b,j,rfl,hj,_⟩:=hy;rw[zzr0 (by intro z;cases z)];exact SeqAt.RcAt.str_tuple i t hj (by omega)
   |s m=>obtain⟨b,j,rfl,hj,_⟩:=hy;rw[zzr0 (by intro z;cases z)];exact SeqAt.RcAt.str_list i t hj (by omega)
 |t l =>
  obtain⟨a,i,rfl,hi,hx⟩:=hx;have dl:DT.depths l<=13:=by have:DT.depths l+1<=14:=dx;omega
  cases y with
  |k b =>
   rw[zzr0 (by intro z;cases z)];rcases av (show cM b v=true from hy)with⟨j,t',rfl,rfl⟩|⟨j,t',rfl,rfl⟩
   ·exact SeqAt.RcAt.tuple_int j t' hi (by omega)
   ·exact SeqAt.RcAt.tuple_str j t' hi (by omega)
  |t m =>
   obtain⟨b,j,rfl,hj,hy⟩:=hy;have dm:DT.depths m<=13:=by have:DT.depths m+1<=14:=dy;omega
   have r:=SeqAt.RcAt.tuples (A:=A) hi hj (by omega) (nL (by omega) dl dm hx hy);rw[Ad hx hy]at r;rw[FD];exact r
  |s m=>obtain⟨b,j,rfl,hj,_⟩:=hy;rw[zzr0 (by intro z;cases z)];exact SeqAt.RcAt.tuple_list hi hj (by omega)
 |s l =>
  obtain⟨a,i,rfl,hi,hx⟩:=hx;have dl:DT.depths l<=13:=by have:DT.depths l+1<=14:=dx;omega
  cases y with
  |k b =>
   rw[zzr0 (by intro z;cases z)];rcases av (show cM b v=true from hy)with⟨j,t',rfl,rfl⟩|⟨j,t',rfl,rfl⟩
   ·exact SeqAt.RcAt.list_int j t' hi (by omega)
   ·exact SeqAt.RcAt.list_str j t' hi (by omega)
  |t m=>obtain⟨b,j,rfl,hj,_⟩:=hy;rw[zzr0 (by intro z;cases z)];exact SeqAt.RcAt.list_tuple hi hj (by omega)
  |s m =>
   obtain⟨b,j,rfl,hj,hy⟩:=hy;have dm:DT.depths m<=13:=by have:DT.depths m+1<=14:=dy;omega
   have li:=hx.length;have lj:=hy.length;simp only[jX]at li lj;rw[FE];by_cases e:l.length=m.length
   ·have r:=SeqAt.RcAt.lists (A:=A) hi hj (by omega) (by omega) (nL (by omega) dl dm hx hy);rw[<-li,fH e]at r;exact r
   ·rw[zzr0 fun z=>e (by rw[z])];exact SeqAt.RcAt.lists_lengths hi hj (by simp;omega) (by omega)
theorem FB{x y:DT}{u v:Value}(dx:x.depth<=14)(dy:y.depth<=14)(hu:A.units+16<cLine)(hx:qz s.heap x u)(hy:qz s.heap y v):SeqAt.RcNeAt A s u v (!decide (x=y)):=by
 cases x with
 |k a =>
  rcases av (show cM a u=true from hx)with⟨i,t,rfl,rfl⟩|⟨i,t,rfl,rfl⟩
  ·cases y with
   |k b =>
    rw[AH];rcases av (show cM b v=true from hy)with⟨j,t',rfl,rfl⟩|⟨j,t',rfl,rfl⟩
    ·rw[wo];exact SeqAt.RcNeAt.int_int i t j t'
    ·rw[wn];exact SeqAt.RcNeAt.int_str i t j t'
   |t m=>obtain⟨b,j,rfl,hj,_⟩:=hy;rw[zzr0 (by intro z;cases z)];exact SeqAt.RcNeAt.int_tuple i t hj (by omega)
   |s m=>obtain⟨b,j,rfl,hj,_⟩:=hy;rw[zzr0 (by intro z;cases z)];exact SeqAt.RcNeAt.int_list i t hj (by omega)
  ·cases y with
   |k b =>
    rw[AH];rcases av (show cM b v=true from hy)with⟨j,t',rfl,rfl⟩|⟨j,t',rfl,rfl⟩
    ·rw[wl];exact SeqAt.RcNeAt.str_int i t j t'
    ·rw[wk];have:=SeqAt.RcNeAt.str_str (A:=A) (s:=s) i t j t';rwa[show(i==j)=decide (i=j)from by by_cases e:i=j<;>simp[e]]at this
   |t m=>obtain⟨b,j,rfl,hj,_⟩:=hy;rw[zzr0 (by intro z;cases z)];exact SeqAt.RcNeAt.str_tuple i t hj (by omega)
   |s m=>obtain⟨b,j,rfl,hj,_⟩:=hy;rw[zzr0 (by intro z;cases z)];exact SeqAt.RcNeAt.str_list i t hj (by omega)
 |t l =>
  obtain⟨a,i,rfl,hi,hx⟩:=hx;have dl:DT.depths l<=13:=by have:DT.depths l+1<=14:=dx;omega
  cases y with
  |k b =>
   rw[zzr0 (by intro z;cases z)];rcases av (show cM b v=true from hy)with⟨j,t',rfl,rfl⟩|⟨j,t',rfl,rfl⟩
   ·exact SeqAt.RcNeAt.tuple_int j t' hi (by omega)
   ·exact SeqAt.RcNeAt.tuple_str j t' hi (by omega)
  |t m =>
   obtain⟨b,j,rfl,hj,hy⟩:=hy;have dm:DT.depths m<=13:=by have:DT.depths m+1<=14:=dy;omega
   have r:=SeqAt.RcNeAt.tuples (A:=A) hi hj (by omega) (nL (by omega) dl dm hx hy);rw[Ad hx hy]at r;rw[FD];exact r
  |s m=>obtain⟨b,j,rfl,hj,_⟩:=hy;rw[zzr0 (by intro z;cases z)];exact SeqAt.RcNeAt.tuple_list hi hj (by omega)
 |s l =>
  obtain⟨a,i,rfl,hi,hx⟩:=hx;have dl:DT.depths l<=13:=by have:DT.depths l+1<=14:=dx;omega
  cases y with
  |k b =>
   rw[zzr0 (by intro z;cases z)];rcases av (show cM b v=true from hy)with⟨j,t',rfl,rfl⟩|⟨j,t',rfl,rfl⟩
   ·exact SeqAt.RcNeAt.list_int j t' hi (by omega)
   ·exact SeqAt.RcNeAt.list_str j t' hi (by omega)
  |t m=>obtain⟨b,j,rfl,hj,_⟩:=hy;rw[zzr0 (by intro z;cases z)];exact SeqAt.RcNeAt.list_tuple hi hj (by omega)
  |s m =>
   obtain⟨b,j,rfl,hj,hy⟩:=hy;have dm:DT.depths m<=13:=by have:DT.depths m+1<=14:=dy;omega
   have li:=hx.length;have lj:=hy.length;simp only[jX]at li lj;rw[FE];by_cases e:l.length=m.length
   ·have r:=SeqAt.RcNeAt.lists (A:=A) hi hj (by omega) (by omega) (nL (by omega) dl dm hx hy);rw[<-li,fH e]at r;exact r
   ·rw[zzr0 fun z=>e (by rw[z])];exact SeqAt.RcNeAt.lists_lengths hi hj (by simp;omega) (by omega)
end
mutual
def nU(K:Za)(H:Hp):DT->V->Prop
 |.k a,v=>v=kV a
 |.t l,v=>∃b xs,v=.ref b/\bC K H b xs/\DIns K H l xs
 |.s l,v=>∃b xs,v=.ref b/\ax K H b xs/\DIns K H l xs
def DIns(K:Za)(H:Hp):List DT->List V->Prop
 |[],vs=>vs=[]
 |k::r,vs=>∃v us,vs=v::us/\nU K H k v/\DIns K H r us
end
section
variable{X:Cx}{J3:Zd}{σ:St}{H:Hp}{s:Shared}
theorem jD(I:Inv X J3 σ H s):∀(d:Nat) {k:DT}{v:V}{u:Value},k.depth<=d->nU X.K H k v->RelV v u->qz s.heap k u:=by
 have key:∀(d:Nat) (ih:∀{k:DT}{v:V}{u:Value},k.depth<=d->nU X.K H k v->RelV v u->qz s.heap k u) (ks:List DT) (vs:List V) (us:Zf),DT.depths ks<=d->DIns X.K H ks vs->aQ vs us->DAts s.heap ks us:=by
  intro d ih ks
  induction ks with
  |nil =>
   intro vs us _ hx r;have e:vs=[]:=hx;subst e;cases r
   rfl
  |cons k ks ihl =>
   intro vs us hd hx r;obtain⟨v,vs',rfl,h1,h2⟩:=hx;cases r with
   |@cons _ u _ us' r1 r2 =>
    have hd':max k.depth (DT.depths ks)<=d:=hd;exact⟨u,us',rfl,ih (by omega) h1 r1,ihl vs' us' (by omega) h2 r2⟩
 intro d
 induction d with
 |zero =>
  intro k v u hd hx r;cases k with
  |t l=>exact absurd hd (by show ¬(DT.depths l+1<=0);omega)
  |s l=>exact absurd hd (by show ¬(DT.depths l+1<=0);omega)
  |k b =>
   have e:v=kV b:=hx;subst e;exact nJ (P:=X.prog) (w:=X.w) r
 |succ d ih =>
  intro k v u hd hx r;cases k with
  |k b =>
   have e:v=kV b:=hx;subst e;exact nJ (P:=X.prog) (w:=X.w) r
  |t l =>
   obtain⟨b,xs,rfl,hb,hi⟩:=hx;cases(show u=Value.ref b from r);obtain⟨its,rv,ht,_⟩:=I.tuple hb;exact⟨b,its.toArray,rfl,ht,by simpa using key d (fun h1=>ih h1) l xs its (by have:DT.depths l+1<=d+1:=hd;omega) hi rv⟩
  |s l =>
   obtain⟨b,xs,rfl,hb,hi⟩:=hx;cases(show u=Value.ref b from r);obtain⟨its,rv,ht,_⟩:=I.list hb;exact⟨b,its.toArray,rfl,ht.isList,by simpa using key d (fun h1=>ih h1) l xs its (by have:DT.depths l+1<=d+1:=hd;omega) hi rv⟩
theorem nN(I:Inv X J3 σ H s):∀{ks:List DT}{vs:List V}{us:Zf},DT.depths ks<=8->DIns X.K H ks vs->aQ vs us->DAts s.heap ks us
 |[],vs,us,_,hx,r=>by
  have e:vs=[]:=hx;subst e;cases r
  rfl
 |k::ks,vs,us,hd,hx,r=>by
  obtain⟨v,vs',rfl,h1,h2⟩:=hx;cases r with
  |@cons _ u _ us' r1 r2 =>
   have hd':max k.depth (DT.depths ks)<=8:=hd;exact⟨u,us',rfl,jD I 8 (by omega) h1 r1,nN I (by omega) h2 r2⟩
end
def xG(K:Za):R2:=fun x y H Q=>∃d e:DT,nU K H d x/\nU K H e y/\d.depth<=8/\e.depth<=8/\Q (.bl (decide (d=e))) H
def FR(K:Za):R2:=fun x y H Q=>∃d e:DT,nU K H d x/\nU K H e y/\d.depth<=8/\e.depth<=8/\Q (.bl (!decide (d=e))) H
section
variable{X:Cx}
theorem mh(hu:X.A.units+16<cLine):lu X (eh .Eq) (xG X.K):=by
 intro J3 s σ H x y v u Q I rx ry h;obtain⟨d,e,hx,hy,dx,dy,q⟩:=h;exact GZ (aE dx (by decide)) (aE dy (by decide)) hu (jD I 8 dx hx rx) (jD I 8 dy hy ry) X.prog X.w X.xe _ ⟨.bl _,H,I,rfl,q⟩
theorem C5(hu:X.A.units+16<cLine):lu X (eh .NotEq) (FR X.K):=by
 intro J3 s σ H x y v u Q I rx ry h;obtain⟨d,e,hx,hy,dx,dy,q⟩:=h;exact FB (aE dx (by decide)) (aE dy (by decide)) hu (jD I 8 dx hx rx) (jD I 8 dy hy ry) X.prog X.w X.xe _ ⟨.bl _,H,I,rfl,q⟩
def GJ(K:Za):R2:=fun x y H Q=>∃d e:DT,nU K H d x/\nU K H e y/\d.depth<=14/\e.depth<=14/\Q (.bl (!decide (d=e))) H
theorem F_(hu:X.A.units+16<cLine):lu X (eh .NotEq) (GJ X.K):=by
 intro J3 s σ H x y v u Q I rx ry h;obtain⟨d,e,hx,hy,dx,dy,q⟩:=h;exact FB dx dy hu (jD I 14 dx hx rx) (jD I 14 dy hy ry) X.prog X.w X.xe _ ⟨.bl _,H,I,rfl,q⟩
def tI(K:Za)(neg:Bool):R2:=fun x y H Q=>∃(d:DT) (ds:List DT) (p:Addr) (xs:List V),nU K H d x/\y=.ref p/\(ax K H p xs∨bC K H p xs)/\DIns K H ds xs/\d.depth<=8/\DT.depths ds<=8/\Q (.bl (if neg then !decide (d∈ds)else decide (d∈ds))) H
open Classical in
theorem nP{h:Heap}{d:DT}(d8:d.depth<=8):∀{ds:List DT}{us:Zf},DAts h ds us->DT.depths ds<=8->us.any (fun u=>@decide (qz h d u) (propDecidable _))=decide (d∈ds)
 |[],us,e,_=>by
  have e':us=[]:=e;subst e'
  rfl
 |x::ds,us,e,hd=>by
  obtain⟨u,us',rfl,h1,h2⟩:=e;have hd':max x.depth (DT.depths ds)<=8:=hd;rw[vh,nP d8 h2 (by omega)];by_cases q:d=x
  ·subst q;simp[h1]
  ·have n:¬qz h d u:=fun z=>q (qz.inj 8 d8 z h1);simp[n,q]
open Classical in
theorem r8{A:Around}{s:Shared}{d:DT}{v:Value}(d8:d.depth<=8)(hu:A.units+8<cLine)(hd:qz s.heap d v):∀{ds:List DT}{us:Zf},DAts s.heap ds us->DT.depths ds<=8->∀u∈us,aV A s u v (@decide (qz s.heap d u) (propDecidable _))
 |[],us,e,_,u,hm=>by
  have e':us=[]:=e;subst e';cases hm
 |x::ds,us,e,h8,u,hm=>by
  obtain⟨u',us',rfl,h1,h2⟩:=e;have h8':max x.depth (DT.depths ds)<=8:=h8;rcases cc.mp hm with rfl|hm
  ·have q:=FC 8 (A:=A) (by omega) d8 hu h1 hd;by_cases z:x=d
   ·subst z;rw[zzr1 h1];rwa[zzr1 rfl]at q
   ·have n:¬qz s.heap d u:=fun w=>z (qz.inj 8 d8 w h1).symm;rw[zzr0 n];rwa[zzr0 z]at q
  ·exact r8 d8 hu hd h2 (by omega) u hm
theorem zm(hu:X.A.units+16<cLine):lu X (eh .In) (tI X.K false):=by
 intro J3 s σ H x y v u Q I rx ry h;obtain⟨d,ds,p,xs,hx,rfl,hq,hds,d8,ds8,q⟩:=h;cases ry;have hd:=jD I 8 d8 hx rx;have hu':X.A.in1.units+8<cLine:=by show X.A.units+1+8<cLine;omega
 rcases hq with hq|hq
 ·obtain⟨its,r,pl,hz⟩:=I.list hq;have hi:=nN I ds8 hds r;refine SeqAt.in_listAt _ pl.isList (fun w hw=>r8 d8 hu' hd hi ds8 w (by simpa using hw)) ⟨.bl _,H,I,rfl,?_⟩;rw[u3,nP d8 hi ds8];exact q
 ·obtain⟨its,r,pl,hz⟩:=I.tuple hq;have hi:=nN I ds8 hds r;refine SeqAt.in_tupleAt _ pl (fun w hw=>r8 d8 hu' hd hi ds8 w (by simpa using hw)) ⟨.bl _,H,I,rfl,?_⟩;rw[u3,nP d8 hi ds8];exact q
theorem kT(hu:X.A.units+16<cLine):lu X (eh .NotIn) (tI X.K true):=by
 intro J3 s σ H x y v u Q I rx ry h;obtain⟨d,ds,p,xs,hx,rfl,hq,hds,d8,ds8,q⟩:=h;cases ry;have hd:=jD I 8 d8 hx rx;have hu':X.A.in1.units+8<cLine:=by show X.A.units+1+8<cLine;omega
 rcases hq with hq|hq
 ·obtain⟨its,r,pl,hz⟩:=I.list hq;have hi:=nN I ds8 hds r;refine SeqAt.notIn_listAt _ pl.isList (fun w hw=>r8 d8 hu' hd hi ds8 w (by simpa using hw)) ⟨.bl _,H,I,rfl,?_⟩;rw[u3,nP d8 hi ds8];exact q
 ·obtain⟨its,r,pl,hz⟩:=I.tuple hq;have hi:=nN I ds8 hds r;refine SeqAt.notIn_tupleAt _ pl (fun w hw=>r8 d8 hu' hd hi ds8 w (by simpa using hw)) ⟨.bl _,H,I,rfl,?_⟩;rw[u3,nP d8 hi ds8];exact q
end
def so(z:Str)(lo hi:Option Int):Str:=⟨((z.cps.toList.drop (HT.sIx z.length 0 lo)).take (HT.sIx z.length z.length hi-HT.sIx z.length 0 lo)).toArray⟩
theorem sliceRange_one(a b:Nat):qQ (a:Int) (b:Int) 1=(jZ (b-a)).map (fun k=>a+k):=by
 unfold qQ;simp only[show(1:Int) > 0 from by decide,if_true];by_cases h:(a:Int)<(b:Int)
 ·have e:(if(a:Int)<(b:Int)then((b:Int)-a+1-1) / 1 else 0).toNat=b-a:=by rw[if_pos h];omega
  rw[e];exact List.map_congr_left fun k _=>by omega
 ·have e:(if(a:Int)<(b:Int)then((b:Int)-a+1-1) / 1 else 0).toNat=b-a:=by rw[if_neg h];omega
  rw[e];exact List.map_congr_left fun k _=>by omega
theorem yg(v:Option Int)(n d:Nat):(match v with|none=>(d:Int)|some i=>max 0 (min (if i<0 then i+(n:Int)else i) (n:Int)))=((HT.sIx n d v:Nat):Int):=by
 cases v with
 |none=>rfl
 |some i =>
  rw[<-HT.clip_eq i n d];dsimp only;by_cases h:i<0
  ·rw[if_pos h,if_pos h];omega
  ·rw[if_neg h,if_neg h];omega
theorem m9(lo hi:Option Int)(n:Nat):qP lo hi 1 n=(jZ (HT.sIx n n hi-HT.sIx n 0 lo)).map (fun k=>HT.sIx n 0 lo+k):=by
 have e1:=yg lo n 0;have e2:=yg hi n n;rw[<-sliceRange_one,<-e1,<-e2];unfold qP;simp only[show(1:Int) > 0 from by decide,if_true];cases lo<;>cases hi<;>rfl
theorem Bi(z:Str)(lo hi:Option Int):Txt.slice z lo hi=so z lo hi:=by
 have ha:HT.sIx z.length 0 lo<=z.length:=HT.sIx_le _ _ (eS _) _;have hb:HT.sIx z.length z.length hi<=z.length:=HT.sIx_le _ _ (ay _) _;have hlen:z.cps.toList.length=z.length:=by simp[Str.length]
 have pick:(qP lo hi 1 z.length).filterMap (z.cps[·]?)=(z.cps.toList.drop (HT.sIx z.length 0 lo)).take (HT.sIx z.length z.length hi-HT.sIx z.length 0 lo):=by
  rw[m9];generalize HT.sIx z.length 0 lo=a at *;generalize HT.sIx z.length z.length hi=b at *;have h:=StrLaws.picks z.cps.toList (b-a) a (by omega);simpa using h
 unfold Txt.slice;by_cases h:((1:Int)==1 && (qP lo hi 1 z.length).length==z.length)=true
 ·rw[if_pos h];have hl:(qP lo hi 1 z.length).length=z.length:=by simpa using h
  rw[m9,aj,List.length_range]at hl;unfold so;have a0:HT.sIx z.length 0 lo=0:=by omega
  have bn:HT.sIx z.length z.length hi-HT.sIx z.length 0 lo=z.cps.toList.length:=by omega
  rw[bn,a0,qO,aZ]
 ·rw[if_neg h];unfold so;rw[pick]
section
variable{X:Cx}
def EG:V->Option Int->Option Int->Hp->VK->Prop:=fun x lo hi H Q=>∃z,x=.str z/\z.length<=ai/\Q (.str (so z lo hi)) H
theorem yX:SlR X EG:=by
 intro J3 s σ H x v vl vu lo hi sl Q I rx hs pl pu h;obtain⟨z,rfl,hz,q⟩:=h;obtain⟨t,rfl⟩:=rx;rw[<-Bi]at q;refine⟨"str",_,F.slot_str_getitem.lookup,typeIs_str _ _ _,?_⟩;obtain⟨o,ho,hc,hd⟩:=hs;have fin:∀(l u:Option (Int×Tok)),vl=partValue l->vu=partValue u->lo=l.map (·.1)->hi=u.map (·.1)->wpAny (model X.prog X.w) X.A (lS (.str z t) (.ref sl)) (EP X J3 σ Q) X.xe s:=by
  rintro l u rfl rfl rfl rfl;refine wpAny_getItem_str_slice (l:=l) (u:=u) (st:=none) ⟨o,ho,hc,hd⟩ rfl (post_val_or_str ⟨aE (Txt.slice_le z _ _) hz,fun t' k=>⟨.str _,H,I.tok _,⟨_,rfl⟩,q⟩⟩)
 cases pl with
 |none =>
  cases pu with
  |none=>exact fin none none rfl rfl rfl rfl
  |int j u=>exact fin none (some (j,u)) rfl rfl rfl rfl
 |int i t' =>
  cases pu with
  |none=>exact fin (some (i,t')) none rfl rfl rfl rfl
  |int j u=>exact fin (some (i,t')) (some (j,u)) rfl rfl rfl rfl
def Fv(K:Za):V->List V->Hp->VK->Prop:=fun x vs H Q=>∃z p ys,x=.str z/\vs=[.ref p]/\ax K H p (ys.map V.str)/\(ys.map (·.length)).sum+ys.length * z.length<=16777216/\Q (.str (uZ z ys)) H
theorem En{ys:Zb}:∀{us:Zf},aQ (ys.map V.str) us->StrsAre us ys:=by
 induction ys with
 |nil=>intro us r;cases r;exact .nil
 |cons y ys ih =>
  intro us r;cases r with
  |cons r1 r2 =>
   obtain⟨t,rfl⟩:=r1;exact .cons _ _ (ih r2)
theorem EU:Gy X "str.join" (Fv X.K):=by
 intro J3 s σ H x vs v us Q I rx rv h;obtain⟨z,p,ys,rfl,rfl,hq,hz,q⟩:=h;obtain⟨t,rfl⟩:=rx;obtain⟨u,rfl,ru⟩:=rv.one;cases ru;obtain⟨its,r,pl,_⟩:=I.list hq;exact join_list pl.isList (by simpa using En r) hz fun t' k=>⟨.str _,H,I.tok _,⟨_,rfl⟩,q⟩
end
section
variable{X:Cx}
theorem Gk{bs:List Bool}{us:Zf}(r:aQ (bs.map V.bl) us){i:Nat}{v:Value}(h:us[i]?=some v):v=.bool ((bs[i]?).getD false)/\i<bs.length:=by
 have hi:i<us.length:=(bQ.mp h).1;have hl:=r.length;rw[aj]at hl;have hb:i<bs.length:=by omega
 obtain⟨u,hu,ru⟩:=r.get (i:=i) (x:=V.bl bs[i]) (by simp[hb]);rw[h]at hu;cases hu;refine⟨?_,hb⟩;rw[eB hb];exact ru
theorem wJ(bs:List Bool):((jZ bs.length).all fun i=>(bs[i]?).getD false)=bs.all id:=by
 induction bs with
 |nil=>rfl
 |cons b bs ih =>
  rw[fh,List.range_succ_eq_map,List.all_cons,List.all_map,List.all_cons,<-ih]
  rfl
theorem pC(hc:X.calm=true):fM X (.builtin "all") (fun xs H Q=>∃(p:Addr) (bs:List Bool),xs=[.ref p]/\ax X.K H p (bs.map V.bl)/\Q (.bl (bs.all id)) H):=by
 intro J3 s σ H xs us Q I r h;obtain⟨p,bs,rfl,hq,q⟩:=h;obtain⟨u,rfl,ru⟩:=vals1 r;cases ru;obtain⟨its,rv,pl,hz⟩:=I.list hq;obtain⟨o,n,ho,_⟩:=id pl;have hl:=rv.length;rw[aj]at hl;refine call_all_walk (z8 pl.isList ?_);refine⟨s.heap.objs.size,_,_,_,_,_,fun i=>(bs[i]?).getD false,rfl,Walks.list (prog:=X.prog) (w:=X.w) (A:=X.A.in1) (I.ok.hd hc) s.heap.objs.size p (bE (az ho)) its.toArray,⟨⟨_,cb _ rfl,rfl,rfl⟩,pl.isList.push _⟩,?_,?_⟩
 ·intro i v s' Q' E' hv hq';obtain⟨e,_⟩:=Gk rv (i:=i) (v:=v) (by simpa using hv);rw[e];exact tW hq'
 ·intro h' tk hk;have I':Inv X J3 σ H { s with heap:=h',toks:=tk }:=I.kept fun b o e=>hk b o (by simp;exact bE (az e)) (aO _ e);rw[bp,<-hl,wJ];exact⟨.bl _,H,I',rfl,q⟩
theorem zj:lu X (eh .In) (fun x y H Q=>∃c j,x=.str ⟨#[c]⟩/\y=.str j/\Q (.bl (decide (c∈j.cps.toList))) H):=by
 intro J3 s σ H x y v u Q I rx ry h;obtain⟨c,j,rfl,rfl,q⟩:=h;rw[<-StrLaws.found_one]at q;exact By J3 s σ H _ _ v u Q I rx ry ⟨_,_,rfl,rfl,q⟩
theorem sD(hc:X.calm=true):fM X (.type "list") (fun xs H Q=>∃(d:Addr) (kvs:List (eG×V)),xs=[.ref d]/\Rd H d (.dK kvs)/\∀l,H l=none->Q (.ref l) (upd H l (.lst (kvs.map fun kv=>kV kv.1)))):=by
 intro J3 s σ H xs us Q I r h;obtain⟨d,kvs,rfl,hd,q⟩:=h;obtain⟨u,rfl,ru⟩:=vals1 r;cases ru;obtain⟨z,hsys,vs,rel,dd⟩:=nM I.hok hd;obtain⟨ep,hat⟩:=dd.dictAt;have hl:=rel.length;refine PySem.W.kdl_call (PySem.W.kdl_dict (knd:=bV X.prog X.w) (kvs:=vs) (ep:=ep) hsys) (I.ok.hd hc) hat (by rw[<-hl];exact z) fun h' tk acc c hk hD hacc=>?_;have hv:aQ (kvs.map fun kv=>kV kv.1) acc.toList:=by
  obtain⟨hn,hP⟩:=hacc;have key:∀(a:Zf) (ks:List (eG×V)) (ws:List (eG×Value)),KV ks ws->a.length=ws.length->(∀(j:Nat) (v:Value),a[j]?=some v->∃k x,ws[j]?=some (k,x)/\(bV X.prog X.w).is k v=true)->aQ (ks.map fun kv=>kV kv.1) a:=by
   intro a ks ws rl
   induction rl generalizing a with
   |nil=>intro ha _;cases a with
    |nil=>exact .nil
    |cons _ _=>cases ha
   |@cons p w' ps ws' hp _ ih =>
    intro ha hj;cases a with
    |nil=>cases ha
    |cons v a =>
     obtain⟨k,x,e,hk⟩:=hj 0 v rfl;have e':w'=(k,x):=by simpa using e
     refine .cons ?_ (ih a (by simpa using ha) fun j v hv=>by simpa using hj (j+1) v (by simpa using hv));have ek:p.1=k:=by rw[hp.1,e']
     show RelV (kV p.1) v;rw[ek];rcases av (show cM k v=true from hk)with⟨i,t,rfl,rfl⟩|⟨i,t,rfl,rfl⟩
     ·exact⟨t,rfl⟩
     ·exact⟨t,rfl⟩
  exact key acc.toList kvs vs rel (by rw[jX];exact hn) fun j v hv=>hP j v (by rw[<-Array.getElem?_toList];exact hv)
 refine⟨.ref s.heap.objs.size,_,I.laid (o:=.lst (kvs.map fun kv=>kV kv.1)) hk (ay _) ⟨by rw[aj];exact z,acc.toList,c,hv,by rw[Array.toArray_toList];exact hD⟩,rfl,q _ I.fresh⟩
end
section
variable{prog:bj}{w:World}{K:Type}[DecidableEq K]{knd:HeapKind prog w K}{A:Around}{E:Zc}{s:Shared}
theorem rf{d a:Addr}{xs:List (K×Addr×Value)}{k:K}{v:Value}{Q:Zc}(hu:knd.room A)(hkey:knd.is s.heap k a)(hm:s.heap.DictOfH knd d xs)
  (there:∀p,atKey xs k=some p->Q p.2 { s with toks:=s.toks+knd.draws k })
  (new:atKey xs k=none->∀h',h'.DictOfH knd d (xs++[(k,a,v)])->gD d s.heap h'->Q v { s with heap:=h',toks:=s.toks+knd.draws k })
  (hsz:xs.length<=ai):wpAny (model prog w) A (dictSetDefault d (.ref a) v) Q E s:=by
 obtain⟨o,es,ep,ho,hc,hd,he,his,hn⟩:=hm;unfold dictSetDefault
 try with_reducible refine iX ?_
 refine ak (knd.pyHash hu hkey ?_);refine ak (wpAny_dictFind_heap (s:={ s with toks:=s.toks+knd.draws k }) hu hkey ho hd he his hn ?_ ?_)
 ·intro hno;have hnot:k∉xs.map (·.1):=not_mem_keys_of_get hno;refine ak (mM (ak (wpAny_updateDictKeys (hz:=by have e:=size_of_entries he;omega) (s:={ s with toks:=s.toks+knd.draws k }) ho hd (aF (new (atKey_none_of_get hno) _ ⟨_,_,ep+1,jp _ ho (Obj.isFreed_of_dict (Obj.data_mapDictKeys hd _)),
   hc.mapDictKeys _,Obj.data_mapDictKeys hd _,?_,?_,?_⟩ (lN ..))))))
  ·simp[he,entryOfKey]
  ·intro x hx;rcases bw.mp hx with hx|hx
   ·exact knd.keeps (his x hx) ho hd (lN ..)
   ·simp only[fN]at hx;subst hx;exact knd.keeps hkey ho hd (lN ..)
  ·rw[aw,cZ];refine⟨hn,by simp,?_⟩;intro x hx y hy;simp only[bm,vf,fN]at hy;subst hy;exact fun e=>hnot (e▸hx)
 ·intro j p hj;refine ak (uY (s:={ s with toks:=s.toks+knd.draws k }) ho hd ?_);rw[entry_at he j,hj];exact ak (mM (aF (there p (atKey_of_get hn hj))))
theorem nH(knd:HeapKind prog w K)(d a:Addr)(hd:(d==gE)=false)(dflt:Value):
  MeetsIn prog w (bc.«dict.setdefault» ⟨[.ref d,.ref a,dflt],[]⟩) (fun A R s=>knd.room A.in1/\∃k xs,knd.is s.heap k a/\s.heap.DictOfH knd d xs/\xs.length<=ai /\
   (∀p,atKey xs k=some p->R (.ok (.ret p.2)) { s with toks:=s.toks+knd.draws k }) /\
   (atKey xs k=none->∀h',h'.DictOfH knd d (xs++[(k,a,dflt)])->gD d s.heap h'->R (.ok (.ret dflt)) { s with heap:=h',toks:=s.toks+knd.draws k })) :=
 .of_wp fun A R s ⟨hu,k,xs,hkey,hm,hz,h1,h2⟩=>by
  unfold bc.«dict.setdefault»;refine ak ?_;unfold bc.Dict.keyAndDefault;refine ak (wpAny_notOrdered_dict hm.typeIs ?_);show wpAny _ _ (pure (d,Value.ref a,some dflt)) _ _ s;refine aF ?_;show wpAny _ _ (if(d==gE)=true then _ else(dictSetDefault d (.ref a) dflt >>= _)) _ _ s
  rw[if_neg (by rw[hd];exact gm)];exact ak (rf hu hkey hm (fun p hp=>aF ⟨p.2,rfl,h1 p hp⟩) (fun hn h' hm' hs'=>aF ⟨dflt,rfl,h2 hn h' hm' hs'⟩) hz)
end
section
variable{X:Cx}
def Ah:V->List V->Hp->VK->Prop:=fun x vs H Q=>∃(d b:Addr) (kvs:List (TK×V)) (k:TK) (z:V),x=.ref d/\vs=[.ref b,z]/\H d=some (.dT kvs)/\dk H k (.ref b)/\k.depth<=8/\kvs.length<ai /\
 (∀v,aY kvs k=some v->Q v H)/\(aY kvs k=none->Q z (upd H d (.dT (kvs++[(k,z)]))))
theorem BA(hu:X.A.units+16<cLine):Gy X "dict.setdefault" Ah:=by
 intro J3 s σ H x vs v us Q I rx rv h;obtain⟨d,b,kvs,k,z,rfl,rfl,hd,hb,h8,hz,q1,q2⟩:=h;cases rx;obtain⟨u,v,rfl,ru,rz⟩:=rv.two;cases ru;obtain⟨_,hsys,xs,rel,dd⟩:=Dx I.hok I.kIn hd;have hl:kvs.length=xs.length:=Paired.length rel;refine qW PySem.F.slot_dict_setdefault dd.typeIs PySem.F.entry_dict_setdefault (PySem.F.args_dict_setdefault_3 _ _ _) (nH (dP X.prog X.w) d b hsys v)
  ⟨eV hu,k,xs,wm I.hok I.kIn (dk.c 8 h8 hb) h8,dd,by omega,fun p hp=>?_,fun hn h' dd' hs=>?_⟩
 ·have e:=rel.val k;rw[hp]at e;cases e2:aY kvs k with
  |none=>rw[e2]at e;exact e.elim
  |some y =>
   rw[e2]at e;exact⟨y,H,I.tok _,e,q1 y e2⟩
 ·have e:=rel.val k;rw[hn]at e;have e2:aY kvs k=none:=by
   cases e2:aY kvs k with
   |none=>rfl
   |some y=>rw[e2]at e;exact e.elim
  obtain⟨o,es,ep,hq,h2,h3,h4,_,h5⟩:=dd';refine⟨z,_,qx (ob:=.dT (kvs++[(k,z)])) I (by rw[hd];exact o_) hs ⟨o,hq⟩ ⟨by rw[aU,List.length_singleton];omega,hsys,_,KT.keeps (kvs:=kvs++[(k,z)]) (xs:=xs++[(k,b,v)]) (gq rel ⟨rfl,dk.c 8 h8 hb,h8,rz⟩) fun c ys ec=>?_,o,es,ep,hq,h2,h3,h4,h5⟩,rz,q2 e2⟩;rw[ah (Dc ec hd (fun z=>nomatch z))];exact ec
end
theorem kB:entryFor table "dict.update.loop"=some bc.«dict.update.loop»:=entryFor_of_fast (by kernel_rfl)
theorem fD:plainId "dict.update.loop"=true:=by decide +kernel
theorem wd:q_ (.type "list") "keys"=pure none:=am_miss_of_fast (by decide +kernel)
section
variable{prog:bj}{w:World}{A:Around}{E:Zc}{s:Shared}
theorem BC{a:Addr}{o:Obj}{xs:Array Value}{k:Nat}{Q:Option Value->Shared->Prop}(hx:s.heap.get? a=some o)(hc:o.cls=.type "list")(hdat:o.data=.seq xs k)(hd:o.dict=none)(hA:A.handled=none)
  (h:∀h' tk,(∀b ob,s.heap.get? b=some ob->h'.get? b=some ob)->Q none { s with heap:=h',toks:=tk }):wpAny (model prog w) A (getAttr? (.ref a) "keys") Q E s:=by
 obtain⟨c,dct,dat,sl⟩:=o;simp only at hc hdat hd;subst hc hdat hd;obtain⟨hp,g,d,tk,os⟩:=s;have hT:∀tk',(⟨hp,g,d,tk',os⟩:Shared).TypeIs (.ref a) "list":=fun _=>⟨_,hx,rfl⟩;have f1:=sub_AttributeError;have f3:=F.slot_list_getattribute.lookup;have f4:=F.slot_list_getattribute.bind (.ref a);have f5:=am_list_getattr_none;unfold getAttr? getAttrBy? getAttrBy
 repeat (any_goals (first|assumption|exact hT _|((with_reducible show wpAny _ _ (call (Value.builtin "list.__getattribute__") _ _) _ _ _);refine qZ F.slot_list_getattribute (hT _) am_entry_list_getattribute (F.args_list_getattribute_2 _ _) (meets_getattribute_miss_list a xs k sl "keys" _ wd (by decide +kernel) (by decide +kernel)) ⟨hx,hA,fun h' tk' e hx'=>?_⟩)|wp_step))
 obtain⟨t',u',he⟩:=hx'.there;show wpAny _ _ (getattributeRaised _ _ _ _ _ _ _) _ _ _;unfold getattributeRaised hookOrError attributeErrorLeaves
 repeat (any_goals (first|assumption|wp_step))
 all_goals first|exact h _ _ hx'.keeps|trace_state
def zP(h:Heap)(u:Value)(kv:eG×Value):Prop:=∃t ku,u=.ref t/\h.IsTuple t #[ku,kv.2]/\cM kv.1 ku=true
theorem yW{κ:Type}[DecidableEq κ](kvs:List (κ×Value))(k:κ)(v:Value):(stored kvs k v).length<=kvs.length+1:=by
 unfold stored;split
 ·rw[aj];omega
 ·rw[aU,List.length_singleton];exact ay _
theorem Cj{R:Result->Shared->Prop}(hh:A.handled=none){D it l:Addr}{items:Array Value}{ps:List (eG×Value)}(hDi:D≠it)(hli:l≠it)(hlD:l≠D)(hps:ps.length=items.size):
  ∀(n i:Nat) (s:Shared) (acc:List (eG×Value)),items.size-i=n->i<=items.size->acc.length+(items.size-i)<=ai->s.heap.IsListIter it l i->s.heap.IsList l items->s.heap.DictOf (bV prog w) D acc ->
   (∀(j:Nat) (u:Value) (kv:eG×Value),items[j]?=some u->ps[j]?=some kv->zP s.heap u kv) ->
   (∀h' tk,h'.DictOf (bV prog w) D (merged acc (ps.drop i))->(∀b o,b≠D->b≠it->s.heap.get? b=some o->h'.get? b=some o)->R (.ok (.ret .none)) { s with heap:=h',toks:=tk }) ->
   zzl78 (model prog w) A (.builtin "dict.update.loop" ⟨[.ref D,.ref it,rawInt i,.none],[]⟩) R s:=by
 intro n
 induction n with
 |zero =>
  intro i s acc hn hi hz hit hl hD hp hR;have e:i=items.size:=by omega
  subst e;refine j4 kB ?_;rw[j3 fD _];show wpAny _ A.in1 (pyNext (.ref it) >>= _) _ _ s;refine ak (wpAny_pyNext_list_end hh hit hl (by simp) fun h' eb=>?_);show wpAny _ _ (bc.Dict.addKeywords D [] >>= _) _ _ _;refine ak (aF (aF ?_));have hD':h'.DictOf (bV prog w) D acc:=hD.extBut eb hDi;have q:=hR h' s.toks (by rw[nZ (by omega)];exact hD') fun b o _ hb e=>eb b o hb e;exact q
 |succ n ih =>
  intro i s acc hn hi hz hit hl hD hp hR;have hlt:i<items.size:=by omega
  refine j4 kB ?_;rw[j3 fD _];show wpAny _ A.in1 (pyNext (.ref it) >>= _) _ _ s;have hu:items[i]?=some items[i]:=by simp[hlt]
  have hk:ps[i]?=some ps[i]:=eB (by omega);obtain⟨t,ku,eu,ht,hku⟩:=hp i _ _ hu hk;refine ak (wpAny_pyNext_list_item hit hl (x:=items[i]) hu fun h1 hit1 hs1=>?_);rw[eu];have hs1':gD it s.heap h1:=hs1;have nt:t≠it:=by
   rintro rfl;obtain⟨o,ho,hc,_⟩:=ht;obtain⟨o',ho',hc',_⟩:=hit;rw[ho]at ho';cases ho';rw[hc]at hc';simp at hc'
  have ht1:h1.IsTuple t #[ku,ps[i].2]:=ht.extBut hs1'.extBut nt;have hT1:Shared.TypeIs { s with heap:=h1 } (.ref t) "tuple":=ht1.typeIs (s:={ s with heap:=h1 });obtain⟨ot,got,hct,nt',hdt⟩:=id ht1;refine ak (iX ?_);refine ak (wpAny_tryCatch ?_);unfold bc.Dict.pairItems;refine ak (uX hT1 ?_);rw[if_pos (by decide)];refine ak (iW got hdt (aF ?_));show wpAny _ _ (jY [ku,ps[i].2] (dictSet D ku ps[i].2)) _ _ _;have hD1:h1.DictOf (bV prog w) D acc:=hD.extBut hs1'.extBut hDi;refine iX (wpAny_dictSet_pairs (knd:=bV prog w) (k:=ps[i].1) hku hD1 (fun h2 hD2 hs2=>?_) (by omega));have hs2':gD D h1 h2:=hs2;show wpAny _ _ (again _) _ _ _;refine aF ⟨lL fD _,?_⟩;have hl1:h1.IsList l items:=hl.extBut hs1'.extBut hli;have kp:∀b o,b≠D->b≠it->s.heap.get? b=some o->h2.get? b=some o:=fun b o h1 h2 e=>hs2'.extBut b o h1 (hs1'.extBut b o h2 e);refine ih (i+1) _ (stored acc ps[i].1 ps[i].2) (by omega) hlt (by have:=yW acc ps[i].1 ps[i].2;omega) (hit1.extBut hs2'.extBut (eT hDi)) (hl1.extBut hs2'.extBut hlD) hD2 (fun j u kv h1 h2=>?_) fun h' tk hD' kp'=>?_
  ·obtain⟨t2,ku2,e2,ht2,hk2⟩:=hp j u kv h1 h2;have n1:t2≠it:=by
    rintro rfl;obtain⟨o,ho,hc,_⟩:=ht2;obtain⟨o',ho',hc',_⟩:=hit;rw[ho]at ho';cases ho';rw[hc]at hc';simp at hc'
   have n2:t2≠D:=by
    rintro rfl;obtain⟨o,ho,hc,_⟩:=ht2;obtain⟨o',_,_,ho',hc',_⟩:=hD;rw[ho]at ho';cases ho';have:=hc'.1;rw[hc]at this;simp at this
   obtain⟨o,ho,r⟩:=ht2;exact⟨t2,ku2,e2,⟨o,kp _ o n2 n1 ho,r⟩,hk2⟩
  ·refine hR h' tk ?_ fun b o h1 h2 e=>kp' b o h1 h2 (kp b o h1 h2 e);have ed:ps.drop i=ps[i]::ps.drop (i+1):=uW (by omega);rw[ed];exact hD'
theorem pW{l:Addr}{o:Obj}{items:Array Value}{n:Nat}{ps:List (eG×Value)}{Q:Zc}(hh:A.handled=none)(ho:s.heap.get? l=some o)(hc:o.cls=.type "list")(hdt:o.data=.seq items n)(hod:o.dict=none)
  (hps:ps.length=items.size) (hp:∀(j:Nat) (u:Value) (kv:eG×Value),items[j]?=some u->ps[j]?=some kv->zP s.heap u kv) (hz:items.size<=ai)
  (h:∀h' tk,h'.DictOf (bV prog w) s.heap.objs.size (merged [] ps)->(∀b o,s.heap.get? b=some o->h'.get? b=some o)->Q (.ref s.heap.objs.size) { s with heap:=h',toks:=tk }) :
  wpAny (model prog w) A (call (.type "dict") [.ref l]) Q E s:=by
 refine callType_codes (Q₁:=fun obj s₁=>obj=.ref s.heap.objs.size/\s₁={ s with heap:=s.heap.push { cls:=.type "dict",data:=.dict #[] } }) F.kt_called_dict (F.kt_typeCall_dict_1 _) F.entry_dict_init (kt_code_dict_new _ ⟨rfl,rfl⟩) ?_;rintro obj s₁ ⟨rfl,rfl⟩;have hnew:(s.heap.push { cls:=.type "dict",data:=.dict #[] }).DictOf (bV prog w) s.heap.objs.size []:=Heap.DictOf.new s.heap;have ho1:(s.heap.push { cls:=.type "dict",data:=.dict #[] }).get? l=some o:=aO _ ho;have hlt:l<s.heap.objs.size:=az ho;refine⟨hnew.typeIs,F.args_dict_init_2 _ _,?_⟩;unfold bc.«dict.__init__»;refine ak ?_;unfold bc.Dict.selfAndRest;refine ak (wpAny_notOrdered_dict hnew.typeIs ?_);show wpAny _ _ (pure (s.heap.objs.size,[Value.ref l])) _ _ _;refine aF ?_;show wpAny _ _ (bc.Dict.updateFrom "dict.__init__" s.heap.objs.size (.ref l) [] .none) _ _ _;unfold bc.Dict.updateFrom;have hTl:Shared.TypeIs { s with heap:=s.heap.push { cls:=.type "dict",data:=.dict #[] } } (.ref l) "list":=⟨o,ho1,hc⟩;refine ak (uX hTl ?_);rw[if_pos (by decide)];refine ak (BC ho1 hc hdt hod hh fun h1 tk1 k1=>?_);have k1':∀b ob,(s.heap.push { cls:=.type "dict",data:=.dict #[] }).get? b=some ob->h1.get? b=some ob:=k1;rw[if_pos (by rfl:(none:Option Value).isNone=true)];refine ak (mM ?_);have hl1:h1.IsList l items:=⟨o,k1' _ _ ho1,hc,n,hdt⟩;refine ak (z8 (s:={ s with heap:=h1,toks:=tk1 }) hl1 ?_);have hD1:h1.DictOf (bV prog w) s.heap.objs.size []:=by
  obtain⟨od,es,ep,g,r⟩:=hnew;exact⟨od,es,ep,k1' _ _ g,r⟩
 have hDlt:s.heap.objs.size<h1.objs.size:=by
  obtain⟨od,es,ep,g,r⟩:=hD1;exact az g
 refine aF ⟨lL fD _,?_⟩;refine Cj (A:=A.in1) (prog:=prog) (w:=w) hh (D:=s.heap.objs.size) (it:=h1.objs.size) (l:=l) (items:=items) (ps:=ps) (bE hDlt) (bE (Nat.lt_trans hlt hDlt)) (bE hlt) hps items.size 0 _ [] (Nat.sub_zero _) (eS _) (by rw[List.length_nil];omega)
  ⟨_,cb _ rfl,rfl,rfl⟩ (hl1.push _) (hD1.push _) (fun j u kv a b=>?_) fun h' tk hD' kp=>?_
 ·obtain⟨t,ku,e,ht,hk⟩:=hp j u kv a b;obtain⟨ot,g,r⟩:=ht;exact⟨t,ku,e,⟨ot,aO _ (k1' _ _ (aO _ g)),r⟩,hk⟩
 ·rw[qO]at hD';refine⟨rfl,h h' tk hD' fun b ob e=>kp b ob (bE (az e)) (bE (Nat.lt_trans (az e) hDlt)) (aO _ (k1' _ _ (aO _ e)))⟩
end
section
variable{X:Cx}
theorem wF(hc:X.calm=true):fM X (.type "dict") (fun xs H Q=>∃(l:Addr) (ts:Ze) (kvs:List (eG×V)),xs=[.ref l]/\ax X.K H l (ts.map V.ref)/\ts.length=kvs.length /\
  (∀(j:Nat) (t:Addr) (kv:eG×V),ts[j]?=some t->kvs[j]?=some kv->H t=some (.tup [kV kv.1,kv.2]))/\∀p,H p=none->Q (.ref p) (upd H p (.dK (iP [] kvs)))):=by
 intro J3 s σ H xs us Q I r h;obtain⟨l,ts,kvs,rfl,hl,hlen,ht,q⟩:=h;obtain⟨u,rfl,ru⟩:=vals1 r;cases ru;obtain⟨its,rv,⟨o,n,ho,hcl,hod,hdt⟩,hz⟩:=I.list hl;have key:∀(ts:Ze) (kvs:List (eG×V)),ts.length=kvs.length->(∀(j:Nat) (t:Addr) (kv:eG×V),ts[j]?=some t->kvs[j]?=some kv->H t=some (.tup [kV kv.1,kv.2]))->∃ps:List (eG×Value),KV kvs ps/\∀(j:Nat) (t:Addr) (kv:eG×Value),ts[j]?=some t->ps[j]?=some kv->zP s.heap (.ref t) kv:=by
  intro ts
  induction ts with
  |nil =>
   intro kvs hl _;cases kvs with
   |nil=>exact⟨[],.nil,fun j t kv e=>by simp at e⟩
   |cons _ _=>cases hl
  |cons t ts ih =>
   intro kvs hl ht;cases kvs with
   |nil=>cases hl
   |cons kv kvs =>
    obtain⟨ps,r1,r2⟩:=ih kvs (by simpa using hl) fun j t' kv' a b=>ht (j+1) t' kv' (by simpa using a) (by simpa using b);obtain⟨_,itt,rt,p⟩:=(show cq X.prog X.w X.K H s.heap t (.tup [kV kv.1,kv.2])from I.hok t _ (ht 0 t kv rfl rfl));obtain⟨a,b,e,ra,rb⟩:=rt.two;subst e;refine⟨(kv.1,b)::ps,.cons ⟨rfl,rb⟩ r1,fun j t' kv' h1 h2=>?_⟩;cases j with
    |zero =>
     simp at h1 h2;subst h1 h2;exact⟨t,a,rfl,p,nJ (P:=X.prog) (w:=X.w) ra⟩
    |succ j=>exact r2 j t' kv' (by simpa using h1) (by simpa using h2)
 obtain⟨ps,rel,pa⟩:=key ts kvs hlen ht;have hl1:=rv.length;rw[aj]at hl1;have hl2:=rel.length;refine pW (prog:=X.prog) (w:=X.w) (ps:=ps) (I.ok.hd hc) ho hcl hdt hod (by rw[bp];omega) (fun j u kv a b=>?_) (by rw[bp,<-hl1];rw[aj]at hz;exact hz) fun h' tk hD kp=>?_
 ·have a':its[j]?=some u:=by simpa using a
  have hj:j<ts.length:=by
   have:=(bQ.mp a').1;omega
  obtain⟨u',e1,r1⟩:=rv.get (i:=j) (x:=V.ref ts[j]) (by simp[hj]);rw[a']at e1;cases e1;cases(show u=Value.ref ts[j]from r1);exact pa j ts[j] kv (by simp[hj]) b
 ·have hm:(iP [] kvs).length<=ai:=by
   have h1:=lG kvs [];rw[List.length_nil]at h1;rw[aj]at hz;omega
  exact⟨.ref s.heap.objs.size,_,I.laid (o:=.dK (iP [] kvs)) kp (ay _) (DA hm (beq_eq_false_iff_ne.mpr (eT (bE I.big))) (rel.merge .nil) hD),rfl,q _ I.fresh⟩
end
abbrev em:R2:=Aj fun i j=>.int (i+j)
abbrev nq:R2:=Aj fun i j=>.int (i-j)
abbrev kn:R2:=rI DX fun i j=>.int (i * j)
abbrev gF:R2:=rI (fun _ j=>0<j) fun i j=>.int (i % j)
abbrev CV:R2:=rI Hb fun i j=>.int (i / j)
abbrev Fu:R2:=rI Ha fun i j=>.int (i ^ j.toNat)
abbrev Bv:R2:=Aj fun i j=>.bl (decide (i<j))
abbrev rLeI:R2:=Aj fun i j=>.bl (decide (i<=j))
abbrev EH:R2:=Aj fun i j=>.bl (decide (j<i))
abbrev FS:R2:=Aj fun i j=>.bl (decide (j<=i))
abbrev Fx:R2:=fun x y H Q=>∃i j,x=.str i/\y=.str j/\i.length+j.length<=ai/\Q (.str (i++j)) H
abbrev rInS:R2:=fun x y H Q=>∃c j,x=.str ⟨#[c]⟩/\y=.str j/\Q (.bl (decide (c∈j.cps.toList))) H
abbrev GK(K:Za):List V->Hp->VK->Prop:=fun xs H Q=>∃(p:Addr) (bs:List Bool),xs=[.ref p]/\ax K H p (bs.map V.bl)/\Q (.bl (bs.all id)) H
abbrev rL(K:Za):List V->Hp->VK->Prop:=fun xs H Q=>∃p ys,xs=[.ref p]/\((ax K H p ys/\∀l,H l=none->Q (.ref l) (upd H l (.tup ys)))∨(bC K H p ys/\Q (.ref p) H))
abbrev EI(K:Za):List V->Hp->VK->Prop:=fun xs H Q=>∃(l:Addr) (ts:Ze) (kvs:List (eG×V)),xs=[.ref l]/\ax K H l (ts.map V.ref)/\ts.length=kvs.length /\
  (∀(j:Nat) (t:Addr) (kv:eG×V),ts[j]?=some t->kvs[j]?=some kv->H t=some (.tup [kV kv.1,kv.2]))/\∀p,H p=none->Q (.ref p) (upd H p (.dK (iP [] kvs)))
abbrev dR(K:Za):List V->Hp->VK->Prop:=fun xs H Q =>
 (∃p ys,xs=[.ref p]/\(ax K H p ys∨bC K H p ys)/\∀l,H l=none->Q (.ref l) (upd H l (.lst ys))) ∨
 (∃(d:Addr) (kvs:List (eG×V)),xs=[.ref d]/\Rd H d (.dK kvs)/\∀l,H l=none->Q (.ref l) (upd H l (.lst (kvs.map fun kv=>kV kv.1))))
abbrev ko(K:Za):List V->Hp->VK->Prop:=fun xs H Q =>
 (∃p ys,xs=[.ref p]/\(ax K H p ys∨bC K H p ys)/\Q (.int ys.length) H)∨(∃z,xs=[.str z]/\z.length<=ai/\Q (.int z.length) H)
theorem sF:lD "list"=some (.type "list"):=by decide +kernel
theorem cY:lD "tuple"=some (.type "tuple"):=by decide +kernel
theorem zM:lD "dict"=some (.type "dict"):=by decide +kernel
section
variable{X:Cx}{p pos:Pos}
theorem BY:fM X (.builtin "len") (ko X.K):=wD.or wC
theorem zL(hc:X.calm=true):fM X (.type "list") (dR X.K):=wB.or (sD hc)
end
def Gc(mg:Str->Option Value)(x:Str)(v:V):Prop:=∃u,mg x=some u/\RelV v u
theorem iB{X:Cx}{x:Str}{v:V}{pos:Pos}(hg:Gl X x)(h:Gc X.mg x v)(hd:(x==("__debug__":Str))=false:=by decide):PE X (.Name x pos) (tC v):=by
 obtain⟨u,hm,r⟩:=h;exact EN hg hm r hd
structure fS(P:bj)(w:World)(K:Za)(mg:Str->Option Value)(base:Heap)(x:Str)(ps:Zb)(k:Nat)(sp:Sp):Prop where
 ex:∃f fd,kI P w K mg base CX0 k f fd ps sp/\mg x=some (.ref f)/\gb K (.ref f)=true/\Binds K fd ps []
structure G4(P:bj)(w:World)(K:Za)(mg:Str->Option Value)(base:Heap)(x:Str)(C:Addr)(ps:Zb)(k:Nat)(sp:Sp):Prop where
 ex:∃f fd,kI P w K mg base CX0 k f fd ps sp/\mg x=some (.ref C)/\Mk K C f/\Binds K fd ps []
structure o5(P:bj)(w:World)(K:Za)(mg:Str->Option Value)(base:Heap)(C:Addr)(m:Str)(ps:Zb)(k:Nat)(sp:Sp):Prop where
 ex:∃f fd,kI P w K mg base CX0 k f fd ps sp/\AW K C/\Fl K C m f/\Binds K fd ps []
section
variable{X:Cx}{k:Nat}{ps:Zb}{sp:Sp}{x m:Str}{C:Addr}{p pos J5:Pos}{o e:Expr}{es:List Expr}{t:TA}{ta:TE}
theorem GO(D:fS X.prog X.w X.K X.mg X.base x ps k sp)(hr:eg k X.A)(hg:Gl X x)(ha:PA X (e::es) t)(hdb:(x==("__debug__":Str))=false:=by decide)
  (he:aA (e::es) X.env=(false,eval e X.env)::aA es X.env:=by rfl) (hpl:(backTo pos (aA es X.env)).any (·.1)=false:=by rfl) :
  PE X (.Call (.Name x p) (e::es) [] pos) (aR sp t):=by
 obtain⟨f,fd,F,hm,hk,hb⟩:=D.ex;exact EQ F hr hg hm hk hb .nil Ar ha hdb he hpl
theorem wa(D:G4 X.prog X.w X.K X.mg X.base x C ps k sp)(hr:eg (k+1) X.A)(hg:Gl X x)(ha:PA X (e::es) t)(hdb:(x==("__debug__":Str))=false:=by decide)
  (he:aA (e::es) X.env=(false,eval e X.env)::aA es X.env:=by rfl) (hpl:(backTo pos (aA es X.env)).any (·.1)=false:=by rfl) :
  PE X (.Call (.Name x p) (e::es) [] pos) (ud C sp [] E0 t):=by
 obtain⟨f,fd,F,hm,M,hb⟩:=D.ex;exact EM M F hr hg hm hb .nil Ar ha hdb he hpl
theorem F0{pl:Sem Bool}(M:o5 X.prog X.w X.K X.mg X.base C m ps k sp)(hr:eg k X.A)(he:PE X o ta)(ha:PA X (e::es) t)
  (hst:aA (e::es) X.env=(false,eval e X.env)::aA es X.env:=by rfl) (hpl:(backTo pos (aA es X.env)).any (·.1)=false:=by rfl)
  (ht:eval (.Call (.Attribute o m J5) (e::es) [] pos) X.env=(do
   let ov <- eval o X.env
   pd J5.atName
   let(f,first) <- jY [ov] (pb ov m pl)
   tP pos f first (backTo pos (aA (e::es) X.env)) (mG pos (mF [] X.env))):=by rfl) :
  PE X (.Call (.Attribute o m J5) (e::es) [] pos) (cA C m sp [] E0 ta t):=by
 obtain⟨f,fd,F,c,hm,hb⟩:=M.ex;exact EL he c hm F hr hb .nil Ar ha hst hpl ht
theorem EK{pl:Sem Bool}(M:o5 X.prog X.w X.K X.mg X.base C m ps k sp)(hr:eg k X.A)(he:PE X o ta)
  (ht:eval (.Call (.Attribute o m J5) [] [] pos) X.env=(do
   let ov <- eval o X.env
   pd J5.atName
   let(f,first) <- jY [ov] (pb ov m pl)
   tP pos f first (backTo pos (aA [] X.env)) (mG pos (mF [] X.env))):=by rfl) :
  PE X (.Call (.Attribute o m J5) [] [] pos) (cA C m sp [] E0 ta bF):=by
 obtain⟨f,fd,F,c,hm,hb⟩:=M.ex;exact C2 he c hm F hr hb .nil Ar ht
end
def GW(K:Za)(tl:TE):TI:=fun σ H R=>tl σ H fun x H1=>∃a,x=.ref a/\(((∃xs,ax K H1 a xs)/\R (Ea K a) H1)∨((∃xs,bC K H1 a xs)/\R (Gq K a) H1))
theorem FW{X:Cx}{tg l:Expr}{tl:TE}(hl:PE X l tl):PI X tg l (GW X.K tl):=by
 intro J3 s σ H R I h;refine ca (hl J3 s σ H _ I h) fun v s1 ⟨x,H1,I1,r1,q1⟩=>?_;obtain⟨a,e,q⟩:=q1;subst e;cases r1;have fin:∀b∈[s1.heap.objs.size],lA X J3 H1 b:=fun b hb=>by
  have e:b=s1.heap.objs.size:=by simpa using hb
  subst e;exact I1.fpOk (ay _) (I1.hok.fresh (ay _))
 rcases q with⟨⟨xs,hq⟩,q⟩|⟨⟨xs,hq⟩,q⟩
 ·obtain⟨its,rv,p,hz⟩:=I1.list hq;refine z8 p.isList ?_;exact⟨s1.heap.objs.size,[s1.heap.objs.size],_,_,H1,rfl,I1.kept (t':=s1.toks) fun b o e=>aO _ e,t9 a _,⟨_,cb _ rfl,rfl,rfl⟩,fin,q⟩
 ·obtain⟨its,rv,p,hz⟩:=I1.tuple hq;refine z7 p ?_;exact⟨s1.heap.objs.size,[s1.heap.objs.size],_,_,H1,rfl,I1.kept (t':=s1.toks) fun b o e=>aO _ e,rg a _,⟨_,cb _ rfl,rfl,rfl⟩,fin,q⟩
theorem kA{K:Za}{a:Addr}{xs:List V}{g:TG}{tb:TS}{D:qg}{σ:St}{H:Hp}(Pv:Nat->St->Hp->Prop)(h0:Pv 0 σ H)(hl:∀i σ H,i<=xs.length->Pv i σ H->ax K H a xs)
  (hs:∀i x σ H p,xs[i]?=some x->Pv i σ H->H p=none->g (.ref p) σ (upd H p (.tup [.int i,x])) fun σ2 H2=>tb { D with nx:=Pv (i+1),ct:=Pv (i+1),bk:=D.nx } σ2 H2) (hd:∀σ H,Pv xs.length σ H->D.nx σ H) :
  ∃W:Nat->Nat->St->Hp->Prop,(∃m,W 0 m σ H)/\∀i m σ H,W i m σ H ->
   ((G7 K a).stop i H/\D.nx σ H)∨((G7 K a).go i H/\∃N:St->Hp->Prop,(∀σ' H',N σ' H'->∃m',m'<m/\W (i+1) m' σ' H')/\∀x H',(G7 K a).yld i H x H'->g x σ H' fun σ2 H2=>tb { D with nx:=N,ct:=N,bk:=D.nx } σ2 H2):=by
 refine⟨fun i m σ H=>m=xs.length-i/\i<=xs.length/\Pv i σ H,⟨xs.length,by simp,eS _,h0⟩,?_⟩;rintro i m σ H ⟨rfl,hi,p⟩;have q:=hl i σ H hi p;by_cases hlt:i<xs.length
 ·refine .inr ⟨⟨xs,xs[i],q,by simp[hlt]⟩,Pv (i+1),fun σ' H' p'=>⟨xs.length-(i+1),by omega,rfl,hlt,p'⟩,fun x H' y=>?_⟩;obtain⟨t,v,rfl,hn,hv,rfl⟩:=y;exact hs i v σ H t (hv xs q) p hn
 ·have e:i=xs.length:=by omega
  subst e;exact .inl ⟨⟨xs,q,ay _⟩,hd σ H p⟩
def Wc(n:Nat)(Pv:Nat->List V->Hp->Prop):Nat->Nat->List V->Hp->Prop:=fun i m vs H=>m=n-i/\i<=n/\Pv i vs H
theorem nV{n i:Nat}{Pv:Nat->List V->Hp->Prop}{vs:List V}{H:Hp}(hi:i<n)(p:Pv (i+1) vs H):∃m',m'<n-i/\Wc n Pv (i+1) m' vs H:=⟨n-(i+1),by omega,rfl,hi,p⟩
abbrev du(k:Nat)(fi:List Nat)(σ:St)(J:It)(g:TG)(tc:TT)(te:TE)(H1:Hp)(l:Addr)(Q:Hp->Prop):Prop :=
 ∃W:Nat->Nat->List V->Hp->Prop,(∃m,W 0 m [] (upd H1 l (.lst [])))/\∀i m vs H2,W i m vs H2->H2 l=some (.lst vs) /\
  ((J.stop i H2/\Q H2)∨(J.go i H2/\∀x H3,J.yld i H2 x H3->g x (c_ k fi σ) H3 fun σ2 H4=>tc σ2 H4 fun b H5 =>
   if b=true then te σ2 H5 fun v H6=>H6 l=some (.lst vs)/\vs.length<ai/\∃m',m'<m/\W (i+1) m' (vs++[v]) (upd H6 l (.lst (vs++[v])))else ∃m',m'<m/\W (i+1) m' vs H5))
theorem jf{k:Nat}{fi:List Nat}{J:It}{g:TG}{tc:TT}{te:TE}{σ:St}{H1:Hp}{Q:Hp->Prop}{l:Addr}(n:Nat)(Pv:Nat->List V->Hp->Prop)(h0:Pv 0 [] (upd H1 l (.lst [])))
  (hl:∀i vs H,i<=n->Pv i vs H->H l=some (.lst vs)) (hgo:∀i vs H,i<n->Pv i vs H->J.go i H) (hst:∀vs H,Pv n vs H->J.stop n H/\Q H)
  (hs:∀i vs H x H3,i<n->Pv i vs H->J.yld i H x H3->g x (c_ k fi σ) H3 fun σ2 H4=>tc σ2 H4 fun b H5 =>
   if b=true then te σ2 H5 fun v H6=>H6 l=some (.lst vs)/\vs.length<ai/\∃m',m'<n-i/\Wc n Pv (i+1) m' (vs++[v]) (upd H6 l (.lst (vs++[v])))else ∃m',m'<n-i/\Wc n Pv (i+1) m' vs H5) :
  du k fi σ J g tc te H1 l Q:=by
 refine⟨Wc n Pv,⟨n,by simp[Wc],eS _,h0⟩,?_⟩;rintro i m vs H ⟨rfl,hi,p⟩;refine⟨hl i vs H hi p,?_⟩;by_cases hlt:i<n
 ·exact .inr ⟨hgo i vs H hlt p,fun x H3 y=>hs i vs H x H3 hlt p y⟩
 ·have e:i=n:=by omega
  subst e;exact .inl (hst vs H p)
section
variable{K:Za}{k:Nat}{fi:List Nat}{g:TG}{tc:TT}{te:TE}{σ:St}{H1:Hp}{Q:Hp->Prop}{l:Addr}
theorem cu{a:Addr}{xs:List V}(Pv:Nat->List V->Hp->Prop)(h0:Pv 0 [] (upd H1 l (.lst [])))
  (hl:∀i vs H,i<=xs.length->Pv i vs H->H l=some (.lst vs)/\ax K H a xs) (hd:∀vs H,Pv xs.length vs H->Q H)
  (hs:∀i vs H x,xs[i]?=some x->i<xs.length->Pv i vs H->g x (c_ k fi σ) H fun σ2 H4=>tc σ2 H4 fun b H5 =>
   if b=true then te σ2 H5 fun v H6=>H6 l=some (.lst vs)/\vs.length<ai/\∃m',m'<xs.length-i/\Wc xs.length Pv (i+1) m' (vs++[v]) (upd H6 l (.lst (vs++[v])))else ∃m',m'<xs.length-i/\Wc xs.length Pv (i+1) m' vs H5) :
  du k fi σ (Ea K a) g tc te H1 l Q:=by
 refine jf xs.length Pv h0 (fun i vs H hi p=>(hl i vs H hi p).1) (fun i vs H hi p=>⟨xs,xs[i],(hl i vs H (cL hi) p).2,by simp[hi]⟩) (fun vs H p=>⟨⟨xs,(hl _ vs H (ay _) p).2,ay _⟩,hd vs H p⟩) fun i vs H x H3 hi p y=>?_;obtain⟨rfl,y⟩:=y;exact hs i vs _ x (y xs (hl i vs _ (cL hi) p).2) hi p
theorem ya{a:Addr}{xs:List V}(Pv:Nat->List V->Hp->Prop)(h0:Pv 0 [] (upd H1 l (.lst [])))
  (hl:∀i vs H,i<=xs.length->Pv i vs H->H l=some (.lst vs)/\bC K H a xs) (hd:∀vs H,Pv xs.length vs H->Q H)
  (hs:∀i vs H x,xs[i]?=some x->i<xs.length->Pv i vs H->g x (c_ k fi σ) H fun σ2 H4=>tc σ2 H4 fun b H5 =>
   if b=true then te σ2 H5 fun v H6=>H6 l=some (.lst vs)/\vs.length<ai/\∃m',m'<xs.length-i/\Wc xs.length Pv (i+1) m' (vs++[v]) (upd H6 l (.lst (vs++[v])))else ∃m',m'<xs.length-i/\Wc xs.length Pv (i+1) m' vs H5) :
  du k fi σ (Gq K a) g tc te H1 l Q:=by
 refine jf xs.length Pv h0 (fun i vs H hi p=>(hl i vs H hi p).1) (fun i vs H hi p=>⟨xs,xs[i],(hl i vs H (cL hi) p).2,by simp[hi]⟩) (fun vs H p=>⟨⟨xs,(hl _ vs H (ay _) p).2,ay _⟩,hd vs H p⟩) fun i vs H x H3 hi p y=>?_;obtain⟨rfl,y⟩:=y;exact hs i vs _ x (y xs (hl i vs _ (cL hi) p).2) hi p
theorem zI{lo:Int}{n:Nat}(Pv:Nat->List V->Hp->Prop)(h0:Pv 0 [] (upd H1 l (.lst [])))
  (hl:∀i vs H,i<=n->Pv i vs H->H l=some (.lst vs)) (hd:∀vs H,Pv n vs H->Q H)
  (hs:∀i vs H,i<n->Pv i vs H->g (.int (lo+i)) (c_ k fi σ) H fun σ2 H4=>tc σ2 H4 fun b H5 =>
   if b=true then te σ2 H5 fun v H6=>H6 l=some (.lst vs)/\vs.length<ai/\∃m',m'<n-i/\Wc n Pv (i+1) m' (vs++[v]) (upd H6 l (.lst (vs++[v])))else ∃m',m'<n-i/\Wc n Pv (i+1) m' vs H5) :
  du k fi σ (Gs lo n) g tc te H1 l Q:=by
 refine jf n Pv h0 hl (fun i vs H hi p=>hi) (fun vs H p=>⟨ay _,hd vs H p⟩) fun i vs H x H3 hi p y=>?_;obtain⟨rfl,rfl⟩:=y;exact hs i vs _ hi p
theorem DK{x:Str}(Pv:Nat->List V->Hp->Prop)(h0:Pv 0 [] (upd H1 l (.lst [])))
  (hl:∀i vs H,i<=x.cps.size->Pv i vs H->H l=some (.lst vs)) (hd:∀vs H,Pv x.cps.size vs H->Q H)
  (hs:∀i vs H c,x.cps[i]?=some c->i<x.cps.size->Pv i vs H->g (.str ⟨#[c]⟩) (c_ k fi σ) H fun σ2 H4=>tc σ2 H4 fun b H5 =>
   if b=true then te σ2 H5 fun v H6=>H6 l=some (.lst vs)/\vs.length<ai/\∃m',m'<x.cps.size-i/\Wc x.cps.size Pv (i+1) m' (vs++[v]) (upd H6 l (.lst (vs++[v])))else ∃m',m'<x.cps.size-i/\Wc x.cps.size Pv (i+1) m' vs H5) :
  du k fi σ (Hr x) g tc te H1 l Q:=by
 refine jf x.cps.size Pv h0 hl (fun i vs H hi p=>hi) (fun vs H p=>⟨ay _,hd vs H p⟩) fun i vs H y H3 hi p yl=>?_;obtain⟨rfl,c,hc,rfl⟩:=yl;exact hs i vs _ c hc hi p
end
theorem gN{j:Nat}{x:V}{σ:St}{H:Hp}{Q:St->Hp->Prop}(h:Q (σ.set j (some x)) H):dI j x σ H Q:=h
theorem sQ{σ:St}{H:Hp}{A B:Hp->Prop}(h:A H):iN σ H (fun b H5=>if b=true then A H5 else B H5):=by
 show(if(true:Bool)=true then A H else B H)
 exact h
theorem uj{α β:Type}{F:α->β->Prop}:∀{l₁:List α}{l₂:List β},Paired F l₁ l₂->∀{i:Nat}{a:α}{b:β},l₁[i]?=some a->l₂[i]?=some b->F a b
 |_,_,.nil,_,_,_,h,_=>by simp at h
 |_,_,.cons r t,0,_,_,h,h'=>by simp at h h';subst h h';exact r
 |_,_,.cons r t,i+1,_,_,h,h'=>by simp at h h';exact uj t h h'
end L2
namespace L2
open PySem PySem.W
section
variable{X:Cx}
theorem Ae:∀{ns:List Int}{its:Zf},aQ (ns.map V.int) its->∃xs:List (Int×Tok),its=xs.map (fun p=>Value.int p.1 p.2)/\xs.map (·.1)=ns
 |[],_,r=>by cases r;exact⟨[],rfl,rfl⟩
 |n::ns,_,r=>by
  cases r with
  |cons r1 r2 =>
   obtain⟨t,rfl⟩:=r1;obtain⟨xs,e1,e2⟩:=Ae r2;exact⟨(n,t)::xs,by rw[e1];rfl,by rw[bm,e2]⟩
end
def CC(K:Za)(td ty tv:TE):TS:=fun D σ H=>tv σ H fun v H1=>td σ H1 fun x H2=>ty σ H2 fun y H3 =>
 ∃(a b:Addr) (kvs:List (TK×V)) (k:TK),x=.ref a/\y=.ref b/\H3 a=some (.dT kvs)/\pD K H3 k (.ref b)/\k.depth<=8/\kvs.length<ai/\D.nx σ (upd H3 a (.dT (c7 kvs k v)))
section
variable{X:Cx}{o i value:Expr}{pos pos':Pos}{td ty tv:TE}
theorem CZ(hu:X.A.units+16<cLine)(ho:PE X o td)(hi:PE X i ty)(hv:PE X value tv)(hs:pc value (some (.Subscript o i pos')) pos.line X.env=pure false):
  PS X (.Assign [.Subscript o i pos'] value pos) (CC X.K td ty tv):=by
 intro J3 s σ H D I h;refine wpAny_Assign_Subscript (ca (hv J3 s σ H _ I h) fun r s1 ⟨v,H1,I1,rv,q1⟩=>ca (ho J3 s1 σ H1 _ I1 q1) fun u s2 ⟨x,H2,I2,rx,q2⟩=>ca (hi J3 s2 σ H2 _ I2 q2) fun iv s3 ⟨y,H3,I3,ry,a,b,kvs,k,ex,ey,e,eb,e8,l,q3⟩=>?_) hs;subst ex;subst ey;obtain rfl:u=Value.ref a:=rx;exact zG hu I3 e eb e8 l ry rv fun s4 I4=>⟨σ,_,I4,q3⟩
end
theorem uc{K:Za}{H:Hp}:∀xs:List Str,TKCs K H (xs.map fun x=>TK.k (some (.inr x))) (xs.map V.str)
 |[]=>by show TKCs K H [] [];unfold TKCs;rfl
 |x::xs=>by
  rw[bm,bm];unfold TKCs;refine⟨_,_,rfl,?_,uc xs⟩;unfold pD
  rfl
theorem Cu{K:Za}{H:Hp}{a:Addr}{xs:Zb}(h:cN K H a (xs.map V.str)):pD K H (.t (xs.map fun x=>TK.k (some (.inr x)))) (.ref a):=by
 unfold pD;exact⟨a,_,rfl,h,uc xs⟩
end L2
end

section
set_option Elab.async false
set_option linter.all false
set_option maxRecDepth 100000
namespace L2
open PySem PySem.Spec PyProof.Rows PySem.W
def Fn:Expr->List Str
 |.Name x _=>[x]
 |.Tuple es _ _=>es.filterMap fun e=>match e with | .Name x _=>some x|_=>none
 |_=>[]
theorem bK{X:Cx}{b:List Stmt}{t:TS}{D:qg}{σ:St}{H:Hp}(r:t D σ H)(p:yB X b t):∃t,yB X b t/\t D σ H:=⟨t,p,r⟩
section
variable{X:Cx}{k k0:Nat}{ps:Zb}{sp:Sp}{x m:Str}{C:Addr}{p pos J5:Pos}{o e a b:Expr}{es:List Expr}{t:TA}{ta tb te:TE}
theorem qf(hr:eg k0 X.A)(D:fS X.prog X.w X.K X.mg X.base x ps k sp)(ha:PA X (e::es) t)(hk:k<=k0:=by decide)(hg:Gl X x:=by rfl)(hdb:(x==("__debug__":Str))=false:=by decide)
  (he:aA (e::es) X.env=(false,eval e X.env)::aA es X.env:=by rfl) (hpl:(backTo pos (aA es X.env)).any (·.1)=false:=by rfl) :
  PE X (.Call (.Name x p) (e::es) [] pos) (aR sp t):=GO D (hr.mono hk) hg ha hdb he hpl
theorem qm{pl:Sem Bool}(hr:eg k0 X.A)(M:o5 X.prog X.w X.K X.mg X.base C m ps k sp)(he:PE X o ta)(ha:PA X (e::es) t)(hk:k<=k0:=by decide)
  (hst:aA (e::es) X.env=(false,eval e X.env)::aA es X.env:=by rfl) (hpl:(backTo pos (aA es X.env)).any (·.1)=false:=by rfl)
  (ht:eval (.Call (.Attribute o m J5) (e::es) [] pos) X.env=(do
   let ov <- eval o X.env
   pd J5.atName
   let(f,first) <- jY [ov] (pb ov m pl)
   tP pos f first (backTo pos (aA (e::es) X.env)) (mG pos (mF [] X.env))):=by rfl) :
  PE X (.Call (.Attribute o m J5) (e::es) [] pos) (cA C m sp [] E0 ta t):=F0 (pl:=pl) M (hr.mono hk) he ha hst hpl ht
theorem GN{pl:Sem Bool}(hr:eg k0 X.A)(M:o5 X.prog X.w X.K X.mg X.base C m ps k sp)(he:PE X o ta)(hk:k<=k0:=by decide)
  (ht:eval (.Call (.Attribute o m J5) [] [] pos) X.env=(do
   let ov <- eval o X.env
   pd J5.atName
   let(f,first) <- jY [ov] (pb ov m pl)
   tP pos f first (backTo pos (aA [] X.env)) (mG pos (mF [] X.env))):=by rfl) :
  PE X (.Call (.Attribute o m J5) [] [] pos) (cA C m sp [] E0 ta bF):=EK (pl:=pl) M (hr.mono hk) he ht
theorem xl(ha:PE X a ta)(hb:PE X b tb)(hs:B5 b:=by exact fun _ _=>rfl):PE X (.Subscript a b pos) (aI (dh X.K) ta tb):=Ap Az ha hb hs
theorem xt(ha:PE X a ta)(hb:PE X b tb)(hs:B5 b:=by exact fun _ _=>rfl):PE X (.Subscript a b pos) (aI (oH X.K) ta tb):=Ap Dk ha hb hs
theorem xq(ha:PE X a ta)(hb:PE X b tb)(hs:B5 b:=by exact fun _ _=>rfl):PE X (.Subscript a b pos) (aI (pU X.K) ta tb):=Ap Ge ha hb hs
theorem xs'(ha:PE X a ta)(hb:PE X b tb)(hs:B5 b:=by exact fun _ _=>rfl):PE X (.Subscript a b pos) (aI CU ta tb):=Ap Dm ha hb hs
theorem ke{op:CmpOp}{r:R2}(ho:lu X (eh op) r)(ha:PE X a ta)(hb:PE X b tb)(hm:jN op b=false:=by exact C_ _):PT X (.Compare a [op] [b] pos) (ba (aI r ta tb)):=Am ho ha hb hm
theorem ecm{op:CmpOp}{r:R2}(ho:lu X (eh op) r)(ha:PE X a ta)(hb:PE X b tb)(hm:jN op b=false:=by exact C_ _):PE X (.Compare a [op] [b] pos) (aI r ta tb):=Aq ho ha hb hm
theorem FL{op:CmpOp}{r:R2}(ho:lu X (eh op) r)(ha:PE X a ta)(hb:PE X b tb)(hm:jN op b=false:=by with_unfolding_all rfl):PT X (.Compare a [op] [b] pos) (ba (aI r ta tb)):=Am ho ha hb hm
theorem eci{op:CmpOp}{r:R2}(ho:lu X (eh op) r)(ha:PE X a ta)(hb:PE X b tb)(hm:jN op b=false:=by with_unfolding_all rfl):PE X (.Compare a [op] [b] pos) (aI r ta tb):=Aq ho ha hb hm
theorem qB{id:String}{r:List V->Hp->VK->Prop}(hc:fM X (.builtin id) r)(hm:X.mg x=none)(hv:lD x=some (.builtin id))(ha:PA X (e::es) t)(hg:Gl X x:=by rfl)(hn:x≠"__name__":=by decide)(hdb:(x==("__debug__":Str))=false:=by decide)
  (he:aA (e::es) X.env=(false,eval e X.env)::aA es X.env:=by rfl) (hpl:(backTo pos (aA es X.env)).any (·.1)=false:=by rfl):PE X (.Call (.Name x p) (e::es) [] pos) (im r t):=xI hc hg hm hv ha hn hdb he hpl
theorem qL(hc:X.calm=true)(hm:X.mg "list"=none)(ha:PA X (e::es) t)(hg:Gl X "list":=by rfl)
  (he:aA (e::es) X.env=(false,eval e X.env)::aA es X.env:=by rfl) (hpl:(backTo pos (aA es X.env)).any (·.1)=false:=by rfl):PE X (.Call (.Name "list" p) (e::es) [] pos) (im (dR X.K) t):=d6 (zL hc) hg hm sF ha (by decide) (by decide) he hpl
theorem ql(hm:X.mg "len"=none)(ha:PA X (e::es) t)(hg:Gl X "len":=by rfl)
  (he:aA (e::es) X.env=(false,eval e X.env)::aA es X.env:=by rfl) (hpl:(backTo pos (aA es X.env)).any (·.1)=false:=by rfl):PE X (.Call (.Name "len" p) (e::es) [] pos) (im (ko X.K) t):=xI BY hg hm PySem.boot_len ha (by decide) (by decide) he hpl
theorem qs(i:Nat){pos':Pos}(hN:X.N.Nodup)(he:PE X e te)(hi:X.N[i]?=some x:=by rfl)(hx:Loc X.env.scope x:=by first|exact Or.inl rfl|exact Or.inr rfl)(hs:pc e (some (.Name x pos')) pos.line X.env=pure false:=by rfl)(hf:X.fn x=true∨X.env.scope.names.lookup x=some .local:=by first|exact .inl rfl|exact .inr rfl|assumption):
  PS X (.Assign [.Name x pos'] e pos) (aJ te (dI i)):=FU hN hi hx he hs hf
theorem gn(i:Nat)(hN:X.N.Nodup)(hi:X.N[i]?=some x:=by rfl)(hx:Loc X.env.scope x:=by first|exact Or.inl rfl|exact Or.inr rfl)(hf:X.fn x=true∨X.env.scope.names.lookup x=some .local:=by first|exact .inl rfl|exact .inr rfl|assumption):PG X (.Name x pos) (dI i):=Ao hN hi hx hf
theorem gc(i:Nat)(hN:X.N.Nodup:=by exact of_decide_eq_true (by with_unfolding_all rfl))(hi:X.N[i]?=some x:=by rfl)(hx:Loc X.env.scope x:=by exact Or.inl rfl)(hf:X.fn x=true∨X.env.scope.names.lookup x=some .local:=by first|exact .inl rfl|exact .inr rfl|assumption):PG X (.Name x pos) (dI i):=Ao hN hi hx hf
theorem a1(ha:PE X a ta)(hs:aA [a] X.env=(false,eval a X.env)::aA [] X.env:=by rfl):PA X [a] (ao ta bF):=aG ha cR hs
theorem a2(ha:PE X a ta)(hb:PE X b tb)(hs:aA [a,b] X.env=(false,eval a X.env)::aA [b] X.env:=by rfl)(hs2:aA [b] X.env=(false,eval b X.env)::aA [] X.env:=by rfl):PA X [a,b] (ao ta (ao tb bF)):=aG ha (aG hb cR hs2) hs
theorem a3{c:Expr}{tc:TE}(ha:PE X a ta)(hb:PE X b tb)(hc:PE X c tc)(hs:aA [a,b,c] X.env=(false,eval a X.env)::aA [b,c] X.env:=by rfl)(hs1:aA [b,c] X.env=(false,eval b X.env)::aA [c] X.env:=by rfl)(hs2:aA [c] X.env=(false,eval c X.env)::aA [] X.env:=by rfl):PA X [a,b,c] (ao ta (ao tb (ao tc bF))):=aG ha (a2 hb hc hs1 hs2) hs
variable{elt iter tg:Expr}{ifs:List Expr}{scope:Scope}{fi:List Nat}{wi:TI}{g:TG}{tc:TT}
theorem qc(hi:PI X tg iter wi)(ho:yk k g)
  (h:∀C cl s₀ H₀ ex pn,PG (da X (Fn tg++fi.map fun i=>X.N.getD i "") scope C cl s₀ H₀ ex pn) tg g/\FI (da X (Fn tg++fi.map fun i=>X.N.getD i "") scope C cl s₀ H₀ ex pn) ifs tc/\PE (da X (Fn tg++fi.map fun i=>X.N.getD i "") scope C cl s₀ H₀ ex pn) elt te)
  (hS:k5 X.env.scope scope k (Fn tg++fi.map fun i=>X.N.getD i "") X.N fi=true:=by with_unfolding_all rfl) (hc:X.calm=true:=by rfl)
  (hs:∀x,w_ iter X.env x=pure x:=by intro _;rfl):PE X (.ListComp elt [⟨tg,iter,ifs,0⟩] scope pos) (cB k fi wi g tc te) :=
 EO hS hc hi (fun _ _ _ _ _ _=>(h _ _ _ _ _ _).1) ho (fun _ _ _ _ _ _=>(h _ _ _ _ _ _).2.1) (fun _ _ _ _ _ _=>(h _ _ _ _ _ _).2.2) hs
theorem GL(j:Nat){y:Str}{spos py:Pos}(hN:X.N.Nodup)(hi:PI X tg iter wi)(ho:yk k g)
  (h:∀C cl s₀ H₀ ex pn,PG (da X (Fn tg++fi.map fun i=>X.N.getD i "") scope C cl s₀ H₀ ex pn) tg g/\FI (da X (Fn tg++fi.map fun i=>X.N.getD i "") scope C cl s₀ H₀ ex pn) ifs tc/\PE (da X (Fn tg++fi.map fun i=>X.N.getD i "") scope C cl s₀ H₀ ex pn) elt te)
  (hj:X.N[j]?=some y:=by rfl) (hy:Loc X.env.scope y:=by first|exact Or.inl rfl|exact Or.inr rfl)
  (hS:k5 X.env.scope scope k (Fn tg++fi.map fun i=>X.N.getD i "") X.N fi=true:=by with_unfolding_all rfl) (hc:X.calm=true:=by rfl)
  (hsw:pc (.ListComp elt [⟨tg,iter,ifs,0⟩] scope pos) (some (.Name y py)) spos.line X.env=pure true:=by rfl)
  (hs:∀x,w_ iter X.env x=pure x:=by intro _;rfl) (hf:X.fn y=true∨X.env.scope.names.lookup y=some .local:=by first|exact .inl rfl|exact .inr rfl|assumption) :
  PS X (.Assign [.Name y py] (.ListComp elt [⟨tg,iter,ifs,0⟩] scope pos) spos) (aJ (cB k fi wi g tc te) (dI j)) :=
 ze hN hj hy hS hc hi (fun _ _ _ _ _ _=>(h _ _ _ _ _ _).1) ho (fun _ _ _ _ _ _=>(h _ _ _ _ _ _).2.1) (fun _ _ _ _ _ _=>(h _ _ _ _ _ _).2.2) hsw hs hf
end
end L2
end

section
set_option Elab.async false
set_option linter.all false
set_option maxRecDepth 100000
namespace L2
open PySem PySem.Spec PyProof.Rows
structure DQ(h:Heap)(d:Addr)(es:Array ka)(ep:Nat):Prop where
 ex:∃o,h.get? d=some o/\o.ExactDict/\o.data=.dict es ep
section
variable{prog:bj}{w:World}{A:Around}{E:Zc}{s:Shared}{d v it:Addr}{es:Array ka}{ep i:Nat}
theorem DQ.ty(h:DQ s.heap d es ep):s.TypeIs (.ref d) "dict":=let⟨o,ho,e,_⟩:=h.ex;⟨o,ho,e.1⟩
end
structure Gu(P:bj)(w:World)(K:Za)(d:Addr)(o:Obj)(u:HO)(n:Nat)(ent:Nat->Hp->V->V->Prop)(es:Array ka)(ep:Nat):Prop where
 ex:o.ExactDict
 dat:o.data=.dict es ep
 sz:es.size=n
 get:∀{H:Hp}{h:Heap}{i:Nat}(hi:i<es.size),k_ P w K H h->H d=some (.frz o u)->∃a b,ent i H a b/\RelV a es[i].key/\RelV b es[i].val
def EZ(K:Za)(kvs:List (TK×V)):Nat->Hp->V->V->Prop:=fun i H a b=>∃k,kvs[i]?=some (k,b)/\pD K H k a
theorem uy{P:bj}{w:World}{K:Za}{H:Hp}{h:Heap}{d:Addr}{o:Obj}{kvs:List (TK×V)}(hok:k_ P w K H h)(e:H d=some (.frz o (.dT kvs))):
  (d==gE)=false/\∃es ep,Gu P w K d o (.dT kvs) kvs.length (EZ K kvs) es ep:=by
 obtain⟨g,z,hsys,xs,rel,o',es,ep,ho',ex,hd,hes,nd⟩:=(show cq P w K H h d (.frz o (.dT kvs))from hok d _ e);rw[g]at ho';cases ho';have hl:es.size=xs.length:=by rw[<-jX,hes,aj]
 refine⟨hsys,es,ep,ex,hd,by rw[hl,Paired.length rel],fun{H' h' i} hi hok' e'=>?_⟩;obtain⟨g',z',hsys',xs',rel',o'',es',ep',ho'',ex',hd',hes',nd'⟩:=(show cq P w K H' h' d (.frz o (.dT kvs))from hok' d _ e');rw[g']at ho'';cases ho'';rw[hd]at hd';cases hd';have hl':es.size=xs'.length:=by rw[<-jX,hes',aj]
 have hi':i<xs'.length:=by omega
 have hk:i<kvs.length:=by rw[Paired.length rel'];exact hi'
 have hp:=uj rel' (i:=i) (a:=kvs[i]) (b:=xs'[i]) (by simp[hk]) (by simp[hi']);have he:es[i]=entryOfKey (dP P w) xs'[i]:=by
  have:es.toList[i]?=some es[i]:=by simp[hi]
  rw[hes',cD,eB hi']at this;injection this with this;exact this.symm
 refine⟨.ref xs'[i].2.1,kvs[i].2,⟨kvs[i].1,by simp[hk],hp.2.1⟩,?_,?_⟩
 ·rw[he];exact rfl
 ·rw[he];exact hp.2.2.2
end L2
end

section
set_option Elab.async false
set_option linter.all false
set_option maxRecDepth 100000
namespace L2
open PySem PySem.Spec PyProof.Rows
section
variable{prog:bj}{w:World}{A:Around}{E:Zc}{s:Shared}{d v it:Addr}{es:Array ka}{ep i:Nat}
theorem Bu{Q:Zc}(hd:(d==gE)=false)(h:DQ s.heap d es ep)
  (q:∀h',h'.IsKeyIter s.heap.objs.size d 0 es.size ep->(∀b o,s.heap.get? b=some o->h'.get? b=some o)->Q (.ref s.heap.objs.size) { s with heap:=h' }):wpAny (model prog w) A (pyIter (.ref d)) Q E s:=by
 obtain⟨o,ho,hx,hdat⟩:=h.ex;refine wpAny_pyIter_slot h.ty F.slot_dict_iter <| qD F.slot_dict_iter h.ty F.entry_dict_iter ?_ (F.args_dict_iter_1 _);unfold bc.«dict.__iter__»;refine ak ?_;unfold bc.Dict.dictSlotNone;refine ak <| wpAny_notOrdered_dict h.ty <| ?_;refine aF (show wpAny _ _ (bc.Dict.showsAll d >>= _) _ _ s from ?_);unfold bc.Dict.showsAll;rw[if_neg (fun z=>by rw[hd]at z;cases z)];refine ak <| aF <| ak <| uY ho hdat <| ak <| wpAny_dictEpoch ho hdat ?_;refine ak (j9 (aF ⟨_,rfl,"dict_keyiterator",_,⟨_,cb _ rfl,rfl⟩,qN.lookup,?_⟩));exact q _ ⟨_,cb _ rfl,rfl,by simp[rawInt]⟩ fun b o e=>aO _ e
theorem Bt{Q:Option Value->Shared->Prop}(hit:s.heap.IsKeyIter it d i es.size ep)(h:DQ s.heap d es ep)(hi:i<es.size)
  (q:∀h',h'.IsKeyIter it d (i+1) es.size ep->gD it s.heap h'->Q (some es[i].key) { s with heap:=h' }):wpAny (model prog w) A (pyNext (.ref it)) Q E s:=by
 obtain⟨ov,hov,hcv,hdv⟩:=id hit;obtain⟨o,ho,hx,hdat⟩:=h.ex;have hT:=hit.typeIs;unfold pyNext;refine ak <| n5 <| j8 (name:=jo "__next__") hT qN <| qD qN hT F.entry_dict_keyiterator_next ?_ (F.args_dict_keyiterator_next_1 _);refine ak <| aF <| ak <| ak ?_
 first|refine ak <| uV hT <| aF ?_|refine ak <| uU hT <| aF ?_
 refine ak <| wpAny_fieldsOf hov hdv ?_;simp only[show bc.Dict_items.ownsTuple "dict_keyiterator"=false by decide,j6,if_false];show wpAny _ _ (if(Value.ref d==Value.none)=true then _ else _) _ _ _
 rw[if_neg (show ¬((Value.ref d==Value.none)=true)from gm)];refine ak <| aF <| ak <| uY ho hdat ?_;rw[if_neg (by simp)];refine ak <| aF <| ak <| wpAny_dictEpoch ho hdat ?_;rw[if_neg (by simp)];refine aF ?_;simp only[show ¬((i:Int)<0)from by omega,if_false,jq,jn hi];refine ak ?_
 first|refine ak <| uV hT <| aF ?_|refine ak <| uU hT <| aF ?_
 refine ak <| wpAny_isOneOf_keyiter hT ?_;show wpAny _ _ (setField (.ref it) 1 (rawInt ((i:Int)+1)) >>= _) _ _ s;refine ak <| vc hov hdv (by simp) ?_;have n1:(s.heap.update it (Obj.mapFields (·.setIfInBounds 1 (rawInt ((i:Int)+1))))).IsKeyIter it d (i+1) es.size ep:=⟨_,jp _ hov (Obj.isFreed_of_fields (vb hdv _)),(Obj.cls_mapFields ..).trans hcv,by rw[vb hdv];simp[rawInt]⟩;have T1:=Heap.IsKeyIter.typeIs (s:={ s with heap:=s.heap.update it (Obj.mapFields (·.setIfInBounds 1 (rawInt ((i:Int)+1)))) }) n1;refine ak <| iX <| ak <| wpAny_isOneOf_keyiter T1 ?_;show wpAny _ _ (pure es[i].key) _ _ _;exact aF <| aF ⟨_,rfl,aF <| q _ n1 (lN ..)⟩
theorem CS{Q:Option Value->Shared->Prop}(hh:A.handled=none)(hit:s.heap.IsKeyIter it d i es.size ep)(h:DQ s.heap d es ep)(hi:es.size<=i)
  (q:∀h',Heap.ExtBut it s.heap h'->Q none { s with heap:=h' }):wpAny (model prog w) A (pyNext (.ref it)) Q E s:=by
 obtain⟨ov,hov,hcv,hdv⟩:=id hit;obtain⟨o,ho,hx,hdat⟩:=h.ex;have hT:=hit.typeIs;unfold pyNext;refine ak <| n5 <| j8 (name:=jo "__next__") hT qN <| qD qN hT F.entry_dict_keyiterator_next ?_ (F.args_dict_keyiterator_next_1 _);refine ak <| aF <| ak <| ak ?_
 first|refine ak <| uV hT <| aF ?_|refine ak <| uU hT <| aF ?_
 refine ak <| wpAny_fieldsOf hov hdv ?_;simp only[show bc.Dict_items.ownsTuple "dict_keyiterator"=false by decide,j6,if_false];show wpAny _ _ (if(Value.ref d==Value.none)=true then _ else _) _ _ _
 rw[if_neg (show ¬((Value.ref d==Value.none)=true)from gm)];refine ak <| aF <| ak <| uY ho hdat ?_;rw[if_neg (by simp)];refine ak <| aF <| ak <| wpAny_dictEpoch ho hdat ?_;rw[if_neg (by simp)];refine aF ?_;simp only[show ¬((i:Int)<0)from by omega,if_false,jq,qM hi];refine ak ?_
 first|refine ak <| uV hT <| aF ?_|refine ak <| uU hT <| aF ?_
 show wpAny _ _ (setField (.ref it) 0 .none >>= _) _ _ s;refine ak <| vc hov hdv (by simp) ?_;show wpAny _ _ (newExc (.type "StopIteration") [] >>= _) _ _ _;refine ak ?_;simp only[newExc,newTuple];refine ak <| j9 ?_ (by size_fits);refine ak (m:=va _ _) <| wpAny_of_eq (a:=Value.none) (by first|rfl|(simp only[va];rfl)) <| j9 ?_ (by size_fits)
 simp only[raiseNew];refine ak <| wpAny_handled ?_;rw[show A.in1.handled=none from hh];refine ak <| aF <| wpAny_throw ?_;refine ak (xa (b:=true) (T:="StopIteration") ⟨_,cb _ rfl,rfl⟩ isSubtype_stop (aF (q _ (((lN ..).extBut.push _).push _))))
end
def GA(d:Addr)(o:Obj)(u:HO)(n:Nat)(ent:Nat->Hp->V->V->Prop):It :=
 ⟨fun i H=>H d=some (.frz o u)/\i<n,fun i H x H'=>H'=H/\∃b,ent i H x b,fun i H=>H d=some (.frz o u)/\n<=i⟩
theorem A6{P:bj}{w:World}{K:Za}{tg:Expr}{d it:Addr}{o:Obj}{u:HO}{n:Nat}{ent:Nat->Hp->V->V->Prop}{es:Array ka}{ep:Nat}(X0:Gu P w K d o u n ent es ep):
  pY P w K tg (GA d o u n ent) [it] it (fun i h=>h.IsKeyIter it d i n ep) where
 mem:=by simp
 obj:=fun i h st b hb=>by
  have e:b=it:=by simpa using hb
  subst e;obtain⟨o,e,c,d⟩:=st;exact⟨o,e,fun v z=>by rw[d]at z;cases z⟩
 keep:=fun i h h' st k=>st.at fun o e=>k it (by simp) o e
 item:=by
  intro X hP hw hK hc i J3 s σ H E I hf st hg;subst hP hw hK;obtain⟨hd,hi⟩:=hg;have hi':i<es.size:=by rw[X0.sz];exact hi
  obtain⟨g,ou⟩:=(show cq X.prog X.w X.K H s.heap d (.frz o u)from I.hok d _ hd);obtain⟨a,b,en,ra,rb⟩:=X0.get hi' I.hok hd;obtain⟨f0,f1,f2,f3,f4,f5⟩:=hf it (by simp);rw[<-X0.sz]at st;refine Bt st ⟨o,g,X0.ex,X0.dat⟩ hi' fun h' st' sb=>?_;have I1:Inv X J3 σ H { s with heap:=h' }:=I.turned (t':=s.toks) (fun b o hb e=>(sb.2 b hb).trans e) f0 f1 f3 f4 f5;obtain⟨oi,e,c,dd⟩:=id st';exact⟨_,rfl,sk (s:={ s with heap:=h' }) e c dd (by decide) ⟨a,H,I1,ra,⟨rfl,b,en⟩,by rw[<-X0.sz];exact st',fun b hb=>(hf b hb).1⟩⟩
 done:=by
  intro X hP hw hK hc i J3 s σ H E I hf st hg;subst hP hw hK;obtain⟨hd,hi⟩:=hg;obtain⟨g,ou⟩:=(show cq X.prog X.w X.K H s.heap d (.frz o u)from I.hok d _ hd);obtain⟨f0,f1,f2,f3,f4,f5⟩:=hf it (by simp);rw[<-X0.sz]at st;exact CS (I.ok.hd hc) st ⟨o,g,X0.ex,X0.dat⟩ (by rw[X0.sz];exact hi) fun h' eb=>⟨rfl,I.turned (t':=s.toks) (fun b o hb e=>eb b o hb e) f0 f1 f3 f4 f5⟩
 self:=fun _ _ _ _ _ st h=>wpAny_pyIter_keyiter st h
def Dp(K:Za)(tl:TE):TI:=fun σ H R=>tl σ H fun x H1=>∃d kvs,x=.ref d /\
 ((H1 d=some (.dT kvs)/\∀o,R (GA d o (.dT kvs) kvs.length (EZ K kvs)) (upd H1 d (.frz o (.dT kvs))))∨∃o,H1 d=some (.frz o (.dT kvs))/\R (GA d o (.dT kvs) kvs.length (EZ K kvs)) H1)
section
variable{X:Cx}{J3:Zd}{σ:St}{l tg:Expr}{tl:TE}
theorem uu{R:It->Hp->Prop}{H2:Hp}{s1:Shared}{d:Addr}{o:Obj}{u:HO}{n:Nat}{ent:Nat->Hp->V->V->Prop}{es:Array ka}{ep:Nat}(X0:Gu X.prog X.w X.K d o u n ent es ep)(hsys:(d==gE)=false)(I2:Inv X J3 σ H2 s1)(e:H2 d=some (.frz o u))(q:R (GA d o u n ent) H2):
  wpAny (model X.prog X.w) X.A (pyIter (.ref d)) (PIE X J3 σ tg R) X.xe s1:=by
 obtain⟨g,_⟩:=(show cq X.prog X.w X.K H2 s1.heap d (.frz o u)from I2.hok d _ e);refine Bu hsys ⟨o,g,X0.ex,X0.dat⟩ fun h' hit hk=>?_;have I3:Inv X J3 σ H2 { s1 with heap:=h',toks:=s1.toks }:=I2.kept (t':=s1.toks) hk;refine⟨_,[_],_,_,H2,rfl,I3,A6 X0,by rw[<-X0.sz];exact hit,fun b hb=>?_,q⟩;have e:b=s1.heap.objs.size:=by simpa using hb
 subst e;exact I2.fpOk (ay _) (I2.hok.fresh (ay _))
theorem C1(hl:PE X l tl):PI X tg l (Dp X.K tl):=by
 intro J3 s σ H R I h;refine ca (hl J3 s σ H _ I h) fun v s1 ⟨x,H1,I1,r1,d,kvs,ex,q⟩=>?_;subst ex;cases r1;rcases q with⟨e,q⟩|⟨o,e,q⟩
 ·obtain⟨z,hsys,xs',rel,o,es,ep,ho,r⟩:=id (show cq X.prog X.w X.K H1 s1.heap d (.dT kvs)from I1.hok d _ e);have I2:Inv X J3 σ (upd H1 d (.frz o (.dT kvs))) { s1 with heap:=s1.heap,toks:=s1.toks } :=
   I1.write (x:=d) (e:=d) (t':=s1.toks) (by rw[e];trivial) (.inl rfl) (fun _ _ _ q=>q) ⟨o,ho⟩ ⟨ho,z,hsys,xs',Paired.mapP rel (fun p q r=>⟨r.1,pD.keeps (fun b ys eb=>by rw[ah (fun z=>by rw[z,e]at eb;cases eb)];exact eb) 8 r.2.2.1 r.2.1,r.2.2⟩),o,es,ep,ho,r⟩
  obtain⟨hsys',es',ep',X0⟩:=uy I2.hok (aa (H:=H1) (a:=d));exact uu X0 hsys' I2 aa (q o)
 ·obtain⟨hsys',es',ep',X0⟩:=uy I1.hok e;exact uu X0 hsys' I1 e q
end
end L2
end

section
set_option Elab.async false
set_option linter.all false
set_option maxRecDepth 100000
namespace HT
open PySem PySem.Spec PyProof.Rows
end HT
namespace L2
open PySem PySem.Spec PyProof.Rows
end L2
namespace HT
open PySem PySem.Spec PyProof.Rows
end HT
namespace L2
open PySem PySem.Spec PyProof.Rows
end L2
end

section
set_option Elab.async false
set_option linter.all false
set_option maxRecDepth 100000
namespace HT
open PySem PyProof.Rows
end HT
namespace L2
open PySem PySem.Spec PyProof.Rows
inductive NE2{T0 T1:Type}(P:T0->T1->Prop):Prop
 |mk (x0:T0) (x1:T1):P x0 x1->NE2 P
inductive Hn{T0 T1 T2:Type}(P:T0->T1->T2->Prop):Prop
 |mk (x0:T0) (x1:T1) (x2:T2):P x0 x1 x2->Hn P
inductive Ho(p0 p1 p2 p3 p4:Prop):Prop
 |mk:p0->p1->p2->p3->p4->Ho p0 p1 p2 p3 p4
inductive NA6(p0 p1 p2 p3 p4 p5:Prop):Prop
 |mk:p0->p1->p2->p3->p4->p5->NA6 p0 p1 p2 p3 p4 p5
theorem uz{f g:Nat->Option Value}:∀{l:List Nat},(∀m∈l,f m=g m)->l.filterMap f=l.filterMap g
 |[],_=>rfl
 |a::l,h=>by rw[tV,tV,h a dE,uz fun m hm=>h m (dD _ hm)]
theorem rK:∀ys:List Value,(jZ ys.length).filterMap (fun m=>ys[m]?)=ys
 |[]=>rfl
 |y::ys=>by
  rw[fh,List.range_succ_eq_map,tV,List.filterMap_map];simp only[List.getElem?_cons_zero];congr 1;exact rK ys
theorem y9(n:Nat):qQ ((n:Int)-1) (-1) (-1)=(jZ n).map fun(k:Nat)=>((n:Int)-1+(-1) * (k:Int)).toNat:=by
 unfold qQ;have e:(if(-1:Int) > 0 then if(n:Int)-1 < -1 then(-1-((n:Int)-1)+-1-1) / -1 else 0 else if(n:Int)-1 > -1 then((n:Int)-1 - -1 - -1-1) / - -1 else 0).toNat=n:=by
  rw[if_neg (by decide)];by_cases h:(n:Int)-1 > -1
  ·rw[if_pos h,show((n:Int)-1 - -1 - -1-1)=n by omega,show(- -1:Int)=1 by decide,Int.ediv_one];omega
  ·rw[if_neg h];omega
 simp only[e]
theorem tq(xs:Zf):vk xs.toArray none none (some (-1))=xs.reverse.toArray:=by
 have e:vk xs.toArray none none (some (-1))=((qQ ((xs.toArray.size:Int)-1) (-1) (-1)).filterMap fun m=>xs.toArray[m]?).toArray:=rfl;rw[e,bp,y9,List.filterMap_map];congr 1;have h:=rK xs.reverse;rw[gu]at h;refine Eq.trans (uz fun m hm=>?_) h;have lt:=List.mem_range.1 hm;have e1:((xs.length:Int)-1+(-1) * (m:Int)).toNat=xs.length-1-m:=by omega
 show xs.toArray[((xs.length:Int)-1+(-1) * (m:Int)).toNat]?=_;rw[e1,uT lt,List.getElem?_toArray]
def Fo(K:Za)(te:TE):TE:=fun σ H Q=>te σ H fun x H1=>∃a xs,x=.ref a/\ax K H1 a xs/\∀p,H1 p=none->Q (.ref p) (upd H1 p (.lst xs.reverse))
theorem EJ{X:Cx}{e st:Expr}{te:TE}{p2 pos:Pos}(he:PE X e te)(hst:PE X st (FM (rU fun i=>.int (-i)) (tC (.int 1)))):PE X (.Subscript e (.Slice none none (some st) p2) pos) (Fo X.K te):=by
 intro J3 s σ H Q I h;refine vo (ca (he J3 s σ H _ I h) fun v s1 ⟨x,H1,I1,r1,a,xs,e1,hx,q⟩=>?_);subst e1;cases r1;refine wpAny_Slice ?_;rw[evalPart_none];refine aF ?_;refine aF ?_;rw[evalPart_some];refine ca (hst J3 s1 σ H1 (fun x H2=>x=.int (-1)/\H2=H1) I1 ⟨_,rfl,rfl,rfl⟩) fun vu s3 ⟨y,H3,I3,r3,e3,e4⟩=>?_;subst e3 e4;obtain⟨u,rfl⟩:=r3;have I4:Inv X J3 σ H3 { s3 with heap:=s3.heap.push { cls:=.type "slice",data:=.fields #[.none,.none,.int (-1) u] } }:=I3.kept (t':=s3.toks) fun b ob q=>aO _ q;obtain⟨its,r,ht,hz⟩:=I4.list hx;show wpAny (model X.prog X.w) X.A (vn e (.Slice none none (some st) p2) (.ref a) (.ref s3.heap.objs.size)) (EP X J3 σ Q) X.xe { s3 with heap:=s3.heap.push { cls:=.type "slice",data:=.fields #[.none,.none,.int (-1) u] } };have hlen:=r.length;refine tail_any (ops:=[.ref a,.ref s3.heap.objs.size]) ht.isList.typeIs slot_list_getitem.lookup (wpAny_getItem_list_slice ht.isList (Heap.IsSliceOf.new ..) .none .none (.int (-1) u) (by simp) ?_ (by rw[bp]<;>omega)) (by with_unfolding_all rfl);rw[tq];refine⟨.ref _,_,I4.laid (t':=s3.toks) (o:=.lst xs.reverse) (fun b ob q=>aO _ q) (ay _) ?_,rfl,q _ (I4.hok.fresh (ay _))⟩;exact⟨by rw[gu];exact hz,_,0,r.reverse,cb _ rfl⟩
end L2
end

section
set_option Elab.async false
set_option linter.all false
set_option maxRecDepth 100000
namespace L2
open PySem PySem.Spec PyProof.Rows
abbrev Ft(K:Za):List V->Hp->VK->Prop:=fun xs H Q=>∃(p:Addr) (ns:List Int),xs=[.ref p]/\ax K H p (ns.map V.int)/\Q (.int ns.sum) H
abbrev Ai:R2:=rI IntMulOk fun i j=>.int (i * j)
section
variable{X:Cx}
theorem BX(hc:X.calm=true):fM X (.builtin "sum") (Ft X.K):=by
 intro J3 s σ H xs us Q I r h;obtain⟨p,ns,rfl,hq,q⟩:=h;obtain⟨u,rfl,ru⟩:=vals1 r;cases ru;obtain⟨its,rv,pl,hz⟩:=I.list hq;obtain⟨zs,rfl,ens⟩:=Ae rv;have isl:s.heap.IsList p (intItems zs.toArray):=by
  have:=pl.isList;have e:intItems zs.toArray=(zs.map fun p=>Value.int p.1 p.2).toArray:=by simp[intItems]
  rw[e];exact this
 refine sum_intListG (I.ok.hd hc) isl fun h' tk t' hk=>?_;rw[preSum_eq,qK (by simp)];exact⟨.int ns.sum,H,I.kept hk,⟨t',by rw[<-ens]⟩,q⟩
theorem wc:lu X (jW .Mult) Ai:=Gw fun _ _ _ _ _ _ _ hc q=>mul_int q hc
end
def DY(_ j:Int):Prop:=0<j/\j.natAbs.log2<9000
abbrev Fw:R2:=rI DY fun i j=>.int (i / j)
abbrev Al:List V->Hp->VK->Prop:=fun xs H Q=>∃i j,xs=[.int i,.int j]/\DY i j/\∀p,H p=none->Q (.ref p) (upd H p (.tup [.int (i / j),.int (i % j)]))
def DU(K:Za)(a:Addr)(n:Nat):It :=
 ⟨fun i H=>i<n/\∃xs,ax K H a xs/\xs.length=n,fun i H x H'=>H'=H/\∀xs,ax K H a xs->xs[n-1-i]?=some x,fun i _=>n<=i⟩
def GX(K:Za)(ta:TA):TI:=fun σ H R=>ta σ H fun vs H1=>∃a xs,vs=[.ref a]/\ax K H1 a xs/\R (DU K a xs.length) H1
theorem EY{K:Za}{a:Addr}{xs:List V}{g:TG}{tb:TS}{D:qg}{σ:St}{H:Hp}(Pv:Nat->St->Hp->Prop)(h0:Pv 0 σ H)(hl:∀i σ H,i<=xs.length->Pv i σ H->ax K H a xs)
  (hs:∀i x σ H,xs[xs.length-1-i]?=some x->i<xs.length->Pv i σ H->g x σ H fun σ2 H2=>tb { D with nx:=Pv (i+1),ct:=Pv (i+1),bk:=D.nx } σ2 H2) (hd:∀σ H,Pv xs.length σ H->D.nx σ H) :
  ∃W:Nat->Nat->St->Hp->Prop,(∃m,W 0 m σ H)/\∀i m σ H,W i m σ H ->
   ((DU K a xs.length).stop i H/\D.nx σ H)∨((DU K a xs.length).go i H/\∃N:St->Hp->Prop,(∀σ' H',N σ' H'->∃m',m'<m/\W (i+1) m' σ' H')/\∀x H',(DU K a xs.length).yld i H x H'->g x σ H' fun σ2 H2=>tb { D with nx:=N,ct:=N,bk:=D.nx } σ2 H2):=by
 refine⟨fun i m σ H=>m=xs.length-i/\i<=xs.length/\Pv i σ H,⟨xs.length,by simp,eS _,h0⟩,?_⟩;rintro i m σ H ⟨rfl,hi,p⟩;have q:=hl i σ H hi p;by_cases lt:i<xs.length
 ·refine .inr ⟨⟨lt,xs,q,rfl⟩,Pv (i+1),fun σ' H' p'=>⟨xs.length-(i+1),by omega,rfl,lt,p'⟩,fun x H' y=>?_⟩;obtain⟨rfl,y⟩:=y;exact hs i x σ _ (y xs q) lt p
 ·have e:i=xs.length:=by omega
  subst e;exact .inl ⟨ay _,hd σ H p⟩
theorem sE:lD "reversed"=some (.type "reversed"):=by decide +kernel
section
variable{X:Cx}
theorem C8:lu X (jW .FloorDiv) Fw:=Gw fun i j _ _ _ _ _ hc q=>by
 have h1:(0:Int)<j:=hc.1;exact floordiv_int (by omega) (by rw[Int.fdiv_eq_ediv_of_nonneg i (by omega)];exact q) (.inl (PyProof.noPylong_of_log2 hc.2))
theorem wE:fM X (.builtin "divmod") Al:=by
 intro J3 s σ H xs us Q I r h;obtain⟨i,j,rfl,hc,q⟩:=h;obtain⟨u,v,rfl,ru,rv⟩:=vals2 r;obtain⟨t,rfl⟩:=ru;obtain⟨t',rfl⟩:=rv;have h1:0<j:=hc.1;refine divmod_int (by omega) ?_ (.inl (PyProof.noPylong_of_log2 hc.2));rw[Int.fdiv_eq_ediv_of_nonneg i (by omega),Int.fmod_eq_emod_of_nonneg i (by omega)];exact⟨.ref s.heap.objs.size,_,I.laid (t':=s.toks+1+1) (fun b o e=>aO _ e) (ay _) (show cq X.prog X.w X.K _ _ _ (.tup [.int (i / j),.int (i % j)])from⟨by show 2<=ai;decide,_,.cons ⟨_,rfl⟩ (.cons ⟨_,rfl⟩ .nil),IsTup.new _ _⟩),rfl,q _ (I.hok.fresh (ay _))⟩
theorem Cq{P:bj}{w:World}{K:Za}{tg:Expr}(a it:Addr)(n:Nat):pY P w K tg (DU K a n) [it] it (fun i h=>i<=n/\h.IsRevIter it a ((n:Int)-1-(i:Int))) where
 mem:=by simp
 obj:=fun i h st b hb=>by
  have e:b=it:=by simpa using hb
  subst e;obtain⟨_,o,e,c,d⟩:=st;exact⟨o,e,fun v z=>by rw[d]at z;cases z⟩
 keep:=fun i h h' st k=>⟨st.1,st.2.at fun o e=>k it (by simp) o e⟩
 item:=by
  intro X hP hw hK hc i J3 s σ H E I hf st hg;subst hP hw hK;obtain⟨hi,xs,hq,hx⟩:=hg;obtain⟨its,rv,p,hz⟩:=I.list hq;have hl:=rv.length;obtain⟨x,ex⟩:∃x,xs[n-1-i]?=some x:=⟨_,eB (by omega)⟩;obtain⟨u,hu,ru⟩:=rv.get ex;obtain⟨f0,f1,f2,f3,f4,f5⟩:=hf it (by simp);have e1:(n:Int)-1-(i:Int)=((n-1-i:Nat):Int):=by omega
  have st2:=st.2;rw[e1]at st2;refine wpAny_pyNext_rev_item st2 p.isList (x:=u) (by simpa using hu) fun h' st' sb=>?_;have I1:Inv X J3 σ H { s with heap:=h' }:=I.turned (t':=s.toks) (fun b o hb e=>(sb.2 b hb).trans e) f0 f1 f3 f4 f5;have e2:((n-1-i:Nat):Int)-1=(n:Int)-1-((i+1:Nat):Int):=by omega
  rw[e2]at st';obtain⟨o,e,c,d⟩:=id st';exact⟨u,rfl,sk (s:={ s with heap:=h' }) e c d (by decide) ⟨x,H,I1,ru,⟨rfl,fun ys hy=>by rw[I.list_inj hy hq];exact ex⟩,⟨hi,st'⟩,fun b hb=>(hf b hb).1⟩⟩
 done:=by
  intro X hP hw hK hc i J3 s σ H E I hf st hg;subst hP hw hK;obtain⟨f0,f1,f2,f3,f4,f5⟩:=hf it (by simp);have hg:n<=i:=hg;have e1:(n:Int)-1-(i:Int)=-1:=by have:=st.1;omega
  have st2:=st.2;rw[e1]at st2;exact wpAny_pyNext_rev_end (I.ok.hd hc) st2 fun h' eb=>⟨rfl,I.turned (t':=s.toks) (fun b o hb e=>eb b o hb e) f0 f1 f3 f4 f5⟩
 self:=fun _ _ _ _ _ st h=>wpAny_pyIter_revIter st.2 h
variable{tg l:Expr}{ta:TA}{p pos:Pos}
theorem FX(hg:Gl X "reversed")(hm:X.mg "reversed"=none)(ha:PA X [l] ta)(hs:aA [l] X.env=[(false,eval l X.env)]:=by rfl):PI X tg (.Call (.Name "reversed" p) [l] [] pos) (GX X.K ta):=by
 intro J3 s σ H R I h;refine Call_ (iQ I hg hm sE (mJ (ca (ha pos J3 s σ H _ I h) fun us s1 ⟨vs,H1,I1,r1,q1⟩=>?_) (by rw[hs];rfl) (by rfl)));obtain⟨a,xs,e,hq,q⟩:=q1;subst e;obtain⟨u,rfl,ru⟩:=vals1 r1;cases ru;obtain⟨its,rv,pl,hz⟩:=I1.list hq;have hl:=rv.length;refine call_reversed_list pl.isList ?_;have e:((its.toArray.size:Nat):Int)-1=(xs.length:Int)-1-((0:Nat):Int):=by rw[bp,hl];omega
 rw[e];have hit:(s1.heap.push (revObj a ((xs.length:Int)-1-((0:Nat):Int)))).IsRevIter s1.heap.objs.size a ((xs.length:Int)-1-((0:Nat):Int)):=⟨_,cb _ rfl,rfl,rfl⟩;refine wpAny_pyIter_revIter (s:={ s1 with heap:=s1.heap.push (revObj a ((xs.length:Int)-1-((0:Nat):Int))) }) hit ?_;have fin:∀b∈[s1.heap.objs.size],lA X J3 H1 b:=fun b hb=>by
  have e:b=s1.heap.objs.size:=by simpa using hb
  subst e;exact I1.fpOk (ay _) (I1.hok.fresh (ay _))
 exact⟨s1.heap.objs.size,[s1.heap.objs.size],_,_,H1,rfl,I1.kept (t':=s1.toks) fun b o e=>aO _ e,Cq a _ _,⟨eS _,hit⟩,fin,q⟩
end
def wT(h:Heap)(z TI TO T:Addr):Prop:=∃b:Bool,h.get? z=some { cls:=.type "zip",dict:=none,data:=.fields #[rawInt T,.bool b,.bool false,.ref TI,.ref TO],slots:=#[] }
section
variable{prog:bj}{w:World}{A:Around}{E:Zc}{s:Shared}
theorem sR{a:Addr}{Q:Option Obj->Shared->Prop}(h:Q (s.heap.get? a) s):wpAny (model prog w) A (loadIfAlive a) Q E s:=fun Γ p _=>by
 unfold loadIfAlive;rw[Sem.wp_loadIfAlive];exact h
theorem uq{z TI TO T:Addr}{o:Obj}{Q:Bool->Shared->Prop}(hz:wT s.heap z TI TO T)(hT:s.heap.get? T=some o)
  (hQ:∀h',wT h' z TI TO T->gD z s.heap h'->Q false { s with heap:=h' }):wpAny (model prog w) A (j7 (.ref z)) Q E s:=by
 obtain⟨b,hz⟩:=hz;unfold j7;refine ak (dw hz rfl (x:=rawInt T) rfl ?_);show wpAny _ _ (loadIfAlive ((T:Int).toNat) >>= _) _ _ _;refine ak (sR ?_);rw[jq,hT];simp only[Option.isNone_some,j6,if_false];refine ak (dw hz rfl (x:=.bool b) rfl ?_);cases b with
 |true=>exact aF (hQ _ ⟨true,hz⟩ (gD.refl ..))
 |false=>exact ak (lM hz (by simp) fun h' hz' hs'=>aF (hQ h' ⟨true,hz'⟩ hs'))
theorem BH{z TI TO T i1 i2 l1 l2:Addr}{k1 k2:Nat}{xs ys:Array Value}{x y:Value}{o:Obj}{Q:Zc}(D:fO z TI TO i1 i2 l1 l2)
  (hz:wT s.heap z TI TO T) (hT:s.heap.get? T=some o) (hTI:IsPair s.heap TI (.ref i1) (.ref i2))
  (h1:s.heap.IsListIter i1 l1 k1) (h2:s.heap.IsListIter i2 l2 k2) (hl1:s.heap.IsList l1 xs) (hl2:s.heap.IsList l2 ys) (hx:xs[k1]?=some x) (hy:ys[k2]?=some y)
  (hQ:∀h',wT h' z TI TO T->h'.IsListIter i1 l1 (k1+1)->h'.IsListIter i2 l2 (k2+1)->IsPair h' s.heap.objs.size x y->h'.objs.size=s.heap.objs.size+1 ->
   (∀c o,c≠z->c≠i1->c≠i2->s.heap.get? c=some o->h'.get? c=some o)->Q (.ref s.heap.objs.size) { s with heap:=h' }) :
  wpAny (model prog w) A (bc.«zip.__next__» ⟨[.ref z],[]⟩) (fun fin s'=>∃v,fin=.done (.ret v)/\Q v s') E s:=by
 obtain⟨b,gz⟩:=id hz;show wpAny _ _ (field (.ref z) 2 >>= _) _ _ _;refine ak (dw gz rfl (x:=.bool false) rfl ?_);show wpAny _ _ (field (.ref z) 3 >>= _) _ _ _;refine ak (dw gz rfl (x:=.ref TI) rfl (ak (iW hTI rfl ?_)));show wpAny _ _ (j7 (.ref z) >>= _) _ _ _;refine ak (uq hz hT fun h₁ hz₁ hs₁=>?_);simp only[j6,if_false];refine ak ?_;simp only[<-Eb,lO,u_];refine ak (ak (iX ?_));show wpAny _ _ (gp (.ref i1) >>= _) _ _ _;refine ak (wpAny_nextOf_list_item (h1.extBut hs₁.extBut D.i1z) (hl1.extBut hs₁.extBut D.l1z) hx fun h₂ h1₂ hs₂=>aF ?_);refine aF (ak (ak (iX ?_)));show wpAny _ _ (gp (.ref i2) >>= _) _ _ _;refine ak (wpAny_nextOf_list_item ((h2.extBut hs₁.extBut D.i2z).extBut hs₂.extBut D.i12.symm) ((hl2.extBut hs₁.extBut D.l2z).extBut hs₂.extBut D.l2i1) hy fun h₃ h2₃ hs₃=>aF ?_);refine aF (aF ?_);have sz:h₃.objs.size=s.heap.objs.size:=by rw[hs₃.1,hs₂.1,hs₁.1]
 refine ak (wpAny_newTuple (hsz:=by show 2<=ai;decide) ?_);obtain⟨b₁,gz₁⟩:=hz₁;have gz₃:=hs₃.extBut _ _ D.i2z.symm (hs₂.extBut _ _ D.i1z.symm gz₁);refine aF ⟨_,rfl,?_⟩;rw[sz];refine hQ _ ⟨b₁,aO _ gz₃⟩ ((h1₂.extBut hs₃.extBut D.i12).at fun o e=>aO _ e) (h2₃.at fun o e=>aO _ e) ?_ (by rw[jV,sz]) fun c o c1 c2 c3 e=>aO _ (hs₃.extBut _ _ c3 (hs₂.extBut _ _ c2 (hs₁.extBut _ _ c1 e)));rw[<-sz];exact cb _ rfl
theorem Dh{z TI TO T i1 i2 l1 l2:Addr}{k1 k2:Nat}{xs ys:Array Value}{o:Obj}{Q:Fin->Shared->Prop}(hh:A.handled=none)(D:fO z TI TO i1 i2 l1 l2)
  (hz:wT s.heap z TI TO T) (hT:s.heap.get? T=some o) (hTI:IsPair s.heap TI (.ref i1) (.ref i2))
  (h1:s.heap.IsListIter i1 l1 k1) (h2:s.heap.IsListIter i2 l2 k2) (hl1:s.heap.IsList l1 xs) (hl2:s.heap.IsList l2 ys) (hend:xs[k1]?=none∨ys[k2]?=none)
  (hE:∀h' e,(∀c o,c≠z->c≠i1->c≠i2->s.heap.get? c=some o->h'.get? c=some o)->(∃o,h'.get? e=some o/\o.cls=.type "StopIteration")->E (.ref e) { s with heap:=h' }) :
  wpAny (model prog w) A (bc.«zip.__next__» ⟨[.ref z],[]⟩) Q E s:=by
 obtain⟨b,gz⟩:=id hz;show wpAny _ _ (field (.ref z) 2 >>= _) _ _ _;refine ak (dw gz rfl (x:=.bool false) rfl ?_);show wpAny _ _ (field (.ref z) 3 >>= _) _ _ _;refine ak (dw gz rfl (x:=.ref TI) rfl (ak (iW hTI rfl ?_)));show wpAny _ _ (j7 (.ref z) >>= _) _ _ _;refine ak (uq hz hT fun h₁ hz₁ hs₁=>?_);simp only[j6,if_false];refine ak ?_;simp only[<-Eb,lO,u_];refine ak (ak (iX ?_));show wpAny _ _ (gp (.ref i1) >>= _) _ _ _;cases hx:xs[k1]? with
 |none=>exact ak (wpAny_nextOf_list_end hh (h1.extBut hs₁.extBut D.i1z) (hl1.extBut hs₁.extBut D.l1z) hx fun h₂ e hs₂ he=>hE h₂ e (fun c o c1 c2 _ x=>hs₂ _ _ c2 (hs₁.extBut _ _ c1 x)) he)
 |some x =>
  have hy:ys[k2]?=none:=by rcases hend with h|h;rw[hx]at h;cases h;exact h
  refine ak (wpAny_nextOf_list_item (h1.extBut hs₁.extBut D.i1z) (hl1.extBut hs₁.extBut D.l1z) hx fun h₂ h1₂ hs₂=>aF ?_);refine aF (ak (ak (iX ?_)));show wpAny _ _ (gp (.ref i2) >>= _) _ _ _;exact ak (wpAny_nextOf_list_end hh ((h2.extBut hs₁.extBut D.i2z).extBut hs₂.extBut D.i12.symm) ((hl2.extBut hs₁.extBut D.l2z).extBut hs₂.extBut D.l2i1) hy fun h₃ e hs₃ he=>hE h₃ e (fun c o c1 c2 c3 x=>hs₃ _ _ c3 (hs₂.extBut _ _ c2 (hs₁.extBut _ _ c1 x))) he)
theorem BF{z TI TO T i1 i2 l1 l2:Addr}{k1 k2:Nat}{xs ys:Array Value}{x y:Value}{o:Obj}{Q:Option Value->Shared->Prop}(D:fO z TI TO i1 i2 l1 l2)
  (hz:wT s.heap z TI TO T) (hT:s.heap.get? T=some o) (hTI:IsPair s.heap TI (.ref i1) (.ref i2))
  (h1:s.heap.IsListIter i1 l1 k1) (h2:s.heap.IsListIter i2 l2 k2) (hl1:s.heap.IsList l1 xs) (hl2:s.heap.IsList l2 ys) (hx:xs[k1]?=some x) (hy:ys[k2]?=some y)
  (hQ:∀h',wT h' z TI TO T->h'.IsListIter i1 l1 (k1+1)->h'.IsListIter i2 l2 (k2+1)->IsPair h' s.heap.objs.size x y->h'.objs.size=s.heap.objs.size+1 ->
   (∀c o,c≠z->c≠i1->c≠i2->s.heap.get? c=some o->h'.get? c=some o)->Q (some (.ref s.heap.objs.size)) { s with heap:=h' }):wpAny (model prog w) A (pyNext (.ref z)) Q E s:=by
 have tz:s.TypeIs (.ref z) "zip":=let⟨_,e⟩:=hz;⟨_,e,rfl⟩;unfold pyNext;exact ak (n5 (j8 (name:=jo "__next__") tz j5
  (qD j5 tz u7 (BH D hz hT hTI h1 h2 hl1 hl2 hx hy fun h' a1 a2 a3 a4 a5 a6=>aF (hQ h' a1 a2 a3 a4 a5 a6)) (u6 _))))
theorem BE{z TI TO T i1 i2 l1 l2:Addr}{k1 k2:Nat}{xs ys:Array Value}{o:Obj}{Q:Option Value->Shared->Prop}(hh:A.handled=none)(D:fO z TI TO i1 i2 l1 l2)
  (hz:wT s.heap z TI TO T) (hT:s.heap.get? T=some o) (hTI:IsPair s.heap TI (.ref i1) (.ref i2))
  (h1:s.heap.IsListIter i1 l1 k1) (h2:s.heap.IsListIter i2 l2 k2) (hl1:s.heap.IsList l1 xs) (hl2:s.heap.IsList l2 ys) (hend:xs[k1]?=none∨ys[k2]?=none)
  (hQ:∀h',(∀c o,c≠z->c≠i1->c≠i2->s.heap.get? c=some o->h'.get? c=some o)->Q none { s with heap:=h' }):wpAny (model prog w) A (pyNext (.ref z)) Q E s:=by
 have tz:s.TypeIs (.ref z) "zip":=let⟨_,e⟩:=hz;⟨_,e,rfl⟩;unfold pyNext;refine ak (n5 (j8 (name:=jo "__next__") tz j5
  (qD j5 tz u7 (Dh hh D hz hT hTI h1 h2 hl1 hl2 hend fun h' e hk he=>?_) (u6 _))))
 obtain⟨o,ho,hc⟩:=he;exact ak (xa (T:="StopIteration") (b:=true) ⟨o,ho,hc⟩ isSubtype_stop (aF (hQ _ hk)))
end
structure dX(B:Nat)(S:Addr)(xs ys:Array Value)(h:Heap)(acc:Array Value)(ts:Ze)(i:Nat):Prop where
 is:acc.toList=ts.map .ref
 len:ts.length=i
 at':∀(j:Nat) t,ts[j]?=some t->B<=t/\∃x y,xs[j]?=some x/\ys[j]?=some y/\IsPair h t x y
 uni:ts.Nodup
theorem dX.keep{B:Nat}{S:Addr}{xs ys:Array Value}{h h':Heap}{acc:Array Value}{ts:Ze}{i:Nat}(d:dX B S xs ys h acc ts i)(k:∀c o,B<=c->h.get? c=some o->h'.get? c=some o):dX B S xs ys h' acc ts i :=
 ⟨d.is,d.len,fun j t e=>let⟨a,x,y,b,c,q⟩:=d.at' j t e;⟨a,x,y,b,c,k _ _ a q⟩,d.uni⟩
theorem dX.push{B:Nat}{S:Addr}{xs ys:Array Value}{h:Heap}{acc:Array Value}{ts:Ze}{i:Nat}{T:Addr}{x y:Value}(d:dX B S xs ys h acc ts i)(hB:B<=T)(hn:T∉ts)(hx:xs[i]?=some x)(hy:ys[i]?=some y)(hT:IsPair h T x y):
  dX B S xs ys h (acc.push (.ref T)) (ts++[T]) (i+1):=by
 refine⟨by simp[d.is],by simp[d.len],fun j t e=>?_,?_⟩
 ·rw[List.getElem?_append]at e;split at e
  ·exact d.at' j t e
  ·rename_i g;rw[d.len]at g e;have e2:j-i=0:=by
    rcases Nat.eq_zero_or_pos (j-i)with q|q
    ·exact q
    ·rw[u4 (by simp;omega)]at e;cases e
   rw[e2]at e;have e3:j=i:=by omega
   subst e3;simp at e;subst e;exact⟨hB,x,y,hx,hy,hT⟩
 ·rw[cZ];refine⟨d.uni,by simp,fun a ha b hb=>?_⟩;simp at hb;subst hb;exact fun q=>hn (q▸ha)
section
variable{prog:bj}{w:World}{A:Around}{R:Result->Shared->Prop}
theorem BG{z TI TO T₁ i1 i2 l1 l2 S:Addr}{B:Nat}{xs ys:Array Value}(hh:A.handled=none)(D:fO z TI TO i1 i2 l1 l2)(bz:z<B)(bI:TI<B)(b1:i1<B)(b2:i2<B)(c1:l1<B)(c2:l2<B)(bS:S<B)
  (sz:S≠z) (sI:S≠TI) (s1:S≠i1) (s2:S≠i2) (sl1:S≠l1) (sl2:S≠l2) (hn:xs.size<=ai) (res:Value) :
  ∀(k i:Nat) (s:Shared) (acc:Array Value) (c:Nat) (ts:Ze),min xs.size ys.size-i=k->i<=min xs.size ys.size->wT s.heap z TI TO T₁->T₁∈ts->IsPair s.heap TI (.ref i1) (.ref i2) ->
  s.heap.IsListIter i1 l1 i->s.heap.IsListIter i2 l2 i->s.heap.IsList l1 xs->s.heap.IsList l2 ys->s.heap.get? S=some { cls:=.type "list",dict:=none,data:=.seq acc c,slots:=#[] }->dX B S xs ys s.heap acc ts i ->
  (∀h' acc' c' ts',(∀b o,b≠S->b≠z->b≠i1->b≠i2->s.heap.get? b=some o->h'.get? b=some o)->h'.get? S=some { cls:=.type "list",dict:=none,data:=.seq acc' c',slots:=#[] }->dX B S xs ys h' acc' ts' (min xs.size ys.size)->R (.ok (.ret res)) { s with heap:=h' }) ->
  zzl78 (model prog w) A (.builtin "list.extend.loop" ⟨[.ref S,.ref z,res],[]⟩) R s:=by
 intro k
 induction k with
 |zero =>
  intro i s acc c ts hk hi hz hT hTI h1 h2 hl1 hl2 hS d hR;have e:i=min xs.size ys.size:=by omega
  obtain⟨j,hj⟩:=g7 hT;obtain⟨gT,x,y,_,_,qT⟩:=d.at' j _ hj;refine j4 F.entry_extend_loop ?_;rw[j3 nY _];show wpAny _ A.in1 (pyNext (.ref z) >>= _) _ _ s;refine ak (BE hh D hz qT hTI h1 h2 hl1 hl2 ?_ fun h' hk=>?_)
  ·rcases Nat.le_total xs.size ys.size with q|q
   ·exact .inl (qM (by omega))
   ·exact .inr (qM (by omega))
  ·exact aF (hR h' acc c ts (fun b o _ b2 b3 b4 q=>hk b o b2 b3 b4 q) (hk S _ sz s1 s2 hS) (e▸d.keep fun c o g q=>hk c o (dC (cz bz g)) (dC (cz b1 g)) (dC (cz b2 g)) q))
 |succ k ih =>
  intro i s acc c ts hk hi hz hT hTI h1 h2 hl1 hl2 hS d hR;obtain⟨j,hj⟩:=g7 hT;obtain⟨gT,x,y,_,_,qT⟩:=d.at' j _ hj;have ix:i<xs.size:=by omega
  have iy:i<ys.size:=by omega
  refine j4 F.entry_extend_loop ?_;rw[j3 nY _];show wpAny _ A.in1 (pyNext (.ref z) >>= _) _ _ s;refine ak (BF D hz qT hTI h1 h2 hl1 hl2 (jn ix) (jn iy) fun h' a1 a2 a3 a4 a5 hk'=>?_);have hS':=hk' S _ sz s1 s2 hS;have hacc:acc.size=i:=by rw[<-jX,d.is,aj,d.len]
  have up:∀f:Obj->Obj,∀b o,b≠S->h'.get? b=some o->(h'.update S f).get? b=some o:=fun f b o hb q=>(lR _ _ (eT hb)).trans q;have lt:T₁<s.heap.objs.size:=az qT;have dn:dX B S xs ys h' acc ts i:=d.keep fun c o g q=>hk' c o (dC (cz bz g)) (dC (cz b1 g)) (dC (cz b2 g)) q;have hnew:s.heap.objs.size∉ts:=fun q=>by
   obtain⟨j',hj'⟩:=g7 q;obtain⟨_,_,_,_,_,q'⟩:=d.at' j' _ hj';exact iV _ (az q')
  have dn2:=dn.push (T:=s.heap.objs.size) (cL (n6 gT lt)) hnew (jn ix) (jn iy) a4;show wpAny _ A.in1 (qJ S (·.push (.ref s.heap.objs.size)) >>= _) _ _ _;refine ak (qI hS' rfl (aF ⟨lL nY _,ih (i+1) _ (acc.push (.ref s.heap.objs.size)) _ (ts++[s.heap.objs.size]) (by omega) (by omega) ?_ (by simp[hT]) (up _ _ _ sI.symm (hk' _ _ D.TIz D.TIi1 D.TIi2 hTI)) (a2.at fun o q=>up _ _ o s1.symm q) (a3.at fun o q=>up _ _ o s2.symm q)
   (hl1.at fun o q=>up _ _ o sl1.symm (hk' _ o D.l1z D.l1i1 D.l1i2 q)) (hl2.at fun o q=>up _ _ o sl2.symm (hk' _ o D.l2z D.l2i1 D.l2i2 q)) (jp _ hS' rfl) (dn2.keep fun c o g q=>up _ c o (dC (cz bS g)) q) fun h'' acc' c' ts' hk'' hS'' hd=>?_⟩) (by rw[hacc];omega) (by show(acc.push _).size<=ai+1;rw[Array.size_push,hacc];omega))
  ·obtain⟨b,q⟩:=a1;exact⟨b,up _ _ _ sz.symm q⟩
  ·exact hR h'' acc' c' ts' (fun b o e1 e2 e3 e4 q=>hk'' b o e1 e2 e3 e4 (up _ b o e1 (hk' b o e2 e3 e4 q))) hS'' hd
theorem Ec{z TI TO i1 i2 l1 l2 S:Addr}{a b:Value}{xs ys:Array Value}{s:Shared}{c:Nat}(hh:A.handled=none)(D:fO z TI TO i1 i2 l1 l2)
  (sz:S≠z) (sI:S≠TI) (sO:S≠TO) (s1:S≠i1) (s2:S≠i2) (sl1:S≠l1) (sl2:S≠l2) (hn:xs.size<=ai) (res:Value)
  (hz:IsZip s.heap z TI TO .none) (hTI:IsPair s.heap TI (.ref i1) (.ref i2)) (hTO:IsPair s.heap TO a b)
  (h1:s.heap.IsListIter i1 l1 0) (h2:s.heap.IsListIter i2 l2 0) (hl1:s.heap.IsList l1 xs) (hl2:s.heap.IsList l2 ys) (hS:s.heap.get? S=some { cls:=.type "list",dict:=none,data:=.seq #[] c,slots:=#[] })
  (hR:∀h' acc' c' ts',(∀b o,b≠S->b≠z->b≠TO->b≠i1->b≠i2->s.heap.get? b=some o->h'.get? b=some o)->h'.get? S=some { cls:=.type "list",dict:=none,data:=.seq acc' c',slots:=#[] }->dX s.heap.objs.size S xs ys h' acc' ts' (min xs.size ys.size)->R (.ok (.ret res)) { s with heap:=h' }) :
  zzl78 (model prog w) A (.builtin "list.extend.loop" ⟨[.ref S,.ref z,res],[]⟩) R s:=by
 refine j4 F.entry_extend_loop ?_;rw[j3 nY _];show wpAny _ A.in1 (pyNext (.ref z) >>= _) _ _ s;rcases Nat.eq_zero_or_pos (min xs.size ys.size)with e|e
 ·refine ak (wpAny_pyNext_zip_end hh D hz hTI hTO h1 h2 hl1 hl2 ?_ fun h' hk=>?_)
  ·rcases Nat.le_total xs.size ys.size with q|q
   ·exact .inl (qM (by omega))
   ·exact .inr (qM (by omega))
  ·exact aF (hR h' #[] c [] (fun b o _ b2 b3 b4 b5 q=>hk b o b2 b3 b4 b5 q) (hk S _ sz sO s1 s2 hS) (e▸⟨rfl,rfl,fun j t q=>by simp at q,.nil⟩))
 ·have ix:0<xs.size:=by omega
  have iy:0<ys.size:=by omega
  refine ak (wpAny_pyNext_zip_item D hz hTI hTO h1 h2 hl1 hl2 (jn ix) (jn iy) fun h' a1 a2 a3 a4 a5 a6 hk=>?_);have hS':=hk S _ sz sO s1 s2 hS;have up:∀f:Obj->Obj,∀b o,b≠S->h'.get? b=some o->(h'.update S f).get? b=some o:=fun f b o hb q=>(lR _ _ (eT hb)).trans q;have tn:s.heap.objs.size≠S:=dC (az hS);have lz:z<s.heap.objs.size:=az hz;have lI:TI<s.heap.objs.size:=az hTI;have li1:i1<s.heap.objs.size:=let⟨_,e,_⟩:=h1;az e;have li2:i2<s.heap.objs.size:=let⟨_,e,_⟩:=h2;az e;have ll1:l1<s.heap.objs.size:=let⟨_,e,_⟩:=hl1;az e;have ll2:l2<s.heap.objs.size:=let⟨_,e,_⟩:=hl2;az e;show wpAny _ A.in1 (qJ S (·.push (.ref s.heap.objs.size)) >>= _) _ _ _;refine ak (qI hS' rfl (aF ⟨lL nY _,BG (T₁:=s.heap.objs.size) (B:=s.heap.objs.size) hh D lz lI li1 li2 ll1 ll2 (az hS) sz sI s1 s2 sl1 sl2 hn res _ 1 _ (#[].push (.ref s.heap.objs.size)) _ [s.heap.objs.size] rfl (by omega) ⟨false,up _ _ _ sz.symm a1⟩ (by simp)
   (up _ _ _ sI.symm (hk _ _ D.TIz D.TITO D.TIi1 D.TIi2 hTI)) (a3.at fun o q=>up _ _ o s1.symm q) (a4.at fun o q=>up _ _ o s2.symm q) (hl1.at fun o q=>up _ _ o sl1.symm (hk _ o D.l1z D.l1TO D.l1i1 D.l1i2 q)) (hl2.at fun o q=>up _ _ o sl2.symm (hk _ o D.l2z D.l2TO D.l2i1 D.l2i2 q))
   (jp _ hS' rfl) ⟨rfl,rfl,fun j t q=>?_,by simp⟩ fun h'' acc' c' ts' hk'' hS'' hd=>?_⟩) (by show(#[]:Array Value).size<=_;simp) (by show(#[Value.ref s.heap.objs.size]:Array Value).size<=ai+1;simp))
  ·cases j with
   |zero =>
    simp at q;subst q;exact⟨ay _,_,_,jn ix,jn iy,up _ _ _ tn a5⟩
   |succ j=>simp at q
  ·exact hR h'' acc' c' ts' (fun b o e1 e2 e3 e4 e5 q=>hk'' b o e1 e2 e4 e5 (up _ b o e1 (hk b o e2 e3 e4 e5 q))) hS'' hd
theorem yD:q_ (.type "zip") "__len__"=pure none:=by rw[typeLookup_type,builtinLookup_eq_fast];kernel_rfl
theorem xb:q_ (.type "zip") "__length_hint__"=pure none:=by rw[typeLookup_type,builtinLookup_eq_fast];kernel_rfl
structure nQ(h:Heap)(z TI TO i1 i2 l1 l2:Addr)(xs ys:Array Value):Prop where
 ap:fO z TI TO i1 i2 l1 l2
 zp:IsZip h z TI TO .none
 ti:IsPair h TI (.ref i1) (.ref i2)
 to:∃a b,IsPair h TO a b
 j1:h.IsListIter i1 l1 0
 j2:h.IsListIter i2 l2 0
 k1:h.IsList l1 xs
 k2:h.IsList l2 ys
theorem nQ.keep{h h':Heap}{z TI TO i1 i2 l1 l2:Addr}{xs ys:Array Value}(Z:nQ h z TI TO i1 i2 l1 l2 xs ys){S:Addr}(hS:∀b,b=z∨b=TI∨b=TO∨b=i1∨b=i2∨b=l1∨b=l2->b≠S)(k:∀b o,b≠S->h.get? b=some o->h'.get? b=some o):nQ h' z TI TO i1 i2 l1 l2 xs ys :=
 ⟨Z.ap,k _ _ (hS _ (by simp)) Z.zp,k _ _ (hS _ (by simp)) Z.ti,let⟨a,b,q⟩:=Z.to;⟨a,b,k _ _ (hS _ (by simp)) q⟩,Z.j1.at fun o q=>k _ o (hS _ (by simp)) q,Z.j2.at fun o q=>k _ o (hS _ (by simp)) q,Z.k1.at fun o q=>k _ o (hS _ (by simp)) q,Z.k2.at fun o q=>k _ o (hS _ (by simp)) q⟩
theorem nQ.old{h:Heap}{z TI TO i1 i2 l1 l2:Addr}{xs ys:Array Value}(Z:nQ h z TI TO i1 i2 l1 l2 xs ys):∀b,b=z∨b=TI∨b=TO∨b=i1∨b=i2∨b=l1∨b=l2->b<h.objs.size:=by
 intro b hb;rcases hb with rfl|rfl|rfl|rfl|rfl|rfl|rfl
 ·exact az Z.zp
 ·exact az Z.ti
 ·obtain⟨_,_,q⟩:=Z.to;exact az q
 ·obtain⟨_,q,_⟩:=Z.j1;exact az q
 ·obtain⟨_,q,_⟩:=Z.j2;exact az q
 ·obtain⟨_,q,_⟩:=Z.k1;exact az q
 ·obtain⟨_,q,_⟩:=Z.k2;exact az q
theorem tX{z TI TO i1 i2 l1 l2 S:Addr}{xs ys:Array Value}{s:Shared}{c:Nat}(hh:A.handled=none)(Z:nQ s.heap z TI TO i1 i2 l1 l2 xs ys)(hS':∀b,b=z∨b=TI∨b=TO∨b=i1∨b=i2∨b=l1∨b=l2->b≠S)(hn:xs.size<=ai)(res:Value)
  (hS:s.heap.get? S=some { cls:=.type "list",data:=.seq #[] c })
  (hR:∀h' acc' c' ts',(∀b o,b≠S->b≠z->b≠TO->b≠i1->b≠i2->s.heap.get? b=some o->h'.get? b=some o)->h'.get? S=some { cls:=.type "list",dict:=none,data:=.seq acc' c',slots:=#[] }->dX s.heap.objs.size S xs ys h' acc' ts' (min xs.size ys.size)->R (.ok (.ret res)) { s with heap:=h' }) :
  wpAny (model prog w) A.in1 (bc.List.listExtendWith (.ref S) (.ref z) res)
   (fun fin s'=>match fin with | .done f=>R (.ok f) s' | .again c'=>c'.quiet=true/\zzl78 (model prog w) A c' R s') (fun e s'=>R (.error e) s') s:=by
 have tz:s.TypeIs (.ref z) "zip":=⟨_,Z.zp,rfl⟩;unfold bc.List.listExtendWith;refine ak (uX tz ?_);have e1:bc.List.listSameRef (.ref S) (.ref z)=false:=by simp[bc.List.listSameRef,(hS' z (by simp)).symm]
 have e2:(Value.type "zip"==Value.type "list")=false:=by decide
 have e3:(Value.type "zip"==Value.type "tuple")=false:=by decide
 simp only[e1,e2,e3,Bool.or_false,j6,if_false];refine ak (qS Z.zp (ak (iX ?_)));unfold bc.List.listLengthHint;refine ak (AX tz yD ?_);show wpAny _ A.in1 (specialOf (Value.ref z) (jo "__length_hint__") >>= _) _ _ _;refine ak (AX tz xb (aF ?_));show wpAny _ A.in1 (rule "list.extend.makes-room" >>= fun _=>bc.List.listTouch (.ref S) >>= fun _=>again (.builtin "list.extend.loop" ⟨[.ref S,.ref z,res],[]⟩)) _ _ _;refine ak (mM (ak ?_));show wpAny _ A.in1 (qJ S (·.push .none) >>= fun _=>qJ S (·.pop)) _ _ _;refine ak (qI hS rfl ?_);have q2:=jp (fq (·.push Value.none)) hS rfl;refine qI (hz:=by seq_fits) q2 rfl ?_;have q3:=jp (fq (·.pop)) q2 rfl;have oth:∀b o,b≠S->s.heap.get? b=some o->((s.heap.update S (fq (·.push Value.none))).update S (fq (·.pop))).get? b=some o :=
  fun b o hb e=>(lR _ _ (eT hb)).trans ((lR _ _ (eT hb)).trans e)
 have Z2:=Z.keep hS' oth;obtain⟨a,b,qo⟩:=Z2.to;have n:=fun b hb=>(hS' b hb).symm;refine aF ⟨lL nY _,Ec hh Z.ap (n _ (by simp)) (n _ (by simp)) (n _ (by simp)) (n _ (by simp)) (n _ (by simp)) (n _ (by simp)) (n _ (by simp)) hn res Z2.zp Z2.ti qo Z2.j1 Z2.j2 Z2.k1 Z2.k2 q3 fun h' acc' c' ts' hk hS2 hd=>?_⟩;refine hR h' acc' c' ts' (fun b o f1 f2 f3 f4 f5 q=>hk b o f1 f2 f3 f4 f5 (oth b o f1 q)) hS2 ?_;have es:(((s.heap.update S (fq (·.push Value.none))).update S (fq (·.pop))).objs.size)=s.heap.objs.size:=by simp[Heap.update]
 exact es▸hd
theorem Ed{z TI TO i1 i2 l1 l2 S:Addr}{xs ys:Array Value}{s:Shared}(hh:A.handled=none)(Z:nQ s.heap z TI TO i1 i2 l1 l2 xs ys)(hS':∀b,b=z∨b=TI∨b=TO∨b=i1∨b=i2∨b=l1∨b=l2->b≠S)(hn:xs.size<=ai)
  (hS:s.heap.get? S=some { cls:=.type "list",data:=.seq #[] })
  (hR:∀h' acc' c' ts',(∀b o,b≠S->b≠z->b≠TO->b≠i1->b≠i2->s.heap.get? b=some o->h'.get? b=some o)->h'.get? S=some { cls:=.type "list",dict:=none,data:=.seq acc' c',slots:=#[] }->dX s.heap.objs.size S xs ys h' acc' ts' (min xs.size ys.size)->R (.ok (.ret .none)) { s with heap:=h' }) :
  wpAny (model prog w) A.in1 (bc.«list.__init__» ⟨[.ref S,.ref z],[]⟩)
   (fun fin s'=>match fin with | .done f=>R (.ok f) s' | .again c'=>c'.quiet=true/\zzl78 (model prog w) A c' R s') (fun e s'=>R (.error e) s') s:=by
 show wpAny _ _ (bc.List.listItems (.ref S) >>= _) _ _ s;refine ak ?_;unfold bc.List.listItems;refine ak (iW hS rfl (aF ?_));show wpAny _ _ (qJ S (fun _=>#[]) >>= _) _ _ s;refine ak (qI hS rfl ?_);have q2:=jp (fq (fun _=>(#[]:Array Value))) hS rfl;have oth:∀b o,b≠S->s.heap.get? b=some o->(s.heap.update S (fq (fun _=>(#[]:Array Value)))).get? b=some o:=fun b o hb e=>(lR _ _ (eT hb)).trans e;refine ak (u8 (tX hh (Z.keep hS' oth) hS' hn .none q2 fun h' acc' c' ts' hk g d=>?_));have es:((s.heap.update S (fq (fun _=>(#[]:Array Value)))).objs.size)=s.heap.objs.size:=by simp[Heap.update]
 exact hR h' acc' c' ts' (fun b o f1 f2 f3 f4 f5 q=>hk b o f1 f2 f3 f4 f5 (oth b o f1 q)) g (es▸d)
theorem zK{E:Zc}{Q:Zc}{z TI TO i1 i2 l1 l2:Addr}{xs ys:Array Value}{s:Shared}(hh:A.handled=none)(Z:nQ s.heap z TI TO i1 i2 l1 l2 xs ys)(hn:xs.size<=ai)
  (hQ:∀h' acc' c' ts',(∀b o,b≠z->b≠TO->b≠i1->b≠i2->s.heap.get? b=some o->h'.get? b=some o)->h'.get? s.heap.objs.size=some { cls:=.type "list",dict:=none,data:=.seq acc' c',slots:=#[] }->dX (s.heap.objs.size+1) s.heap.objs.size xs ys h' acc' ts' (min xs.size ys.size)->Q (.ref s.heap.objs.size) { s with heap:=h' }) :
  wpAny (model prog w) A (call (.type "list") [.ref z]) Q E s:=by
 refine callType_codes (Q₁:=fun obj s₁=>obj=.ref s.heap.objs.size/\s₁={ s with heap:=s.heap.push { cls:=.type "list",data:=.seq #[] } }) F.called_list (F.typeCall_list_1 _) F.entry_list_init (code_list_new _ ⟨rfl,rfl⟩) fun obj s₁ h₁=>?_;obtain⟨rfl,rfl⟩:=h₁;have hS:(s.heap.push { cls:=.type "list",data:=.seq #[] }).get? s.heap.objs.size=some { cls:=.type "list",data:=.seq #[] }:=cb _ rfl;have ne:∀b,b=z∨b=TI∨b=TO∨b=i1∨b=i2∨b=l1∨b=l2->b≠s.heap.objs.size:=fun b hb=>bE (Z.old b hb);refine⟨⟨_,hS,rfl⟩,F.args_list_init_2 _ _,Ed (A:=A.in1) hh (Z.keep ne fun b o _ q=>aO _ q) ne hn hS fun h' acc' c' ts' hk g d=>?_⟩;exact⟨rfl,hQ h' acc' c' ts' (fun b o f2 f3 f4 f5 q=>hk b o (bE (az q)) f2 f3 f4 f5 (aO _ q)) g (by rw[<-jV s.heap { cls:=.type "list",data:=.seq #[] }];exact d)⟩
end
def fR(H:Hp):List Addr->List V->List V->Hp
 |t::ts,x::xs,y::ys=>fR (upd H t (.tup [x,y])) ts xs ys
 |_,_,_=>H
theorem ia:∀{ts:Ze}{xs ys:List V}{H:Hp}{b:Addr},b∉ts->fR H ts xs ys b=H b
 |[],_,_,_,_,_=>by simp[fR]
 |_::_,[],_,_,_,_=>by simp[fR]
 |_::_,_::_,[],_,_,_=>by simp[fR]
 |t::ts,x::xs,y::ys,H,b,h=>by
  rw[fR,ia (fun q=>h (dD _ q))];exact ah (fun q:b=t=>h (by rw[q];exact dE))
theorem nI:∀{ts:Ze}{xs ys:List V}{H:Hp}{j:Nat}{t:Addr}{x y:V},ts.Nodup->ts[j]?=some t->xs[j]?=some x->ys[j]?=some y->fR H ts xs ys t=some (.tup [x,y])
 |[],_,_,_,j,_,_,_,_,e,_,_=>by simp at e
 |_::_,[],_,_,j,_,_,_,_,_,e,_=>by simp at e
 |_::_,_::_,[],_,j,_,_,_,_,_,_,e=>by simp at e
 |t::ts,x::xs,y::ys,H,0,t',x',y',n,e1,e2,e3=>by
  simp at e1 e2 e3;subst e1 e2 e3;rw[fR,ia (iw.mp n).1,aa]
 |t::ts,x::xs,y::ys,H,j+1,t',x',y',n,e1,e2,e3=>by
  rw[fR];exact nI (iw.mp n).2 (by simpa using e1) (by simpa using e2) (by simpa using e3)
section
variable{X:Cx}{J3:Zd}{σ:St}{H:Hp}{s:Shared}{h':Heap}
theorem Inv.many{H':Hp}{N:Ze}{t':Nat}(I:Inv X J3 σ H s)(k:∀b u,s.heap.get? b=some u->h'.get? b=some u)(hN:∀a∈N,s.heap.objs.size<=a)(out:∀b,b∉N->H' b=H b)(new:∀a∈N,∀o,H' a=some o->cq X.prog X.w X.K H' h' a o):
  Inv X J3 σ H' { s with heap:=h',toks:=t' }:=by
 have old:∀b o,H b=some o->b∉N:=fun b o e q=>iV _ (cz (I.hok.lt e) (hN b q));have same:∀b o,H b=some o->H' b=some o:=fun b o e=>by rw[out b (old b o e)];exact e
 refine I.un ⟨fun b u q _ _ _=>k b u q,fun b u q _ _ _=>⟨u.slots,k b u q⟩,fun b u q n _=>?_,fun b u q _=>⟨u,k b u q⟩,fun b xs q=>same b _ q,fun b o u q=>same b _ q,fun b ps q=>⟨#[],by rw[same b _ q];simp⟩⟩ fun b o e=>?_
 ·rw[out b fun z=>iV _ (cz (az q) (hN b z))];exact n
 ·by_cases hb:b∈N
  ·exact new b hb o e
  ·rw[out b hb]at e;exact(I.hok b o e).stay (fun c v _ q=>k c v q) (fun c q=>same c _ q) fun c xs q=>same c _ q
theorem Ac{vs:List V}{us:Zf}(r:aQ vs us):∀{j:Nat}{u:Value},us[j]?=some u->∃v,vs[j]?=some v/\RelV v u:=by
 induction r with
 |nil=>intro j u e;simp at e
 |cons a _ ih =>
  intro j u e;cases j with
  |zero=>simp at e;subst e;exact⟨_,rfl,a⟩
  |succ j=>exact ih (by simpa using e)
theorem vp:∀ts:List Addr,aQ (ts.map V.ref) (ts.map Value.ref)
 |[]=>.nil
 |t::ts=>.cons rfl (vp ts)
variable{p p2 pos pos2:Pos}
def Cw(K:Za)(ta:TA):TE:=fun σ H Q=>ta σ H fun vs H1=>∃a b xs ys,vs=[.ref a,.ref b]/\ax K H1 a xs/\ax K H1 b ys /\
 ∀(D:Addr) (ts:Ze),H1 D=none->(∀t∈ts,H1 t=none)->(D::ts).Nodup->ts.length=min xs.length ys.length->Q (.ref D) (upd (fR H1 ts xs ys) D (.lst (ts.map .ref)))
theorem zh{a b:Expr}{ta:TA}(hc:X.calm=true)(hl:Gl X "list")(hlm:X.mg "list"=none)(hg:Gl X "zip")(hm:X.mg "zip"=none)(ha:PA X [a,b] ta)(hs:aA [a,b] X.env=[(false,eval a X.env),(false,eval b X.env)]:=by rfl)(hs2:aA [b] X.env=[(false,eval b X.env)]:=by rfl)
  (hs3:aA [.Call (.Name "zip" p) [a,b] [] pos] X.env=[(false,eval (.Call (.Name "zip" p) [a,b] [] pos) X.env)]:=by rfl) :
  PE X (.Call (.Name "list" p2) [.Call (.Name "zip" p) [a,b] [] pos] [] pos2) (Cw X.K ta):=by
 intro J3 s σ H Q I h;refine Call_ (iQ I hl hlm sF (mJ ?_ (by rw[hs3];rfl) (by rfl)));rw[hs3];show wpAny _ _ (spliced ((false,eval (.Call (.Name "zip" p) [a,b] [] pos) X.env)::[])) _ _ s;refine tQ ?_;refine Call_ (iQ I hg hm boot_zip (mJ (ca (ha pos J3 s σ H _ I h) fun us s1 ⟨vs,H1,I1,r1,q1⟩=>?_) (by rw[hs,hs2]) (by rw[hs2];rfl)));obtain⟨l1,l2,xs,ys,e,hx,hy,q⟩:=q1;subst e;obtain⟨u,v,rfl,ru,rv⟩:=vals2 r1;cases ru;cases rv;obtain⟨its,rx,px,zx⟩:=I1.list hx;obtain⟨jts,ry,py,zy⟩:=I1.list hy;obtain⟨o1,n1,e1,_⟩:=id px;obtain⟨o2,n2,e2,_⟩:=id py;refine call_zip_2 px.isList py.isList fun h' a1 a2 a3 a4 a5 a6 hk=>?_;refine wY ?_;have Z:nQ h' (s1.heap.objs.size+4) (s1.heap.objs.size+2) (s1.heap.objs.size+3) s1.heap.objs.size (s1.heap.objs.size+1) l1 l2 its.toArray jts.toArray :=
  ⟨u5 (az e1) (az e2),a1,a2,⟨_,_,a3⟩,a4,a5,px.isList.at fun o q=>hk _ o q,py.isList.at fun o q=>hk _ o q⟩
 have lx:=rx.length;have ly:=ry.length;refine zK (s:={ s1 with heap:=h' }) (I.ok.hd hc) Z (by simp;omega) fun h2 acc c ts hk2 g d=>?_;have out:∀b o,s1.heap.get? b=some o->h2.get? b=some o:=fun b o q=>by
  have lt:=az q;exact hk2 b o (bE (cz lt (iM _ 4))) (bE (cz lt (iM _ 3))) (bE lt) (bE (cz lt (iM _ 1))) (hk b o q)
 have bd:∀t∈ts,s1.heap.objs.size+5<t:=fun t ht=>by
  obtain⟨j,hj⟩:=g7 ht;have:=(d.at' j t hj).1;have e:(qR { s1 with heap:=h' }).objs.size=s1.heap.objs.size+5:=a6;rw[e]at this;omega
 have a6':(qR { s1 with heap:=h' }).objs.size=s1.heap.objs.size+5:=a6;rw[a6']at g ⊢;have nD:s1.heap.objs.size+5∉ts:=fun q=>iV _ (bd _ q);have hD:s1.heap.objs.size<=s1.heap.objs.size+5:=iM _ _;have ht:∀t∈ts,s1.heap.objs.size<=t:=fun t q=>cL (n6 hD (bd t q));refine⟨.ref (s1.heap.objs.size+5),upd (fR H1 ts xs ys) (s1.heap.objs.size+5) (.lst (ts.map .ref)),I1.many (N:=(s1.heap.objs.size+5)::ts) (t':=s1.toks) out (fun a ha=>?_) (fun b hb=>?_) fun a ha o e=>?_,rfl,q _ ts (I1.hok.fresh hD) (fun t z=>I1.hok.fresh (ht t z)) (iw.mpr ⟨nD,d.uni⟩) (by rw[d.len];simp[lx,ly])⟩
 ·rcases cc.mp ha with z|z
  ·rw[z];exact hD
  ·exact ht a z
 ·rw[ah fun z=>hb (by rw[z];exact dE)];exact ia fun z=>hb (dD _ z)
 ·rcases cc.mp ha with z|z
  ·subst z;rw[aa]at e;cases e;refine⟨by rw[aj,d.len];simp;omega,ts.map .ref,c,vp ts,?_⟩;rw[<-d.is];simpa using g
  ·have ne:a≠s1.heap.objs.size+5:=fun w=>nD (w▸z);rw[ah ne]at e;obtain⟨j,hj⟩:=g7 z;obtain⟨_,x,y,hx',hy',qT⟩:=d.at' j a hj;obtain⟨vx,ex,rx'⟩:=Ac rx (j:=j) (u:=x) (by simpa using hx');obtain⟨vy,ey,ry'⟩:=Ac ry (j:=j) (u:=y) (by simpa using hy');rw[nI d.uni hj ex ey]at e;cases e;exact⟨by show 2<=ai;decide,[x,y],.cons rx' (.cons ry' .nil),⟨_,qT,rfl,_,rfl⟩⟩
end
end L2
namespace L2
open PySem PySem.Spec PyProof.Rows
section
variable{prog:bj}{w:World}{A:Around}{E:Zc}{s:Shared}{z TI TO i1 i2 l1 l2:Addr}{xs ys:Array Value}
theorem wA{R:Result->Shared->Prop}(hh:A.handled=none)(Z:nQ s.heap z TI TO i1 i2 l1 l2 xs ys)(hn:xs.size<=ai)
  (hR:∀h' acc' c' ts',(∀b o,b≠z->b≠TO->b≠i1->b≠i2->s.heap.get? b=some o->h'.get? b=some o)->h'.get? s.heap.objs.size=some { cls:=.type "list",dict:=none,data:=.seq acc' c',slots:=#[] }->dX (s.heap.objs.size+1) s.heap.objs.size xs ys h' acc' ts' (min xs.size ys.size)->R (.ok (.ret (.ref s.heap.objs.size))) { s with heap:=h' }) :
  zzl78 (model prog w) A (.builtin "proto.collect" ⟨[.ref z],[]⟩) R s:=by
 refine j4 F.entry_proto_collect ?_;rw[j3 F.plain_proto_collect _];show wpAny _ A.in1 (newList [] >>= fun l=>again (.builtin "list.__iadd__" ⟨[l,.ref z],[]⟩)) _ _ s;refine ak (j9 ?_);refine aF ⟨lL F.plain_list_iadd _,j4 F.entry_list_iadd ?_⟩;rw[j3 F.plain_list_iadd _];show wpAny _ A.in1 (bc.List.listExtendWith (.ref s.heap.objs.size) (.ref z) (.ref s.heap.objs.size)) _ _ _;have hS:(s.heap.push { cls:=.type "list",data:=.seq ([]:Zf).toArray }).get? s.heap.objs.size=some { cls:=.type "list",data:=.seq ([]:Zf).toArray }:=cb _ rfl;have ne:∀b,b=z∨b=TI∨b=TO∨b=i1∨b=i2∨b=l1∨b=l2->b≠s.heap.objs.size:=fun b hb=>bE (Z.old b hb);refine tX (R:=R) (s:={ s with heap:=s.heap.push { cls:=.type "list",data:=.seq ([]:Zf).toArray } }) hh (Z.keep ne fun b o _ q=>aO _ q) ne hn _ hS fun h' acc' c' ts' hk g d=>?_;refine hR h' acc' c' ts' (fun b o f2 f3 f4 f5 q=>hk b o (bE (az q)) f2 f3 f4 f5 (aO _ q)) g ?_;rw[<-jV s.heap { cls:=.type "list",data:=.seq ([]:Zf).toArray }];exact d
theorem yd{Q:List Value->Shared->Prop}(hh:A.handled=none)(Z:nQ s.heap z TI TO i1 i2 l1 l2 xs ys)(hn:xs.size<=ai)
  (hQ:∀h' ts,(∀b o,b≠z->b≠TO->b≠i1->b≠i2->s.heap.get? b=some o->h'.get? b=some o)->dX (s.heap.objs.size+1) s.heap.objs.size xs ys h' (ts.map Value.ref).toArray ts (min xs.size ys.size)->Q (ts.map .ref) { s with heap:=h' }) :
  wpAny (model prog w) A (collect (.ref z)) Q E s:=by
 unfold collect;refine ak (wpAny_runValue (wA hh Z hn fun h' acc' c' ts' hk g d=>?_));show wpAny _ A (load s.heap.objs.size >>= _) _ _ _;refine ak (wpAny_load g (aF ?_));have ea:acc'=(ts'.map Value.ref).toArray:=by rw[<-d.is]
 have el:acc'.toList=ts'.map Value.ref:=d.is;rw[el];exact hQ h' ts' hk (ea▸d)
theorem sS{Q₁:Zc}(hh:A.handled=none)(Z:nQ s.heap z TI TO i1 i2 l1 l2 xs ys)(hn:xs.size<=ai)
  (h:∀h' ts,(∀b o,b≠z->b≠TO->b≠i1->b≠i2->s.heap.get? b=some o->h'.get? b=some o)->dX (s.heap.objs.size+1) s.heap.objs.size xs ys h' (ts.map Value.ref).toArray ts (min xs.size ys.size)->Q₁ (.ref h'.objs.size) { s with heap:=h'.push { cls:=.type "tuple",data:=.seq (ts.map Value.ref).toArray } }) :
  zzl78 (model prog w) A (.call (.builtin "tuple.__new__") ⟨[.type "tuple",.ref z],[]⟩) (wants Q₁ E) s:=by
 refine codeAny_of_tree ?_;show wpAny _ A.in1 (do checkBuiltinCall "tuple.__new__" ⟨[.type "tuple",.ref z],[]⟩;again (.builtin "tuple.__new__" ⟨[.type "tuple",.ref z],[]⟩)) _ _ s
 refine ak (wpAny_of_eq (F.newCall_tuple_1 _) (aF ⟨lL F.plain_tuple_new _,j4 F.entry_tuple_new ?_⟩));rw[j3 F.plain_tuple_new _];have hsub:=sub_tuple_self;have hinit:=init_tuple_lookup;have hmh:=madeHere_tuple;have hTI:s.TypeIs (.ref z) "zip":=⟨_,Z.zp,rfl⟩;have hh1:A.in1.handled=none:=hh
 wp_walk using uX hTI,yd hh1 Z hn
 intro h' ts hk d;show wpAny _ _ (bc.Tuple.tupleExact (ts.map Value.ref).toArray >>= fun v=>ret v) _ _ _;unfold bc.Tuple.tupleExact;refine ak (j9 ?_ (by show(ts.map Value.ref).toArray.size<=ai;simp only[bp,aj];rw[d.len];omega));exact aF (h h' ts hk d)
theorem yi{Q:Zc}(hh:A.handled=none)(Z:nQ s.heap z TI TO i1 i2 l1 l2 xs ys)(hn:xs.size<=ai)
  (hQ:∀h' ts,(∀b o,b≠z->b≠TO->b≠i1->b≠i2->s.heap.get? b=some o->h'.get? b=some o)->dX (s.heap.objs.size+1) s.heap.objs.size xs ys h' (ts.map Value.ref).toArray ts (min xs.size ys.size)->Q (.ref h'.objs.size) { s with heap:=h'.push { cls:=.type "tuple",data:=.seq (ts.map Value.ref).toArray } }) :
  wpAny (model prog w) A (call (.type "tuple") [.ref z]) Q E s:=by
 refine callType_codes (Q₁:=fun obj s₁=>s₁.TypeIs obj "tuple"/\Q obj s₁) F.called_tuple (F.typeCall_tuple_1 _) F.entry_object_init
  (sS (A:=A.in1) hh Z hn fun h' ts hk d=>⟨⟨_,cb _ rfl,rfl⟩,hQ h' ts hk d⟩) fun obj s₁ h₁=>?_
 exact⟨h₁.1,F.args_object_init_2 obj _,object_init_meets F.called_tuple.init.lookup F.called_tuple.made (by decide) prog w A.in1 _ s₁ ⟨h₁.1,rfl,h₁.2⟩⟩
end
section
variable{X:Cx}{p p2 pos pos2:Pos}
def Cv(K:Za)(ta:TA):TE:=fun σ H Q=>ta σ H fun vs H1=>∃a b xs ys,vs=[.ref a,.ref b]/\ax K H1 a xs/\ax K H1 b ys /\
 ∀(D:Addr) (ts:Ze),H1 D=none->(∀t∈ts,H1 t=none)->(D::ts).Nodup->ts.length=min xs.length ys.length->Q (.ref D) (upd (fR H1 ts xs ys) D (.tup (ts.map .ref)))
theorem pi{a b:Expr}{ta:TA}(hc:X.calm=true)(hl:Gl X "tuple")(hlm:X.mg "tuple"=none)(hg:Gl X "zip")(hm:X.mg "zip"=none)(ha:PA X [a,b] ta)(hs:aA [a,b] X.env=[(false,eval a X.env),(false,eval b X.env)]:=by rfl)(hs2:aA [b] X.env=[(false,eval b X.env)]:=by rfl)
  (hs3:aA [.Call (.Name "zip" p) [a,b] [] pos] X.env=[(false,eval (.Call (.Name "zip" p) [a,b] [] pos) X.env)]:=by rfl) :
  PE X (.Call (.Name "tuple" p2) [.Call (.Name "zip" p) [a,b] [] pos] [] pos2) (Cv X.K ta):=by
 intro J3 s σ H Q I h;refine Call_ (iQ I hl hlm cY (mJ ?_ (by rw[hs3];rfl) (by rfl)));rw[hs3];show wpAny _ _ (spliced ((false,eval (.Call (.Name "zip" p) [a,b] [] pos) X.env)::[])) _ _ s;refine tQ ?_;refine Call_ (iQ I hg hm boot_zip (mJ (ca (ha pos J3 s σ H _ I h) fun us s1 ⟨vs,H1,I1,r1,q1⟩=>?_) (by rw[hs,hs2]) (by rw[hs2];rfl)));obtain⟨l1,l2,xs,ys,e,hx,hy,q⟩:=q1;subst e;obtain⟨u,v,rfl,ru,rv⟩:=vals2 r1;cases ru;cases rv;obtain⟨its,rx,px,zx⟩:=I1.list hx;obtain⟨jts,ry,py,zy⟩:=I1.list hy;obtain⟨o1,n1,e1,_⟩:=id px;obtain⟨o2,n2,e2,_⟩:=id py;refine call_zip_2 px.isList py.isList fun h' a1 a2 a3 a4 a5 a6 hk=>?_;refine wY ?_;have Z:nQ h' (s1.heap.objs.size+4) (s1.heap.objs.size+2) (s1.heap.objs.size+3) s1.heap.objs.size (s1.heap.objs.size+1) l1 l2 its.toArray jts.toArray :=
  ⟨u5 (az e1) (az e2),a1,a2,⟨_,_,a3⟩,a4,a5,px.isList.at fun o q=>hk _ o q,py.isList.at fun o q=>hk _ o q⟩
 have lx:=rx.length;have ly:=ry.length;refine yi (s:={ s1 with heap:=h' }) (I.ok.hd hc) Z (by simp;omega) fun h2 ts hk2 d=>?_;have out2:∀b o,s1.heap.get? b=some o->h2.get? b=some o:=fun b o q=>by
  have lt:=az q;exact hk2 b o (bE (cz lt (iM _ 4))) (bE (cz lt (iM _ 3))) (bE lt) (bE (cz lt (iM _ 1))) (hk b o q)
 have out:∀b o,s1.heap.get? b=some o->(h2.push { cls:=.type "tuple",data:=.seq (ts.map Value.ref).toArray }).get? b=some o:=fun b o q=>aO _ (out2 b o q);have a6':(qR { s1 with heap:=h' }).objs.size=s1.heap.objs.size+5:=a6;have at2:∀(j:Nat) t,ts[j]?=some t->s1.heap.objs.size<=t/\t<h2.objs.size:=fun j t hj=>by
  obtain⟨g1,x,y,_,_,g2⟩:=d.at' j t hj;rw[a6']at g1;exact⟨aE (iM _ 6) g1,az g2⟩
 have nD:h2.objs.size∉ts:=fun q=>by
  obtain⟨j,hj⟩:=g7 q;exact iV _ (at2 j _ hj).2
 have hD:s1.heap.objs.size<=h2.objs.size:=cL (n6 (iM _ 2) (az (hk2 _ _ Z.ap.TIz Z.ap.TITO Z.ap.TIi1 Z.ap.TIi2 a2)));have ht:∀t∈ts,s1.heap.objs.size<=t:=fun t q=>by
  obtain⟨j,hj⟩:=g7 q;exact(at2 j t hj).1
 refine⟨.ref h2.objs.size,upd (fR H1 ts xs ys) h2.objs.size (.tup (ts.map .ref)),I1.many (N:=h2.objs.size::ts) (t':=s1.toks) out (fun a ha=>?_) (fun b hb=>?_) fun a ha o e=>?_,rfl,q _ ts (I1.hok.fresh hD) (fun t z=>I1.hok.fresh (ht t z)) (iw.mpr ⟨nD,d.uni⟩) (by rw[d.len];simp[lx,ly])⟩
 ·rcases cc.mp ha with z|z
  ·rw[z];exact hD
  ·exact ht a z
 ·rw[ah fun z=>hb (by rw[z];exact dE)];exact ia fun z=>hb (dD _ z)
 ·rcases cc.mp ha with z|z
  ·subst z;rw[aa]at e;cases e;exact⟨by rw[aj,d.len];simp;omega,ts.map .ref,vp ts,⟨_,cb _ rfl,rfl,_,rfl⟩⟩
  ·have ne:a≠h2.objs.size:=fun w=>nD (w▸z);rw[ah ne]at e;obtain⟨j,hj⟩:=g7 z;obtain⟨_,x,y,hx',hy',qT⟩:=d.at' j a hj;obtain⟨vx,ex,rx'⟩:=Ac rx (j:=j) (u:=x) (by simpa using hx');obtain⟨vy,ey,ry'⟩:=Ac ry (j:=j) (u:=y) (by simpa using hy');rw[nI d.uni hj ex ey]at e;cases e;exact⟨by show 2<=ai;decide,[x,y],.cons rx' (.cons ry' .nil),⟨_,aO _ qT,rfl,_,rfl⟩⟩
end
end L2
end
section
namespace L2
open PySem PySem.Spec PyProof.Rows
open Sem (wp)
end L2
end
set_option Elab.async false
set_option linter.all false
set_option maxRecDepth 100000
set_option maxHeartbeats 4000000
namespace Mum
open PySem PySem.Spec PyProof.Rows L2
def vC(K:Za):TS :=
 aq (dA (ba (aI FS V0 (aI Fu (tC (.int 10)) (tC (.int 18))))) (aW V0) (bR))
 (aq (aJ (aI gF (aI em (aI em (aI kn (aI gF V0 (tC (.int 1000000007))) (tC (.int 69069))) (aI kn V1 (tC (.int 40503)))) (tC (.int 977))) (tC (.int 2147483629))) U2)
 (aq (aJ (aI gF (aI em (aI em (aI kn V2 V2) (aI kn V1 (tC (.int 7919)))) (aI gF V0 (tC (.int 65537)))) (tC (.int 2147483587))) U3)
 (aq (aJ (aI gF (aI em (aI em (aI kn V3 V3) (aI kn V2 (tC (.int 31)))) (tC (.int 5))) (tC (.int 2147483563))) U4)
 (aW (aI em (aI kn (aI em (aI kn V2 (tC (.int 2147483659))) V3) (tC (.int 2147483693))) V4)))))
def wO:List Str:=["cell","at","one","two","three"]
def yL(K:Za):TS :=
 aq (aJ (im (dR K) (aH (xr (nr K) V0 (c6) (fx (tC (.int 12)))))) U1)
 (aq (fz (ux K (aH (xr (nr K) V0 (fx (tC (.int 12))) (fx (tC (.int 63)))))) (mj K 2 (ck U2 (ck U3 (ln)))) (aJ (aI em (aI (dh K) V1 (aI gF V2 (tC (.int 12)))) V3) (zE V1 (aI gF V2 (tC (.int 12))) rM)))
 (aW (dQ (dz V1 (tC (.int 0)) (tC (.int 0))))))
def zT:List Str:=["script","cells","k","cell"]
def yN(K:Za):TS :=
 aq (aJ (tC (.int 0)) (zE V0 (tC (.int 2)) rM))
 (aW V0)
def zV:List Str:=["pen"]
def yJ(K:Za)(sp_law_spread:Sp):TS :=
 aq (dA (ba (aI Bv (aI (dh K) V0 (tC (.int 2))) V1)) (aq (aJ (aI (dh K) V0 (tC (.int 1))) U2)
 (aq (aJ (tC (.int 0)) U3)
 (aq (dA (ba (aI Bv V2 (im (ko K) (aH (aI (dh K) V0 (tC (.int 0))))))) (aJ (aI (dh K) (aI (dh K) V0 (tC (.int 0))) V2) U3) (dA (ba (aI EH (im (ko K) (aH (aI (dh K) V0 (tC (.int 0))))) (tC (.int 0)))) (aJ (aI gF (aI (dh K) (aI (dh K) V0 (tC (.int 0))) (aI gF (aI em (aI kn V2 (tC (.int 5))) (tC (.int 3))) (im (ko K) (aH (aI (dh K) V0 (tC (.int 0))))))) (aI em (aI Fu (tC (.int 10)) (tC (.int 17))) V2)) U3) (bR)))
 (aq (aJ (aI em V2 (tC (.int 1))) (zE V0 (tC (.int 1)) rM))
 (aJ (aR sp_law_spread (a_ V3 V2)) (zE V0 (tC (.int 2)) rM)))))) (bR))
 (aq (aJ (aI gF (aI (dh K) V0 (tC (.int 2))) V1) U4)
 (aq (aJ (aI CV (aI (dh K) V0 (tC (.int 2))) V1) (zE V0 (tC (.int 2)) rM))
 (aW V4)))
def zS:List Str:=["pen","many","at","cell","found"]
def xk(K:Za)(sp_law_take:Sp):TS :=
 aq (aJ (tC (.str "abcdefghijklmnopqrstuvwxyz")) U2)
 (aq (aJ (Bg K "str" (Fv K) (tC (.str "")) (ao (cB 1 [2,0] (uw (aH (tC (.int 7)))) U0 (iN) (aI CU V1 (aR sp_law_take (a_ V2 (tC (.int 26)))))) bF)) U3)
 (aq (aJ (aR sp_law_take (a_ V0 (tC (.int 3)))) U4)
 (aq (aJ (aR sp_law_take (a_ V0 (tC (.int 26)))) U5)
 (aq (aJ (aR sp_law_take (a_ V0 (tC (.int 8)))) U6)
 (aq (aJ (dQ (bF)) U7)
 (aq (fz (uw (aH V1)) U8 (aq (aJ (aI CU V2 (aI gF (aI em V5 (aI kn (tC (.int 3)) V8)) (tC (.int 26)))) U9)
 (aq (aJ (xr EG V3 (c6) (fx (aI gF (aI em V6 (aI kn V8 (aI gF V4 (tC (.int 2))))) (tC (.int 8))))) U10)
 (aq (aJ (aI (dh K) (dQ (dz (tC (.int 0)) (im (ko K) (aH G1)) (aI CV (im (ko K) (aH G1)) (tC (.int 2))))) V4) U11)
 (df (Bg K "list" f_ V7 (aH (aI Fx (aI Fx (xr EG G1 (c6) (fx V11)) V9) (xr EG G1 (fx V11) (c6))))))))))
 (aW V7)))))))
def yq:List Str:=["pen","many","letters","base","way","turn","size","found","k","sign","part","at"]
def Ba(K:Za):TS :=
 dA (ba (aI (tI K true) V1 V0)) (df (Bg K "list" f_ V0 (aH V1))) (bR)
def B8:List Str:=["doors","door"]
def ow(K:Za)(sp_law_take:Sp)(sp_law_put:Sp):TS :=
 aq (aJ (dQ (bF)) U5)
 (aq (aJ (aR sp_law_take (a_ V0 (tC (.int 2)))) U6)
 (aq (fz (ux K (aH V3)) (mj K 2 (ck U7 (ck U8 (ln)))) (aq (fz (uw (ao (aI (dh K) (dQ (ao (tC (.int 0)) (dz (tC (.int 1)) (tC (.int 1)) (tC (.int 2))))) (aR sp_law_take (a_ V0 (tC (.int 4))))) bF)) U9 (aq (aJ (bZ (ao (tC (.str "say")) (ao (aI (dh K) V2 (aR sp_law_take (a_ V0 (im (ko K) (aH V2))))) bF))) U10)
 (df (aR sp_law_put (ao V5 (ao (bZ (ao V8 (ao G1 (ao (aI (dh K) V3 (aR sp_law_take (a_ V0 (im (ko K) (aH V3))))) bF)))) bF))))))
 (aq (fz (bU K V1) U11 (fz (uw (ao (aI (dh K) (dQ (ao V4 (dz (tC (.int 1)) (tC (.int 1)) (tC (.int 2))))) (aR sp_law_take (a_ V0 (tC (.int 4))))) bF)) U9 (df (aR sp_law_put (ao V5 (ao (bZ (ao V8 (ao (bZ (a_ (tC (.str "ask")) V11)) (ao (aI (dh K) V3 (aR sp_law_take (a_ V0 (im (ko K) (aH V3))))) bF)))) bF))))))
 (aq (aJ (aI (dh K) (dQ (ao (xr (nr K) V3 (fx (aI em V7 (tC (.int 1)))) (c6)) (aH (xr (nr K) V3 (c6) (fx V7))))) V6) U12)
 (dA (CA (ba (aI (FR K) V12 (dQ (bF)))) (ba (aI Bw (aR sp_law_take (a_ V0 (tC (.int 3)))) (tC (.int 0))))) (df (aR sp_law_put (ao V5 (ao (bZ (ao V8 (ao (bZ (aH (tC (.str "still")))) (ao (aI (pU K) V12 (aR sp_law_take (a_ V0 (im (ko K) (aH V12))))) bF)))) bF)))) (bR))))))
 (aW V5)))
def oY:List Str:=["pen","asks","says","rooms","full","doors","down","k","room","turn","sign","ask","later"]
def xm(K:Za)(sp_law_draw_doors:Sp)(sp_law_names:Sp)(sp_law_take:Sp)(sp_law_anew:Sp):TS :=
 aq (df (aR sp_law_anew (aH V0)))
 (aq (aJ (aR sp_law_names (a_ V0 (tC (.int 8)))) U3)
 (aq (aJ (xr (nr K) V3 (c6) (fx (aI em (tC (.int 1)) (aI (dh K) (dQ (ao (tC (.int 0)) (ao (tC (.int 1)) (ao (tC (.int 1)) (dz (tC (.int 2)) (tC (.int 2)) (tC (.int 3))))))) (aR sp_law_take (a_ V0 (tC (.int 6)))))))) U4)
 (aq (aJ (xr (nr K) V3 (fx (tC (.int 4))) (fx (aI em (tC (.int 5)) (aI (dh K) (dQ (ao (tC (.int 0)) (ao (tC (.int 1)) (ao (tC (.int 1)) (dz (tC (.int 2)) (tC (.int 2)) (tC (.int 3))))))) (aR sp_law_take (a_ V0 (tC (.int 6)))))))) U5)
 (aq (aJ (aR sp_law_names (a_ V0 (aI em (tC (.int 1)) (aR sp_law_take (ao V0 (aH V1)))))) U6)
 (aq (aJ (aR sp_law_draw_doors (ao V0 (ao V4 (dz V5 V6 V2)))) U7)
 (aW (bZ (ao V4 (dz V5 V6 V7)))))))))
def yr:List Str:=["pen","most","full","words","asks","says","rooms","doors"]
def sT(K:Za)(C_Machine:Addr)(sp_Machine_init:Sp):TS :=
 aW (ud C_Machine sp_Machine_init [] E0 (ao (im (dR K) (aH (aI (pU K) V0 (tC (.int 0))))) (ao (im (dR K) (aH (aI (pU K) V0 (tC (.int 1))))) (ao (im (dR K) (aH (aI (pU K) V0 (tC (.int 2))))) (ao (im (dR K) (aH (aI (pU K) V0 (tC (.int 3))))) bF)))))
def tN:List Str:=["told"]
def Bd(K:Za):TS :=
 aW (Cz (aI Hi V0 (tC (.str ""))) (Cz (aI rLeI (im (ko K) (aH V0)) (tC (.int 8))) (im (GK K) (aH (cB 1 [] (GV V0) U0 (iN) (aI rInS V0 (tC (.str "abcdefghijklmnopqrstuvwxyz"))))))))
def Ca:List Str:=["text"]
def Be(K:Za):TS :=
 aq (aJ (rB) U1)
 (aq (fz (bU K V0) U2 (jO V1 V2 (tC (.bl true))))
 (aW V1))
def Cb:List Str:=["things","keys","thing"]
def lU(K:Za)(sp_is_name:Sp)(sp_as_keys:Sp):TS :=
 aq (dA (ba (aI Bw (im (ko K) (aH V0)) (tC (.int 0)))) (aW (tC (.int 0))) (bR))
 (aq (aJ (aR sp_as_keys (aH V2)) U3)
 (aq (fz (ux K (aH V0)) (mj K 2 (ck U4 (ck U5 (ln)))) (aq (dA (DZ (ba (aI Bw V4 V1)) (DZ (tB (Bf K V5 V3)) (GF (tB (aR sp_is_name (aH V5)))))) (aW V4) (bR))
 (jO V3 V5 (tC (.bl true)))))
 (aW (tC .non))))
def mv:List Str:=["names","most","taken","ahead","number","name"]
def vF(K:Za)(a_STILL:Addr):TS :=
 aW (aI md (aI md (cB 1 [] (bU K V0) U0 (iN) (bZ (a_ (tC (.str "ask")) V0))) (cB 1 [] (bU K V1) U0 (iN) (bZ (a_ (tC (.str "say")) V0)))) (dQ (aH (tC (.ref a_STILL)))))
def wR:List Str:=["asks","says"]
def lV(K:Za)(sp_as_keys:Sp):TS :=
 aq (aJ (aR sp_as_keys (aH V1)) U3)
 (aq (aJ (l9) U4)
 (aq (fz (ux K (aH V0)) (mj K 2 (ck U5 (ck U6 (ln)))) (aq (dA (DZ (ba (aI Bw V5 (tC (.int 2000)))) (tB (Bf K V6 V4))) (aW V5) (bR))
 (aq (dA (DZ (tB (gK K (aI (pU K) V6 (tC (.int 0))) V3)) (DZ (ba (aI (tI K true) (aI (pU K) V6 (tC (.int 1))) V2)) (tB (gK K (aI (pU K) V6 (tC (.int 2))) V3)))) (aW V5) (bR))
 (jO V4 V6 (tC (.bl true))))))
 (aW (tC .non))))
def mw:List Str:=["doors","rooms","signs","own_rooms","ahead","number","door"]
def ip(K:Za):TS :=
 aq (aJ (l9) U1)
 (aq (fz (bU K V0) (mj K 3 (ck U2 (ck U3 (ck U4 (ln))))) (df (Bg K "list" f_ (Bg K "dict" Ah V1 (a_ (bZ (ao V2 (aH V3))) (dQ (bF)))) (aH V4))))
 (aW V1))
def iq:List Str:=["doors","goals","start","sign","goal"]
def rj(K:Za)(a_STILL:Addr):TS :=
 aq (aJ (rB) U2)
 (aq (aJ (dQ (aH V1)) U3)
 (aq (vG (ba (aI EH (im (ko K) (aH V3)) (tC (.int 0)))) (aq (aJ (El K "list" GI V3) U4)
 (fz (GW K (vR K V0 (bZ (a_ V4 (tC (.ref a_STILL)))) (bZ (bF)))) U5 (dA (tB (gK K V5 V2)) (aq (jO V2 V5 (tC (.bl true)))
 (df (Bg K "list" f_ V3 (aH V5)))) (bR)))))
 (aW V2)))
def sJ:List Str:=["goals","room","led","waiting","here","goal"]
def mN(K:Za):TS :=
 aq (fz (ux K (aH V0)) (mj K 2 (ck U2 (ck U3 (ln)))) (dA (tB (Bf K V3 (kf K V1 V3))) (aW V2) (bR)))
 (aW (tC .non))
def nS:List Str:=["rooms","led","number","room"]
def xh(K:Za):TS :=
 dA (tB (Fp V1)) (vH) (bR)
def ym:List Str:=["part","number"]
def vA(K:Za)(sp_need_none:Sp)(sp_first_wrong_door:Sp)(sp_door_signs:Sp)(sp_first_wrong_name:Sp):TS :=
 aq (df (aR sp_need_none (a_ (tC (.str "asks")) (aR sp_first_wrong_name (dz V0 (tC (.int 4)) (dQ (bF)))))))
 (aq (df (aR sp_need_none (a_ (tC (.str "says")) (aR sp_first_wrong_name (dz V1 (tC (.int 4)) V0)))))
 (aq (df (aR sp_need_none (a_ (tC (.str "rooms")) (aR sp_first_wrong_name (dz V2 (tC (.int 150)) (dQ (bF)))))))
 (df (aR sp_need_none (ao (tC (.str "doors")) (aH (aR sp_first_wrong_door (dz V3 V2 (aR sp_door_signs (a_ V0 V1))))))))))
def wM:List Str:=["asks","says","rooms","doors"]
def oy(K:Za):TS :=
 aq (aJ (rB) U2)
 (aq (fz (bU K V0) U3 (jO V2 V3 (dQ (bF))))
 (aq (fz (bU K V1) U4 (df (Bg K "list" f_ (kf K V2 (aI (pU K) V4 (tC (.int 0)))) (aH V4))))
 (aW V2)))
def o0:List Str:=["rooms","doors","leaving","room","door"]
def ox(K:Za):TS :=
 aW (im (GK K) (ao (cB 1 [] (bU K V0) U0 (iN) (aI Bw (aI (pU K) (aI (pU K) V0 (tC (.int 1))) (tC (.int 0))) (tC (.str "ask")))) bF))
def oZ:List Str:=["doors"]
def lY(K:Za)(sp_need_none:Sp)(sp_first_led_round:Sp)(sp_led_by_still:Sp)(sp_goals_by_start_and_sign:Sp)(sp_as_keys:Sp)(sp_has_asks_alone:Sp)(sp_doors_by_start:Sp)(sp_need_parts:Sp):TS :=
 aq (df (aR sp_need_parts (ao V1 (dz V2 V3 V4))))
 (aq (ng K V0 (im (dR K) (aH V1)) "own_asks")
 (aq (ng K V0 (im (dR K) (aH V2)) "own_says")
 (aq (ng K V0 (im (dR K) (aH V3)) "own_rooms")
 (aq (ng K V0 (im (dR K) (aH V4)) "own_doors")
 (aq (ng K V0 (aR sp_doors_by_start (a_ V3 V4)) "leaving")
 (aq (ng K V0 (aR sp_as_keys (ao (cB 1 [0] (bU K V3) U0 (tB (aR sp_has_asks_alone (aH (kf K (hC K V1 "leaving") V0)))) V0) bF)) "quiet")
 (aq (ng K V0 (aR sp_goals_by_start_and_sign (aH V4)) "sign_goals")
 (aq (ng K V0 (im (EI K) (ao (cB 1 [0] (bU K V3) U0 (iN) (bZ (a_ V0 (aR sp_led_by_still (ao (hC K V1 "sign_goals") (aH V0)))))) bF)) "still_led")
 (df (aR sp_need_none (a_ (tC (.str "still")) (aR sp_first_led_round (ao V3 (aH (hC K V0 "still_led")))))))))))))))
def mz:List Str:=["self","asks","says","rooms","doors"]
def lX(K:Za):TS :=
 aW (Bf K V1 (hC K V0 "quiet"))
def my:List Str:=["self","room"]
def lF(K:Za)(sp_with_still:Sp)(C_Machine:Addr)(sp_Machine_goals:Sp)(a_HUSH:Addr)(sp_Machine_is_quiet:Sp):TS :=
 aq (dA (ba (aI (xG K) V2 (tC (.ref a_HUSH)))) (aW (im (rL K) (aH (cB 1 [0] (EV K V1) U0 (tB (cA C_Machine "is_quiet" sp_Machine_is_quiet [] E0 V1 (aH V0))) V0)))) (bR))
 (aq (aJ (dQ (bF)) U3)
 (aq (fz (EV K V1) U4 (df (Bg K "list" Ak V3 (aH (cA C_Machine "goals" sp_Machine_goals [] E0 V0 (a_ V4 V2))))))
 (aW (aR sp_with_still (a_ V0 V3)))))
def lH:List Str:=["M","face","sign","goals","room"]
def bg(p:Addr)(H H':Hp):Prop:=∀b o,H b=some o->b≠p->H' b=some o
theorem bg.refl(p:Addr)(H:Hp):bg p H H:=fun _ _ h _=>h
theorem bg.trans{p:Addr}{H H1 H2:Hp}(a:bg p H H1)(b:bg p H1 H2):bg p H H2:=fun c o h n=>b c o (a c o h n) n
theorem ac.exB{p:Addr}{H H':Hp}(a:ac H H'):bg p H H':=fun b o h _=>a b o h
theorem bg.upd(p:Addr)(H:Hp)(o:HO):bg p H (upd H p o):=fun b u h n=>by rw[ah n];exact h
theorem ac.new{H:Hp}{a:Addr}{o:HO}(h:H a=none):ac H (upd H a o):=fun b u e=>by rw[ah (ae e h)];exact e
theorem bg.free{p:Addr}{H H':Hp}(e:bg p H H'){u:HO}(hp:H' p=some u){l:Addr}(h:H' l=none):H l=none:=by
 cases q:H l with
 |none=>rfl
 |some o =>
  by_cases z:l=p
  ·subst z;rw[hp]at h;cases h
  ·rw[e l o q z]at h;cases h
theorem kp{H:Hp}{a b:Addr}{o x:HO}(h:H b=some o)(n:H a=none):upd H a x b=some o:=by rw[ah (ae h n)];exact h
structure AT(H:Hp)(p c:Addr)(at_ rest:Int)(ns:List Int):Prop where
 pen:H p=some (.lst [.ref c,.int at_,.int rest])
 cells:H c=some (.lst (ns.map V.int))
 at0:0<=at_
 rest0:0<=rest
theorem AT.ne{H:Hp}{p c:Addr}{a r:Int}{ns:List Int}(h:AT H p c a r ns):c≠p:=by
 intro e;have h1:=h.pen;have h2:=h.cells;rw[e,h1]at h2;injection h2 with h2;injection h2 with h2;cases ns with
 |nil=>cases h2
 |cons n ns=>injection h2 with h2;cases h2
def gH(H:Hp)(p c:Addr):Prop:=∃a r ns,AT H p c a r ns
theorem gH.ex{H H':Hp}{p c:Addr}(h:gH H p c)(e:ac H H'):gH H' p c:=by
 obtain⟨a,r,ns,h1,h2,h3,h4⟩:=h;exact⟨a,r,ns,e _ _ h1,e _ _ h2,h3,h4⟩
theorem gH.pen{H:Hp}{p c:Addr}(h:gH H p c):∃o,H p=some o:=by
 obtain⟨a,r,ns,h1,_⟩:=h;exact⟨_,h1⟩
theorem gH.cell{H:Hp}{p c:Addr}(h:gH H p c):∃o,H c=some o:=by
 obtain⟨a,r,ns,_,h1,_⟩:=h;exact⟨_,h1⟩
theorem gH.upd{H:Hp}{p c l:Addr}{o:HO}(h:gH H p c)(h1:p≠l)(h2:c≠l):gH (upd H l o) p c:=by
 obtain⟨a,r,ns,g1,g2,g3,g4⟩:=h;exact⟨a,r,ns,by rw[ah h1];exact g1,by rw[ah h2];exact g2,g3,g4⟩
theorem gH.nep{H:Hp}{p c l:Addr}(h:gH H p c)(hl:H l=none):p≠l:=let⟨_,e⟩:=h.pen;ae e hl
theorem gH.nec{H:Hp}{p c l:Addr}(h:gH H p c)(hl:H l=none):c≠l:=let⟨_,e⟩:=h.cell;ae e hl
theorem bg.new{p:Addr}{H:Hp}{a:Addr}{o:HO}(h:H a=none):bg p H (L2.upd H a o):=fun b u e _=>by rw[ah (ae e h)];exact e
inductive kN (vs:List V)(H:Hp)(Q:VK)(E:XK):Prop
 |mk (c a:Int):(vs=[.int c,.int a])->(0<=a)->(∀r:Int,0<=r->Q (.int r) H)->kN  vs H Q E
theorem nO{i j:Int}(h1:-(2 ^ 64)<j)(h2:j<2 ^ 64):DX i j:=.inr ⟨h1,h2⟩
theorem Bl{K:Za}{vs:List V}{H:Hp}{Q:VK}{E:XK}(h:kN vs H Q E):vC K (bh Q) (start wO vs) H:=by
 obtain⟨c,a,rfl,ha,k⟩:=h;refine⟨_,rfl,_,_,rfl,rfl,⟨by decide,by decide,by decide⟩,_,_,rfl,rfl,_,rfl,?_⟩;refine kr (fun h=>?_) (fun _=>?_)
 ·refine⟨_,rfl,k _ ?_⟩;have:=of_decide_eq_true h;have e:((10:Int) ^ (18:Int).toNat)=1000000000000000000:=by decide
  omega
 ·have one:∀z:Int,0<=z % 2147483629/\z % 2147483629<2147483629:=fun z=>⟨jm _ (by decide),jl _ (by decide)⟩;have two:∀z:Int,0<=z % 2147483587/\z % 2147483587<2147483587:=fun z=>⟨jm _ (by decide),jl _ (by decide)⟩;have three:∀z:Int,0<=z % 2147483563/\z % 2147483563<2147483563:=fun z=>⟨jm _ (by decide),jl _ (by decide)⟩;refine⟨_,rfl,_,_,rfl,rfl,(by show(0:Int)<1000000007;decide),_,_,rfl,rfl,nO (by decide) (by decide),_,rfl,_,_,rfl,rfl,nO (by decide) (by decide),_,_,rfl,rfl,_,_,rfl,rfl,_,_,rfl,rfl,(by show(0:Int)<2147483629;decide),?_⟩;generalize hz1:(c % 1000000007 * 69069+a * 40503+977)=z1;obtain⟨o1,o2⟩:=one z1;generalize z1 % 2147483629=o at o1 o2 ⊢;refine⟨_,rfl,_,rfl,_,_,rfl,rfl,nO (by omega) (by omega),_,rfl,_,_,rfl,rfl,nO (by decide) (by decide),_,_,rfl,rfl,_,rfl,_,_,rfl,rfl,(by show(0:Int)<65537;decide),_,_,rfl,rfl,_,_,rfl,rfl,(by show(0:Int)<2147483587;decide),?_⟩;generalize hz2:(o * o+a * 7919+c % 65537)=z2;obtain⟨p1,p2⟩:=two z2;generalize z2 % 2147483587=q at p1 p2 ⊢;refine⟨_,rfl,_,rfl,_,_,rfl,rfl,nO (by omega) (by omega),_,rfl,_,_,rfl,rfl,nO (by decide) (by decide),_,_,rfl,rfl,_,_,rfl,rfl,_,_,rfl,rfl,(by show(0:Int)<2147483563;decide),?_⟩;generalize hz3:(q * q+o * 31+5)=z3;obtain⟨r1,r2⟩:=three z3;generalize z3 % 2147483563=r at r1 r2 ⊢;refine⟨_,rfl,_,_,rfl,rfl,nO (by decide) (by decide),_,rfl,_,_,rfl,rfl,_,_,rfl,rfl,nO (by decide) (by decide),_,rfl,_,_,rfl,rfl,k _ ?_⟩;omega
def vX:Sp:=fun vs H Q _=>∃p c,vs=[.ref p]/\gH H p c/\∀H',gH H' p c->bg p H H'->Q (.ref p) H'
theorem EF{K:Za}{vs:List V}{H:Hp}{Q:VK}{E:XK}(h:vX vs H Q E):yN K (bh Q) (start zV vs) H:=by
 obtain⟨p,c,rfl,⟨a,r,ns,h⟩,k⟩:=h;refine⟨_,rfl,p,_,_,_,rfl,rfl,h.pen,rfl,_,rfl,k _ ⟨a,0,ns,aa,?_,h.at0,uS 0⟩ (bg.upd _ _ _)⟩;rw[ah h.ne];exact h.cells
theorem AN{ns:List Int}{a:Int}(h0:0<=a)(h1:a<ns.length):∃z,wH (ns.map V.int) a=some (.int z):=by
 obtain⟨n,rfl⟩:=lK h0;have hn:n<ns.length:=by omega
 exact⟨ns[n],bW (by simp[hn])⟩
inductive fZ (vs:List V)(H:Hp)(Q:VK)(E:XK):Prop
 |mk (p c:Addr) (m:Int):(vs=[.ref p,.int m])->(gH H p c)->(0<m)->(m<1073741824)->(∀(r:Int) (H':Hp),0<=r->r<m->gH H' p c->bg p H H'->Q (.int r) H')->fZ  vs H Q E
theorem gv{H:Hp}{Q:VK}{E:XK}{p c:Addr}{m:Int}(hp:gH H p c)(m0:0<m)(m1:m<1073741824)(k:∀(r:Int) (H':Hp),0<=r->r<m->gH H' p c->bg p H H'->Q (.int r) H'):fZ [.ref p,.int m] H Q E:=by
 exact⟨p,c,m,rfl,hp,m0,m1,k⟩
theorem Eu{K:Za}{vs:List V}{H:Hp}{Q:VK}{E:XK}(h:fZ vs H Q E):yJ K kN (bh Q) (start zS vs) H:=by
 obtain⟨p,c,m,rfl,⟨a,r,ns,h⟩,hm,hm2,k⟩:=h;have fin:∀(H':Hp) (a' r':Int) (x y:Option V),AT H' p c a' r' ns->bg p H H' ->
   (aq (aJ (aI gF (aI (dh K) V0 (tC (.int 2))) V1) U4) (aq (aJ (aI CV (aI (dh K) V0 (tC (.int 2))) V1) (zE V0 (tC (.int 2)) rM)) (aW V4)))
    (bh Q) [some (.ref p),some (.int m),x,y,none] H':=by
  intro H' a' r' x y h' ex;refine⟨_,rfl,p,_,2,_,rfl,rfl,ax.of h'.pen,rfl,_,rfl,_,_,rfl,rfl,hm,?_⟩;refine⟨_,rfl,p,_,2,_,rfl,rfl,ax.of h'.pen,rfl,_,rfl,_,_,rfl,rfl,⟨hm,hm2⟩,_,rfl,p,_,_,_,rfl,rfl,h'.pen,rfl,?_⟩;refine⟨_,rfl,k _ _ (jm _ (by omega)) (jl _ hm) ⟨a',_,ns,aa,?_,h'.at0,Int.ediv_nonneg h'.rest0 (by omega)⟩ (ex.trans (bg.upd _ _ _))⟩;rw[ah h'.ne];exact h'.cells
 refine⟨_,rfl,p,_,2,_,rfl,rfl,ax.of h.pen,rfl,_,rfl,_,_,rfl,rfl,_,rfl,?_⟩;refine kr (fun h1=>?_) (fun h1=>?_)
 ·-- at=pen[1];cell=0;if at<len(pen[0])
  refine⟨_,rfl,p,_,1,_,rfl,rfl,ax.of h.pen,rfl,?_⟩;have la:(V.int ((ns.map V.int).length:Nat))=V.int (ns.length:Nat):=by rw[aj]
  refine⟨_,rfl,_,rfl,p,_,0,_,rfl,rfl,ax.of h.pen,rfl,.inl ⟨c,_,rfl,.inl (ax.of h.cells),_,_,rfl,la,_,rfl,?_⟩⟩;refine kr (fun h2=>?_) (fun h2=>?_)
  ·obtain⟨z,hz⟩:=AN (ns:=ns) h.at0 (of_decide_eq_true h2);refine⟨_,rfl,p,_,0,_,rfl,rfl,ax.of h.pen,rfl,_,rfl,c,_,_,_,rfl,rfl,ax.of h.cells,hz,?_⟩;refine⟨_,rfl,_,_,rfl,rfl,_,rfl,p,_,_,_,rfl,rfl,h.pen,rfl,?_⟩;refine⟨_,rfl,_,rfl,_,_,rfl,h.at0,fun q hq=>⟨_,rfl,p,_,_,_,rfl,rfl,aa,rfl,?_⟩⟩;rw[qh];refine fin _ (a+1) q _ _ ⟨aa,by rw[ah h.ne];exact h.cells,by have:=h.at0;omega,hq⟩ (bg.upd _ _ _)
  ·refine⟨_,rfl,p,_,0,_,rfl,rfl,ax.of h.pen,rfl,.inl ⟨c,_,rfl,.inl (ax.of h.cells),_,_,la,rfl,_,rfl,?_⟩⟩;refine kr (fun h3=>?_) (fun h3=>?_)
   ·have hl:(0:Int)<ns.length:=of_decide_eq_true h3;obtain⟨z,hz⟩:=AN (ns:=ns) (a:=(a * 5+3) % (ns.length:Int)) (jm _ (by omega)) (jl _ hl);refine⟨_,rfl,p,_,0,_,rfl,rfl,ax.of h.pen,rfl,_,rfl,_,_,rfl,rfl,nO (by decide) (by decide),_,_,rfl,rfl,_,rfl,p,_,0,_,rfl,rfl,ax.of h.pen,rfl,.inl ⟨c,_,rfl,.inl (ax.of h.cells),_,_,rfl,la,hl,c,_,_,_,rfl,rfl,ax.of h.cells,hz,?_⟩⟩;refine⟨_,_,rfl,rfl,⟨by decide,by decide,by decide⟩,_,rfl,_,_,rfl,rfl,_,_,rfl,rfl,?_,?_⟩
    ·have e:((10:Int) ^ (17:Int).toNat)=100000000000000000:=by decide
     have:=h.at0;show(0:Int)<10 ^ (17:Int).toNat+a;omega
    refine⟨_,rfl,_,_,rfl,rfl,_,rfl,p,_,_,_,rfl,rfl,h.pen,rfl,?_⟩;refine⟨_,rfl,_,rfl,_,_,rfl,h.at0,fun q hq=>⟨_,rfl,p,_,_,_,rfl,rfl,aa,rfl,?_⟩⟩;rw[qh];refine fin _ (a+1) q _ _ ⟨aa,by rw[ah h.ne];exact h.cells,by have:=h.at0;omega,hq⟩ (bg.upd _ _ _)
   ·refine⟨_,rfl,_,_,rfl,rfl,_,rfl,p,_,_,_,rfl,rfl,h.pen,rfl,?_⟩;refine⟨_,rfl,_,rfl,_,_,rfl,h.at0,fun q hq=>⟨_,rfl,p,_,_,_,rfl,rfl,aa,rfl,?_⟩⟩;rw[qh];refine fin _ (a+1) q _ _ ⟨aa,by rw[ah h.ne];exact h.cells,by have:=h.at0;omega,hq⟩ (bg.upd _ _ _)
 ·exact fin H a r _ _ h (bg.refl _ _)
inductive qk(K:Za)(vs:List V)(H:Hp)(Q:VK)(E:XK):Prop
 |mk (a:Addr) (ns:List Int):(vs=[.ref a])->(ax K H a (ns.map V.int))->(ns.length<=63)->(∀(p c:Addr) (H':Hp),H p=none->gH H' p c->ac H H'->Q (.ref p) H')->qk K vs H Q E
theorem uA(ns:List Int)(lo hi:Option Int):∃ms:List Int,eN (ns.map V.int) lo hi=ms.map V.int/\ms.length=(eN (ns.map V.int) lo hi).length:=by
 refine⟨(ns.drop (HT.sIx (ns.map V.int).length 0 lo)).take (HT.sIx (ns.map V.int).length (ns.map V.int).length hi-HT.sIx (ns.map V.int).length 0 lo),?_,?_⟩
 ·unfold eN;rw[uR,uQ]
 ·unfold eN;rw[aD,aD,eK,eK,aj]
theorem Ew{K:Za}{vs:List V}{H:Hp}{Q:VK}{E:XK}(h:qk K vs H Q E):yL K (bh Q) (start zT vs) H:=by
 obtain⟨a,ns,rfl,hs,hn,k⟩:=h;obtain⟨c0,e0,l0⟩:=uA ns none (some 12);obtain⟨c1,e1,l1⟩:=uA ns (some 12) (some 63);have hlen:c1≠[]->c0.length=12:=by
  intro hne;have hc1:0<c1.length:=by cases c1 with|nil=>exact absurd rfl hne|cons _ _=>simp
  rw[l1]at hc1;rw[l0];unfold eN at hc1 ⊢;rw[aD,eK,aj]at hc1;rw[aD,eK,aj];have s1:HT.sIx ns.length 0 (some 12)=min 12 ns.length:=HT.sIx_nat _ _ 12;have s2:HT.sIx ns.length ns.length (some 12)=min 12 ns.length:=HT.sIx_nat _ _ 12;rw[HT.sIx_none,s2];rw[s1]at hc1;omega
 refine⟨_,rfl,_,rfl,a,_,rfl,hs,fun q hq=>.inl ⟨q,_,rfl,.inl (ax.of aa),fun c hc=>?_⟩⟩;rw[e0]at hc ⊢;have hcH:H c=none:=by
  have:c≠q:=fun z=>by subst z;rw[aa]at hc;cases hc
  rw[ah this]at hc;exact hc
 have hS:ac H (upd (upd H q (.lst (c0.map V.int))) c (.lst (c0.map V.int))):=(ac.new hq).trans (ac.new hc);refine⟨_,rfl,_,rfl,_,rfl,a,_,rfl,hS.seq hs,fun r hr=>⟨r,rfl,⟨_,ax.of aa⟩,?_⟩⟩;rw[e1];have hcr:c≠r:=ae aa hr;refine kA (xs:=c1.map V.int) (fun i σ H'=>Hn fun(ms:List Int) (x y:Option V)=>Ho (σ=[some (.ref a),some (.ref c),x,y]) (H' c=some (.lst (ms.map V.int))) (ms.length=c0.length) (H' r=some (.lst (c1.map V.int))) (ac H H'))
  ⟨c0,none,none,rfl,kp aa hr,rfl,aa,hS.trans (ac.new hr)⟩ (fun i σ H' _ ⟨ms,x,y,_,_,_,h,_⟩=>ax.of h) ?_ ?_
 ·rintro i x σ H' t hi ⟨ms,u,v,rfl,hcell,hml,hr',hS'⟩ ht;have hi':i<c1.length:=by
   have:=(bQ.mp hi).1;rwa[aj]at this
  have h12:=hlen (fun z=>by rw[z]at hi';simp at hi');obtain⟨z,rfl⟩:∃z,x=V.int z:=by
   rw[cD,eB hi']at hi;exact⟨_,(eD hi).symm⟩
  have hcell1:upd H' t (.tup [.int i,.int z]) c=some (.lst (ms.map V.int)):=kp hcell ht;have hidx:(i:Int) % 12=((i % 12:Nat):Int):=by omega
  have hlt:i % 12<ms.length:=by omega
  refine⟨t,_,rfl,bC.of aa,rfl,_,_,rfl,_,_,rfl,rfl,?_⟩;have hat:wH (ms.map V.int) ((i:Int) % 12)=some (.int ms[i % 12]):=by rw[hidx];exact bW (by simp[hlt])
  refine⟨_,rfl,_,rfl,_,_,rfl,rfl,(by show(0:Int)<12;decide),c,_,_,_,rfl,rfl,ax.of hcell1,hat,_,rfl,_,_,rfl,rfl,_,rfl,_,rfl,_,_,rfl,rfl,(by show(0:Int)<12;decide),c,_,_,i % 12,rfl,rfl,hcell1,?_,?_⟩
  ·rw[hidx];unfold D0;rw[if_pos (by omega),if_pos (by rw[aj];omega)];rw[jq]
  ·refine⟨ms.set (i % 12) (ms[i % 12]+z),_,_,rfl,?_,by rw[List.length_set];exact hml,?_,?_⟩
   ·rw[aa,List.map_set]
   ·rw[ah hcr.symm];exact kp hr' ht
   ·intro b o e;rw[ah (ae e hcH)];exact kp (hS' b o e) ht
 ·rintro σ H' ⟨ms,x,y,rfl,hcell,hml,hr',hS'⟩;refine⟨_,rfl,(by show 3<=ai;decide),fun p hp=>k p c _ (hS'.free hp) ⟨0,0,ms,aa,kp hcell hp,uS _,uS _⟩ (hS'.trans (ac.new hp))⟩
def wg(c:Nat):Prop:=97<=c/\c<=122
structure o6(w:Str):Prop where
 lo:1<=w.length
 hi:w.length<=8
 al:∀c∈w.cps.toList,wg c
theorem AR:∀n:Nat,n<26->(("abcdefghijklmnopqrstuvwxyz":Str).cps.toList)[n]?=some (97+n):=by decide +kernel
theorem AQ:("abcdefghijklmnopqrstuvwxyz":Str).length<=ai:=by decide +kernel
theorem DO{r:Int}(h0:0<=r)(h1:r<26):wH (("abcdefghijklmnopqrstuvwxyz":Str).cps.toList) r=some (97+r.toNat):=by
 obtain⟨n,rfl⟩:=lK h0;rw[jq];exact bW (AR n (by omega))
theorem tK(cs:List Nat):∀acc:Array Nat,((cs.map fun c=>(⟨#[c]⟩:Str)).foldl (fun acc p=>acc++("":Str).cps++p.cps) acc).toList=acc.toList++cs:=by
 have e:("":Str).cps=#[]:=by decide +kernel
 induction cs with
 |nil=>intro acc;simp
 |cons c cs ih =>
  intro acc;rw[bm,List.foldl_cons,ih,e];simp
theorem zw(cs:List Nat):(uZ "" (cs.map fun c=>(⟨#[c]⟩:Str))).cps.toList=cs:=by
 unfold uZ bc.Str.glued;cases cs with
 |nil=>rfl
 |cons c cs =>
  rw[bm];show((cs.map fun c=>(⟨#[c]⟩:Str)).foldl (fun acc p=>acc++("":Str).cps++p.cps) #[c]).toList=_;rw[tK]
  rfl
theorem Eo{a b:Str}(h:a.cps.toList=b.cps.toList):a=b:=by
 cases a with|mk x=>cases b with|mk y=>exact congrArg Str.mk (Array.toList_inj.mp h)
theorem eE(a:Str):a.length=a.cps.toList.length:=by simp[Str.length]
theorem wI(a b:Str):(a++b).cps.toList=a.cps.toList++b.cps.toList:=by
 show(a.cps++b.cps).toList=_;simp
theorem DG(z:Str)(m:Nat):(so z none (some (m:Int))).cps.toList=z.cps.toList.take m:=by
 unfold so;rw[HT.sIx_none,HT.sIx_nat,qO,Nat.sub_zero,eE];show List.take _ _=_;rw[List.take_eq_take_iff];omega
theorem DH(z:Str)(m:Nat):(so z (some (m:Int)) none).cps.toList=z.cps.toList.drop m:=by
 unfold so;rw[HT.sIx_none,HT.sIx_nat,eE];show List.take _ _=_;rw[qK (by rw[eK];omega)];by_cases h:m<=z.cps.toList.length
 ·rw[uP h]
 ·rw[Nat.min_eq_right (by omega),List.drop_length,nZ (by omega)]
def eC(way size k:Nat):Nat:=(size+k * (way % 2)) % 8
def yz(way m:Nat):Nat:=if way=0 then 0 else if way=1 then m else m / 2
def lE(b:List Nat)(way turn size k:Nat):List Nat :=
 (b.take (eC way size k)).take (yz way (eC way size k))++[97+(turn+3 * k) % 26]++(b.take (eC way size k)).drop (yz way (eC way size k))
def xc(b:List Nat)(way turn size k:Nat):Str:=⟨(lE b way turn size k).toArray⟩
theorem om{b:List Nat}(hb:b.length=7)(way turn size k:Nat):(lE b way turn size k).length=eC way size k+1:=by
 have h8:eC way size k<8:=qH _ (by decide);unfold lE;rw[aU,aU,aD,eK,aD,hb];have:yz way (eC way size k)<=eC way size k:=by unfold yz;split;omega;split;omega;omega
 simp;omega
theorem Ee{b:List Nat}(hb:b.length=7)(hl:∀c∈b,wg c)(way turn size k:Nat):o6 (xc b way turn size k):=by
 have h8:eC way size k<8:=qH _ (by decide);have hlen:=om hb way turn size k;have e:(xc b way turn size k).cps.toList=lE b way turn size k:=by simp[xc]
 refine⟨?_,?_,?_⟩
 ·rw[eE,e];omega
 ·rw[eE,e];omega
 ·rw[e];intro c hc;unfold lE at hc;rcases bw.mp hc with hc|hc
  ·rcases bw.mp hc with hc|hc
   ·exact hl c (fo (fo hc))
   ·have:c=97+(turn+3 * k) % 26:=by simpa using hc
    subst this;have:(turn+3 * k) % 26<26:=qH _ (by decide);exact⟨by omega,by omega⟩
  ·exact hl c (fo (uO hc))
theorem Ci{b:List Nat}(hb:b.length=7){way turn size:Nat}(hw:way<3){j k:Nat}(hj:j<26)(hk:k<26)(h:xc b way turn size j=xc b way turn size k):j=k:=by
 have h8:∀i,eC way size i<8:=fun i=>qH _ (by decide);have e:lE b way turn size j=lE b way turn size k:=by
  have:=congrArg (fun s=>Str.cps s |>.toList) h;simpa[xc]using this
 have el:eC way size j=eC way size k:=by
  have:=congrArg List.length e;rw[om hb,om hb]at this;omega
 have key:97+(turn+3 * j) % 26=97+(turn+3 * k) % 26:=by
  have hat:∀i,yz way (eC way size i)<=eC way size i:=fun i=>by unfold yz;split;omega;split;omega;omega
  have get:∀i,(lE b way turn size i)[yz way (eC way size i)]?=some (97+(turn+3 * i) % 26):=by
   intro i;unfold lE;have hl:((b.take (eC way size i)).take (yz way (eC way size i))).length=yz way (eC way size i):=by
    rw[aD,aD,hb];have:=h8 i;have:=hat i;omega
   rw[fk,List.getElem?_append_right (by omega),hl,Nat.sub_self]
   rfl
  have g1:=get j;have g2:=get k;rw[e,el]at g1;rw[g1]at g2;exact eD g2
 omega
def k9(ws:Zb):Prop:=ws.Nodup/\∀w∈ws,o6 w
def jr(b:List Nat)(way turn size n:Nat):List Str:=(jZ n).map (xc b way turn size)
theorem yE{b:List Nat}(hb:b.length=7)(hl:∀c∈b,wg c){way turn size n:Nat}(hw:way<3)(hn:n<=26):k9 (jr b way turn size n):=by
 refine⟨?_,fun w hm=>?_⟩
 ·unfold jr;rw[uN,List.pairwise_map];refine(List.nodup_range (n:=n)).imp_of_mem ?_;intro j k hj hk hne h;exact hne (Ci hb hw (by have:=List.mem_range.mp hj;omega) (by have:=List.mem_range.mp hk;omega) h)
 ·obtain⟨k,_,rfl⟩:=aM.mp hm;exact Ee hb hl _ _ _ _
inductive mV (vs:List V)(H:Hp)(Q:VK)(E:XK):Prop
 |mk (p c:Addr) (n:Nat):(vs=[.ref p,.int n])->(gH H p c)->(n<=26)->(∀(l:Addr) (ws:Zb) (H':Hp),k9 ws->ws.length=n->H l=none->H' l=some (.lst (ws.map V.str))->gH H' p c->bg p H H'->Q (.ref l) H')->mV  vs H Q E
theorem CJ{K:Za}{vs:List V}{H:Hp}{Q:VK}{E:XK}(h:mV vs H Q E):xk K fZ (bh Q) (start yq vs) H:=by
 obtain⟨p,c,n,rfl,hp,hn,k⟩:=h;refine⟨rfl,7,rfl,by decide,by decide,fun l hl=>?_⟩;refine zI (lo:=0) (n:=Int.toNat 7) (fun i vs H'=>∃cs:List Nat,vs=cs.map (fun c=>V.str ⟨#[c]⟩)/\cs.length=i/\(∀c∈cs,wg c)/\gH H' p c/\bg p H H'/\H' l=some (.lst vs))
  ⟨[],rfl,rfl,(fun _ h=>nomatch h),hp.ex (ac.new hl),bg.new hl,aa⟩ (fun i vs H' _ ⟨_,_,_,_,_,_,h⟩=>h) ?_ ?_
 rotate_left
 ·rintro i vs H' hi ⟨cs,rfl,hlen,hlet,hp',hex,hl'⟩;have hlp:=hp.nep hl;have hlc:=hp.nec hl;refine gN (sQ ?_);refine⟨_,rfl,_,rfl,gv hp' (by decide) (by decide) fun r H2 h0 h1 hp2 hex2=>⟨_,r,_,rfl,rfl,AQ,DO h0 h1,?_⟩⟩;have hl2:=hex2 l _ hl' hlp.symm;refine⟨hl2,by rw[aj,hlen];exact ar (by omega),nV hi ⟨cs++[97+r.toNat],by rw[aw];rfl,by rw[aU,hlen];rfl,?_,hp2.upd hlp hlc,?_,aa⟩⟩
  ·intro x hc;rcases bw.mp hc with hc|hc
   ·exact hlet x hc
   ·have:x=97+r.toNat:=by simpa using hc
    subst this;exact⟨by omega,by omega⟩
  ·intro b o' e nb;rw[ah (ae e hl)];exact hex2 b o' (hex b o' e nb) nb
 ·rintro vs H1 ⟨cs,rfl,hlen,hlet,hp1,hex1,hl1⟩;refine⟨"",l,cs.map fun c=>(⟨#[c]⟩:Str),rfl,rfl,ax.of (by rw[hl1,iL];rfl),?_,?_⟩
  ·have e0:("":Str).length=0:=by decide +kernel
   rw[e0,Nat.mul_zero,iL];have:∀cs:List Nat,(cs.map ((fun x=>Str.length x) ∘ fun c=>(⟨#[c]⟩:Str))).sum=cs.length:=by
    intro cs
    induction cs with
    |nil=>rfl
    |cons c cs ih=>rw[bm,qG,ih,fh];show 1+_=_;omega
   rw[this,hlen];decide
  refine⟨_,rfl,gv hp1 (by decide) (by decide) fun way H2 w0 w1 hp2 hex2=>?_⟩;refine⟨_,rfl,gv hp2 (by decide) (by decide) fun turn H3 t0 t1 hp3 hex3=>?_⟩;refine⟨_,rfl,gv hp3 (by decide) (by decide) fun size H4 s0 s1 hp4 hex4=>?_⟩;have ex4:bg p H H4:=((hex1.trans hex2).trans hex3).trans hex4;obtain⟨wy,rfl⟩:=lK w0;obtain⟨tn,rfl⟩:=lK t0;obtain⟨sz,rfl⟩:=lK s0;have hb:=zw cs;generalize uZ "" (cs.map fun c=>(⟨#[c]⟩:Str))=base at hb ⊢;refine⟨(by show 0<=ai;decide),fun f hf=>?_⟩;obtain⟨op,hop⟩:=hp4.pen;have hfH:H f=none:=ex4.free hop hf;have hfp:=hp.nep hfH;have hfc:=hp.nec hfH;refine⟨_,rfl,n,rfl,by omega,by omega,k4 (lo:=0) (n:=((n:Int)).toNat) (fun i σ H'=>∃(a b c' d:Option V),σ=[some (.ref p),some (.int n),some (.str "abcdefghijklmnopqrstuvwxyz"),some (.str base),some (.int wy),some (.int tn),some (.int sz),some (.ref f),a,b,c',d] /\
   gH H' p c/\bg p H H'/\H' f=some (.lst ((jr cs wy tn sz i).map V.str)))
   ⟨_,_,_,_,rfl,hp4.upd hfp hfc,ex4.trans (bg.new hf),aa⟩ ?_ ?_⟩
  ·rintro i σ H' hi ⟨a,b,c',d,rfl,hp',hex',hf'⟩;have hi':i<n:=by omega
   have hwy:wy<3:=by omega
   have e26:((tn:Int)+3 * (0+(i:Int))) % 26=(((tn+3 * i) % 26:Nat):Int):=by omega
   refine⟨_,rfl,_,rfl,_,rfl,_,_,rfl,rfl,.inl ⟨by decide,by decide⟩,_,_,rfl,rfl,_,_,rfl,rfl,(by show(0:Int)<26;decide),_,_,_,rfl,rfl,AQ,DO (jm _ (by decide)) (jl _ (by decide)),?_⟩;have blen:base.length<=ai:=by rw[eE,hb,hlen];decide
   have e8:((sz:Int)+(0+(i:Int)) * ((wy:Int) % 2)) % 8=((eC wy sz i:Nat):Int):=by
    unfold eC;have:wy=0∨wy=1∨wy=2:=by omega
    rcases this with rfl|rfl|rfl<;>simp<;>omega
   refine⟨_,rfl,_,rfl,_,rfl,_,rfl,_,_,rfl,rfl,(by show(0:Int)<2;decide),_,_,rfl,rfl,.inr ⟨by omega,by omega⟩,_,_,rfl,rfl,_,_,rfl,rfl,(by show(0:Int)<8;decide),_,rfl,base,rfl,blen,?_⟩;rw[e8];have hpart:=DG base (eC wy sz i);rw[hb]at hpart;generalize so base none (some ((eC wy sz i:Nat):Int))=part at hpart ⊢;have h8:eC wy sz i<8:=qH _ (by decide);have plen:part.length=eC wy sz i:=by rw[eE,hpart,aD,hlen];omega
   have pz:part.length<=ai:=by rw[plen];exact cL (ar (by omega))
   refine⟨_,rfl,.inr ⟨part,rfl,pz,_,rfl,.inr ⟨part,rfl,pz,_,_,rfl,rfl,⟨by decide,by decide⟩,(by show 3<=ai;decide),fun q hq=>?_⟩⟩⟩;have hqH:H q=none:=by
    obtain⟨op',hop'⟩:=hp'.pen;exact hex'.free hop' hq
   have hat:wH [V.int 0,V.int (part.length:Nat),V.int ((part.length:Int) / 2)] (wy:Int)=some (.int (yz wy (eC wy sz i):Nat)):=by
    rw[plen];have:wy=0∨wy=1∨wy=2:=by omega
    rcases this with rfl|rfl|rfl
    ·rfl
    ·rfl
    ·show some (V.int (((eC 2 sz i:Nat):Int) / 2))=some (V.int ((yz 2 (eC 2 sz i):Nat):Int));have:yz 2 (eC 2 sz i)=eC 2 sz i / 2:=rfl;rw[this];congr 2
   refine⟨_,rfl,q,_,_,_,rfl,rfl,ax.of aa,hat,?_⟩;have hf2:upd H' q (.lst [V.int 0,V.int (part.length:Nat),V.int ((part.length:Int) / 2)]) f=some (.lst ((jr cs wy tn sz i).map V.str)):=kp hf' hq;have c1:=DG part (yz wy (eC wy sz i));have c2:=DH part (yz wy (eC wy sz i));have l1:(so part none (some ((yz wy (eC wy sz i):Nat):Int))).length<=8:=by rw[eE,c1,aD,hpart,aD,hlen];omega
   have l2:(so part (some ((yz wy (eC wy sz i):Nat):Int)) none).length<=8:=by rw[eE,c2,eK,hpart,aD,hlen];omega
   refine⟨_,rfl,.inl ⟨rfl,_,ax.of hf2⟩,_,rfl,_,rfl,_,rfl,part,rfl,pz,_,rfl,_,_,rfl,rfl,?_,_,rfl,_,rfl,_,rfl,part,rfl,pz,_,_,rfl,rfl,?_,f,_,_,rfl,rfl,hf2,?_,?_⟩
   ·have:Str.length ⟨#[97+(((tn:Int)+3 * (0+(i:Int))) % 26).toNat]⟩=1:=rfl;rw[this];exact cL (ar (by omega))
   ·rw[eE,wI,aU,<-eE,<-eE];have:Str.length ⟨#[97+(((tn:Int)+3 * (0+(i:Int))) % 26).toNat]⟩=1:=rfl;rw[this];exact cL (ar (by omega))
   ·rw[aj];unfold jr;rw[aj,List.length_range];exact ar (by omega)
   ·refine⟨_,_,_,_,rfl,(hp'.upd (hp.nep hqH) (hp.nec hqH)).upd hfp hfc,?_,?_⟩
    ·intro b' o' e nb;rw[ah (ae e hfH)];exact kp (hex' b' o' e nb) hq
    ·rw[aa];unfold jr;rw[List.range_succ,aw,aw];congr 3;show[V.str _]=[V.str _];congr 2;refine Eo ?_;rw[wI,wI,c1,c2,hpart,e26,jq];simp[xc,lE]
  ·rintro σ H' ⟨a,b,c',d,rfl,hp',hex',hf'⟩;have en:((n:Int)).toNat=n:=by omega
   rw[en]at hf';exact⟨_,rfl,k f _ H' (yE hlen hlet (by omega) hn) (by unfold jr;rw[aj,List.length_range]) hfH hf' hp' hex'⟩
structure am where
 a:Str
 sg:List Str
 b:Str
deriving DecidableEq
def SignAt(H:Hp)(s:Addr)(sg:Zb):Prop:=H s=some (.tup (sg.map V.str))
def ii(H:Hp)(t:Addr)(d:am):Prop:=∃s,H t=some (.tup [.str d.a,.ref s,.str d.b])/\SignAt H s d.sg
def ig(H H':Hp):Prop:=∀b xs,H b=some (.tup xs)->H' b=some (.tup xs)
theorem ii.kt{H H':Hp}{t:Addr}{d:am}(k:ig H H')(h:ii H t d):ii H' t d:=by
 obtain⟨s,h1,h2⟩:=h;exact⟨s,k _ _ h1,k _ _ h2⟩
theorem bg.kt{p:Addr}{H H':Hp}{xs:List V}(e:bg p H H')(hp:H p=some (.lst xs)):ig H H':=fun b ys h=>e b _ h (fun z=>by rw[z,hp]at h;cases h)
theorem ac.kt{H H':Hp}(e:ac H H'):ig H H':=fun b ys h=>e b _ h
theorem ig.trans{H H1 H2:Hp}(a:ig H H1)(b:ig H1 H2):ig H H2:=fun x xs h=>b x xs (a x xs h)
theorem eM{H:Hp}{l:Addr}{xs:List V}{o:HO}(h:H l=some (.lst xs)):ig H (upd H l o):=fun b ys e=>by
 rw[ah (fun z=>by rw[z,h]at e;cases e)];exact e
abbrev dY(H:Hp)(ts:Ze)(ds:List am):Prop:=Paired (ii H) ts ds
theorem Paired.get{α β:Type}{R:α->β->Prop}:∀{xs:List α}{ys:List β}{i:Nat}{y:β},Paired R xs ys->ys[i]?=some y->∃x,xs[i]?=some x/\R x y
 |_,_,i,y,.nil,h=>by simp at h
 |_,_,0,y,.cons r t,h=>by simp at h;subst h;exact⟨_,rfl,r⟩
 |_,_,i+1,y,.cons r t,h=>by
  simp at h;obtain⟨x,h1,h2⟩:=Paired.get t h;exact⟨x,by simpa using h1,h2⟩
theorem Paired.getL{α β:Type}{R:α->β->Prop}:∀{xs:List α}{ys:List β}{i:Nat}{x:α},Paired R xs ys->xs[i]?=some x->∃y,ys[i]?=some y/\R x y
 |_,_,i,y,.nil,h=>by simp at h
 |_,_,0,y,.cons r t,h=>by simp at h;subst h;exact⟨_,rfl,r⟩
 |_,_,i+1,y,.cons r t,h=>by
  simp at h;obtain⟨x,h1,h2⟩:=Paired.getL t h;exact⟨x,by simpa using h1,h2⟩
theorem dY.kt{H H':Hp}{ts:Ze}{ds:List am}(k:ig H H')(h:dY H ts ds):dY H' ts ds:=Paired.mapP h fun _ _ r=>r.kt k
theorem FJ{H:Hp}{a:Addr}{o:HO}(h:H a=some o):upd H a o=H:=by
 funext b;by_cases e:b=a
 ·subst e;rw[aa,h]
 ·rw[ah e]
def gl(x:Str):DT:=.k (.inr x)
def BS(d:am):DT:=.t [gl d.a,.t (d.sg.map gl),gl d.b]
theorem nh{x y:Str}(h:gl x=gl y):x=y:=by
 unfold gl at h;injection h with h;injection h
theorem iC:∀{x y:Zb},x.map gl=y.map gl->x=y
 |[],[],_=>rfl
 |[],_::_,h=>by cases h
 |_::_,[],h=>by cases h
 |a::x,b::y,h=>by
  rw[bm,bm]at h;injection h with h1 h2;rw[nh h1,iC h2]
theorem Fd{x y:am}(h:BS x=BS y):x=y:=by
 unfold BS at h;injection h with h;injection h with h1 h;injection h with h2 h;injection h with h3 h;injection h2 with h2;cases x;cases y;simp only at *;rw[nh h1,iC h2,nh h3]
theorem ie(xs:Zb):DT.depths (xs.map gl)=0:=by
 induction xs with
 |nil=>rfl
 |cons x xs ih=>rw[bm];show max (DT.depth (gl x)) (DT.depths _)=0;rw[ih];rfl
theorem AF(d:am):(BS d).depth=2:=by
 show DT.depths [gl d.a,.t (d.sg.map gl),gl d.b]+1=2;show max (DT.depth (gl d.a)) (max (DT.depths (d.sg.map gl)+1) (max (DT.depth (gl d.b)) 0))+1=2;rw[ie]
 rfl
theorem BP(ds:List am):DT.depths (ds.map BS)<=8:=by
 induction ds with
 |nil=>exact eS _
 |cons x xs ih=>rw[bm];show max (DT.depth (BS x)) (DT.depths _)<=8;rw[AF];omega
theorem ml{K:Za}{H:Hp}:∀xs:List Str,DIns K H (xs.map gl) (xs.map V.str)
 |[]=>by show DIns K H [] [];unfold DIns;rfl
 |x::xs=>by
  rw[bm,bm];unfold DIns;refine⟨_,_,rfl,?_,ml xs⟩;unfold gl nU
  rfl
theorem pB{K:Za}{H:Hp}(x:Str):nU K H (gl x) (.str x):=by unfold gl nU;rfl
theorem bN{K:Za}{H:Hp}{s:Addr}{sg:Zb}(h:bC K H s (sg.map V.str)):nU K H (.t (sg.map gl)) (.ref s):=by
 unfold nU;exact⟨s,_,rfl,h,ml _⟩
theorem ii.dIn{K:Za}{H:Hp}{t:Addr}{d:am}(h:ii H t d):nU K H (BS d) (.ref t):=by
 obtain⟨s,h1,h2⟩:=h;unfold BS;unfold nU;refine⟨t,_,rfl,bC.of h1,?_⟩;unfold DIns;refine⟨_,_,rfl,pB _,?_⟩;unfold DIns;refine⟨_,_,rfl,bN (bC.of h2),?_⟩;unfold DIns;refine⟨_,_,rfl,pB _,?_⟩;unfold DIns
 rfl
theorem dY.dIns{K:Za}{H:Hp}:∀{ts:Ze}{ds:List am},dY H ts ds->DIns K H (ds.map BS) (ts.map V.ref)
 |_,_,.nil=>by show DIns K H [] [];unfold DIns;rfl
 |_,_,.cons r t=>by
  rw[bm,bm];unfold DIns;exact⟨_,_,rfl,r.dIn,dY.dIns t⟩
theorem Ay{d:am}{ds:List am}:BS d∈ds.map BS↔d∈ds:=by
 constructor
 ·intro h;obtain⟨x,hx,e⟩:=aM.mp h;rw[<-Fd e];exact hx
 ·exact nX
def zb(ds:List am)(d:am):List am:=if d∈ds then ds else ds++[d]
inductive rE (vs:List V)(H:Hp)(Q:VK)(E:XK):Prop
 |mk (l t:Addr) (ts:Ze) (ds:List am) (d:am):(vs=[.ref l,.ref t])->(H l=some (.lst (ts.map V.ref)))->(dY H ts ds)->(ii H t d)->(ds.length<=1000)->(∀ts':List Addr,dY H ts' (zb ds d)->Q .non (upd H l (.lst (ts'.map V.ref))))->rE  vs H Q E
theorem FP{K:Za}{vs:List V}{H:Hp}{Q:VK}{E:XK}(h:rE vs H Q E):Ba K (bh Q) (start B8 vs) H:=by
 obtain⟨l,t,ts,ds,d,rfl,hl,hd,ht,hz,k⟩:=h;refine⟨_,rfl,_,rfl,BS d,ds.map BS,l,_,ht.dIn,rfl,.inl (ax.of hl),hd.dIns,by rw[AF];decide,BP ds,_,rfl,?_⟩;by_cases hm:d∈ds
 ·rw[if_pos rfl,zzr1 (Ay.mpr hm)];refine cr ?_;have:=k ts (by unfold zb;rw[if_pos hm];exact hd);rw[FJ hl]at this;exact this
 ·rw[if_pos rfl,zzr0 (fun z=>hm (Ay.mp z))];refine cJ ?_;refine⟨_,rfl,.inl ⟨rfl,_,ax.of hl⟩,_,rfl,l,_,_,rfl,rfl,hl,?_,?_⟩
  ·rw[aj,Paired.length hd];exact ar hz
  ·have:=k (ts++[t]) (by unfold zb;rw[if_neg hm];exact gq hd ht);rw[aw]at this;exact this
structure DI(R:am->Prop)(H0:Hp)(p c l:Addr)(m:Nat)(H:Hp):Prop where
 pen:gH H p c
 ds:∃ts ds,H l=some (.lst (ts.map V.ref))/\dY H ts ds/\ds.Nodup/\(∀d∈ds,R d)/\ds.length<=m
 ex:bg p H0 H
 fr:H0 l=none
 pl:p≠l
 cl:c≠l
section
variable{R:am->Prop}{H0 H H':Hp}{p c l:Addr}{m:Nat}
theorem gH.lst{H:Hp}{p c:Addr}(h:gH H p c):∃xs,H p=some (.lst xs):=by
 obtain⟨a,r,ns,h1,_⟩:=h;exact⟨_,h1⟩
theorem DI.took(h:DI R H0 p c l m H)(hp:gH H' p c)(e:bg p H H'):DI R H0 p c l m H':=by
 obtain⟨ts,ds,h1,h2,h3⟩:=h.ds;obtain⟨xs,hx⟩:=h.pen.lst;exact⟨hp,⟨ts,ds,e _ _ h1 h.pl.symm,h2.kt (e.kt hx),h3⟩,h.ex.trans e,h.fr,h.pl,h.cl⟩
theorem DI.new(h:DI R H0 p c l m H){q:Addr}{o:HO}(hq:H q=none):DI R H0 p c l m (upd H q o) :=
 h.took (h.pen.ex (ac.new hq)) (bg.new hq)
theorem DI.up(h:DI R H0 p c l m H){n:Nat}(hn:m<=n):DI R H0 p c l n H:=by
 obtain⟨ts,ds,h1,h2,h3,h4,h5⟩:=h.ds;exact⟨h.pen,⟨ts,ds,h1,h2,h3,h4,aE h5 hn⟩,h.ex,h.fr,h.pl,h.cl⟩
theorem DI.put(h:DI R H0 p c l m H){t:Addr}{d:am}{Q:VK}{E:XK}(ht:ii H t d)(hR:R d)(hm:m<=1000)(k:∀H',DI R H0 p c l (m+1) H'->Q .non H'):rE [.ref l,.ref t] H Q E:=by
 obtain⟨ts,ds,h1,h2,h3,h4,h5⟩:=h.ds;refine⟨l,t,ts,ds,d,rfl,h1,h2,ht,aE h5 hm,fun ts' h'=>k _ ⟨h.pen.upd h.pl h.cl,⟨ts',zb ds d,aa,h'.kt (eM h1),?_,?_,?_⟩,?_,h.fr,h.pl,h.cl⟩⟩
 ·unfold zb;split
  ·exact h3
  ·next hn =>
   rw[cZ];refine⟨h3,by simp,?_⟩;intro a ha b hb e;have:b=d:=by simpa using hb
   subst this;exact hn (e▸ha)
 ·intro x hx;unfold zb at hx;split at hx
  ·exact h4 x hx
  ·rcases bw.mp hx with hx|hx
   ·exact h4 x hx
   ·have:x=d:=by simpa using hx
    rw[this];exact hR
 ·unfold zb;split
  ·omega
  ·rw[aU];show ds.length+1<=m+1;omega
 ·intro b o e n;rw[ah (ae e h.fr)];exact h.ex b o e n
end
theorem gH.ne_strs{H:Hp}{p c a:Addr}{ws:Zb}(hp:gH H p c)(ha:H a=some (.lst (ws.map V.str))):a≠p:=by
 intro e;obtain⟨x,y,ns,h1,_⟩:=hp;rw[e,h1]at ha;injection ha with ha;injection ha with ha;cases ws with
 |nil=>cases ha
 |cons w ws=>injection ha with ha;cases ha
theorem qv{K:Za}{r:R2}(hr:∀x y H Q,dh K x y H Q->r x y H Q){σ:L2.St}{H:Hp}{Q:VK}{p c a:Addr}{j:Nat}{ws:Zb}(h0:σ[0]?=some (some (.ref p)))(hj:σ[j]?=some (some (.ref a)))(hp:gH H p c)
  (ha:H a=some (.lst (ws.map V.str))) (hne:ws≠[]) (hlen:ws.length<=1000) (k:∀w∈ws,∀H',gH H' p c->bg p H H'->Q (.str w) H') :
  ∃v,σ[j]?=some (some v)/\∃v0,σ[0]?=some (some v0)/\∃v1,σ[j]?=some (some v1)/\ko K [v1] H fun y H1=>fZ [v0,y] H1 (fun y H2=>r v y H2 Q) E0:=by
 have hl:0<ws.length:=by cases ws with|nil=>exact absurd rfl hne|cons _ _=>simp
 have la:(V.int ((ws.map V.str).length:Nat))=V.int (ws.length:Nat):=by rw[aj]
 have hpa:=hp.ne_strs ha;have fin:∀(x:Int) (H':Hp),0<=x->x<(ws.length:Int)->gH H' p c->bg p H H'->dh K (.ref a) (.int x) H' Q:=by
  intro x H' x0 x1 hp' ex;obtain⟨n,rfl⟩:=lK x0;have hn:n<ws.length:=by omega
  exact⟨a,_,(n:Int),.str ws[n],rfl,rfl,ax.of (ex _ _ ha hpa),bW (by simp[hn]),k _ (List.getElem_mem hn) H' hp' ex⟩
 exact⟨_,hj,_,h0,_,hj,.inl ⟨a,_,rfl,.inl (ax.of ha),by rw[la];exact gv hp (by omega) (by omega) fun x H' x0 x1 hp' ex=>hr _ _ _ _ (fin x H' x0 x1 hp' ex)⟩⟩
def Up(up:Bool)(J2:Zb)(a b:Str):Prop:=∃i j:Nat,J2[i]?=some a/\J2[j]?=some b/\(if up=true then i<j else j<i)
structure kH(J0 J1 J2:Zb)(up:Bool)(d:am):Prop where
 a:d.a∈J2
 b:d.b∈J2
 sg:(∃w∈J0,d.sg=[("ask":Str),w])∨(∃w∈J1,d.sg=[("say":Str),w])∨(d.sg=[("still":Str)]/\Up up J2 d.a d.b)
def aX:List Str:=[("still":Str)]
structure DV(J0 J1 J2:Zb)(d:am):Prop where
 a:d.a∈J2
 b:d.b∈J2
 sg:(∃w∈J0,d.sg=[("ask":Str),w])∨(∃w∈J1,d.sg=[("say":Str),w])∨d.sg=aX
theorem kH.d{J0 J1 J2:Zb}{up:Bool}{d:am}(h:kH J0 J1 J2 up d):DV J0 J1 J2 d:=⟨h.a,h.b,h.sg.imp id (Or.imp id And.left)⟩
inductive Reach(ds:List am)(a:Str):Str->Prop
 |one {b:Str}(h:(⟨a,aX,b⟩:am)∈ds):Reach ds a b
 |step {b c:Str}(r:Reach ds a b) (h:(⟨b,aX,c⟩:am)∈ds):Reach ds a c
theorem AC{J2:Zb}(nd:J2.Nodup){i j:Nat}{a:Str}(hi:J2[i]?=some a)(hj:J2[j]?=some a):i=j:=by
 obtain⟨h1,e1⟩:=bQ.mp hi;obtain⟨h2,e2⟩:=bQ.mp hj;have pw:=List.pairwise_iff_getElem.mp nd;rcases Nat.lt_trichotomy i j with h|h|h
 ·exact absurd (e1.trans e2.symm) (pw i j h1 h2 h)
 ·exact h
 ·exact absurd (e2.trans e1.symm) (pw j i h2 h1 h)
theorem Up.trans{up:Bool}{J2:Zb}(nd:J2.Nodup){a b c:Str}(h1:Up up J2 a b)(h2:Up up J2 b c):Up up J2 a c:=by
 obtain⟨i,j,e1,e2,h⟩:=h1;obtain⟨j',k,e3,e4,h'⟩:=h2;have:=AC nd e2 e3;subst this;refine⟨i,k,e1,e4,?_⟩;cases up
 ·simp at h h' ⊢;omega
 ·simp at h h' ⊢;omega
theorem Up.irr{up:Bool}{J2:Zb}(nd:J2.Nodup){a:Str}(h:Up up J2 a a):False:=by
 obtain⟨i,j,e1,e2,h⟩:=h;have:=AC nd e1 e2;subst this;cases up
 ·simp at h
 ·simp at h
theorem Cn{J0 J1 J2:Zb}{ds:List am}{up:Bool}(nd:J2.Nodup)(m:∀d∈ds,kH J0 J1 J2 up d){a b:Str}(h:Reach ds a b):Up up J2 a b:=by
 have edge:∀{a b:Str},(⟨a,aX,b⟩:am)∈ds->Up up J2 a b:=by
  intro a b h;rcases(m _ h).sg with⟨w,_,e⟩|⟨w,_,e⟩|⟨_,e⟩
  ·cases e
  ·cases e
  ·exact e
 induction h with
 |one h=>exact edge h
 |step r h ih=>exact ih.trans nd (edge h)
inductive f8 (vs:List V)(H:Hp)(Q:VK)(E:XK):Prop
 |mk (p c l1 l2 l3:Addr) (J0 J1 J2:Zb) (full:Int):(vs=[.ref p,.ref l1,.ref l2,.ref l3,.int full])->(gH H p c)->(H l1=some (.lst (J0.map V.str)))->(H l2=some (.lst (J1.map V.str)))->(H l3=some (.lst (J2.map V.str)))->(J0.length<=4)->(J1≠[])->(J1.length<=4)->(J2≠[])->(J2.length<=26)->(0<=full)->(full<=2)->(∀(l:Addr) (ts:Ze) (ds:List am) (up:Bool) (H':Hp),H l=none->H' l=some (.lst (ts.map V.ref))->dY H' ts ds->ds.Nodup->(∀d∈ds,kH J0 J1 J2 up d)->ds.length<=600->gH H' p c->bg p H H'->Q (.ref l) H')->f8  vs H Q E
theorem at4{x r:Int}(x0:0<=x)(x2:x<=2)(r0:0<=r)(r4:r<4):∃j:Int,wH [V.int x,.int 1,.int 1,.int 2] r=some (.int j)/\0<=j/\j<=2:=by
 have:r=0∨r=1∨r=2∨r=3:=by omega
 rcases this with rfl|rfl|rfl|rfl
 ·exact⟨x,rfl,x0,x2⟩
 ·exact⟨1,rfl,by decide,by decide⟩
 ·exact⟨1,rfl,by decide,by decide⟩
 ·exact⟨2,rfl,by decide,by decide⟩
theorem BT(ws:Zb)(k:Nat):eN (ws.map V.str) (some (k:Int)) none=(ws.drop k).map V.str:=by
 unfold eN;rw[HT.sIx_none,HT.sIx_nat,aj,qK (by rw[eK,aj];omega),uQ];by_cases h:k<=ws.length
 ·rw[uP h]
 ·rw[Nat.min_eq_right (by omega),nZ (by simp),nZ (by rw[aj];omega)]
theorem wx(ws:Zb)(k:Nat):eN (ws.map V.str) none (some (k:Int))=(ws.take k).map V.str:=by
 unfold eN;rw[HT.sIx_none,HT.sIx_nat,aj,qO,Nat.sub_zero,uR,List.take_eq_take_iff,aj];omega
theorem DF{K:Za}{H:Hp}{a:Addr}{ws:Zb}(h:ax K H a (ws.map V.str)):nU K H (.s (ws.map gl)) (.ref a):=by
 unfold nU;exact⟨a,_,rfl,h,ml _⟩
theorem Fc{K:Za}{H:Hp}{a:Addr}(h:ax K H a []):nU K H (.s []) (.ref a):=by
 unfold nU;refine⟨a,_,rfl,h,?_⟩;unfold DIns
 rfl
inductive DdI(G:am->Prop)(H:Hp)(p c l l1 l2 l3:Addr)(full dn:Int)(i:Nat)(σ:L2.St)(H':Hp):Prop
 |mk (a7 a8 a9 a10 a11 a12:Option V):σ=[some (.ref p),some (.ref l1),some (.ref l2),some (.ref l3),some (.int full),some (.ref l),some (.int dn),a7,a8,a9,a10,a11,a12]->DI G H p c l (11 * i) H'->DdI G H p c l l1 l2 l3 full dn i σ H'
theorem tG{K:Za}{vs:List V}{H:Hp}{Q:VK}{E:XK}(h:f8 vs H Q E):ow K fZ rE (bh Q) (start oY vs) H:=by
 obtain⟨p,c,l1,l2,l3,J0,J1,J2,full,rfl,hp,h1,h2,h3,ha,hs0,hs,hr0,hr,f0,f2,k⟩:=h;have n1:=hp.ne_strs h1;have n2:=hp.ne_strs h2;have n3:=hp.ne_strs h3;refine⟨(by show 0<=ai;decide),fun l hl=>?_⟩;have hpl:=hp.nep hl;have hcl:=hp.nec hl;refine⟨_,rfl,gv (hp.ex (ac.new hl)) (by decide) (by decide) fun dn H1 d0 d1 hp1 ex1=>?_⟩;generalize hG:kH J0 J1 J2 (decide (dn=0))=G;have base:DI G H p c l 0 H1:=⟨hp1,⟨[],[],ex1 _ _ aa hpl.symm,.nil,qX,by simp,eS _⟩,(bg.new hl).trans ex1,hl,hpl,hcl⟩;refine⟨_,rfl,l3,rfl,⟨_,ax.of (base.ex _ _ h3 n3)⟩,?_⟩;refine kA (xs:=J2.map V.str) (DdI G H p c l l1 l2 l3 full dn)
  ⟨_,_,_,_,_,_,rfl,base⟩ (fun i σ H' _ ⟨_,_,_,_,_,_,_,D⟩=>ax.of (D.ex _ _ h3 n3)) ?_ ?_
 ·rintro i x σ H' t hi ⟨a7,a8,a9,a10,a11,a12,rfl,D⟩ ht;obtain⟨room,hroom,rfl⟩:∃room,J2[i]?=some room/\x=V.str room:=by
   rw[cD]at hi;cases q:J2[i]? with
   |none=>rw[q]at hi;cases hi
   |some r=>rw[q]at hi;exact⟨r,rfl,(eD hi).symm⟩
  have hiL:i<J2.length:=(bQ.mp hroom).1;have hmem:room∈J2:=cw hroom;refine⟨t,_,rfl,bC.of aa,rfl,_,_,rfl,_,_,rfl,rfl,?_⟩;have D1:=D.new ht (o:=.tup [.int i,.str room]);refine⟨(by show 4<=ai;decide),fun q hq=>⟨_,rfl,gv (D1.new hq).pen (by decide) (by decide) fun r H2 r0 r1 hp2 ex2=>?_⟩⟩;obtain⟨j,hj,j0,j2⟩:=at4 (x:=0) (by decide) (by decide) r0 r1;have D2:=(D1.new hq).took hp2 ex2;refine⟨q,_,_,_,rfl,rfl,ax.of (ex2 q _ aa (D1.pen.nep hq).symm),hj,j,rfl,by omega,by omega,?_⟩;refine k4 (lo:=0) (n:=j.toNat) (fun i' σ H''=>∃a9 a10:Option V,σ=[some (.ref p),some (.ref l1),some (.ref l2),some (.ref l3),some (.int full),some (.ref l),some (.int dn),some (.int i),some (.str room),a9,a10,a11,a12]/\DI G H p c l (11 * i+i') H'')
   ⟨_,_,rfl,D2⟩ ?_ ?_
  ·rintro i' σ H3 hi' ⟨a9,a10,rfl,D3⟩;refine qv (fun _ _ _ _ h=>h) rfl rfl D3.pen (D3.ex _ _ h2 n2) hs0 (by omega) fun w hw H4 hp4 ex4=>?_;have D4:=D3.took hp4 ex4;refine⟨(by show 2<=ai;decide),fun sg hsg=>?_⟩;have D5:=D4.new hsg (o:=.tup [.str "say",.str w]);refine⟨_,rfl,_,rfl,_,rfl,qv (fun _ _ _ _ h=>h) rfl rfl D5.pen (D5.ex _ _ h3 n3) hr0 (by omega) fun w2 hw2 H6 hp6 ex6=>?_⟩;have D6:=D5.took hp6 ex6;refine⟨(by show 3<=ai;decide),fun dr hdr=>?_⟩;have D7:=D6.new hdr (o:=.tup [.str room,.ref sg,.str w2]);have hsg6:H6 sg=some (.tup [.str "say",.str w]):=ex6 _ _ aa (D4.pen.nep hsg).symm;refine D7.put (d:=⟨room,["say",w],w2⟩) ⟨sg,aa,kp hsg6 hdr⟩ ?_ (by omega) fun H8 D8=>⟨_,_,rfl,D8⟩;rw[<-hG];exact⟨hmem,hw2,.inr (.inl ⟨w,hw,rfl⟩)⟩
  rintro σ H3 ⟨a9,a10,rfl,D3'⟩;have D3:DI G H p c l (11 * i+2) H3:=D3'.up (by omega);clear D3';refine⟨_,rfl,l1,rfl,⟨_,ax.of (D3.ex _ _ h1 n1)⟩,?_⟩;refine cn (xs:=J0.map V.str) (fun i' σ H''=>∃a9 a11:Option V,σ=[some (.ref p),some (.ref l1),some (.ref l2),some (.ref l3),some (.int full),some (.ref l),some (.int dn),some (.int i),some (.str room),a9,a10,a11,a12]/\DI G H p c l (11 * i+2+2 * i') H'')
   ⟨_,_,rfl,D3⟩ (fun i σ H' _ ⟨_,_,_,D⟩=>ax.of (D.ex _ _ h1 n1)) ?_ ?_
  ·rintro i' x σ H4 hi' ⟨a9,a11,rfl,D4⟩;obtain⟨ask,hask,rfl⟩:∃ask,J0[i']?=some ask/\x=V.str ask:=by
    rw[cD]at hi';cases q:J0[i']? with
    |none=>rw[q]at hi';cases hi'
    |some r=>rw[q]at hi';exact⟨r,rfl,(eD hi').symm⟩
   have hi2:i'<J0.length:=(bQ.mp hask).1;have hm2:ask∈J0:=cw hask;refine⟨_,rfl,(by show 4<=ai;decide),fun q hq=>⟨_,rfl,gv (D4.new hq).pen (by decide) (by decide) fun r H5 r0 r1 hp5 ex5=>?_⟩⟩;obtain⟨j,hj,j0,j2⟩:=at4 f0 f2 r0 r1;have D5:=(D4.new hq).took hp5 ex5;refine⟨q,_,_,_,rfl,rfl,ax.of (ex5 q _ aa (D4.pen.nep hq).symm),hj,j,rfl,by omega,by omega,?_⟩;refine k4 (lo:=0) (n:=j.toNat) (fun i'' σ H''=>∃a9:Option V,σ=[some (.ref p),some (.ref l1),some (.ref l2),some (.ref l3),some (.int full),some (.ref l),some (.int dn),some (.int i),some (.str room),a9,a10,some (.str ask),a12]/\DI G H p c l (11 * i+2+2 * i'+i'') H'')
    ⟨_,rfl,D5⟩ ?_ ?_
   ·rintro i'' σ H6 hi'' ⟨a9,rfl,D6⟩;refine⟨_,rfl,_,rfl,_,rfl,(by show 2<=ai;decide),fun sg hsg=>?_⟩;have D7:=D6.new hsg (o:=.tup [.str "ask",.str ask]);refine qv (fun _ _ _ _ h=>h) rfl rfl D7.pen (D7.ex _ _ h3 n3) hr0 (by omega) fun w2 hw2 H8 hp8 ex8=>?_;have D8:=D7.took hp8 ex8;refine⟨(by show 3<=ai;decide),fun dr hdr=>?_⟩;have D9:=D8.new hdr (o:=.tup [.str room,.ref sg,.str w2]);have hsg8:H8 sg=some (.tup [.str "ask",.str ask]):=ex8 _ _ aa (D6.pen.nep hsg).symm;refine D9.put (d:=⟨room,["ask",ask],w2⟩) ⟨sg,aa,kp hsg8 hdr⟩ ?_ (by omega) fun H8 D8=>⟨_,rfl,D8⟩;rw[<-hG];exact⟨hmem,hw2,.inl ⟨ask,hm2,rfl⟩⟩
   ·rintro σ H6 ⟨a9,rfl,D6⟩;exact⟨_,_,rfl,D6.up (by omega)⟩
  rintro σ H4 ⟨a9,a11,rfl,D4'⟩;have D4:DI G H p c l (11 * i+10) H4:=D4'.up (by rw[aj];omega);clear D4';have hnext:∀(H9:Hp) (a12:Option V),DI G H p c l (11 * i+11) H9->DdI G H p c l l1 l2 l3 full dn (i+1) [some (.ref p),some (.ref l1),some (.ref l2),some (.ref l3),some (.int full),some (.ref l),some (.int dn),some (.int i),some (.str room),a9,a10,a11,a12] H9:=fun H9 a12 D9=>⟨_,_,_,_,_,_,rfl,D9.up (by omega)⟩;refine⟨_,rfl,_,rfl,_,_,rfl,rfl,_,rfl,l3,_,rfl,ax.of (D4.ex _ _ h3 n3),fun q1 hq1=>?_⟩;have D5:=D4.new hq1 (o:=.lst (eN (J2.map V.str) (some ((i:Int)+1)) none));refine⟨_,rfl,_,rfl,_,rfl,l3,_,rfl,ax.of (D5.ex _ _ h3 n3),fun q2 hq2=>?_⟩;have e1:eN (J2.map V.str) (some ((i:Int)+1)) none=(J2.drop (i+1)).map V.str:=BT J2 (i+1);rw[wx];have D6:=D5.new hq2 (o:=.lst ((J2.take i).map V.str));refine⟨(by show 2<=ai;decide),fun q3 hq3=>?_⟩;have D7:=D6.new hq3 (o:=.lst [.ref q1,.ref q2]);obtain⟨lt,q,hq,hlt,hgood⟩:∃(lt:Zb) (q:Addr),wH [V.ref q1,.ref q2] dn=some (.ref q) /\
    upd (upd (upd H4 q1 (.lst (eN (J2.map V.str) (some ((i:Int)+1)) none))) q2 (.lst ((J2.take i).map V.str))) q3 (.lst [.ref q1,.ref q2]) q=some (.lst (lt.map V.str))/\lt.length<=26 /\
    ∀w∈lt,w∈J2/\Up (decide (dn=0)) J2 room w:=by
   have:dn=0∨dn=1:=by omega
   rcases this with rfl|rfl
   ·refine⟨J2.drop (i+1),q1,rfl,?_,by rw[eK];omega,fun w hw=>⟨uO hw,?_⟩⟩
    ·refine(kp (kp aa hq2) hq3).trans ?_;rw[e1]
    ·obtain⟨n,hn⟩:=g7 hw;rw[List.getElem?_drop]at hn;exact⟨i,i+1+n,hroom,hn,by rw[if_pos (by decide)];omega⟩
   ·refine⟨J2.take i,q2,rfl,?_,by rw[aD];omega,fun w hw=>⟨fo hw,?_⟩⟩
    ·exact kp aa hq3
    ·obtain⟨n,hn⟩:=g7 hw;have hnl:n<i:=by
      have:=(bQ.mp hn).1;rw[aD]at this;omega
     rw[List.getElem?_take_of_lt hnl]at hn;exact⟨i,n,hroom,hn,by rw[if_neg (by decide)];omega⟩
  refine⟨_,rfl,q3,_,_,_,rfl,rfl,ax.of aa,hq,?_⟩;generalize upd (upd (upd H4 q1 (.lst (eN (J2.map V.str) (some ((i:Int)+1)) none))) q2 (.lst ((J2.take i).map V.str))) q3 (.lst [.ref q1,.ref q2])=H7 at D7 hlt ⊢;refine⟨_,rfl,(by show 0<=ai;decide),fun e he=>⟨.s (lt.map gl),.s [],DF (ax.of (kp hlt he)),Fc (ax.of aa),?_,by decide,_,rfl,?_⟩⟩
  ·show DT.depths (lt.map gl)+1<=8;rw[ie];decide
  have D8:=D7.new he (o:=.lst []);by_cases hz:lt=[]
  ·have ez:(!decide (DT.s (lt.map gl)=DT.s []))=false:=by rw[hz,zzr1 (by rfl)];rfl
   rw[ez];exact cr (cr (hnext _ _ (D8.up (by omega))))
  ·have ez:(!decide (DT.s (lt.map gl)=DT.s []))=true:=by
    rw[zzr0 (fun z=>hz (iC (y:=[]) (by injection z)))];rfl
   rw[ez];refine cJ ?_;refine⟨_,rfl,gv D8.pen (by decide) (by decide) fun r H9 r0 r1 hp9 ex9=>⟨rfl,_,rfl,?_⟩⟩;have D9:=D8.took hp9 ex9;refine kr (fun _=>?_) (fun _=>hnext _ _ (D9.up (by omega)));refine⟨_,rfl,_,rfl,(by show 1<=ai;decide),fun sg hsg=>?_⟩;have D10:=D9.new hsg (o:=.tup [.str "still"]);have hlt10:upd H9 sg (.tup [.str "still"]) q=some (.lst (lt.map V.str)):=kp (ex9 _ _ (kp hlt he) (D8.pen.ne_strs (kp hlt he))) hsg;refine qv (fun _ _ _ _ h=>.inl h) rfl rfl D10.pen hlt10 hz (by omega) fun w2 hw2 H11 hp11 ex11=>?_;have D11:=D10.took hp11 ex11;refine⟨(by show 3<=ai;decide),fun dr hdr=>?_⟩;have D12:=D11.new hdr (o:=.tup [.str room,.ref sg,.str w2]);have hsg11:H11 sg=some (.tup [.str "still"]):=ex11 _ _ aa (D9.pen.nep hsg).symm;refine D12.put (d:=⟨room,[("still":Str)],w2⟩) ⟨sg,aa,kp hsg11 hdr⟩ ?_ (by omega) fun H13 D13=>hnext _ _ D13;rw[<-hG];exact⟨hmem,(hgood.2 w2 hw2).1,.inr (.inr ⟨rfl,(hgood.2 w2 hw2).2⟩)⟩
 ·rintro σ H' ⟨a7,a8,a9,a10,a11,a12,rfl,D⟩;obtain⟨ts,ds,g1,g2,g3,g4,g5⟩:=D.ds;rw[aj]at g5;rw[<-hG]at g4;exact⟨_,rfl,k l ts ds _ H' hl g1 g2 g3 g4 (by omega) D.pen D.ex⟩
structure b9(J0 J1 J2:Zb)(ds:List am):Prop where
 okA:k9 J0
 okS:k9 J1
 apart:∀w∈J1,w∉J0
 okR:k9 J2
 asks0:J0≠[]
 says0:J1≠[]
 rooms0:J2≠[]
 asks4:J0.length<=4
 says4:J1.length<=4
 rooms26:J2.length<=150
 nodup:ds.Nodup
 good:∀d∈ds,DV J0 J1 J2 d
 few:ds.length<=1000
 noround:∀r,¬Reach ds r r
structure iR(H:Hp)(t l1 l2 l3 l4:Addr)(ts:Ze)(J0 J1 J2:Zb)(ds:List am):Prop where
 t:H t=some (.tup [.ref l1,.ref l2,.ref l3,.ref l4])
 a1:H l1=some (.lst (J0.map V.str))
 a2:H l2=some (.lst (J1.map V.str))
 a3:H l3=some (.lst (J2.map V.str))
 a4:H l4=some (.lst (ts.map V.ref))
 ds:dY H ts ds
theorem gH.ne_refs{H:Hp}{p c a:Addr}{ts:Ze}(hp:gH H p c)(ha:H a=some (.lst (ts.map V.ref))):a≠p:=by
 intro e;obtain⟨x,y,ns,h1,_⟩:=hp;rw[e,h1]at ha;injection ha with ha;injection ha with ha;cases ts with
 |nil=>cases ha
 |cons w ws =>
  injection ha with _ ha;cases ws with
  |nil=>cases ha
  |cons w ws=>injection ha with ha;cases ha
theorem iR.ex{H H':Hp}{p c t l1 l2 l3 l4:Addr}{ts:Ze}{J0 J1 J2:Zb}{ds:List am}(h:iR H t l1 l2 l3 l4 ts J0 J1 J2 ds)(hp:gH H p c)(e:bg p H H'):iR H' t l1 l2 l3 l4 ts J0 J1 J2 ds:=by
 obtain⟨xs,hx⟩:=hp.lst;exact⟨e.kt hx _ _ h.t,e _ _ h.a1 (hp.ne_strs h.a1),e _ _ h.a2 (hp.ne_strs h.a2),e _ _ h.a3 (hp.ne_strs h.a3),e _ _ h.a4 (hp.ne_refs h.a4),h.ds.kt (e.kt hx)⟩
theorem iR.same{H H':Hp}{t l1 l2 l3 l4:Addr}{ts:Ze}{J0 J1 J2:Zb}{ds:List am}(h:iR H t l1 l2 l3 l4 ts J0 J1 J2 ds)(e:ac H H'):iR H' t l1 l2 l3 l4 ts J0 J1 J2 ds :=
 ⟨e _ _ h.t,e _ _ h.a1,e _ _ h.a2,e _ _ h.a3,e _ _ h.a4,h.ds.kt (ac.kt e)⟩
inductive mY (vs:List V)(H:Hp)(Q:VK)(E:XK):Prop
 |mk (p c:Addr) (most full:Int):(vs=[.ref p,.int most,.int full])->(gH H p c)->(0<most)->(most<=25)->(0<=full)->(full<=2)->(∀(t l1 l2 l3 l4:Addr) (ts:Ze) (J0 J1 J2:Zb) (ds:List am) (H':Hp),iR H' t l1 l2 l3 l4 ts J0 J1 J2 ds->b9 J0 J1 J2 ds->J2.length<=most.toNat->ds.length<=600->gH H' p c->bg p H H'->Q (.ref t) H')->mY  vs H Q E
theorem at6{r:Int}(r0:0<=r)(r6:r<6):∃n:Nat,wH [V.int 0,.int 1,.int 1,.int 2,.int 2,.int 3] r=some (.int n)/\n<=3:=by
 have:r=0∨r=1∨r=2∨r=3∨r=4∨r=5:=by omega
 rcases this with rfl|rfl|rfl|rfl|rfl|rfl
 ·exact⟨0,rfl,by decide⟩
 ·exact⟨1,rfl,by decide⟩
 ·exact⟨1,rfl,by decide⟩
 ·exact⟨2,rfl,by decide⟩
 ·exact⟨2,rfl,by decide⟩
 ·exact⟨3,rfl,by decide⟩
theorem DJ{ws:Zb}(hw:ws.length=8){n:Nat}(hn:n<=3):eN (ws.map V.str) (some 4) (some (5+(n:Int)))=((ws.drop 4).take (1+n)).map V.str:=by
 unfold eN;have s1:HT.sIx (ws.map V.str).length 0 (some 4)=min 4 (ws.map V.str).length:=HT.sIx_nat _ _ 4;have s2:HT.sIx (ws.map V.str).length (ws.map V.str).length (some (5+(n:Int)))=min (5+n) (ws.map V.str).length:=HT.sIx_nat _ _ (5+n);rw[s1,s2,aj,hw,uR,uQ];have e1:min 4 8=4:=by decide
 have e2:min (5+n) 8-4=1+n:=by omega
 rw[e1,e2]
theorem CK{K:Za}{vs:List V}{H:Hp}{Q:VK}{E:XK}(h:mY vs H Q E):xm K f8 mV fZ vX (bh Q) (start yr vs) H:=by
 obtain⟨p,c,most,full,rfl,hp,m0,m1,f0,f2,k⟩:=h;refine⟨_,rfl,p,c,rfl,hp,fun H1 hp1 ex1=>?_⟩;refine⟨_,rfl,p,c,8,rfl,hp1,by decide,fun lw ws H2 ok len fr hl hp2 ex2=>?_⟩;have e2:=ex1.trans ex2;have nw:=hp2.ne_strs hl;refine⟨_,rfl,(by show 6<=ai;decide),fun q hq=>⟨_,rfl,gv (hp2.ex (ac.new hq)) (by decide) (by decide) fun r H3 r0 r1 hp3 ex3=>?_⟩⟩;obtain⟨n,hn,n3⟩:=at6 r0 r1;have hl3:H3 lw=some (.lst (ws.map V.str)):=ex3 _ _ (kp hl hq) nw;refine⟨q,_,_,_,rfl,rfl,ax.of (ex3 _ _ aa (hp2.nep hq).symm),hn,_,_,rfl,rfl,_,rfl,lw,_,rfl,ax.of hl3,fun l1 hl1=>?_⟩;have ea:eN (ws.map V.str) none (some (1+(n:Int)))=(ws.take (1+n)).map V.str:=wx ws (1+n);rw[ea];have e3:bg p H H3:=e2.trans ((bg.new hq).trans ex3);have hp4:gH (upd H3 l1 (.lst ((ws.take (1+n)).map V.str))) p c:=hp3.ex (ac.new hl1);have e4:bg p H (upd H3 l1 (.lst ((ws.take (1+n)).map V.str))):=e3.trans (bg.new hl1);have hl4:upd H3 l1 (.lst ((ws.take (1+n)).map V.str)) lw=some (.lst (ws.map V.str)):=kp hl3 hl1;have ha4:upd H3 l1 (.lst ((ws.take (1+n)).map V.str)) l1=some (.lst ((ws.take (1+n)).map V.str)):=aa;generalize upd H3 l1 (.lst ((ws.take (1+n)).map V.str))=H4 at hp4 e4 hl4 ha4 ⊢;refine⟨_,rfl,_,rfl,(by show 6<=ai;decide),fun q hq=>⟨_,rfl,gv (hp4.ex (ac.new hq)) (by decide) (by decide) fun r H5 r0 r1 hp5 ex5=>?_⟩⟩;obtain⟨m,hm,m3⟩:=at6 r0 r1;have hl5:H5 lw=some (.lst (ws.map V.str)):=ex5 _ _ (kp hl4 hq) nw;have ha5:H5 l1=some (.lst ((ws.take (1+n)).map V.str)):=ex5 _ _ (kp ha4 hq) (hp4.ne_strs ha4);refine⟨q,_,_,_,rfl,rfl,ax.of (ex5 _ _ aa (hp4.nep hq).symm),hm,_,_,rfl,rfl,_,rfl,lw,_,rfl,ax.of hl5,fun l2 hl2=>?_⟩;rw[DJ len m3];have e5:bg p H H5:=e4.trans ((bg.new hq).trans ex5);have hp6:gH (upd H5 l2 (.lst (((ws.drop 4).take (1+m)).map V.str))) p c:=hp5.ex (ac.new hl2);have e6:bg p H (upd H5 l2 (.lst (((ws.drop 4).take (1+m)).map V.str))):=e5.trans (bg.new hl2);have ha6:upd H5 l2 (.lst (((ws.drop 4).take (1+m)).map V.str)) l1=some (.lst ((ws.take (1+n)).map V.str)):=kp ha5 hl2;have hb6:upd H5 l2 (.lst (((ws.drop 4).take (1+m)).map V.str)) l2=some (.lst (((ws.drop 4).take (1+m)).map V.str)):=aa;generalize upd H5 l2 (.lst (((ws.drop 4).take (1+m)).map V.str))=H6 at hp6 e6 ha6 hb6 ⊢;refine⟨_,rfl,_,rfl,_,rfl,gv hp6 m0 (by omega) fun r H7 r0 r1 hp7 ex7=>?_⟩;obtain⟨rn,rfl⟩:=lK r0;have ha7:=ex7 _ _ ha6 (hp6.ne_strs ha6);have hb7:=ex7 _ _ hb6 (hp6.ne_strs hb6);refine⟨_,_,rfl,rfl,p,c,1+rn,rfl,hp7,by omega,fun l3 J2 H8 okr lenr fr3 hl3' hp8 ex8=>?_⟩;have ha8:=ex8 _ _ ha7 (hp7.ne_strs ha7);have hb8:=ex8 _ _ hb7 (hp7.ne_strs hb7);have hs0:(ws.drop 4).take (1+m)≠[]:=by
  intro z;have:=congrArg List.length z;rw[aD,eK,len]at this;simp at this
 have ha0:ws.take (1+n)≠[]:=by
  intro z;have:=congrArg List.length z;rw[aD,len]at this;simp at this
 have hr0:J2≠[]:=by
  intro z;rw[z]at lenr;simp at lenr;omega
 refine⟨_,rfl,_,rfl,_,rfl,_,rfl,_,rfl,p,c,l1,l2,l3,_,_,J2,full,rfl,hp8,ha8,hb8,hl3',by rw[aD];omega,hs0,by rw[aD];omega,hr0,by omega,f0,f2,fun l4 ts ds up H9 fr4 hl4' hds nod good few hp9 ex9=>?_⟩;have ha9:=ex9 _ _ ha8 (hp8.ne_strs ha8);have hb9:=ex9 _ _ hb8 (hp8.ne_strs hb8);have hc9:=ex9 _ _ hl3' (hp8.ne_strs hl3');refine⟨_,rfl,_,rfl,_,rfl,_,rfl,(by show 4<=ai;decide),fun t ht=>k t l1 l2 l3 l4 ts _ _ J2 ds _ ⟨aa,kp ha9 ht,kp hb9 ht,kp hc9 ht,kp hl4' ht,hds.kt (ac.kt (ac.new ht))⟩ ?_ ?_ few (hp9.ex (ac.new ht)) ?_⟩
 ·refine⟨⟨?_,fun w h=>ok.2 w (fo h)⟩,⟨?_,fun w h=>ok.2 w (uO (fo h))⟩,?_,okr,ha0,hs0,hr0,by rw[aD];omega,by rw[aD];omega,by omega,nod,fun d hd=>(good d hd).d,by omega,fun r z=>(Cn okr.1 good z).irr okr.1⟩
  ·exact ok.1.sublist (List.take_sublist _ _)
  ·exact ok.1.sublist ((List.take_sublist _ _).trans (List.drop_sublist _ _))
  ·intro w h1 h2;have h3:w∈ws.drop 4:=fo h1;have h4:w∈ws.take 4:=by
    have:ws.take (1+n)=(ws.take 4).take (1+n):=by rw[List.take_take];congr 1;omega
    rw[this]at h2;exact fo h2
   have:=ok.1;rw[<-List.take_append_drop 4 ws,cZ]at this;exact this.2.2 w h4 w h3 rfl
 ·omega
 ·exact(((e6.trans ex7).trans ex8).trans ex9).trans (bg.new ht)
theorem bY{ws:Zb}{i:Nat}{x:V}(h:(ws.map V.str)[i]?=some x):∃w,ws[i]?=some w/\x=.str w:=by
 rw[cD]at h;cases q:ws[i]? with
 |none=>rw[q]at h;cases h
 |some r=>rw[q]at h;exact⟨r,rfl,(eD h).symm⟩
theorem take_snoc{α:Type}{ws:List α}{i:Nat}{w:α}(h:ws[i]?=some w):ws.take (i+1)=ws.take i++[w]:=by
 obtain⟨hi,rfl⟩:=bQ.mp h;rw[List.take_succ_eq_append_getElem hi]
def nF(w:Str):Bool:=!decide (w=("":Str)) && (decide (w.length<=8) && w.cps.toList.all fun c=>decide (c∈("abcdefghijklmnopqrstuvwxyz":Str).cps.toList))
theorem o6.b{w:Str}(h:o6 w):nF w=true:=by
 unfold nF;have h1:¬(w=("":Str)):=fun e=>by
  have:=h.lo;rw[e]at this;exact absurd this (by decide +kernel)
 rw[zzr0 h1,zzr1 h.hi,Bool.not_false,qF,qF,List.all_eq_true];intro c hc;obtain⟨c1,c2⟩:=h.al c hc;refine zzr1 ?_;have:=AR (c-97) (by omega);have e:97+(c-97)=c:=by omega
 rw[e]at this;exact cw this
inductive sp_is_name (vs:List V)(H:Hp)(Q:VK)(E:XK):Prop
 |mk (w:Str):(vs=[.str w])->(w.length<=1000)->(∀H',ac H H'->Q (.bl (nF w)) H')->sp_is_name  vs H Q E
theorem y2{K:Za}{vs:List V}{H:Hp}{Q:VK}{E:XK}(h:sp_is_name vs H Q E):Bd K (bh Q) (start Ca vs) H:=by
 obtain⟨w,rfl,hz,k⟩:=h;refine⟨_,rfl,rfl,_,rfl,?_⟩;have ed:(!decide (V.str w=V.str ("":Str)))=!decide (w=("":Str)):=by
  congr 1;by_cases e:w=("":Str)
  ·rw[zzr1 e,zzr1 (by rw[e])]
  ·rw[zzr0 e,zzr0 (fun z=>e (by injection z))]
 rw[ed];refine kr (fun h1=>?_) (fun h1=>?_)
 ·refine⟨_,rfl,.inr ⟨w,rfl,cL (ar hz),_,_,rfl,rfl,_,rfl,?_⟩⟩;refine kr (fun h2=>?_) (fun h2=>?_)
  ·refine⟨_,rfl,w,rfl,fun l hl=>?_⟩;refine DK (fun i vs H'=>vs=((w.cps.toList.take i).map fun c=>V.bl (decide (c∈("abcdefghijklmnopqrstuvwxyz":Str).cps.toList)))/\ac H H'/\H' l=some (.lst vs))
    ⟨rfl,ac.new hl,aa⟩ (fun i vs H' _ h=>h.2.2) ?_ ?_
   ·rintro vs H' ⟨rfl,hS,hl'⟩;refine⟨l,w.cps.toList.map fun c=>decide (c∈("abcdefghijklmnopqrstuvwxyz":Str).cps.toList),rfl,ax.of ?_,?_⟩
    ·rw[hl',iL];have:w.cps.toList.take w.cps.size=w.cps.toList:=by
      rw[qK];simp
     rw[this]
     rfl
    ·have:=k H' hS;have h2':decide (w.length<=8)=true:=zzr1 (by have:=of_decide_eq_true h2;omega);unfold nF at this;rw[h1,h2',qF,qF]at this;rw[List.all_map];exact this
   ·rintro i vs H' c hc hi ⟨rfl,hS,hl'⟩;refine gN (sQ ?_);refine⟨_,rfl,c,_,rfl,rfl,hl',?_,nV hi ⟨?_,?_,aa⟩⟩
    ·rw[aj,aD];have:w.length=w.cps.toList.length:=eE w;exact ar (by omega)
    ·rw[take_snoc (by rw[<-hc];simp),aw]
     rfl
    ·intro b o e;rw[ah (ae e hl)];exact hS b o e
  ·have:=k H (ac.refl H);have h2':decide (w.length<=8)=false:=zzr0 (fun z=>h2 (zzr1 (by omega)));unfold nF at this;rw[h1,h2',qF,Bool.false_and]at this;exact this
 ·have:=k H (ac.refl H);unfold nF at this;rw[Bool.eq_false_iff.mpr h1,Bool.false_and]at this;exact this
def aK(ws:Zb):List (eG×V):=ws.foldl (fun acc w=>c7 acc (.inr w) (.bl true)) []
theorem cX(ws:Zb)(w:Str):aK (ws++[w])=c7 (aK ws) (.inr w) (.bl true):=by
 unfold aK;rw[List.foldl_append]
 rfl
theorem xH{κ:Type}[DecidableEq κ](kvs:List (κ×V))(k:κ)(v:V):(c7 kvs k v).length<=kvs.length+1:=by
 unfold c7;split
 ·rw[aj];omega
 ·rw[aU];exact ay _
theorem i0{α:Type}(P:List α->Prop)(h0:P [])(hs:∀ws w,P ws->P (ws++[w]))(ws:List α):P ws:=by
 have:∀n (ws:List α),ws.length=n->P ws:=by
  intro n
  induction n with
  |zero=>intro ws h;rw[List.length_eq_zero_iff.mp h];exact h0
  |succ n ih =>
   intro ws h;have hne:ws≠[]:=fun z=>by rw[z]at h;cases h
   rw[<-List.dropLast_concat_getLast hne];exact hs _ _ (ih _ (by rw[List.length_dropLast,h];rfl))
 exact this _ ws rfl
theorem jB(ws:Zb):(aK ws).length<=ws.length:=by
 refine i0 (fun ws=>(aK ws).length<=ws.length) (ay _) (fun ws w h=>?_) ws;show(aK (ws++[w])).length<=(ws++[w]).length;rw[cX,aU];have:=xH (aK ws) (.inr w) (.bl true);show _<=ws.length+1;omega
theorem sf(ws:Zb)(x:Str):aY (aK ws) (.inr x)=if x∈ws then some (.bl true)else none:=by
 refine i0 (fun ws=>aY (aK ws) (.inr x)=if x∈ws then some (.bl true)else none) rfl (fun ws w h=>?_) ws
 show aY (aK (ws++[w])) (.inr x)=_;rw[cX,g_,h];by_cases e:x=w
 ·subst e;rw[if_pos rfl,if_pos (by simp)]
 ·have e1:¬((Sum.inr x:eG)=.inr w):=fun z=>e (by injection z);rw[if_neg e1];by_cases m:x∈ws
  ·rw[if_pos m,if_pos (de _ m)]
  ·rw[if_neg m,if_neg (fun z=>by rcases bw.mp z with z|z;exact m z;exact e (by simpa using z))]
theorem d_(ws:Zb)(x:Str):(aY (aK ws) (.inr x)).isSome=decide (x∈ws):=by
 rw[sf];by_cases m:x∈ws
 ·rw[if_pos m,zzr1 m];rfl
 ·rw[if_neg m,zzr0 m];rfl
inductive sp_as_keys(K:Za)(vs:List V)(H:Hp)(Q:VK)(E:XK):Prop
 |mk (l:Addr) (ws:Zb):(vs=[.ref l])->(ax K H l (ws.map V.str))->(ws.length<=1000)->(∀d,H d=none->Q (.ref d) (upd H d (.dK (aK ws))))->sp_as_keys K vs H Q E
theorem y8{K:Za}{vs:List V}{H:Hp}{Q:VK}{E:XK}(h:sp_as_keys K vs H Q E):Be K (bh Q) (start Cb vs) H:=by
 obtain⟨l,ws,rfl,hl,hz,k⟩:=h;refine fun d hd=>?_;have key:∀kvs,ax K (upd H d (.dK kvs)) l (ws.map V.str):=fun kvs=>(ac.new hd).seq hl;refine⟨_,rfl,l,rfl,⟨_,key _⟩,?_⟩;refine cn (xs:=ws.map V.str) (fun i σ H'=>∃x,σ=[some (.ref l),some (.ref d),x]/\H'=upd H d (.dK (aK (ws.take i)))) ⟨_,rfl,rfl⟩ (fun i σ H' _ ⟨_,_,e⟩=>by rw[e];exact key _) ?_ ?_
 ·rintro i x σ H' hi ⟨y,rfl,rfl⟩;obtain⟨w,hw,rfl⟩:=bY hi;have hlen:(aK (ws.take i)).length<ai:=ar (aE (jB _) (by rw[aD];omega));refine⟨_,rfl,_,rfl,d,_,rfl,.inl ⟨_,.inr w,aa,rfl,hlen,rfl⟩,_,rfl,?_⟩;rw[qh,take_snoc hw,cX]
 ·rintro σ H' ⟨x,rfl,rfl⟩;rw[aj,aZ];exact⟨_,rfl,k d hd⟩
def Du(most:Nat):Nat->List Str->List Str->Option Nat
 |_,_,[]=>none
 |i,ahead,n::ns=>if i=most∨n∈ahead∨nF n=false then some i else Du most (i+1) (ahead++[n]) ns
def cx(names:Zb)(most:Nat)(taken:Zb):Option Nat:=if names=[]then some 0 else Du most 0 taken names
def oV:Option Nat->V
 |none=>.non
 |some i=>.int i
inductive sp_first_wrong_name(K:Za)(vs:List V)(H:Hp)(Q:VK)(E:XK):Prop
 |mk (l t:Addr) (names taken:Zb) (most:Nat):(vs=[.ref l,.int most,.ref t])->(ax K H l (names.map V.str))->(ax K H t (taken.map V.str))->(names.length+taken.length<=1000)->((∀w∈names,w.length<=1000))->(∀H',ac H H'->Q (oV (cx names most taken)) H')->sp_first_wrong_name K vs H Q E
theorem oU{K:Za}{H:Hp}{Q:VK}{E:XK}{l:Addr}{ws:Zb}(hl:ax K H l (ws.map V.str))(hz:ws.length<=1000)(k:∀d,H d=none->Q (.ref d) (upd H d (.dK (aK ws)))):sp_as_keys K [.ref l] H Q E:=by
 exact⟨l,ws,rfl,hl,hz,k⟩
theorem BJ{H:Hp}{Q:VK}{E:XK}{w:Str}(hz:w.length<=1000)(k:∀H',ac H H'->Q (.bl (nF w)) H'):sp_is_name [.str w] H Q E:=by
 exact⟨w,rfl,hz,k⟩
theorem lh{K:Za}{vs:List V}{H:Hp}{Q:VK}{E:XK}(h:sp_first_wrong_name K vs H Q E):lU K sp_is_name (sp_as_keys K) (bh Q) (start mv vs) H:=by
 obtain⟨l,t,names,taken,most,rfl,hl,ht,hz,hw,k⟩:=h;refine⟨_,rfl,.inl ⟨l,_,rfl,.inl hl,rfl,_,rfl,?_⟩⟩;by_cases h0:names=[]
 ·subst h0;refine cJ ?_;have:=k H (ac.refl H);exact this
 have e0:decide (V.int ((names.map V.str).length:Nat)=V.int 0)=false:=zzr0 (fun z=>h0 (by
  injection z with z;rw[aj]at z;exact List.length_eq_zero_iff.mp (by omega)))
 rw[e0];refine cr ?_;have hk:∀H',ac H H'->Q (oV (Du most 0 taken names)) H':=by
  unfold cx at k;rw[if_neg h0]at k;exact k
 refine⟨_,rfl,oU ht (by omega) fun d hd=>?_⟩;refine⟨_,rfl,l,rfl,⟨_,(ac.new hd).seq hl⟩,?_⟩;refine kA (xs:=names.map V.str) (fun i σ H'=>∃x y,σ=[some (.ref l),some (.int most),some (.ref t),some (.ref d),x,y]/\ac H H'/\H' d=some (.dK (aK (taken++names.take i)))/\Du most i (taken++names.take i) (names.drop i)=Du most 0 taken names)
  ⟨_,_,rfl,ac.new hd,by rw[uM,ei];exact aa,by rw[uM,ei,qO]⟩ (fun i σ H' _ ⟨_,_,_,hS,_⟩=>hS.seq hl) ?_ ?_
 ·rintro i x σ H' q hi ⟨x4,x5,rfl,hS,hd',hf⟩ hq;obtain⟨w,hw',rfl⟩:=bY hi;have hil:i<names.length:=(bQ.mp hw').1;have ed:names.drop i=w::names.drop (i+1):=by
   rw[uW hil];congr 1;exact(bQ.mp hw').2
  rw[ed]at hf;have hd2:upd H' q (.tup [.int i,.str w]) d=some (.dK (aK (taken++names.take i))):=kp hd' hq;have hS2:ac H (upd H' q (.tup [.int i,.str w])):=hS.trans (ac.new hq);have hww:w.length<=1000:=hw w (cw hw');refine⟨q,_,rfl,bC.of aa,rfl,_,_,rfl,_,_,rfl,rfl,?_⟩;generalize upd H' q (.tup [.int i,.str w])=H2 at hd2 hS2 ⊢;refine⟨_,rfl,_,rfl,rfl,_,rfl,?_⟩;by_cases c1:i=most
  ·have e1:decide (V.int (i:Nat)=V.int (most:Nat))=true:=zzr1 (by rw[c1]);rw[e1];refine cJ (cJ ?_);refine⟨_,rfl,?_⟩;have:=hk H2 hS2;rw[<-hf]at this;unfold Du at this;rw[if_pos (.inl c1)]at this;exact this
  have e1:decide (V.int (i:Nat)=V.int (most:Nat))=false:=zzr0 (fun z=>c1 (by injection z with z;omega));rw[e1];refine cr ?_;refine⟨_,rfl,_,rfl,d,_,rfl,.inl ⟨_,.inr w,.inl hd2,rfl,rfl⟩,_,rfl,?_⟩;rw[d_];by_cases c2:w∈taken++names.take i
  ·rw[zzr1 c2];refine cJ (cJ ?_);refine⟨_,rfl,?_⟩;have:=hk H2 hS2;rw[<-hf]at this;unfold Du at this;rw[if_pos (.inr (.inl c2))]at this;exact this
  rw[zzr0 c2];refine cr ?_;refine⟨_,rfl,BJ hww fun H3 hS3=>⟨_,rfl,?_⟩⟩;have hd3:=hS3 _ _ hd2;cases c3:nF w with
  |false =>
   refine cJ ?_;refine⟨_,rfl,?_⟩;have:=hk H3 (hS2.trans hS3);rw[<-hf]at this;unfold Du at this;rw[if_pos (.inr (.inr c3))]at this;exact this
  |true =>
   refine cr ?_;have hlen:(aK (taken++names.take i)).length<ai:=ar (aE (jB _) (by rw[aU,aD];omega));refine⟨_,rfl,_,rfl,d,_,rfl,.inl ⟨_,.inr w,hd3,rfl,hlen,rfl⟩,_,_,rfl,?_,?_,?_⟩
   ·intro b o e;rw[ah (ae e hd)];exact hS3 _ _ (hS2 _ _ e)
   ·rw[aa,take_snoc hw',<-fk,cX]
   ·rw[<-hf,take_snoc hw',<-fk]
    conv=>rhs;unfold Du
    rw[if_neg];rintro(z|z|z)
    ·exact c1 z
    ·exact c2 z
    ·rw[c3]at z;cases z
 ·rintro σ H' ⟨x,y,rfl,hS,_,hf⟩;rw[aj,List.drop_length]at hf;have:=hk H' hS;rw[<-hf]at this;exact this
theorem xW{most:Nat}:∀(ns ahead:Zb) (i:Nat),i+ns.length<=most->(ahead++ns).Nodup->(∀w∈ns,o6 w)->Du most i ahead ns=none
 |[],_,_,_,_,_=>rfl
 |n::ns,ahead,i,h1,h2,h3=>by
  rw[fh]at h1;unfold Du;rw[if_neg]
  ·refine xW ns (ahead++[n]) (i+1) (by omega) (by rw[fk];exact h2) fun w hw=>h3 w (dD _ hw)
  ·rintro(z|z|z)
   ·omega
   ·rw[cZ]at h2;exact h2.2.2 n z n (dE) rfl
   ·rw[(h3 n dE).b]at z;cases z
theorem gx{most:Nat}{ns taken:Zb}(h0:ns≠[])(h1:ns.length<=most)(h2:(taken++ns).Nodup)(h3:∀w∈ns,o6 w):cx ns most taken=none:=by
 unfold cx;rw[if_neg h0];exact xW ns taken 0 (by omega) h2 h3
theorem fP{n:Nat}(h:n<=9000):n<ai:=n6 h (by decide)
def m_(x:Str):TK:=.k (some (.inr x))
def fg(sg:Zb):TK:=.t (sg.map m_)
def AK(d:am):TK:=.t [m_ d.a,fg d.sg,m_ d.b]
theorem qt{x y:Str}(h:m_ x=m_ y):x=y:=by
 unfold m_ at h;injection h with h;injection h with h;injection h
theorem pp:∀{x y:Zb},x.map m_=y.map m_->x=y
 |[],[],_=>rfl
 |[],_::_,h=>by cases h
 |_::_,[],h=>by cases h
 |a::x,b::y,h=>by
  rw[bm,bm]at h;injection h with h1 h2;rw[qt h1,pp h2]
theorem fF{x y:Zb}(h:fg x=fg y):x=y:=by
 unfold fg at h;injection h with h;exact pp h
theorem Fb{x y:am}(h:AK x=AK y):x=y:=by
 unfold AK at h;injection h with h;injection h with h1 h;injection h with h2 h;injection h with h3 h;cases x;cases y;simp only at *;rw[qt h1,fF h2,qt h3]
theorem yH(xs:Zb):TK.depths (xs.map m_)=0:=by
 induction xs with
 |nil=>rfl
 |cons x xs ih=>rw[bm];show max (TK.depth (m_ x)) (TK.depths _)=0;rw[ih];rfl
theorem iZ(sg:Zb):(fg sg).depth=1:=by
 show TK.depths (sg.map m_)+1=1;rw[yH]
theorem t_(d:am):(AK d).depth=2:=by
 show max (TK.depth (m_ d.a)) (max (TK.depth (fg d.sg)) (max (TK.depth (m_ d.b)) 0))+1=2;rw[iZ]
 rfl
theorem Ag{H:Hp}:∀xs:List Str,TKAts H (xs.map m_) (xs.map V.str)
 |[]=>by show TKAts H [] [];unfold TKAts;rfl
 |x::xs=>by
  rw[bm,bm];unfold TKAts;refine⟨_,_,rfl,?_,Ag xs⟩;unfold m_ dk
  rfl
theorem vv{H:Hp}(x:Str):dk H (m_ x) (.str x):=by unfold m_ dk;rfl
theorem SignAt.tk{H:Hp}{s:Addr}{sg:Zb}(h:SignAt H s sg):dk H (fg sg) (.ref s):=by
 unfold fg dk;exact⟨s,_,rfl,h,Ag _⟩
theorem ii.tk{H:Hp}{t:Addr}{d:am}(h:ii H t d):dk H (AK d) (.ref t):=by
 obtain⟨s,h1,h2⟩:=h;unfold AK dk;refine⟨t,_,rfl,h1,?_⟩;unfold TKAts;refine⟨_,_,rfl,vv _,?_⟩;unfold TKAts;refine⟨_,_,rfl,SignAt.tk h2,?_⟩;unfold TKAts;refine⟨_,_,rfl,vv _,?_⟩;unfold TKAts
 rfl
section
variable{κ:Type}[DecidableEq κ]
def jP(ks:List κ):List (κ×V):=ks.foldl (fun acc k=>c7 acc k (.bl true)) []
theorem mi(ws:List κ)(w:κ):jP (ws++[w])=c7 (jP ws) w (.bl true):=by
 unfold jP;rw[List.foldl_append]
 rfl
theorem BI(ws:List κ):(jP ws).length<=ws.length:=by
 refine i0 (fun ws=>(jP ws).length<=ws.length) (ay _) (fun ws w h=>?_) ws;show(jP (ws++[w])).length<=(ws++[w]).length;rw[mi,aU];have:=xH (jP ws) w (.bl true);show _<=ws.length+1;omega
theorem Dj(ws:List κ)(x:κ):(aY (jP ws) x).isSome=decide (x∈ws):=by
 refine i0 (fun ws=>(aY (jP ws) x).isSome=decide (x∈ws)) rfl (fun ws w h=>?_) ws;show(aY (jP (ws++[w])) x).isSome=_;rw[mi,g_];by_cases e:x=w
 ·subst e;rw[if_pos rfl,zzr1 (by simp)]
  rfl
 ·rw[if_neg e,h];by_cases m:x∈ws
  ·rw[zzr1 m,zzr1 (de _ m)]
  ·rw[zzr0 m,zzr0 (fun z=>by rcases bw.mp z with z|z;exact m z;exact e (by simpa using z))]
end
theorem Ax{d:am}{ds:List am}:AK d∈ds.map AK↔d∈ds:=by
 constructor
 ·intro h;obtain⟨x,hx,e⟩:=aM.mp h;rw[<-Fb e];exact hx
 ·exact nX
def mq(K:Za)(H:Hp)(v:V)(sg:Zb):Prop:=∃s,v=.ref s/\bC K H s (sg.map V.str)
theorem ac.sqT{K:Za}{H H':Hp}{a:Addr}{xs:List V}(e:ac H H')(h:bC K H a xs):bC K H' a xs:=by
 rcases h with(h|⟨o,h⟩)|h
 ·exact .inl (.inl (e _ _ h))
 ·exact .inl (.inr ⟨o,e _ _ h⟩)
 ·exact .inr h
theorem Signs.same{K:Za}{H H':Hp}(e:ac H H'){xs:List V}{sgs:List (List Str)}(h:Paired (mq K H) xs sgs):Paired (mq K H') xs sgs :=
 Paired.mapP h fun _ _ ⟨s,h1,h2⟩=>⟨s,h1,ac.sqT e h2⟩
def jc(sg:Zb):DT:=.t (sg.map gl)
theorem AD{x y:Zb}(h:jc x=jc y):x=y:=by
 unfold jc at h;injection h with h;exact iC h
theorem bL(sg:Zb):(jc sg).depth=1:=by
 show DT.depths (sg.map gl)+1=1;rw[ie]
theorem BO(sgs:List (List Str)):DT.depths (sgs.map jc)<=8:=by
 induction sgs with
 |nil=>exact eS _
 |cons x xs ih=>rw[bm];show max (DT.depth (jc x)) (DT.depths _)<=8;rw[bL];omega
theorem Signs.dIns{K:Za}{H:Hp}:∀{xs:List V}{sgs:List (List Str)},Paired (mq K H) xs sgs->DIns K H (sgs.map jc) xs
 |_,_,.nil=>by show DIns K H [] [];unfold DIns;rfl
 |_,_,.cons ⟨s,e,r⟩ t=>by
  rw[bm];unfold DIns;refine⟨_,_,rfl,?_,Signs.dIns t⟩;rw[e];exact bN r
theorem Aw{d:Zb}{ds:List (List Str)}:jc d∈ds.map jc↔d∈ds:=by
 constructor
 ·intro h;obtain⟨x,hx,e⟩:=aM.mp h;rw[<-AD e];exact hx
 ·exact nX
theorem Paired.app{α β:Type}{R:α->β->Prop}:∀{a:List α}{b:List β}{c:List α}{d:List β},Paired R a b->Paired R c d->Paired R (a++c) (b++d)
 |_,_,_,_,.nil,h=>h
 |_,_,_,_,.cons r t,h=>.cons r (Paired.app t h)
def dW(w:Str):List Str:=[("ask":Str),w]
def dF(w:Str):List Str:=[("say":Str),w]
def jd(J0 J1:Zb):List (List Str):=J0.map dW++J1.map dF++[aX]
theorem rG{K:Za}{kw:Str}{σ:L2.St}{H:Hp}{a l:Addr}{ws:Zb}{Q:Hp->Prop}(ha:H a=some (.lst (ws.map V.str)))(hl:H l=none)(hz:ws.length<=1000)
  (k:∀(xs:List V) (H':Hp),Paired (mq K H') xs (ws.map fun w=>[kw,w])->ac H H'->H' l=some (.lst xs)->Q H') :
  du 1 [] σ (Ea K a) U0 iN (bZ (a_ (tC (.str kw)) V0)) H l Q:=by
 refine cu (xs:=ws.map V.str) (fun i vs H'=>Paired (mq K H') vs ((ws.take i).map fun w=>[kw,w])/\ac H H'/\H' l=some (.lst vs))
  ⟨.nil,ac.new hl,aa⟩ (fun i vs H' _ ⟨_,hS,h'⟩=>⟨h',ax.of (hS _ _ ha)⟩) ?_ ?_
 ·rintro vs H' ⟨h1,h2,h3⟩;rw[aj,aZ]at h1;exact k vs H' h1 h2 h3
 ·rintro i vs H' x hx hi ⟨h1,h2,h3⟩;obtain⟨w,hw,rfl⟩:=bY hx;refine gN (sQ ?_);refine⟨_,rfl,(by show 2<=ai;decide),fun t ht=>⟨kp h3 ht,?_,nV hi ⟨?_,?_,aa⟩⟩⟩
  ·rw[Paired.length h1,aj,aD];exact ar (by omega)
  ·rw[take_snoc hw,aw];have hS2:ig (upd H' t (.tup [.str kw,.str w])) (upd (upd H' t (.tup [.str kw,.str w])) l (.lst (vs++[.ref t]))):=eM (kp h3 ht);have hS3:ig H' (upd (upd H' t (.tup [.str kw,.str w])) l (.lst (vs++[.ref t]))):=(ac.kt (ac.new ht)).trans hS2;refine Paired.app (Paired.mapP h1 fun v sg ⟨s,e1,e2⟩=>⟨s,e1,?_⟩) (.cons ⟨t,rfl,bC.of (hS2 _ _ aa)⟩ .nil);rcases e2 with(e2|⟨o,e2⟩)|e2
   ·exact .inl (.inl (hS3 _ _ e2))
   ·refine .inl (.inr ⟨o,?_⟩);rw[ah (fun z=>by rw[z,h3]at e2;cases e2)];exact kp e2 ht
   ·exact .inr e2
  ·intro b o e;rw[ah (ae e hl)];exact kp (h2 _ _ e) ht
inductive sp_door_signs(K:Za)(vs:List V)(H:Hp)(Q:VK)(E:XK):Prop
 |mk (l1 l2:Addr) (J0 J1:Zb):(vs=[.ref l1,.ref l2])->(H l1=some (.lst (J0.map V.str)))->(H l2=some (.lst (J1.map V.str)))->(J0.length<=100)->(J1.length<=100)->(∀(l:Addr) (xs:List V) (H':Hp),Paired (mq K H') xs (jd J0 J1)->ac H H'->H' l=some (.lst xs)->Q (.ref l) H')->sp_door_signs K vs H Q E
theorem tH{K:Za}{st:Addr}(hst:∀H,bC K H st (aX.map V.str)){vs:List V}{H:Hp}{Q:VK}{E:XK}(h:sp_door_signs K vs H Q E):vF K st (bh Q) (start wR vs) H:=by
 obtain⟨l1,l2,J0,J1,rfl,h1,h2,z1,z2,k⟩:=h;refine⟨_,rfl,l1,rfl,⟨_,ax.of h1⟩,fun a ha=>?_⟩;refine rG h1 ha (by omega) fun xs1 H1 p1 s1 g1=>?_;refine⟨_,rfl,l2,rfl,⟨_,ax.of (s1 _ _ h2)⟩,fun b hb=>?_⟩;refine rG (s1 _ _ h2) hb (by omega) fun xs2 H2 p2 s2 g2=>?_;have len1:xs1.length<=100:=by rw[Paired.length p1,aj];exact z1
 have len2:xs2.length<=100:=by rw[Paired.length p2,aj];exact z2
 refine⟨a,b,xs1,xs2,rfl,rfl,s2 _ _ g1,g2,cL (ar (by omega)),fun c hc=>?_⟩;refine⟨(by show 1<=ai;decide),fun d hd=>?_⟩;refine⟨c,d,_,_,rfl,rfl,kp aa hd,aa,?_,fun e he=>k e _ _ ?_ ?_ aa⟩
 ·rw[aU];show _+1<=ai;exact cL (ar (by omega))
 ·have sx:ac H2 (upd (upd (upd H2 c (.lst (xs1++xs2))) d (.lst [.ref st])) e (.lst (xs1++xs2++[.ref st]))):=((ac.new hc).trans (ac.new hd)).trans (ac.new he);exact Paired.app (Paired.app (Signs.same (s2.trans sx) p1) (Signs.same sx p2)) (.cons ⟨st,rfl,hst _⟩ .nil)
 ·exact(((s1.trans s2).trans (ac.new hc)).trans (ac.new hd)).trans (ac.new he)
def EX(J2:Zb)(sgs:List (List Str)):Nat->List am->List am->Option Nat
 |_,_,[]=>none
 |i,ahead,d::ds=>if i=2000∨d∈ahead∨d.a∉J2∨d.sg∉sgs∨d.b∉J2 then some i else EX J2 sgs (i+1) (ahead++[d]) ds
inductive sp_first_wrong_door(K:Za)(vs:List V)(H:Hp)(Q:VK)(E:XK):Prop
 |mk (l l3 sl:Addr) (ts:Ze) (ds:List am) (J2:Zb) (xs:List V) (sgs:List (List Str)):(vs=[.ref l,.ref l3,.ref sl])->(H l=some (.lst (ts.map V.ref)))->(dY H ts ds)->(H l3=some (.lst (J2.map V.str)))->(J2.length<=1000)->(H sl=some (.lst xs))->(Paired (mq K H) xs sgs)->(ds.length<=9000)->(∀H',ac H H'->Q (oV (EX J2 sgs 0 [] ds)) H')->sp_first_wrong_door K vs H Q E
theorem cf{ws:Ze}{i:Nat}{x:V}(h:(ws.map V.ref)[i]?=some x):∃w,ws[i]?=some w/\x=.ref w:=by
 rw[cD]at h;cases q:ws[i]? with
 |none=>rw[q]at h;cases h
 |some r=>rw[q]at h;exact⟨r,rfl,(eD h).symm⟩
theorem lm{K:Za}{vs:List V}{H:Hp}{Q:VK}{E:XK}(h:sp_first_wrong_door K vs H Q E):lV K (sp_as_keys K) (bh Q) (start mw vs) H:=by
 obtain⟨l,l3,sl,ts,ds,J2,xs,sgs,rfl,hl,hds,h3,hr,hsl,hsg,hz,k⟩:=h;refine⟨_,rfl,oU (ax.of h3) hr fun d hd=>?_⟩;refine fun e he=>?_;have hS0:ac H (upd (upd H d (.dK (aK J2))) e (.dT [])):=(ac.new hd).trans (ac.new he);have heH:H e=none:=(ac.new hd).free he;refine⟨_,rfl,l,rfl,⟨_,ax.of (hS0 _ _ hl)⟩,?_⟩;refine kA (xs:=ts.map V.ref) (fun i σ H'=>∃x y,σ=[some (.ref l),some (.ref l3),some (.ref sl),some (.ref d),some (.ref e),x,y]/\ac H H'/\H' d=some (.dK (aK J2))/\H' e=some (.dT (jP ((ds.take i).map AK)))/\EX J2 sgs i (ds.take i) (ds.drop i)=EX J2 sgs 0 [] ds)
  ⟨_,_,rfl,hS0,kp aa he,aa,rfl⟩ (fun i σ H' _ ⟨_,_,_,hS,_⟩=>ax.of (hS _ _ hl)) ?_ ?_
 ·rintro i x σ H' q hi ⟨x5,x6,rfl,hS,hd',he',hf⟩ hq;obtain⟨t,ht,rfl⟩:=cf hi;obtain⟨dr,hdr,hat⟩:=Paired.getL hds ht;have hil:i<ds.length:=(bQ.mp hdr).1;have ed:ds.drop i=dr::ds.drop (i+1):=by
   rw[uW hil];congr 1;exact(bQ.mp hdr).2
  rw[ed]at hf;have hS2:ac H (upd H' q (.tup [.int i,.ref t])):=hS.trans (ac.new hq);have hd2:upd H' q (.tup [.int i,.ref t]) d=_:=kp hd' hq;have he2:upd H' q (.tup [.int i,.ref t]) e=_:=kp he' hq;refine⟨q,_,rfl,bC.of aa,rfl,_,_,rfl,_,_,rfl,rfl,?_⟩;generalize upd H' q (.tup [.int i,.ref t])=H2 at hd2 he2 hS2 ⊢;have hat2:=hat.kt (ac.kt hS2);have hin:lq K H2 (AK dr) (.ref t):=dk.isIn 8 (by rw[t_];decide) hat2.tk;have hd8:(AK dr).depth<=8:=by rw[t_];decide
  obtain⟨s,ht2,hs2⟩:=hat2;have bad:(i=2000∨dr∈ds.take i∨dr.a∉J2∨dr.sg∉sgs∨dr.b∉J2)->Q (.int i) H2:=by
   intro c;have:=k H2 hS2;rw[<-hf]at this;unfold EX at this;rw[if_pos c]at this;exact this
  refine⟨_,rfl,rfl,_,rfl,?_⟩;by_cases c1:i=2000
  ·have e1:decide (V.int (i:Nat)=V.int 2000)=true:=zzr1 (by rw[c1];rfl);rw[e1];exact cJ (cJ ⟨_,rfl,bad (.inl c1)⟩)
  have e1:decide (V.int (i:Nat)=V.int 2000)=false:=zzr0 (fun z=>c1 (by injection z with z;omega));rw[e1];refine cr ?_;refine⟨_,rfl,_,rfl,e,_,rfl,.inr ⟨_,AK dr,t,.inl he2,rfl,hin,hd8,rfl⟩,_,rfl,?_⟩;rw[Dj];by_cases c2:dr∈ds.take i
  ·rw[zzr1 (Ax.mpr c2)];exact cJ ⟨_,rfl,bad (.inr (.inl c2))⟩
  rw[zzr0 (fun z=>c2 (Ax.mp z))];refine cr ?_;refine⟨_,rfl,.inr (.inl ⟨t,_,0,_,rfl,rfl,bC.of ht2,rfl,_,rfl,d,_,rfl,.inl ⟨_,.inr dr.a,.inl hd2,rfl,rfl⟩,_,rfl,?_⟩)⟩;rw[d_];by_cases c3:dr.a∈J2;rotate_left
  ·rw[zzr0 c3];exact cJ (cJ ⟨_,rfl,bad (.inr (.inr (.inl c3)))⟩)
  rw[zzr1 c3];refine cr ?_;refine⟨_,rfl,.inr (.inl ⟨t,_,1,_,rfl,rfl,bC.of ht2,rfl,_,rfl,jc dr.sg,sgs.map jc,sl,xs,bN (bC.of hs2),rfl,.inl (ax.of (hS2 _ _ hsl)),Signs.dIns (Signs.same hS2 hsg),by rw[bL];decide,BO _,_,rfl,?_⟩)⟩;rw[if_pos rfl];by_cases c4:dr.sg∈sgs;rotate_left
  ·rw[zzr0 (fun z=>c4 (Aw.mp z))];exact cJ (cJ ⟨_,rfl,bad (.inr (.inr (.inr (.inl c4))))⟩)
  rw[zzr1 (Aw.mpr c4)];refine cr ?_;refine⟨_,rfl,.inr (.inl ⟨t,_,2,_,rfl,rfl,bC.of ht2,rfl,_,rfl,d,_,rfl,.inl ⟨_,.inr dr.b,.inl hd2,rfl,rfl⟩,_,rfl,?_⟩)⟩;rw[d_];by_cases c5:dr.b∈J2;rotate_left
  ·rw[zzr0 c5];exact cJ ⟨_,rfl,bad (.inr (.inr (.inr (.inr c5))))⟩
  rw[zzr1 c5];refine cr ?_;have hlen:(jP ((ds.take i).map AK)).length<ai:=fP (aE (BI _) (by rw[aj,aD];omega));refine⟨_,rfl,_,rfl,e,_,rfl,.inr ⟨_,AK dr,t,he2,rfl,ii.tk ⟨s,ht2,hs2⟩,hd8,hlen,rfl⟩,_,_,rfl,?_,?_,?_,?_⟩
  ·intro b o q;rw[ah (ae q heH)];exact hS2 _ _ q
  ·rw[ah (fun z=>by rw[z,he2]at hd2;cases hd2)];exact hd2
  ·rw[aa,take_snoc hdr,aw];exact congrArg (fun z=>some (HO.dT z)) (mi _ _).symm
  ·rw[<-hf,take_snoc hdr]
   conv=>rhs;unfold EX
   rw[if_neg];rintro(z|z|z|z|z)
   ·exact c1 z
   ·exact c2 z
   ·exact z c3
   ·exact z c4
   ·exact z c5
 ·rintro σ H' ⟨x,y,rfl,hS,_,_,hf⟩;have:=k H' hS;rw[<-hf,aj,Paired.length hds,List.drop_length]at this;exact this
theorem xX{J2:Zb}{sgs:List (List Str)}:∀(ds ahead:List am) (i:Nat),i+ds.length<=2000->(ahead++ds).Nodup->(∀d∈ds,d.a∈J2/\d.sg∈sgs/\d.b∈J2)->EX J2 sgs i ahead ds=none
 |[],_,_,_,_,_=>rfl
 |n::ns,ahead,i,h1,h2,h3=>by
  rw[fh]at h1;unfold EX;rw[if_neg]
  ·refine xX ns (ahead++[n]) (i+1) (by omega) (by rw[fk];exact h2) fun w hw=>h3 w (dD _ hw)
  ·have:=h3 n dE;rintro(z|z|z|z|z)
   ·omega
   ·rw[cZ]at h2;exact h2.2.2 n z n (dE) rfl
   ·exact z this.1
   ·exact z this.2.1
   ·exact z this.2.2
inductive sp_need_none (vs:List V)(H:Hp)(Q:VK)(E:XK):Prop
 |mk (x:V):(vs=[x,.non])->(Q .non H)->sp_need_none  vs H Q E
theorem vZ{K:Za}{vs:List V}{H:Hp}{Q:VK}{E:XK}(h:sp_need_none vs H Q E):xh K (bh Q) (start ym vs) H:=by
 obtain⟨x,rfl,k⟩:=h;refine⟨_,rfl,_,rfl,?_⟩;have e:(!decide (V.non=V.non))=false:=by rw[zzr1 rfl];rfl
 rw[e];exact cr k
structure Lists(H:Hp)(l1 l2 l3 l4:Addr)(ts:Ze)(J0 J1 J2:Zb)(ds:List am):Prop where
 a1:H l1=some (.lst (J0.map V.str))
 a2:H l2=some (.lst (J1.map V.str))
 a3:H l3=some (.lst (J2.map V.str))
 a4:H l4=some (.lst (ts.map V.ref))
 ds:dY H ts ds
theorem Lists.same{H H':Hp}{l1 l2 l3 l4:Addr}{ts:Ze}{J0 J1 J2:Zb}{ds:List am}(h:Lists H l1 l2 l3 l4 ts J0 J1 J2 ds)(e:ac H H'):Lists H' l1 l2 l3 l4 ts J0 J1 J2 ds :=
 ⟨e _ _ h.a1,e _ _ h.a2,e _ _ h.a3,e _ _ h.a4,h.ds.kt (ac.kt e)⟩
inductive sp_need_parts (vs:List V)(H:Hp)(Q:VK)(E:XK):Prop
 |mk (l1 l2 l3 l4:Addr) (ts:Ze) (J0 J1 J2:Zb) (ds:List am):(vs=[.ref l1,.ref l2,.ref l3,.ref l4])->(Lists H l1 l2 l3 l4 ts J0 J1 J2 ds)->(b9 J0 J1 J2 ds)->(∀H',ac H H'->Q .non H')->sp_need_parts  vs H Q E
theorem b9.signs{J0 J1 J2:Zb}{ds:List am}(m:b9 J0 J1 J2 ds):∀d∈ds,d.a∈J2/\d.sg∈jd J0 J1/\d.b∈J2:=by
 intro d hd;have g:=m.good d hd;refine⟨g.a,?_,g.b⟩;unfold jd;rcases g.sg with⟨w,hw,e⟩|⟨w,hw,e⟩|e
 ·rw[e];exact de _ (de _ (aM.mpr ⟨w,hw,rfl⟩))
 ·rw[e];exact de _ (dL _ (aM.mpr ⟨w,hw,rfl⟩))
 ·rw[e];exact dL _ (by simp[aX])
theorem oJ{ws:Zb}(h:k9 ws):∀w∈ws,w.length<=1000:=fun w hw=>aE (h.2 w hw).hi (by decide)
theorem tD{K:Za}{vs:List V}{H:Hp}{Q:VK}{E:XK}(h:sp_need_parts vs H Q E):vA K sp_need_none (sp_first_wrong_door K) (sp_door_signs K) (sp_first_wrong_name K) (bh Q) (start wM vs) H:=by
 obtain⟨l1,l2,l3,l4,ts,J0,J1,J2,ds,rfl,L,m,k⟩:=h;have w1:cx J0 4 []=none:=gx m.asks0 m.asks4 m.okA.1 m.okA.2;have w2:cx J1 4 J0=none:=gx m.says0 m.says4 (by
  rw[cZ];exact⟨m.okA.1,m.okS.1,fun a ha b hb e=>m.apart b hb (e▸ha)⟩) m.okS.2
 have w3:cx J2 150 []=none:=gx m.rooms0 (by have:=m.rooms26;omega) m.okR.1 m.okR.2;have w4:EX J2 (jd J0 J1) 0 [] ds=none:=xX ds [] 0 (by have:=m.few;omega) m.nodup m.signs;have z1:=m.asks4;have z2:=m.says4;have z3:=m.rooms26;have z4:=m.few;refine⟨_,rfl,(by show 0<=ai;decide),fun e he=>⟨l1,e,J0,[],4,rfl,ax.of (kp L.a1 he),ax.of aa,by simp;omega,oJ m.okA,fun H1 s1=>?_⟩⟩;rw[w1];refine⟨_,rfl,?_⟩;have S1:=(ac.new he).trans s1;refine⟨_,rfl,_,rfl,l2,l1,J1,J0,4,rfl,ax.of (S1 _ _ L.a2),ax.of (S1 _ _ L.a1),by omega,oJ m.okS,fun H2 s2=>?_⟩;rw[w2];refine⟨_,rfl,?_⟩;have S2:=S1.trans s2;refine⟨_,rfl,(by show 0<=ai;decide),fun e he=>⟨l3,e,J2,[],150,rfl,ax.of (kp (S2 _ _ L.a3) he),ax.of aa,by simp;omega,oJ m.okR,fun H3 s3=>?_⟩⟩;rw[w3];refine⟨_,rfl,?_⟩;have S3:=(S2.trans (ac.new he)).trans s3;refine⟨_,rfl,_,rfl,_,rfl,_,rfl,l1,l2,J0,J1,rfl,S3 _ _ L.a1,S3 _ _ L.a2,by omega,by omega,fun sl xs H4 hx s4 hsl=>?_⟩;have S4:=S3.trans s4;have L4:=L.same S4;refine⟨l4,l3,sl,ts,ds,J2,xs,jd J0 J1,rfl,L4.a4,L4.ds,L4.a3,by omega,hsl,hx,by omega,fun H5 s5=>?_⟩;rw[w4];exact⟨_,rfl,k H5 (S4.trans s5)⟩
section
variable{κ ι:Type}[DecidableEq κ]{e:ι->κ}
def dj(e:ι->κ)(ps:List (ι×Addr)):List (κ×V):=ps.map fun x=>(e x.1,V.ref x.2)
theorem kY(inj:∀x y,e x=e y->x=y){i:ι}:∀{ps:List (ι×Addr)},i∉ps.map (·.1)->aY (dj e ps) (e i)=none
 |[],_=>rfl
 |x::ps,h=>by
  rw[bm,cc]at h;show aY ((e x.1,V.ref x.2)::dj e ps) (e i)=none;rw[cI (fun z=>h (.inl (inj _ _ z).symm))];exact kY inj (fun z=>h (.inr z))
theorem d7(inj:∀x y,e x=e y->x=y){i:ι}{a:Addr}:∀{ps:List (ι×Addr)},(ps.map (·.1)).Nodup->(i,a)∈ps->aY (dj e ps) (e i)=some (.ref a)
 |[],_,h=>by cases h
 |x::ps,nd,h=>by
  rw[bm,iw]at nd;show aY ((e x.1,V.ref x.2)::dj e ps) (e i)=_;rcases cc.mp h with h|h
  ·rw[<-h];exact cQ rfl
  ·rw[cI (fun z=>nd.1 (by rw[inj _ _ z];exact aM.mpr ⟨_,h,rfl⟩))];exact d7 inj nd.2 h
theorem ur(ps:List (ι×Addr))(i:ι)(a:Addr):dj e (ps++[(i,a)])=dj e ps++[(e i,.ref a)]:=by
 unfold dj;rw[aw]
 rfl
end
structure DL{ι:Type}(H0 H:Hp)(d:Addr)(ps:List (ι×Addr)):Prop where
 nd:(ps.map (·.1)).Nodup
 na:(ps.map (·.2)).Nodup
 fr:∀x∈ps,H0 x.2=none
 frd:H0 d=none
 ned:∀x∈ps,x.2≠d
 same:ac H0 H
theorem DL.snoc{ι:Type}{H0 H H':Hp}{d:Addr}{ps:List (ι×Addr)}{i:ι}{a:Addr}(h:DL H0 H d ps)(hi:i∉ps.map (·.1))(ha:∀x∈ps,x.2≠a)(fr:H0 a=none)(nd:a≠d)(s:ac H0 H'):DL H0 H' d (ps++[(i,a)]):=by
 refine⟨?_,?_,?_,h.frd,?_,s⟩
 ·rw[aw,cZ];refine⟨h.nd,by simp,fun x hx y hy e=>?_⟩;have:y=i:=by simpa using hy
  exact hi (by rw[<-this,<-e];exact hx)
 ·rw[aw,cZ];refine⟨h.na,by simp,fun x hx y hy e=>?_⟩;have:y=a:=by simpa using hy
  obtain⟨z,hz,rfl⟩:=aM.mp hx;exact ha z hz (e.trans this)
 ·intro x hx;rcases bw.mp hx with hx|hx
  ·exact h.fr x hx
  ·have:x=(i,a):=by simpa using hx
   rw[this];exact fr
 ·intro x hx;rcases bw.mp hx with hx|hx
  ·exact h.ned x hx
  ·have:x=(i,a):=by simpa using hx
   rw[this];exact nd
theorem Df{ι:Type}:∀{ps:List (ι×Addr)},(ps.map (·.2)).Nodup->∀{x y:ι×Addr},x∈ps->y∈ps->x.2=y.2->x=y
 |[],_,x,_,h,_,_=>by cases h
 |p::ps,nd,x,y,hx,hy,e=>by
  rw[bm,iw]at nd;rcases cc.mp hx with hx'|hx'<;>rcases cc.mp hy with hy'|hy'
  ·rw[hx',hy']
  ·exact absurd (aM.mpr ⟨y,hy',by rw[<-e,hx']⟩) nd.1
  ·exact absurd (aM.mpr ⟨x,hx',by rw[e,hy']⟩) nd.1
  ·exact Df nd.2 hx' hy' e
theorem iE:∀x y:Str,(Sum.inr x:eG)=Sum.inr y->x=y:=fun x y h=>by injection h
def b0(ds:List am)(r:Str):List am:=ds.filter fun d=>decide (d.a=r)
inductive sp_doors_by_start (vs:List V)(H:Hp)(Q:VK)(E:XK):Prop
 |mk (l3 l4:Addr) (ts:Ze) (J2:Zb) (ds:List am):(vs=[.ref l3,.ref l4])->(H l3=some (.lst (J2.map V.str)))->(H l4=some (.lst (ts.map V.ref)))->(dY H ts ds)->(J2.Nodup)->(J2.length<=1000)->(ds.length<=9000)->((∀d∈ds,d.a∈J2))->(∀(d:Addr) (ps:List (Str×Addr)) (H':Hp),ps.map (·.1)=J2->H' d=some (.dK (dj Sum.inr ps))->(∀x∈ps,∃us,H' x.2=some (.lst (us.map V.ref))/\dY H' us (b0 ds x.1))->ac H H'->Q (.ref d) H')->sp_doors_by_start  vs H Q E
theorem nn{K:Za}{vs:List V}{H:Hp}{Q:VK}{E:XK}(h:sp_doors_by_start vs H Q E):oy K (bh Q) (start o0 vs) H:=by
 obtain⟨l3,l4,ts,J2,ds,rfl,h3,h4,hds,nod,hz,hz2,hin,k⟩:=h;refine fun d hd=>?_;refine⟨_,rfl,l3,rfl,⟨_,ax.of (kp h3 hd)⟩,?_⟩;refine cn (xs:=J2.map V.str) (fun i σ H'=>∃x y,σ=[some (.ref l3),some (.ref l4),some (.ref d),x,y]/\∃ps:List (Str×Addr),ps.map (·.1)=J2.take i/\H' d=some (.dK (dj Sum.inr ps))/\DL H H' d ps/\∀x∈ps,H' x.2=some (.lst []))
  ⟨_,_,rfl,[],rfl,aa,⟨by simp,by simp,by simp,hd,by simp,ac.new hd⟩,by simp⟩ (fun i σ H' _ ⟨_,_,_,_,_,_,D,_⟩=>ax.of (D.same _ _ h3)) ?_ ?_
 ·rintro i x σ H' hi ⟨x3,x4,rfl,ps,hps,hd',D,hls⟩;obtain⟨w,hw,rfl⟩:=bY hi;have hnew:w∉ps.map (·.1):=by
   rw[hps];intro z;have:=nod;rw[<-List.take_append_drop (i+1) J2,take_snoc hw,cZ]at this;have:=this.1;rw[cZ]at this;exact this.2.2 w z w (by simp) rfl
  refine⟨(by show 0<=ai;decide),fun a ha=>?_⟩;have hlen:(dj (Sum.inr:Str->eG) ps).length<ai:=ar (by
   unfold dj;rw[aj,<-aj (f:=(·.1)) (as:=ps),hps,aD];omega)
  have haH:H a=none:=D.same.free ha;have nda:a≠d:=(ae hd' ha).symm;have hneA:∀x∈ps,x.2≠a:=fun x hx=>ae (hls x hx) ha;refine⟨_,rfl,_,rfl,d,_,rfl,.inl ⟨_,.inr w,kp hd' ha,rfl,hlen,rfl⟩,_,_,rfl,ps++[(w,a)],?_,?_,?_,?_⟩
  ·rw[aw,hps,take_snoc hw];rfl
  ·rw[aa,hZ _ (kY iE hnew),ur]
  ·refine D.snoc hnew hneA haH nda ?_;intro b o q;rw[ah (ae q hd)];exact kp (D.same _ _ q) ha
  ·intro x hx;rcases bw.mp hx with hx|hx
   ·rw[ah (D.ned x hx)];exact kp (hls x hx) ha
   ·have:x=(w,a):=by simpa using hx
    rw[this,ah nda];exact aa
 ·rintro σ H1 ⟨x3,x4,rfl,ps,hps,hd1,D1,hls⟩;rw[aj,aZ]at hps;refine⟨_,rfl,l4,rfl,⟨_,ax.of (D1.same _ _ h4)⟩,?_⟩;refine cn (xs:=ts.map V.ref) (fun i σ H'=>∃x4,σ=[some (.ref l3),some (.ref l4),some (.ref d),x3,x4]/\H' d=some (.dK (dj Sum.inr ps))/\DL H H' d ps/\∀x∈ps,∃us,H' x.2=some (.lst (us.map V.ref))/\dY H' us (b0 (ds.take i) x.1))
   ⟨_,rfl,hd1,D1,fun x hx=>⟨[],hls x hx,.nil⟩⟩ (fun i σ H' _ ⟨_,_,_,D,_⟩=>ax.of (D.same _ _ h4)) ?_ ?_
  ·rintro i x σ H' hi ⟨x4,rfl,hd',D,hls⟩;obtain⟨t,ht,rfl⟩:=cf hi;obtain⟨dr,hdr,hat⟩:=Paired.getL hds ht;have hat':=hat.kt (ac.kt D.same);have hat2:=hat';obtain⟨s,ht2,hs2⟩:=hat';have hmem:dr.a∈ps.map (·.1):=by rw[hps];exact hin dr (cw hdr)
   obtain⟨⟨r,a⟩,hra,er⟩:=aM.mp hmem;obtain rfl:r=dr.a:=er;obtain⟨us,hus,hdo⟩:=hls _ hra;have hil:i<ds.length:=(bQ.mp hdr).1;have hlu:us.length<=9000:=by
    rw[Paired.length hdo];refine aE (cC _ _) ?_;rw[aD];omega
   have KT:ig H' (upd H' a (.lst (us.map V.ref++[.ref t]))):=eM hus;refine⟨_,rfl,_,rfl,.inr (.inl ⟨t,_,0,_,rfl,rfl,bC.of ht2,rfl,d,.ref a,rfl,.inl ⟨_,.inr dr.a,.inl hd',rfl,(d7 iE D.nd hra).symm⟩,.inl ⟨rfl,_,ax.of hus⟩,_,rfl,a,_,_,rfl,rfl,hus,?_,_,rfl,?_,?_,?_⟩)⟩
   ·rw[aj];exact fP hlu
   ·rw[ah (D.ned _ hra).symm];exact hd'
   ·refine⟨D.nd,D.na,D.fr,D.frd,D.ned,fun b o q=>?_⟩;rw[ah (ae q (D.fr _ hra))];exact D.same _ _ q
   ·intro x hx;have hfl:∀r',b0 (ds.take (i+1)) r'=b0 (ds.take i) r'++(if dr.a=r' then[dr]else[]):=by
     intro r';unfold b0;rw[take_snoc hdr,g6];congr 1;by_cases c:dr.a=r'
     ·rw[if_pos c];simp[c]
     ·rw[if_neg c];simp[c]
    by_cases c:x.2=a
    ·have ex:=Df D.na hx hra c;subst ex;refine⟨us++[t],?_,?_⟩
     ·show upd H' a _ a=_;rw[aa,aw];rfl
     ·rw[hfl];show dY _ _ (b0 (ds.take i) dr.a++(if dr.a=dr.a then[dr]else[]))
      rw[if_pos rfl];exact Paired.app (hdo.kt KT) (.cons (hat2.kt KT) .nil)
    ·obtain⟨us',h1,h2⟩:=hls x hx;have hne:¬(dr.a=x.1):=fun z=>by
      have e1:=d7 (e:=(Sum.inr:Str->eG)) iE D.nd hra;have e2:=d7 (e:=(Sum.inr:Str->eG)) (i:=x.1) (a:=x.2) iE D.nd hx;rw[<-z,e1]at e2;injection e2 with e2;injection e2 with e2;exact c e2.symm
     refine⟨us',by rw[ah c];exact h1,?_⟩;rw[hfl,if_neg hne,ei];exact h2.kt KT
  ·rintro σ H' ⟨x4,rfl,hd',D,hls⟩;rw[aj,Paired.length hds,aZ]at hls;exact⟨_,rfl,k d ps H' hps hd' hls D.same⟩
def ky(d:am):Bool:=match d.sg with
 |s::_=>decide (s=("ask":Str))
 |[]=>false
inductive sp_has_asks_alone (vs:List V)(H:Hp)(Q:VK)(E:XK):Prop
 |mk (a:Addr) (us:Ze) (ds:List am):(vs=[.ref a])->(H a=some (.lst (us.map V.ref)))->(dY H us ds)->(ds.length<=9000)->((∀d∈ds,d.sg≠[]))->(∀H',ac H H'->Q (.bl (ds.all ky)) H')->sp_has_asks_alone  vs H Q E
theorem nj{K:Za}{vs:List V}{H:Hp}{Q:VK}{E:XK}(h:sp_has_asks_alone vs H Q E):ox K (bh Q) (start oZ vs) H:=by
 obtain⟨a,us,ds,rfl,ha,hds,hz,hne,k⟩:=h;refine⟨_,rfl,a,rfl,⟨_,ax.of ha⟩,fun l hl=>?_⟩;refine cu (xs:=us.map V.ref) (fun i vs H'=>vs=(ds.take i).map (fun d=>V.bl (ky d))/\ac H H'/\H' l=some (.lst vs))
  ⟨rfl,ac.new hl,aa⟩ (fun i vs H' _ ⟨_,hS,h'⟩=>⟨h',ax.of (hS _ _ ha)⟩) ?_ ?_
 ·rintro vs H' ⟨rfl,hS,h'⟩;rw[aj,Paired.length hds,aZ]at h';refine⟨l,ds.map ky,rfl,ax.of (by rw[h',iL];rfl),?_⟩;rw[List.all_map];exact k H' hS
 ·rintro i vs H' x hx hi ⟨rfl,hS,h'⟩;obtain⟨t,ht,rfl⟩:=cf hx;obtain⟨dr,hdr,hat⟩:=Paired.getL hds ht;obtain⟨s,ht2,hs2⟩:=hat.kt (ac.kt hS);have hmem:=cw hdr;obtain⟨s0,rest,hsg⟩:∃s0 rest,dr.sg=s0::rest:=by
   cases q:dr.sg with
   |nil=>exact absurd q (hne dr hmem)
   |cons x y=>exact⟨x,y,rfl⟩
  unfold SignAt at hs2;rw[hsg]at hs2;refine gN (sQ ?_);refine⟨_,rfl,.inr (.inl ⟨t,_,1,_,rfl,rfl,bC.of ht2,rfl,.inr (.inl ⟨s,_,0,.str s0,rfl,rfl,bC.of hs2,bW (j:=0) rfl,rfl,h',?_,nV hi ⟨?_,?_,aa⟩⟩)⟩)⟩
  ·rw[aj,aD];exact fP (by omega)
  ·rw[take_snoc hdr,aw];congr 1;show[V.bl _]=[V.bl _];congr 2;unfold ky;rw[hsg];show decide (V.str s0=V.str _)=decide (s0=_);by_cases c:s0=("ask":Str)
   ·rw[zzr1 c,zzr1 (by rw[c])]
   ·rw[zzr0 c,zzr0 (fun z=>c (by injection z))]
  ·intro b o e;rw[ah (ae e hl)];exact hS _ _ e
def sP(x:Str×List Str):TK:=.t [m_ x.1,fg x.2]
theorem gL:∀x y:Str×List Str,sP x=sP y->x=y:=by
 intro x y h;unfold sP at h;injection h with h;injection h with h1 h;injection h with h2 h;cases x;cases y;simp only at *;rw[qt h1,fF h2]
theorem kR(x:Str×List Str):(sP x).depth<=8:=by
 show max (TK.depth (m_ x.1)) (max (TK.depth (fg x.2)) 0)+1<=8;rw[iZ];show max 0 (max 1 0)+1<=8
 decide
def be(ds:List am)(x:Str×List Str):List Str:=(ds.filter fun d=>decide (d.a=x.1/\d.sg=x.2)).map (·.b)
theorem wv(ds:List am)(d:am)(x:Str×List Str):be (ds++[d]) x=be ds x++(if(d.a,d.sg)=x then[d.b]else[]):=by
 unfold be;rw[g6,aw];congr 1;by_cases c:(d.a,d.sg)=x
 ·subst c;simp
 ·rw[if_neg c];have:¬(d.a=x.1/\d.sg=x.2):=fun z=>c (by cases x;simp only at z;rw[z.1,z.2]);simp[List.filter_cons];intro h1 h2;exact this ⟨h1,h2⟩
theorem kz{ds:List am}{x:Str×List Str}(h:∀d∈ds,(d.a,d.sg)≠x):be ds x=[]:=by
 unfold be;rw[List.map_eq_nil_iff,List.filter_eq_nil_iff];intro d hd;have:¬(d.a=x.1/\d.sg=x.2):=fun z=>h d hd (by cases x;simp only at z;rw[z.1,z.2]);simp;intro h1 h2;exact this ⟨h1,h2⟩
theorem gj{ds:List am}{x:Str×List Str}{b:Str}:b∈be ds x↔(⟨x.1,x.2,b⟩:am)∈ds:=by
 unfold be;rw[aM];constructor
 ·rintro⟨d,hd,rfl⟩;rw[eU]at hd;obtain⟨h1,h2⟩:=hd;obtain⟨h3,h4⟩:=of_decide_eq_true h2;cases d;simp only at h3 h4;rw[<-h3,<-h4];exact h1
 ·intro h;exact⟨_,eU.mpr ⟨h,zzr1 ⟨rfl,rfl⟩⟩,rfl⟩
structure iF(H:Hp)(g:Addr)(ps:List ((Str×List Str)×Addr))(ds:List am):Prop where
 nd:(ps.map (·.1)).Nodup
 g:H g=some (.dT (dj sP ps))
 ls:∀x∈ps,H x.2=some (.lst ((be ds x.1).map V.str))
 all:∀d∈ds,(d.a,d.sg)∈ps.map (·.1)
theorem iF.same{H H':Hp}{g:Addr}{ps:List ((Str×List Str)×Addr)}{ds:List am}(h:iF H g ps ds)(s:ac H H'):iF H' g ps ds:=⟨h.nd,s _ _ h.g,fun x hx=>s _ _ (h.ls x hx),h.all⟩
inductive mZ (vs:List V)(H:Hp)(Q:VK)(E:XK):Prop
 |mk (l4:Addr) (ts:Ze) (ds:List am):(vs=[.ref l4])->(H l4=some (.lst (ts.map V.ref)))->(dY H ts ds)->(ds.length<=9000)->(∀(g:Addr) (ps:List ((Str×List Str)×Addr)) (H':Hp),iF H' g ps ds->ac H H'->Q (.ref g) H')->mZ  vs H Q E
theorem hW{K:Za}{vs:List V}{H:Hp}{Q:VK}{E:XK}(h:mZ vs H Q E):ip K (bh Q) (start iq vs) H:=by
 obtain⟨l4,ts,ds,rfl,h4,hds,hz,k⟩:=h;refine fun g hg=>?_;refine⟨_,rfl,l4,rfl,⟨_,ax.of (kp h4 hg)⟩,?_⟩;refine cn (xs:=ts.map V.ref) (fun i σ H'=>∃x y z,σ=[some (.ref l4),some (.ref g),x,y,z]/\∃ps:List ((Str×List Str)×Addr),DL H H' g ps/\H' g=some (.dT (dj sP ps))/\ps.length<=i/\(∀x∈ps,H' x.2=some (.lst ((be (ds.take i) x.1).map V.str)))/\∀d∈ds.take i,(d.a,d.sg)∈ps.map (·.1))
  ⟨_,_,_,rfl,[],⟨by simp,by simp,by simp,hg,by simp,ac.new hg⟩,aa,by simp,by simp,by simp⟩ (fun i σ H' _ ⟨_,_,_,_,_,D,_⟩=>ax.of (D.same _ _ h4)) ?_ ?_
 ·rintro i x σ H' hi ⟨x2,x3,x4,rfl,ps,D,hg',hlen,hls,hall⟩;obtain⟨t,ht,rfl⟩:=cf hi;obtain⟨dr,hdr,hat⟩:=Paired.getL hds ht;have hil:i<ds.length:=(bQ.mp hdr).1;obtain⟨s,ht2,hs2⟩:=hat.kt (ac.kt D.same);refine⟨t,_,rfl,bC.of ht2,rfl,_,_,rfl,_,_,rfl,_,_,rfl,rfl,?_⟩;refine⟨_,rfl,.inr (.inr (.inl ⟨rfl,.inr ⟨_,hg'⟩⟩)),_,rfl,_,rfl,(by show 2<=ai;decide),fun kt hkt=>⟨(by show 0<=ai;decide),fun nl hnl=>?_⟩⟩;have S2:ac H' (upd (upd H' kt (.tup [.str dr.a,.ref s])) nl (.lst [])):=(ac.new hkt).trans (ac.new hnl);have hkt2:upd (upd H' kt (.tup [.str dr.a,.ref s])) nl (.lst []) kt=some (.tup [.str dr.a,.ref s]):=kp aa hnl;have hnl2:upd (upd H' kt (.tup [.str dr.a,.ref s])) nl (.lst []) nl=some (.lst []):=aa;have hnlH':H' nl=none:=(ac.new hkt).free hnl;generalize upd (upd H' kt (.tup [.str dr.a,.ref s])) nl (.lst [])=H2 at S2 hkt2 hnl2 ⊢;have htk:dk H2 (sP (dr.a,dr.sg)) (.ref kt):=by
   unfold sP dk;refine⟨kt,_,rfl,hkt2,?_⟩;unfold TKAts;refine⟨_,_,rfl,vv _,?_⟩;unfold TKAts;refine⟨_,_,rfl,SignAt.tk (S2 _ _ hs2),?_⟩;unfold TKAts
   rfl
  have hlk:(dj sP ps).length<ai:=fP (by unfold dj;rw[aj];omega);have hgo:∀x,be (ds.take (i+1)) x=be (ds.take i) x++(if(dr.a,dr.sg)=x then[dr.b]else[]):=fun x=>by rw[take_snoc hdr,wv]
  have hgl:∀x,(be (ds.take i) x).length<=9000:=fun x=>by
   unfold be;rw[aj];refine aE (cC _ _) ?_;rw[aD];omega
  refine⟨g,kt,_,sP (dr.a,dr.sg),.ref nl,rfl,rfl,S2 _ _ hg',htk,kR _,hlk,fun v hv=>?_,fun hv=>?_⟩
  ·-- there already
   have hmem:(dr.a,dr.sg)∈ps.map (·.1):=by
    refine Classical.byContradiction fun z=>?_;rw[kY gL z]at hv;cases hv
   obtain⟨⟨r,a⟩,hra,er⟩:=aM.mp hmem;obtain rfl:r=(dr.a,dr.sg):=er;rw[d7 gL D.nd hra]at hv;injection hv with hv;subst hv;have hla:=S2 _ _ (hls _ hra);refine⟨.inl ⟨rfl,_,ax.of hla⟩,_,rfl,a,_,_,rfl,rfl,hla,by rw[aj];exact fP (hgl _),_,_,_,rfl,ps,⟨D.nd,D.na,D.fr,D.frd,D.ned,fun b o q=>?_⟩,?_,by omega,?_,?_⟩
   ·rw[ah (ae q (D.fr _ hra))];exact S2 _ _ (D.same _ _ q)
   ·rw[ah (D.ned _ hra).symm];exact S2 _ _ hg'
   ·intro x hx;by_cases c:x.2=a
    ·have ex:=Df D.na hx hra c;subst ex;show upd H2 a _ a=_;rw[aa,hgo,if_pos rfl,aw];rfl
    ·have hne:¬((dr.a,dr.sg)=x.1):=fun z=>by
      have e1:=d7 (e:=sP) gL D.nd hra;have e2:=d7 (e:=sP) (i:=x.1) (a:=x.2) gL D.nd hx;rw[<-z,e1]at e2;injection e2 with e2;injection e2 with e2;exact c e2.symm
     rw[ah c,hgo,if_neg hne,ei];exact S2 _ _ (hls x hx)
   ·intro d hd;rw[take_snoc hdr]at hd;rcases bw.mp hd with hd|hd
    ·exact hall d hd
    ·have:d=dr:=by simpa using hd
     rw[this];exact hmem
  ·-- a new list
   have hnew:(dr.a,dr.sg)∉ps.map (·.1):=by
    intro z;obtain⟨⟨r,a⟩,hra,er⟩:=aM.mp z;obtain rfl:r=(dr.a,dr.sg):=er;rw[d7 gL D.nd hra]at hv;cases hv
   have hgne:nl≠g:=(ae hg' hnlH').symm;have hnl3:upd H2 g (.dT (dj sP ps++[(sP (dr.a,dr.sg),.ref nl)])) nl=some (.lst []):=by rw[ah hgne];exact hnl2
   refine⟨.inl ⟨rfl,_,ax.of hnl3⟩,_,rfl,nl,_,_,rfl,rfl,hnl3,(by show 0<ai;decide),_,_,_,rfl,ps++[((dr.a,dr.sg),nl)],?_,?_,?_,?_,?_⟩
   ·refine D.snoc hnew (fun x hx=>ae (hls x hx) hnlH') (D.same.free hnlH') hgne ?_;intro b o q;rw[ah (ae q (D.same.free hnlH')),ah (ae q hg)];exact S2 _ _ (D.same _ _ q)
   ·rw[ah hgne.symm,aa,ur]
   ·rw[aU];show _+1<=_;omega
   ·intro x hx;rcases bw.mp hx with hx|hx
    ·have hne:¬((dr.a,dr.sg)=x.1):=fun z=>hnew (by rw[z];exact aM.mpr ⟨x,hx,rfl⟩);rw[ah (ae (hls x hx) hnlH'),ah (D.ned x hx),hgo,if_neg hne,ei];exact S2 _ _ (hls x hx)
    ·have:x=((dr.a,dr.sg),nl):=by simpa using hx
     subst this;have hnil:be (ds.take i) (dr.a,dr.sg)=[]:=kz fun d hd z=>hnew (by rw[<-z];exact hall d hd);show upd _ nl _ nl=_;rw[aa,hgo,if_pos rfl,hnil]
     rfl
   ·intro d hd;rw[aw];rw[take_snoc hdr]at hd;rcases bw.mp hd with hd|hd
    ·exact de _ (hall d hd)
    ·have:d=dr:=by simpa using hd
     rw[this];exact dL _ (by simp)
 ·rintro σ H' ⟨x2,x3,x4,rfl,ps,D,hg',hlen,hls,hall⟩;rw[aj,Paired.length hds,aZ]at hls hall;exact⟨_,rfl,k g ps H' ⟨D.nd,hg',hls,hall⟩ D.same⟩
theorem nE:∀{L R:Zb},L.Nodup->(∀y∈L,y∈R)->L.length<=R.length
 |[],_,_,_=>eS _
 |x::L,R,nd,h=>by
  rw[iw]at nd;have hx:=h x dE;have:=nE (L:=L) (R:=R.erase x) nd.2 fun y hy=>(List.mem_erase_of_ne (fun e:y=x=>nd.1 (by rw[<-e];exact hy))).mpr (h y (dD _ hy));rw[List.length_erase_of_mem hx]at this;have:0<R.length:=List.length_pos_of_mem hx;rw[fh];omega
theorem Reach.in_{ds:List am}{a b:Str}{J2:Zb}(hr:∀d∈ds,d.b∈J2)(h:Reach ds a b):b∈J2:=by
 cases h with
 |one h=>exact hr _ h
 |step r h=>exact hr _ h
inductive vU (vs:List V)(H:Hp)(Q:VK)(E:XK):Prop
 |mk (g:Addr) (room:Str) (ps:List ((Str×List Str)×Addr)) (ds:List am) (J2:Zb):(vs=[.ref g,.str room])->(iF H g ps ds)->((∀d∈ds,d.b∈J2))->(J2.length<=1000)->(∀(d:Addr) (L:Zb) (H':Hp),H' d=some (.dK (aK L))->L.Nodup->(∀w,w∈L↔Reach ds room w)->H d=none->ac H H'->Q (.ref d) H')->vU  vs H Q E
structure Gz(H0 H:Hp)(ds:List am)(room:Str)(d w:Addr)(L W:Zb)(open_:Str->Prop):Prop where
 d:H d=some (.dK (aK L))
 w:H w=some (.lst (W.map V.str))
 same:ac H0 H
 nd:L.Nodup
 sound:∀y∈L,Reach ds room y
 wait:∀y∈W,y=room∨y∈L
 closed:∀y,(y=room∨y∈L)->y∉W->¬open_ y->∀c∈be ds (y,aX),c∈L
theorem pT{K:Za}{st:Addr}(hst:∀H,bC K H st (aX.map V.str)){vs:List V}{H:Hp}{Q:VK}{E:XK}(h:vU vs H Q E):rj K st (bh Q) (start sJ vs) H:=by
 obtain⟨g,room,ps,ds,J2,rfl,G,hin,hz,k⟩:=h;refine fun d hd=>?_;refine⟨_,rfl,(by show 1<=ai;decide),fun w hw=>?_⟩;have hwH:H w=none:=(ac.new hd).free hw;have hdw:d≠w:=ae aa hw;refine⟨fun m σ H'=>∃(L W:Zb) (x y:Option V),σ=[some (.ref g),some (.str room),some (.ref d),some (.ref w),x,y]/\Gz H H' ds room d w L W (fun _=>False)/\m=2 * (J2.length-L.length)+W.length/\m<=2 * J2.length+1,
  ⟨_,[],[room],_,_,rfl,⟨kp aa hw,aa,(ac.new hd).trans (ac.new hw),qX,by simp,by simp,?_⟩,rfl,ay _⟩,?_⟩
 ·intro y hy hn;rcases hy with rfl|hy
  ·simp at hn
  ·cases hy
 rintro m σ H1 ⟨L,W,x4,x5,rfl,D,rfl,hbound⟩;have lenL:∀{L':Zb},L'.Nodup->(∀y∈L',Reach ds room y)->L'.length<=J2.length:=fun nd sd=>nE nd fun y hy=>(sd y hy).in_ hin;refine⟨_,rfl,.inl ⟨w,_,rfl,.inl (ax.of D.w),_,_,rfl,rfl,_,rfl,?_⟩⟩;refine kr (fun hpos=>?_) (fun hpos=>?_)
 ·have hne:W≠[]:=by
   intro z;rw[z]at hpos;exact absurd (of_decide_eq_true hpos) (by decide)
  obtain⟨W',here,rfl⟩:∃W' here,W=W'++[here]:=⟨W.dropLast,W.getLast hne,(List.dropLast_concat_getLast hne).symm⟩;have hhere:here=room∨here∈L:=D.wait here (by simp);refine⟨fun σ' H'=>∃(L' W2:Zb) (x y:Option V),σ'=[some (.ref g),some (.str room),some (.ref d),some (.ref w),x,y]/\Gz H H' ds room d w L' W2 (fun _=>False)/\2 * (J2.length-L'.length)+W2.length<2 * (J2.length-L.length)+(W'++[here]).length,
   fun σ' H' ⟨L',W2,x,y,e,D',hm⟩=>⟨_,hm,L',W2,x,y,e,D',rfl,by omega⟩,?_⟩
  have hlast:((W'++[here]).map V.str)[((W'++[here]).map V.str).length-1]?=some (.str here):=by simp
  have hdrop:((W'++[here]).map V.str).dropLast=W'.map V.str:=by rw[aw];simp
  refine⟨_,rfl,.inl ⟨rfl,_,ax.of D.w⟩,w,_,_,rfl,rfl,D.w,hlast,?_⟩;rw[hdrop];have hd1:upd H1 w (.lst (W'.map V.str)) d=some (.dK (aK L)):=by rw[ah hdw];exact D.d
  have hw1:upd H1 w (.lst (W'.map V.str)) w=some (.lst (W'.map V.str)):=aa;have S1:ac H (upd H1 w (.lst (W'.map V.str))):=fun b o q=>by rw[ah (ae q hwH)];exact D.same _ _ q
  generalize upd H1 w (.lst (W'.map V.str))=H2 at hd1 hw1 S1 ⊢;have G2:=G.same S1;refine⟨_,rfl,g,rfl,.inr ⟨_,.inl G2.g⟩,_,rfl,(by show 2<=ai;decide),fun kt hkt=>⟨(by show 0<=ai;decide),fun et het=>⟨aY (dj sP ps) (sP (here,aX)),.inr ⟨_,sP (here,aX),kt,.inl ?_,rfl,?_,kR _,rfl⟩,?_⟩⟩⟩
  ·exact kp (kp G2.g hkt) het
  ·unfold sP lq;refine⟨kt,_,rfl,bC.of (kp aa het),?_⟩;unfold TKIns;refine⟨_,_,rfl,?_,?_⟩
   ·unfold m_ lq;rfl
   unfold TKIns;refine⟨_,_,rfl,?_,?_⟩
   ·unfold fg lq;refine⟨st,_,rfl,hst _,?_⟩;unfold aX;show TKIns K _ [m_ _] [V.str _];unfold TKIns;refine⟨_,_,rfl,?_,?_⟩
    ·unfold m_ lq;rfl
    unfold TKIns;rfl
   unfold TKIns;rfl
  have S3:ac H2 (upd (upd H2 kt (.tup [.str here,.ref st])) et (.tup [])):=(ac.new hkt).trans (ac.new het);have het3:upd (upd H2 kt (.tup [.str here,.ref st])) et (.tup []) et=some (.tup []):=aa;generalize upd (upd H2 kt (.tup [.str here,.ref st])) et (.tup [])=H3 at S3 het3 ⊢;have D3:Gz H H3 ds room d w L W' (fun y=>y=here):=⟨S3 _ _ hd1,S3 _ _ hw1,S1.trans S3,D.nd,D.sound,fun y hy=>D.wait y (de _ hy),fun y hy hn ho=>D.closed y hy (fun z=>by rcases bw.mp z with z|z;exact hn z;exact ho (by simpa using z)) (fun z=>z)⟩;have hm3:2 * (J2.length-L.length)+W'.length<2 * (J2.length-L.length)+(W'++[here]).length:=by rw[aU];show _<_+(_+1);omega
  have fin:∀(H4:Hp) (L' W2:Zb) (x y:Option V),Gz H H4 ds room d w L' W2 (fun y=>y=here)->(∀c∈be ds (here,aX),c∈L')->2 * (J2.length-L'.length)+W2.length<2 * (J2.length-L.length)+(W'++[here]).length ->
    ∃(L' W2:Zb) (x' y':Option V),[some (V.ref g),some (.str room),some (.ref d),some (.ref w),x,y]=[some (.ref g),some (.str room),some (.ref d),some (.ref w),x',y']/\Gz H H4 ds room d w L' W2 (fun _=>False)/\2 * (J2.length-L'.length)+W2.length<2 * (J2.length-L.length)+(W'++[here]).length:=by
   intro H4 L' W2 x y D4 hc hm;refine⟨L',W2,x,y,rfl,⟨D4.d,D4.w,D4.same,D4.nd,D4.sound,D4.wait,fun y hy hn _=>?_⟩,hm⟩;by_cases e:y=here
   ·rw[e];exact hc
   ·exact D4.closed y hy hn e
  by_cases hmem:(here,aX)∈ps.map (·.1)
  ·obtain⟨⟨r,a⟩,hra,er⟩:=aM.mp hmem;obtain rfl:r=(here,aX):=er;rw[d7 gL G.nd hra];have hla:=G.ls _ hra;refine⟨a,rfl,.inl ⟨⟨_,ax.of ((S1.trans S3) _ _ hla)⟩,?_⟩⟩;refine cn (xs:=(be ds (here,aX)).map V.str) (fun j σ H'=>∃(L' W2:Zb) (y:Option V),σ=[some (.ref g),some (.str room),some (.ref d),some (.ref w),some (.str here),y]/\Gz H H' ds room d w L' W2 (fun y=>y=here)/\(here=room∨here∈L')/\(∀c∈(be ds (here,aX)).take j,c∈L') /\
     2 * (J2.length-L'.length)+W2.length<2 * (J2.length-L.length)+(W'++[here]).length)
    ⟨L,W',_,rfl,D3,hhere,by simp,hm3⟩ (fun j σ H' _ ⟨_,_,_,_,D',_⟩=>ax.of (D'.same _ _ hla)) ?_ ?_
   ·rintro j x σ H4 hj ⟨L',W2,y,rfl,D4,hh,hc,hm⟩;obtain⟨goal,hgoal,rfl⟩:=bY hj;have hedge:(⟨here,aX,goal⟩:am)∈ds:=gj.mp (cw hgoal);have hreach:Reach ds room goal:=by
     rcases hh with hh|hh
     ·rw[hh]at hedge;exact .one hedge
     ·exact .step (D4.sound _ hh) hedge
    have hlen':=lenL D4.nd D4.sound;refine⟨_,rfl,_,rfl,d,_,rfl,.inl ⟨_,.inr goal,.inl D4.d,rfl,rfl⟩,_,rfl,?_⟩;rw[d_];by_cases c:goal∈L'
    ·rw[zzr1 c];refine cr ⟨L',W2,_,rfl,D4,hh,?_,hm⟩;intro c' hc';rw[take_snoc hgoal]at hc';rcases bw.mp hc' with h|h
     ·exact hc c' h
     ·have:c'=goal:=by simpa using h
      rw[this];exact c
    ·rw[zzr0 c];refine cJ ?_;have nd':(L'++[goal]).Nodup:=by
      rw[cZ];refine⟨D4.nd,by simp,fun a ha b hb e=>?_⟩;have:b=goal:=by simpa using hb
      exact c (by rw[<-this,<-e];exact ha)
     have sd':∀y∈L'++[goal],Reach ds room y:=by
      intro y hy;rcases bw.mp hy with hy|hy
      ·exact D4.sound y hy
      ·have:y=goal:=by simpa using hy
       rw[this];exact hreach
     have hlen2:=lenL nd' sd';rw[aU]at hlen2;have hlen3:L'.length+1<=J2.length:=hlen2;have hWl:W2.length<=9000:=by omega
     refine⟨_,rfl,_,rfl,d,_,rfl,.inl ⟨_,.inr goal,D4.d,rfl,ar (aE (jB _) (by omega)),rfl⟩,?_⟩;have hw5:upd H4 d (.dK (c7 (aK L') (.inr goal) (.bl true))) w=some (.lst (W2.map V.str)):=by rw[ah hdw.symm];exact D4.w
     refine⟨_,rfl,.inl ⟨rfl,_,ax.of hw5⟩,_,rfl,w,_,_,rfl,rfl,hw5,by rw[aj];exact fP hWl,L'++[goal],W2++[goal],_,rfl,⟨?_,?_,?_,nd',sd',?_,?_⟩,?_,?_,?_⟩
     ·rw[ah hdw,aa,cX]
     ·rw[aa,aw];rfl
     ·intro b o q;rw[ah (ae q hwH),ah (ae q hd)];exact D4.same _ _ q
     ·intro y hy;rcases bw.mp hy with hy|hy
      ·rcases D4.wait y hy with h|h
       ·exact .inl h
       ·exact .inr (de _ h)
      ·exact .inr (dL _ hy)
     ·intro y hy hn ho c' hc';have hn1:y∉W2:=fun z=>hn (de _ z);have hyg:y≠goal:=fun z=>hn (dL _ (by simp[z]));refine de _ (D4.closed y ?_ hn1 ho c' hc');rcases hy with hy|hy
      ·exact .inl hy
      ·rcases bw.mp hy with hy|hy
       ·exact .inr hy
       ·exact absurd (by simpa using hy) hyg
     ·rcases hh with h|h
      ·exact .inl h
      ·exact .inr (de _ h)
     ·intro c' hc';rw[take_snoc hgoal]at hc';rcases bw.mp hc' with h|h
      ·exact de _ (hc c' h)
      ·exact dL _ h
     ·rw[aU,aU];show 2 * (J2.length-(L'.length+1))+(W2.length+1)<_;omega
   ·rintro σ H4 ⟨L',W2,y,rfl,D4,hh,hc,hm⟩;rw[aj,aZ]at hc;exact fin H4 L' W2 _ _ D4 hc hm
  ·rw[kY gL hmem];refine⟨et,rfl,.inr ⟨⟨_,bC.of het3⟩,?_⟩⟩;have hnil:be ds (here,aX)=[]:=kz fun x hx z=>hmem (by rw[<-z];exact G.all x hx);refine AE (xs:=[]) (fun j σ H'=>σ=[some (.ref g),some (.str room),some (.ref d),some (.ref w),some (.str here),x5]/\H'=H3) ⟨rfl,rfl⟩ (fun j σ H' _ ⟨_,e⟩=>by rw[e];exact bC.of het3) (fun j x σ H' hj=>by cases hj) ?_;rintro σ H' ⟨rfl,rfl⟩;exact fin _ L W' _ _ D3 (by rw[hnil];simp) hm3
 ·have hnil:W=[]:=by
   cases W with
   |nil=>rfl
   |cons a W=>exact absurd (zzr1 (by rw[aj,fh];omega)) hpos
  subst hnil;refine⟨_,rfl,k d L H1 D.d D.nd (fun w=>⟨D.sound w,fun hr=>?_⟩) hd D.same⟩
  induction hr with
  |one h=>exact D.closed room (.inl rfl) (by simp) (fun z=>z) _ (gj.mpr h)
  |step r h ih=>exact D.closed _ (.inr ih) (by simp) (fun z=>z) _ (gj.mpr h)
inductive sp_first_led_round (vs:List V)(H:Hp)(Q:VK)(E:XK):Prop
 |mk (l3 d:Addr) (J2:Zb) (ps:List (Str×Addr)):(vs=[.ref l3,.ref d])->(H l3=some (.lst (J2.map V.str)))->(H d=some (.dK (dj Sum.inr ps)))->(ps.map (·.1)=J2)->(J2.Nodup)->((∀x∈ps,∃L,H x.2=some (.dK (aK L))/\x.1∉L))->(∀H',ac H H'->Q .non H')->sp_first_led_round  vs H Q E
theorem ma{K:Za}{vs:List V}{H:Hp}{Q:VK}{E:XK}(h:sp_first_led_round vs H Q E):mN K (bh Q) (start nS vs) H:=by
 obtain⟨l3,d,J2,ps,rfl,h3,hd,hps,nod,hL,k⟩:=h;refine⟨_,rfl,l3,rfl,⟨_,ax.of h3⟩,?_⟩;refine kA (xs:=J2.map V.str) (fun i σ H'=>∃x y,σ=[some (.ref l3),some (.ref d),x,y]/\ac H H') ⟨_,_,rfl,ac.refl H⟩ (fun i σ H' _ ⟨_,_,_,S⟩=>ax.of (S _ _ h3)) ?_ ?_
 ·rintro i x σ H' t hi ⟨x2,x3,rfl,S⟩ ht;obtain⟨w,hw,rfl⟩:=bY hi;refine⟨t,_,rfl,bC.of aa,rfl,_,_,rfl,_,_,rfl,rfl,?_⟩;have S2:ac H (upd H' t (.tup [.int i,.str w])):=S.trans (ac.new ht);generalize upd H' t (.tup [.int i,.str w])=H2 at S2 ⊢;have hmem:w∈ps.map (·.1):=by rw[hps];exact cw hw
  obtain⟨⟨r,a⟩,hra,er⟩:=aM.mp hmem;obtain rfl:r=w:=er;obtain⟨L,hLa,hn⟩:=hL _ hra;refine⟨_,rfl,_,rfl,_,rfl,d,.ref a,rfl,.inl ⟨_,.inr r,.inl (S2 _ _ hd),rfl,(d7 iE (by rw[hps];exact nod) hra).symm⟩,a,_,rfl,.inl ⟨_,.inr r,.inl (S2 _ _ hLa),rfl,rfl⟩,_,rfl,?_⟩;rw[d_,zzr0 hn];exact cr ⟨_,_,rfl,S2⟩
 ·rintro σ H' ⟨x,y,rfl,S⟩;exact k H' S
abbrev lk(f:Str)(fs:List (Str×V)):Option V:=fs.lookup f
def fB(ds:List am)(r:Str):Bool:=(b0 ds r).all ky
structure bO(C:Addr)(H:Hp)(x:Addr)(J0 J1 J2:Zb)(ds:List am):Prop where
 at_:∃(dx:Addr) (fs:List (Str×V)) (o1 o2 o3 o4 lv qu sg sl:Addr) (ts:Ze) (lps:List (Str×Addr)) (gps:List ((Str×List Str)×Addr)) (sps:List (Str×Addr)),
  H x=some (.ins C dx fs)/\lk "is_quiet" fs=none/\lk "goals" fs=none/\lk "led_from" fs=none/\lk "rooms" fs=none /\
  lk "own_asks" fs=some (.ref o1)/\lk "own_says" fs=some (.ref o2)/\lk "own_rooms" fs=some (.ref o3)/\lk "own_doors" fs=some (.ref o4) /\
  lk "leaving" fs=some (.ref lv)/\lk "quiet" fs=some (.ref qu)/\lk "sign_goals" fs=some (.ref sg)/\lk "still_led" fs=some (.ref sl) /\
  Lists H o1 o2 o3 o4 ts J0 J1 J2 ds /\
  lps.map (·.1)=J2/\H lv=some (.dK (dj Sum.inr lps))/\(∀x∈lps,∃us,H x.2=some (.lst (us.map V.ref))/\dY H us (b0 ds x.1)) /\
  H qu=some (.dK (aK (J2.filter (fB ds))))/\iF H sg gps ds /\
  sps.map (·.1)=J2/\H sl=some (.dK (dj Sum.inr sps))/\(∀x∈sps,∃L,H x.2=some (.dK (aK L))/\L.Nodup/\∀w,w∈L↔Reach ds x.1 w)
 ok:b9 J0 J1 J2 ds
 more:∃(dx:Addr) (fs:List (Str×V)),H x=some (.ins C dx fs)/\lk "asks" fs=none/\lk "says" fs=none/\lk "doors" fs=none/\lk "doors_from" fs=none
theorem dS(f:Str)(v:V):∀fs:List (Str×V),(cE f v fs).length<=fs.length+1
 |[]=>ay _
 | (g,x)::r=>by
  unfold cE;split
  ·exact Nat.le_succ _
  ·rw[fh,fh];have:=dS f v r;omega
theorem rZ:∀(ps qs:List (Str×Addr)),((qs++ps).map (·.1)).Nodup->iP (dj Sum.inr qs) (dj Sum.inr ps)=dj Sum.inr (qs++ps)
 |[],qs,_=>by rw[ei];rfl
 |p::ps,qs,nd=>by
  show iP (c7 (dj Sum.inr qs) (Sum.inr p.1) (.ref p.2)) (dj Sum.inr ps)=_;have e:qs++p::ps=(qs++[p])++ps:=by simp
  rw[e]at nd ⊢;have hnew:p.1∉qs.map (·.1):=by
   rw[aw,aw,cZ]at nd;have:=nd.1;rw[cZ]at this;intro z;exact this.2.2 _ z _ (by simp) rfl
  rw[hZ _ (kY iE hnew)];have:=rZ ps (qs++[p]) nd;rw[<-this];have e2:dj (Sum.inr:Str->eG) (qs++[p])=dj Sum.inr qs++[(Sum.inr p.1,V.ref p.2)]:=by
   unfold dj;rw[aw];rfl
  rw[e2]
inductive qp(C:Addr)(vs:List V)(H:Hp)(Q:VK)(E:XK):Prop
 |mk (x dx l1 l2 l3 l4:Addr) (ts:Ze) (J0 J1 J2:Zb) (ds:List am):(vs=[.ref x,.ref l1,.ref l2,.ref l3,.ref l4])->(H x=some (.ins C dx []))->(Lists H l1 l2 l3 l4 ts J0 J1 J2 ds)->(b9 J0 J1 J2 ds)->(∀H',bO C H' x J0 J1 J2 ds->bg x H H'->Q .non H')->qp C vs H Q E
theorem Lists.exI{H H':Hp}{x C dx:Addr}{fs:List (Str×V)}{l1 l2 l3 l4:Addr}{ts:Ze}{J0 J1 J2:Zb}{ds:List am}(h:Lists H l1 l2 l3 l4 ts J0 J1 J2 ds)(hx:H x=some (.ins C dx fs))(e:bg x H H'):Lists H' l1 l2 l3 l4 ts J0 J1 J2 ds:=by
 have ne:∀{b:Addr}{xs:List V},H b=some (.lst xs)->b≠x:=fun hb z=>by rw[z,hx]at hb;cases hb
 exact⟨e _ _ h.a1 (ne h.a1),e _ _ h.a2 (ne h.a2),e _ _ h.a3 (ne h.a3),e _ _ h.a4 (ne h.a4),h.ds.kt fun b xs hb=>e _ _ hb fun z=>by rw[z,hx]at hb;cases hb⟩
theorem bg.ktI{H H':Hp}{x C dx:Addr}{fs:List (Str×V)}(e:bg x H H')(hx:H x=some (.ins C dx fs)):ig H H':=fun b xs hb=>e _ _ hb fun z=>by rw[z,hx]at hb;cases hb
theorem bg.neI{H:Hp}{x C dx:Addr}{fs:List (Str×V)}(hx:H x=some (.ins C dx fs)){b:Addr}{xs:List V}(hb:H b=some (.lst xs)):b≠x:=fun z=>by rw[z,hx]at hb;cases hb
theorem Dd{H:Hp}{x C dx:Addr}{fs:List (Str×V)}(hx:H x=some (.ins C dx fs)){b:Addr}{kvs:List (eG×V)}(hb:H b=some (.dK kvs)):b≠x:=fun z=>by rw[z,hx]at hb;cases hb
theorem Fy{H:Hp}{x C dx:Addr}{fs:List (Str×V)}(hx:H x=some (.ins C dx fs)){b:Addr}{kvs:List (TK×V)}(hb:H b=some (.dT kvs)):b≠x:=fun z=>by rw[z,hx]at hb;cases hb
structure MC(K:Za)(C:Addr):Prop where
 cls:AW K C
 a1:db K C "own_asks"
 a2:db K C "own_says"
 a3:db K C "own_rooms"
 a4:db K C "own_doors"
 a5:db K C "leaving"
 a6:db K C "quiet"
 a7:db K C "sign_goals"
 a8:db K C "still_led"
theorem oP{H:Hp}{x C dx:Addr}{fs:List (Str×V)}(f:Str)(y:V)(hx:H x=some (.ins C dx fs)):∃H',H'=upd H x (.ins C dx (cE f y fs))/\H' x=some (.ins C dx (cE f y fs))/\bg x H H' :=
 ⟨_,rfl,aa,bg.upd _ _ _⟩
theorem bP{p:Str->Bool}{ws:Zb}{i:Nat}{w:Str}(h:ws[i]?=some w):(ws.take (i+1)).filter p=(ws.take i).filter p++(if p w=true then[w]else[]):=by
 rw[take_snoc h,g6];congr 1;by_cases c:p w=true
 ·rw[if_pos c];simp[c]
 ·rw[if_neg c];simp[c]
theorem zt(ds:List am)(r:Str):(b0 ds r).length<=ds.length:=cC _ _
theorem b9.sg0{J0 J1 J2:Zb}{ds:List am}(m:b9 J0 J1 J2 ds){r:Str}:∀d∈b0 ds r,d.sg≠[]:=by
 intro d hd;have:=m.good d (eU.mp hd).1;rcases this.sg with⟨w,_,e⟩|⟨w,_,e⟩|e<;>rw[e]<;>exact List.cons_ne_nil _ _
theorem EB{K:Za}{C:Addr}(M:MC K C){vs:List V}{H:Hp}{Q:VK}{E:XK}(h:qp C vs H Q E):
  lY K sp_need_none sp_first_led_round vU mZ (sp_as_keys K) sp_has_asks_alone sp_doors_by_start sp_need_parts (bh Q) (start mz vs) H:=by
 obtain⟨x,dx,l1,l2,l3,l4,ts,J0,J1,J2,ds,rfl,hx,L,m,k⟩:=h;have z3:=m.rooms26;have z4:=m.few;refine⟨_,rfl,_,rfl,_,rfl,_,rfl,l1,l2,l3,l4,ts,J0,J1,J2,ds,rfl,L,m,fun H1 S1=>?_⟩;have hx1:=S1 _ _ hx;have L1:=L.same S1;have E1:bg x H H1:=ac.exB S1;refine⟨_,rfl,.inl ⟨l1,_,rfl,.inl (ax.of L1.a1),fun o1 ho1=>⟨_,rfl,x,C,dx,_,rfl,kp hx1 ho1,M.cls,M.a1,(by show 0<1000;decide),?_⟩⟩⟩;obtain⟨H2,e2,hx2,F2⟩:=oP "own_asks" (.ref o1) (kp (x:=.lst (J0.map V.str)) hx1 ho1);rw[<-e2];have n1:o1≠x:=(ae hx1 ho1).symm;have f1:=F2 _ _ aa n1;have E2:bg x H1 H2:=(bg.new ho1).trans F2;have L2':=L1.exI hx1 E2;have len2:(cE ("own_asks":Str) (.ref o1) []).length<=1:=dS _ _ _;clear e2 F2;refine⟨_,rfl,.inl ⟨l2,_,rfl,.inl (ax.of L2'.a2),fun o2 ho2=>⟨_,rfl,x,C,dx,_,rfl,kp hx2 ho2,M.cls,M.a2,by omega,?_⟩⟩⟩;obtain⟨H3,e3,hx3,F3⟩:=oP "own_says" (.ref o2) (kp (x:=.lst (J1.map V.str)) hx2 ho2);rw[<-e3];have n2:o2≠x:=(ae hx2 ho2).symm;have f2:=F3 _ _ aa n2;have E3:bg x H2 H3:=(bg.new ho2).trans F3;have L3:=L2'.exI hx2 E3;have len3:=dS ("own_says":Str) (.ref o2) (cE ("own_asks":Str) (.ref o1) []);clear e3 F3;refine⟨_,rfl,.inl ⟨l3,_,rfl,.inl (ax.of L3.a3),fun o3 ho3=>⟨_,rfl,x,C,dx,_,rfl,kp hx3 ho3,M.cls,M.a3,by omega,?_⟩⟩⟩;obtain⟨H4,e4,hx4,F4⟩:=oP "own_rooms" (.ref o3) (kp (x:=.lst (J2.map V.str)) hx3 ho3);rw[<-e4];have n3:o3≠x:=(ae hx3 ho3).symm;have f3:=F4 _ _ aa n3;have E4:bg x H3 H4:=(bg.new ho3).trans F4;have L4:=L3.exI hx3 E4;have len4:=dS ("own_rooms":Str) (.ref o3) (cE ("own_says":Str) (.ref o2) (cE ("own_asks":Str) (.ref o1) []));clear e4 F4;refine⟨_,rfl,.inl ⟨l4,_,rfl,.inl (ax.of L4.a4),fun o4 ho4=>⟨_,rfl,x,C,dx,_,rfl,kp hx4 ho4,M.cls,M.a4,by omega,?_⟩⟩⟩;obtain⟨H5,e5,hx5,F5⟩:=oP "own_doors" (.ref o4) (kp (x:=.lst (ts.map V.ref)) hx4 ho4);rw[<-e5];have n4:o4≠x:=(ae hx4 ho4).symm;have f4:=F5 _ _ aa n4;have E5:bg x H4 H5:=(bg.new ho4).trans F5;have L5:=L4.exI hx4 E5;generalize hfs4:cE ("own_doors":Str) (.ref o4) (cE ("own_rooms":Str) (.ref o3) (cE ("own_says":Str) (.ref o2) (cE ("own_asks":Str) (.ref o1) [])))=fs4 at hx5;have len5:fs4.length<=4:=by
  rw[<-hfs4];have:=dS ("own_doors":Str) (.ref o4) (cE ("own_rooms":Str) (.ref o3) (cE ("own_says":Str) (.ref o2) (cE ("own_asks":Str) (.ref o1) [])));omega
 clear e5 F5;refine⟨_,rfl,_,rfl,l3,l4,ts,J2,ds,rfl,L5.a3,L5.a4,L5.ds,m.okR.1,by omega,by omega,fun d hd=>(m.good d hd).a,fun lv lps H6' hlps flv' hlv' S6=>⟨_,rfl,x,C,dx,fs4,rfl,S6 _ _ hx5,M.cls,M.a5,by omega,?_⟩⟩;obtain⟨H6,e6,hx6,F6⟩:=oP "leaving" (.ref lv) (S6 _ _ hx5);rw[<-e6];have E6:bg x H5 H6:=(ac.exB S6).trans F6;have L6:=L5.exI hx5 E6;have flv:=F6 _ _ flv' (Dd (S6 _ _ hx5) flv');have hlv:∀y∈lps,∃us,H6 y.2=some (.lst (us.map V.ref))/\dY H6 us (b0 ds y.1):=fun y hy=>by
  obtain⟨us,g1,g2⟩:=hlv' y hy;exact⟨us,F6 _ _ g1 (bg.neI (S6 _ _ hx5) g1),g2.kt (F6.ktI (S6 _ _ hx5))⟩
 have ndl:(lps.map (·.1)).Nodup:=by rw[hlps];exact m.okR.1
 have len6:=dS ("leaving":Str) (.ref lv) fs4;have lk5:lk "leaving" (cE ("leaving":Str) (.ref lv) fs4)=some (.ref lv):=by
  show fL _ _=_;rw[bb,if_pos rfl]
 clear e6 F6 flv' hlv';refine⟨_,rfl,l3,rfl,⟨_,ax.of L6.a3⟩,fun f hf=>?_⟩;refine cu (xs:=J2.map V.str) (fun i vs H'=>vs=((J2.take i).filter (fB ds)).map V.str/\ac H6 H'/\H' f=some (.lst vs)) ⟨rfl,ac.new hf,aa⟩ (fun i vs H' _ ⟨_,S,h'⟩=>⟨h',ax.of (S _ _ L6.a3)⟩) ?_ ?_;rotate_left
 ·rintro i vs H' x' hx' hi ⟨rfl,S,f'⟩;obtain⟨r,hr,rfl⟩:=bY hx';obtain⟨⟨r',a⟩,hra,er⟩:=aM.mp (show r∈lps.map (·.1) by rw[hlps];exact cw hr);obtain rfl:r'=r:=er;obtain⟨us,hus,hdo⟩:=hlv _ hra;refine gN ?_;refine⟨_,rfl,x,C,dx,_,.ref lv,rfl,S _ _ hx6,M.cls,M.a5,lk5,_,rfl,lv,.ref a,rfl,.inl ⟨_,.inr r',.inl (S _ _ flv),rfl,(d7 iE ndl hra).symm⟩,a,us,b0 ds r',rfl,S _ _ hus,hdo.kt (ac.kt S),aE (zt _ _) (by omega),m.sg0,fun H'' S''=>⟨_,rfl,?_⟩⟩;have hlen:(((J2.take i).filter (fB ds)).map V.str).length<ai:=by
   rw[aj];refine ar (aE (cC _ _) ?_);rw[aD];omega
  refine kr (fun hq=>?_) (fun hq=>?_)
  ·refine⟨_,rfl,S'' _ _ f',hlen,nV hi ⟨?_,?_,aa⟩⟩
   ·rw[bP hr,if_pos (show fB ds r'=true from hq),aw];rfl
   ·intro b o q;rw[ah (ae q hf)];exact S'' _ _ (S _ _ q)
  ·refine nV hi ⟨?_,S.trans S'',?_⟩
   ·rw[bP hr,if_neg (show ¬fB ds r'=true from hq),ei]
   ·exact S'' _ _ f'
 rintro vs H7' ⟨rfl,S7,f7⟩;rw[aj,aZ]at f7;refine oU (ws:=J2.filter (fB ds)) (ax.of f7) (aE (cC _ _) (by omega)) fun qu hqu=>⟨_,rfl,x,C,dx,_,rfl,kp (S7 _ _ hx6) hqu,M.cls,M.a6,by omega,?_⟩;obtain⟨H7,e7,hx7,F7⟩:=oP "quiet" (.ref qu) (kp (x:=.dK (aK (J2.filter (fB ds)))) (S7 _ _ hx6) hqu);rw[<-e7];have n7:qu≠x:=(ae (S7 _ _ hx6) hqu).symm;have fqu:=F7 _ _ aa n7;have E7:bg x H6 H7:=((ac.exB S7).trans (bg.new hqu)).trans F7;have L7:=L6.exI hx6 E7;have len7:=dS ("quiet":Str) (.ref qu) (cE ("leaving":Str) (.ref lv) fs4);clear e7 F7;refine⟨_,rfl,l4,ts,ds,rfl,L7.a4,L7.ds,by omega,fun sg gps H8' G' S8=>⟨_,rfl,x,C,dx,_,rfl,S8 _ _ hx7,M.cls,M.a7,by omega,?_⟩⟩;obtain⟨H8,e8,hx8,F8⟩:=oP "sign_goals" (.ref sg) (S8 _ _ hx7);rw[<-e8];have E8:bg x H7 H8:=(ac.exB S8).trans F8;have L8:=L7.exI hx7 E8;have G8:iF H8 sg gps ds:=⟨G'.nd,F8 _ _ G'.g (Fy (S8 _ _ hx7) G'.g),fun y hy=>F8 _ _ (G'.ls y hy) (bg.neI (S8 _ _ hx7) (G'.ls y hy)),G'.all⟩;have len8:=dS ("sign_goals":Str) (.ref sg) (cE ("quiet":Str) (.ref qu) (cE ("leaving":Str) (.ref lv) fs4));have lk7:lk "sign_goals" (cE ("sign_goals":Str) (.ref sg) (cE ("quiet":Str) (.ref qu) (cE ("leaving":Str) (.ref lv) fs4)))=some (.ref sg):=by
  show fL _ _=_;rw[bb,if_pos rfl]
 clear e8 F8 G';refine⟨_,rfl,l3,rfl,⟨_,ax.of L8.a3⟩,fun f2' hf2=>?_⟩;refine cu (xs:=J2.map V.str) (fun i vs H'=>NE2 fun(us:Ze) (pl:List (Str×Addr))=>NA6 (vs=us.map V.ref) (Paired (fun t (p:Str×Addr)=>H' t=some (.tup [.str p.1,.ref p.2])) us pl) (pl.map (·.1)=J2.take i) ((∀p∈pl,∃L,H' p.2=some (.dK (aK L))/\L.Nodup/\∀w,w∈L↔Reach ds p.1 w)) (ac H8 H') (H' f2'=some (.lst vs)))
  ⟨[],[],rfl,.nil,rfl,by simp,ac.new hf2,aa⟩ (fun i vs H' _ ⟨_,_,_,_,_,_,S,h'⟩=>⟨h',ax.of (S _ _ L8.a3)⟩) ?_ ?_
 rotate_left
 ·rintro i vs H' x' hx' hi ⟨us,pl,rfl,hpa,hpl,hle,S,f'⟩;obtain⟨r,hr,rfl⟩:=bY hx';have hilen:us.length<=150:=by
   rw[Paired.length hpa,<-aj (f:=(·.1)) (as:=pl),hpl,aD];omega
  refine gN (sQ ?_);refine⟨_,rfl,_,rfl,x,C,dx,_,.ref sg,rfl,S _ _ hx8,M.cls,M.a7,lk7,_,rfl,sg,r,gps,ds,J2,rfl,G8.same S,fun d hd=>(m.good d hd).b,by omega,fun ld Lr H'' hld nd hLr hfr S''=>⟨(by show 2<=ai;decide),fun t ht=>⟨?_,?_,nV hi ⟨us++[t],pl++[(r,ld)],?_,?_,?_,?_,?_,aa⟩⟩⟩⟩
  ·exact kp (S'' _ _ f') ht
  ·rw[aj];exact ar (by omega)
  ·rw[aw];rfl
  ·have KT:ig (upd H'' t (.tup [.str r,.ref ld])) (upd (upd H'' t (.tup [.str r,.ref ld])) f2' (.lst (us.map V.ref++[.ref t]))):=eM (kp (S'' _ _ f') ht);exact Paired.app (Paired.mapP hpa fun t' p' e=>KT _ _ (kp (S'' _ _ e) ht)) (.cons (KT _ _ aa) .nil)
  ·rw[aw,hpl,take_snoc hr];rfl
  ·have ned:∀{b:Addr}{kvs:List (eG×V)},upd H'' t (.tup [.str r,.ref ld]) b=some (.dK kvs)->b≠f2':=fun hb z=>by rw[z,kp (S'' _ _ f') ht]at hb;cases hb
   intro p hp;rcases bw.mp hp with hp|hp
   ·obtain⟨L0,g1,g2⟩:=hle p hp;refine⟨L0,?_,g2⟩;have:=kp (x:=.tup [.str r,.ref ld]) (S'' _ _ g1) ht;rw[ah (ned this)];exact this
   ·have:p=(r,ld):=by simpa using hp
    subst this;refine⟨Lr,?_,nd,hLr⟩;have:=kp (x:=.tup [.str r,.ref ld]) hld ht;rw[ah (ned this)];exact this
  ·intro b o q;rw[ah (ae q hf2)];exact kp (S'' _ _ (S _ _ q)) ht
 rintro vs H9' ⟨us,sps,rfl,hpa,hsps,hled,S9,f9⟩;rw[aj,aZ]at hsps;have nds:(sps.map (·.1)).Nodup:=by rw[hsps];exact m.okR.1
 refine⟨f2',us,dj Sum.inr sps,rfl,ax.of f9,?_,?_,fun sl hsl=>⟨_,rfl,x,C,dx,_,rfl,kp (S9 _ _ hx8) hsl,M.cls,M.a8,by omega,?_⟩⟩
 ·rw[Paired.length hpa];unfold dj;rw[aj]
 ·intro j t kv hj hkv;obtain⟨p,hp,e⟩:=Paired.getL hpa hj;unfold dj at hkv;rw[cD,hp]at hkv;have:=eD hkv;rw[<-this];exact e
 have emerge:iP [] (dj Sum.inr sps)=dj Sum.inr sps:=rZ sps [] nds;rw[emerge];obtain⟨H9,e9,hx9,F9⟩:=oP "still_led" (.ref sl) (kp (x:=.dK (dj Sum.inr sps)) (S9 _ _ hx8) hsl);rw[<-e9];have n9:sl≠x:=(ae (S9 _ _ hx8) hsl).symm;have fsl:=F9 _ _ aa n9;have E9:bg x H8 H9:=((ac.exB S9).trans (bg.new hsl)).trans F9;have L9:=L8.exI hx8 E9;have hled9:∀p∈sps,∃L,H9 p.2=some (.dK (aK L))/\L.Nodup/\∀w,w∈L↔Reach ds p.1 w:=fun p hp=>by
  obtain⟨L0,g1,g2⟩:=hled p hp;have g3:=kp (x:=.dK (dj Sum.inr sps)) g1 hsl;exact⟨L0,F9 _ _ g3 (Dd (kp (S9 _ _ hx8) hsl) g3),g2⟩
 clear e9 F9;have lk8:lk "still_led" (cE ("still_led":Str) (.ref sl) (cE ("sign_goals":Str) (.ref sg) (cE ("quiet":Str) (.ref qu) (cE ("leaving":Str) (.ref lv) fs4))))=some (.ref sl):=by
  show fL _ _=_;rw[bb,if_pos rfl]
 refine⟨_,rfl,_,rfl,x,C,dx,_,.ref sl,rfl,hx9,M.cls,M.a8,lk8,l3,sl,J2,sps,rfl,L9.a3,fsl,hsps,m.okR.1,fun p hp=>?_,fun H10 S10=>⟨_,rfl,k H10 ?_ ?_⟩⟩
 ·obtain⟨L0,g1,g2,g3⟩:=hled9 p hp;exact⟨L0,g1,fun z=>m.noround _ ((g3 _).mp z)⟩
 ·have X69:bg x H6 H9:=(E7.trans E8).trans E9;have X59:=((E6.trans E7).trans E8).trans E9;have Y:∀{b:Addr}{o:HO},H9 b=some o->H10 b=some o:=fun h=>S10 _ _ h;have LL:Lists H5 o1 o2 o3 o4 ts J0 J1 J2 ds:=⟨(E3.trans (E4.trans E5)) _ _ f1 n1,(E4.trans E5) _ _ f2 n2,E5 _ _ f3 n3,f4,L5.ds⟩;refine⟨⟨dx,_,o1,o2,o3,o4,lv,qu,sg,sl,ts,lps,gps,sps,Y hx9,?_,?_,?_,?_,?_,?_,?_,?_,?_,?_,?_,lk8,(LL.exI hx5 X59).same S10,hlps,?_,?_,?_,?_,hsps,Y fsl,fun p hp=>?_⟩,m,⟨dx,_,Y hx9,?_,?_,?_,?_⟩⟩
  rotate_right 9
  ·exact Y (X69 _ _ flv (Dd hx6 flv))
  ·intro y hy;obtain⟨us',g1,g2⟩:=hlv y hy;exact⟨us',Y (X69 _ _ g1 (bg.neI hx6 g1)),(g2.kt (X69.ktI hx6)).kt (ac.kt S10)⟩
  ·exact Y ((E8.trans E9) _ _ fqu n7)
  ·exact iF.same ⟨G8.nd,E9 _ _ G8.g (Fy hx8 G8.g),fun y hy=>E9 _ _ (G8.ls y hy) (bg.neI hx8 (G8.ls y hy)),G8.all⟩ S10
  ·obtain⟨L0,g1,g2⟩:=hled9 p hp;exact⟨L0,Y g1,g2⟩
  all_goals(show fL _ _=_;subst hfs4;repeat (rw[bb];first|rw[if_pos rfl] | rw[if_neg (by decide +kernel)]))
  all_goals rfl
 ·exact((((((((E1.trans E2).trans E3).trans E4).trans E5).trans E6).trans E7).trans E8).trans E9).trans (ac.exB S10)
theorem E_(a b:Str):decide (gl a=gl b)=decide (a=b):=by
 by_cases e:a=b
 ·rw[zzr1 e,zzr1 (by rw[e])]
 ·rw[zzr0 e,zzr0 (fun z=>e (nh z))]
theorem bO.by{C:Addr}{H H':Hp}{x:Addr}{J0 J1 J2:Zb}{ds:List am}(h:bO C H x J0 J1 J2 ds)
  (hs:∀b ws,H b=some (.lst (List.map V.str ws))->H' b=some (.lst (List.map V.str ws))) (hr:∀b ts,H b=some (.lst (List.map V.ref ts))->H' b=some (.lst (List.map V.ref ts))) (ht:ig H H')
  (hd:∀b kvs,H b=some (.dK kvs)->H' b=some (.dK kvs)) (hT:∀b kvs,H b=some (.dT kvs)->H' b=some (.dT kvs)) (hi:∀b C dx fs,H b=some (.ins C dx fs)->H' b=some (.ins C dx fs)):bO C H' x J0 J1 J2 ds:=by
 obtain⟨dx,fs,o1,o2,o3,o4,lv,qu,sg,sl,ts,lps,gps,sps,g1,a1,a2,a3,a4,b1,b2,b3,b4,b5,b6,b7,b8,L,c1,c2,c3,c4,G,d1,d2,d3⟩:=h.at_;refine⟨⟨dx,fs,o1,o2,o3,o4,lv,qu,sg,sl,ts,lps,gps,sps,hi _ _ _ _ g1,a1,a2,a3,a4,b1,b2,b3,b4,b5,b6,b7,b8,⟨hs _ _ L.a1,hs _ _ L.a2,hs _ _ L.a3,hr _ _ L.a4,L.ds.kt ht⟩,c1,hd _ _ c2,fun y hy=>?_,hd _ _ c4,⟨G.nd,hT _ _ G.g,fun y hy=>hs _ _ (G.ls y hy),G.all⟩,d1,hd _ _ d2,fun y hy=>?_⟩,h.ok,by obtain⟨dx,fs,g,r⟩:=h.more;exact⟨dx,fs,hi _ _ _ _ g,r⟩⟩
 ·obtain⟨us,e1,e2⟩:=c3 y hy;exact⟨us,hr _ _ e1,e2.kt ht⟩
 ·obtain⟨L0,e1,e2⟩:=d3 y hy;exact⟨L0,hd _ _ e1,e2⟩
theorem bO.same{C:Addr}{H H':Hp}{x:Addr}{J0 J1 J2:Zb}{ds:List am}(h:bO C H x J0 J1 J2 ds)(S:ac H H'):bO C H' x J0 J1 J2 ds :=
 h.by (fun _ _ e=>S _ _ e) (fun _ _ e=>S _ _ e) (ac.kt S) (fun _ _ e=>S _ _ e) (fun _ _ e=>S _ _ e) (fun _ _ _ _ e=>S _ _ e)
theorem bO.ex{C:Addr}{H H':Hp}{x p c:Addr}{J0 J1 J2:Zb}{ds:List am}(h:bO C H x J0 J1 J2 ds)(hp:gH H p c)(S:bg p H H'):bO C H' x J0 J1 J2 ds:=by
 obtain⟨xs,hx⟩:=hp.lst;exact h.by (fun _ _ e=>S _ _ e (hp.ne_strs e)) (fun _ _ e=>S _ _ e (hp.ne_refs e)) (S.kt hx) (fun _ _ e=>S _ _ e (fun z=>by rw[z,hx]at e;cases e)) (fun _ _ e=>S _ _ e (fun z=>by rw[z,hx]at e;cases e)) (fun _ _ _ _ e=>S _ _ e (fun z=>by rw[z,hx]at e;cases e))
inductive iA(C:Addr)(vs:List V)(H:Hp)(Q:VK)(E:XK):Prop
 |mk (x:Addr) (w:Str) (J0 J1 J2:Zb) (ds:List am):(vs=[.ref x,.str w])->(bO C H x J0 J1 J2 ds)->(Q (.bl (decide (w∈J2.filter (fB ds)))) H)->iA C vs H Q E
theorem xE{K:Za}{C:Addr}(M:MC K C){vs:List V}{H:Hp}{Q:VK}{E:XK}(h:iA C vs H Q E):lX K (bh Q) (start my vs) H:=by
 obtain⟨x,w,J0,J1,J2,ds,rfl,h,k⟩:=h;obtain⟨dx,fs,o1,o2,o3,o4,lv,qu,sg,sl,ts,lps,gps,sps,g1,a1,a2,a3,a4,b1,b2,b3,b4,b5,b6,b7,b8,L,c1,c2,c3,c4,_⟩:=h.at_;refine⟨_,rfl,_,rfl,x,C,dx,fs,.ref qu,rfl,g1,M.cls,M.a6,b6,qu,_,rfl,.inl ⟨_,.inr w,.inl c4,rfl,rfl⟩,?_⟩;rw[d_];exact k
def bJ:List Str:=[("hush":Str)]
inductive ju(C:Addr)(vs:List V)(H:Hp)(Q:VK)(E:XK):Prop
 |mk (t l1 l2 l3 l4:Addr) (ts:Ze) (J0 J1 J2:Zb) (ds:List am):(vs=[.ref t])->(iR H t l1 l2 l3 l4 ts J0 J1 J2 ds)->(b9 J0 J1 J2 ds)->(∀(x:Addr) (H':Hp),bO C H' x J0 J1 J2 ds->ac H H'->Q (.ref x) H')->ju C vs H Q E
theorem y1{K:Za}{C:Addr}{vs:List V}{H:Hp}{Q:VK}{E:XK}(h:ju C vs H Q E):sT K C (qp C) (bh Q) (start tN vs) H:=by
 obtain⟨t,l1,l2,l3,l4,ts,J0,J1,J2,ds,rfl,T,m,k⟩:=h;refine⟨_,rfl,.inr (.inl ⟨t,_,0,_,rfl,rfl,bC.of T.t,rfl,.inl ⟨l1,_,rfl,.inl (ax.of T.a1),fun m1 h1=>?_⟩⟩)⟩;have T1:=T.same (ac.new (o:=.lst (J0.map V.str)) h1);refine⟨_,rfl,.inr (.inl ⟨t,_,1,_,rfl,rfl,bC.of T1.t,rfl,.inl ⟨l2,_,rfl,.inl (ax.of T1.a2),fun m2 h2=>?_⟩⟩)⟩;have T2:=T1.same (ac.new (o:=.lst (J1.map V.str)) h2);refine⟨_,rfl,.inr (.inl ⟨t,_,2,_,rfl,rfl,bC.of T2.t,rfl,.inl ⟨l3,_,rfl,.inl (ax.of T2.a3),fun m3 h3=>?_⟩⟩)⟩;have T3:=T2.same (ac.new (o:=.lst (J2.map V.str)) h3);refine⟨_,rfl,.inr (.inl ⟨t,_,3,_,rfl,rfl,bC.of T3.t,rfl,.inl ⟨l4,_,rfl,.inl (ax.of T3.a4),fun m4 h4=>?_⟩⟩)⟩;have T4:=T3.same (ac.new (o:=.lst (ts.map V.ref)) h4);have S4:=(((ac.new (o:=.lst (J0.map V.str)) h1).trans (ac.new (o:=.lst (J1.map V.str)) h2)).trans (ac.new (o:=.lst (J2.map V.str)) h3)).trans (ac.new (o:=.lst (ts.map V.ref)) h4);refine fun x dx hx hdx hne=>?_;have S5:ac H (upd (upd (upd (upd (upd (upd H m1 (.lst (J0.map V.str))) m2 (.lst (J1.map V.str))) m3 (.lst (J2.map V.str))) m4 (.lst (ts.map V.ref))) dx (.own x)) x (.ins C dx [])) :=
  (S4.trans (ac.new hdx)).trans (ac.new (by rw[ah hne.symm];exact hx))
 have hxx:upd (upd (upd (upd (upd H m1 (.lst (J0.map V.str))) m2 (.lst (J1.map V.str))) m3 (.lst (J2.map V.str))) m4 (.lst (ts.map V.ref))) dx (.own x) x=none:=by rw[ah hne.symm];exact hx
 refine⟨x,dx,m1,m2,m3,m4,ts,J0,J1,J2,ds,rfl,aa,⟨?_,?_,?_,?_,T.ds.kt (ac.kt S5)⟩,m,fun H' M ex=>⟨rfl,k x H' M fun b o q=>?_⟩⟩
 ·exact kp (kp (kp (kp (kp aa h2) h3) h4) hdx) hxx
 ·exact kp (kp (kp (kp aa h3) h4) hdx) hxx
 ·exact kp (kp (kp aa h4) hdx) hxx
 ·exact kp (kp aa hdx) hxx
 ·have hq:=S5 _ _ q;exact ex _ _ hq (ae (S4.trans (ac.new hdx) _ _ q) hxx)
def fE(ds:List am):List Str:=(ds.filter fun d=>!ky d).map (·.a)
theorem y_(ds:List am)(r:Str):fB ds r=decide (r∉fE ds):=by
 unfold fB fE b0;rw[w8,List.all_eq_true,decide_eq_true_iff];constructor
 ·intro h z;obtain⟨d,hd,rfl⟩:=aM.mp z;rw[eU]at hd;have:=h d (eU.mpr ⟨hd.1,zzr1 rfl⟩);rw[this]at hd;exact absurd hd.2 (by decide)
 ·intro h d hd;rw[eU]at hd;cases q:ky d with
  |true=>rfl
  |false =>
   refine absurd (aM.mpr ⟨d,eU.mpr ⟨hd.1,by rw[q];rfl⟩,?_⟩) h;exact of_decide_eq_true hd.2
theorem qw{w:Str}{ws:Zb}:gl w∈ws.map gl↔w∈ws:=by
 constructor
 ·intro h;obtain⟨x,hx,e⟩:=aM.mp h;rw[<-nh e];exact hx
 ·exact nX
theorem uo{ds:List am}{i:Nat}{d:am}(h:ds[i]?=some d):fE (ds.take (i+1))=fE (ds.take i)++(if(!ky d)=true then[d.a]else[]):=by
 unfold fE;rw[take_snoc h,g6,aw];congr 1;by_cases c:(!ky d)=true
 ·rw[if_pos c];simp[List.filter_cons,c]
 ·rw[if_neg c];simp[List.filter_cons,c]
def vw(K:Za)(C_Machine:Addr)(sp_Machine_rooms:Sp)(sp_Machine_led_from:Sp):TS :=
 aq (aJ (rB) U2)
 (aq (fz (bU K V1) U3 (dA (tB (gK K V3 V2)) (aq (jO V2 V3 (tC (.bl true)))
 (fz (bU K (cA C_Machine "led_from" sp_Machine_led_from [] E0 V0 (aH V3))) U4 (jO V2 V4 (tC (.bl true))))) (bR)))
 (aW (im (rL K) (aH (cB 1 [2] (bU K (cA C_Machine "rooms" sp_Machine_rooms [] E0 V0 bF)) U0 (tB (Bf K V0 V1)) V0)))))
def wK:List Str:=["M","rooms","found","room","led"]
def pN(K:Za):TS :=
 aW (im (dR K) (aH (hC K V0 "own_rooms")))
def qd:List Str:=["self"]
def lW(K:Za):TS :=
 aW (im (dR K) (aH (vR K (hC K V0 "still_led") V1 (bZ (bF)))))
def mx:List Str:=["self","room"]
def pO(K:Za):TS :=
 aW (im (dR K) (aH (vR K (hC K V0 "sign_goals") (bZ (a_ V1 V2)) (bZ (bF)))))
def qe:List Str:=["self","room","sign"]
def rk(K:Za):TS :=
 aq (aJ (im (dR K) (aH V1)) U2)
 (aq (aJ (tC (.int 0)) U3)
 (aq (vG (ba (aI Bv V3 (im (ko K) (aH V2)))) (aq (fz (bU K V0) (mj K 3 (ck U4 (ck U5 (ck U6 (ln))))) (dA (CA (ba (aI (xG K) V4 (aI (pU K) V2 V3))) (CA (ba (aI (xG K) V5 (bZ (aH (tC (.str "still")))))) (ba (aI (tI K true) V6 V2)))) (df (Bg K "list" f_ V2 (aH V6))) (bR)))
 (aJ (aI em V3 (tC (.int 1))) U3)))
 (aW V2)))
def sK:List Str:=["doors","rooms","found","at","room","sign","other"]
inductive kg(C:Addr)(vs:List V)(H:Hp)(Q:VK)(E:XK):Prop
 |mk (x:Addr) (J0 J1 J2:Zb) (ds:List am):(vs=[.ref x])->(bO C H x J0 J1 J2 ds)->(∀l,H l=none->Q (.ref l) (upd H l (.lst (J2.map V.str))))->kg C vs H Q E
theorem CH{K:Za}{C:Addr}(M:MC K C){vs:List V}{H:Hp}{Q:VK}{E:XK}(h:kg C vs H Q E):pN K (bh Q) (start qd vs) H:=by
 obtain⟨x,J0,J1,J2,ds,rfl,h,k⟩:=h;obtain⟨dx,fs,o1,o2,o3,o4,lv,qu,sg,sl,ts,lps,gps,sps,g1,a1,a2,a3,a4,b1,b2,b3,b4,b5,b6,b7,b8,L,_⟩:=h.at_;exact⟨_,rfl,x,C,dx,fs,.ref o3,rfl,g1,M.cls,M.a3,b3,.inl ⟨o3,_,rfl,.inl (ax.of L.a3),k⟩⟩
theorem xU:∀{L:Zb},L.Nodup->(aK L).map (fun kv=>kV kv.1)=L.map V.str:=by
 intro L;refine i0 (fun L=>L.Nodup->(aK L).map (fun kv=>kV kv.1)=L.map V.str) (fun _=>rfl) (fun ws w ih nd=>?_) L;rw[cZ]at nd;have hn:aY (aK ws) (.inr w)=none:=by
  rw[sf,if_neg (fun z=>nd.2.2 w z w (by simp) rfl)]
 show(aK (ws++[w])).map _=_;rw[cX,hZ _ hn,aw,ih nd.1,aw]
 rfl
inductive iz(C:Addr)(vs:List V)(H:Hp)(Q:VK)(E:XK):Prop
 |mk (x:Addr) (r:Str) (J0 J1 J2:Zb) (ds:List am):(vs=[.ref x,.str r])->(bO C H x J0 J1 J2 ds)->(r∈J2)->(∀(l:Addr) (L:Zb) (H':Hp),H' l=some (.lst (L.map V.str))->L.Nodup->(∀w,w∈L↔Reach ds r w)->H l=none->ac H H'->Q (.ref l) H')->iz C vs H Q E
theorem xD{K:Za}{C:Addr}(M:MC K C){vs:List V}{H:Hp}{Q:VK}{E:XK}(h:iz C vs H Q E):lW K (bh Q) (start mx vs) H:=by
 obtain⟨x,r,J0,J1,J2,ds,rfl,h,hr,k⟩:=h;obtain⟨dx,fs,o1,o2,o3,o4,lv,qu,sg,sl,ts,lps,gps,sps,g1,a1,a2,a3,a4,b1,b2,b3,b4,b5,b6,b7,b8,L,c1,c2,c3,c4,G,d1,d2,d3⟩:=h.at_;have nod:=h.ok.okR.1;obtain⟨⟨r',a⟩,hra,er⟩:=aM.mp (show r∈sps.map (·.1) by rw[d1];exact hr);obtain rfl:r'=r:=er;obtain⟨L0,e1,e2,e3⟩:=d3 _ hra;refine⟨_,rfl,x,C,dx,fs,.ref sl,rfl,g1,M.cls,M.a8,b8,sl,rfl,.inl ⟨_,.inl d2⟩,_,rfl,(by show 0<=ai;decide),fun et het=>⟨_,.inl ⟨_,.inr r',.inl (kp d2 het),rfl,rfl⟩,?_⟩⟩;rw[d7 iE (by rw[d1];exact nod) hra];refine .inr ⟨a,_,rfl,.inl (kp e1 het),fun l hl=>k l L0 _ ?_ e2 e3 ((ac.new het).free hl) ((ac.new het).trans (ac.new hl))⟩;rw[aa,xU e2]
inductive i5(C:Addr)(vs:List V)(H:Hp)(Q:VK)(E:XK):Prop
 |mk (x s:Addr) (r:Str) (sg J0 J1 J2:Zb) (ds:List am):(vs=[.ref x,.str r,.ref s])->(bO C H x J0 J1 J2 ds)->(H s=some (.tup (sg.map V.str)))->(∀(l:Addr) (H':Hp),H' l=some (.lst ((be ds (r,sg)).map V.str))->H l=none->ac H H'->Q (.ref l) H')->i5 C vs H Q E
theorem Bn{K:Za}{C:Addr}(M:MC K C){vs:List V}{H:Hp}{Q:VK}{E:XK}(h:i5 C vs H Q E):pO K (bh Q) (start qe vs) H:=by
 obtain⟨x,s,r,sgn,J0,J1,J2,ds,rfl,h,hs,k⟩:=h;obtain⟨dx,fs,o1,o2,o3,o4,lv,qu,sg,sl,ts,lps,gps,sps,g1,a1,a2,a3,a4,b1,b2,b3,b4,b5,b6,b7,b8,L,c1,c2,c3,c4,G,d1,d2,d3⟩:=h.at_;have nod:=h.ok.okR.1;refine⟨_,rfl,x,C,dx,fs,.ref sg,rfl,g1,M.cls,M.a7,b7,sg,rfl,.inr ⟨_,.inl G.g⟩,_,rfl,_,rfl,(by show 2<=ai;decide),fun kt hkt=>⟨(by show 0<=ai;decide),fun et het=>⟨aY (dj sP gps) (sP (r,sgn)),.inr ⟨_,sP (r,sgn),kt,.inl (kp (kp G.g hkt) het),rfl,?_,kR _,rfl⟩,?_⟩⟩⟩
 ·refine dk.isIn 8 (kR _) ?_;unfold sP dk;refine⟨kt,_,rfl,kp aa het,?_⟩;unfold TKAts;refine⟨_,_,rfl,vv _,?_⟩;unfold TKAts;refine⟨_,_,rfl,SignAt.tk (kp (kp hs hkt) het),?_⟩;unfold TKAts
  rfl
 have S2:ac H (upd (upd H kt (.tup [.str r,.ref s])) et (.tup [])):=(ac.new hkt).trans (ac.new het);by_cases hmem:(r,sgn)∈gps.map (·.1)
 ·obtain⟨⟨y,a⟩,hra,er⟩:=aM.mp hmem;obtain rfl:y=(r,sgn):=er;rw[d7 gL G.nd hra];exact .inl ⟨a,_,rfl,.inl (ax.of (S2 _ _ (G.ls _ hra))),fun l hl=>k l _ aa (S2.free hl) (S2.trans (ac.new hl))⟩
 ·rw[kY gL hmem];have hnil:be ds (r,sgn)=[]:=kz fun y hy z=>hmem (by rw[<-z];exact G.all y hy);refine .inl ⟨et,[],rfl,.inr (bC.of aa),fun l hl=>k l _ ?_ (S2.free hl) (S2.trans (ac.new hl))⟩;rw[hnil];exact aa
theorem Reach.trans{ds:List am}{a b c:Str}(h1:Reach ds a b)(h2:Reach ds b c):Reach ds a c:=by
 induction h2 with
 |one h=>exact .step h1 h
 |step r h ih=>exact .step ih h
def iu(ds:List am)(gs:Zb)(w:Str):Prop:=∃g∈gs,w=g∨Reach ds g w
theorem iu.in_{ds:List am}{gs J2:Zb}{w:Str}(hg:∀g∈gs,g∈J2)(hd:∀d∈ds,d.b∈J2)(h:iu ds gs w):w∈J2:=by
 obtain⟨g,h1,rfl|h2⟩:=h
 ·exact hg _ h1
 ·exact h2.in_ hd
def pX(F:Zb)(w:Str):List Str:=if w∈F then F else F++[w]
theorem xT(F:Zb):∀kv∈aK F,kv.2=.bl true:=by
 refine i0 (fun F=>∀kv∈aK F,kv.2=.bl true) (by intro kv h;cases h) (fun ws w ih=>?_) F;intro kv hkv;rw[cX]at hkv;unfold c7 at hkv;split at hkv
 ·obtain⟨x,hx,rfl⟩:=aM.mp hkv;split
  ·rfl
  ·exact ih x hx
 ·rcases bw.mp hkv with h|h
  ·exact ih kv h
  ·have:kv=(.inr w,.bl true):=by simpa using h
   rw[this]
theorem sh(F:Zb)(w:Str):c7 (aK F) (.inr w) (.bl true)=aK (pX F w):=by
 unfold pX;by_cases c:w∈F
 ·rw[if_pos c];have h1:((aK F).any fun kv=>decide (kv.1=(.inr w:eG)))=true:=by
   rw[iY,d_,zzr1 c]
  unfold c7;rw[if_pos h1];have:∀l:List (eG×V),(∀kv∈l,kv.2=.bl true)->l.map (fun kv=>if kv.1=(.inr w:eG)then(kv.1,V.bl true)else kv)=l:=by
   intro l
   induction l with
   |nil=>intro _;rfl
   |cons x l ih =>
    intro h;rw[bm,ih fun kv hkv=>h kv (dD _ hkv)];congr 1;split
    ·rw[<-h x dE]
    ·rfl
  exact this _ (xT F)
 ·rw[if_neg c,cX]
theorem sH{F:Zb}(h:F.Nodup)(w:Str):(pX F w).Nodup:=by
 unfold pX;split
 ·exact h
 ·next c =>
  rw[cZ];refine⟨h,by simp,fun a ha b hb e=>?_⟩;have:b=w:=by simpa using hb
  exact c (by rw[<-this,<-e];exact ha)
theorem xS{F:Zb}{w y:Str}:y∈pX F w↔y∈F∨y=w:=by
 unfold pX;split
 ·next c=>exact⟨.inl,fun h=>h.elim id fun e=>by rw[e];exact c⟩
 ·rw[bw];simp
inductive sp_with_still(C:Addr)(vs:List V)(H:Hp)(Q:VK)(E:XK):Prop
 |mk (x l:Addr) (gs J0 J1 J2:Zb) (ds:List am):(vs=[.ref x,.ref l])->(bO C H x J0 J1 J2 ds)->(H l=some (.lst (gs.map V.str)))->((∀g∈gs,g∈J2))->(∀(t:Addr) (F:Zb) (H':Hp),H' t=some (.tup ((J2.filter fun r=>decide (r∈F)).map V.str))->(∀w,w∈F↔iu ds gs w)->ac H H'->Q (.ref t) H')->sp_with_still C vs H Q E
theorem tw{K:Za}{C:Addr}{vs:List V}{H:Hp}{Q:VK}{E:XK}(h:sp_with_still C vs H Q E):vw K C (kg C) (iz C) (bh Q) (start wK vs) H:=by
 obtain⟨x,l,gs,J0,J1,J2,ds,rfl,M,hl,hg,k⟩:=h;have hdb:∀d∈ds,d.b∈J2:=fun d hd=>(M.ok.good d hd).b;have z3:=M.ok.rooms26;refine fun d hd=>?_;refine⟨_,rfl,l,rfl,⟨_,ax.of (kp hl hd)⟩,?_⟩;refine cn (xs:=gs.map V.str) (fun i σ H'=>Hn fun(F:Zb) (x3 x4:Option V)=>Ho (σ=[some (.ref x),some (.ref l),some (.ref d),x3,x4]) (H' d=some (.dK (aK F))) (ac H H') (F.Nodup) (∀w,w∈F↔iu ds (gs.take i) w))
  ⟨[],_,_,rfl,aa,ac.new hd,qX,fun w=>⟨fun h=>(by cases h),fun⟨g,h,_⟩=>(by cases h)⟩⟩ (fun i σ H' _ ⟨_,_,_,_,_,S,_,_⟩=>ax.of (S _ _ hl)) ?_ ?_
 ·rintro i y σ H1 hi ⟨F,x3,x4,rfl,hd1,S1,nd,hF⟩;obtain⟨r,hr,rfl⟩:=bY hi;have hrm:r∈J2:=hg r (cw hr);have hsub:∀w∈F,w∈J2:=fun w hw=>((hF w).mp hw).in_ (fun g hg'=>hg g (fo hg')) hdb;refine⟨_,rfl,_,rfl,d,_,rfl,.inl ⟨_,.inr r,.inl hd1,rfl,rfl⟩,_,rfl,?_⟩;rw[d_];have hstep:∀w,iu ds (gs.take (i+1)) w↔(iu ds (gs.take i) w∨w=r∨Reach ds r w):=by
   intro w;rw[take_snoc hr];constructor
   ·rintro⟨g,hg',h⟩;rcases bw.mp hg' with hg'|hg'
    ·exact .inl ⟨g,hg',h⟩
    ·have:g=r:=by simpa using hg'
     subst this;exact .inr h
   ·rintro(⟨g,hg',h⟩|h)
    ·exact⟨g,de _ hg',h⟩
    ·exact⟨r,dL _ (by simp),h⟩
  by_cases c:r∈F
  ·rw[zzr1 c];refine cr ⟨F,_,_,rfl,hd1,S1,nd,fun w=>?_⟩;rw[hstep,hF];refine⟨.inl,fun h=>h.elim id fun h=>?_⟩;obtain⟨g,hg',hgr⟩:=(hF r).mp c;rcases h with h|h
   ·rw[h];exact⟨g,hg',hgr⟩
   ·refine⟨g,hg',.inr ?_⟩;rcases hgr with e|hgr
    ·rw[<-e];exact h
    ·exact hgr.trans h
  ·rw[zzr0 c];refine cJ ?_;have hlen:∀{F:Zb},F.Nodup->(∀w∈F,w∈J2)->(aK F).length<ai:=fun nd hs=>ar (aE (jB _) (aE (nE nd hs) (by omega)));refine⟨_,rfl,_,rfl,d,_,rfl,.inl ⟨_,.inr r,hd1,rfl,hlen nd hsub,rfl⟩,?_⟩;rw[sh];have S2:ac H (upd H1 d (.dK (aK (pX F r)))):=fun b o q=>by rw[ah (ae q hd)];exact S1 _ _ q
   have hd2:upd H1 d (.dK (aK (pX F r))) d=some (.dK (aK (pX F r))):=aa;generalize upd H1 d (.dK (aK (pX F r)))=H2 at S2 hd2 ⊢;have M2:=M.same S2;obtain⟨dx,fs,o1,o2,o3,o4,lv,qu,sg,sl,ts,lps,gps,sps,g1,a1,a2,a3,a4,_⟩:=M2.at_;refine⟨_,rfl,x,dx,fs,rfl,g1,a3,_,rfl,x,r,J0,J1,J2,ds,rfl,M2,hrm,fun ll L H3 hll ndL hL frl S3=>⟨ll,rfl,⟨_,ax.of hll⟩,?_⟩⟩;have hd3:=S3 _ _ hd2;have llH:H ll=none:=S2.free frl;have lld:ll≠d:=fun z=>by rw[z,hd2]at frl;cases frl
   refine cn (xs:=L.map V.str) (fun j σ H'=>NE2 fun(F':Zb) (x4:Option V)=>NA6 (σ=[some (.ref x),some (.ref l),some (.ref d),some (.str r),x4]) (H' d=some (.dK (aK F'))) (H' ll=some (.lst (L.map V.str))) (ac H H') (F'.Nodup) (∀w,w∈F'↔(iu ds (gs.take i) w∨w=r∨w∈L.take j)))
    ⟨pX F r,_,rfl,hd3,hll,S2.trans S3,sH nd r,fun w=>?_⟩ (fun j σ H' _ ⟨_,_,_,_,h,_,_,_⟩=>ax.of h) ?_ ?_
   ·rw[xS,hF];simp
   ·rintro j y σ H4 hj ⟨F',x4',rfl,hd4,hll4,S4,nd4,hF4⟩;obtain⟨v,hv,rfl⟩:=bY hj;have hsub4:∀w∈F',w∈J2:=by
     intro w hw;rcases(hF4 w).mp hw with h|h|h
     ·exact h.in_ (fun g hg'=>hg g (fo hg')) hdb
     ·rw[h];exact hrm
     ·exact((hL w).mp (fo h)).in_ hdb
    refine⟨_,rfl,_,rfl,d,_,rfl,.inl ⟨_,.inr v,hd4,rfl,hlen nd4 hsub4,rfl⟩,pX F' v,_,rfl,?_,?_,?_,sH nd4 v,fun w=>?_⟩
    ·rw[aa,sh]
    ·rw[ah lld];exact hll4
    ·intro b o q;rw[ah (ae q hd)];exact S4 _ _ q
    ·rw[xS,hF4,take_snoc hv,bw];simp only[fN];constructor
     ·rintro((h|h|h)|h)
      ·exact .inl h
      ·exact .inr (.inl h)
      ·exact .inr (.inr (.inl h))
      ·exact .inr (.inr (.inr h))
     ·rintro(h|h|h|h)
      ·exact .inl (.inl h)
      ·exact .inl (.inr (.inl h))
      ·exact .inl (.inr (.inr h))
      ·exact .inr h
   ·rintro σ H4 ⟨F',x4',rfl,hd4,hll4,S4,nd4,hF4⟩;rw[aj,aZ]at hF4;refine⟨F',_,_,rfl,hd4,S4,nd4,fun w=>?_⟩;rw[hstep,hF4,hL]
 ·rintro σ H1 ⟨F,x3,x4,rfl,hd1,S1,nd,hF⟩;rw[aj,aZ]at hF;have M1:=M.same S1;obtain⟨dx,fs,o1,o2,o3,o4,lv,qu,sg,sl,ts,lps,gps,sps,g1,a1,a2,a3,a4,_⟩:=M1.at_;refine⟨_,rfl,x,dx,fs,rfl,g1,a4,x,J0,J1,J2,ds,rfl,M1,fun rl hrl=>⟨rl,rfl,⟨_,ax.of aa⟩,fun f hf=>?_⟩⟩;have S2:ac H (upd H1 rl (.lst (J2.map V.str))):=S1.trans (ac.new hrl);have hd2:upd H1 rl (.lst (J2.map V.str)) d=some (.dK (aK F)):=kp hd1 hrl;have hrl2:upd H1 rl (.lst (J2.map V.str)) rl=some (.lst (J2.map V.str)):=aa;generalize upd H1 rl (.lst (J2.map V.str))=H2 at S2 hd2 hrl2 hf ⊢;refine cu (xs:=J2.map V.str) (fun i vs H'=>vs=((J2.take i).filter fun r=>decide (r∈F)).map V.str/\ac H2 H'/\H' f=some (.lst vs)) ⟨rfl,ac.new hf,aa⟩ (fun i vs H' _ ⟨_,S,h'⟩=>⟨h',ax.of (S _ _ hrl2)⟩) ?_ ?_
  ·rintro vs H' ⟨rfl,S,f'⟩;rw[aj,aZ]at f';exact⟨f,_,rfl,.inl ⟨ax.of f',fun t ht=>k t F _ aa hF (S2.trans (S.trans (ac.new ht)))⟩⟩
  ·rintro i vs H' x' hx' hi ⟨rfl,S,f'⟩;obtain⟨r,hr,rfl⟩:=bY hx';refine gN ?_;refine⟨_,rfl,_,rfl,d,_,rfl,.inl ⟨_,.inr r,.inl (S _ _ hd2),rfl,rfl⟩,_,rfl,?_⟩;rw[d_];have hlen:(((J2.take i).filter fun r=>decide (r∈F)).map V.str).length<ai:=by
    rw[aj];refine ar (aE (cC _ _) ?_);rw[aD];omega
   refine kr (fun hq=>?_) (fun hq=>?_)
   ·refine⟨_,rfl,f',hlen,nV hi ⟨?_,?_,aa⟩⟩
    ·rw[bP hr,if_pos hq,aw];rfl
    ·intro b o q;rw[ah (ae q hf)];exact S _ _ q
   ·refine nV hi ⟨?_,S,f'⟩;rw[bP hr,if_neg hq,ei]
inductive gf(K:Za)(vs:List V)(H:Hp)(Q:VK)(E:XK):Prop
 |mk (l4 l:Addr) (ts:Ze) (ds:List am) (gs J2:Zb):(vs=[.ref l4,.ref l])->(H l4=some (.lst (ts.map V.ref)))->(dY H ts ds)->(H l=some (.lst (gs.map V.str)))->((∀d∈ds,d.b∈J2))->(J2.length<=1000)->(gs.length<=1000)->(∀(f:Addr) (F:Zb) (H':Hp),H' f=some (.lst (F.map V.str))->(∀w,w∈F↔iu ds gs w)->F.length<=2000->H f=none->ac H H'->Q (.ref f) H')->gf K vs H Q E
structure SO(H0 H:Hp)(ds:List am)(gs:Zb)(f:Addr)(X:Zb):Prop where
 f:H f=some (.lst ((gs++X).map V.str))
 same:ac H0 H
 nd:X.Nodup
 new:∀y∈X,y∉gs
 sound:∀y∈X,iu ds gs y
theorem iu.step{ds:List am}{gs:Zb}{a b:Str}(h:iu ds gs a)(e:(⟨a,aX,b⟩:am)∈ds):iu ds gs b:=by
 obtain⟨g,hg,rfl|h⟩:=h
 ·exact⟨_,hg,.inr (.one e)⟩
 ·exact⟨g,hg,.inr (.step h e)⟩
theorem jC(a b:Zb):decide (jc a=jc b)=decide (a=b):=by
 by_cases e:a=b
 ·rw[zzr1 e,zzr1 (by rw[e])]
 ·rw[zzr0 e,zzr0 (fun z=>e (AD z))]
inductive SoI(l4 l f:Addr)(at_:Int)(H:Hp)(ds:List am)(gs X:Zb)(here:Str)(j:Nat)(σ:L2.St)(H':Hp):Prop
 |mk (X' Y:Zb) (x y z:Option V):σ=[some (.ref l4),some (.ref l),some (.ref f),some (.int at_),x,y,z]->X'=X++Y->SO H H' ds gs f X'->(∀d∈ds.take j,d.a=here->d.sg=aX->d.b∈gs++X')->SoI l4 l f at_ H ds gs X here j σ H'
theorem xB{K:Za}{vs:List V}{H:Hp}{Q:VK}{E:XK}(h:gf K vs H Q E):rk K (bh Q) (start sK vs) H:=by
 obtain⟨l4,l,ts,ds,gs,J2,rfl,h4,hds,hl,hin,hz,hz2,k⟩:=h;refine⟨_,rfl,.inl ⟨l,_,rfl,.inl (ax.of hl),fun f hf=>?_⟩⟩;have lenX:∀{X:Zb},X.Nodup->(∀y∈X,y∉gs)->(∀y∈X,iu ds gs y)->X.length<=J2.length:=fun nd nw sd=>nE nd fun y hy=>by
  obtain⟨g,hg,e|h⟩:=sd y hy
  ·exact absurd (by rw[e];exact hg) (nw y hy)
  ·exact h.in_ hin
 refine⟨fun m σ H'=>∃(X:Zb) (at_:Nat) (x y z:Option V),σ=[some (.ref l4),some (.ref l),some (.ref f),some (.int at_),x,y,z]/\SO H H' ds gs f X/\at_<=(gs++X).length/\(∀i y,i<at_->(gs++X)[i]?=some y->∀c,(⟨y,aX,c⟩:am)∈ds->c∈gs++X)/\m=gs.length+J2.length-at_,
  ⟨_,[],0,_,_,_,rfl,⟨by rw[ei];exact aa,ac.new hf,qX,by simp,by simp⟩,eS _,fun i y h=>by omega,rfl⟩,?_⟩
 rintro m σ H1 ⟨X,at_,x4,x5,x6,rfl,D,hat,hcl,rfl⟩;have hXl:=lenX D.nd D.new D.sound;refine⟨_,rfl,_,rfl,.inl ⟨f,_,rfl,.inl (ax.of D.f),_,_,rfl,rfl,_,rfl,?_⟩⟩;refine kr (fun hlt=>?_) (fun hlt=>?_)
 ·have hlt':at_<(gs++X).length:=by
   have:=of_decide_eq_true hlt;rw[aj]at this;omega
  have hat0:at_<gs.length+J2.length:=by rw[aU]at hlt';omega
  generalize hhere:(gs++X)[at_]=here;have hget:(gs++X)[at_]?=some here:=by rw[<-hhere];exact eB hlt'
  have hfrom:∀{Y:Zb}{y:Str},(∀y∈Y,iu ds gs y)->y∈gs++Y->iu ds gs y:=fun sd hy=>by
   rcases bw.mp hy with hy|hy
   ·exact⟨_,hy,.inl rfl⟩
   ·exact sd _ hy
  refine⟨fun σ' H'=>∃(X':Zb) (x y z:Option V),σ'=[some (.ref l4),some (.ref l),some (.ref f),some (.int ((at_+1:Nat):Int)),x,y,z]/\SO H H' ds gs f X'/\at_+1<=(gs++X').length/\(∀i y,i<at_+1->(gs++X')[i]?=some y->∀c,(⟨y,aX,c⟩:am)∈ds->c∈gs++X'),
   fun σ' H' ⟨X',x,y,z,e,D',h1,h2⟩=>⟨_,(by omega:gs.length+J2.length-(at_+1)<gs.length+J2.length-at_),X',at_+1,x,y,z,e,D',h1,h2,rfl⟩,?_⟩
  refine⟨_,rfl,l4,rfl,⟨_,ax.of (D.same _ _ h4)⟩,?_⟩;refine cn (xs:=ts.map V.ref) (SoI l4 l f at_ H ds gs X here)
   ⟨X,[],_,_,_,rfl,by simp,D,by simp⟩ (fun j σ H' _ ⟨_,_,_,_,_,_,_,D',_⟩=>ax.of (D'.same _ _ h4)) ?_ ?_
  ·rintro j y σ H2 hj ⟨X',Y,x4',x5',x6',rfl,rfl,D2,hdone⟩;obtain⟨t,ht,rfl⟩:=cf hj;obtain⟨dr,hdr,hatd⟩:=Paired.getL hds ht;obtain⟨s,ht2,hs2⟩:=hatd.kt (ac.kt D2.same);have hmem:=cw hdr;have hXl2:=lenX D2.nd D2.new D2.sound;have hget2:(gs++(X++Y))[at_]?=some here:=by
    rw[<-fk,rc hlt'];exact hget
   refine⟨t,_,rfl,bC.of ht2,rfl,_,_,rfl,_,_,rfl,_,_,rfl,rfl,?_⟩;have nextI:∀(H3:Hp) (X3 Y3:Zb) (q4 q5 q6:Option V),X3=X++Y3->SO H H3 ds gs f X3->(∀y∈X++Y,y∈X3)->(dr.a=here->dr.sg=aX->dr.b∈gs++X3) ->
     SoI l4 l f at_ H ds gs X here (j+1) [some (.ref l4),some (.ref l),some (.ref f),some (.int at_),q4,q5,q6] H3:=by
    intro H3 X3 Y3 q4 q5 q6 e D3 hsub hnew;refine⟨X3,Y3,q4,q5,q6,rfl,e,D3,fun d hd e1 e2=>?_⟩;rw[take_snoc hdr]at hd;rcases bw.mp hd with hd|hd
    ·rcases bw.mp (hdone d hd e1 e2)with h|h
     ·exact de _ h
     ·exact dL _ (hsub _ h)
    ·have:d=dr:=by simpa using hd
     subst this;exact hnew e1 e2
   refine⟨_,rfl,_,rfl,_,rfl,.inl ⟨f,_,_,_,rfl,rfl,ax.of D2.f,bW (j:=at_) (by rw[cD,hget2];rfl),gl dr.a,gl here,pB _,pB _,(by show 0<=8;decide),(by show 0<=8;decide),_,rfl,?_⟩⟩;rw[E_];by_cases c1:dr.a=here;rotate_left
   ·rw[zzr0 c1];exact cr (cr (nextI H2 _ _ _ _ _ rfl D2 (fun _ h=>h) fun e=>absurd e c1))
   rw[zzr1 c1];refine cJ ?_;refine⟨_,rfl,(by show 1<=ai;decide),fun st hst=>⟨jc dr.sg,jc aX,bN (bC.of (kp hs2 hst)),bN (bC.of aa),by rw[bL];decide,by rw[bL];decide,_,rfl,?_⟩⟩;rw[jC];have D3:SO H (upd H2 st (.tup [.str "still"])) ds gs f (X++Y):=⟨kp D2.f hst,D2.same.trans (ac.new hst),D2.nd,D2.new,D2.sound⟩;have hstS:H st=none:=D2.same.free hst;generalize upd H2 st (.tup [.str "still"])=H3 at D3 ⊢;by_cases c2:dr.sg=aX;rotate_left
   ·rw[zzr0 c2];exact cr (cr (nextI H3 _ _ _ _ _ rfl D3 (fun _ h=>h) fun _ e=>absurd e c2))
   rw[zzr1 c2];refine cJ ?_;refine⟨_,rfl,_,rfl,gl dr.b,(gs++(X++Y)).map gl,f,_,pB _,rfl,.inl (ax.of D3.f),ml _,(by show 0<=8;decide),by rw[ie];decide,_,rfl,?_⟩;rw[if_pos rfl];by_cases c3:dr.b∈gs++(X++Y)
   ·rw[zzr1 (qw.mpr c3)];exact cr (nextI H3 _ _ _ _ _ rfl D3 (fun _ h=>h) fun _ _=>c3)
   rw[zzr0 (fun z=>c3 (qw.mp z))];refine cJ ?_;refine⟨_,rfl,.inl ⟨rfl,_,ax.of D3.f⟩,_,rfl,f,_,_,rfl,rfl,D3.f,by rw[aj,aU];exact fP (by omega),?_⟩;have hedge:(⟨here,aX,dr.b⟩:am)∈ds:=by
    have:dr=⟨here,aX,dr.b⟩:=by cases dr;simp only at c1 c2;rw[c1,c2]
    rw[<-this];exact hmem
   refine nextI _ (X++(Y++[dr.b])) _ _ _ _ rfl ⟨?_,?_,?_,?_,?_⟩ ?_ ?_
   ·rw[aa];have:gs++(X++(Y++[dr.b]))=gs++(X++Y)++[dr.b]:=by simp
    rw[this,aw (l₂:=[dr.b])]
    rfl
   ·intro b o q;rw[ah (ae q hf)];exact D3.same _ _ q
   ·rw[<-fk,cZ];refine⟨D3.nd,by simp,fun a ha b hb e=>?_⟩;have:b=dr.b:=by simpa using hb
    exact c3 (dL _ (by rw[<-this,<-e];exact ha))
   ·intro y hy;rw[<-fk]at hy;rcases bw.mp hy with hy|hy
    ·exact D3.new y hy
    ·have:y=dr.b:=by simpa using hy
     rw[this];exact fun z=>c3 (de _ z)
   ·intro y hy;rw[<-fk]at hy;rcases bw.mp hy with hy|hy
    ·exact D3.sound y hy
    ·have:y=dr.b:=by simpa using hy
     rw[this];exact(hfrom D.sound (cw hget)).step hedge
   ·intro y hy;rw[<-fk];exact de _ hy
   ·intro _ _;exact dL _ (by simp)
  ·rintro σ H2 ⟨X',Y,x4',x5',x6',rfl,rfl,D2,hdone⟩;rw[aj,Paired.length hds,aZ]at hdone;refine⟨_,rfl,_,_,rfl,rfl,X++Y,_,_,_,rfl,D2,?_,fun i y hi hy c hc=>?_⟩
   ·rw[<-fk,aU];omega
   ·by_cases e:i=at_
    ·subst e;rw[<-fk,rc hlt',hget]at hy;have:=eD hy;subst this;exact hdone _ hc rfl rfl
    ·have hi':i<at_:=by omega
     rw[<-fk,rc (by omega)]at hy;have:=hcl i y hi' hy c hc;rw[<-fk];exact de _ this
 ·have hend:at_=(gs++X).length:=by
   have:¬(at_<(gs++X).length):=fun z=>hlt (zzr1 (by rw[aj];omega));omega
  refine⟨_,rfl,k f (gs++X) H1 D.f (fun w=>⟨fun hw=>?_,fun hw=>?_⟩) (by rw[aU];omega) hf D.same⟩
  ·rcases bw.mp hw with hw|hw
   ·exact⟨_,hw,.inl rfl⟩
   ·exact D.sound _ hw
  ·have closed:∀y∈gs++X,∀c,(⟨y,aX,c⟩:am)∈ds->c∈gs++X:=fun y hy c hc=>by
    obtain⟨n,hn⟩:=g7 hy;exact hcl n y (by rw[hend];exact(bQ.mp hn).1) hn c hc
   obtain⟨g,hg,rfl|h⟩:=hw
   ·exact de _ hg
   ·induction h with
    |one e=>exact closed _ (de _ hg) _ e
    |step r e ih=>exact closed _ ih _ e

def cT(ds:List am)(sg:Zb)(J6:Zb):List Str:=J6.flatMap fun r=>be ds (r,sg)
theorem tL{ds:List am}{sg J6:Zb}{i:Nat}{r:Str}(h:J6[i]?=some r):cT ds sg (J6.take (i+1))=cT ds sg (J6.take i)++be ds (r,sg):=by
 unfold cT;rw[take_snoc h,List.flatMap_append];simp
theorem pr(ds:List am)(x:Str×List Str):(be ds x).length<=ds.length:=by
 unfold be;rw[aj];exact cC _ _
theorem nK(ds:List am)(sg:Zb):∀J6:List Str,(cT ds sg J6).length<=J6.length * ds.length
 |[]=>eS _
 |r::J6=>by
  show((be ds (r,sg))++cT ds sg J6).length<=(J6.length+1) * ds.length;rw[aU,gZ];have h1:=pr ds (r,sg);have h2:=nK ds sg J6;omega
theorem nG{ds:List am}{sg J6:Zb}{b:Str}:b∈cT ds sg J6↔∃r∈J6,(⟨r,sg,b⟩:am)∈ds:=by
 unfold cT;rw[List.mem_flatMap];constructor
 ·rintro⟨r,hr,h⟩;exact⟨r,hr,gj.mp h⟩
 ·rintro⟨r,hr,h⟩;exact⟨r,hr,gj.mpr h⟩
inductive m7(C:Addr)(vs:List V)(H:Hp)(Q:VK)(E:XK):Prop
 |mk (x t s:Addr) (J6 sg J0 J1 J2:Zb) (ds:List am):(vs=[.ref x,.ref t,.ref s])->(bO C H x J0 J1 J2 ds)->(H t=some (.tup (J6.map V.str)))->(H s=some (.tup (sg.map V.str)))->(sg≠bJ)->(J6.length<=1000)->(∀(t':Addr) (F:Zb) (H':Hp),H' t'=some (.tup ((J2.filter fun r=>decide (r∈F)).map V.str))->(∀w,w∈F↔iu ds (cT ds sg J6) w)->ac H H'->Q (.ref t') H')->m7 C vs H Q E
theorem v3{K:Za}{C hu:Addr}(hhu:∀H,bC K H hu (bJ.map V.str)){sp2:Sp}{vs:List V}{H:Hp}{Q:VK}{E:XK}(h:m7 C vs H Q E):
  lF K (sp_with_still C) C (i5 C) hu sp2 (bh Q) (start lH vs) H:=by
 obtain⟨x,t,s,J6,sg,J0,J1,J2,ds,rfl,M,ht,hs,hne,hz,k⟩:=h;have hdb:∀d∈ds,d.b∈J2:=fun d hd=>(M.ok.good d hd).b;have z4:=M.ok.few;refine⟨_,rfl,jc sg,jc bJ,bN (bC.of hs),bN (hhu _),by rw[bL];decide,by rw[bL];decide,_,rfl,?_⟩;rw[jC,zzr0 hne];refine cr ?_;refine⟨(by show 0<=ai;decide),fun g hg=>?_⟩;refine⟨_,rfl,t,rfl,⟨_,bC.of (kp ht hg)⟩,?_⟩;refine AE (xs:=J6.map V.str) (fun i σ H'=>∃x4:Option V,σ=[some (.ref x),some (.ref t),some (.ref s),some (.ref g),x4]/\H' g=some (.lst ((cT ds sg (J6.take i)).map V.str))/\ac H H')
  ⟨_,rfl,aa,ac.new hg⟩ (fun i σ H' _ ⟨_,_,_,S⟩=>bC.of (S _ _ ht)) ?_ ?_
 ·rintro i y σ H1 hi ⟨x4,rfl,hg1,S1⟩;obtain⟨r,hr,rfl⟩:=bY hi;have M1:=M.same S1;obtain⟨dx,fs,o1,o2,o3,o4,lv,qu,sgA,sl,ts,lps,gps,sps,g1,a1,a2,a3,a4,_⟩:=M1.at_;refine⟨_,rfl,.inl ⟨rfl,_,ax.of hg1⟩,_,rfl,x,dx,fs,rfl,g1,a2,_,rfl,_,rfl,x,s,r,sg,J0,J1,J2,ds,rfl,M1,S1 _ _ hs,fun l H2 hl fr S2=>?_⟩;have hg2:=S2 _ _ hg1;have hlen:((cT ds sg (J6.take i)).map V.str).length+((be ds (r,sg)).map V.str).length<=ai:=by
   rw[aj,aj];have h1:=nK ds sg (J6.take i);have h2:=pr ds (r,sg);have h3:(J6.take i).length * ds.length<=1000 * 1000:=Nat.mul_le_mul (by rw[aD];omega) z4;have:(1001000:Nat)<=ai:=by decide
   omega
  refine⟨g,l,_,_,rfl,rfl,hg2,hl,hlen,_,rfl,?_,?_⟩
  ·rw[aa,tL hr,aw]
  ·intro b o q;rw[ah (ae q hg)];exact S2 _ _ (S1 _ _ q)
 ·rintro σ H1 ⟨x4,rfl,hg1,S1⟩;rw[aj,aZ]at hg1;refine⟨_,rfl,_,rfl,x,g,cT ds sg J6,J0,J1,J2,ds,rfl,M.same S1,hg1,fun w hw=>?_,fun t' F H' h1 h2 S2=>k t' F H' h1 h2 (S1.trans S2)⟩;obtain⟨r,_,h⟩:=nG.mp hw;exact hdb _ h
def vE(K:Za)(sp_with_still:Sp)(C_Machine:Addr)(sp_Machine_rooms:Sp):TS :=
 aW (aR sp_with_still (a_ V0 (xr (nr K) (cA C_Machine "rooms" sp_Machine_rooms [] E0 V0 bF) (c6) (fx (tC (.int 1))))))
def wQ:List Str:=["M"]
inductive bD(C:Addr)(vs:List V)(H:Hp)(Q:VK)(E:XK):Prop
 |mk (x:Addr) (J0 J1 J2:Zb) (ds:List am):(vs=[.ref x])->(bO C H x J0 J1 J2 ds)->(∀(t':Addr) (F:Zb) (H':Hp),H' t'=some (.tup ((J2.filter fun r=>decide (r∈F)).map V.str))->(∀w,w∈F↔iu ds (J2.take 1) w)->ac H H'->Q (.ref t') H')->bD C vs H Q E
theorem tF{K:Za}{C:Addr}{vs:List V}{H:Hp}{Q:VK}{E:XK}(h:bD C vs H Q E):vE K (sp_with_still C) C (kg C) (bh Q) (start wQ vs) H:=by
 obtain⟨x,J0,J1,J2,ds,rfl,M,k⟩:=h;obtain⟨dx,fs,o1,o2,o3,o4,lv,qu,sgA,sl,ts,lps,gps,sps,g1,a1,a2,a3,a4,_⟩:=M.at_;have c1:eN (J2.map V.str) none (some 1)=(J2.take 1).map V.str:=wx J2 1;refine⟨_,rfl,_,rfl,x,dx,fs,rfl,g1,a4,x,J0,J1,J2,ds,rfl,M,fun rl hrl=>⟨_,rfl,rl,_,rfl,ax.of aa,fun l hl=>?_⟩⟩;rw[c1];have S:ac H (upd (upd H rl (.lst (J2.map V.str))) l (.lst ((J2.take 1).map V.str))):=(ac.new hrl).trans (ac.new hl);exact⟨x,l,J2.take 1,J0,J1,J2,ds,rfl,M.same S,aa,fun g hg=>fo hg,fun t' F H' h1 h2 S2=>k t' F H' h1 h2 (S.trans S2)⟩
theorem ww(o:Str)(L:Zb):decide (gl o∈L.map gl)=decide (o∈L):=by
 by_cases c:o∈L
 ·rw[zzr1 (qw.mpr c),zzr1 c]
 ·rw[zzr0 (fun z=>c (qw.mp z)),zzr0 c]
theorem bC.same{K:Za}{H H':Hp}{a:Addr}{xs:List V}(S:ac H H')(h:bC K H a xs):bC K H' a xs:=by
 rcases h with(h|⟨o,h⟩)|h
 ·exact .inl (.inl (S _ _ h))
 ·exact .inl (.inr ⟨o,S _ _ h⟩)
 ·exact .inr h
theorem ax.same{K:Za}{H H':Hp}{a:Addr}{xs:List V}(S:ac H H')(h:ax K H a xs):ax K H' a xs:=by
 rcases h with(h|⟨o,h⟩)|h
 ·exact .inl (.inl (S _ _ h))
 ·exact .inl (.inr ⟨o,S _ _ h⟩)
 ·exact .inr h
mutual
theorem nU.same{K:Za}{H H':Hp}(S:ac H H'):∀{d:DT}{v:V},nU K H d v->nU K H' d v
 |.k a,v,h=>by unfold nU at h ⊢;exact h
 |.t l,v,h=>by
  unfold nU at h ⊢;obtain⟨b,xs,e,q,r⟩:=h;exact⟨b,xs,e,bC.same S q,DIns.same S r⟩
 |.s l,v,h=>by
  unfold nU at h ⊢;obtain⟨b,xs,e,q,r⟩:=h;exact⟨b,xs,e,ax.same S q,DIns.same S r⟩
theorem DIns.same{K:Za}{H H':Hp}(S:ac H H'):∀{ds:List DT}{vs:List V},DIns K H ds vs->DIns K H' ds vs
 |[],vs,h=>by unfold DIns at h ⊢;exact h
 |d::ds,vs,h=>by
  unfold DIns at h ⊢;obtain⟨v,us,e,q,r⟩:=h;exact⟨v,us,e,nU.same S q,DIns.same S r⟩
end
open Classical in
def closF(J2:Zb)(ds:List am)(gs:Zb):List Str:=J2.filter fun r=>decide (iu ds gs r)
open Classical in
theorem ji{J2 F gs:Zb}{ds:List am}(hF:∀w,w∈F↔iu ds gs w):J2.filter (fun r=>decide (r∈F))=closF J2 ds gs:=by
 unfold closF;refine List.filter_congr fun r _=>?_;by_cases c:r∈F
 ·rw[zzr1 c,zzr1 ((hF r).mp c)]
 ·rw[zzr0 c,zzr0 fun z=>c ((hF r).mpr z)]
open Classical in
theorem yf{J2 gs gs':Zb}{ds:List am}(h:∀g,g∈gs↔g∈gs'):closF J2 ds gs=closF J2 ds gs':=by
 have:∀r,iu ds gs r↔iu ds gs' r:=fun r=>⟨fun⟨g,hg,e⟩=>⟨g,(h g).mp hg,e⟩,fun⟨g,hg,e⟩=>⟨g,(h g).mpr hg,e⟩⟩;unfold closF;refine List.filter_congr fun r _=>?_;by_cases c:iu ds gs r
 ·rw[zzr1 c,zzr1 ((this r).mp c)]
 ·rw[zzr0 c,zzr0 fun z=>c ((this r).mpr z)]
theorem k6{J2 gs:Zb}{ds:List am}:∀r∈closF J2 ds gs,r∈J2:=fun r h=>(eU.mp h).1
theorem jh{J2 gs:Zb}{ds:List am}:(closF J2 ds gs).length<=J2.length:=cC _ _
def behF(J2:Zb)(ds:List am)(J6 sg:Zb):List Str:=if sg=bJ then J6.filter (fun r=>decide (r∉fE ds))else closF J2 ds (cT ds sg J6)
theorem sG{J2 J6 sg:Zb}{ds:List am}(hf:∀r∈J6,r∈J2):∀r∈behF J2 ds J6 sg,r∈J2:=by
 intro r h;unfold behF at h;split at h
 ·exact hf r (eU.mp h).1
 ·exact k6 r h
theorem kE{J2 J6 sg:Zb}{ds:List am}(hr:J2.length<=1000)(hf:J6.length<=1000):(behF J2 ds J6 sg).length<=1000:=by
 unfold behF;split
 ·exact aE (cC _ _) hf
 ·exact aE jh hr
theorem CW{J2:Zb}{ds:List am}{fc:Zb}(hfc:∀r∈fc,r∈J2):(fc.filter fun r=>decide (r∈J2.filter (fB ds)))=fc.filter fun r=>decide (r∉fE ds):=by
 refine List.filter_congr fun r hr=>?_;rw[<-y_];cases q:fB ds r with
 |true=>exact zzr1 (eU.mpr ⟨hfc r hr,q⟩)
 |false=>exact zzr0 (fun z=>by rw[(eU.mp z).2]at q;cases q)
inductive qq(K:Za)(C:Addr)(vs:List V)(H:Hp)(Q:VK)(E:XK):Prop
 |mk (x t s:Addr) (J6 sg J0 J1 J2:Zb) (ds:List am):(vs=[.ref x,.ref t,.ref s])->(bO C H x J0 J1 J2 ds)->(H t=some (.tup (J6.map V.str)))->(bC K H s (sg.map V.str))->((sg=bJ∨H s=some (.tup (sg.map V.str))))->((∀r∈J6,r∈J2))->(J6.length<=1000)->(∀(t':Addr) (H':Hp),H' t'=some (.tup ((behF J2 ds J6 sg).map V.str))->ac H H'->Q (.ref t') H')->qq K C vs H Q E
theorem EC{K:Za}{C hu:Addr}(hhu:∀H,bC K H hu (bJ.map V.str)){vs:List V}{H:Hp}{Q:VK}{E:XK}(h:qq K C vs H Q E):
  lF K (sp_with_still C) C (i5 C) hu (iA C) (bh Q) (start lH vs) H:=by
 obtain⟨x,t,s,J6,sg,J0,J1,J2,ds,rfl,M,ht,hs,hor,hsub,hz,k⟩:=h;by_cases hh:sg=bJ;rotate_left
 ·refine v3 (E:=E) hhu ⟨x,t,s,J6,sg,J0,J1,J2,ds,rfl,M,ht,hor.resolve_left hh,hh,hz,fun t' F H' h1 hF S=>k t' H' ?_ S⟩;rw[h1,ji hF];unfold behF;rw[if_neg hh]
 subst hh;refine⟨_,rfl,jc bJ,jc bJ,bN hs,bN (hhu _),by rw[bL];decide,by rw[bL];decide,_,rfl,?_⟩;rw[zzr1 rfl];refine cJ ?_;refine⟨_,rfl,t,rfl,⟨_,bC.of ht⟩,fun f hf=>?_⟩;refine ya (xs:=J6.map V.str) (fun i vs H'=>vs=((J6.take i).filter fun r=>decide (r∈J2.filter (fB ds))).map V.str/\ac H H'/\H' f=some (.lst vs)) ⟨rfl,ac.new hf,aa⟩ (fun i vs H' _ ⟨_,S,h'⟩=>⟨h',bC.of (S _ _ ht)⟩) ?_ ?_
 ·rintro vs H' ⟨rfl,S,f'⟩;rw[aj,aZ]at f';refine⟨f,_,rfl,.inl ⟨ax.of f',fun t' ht'=>k t' _ ?_ (S.trans (ac.new ht'))⟩⟩;rw[aa,CW hsub];unfold behF;rw[if_pos rfl]
 ·rintro i vs H' x' hx' hi ⟨rfl,S,f'⟩;obtain⟨r,hr,rfl⟩:=bY hx';have M':=M.same S;obtain⟨dx,fs,o1,o2,o3,o4,lv,qu,sgA,sl,ts,lps,gps,sps,g1,a1,_⟩:=M'.at_;refine gN ?_;refine⟨_,rfl,x,dx,fs,rfl,g1,a1,_,rfl,x,r,J0,J1,J2,ds,rfl,M',_,rfl,?_⟩;have hlen:(((J6.take i).filter fun r=>decide (r∈J2.filter (fB ds))).map V.str).length<ai:=by
   rw[aj];refine ar (aE (cC _ _) ?_);rw[aD];omega
  refine kr (fun hq=>?_) (fun hq=>?_)
  ·refine⟨_,rfl,f',hlen,nV hi ⟨?_,?_,aa⟩⟩
   ·rw[bP hr,if_pos hq,aw];rfl
   ·intro b o q;rw[ah (ae q hf)];exact S _ _ q
  ·refine nV hi ⟨?_,S,f'⟩;rw[bP hr,if_neg hq,ei]
theorem Bj{J0 J1 J2:Zb}{dr:am}(g:DV J0 J1 J2 dr):∃s0 rest,dr.sg=s0::rest/\(!decide (V.str s0=V.str ("ask":Str)))=!ky dr:=by
 obtain⟨s0,rest,hsg⟩:∃s0 rest,dr.sg=s0::rest:=by
  rcases g.sg with⟨w,_,e⟩|⟨w,_,e⟩|e<;>exact⟨_,_,e⟩
 refine⟨s0,rest,hsg,?_⟩;unfold ky;rw[hsg];congr 1;show _=decide (s0=("ask":Str));by_cases c:s0=("ask":Str)
 ·rw[zzr1 c,zzr1 (by rw[c])]
 ·rw[zzr0 c,zzr0 (fun z=>c (by injection z))]
inductive vW(K:Za)(vs:List V)(H:Hp)(Q:VK)(E:XK):Prop
 |mk (t ft s l1 l2 l3 l4:Addr) (ts:Ze) (J0 J1 J2 J6 sg:Zb) (ds:List am):(vs=[.ref t,.ref ft,.ref s])->(iR H t l1 l2 l3 l4 ts J0 J1 J2 ds)->(b9 J0 J1 J2 ds)->(H ft=some (.tup (J6.map V.str)))->(bC K H s (sg.map V.str))->(J6.length<=1000)->(∀(t':Addr) (H':Hp),H' t'=some (.tup ((behF J2 ds J6 sg).map V.str))->ac H H'->Q (.ref t') H')->vW K vs H Q E
abbrev kG(H:Hp)(us:Ze)(L:List (List Str)):Prop:=Paired (SignAt H) us L
theorem kG.kt{H H':Hp}{us:Ze}{L:List (List Str)}(k:ig H H')(h:kG H us L):kG H' us L:=Paired.mapP h fun _ _ r=>k _ _ r
def bH(J0 J1:Zb):List (List Str):=J0.map dW++J1.map dF++[bJ]
theorem jE{K:Za}{σ:L2.St}{H:Hp}{a l:Addr}{ws:Zb}{kd:Str}{Q:Hp->Prop}(ha:H a=some (.lst (ws.map V.str)))(hz:ws.length<=1000)(hl:H l=none)
  (k:∀(us:Ze) (H':Hp),H' l=some (.lst (us.map V.ref))->kG H' us (ws.map fun w=>[kd,w])->ac H H'->Q H') :
  du 1 [] σ (Ea K a) U0 iN (bZ (a_ (tC (.str kd)) V0)) H l Q:=by
 refine cu (xs:=ws.map V.str) (fun i vs H'=>∃us:List Addr,vs=us.map V.ref/\ac H H'/\H' l=some (.lst vs)/\kG H' us ((ws.take i).map fun w=>[kd,w])) ⟨[],rfl,ac.new hl,aa,.nil⟩ (fun i vs H' _ ⟨_,_,S,h',_⟩=>⟨h',ax.of (S _ _ ha)⟩) ?_ ?_
 ·rintro vs H' ⟨us,rfl,S,h',hP⟩;rw[aj,aZ]at hP;exact k us H' h' hP S
 ·rintro i vs H' x' hx' hi ⟨us,rfl,S,f',hP⟩;obtain⟨w,hw,rfl⟩:=bY hx';refine gN (sQ ?_);refine⟨_,rfl,(by show 2<=ai;decide),fun u hu=>⟨kp f' hu,?_,nV hi ⟨us++[u],by rw[aw];rfl,?_,aa,?_⟩⟩⟩
  ·rw[aj,Paired.length hP,aj,aD];exact ar (by omega)
  ·intro b o q;rw[ah (ae q hl)];exact kp (S _ _ q) hu
  ·rw[take_snoc hw,aw];have hk:ig H' (upd (upd H' u (.tup [.str kd,.str w])) l (.lst (us.map V.ref++[.ref u]))):=(ac.kt (ac.new hu)).trans (eM (kp f' hu));exact gq (kG.kt hk hP) ((eM (kp f' hu)) _ _ aa)
theorem mm(xs:List V)(k:Nat):eN xs (some (k:Int)) none=xs.drop k:=by
 unfold eN;rw[HT.sIx_none,HT.sIx_nat,qK (by rw[eK];omega)];by_cases h:k<=xs.length
 ·rw[uP h]
 ·rw[Nat.min_eq_right (by omega),nZ (by simp),nZ (by omega)]
theorem Paired.takeP{α β:Type}{R:α->β->Prop}:∀(n:Nat) {xs:List α}{ys:List β},Paired R xs ys->Paired R (xs.take n) (ys.take n)
 |0,_,_,_=>by rw[uM,uM];exact .nil
 |_+1,_,_,.nil=>.nil
 |n+1,_,_,.cons r t=>.cons r (Paired.takeP n t)
theorem Paired.dropP{α β:Type}{R:α->β->Prop}:∀(n:Nat) {xs:List α}{ys:List β},Paired R xs ys->Paired R (xs.drop n) (ys.drop n)
 |0,_,_,h=>h
 |_+1,_,_,.nil=>.nil
 |n+1,_,_,.cons r t=>Paired.dropP n t
def rp(K:Za):TS :=
 aW (im (dR K) (aH (hC K V0 "own_asks")))
def sM:List Str:=["self"]
def rm(K:Za):TS :=
 aW (im (dR K) (aH (hC K V0 "own_says")))
def sL:List Str:=["self"]
theorem rF{C x:Addr}{H:Hp}{J0 J1 J2:Zb}{ds:List am}(h:bO C H x J0 J1 J2 ds):∃(dx:Addr) (fs:List (Str×V)) (o1 o2 lv:Addr) (lps:List (Str×Addr)),H x=some (.ins C dx fs)/\lk "asks" fs=none/\lk "says" fs=none/\lk "doors_from" fs=none/\lk "is_quiet" fs=none/\lk "own_asks" fs=some (.ref o1)/\lk "own_says" fs=some (.ref o2)/\lk "leaving" fs=some (.ref lv) /\
  H o1=some (.lst (J0.map V.str))/\H o2=some (.lst (J1.map V.str))/\lps.map (·.1)=J2/\H lv=some (.dK (dj Sum.inr lps))/\(∀x∈lps,∃us,H x.2=some (.lst (us.map V.ref))/\dY H us (b0 ds x.1)):=by
 obtain⟨dx,fs,o1,o2,o3,o4,lv,qu,sg,sl,ts,lps,gps,sps,g1,a1,a2,a3,a4,b1,b2,b3,b4,b5,b6,b7,b8,L,c1,c2,c3,c4,G,d1,d2,d3⟩:=h.at_;obtain⟨dx',fs',g1',e1,e2,e3,e4⟩:=h.more;rw[g1]at g1';cases g1';exact⟨dx,fs,o1,o2,lv,lps,g1,e1,e2,e4,a1,b1,b2,b5,L.a1,L.a2,c1,c2,c3⟩
inductive qr(C:Addr)(vs:List V)(H:Hp)(Q:VK)(E:XK):Prop
 |mk (x:Addr) (J0 J1 J2:Zb) (ds:List am):(vs=[.ref x])->(bO C H x J0 J1 J2 ds)->(∀l,H l=none->Q (.ref l) (upd H l (.lst (J0.map V.str))))->qr C vs H Q E
theorem EE{K:Za}{C:Addr}(M:MC K C){vs:List V}{H:Hp}{Q:VK}{E:XK}(h:qr C vs H Q E):rp K (bh Q) (start sM vs) H:=by
 obtain⟨x,J0,J1,J2,ds,rfl,h,k⟩:=h;obtain⟨dx,fs,o1,o2,lv,lps,g1,a1,a2,a3,a4,b1,b2,b3,c1,c2,_⟩:=rF h;exact⟨_,rfl,x,C,dx,fs,.ref o1,rfl,g1,M.cls,M.a1,b1,.inl ⟨o1,_,rfl,.inl (ax.of c1),k⟩⟩
inductive mU(C:Addr)(vs:List V)(H:Hp)(Q:VK)(E:XK):Prop
 |mk (x:Addr) (J0 J1 J2:Zb) (ds:List am):(vs=[.ref x])->(bO C H x J0 J1 J2 ds)->(∀l,H l=none->Q (.ref l) (upd H l (.lst (J1.map V.str))))->mU C vs H Q E
theorem Ev{K:Za}{C:Addr}(M:MC K C){vs:List V}{H:Hp}{Q:VK}{E:XK}(h:mU C vs H Q E):rm K (bh Q) (start sL vs) H:=by
 obtain⟨x,J0,J1,J2,ds,rfl,h,k⟩:=h;obtain⟨dx,fs,o1,o2,lv,lps,g1,a1,a2,a3,a4,b1,b2,b3,c1,c2,_⟩:=rF h;exact⟨_,rfl,x,C,dx,fs,.ref o2,rfl,g1,M.cls,M.a2,b2,.inl ⟨o2,_,rfl,.inl (ax.of c2),k⟩⟩

mutual
def DT.sm:DT->Bool
 |.k _=>true
 |.t l=>decide (l.length<=1000000) && DT.sms l
 |.s l=>decide (l.length<=1000000) && DT.sms l
def DT.sms:List DT->Bool
 |[]=>true
 |a::r=>DT.sm a && DT.sms r
end

open Classical in
def oo(K:Za)(C_Machine:Addr)(sp_Machine_asks:Sp)(sp_Machine_says:Sp)(a_HUSH:Addr):TS :=
 aW (aI md (aI md (cB 1 [] (bU K (cA C_Machine "asks" sp_Machine_asks [] E0 V0 bF)) U0 (iN) (bZ (a_ (tC (.str "ask")) V0))) (cB 1 [] (bU K (cA C_Machine "says" sp_Machine_says [] E0 V0 bF)) U0 (iN) (bZ (a_ (tC (.str "say")) V0)))) (dQ (aH (tC (.ref a_HUSH)))))
def oW:List Str:=["M"]
def yI(K:Za)(sp_signs_in_order:Sp)(sp_face_behind:Sp):TS :=
 aq (aJ (l9) U2)
 (aq (fz (bU K (aR sp_signs_in_order (aH V0))) U3 (aq (aJ (aR sp_face_behind (dz V0 V1 V3)) U4)
 (dA (ba (aI EH (im (ko K) (aH V4)) (tC (.int 0)))) (CC K V2 V3 V4) (bR))))
 (aW V2))
def zR:List Str:=["M","face","steps","sign","behind"]
abbrev Sg:=List Str
def stepsF(J0 J1 J2:Zb)(ds:List am)(J6:Zb):List (Sg×List Str):=((bH J0 J1).map fun sg=>(sg,behF J2 ds J6 sg)).filter fun p=>decide (p.2≠[])
structure FMs where
 fs:List (List Str)
 ss:List (List Sg)
abbrev FMst:=FMs×List (List (Sg×Nat))
def Fi(hu:Addr)(H:Hp)(u:Addr)(sg:Zb):Prop:=H u=some (.tup (sg.map V.str))∨(u=hu/\sg=bJ)
theorem Fi.same{hu:Addr}{H H':Hp}{u:Addr}{sg:Zb}(h:Fi hu H u sg)(S:ac H H'):Fi hu H' u sg:=h.imp (S _ _) id
theorem qj{K:Za}{a:Addr}{xs:List V}(h:∀H,bC K H a xs)(H:Hp):cN K H a xs:=by
 rcases h (fun _=>none)with(h|⟨o,h⟩)|h
 ·cases h
 ·cases h
 ·exact .inr h
section
variable{K:Za}{hu:Addr}(hh:∀H,bC K H hu (bJ.map V.str))
include hh
theorem Fi.tup{H:Hp}{u:Addr}{sg:Zb}(h:Fi hu H u sg):cN K H u (sg.map V.str):=by
 rcases h with h|⟨rfl,rfl⟩
 ·exact .inl h
 ·exact qj hh H
theorem Fi.sq{H:Hp}{u:Addr}{sg:Zb}(h:Fi hu H u sg):bC K H u (sg.map V.str):=by
 rcases h with h|⟨rfl,rfl⟩
 ·exact bC.of h
 ·exact hh H
end
inductive vT(C hu:Addr)(vs:List V)(H:Hp)(Q:VK)(E:XK):Prop
 |mk (x:Addr) (J0 J1 J2:Zb) (ds:List am):(vs=[.ref x])->(bO C H x J0 J1 J2 ds)->(∀(l:Addr) (us:Ze) (H':Hp),H' l=some (.lst (us.map V.ref))->Paired (Fi hu H') us (bH J0 J1)->ac H H'->Q (.ref l) H')->vT C hu vs H Q E
theorem FO{K:Za}{C hu:Addr}{vs:List V}{H:Hp}{Q:VK}{E:XK}(h:vT C hu vs H Q E):oo K C (qr C) (mU C) hu (bh Q) (start oW vs) H:=by
 obtain⟨x,J0,J1,J2,ds,rfl,M,k⟩:=h;have z1:=M.ok.asks4;have z2:=M.ok.says4;obtain⟨dx,fs,o1,o2,lv,lps,g1,a1,a2,_⟩:=rF M;refine⟨_,rfl,x,dx,fs,rfl,g1,a1,x,J0,J1,J2,ds,rfl,M,fun w1 hw1=>⟨w1,rfl,⟨_,ax.of aa⟩,fun la hla=>?_⟩⟩;have S0:ac H (upd H w1 (.lst (J0.map V.str))):=ac.new hw1;refine jE (kd:="ask") (ws:=J0) aa (by omega) hla fun ua H1 h1 hP1 S1=>?_;have M1:=M.same (S0.trans S1);obtain⟨dx,fs,o1,o2,lv,lps,g1,a1,a2,_⟩:=rF M1;refine⟨_,rfl,x,dx,fs,rfl,g1,a2,x,J0,J1,J2,ds,rfl,M1,fun w2 hw2=>⟨w2,rfl,⟨_,ax.of aa⟩,fun ls hls=>?_⟩⟩;have S2:ac H1 (upd H1 w2 (.lst (J1.map V.str))):=ac.new hw2;refine jE (kd:="say") (ws:=J1) aa (by omega) hls fun us H2 h2 hP2 S3=>?_;have S23:=S2.trans S3;have h12:=S23 _ _ h1;have hP12:=kG.kt (ac.kt S23) hP1;refine⟨la,ls,_,_,rfl,rfl,h12,h2,?_,fun c1 hc1=>?_⟩
 ·rw[aj,aj,Paired.length hP1,Paired.length hP2,aj,aj];exact cL (ar (by omega))
 refine⟨(by show 1<=ai;decide),fun hl hhl=>?_⟩;refine⟨c1,hl,_,_,rfl,rfl,kp aa hhl,aa,?_,fun r hr=>?_⟩
 ·rw[aU,aj,aj,Paired.length hP1,Paired.length hP2,aj,aj];exact cL (ar (by show _+1<=1000;omega))
 have S4:=((ac.new (o:=.lst (ua.map V.ref++us.map V.ref)) hc1).trans (ac.new (o:=.lst [.ref hu]) hhl)).trans (ac.new (o:=.lst (ua.map V.ref++us.map V.ref++[.ref hu])) hr);refine k r (ua++us++[hu]) _ ?_ ?_ (((S0.trans S1).trans S23).trans S4)
 ·rw[aa,aw,aw];rfl
 ·exact Paired.app (Paired.app (Paired.mapP (kG.kt (ac.kt S4) hP12) fun _ _ r=>.inl r) (Paired.mapP (kG.kt (ac.kt S4) hP2) fun _ _ r=>.inl r)) (.cons (.inr ⟨rfl,rfl⟩) .nil)
theorem r_{J0 J1 J2:Zb}{ds:List am}(m:b9 J0 J1 J2 ds):(bH J0 J1).Nodup:=by
 unfold bH;have i1:∀a b:Str,dW a=dW b->a=b:=fun a b h=>by unfold dW at h;injection h with _ h;injection h
 have i2:∀a b:Str,dF a=dF b->a=b:=fun a b h=>by unfold dF at h;injection h with _ h;injection h
 have nd:∀{f:Str->List Str}{l:Zb},(∀a b,f a=f b->a=b)->l.Nodup->(l.map f).Nodup:=by
  intro f l hf hl;rw[uN,List.pairwise_map];exact(uN.1 hl).imp fun h e=>h (hf _ _ e)
 rw[cZ,cZ];refine⟨⟨nd i1 m.okA.1,nd i2 m.okS.1,?_⟩,by simp,?_⟩
 ·intro x hx y hy e;obtain⟨a,_,rfl⟩:=aM.1 hx;obtain⟨b,_,rfl⟩:=aM.1 hy;unfold dW dF at e;injection e with e _;exact absurd e (by decide)
 ·intro x hx y hy e;rw[fN.1 hy]at e;rcases bw.1 hx with hx|hx
  ·obtain⟨a,_,rfl⟩:=aM.1 hx;unfold dW bJ at e;injection e with _ e;cases e
  ·obtain⟨a,_,rfl⟩:=aM.1 hx;unfold dF bJ at e;injection e with _ e;cases e
abbrev kF(H:Hp)(kvs:List (TK×V))(L:List (Sg×List Str)):Prop:=Paired (fun(kv:TK×V) (p:Sg×List Str)=>kv.1=fg p.1/\∃u,kv.2=.ref u/\H u=some (.tup (p.2.map V.str))) kvs L
theorem Eg{κ:Type}[DecidableEq κ]{kvs:List (κ×V)}{k:κ}(h:∀kv∈kvs,kv.1≠k):aY kvs k=none:=by
 unfold aY;rw[List.find?_eq_none.2 fun kv hkv=>by simpa using h kv hkv]
 rfl
theorem ef(sg:Zb):(fg sg).depth<=8:=by
 have:∀l:List Str,TK.depths (l.map m_)=0:=by
  intro l
  induction l with
  |nil=>rfl
  |cons a l ih=>show max (TK.depth (m_ a)) (TK.depths _)=0;rw[ih];rfl
 show TK.depths (sg.map m_)+1<=8;rw[this];decide
def stG(J2:Zb)(ds:List am)(J6:Zb)(L:List (List Str)):List (Sg×List Str):=(L.map fun sg=>(sg,behF J2 ds J6 sg)).filter fun p=>decide (p.2≠[])
theorem xA(J2:Zb)(ds:List am)(J6:Zb)(L:List (List Str))(sg:Zb):stG J2 ds J6 (L++[sg])=stG J2 ds J6 L++if behF J2 ds J6 sg=[]then[]else[(sg,behF J2 ds J6 sg)]:=by
 unfold stG;rw[aw,g6];congr 1;by_cases c:behF J2 ds J6 sg=[]
 ·rw[if_pos c];simp[c]
 ·rw[if_neg c];simp[c]
theorem Ep{J2:Zb}{ds:List am}{J6:Zb}{L:List (List Str)}{p:Sg×List Str}(h:p∈stG J2 ds J6 L):p.1∈L:=by
 obtain⟨sg,hs,rfl⟩:=aM.1 (eU.1 h).1;exact hs
theorem Er{J2:Zb}{ds:List am}{J6:Zb}{L:List (List Str)}:(stG J2 ds J6 L).length<=L.length:=by
 unfold stG;exact aE (cC _ _) (by rw[aj];exact ay _)
theorem kF.kt{H H':Hp}{kvs:List (TK×V)}{L:List (Sg×List Str)}(k:ig H H')(h:kF H kvs L):kF H' kvs L:=Paired.mapP h fun _ _ ⟨e,u,e2,r⟩=>⟨e,u,e2,k _ _ r⟩
theorem kF.no{H:Hp}{kvs:List (TK×V)}{L:List (Sg×List Str)}(h:kF H kvs L){sg:Sg}(n:∀p∈L,p.1≠sg):aY kvs (fg sg)=none:=by
 refine Eg ?_
 induction h with
 |nil=>intro kv hk;exact nomatch hk
 |@cons a b as bs r t ih =>
  intro kv hk;rcases cc.1 hk with rfl|hk
  ·rw[r.1];exact fun e=>n b dE (fF e)
  ·exact ih (fun p hp=>n p (dD _ hp)) kv hk
theorem wf{α:Type}{L:List α}(nd:L.Nodup){i:Nat}{x:α}(e:L[i]?=some x):¬x∈L.take i:=by
 intro h;obtain⟨j,hj,ej⟩:=List.getElem_of_mem h;rw[aD]at hj;have hi:i<L.length:=by rcases Nat.lt_or_ge i L.length with z|z;exact z;rw[u4 z]at e;cases e
 rw[List.getElem_take]at ej;rw[eB hi]at e;injection e with e;exact List.pairwise_iff_getElem.1 (uN.1 nd) j i (by omega) hi (by omega) (ej.trans e.symm)
theorem Gd{H:Hp}{d:Addr}{kvs:List (TK×V)}{o:HO}(h:H d=some (.dT kvs)):ig H (upd H d o):=fun b xs e=>by rw[ah (fun z=>by rw[z,h]at e;cases e)];exact e
theorem ifQ{b:Bool}{P X Y:Prop}(h:b=true↔P)(h1:P->X)(h2:¬P->Y):if b=true then X else Y:=by
 cases b with
 |true=>exact h1 (h.1 rfl)
 |false=>exact h2 fun z=>by cases h.2 z
inductive js(C:Addr)(vs:List V)(H:Hp)(Q:VK)(E:XK):Prop
 |mk (x t:Addr) (J6 J0 J1 J2:Zb) (ds:List am):(vs=[.ref x,.ref t])->(bO C H x J0 J1 J2 ds)->(H t=some (.tup (J6.map V.str)))->((∀r∈J6,r∈J2))->(J6.length<=1000)->(∀(d:Addr) (kvs:List (TK×V)) (H':Hp),H' d=some (.dT kvs)->kF H' kvs (stepsF J0 J1 J2 ds J6)->H d=none->ac H H'->Q (.ref d) H')->js C vs H Q E
theorem y0{K:Za}{C hu:Addr}(hh:∀H,bC K H hu (bJ.map V.str)){vs:List V}{H:Hp}{Q:VK}{E:XK}(h:js C vs H Q E):yI K (vT C hu) (qq K C) (bh Q) (start zR vs) H:=by
 obtain⟨x,t,J6,J0,J1,J2,ds,rfl,M,ht,hsub,hz,k⟩:=h;have z1:=M.ok.asks4;have z2:=M.ok.says4;have zl:(bH J0 J1).length<=9:=by unfold bH;rw[aU,aU,aj,aj];show _+1<=9;omega
 have nd:=r_ M.ok;refine fun d hd=>?_;have S0:ac H (upd H d (.dT [])):=ac.new hd;refine⟨_,rfl,x,J0,J1,J2,ds,rfl,M.same S0,fun l us H1 hl hP S1=>⟨l,rfl,⟨_,ax.of hl⟩,?_⟩⟩;refine cn (xs:=us.map V.ref) (fun i σ H'=>Hn fun(kvs:List (TK×V)) (x3 x4:Option V)=>Ho (σ=[some (.ref x),some (.ref t),some (.ref d),x3,x4]) (H' d=some (.dT kvs)) (ac H H') ((∀b o,H1 b=some o->b≠d->H' b=some o)) (kF H' kvs (stG J2 ds J6 ((bH J0 J1).take i))))
  ⟨[],_,_,rfl,S1 _ _ aa,S0.trans S1,fun _ _ e _=>e,.nil⟩ (fun i σ H' _ ⟨_,_,_,_,_,_,S,_⟩=>ax.of (S _ _ hl fun e=>by subst e;have:=S1 _ _ (aa (H:=H) (a:=l) (o:=.dT []));rw[hl]at this;cases this)) ?_ ?_
 ·rintro i y σ H2 hi ⟨kvs,x3,x4,rfl,h2,S2,S12,st⟩;obtain⟨u,hu',rfl⟩:=cf hi;obtain⟨sg,hsg,hat⟩:=Paired.getL hP hu';have hat2:Fi hu H2 u sg:=hat.imp (fun e=>S12 _ _ e fun z=>by subst z;have:=S1 _ _ (aa (H:=H) (a:=u) (o:=.dT []));rw[e]at this;cases this) id;refine⟨_,rfl,_,rfl,_,rfl,x,t,u,J6,sg,J0,J1,J2,ds,rfl,M.same S2,S2 _ _ ht,hat2.sq hh,hat2.symm.imp (fun e=>e.2) id,hsub,hz,fun f H3 hf S3=>?_⟩;have h3:=S3 _ _ h2;refine⟨_,rfl,.inl ⟨f,_,rfl,.inr (bC.of hf),_,_,rfl,rfl,?_⟩⟩;refine⟨_,rfl,?_⟩;have hat3:=hat2.same S3;have S13:∀b o,H1 b=some o->b≠d->H3 b=some o:=fun b o e n=>S3 _ _ (S12 b o e n);have st3:=st.kt (ac.kt S3);refine ifQ (P:=behF J2 ds J6 sg≠[]) ?_ (fun c=>?_) (fun c=>?_)
  ·rw[aj];constructor
   ·intro h z;rw[z]at h;exact absurd h (by decide)
   ·intro h;exact zzr1 (by have:=List.length_pos_iff.mpr h;omega)
  rotate_left
  ·have c:=Classical.not_not.1 c;refine⟨kvs,_,_,rfl,h3,S2.trans S3,S13,?_⟩;rw[take_snoc hsg,xA,if_pos c,ei];exact st3
  ·have no:aY kvs (fg sg)=none:=st3.no fun p hp e=>by
    have h1:=Ep hp;rw[e]at h1;exact wf nd hsg h1
   have ll:kvs.length<ai:=by
    rw[Paired.length st];refine ar ?_;have h1:=Er (J2:=J2) (ds:=ds) (J6:=J6) (L:=(bH J0 J1).take i);rw[aD]at h1;omega
   refine⟨_,rfl,_,rfl,_,rfl,d,u,kvs,fg sg,rfl,rfl,h3,Cu (hat3.tup hh),ef sg,ll,_,_,_,rfl,aa,?_,?_,?_⟩
   ·intro b o e;rw[ah (ae e hd)];exact S3 _ _ (S2 _ _ e)
   ·intro b o e n;rw[ah n];exact S13 b o e n
   ·rw[hZ _ no,take_snoc hsg,xA,if_neg c];have kt:ig H3 (upd H3 d (.dT (kvs++[(fg sg,.ref f)]))):=Gd h3;exact gq (st3.kt kt) ⟨rfl,f,rfl,kt _ _ hf⟩
 ·rintro σ H2 ⟨kvs,x3,x4,rfl,h2,S2,_,st⟩;rw[aj,Paired.length hP,aZ]at st;exact⟨_,rfl,k d kvs H2 h2 st hd S2⟩
abbrev dJ(K:Za)(H:Hp)(w:Addr)(s:List Sg):Prop:=∃gs:List Addr,H w=some (.lst (gs.map V.ref))/\Paired (fun g (sg:Sg)=>cN K H g (sg.map V.str)) gs s
theorem cN.kt{K:Za}{H H':Hp}{a:Addr}{xs:List V}(k:ig H H')(h:cN K H a xs):cN K H' a xs:=h.keeps k
theorem dJ.kt{K:Za}{H H':Hp}{w:Addr}{s:List Sg}(k:ig H H')(e:∀o,H w=some o->H' w=some o)(h:dJ K H w s):dJ K H' w s:=by
 obtain⟨gs,h1,h2⟩:=h;exact⟨gs,e _ h1,Paired.mapP h2 fun _ _ r=>cN.kt k r⟩
theorem ub{K:Za}{H:Hp}:∀{sg:Zb}{xs:List V},TKCs K H (sg.map m_) xs->xs=sg.map V.str
 |[],xs,h=>by rw[vf]at h;unfold TKCs at h;exact h
 |s::sg,xs,h=>by
  rw[bm]at h;unfold TKCs at h;obtain⟨v,us,rfl,h1,h2⟩:=h;unfold m_ pD at h1;rw[h1,ub h2]
  rfl
theorem Cr{K:Za}{H:Hp}{sg:Zb}{a:V}(h:pD K H (fg sg) a):∃b,a=.ref b/\cN K H b (sg.map V.str):=by
 unfold fg pD at h;obtain⟨b,xs,rfl,h1,h2⟩:=h;rw[ub h2]at h1;exact⟨b,rfl,h1⟩
theorem preSum_eq{α:Type}(c:List (α×Int))(val:Nat->Int)(hv:∀(i:Nat) p,c[i]?=some p->val i=p.2):preSum val c.length=(c.map (·.2)).sum:=by
 have key:∀j,j<=c.length->preSum val j=((c.take j).map (·.2)).sum:=by
  intro j
  induction j with
  |zero=>intro _;rfl
  |succ j ih =>
   intro h;have hp:c[j]?=some c[j]:=eB (by omega);rw[take_snoc hp,aw,List.sum_append];show preSum val j+val j=_;rw[ih (by omega),hv j _ hp];simp
 have:=key c.length (ay _);rw[aZ]at this;exact this
theorem Af{K:Za}{H:Hp}:∀xs:List Str,TKIns K H (xs.map m_) (xs.map V.str)
 |[]=>by show TKIns K H [] [];unfold TKIns;rfl
 |x::xs=>by
  rw[bm,bm];unfold TKIns;refine⟨_,_,rfl,?_,Af xs⟩;unfold m_ lq
  rfl
theorem cN.sq{K:Za}{H:Hp}{a:Addr}{xs:List V}(h:cN K H a xs):bC K H a xs:=h.imp .inl id
theorem vt{K:Za}{H:Hp}{a:Addr}{f:Zb}(h:cN K H a (f.map V.str)):lq K H (fg f) (.ref a):=by
 unfold fg lq;exact⟨a,_,rfl,cN.sq h,Af f⟩
theorem Paired.rev{α β:Type}{R:α->β->Prop}:∀{a:List α}{b:List β},Paired R a b->Paired R a.reverse b.reverse
 |_,_,.nil=>.nil
 |_,_,.cons r t=>by
  rw[vi,vi];exact Paired.app (Paired.rev t) (.cons r .nil)
theorem BV{k:Nat}{fi:List Nat}{d l:Addr}{o:Obj}{u:HO}{n:Nat}{ent:Nat->Hp->V->V->Prop}{g:TG}{tc:TT}{te:TE}{σ:L2.St}{H1:Hp}{Q:Hp->Prop}(Pv:Nat->List V->Hp->Prop)(h0:Pv 0 [] (upd H1 l (.lst [])))
  (hl:∀i vs H,i<=n->Pv i vs H->H l=some (.lst vs)/\H d=some (.frz o u)) (hd:∀vs H,Pv n vs H->Q H)
  (hs:∀i vs H a b,i<n->Pv i vs H->ent i H a b->g a (c_ k fi σ) H fun σ2 H4=>tc σ2 H4 fun b H5 =>
   if b=true then te σ2 H5 fun v H6=>H6 l=some (.lst vs)/\vs.length<ai/\∃m',m'<n-i/\Wc n Pv (i+1) m' (vs++[v]) (upd H6 l (.lst (vs++[v])))else ∃m',m'<n-i/\Wc n Pv (i+1) m' vs H5) :
  du k fi σ (GA d o u n ent) g tc te H1 l Q:=by
 refine jf n Pv h0 (fun i vs H hi p=>(hl i vs H hi p).1) (fun i vs H hi p=>⟨(hl i vs H (cL hi) p).2,hi⟩) (fun vs H p=>⟨⟨(hl n vs H (ay _) p).2,ay _⟩,hd vs H p⟩) fun i vs H x H3 hi p y=>?_;obtain⟨rfl,b,en⟩:=y;exact hs i vs _ x b hi p en
theorem Paired.mapM{α β:Type}{F G:α->β->Prop}:∀{as:List α}{bs:List β},Paired F as bs->(∀a b,a∈as->F a b->G a b)->Paired G as bs
 |_,_,.nil,_=>.nil
 |_,_,.cons r t,h=>.cons (h _ _ dE r) (Mum.Paired.mapM t fun a b ha=>h a b (dD _ ha))
theorem kF.find{H:Hp}{sg:Sg}:∀{kvs:List (TK×V)}{L:List (Sg×List Str)},kF H kvs L->((∀p∈L,p.1≠sg)/\aY kvs (fg sg)=none)∨∃p∈L,p.1=sg/\∃u,aY kvs (fg sg)=some (.ref u)/\H u=some (.tup (p.2.map V.str))
 |_,_,.nil=>.inl ⟨fun _ h=>(nomatch h),rfl⟩
 |kv::_,p::_,.cons ⟨e,u,e2,hu⟩ t=>by
  by_cases c:p.1=sg
  ·refine .inr ⟨p,dE,c,u,?_,hu⟩;rw[cQ (by rw[e,c]),e2]
  ·rw[cI (fun z=>c (fF (by rw[<-e,z])))];rcases kF.find t with⟨h1,h2⟩|⟨q,hq,h⟩
   ·exact .inl ⟨fun x hx=>(cc.1 hx).elim (fun z=>by rw[z];exact c) (h1 x),h2⟩
   ·exact .inr ⟨q,dD _ hq,h⟩
theorem kF.look{H:Hp}{kvs:List (TK×V)}{J0 J1 J2 f:Zb}{ds:List am}(h:kF H kvs (stepsF J0 J1 J2 ds f)){sg:Sg}(hs:sg∈bH J0 J1):
  (behF J2 ds f sg=[]/\aY kvs (fg sg)=none)∨(behF J2 ds f sg≠[]/\∃u,aY kvs (fg sg)=some (.ref u)/\H u=some (.tup ((behF J2 ds f sg).map V.str))):=by
 rcases kF.find (sg:=sg) h with⟨h1,h2⟩|⟨p,hp,e,u,h1,h2⟩
 ·refine .inl ⟨?_,h2⟩;refine Classical.not_not.1 fun z=>h1 (sg,behF J2 ds f sg) ?_ rfl;exact eU.2 ⟨aM.2 ⟨sg,hs,rfl⟩,zzr1 z⟩
 ·obtain⟨h3,h4⟩:=eU.1 hp;obtain⟨s,_,rfl⟩:=aM.1 h3;cases e;exact .inr ⟨of_decide_eq_true h4,u,h1,h2⟩
def jR(K:Za):TS :=
 aq (ng K V0 V1 "machine")
 (ng K V0 (l9) "known")
def jT:List Str:=["self","M"]
def i3(K:Za)(sp_steps_at:Sp):TS :=
 aq (dA (tB (gK K V1 (hC K V0 "known"))) (jO (hC K V0 "known") V1 (aR sp_steps_at (a_ (hC K V0 "machine") V1))) (bR))
 (aW (kf K (hC K V0 "known") V1))
def jj:List Str:=["self","face"]
def vB(K:Za):TS :=
 dA (DZ (ba (aI Bv V0 (tC (.int 0)))) (ba (aI EH V0 (tC (.int 4))))) (vH) (bR)
def wN:List Str:=["d"]
def A9(K:Za):TS :=
 aq (aJ (tC (.int 1)) U1)
 (aq (fz (bU K V0) U2 (aJ (aI Ai V1 V2) U1))
 (aW V1))
def B6:List Str:=["numbers","whole","number"]
def pM(K:Za)(C_KnownSteps:Addr)(sp_KnownSteps_init:Sp)(C_Machine:Addr)(sp_Machine_says:Sp):TS :=
 aq (ng K V0 (cB 1 [] (bU K (cA C_Machine "says" sp_Machine_says [] E0 V1 bF)) U0 (iN) (bZ (a_ (tC (.str "say")) V0))) "says_signs")
 (aq (ng K V0 (ud C_KnownSteps sp_KnownSteps_init [] E0 (aH V1)) "known_steps")
 (ng K V0 (l9) "known_counts"))
def qb:List Str:=["self","M"]
def mO(K:Za)(C_KnownSteps:Addr)(sp_KnownSteps_steps_from:Sp):TS :=
 aW (cA C_KnownSteps "steps_from" sp_KnownSteps_steps_from [] E0 (hC K V0 "known_steps") (aH V1))
def nT:List Str:=["self","face"]
def pJ(K:Za)(a_HUSH:Addr)(C_Made:Addr)(sp_Made_steps_from:Sp):TS :=
 aq (aJ (cB 1 [] (Dp K (cA C_Made "steps_from" sp_Made_steps_from [] E0 V0 (aH V1))) U0 (ba (aI Bw (aI (pU K) V0 (tC (.int 0))) (tC (.str "ask")))) V0) U2)
 (aW (aI md (cB 1 [0] (bU K V2) U0 (iN) (aI md (dQ (aH V0)) (hC K V1 "says_signs"))) (dQ (ao (aI md (hC K V0 "says_signs") (dQ (aH (tC (.ref a_HUSH))))) bF))))
def p9:List Str:=["self","face","asks"]
def pK(K:Za)(sp_product:Sp)(C_Made:Addr)(sp_Made_count_at:Sp)(sp_Made_steps_from:Sp):TS :=
 aq (aJ (cA C_Made "steps_from" sp_Made_steps_from [] E0 V0 (aH V1)) U4)
 (aW (aR sp_product (ao (cB 1 [0,2,4] (bU K V3) U0 (iN) (cA C_Made "count_at" sp_Made_count_at [] E0 V1 (a_ (vS K V3 V0) (aI nq V2 (tC (.int 1)))))) bF)))
def p_:List Str:=["self","face","d","signs","steps"]
def pL(K:Za)(C_Made:Addr)(sp_Made_kinds_at:Sp)(sp_Made_count_of:Sp):TS :=
 aq (dA (DZ (tB (Cy V1)) (ba (aI Bw V2 (tC (.int 0))))) (aW (tC (.int 1))) (bR))
 (aq (dA (tB (gK K (bZ (a_ V1 V2)) (hC K V0 "known_counts"))) (aq (aJ (cB 1 [1,2,0] (bU K (cA C_Made "kinds_at" sp_Made_kinds_at [] E0 V0 (aH V1))) U0 (iN) (cA C_Made "count_of" sp_Made_count_of [] E0 V3 (dz V1 V2 V0))) U3)
 (jO (hC K V0 "known_counts") (bZ (a_ V1 V2)) (aI em (tC (.int 1)) (im (Ft K) (aH V3))))) (bR))
 (aW (kf K (hC K V0 "known_counts") (bZ (a_ V1 V2)))))
def qa:List Str:=["self","face","d","counts"]
def pG(K:Za)(C_Made:Addr)(sp_Made_init:Sp)(sp_Made_count_at:Sp)(bD:Sp)(sp_need_depth:Sp):TS :=
 aq (df (aR sp_need_depth (aH V1)))
 (aW (cA C_Made "count_at" sp_Made_count_at [] E0 (ud C_Made sp_Made_init [] E0 (aH V0)) (a_ (aR bD (aH V0)) V1)))
def pZ:List Str:=["M","d"]
def sU(K:Za)(sp_law_still_on:Sp):TS :=
 aq (aJ V0 (mj K 4 (ck U3 (ck U4 (ck U5 (ck U6 (ln)))))))
 (aq (dA (ba (aI (xG K) V2 (bZ (aH (tC (.str "hush")))))) (aq (aJ (cB 1 [] (bU K V6) U0 (ba (aI Hi (aI (oH K) (aI (oH K) V0 (tC (.int 1))) (tC (.int 0))) (tC (.str "ask")))) (aI (oH K) V0 (tC (.int 0)))) U7)
 (aW (im (rL K) (aH (cB 1 [7] (EV K V1) U0 (ba (aI (tI K true) V0 V1)) V0))))) (bR))
 (aq (aJ (aR sp_law_still_on (ao V6 (ao (cB 1 [1,2] (bU K V6) U0 (CA (ba (aI (tI K false) (aI (oH K) V0 (tC (.int 0))) V1)) (ba (aI (xG K) (aI (oH K) V0 (tC (.int 1))) V2))) (aI (oH K) V0 (tC (.int 2)))) bF))) U8)
 (aW (im (rL K) (aH (cB 1 [8] (bU K V5) U0 (ba (aI (tI K false) V0 V1)) V0))))))
def tO:List Str:=["told","face","sign","asks","says","rooms","doors","loud","there"]
def xn(K:Za)(sp_law_still_on:Sp):TS :=
 aq (aJ (aR sp_law_still_on (ao (aI (pU K) V0 (tC (.int 3))) (ao (dQ (aH (aI (pU K) (aI (pU K) V0 (tC (.int 2))) (tC (.int 0))))) bF))) U1)
 (aW (im (rL K) (ao (cB 1 [1] (bU K (aI (pU K) V0 (tC (.int 2)))) U0 (ba (aI (tI K false) V0 V1)) V0) bF)))
def yt:List Str:=["told","there"]
def oq(K:Za):TS :=
 aq (aJ (cB 1 [] (bU K (aI (pU K) V0 (tC (.int 1)))) U0 (iN) (bZ (a_ (tC (.str "say")) V0))) U2)
 (aq (dA (tB (Cy V1)) (aW (aI md V2 (dQ (aH (bZ (aH (tC (.str "hush")))))))) (bR))
 (aW (aI md (dQ (aH (bZ (a_ (tC (.str "ask")) V1)))) V2)))
def oX:List Str:=["told","ask","says"]
def xp(K:Za)(sp_law_behind:Sp):TS :=
 aq (dA (tB (gK K (bZ (a_ V2 V3)) V1)) (jO V1 (bZ (a_ V2 V3)) (aR sp_law_behind (dz V0 V2 V3))) (bR))
 (aW (kf K V1 (bZ (a_ V2 V3))))
def yv:List Str:=["told","known","face","sign"]
def xo(K:Za)(sp_law_after:Sp):TS :=
 aW (cB 1 [0,1,2] (bU K (aI (pU K) V0 (tC (.int 0)))) U0 (ba (aI (FR K) (aR sp_law_after (ao V1 (dz V2 V3 (bZ (a_ (tC (.str "ask")) V0))))) (bZ (bF)))) V0)
def yu:List Str:=["told","known","face"]
def xj(K:Za)(sp_law_part_signs:Sp)(sp_law_count:Sp)(sp_law_after:Sp):TS :=
 aq (aJ (dQ (bF)) U5)
 (aq (fz (bU K (aR sp_law_part_signs (a_ V0 V3))) U6 (df (Bg K "list" f_ V5 (ao (aR sp_law_count (ao V0 (ao V1 (a_ (aR sp_law_after (ao V0 (dz V1 V2 V6))) (aI nq V4 (tC (.int 1))))))) bF))))
 (aW V5))
def yo:List Str:=["told","known","face","ask","deep","found","sign"]
def xi(K:Za):TS :=
 aq (aJ (tC (.int 1)) U1)
 (aq (fz (bU K V0) U2 (aJ (aI Ai V1 V2) U1))
 (aW V1))
def yn:List Str:=["numbers","found","number"]
def vD(K:Za)(sp_law_asked:Sp)(sp_law_times:Sp)(sp_law_sizes:Sp):TS :=
 aq (dA (DZ (ba (aI (xG K) V2 (bZ (bF)))) (ba (aI Bw V3 (tC (.int 0))))) (aW (tC (.int 1))) (bR))
 (aq (dA (tB (gK K (bZ (a_ V2 V3)) V1)) (aq (aJ (tC (.int 1)) U4)
 (aq (fz (bU K (aI md (aR sp_law_asked (dz V0 V1 V2)) (dQ (aH (tC .non))))) U5 (aJ (aI em V4 (aR sp_law_times (aH (aR sp_law_sizes (ao V0 (ao V1 (dz V2 V5 V3))))))) U4))
 (jO V1 (bZ (a_ V2 V3)) V4))) (bR))
 (aW (kf K V1 (bZ (a_ V2 V3)))))
def wP:List Str:=["told","known","face","deep","many","ask"]
open Builtin.Int (intBits)
def kindsF(J0 J1 J2:Zb)(ds:List am)(J6:Zb):List (List Sg) :=
 ((J0.filter fun a=>decide (behF J2 ds J6 (dW a)≠[])).map fun a=>dW a::J1.map dF)++[J1.map dF++[bJ]]
def gh(l:List Int):Int:=l.foldl (· * ·) 1
def cntM(J0 J1 J2:Zb)(ds:List am):Nat->List Str->Int
 |0,_=>1
 |d+1,J6=>if J6=[]then 1 else 1+((kindsF J0 J1 J2 ds J6).map fun k=>gh (k.map fun sg=>cntM J0 J1 J2 ds d (behF J2 ds J6 sg))).sum
theorem ye(J0 J1 J2:Zb)(ds:List am):∀d,cntM J0 J1 J2 ds d []=1
 |0=>by unfold cntM;rfl
 |d+1=>by unfold cntM;rw[if_pos rfl]
theorem rQ(l:List Int)(x:Int):gh (l++[x])=gh l * x:=by unfold gh;rw[List.foldl_append];rfl
def bB:Nat->Nat
 |0=>1
 |d+1=>5 * bB d+7
theorem uf{b:Nat}(l:List Int)(h:∀x∈l,intBits x<=b):intBits (gh l)<=1+l.length * b:=by
 have key:∀n,n<=l.length->intBits (gh (l.take n))<=1+n * b:=by
  intro n
  induction n with
  |zero=>intro _;show intBits 1<=1+0 * b;have:intBits 1<=1:=(by decide);omega
  |succ n ih =>
   intro hn;have e:l[n]?=some l[n]:=eB hn;rw[take_snoc e,rQ];have h1:=intBits_mul_le (ih (by omega)) (h l[n] (List.getElem_mem _));rw[gZ];omega
 have:=key l.length (ay _);rw[aZ]at this;exact this
theorem xy{b:Nat}:∀(l:List Int),(∀x∈l,intBits x<=b)->intBits l.sum<=b+l.length
 |[],_=>by show intBits 0<=_;have:intBits 0<=0:=(by decide);omega
 |x::l,h=>by
  rw[qG,fh];have h1:=intBits_add_le (h x dE) (xy l fun y hy=>h y (dD _ hy));omega
theorem ut{J0 J1 J2 J6:Zb}{ds:List am}(h1:J0.length<=4):(kindsF J0 J1 J2 ds J6).length<=5:=by
 unfold kindsF;rw[aU,aj];have:=cC (fun a=>decide (behF J2 ds J6 (dW a)≠[])) J0;show _+1<=5;omega
theorem oM{J0 J1 J2 J6:Zb}{ds:List am}{k:List Sg}(h:k∈kindsF J0 J1 J2 ds J6):k.length=J1.length+1/\∀sg∈k,sg∈bH J0 J1:=by
 unfold kindsF at h;unfold bH;rcases bw.1 h with h|h
 ·obtain⟨a,ha,rfl⟩:=aM.1 h;refine⟨by rw[fh,aj],fun sg hs=>?_⟩;rcases cc.1 hs with rfl|hs
  ·exact de _ (de _ (nX (eU.1 ha).1))
  ·exact de _ (dL _ hs)
 ·rw[fN.1 h];refine⟨by rw[aU,aj];rfl,fun sg hs=>?_⟩;rcases bw.1 hs with hs|hs
  ·exact de _ (dL _ hs)
  ·exact dL _ hs
theorem jg{J0 J1 J2:Zb}{ds:List am}(h1:J0.length<=4)(h2:J1.length<=4):∀(d:Nat) (J6:Zb),intBits (cntM J0 J1 J2 ds d J6)<=bB d
 |0,_=>by unfold cntM bB;decide
 |d+1,J6=>by
  unfold cntM bB;split
  ·have:intBits 1<=1:=by decide
   omega
  ·have hp:∀x∈(kindsF J0 J1 J2 ds J6).map (fun k=>gh (k.map fun sg=>cntM J0 J1 J2 ds d (behF J2 ds J6 sg))),intBits x<=1+5 * bB d:=by
    intro x hx;obtain⟨k,hk,rfl⟩:=aM.1 hx;have:=uf (b:=bB d) (k.map fun sg=>cntM J0 J1 J2 ds d (behF J2 ds J6 sg)) fun y hy=>by
     obtain⟨sg,_,rfl⟩:=aM.1 hy;exact jg h1 h2 d _
    rw[aj,(oM hk).1]at this;have h3:(J1.length+1) * bB d<=5 * bB d:=eo _ (by omega);omega
   have h3:=xy _ hp;rw[aj]at h3;have h4:=ut (J1:=J1) (J2:=J2) (ds:=ds) (J6:=J6) h1;have h5:=intBits_add_le (show intBits (1:Int)<=1 by decide) h3;omega
theorem yj:∀d,d<=4->bB d<=2000:=by
 intro d hd
 match d,hd with
 |0,_=>decide
 |1,_=>decide
 |2,_=>decide
 |3,_=>decide
 |4,_=>decide
inductive sp_product(vs:List V)(H:Hp)(Q:VK)(E:XK):Prop
 |mk (l:Addr) (ns:List Int) (b:Nat):(vs=[.ref l])->(H l=some (.lst (ns.map V.int)))->(∀x∈ns,intBits x<=b)->(b<=10000)->(ns.length<=1000)->(Q (.int (gh ns)) H)->sp_product vs H Q E
theorem ints_get{ns:List Int}{i:Nat}{x:V}(h:(ns.map V.int)[i]?=some x):∃n,ns[i]?=some n/\x=.int n:=by
 rw[cD]at h;obtain⟨n,e,rfl⟩:=nW.1 h;exact⟨n,e,rfl⟩
theorem rJ{K:Za}{vs:List V}{H:Hp}{Q:VK}{E:XK}(h:sp_product vs H Q E):A9 K (bh Q) (start B6 vs) H:=by
 obtain⟨l,ns,b,rfl,hl,hb,b1,z,k⟩:=h;refine⟨_,rfl,l,rfl,⟨_,ax.of hl⟩,?_⟩;refine cn (xs:=ns.map V.int) (fun i σ H'=>∃x2,σ=[some (.ref l),some (.int (gh (ns.take i))),x2]/\H'=H) ⟨_,rfl,rfl⟩ (fun i σ H' _ ⟨_,_,e⟩=>by rw[e];exact ax.of hl) ?_ ?_
 ·rintro i y σ H' hi ⟨x2,rfl,rfl⟩;obtain⟨n,hn,rfl⟩:=ints_get hi;have hi':i<ns.length:=(bQ.1 hn).1;have p:=uf (b:=b) (ns.take i) fun x hx=>hb x (fo hx);rw[aD,uP (by omega)]at p;refine⟨_,rfl,_,rfl,_,_,rfl,rfl,IntMulOk.of_le p (hb n (cw hn)) ?_,?_⟩
  ·have:i * b<=1000 * 10000:=Nat.mul_le_mul (by omega) b1;omega
  ·exact⟨_,by rw[take_snoc hn,rQ];rfl,rfl⟩
 ·rintro σ H' ⟨x2,rfl,rfl⟩;rw[aj,aZ];exact⟨_,rfl,k⟩
theorem CG{K:Za}{vs:List V}{H:Hp}{Q:VK}{E:XK}(h:sp_product vs H Q E):xi K (bh Q) (start yn vs) H:=rJ h
inductive sp_need_depth(vs:List V)(H:Hp)(Q:VK)(E:XK):Prop
 |mk (d:Nat):(vs=[.int (d:Nat)])->(d<=4)->(Q .non H)->sp_need_depth vs H Q E
theorem tE{K:Za}{vs:List V}{H:Hp}{Q:VK}{E:XK}(h:sp_need_depth vs H Q E):vB K (bh Q) (start wN vs) H:=by
 obtain⟨d,rfl,hd,k⟩:=h;refine⟨_,rfl,_,_,rfl,rfl,_,rfl,?_⟩;rw[zzr0 (by omega)];refine cr ⟨_,rfl,_,_,rfl,rfl,_,rfl,?_⟩;rw[zzr0 (by omega)];exact cr k
def GR:HO->Bool
 |.dT _=>false
 |.frz _ _=>false
 |_=>true
def Kp(H H':Hp):Prop:=∀b o,H b=some o->GR o=true->H' b=some o
theorem Kp.trans{H H1 H2:Hp}(a:Kp H H1)(b:Kp H1 H2):Kp H H2:=fun c o e n=>b c o (a c o e n) n
theorem Kp.kt{H H':Hp}(k:Kp H H'):ig H H':=fun b xs e=>k b _ e rfl
theorem ac.kp{H H':Hp}(S:ac H H'):Kp H H':=fun b o e _=>S b o e
theorem Kp.upd{H:Hp}{d:Addr}{o x:HO}(h:H d=some x)(n:GR x=false):Kp H (upd H d o):=fun b u e z=>by
 rw[ah (fun q:b=d=>by rw[q,h]at e;cases e;rw[n]at z;cases z)];exact e
theorem Kp.exB{H H':Hp}{d:Addr}{x:HO}(h:H d=some x)(n:GR x=false)(e:bg d H H'):Kp H H':=fun b u q z=>e b u q fun w=>by
 rw[w,h]at q;cases q;rw[n]at z;cases z
theorem ni{H H':Hp}{d:Addr}{x:HO}(k:∀o,H d=some o->H' d=some o)(h:Rd H d x):Rd H' d x:=h.imp (k _) fun⟨o,e⟩=>⟨o,k _ e⟩
theorem fw{kvs:List (TK×V)}{k:TK}{v:V}(h:aY kvs k=some v):(k,v)∈kvs:=by
 unfold aY at h;obtain⟨p,hp,rfl⟩:=nW.1 h;have h1:=List.mem_of_find?_eq_some hp;have h2:decide (p.1=k)=true:=by have:=List.find?_some hp;exact this
 rw[<-of_decide_eq_true h2];exact h1
def Gr(kv kv':List (TK×V)):Prop:=∀k v,aY kv k=some v->aY kv' k=some v
theorem Gr.refl(kv:List (TK×V)):Gr kv kv:=fun _ _ h=>h
theorem Gr.trans{a b c:List (TK×V)}(h:Gr a b)(k:Gr b c):Gr a c:=fun x v e=>k x v (h x v e)
theorem Gr.snoc{kv:List (TK×V)}{k:TK}{v:V}(h:aY kv k=none):Gr kv (kv++[(k,v)]):=fun x w e=>by
 rw[<-hZ v h,g_,if_neg (fun z=>by rw[z,h]at e;cases e)];exact e
structure KC(K:Za)(C:Addr):Prop where
 cls:AW K C
 a1:db K C "machine"
 a2:db K C "known"
structure Gp(Cm Ck:Addr)(H0:Hp)(y M kd:Addr)(J0 J1 J2:Zb)(ds:List am):Prop where
 mach:bO Cm H0 M J0 J1 J2 ds
 ob:∃(dy:Addr) (fs:List (Str×V)),H0 y=some (.ins Ck dy fs)/\lk "machine" fs=some (.ref M)/\lk "known" fs=some (.ref kd)/\lk "steps_from" fs=none
 kdn:H0 kd=none
structure ir(H0 H:Hp)(kd:Addr)(kv:List (TK×V))(J0 J1 J2:Zb)(ds:List am)(n:Nat):Prop where
 same:ac H0 H
 hkd:H kd=some (.dT kv)
 kok:∀p∈kv,∃(J6:Zb) (d:Addr) (kvs:List (TK×V)),p=(fg J6,.ref d)/\d≠kd/\H0 d=none/\Rd H d (.dT kvs)/\kF H kvs (stepsF J0 J1 J2 ds J6)
 len:kv.length<=n
theorem ir.up{H0 H H':Hp}{kd:Addr}{kv:List (TK×V)}{J0 J1 J2:Zb}{ds:List am}{n:Nat}(h:ir H0 H kd kv J0 J1 J2 ds n)(S:ac H H'):ir H0 H' kd kv J0 J1 J2 ds n :=
 ⟨h.same.trans S,S _ _ h.hkd,fun p hp=>by obtain⟨f,d,kvs,e,n1,n2,r,st⟩:=h.kok p hp;exact⟨f,d,kvs,e,n1,n2,ni (S d) r,st.kt (ac.kt S)⟩,h.len⟩
theorem ir.more{H0 H:Hp}{kd:Addr}{kv:List (TK×V)}{J0 J1 J2:Zb}{ds:List am}{n m:Nat}(h:ir H0 H kd kv J0 J1 J2 ds n)(l:n<=m):ir H0 H kd kv J0 J1 J2 ds m:=⟨h.same,h.hkd,h.kok,aE h.len l⟩
theorem ir.frz{H0 H:Hp}{kd d:Addr}{o:Obj}{kv kvs:List (TK×V)}{k:TK}{J0 J1 J2:Zb}{ds:List am}{n:Nat}(h:ir H0 H kd kv J0 J1 J2 ds n)(v:aY kv k=some (.ref d))(hd:H d=some (.dT kvs)):
  ir H0 (upd H d (.frz o (.dT kvs))) kd kv J0 J1 J2 ds n:=by
 obtain⟨_,d1,_,e1,n1,n2,_,_⟩:=h.kok _ (fw v);injection e1 with _ e1;injection e1 with e1;subst e1;refine⟨fun b u e=>?_,by rw[ah n1.symm];exact h.hkd,fun p hp=>?_,h.len⟩
 ·rw[ah (ae e n2)];exact h.same _ _ e
 ·obtain⟨f,d2,kv2,e,q1,q2,r,st⟩:=h.kok p hp;refine⟨f,d2,kv2,e,q1,q2,?_,st.kt (Gd hd)⟩;by_cases c:d2=d
  ·subst c;rcases r with r|⟨o',r⟩
   ·rw[hd]at r;cases r;exact .inr ⟨o,aa⟩
   ·rw[hd]at r;cases r
  ·exact ni (fun u e=>by rw[ah c];exact e) r
theorem ir.keep{H0 H:Hp}{kd a:Addr}{o:HO}{kv:List (TK×V)}{J0 J1 J2:Zb}{ds:List am}{n:Nat}(h:ir H0 H kd kv J0 J1 J2 ds n)(ha:H a=some o)(na:a≠kd)(nv:∀k,(k,V.ref a)∉kv):ir (upd H0 a o) H kd kv J0 J1 J2 ds n:=by
 refine⟨fun b u e=>?_,h.hkd,fun p hp=>?_,h.len⟩
 ·by_cases c:b=a
  ·subst c;rw[aa]at e;cases e;exact ha
  ·rw[ah c]at e;exact h.same _ _ e
 ·obtain⟨f,d2,kv2,e,q1,q2,r⟩:=h.kok p hp;refine⟨f,d2,kv2,e,q1,?_,r⟩;rw[ah (fun z=>nv (fg f) (by rw[<-z,<-e];exact hp))];exact q2
inductive kQ(Cm Ck:Addr)(vs:List V)(H:Hp)(Q:VK)(E:XK):Prop
 |mk (H0:Hp) (y M kd u:Addr) (kv:List (TK×V)) (n:Nat) (J6 J0 J1 J2:Zb) (ds:List am):(vs=[.ref y,.ref u])->(Gp Cm Ck H0 y M kd J0 J1 J2 ds)->(ir H0 H kd kv J0 J1 J2 ds n)->(H u=some (.tup (J6.map V.str)))->(∀r∈J6,r∈J2)->(J6.length<=1000)->(n<=1000000) ->
  (∀(d:Addr) (kv' kvs:List (TK×V)) (H':Hp),ir H0 H' kd kv' J0 J1 J2 ds (n+1)->aY kv' (fg J6)=some (.ref d)->Rd H' d (.dT kvs)->kF H' kvs (stepsF J0 J1 J2 ds J6)->bg kd H H'->Gr kv kv'->Q (.ref d) H')->kQ Cm Ck vs H Q E
theorem Bs{K:Za}{Cm Ck:Addr}(c:KC K Ck){vs:List V}{H:Hp}{Q:VK}{E:XK}(h:kQ Cm Ck vs H Q E):i3 K (js Cm) (bh Q) (start jj vs) H:=by
 obtain⟨H0,y,M,kd,u,kv,n,J6,J0,J1,J2,ds,rfl,St,Dy,hu,hsub,hz,hn,k⟩:=h;obtain⟨dy,fs,g0,l1,l2,l3⟩:=St.ob;have g:=Dy.same _ _ g0;have tk:lq K H (fg J6) (.ref u):=dk.isIn 8 (ef J6) (SignAt.tk hu);have g1:lC K H kd (.ref u) (aY kv (fg J6)):=.inr ⟨_,_,_,.inl Dy.hkd,rfl,tk,ef J6,rfl⟩;refine⟨_,rfl,_,rfl,y,Ck,dy,fs,.ref kd,rfl,g,c.cls,c.a2,l2,kd,_,rfl,g1,_,rfl,?_⟩;cases v:aY kv (fg J6)with
 |some w =>
  obtain⟨f,d,kvs,e,n1,n2,r,st⟩:=Dy.kok _ (fw v);injection e with e1 e2;cases fF e1;subst e2;refine cr ?_;rw[v]at g1;exact⟨_,rfl,y,Ck,dy,fs,.ref kd,rfl,g,c.cls,c.a2,l2,_,rfl,kd,_,rfl,g1,k d kv kvs H (Dy.more (by omega)) v r st (bg.refl _ _) (.refl _)⟩
 |none =>
  refine cJ ?_;refine⟨_,rfl,y,Ck,dy,fs,.ref M,rfl,g,c.cls,c.a1,l1,_,rfl,M,u,J6,J0,J1,J2,ds,rfl,St.mach.same Dy.same,hu,hsub,hz,fun d kvs H1 hd st dn S1=>?_⟩;have D1:=Dy.up S1;have nd:d≠kd:=(ae Dy.hkd dn).symm;refine⟨_,rfl,y,Ck,dy,fs,.ref kd,rfl,S1 _ _ g,c.cls,c.a2,l2,_,rfl,kd,_,rfl,.inr ⟨_,fg J6,u,D1.hkd,rfl,SignAt.tk (S1 _ _ hu),ef J6,?_,rfl⟩,?_⟩
  ·have:=Dy.len;rw[tT];omega
  rw[hZ _ v];have kt:ig H1 (upd H1 kd (.dT (kv++[(fg J6,.ref d)]))):=Gd D1.hkd;have v2:aY (kv++[(fg J6,V.ref d)]) (fg J6)=some (.ref d):=by rw[<-hZ (.ref d) v,g_,if_pos rfl]
  have D2:ir H0 (upd H1 kd (.dT (kv++[(fg J6,.ref d)]))) kd (kv++[(fg J6,.ref d)]) J0 J1 J2 ds (n+1):=by
   refine⟨fun b o e=>?_,aa,fun p hp=>?_,?_⟩
   ·rw[ah (ae e St.kdn)];exact D1.same _ _ e
   ·rcases bw.1 hp with hp|hp
    ·obtain⟨f,d2,kv2,e,q1,q2,r,st'⟩:=D1.kok p hp;exact⟨f,d2,kv2,e,q1,q2,ni (fun o e=>by rw[ah q1];exact e) r,st'.kt kt⟩
    ·rw[fN.1 hp];exact⟨J6,d,kvs,rfl,nd,Dy.same.free dn,.inl (by rw[ah nd];exact hd),st.kt kt⟩
   ·rw[aU];show _+1<=_;have:=Dy.len;omega
  have g5:lC K (upd H1 kd (.dT (kv++[(fg J6,.ref d)]))) kd (.ref u) (some (.ref d)):=.inr ⟨_,fg J6,u,.inl aa,rfl,dk.isIn 8 (ef J6) (SignAt.tk (kt _ _ (S1 _ _ hu))),ef J6,v2.symm⟩;exact⟨_,rfl,y,Ck,dy,fs,.ref kd,rfl,D2.same _ _ g0,c.cls,c.a2,l2,_,rfl,kd,_,rfl,g5,k d _ kvs _ D2 v2 (.inl (by rw[ah nd];exact hd)) (st.kt kt) (fun b o e nb=>by rw[ah nb];exact S1 _ _ e) (.snoc v)⟩
inductive kP(Ck:Addr)(vs:List V)(H:Hp)(Q:VK)(E:XK):Prop
 |mk (x dx M:Addr):(vs=[.ref x,.ref M])->(H x=some (.ins Ck dx []))->(∀(kd:Addr) (fs:List (Str×V)) (H':Hp),H' x=some (.ins Ck dx fs)->lk "machine" fs=some (.ref M)->lk "known" fs=some (.ref kd)->lk "steps_from" fs=none->H' kd=some (.dT [])->H kd=none->bg x H H'->Q .non H')->kP Ck vs H Q E
theorem Br{K:Za}{Ck:Addr}(c:KC K Ck){vs:List V}{H:Hp}{Q:VK}{E:XK}(h:kP Ck vs H Q E):jR K (bh Q) (start jT vs) H:=by
 obtain⟨x,dx,M,rfl,hx,k⟩:=h;refine⟨_,rfl,_,rfl,x,Ck,dx,[],rfl,hx,c.cls,c.a1,(by decide),?_⟩;obtain⟨H1,e1,hx1,X1⟩:=oP "machine" (.ref M) hx;rw[<-e1];have len1:(cE ("machine":Str) (.ref M) []).length<=1:=dS _ _ _;refine fun kd hkd=>⟨_,rfl,x,Ck,dx,_,rfl,kp hx1 hkd,c.cls,c.a2,by omega,?_⟩;obtain⟨H2,e2,hx2,X2⟩:=oP "known" (.ref kd) (kp (x:=.dT []) hx1 hkd);rw[<-e2];have nk:kd≠x:=(ae hx1 hkd).symm;refine k kd _ H2 hx2 ?_ ?_ ?_ (X2 _ _ aa nk) ?_ fun b o e n=>X2 _ _ (kp (X1 _ _ e n) hkd) n
 ·show fL _ _=_;repeat (rw[bb];first|rw[if_pos rfl] | rw[if_neg (by decide +kernel)])
 ·show fL _ _=_;repeat (rw[bb];first|rw[if_pos rfl] | rw[if_neg (by decide +kernel)])
 ·show fL _ _=_;repeat (rw[bb];first|rw[if_pos rfl] | rw[if_neg (by decide +kernel)])
  rfl
 ·cases e:H kd with
  |none=>rfl
  |some o=>have:=X1 _ _ e nk;rw[hkd]at this;cases this
def oT(J6:Zb)(d:Nat):TK:=.t [fg J6,.k (some (.inl (d:Int)))]
theorem AM{f g:Zb}{d e:Nat}(h:oT f d=oT g e):f=g/\d=e:=by
 unfold oT at h;injection h with h;injection h with h1 h2;injection h2 with h2 _;injection h2 with h2;injection h2 with h2;injection h2 with h2;exact⟨fF h1,by omega⟩
theorem dv(f:Zb)(d:Nat):(oT f d).depth<=8:=by
 show max (fg f).depth (max 0 0)+1<=8;rw[iZ];decide
structure DC(K:Za)(C:Addr):Prop where
 cls:AW K C
 a1:db K C "says_signs"
 a2:db K C "known_steps"
 a3:db K C "known_counts"
structure yy(Cm Ck Cd:Addr)(H0:Hp)(x sl y M kd cd:Addr)(us:Ze)(J0 J1 J2:Zb)(ds:List am):Prop where
 ks:Gp Cm Ck H0 y M kd J0 J1 J2 ds
 ob:∃(dx:Addr) (fs:List (Str×V)),H0 x=some (.ins Cd dx fs)/\lk "says_signs" fs=some (.ref sl)/\lk "known_steps" fs=some (.ref y)/\lk "known_counts" fs=some (.ref cd)/\∀f:Str,f≠"says_signs"->f≠"known_steps"->f≠"known_counts"->lk f fs=none
 hsl:H0 sl=some (.lst (us.map V.ref))
 sg:kG H0 us (J1.map dF)
 cdn:H0 cd=none
 ne:kd≠cd
structure dq(H0 H:Hp)(kd cd:Addr)(kv cv:List (TK×V))(J0 J1 J2:Zb)(ds:List am)(n:Nat):Prop where
 ks:ir H0 H kd kv J0 J1 J2 ds n
 ncd:∀k,(k,V.ref cd)∉kv
 hcd:H cd=some (.dT cv)
 cok:∀p∈cv,∃(J6:Zb) (d:Nat),p=(oT J6 d,.int (cntM J0 J1 J2 ds d J6))
 clen:cv.length<=n
section
variable{H0 H H1 H':Hp}{kd cd d:Addr}{o:Obj}{kv cv kvs:List (TK×V)}{k:TK}{J0 J1 J2:Zb}{ds:List am}{n m:Nat}
theorem ir.weak(S:ac H0 H1)(h:ir H1 H kd kv J0 J1 J2 ds n):ir H0 H kd kv J0 J1 J2 ds n :=
 ⟨S.trans h.same,h.hkd,fun p hp=>by obtain⟨f,d,kvs,e,n1,n2,r⟩:=h.kok p hp;exact⟨f,d,kvs,e,n1,S.free n2,r⟩,h.len⟩
theorem dq.up(h:dq H0 H kd cd kv cv J0 J1 J2 ds n)(S:ac H H'):dq H0 H' kd cd kv cv J0 J1 J2 ds n:=⟨h.ks.up S,h.ncd,S _ _ h.hcd,h.cok,h.clen⟩
theorem ir.cell{f:Addr}{xs ys:List V}(h:ir H0 H kd kv J0 J1 J2 ds n)(h0:H0 f=none)(hf:H f=some (.lst xs)):ir H0 (L2.upd H f (.lst ys)) kd kv J0 J1 J2 ds n :=
 ⟨fun b o e=>by rw[ah (ae e h0)];exact h.same _ _ e,by rw[ah (fun z=>by have:=h.hkd;rw[z,hf]at this;cases this)];exact h.hkd,fun p hp=>by
  obtain⟨g,d,kvs,e,n1,n2,r,st⟩:=h.kok p hp;refine⟨g,d,kvs,e,n1,n2,ni (fun o e=>?_) r,st.kt (eM hf)⟩;rw[ah (fun z=>by rw[z]at r;rcases r with r|⟨_,r⟩<;>(rw[hf]at r;cases r))];exact e,h.len⟩
theorem dq.cell{f:Addr}{xs ys:List V}(h:dq H0 H kd cd kv cv J0 J1 J2 ds n)(h0:H0 f=none)(hf:H f=some (.lst xs)):dq H0 (L2.upd H f (.lst ys)) kd cd kv cv J0 J1 J2 ds n :=
 ⟨h.ks.cell h0 hf,h.ncd,by rw[ah (fun z=>by have:=h.hcd;rw[z,hf]at this;cases this)];exact h.hcd,h.cok,h.clen⟩
theorem dq.more(h:dq H0 H kd cd kv cv J0 J1 J2 ds n)(l:n<=m):dq H0 H kd cd kv cv J0 J1 J2 ds m:=⟨h.ks.more l,h.ncd,h.hcd,h.cok,aE h.clen l⟩
theorem dq.frz(h:dq H0 H kd cd kv cv J0 J1 J2 ds n)(v:aY kv k=some (.ref d))(hd:H d=some (.dT kvs)):dq H0 (upd H d (.frz o (.dT kvs))) kd cd kv cv J0 J1 J2 ds n :=
 ⟨h.ks.frz v hd,h.ncd,by rw[ah (fun z=>h.ncd k (by rw[z];exact fw v))];exact h.hcd,h.cok,h.clen⟩
end
theorem dJ.kp{K:Za}{H H':Hp}{w:Addr}{s:List Sg}(k:Kp H H')(h:dJ K H w s):dJ K H' w s:=by
 obtain⟨gs,h1,h2⟩:=h;exact⟨gs,k _ _ h1 rfl,Paired.mapP h2 fun _ _ r=>cN.kt k.kt r⟩
inductive gS(Cm Ck Cd:Addr)(vs:List V)(H:Hp)(Q:VK)(E:XK):Prop
 |mk (H0:Hp) (x sl y M kd cd u:Addr) (us:Ze) (kv cv:List (TK×V)) (n:Nat) (J6 J0 J1 J2:Zb) (ds:List am):(vs=[.ref x,.ref u])->(yy Cm Ck Cd H0 x sl y M kd cd us J0 J1 J2 ds)->(dq H0 H kd cd kv cv J0 J1 J2 ds n)->(H u=some (.tup (J6.map V.str)))->(∀r∈J6,r∈J2)->(J6.length<=1000)->(n<=1000000) ->
  (∀(d:Addr) (kv' kvs:List (TK×V)) (H':Hp),dq H0 H' kd cd kv' cv J0 J1 J2 ds (n+1)->aY kv' (fg J6)=some (.ref d)->Rd H' d (.dT kvs)->kF H' kvs (stepsF J0 J1 J2 ds J6)->bg kd H H'->Gr kv kv'->Q (.ref d) H')->gS Cm Ck Cd vs H Q E
theorem Bp{K:Za}{Cm Ck Cd:Addr}(c:DC K Cd){vs:List V}{H:Hp}{Q:VK}{E:XK}(h:gS Cm Ck Cd vs H Q E):mO K Ck (kQ Cm Ck) (bh Q) (start nT vs) H:=by
 obtain⟨H0,x,sl,y,M,kd,cd,u,us,kv,cv,n,J6,J0,J1,J2,ds,rfl,St,Dy,hu,hsub,hz,hn,k⟩:=h;obtain⟨dx,fs,g0,l1,l2,l3,l4⟩:=St.ob;obtain⟨dy,fy,gy,m1,m2,m3⟩:=id St.ks.ob;have S0:ac H0 (upd H0 cd (.dT cv)):=ac.new St.cdn;have St':Gp Cm Ck (upd H0 cd (.dT cv)) y M kd J0 J1 J2 ds:=⟨St.ks.mach.same S0,⟨dy,fy,S0 _ _ gy,m1,m2,m3⟩,by rw[ah St.ne];exact St.ks.kdn⟩;refine⟨_,rfl,x,Cd,dx,fs,.ref y,rfl,Dy.ks.same _ _ g0,c.cls,c.a2,l2,y,dy,fy,rfl,Dy.ks.same _ _ gy,m3,_,rfl,upd H0 cd (.dT cv),y,M,kd,u,kv,n,J6,J0,J1,J2,ds,rfl,St',Dy.ks.keep Dy.hcd St.ne.symm Dy.ncd,hu,hsub,hz,hn,fun d kv' kvs H' D' v r st ex gr=>?_⟩;refine k d kv' kvs H' ⟨D'.weak S0,fun q hq=>?_,D'.same _ _ aa,Dy.cok,by have:=Dy.clen;omega⟩ v r st ex gr;obtain⟨_,_,_,e,_,z,_⟩:=D'.kok _ hq;injection e with _ e;injection e with e;rw[<-e,aa]at z;cases z
def ic(sg:Sg):Bool:=decide (sg.head?=some ("ask":Str))
theorem l_{J2 J6:Zb}{ds:List am}{g:Str->Sg}{b:Bool}(hb:∀a,ic (g a)=b):∀A:List Str,((((A.map g).map fun sg=>(sg,behF J2 ds J6 sg)).filter fun p=>decide (p.2≠[])).filter fun p=>ic p.1).map (·.1)=if b=true then(A.filter fun a=>decide (behF J2 ds J6 (g a)≠[])).map g else[]
 |[]=>by cases b<;>rfl
 |a::A=>by
  have ih:=l_ (J2:=J2) (J6:=J6) (ds:=ds) hb A;rw[bm,bm];by_cases c:behF J2 ds J6 (g a)=[]
  ·rw[uL (by simp[c]),ih,uL (by simp[c])]
  ·rw[uK (by simp[c]),uK (p:=fun a=>decide (behF J2 ds J6 (g a)≠[])) (by simp[c])];cases b with
   |true=>rw[uK (by exact hb a),bm,ih];rfl
   |false=>rw[uL (by show ¬ic (g a)=true;rw[hb a];decide),ih];rfl
def askS(J0 J2:Zb)(ds:List am)(J6:Zb):List Sg:=(J0.filter fun a=>decide (behF J2 ds J6 (dW a)≠[])).map dW
theorem xz(J0 J1 J2:Zb)(ds:List am)(J6:Zb):((stepsF J0 J1 J2 ds J6).filter fun p=>ic p.1).map (·.1)=askS J0 J2 ds J6:=by
 unfold stepsF bH;rw[aw,aw,g6,g6,g6,g6,aw,aw,l_ (b:=true) (fun a=>by unfold ic dW;rfl),l_ (b:=false) (fun a=>by unfold ic dF;rfl)];rw[if_pos rfl,if_neg (by decide)];have:((([bJ].map fun sg=>(sg,behF J2 ds J6 sg)).filter fun p=>decide (p.2≠[])).filter fun p=>ic p.1)=[]:=by
  rw[List.filter_eq_nil_iff];intro p hp;obtain⟨sg,hs,rfl⟩:=aM.1 (eU.1 hp).1;rw[fN.1 hs];show ¬ic bJ=true
  decide
 rw[this,ei];show _++[]=_;rw[ei];rfl
theorem Es{J0 J1:Zb}{sg:Sg}(h:sg∈bH J0 J1):∃s0 rest,sg=s0::rest:=by
 unfold bH at h;rcases bw.1 h with h|h
 ·rcases bw.1 h with h|h
  ·obtain⟨a,_,rfl⟩:=aM.1 h;exact⟨_,_,rfl⟩
  ·obtain⟨a,_,rfl⟩:=aM.1 h;exact⟨_,_,rfl⟩
 ·rw[fN.1 h];exact⟨_,_,rfl⟩
theorem Bh{J0 J1 J2 J6:Zb}{ds:List am}(m:b9 J0 J1 J2 ds):(stepsF J0 J1 J2 ds J6).length<=9:=by
 have z1:=m.asks4;have z2:=m.says4;unfold stepsF;refine aE (cC _ _) ?_;unfold bH;rw[aj,aU,aU,aj,aj];show _+1<=9;omega
abbrev B4(K:Za)(H:Hp)(us:Ze)(L:List Sg):Prop:=Paired (fun s (sg:Sg)=>cN K H s (sg.map V.str)) us L
theorem B4.kt{K:Za}{H H':Hp}{us:Ze}{L:List Sg}(k:ig H H')(h:B4 K H us L):B4 K H' us L:=Paired.mapP h fun _ _ r=>cN.kt k r
theorem uC{K:Za}{σ:L2.St}{H:Hp}{d l:Addr}{o:Obj}{kvs:List (TK×V)}{J0 J1 J2 J6:Zb}{ds:List am}{Q:Hp->Prop}(m:b9 J0 J1 J2 ds)(hd:H d=some (.frz o (.dT kvs)))(st:kF H kvs (stepsF J0 J1 J2 ds J6))(hl:H l=none)
  (k:∀(us:Ze) (H':Hp),H' l=some (.lst (us.map V.ref))->B4 K H' us (askS J0 J2 ds J6)->ac H H'->Q H') :
  du 1 [] σ (GA d o (.dT kvs) kvs.length (EZ K kvs)) U0 (ba (aI Bw (aI (pU K) V0 (tC (.int 0))) (tC (.str "ask")))) V0 H l Q:=by
 have zs:=Bh (J6:=J6) m;refine BV (fun i vs H'=>∃us:List Addr,vs=us.map V.ref/\ac H H'/\H' l=some (.lst vs)/\B4 K H' us ((((stepsF J0 J1 J2 ds J6).take i).filter fun p=>ic p.1).map (·.1))) ⟨[],rfl,ac.new hl,aa,.nil⟩ (fun i vs H' _ ⟨_,_,S,h',_⟩=>⟨h',S _ _ hd⟩) ?_ ?_
 ·rintro vs H' ⟨us,rfl,S,h',hP⟩;rw[Paired.length st,aZ,xz]at hP;exact k us H' h' hP S
 ·rintro i vs H' a b hi ⟨us,rfl,S,h',hP⟩ ⟨key,ek,tkc⟩;obtain⟨p,hp,e,_⟩:=Paired.getL st ek;have e:key=fg p.1:=e;rw[e]at tkc;obtain⟨s,rfl,tc⟩:=Cr tkc;obtain⟨sg,hsg,ep⟩:=aM.1 (eU.1 (cw hp)).1;have e1:p.1=sg:=by rw[<-ep]
  obtain⟨s0,rest,e2⟩:=Es hsg;have tc':=tc;rw[e1,e2]at tc';have hd':(decide (V.str s0=V.str ("ask":Str)))=ic p.1:=by
   unfold ic;rw[e1,e2];by_cases c:s0=("ask":Str)
   ·rw[c];simp
   ·rw[zzr0 (fun z=>c (by injection z)),zzr0 (fun z=>c (by simpa using z))]
  refine gN ?_;refine⟨_,rfl,.inr (.inl ⟨s,_,0,.str s0,rfl,rfl,cN.sq tc',bW (j:=0) rfl,rfl,_,rfl,?_⟩)⟩;rw[hd'];refine kr (fun hq=>?_) (fun hq=>?_)
  ·refine⟨_,rfl,h',?_,nV hi ⟨us++[s],by rw[aw];rfl,?_,aa,?_⟩⟩
   ·rw[aj,Paired.length hP,aj];refine ar (aE (cC _ _) ?_);rw[aD];omega
   ·intro b o q;rw[ah (ae q hl)];exact S _ _ q
   ·rw[take_snoc hp,g6,aw,uK (by exact hq)];have hk:ig H' (upd H' l (.lst (us.map V.ref++[.ref s]))):=eM h';exact gq (hP.kt hk) (cN.kt hk tc)
  ·refine nV hi ⟨us,rfl,S,h',?_⟩;rw[take_snoc hp,g6,aw,uL (by exact hq)];show B4 K H' us (_++[]);rw[ei];exact hP
theorem se{K:Za}{Cm Ck Cd hu:Addr}(c:DC K Cd)(hh:∀H,bC K H hu (bJ.map V.str)){H0 H:Hp}{x sl y M kd cd u al:Addr}{us as:Ze}{J0 J1 J2 J6:Zb}{ds:List am}{Q:VK}{nx:L2.St->Hp->Prop}
  (St:yy Cm Ck Cd H0 x sl y M kd cd us J0 J1 J2 ds) (S:ac H0 H) (hal:H al=some (.lst (as.map V.ref))) (hA:B4 K H as (askS J0 J2 ds J6))
  (k:∀(l:Addr) (ks:Ze) (H':Hp),H' l=some (.lst (ks.map V.ref))->Paired (dJ K H') ks (kindsF J0 J1 J2 ds J6)->ac H H'->Q (.ref l) H') :
  (aW (aI md (cB 1 [0] (bU K V2) U0 (iN) (aI md (dQ (aH V0)) (hC K V1 "says_signs"))) (dQ (ao (aI md (hC K V0 "says_signs") (dQ (aH (tC (.ref hu))))) bF)))) { nx:=nx,rt:=Q } [some (.ref x),some (.ref u),some (.ref al)] H:=by
 obtain⟨dx,fs,g0,l1,l2,l3,l4⟩:=St.ob;have mo:=St.ks.mach.ok;have z1:=mo.asks4;have z2:=mo.says4;have zu:us.length<=4:=by rw[Paired.length St.sg,aj];exact z2
 have za:(askS J0 J2 ds J6).length<=4:=by unfold askS;rw[aj];exact aE (cC _ _) z1
 have sgT:∀{H':Hp},ac H0 H'->B4 K H' us (J1.map dF):=fun S'=>Paired.mapP (kG.kt (ac.kt S') St.sg) fun _ _ r=>.inl r;refine⟨_,rfl,al,rfl,⟨_,ax.of hal⟩,fun kl hkl=>?_⟩;refine cu (xs:=as.map V.ref) (fun i vs H'=>∃ks:List Addr,vs=ks.map V.ref/\ac H H'/\H' kl=some (.lst vs)/\Paired (dJ K H') ks (((askS J0 J2 ds J6).take i).map fun sg=>sg::J1.map dF)/\∀q∈ks,q≠kl) ⟨[],rfl,ac.new hkl,aa,.nil,fun _ h=>by cases h⟩ (fun i vs H' _ ⟨_,_,S',h',_⟩=>⟨h',ax.of (S' _ _ hal)⟩) ?_ ?_;rotate_left
 ·rintro i vs H1 v hv hi ⟨ks,rfl,S1,h1,hK,nk⟩;obtain⟨s,hs,rfl⟩:=cf hv;obtain⟨sg,hsg,hat⟩:=Paired.getL hA hs;refine gN (sQ ?_);refine⟨_,rfl,(by show 1<=ai;decide),fun ll hll=>?_⟩;have S2:ac H1 (upd H1 ll (.lst [.ref s])):=ac.new hll;have ll2:upd H1 ll (.lst [.ref s]) ll=some (.lst [.ref s]):=aa;generalize upd H1 ll (.lst [.ref s])=H2 at S2 ll2 ⊢;have S02:=(S.trans S1).trans S2;refine⟨_,rfl,x,Cd,dx,fs,.ref sl,rfl,S02 _ _ g0,c.cls,c.a1,l1,ll,sl,_,_,rfl,rfl,ll2,S02 _ _ St.hsl,?_,fun c1 hc1=>?_⟩
  ·rw[aj];exact cL (ar (by show 1+_<=1000;omega))
  have S3:ac H2 (upd H2 c1 (.lst ([V.ref s]++us.map V.ref))):=ac.new hc1;have c3:upd H2 c1 (.lst ([V.ref s]++us.map V.ref)) c1=some (.lst ((s::us).map V.ref)):=aa;have nc:c1≠kl:=(ae (S2 _ _ h1) hc1).symm;generalize upd H2 c1 (.lst ([V.ref s]++us.map V.ref))=H3 at S3 c3 ⊢;have S13:=S2.trans S3;have S03:=(S.trans S1).trans S13;have kl3:=S13 _ _ h1;have hk:ig H3 (upd H3 kl (.lst (ks.map V.ref++[.ref c1]))):=eM kl3;refine⟨kl3,?_,nV hi ⟨ks++[c1],by rw[aw];rfl,?_,aa,?_,fun q hq=>?_⟩⟩
  ·rw[aj,Paired.length hK,aj,aD];exact ar (by omega)
  ·intro b o q;rw[ah (ae q hkl)];exact S13 _ _ (S1 _ _ q)
  ·rw[take_snoc hsg,aw];have cell:∀{q:Addr}{L:List Sg},q≠kl->dJ K H3 q L->dJ K (upd H3 kl (.lst (ks.map V.ref++[.ref c1]))) q L:=fun n h=>h.kt hk fun o e=>by rw[ah n];exact e
   refine gq ?_ (cell nc ⟨s::us,c3,.cons (cN.kt (ac.kt (S1.trans S13)) hat) (sgT S03)⟩);refine Paired.mapM hK fun q L hq r=>cell (nk q hq) (r.kt (ac.kt S13) fun o e=>S13 _ _ e)
  ·rcases bw.1 hq with hq|hq
   ·exact nk q hq
   ·rw[fN.1 hq];exact nc
 ·rintro vs H1 ⟨ks,rfl,S1,h1,hK,_⟩;rw[aj,Paired.length hA,aZ]at hK;have S01:=S.trans S1;refine⟨_,rfl,x,Cd,dx,fs,.ref sl,rfl,S01 _ _ g0,c.cls,c.a1,l1,(by show 1<=ai;decide),fun hl hhl=>?_⟩;have S2:ac H1 (upd H1 hl (.lst [.ref hu])):=ac.new hhl;have hl2:upd H1 hl (.lst [.ref hu]) hl=some (.lst [.ref hu]):=aa;generalize upd H1 hl (.lst [.ref hu])=H2 at S2 hl2 ⊢;have S02:=S01.trans S2;refine⟨sl,hl,_,_,rfl,rfl,S02 _ _ St.hsl,hl2,?_,fun c2 hc2=>?_⟩
  ·rw[aj];exact cL (ar (by show _+1<=1000;omega))
  have S3:ac H2 (upd H2 c2 (.lst (us.map V.ref++[.ref hu]))):=ac.new hc2;have c3:upd H2 c2 (.lst (us.map V.ref++[.ref hu])) c2=some (.lst ((us++[hu]).map V.ref)):=by rw[aa,aw];rfl
  generalize upd H2 c2 (.lst (us.map V.ref++[.ref hu]))=H3 at S3 c3 ⊢;refine⟨(by show 1<=ai;decide),fun ol hol=>?_⟩;have S4:ac H3 (upd H3 ol (.lst [.ref c2])):=ac.new hol;have ol4:upd H3 ol (.lst [.ref c2]) ol=some (.lst [.ref c2]):=aa;generalize upd H3 ol (.lst [.ref c2])=H4 at S4 ol4 ⊢;have S14:=(S2.trans S3).trans S4;refine⟨kl,ol,_,_,rfl,rfl,S14 _ _ h1,ol4,?_,fun r hr=>?_⟩
  ·rw[aj,Paired.length hK,aj];exact cL (ar (by show _+1<=1000;omega))
  have S5:ac H4 (upd H4 r (.lst (ks.map V.ref++[.ref c2]))):=ac.new hr;refine k r (ks++[c2]) _ (by rw[aa,aw];rfl) ?_ ((S1.trans S14).trans S5);have S15:=S14.trans S5;have e:kindsF J0 J1 J2 ds J6=((askS J0 J2 ds J6).map fun sg=>sg::J1.map dF)++[J1.map dF++[bJ]]:=by
   unfold kindsF askS;rw[iL];rfl
  rw[e];refine gq (Paired.mapP hK fun _ _ h=>h.kt (ac.kt S15) fun o e=>S15 _ _ e) ⟨us++[hu],S5 _ _ (S4 _ _ c3),?_⟩;exact Paired.app (sgT (S01.trans S15)) (.cons (qj hh _) .nil)
inductive i4(K:Za)(Cm Ck Cd:Addr)(vs:List V)(H:Hp)(Q:VK)(E:XK):Prop
 |mk (H0:Hp) (x sl y M kd cd u:Addr) (us:Ze) (kv cv:List (TK×V)) (n:Nat) (J6 J0 J1 J2:Zb) (ds:List am):(vs=[.ref x,.ref u])->(yy Cm Ck Cd H0 x sl y M kd cd us J0 J1 J2 ds)->(dq H0 H kd cd kv cv J0 J1 J2 ds n)->(H u=some (.tup (J6.map V.str)))->(∀r∈J6,r∈J2)->(J6.length<=1000)->(n<=1000000) ->
  (∀(l:Addr) (ks:Ze) (kv':List (TK×V)) (H':Hp),H' l=some (.lst (ks.map V.ref))->Paired (dJ K H') ks (kindsF J0 J1 J2 ds J6)->dq H0 H' kd cd kv' cv J0 J1 J2 ds (n+1)->Kp H H'->Gr kv kv'->Q (.ref l) H')->i4 K Cm Ck Cd vs H Q E
theorem Bm{K:Za}{Cm Ck Cd hu:Addr}(c:DC K Cd)(hh:∀H,bC K H hu (bJ.map V.str)){vs:List V}{H:Hp}{Q:VK}{E:XK}(h:i4 K Cm Ck Cd vs H Q E):pJ K hu Cd (gS Cm Ck Cd) (bh Q) (start p9 vs) H:=by
 obtain⟨H0,x,sl,y,M,kd,cd,u,us,kv,cv,n,J6,J0,J1,J2,ds,rfl,St,Dy,hu',hsub,hz,hn,k⟩:=h;obtain⟨dx,fs,g0,l1,l2,l3,l4⟩:=St.ob;have mo:=St.ks.mach.ok;refine⟨_,rfl,x,dx,fs,rfl,Dy.ks.same _ _ g0,l4 "steps_from" (by decide +kernel) (by decide +kernel) (by decide +kernel),_,rfl,H0,x,sl,y,M,kd,cd,u,us,kv,cv,n,J6,J0,J1,J2,ds,rfl,St,Dy,hu',hsub,hz,hn,fun d kv' kvs H1 D1 v1 r1 st1 ex1 gr=>⟨d,kvs,rfl,?_⟩⟩;have kp1:Kp H H1:=Kp.exB Dy.ks.hkd rfl ex1;rcases r1 with r1|⟨o,r1⟩
 ·refine .inl ⟨r1,fun o l hl=>?_⟩;have D2:=D1.frz (o:=o) v1 r1;have kp2:Kp H1 (upd H1 d (.frz o (.dT kvs))):=Kp.upd r1 rfl;refine uC mo aa (st1.kt (Gd r1)) hl fun as H2 h2 hA S2=>?_;exact se c hh St (D2.ks.same.trans S2) h2 hA fun r ks H3 h3 hK S3=>k r ks kv' H3 h3 hK ((D2.up S2).up S3) ((kp1.trans kp2).trans (ac.kp (S2.trans S3))) gr
 ·refine .inr ⟨o,r1,fun l hl=>?_⟩;refine uC mo r1 st1 hl fun as H2 h2 hA S2=>?_;exact se c hh St (D1.ks.same.trans S2) h2 hA fun r ks H3 h3 hK S3=>k r ks kv' H3 h3 hK ((D1.up S2).up S3) (kp1.trans (ac.kp (S2.trans S3))) gr
def nB:Nat->Nat
 |0=>0
 |d+1=>7+25 * nB d
def DW(H:Hp)(v:V)(J6:Zb):Prop:=(v=.non/\J6=[])∨∃u,v=.ref u/\H u=some (.tup (J6.map V.str))
inductive fA(Cm Ck Cd:Addr)(D:Nat)(vs:List V)(H:Hp)(Q:VK)(E:XK):Prop
 |mk (H0:Hp) (x sl y M kd cd:Addr) (us:Ze) (v:V) (kv cv:List (TK×V)) (n d:Nat) (J6 J0 J1 J2:Zb) (ds:List am):(vs=[.ref x,v,.int (d:Nat)])->(d<=D)->(yy Cm Ck Cd H0 x sl y M kd cd us J0 J1 J2 ds)->(dq H0 H kd cd kv cv J0 J1 J2 ds n)->(DW H v J6)->(v≠.non->J6≠[])->(∀r∈J6,r∈J2)->(J6.length<=1000)->(n+nB d<=1000000) ->
  (∀(kv' cv':List (TK×V)) (H':Hp),dq H0 H' kd cd kv' cv' J0 J1 J2 ds (n+nB d)->Kp H H'->Gr kv kv'->Q (.int (cntM J0 J1 J2 ds d J6)) H')->fA Cm Ck Cd D vs H Q E
inductive hV(K:Za)(Cm Ck Cd:Addr)(D:Nat)(vs:List V)(H:Hp)(Q:VK)(E:XK):Prop
 |mk (H0:Hp) (x sl y M kd cd u kl:Addr) (us:Ze) (kv cv:List (TK×V)) (n d:Nat) (kind:List Sg) (J6 J0 J1 J2:Zb) (ds:List am):(vs=[.ref x,.ref u,.int ((d+1:Nat)),.ref kl])->(d<=D)->(d<=4)->(yy Cm Ck Cd H0 x sl y M kd cd us J0 J1 J2 ds)->(dq H0 H kd cd kv cv J0 J1 J2 ds n)->(H u=some (.tup (J6.map V.str)))->(∀r∈J6,r∈J2)->(J6.length<=1000)->(dJ K H kl kind)->(∀sg∈kind,sg∈bH J0 J1)->(kind.length<=5)->(n+1+5 * nB d<=1000000) ->
  (∀(kv' cv':List (TK×V)) (H':Hp),dq H0 H' kd cd kv' cv' J0 J1 J2 ds (n+1+5 * nB d)->Kp H H'->Gr kv kv'->Q (.int (gh (kind.map fun sg=>cntM J0 J1 J2 ds d (behF J2 ds J6 sg)))) H')->hV K Cm Ck Cd D vs H Q E
theorem xF{K:Za}{Cm Ck Cd:Addr}{D:Nat}{vs:List V}{H:Hp}{Q:VK}{E:XK}(h:hV K Cm Ck Cd D vs H Q E):pK K sp_product Cd (fA Cm Ck Cd D) (gS Cm Ck Cd) (bh Q) (start p_ vs) H:=by
 obtain⟨H0,x,sl,y,M,kd,cd,u,kl,us,kv,cv,n,d,kind,J6,J0,J1,J2,ds,rfl,hD,d4,St,Dy,hu,hsub,hz,hk,hin,zk,hn,k⟩:=h;obtain⟨dx,fs,g0,l1,l2,l3,l4⟩:=St.ob;have mo:=St.ks.mach.ok;have z1:=mo.asks4;have z2:=mo.says4;have z3:=mo.rooms26;refine⟨_,rfl,x,dx,fs,rfl,Dy.ks.same _ _ g0,l4 "steps_from" (by decide +kernel) (by decide +kernel) (by decide +kernel),_,rfl,H0,x,sl,y,M,kd,cd,u,us,kv,cv,n,J6,J0,J1,J2,ds,rfl,St,Dy,hu,hsub,hz,by omega,fun sd kv1 kvs H1 D1 v1 _ _ ex1 gr1=>?_⟩;have kp1:Kp H H1:=Kp.exB Dy.ks.hkd rfl ex1;obtain⟨ss,hkl,hss⟩:=hk;have kl1:=kp1 _ _ hkl rfl;refine⟨_,rfl,kl,rfl,⟨_,ax.of kl1⟩,fun f hf=>?_⟩;refine cu (xs:=ss.map V.ref) (fun i vs H'=>∃(kv' cv':List (TK×V)),vs=((kind.take i).map fun sg=>cntM J0 J1 J2 ds d (behF J2 ds J6 sg)).map V.int/\H' f=some (.lst vs)/\Kp H1 H'/\dq H0 H' kd cd kv' cv' J0 J1 J2 ds (n+1+i * nB d)/\Gr kv1 kv')
  ⟨kv1,cv,rfl,aa,ac.kp (ac.new hf),(D1.up (ac.new hf)).more (by omega),.refl _⟩ (fun i vs H' _ ⟨_,_,_,h',kp',_⟩=>⟨h',ax.of (kp' _ _ kl1 rfl)⟩) ?_ ?_
 rotate_left
 ·rintro i vs H2 w hw hi ⟨kv2,cv2,rfl,f2,kp2,D2,gr2⟩;obtain⟨s,hs,rfl⟩:=cf hw;obtain⟨sg,hsg,hat⟩:=Paired.getL hss hs;have il:i<kind.length:=(bQ.1 hsg).1;have hsi:=hin sg (cw hsg);have hat2:cN K H2 s (sg.map V.str):=cN.kt (kp1.trans kp2).kt hat;obtain⟨f',sd',kvs2,e',_,_,r2,st2⟩:=D2.ks.kok _ (fw (gr2 _ _ v1));injection e' with e1 e2;cases fF e1;cases e2;have gd:lC K H2 sd (.ref s) (aY kvs2 (fg sg)):=.inr ⟨_,fg sg,s,r2,rfl,vt hat2,ef _,rfl⟩;have mul:(i+1) * nB d=i * nB d+nB d:=gZ _ _;have mul5:(i+1) * nB d<=5 * nB d:=eo _ (by omega);refine gN (sQ ?_);refine⟨_,rfl,x,dx,fs,rfl,D2.ks.same _ _ g0,l4 "count_at" (by decide +kernel) (by decide +kernel) (by decide +kernel),_,rfl,sd,rfl,.inr ⟨_,r2⟩,_,rfl,_,gd,_,rfl,_,_,rfl,rfl,H0,x,sl,y,M,kd,cd,us,(aY kvs2 (fg sg)).getD .non,kv2,cv2,_,d,behF J2 ds J6 sg,J0,J1,J2,ds,?_,hD,St,D2,?_,?_,sG hsub,kE (by omega) hz,by omega,fun kv3 cv3 H3 D3 kp3 gr3=>?_⟩
  ·show[V.ref x,_,V.int (((d+1:Nat):Int)-1)]=_;rw[show(((d+1:Nat):Int)-1)=(d:Nat) by omega]
  ·rcases st2.look hsi with⟨e1,e2⟩|⟨e1,u2,e2,e3⟩
   ·rw[e1,e2];exact .inl ⟨rfl,rfl⟩
   ·rw[e2];exact .inr ⟨u2,rfl,e3⟩
  ·rcases st2.look hsi with⟨e1,e2⟩|⟨e1,u2,e2,e3⟩
   ·rw[e2];exact fun z=>absurd rfl z
   ·exact fun _=>e1
  have f3:=kp3 _ _ f2 rfl;refine⟨f3,?_,nV hi ⟨kv3,cv3,?_,aa,?_,?_,gr2.trans gr3⟩⟩
  ·rw[aj,aj,aD];exact ar (by omega)
  ·rw[take_snoc hsg,aw,aw];rfl
  ·exact fun b o e no=>by rw[ah (ae e hf)];exact kp3 _ _ (kp2 _ _ e no) no
  ·exact(D3.more (m:=n+1+(i+1) * nB d) (by omega)).cell (D1.ks.same.free hf) f3
 ·rintro vs H2 ⟨kv2,cv2,rfl,f2,kp2,D2,gr2⟩;rw[aj,Paired.length hss,aZ]at f2;rw[aj,Paired.length hss]at D2;have m5:kind.length * nB d<=5 * nB d:=eo _ zk;refine⟨f,_,bB d,rfl,f2,fun z hz'=>?_,by have:=yj d d4;omega,by rw[aj];omega,k kv2 cv2 H2 (D2.more (by omega)) (kp1.trans kp2) (gr1.trans gr2)⟩;obtain⟨sg,_,rfl⟩:=aM.1 hz';exact jg z1 z2 d _
theorem xR{kvs:List (TK×V)}{k:TK}{v:V}{p:TK×V}(h:p∈c7 kvs k v):p∈kvs∨p=(k,v):=by
 unfold c7 at h;split at h
 ·obtain⟨q,hq,rfl⟩:=aM.1 h;split
  ·next e=>exact .inr (by rw[e])
  ·exact .inl hq
 ·rcases bw.1 h with h|h
  ·exact .inl h
  ·exact .inr (fN.1 h)
theorem oS{H:Hp}{p u:Addr}{J6:Zb}{d:Nat}(hp:H p=some (.tup [.ref u,.int (d:Nat)]))(hu:H u=some (.tup (J6.map V.str))):dk H (oT J6 d) (.ref p):=by
 unfold oT dk;refine⟨p,_,rfl,hp,?_⟩;unfold TKAts;refine⟨_,_,rfl,SignAt.tk hu,?_⟩;unfold TKAts;refine⟨_,_,rfl,by unfold dk;rfl,by unfold TKAts;rfl⟩
section
variable{H0 H:Hp}{kd cd:Addr}{kv cv:List (TK×V)}{J0 J1 J2 J6:Zb}{ds:List am}{n d:Nat}{w:V}
theorem dq.val(h:dq H0 H kd cd kv cv J0 J1 J2 ds n)(v:aY cv (oT J6 d)=some w):w=.int (cntM J0 J1 J2 ds d J6):=by
 obtain⟨f,e,q⟩:=h.cok _ (fw v);injection q with q1 q2;obtain⟨rfl,rfl⟩:=AM q1;exact q2
theorem dq.put(h:dq H0 H kd cd kv cv J0 J1 J2 ds n)(h0:H0 cd=none)(ne:kd≠cd):dq H0 (upd H cd (.dT (c7 cv (oT J6 d) (.int (cntM J0 J1 J2 ds d J6))))) kd cd kv (c7 cv (oT J6 d) (.int (cntM J0 J1 J2 ds d J6))) J0 J1 J2 ds (n+1):=by
 refine⟨⟨fun b o e=>by rw[ah (ae e h0)];exact h.ks.same _ _ e,by rw[ah ne];exact h.ks.hkd,fun p hp=>?_,Nat.le_succ_of_le h.ks.len⟩,h.ncd,aa,fun p hp=>?_,aE (e_ _ _ _) (Nat.succ_le_succ h.clen)⟩
 ·obtain⟨g,d,kvs,e,n1,n2,r,st⟩:=h.ks.kok p hp;exact⟨g,d,kvs,e,n1,n2,ni (fun o q=>by rw[ah (fun z=>h.ncd (fg g) (by rw[<-z,<-e];exact hp))];exact q) r,st.kt (Gd h.hcd)⟩
 ·rcases xR hp with hp|rfl
  ·exact h.cok p hp
  ·exact⟨_,_,rfl⟩
end
theorem CN{K:Za}{Cm Ck Cd:Addr}(c:DC K Cd){D:Nat}{spO:Sp}(d5:D<=4)(hO:∀m,D=m+1->spO=hV K Cm Ck Cd m){vs:List V}{H:Hp}{Q:VK}{E:XK}(h:fA Cm Ck Cd D vs H Q E):pL K Cd (i4 K Cm Ck Cd) spO (bh Q) (start qa vs) H:=by
 obtain⟨H0,x,sl,y,M,kd,cd,us,v,kv,cv,n,d,J6,J0,J1,J2,ds,rfl,hD,St,Dy,hv,hne,hsub,hz,hn,k⟩:=h;obtain⟨dx,fs,g0,l1,l2,l3,l4⟩:=St.ob;have mo:=St.ks.mach.ok;have z1:=mo.asks4;have z2:=mo.says4;have one:cntM J0 J1 J2 ds d J6=1->Q (.int 1) H:=fun e=>by
  have:=k kv cv H (Dy.more (by omega)) (fun _ _ e _=>e) (.refl _);rw[e]at this;exact this
 refine⟨_,rfl,_,rfl,?_⟩;rcases hv with⟨rfl,rfl⟩|⟨u,rfl,hu⟩
 ·refine cJ ?_;refine cJ ?_;exact one (ye _ _ _ _ _)
 have hne:=hne (by intro z;cases z);refine cr ?_;refine⟨_,rfl,rfl,_,rfl,?_⟩
 match d,hD,hn,k,one with
 |0,_,_,_,one =>
  refine cJ ?_;exact one (by unfold cntM;rfl)
 |d+1,hD,hn,k,one =>
 rw[zzr0 (by intro z;injection z with z;omega)];refine cr ?_;obtain⟨m,rfl⟩:∃m,D=m+1:=⟨D-1,by omega⟩;cases hO m rfl;have eq:cntM J0 J1 J2 ds (d+1) J6=1+((kindsF J0 J1 J2 ds J6).map fun k=>gh (k.map fun sg=>cntM J0 J1 J2 ds d (behF J2 ds J6 sg))).sum:=by
  conv=>lhs;unfold cntM
  rw[if_neg hne]
 have nb:nB (d+1)=7+25 * nB d:=rfl;have fin:∀{kv' cv':List (TK×V)}{H':Hp}{σ3:Option V},dq H0 H' kd cd kv' cv' J0 J1 J2 ds (n+nB (d+1))->Kp H H'->Gr kv kv'->aY cv' (oT J6 (d+1))=some (.int (cntM J0 J1 J2 ds (d+1) J6))->(aW (kf K (hC K V0 "known_counts") (bZ (a_ V1 V2)))) (bh Q) [some (.ref x),some (.ref u),some (.int ((d+1:Nat))),σ3] H':=by
  intro kv' cv' H' σ3 D' kp' gr' v';refine⟨_,rfl,x,Cd,dx,fs,.ref cd,rfl,D'.ks.same _ _ g0,c.cls,c.a3,l3,_,rfl,_,rfl,(by show 2<=ai;decide),fun p hp=>?_⟩;have S:ac H' (upd H' p (.tup [.ref u,.int ((d+1:Nat))])):=ac.new hp;have tk:=oS (d:=d+1) (aa (H:=H') (a:=p)) (S _ _ (kp' _ _ hu rfl));refine⟨cd,_,rfl,.inr ⟨_,oT J6 (d+1),p,.inl (S _ _ D'.hcd),rfl,dk.isIn 8 (dv _ _) tk,dv _ _,v'.symm⟩,k kv' cv' _ (D'.up S) (kp'.trans (ac.kp S)) gr'⟩
 refine⟨_,rfl,_,rfl,(by show 2<=ai;decide),fun p hp=>?_⟩;have S:ac H (upd H p (.tup [.ref u,.int ((d+1:Nat))])):=ac.new hp;have tk:=oS (d:=d+1) (aa (H:=H) (a:=p)) (S _ _ hu);generalize upd H p (.tup [.ref u,.int ((d+1:Nat))])=H1 at S tk ⊢;have D1:=Dy.up S;refine⟨_,rfl,x,Cd,dx,fs,.ref cd,rfl,D1.ks.same _ _ g0,c.cls,c.a3,l3,cd,_,rfl,.inr ⟨_,oT J6 (d+1),p,.inl D1.hcd,rfl,dk.isIn 8 (dv _ _) tk,dv _ _,rfl⟩,_,rfl,?_⟩;cases hval:aY cv (oT J6 (d+1))with
 |some w =>
  refine cr ?_;exact fin (D1.more (by omega)) (ac.kp S) (.refl _) (by rw[hval,Dy.val hval])
 |none =>
  refine cJ ?_;refine⟨_,rfl,x,dx,fs,rfl,D1.ks.same _ _ g0,l4 "kinds_at" (by decide +kernel) (by decide +kernel) (by decide +kernel),_,rfl,H0,x,sl,y,M,kd,cd,u,us,kv,cv,n,J6,J0,J1,J2,ds,rfl,St,D1,S _ _ hu,hsub,hz,by omega,fun l ks kv1 H2 hl hK D2 kp2 gr2=>⟨l,rfl,⟨_,ax.of hl⟩,fun f hf=>?_⟩⟩;have u2:=kp2 _ _ (S _ _ hu) rfl;have kl:=ut (J1:=J1) (J2:=J2) (ds:=ds) (J6:=J6) z1;refine cu (xs:=ks.map V.ref) (fun i vs H'=>∃(kv' cv':List (TK×V)),vs=(((kindsF J0 J1 J2 ds J6).take i).map fun k=>gh (k.map fun sg=>cntM J0 J1 J2 ds d (behF J2 ds J6 sg))).map V.int/\H' f=some (.lst vs)/\Kp H2 H'/\dq H0 H' kd cd kv' cv' J0 J1 J2 ds (n+1+i * (1+5 * nB d))/\Gr kv1 kv')
   ⟨kv1,cv,rfl,aa,ac.kp (ac.new hf),(D2.up (ac.new hf)).more (by omega),.refl _⟩ (fun i vs H' _ ⟨_,_,_,h',kp',_⟩=>⟨h',ax.of (kp' _ _ hl rfl)⟩) ?_ ?_
  rotate_left
  ·rintro i vs H3 w hw hi ⟨kv3,cv3,rfl,f3,kp3,D3,gr3⟩;obtain⟨q,hq,rfl⟩:=cf hw;obtain⟨kind,hkd,hat⟩:=Paired.getL hK hq;have il:i<(kindsF J0 J1 J2 ds J6).length:=(bQ.1 hkd).1;obtain⟨e1,e2⟩:=oM (cw hkd);have mul:(i+1) * (1+5 * nB d)=i * (1+5 * nB d)+(1+5 * nB d):=gZ _ _;have mul5:(i+1) * (1+5 * nB d)<=5 * (1+5 * nB d):=eo _ (by omega);refine gN (sQ ?_);refine⟨_,rfl,x,dx,fs,rfl,D3.ks.same _ _ g0,l4 "count_of" (by decide +kernel) (by decide +kernel) (by decide +kernel),_,rfl,_,rfl,_,rfl,H0,x,sl,y,M,kd,cd,u,q,us,kv3,cv3,_,d,kind,J6,J0,J1,J2,ds,rfl,by omega,by omega,St,D3,kp3 _ _ u2 rfl,hsub,hz,hat.kp kp3,e2,by omega,by omega,fun kv4 cv4 H4 D4 kp4 gr4=>?_⟩;have f4:=kp4 _ _ f3 rfl;refine⟨f4,?_,nV hi ⟨kv4,cv4,?_,aa,?_,?_,gr3.trans gr4⟩⟩
   ·rw[aj,aj,aD];exact ar (by omega)
   ·rw[take_snoc hkd,aw,aw];rfl
   ·exact fun b o e no=>by rw[ah (ae e hf)];exact kp4 _ _ (kp3 _ _ e no) no
   ·exact(D4.more (m:=n+1+(i+1) * (1+5 * nB d)) (by omega)).cell (D2.ks.same.free hf) f4
  ·rintro vs H3 ⟨kv3,cv3,rfl,f3,kp3,D3,gr3⟩;rw[aj,Paired.length hK,aZ]at f3;rw[aj,Paired.length hK]at D3;have m5:(kindsF J0 J1 J2 ds J6).length * (1+5 * nB d)<=5 * (1+5 * nB d):=eo _ kl;have D3':dq H0 H3 kd cd kv3 cv3 J0 J1 J2 ds (n+6+25 * nB d):=D3.more (by omega);have kp13:Kp H H3:=(ac.kp S).trans (kp2.trans kp3);refine⟨_,rfl,f,_,rfl,ax.of f3,_,_,rfl,rfl,_,rfl,x,Cd,dx,fs,.ref cd,rfl,D3.ks.same _ _ g0,c.cls,c.a3,l3,_,rfl,_,rfl,(by show 2<=ai;decide),fun p2 hp2=>?_⟩;have S4:ac H3 (upd H3 p2 (.tup [.ref u,.int ((d+1:Nat))])):=ac.new hp2;have tk4:=oS (d:=d+1) (aa (H:=H3) (a:=p2)) (S4 _ _ (kp13 _ _ hu rfl));generalize upd H3 p2 (.tup [.ref u,.int ((d+1:Nat))])=H4 at S4 tk4 ⊢;have D4:=D3'.up S4;have cl:=D4.clen;refine⟨cd,_,rfl,.inr ⟨_,oT J6 (d+1),p2,D4.hcd,rfl,tk4,dv _ _,by rw[tT];omega,rfl⟩,?_⟩;dsimp only;rw[<-eq];have D5:=D4.put (J6:=J6) (d:=d+1) St.cdn St.ne;refine fin (D5.more (by omega)) ((kp13.trans (ac.kp S4)).trans (Kp.upd D4.hcd rfl)) (gr2.trans gr3) ?_;rw[g_,if_pos rfl]
def gk(H:Hp)(a:Addr):Hp:=fun b=>if b=a then none else H b
theorem fb(H:Hp)(a:Addr):gk H a a=none:=if_pos rfl
theorem ee{H:Hp}{a b:Addr}(h:b≠a):gk H a b=H b:=if_neg h
theorem oO{H:Hp}{a:Addr}:ac (gk H a) H:=fun b o e=>by
 by_cases c:b=a
 ·rw[c,fb]at e;cases e
 ·rw[ee c]at e;exact e
theorem wu{H0 H:Hp}{a:Addr}(S:ac H0 H)(h:H0 a=none):ac H0 (gk H a):=fun b o e=>by rw[ee (ae e h)];exact S _ _ e
inductive i6(Cm Ck Cd:Addr)(vs:List V)(H:Hp)(Q:VK)(E:XK):Prop
 |mk (H0:Hp) (x dx M:Addr) (J0 J1 J2:Zb) (ds:List am):(vs=[.ref x,.ref M])->(H x=some (.ins Cd dx []))->(bO Cm H0 M J0 J1 J2 ds)->(H0 x=none)->(ac H0 H) ->
  (∀(Hs:Hp) (sl y kd cd:Addr) (us:Ze) (H':Hp),yy Cm Ck Cd Hs x sl y M kd cd us J0 J1 J2 ds->dq Hs H' kd cd [] [] J0 J1 J2 ds 0->ac H0 Hs->Q .non H')->i6 Cm Ck Cd vs H Q E
theorem Bo{K:Za}{Cm Ck Cd:Addr}(c:DC K Cd){vs:List V}{H:Hp}{Q:VK}{E:XK}(h:i6 Cm Ck Cd vs H Q E):pM K Ck (kP Ck) Cm (mU Cm) (bh Q) (start qb vs) H:=by
 obtain⟨H0,x,dx,M,J0,J1,J2,ds,rfl,hx,MA,hx0,S0,k⟩:=h;have up:∀{H1 H2:Hp}{o:HO},ac H0 H1->H2=upd H1 x o->ac H0 H2:=fun S e b o q=>by rw[e,ah (ae q hx0)];exact S _ _ q
 have z2:=MA.ok.says4;have M0:=MA.same S0;obtain⟨dm,fm,o1,o2,lv,lps,g1,a1,a2,_⟩:=rF M0;refine⟨_,rfl,M,dm,fm,rfl,g1,a2,M,J0,J1,J2,ds,rfl,M0,fun w hw=>⟨w,rfl,⟨_,ax.of aa⟩,fun sl hsl=>?_⟩⟩;have Sw:ac H (upd H w (.lst (J1.map V.str))):=ac.new hw;refine jE (kd:="say") (ws:=J1) aa (by omega) hsl fun us H2 h2 hP2 S2=>?_;have Sa:=Sw.trans S2;refine⟨_,rfl,x,Cd,dx,[],rfl,Sa _ _ hx,c.cls,c.a1,(by decide),?_⟩;obtain⟨H3,e3,hx3,X3⟩:=oP "says_signs" (.ref sl) (Sa _ _ hx);rw[<-e3];have S3:=up (S0.trans Sa) e3;have len1:(cE ("says_signs":Str) (.ref sl) []).length<=1:=dS _ _ _;have nsl:sl≠x:=fun z=>by rw[z]at h2;rw[Sa _ _ hx]at h2;cases h2
 have sl3:=X3 _ _ h2 nsl;have kt3:ig H2 H3:=fun b xs e=>X3 _ _ e fun z=>by rw[z,Sa _ _ hx]at e;cases e
 have sg3:=kG.kt kt3 hP2;refine⟨_,rfl,fun y dy hy hdy ney=>?_⟩;have S4:ac H3 (upd (upd H3 dy (.own y)) y (.ins Ck dy [])):=fun b o e=>by rw[ah (ae e hy)];exact kp e hdy
 generalize hH4:upd (upd H3 dy (.own y)) y (.ins Ck dy [])=H4 at S4 ⊢;have y4:H4 y=some (.ins Ck dy []):=by rw[<-hH4];exact aa
 refine⟨y,dy,M,rfl,y4,fun kd fy H5 y5 m1 m2 m3 kd5 kdn ex5=>⟨rfl,?_⟩⟩;have n3:∀{b:Addr}{o:HO},H3 b=some o->H5 b=some o:=fun e=>ex5 _ _ (S4 _ _ e) (ae e hy);have hx5:=n3 hx3;refine⟨_,rfl,x,Cd,dx,_,rfl,hx5,c.cls,c.a2,by omega,?_⟩;obtain⟨H6,e6,hx6,X6⟩:=oP "known_steps" (.ref y) hx5;rw[<-e6];have S6:ac H0 H6:=up (fun b o e=>n3 (S3 _ _ e)) e6;have len2:=dS ("known_steps":Str) (.ref y) (cE ("says_signs":Str) (.ref sl) []);have nyx:y≠x:=(ae hx3 hy).symm;have nkx:kd≠x:=(ae (S4 _ _ hx3) kdn).symm;have y6:=X6 _ _ y5 nyx;have kd6:=X6 _ _ kd5 nkx;have sl6:=X6 _ _ (n3 sl3) nsl;have kt6:ig H3 H6:=fun b xs e=>X6 _ _ (n3 e) fun z=>by rw[z,hx3]at e;cases e
 have sg6:=kG.kt kt6 sg3;have kd0:H0 kd=none:=(S3.trans S4).free kdn;refine fun cd hcd=>⟨_,rfl,x,Cd,dx,_,rfl,kp hx6 hcd,c.cls,c.a3,by omega,?_⟩;obtain⟨H8,e8,hx8,X8⟩:=oP "known_counts" (.ref cd) (kp (x:=.dT []) hx6 hcd);rw[<-e8];have S8:ac H0 H8:=up (S6.trans (ac.new hcd)) e8;have ncx:cd≠x:=(ae hx6 hcd).symm;have cd8:=X8 _ _ aa ncx;have n8:∀{b:Addr}{o:HO},H6 b=some o->b≠x->H8 b=some o:=fun e n=>X8 _ _ (kp e hcd) n;have cd0:H0 cd=none:=S6.free hcd;have nkc:kd≠cd:=ae kd6 hcd;have kt8:ig H6 (gk (gk H8 kd) cd):=fun b xs e=>by
  rw[ee (ae e hcd),ee (fun z=>by rw[z,kd6]at e;cases e)];exact n8 e fun z=>by rw[z,hx6]at e;cases e
 have nd:∀{b:Addr}{o:HO},H8 b=some o->b≠kd->b≠cd->gk (gk H8 kd) cd b=some o:=fun e n1 n2=>by rw[ee n2,ee n1];exact e
 have ndk:∀{b:Addr}{o:HO},H6 b=some o->GR o=true->b≠kd/\b≠cd:=fun e n=>⟨fun z=>(by rw[z,kd6]at e;cases e;cases n),ae e hcd⟩;have SH:ac H0 (gk (gk H8 kd) cd):=wu (wu S8 kd0) cd0;have SS:ac (gk (gk H8 kd) cd) H8:=oO.trans oO;refine k (gk (gk H8 kd) cd) sl y kd cd us H8 ⟨⟨MA.same SH,⟨dy,fy,?_,m1,m2,m3⟩,?_⟩,⟨dx,_,nd hx8 nkx.symm ncx.symm,?_,?_,?_,?_⟩,?_,kG.kt kt8 sg6,fb _ _,nkc⟩ ⟨⟨SS,n8 kd6 nkx,fun _ h=>(by cases h),ay _⟩,fun _ h=>(by cases h),cd8,fun _ h=>(by cases h),ay _⟩ SH
 ·obtain⟨q1,q2⟩:=ndk y6 rfl;exact nd (n8 y6 nyx) q1 q2
 ·rw[ee nkc];exact fb _ _
 ·show fL _ _=_;repeat (rw[bb];first|rw[if_pos rfl] | rw[if_neg (by decide +kernel)])
 ·show fL _ _=_;repeat (rw[bb];first|rw[if_pos rfl] | rw[if_neg (by decide +kernel)])
 ·show fL _ _=_;repeat (rw[bb];first|rw[if_pos rfl] | rw[if_neg (by decide +kernel)])
 ·intro f q1 q2 q3;show fL _ _=_;rw[bb,if_neg q3,bb,if_neg q2,bb,if_neg q1];rfl
 ·obtain⟨q1,q2⟩:=ndk sl6 rfl;exact nd (n8 sl6 nsl) q1 q2
open Classical in
theorem sC{J2:Zb}{ds:List am}(h:J2≠[]):closF J2 ds (J2.take 1)≠[]:=by
 cases J2 with
 |nil=>exact absurd rfl h
 |cons r rs =>
  intro z;have:r∈closF (r::rs) ds ((r::rs).take 1):=eU.2 ⟨dE,zzr1 ⟨r,by simp,.inl rfl⟩⟩;rw[z]at this;cases this
inductive jx(Cm:Addr)(vs:List V)(H:Hp)(Q:VK)(E:XK):Prop
 |mk (M:Addr) (d:Nat) (J0 J1 J2:Zb) (ds:List am):(vs=[.ref M,.int (d:Nat)])->(d<=4)->(bO Cm H M J0 J1 J2 ds)->(∀H',ac H H'->Q (.int (cntM J0 J1 J2 ds d (closF J2 ds (J2.take 1)))) H')->jx Cm vs H Q E
theorem GS:∀d,d<=4->nB d<=200000:=by
 intro d hd
 match d,hd with
 |0,_=>decide
 |1,_=>decide
 |2,_=>decide
 |3,_=>decide
 |4,_=>decide
theorem y3{K:Za}{Cm Ck Cd:Addr}(c:DC K Cd){vs:List V}{H:Hp}{Q:VK}{E:XK}(h:jx Cm vs H Q E):pG K Cd (i6 Cm Ck Cd) (fA Cm Ck Cd 4) (bD Cm) sp_need_depth (bh Q) (start pZ vs) H:=by
 obtain⟨M,d,J0,J1,J2,ds,rfl,hd,MA,k⟩:=h;have z3:=MA.ok.rooms26;refine⟨_,rfl,d,rfl,hd,?_⟩;refine⟨_,rfl,fun x dx hx hdx ne=>?_⟩;have S0:ac H (upd (upd H dx (.own x)) x (.ins Cd dx [])):=fun b o e=>by rw[ah (ae e hx)];exact kp e hdx
 refine⟨H,x,dx,M,J0,J1,J2,ds,rfl,aa,MA,hx,S0,fun Hs sl y kd cd us H1 St Dy S1=>⟨rfl,?_⟩⟩;obtain⟨dx1,fs1,g1,_,_,_,l4⟩:=St.ob;refine⟨x,dx1,fs1,rfl,Dy.ks.same _ _ g1,l4 "count_at" (by decide +kernel) (by decide +kernel) (by decide +kernel),_,rfl,M,J0,J1,J2,ds,rfl,St.ks.mach.same Dy.ks.same,fun t F H2 ht hF S2=>?_⟩;rw[ji hF]at ht;have:=GS d hd;refine⟨_,rfl,Hs,x,sl,y,M,kd,cd,us,.ref t,[],[],0,d,_,J0,J1,J2,ds,rfl,hd,St,Dy.up S2,.inr ⟨t,rfl,ht⟩,fun _=>sC MA.ok.rooms0,k6,aE jh (by omega),by omega,fun kv' cv' H' D' _ _=>k H' (S1.trans D'.ks.same)⟩
theorem yb{K:Za}{fi:List Nat}{σ:L2.St}{H:Hp}{a th l:Addr}{ws F:Zb}{Q:Hp->Prop}(e:c_ 1 fi σ=[none,some (.ref th)])(ha:H a=some (.lst (ws.map V.str)))(hth:H th=some (.lst (F.map V.str)))(hz:ws.length<=1000)(hl:H l=none)
  (k:∀H',H' l=some (.lst ((ws.filter fun r=>decide (r∈F)).map V.str))->ac H H'->Q H') :
  du 1 fi σ (Ea K a) U0 (ba (aI (tI K false) V0 V1)) V0 H l Q:=by
 refine cu (xs:=ws.map V.str) (fun i vs H'=>vs=((ws.take i).filter fun r=>decide (r∈F)).map V.str/\ac H H'/\H' l=some (.lst vs)) ⟨rfl,ac.new hl,aa⟩ (fun i vs H' _ ⟨_,S,h'⟩=>⟨h',ax.of (S _ _ ha)⟩) ?_ ?_
 ·rintro vs H' ⟨rfl,S,f'⟩;rw[aj,aZ]at f';exact k H' f' S
 ·rintro i vs H' x' hx' hi ⟨rfl,S,f'⟩;obtain⟨r,hr,rfl⟩:=bY hx';rw[e];refine gN ?_;refine⟨_,rfl,_,rfl,gl r,F.map gl,th,_,pB r,rfl,.inl (ax.of (S _ _ hth)),ml _,(by show 0<=8;decide),by rw[ie];decide,_,rfl,?_⟩;rw[if_neg gm,ww];have hlen:(((ws.take i).filter fun r=>decide (r∈F)).map V.str).length<ai:=by
   rw[aj];refine ar (aE (cC _ _) ?_);rw[aD];omega
  refine kr (fun hq=>?_) (fun hq=>?_)
  ·refine⟨_,rfl,f',hlen,nV hi ⟨?_,?_,aa⟩⟩
   ·rw[bP hr,if_pos hq,aw];rfl
   ·intro b o q;rw[ah (ae q hl)];exact S _ _ q
  ·refine nV hi ⟨?_,S,f'⟩;rw[bP hr,if_neg hq,ei]
theorem ED{K:Za}{vs:List V}{H:Hp}{Q:VK}{E:XK}(h:vW K vs H Q E):sU K (gf K) (bh Q) (start tO vs) H:=by
 obtain⟨t,ft,s,l1,l2,l3,l4,ts,J0,J1,J2,J6,sg,ds,rfl,T,m,hft,hs,hz,k⟩:=h;have z3:=m.rooms26;have z4:=m.few;refine⟨_,rfl,t,_,rfl,bC.of T.t,rfl,_,_,rfl,_,_,rfl,_,_,rfl,_,_,rfl,rfl,?_⟩;refine⟨_,rfl,(by show 1<=ai;decide),fun hh hhh=>⟨jc sg,jc bJ,bN (bC.same (ac.new hhh) hs),bN (bC.of aa),by rw[bL];decide,by rw[bL];decide,_,rfl,?_⟩⟩;rw[jC];have Sn:ac H (upd H hh (.tup [.str "hush"])):=ac.new hhh;generalize upd H hh (.tup [.str "hush"])=H1 at Sn ⊢;have T1:=T.same Sn;have ft1:=Sn _ _ hft;have hs1:=bC.same Sn hs;by_cases c:sg=bJ
 ·rw[zzr1 c];refine cJ ?_;refine⟨_,rfl,l4,rfl,⟨_,ax.of T1.a4⟩,fun f hf=>?_⟩;refine cu (xs:=ts.map V.ref) (fun i vs H'=>vs=(fE (ds.take i)).map V.str/\ac H1 H'/\H' f=some (.lst vs)) ⟨rfl,ac.new hf,aa⟩ (fun i vs H' _ ⟨_,S,h'⟩=>⟨h',ax.of (S _ _ T1.a4)⟩) ?_ ?_;rotate_left
  ·rintro i vs H' x' hx' hi ⟨rfl,S,f'⟩;obtain⟨t',ht',rfl⟩:=cf hx';obtain⟨dr,hdr,hat⟩:=Paired.getL T1.ds ht';obtain⟨s',ht2,hs2⟩:=hat.kt (ac.kt S);obtain⟨s0,rest,hsg,ea⟩:=Bj (m.good dr (cw hdr));unfold SignAt at hs2;rw[hsg]at hs2;refine gN ?_;refine⟨_,rfl,t',_,1,_,rfl,rfl,bC.of ht2,rfl,s',_,0,.str s0,rfl,rfl,bC.of hs2,bW (j:=0) rfl,rfl,_,rfl,?_⟩;rw[ea];refine kr (fun hq=>?_) (fun hq=>?_)
   ·refine⟨_,rfl,t',_,0,_,rfl,rfl,bC.of ht2,rfl,f',?_,nV hi ⟨?_,?_,aa⟩⟩
    ·rw[aj];unfold fE;rw[aj];refine ar (aE (cC _ _) ?_);rw[aD];omega
    ·rw[uo hdr,if_pos hq,aw];rfl
    ·intro b o q;rw[ah (ae q hf)];exact S _ _ q
   ·refine nV hi ⟨?_,S,f'⟩;rw[uo hdr,if_neg hq,ei]
  rintro vs H2 ⟨rfl,S2,f2⟩;rw[aj,Paired.length T1.ds,aZ]at f2;have ft2:=S2 _ _ ft1;refine⟨_,rfl,ft,rfl,⟨_,bC.of ft2⟩,fun g hg=>?_⟩;refine ya (xs:=J6.map V.str) (fun i vs H'=>vs=((J6.take i).filter fun r=>decide (r∉fE ds)).map V.str/\ac H2 H'/\H' g=some (.lst vs)) ⟨rfl,ac.new hg,aa⟩ (fun i vs H' _ ⟨_,S,h'⟩=>⟨h',bC.of (S _ _ ft2)⟩) ?_ ?_
  ·rintro vs H' ⟨rfl,S,f'⟩;rw[aj,aZ]at f';refine⟨g,_,rfl,.inl ⟨ax.of f',fun t' ht'=>k t' _ ?_ (((Sn.trans S2).trans S).trans (ac.new ht'))⟩⟩;rw[aa];unfold behF;rw[if_pos c]
  ·rintro i vs H' x' hx' hi ⟨rfl,S,f'⟩;obtain⟨r,hr,rfl⟩:=bY hx';refine gN ?_;refine⟨_,rfl,_,rfl,gl r,(fE ds).map gl,f,_,pB r,rfl,.inl (ax.of (S _ _ f2)),ml _,(by show 0<=8;decide),by rw[ie];decide,_,rfl,?_⟩;rw[if_pos rfl,ww];have ed:(!decide (r∈fE ds))=decide (r∉fE ds):=by simp
   rw[ed];have hlen:(((J6.take i).filter fun r=>decide (r∉fE ds)).map V.str).length<ai:=by
    rw[aj];refine ar (aE (cC _ _) ?_);rw[aD];omega
   refine kr (fun hq=>?_) (fun hq=>?_)
   ·refine⟨_,rfl,f',hlen,nV hi ⟨?_,?_,aa⟩⟩
    ·rw[bP hr,if_pos hq,aw];rfl
    ·intro b o q;rw[ah (ae q hg)];exact S _ _ q
   ·refine nV hi ⟨?_,S,f'⟩;rw[bP hr,if_neg hq,ei]
 ·rw[zzr0 c];refine cr ?_;refine⟨_,rfl,_,rfl,l4,rfl,⟨_,ax.of T1.a4⟩,fun f hf=>?_⟩;refine cu (xs:=ts.map V.ref) (fun i vs H'=>∃G:List Str,vs=G.map V.str/\ac H1 H'/\H' f=some (.lst vs)/\G.length<=i/\∀g,g∈G↔∃d∈ds.take i,d.a∈J6/\d.sg=sg/\d.b=g)
   ⟨[],rfl,ac.new hf,aa,ay _,fun g=>⟨fun h=>(by cases h),fun⟨_,h,_⟩=>by simp at h⟩⟩ (fun i vs H' _ ⟨_,_,S,h',_⟩=>⟨h',ax.of (S _ _ T1.a4)⟩) ?_ ?_
  rotate_left
  ·rintro i vs H' x' hx' hi ⟨G,rfl,S,f',hl,hG⟩;obtain⟨u,hu,rfl⟩:=cf hx';obtain⟨dr,hdr,hatd⟩:=Paired.getL T1.ds hu;obtain⟨sb,ht2,hs2⟩:=hatd.kt (ac.kt S);have hi':i<ds.length:=(bQ.mp hdr).1;have hstep:∀g,(∃d∈ds.take (i+1),d.a∈J6/\d.sg=sg/\d.b=g)↔((∃d∈ds.take i,d.a∈J6/\d.sg=sg/\d.b=g)∨(dr.a∈J6/\dr.sg=sg/\dr.b=g)):=by
    intro g;rw[take_snoc hdr];simp only[bw,fN,or_and_right,exists_or,exists_eq_left]
   have keep:¬(dr.a∈J6/\dr.sg=sg)->∃m',m'<(ts.map V.ref).length-i/\Wc (ts.map V.ref).length (fun i vs H'=>∃G:List Str,vs=G.map V.str/\ac H1 H'/\H' f=some (.lst vs)/\G.length<=i/\∀g,g∈G↔∃d∈ds.take i,d.a∈J6/\d.sg=sg/\d.b=g) (i+1) m' (G.map V.str) H':=by
    intro z;refine nV hi ⟨G,rfl,S,f',by omega,fun g=>?_⟩;rw[hstep,hG];exact⟨.inl,fun h=>h.elim id fun h=>absurd ⟨h.1,h.2.1⟩ z⟩
   refine gN ?_;refine⟨_,rfl,u,_,0,_,rfl,rfl,bC.of ht2,rfl,_,rfl,gl dr.a,J6.map gl,ft,_,pB _,rfl,.inr (bC.of (S _ _ ft1)),ml _,(by show 0<=8;decide),by rw[ie];decide,_,rfl,?_⟩;rw[if_neg gm,ww];by_cases c1:dr.a∈J6;rotate_left
   ·rw[zzr0 c1];exact cr (cr (keep fun z=>c1 z.1))
   rw[zzr1 c1];refine cJ ?_;refine⟨_,rfl,u,_,1,_,rfl,rfl,bC.of ht2,rfl,_,rfl,jc dr.sg,jc sg,bN (bC.of hs2),bN (bC.same S hs1),by rw[bL];decide,by rw[bL];decide,_,rfl,?_⟩;rw[jC];by_cases c2:dr.sg=sg;rotate_left
   ·rw[zzr0 c2];exact cr (keep fun z=>c2 z.2)
   rw[zzr1 c2];refine cJ ?_;refine⟨_,rfl,u,_,2,_,rfl,rfl,bC.of ht2,rfl,f',by rw[aj];exact ar (by omega),nV hi ⟨G++[dr.b],by rw[aw];rfl,?_,aa,by rw[aU];show G.length+1<=i+1;omega,fun g=>?_⟩⟩
   ·intro b o q;rw[ah (ae q hf)];exact S _ _ q
   ·rw[hstep,<-hG,bw];simp only[fN];exact⟨fun h=>h.imp id fun h=>⟨c1,c2,h.symm⟩,fun h=>h.imp id fun h=>h.2.2.symm⟩
  rintro vs H2 ⟨G,rfl,S2,f2,hl,hG⟩;rw[aj,Paired.length T.ds]at hl;rw[aj,Paired.length T.ds,aZ]at hG;have T2:=T1.same S2;refine⟨l4,f,ts,ds,G,J2,rfl,T2.a4,T2.ds,f2,fun d hd=>(m.good d hd).b,by omega,by omega,fun th F H3 hth hF hFl fr S3=>?_⟩;have T3:=T2.same S3;refine⟨_,rfl,l3,rfl,⟨_,ax.of T3.a3⟩,fun g hg=>?_⟩;refine yb rfl T3.a3 hth (by omega) hg fun H4 h4 S4=>?_;refine⟨g,_,rfl,.inl ⟨ax.of h4,fun t' ht'=>k t' _ ?_ ((((Sn.trans S2).trans S3).trans S4).trans (ac.new ht'))⟩⟩;rw[aa,ji hF];unfold behF;rw[if_neg c]
  suffices e0:closF J2 ds G=closF J2 ds (cT ds sg J6) by rw[e0]
  refine yf fun g=>?_;rw[hG,nG];constructor
  ·rintro⟨⟨a,sgd,b⟩,hd,h1,h2,h3⟩;simp only at h1 h2 h3;subst h2 h3;exact⟨a,h1,hd⟩
  ·rintro⟨r,hr,h⟩;exact⟨_,h,hr,rfl,rfl⟩
inductive m8(vs:List V)(H:Hp)(Q:VK)(E:XK):Prop
 |mk (t l1 l2 l3 l4:Addr) (ts:Ze) (J0 J1 J2:Zb) (ds:List am):(vs=[.ref t])->(iR H t l1 l2 l3 l4 ts J0 J1 J2 ds)->(b9 J0 J1 J2 ds)->(∀(t':Addr) (H':Hp),H' t'=some (.tup ((closF J2 ds (J2.take 1)).map V.str))->ac H H'->Q (.ref t') H')->m8 vs H Q E
theorem CO{K:Za}{vs:List V}{H:Hp}{Q:VK}{E:XK}(h:m8 vs H Q E):xn K (gf K) (bh Q) (start yt vs) H:=by
 obtain⟨t,l1,l2,l3,l4,ts,J0,J1,J2,ds,rfl,T,m,k⟩:=h;have z3:=m.rooms26;obtain⟨r0,rs,e⟩:∃r0 rs,J2=r0::rs:=by
  cases e:J2 with
  |nil=>exact absurd e m.rooms0
  |cons a b=>exact⟨a,b,rfl⟩
 have at0:wH (J2.map V.str) 0=some (.str r0):=by rw[e];exact bW (j:=0) rfl
 have e1:J2.take 1=[r0]:=by rw[e];rfl
 refine⟨_,rfl,.inr (.inl ⟨t,_,3,_,rfl,rfl,bC.of T.t,rfl,_,rfl,.inr (.inl ⟨t,_,2,_,rfl,rfl,bC.of T.t,rfl,.inl ⟨l3,_,0,_,rfl,rfl,ax.of T.a3,at0,(by show 1<=ai;decide),fun l hl=>?_⟩⟩)⟩)⟩;have S1:ac H (upd H l (.lst [.str r0])):=ac.new hl;have h1:upd H l (.lst [.str r0]) l=some (.lst ([r0].map V.str)):=aa;generalize upd H l (.lst [.str r0])=H1 at S1 h1 ⊢;have T1:=T.same S1;refine⟨l4,l,ts,ds,[r0],J2,rfl,T1.a4,T1.ds,h1,fun d hd=>(m.good d hd).b,by omega,by show 1<=1000;decide,fun th F H2 hth hF hFl fr S2=>?_⟩;have T2:=T1.same S2;refine⟨_,rfl,.inr (.inl ⟨t,_,2,_,rfl,rfl,bC.of T2.t,rfl,l3,rfl,⟨_,ax.of T2.a3⟩,fun g hg=>?_⟩)⟩;refine yb rfl T2.a3 hth (by omega) hg fun H4 h4 S4=>?_;refine⟨g,_,rfl,.inl ⟨ax.of h4,fun t' ht'=>k t' _ ?_ (((S1.trans S2).trans S4).trans (ac.new ht'))⟩⟩;rw[aa,ji hF,e1]

def tM:Option Str->V
 |none=>.non
 |some a=>.str a
def bt(J1:Zb):Option Str->List Sg
 |none=>J1.map dF++[bJ]
 |some a=>dW a::J1.map dF
inductive kh(vs:List V)(H:Hp)(Q:VK)(E:XK):Prop
 |mk (t l1 l2 l3 l4:Addr) (ts:Ze) (ask:Option Str) (J0 J1 J2:Zb) (ds:List am):(vs=[.ref t,tM ask])->(iR H t l1 l2 l3 l4 ts J0 J1 J2 ds)->(J1.length<=4)->(∀(l:Addr) (us:Ze) (H':Hp),H' l=some (.lst (us.map V.ref))->kG H' us (bt J1 ask)->ac H H'->Q (.ref l) H')->kh vs H Q E
theorem CI{K:Za}{vs:List V}{H:Hp}{Q:VK}{E:XK}(h:kh vs H Q E):oq K (bh Q) (start oX vs) H:=by
 obtain⟨t,l1,l2,l3,l4,ts,ask,J0,J1,J2,ds,rfl,T,z2,k⟩:=h;refine⟨_,rfl,.inr (.inl ⟨t,_,1,_,rfl,rfl,bC.of T.t,rfl,l2,rfl,⟨_,ax.of T.a2⟩,fun ls hls=>?_⟩)⟩;refine jE (kd:="say") (ws:=J1) T.a2 (by omega) hls fun us H1 h1 hP S1=>?_;have zu:us.length<=4:=by rw[Paired.length hP,aj];exact z2
 refine⟨_,rfl,_,rfl,?_⟩;cases ask with
 |none =>
  refine cJ ⟨_,rfl,(by show 1<=ai;decide),fun ht hht=>⟨(by show 1<=ai;decide),fun hl hhl=>?_⟩⟩;have S2:ac H1 (upd (upd H1 ht (.tup [.str "hush"])) hl (.lst [.ref ht])):=(ac.new hht).trans (ac.new hhl);have ht2:upd (upd H1 ht (.tup [.str "hush"])) hl (.lst [.ref ht]) ht=some (.tup (bJ.map V.str)):=kp aa hhl;have hl2:upd (upd H1 ht (.tup [.str "hush"])) hl (.lst [.ref ht]) hl=some (.lst [.ref ht]):=aa;generalize upd (upd H1 ht (.tup [.str "hush"])) hl (.lst [.ref ht])=H2 at S2 ht2 hl2 ⊢;refine⟨ls,hl,_,_,rfl,rfl,S2 _ _ h1,hl2,by rw[aj];exact cL (ar (by show _+1<=1000;omega)),fun r hr=>?_⟩;have S3:ac H2 (upd H2 r (.lst (us.map V.ref++[.ref ht]))):=ac.new hr;exact k r (us++[ht]) _ (by rw[aa,aw];rfl) (Paired.app (kG.kt (ac.kt (S2.trans S3)) hP) (.cons (S3 _ _ ht2) .nil)) ((S1.trans S2).trans S3)
 |some a =>
  refine cr ⟨_,rfl,(by show 2<=ai;decide),fun ht hht=>⟨(by show 1<=ai;decide),fun hl hhl=>?_⟩⟩;have S2:ac H1 (upd (upd H1 ht (.tup [.str "ask",.str a])) hl (.lst [.ref ht])):=(ac.new hht).trans (ac.new hhl);have ht2:upd (upd H1 ht (.tup [.str "ask",.str a])) hl (.lst [.ref ht]) ht=some (.tup ((dW a).map V.str)):=kp aa hhl;have hl2:upd (upd H1 ht (.tup [.str "ask",.str a])) hl (.lst [.ref ht]) hl=some (.lst [.ref ht]):=aa;generalize hH2:upd (upd H1 ht (.tup [.str "ask",.str a])) hl (.lst [.ref ht])=H2 at S2 ht2 hl2;have S2':=S2;refine⟨_,rfl,hl,ls,_,_,rfl,rfl,(by show upd (upd H1 ht (.tup [.str "ask",.str a])) hl (.lst [.ref ht]) hl=_;exact aa),(by show upd (upd H1 ht (.tup [.str "ask",.str a])) hl (.lst [.ref ht]) ls=_;rw[hH2];exact S2 _ _ h1),by rw[aj];exact cL (ar (by show 1+_<=1000;omega)),fun r hr=>?_⟩
  change upd (upd H1 ht (.tup [.str "ask",.str a])) hl (.lst [.ref ht]) r=none at hr
  show Q (.ref r) (upd (upd (upd H1 ht (.tup [.str "ask",.str a])) hl (.lst [.ref ht])) r (.lst ([.ref ht]++us.map V.ref)));rw[hH2]at hr ⊢;have S3:ac H2 (upd H2 r (.lst ([.ref ht]++us.map V.ref))):=ac.new hr;exact k r (ht::us) _ aa (.cons (S3 _ _ ht2) (kG.kt (ac.kt (S2.trans S3)) hP)) ((S1.trans S2).trans S3)
def wX(J6:Zb)(sg:Sg):TK:=.t [fg J6,fg sg]
theorem Fg{f g:Zb}{a b:Sg}(h:wX f a=wX g b):f=g/\a=b:=by
 unfold wX at h;injection h with h;injection h with h1 h2;injection h2 with h2 _;exact⟨fF h1,fF h2⟩
theorem AS{f g:Zb}{a:Sg}{d:Nat}(h:wX f a=oT g d):False:=by
 unfold wX oT fg at h;injection h with h;injection h with h1 h2;injection h2 with h2 _;cases h2
theorem je(f:Zb)(a:Sg):(wX f a).depth<=8:=by
 show max (fg f).depth (max (fg a).depth 0)+1<=8;rw[iZ,iZ];decide
theorem zO{H:Hp}{p u s:Addr}{J6:Zb}{sg:Sg}(hp:H p=some (.tup [.ref u,.ref s]))(hu:H u=some (.tup (J6.map V.str)))(hs:H s=some (.tup (sg.map V.str))):dk H (wX J6 sg) (.ref p):=by
 unfold wX dk;refine⟨p,_,rfl,hp,?_⟩;unfold TKAts;refine⟨_,_,rfl,SignAt.tk hu,?_⟩;unfold TKAts;exact⟨_,_,rfl,SignAt.tk hs,by unfold TKAts;rfl⟩
def Fh(X:TK×V->Prop):Prop:=∀p,X p->(∀f s,p.1≠wX f s)/\∀f d,p.1≠oT f d
structure cU(X:TK×V->Prop)(H:Hp)(kd:Addr)(kv:List (TK×V))(J0 J1 J2:Zb)(ds:List am)(n:Nat):Prop where
 hkd:H kd=some (.dT kv)
 kok:∀p∈kv,(∃(J6:Zb) (sg:Sg) (u:Addr),p=(wX J6 sg,.ref u)/\H u=some (.tup ((behF J2 ds J6 sg).map V.str)))∨(∃(J6:Zb) (d:Nat),p=(oT J6 d,.int (cntM J0 J1 J2 ds d J6)))∨X p
 len:kv.length<=n
section
variable{X:TK×V->Prop}{H H':Hp}{kd f:Addr}{kv:List (TK×V)}{J0 J1 J2 J6:Zb}{ds:List am}{n m:Nat}
theorem cU.kt(h:cU X H kd kv J0 J1 J2 ds n)(e:H' kd=some (.dT kv))(k:ig H H'):cU X H' kd kv J0 J1 J2 ds n:=⟨e,fun p hp=>(h.kok p hp).imp (fun⟨f,s,u,e,q⟩=>⟨f,s,u,e,k _ _ q⟩) id,h.len⟩
theorem cU.up(h:cU X H kd kv J0 J1 J2 ds n)(S:ac H H'):cU X H' kd kv J0 J1 J2 ds n:=h.kt (S _ _ h.hkd) (ac.kt S)
theorem cU.more(h:cU X H kd kv J0 J1 J2 ds n)(l:n<=m):cU X H kd kv J0 J1 J2 ds m:=⟨h.hkd,h.kok,aE h.len l⟩
theorem cU.cell{xs ys:List V}(h:cU X H kd kv J0 J1 J2 ds n)(hf:H f=some (.lst xs)):cU X (upd H f (.lst ys)) kd kv J0 J1 J2 ds n:=h.kt (by rw[ah (fun z=>by have:=h.hkd;rw[z,hf]at this;cases this)];exact h.hkd) (eM hf)
theorem cU.put{k:TK}{v:V}(h:cU X H kd kv J0 J1 J2 ds n)(q:(∃(J6:Zb) (sg:Sg) (u:Addr),(k,v)=(wX J6 sg,.ref u)/\H u=some (.tup ((behF J2 ds J6 sg).map V.str)))∨(∃(J6:Zb) (d:Nat),(k,v)=(oT J6 d,.int (cntM J0 J1 J2 ds d J6)))∨X (k,v)):
  cU X (upd H kd (.dT (c7 kv k v))) kd (c7 kv k v) J0 J1 J2 ds (n+1):=by
 have kt:ig H (upd H kd (.dT (c7 kv k v))):=Gd h.hkd;refine⟨aa,fun p hp=>?_,aE (e_ _ _ _) (Nat.succ_le_succ h.len)⟩;rcases xR hp with hp|rfl
 ·exact(h.kok p hp).imp (fun⟨f,s,u,e,q⟩=>⟨f,s,u,e,kt _ _ q⟩) id
 ·exact q.imp (fun⟨f,s,u,e,q⟩=>⟨f,s,u,e,kt _ _ q⟩) id
theorem cU.val(hX:Fh X){sg:Sg}{w:V}(h:cU X H kd kv J0 J1 J2 ds n)(v:aY kv (wX J6 sg)=some w):∃u,w=.ref u/\H u=some (.tup ((behF J2 ds J6 sg).map V.str)):=by
 rcases h.kok _ (fw v)with⟨f,s,u,e,q⟩|⟨f,d,e⟩|hx
 ·injection e with e1 e2;obtain⟨rfl,rfl⟩:=Fg e1;exact⟨u,e2,q⟩
 ·injection e with e1 _;exact(AS e1).elim
 ·exact absurd rfl ((hX _ hx).1 J6 sg)
theorem cU.cnt(hX:Fh X){d:Nat}{w:V}(h:cU X H kd kv J0 J1 J2 ds n)(v:aY kv (oT J6 d)=some w):w=.int (cntM J0 J1 J2 ds d J6):=by
 rcases h.kok _ (fw v)with⟨f,s,u,e,q⟩|⟨f,d',e⟩|hx
 ·injection e with e1 _;exact(AS e1.symm).elim
 ·injection e with e1 e2;obtain⟨rfl,rfl⟩:=AM e1;exact e2
 ·exact absurd rfl ((hX _ hx).2 J6 d)
end
theorem bg.sameH{p:Addr}{H0 H H':Hp}(S:ac H0 H)(h:H0 p=none)(e:bg p H H'):ac H0 H':=fun b o q=>e b o (S b o q) (ae q h)
theorem ac.exBs{p:Addr}{H H':Hp}(S:ac H H'):bg p H H':=fun b o e _=>S b o e
theorem bg.trs{p:Addr}{H H1 H2:Hp}(a:bg p H H1)(b:bg p H1 H2):bg p H H2:=fun c o e n=>b c o (a c o e n) n
theorem bg.ktd{p:Addr}{H H':Hp}{kv:List (TK×V)}(h:H p=some (.dT kv))(e:bg p H H'):ig H H':=fun b xs q=>e b _ q fun z=>by rw[z,h]at q;cases q
inductive i7(K:Za)(vs:List V)(H:Hp)(Q:VK)(E:XK):Prop
 |mk (X:TK×V->Prop) (hX:Fh X) (H0:Hp) (t l1 l2 l3 l4 kd fu su:Addr) (ts:Ze) (kv:List (TK×V)) (n:Nat) (sg:Sg) (J6 J0 J1 J2:Zb) (ds:List am):(vs=[.ref t,.ref kd,.ref fu,.ref su])->(iR H0 t l1 l2 l3 l4 ts J0 J1 J2 ds)->(b9 J0 J1 J2 ds)->(H0 kd=none)->(ac H0 H)->(cU X H kd kv J0 J1 J2 ds n)->(H fu=some (.tup (J6.map V.str)))->(H su=some (.tup (sg.map V.str)))->(J6.length<=1000)->(n<=8000000) ->
  (∀(u:Addr) (kv':List (TK×V)) (H':Hp),H' u=some (.tup ((behF J2 ds J6 sg).map V.str))->cU X H' kd kv' J0 J1 J2 ds (n+1)->bg kd H H'->Q (.ref u) H')->i7 K vs H Q E
theorem CQ{K:Za}{vs:List V}{H:Hp}{Q:VK}{E:XK}(h:i7 K vs H Q E):xp K (vW K) (bh Q) (start yv vs) H:=by
 obtain⟨X,hX,H0,t,l1,l2,l3,l4,kd,fu,su,ts,kv,n,sg,J6,J0,J1,J2,ds,rfl,T,m,h0,S0,D,hf,hs,hz,hn,k⟩:=h;have fin:∀{kv':List (TK×V)}{H':Hp}{u:Addr},cU X H' kd kv' J0 J1 J2 ds (n+1)->bg kd H H'->aY kv' (wX J6 sg)=some (.ref u)->H' u=some (.tup ((behF J2 ds J6 sg).map V.str))->(aW (kf K V1 (bZ (a_ V2 V3)))) (bh Q) [some (.ref t),some (.ref kd),some (.ref fu),some (.ref su)] H':=by
  intro kv' H' u D' ex v' hu;refine⟨_,rfl,_,rfl,_,rfl,(by show 2<=ai;decide),fun p hp=>?_⟩;have S:ac H' (upd H' p (.tup [.ref fu,.ref su])):=ac.new hp;have kt:=bg.ktd D.hkd ex;have tk:=zO (aa (H:=H') (a:=p)) (S _ _ (kt _ _ hf)) (S _ _ (kt _ _ hs));exact⟨kd,_,rfl,.inr ⟨_,wX J6 sg,p,.inl (S _ _ D'.hkd),rfl,dk.isIn 8 (je _ _) tk,je _ _,v'.symm⟩,k u kv' _ (S _ _ hu) (D'.up S) (ex.trs (ac.exBs S))⟩
 refine⟨_,rfl,_,rfl,(by show 2<=ai;decide),fun p hp=>?_⟩;have S:ac H (upd H p (.tup [.ref fu,.ref su])):=ac.new hp;have tk:=zO (aa (H:=H) (a:=p)) (S _ _ hf) (S _ _ hs);generalize upd H p (.tup [.ref fu,.ref su])=H1 at S tk ⊢;have D1:=D.up S;refine⟨_,rfl,kd,_,rfl,.inr ⟨_,wX J6 sg,p,.inl D1.hkd,rfl,dk.isIn 8 (je _ _) tk,je _ _,rfl⟩,_,rfl,?_⟩;cases hval:aY kv (wX J6 sg)with
 |some w =>
  obtain⟨u,rfl,hu⟩:=D1.val hX hval;exact cr (fin (D1.more (by omega)) (ac.exBs S) hval hu)
 |none =>
  refine cJ ?_;refine⟨_,rfl,_,rfl,_,rfl,t,fu,su,l1,l2,l3,l4,ts,J0,J1,J2,J6,sg,ds,rfl,T.same (S0.trans S),m,S _ _ hf,bC.of (S _ _ hs),hz,fun u H2 hu S2=>?_⟩;refine⟨_,rfl,_,rfl,_,rfl,(by show 2<=ai;decide),fun p2 hp2=>?_⟩;have S3:ac H2 (upd H2 p2 (.tup [.ref fu,.ref su])):=ac.new hp2;have S12:=S.trans S2;have tk3:=zO (aa (H:=H2) (a:=p2)) (S3 _ _ (S12 _ _ hf)) (S3 _ _ (S12 _ _ hs));generalize upd H2 p2 (.tup [.ref fu,.ref su])=H3 at S3 tk3 ⊢;have D3:=(D1.up S2).up S3;have cl:=D3.len;refine⟨kd,_,rfl,.inr ⟨_,wX J6 sg,p2,D3.hkd,rfl,tk3,je _ _,by rw[tT];omega,rfl⟩,?_⟩;have D4:=D3.put (k:=wX J6 sg) (v:=.ref u) (.inl ⟨J6,sg,u,rfl,S3 _ _ hu⟩);exact fin D4 ((ac.exBs (S12.trans S3)).trs fun b o e nb=>by rw[ah nb];exact e) (by rw[g_,if_pos rfl]) (Gd D3.hkd _ _ (S3 _ _ hu))
def askedF(J0 J2:Zb)(ds:List am)(J6:Zb):List Str:=J0.filter fun a=>decide (behF J2 ds J6 (dW a)≠[])
inductive kj(K:Za)(vs:List V)(H:Hp)(Q:VK)(E:XK):Prop
 |mk (X:TK×V->Prop) (hX:Fh X) (H0:Hp) (t l1 l2 l3 l4 kd fu:Addr) (ts:Ze) (kv:List (TK×V)) (n:Nat) (J6 J0 J1 J2:Zb) (ds:List am):(vs=[.ref t,.ref kd,.ref fu])->(iR H0 t l1 l2 l3 l4 ts J0 J1 J2 ds)->(b9 J0 J1 J2 ds)->(H0 kd=none)->(ac H0 H)->(cU X H kd kv J0 J1 J2 ds n)->(H fu=some (.tup (J6.map V.str)))->(J6.length<=1000)->(n+4<=8000000) ->
  (∀(l:Addr) (kv':List (TK×V)) (H':Hp),H' l=some (.lst ((askedF J0 J2 ds J6).map V.str))->cU X H' kd kv' J0 J1 J2 ds (n+4)->bg kd H H'->Q (.ref l) H')->kj K vs H Q E
theorem CP{K:Za}{vs:List V}{H:Hp}{Q:VK}{E:XK}(h:kj K vs H Q E):xo K (i7 K) (bh Q) (start yu vs) H:=by
 obtain⟨X,hX,H0,t,l1,l2,l3,l4,kd,fu,ts,kv,n,J6,J0,J1,J2,ds,rfl,T,m,h0,S0,D,hf,hz,hn,k⟩:=h;have z1:=m.asks4;have T':=T.same S0;have a1:=T'.a1;have n1:l1≠kd:=fun z=>by have:=D.hkd;rw[<-z,a1]at this;cases this
 refine⟨_,rfl,.inr (.inl ⟨t,_,0,_,rfl,rfl,bC.of T'.t,rfl,l1,rfl,⟨_,ax.of a1⟩,fun l hl=>?_⟩)⟩;have nl:l≠kd:=(ae D.hkd hl).symm;refine cu (xs:=J0.map V.str) (fun i vs H'=>∃kv':List (TK×V),vs=((J0.take i).filter fun a=>decide (behF J2 ds J6 (dW a)≠[])).map V.str/\H' l=some (.lst vs)/\cU X H' kd kv' J0 J1 J2 ds (n+i)/\bg kd H H')
  ⟨kv,rfl,aa,D.up (ac.new hl),ac.exBs (ac.new hl)⟩ (fun i vs H' _ ⟨_,_,h',_,ex⟩=>⟨h',ax.of (ex _ _ a1 n1)⟩) ?_ ?_
 ·rintro vs H' ⟨kv',rfl,h',D',ex⟩;rw[aj,aZ]at h';rw[aj]at D';exact k l kv' H' h' (D'.more (by omega)) ex
 ·rintro i vs H1 v hv hi ⟨kv1,rfl,h1,D1,ex1⟩;obtain⟨a,ha,rfl⟩:=bY hv;have il:i<J0.length:=(bQ.1 ha).1;refine gN ?_;refine⟨_,rfl,_,rfl,_,rfl,_,rfl,(by show 2<=ai;decide),fun s hs=>?_⟩;have S2:ac H1 (upd H1 s (.tup [.str "ask",.str a])):=ac.new hs;have s2:upd H1 s (.tup [.str "ask",.str a]) s=some (.tup ((dW a).map V.str)):=aa;generalize upd H1 s (.tup [.str "ask",.str a])=H2 at S2 s2 ⊢;have ktf:=bg.ktd D.hkd ex1;refine⟨X,hX,H0,t,l1,l2,l3,l4,kd,fu,s,ts,kv1,n+i,dW a,J6,J0,J1,J2,ds,rfl,T,m,h0,(bg.sameH S0 h0 ex1).trans S2,D1.up S2,S2 _ _ (ktf _ _ hf),s2,hz,by omega,fun u kv3 H3 hu D3 ex3=>?_⟩;refine⟨(by show 0<=ai;decide),fun e he=>⟨jc (behF J2 ds J6 (dW a)),jc [],bN (bC.of (kp hu he)),bN (bC.of aa),by rw[bL];decide,by rw[bL];decide,_,rfl,?_⟩⟩;rw[jC];have S4:ac H3 (upd H3 e (.tup [])):=ac.new he;generalize upd H3 e (.tup [])=H4 at S4 ⊢;have l4':=S4 _ _ (ex3 _ _ (S2 _ _ h1) nl);have D4:=D3.up S4;have ex4:bg kd H H4:=(ex1.trs (ac.exBs S2)).trs (ex3.trs (ac.exBs S4));have ed:(!decide (behF J2 ds J6 (dW a)=[]))=decide (behF J2 ds J6 (dW a)≠[]):=by simp
  rw[ed];refine kr (fun hq=>?_) (fun hq=>?_)
  ·refine⟨_,rfl,l4',?_,nV hi ⟨kv3,?_,aa,D4.cell l4',fun b o q nb=>?_⟩⟩
   ·rw[aj];refine ar (aE (cC _ _) ?_);rw[aD];omega
   ·rw[bP ha,if_pos hq,aw];rfl
   ·rw[ah (ae q hl)];exact ex4 _ _ q nb
  ·refine nV hi ⟨kv3,?_,l4',D4,ex4⟩;rw[bP ha,if_neg hq,ei]
def lB:Nat->Nat
 |0=>0
 |d+1=>30+25 * lB d
theorem iD(J0 J1 J2:Zb)(ds:List am)(J6:Zb):kindsF J0 J1 J2 ds J6=((askedF J0 J2 ds J6).map some++[none]).map (bt J1):=by
 unfold kindsF askedF;rw[aw,iL];rfl
inductive jw(K:Za)(D:Nat)(vs:List V)(H:Hp)(Q:VK)(E:XK):Prop
 |mk (X:TK×V->Prop) (hX:Fh X) (H0:Hp) (t l1 l2 l3 l4 kd fu:Addr) (ts:Ze) (kv:List (TK×V)) (n d:Nat) (J6 J0 J1 J2:Zb) (ds:List am):(vs=[.ref t,.ref kd,.ref fu,.int (d:Nat)])->(d<=D)->(iR H0 t l1 l2 l3 l4 ts J0 J1 J2 ds)->(b9 J0 J1 J2 ds)->(H0 kd=none)->(ac H0 H)->(cU X H kd kv J0 J1 J2 ds n)->(H fu=some (.tup (J6.map V.str)))->(J6.length<=1000)->(n+lB d<=8000000) ->
  (∀(kv':List (TK×V)) (H':Hp),cU X H' kd kv' J0 J1 J2 ds (n+lB d)->bg kd H H'->Q (.int (cntM J0 J1 J2 ds d J6)) H')->jw K D vs H Q E
inductive gg(K:Za)(D:Nat)(vs:List V)(H:Hp)(Q:VK)(E:XK):Prop
 |mk (X:TK×V->Prop) (hX:Fh X) (H0:Hp) (t l1 l2 l3 l4 kd fu:Addr) (ts:Ze) (ask:Option Str) (kv:List (TK×V)) (n d:Nat) (J6 J0 J1 J2:Zb) (ds:List am):(vs=[.ref t,.ref kd,.ref fu,tM ask,.int ((d+1:Nat))])->(d<=D)->(iR H0 t l1 l2 l3 l4 ts J0 J1 J2 ds)->(b9 J0 J1 J2 ds)->(H0 kd=none)->(ac H0 H)->(cU X H kd kv J0 J1 J2 ds n)->(H fu=some (.tup (J6.map V.str)))->(J6.length<=1000)->(n+5 * (1+lB d)<=8000000) ->
  (∀(l:Addr) (kv':List (TK×V)) (H':Hp),H' l=some (.lst (((bt J1 ask).map fun sg=>cntM J0 J1 J2 ds d (behF J2 ds J6 sg)).map V.int))->cU X H' kd kv' J0 J1 J2 ds (n+5 * (1+lB d))->bg kd H H'->Q (.ref l) H')->gg K D vs H Q E
theorem eZ(J1:Zb)(ask:Option Str):(bt J1 ask).length=J1.length+1:=by
 cases ask with
 |none=>unfold bt;rw[aU,aj];rfl
 |some a=>unfold bt;rw[fh,aj]
theorem xC{K:Za}{D:Nat}{vs:List V}{H:Hp}{Q:VK}{E:XK}(h:gg K D vs H Q E):xj K kh (jw K D) (i7 K) (bh Q) (start yo vs) H:=by
 obtain⟨X,hX,H0,t,l1,l2,l3,l4,kd,fu,ts,ask,kv,n,d,J6,J0,J1,J2,ds,rfl,hD,T,m,h0,S0,Dy,hf,hz,hn,k⟩:=h;have z2:=m.says4;have z3:=m.rooms26;refine⟨(by show 0<=ai;decide),fun l hl=>?_⟩;have S1:ac H (upd H l (.lst [])):=ac.new hl;have nl:l≠kd:=(ae Dy.hkd hl).symm;have l1':upd H l (.lst []) l=some (.lst []):=aa;generalize upd H l (.lst [])=H1 at S1 l1' ⊢;refine⟨_,rfl,_,rfl,t,l1,l2,l3,l4,ts,ask,J0,J1,J2,ds,rfl,(T.same S0).same S1,z2,fun pl us H2 hpl hP S2=>⟨pl,rfl,⟨_,ax.of hpl⟩,?_⟩⟩;have S12:=S1.trans S2;have D2:=Dy.up S12;have npl:pl≠kd:=fun z=>by have:=D2.hkd;rw[<-z,hpl]at this;cases this
 have zu:us.length=J1.length+1:=by rw[Paired.length hP,eZ]
 have npl2:pl≠l:=fun z=>by
  rw[z,S2 _ _ l1']at hpl;injection hpl with hpl;injection hpl with hpl;rw[List.map_eq_nil_iff.1 hpl.symm]at zu;cases zu
 have l0:H0 l=none:=S0.free hl;have l2':=S2 _ _ l1';have S02:=S0.trans S12;have f2:=S12 _ _ hf;refine cn (xs:=us.map V.ref) (fun i σ H'=>∃(kv':List (TK×V)) (x6:Option V),σ=[some (.ref t),some (.ref kd),some (.ref fu),some (tM ask),some (.int ((d+1:Nat))),some (.ref l),x6]/\H' l=some (.lst ((((bt J1 ask).take i).map fun sg=>cntM J0 J1 J2 ds d (behF J2 ds J6 sg)).map V.int))/\cU X H' kd kv' J0 J1 J2 ds (n+i * (1+lB d))/\∀b o,H2 b=some o->b≠kd->b≠l->H' b=some o)
  ⟨kv,_,rfl,l2',D2.more (by omega),fun _ _ e _ _=>e⟩ (fun i σ H' _ ⟨_,_,_,_,_,ex⟩=>ax.of (ex _ _ hpl npl npl2)) ?_ ?_
 ·rintro i v σ H3 hi ⟨kv3,x6,rfl,l3',D3,ex3⟩;obtain⟨s,hs,rfl⟩:=cf hi;obtain⟨sg,hsg,hat⟩:=Paired.getL hP hs;have il:i<(bt J1 ask).length:=(bQ.1 hsg).1;rw[eZ]at il;have kt3:ig H2 H3:=fun b xs e=>ex3 _ _ e (fun z=>by rw[z,D2.hkd]at e;cases e) (fun z=>by rw[z,l2']at e;cases e);have S03:ac H0 H3:=fun b o e=>ex3 _ _ (S02 _ _ e) (ae e h0) (ae e l0);have mul:(i+1) * (1+lB d)=i * (1+lB d)+(1+lB d):=gZ _ _;have mul5:(i+1) * (1+lB d)<=5 * (1+lB d):=eo _ (by omega);refine⟨_,rfl,.inl ⟨rfl,_,ax.of l3'⟩,_,rfl,_,rfl,_,rfl,_,rfl,_,rfl,_,rfl,X,hX,H0,t,l1,l2,l3,l4,kd,fu,s,ts,kv3,_,sg,J6,J0,J1,J2,ds,rfl,T,m,h0,S03,D3,kt3 _ _ f2,kt3 _ _ hat,hz,by omega,fun u kv4 H4 hu D4 ex4=>?_⟩;refine⟨_,rfl,_,_,rfl,rfl,X,hX,H0,t,l1,l2,l3,l4,kd,u,ts,kv4,_,d,behF J2 ds J6 sg,J0,J1,J2,ds,?_,hD,T,m,h0,bg.sameH S03 h0 ex4,D4,hu,kE (by omega) hz,by omega,fun kv5 H5 D5 ex5=>?_⟩
  ·show[V.ref t,V.ref kd,V.ref u,V.int (((d+1:Nat):Int)-1)]=_;rw[show(((d+1:Nat):Int)-1)=(d:Nat) by omega]
  have l5:=ex5 _ _ (ex4 _ _ l3' nl) nl;refine⟨l,_,_,rfl,rfl,l5,?_,kv5,_,rfl,?_,(D5.more (m:=n+(i+1) * (1+lB d)) (by omega)).cell l5,fun b o e n1 n2=>?_⟩
  ·rw[aj,aj,aD];exact ar (by omega)
  ·rw[aa,take_snoc hsg,aw,aw];rfl
  ·rw[ah n2];exact ex5 _ _ (ex4 _ _ (ex3 _ _ e n1 n2) n1) n1
 ·rintro σ H3 ⟨kv3,x6,rfl,l3',D3,ex3⟩;rw[aj,Paired.length hP,aZ]at l3';rw[aj,zu]at D3;have m5:(J1.length+1) * (1+lB d)<=5 * (1+lB d):=eo _ (by omega);exact⟨_,rfl,k l kv3 H3 l3' (D3.more (by omega)) fun b o e nb=>ex3 _ _ (S12 _ _ e) nb (ae e hl)⟩
theorem EA{K:Za}{D:Nat}{spS:Sp}(d5:D<=4)(hS:∀m,D=m+1->spS=gg K m){vs:List V}{H:Hp}{Q:VK}{E:XK}(h:jw K D vs H Q E):vD K (kj K) sp_product spS (bh Q) (start wP vs) H:=by
 obtain⟨X,hX,H0,t,l1,l2,l3,l4,kd,fu,ts,kv,n,d,J6,J0,J1,J2,ds,rfl,hD,T,m,h0,S0,Dy,hf,hz,hn,k⟩:=h;have z1:=m.asks4;have z2:=m.says4;refine⟨_,rfl,(by show 0<=ai;decide),fun e he=>⟨jc J6,jc [],bN (bC.of (kp hf he)),bN (bC.of aa),by rw[bL];decide,by rw[bL];decide,_,rfl,?_⟩⟩;rw[jC];have Se:ac H (upd H e (.tup [])):=ac.new he;generalize upd H e (.tup [])=He at Se ⊢;have De:=Dy.up Se;have one:cntM J0 J1 J2 ds d J6=1->Q (.int 1) He:=fun e=>by
  have:=k kv He (De.more (by omega)) (ac.exBs Se);rw[e]at this;exact this
 by_cases hne:J6=[]
 ·rw[zzr1 hne];refine cJ ?_;refine cJ ?_;exact one (by rw[hne];exact ye _ _ _ _ _)
 rw[zzr0 hne];refine cr ?_;refine⟨_,rfl,rfl,_,rfl,?_⟩
 match d,hD,hn,k,one with
 |0,_,_,_,one =>
  refine cJ ?_;exact one (by unfold cntM;rfl)
 |d+1,hD,hn,k,one =>
 rw[zzr0 (by intro z;injection z with z;omega)];refine cr ?_;obtain⟨w,rfl⟩:∃w,D=w+1:=⟨D-1,by omega⟩;cases hS w rfl;have eq:cntM J0 J1 J2 ds (d+1) J6=1+((kindsF J0 J1 J2 ds J6).map fun k=>gh (k.map fun sg=>cntM J0 J1 J2 ds d (behF J2 ds J6 sg))).sum:=by
  conv=>lhs;unfold cntM
  rw[if_neg hne]
 have nb:lB (d+1)=30+25 * lB d:=rfl;have fe:=Se _ _ hf;have S0e:=S0.trans Se;have fin:∀{kv':List (TK×V)}{H':Hp}{x4 x5:Option V},cU X H' kd kv' J0 J1 J2 ds (n+lB (d+1))->bg kd He H'->aY kv' (oT J6 (d+1))=some (.int (cntM J0 J1 J2 ds (d+1) J6))->(aW (kf K V1 (bZ (a_ V2 V3)))) (bh Q) [some (.ref t),some (.ref kd),some (.ref fu),some (.int ((d+1:Nat))),x4,x5] H':=by
  intro kv' H' x4 x5 D' ex v';refine⟨_,rfl,_,rfl,_,rfl,(by show 2<=ai;decide),fun p hp=>?_⟩;have S:ac H' (upd H' p (.tup [.ref fu,.int ((d+1:Nat))])):=ac.new hp;have tk:=oS (d:=d+1) (aa (H:=H') (a:=p)) (S _ _ (bg.ktd De.hkd ex _ _ fe));exact⟨kd,_,rfl,.inr ⟨_,oT J6 (d+1),p,.inl (S _ _ D'.hkd),rfl,dk.isIn 8 (dv _ _) tk,dv _ _,v'.symm⟩,k kv' _ (D'.up S) ((ac.exBs Se).trs (ex.trs (ac.exBs S)))⟩
 refine⟨_,rfl,_,rfl,(by show 2<=ai;decide),fun p hp=>?_⟩;have S:ac He (upd He p (.tup [.ref fu,.int ((d+1:Nat))])):=ac.new hp;have tk:=oS (d:=d+1) (aa (H:=He) (a:=p)) (S _ _ fe);generalize upd He p (.tup [.ref fu,.int ((d+1:Nat))])=H1 at S tk ⊢;have D1:=De.up S;refine⟨_,rfl,kd,_,rfl,.inr ⟨_,oT J6 (d+1),p,.inl D1.hkd,rfl,dk.isIn 8 (dv _ _) tk,dv _ _,rfl⟩,_,rfl,?_⟩;cases hval:aY kv (oT J6 (d+1))with
 |some w' =>
  refine cr ?_;exact fin (D1.more (by omega)) (ac.exBs S) (by rw[hval,D1.cnt hX hval])
 |none =>
  refine cJ ?_;refine⟨_,rfl,_,rfl,_,rfl,X,hX,H0,t,l1,l2,l3,l4,kd,fu,ts,kv,n,J6,J0,J1,J2,ds,rfl,T,m,h0,S0e.trans S,D1,S _ _ fe,hz,by omega,fun al kv2 H2 hal D2 ex2=>⟨(by show 1<=ai;decide),fun nl hnl=>?_⟩⟩;have za:(askedF J0 J2 ds J6).length<=4:=aE (cC _ _) z1;have S3:ac H2 (upd H2 nl (.lst [.non])):=ac.new hnl;have nl3:upd H2 nl (.lst [.non]) nl=some (.lst [.non]):=aa;generalize upd H2 nl (.lst [.non])=H3 at S3 nl3 ⊢;refine⟨al,nl,_,_,rfl,rfl,S3 _ _ hal,nl3,by rw[aj];exact cL (ar (by show _+1<=1000;omega)),fun cl hcl=>?_⟩;have S4:ac H3 (upd H3 cl (.lst ((askedF J0 J2 ds J6).map V.str++[.non]))):=ac.new hcl;have cl4:upd H3 cl (.lst ((askedF J0 J2 ds J6).map V.str++[.non])) cl=some (.lst (((askedF J0 J2 ds J6).map some++[none]).map tM)):=by
   rw[aa,aw,iL];rfl
  generalize upd H3 cl (.lst ((askedF J0 J2 ds J6).map V.str++[.non]))=H4 at S4 cl4 ⊢;have D4:=(D2.up S3).up S4;have ex4:bg kd He H4:=(ac.exBs S).trs (ex2.trs (ac.exBs (S3.trans S4)));have ncl:cl≠kd:=fun z=>by have:=D4.hkd;rw[<-z,cl4]at this;cases this
  generalize hA:((askedF J0 J2 ds J6).map some++[none]:List (Option Str))=A at cl4;have zA:A.length<=5:=by rw[<-hA,aU,aj];show _+1<=5;omega
  have eA:kindsF J0 J1 J2 ds J6=A.map (bt J1):=by rw[<-hA];exact iD _ _ _ _ _
  rw[eA,iL]at eq;refine⟨cl,rfl,⟨_,ax.of cl4⟩,?_⟩;refine cn (xs:=A.map tM) (fun i σ H'=>∃(kv':List (TK×V)) (x5:Option V),σ=[some (.ref t),some (.ref kd),some (.ref fu),some (.int ((d+1:Nat))),some (.int (1+((A.take i).map ((fun k=>gh (k.map fun sg=>cntM J0 J1 J2 ds d (behF J2 ds J6 sg))) ∘ bt J1)).sum)),x5]/\cU X H' kd kv' J0 J1 J2 ds (n+4+i * (5 * (1+lB d)))/\bg kd H4 H')
   ⟨kv2,_,rfl,D4.more (by omega),bg.refl _ _⟩ (fun i σ H' _ ⟨_,_,_,_,ex⟩=>ax.of (ex _ _ cl4 ncl)) ?_ ?_
  ·rintro i v σ H5 hi ⟨kv5,x5,rfl,D5,ex5⟩;rw[cD]at hi;obtain⟨ask,hask,rfl⟩:=nW.1 hi;have il:i<A.length:=(bQ.1 hask).1;have ex05:=ex4.trs ex5;have mul:(i+1) * (5 * (1+lB d))=i * (5 * (1+lB d))+5 * (1+lB d):=gZ _ _;have mul5:(i+1) * (5 * (1+lB d))<=5 * (5 * (1+lB d)):=eo _ (by omega);refine⟨_,rfl,_,rfl,_,rfl,_,rfl,_,rfl,_,rfl,X,hX,H0,t,l1,l2,l3,l4,kd,fu,ts,ask,kv5,_,d,J6,J0,J1,J2,ds,rfl,by omega,T,m,h0,bg.sameH S0e h0 ex05,D5,bg.ktd De.hkd ex05 _ _ fe,hz,by omega,fun sl kv6 H6 hsl D6 ex6=>?_⟩;refine⟨sl,_,bB d,rfl,hsl,fun z hz'=>?_,by have:=yj d (by omega);omega,by rw[aj,eZ];omega,_,_,rfl,rfl,kv6,some (tM ask),?_,D6.more (by omega),ex5.trs ex6⟩
   ·obtain⟨sg,_,rfl⟩:=aM.1 hz';exact jg z1 z2 d _
   ·have es:∀(f:Option Str->Int),1+((A.take (i+1)).map f).sum=1+((A.take i).map f).sum+f ask:=fun f=>by
     rw[take_snoc hask,aw,List.sum_append,bm,vf,qG,List.sum_nil,Int.add_zero,Int.add_assoc]
    rw[es];rfl
  ·rintro σ H5 ⟨kv5,x5,rfl,D5,ex5⟩;rw[aj]at D5;rw[aj,aZ,<-eq];have m5:A.length * (5 * (1+lB d))<=5 * (5 * (1+lB d)):=eo _ zA;have ex05:=ex4.trs ex5;refine⟨_,rfl,_,rfl,_,rfl,_,rfl,(by show 2<=ai;decide),fun p2 hp2=>?_⟩;have S6:ac H5 (upd H5 p2 (.tup [.ref fu,.int ((d+1:Nat))])):=ac.new hp2;have tk6:=oS (d:=d+1) (aa (H:=H5) (a:=p2)) (S6 _ _ (bg.ktd De.hkd ex05 _ _ fe));generalize upd H5 p2 (.tup [.ref fu,.int ((d+1:Nat))])=H6 at S6 tk6 ⊢;have D6:=D5.up S6;have cl:=D6.len;refine⟨kd,_,rfl,.inr ⟨_,oT J6 (d+1),p2,D6.hkd,rfl,tk6,dv _ _,by rw[tT];omega,rfl⟩,?_⟩;have D7:=D6.put (k:=oT J6 (d+1)) (v:=.int (cntM J0 J1 J2 ds (d+1) J6)) (.inr (.inl ⟨_,_,rfl⟩));exact fin (D7.more (by omega)) ((ex05.trs (ac.exBs S6)).trs fun b o e nb=>by rw[ah nb];exact e) (by rw[g_,if_pos rfl])
def vz(K:Za):TS :=
 aq (dA (ba (aI Bw (aI (oH K) (aI (dh K) V0 (tC (.int 0))) (tC (.int 0))) (tC (.str "ask")))) (aq (aJ (cB 2 [] (Do K (a_ (xr (nr K) V0 (fx (tC (.int 1))) (c6)) (xr (nr K) V1 (fx (tC (.int 1))) (c6)))) (mj K 2 (ck U0 (ck U1 (ln)))) (iN) (bZ (a_ (aI (pU K) V0 (tC (.int 1))) V1))) U2)
 (aW (bZ (ao (tC (.str "tell")) (dz (aI (oH K) (aI (dh K) V0 (tC (.int 0))) (tC (.int 1))) (aI (dh K) V1 (tC (.int 0))) (im (rL K) (aH V2))))))) (bR))
 (aq (aJ (cB 2 [] (Do K (ao (xr (nr K) V0 (c6) (fx (FM (rU fun i=>.int (-i)) (tC (.int 1))))) (ao (xr (nr K) V1 (c6) (fx (FM (rU fun i=>.int (-i)) (tC (.int 1))))) bF))) (mj K 2 (ck U0 (ck U1 (ln)))) (iN) (bZ (a_ (aI (pU K) V0 (tC (.int 1))) V1))) U2)
 (aW (bZ (dz (tC (.str "wait")) (im (rL K) (aH V2)) (aI (dh K) V1 (FM (rU fun i=>.int (-i)) (tC (.int 1))))))))
def wL:List Str:=["signs","parts","pairs"]
def pH(K:Za)(sp_trial_from:Sp)(C_Made:Addr)(sp_Made_trial_at:Sp)(sp_Made_count_at:Sp)(sp_Made_steps_from:Sp):TS :=
 aq (aJ (cA C_Made "steps_from" sp_Made_steps_from [] E0 V0 (aH V1)) U5)
 (aq (aJ (dQ (bF)) U6)
 (aq (aJ V4 U7)
 (aq (fz (GX K (aH V3)) U8 (aq (aJ (im Al (ao V7 (ao (cA C_Made "count_at" sp_Made_count_at [] E0 V0 (a_ (vS K V5 V8) (aI nq V2 (tC (.int 1))))) bF))) (mj K 2 (ck U7 (ck U9 (ln)))))
 (df (Bg K "list" f_ V6 (ao (cA C_Made "trial_at" sp_Made_trial_at [] E0 V0 (dz (vS K V5 V8) (aI nq V2 (tC (.int 1))) V9)) bF)))))
 (aq (df (El K "list" rN V6))
 (aW (aR sp_trial_from (a_ V3 V6)))))))
def p7:List Str:=["self","face","d","signs","number","steps","parts","left","sign","own"]
def pI(K:Za)(C_Made:Addr)(sp_Made_trial_of:Sp)(sp_Made_count_of:Sp)(sp_Made_kinds_at:Sp)(a_END:Addr)(a_BLAME:Addr):TS :=
 aq (dA (tB (Cy V1)) (aW (tC (.ref a_BLAME))) (bR))
 (aq (dA (ba (aI Bw V3 (tC (.int 0)))) (aW (tC (.ref a_END))) (bR))
 (aq (aJ (aI nq V3 (tC (.int 1))) U4)
 (aq (aJ (cA C_Made "kinds_at" sp_Made_kinds_at [] E0 V0 (aH V1)) U5)
 (aq (aJ (tC (.int 0)) U6)
 (aq (vG (ba (aI FS V4 (cA C_Made "count_of" sp_Made_count_of [] E0 V0 (dz V1 V2 (aI (dh K) V5 V6))))) (aq (FN 4 (cA C_Made "count_of" sp_Made_count_of [] E0 V0 (dz V1 V2 (aI (dh K) V5 V6))) (Hj fun i j=>i-j))
 (FN 6 (tC (.int 1)) (Hj fun i j=>i+j))))
 (aW (cA C_Made "trial_of" sp_Made_trial_of [] E0 V0 (ao V1 (dz V2 (aI (dh K) V5 V6) V4)))))))))
def p8:List Str:=["self","face","d","number","left","kinds","at"]
def A_(K:Za)(C_Made:Addr)(sp_Made_trial_at:Sp)(bD:Sp)(sp_Made_count_at:Sp)(sp_Made_init:Sp)(sp_need_depth:Sp):TS :=
 aq (df (aR sp_need_depth (aH V1)))
 (aq (aJ (ud C_Made sp_Made_init [] E0 (aH V0)) U3)
 (aq (dA (DZ (ba (aI Bv V2 (tC (.int 0)))) (ba (aI FS V2 (cA C_Made "count_at" sp_Made_count_at [] E0 V3 (a_ (aR bD (aH V0)) V1))))) (vH) (bR))
 (aW (cA C_Made "trial_at" sp_Made_trial_at [] E0 V3 (dz (aR bD (aH V0)) V1 V2)))))
def B7:List Str:=["M","d","number","made"]
def yM(K:Za)(sp_law_sizes:Sp)(sp_law_nth:Sp)(sp_law_after:Sp)(sp_law_part_signs:Sp):TS :=
 aq (aJ (dQ (bF)) U6)
 (aq (aJ (aR sp_law_part_signs (a_ V0 V3)) U7)
 (aq (fz (bU K (Fo K (Cw K (a_ V7 (aR sp_law_sizes (ao V0 (ao V1 (dz V2 V3 V4)))))))) (mj K 2 (ck U8 (ck U9 (ln)))) (aq (df (Bg K "list" f_ V6 (ao (aR sp_law_nth (ao V0 (ao V1 (ao (aR sp_law_after (ao V0 (dz V1 V2 V8))) (a_ (aI nq V4 (tC (.int 1))) (aI gF V5 V9)))))) bF)))
 (aJ (aI Fw V5 V9) U5)))
 (aq (df (El K "list" rN V6))
 (aq (dA (tB (Cy V3)) (aW (bZ (ao (tC (.str "wait")) (ao (Cv K (ao (aI (oH K) V0 (tC (.int 1))) (ao (xr (nr K) V6 (c6) (fx (FM (rU fun i=>.int (-i)) (tC (.int 1))))) bF))) (aH (aI (dh K) V6 (FM (rU fun i=>.int (-i)) (tC (.int 1))))))))) (bR))
 (aW (bZ (ao (tC (.str "tell")) (ao V3 (ao (aI (dh K) V6 (tC (.int 0))) (ao (Cv K (a_ (aI (oH K) V0 (tC (.int 1))) (xr (nr K) V6 (fx (tC (.int 1))) (c6)))) bF))))))))))
def zU:List Str:=["told","known","face","ask","deep","number","some","signs","sign","size"]
def Bb(K:Za)(sp_law_asked:Sp)(sp_law_times:Sp)(sp_law_laid:Sp)(sp_law_sizes:Sp):TS :=
 aq (dA (ba (aI (xG K) V2 (bZ (bF)))) (aW (bZ (aH (tC (.str "blame"))))) (bR))
 (aq (dA (ba (aI Bw V4 (tC (.int 0)))) (aW (bZ (aH (tC (.str "end"))))) (bR))
 (aq (aJ (aI nq V4 (tC (.int 1))) U4)
 (aq (fz (bU K (aI md (aR sp_law_asked (dz V0 V1 V2)) (dQ (aH (tC .non))))) U5 (aq (aJ (aR sp_law_sizes (ao V0 (ao V1 (dz V2 V5 V3)))) U6)
 (aq (dA (ba (aI Bv V4 (aR sp_law_times (aH V6)))) (aW (aR sp_law_laid (ao V0 (ao V1 (ao V2 (dz V5 V3 V4)))))) (bR))
 (aJ (aI nq V4 (aR sp_law_times (aH V6))) U4))))
 (aW (tC .non)))))
def B9:List Str:=["told","known","face","deep","number","ask","sizes"]
def Bc(K:Za)(sp_law_take:Sp):TS :=
 aq (aJ (tC (.int 0)) U2)
 (aq (fz (uw (aH (tC (.int 22)))) U3 (aJ (aI em (aI Ai V2 (tC (.int 1000003))) (aR sp_law_take (a_ V0 (tC (.int 1000003))))) U2))
 (aW (aI gF V2 V1)))
def B_:List Str:=["pen","many","found","turn"]
def Ej(K:Za)(sp_law_far:Sp)(sp_made_by:Sp)(sp_law_nth:Sp)(sp_how_many_made:Sp)(sp_law_count:Sp)(sp_law_begin:Sp)(sp_law_take:Sp)(sp_law_machine:Sp)(sp_law_model:Sp)(sp_law_open:Sp):TS :=
 aq (aJ (aR sp_law_open (aH V0)) U1)
 (aq (aJ (aR sp_law_model (ao V1 (ao (tC (.int 6)) (aH (aR sp_law_take (a_ V1 (tC (.int 2)))))))) U2)
 (aq (aJ (aR sp_law_machine (aH V2)) U3)
 (aq (aJ (aI (dh K) (dQ (ao (tC (.int 4)) (ao (tC (.int 3)) (ao (tC (.int 2)) (dz (tC (.int 4)) (tC (.int 1)) (tC (.int 0))))))) (aR sp_law_take (a_ V1 (tC (.int 6))))) U4)
 (aq (aJ (l9) U5)
 (aq (aJ (aR sp_law_begin (aH V2)) U6)
 (aq (aJ (aR sp_law_count (ao V2 (dz V5 V6 V4))) U7)
 (aq (dA (ba (aI Hi (aR sp_how_many_made (a_ V3 V4)) V7)) (aW (tC (.bl false))) (bR))
 (aq (fz (bU K (dQ (dz (aI nq V7 (tC (.int 1))) (aR sp_law_far (a_ V1 V7)) (tC (.int 0))))) U8 (aq (aJ (aR sp_law_nth (ao V2 (ao V5 (dz V6 V4 V8)))) U9)
 (dA (ba (aI (GJ K) (aR sp_made_by (dz V3 V4 V8)) V9)) (aW (tC (.bl false))) (bR))))
 (aW (tC (.bl true)))))))))))
def AV:List Str:=["script","pen","told","machine","deep","known","face","many","number","due"]
def CY:List Str:=["script"]
mutual
def nR(K:Za)(H:Hp):DT->V->Prop
 |.k a,v=>v=kV a
 |.t l,v=>∃b xs,v=.ref b/\cN K H b xs/\TrCs K H l xs
 |.s _,_=>False
def TrCs(K:Za)(H:Hp):List DT->List V->Prop
 |[],vs=>vs=[]
 |k::r,vs=>∃v us,vs=v::us/\nR K H k v/\TrCs K H r us
end
mutual
theorem nR.kt{K:Za}{H H':Hp}(k:ig H H'):∀(d:DT) (v:V),nR K H d v->nR K H' d v
 |.k _,_,h=>h
 |.t l,v,h=>by
  obtain⟨b,xs,e,t,r⟩:=h;exact⟨b,xs,e,cN.kt k t,TrCs.kt k l xs r⟩
 |.s _,_,h=>h
theorem TrCs.kt{K:Za}{H H':Hp}(k:ig H H'):∀(l:List DT) (vs:List V),TrCs K H l vs->TrCs K H' l vs
 |[],_,h=>h
 |d::r,vs,h=>by
  obtain⟨v,us,e,t,q⟩:=h;exact⟨v,us,e,nR.kt k d v t,TrCs.kt k r us q⟩
end
mutual
theorem nR.dIn{K:Za}{H:Hp}:∀(d:DT) (v:V),nR K H d v->nU K H d v
 |.k _,_,h=>h
 |.t l,v,h=>by
  obtain⟨b,xs,e,t,r⟩:=h;exact⟨b,xs,e,cN.sq t,TrCs.dIn l xs r⟩
 |.s _,_,h=>h.elim
theorem TrCs.dIn{K:Za}{H:Hp}:∀(l:List DT) (vs:List V),TrCs K H l vs->DIns K H l vs
 |[],_,h=>h
 |d::r,vs,h=>by
  obtain⟨v,us,e,t,q⟩:=h;exact⟨v,us,e,nR.dIn d v t,TrCs.dIn r us q⟩
end
abbrev jU(K:Za)(H:Hp)(vs:List V)(ps:List DT):Prop:=Paired (fun v d=>nR K H d v) vs ps
theorem jU.kt{K:Za}{H H':Hp}{vs:List V}{ps:List DT}(k:ig H H')(h:jU K H vs ps):jU K H' vs ps:=Paired.mapP h fun v d r=>nR.kt k d v r
theorem jU.all{K:Za}{H:Hp}:∀{vs:List V}{ps:List DT},jU K H vs ps->TrCs K H ps vs
 |_,_,.nil=>rfl
 |_,_,.cons a r=>⟨_,_,rfl,a,jU.all r⟩
theorem gJ{K:Za}{H:Hp}(s:Str):nR K H (gl s) (.str s):=rfl
def k7:Sg:=["blame"]
def kC:Sg:=["end"]
theorem vq{K:Za}{H:Hp}{b:Addr}:∀{sg:Sg},cN K H b (sg.map V.str)->nR K H (jc sg) (.ref b):=fun{sg} h=>by
 refine⟨b,_,rfl,h,?_⟩;clear h
 induction sg with
 |nil=>rfl
 |cons s r ih=>exact⟨_,_,rfl,gJ s,ih⟩
def ja(w:Str)(d:DT):DT:=.t [gl w,d]
def rh(J1:Zb):Option Str->List DT->DT
 |none,ps=>.t [gl "wait",.t (gX ja J1 (ps.take J1.length)),(ps[J1.length]?).getD (jc kC)]
 |some a,ps=>.t [gl "tell",gl a,(ps[0]?).getD (jc kC),.t (gX ja J1 (ps.drop 1))]
def pV(c:Sg->Int)(f:Sg->Int->DT):List Sg->Int->List DT
 |[],_=>[]
 |sg::r,n=>f sg (n % c sg)::pV c f r (n / c sg)
def CF(c:Sg->Int):List Sg->Int->Int
 |[],n=>n
 |sg::r,n=>CF c r (n / c sg)
theorem oQ(c:Sg->Int)(f:Sg->Int->DT)(x:Sg):∀(l:List Sg) (n:Int),pV c f (l++[x]) n=pV c f l n++[f x (CF c l n % c x)]
 |[],n=>rfl
 |sg::r,n=>by
  show f sg (n % c sg)::pV c f (r++[x]) (n / c sg)=_;rw[oQ c f x r];rfl
theorem rH(c:Sg->Int)(x:Sg):∀(l:List Sg) (n:Int),CF c (l++[x]) n=CF c l n / c x
 |[],n=>rfl
 |sg::r,n=>by
  show CF c (r++[x]) (n / c sg)=_;rw[rH c x r];rfl
theorem kD(c:Sg->Int)(f:Sg->Int->DT):∀(l:List Sg) (n:Int),(pV c f l n).length=l.length
 |[],_=>rfl
 |sg::r,n=>by
  show(pV c f r (n / c sg)).length+1=r.length+1;rw[kD c f r]
theorem xY{c:Sg->Int}{f:Sg->Int->DT}{P:DT->Prop}(h:∀sg m,P (f sg m)):∀(l:List Sg) (n:Int),∀x∈pV c f l n,P x
 |[],_,x,hx=>by cases hx
 |sg::r,n,x,hx=>by
  rcases cc.1 hx with rfl|hx
  ·exact h _ _
  ·exact xY h r _ x hx
def ug(c:Option Str->Int):List (Option Str)->Int->Option (Option Str×Int)
 |[],_=>none
 |a::r,n=>if n<c a then some (a,n)else ug c r (n-c a)
def prodA(J0 J1 J2:Zb)(ds:List am)(d:Nat)(J6:Zb)(a:Option Str):Int:=gh ((bt J1 a).map fun sg=>cntM J0 J1 J2 ds d (behF J2 ds J6 sg))
def laidM(J0 J1 J2:Zb)(ds:List am)(d:Nat)(nx:List Str->Int->DT)(J6:Zb)(a:Option Str)(m:Int):DT :=
 rh J1 a (pV (fun sg=>cntM J0 J1 J2 ds d (behF J2 ds J6 sg)) (fun sg=>nx (behF J2 ds J6 sg)) (bt J1 a).reverse m).reverse
def nthM(J0 J1 J2:Zb)(ds:List am):Nat->List Str->Int->DT
 |0,J6,_=>if J6=[]then jc k7 else jc kC
 |d+1,J6,n=>if J6=[]then jc k7 else if n=0 then jc kC else
  match ug (prodA J0 J1 J2 ds d J6) ((askedF J0 J2 ds J6).map some++[none]) (n-1)with
  |none=>jc kC
  |some (a,m)=>laidM J0 J1 J2 ds d (nthM J0 J1 J2 ds d) J6 a m
theorem xK(J0 J1 J2:Zb)(ds:List am)(n:Int):∀d,nthM J0 J1 J2 ds d [] n=jc k7
 |0=>by unfold nthM;rw[if_pos rfl]
 |d+1=>by unfold nthM;rw[if_pos rfl]
theorem xL{J0 J1 J2 J6:Zb}{ds:List am}(h:J6≠[]):∀d,nthM J0 J1 J2 ds d J6 0=jc kC
 |0=>by unfold nthM;rw[if_neg h]
 |d+1=>by unfold nthM;rw[if_neg h,if_pos rfl]
theorem um{J0 J1 J2 J6:Zb}{ds:List am}{d:Nat}{n:Int}{a:Option Str}{m:Int}(h:J6≠[])(h0:n≠0)(hp:ug (prodA J0 J1 J2 ds d J6) ((askedF J0 J2 ds J6).map some++[none]) (n-1)=some (a,m)):
  nthM J0 J1 J2 ds (d+1) J6 n=laidM J0 J1 J2 ds d (nthM J0 J1 J2 ds d) J6 a m:=by
 unfold nthM;rw[if_neg h,if_neg h0,hp]
def dB:Nat->Nat
 |0=>1
 |d+1=>dB d+3
theorem oj{b:Nat}:∀(ws:Zb) (ps:List DT),(∀p∈ps,p.depth<=b)->DT.depths (gX ja ws ps)<=b+1
 |[],_,_=>by simp[DT.depths]
 |_::_,[],_=>by simp[DT.depths]
 |w::ws,p::ps,h=>by
  show max (ja w p).depth (DT.depths (gX ja ws ps))<=b+1;have h1:=oj ws ps fun q hq=>h q (dD _ hq);have h2:=h p dE;have h3:(ja w p).depth=max 0 (max p.depth 0)+1:=rfl;omega
theorem xg{J1:Zb}{a:Option Str}{ps:List DT}{b:Nat}(h1:1<=b)(h:∀p∈ps,p.depth<=b):(rh J1 a ps).depth<=b+3:=by
 have hd:∀i:Nat,((ps[i]?).getD (jc kC)).depth<=b:=fun i=>by
  cases e:ps[i]? with
  |none=>show(jc kC).depth<=b;rw[bL];exact h1
  |some p=>exact h p (cw e)
 cases a with
 |none =>
  have h2:=oj J1 (ps.take J1.length) fun p hp=>h p (fo hp);have h3:=hd J1.length;show max 0 (max (DT.depths _+1) (max _ 0))+1<=b+3;omega
 |some a =>
  have h2:=oj J1 (ps.drop 1) fun p hp=>h p (uO hp);have h3:=hd 0;show max 0 (max 0 (max _ (max (DT.depths _+1) 0)))+1<=b+3;omega
theorem Gj:∀d,1<=dB d
 |0=>ay _
 |d+1=>by show 1<=dB d+3;omega
theorem ul(J0 J1 J2:Zb)(ds:List am):∀(d:Nat) (J6:Zb) (n:Int),(nthM J0 J1 J2 ds d J6 n).depth<=dB d
 |0,J6,n=>by
  unfold nthM;split<;>rw[bL]<;>exact ay _
 |d+1,J6,n=>by
  have p:=Gj d;unfold nthM dB;split
  ·rw[bL];omega
  ·split
   ·rw[bL];omega
   ·split
    ·rw[bL];omega
    ·unfold laidM;exact xg p fun q hq=>xY (P:=fun q=>q.depth<=dB d) (fun sg m=>ul J0 J1 J2 ds d _ m) _ _ q (List.mem_reverse.1 hq)
theorem Bx:∀(l:List Int),(∀x∈l,0<x)->0<gh l:=by
 have key:∀(l:List Int) (b:Int),0<b->(∀x∈l,0<x)->0<l.foldl (· * ·) b:=by
  intro l
  induction l with
  |nil=>intro b hb _;exact hb
  |cons x l ih=>intro b hb h;exact ih _ (Int.mul_pos hb (h x dE)) fun y hy=>h y (dD _ hy)
 exact fun l h=>key l 1 (by decide) h
theorem rC:∀(l:List Int),(∀x∈l,0<=x)->0<=l.sum
 |[],_=>uS _
 |x::l,h=>by
  rw[qG];have:=h x dE;have:=rC l fun y hy=>h y (dD _ hy);omega
theorem qy(J0 J1 J2:Zb)(ds:List am):∀(d:Nat) (J6:Zb),0<cntM J0 J1 J2 ds d J6
 |0,_=>by unfold cntM;decide
 |d+1,J6=>by
  unfold cntM;split
  ·decide
  ·have:=rC ((kindsF J0 J1 J2 ds J6).map fun k=>gh (k.map fun sg=>cntM J0 J1 J2 ds d (behF J2 ds J6 sg))) fun x hx=>by
    obtain⟨k,_,rfl⟩:=aM.1 hx;exact Int.le_of_lt (Bx _ fun y hy=>by
     obtain⟨sg,_,rfl⟩:=aM.1 hy;exact qy J0 J1 J2 ds d _)
   omega
theorem AL{J0 J1 J2 J6:Zb}{ds:List am}{d:Nat}(h:J6≠[]):cntM J0 J1 J2 ds (d+1) J6=1+(((askedF J0 J2 ds J6).map some++[none]).map (prodA J0 J1 J2 ds d J6)).sum:=by
 conv=>lhs;unfold cntM
 rw[if_neg h,iD,iL];rfl
structure D_(c:Option Str->Int)(A:List (Option Str))(n:Int)(i:Nat)(left:Int):Prop where
 eq:ug c A n=ug c (A.drop i) left
 lo:0<=left
 hi:left<((A.drop i).map c).sum
theorem D_.at{c:Option Str->Int}{A:List (Option Str)}{n left:Int}{i:Nat}(h:D_ c A n i left):∃a,A[i]?=some a/\A.drop i=a::A.drop (i+1):=by
 cases e:A[i]? with
 |none =>
  have:=h.hi;rw[List.drop_eq_nil_of_le (List.getElem?_eq_none_iff.1 e)]at this;have l:=h.lo;have:left<0:=this;omega
 |some a =>
  obtain⟨hi,rfl⟩:=bQ.1 e;exact⟨_,rfl,uW hi⟩
theorem D_.stop{c:Option Str->Int}{A:List (Option Str)}{n left:Int}{i:Nat}{a:Option Str}(h:D_ c A n i left)(e:A[i]?=some a)(l:left<c a):ug c A n=some (a,left):=by
 obtain⟨b,e1,e2⟩:=h.at;rw[e]at e1;cases e1;rw[h.eq,e2];show(if left<c a then _ else _)=_
 rw[if_pos l]
theorem D_.next{c:Option Str->Int}{A:List (Option Str)}{n left:Int}{i:Nat}{a:Option Str}(h:D_ c A n i left)(e:A[i]?=some a)(l:¬left<c a):D_ c A n (i+1) (left-c a):=by
 obtain⟨b,e1,e2⟩:=h.at;rw[e]at e1;cases e1;refine⟨?_,by omega,?_⟩
 ·rw[h.eq,e2];show(if left<c a then _ else _)=_
  rw[if_neg l]
 ·have:=h.hi;rw[e2,bm,qG]at this;omega
theorem BU{K:Za}{k:Nat}{fi:List Nat}{g:TG}{tc:TT}{te:TE}{σ:L2.St}{H1:Hp}{Q:Hp->Prop}{l a b:Addr}{xs ys:List V}(hxy:xs.length=ys.length)(Pv:Nat->List V->Hp->Prop)(h0:Pv 0 [] (upd H1 l (.lst [])))
  (hl:∀i vs H,i<=xs.length->Pv i vs H->H l=some (.lst vs)/\ax K H a xs/\ax K H b ys) (hd:∀vs H,Pv xs.length vs H->Q H)
  (hs:∀i vs H x y p,xs[i]?=some x->ys[i]?=some y->i<xs.length->Pv i vs H->H p=none->g (.ref p) (c_ k fi σ) (upd H p (.tup [x,y])) fun σ2 H4=>tc σ2 H4 fun b H5 =>
   if b=true then te σ2 H5 fun v H6=>H6 l=some (.lst vs)/\vs.length<ai/\∃m',m'<xs.length-i/\Wc xs.length Pv (i+1) m' (vs++[v]) (upd H6 l (.lst (vs++[v])))else ∃m',m'<xs.length-i/\Wc xs.length Pv (i+1) m' vs H5) :
  du k fi σ (Hq K a b) g tc te H1 l Q:=by
 refine jf xs.length Pv h0 (fun i vs H hi p=>(hl i vs H hi p).1) (fun i vs H hi p=>?_) (fun vs H p=>?_) fun i vs H x H3 hi p y=>?_
 ·obtain⟨_,q1,q2⟩:=hl i vs H (cL hi) p;have hi2:i<ys.length:=by omega
  exact⟨xs,ys,xs[i],ys[i],q1,q2,by simp[hi],by simp[hi2]⟩
 ·obtain⟨_,q1,q2⟩:=hl _ vs H (ay _) p;exact⟨⟨xs,ys,q1,q2,.inl (ay _)⟩,hd vs H p⟩
 ·obtain⟨_,q1,q2⟩:=hl i vs H (cL hi) p;obtain⟨t,u,v,rfl,hn,hu,hv,rfl⟩:=y;exact hs i vs H u v t (hu xs q1) (hv ys q2) hi p hn
theorem oR(xs:List V):eN xs none (some (-1))=xs.take (xs.length-1):=by
 unfold eN;have h1:HT.sIx xs.length 0 none=0:=rfl;have h2:HT.sIx xs.length xs.length (some (-1))=xs.length-1:=by unfold HT.sIx;simp;omega
 rw[h1,h2];rfl
theorem AO{xs:List V}{n:Nat}{v:V}(hn:n+1=xs.length)(h:xs[n]?=some v):wH xs (-1)=some v:=by
 have e:xs=xs.take n++[v]:=by rw[<-take_snoc h,hn,aZ]
 rw[e];exact DN _ _
theorem sr{K:Za}{σ:L2.St}{H:Hp}{a b l:Addr}{gs:Ze}{vs:List V}{J1:Zb}{ps:List DT}{Q:Hp->Prop}(ha:H a=some (.lst (gs.map V.ref)))(hg:B4 K H gs (J1.map dF))(hb:H b=some (.lst vs))(hp:jU K H vs ps)(z:J1.length=ps.length)(z4:J1.length<=4)(hl:H l=none)
  (k:∀(us:List V) (H':Hp),H' l=some (.lst us)->jU K H' us (gX ja J1 ps)->ac H H'->Q H') :
  du 2 [] σ (Hq K a b) (mj K 2 (ck U0 (ck U1 (ln)))) (iN) (bZ (a_ (aI (pU K) V0 (tC (.int 1))) V1)) H l Q:=by
 have zg:gs.length=J1.length:=by rw[Paired.length hg,aj]
 have zv:vs.length=ps.length:=Paired.length hp;refine BU (xs:=gs.map V.ref) (ys:=vs) (by rw[aj];omega) (fun i us H'=>ac H H'/\H' l=some (.lst us)/\jU K H' us (gX ja (J1.take i) (ps.take i))) ⟨ac.new hl,aa,.nil⟩ (fun i us H' _ ⟨S,h',_⟩=>⟨h',ax.of (S _ _ ha),ax.of (S _ _ hb)⟩) ?_ ?_
 ·rintro us H' ⟨S,h',hP⟩;rw[aj,zg,aZ,z,aZ]at hP;exact k us H' h' hP S
 ·rintro i us H1 x v p hx hv hi ⟨S,h1,hP⟩ hp1;obtain⟨g,hg',rfl⟩:=cf hx;obtain⟨sg,hsg,hat⟩:=Paired.getL hg hg';rw[cD]at hsg;obtain⟨w,hw,rfl⟩:=nW.1 hsg;obtain⟨d,hd,hvd⟩:=Paired.getL hp hv;have S2:ac H1 (upd H1 p (.tup [.ref g,v])):=ac.new hp1;have p2:upd H1 p (.tup [.ref g,v]) p=some (.tup [.ref g,v]):=aa;generalize upd H1 p (.tup [.ref g,v])=H2 at S2 p2 ⊢;refine⟨p,_,rfl,bC.of p2,rfl,_,_,rfl,_,_,rfl,rfl,sQ ?_⟩;have hg2:cN K H2 g ((dF w).map V.str):=cN.kt (ac.kt (S.trans S2)) hat;refine⟨_,rfl,.inr (.inl ⟨g,_,1,.str w,rfl,rfl,cN.sq hg2,bW (j:=1) rfl,_,rfl,(by show 2<=ai;decide),fun q hq=>?_⟩)⟩;have S3:ac H2 (upd H2 q (.tup [.str w,v])):=ac.new hq;have q3:upd H2 q (.tup [.str w,v]) q=some (.tup [.str w,v]):=aa;generalize upd H2 q (.tup [.str w,v])=H3 at S3 q3 ⊢;have S13:=S2.trans S3;have h3:=S13 _ _ h1;have kt:ig H3 (upd H3 l (.lst (us++[.ref q]))):=eM h3;have hlen:us.length<=1000:=by
   rw[Paired.length hP,List.length_zipWith,aD];omega
  refine⟨h3,ar hlen,nV hi ⟨fun b o e=>?_,aa,?_⟩⟩
  ·rw[ah (ae e hl)];exact S13 _ _ (S _ _ e)
  ·rw[take_snoc hw,take_snoc hd,List.zipWith_append (by rw[aD,aD,z])];refine gq (jU.kt (fun b xs e=>kt _ _ (ac.kt S13 _ _ e)) hP) ?_;exact⟨q,_,rfl,.inl (kt _ _ q3),_,_,rfl,gJ w,_,_,rfl,nR.kt (fun b xs e=>kt _ _ (ac.kt (S.trans S13) _ _ e)) _ _ hvd,rfl⟩
theorem ph{J1:Zb}{ps:List DT}{d:DT}(h:ps[J1.length]?=some d):rh J1 none ps=.t [gl "wait",.t (gX ja J1 (ps.take J1.length)),d]:=by
 show DT.t [_,_,(ps[J1.length]?).getD _]=_;rw[h];rfl
theorem pf{J1:Zb}{ps:List DT}{a:Str}{d:DT}(h:ps[0]?=some d):rh J1 (some a) ps=.t [gl "tell",gl a,d,.t (gX ja J1 (ps.drop 1))]:=by
 show DT.t [_,_,(ps[0]?).getD _,_]=_;rw[h];rfl
inductive kM(K:Za)(vs:List V)(H:Hp)(Q:VK)(E:XK):Prop
 |mk (sl pl:Addr) (vs':List V) (ps:List DT) (ask:Option Str) (J1:Zb):(vs=[.ref sl,.ref pl])->(dJ K H sl (bt J1 ask))->(H pl=some (.lst vs'))->(jU K H vs' ps)->(ps.length=J1.length+1)->(J1.length<=4)->(∀(v:V) (H':Hp),nR K H' (rh J1 ask ps) v->ac H H'->Q v H')->kM K vs H Q E
theorem Bk{K:Za}{vs:List V}{H:Hp}{Q:VK}{E:XK}(h:kM K vs H Q E):vz K (bh Q) (start wL vs) H:=by
 obtain⟨sl,pl,vs,ps,ask,J1,rfl,⟨gs,hsl,hG⟩,hpl,hP,zp,z4,k⟩:=h;have zv:vs.length=J1.length+1:=by rw[Paired.length hP,zp]
 cases ask with
 |some a =>
  have hG':Paired (fun g (sg:Sg)=>cN K H g (sg.map V.str)) gs (dW a::J1.map dF):=hG;obtain⟨g0,e0,hg0⟩:=Paired.get (i:=0) hG' rfl;have hd0:(gs.map V.ref)[0]?=some (.ref g0):=by rw[cD,e0];rfl
  refine⟨_,rfl,sl,_,0,.ref g0,rfl,rfl,ax.of hsl,bW (j:=0) hd0,g0,_,0,.str "ask",rfl,rfl,cN.sq hg0,bW (j:=0) rfl,rfl,_,rfl,?_⟩;rw[zzr1 rfl];refine cJ ?_;refine⟨_,rfl,_,rfl,sl,_,rfl,ax.of hsl,fun s1 hs1=>?_⟩;rw[show eN (gs.map V.ref) (some 1) none=(gs.drop 1).map V.ref from(mm _ 1).trans (uQ ..).symm];have S1:ac H (upd H s1 (.lst ((gs.drop 1).map V.ref))):=ac.new hs1;have s1':upd H s1 (.lst ((gs.drop 1).map V.ref)) s1=some (.lst ((gs.drop 1).map V.ref)):=aa;generalize upd H s1 (.lst ((gs.drop 1).map V.ref))=H1 at S1 s1' ⊢;refine⟨_,rfl,_,rfl,pl,_,rfl,ax.of (S1 _ _ hpl),fun p1 hp1=>?_⟩;rw[show eN vs (some 1) none=vs.drop 1 from mm _ 1];have S2:ac H1 (upd H1 p1 (.lst (vs.drop 1))):=ac.new hp1;have p2:upd H1 p1 (.lst (vs.drop 1)) p1=some (.lst (vs.drop 1)):=aa;generalize upd H1 p1 (.lst (vs.drop 1))=H2 at S2 p2 ⊢;have S02:=S1.trans S2;refine⟨s1,p1,rfl,.inl ⟨⟨_,ax.of (S2 _ _ s1')⟩,⟨_,ax.of p2⟩,fun f hf=>?_⟩⟩;have hG1:B4 K H2 (gs.drop 1) (J1.map dF):=B4.kt (ac.kt S02) (Paired.dropP 1 hG');refine sr (ps:=ps.drop 1) (S2 _ _ s1') hG1 p2 (jU.kt (ac.kt S02) (Paired.dropP 1 hP)) (by rw[eK];omega) z4 hf fun us H3 h3 hU S3=>?_;have S03:=S02.trans S3;obtain⟨v0,ev0⟩:∃v,vs[0]?=some v:=⟨_,eB (by omega)⟩;obtain⟨d0,ed0,hv0⟩:=Paired.getL hP ev0;refine⟨_,rfl,sl,_,0,.ref g0,rfl,rfl,ax.of (S03 _ _ hsl),bW (j:=0) hd0,g0,_,1,.str a,rfl,rfl,cN.sq (cN.kt (ac.kt S03) hg0),bW (j:=1) rfl,_,rfl,pl,_,0,v0,rfl,rfl,ax.of (S03 _ _ hpl),bW (j:=0) ev0,_,rfl,f,us,rfl,.inl ⟨ax.of h3,fun tp htp=>⟨(by show 4<=ai;decide),fun r hr=>?_⟩⟩⟩;have S4:ac H3 (upd H3 tp (.tup us)):=ac.new htp;have t4:upd H3 tp (.tup us) tp=some (.tup us):=aa
  change upd H3 tp (.tup us) r=none at hr
  show Q (.ref r) (upd (upd H3 tp (.tup us)) r (.tup [.str "tell",.str a,v0,.ref tp]));generalize upd H3 tp (.tup us)=H4 at S4 t4 hr ⊢;have S5:ac H4 (upd H4 r (.tup [.str "tell",.str a,v0,.ref tp])):=ac.new hr;refine k _ _ ?_ ((S03.trans S4).trans S5);rw[pf ed0];exact⟨r,_,rfl,.inl aa,_,_,rfl,gJ _,_,_,rfl,gJ _,_,_,rfl,nR.kt (ac.kt ((S03.trans S4).trans S5)) _ _ hv0,_,_,rfl,⟨tp,us,rfl,.inl (S5 _ _ t4),jU.all (jU.kt (ac.kt (S4.trans S5)) hU)⟩,rfl⟩
 |none =>
  have hG':Paired (fun g (sg:Sg)=>cN K H g (sg.map V.str)) gs (J1.map dF++[bJ]):=hG;have zg:gs.length=J1.length+1:=by rw[Paired.length hG',aU,aj];rfl
  obtain⟨s0,rest,e00,ne0⟩:∃s0 rest,(J1.map dF++[bJ])[0]?=some (s0::rest)/\s0≠("ask":Str):=by
   cases J1 with
   |nil=>exact⟨_,_,rfl,by decide⟩
   |cons w ws=>exact⟨_,_,rfl,by decide⟩
  obtain⟨g0,e0,hg0⟩:=Paired.get (i:=0) hG' e00;have hd0:(gs.map V.ref)[0]?=some (.ref g0):=by rw[cD,e0];rfl
  refine⟨_,rfl,sl,_,0,.ref g0,rfl,rfl,ax.of hsl,bW (j:=0) hd0,g0,_,0,.str s0,rfl,rfl,cN.sq hg0,bW (j:=0) rfl,rfl,_,rfl,?_⟩;rw[zzr0 (fun z=>ne0 (by injection z))];refine cr ?_;refine⟨_,rfl,_,rfl,_,rfl,sl,_,rfl,ax.of hsl,fun s1 hs1=>?_⟩;rw[show eN (gs.map V.ref) none (some (-1))=(gs.take J1.length).map V.ref by rw[oR,aj,zg,uR];rfl];have S1:ac H (upd H s1 (.lst ((gs.take J1.length).map V.ref))):=ac.new hs1;have s1':upd H s1 (.lst ((gs.take J1.length).map V.ref)) s1=some (.lst ((gs.take J1.length).map V.ref)):=aa;generalize upd H s1 (.lst ((gs.take J1.length).map V.ref))=H1 at S1 s1' ⊢;refine⟨_,rfl,_,rfl,_,rfl,pl,_,rfl,ax.of (S1 _ _ hpl),fun p1 hp1=>?_⟩;rw[show eN vs none (some (-1))=vs.take J1.length by rw[oR,zv];rfl];have S2:ac H1 (upd H1 p1 (.lst (vs.take J1.length))):=ac.new hp1;have p2:upd H1 p1 (.lst (vs.take J1.length)) p1=some (.lst (vs.take J1.length)):=aa;generalize upd H1 p1 (.lst (vs.take J1.length))=H2 at S2 p2 ⊢;have S02:=S1.trans S2;refine⟨s1,p1,rfl,.inl ⟨⟨_,ax.of (S2 _ _ s1')⟩,⟨_,ax.of p2⟩,fun f hf=>?_⟩⟩;have hG1:B4 K H2 (gs.take J1.length) (J1.map dF):=by
   have:=Paired.takeP J1.length hG';rw[List.take_left' (by rw[aj])]at this;exact B4.kt (ac.kt S02) this
  refine sr (ps:=ps.take J1.length) (S2 _ _ s1') hG1 p2 (jU.kt (ac.kt S02) (Paired.takeP J1.length hP)) (by rw[aD];omega) z4 hf fun us H3 h3 hU S3=>?_;have S03:=S02.trans S3;obtain⟨v0,ev0⟩:∃v,vs[J1.length]?=some v:=⟨_,eB (by omega)⟩;obtain⟨d0,ed0,hv0⟩:=Paired.getL hP ev0;refine⟨_,rfl,f,us,rfl,.inl ⟨ax.of h3,fun tp htp=>?_⟩⟩;have S4:ac H3 (upd H3 tp (.tup us)):=ac.new htp;have t4:upd H3 tp (.tup us) tp=some (.tup us):=aa;generalize upd H3 tp (.tup us)=H4 at S4 t4 ⊢;have S04:=S03.trans S4;refine⟨_,rfl,_,rfl,pl,_,-1,v0,rfl,rfl,ax.of (S04 _ _ hpl),AO zv.symm ev0,(by show 3<=ai;decide),fun r hr=>?_⟩;have S5:ac H4 (upd H4 r (.tup [.str "wait",.ref tp,v0])):=ac.new hr;refine k _ _ ?_ (S04.trans S5);rw[ph ed0];exact⟨r,_,rfl,.inl aa,_,_,rfl,gJ _,_,_,rfl,⟨tp,us,rfl,.inl (S5 _ _ t4),jU.all (jU.kt (ac.kt (S4.trans S5)) hU)⟩,_,_,rfl,nR.kt (ac.kt (S04.trans S5)) _ _ hv0,rfl⟩
theorem FH{x i:Int}{b:Nat}(h0:0<x)(h:bc.Int.intBits x<=b)(hb:b<=9000):DY i x:=by
 refine⟨h0,?_⟩;unfold bc.Int.intBits at h;rw[if_neg (by simp;omega)]at h;omega
def tB:Nat->Nat
 |0=>0
 |d+1=>13+60 * nB d+5 * tB d
inductive jt(K:Za)(Cm Ck Cd:Addr)(D:Nat)(vs:List V)(H:Hp)(Q:VK)(E:XK):Prop
 |mk (H0:Hp) (x sl y M kd cd:Addr) (us:Ze) (v:V) (kv cv:List (TK×V)) (n d:Nat) (number:Int) (J6 J0 J1 J2:Zb) (ds:List am):(vs=[.ref x,v,.int (d:Nat),.int number])->(d<=D)->(yy Cm Ck Cd H0 x sl y M kd cd us J0 J1 J2 ds)->(dq H0 H kd cd kv cv J0 J1 J2 ds n)->(DW H v J6)->(v≠.non->J6≠[])->(∀r∈J6,r∈J2)->(J6.length<=1000)->(0<=number)->(number<cntM J0 J1 J2 ds d J6)->(n+tB d<=1000000) ->
  (∀(v':V) (kv' cv':List (TK×V)) (H':Hp),nR K H' (nthM J0 J1 J2 ds d J6 number) v'->dq H0 H' kd cd kv' cv' J0 J1 J2 ds (n+tB d)->Kp H H'->Gr kv kv'->Q v' H')->jt K Cm Ck Cd D vs H Q E
inductive mW(K:Za)(Cm Ck Cd:Addr)(D:Nat)(vs:List V)(H:Hp)(Q:VK)(E:XK):Prop
 |mk (H0:Hp) (x sl y M kd cd u kl:Addr) (us:Ze) (kv cv:List (TK×V)) (n d:Nat) (ask:Option Str) (number:Int) (J6 J0 J1 J2:Zb) (ds:List am):(vs=[.ref x,.ref u,.int ((d+1:Nat)),.ref kl,.int number])->(d<=D)->(d<=4)->(yy Cm Ck Cd H0 x sl y M kd cd us J0 J1 J2 ds)->(dq H0 H kd cd kv cv J0 J1 J2 ds n)->(H u=some (.tup (J6.map V.str)))->(∀r∈J6,r∈J2)->(J6.length<=1000)->(dJ K H kl (bt J1 ask))->(∀sg∈bt J1 ask,sg∈bH J0 J1)->(n+1+5 * (nB d+tB d)<=1000000) ->
  (∀(v':V) (kv' cv':List (TK×V)) (H':Hp),nR K H' (laidM J0 J1 J2 ds d (nthM J0 J1 J2 ds d) J6 ask number) v'->dq H0 H' kd cd kv' cv' J0 J1 J2 ds (n+1+5 * (nB d+tB d))->Kp H H'->Gr kv kv'->Q v' H')->mW K Cm Ck Cd D vs H Q E
theorem Ex{K:Za}{Cm Ck Cd:Addr}{D:Nat}{vs:List V}{H:Hp}{Q:VK}{E:XK}(h:mW K Cm Ck Cd D vs H Q E):pH K (kM K) Cd (jt K Cm Ck Cd D) (fA Cm Ck Cd 4) (gS Cm Ck Cd) (bh Q) (start p7 vs) H:=by
 obtain⟨H0,x,sl,y,M,kd,cd,u,kl,us,kv,cv,n,d,ask,number,J6,J0,J1,J2,ds,rfl,hD,d4,St,Dy,hu,hsub,hz,hk,hin,hn,k⟩:=h;obtain⟨dx,fs,g0,l1,l2,l3,l4⟩:=St.ob;have mo:=St.ks.mach.ok;have z1:=mo.asks4;have z2:=mo.says4;have z3:=mo.rooms26;refine⟨_,rfl,x,dx,fs,rfl,Dy.ks.same _ _ g0,l4 "steps_from" (by decide +kernel) (by decide +kernel) (by decide +kernel),_,rfl,H0,x,sl,y,M,kd,cd,u,us,kv,cv,n,J6,J0,J1,J2,ds,rfl,St,Dy,hu,hsub,hz,by omega,fun sd kv1 kvs H1 D1 v1 _ _ ex1 gr1=>?_⟩;have kp1:Kp H H1:=Kp.exB Dy.ks.hkd rfl ex1;refine⟨(by show 0<=ai;decide),fun pl hpl=>?_⟩;have S2:ac H1 (upd H1 pl (.lst [])):=ac.new hpl;have pl2:upd H1 pl (.lst []) pl=some (.lst []):=aa;generalize upd H1 pl (.lst [])=H2 at S2 pl2 ⊢;have D2:=D1.up S2;have kp2:=kp1.trans (ac.kp S2);obtain⟨ss,hkl,hss⟩:=hk;have kl2:=kp2 _ _ hkl rfl;have npl:kl≠pl:=ae (kp1 _ _ hkl rfl) hpl;refine⟨_,rfl,?_⟩;refine⟨_,rfl,kl,_,rfl,ax.of kl2,?_⟩;have zk:=eZ J1 ask;have zs:ss.length=J1.length+1:=by rw[Paired.length hss,zk]
 have upl:H0 pl=none:=D1.ks.same.free hpl;refine EY (xs:=ss.map V.ref) (fun i σ H'=>∃(kv' cv':List (TK×V)) (vs:List V) (x8 x9:Option V),σ=[some (.ref x),some (.ref u),some (.int ((d+1:Nat))),some (.ref kl),some (.int number),some (.ref sd),some (.ref pl),some (.int (CF (fun sg=>cntM J0 J1 J2 ds d (behF J2 ds J6 sg)) ((bt J1 ask).reverse.take i) number)),x8,x9]/\H' pl=some (.lst vs)/\jU K H' vs (pV (fun sg=>cntM J0 J1 J2 ds d (behF J2 ds J6 sg)) (fun sg=>nthM J0 J1 J2 ds d (behF J2 ds J6 sg)) ((bt J1 ask).reverse.take i) number)/\(∀b o,H1 b=some o->GR o=true->H' b=some o)/\dq H0 H' kd cd kv' cv' J0 J1 J2 ds (n+1+i * (nB d+tB d))/\Gr kv1 kv')
  ⟨kv1,cv,[],_,_,rfl,pl2,.nil,ac.kp S2,D2.more (by omega),.refl _⟩ (fun i σ H' _ ⟨_,_,_,_,_,_,_,_,kp',_⟩=>ax.of (kp' _ _ (kp1 _ _ hkl rfl) rfl)) ?_ ?_
 ·rintro i w σ H3 hw hi ⟨kv3,cv3,vs3,x8,x9,rfl,p3,tr3,kp3,D3,gr3⟩;rw[aj]at hw hi;obtain⟨s,hs,rfl⟩:=cf hw;obtain⟨sg,hsg,hat⟩:=Paired.getL hss hs;have hrev:(bt J1 ask).reverse[i]?=some sg:=by
   rw[uT (by omega),zk,<-zs];exact hsg
  have hsi:=hin sg (cw hsg);have hat3:cN K H3 s (sg.map V.str):=cN.kt (fun b xs e=>kp3 _ _ (kp1 _ _ e rfl) rfl) hat;obtain⟨f',sd',kvs2,e',_,_,r2,st2⟩:=D3.ks.kok _ (fw (gr3 _ _ v1));injection e' with e1 e2;cases fF e1;cases e2;have gd:lC K H3 sd (.ref s) (aY kvs2 (fg sg)):=.inr ⟨_,fg sg,s,r2,rfl,vt hat3,ef _,rfl⟩;have mul:(i+1) * (nB d+tB d)=i * (nB d+tB d)+(nB d+tB d):=gZ _ _;have mul5:(i+1) * (nB d+tB d)<=5 * (nB d+tB d):=eo _ (by omega);have fv:∀{H':Hp},Kp H3 H'->DW H' ((aY kvs2 (fg sg)).getD .non) (behF J2 ds J6 sg):=fun kp=>by
   rcases st2.look hsi with⟨e1,e2⟩|⟨e1,u2,e2,e3⟩
   ·rw[e1,e2];exact .inl ⟨rfl,rfl⟩
   ·rw[e2];exact .inr ⟨u2,rfl,kp _ _ e3 rfl⟩
  have fne:(aY kvs2 (fg sg)).getD .non≠.non->behF J2 ds J6 sg≠[]:=by
   rcases st2.look hsi with⟨e1,e2⟩|⟨e1,u2,e2,e3⟩
   ·rw[e2];exact fun z=>absurd rfl z
   ·exact fun _=>e1
  have ed:(((d+1:Nat):Int)-1)=(d:Nat):=by omega
  refine⟨_,rfl,_,rfl,x,dx,fs,rfl,D3.ks.same _ _ g0,l4 "count_at" (by decide +kernel) (by decide +kernel) (by decide +kernel),_,rfl,sd,rfl,.inr ⟨_,r2⟩,_,rfl,_,gd,_,rfl,_,_,rfl,rfl,H0,x,sl,y,M,kd,cd,us,(aY kvs2 (fg sg)).getD .non,kv3,cv3,_,d,behF J2 ds J6 sg,J0,J1,J2,ds,?_,d4,St,D3,fv (fun _ _ e _=>e),fne,sG hsub,kE (by omega) hz,by omega,fun kv4 cv4 H4 D4 kp4 gr4=>?_⟩
  ·show[V.ref x,_,V.int (((d+1:Nat):Int)-1)]=_;rw[ed]
  have cp:=qy J0 J1 J2 ds d (behF J2 ds J6 sg);refine⟨_,_,rfl,FH cp (jg z1 z2 d _) (by have:=yj d d4;omega),fun p hp=>⟨p,_,rfl,bC.of aa,rfl,_,_,rfl,_,_,rfl,rfl,?_⟩⟩;rw[<-rH (fun sg=>cntM J0 J1 J2 ds d (behF J2 ds J6 sg)) sg,<-take_snoc hrev];generalize hown:CF (fun sg=>cntM J0 J1 J2 ds d (behF J2 ds J6 sg)) ((bt J1 ask).reverse.take i) number % cntM J0 J1 J2 ds d (behF J2 ds J6 sg)=own;have S5:ac H4 (upd H4 p (.tup [.int (CF (fun sg=>cntM J0 J1 J2 ds d (behF J2 ds J6 sg)) ((bt J1 ask).reverse.take (i+1)) number),.int own])):=ac.new hp;generalize upd H4 p (.tup [.int (CF (fun sg=>cntM J0 J1 J2 ds d (behF J2 ds J6 sg)) ((bt J1 ask).reverse.take (i+1)) number),.int own])=H5 at S5 ⊢;have D5:=D4.up S5;have kp5:Kp H3 H5:=kp4.trans (ac.kp S5);obtain⟨f',sd',kvs5,e',_,_,r5,st5⟩:=D5.ks.kok _ (fw ((gr3.trans gr4) _ _ v1));injection e' with e1 e2;cases fF e1;cases e2;have gd5:lC K H5 sd (.ref s) (aY kvs5 (fg sg)):=.inr ⟨_,fg sg,s,r5,rfl,vt (cN.kt kp5.kt hat3),ef _,rfl⟩;refine⟨_,rfl,.inl ⟨rfl,_,ax.of (kp5 _ _ p3 rfl)⟩,_,rfl,x,dx,fs,rfl,D5.ks.same _ _ g0,l4 "trial_at" (by decide +kernel) (by decide +kernel) (by decide +kernel),_,rfl,sd,rfl,.inr ⟨_,r5⟩,_,rfl,_,gd5,_,rfl,_,_,rfl,rfl,_,rfl,H0,x,sl,y,M,kd,cd,us,(aY kvs5 (fg sg)).getD .non,kv4,cv4,_,d,own,behF J2 ds J6 sg,J0,J1,J2,ds,?_,hD,St,D5,?_,?_,sG hsub,kE (by omega) hz,?_,?_,by omega,fun v6 kv6 cv6 H6 t6 D6 kp6 gr6=>?_⟩
  ·show[V.ref x,_,V.int (((d+1:Nat):Int)-1),_]=_;rw[ed]
  ·rcases st5.look hsi with⟨e1,e2⟩|⟨e1,u2,e2,e3⟩
   ·rw[e1,e2];exact .inl ⟨rfl,rfl⟩
   ·rw[e2];exact .inr ⟨u2,rfl,e3⟩
  ·rcases st5.look hsi with⟨e1,e2⟩|⟨e1,u2,e2,e3⟩
   ·rw[e2];exact fun z=>absurd rfl z
   ·exact fun _=>e1
  ·rw[<-hown];exact jm _ (by omega)
  ·rw[<-hown];exact jl _ cp
  have p6:=(kp5.trans kp6) _ _ p3 rfl;have kt:ig H6 (upd H6 pl (.lst (vs3++[v6]))):=eM p6;have zv:vs3.length<=1000:=by
   rw[Paired.length tr3,kD,aD];omega
  refine⟨pl,_,_,rfl,rfl,p6,ar zv,kv6,cv6,vs3++[v6],_,_,rfl,aa,?_,fun b o e no=>?_,?_,(gr3.trans gr4).trans gr6⟩
  ·rw[take_snoc hrev,oQ,hown];exact gq (jU.kt (fun b xs e=>kt _ _ ((kp5.trans kp6).kt _ _ e)) tr3) (nR.kt kt _ _ t6)
  ·rw[ah (ae e hpl)];exact(kp5.trans kp6) _ _ (kp3 _ _ e no) no
  ·exact(D6.more (m:=n+1+(i+1) * (nB d+tB d)) (by omega)).cell upl p6
 ·rintro σ H3 ⟨kv3,cv3,vs3,x8,x9,rfl,p3,tr3,kp3,D3,gr3⟩;have el:(ss.map V.ref).length=(bt J1 ask).reverse.length:=by rw[aj,gu,zs,zk]
  rw[el,aZ]at tr3;rw[aj,zs]at D3;have m5:(J1.length+1) * (nB d+tB d)<=5 * (nB d+tB d):=eo _ (by omega);refine⟨_,rfl,.inl ⟨rfl,_,ax.of p3⟩,pl,_,rfl,rfl,p3,?_⟩;have kt:ig H3 (upd H3 pl (.lst vs3.reverse)):=eM p3;have D4:=D3.cell (ys:=vs3.reverse) upl p3;have p4:upd H3 pl (.lst vs3.reverse) pl=some (.lst vs3.reverse):=aa;have kp4:Kp H1 (upd H3 pl (.lst vs3.reverse)):=fun b o e no=>by rw[ah (ae e hpl)];exact kp3 _ _ e no
  generalize upd H3 pl (.lst vs3.reverse)=H4 at kt D4 p4 kp4 ⊢;refine⟨_,rfl,_,rfl,kl,pl,_,_,ask,J1,rfl,⟨ss,kp4 _ _ (kp1 _ _ hkl rfl) rfl,Paired.mapP hss fun _ _ r=>cN.kt (kp1.trans kp4).kt r⟩,p4,Paired.rev (jU.kt kt tr3),by rw[gu,kD,gu,zk],z2,fun v' H5 t5 S5=>?_⟩;exact k v' kv3 cv3 H5 t5 ((D4.up S5).more (by omega)) ((kp1.trans kp4).trans (ac.kp S5)) (gr1.trans gr3)
theorem BZ{J0 J2 J6:Zb}{ds:List am}{J1:Zb}{a:Option Str}(h:a∈(askedF J0 J2 ds J6).map some++[none]):∀sg∈bt J1 a,sg∈bH J0 J1:=by
 have hk:bt J1 a∈kindsF J0 J1 J2 ds J6:=by rw[iD];exact nX h
 exact(oM hk).2
theorem Ey{K:Za}{Cm Ck Cd bl en:Addr}(c:DC K Cd)(hb:∀H,bC K H bl (k7.map V.str))(he:∀H,bC K H en (kC.map V.str)){D:Nat}{spT:Sp}(d5:D<=4)(hT:∀m,D=m+1->spT=mW K Cm Ck Cd m){vs:List V}{H:Hp}{Q:VK}{E:XK}(h:jt K Cm Ck Cd D vs H Q E):pI K Cd spT (hV K Cm Ck Cd 4) (i4 K Cm Ck Cd) en bl (bh Q) (start p8 vs) H:=by
 obtain⟨H0,x,sl,y,M,kd,cd,us,v,kv,cv,n,d,number,J6,J0,J1,J2,ds,rfl,hD,St,Dy,hv,hne,hsub,hz,n0,nl,hn,k⟩:=h;obtain⟨dx,fs,g0,l1,l2,l3,l4⟩:=St.ob;have mo:=St.ks.mach.ok;have z1:=mo.asks4;have z2:=mo.says4;refine⟨_,rfl,_,rfl,?_⟩;rcases hv with⟨rfl,rfl⟩|⟨u,rfl,hu⟩
 ·refine cJ ?_;refine k _ kv cv H ?_ (Dy.more (by omega)) (fun _ _ e _=>e) (.refl _);rw[xK];exact vq (qj hb H)
 have hne:=hne (by intro z;cases z);refine cr ?_;refine⟨_,rfl,rfl,_,rfl,?_⟩;by_cases hz0:number=0
 ·rw[zzr1 (by rw[hz0])];refine cJ ?_;refine k _ kv cv H ?_ (Dy.more (by omega)) (fun _ _ e _=>e) (.refl _);rw[hz0,xL hne];exact vq (qj he H)
 rw[zzr0 (by intro z;injection z with z;exact hz0 z)];refine cr ?_
 match d,hD,hn,nl,k with
 |0,_,_,nl,_ =>
  unfold cntM at nl;omega
 |d+1,hD,hn,nl,k =>
 obtain⟨m,rfl⟩:∃m,D=m+1:=⟨D-1,by omega⟩;cases hT m rfl;rw[AL hne]at nl;have nb:tB (d+1)=13+60 * nB d+5 * tB d:=rfl;refine⟨_,rfl,_,_,rfl,rfl,?_⟩;refine⟨_,rfl,x,dx,fs,rfl,Dy.ks.same _ _ g0,l4 "kinds_at" (by decide +kernel) (by decide +kernel) (by decide +kernel),_,rfl,H0,x,sl,y,M,kd,cd,u,us,kv,cv,n,J6,J0,J1,J2,ds,rfl,St,Dy,hu,hsub,hz,by omega,fun l ks kv1 H1 hl hK D1 kp1 gr1=>?_⟩;have u1:=kp1 _ _ hu rfl;rw[iD]at hK;generalize hA:((askedF J0 J2 ds J6).map some++[none]:List (Option Str))=A at hK nl;have zA:A.length<=5:=by
  rw[<-hA,aU,aj];have:(askedF J0 J2 ds J6).length<=4:=aE (cC _ _) z1;show _+1<=5;omega
 have memA:∀a∈A,∀sg∈bt J1 a,sg∈bH J0 J1:=fun a ha=>BZ (J2:=J2) (ds:=ds) (J6:=J6) (by rw[hA];exact ha);refine⟨fun w σ H'=>∃(kv' cv':List (TK×V)) (i:Nat) (left:Int),w+i=5/\σ=[some (.ref x),some (.ref u),some (.int ((d+1:Nat))),some (.int number),some (.int left),some (.ref l),some (.int (i:Nat))]/\D_ (prodA J0 J1 J2 ds d J6) A (number-1) i left/\Kp H1 H'/\dq H0 H' kd cd kv' cv' J0 J1 J2 ds (n+1+i * (2 * (1+5 * nB d)))/\Gr kv1 kv',
  ⟨5,kv1,cv,0,number-1,rfl,rfl,⟨rfl,by omega,by show number-1<(A.map _).sum;omega⟩,fun _ _ e _=>e,D1.more (by omega),.refl _⟩,?_⟩
 rintro w σ H2 ⟨kv2,cv2,i,left,ew,rfl,pk,kp2,D2,gr2⟩;obtain⟨a,ea,_⟩:=pk.at;have il:i<A.length:=(bQ.1 ea).1;have mul:(i+1) * (2 * (1+5 * nB d))=i * (2 * (1+5 * nB d))+2 * (1+5 * nB d):=gZ _ _;have mul5:i * (2 * (1+5 * nB d))<=4 * (2 * (1+5 * nB d)):=eo _ (by omega);obtain⟨q,hq,hat⟩:=Paired.get (i:=i) (y:=bt J1 a) hK (by rw[cD,ea];rfl);have hqv:(ks.map V.ref)[i]?=some (.ref q):=by rw[cD,hq];rfl
 have zp:(bt J1 a).length<=5:=by rw[eZ];omega
 have pin:=memA a (cw ea);refine⟨_,rfl,_,rfl,x,dx,fs,rfl,D2.ks.same _ _ g0,l4 "count_of" (by decide +kernel) (by decide +kernel) (by decide +kernel),_,rfl,_,rfl,_,rfl,_,rfl,l,_,(i:Int),.ref q,rfl,rfl,ax.of (kp2 _ _ hl rfl),bW hqv,H0,x,sl,y,M,kd,cd,u,q,us,kv2,cv2,_,d,bt J1 a,J6,J0,J1,J2,ds,rfl,by omega,by omega,St,D2,kp2 _ _ u1 rfl,hsub,hz,hat.kp kp2,pin,zp,by omega,fun kv3 cv3 H3 D3 kp3 gr3=>?_⟩
 change dq H0 H3 kd cd kv3 cv3 J0 J1 J2 ds _ at D3
 refine⟨_,_,rfl,rfl,_,rfl,?_⟩;have kp23:=kp2.trans kp3;by_cases hlt:left<prodA J0 J1 J2 ds d J6 a
 ·rw[zzr0 (by show ¬(left ≥ prodA J0 J1 J2 ds d J6 a);omega)];refine cr ?_;have e:=pk.stop ea hlt;rw[<-hA]at e;refine⟨_,rfl,x,dx,fs,rfl,D3.ks.same _ _ g0,l4 "trial_of" (by decide +kernel) (by decide +kernel) (by decide +kernel),_,rfl,_,rfl,_,rfl,_,rfl,l,_,(i:Int),.ref q,rfl,rfl,ax.of (kp23 _ _ hl rfl),bW hqv,_,rfl,H0,x,sl,y,M,kd,cd,u,q,us,kv3,cv3,_,d,a,left,J6,J0,J1,J2,ds,rfl,by omega,by omega,St,D3,kp23 _ _ u1 rfl,hsub,hz,hat.kp kp23,pin,by omega,fun v4 kv4 cv4 H4 t4 D4 kp4 gr4=>?_⟩;refine k v4 kv4 cv4 H4 ?_ (D4.more (by omega)) ((kp1.trans kp23).trans kp4) (gr1.trans (gr2.trans (gr3.trans gr4)));rw[um hne hz0 e];exact t4
 ·rw[zzr1 (by show left ≥ prodA J0 J1 J2 ds d J6 a;omega)];refine cJ ?_;have pk':=pk.next ea hlt;obtain⟨_,ea',_⟩:=pk'.at;have il':i+1<A.length:=(bQ.1 ea').1;refine⟨fun σ H'=>∃(kv' cv':List (TK×V)) (left:Int),σ=[some (.ref x),some (.ref u),some (.int ((d+1:Nat))),some (.int number),some (.int left),some (.ref l),some (.int ((i+1:Nat)))]/\D_ (prodA J0 J1 J2 ds d J6) A (number-1) (i+1) left/\Kp H1 H'/\dq H0 H' kd cd kv' cv' J0 J1 J2 ds (n+1+(i+1) * (2 * (1+5 * nB d)))/\Gr kv1 kv',?_,?_⟩
  ·rintro σ' H' ⟨kv',cv',left',rfl,pk',kp',D',gr'⟩;exact⟨w-1,by omega,kv',cv',i+1,left',by omega,rfl,pk',kp',D',gr'⟩
  refine⟨_,rfl,_,rfl,x,dx,fs,rfl,D3.ks.same _ _ g0,l4 "count_of" (by decide +kernel) (by decide +kernel) (by decide +kernel),_,rfl,_,rfl,_,rfl,_,rfl,l,_,(i:Int),.ref q,rfl,rfl,ax.of (kp23 _ _ hl rfl),bW hqv,H0,x,sl,y,M,kd,cd,u,q,us,kv3,cv3,_,d,bt J1 a,J6,J0,J1,J2,ds,rfl,by omega,by omega,St,D3,kp23 _ _ u1 rfl,hsub,hz,hat.kp kp23,pin,zp,by omega,fun kv4 cv4 H4 D4 kp4 gr4=>?_⟩;refine⟨_,_,rfl,rfl,_,rfl,_,_,rfl,rfl,kv4,cv4,_,?_,pk',kp23.trans kp4,D4.more (by omega),gr2.trans (gr3.trans gr4)⟩;show[some (V.ref x),_,_,_,some (V.int (left-prodA J0 J1 J2 ds d J6 a)),_,some (V.int ((i:Nat)+1))]=_;rw[show((i:Nat):Int)+1=((i+1:Nat):Int) by omega]
theorem GG:∀d,d<=4->nB d+tB d<=900000:=by
 intro d hd
 match d,hd with
 |0,_=>decide
 |1,_=>decide
 |2,_=>decide
 |3,_=>decide
 |4,_=>decide
inductive kO(K:Za)(Cm:Addr)(vs:List V)(H:Hp)(Q:VK)(E:XK):Prop
 |mk (M:Addr) (d:Nat) (number:Int) (J0 J1 J2:Zb) (ds:List am):(vs=[.ref M,.int (d:Nat),.int number])->(d<=4)->(bO Cm H M J0 J1 J2 ds)->(0<=number)->(number<cntM J0 J1 J2 ds d (closF J2 ds (J2.take 1)))->(∀v H',nR K H' (nthM J0 J1 J2 ds d (closF J2 ds (J2.take 1)) number) v->ac H H'->Q v H')->kO K Cm vs H Q E
theorem Bq{K:Za}{Cm Ck Cd:Addr}(c:DC K Cd){vs:List V}{H:Hp}{Q:VK}{E:XK}(h:kO K Cm vs H Q E):A_ K Cd (jt K Cm Ck Cd 4) (bD Cm) (fA Cm Ck Cd 4) (i6 Cm Ck Cd) sp_need_depth (bh Q) (start B7 vs) H:=by
 obtain⟨M,d,number,J0,J1,J2,ds,rfl,hd,MA,n0,nl,k⟩:=h;have z3:=MA.ok.rooms26;have bd:=GG d hd;refine⟨_,rfl,d,rfl,hd,?_⟩;refine⟨_,rfl,fun x dx hx hdx ne=>?_⟩;have S0:ac H (upd (upd H dx (.own x)) x (.ins Cd dx [])):=fun b o e=>by rw[ah (ae e hx)];exact kp e hdx
 refine⟨H,x,dx,M,J0,J1,J2,ds,rfl,aa,MA,hx,S0,fun Hs sl y kd cd us H1 St Dy S1=>⟨rfl,?_⟩⟩;obtain⟨dx1,fs1,g1,_,_,_,l4⟩:=St.ob;refine⟨_,rfl,_,_,rfl,rfl,_,rfl,?_⟩;rw[zzr0 (by omega)];refine cr ?_;refine⟨_,rfl,_,rfl,x,dx1,fs1,rfl,Dy.ks.same _ _ g1,l4 "count_at" (by decide +kernel) (by decide +kernel) (by decide +kernel),_,rfl,M,J0,J1,J2,ds,rfl,St.ks.mach.same Dy.ks.same,fun t F H2 ht hF S2=>?_⟩;rw[ji hF]at ht;refine⟨_,rfl,Hs,x,sl,y,M,kd,cd,us,.ref t,[],[],0,d,_,J0,J1,J2,ds,rfl,hd,St,Dy.up S2,.inr ⟨t,rfl,ht⟩,fun _=>sC MA.ok.rooms0,k6,aE jh (by omega),by omega,fun kv3 cv3 H3 D3 _ _=>?_⟩;refine⟨_,_,rfl,rfl,_,rfl,?_⟩;rw[zzr0 (by omega)];refine cr ?_;refine⟨_,rfl,x,dx1,fs1,rfl,D3.ks.same _ _ g1,l4 "trial_at" (by decide +kernel) (by decide +kernel) (by decide +kernel),_,rfl,M,J0,J1,J2,ds,rfl,St.ks.mach.same D3.ks.same,fun t4 F4 H4 ht4 hF4 S4=>?_⟩;rw[ji hF4]at ht4;refine⟨_,rfl,_,rfl,Hs,x,sl,y,M,kd,cd,us,.ref t4,kv3,cv3,_,d,number,_,J0,J1,J2,ds,rfl,hd,St,D3.up S4,.inr ⟨t4,rfl,ht4⟩,fun _=>sC MA.ok.rooms0,k6,aE jh (by omega),n0,nl,by omega,fun v5 kv5 cv5 H5 t5 D5 _ _=>k v5 H5 t5 (S1.trans D5.ks.same)⟩
theorem kW{H:Hp}{ts:Ze}{xs ys:List V}(h:∀t∈ts,H t=none):ac H (fR H ts xs ys):=fun b o e=>by
 rw[ia (fun z=>by rw[h b z]at e;cases e)];exact e
theorem ui{α β:Type}{R:α->β->Prop}:∀{xs:List α}{ys:List β},xs.length=ys.length->(∀(i:Nat) x y,xs[i]?=some x->ys[i]?=some y->R x y)->Paired R xs ys
 |[],[],_,_=>.nil
 |[],_::_,h,_=>by cases h
 |_::_,[],h,_=>by cases h
 |x::xs,y::ys,h,f=>.cons (f 0 x y rfl rfl) (ui (Nat.succ.inj h) fun i a b e1 e2=>f (i+1) a b e1 e2)
theorem r9{K:Za}{H:Hp}{ts:Ze}{J1:Zb}{vs:List V}{ps:List DT}(nd:ts.Nodup)(hz:∀t∈ts,H t=none)(zl:ts.length=J1.length)(zv:J1.length=ps.length)(hP:jU K H vs ps):jU K (fR H ts (J1.map V.str) vs) (ts.map V.ref) (gX ja J1 ps):=by
 refine ui (by rw[aj,List.length_zipWith];omega) fun i x y hx hy=>?_;obtain⟨t,ht,rfl⟩:=cf hx;have il:i<ts.length:=(bQ.1 ht).1;obtain⟨d,hd⟩:∃d,ps[i]?=some d:=⟨_,eB (by omega)⟩;obtain⟨w,hw⟩:∃w,J1[i]?=some w:=⟨_,eB (by omega)⟩;obtain⟨v,hv,hvd⟩:=Paired.get hP hd;rw[List.getElem?_zipWith,hw,hd]at hy;injection hy with hy;rw[<-hy];exact⟨t,_,rfl,.inl (nI nd ht (by rw[cD,hw];rfl) hv),_,_,rfl,gJ w,_,_,rfl,nR.kt (ac.kt (kW hz)) _ _ hvd,rfl⟩
def uB:Nat->Nat
 |0=>0
 |d+1=>9+30 * (1+lB d)+5 * uB d
inductive jv(K:Za)(D:Nat)(vs:List V)(H:Hp)(Q:VK)(E:XK):Prop
 |mk (X:TK×V->Prop) (hX:Fh X) (H0:Hp) (t l1 l2 l3 l4 kd fu:Addr) (ts:Ze) (kv:List (TK×V)) (n d:Nat) (number:Int) (J6 J0 J1 J2:Zb) (ds:List am):(vs=[.ref t,.ref kd,.ref fu,.int (d:Nat),.int number])->(d<=D)->(iR H0 t l1 l2 l3 l4 ts J0 J1 J2 ds)->(b9 J0 J1 J2 ds)->(H0 kd=none)->(ac H0 H)->(cU X H kd kv J0 J1 J2 ds n)->(H fu=some (.tup (J6.map V.str)))->(J6.length<=1000)->(0<=number)->(number<cntM J0 J1 J2 ds d J6)->(n+uB d<=8000000) ->
  (∀(v:V) (kv':List (TK×V)) (H':Hp),nR K H' (nthM J0 J1 J2 ds d J6 number) v->cU X H' kd kv' J0 J1 J2 ds (n+uB d)->bg kd H H'->Q v H')->jv K D vs H Q E
inductive ki(K:Za)(D:Nat)(vs:List V)(H:Hp)(Q:VK)(E:XK):Prop
 |mk (X:TK×V->Prop) (hX:Fh X) (H0:Hp) (t l1 l2 l3 l4 kd fu:Addr) (ts:Ze) (ask:Option Str) (kv:List (TK×V)) (n d:Nat) (number:Int) (J6 J0 J1 J2:Zb) (ds:List am):(vs=[.ref t,.ref kd,.ref fu,tM ask,.int ((d+1:Nat)),.int number])->(d<=D)->(d<=4)->(iR H0 t l1 l2 l3 l4 ts J0 J1 J2 ds)->(b9 J0 J1 J2 ds)->(H0 kd=none)->(ac H0 H)->(cU X H kd kv J0 J1 J2 ds n)->(H fu=some (.tup (J6.map V.str)))->(J6.length<=1000)->(n+5 * (1+lB d)+5 * (1+uB d)<=8000000) ->
  (∀(v:V) (kv':List (TK×V)) (H':Hp),nR K H' (laidM J0 J1 J2 ds d (nthM J0 J1 J2 ds d) J6 ask number) v->cU X H' kd kv' J0 J1 J2 ds (n+5 * (1+lB d)+5 * (1+uB d))->bg kd H H'->Q v H')->ki K D vs H Q E
theorem CL{K:Za}{D:Nat}{vs:List V}{H:Hp}{Q:VK}{E:XK}(h:ki K D vs H Q E):yM K (gg K 4) (jv K D) (i7 K) kh (bh Q) (start zU vs) H:=by
 obtain⟨X,hX,H0,t,l1,l2,l3,l4,kd,fu,ts,ask,kv,n,d,number,J6,J0,J1,J2,ds,rfl,hD,d4,T,m,h0,S0,Dy,hf,hz,hn,k⟩:=h;have z1:=m.asks4;have z2:=m.says4;have z3:=m.rooms26;refine⟨(by show 0<=ai;decide),fun sm hsm=>?_⟩;have S1:ac H (upd H sm (.lst [])):=ac.new hsm;have nsm:sm≠kd:=(ae Dy.hkd hsm).symm;have sm1:upd H sm (.lst []) sm=some (.lst []):=aa;generalize upd H sm (.lst [])=H1 at S1 sm1 ⊢;refine⟨_,rfl,_,rfl,t,l1,l2,l3,l4,ts,ask,J0,J1,J2,ds,rfl,(T.same S0).same S1,z2,fun pl us H2 hpl hP S2=>?_⟩;have S12:=S1.trans S2;have D2:=Dy.up S12;have zk:=eZ J1 ask;have zu:us.length=J1.length+1:=by rw[Paired.length hP,zk]
 have npl:pl≠kd:=fun z=>by have:=D2.hkd;rw[<-z,hpl]at this;cases this
 have S02:=S0.trans S12;refine⟨_,rfl,_,rfl,_,rfl,_,rfl,_,rfl,_,rfl,X,hX,H0,t,l1,l2,l3,l4,kd,fu,ts,ask,kv,n,d,J6,J0,J1,J2,ds,rfl,d4,T,m,h0,S02,D2,S12 _ _ hf,hz,by omega,fun zl kv3 H3 hzl D3 ex3=>⟨pl,zl,_,_,rfl,ax.of (ex3 _ _ hpl npl),ax.of hzl,fun Dl zs hDl hzs nd zlen=>?_⟩⟩;have sm2:=S2 _ _ sm1;have sm3:=ex3 _ _ sm2 nsm;have zlen:zs.length=J1.length+1:=by
  rw[zlen,aj,aj,aj,zu,zk];omega
 have nd2:=iw.1 nd;have S4:ac H3 (upd (fR H3 zs (us.map V.ref) (((bt J1 ask).map fun sg=>cntM J0 J1 J2 ds d (behF J2 ds J6 sg)).map V.int)) Dl (.lst (zs.map V.ref))):=fun b o e=>by
  rw[ah (ae e hDl)];exact kW hzs _ _ e
 have pr4:∀(j:Nat) (z:Addr) (sg:Sg),zs[j]?=some z->(bt J1 ask)[j]?=some sg->∃s,us[j]?=some s/\upd (fR H3 zs (us.map V.ref) (((bt J1 ask).map fun sg=>cntM J0 J1 J2 ds d (behF J2 ds J6 sg)).map V.int)) Dl (.lst (zs.map V.ref)) z=some (.tup [.ref s,.int (cntM J0 J1 J2 ds d (behF J2 ds J6 sg))]):=fun j z sg ez es=>by
  obtain⟨s,hs,_⟩:=Paired.get hP es;refine⟨s,hs,?_⟩;rw[ah (fun q:z=Dl=>nd2.1 (by rw[<-q];exact cw ez))];exact nI nd2.2 ez (by rw[cD,hs];rfl) (by rw[cD,cD,es];rfl)
 have dl4:upd (fR H3 zs (us.map V.ref) (((bt J1 ask).map fun sg=>cntM J0 J1 J2 ds d (behF J2 ds J6 sg)).map V.int)) Dl (.lst (zs.map V.ref)) Dl=some (.lst (zs.map V.ref)):=aa;generalize upd (fR H3 zs (us.map V.ref) (((bt J1 ask).map fun sg=>cntM J0 J1 J2 ds d (behF J2 ds J6 sg)).map V.int)) Dl (.lst (zs.map V.ref))=H4 at S4 pr4 dl4 ⊢;refine⟨Dl,_,rfl,ax.of dl4,fun rl hrl=>?_⟩;rw[<-List.map_reverse];have S5:ac H4 (upd H4 rl (.lst (zs.reverse.map V.ref))):=ac.new hrl;have rl5:upd H4 rl (.lst (zs.reverse.map V.ref)) rl=some (.lst (zs.reverse.map V.ref)):=aa;generalize upd H4 rl (.lst (zs.reverse.map V.ref))=H5 at S5 rl5 ⊢;have S35:=S4.trans S5;have D5:=D3.up S35;have sm5:=S35 _ _ sm3;have nrl:rl≠kd:=fun z=>by have:=D5.hkd;rw[<-z,rl5]at this;cases this
 have nrs:rl≠sm:=(ae (S4 _ _ sm3) hrl).symm;have ex5:bg kd H2 H5:=ex3.trs (ac.exBs S35);have kt25:ig H2 H5:=bg.ktd D2.hkd ex5;have sm0:H0 sm=none:=S0.free hsm;refine⟨rl,rfl,⟨_,ax.of rl5⟩,?_⟩;refine cn (xs:=zs.reverse.map V.ref) (fun i σ H'=>∃(kv':List (TK×V)) (vs:List V) (x8 x9:Option V),σ=[some (.ref t),some (.ref kd),some (.ref fu),some (tM ask),some (.int ((d+1:Nat))),some (.int (CF (fun sg=>cntM J0 J1 J2 ds d (behF J2 ds J6 sg)) ((bt J1 ask).reverse.take i) number)),some (.ref sm),some (.ref pl),x8,x9]/\H' sm=some (.lst vs)/\jU K H' vs (pV (fun sg=>cntM J0 J1 J2 ds d (behF J2 ds J6 sg)) (fun sg=>nthM J0 J1 J2 ds d (behF J2 ds J6 sg)) ((bt J1 ask).reverse.take i) number)/\cU X H' kd kv' J0 J1 J2 ds (n+5 * (1+lB d)+i * (1+uB d))/\∀b o,H5 b=some o->b≠kd->b≠sm->H' b=some o)
  ⟨kv3,[],_,_,rfl,sm5,.nil,D5.more (by omega),fun _ _ e _ _=>e⟩ (fun i σ H' _ ⟨_,_,_,_,_,_,_,_,ex⟩=>ax.of (ex _ _ rl5 nrl nrs)) ?_ ?_
 ·rintro i w σ H6 hw ⟨kv6,vs6,x8,x9,rfl,sm6,tr6,D6,ex6⟩;obtain⟨z,hzz,rfl⟩:=cf hw;have il:i<zs.length:=by have:=(bQ.1 hzz).1;rw[gu]at this;exact this
  rw[uT il]at hzz;obtain⟨sg,hsg⟩:∃sg,(bt J1 ask)[zs.length-1-i]?=some sg:=⟨_,eB (by omega)⟩;have hrev:(bt J1 ask).reverse[i]?=some sg:=by
   rw[uT (by omega),zk,<-zlen];exact hsg
  obtain⟨s,hs,ez⟩:=pr4 _ _ _ hzz hsg;obtain⟨sg',hsg',hat⟩:=Paired.getL hP hs;rw[hsg]at hsg';cases hsg';have kt6:ig H5 H6:=fun b xs e=>ex6 _ _ e (fun z=>by rw[z,D5.hkd]at e;cases e) (fun z=>by rw[z,sm5]at e;cases e);have ez6:=kt6 _ _ (S5 _ _ ez);have s6:=kt6 _ _ (kt25 _ _ hat);have f6:=kt6 _ _ (kt25 _ _ (S12 _ _ hf));have S06:ac H0 H6:=fun b o e=>ex6 _ _ (ex5 _ _ (S02 _ _ e) (ae e h0)) (ae e h0) (ae e sm0);have mul:(i+1) * (1+uB d)=i * (1+uB d)+(1+uB d):=gZ _ _;have mul5:(i+1) * (1+uB d)<=5 * (1+uB d):=eo _ (by omega);have cp:=qy J0 J1 J2 ds d (behF J2 ds J6 sg);refine⟨z,_,rfl,bC.of ez6,rfl,_,_,rfl,_,_,rfl,rfl,?_⟩;refine⟨_,rfl,.inl ⟨rfl,_,ax.of sm6⟩,_,rfl,_,rfl,_,rfl,_,rfl,_,rfl,_,rfl,X,hX,H0,t,l1,l2,l3,l4,kd,fu,s,ts,kv6,_,sg,J6,J0,J1,J2,ds,rfl,T,m,h0,S06,D6,f6,s6,hz,by omega,fun u kv7 H7 hu D7 ex7=>?_⟩;refine⟨_,rfl,_,_,rfl,rfl,_,rfl,_,rfl,_,_,rfl,rfl,cp,X,hX,H0,t,l1,l2,l3,l4,kd,u,ts,kv7,_,d,CF (fun sg=>cntM J0 J1 J2 ds d (behF J2 ds J6 sg)) ((bt J1 ask).reverse.take i) number % cntM J0 J1 J2 ds d (behF J2 ds J6 sg),behF J2 ds J6 sg,J0,J1,J2,ds,?_,hD,T,m,h0,bg.sameH S06 h0 ex7,D7,hu,kE (by omega) hz,jm _ (by omega),jl _ cp,by omega,fun v8 kv8 H8 t8 D8 ex8=>?_⟩
  ·show[V.ref t,V.ref kd,V.ref u,V.int (((d+1:Nat):Int)-1),_]=_;rw[show(((d+1:Nat):Int)-1)=(d:Nat) by omega]
  have sm8:=ex8 _ _ (ex7 _ _ sm6 nsm) nsm;have kt:ig H8 (upd H8 sm (.lst (vs6++[v8]))):=eM sm8;have kt68:ig H6 H8:=fun b xs e=>bg.ktd D7.hkd ex8 _ _ (bg.ktd D6.hkd ex7 _ _ e);have zv:vs6.length<=1000:=by
   rw[Paired.length tr6,kD,aD];omega
  refine⟨sm,_,_,rfl,rfl,sm8,ar zv,?_⟩;refine⟨_,rfl,_,rfl,_,_,rfl,rfl,FH cp (jg z1 z2 d _) (by have:=yj d d4;omega),kv8,vs6++[v8],some (.ref s),some (.int (cntM J0 J1 J2 ds d (behF J2 ds J6 sg))),?_,aa,?_,(D8.more (m:=n+5 * (1+lB d)+(i+1) * (1+uB d)) (by omega)).cell sm8,fun b o e n1 n2=>?_⟩
  ·rw[take_snoc hrev,rH];rfl
  ·rw[take_snoc hrev,oQ];exact gq (jU.kt (fun b xs e=>kt _ _ (kt68 _ _ e)) tr6) (nR.kt kt _ _ t8)
  ·rw[ah n2];exact ex8 _ _ (ex7 _ _ (ex6 _ _ e n1 n2) n1) n1
 ·rintro σ H6 ⟨kv6,vs6,x8,x9,rfl,sm6,tr6,D6,ex6⟩;have el:(zs.reverse.map V.ref).length=(bt J1 ask).reverse.length:=by rw[aj,gu,gu,zlen,zk]
  rw[el,aZ]at tr6;rw[aj,gu,zlen]at D6;have m5:(J1.length+1) * (1+uB d)<=5 * (1+uB d):=eo _ (by omega);have D6:=D6.more (m:=n+5 * (1+lB d)+5 * (1+uB d)) (by omega);have zd:(pV (fun sg=>cntM J0 J1 J2 ds d (behF J2 ds J6 sg)) (fun sg=>nthM J0 J1 J2 ds d (behF J2 ds J6 sg)) (bt J1 ask).reverse number).length=J1.length+1:=by rw[kD,gu,zk]
  have exf:bg kd H H6:=fun b o e nb=>ex6 _ _ (ex5 _ _ (S12 _ _ e) nb) nb (ae e hsm);refine⟨_,rfl,.inl ⟨rfl,_,ax.of sm6⟩,sm,_,rfl,rfl,sm6,?_⟩;have kt:ig H6 (upd H6 sm (.lst vs6.reverse)):=eM sm6;have D7:=D6.cell (ys:=vs6.reverse) sm6;have sm7:upd H6 sm (.lst vs6.reverse) sm=some (.lst vs6.reverse):=aa;have ex7:bg kd H (upd H6 sm (.lst vs6.reverse)):=fun b o e nb=>by rw[ah (ae e hsm)];exact exf _ _ e nb
  have S07:ac H0 (upd H6 sm (.lst vs6.reverse)):=bg.sameH S0 h0 ex7;have tr7:jU K (upd H6 sm (.lst vs6.reverse)) vs6.reverse _:=Paired.rev (jU.kt kt tr6);generalize upd H6 sm (.lst vs6.reverse)=H7 at D7 sm7 ex7 S07 tr7 ⊢;have T7:=T.same S07;unfold laidM at k;generalize(pV (fun sg=>cntM J0 J1 J2 ds d (behF J2 ds J6 sg)) (fun sg=>nthM J0 J1 J2 ds d (behF J2 ds J6 sg)) (bt J1 ask).reverse number)=dg at zd tr7 k;have zp:dg.reverse.length=J1.length+1:=by rw[gu,zd]
  have zv:vs6.reverse.length=J1.length+1:=by rw[Paired.length tr7,zp]
  generalize dg.reverse=ps at zp tr7 k;generalize vs6.reverse=vs7 at sm7 tr7 zv;refine⟨_,rfl,_,rfl,?_⟩;cases ask with
  |none =>
   refine cJ ?_;obtain⟨v0,ev0⟩:∃v,vs7[J1.length]?=some v:=⟨_,eB (by omega)⟩;obtain⟨d0,ed0,hv0⟩:=Paired.getL tr7 ev0;refine⟨_,rfl,t,_,1,.ref l2,rfl,rfl,bC.of T7.t,rfl,_,rfl,_,rfl,_,rfl,sm,_,rfl,ax.of sm7,fun c1 hc1=>?_⟩;rw[show eN vs7 none (some (-1))=vs7.take J1.length by rw[oR,zv];rfl];have S8:ac H7 (upd H7 c1 (.lst (vs7.take J1.length))):=ac.new hc1;have c8:upd H7 c1 (.lst (vs7.take J1.length)) c1=some (.lst (vs7.take J1.length)):=aa;generalize upd H7 c1 (.lst (vs7.take J1.length))=H8 at S8 c8 ⊢;refine⟨l2,c1,_,_,rfl,ax.of (S8 _ _ T7.a2),ax.of c8,fun Dt zz hDt hzz ndz zlz=>?_⟩;have ndz2:=iw.1 ndz;have zlz:zz.length=J1.length:=by rw[zlz,aj,aD];omega
   have lp:=r9 (K:=K) (J1:=J1) ndz2.2 hzz zlz (by rw[aD];omega) (Paired.takeP J1.length (jU.kt (ac.kt S8) tr7));have S9:ac H8 (upd (fR H8 zz (J1.map V.str) (vs7.take J1.length)) Dt (.tup (zz.map V.ref))):=fun b o e=>by
    rw[ah (ae e hDt)];exact kW hzz _ _ e
   have lp9:jU K (upd (fR H8 zz (J1.map V.str) (vs7.take J1.length)) Dt (.tup (zz.map V.ref))) (zz.map V.ref) (gX ja J1 (ps.take J1.length)):=jU.kt (ac.kt (ac.new (by rw[ia ndz2.1];exact hDt))) lp;have d9:upd (fR H8 zz (J1.map V.str) (vs7.take J1.length)) Dt (.tup (zz.map V.ref)) Dt=some (.tup (zz.map V.ref)):=aa;generalize upd (fR H8 zz (J1.map V.str) (vs7.take J1.length)) Dt (.tup (zz.map V.ref))=H9 at S9 lp9 d9 ⊢;have S79:=S8.trans S9;refine⟨_,rfl,_,rfl,sm,_,-1,v0,rfl,rfl,ax.of (S79 _ _ sm7),AO zv.symm ev0,(by show 3<=ai;decide),fun r hr=>?_⟩;have S10:ac H9 (upd H9 r (.tup [.str "wait",.ref Dt,v0])):=ac.new hr;refine k _ kv6 _ ?_ ((D7.up S79).up S10) (ex7.trs (ac.exBs (S79.trans S10)));rw[ph ed0];exact⟨r,_,rfl,.inl aa,_,_,rfl,gJ _,_,_,rfl,⟨Dt,_,rfl,.inl (S10 _ _ d9),jU.all (jU.kt (ac.kt S10) lp9)⟩,_,_,rfl,nR.kt (ac.kt (S79.trans S10)) _ _ hv0,rfl⟩
  |some a =>
   refine cr ?_;obtain⟨v0,ev0⟩:∃v,vs7[0]?=some v:=⟨_,eB (by omega)⟩;obtain⟨d0,ed0,hv0⟩:=Paired.getL tr7 ev0;refine⟨_,rfl,_,rfl,sm,_,0,v0,rfl,rfl,ax.of sm7,bW (j:=0) ev0,_,rfl,t,_,1,.ref l2,rfl,rfl,bC.of T7.t,rfl,_,rfl,_,rfl,sm,_,rfl,ax.of sm7,fun c1 hc1=>?_⟩;rw[show eN vs7 (some 1) none=vs7.drop 1 from mm _ 1];have S8:ac H7 (upd H7 c1 (.lst (vs7.drop 1))):=ac.new hc1;have c8:upd H7 c1 (.lst (vs7.drop 1)) c1=some (.lst (vs7.drop 1)):=aa;generalize upd H7 c1 (.lst (vs7.drop 1))=H8 at S8 c8 ⊢;refine⟨l2,c1,_,_,rfl,ax.of (S8 _ _ T7.a2),ax.of c8,fun Dt zz hDt hzz ndz zlz=>?_⟩;have ndz2:=iw.1 ndz;have zlz:zz.length=J1.length:=by rw[zlz,aj,eK];omega
   have lp:=r9 (K:=K) (J1:=J1) ndz2.2 hzz zlz (by rw[eK];omega) (Paired.dropP 1 (jU.kt (ac.kt S8) tr7));have S9:ac H8 (upd (fR H8 zz (J1.map V.str) (vs7.drop 1)) Dt (.tup (zz.map V.ref))):=fun b o e=>by
    rw[ah (ae e hDt)];exact kW hzz _ _ e
   have lp9:jU K (upd (fR H8 zz (J1.map V.str) (vs7.drop 1)) Dt (.tup (zz.map V.ref))) (zz.map V.ref) (gX ja J1 (ps.drop 1)):=jU.kt (ac.kt (ac.new (by rw[ia ndz2.1];exact hDt))) lp;have d9:upd (fR H8 zz (J1.map V.str) (vs7.drop 1)) Dt (.tup (zz.map V.ref)) Dt=some (.tup (zz.map V.ref)):=aa;generalize upd (fR H8 zz (J1.map V.str) (vs7.drop 1)) Dt (.tup (zz.map V.ref))=H9 at S9 lp9 d9 ⊢;have S79:=S8.trans S9;refine⟨(by show 4<=ai;decide),fun r hr=>?_⟩;have S10:ac H9 (upd H9 r (.tup [.str "tell",.str a,v0,.ref Dt])):=ac.new hr;refine k _ kv6 _ ?_ ((D7.up S79).up S10) (ex7.trs (ac.exBs (S79.trans S10)));rw[pf ed0];exact⟨r,_,rfl,.inl aa,_,_,rfl,gJ _,_,_,rfl,gJ _,_,_,rfl,nR.kt (ac.kt (S79.trans S10)) _ _ hv0,_,_,rfl,⟨Dt,_,rfl,.inl (S10 _ _ d9),jU.all (jU.kt (ac.kt S10) lp9)⟩,rfl⟩
open Builtin.Int (intBits)
theorem Ez{K:Za}{D:Nat}{spL:Sp}(d5:D<=4)(hL:∀m,D=m+1->spL=ki K m){vs:List V}{H:Hp}{Q:VK}{E:XK}(h:jv K D vs H Q E):Bb K (kj K) sp_product spL (gg K 4) (bh Q) (start B9 vs) H:=by
 obtain⟨X,hX,H0,t,l1,l2,l3,l4,kd,fu,ts,kv,n,d,number,J6,J0,J1,J2,ds,rfl,hD,T,m,h0,S0,Dy,hf,hz,n0,nl,hn,k⟩:=h;have z1:=m.asks4;have z2:=m.says4;refine⟨_,rfl,(by show 0<=ai;decide),fun e he=>⟨jc J6,jc [],bN (bC.of (kp hf he)),bN (bC.of aa),by rw[bL];decide,by rw[bL];decide,_,rfl,?_⟩⟩;rw[jC];have Se:ac H (upd H e (.tup [])):=ac.new he;generalize upd H e (.tup [])=He at Se ⊢;have De:=Dy.up Se;by_cases hne:J6=[]
 ·rw[zzr1 hne];refine cJ ⟨(by show 1<=ai;decide),fun r hr=>?_⟩;have S1:ac He (upd He r (.tup [.str "blame"])):=ac.new hr;refine k _ kv _ ?_ ((De.up S1).more (by omega)) (ac.exBs (Se.trans S1));rw[hne,xK];exact vq (.inl aa)
 rw[zzr0 hne];refine cr ?_;refine⟨_,rfl,rfl,_,rfl,?_⟩;by_cases hz0:number=0
 ·rw[zzr1 (by rw[hz0])];refine cJ ⟨(by show 1<=ai;decide),fun r hr=>?_⟩;have S1:ac He (upd He r (.tup [.str "end"])):=ac.new hr;refine k _ kv _ ?_ ((De.up S1).more (by omega)) (ac.exBs (Se.trans S1));rw[hz0,xL hne];exact vq (.inl aa)
 rw[zzr0 (by intro z;injection z with z;exact hz0 z)];refine cr ?_
 match d,hD,hn,nl,k with
 |0,_,_,nl,_ =>
  unfold cntM at nl;omega
 |d+1,hD,hn,nl,k =>
 obtain⟨w,rfl⟩:∃w,D=w+1:=⟨D-1,by omega⟩;cases hL w rfl;rw[AL hne]at nl;have nb:uB (d+1)=9+30 * (1+lB d)+5 * uB d:=rfl;have fe:=Se _ _ hf;have S0e:=S0.trans Se;refine⟨_,rfl,_,_,rfl,rfl,?_⟩;refine⟨_,rfl,_,rfl,_,rfl,X,hX,H0,t,l1,l2,l3,l4,kd,fu,ts,kv,n,J6,J0,J1,J2,ds,rfl,T,m,h0,S0e,De,fe,hz,by omega,fun al kv2 H2 hal D2 ex2=>⟨(by show 1<=ai;decide),fun nl' hnl=>?_⟩⟩;have za:(askedF J0 J2 ds J6).length<=4:=aE (cC _ _) z1;have S3:ac H2 (upd H2 nl' (.lst [.non])):=ac.new hnl;have nl3:upd H2 nl' (.lst [.non]) nl'=some (.lst [.non]):=aa;generalize upd H2 nl' (.lst [.non])=H3 at S3 nl3 ⊢;refine⟨al,nl',_,_,rfl,rfl,S3 _ _ hal,nl3,by rw[aj];exact cL (ar (by show _+1<=1000;omega)),fun cl hcl=>?_⟩;have S4:ac H3 (upd H3 cl (.lst ((askedF J0 J2 ds J6).map V.str++[.non]))):=ac.new hcl;have cl4:upd H3 cl (.lst ((askedF J0 J2 ds J6).map V.str++[.non])) cl=some (.lst (((askedF J0 J2 ds J6).map some++[none]).map tM)):=by
  rw[aa,aw,iL];rfl
 generalize upd H3 cl (.lst ((askedF J0 J2 ds J6).map V.str++[.non]))=H4 at S4 cl4 ⊢;have D4:=(D2.up S3).up S4;have ex4:bg kd He H4:=ex2.trs (ac.exBs (S3.trans S4));have ncl:cl≠kd:=fun z=>by have:=D4.hkd;rw[<-z,cl4]at this;cases this
 generalize hA:((askedF J0 J2 ds J6).map some++[none]:List (Option Str))=A at cl4 nl;have zA:A.length<=5:=by rw[<-hA,aU,aj];show _+1<=5;omega
 refine⟨cl,rfl,⟨_,ax.of cl4⟩,?_⟩;refine cn (xs:=A.map tM) (fun i σ H'=>∃(kv':List (TK×V)) (left:Int) (x5 x6:Option V),σ=[some (.ref t),some (.ref kd),some (.ref fu),some (.int ((d+1:Nat))),some (.int left),x5,x6]/\D_ (prodA J0 J1 J2 ds d J6) A (number-1) i left/\cU X H' kd kv' J0 J1 J2 ds (n+4+i * (5 * (1+lB d)))/\bg kd H4 H')
  ⟨kv2,number-1,_,_,rfl,⟨rfl,by omega,by show number-1<(A.map _).sum;omega⟩,D4.more (by omega),bg.refl _ _⟩ (fun i σ H' _ ⟨_,_,_,_,_,_,_,ex⟩=>ax.of (ex _ _ cl4 ncl)) ?_ ?_
 ·rintro i v σ H5 hi ⟨kv5,left,x5,x6,rfl,pk,D5,ex5⟩;rw[cD]at hi;obtain⟨ask,hask,rfl⟩:=nW.1 hi;have il:i<A.length:=(bQ.1 hask).1;have ex05:=ex4.trs ex5;have mul:(i+1) * (5 * (1+lB d))=i * (5 * (1+lB d))+5 * (1+lB d):=gZ _ _;have mul5:(i+1) * (5 * (1+lB d))<=5 * (5 * (1+lB d)):=eo _ (by omega);have S05:=bg.sameH S0e h0 ex05;refine⟨_,rfl,_,rfl,_,rfl,_,rfl,_,rfl,X,hX,H0,t,l1,l2,l3,l4,kd,fu,ts,ask,kv5,_,d,J6,J0,J1,J2,ds,rfl,by omega,T,m,h0,S05,D5,bg.ktd De.hkd ex05 _ _ fe,hz,by omega,fun sl kv6 H6 hsl D6 ex6=>?_⟩;have bits:∀z∈(bt J1 ask).map (fun sg=>cntM J0 J1 J2 ds d (behF J2 ds J6 sg)),intBits z<=bB d:=fun z hz'=>by
   obtain⟨sg,_,rfl⟩:=aM.1 hz';exact jg z1 z2 d _
  have b4:=yj d (by omega);have ex46:=ex5.trs ex6;have ex06:=ex4.trs ex46;refine⟨_,rfl,_,rfl,sl,_,bB d,rfl,hsl,bits,by omega,by rw[aj,eZ];omega,_,_,rfl,rfl,_,rfl,?_⟩;by_cases hlt:left<prodA J0 J1 J2 ds d J6 ask
  ·rw[zzr1 (by exact hlt)];refine cJ ?_;have e:=pk.stop hask hlt;rw[<-hA]at e;refine⟨_,rfl,_,rfl,_,rfl,_,rfl,_,rfl,_,rfl,X,hX,H0,t,l1,l2,l3,l4,kd,fu,ts,ask,kv6,_,d,left,J6,J0,J1,J2,ds,rfl,by omega,by omega,T,m,h0,bg.sameH S0e h0 ex06,D6,bg.ktd De.hkd ex06 _ _ fe,hz,by omega,fun v7 kv7 H7 t7 D7 ex7=>?_⟩;refine k v7 kv7 H7 ?_ (D7.more (by omega)) ((ac.exBs Se).trs (ex06.trs ex7));rw[um hne hz0 e];exact t7
  ·rw[zzr0 (by exact hlt)];refine cr ?_;exact⟨_,rfl,_,rfl,sl,_,bB d,rfl,hsl,bits,by omega,by rw[aj,eZ];omega,_,_,rfl,rfl,kv6,_,_,_,rfl,pk.next hask hlt,D6.more (by omega),ex46⟩
 ·rintro σ H5 ⟨kv5,left,x5,x6,rfl,pk,D5,ex5⟩;obtain⟨a,ea,_⟩:=pk.at;have:=(bQ.1 ea).1;rw[aj]at this;omega
theorem Gm{r:Int}(h0:0<=r)(h1:r<1000003):intBits r<=20:=by
 unfold bc.Int.intBits;split
 ·decide
 ·next e =>
  have n0:r.natAbs≠0:=fun z=>e (by simp;omega);have:=(Nat.log2_lt n0 (k:=20)).2 (by show r.natAbs<1048576;omega);omega
inductive vV(vs:List V)(H:Hp)(Q:VK)(E:XK):Prop
 |mk (p c:Addr) (many:Int):(vs=[.ref p,.int many])->(gH H p c)->(0<many)->(∀(r:Int) (H':Hp),0<=r->r<many->gH H' p c->bg p H H'->Q (.int r) H')->vV vs H Q E
theorem FQ{K:Za}{vs:List V}{H:Hp}{Q:VK}{E:XK}(h:vV vs H Q E):Bc K fZ (bh Q) (start B_ vs) H:=by
 obtain⟨p,c,many,rfl,hp,m0,k⟩:=h;refine⟨22,rfl,by decide,by decide,?_⟩;refine k4 (lo:=0) (n:=Int.toNat 22) (fun i σ H'=>∃(f:Int) (x3:Option V),σ=[some (.ref p),some (.int many),some (.int f),x3]/\intBits f<=21 * i/\gH H' p c/\bg p H H') ⟨0,_,rfl,by decide,hp,bg.refl _ _⟩ ?_ ?_
 ·rintro i σ H1 hi ⟨f,x3,rfl,bf,hp1,ex1⟩;have hi:i<22:=hi;refine⟨_,rfl,_,_,rfl,rfl,IntMulOk.of_le bf (show intBits (1000003:Int)<=20 by decide) (by omega),_,rfl,p,c,1000003,rfl,hp1,by decide,by decide,fun r H2 r0 r1 hp2 ex2=>?_⟩;refine⟨_,_,rfl,rfl,_,_,rfl,?_,hp2,ex1.trs ex2⟩;have h1:=intBits_mul_le bf (show intBits (1000003:Int)<=20 by decide);have h2:=intBits_add_le h1 (Gm r0 r1);omega
 ·rintro σ H1 ⟨f,x3,rfl,bf,hp1,ex1⟩;exact⟨_,rfl,_,rfl,_,_,rfl,rfl,m0,k _ H1 (jm _ (by omega)) (jl _ m0) hp1 ex1⟩
theorem at42{r:Int}(r0:0<=r)(r6:r<6):∃n:Nat,wH [V.int 4,.int 3,.int 2,.int 4,.int 1,.int 0] r=some (.int n)/\n<=4:=by
 have:r=0∨r=1∨r=2∨r=3∨r=4∨r=5:=by omega
 rcases this with rfl|rfl|rfl|rfl|rfl|rfl
 ·exact⟨4,rfl,by decide⟩
 ·exact⟨3,rfl,by decide⟩
 ·exact⟨2,rfl,by decide⟩
 ·exact⟨4,rfl,by decide⟩
 ·exact⟨1,rfl,by decide⟩
 ·exact⟨0,rfl,by decide⟩
theorem GC:∀d,d<=4->lB d+3 * uB d<=8000000/\dB d<=14:=by
 intro d hd
 match d,hd with
 |0,_=>decide
 |1,_=>decide
 |2,_=>decide
 |3,_=>decide
 |4,_=>decide
theorem iR.hidD{H:Hp}{kd t l1 l2 l3 l4:Addr}{ts:Ze}{J0 J1 J2:Zb}{ds:List am}{kv:List (TK×V)}(h:iR H t l1 l2 l3 l4 ts J0 J1 J2 ds)(e:H kd=some (.dT kv)):iR (gk H kd) t l1 l2 l3 l4 ts J0 J1 J2 ds:=by
 have kl:∀{b:Addr}{xs:List V},H b=some (.lst xs)->gk H kd b=some (.lst xs):=fun{b xs} q=>by rw[ee (fun z=>by rw[z,e]at q;cases q)];exact q
 have kt:ig H (gk H kd):=fun b xs q=>by rw[ee (fun z=>by rw[z,e]at q;cases q)];exact q
 exact⟨kt _ _ h.t,kl h.a1,kl h.a2,kl h.a3,kl h.a4,h.ds.kt kt⟩
theorem BM{p a:Addr}{H H':Hp}(e:bg p H H'):bg p (gk H a) (gk H' a):=fun b o q n=>by
 by_cases c:b=a
 ·rw[c,fb]at q;cases q
 ·rw[ee c]at q ⊢;exact e _ _ q n
theorem Dr{a:Addr}{H H':Hp}(e:ac H H'):ac (gk H a) (gk H' a):=fun b o q=>by
 by_cases c:b=a
 ·rw[c,fb]at q;cases q
 ·rw[ee c]at q ⊢;exact e _ _ q
theorem gH.hid2{H:Hp}{p c a:Addr}(h:gH H p c)(n1:p≠a)(n2:c≠a):gH (gk H a) p c:=by
 obtain⟨x,r,ns,h1⟩:=h;refine⟨x,r,ns,?_⟩;cases h1;constructor<;>first|assumption|(rw[ee n1];assumption)|(rw[ee n2];assumption)
inductive sp_law42(K:Za)(vs:List V)(H:Hp)(Q:VK)(E:XK):Prop
 |mk (a:Addr) (ns:List Int):(vs=[.ref a])->(ax K H a (ns.map V.int))->(ns.length<=63)->(∀H',Q (.bl true) H')->sp_law42 K vs H Q E
def Gx:TK×V->Prop:=fun _=>False
theorem Db:Fh Gx:=fun _ h=>h.elim
theorem CM{K:Za}{C:Addr}{vs:List V}{H:Hp}{Q:VK}{E:XK}(h:sp_law42 K vs H Q E):Ej K vV (kO K C) (jv K 4) (jx C) (jw K 4) m8 fZ (ju C) mY (qk K) (bh Q) (start AV vs) H:=by
 obtain⟨a,ns,rfl,hs,hn,k⟩:=h;refine⟨_,rfl,a,ns,rfl,hs,hn,fun p c H1 _ hp1 S1=>?_⟩;refine⟨_,rfl,_,rfl,p,c,2,rfl,hp1,by decide,by decide,fun r H2 r0 r2 hp2 ex2=>?_⟩;refine⟨p,c,6,r,rfl,hp2,by decide,by decide,r0,by omega,fun t l1 l2 l3 l4 ts J0 J1 J2 ds H3 T3 m hrl few hp3 ex3=>?_⟩;have z3:=m.rooms26;refine⟨_,rfl,t,l1,l2,l3,l4,ts,J0,J1,J2,ds,rfl,T3,m,fun M H4 M4 S4=>?_⟩;have T4:=T3.same S4;have hp4:=hp3.ex S4;refine⟨(by show 6<=ai;decide),fun dl hdl=>?_⟩;have np:p≠dl:=hp4.nep hdl;have S5:ac H4 (upd H4 dl (.lst [.int 4,.int 3,.int 2,.int 4,.int 1,.int 0])):=ac.new hdl;have dl5:upd H4 dl (.lst [.int 4,.int 3,.int 2,.int 4,.int 1,.int 0]) dl=some (.lst [.int 4,.int 3,.int 2,.int 4,.int 1,.int 0]):=aa;generalize upd H4 dl (.lst [.int 4,.int 3,.int 2,.int 4,.int 1,.int 0])=H5 at S5 dl5 ⊢;have hp5:=hp4.ex S5;refine⟨_,rfl,p,c,6,rfl,hp5,by decide,by decide,fun r6 H6 r60 r66 hp6 ex6=>?_⟩;have T6:=(T4.same S5).ex hp5 ex6;have M6:=(M4.same S5).ex hp5 ex6;obtain⟨d,ed,hd⟩:=at42 r60 r66;obtain⟨bd,dd⟩:=GC d hd;refine⟨dl,_,r6,.int (d:Nat),rfl,rfl,ax.of (ex6 _ _ dl5 np.symm),ed,?_⟩;refine fun kd hkd=>?_;have nkp:kd≠p:=(hp6.nep hkd).symm;have S7:ac H6 (upd H6 kd (.dT [])):=ac.new hkd;have kd7:upd H6 kd (.dT []) kd=some (.dT []):=aa;generalize upd H6 kd (.dT [])=H7 at S7 kd7 ⊢;refine⟨_,rfl,t,l1,l2,l3,l4,ts,J0,J1,J2,ds,rfl,T6.same S7,m,fun f H8 hf S8=>?_⟩;have S68:=S7.trans S8;have D8:cU Gx H8 kd [] J0 J1 J2 ds 0:=⟨S8 _ _ kd7,fun _ h=>(by cases h),eS _⟩;have fl:(closF J2 ds (J2.take 1)).length<=1000:=aE jh (by omega);generalize hF:closF J2 ds (J2.take 1)=F at hf fl;refine⟨_,rfl,_,rfl,_,rfl,_,rfl,Gx,Db,H6,t,l1,l2,l3,l4,kd,f,ts,[],0,d,F,J0,J1,J2,ds,rfl,hd,T6,m,hkd,S68,D8,hf,fl,by omega,fun kv9 H9 D9 ex9=>?_⟩;have S69:=bg.sameH S68 hkd ex9;have f9:=bg.ktd D8.hkd ex9 _ _ hf;refine⟨_,rfl,_,rfl,M,d,J0,J1,J2,ds,rfl,hd,M6.same S69,fun H10 S10=>?_⟩;rw[hF];refine⟨_,rfl,rfl,_,rfl,?_⟩;rw[zzr1 rfl];refine cr ?_;have mp:=qy J0 J1 J2 ds d F;have S6X:=S69.trans S10;have hpX:=hp6.ex S6X;refine⟨_,rfl,_,_,rfl,rfl,_,rfl,_,rfl,p,c,_,rfl,hpX,mp,fun q H11 q0 q1 hp11 ex11=>?_⟩;have T11:=(T6.same S6X).ex hpX ex11;have nkc:c≠kd:=hp6.nec hkd;have M11:bO C (gk H11 kd) M J0 J1 J2 ds:=(M6.same (wu S6X hkd)).ex (hpX.hid2 nkp.symm nkc) (BM ex11);have ktX:ig H10 H11:=by obtain⟨xs,hx⟩:=hpX.lst;exact ex11.kt hx
 have D11:cU Gx H11 kd kv9 J0 J1 J2 ds (0+lB d):=(D9.up S10).kt (ex11 _ _ (S10 _ _ D9.hkd) nkp) ktX;have f11:=ktX _ _ (S10 _ _ f9);refine⟨(by show 3<=ai;decide),fun nl hnl=>?_⟩;have hNm:∀x∈([cntM J0 J1 J2 ds d F-1,q,0]:List Int),0<=x/\x<cntM J0 J1 J2 ds d F:=fun x hx=>by
  rcases cc.1 hx with rfl|hx
  ·omega
  rcases cc.1 hx with rfl|hx
  ·exact⟨q0,q1⟩
  rw[fN.1 hx];exact⟨by omega,mp⟩
 have zN:([cntM J0 J1 J2 ds d F-1,q,0]:List Int).length=3:=rfl;have S12:ac H11 (upd H11 nl (.lst [.int (cntM J0 J1 J2 ds d F-1),.int q,.int 0])):=ac.new hnl;have nl12:upd H11 nl (.lst [.int (cntM J0 J1 J2 ds d F-1),.int q,.int 0]) nl=some (.lst (([cntM J0 J1 J2 ds d F-1,q,0]:List Int).map V.int)):=aa;generalize upd H11 nl (.lst [.int (cntM J0 J1 J2 ds d F-1),.int q,.int 0])=H12 at S12 nl12 ⊢;generalize([cntM J0 J1 J2 ds d F-1,q,0]:List Int)=N at hNm zN nl12;have D12:=D11.up S12;have nlk:nl≠kd:=fun z=>by have:=D12.hkd;rw[<-z,nl12]at this;cases this
 have T12:iR (gk H12 kd) t l1 l2 l3 l4 ts J0 J1 J2 ds:=(T11.same S12).hidD D12.hkd;have M12:=M11.same (Dr S12);have f12:=S12 _ _ f11;refine⟨nl,rfl,⟨_,ax.of nl12⟩,?_⟩;refine cn (xs:=N.map V.int) (fun i σ H'=>∃(kv:List (TK×V)) (x8 x9:Option V),σ=[some (.ref a),some (.ref p),some (.ref t),some (.ref M),some (.int (d:Nat)),some (.ref kd),some (.ref f),some (.int (cntM J0 J1 J2 ds d F)),x8,x9]/\cU Gx H' kd kv J0 J1 J2 ds (lB d+i * uB d)/\bg kd H12 H')
  ⟨kv9,_,_,rfl,D12.more (by omega),bg.refl _ _⟩ (fun i σ H' _ ⟨_,_,_,_,_,ex⟩=>ax.of (ex _ _ nl12 nlk)) ?_ ?_
 ·rintro i w σ H13 hi ⟨kv,x8,x9,rfl,D13,ex13⟩;obtain⟨x,hx,rfl⟩:=ints_get hi;have il:i<N.length:=(bQ.1 hx).1;obtain⟨x0,x1⟩:=hNm x (cw hx);have mul:(i+1) * uB d=i * uB d+uB d:=gZ _ _;have mul3:(i+1) * uB d<=3 * uB d:=eo _ (by omega);have S13:ac (gk H12 kd) H13:=bg.sameH oO (fb _ _) ex13;refine⟨_,rfl,_,rfl,_,rfl,_,rfl,_,rfl,Gx,Db,gk H12 kd,t,l1,l2,l3,l4,kd,f,ts,kv,_,d,x,F,J0,J1,J2,ds,rfl,hd,T12,m,fb _ _,S13,D13,bg.ktd D12.hkd ex13 _ _ f12,fl,x0,x1,by omega,fun v14 kv14 H14 t14 D14 ex14=>?_⟩;have S14:=bg.sameH S13 (fb _ _) ex14;refine⟨_,rfl,_,rfl,_,rfl,M,d,x,J0,J1,J2,ds,rfl,hd,M12.same S14,x0,by rw[hF];exact x1,fun v15 H15 t15 S15=>?_⟩;rw[hF]at t15;have nd:=ul J0 J1 J2 ds d F x;refine⟨_,rfl,_,_,nR.dIn _ _ t15,nR.dIn _ _ (nR.kt (ac.kt S15) _ _ t14),by omega,by omega,_,rfl,?_⟩;rw[zzr1 rfl];exact cr ⟨kv14,_,_,rfl,(D14.up S15).more (by omega),(ex13.trs ex14).trs (ac.exBs S15)⟩
 ·rintro σ H13 ⟨kv,x8,x9,rfl,D13,ex13⟩;exact k H13
def eW(i:Nat):Stmt:=PySem.Challenge.pw_mumtrial_k42_made_by_number.main.body.getD i (.Pass ⟨0,0,0,0⟩)
local macro_rules | `(tactic| walk_at "s")=>`(tactic| exact⟨rfl,rfl,rfl,by decide +kernel,rfl,by decide +kernel,by decide +kernel⟩)
local macro_rules | `(tactic| walk_at "l")=>`(tactic| (intro _ _ _ _ h;first|exact len_h h|exact len_g h|(cases h;subst_vars;rfl)|(obtain⟨_,_,h,_⟩:=h;subst h;rfl)|((repeat obtain⟨_,h⟩:=h);subst_vars;rfl)))
theorem zzlS{us:List Value}{n:Nat}(h:us.length=n+1):∃ a t,us=a::t∧t.length=n:=by
  cases us with
  |nil=>cases h
  |cons a t=>exact⟨a,t,rfl,Nat.succ.inj h⟩
local macro_rules | `(tactic| walk_at "b")=>`(tactic| (intro _ _ _ _ _ _ us hl;(repeat (have h:=zzlS hl;clear hl;obtain⟨_,_,e,hl⟩:=h;subst e));cases List.eq_nil_of_length_eq_zero hl;rfl))
def G9(K:Za)(x qual:Str)(st:Stmt)(f:Addr):Prop:=∃(oc:Value) (od an:Option Addr) (sl:Array (Option Value)) (kV dc pm cd ct:Value),
 K.lookup f=some ⟨oc,od,.func (g9 x qual (gM st) (fG st) (bM st) .none kV dc pm an cd ct),sl⟩/\lT K cd qual=true/\gb K (.ref f)=true
theorem Dw{K:Za}{x qual:Str}{st:Stmt}{f:Addr}{oc:Value}{od an:Option Addr}{sl:Array (Option Value)}{kV dc pm cd ct:Value}(l:K.lookup f=some ⟨oc,od,.func (g9 x qual (gM st) (fG st) (bM st) .none kV dc pm an cd ct),sl⟩)
  (c:lT K cd qual=true) (k:gb K (.ref f)=true):G9 K x qual st f:=⟨oc,od,an,sl,kV,dc,pm,cd,ct,l,c,k⟩
def io(K:Za)(x:Str)(st:Stmt):Prop:=∃f,bX K bA x=some (some (.ref f))/\G9 K x x st f
theorem fnG_mk{K:Za}{x:Str}{st:Stmt}{f:Addr}{oc:Value}{od an:Option Addr}{sl:Array (Option Value)}{kV dc pm cd ct:Value}(a:bX K bA x=some (some (.ref f)))(l:K.lookup f=some ⟨oc,od,.func (g9 x x (gM st) (fG st) (bM st) .none kV dc pm an cd ct),sl⟩)
  (c:lT K cd x=true) (k:gb K (.ref f)=true):io K x st:=⟨f,a,Dw l c k⟩
def wU(K:Za)(C:Addr)(m qual:Str)(st:Stmt):Prop:=∃f,cP K (.ref C) m=some (some (.ref f))/\w6 K (.ref f)=true/\G9 K m qual st f
theorem fnM_mk{K:Za}{C:Addr}{m qual:Str}{st:Stmt}{f:Addr}{oc:Value}{od an:Option Addr}{sl:Array (Option Value)}{kV dc pm cd ct:Value}(a:cP K (.ref C) m=some (some (.ref f)))(i:w6 K (.ref f)=true)
  (l:K.lookup f=some ⟨oc,od,.func (g9 m qual (gM st) (fG st) (bM st) .none kV dc pm an cd ct),sl⟩) (c:lT K cd qual=true) (k:gb K (.ref f)=true):wU K C m qual st:=⟨f,a,i,Dw l c k⟩
theorem G9.fun_{K:Za}{x qual:Str}{st:Stmt}{f:Addr}(T:G9 K x qual st f):∃fd,GB K x qual st f fd:=by
 obtain⟨oc,od,an,sl,kV,dc,pm,cd,ct,l,c,k⟩:=T;exact⟨_,Dv (st:=st) l c k⟩
def CB:Sp:=fun _ _ _ _=>False
theorem Av{P:bj}{w:World}{K:Za}{mg:Str->Option Value}{base:Heap}{k:Nat}{f:Addr}{fd:jM}{ps:Zb}:kI P w K mg base CX0 k f fd ps CB:=⟨fun _ _ _ _ h=>h.elim,fun _ _ _ _ _ _ _ _ _ _ _ _ _ h=>h.elim⟩
def DP(K:Za)(a:Addr)(ws:Zb):Prop:=∀H,bC K H a (ws.map V.str)
theorem qi{K:Za}{a:Addr}{ws:Zb}{o:Obj}{its:Array Value}{n:Nat}(l:K.lookup a=some o)(c:o.cls=.type "tuple")(d:o.data=.seq its n)(z:its.size<=ai)(v:aQ (ws.map V.str) its.toList):DP K a ws :=
 fun _=>.inr ⟨o,its,n,l,c,d,z,v⟩
section
variable{P:bj}{w:World}{K:Za}{mg:Str->Option Value}{base h:Heap}{C:Addr}{x qual:Str}{st:Stmt}{N ps:Zb}{k:Nat}{sp:Sp}
abbrev DS(ps:Zb)(sp:Sp):Prop:=∀vs H Q E,sp vs H Q E->vs.length=ps.length
abbrev BodyOk(CX:Cf)(P:bj)(w:World)(K:Za)(mg:Str->Option Value)(base:Heap)(qual:Str)(st:Stmt)(N:Zb)(k:Nat)(sp:Sp)(nox:Cx->Cx):Prop:=N.Nodup->∀(f:Addr) (cdv:Value) (A:Around) (outer:List Env) (s:Shared) (H:Hp) (vs:List V) (Q:VK) (E:XK),eg k (A.deeper (envOfC qual (bM st) s.heap.objs.size f cdv))->(A.deeper (envOfC qual (bM st) s.heap.objs.size f cdv)).units+16<cLine->sp vs H Q E ->
 ∃t,yB (nox (zH CX P w K mg base N qual (bM st) f cdv A outer s H E)) (fG st) t/\t (bh Q) (start N vs) H
abbrev zX(x qual:Str)(st:Stmt)(ps:Zb):Prop:=∀(kV doc pm:Value) (an:Option Addr) (cdv ct:Value) (us:Zf),us.length=ps.length->bindArgs (g9 x qual (gM st) (fG st) (bM st) .none kV doc pm an cdv ct) ⟨us,[]⟩=pure (ps.zip us)
theorem dG(X:K.In h)(G:h.Ns bA mg)(T:io K x st)(b:BodyOk CX0 P w K mg base x st N k sp Cx.nox)(bi:zX x x st ps)(S:jF N ps (bM st):=by walk_at "s")(l:DS ps sp:=by walk_at "l"):fS P w K mg base x ps (k+1) sp:=by
 obtain⟨f,a,t⟩:=T;obtain⟨fd,F⟩:=t.fun_;exact⟨f,fd,F.ok S l fun cdv A outer s H vs Q E hr h=>b S.nd f cdv A outer s H vs Q E hr (AB hr) h,dO X G a,F.kp,F.binds bi⟩
theorem dM(cl:AW K C)(T:wU K C x qual st)(b:BodyOk CX0 P w K mg base qual st N k sp Cx.nox)(bi:zX x qual st ps)(S:jF N ps (bM st):=by walk_at "s")(l:DS ps sp:=by walk_at "l"):o5 P w K mg base C x ps (k+1) sp:=by
 obtain⟨f,a,i,t⟩:=T;obtain⟨fd,F⟩:=t.fun_;exact⟨f,fd,F.ok S l fun cdv A outer s H vs Q E hr h=>b S.nd f cdv A outer s H vs Q E hr (AB hr) h,cl,⟨a,i,F.kp⟩,F.binds bi⟩
theorem dN{y:Str}(cm:mg y=some (.ref C))(mk:mI K C=true)(kc:gb K (.ref C)=true)(T:wU K C "__init__" qual st)(b:BodyOk CX0 P w K mg base qual st N k sp Cx.nox)(bi:zX "__init__" qual st ps)(S:jF N ps (bM st):=by walk_at "s")(l:DS ps sp:=by walk_at "l"):G4 P w K mg base y C ps (k+1) sp:=by
 obtain⟨f,a,i,t⟩:=T;obtain⟨fd,F⟩:=t.fun_;exact⟨f,fd,F.ok S l fun cdv A outer s H vs Q E hr h=>b S.nd f cdv A outer s H vs Q E hr (AB hr) h,cm,⟨mk,a,i,kc⟩,F.binds bi⟩
end
structure Zs(mg:Str->Option Value):Prop where
 all:mg "all"=none
 dict:mg "dict"=none
 divmod:mg "divmod"=none
 enumerate:mg "enumerate"=none
 len:mg "len"=none
 list:mg "list"=none
 range:mg "range"=none
 reversed:mg "reversed"=none
 sum:mg "sum"=none
 tuple:mg "tuple"=none
 zip:mg "zip"=none
structure Cs(K:Za)(mg:Str->Option Value)(C Ck Cd a_STILL a_HUSH a_BLAME a_END:Addr):Prop where
 LETTERS:Gc mg "LETTERS" (.str "abcdefghijklmnopqrstuvwxyz")
 LONGEST_NAME:Gc mg "LONGEST_NAME" (.int 8)
 MOST_WORDS:Gc mg "MOST_WORDS" (.int 4)
 MOST_ROOMS:Gc mg "MOST_ROOMS" (.int 150)
 MOST_DOORS:Gc mg "MOST_DOORS" (.int 2000)
 DEEPEST:Gc mg "DEEPEST" (.int 4)
 STILL:Gc mg "STILL" (.ref a_STILL)
 HUSH:Gc mg "HUSH" (.ref a_HUSH)
 BLAME:Gc mg "BLAME" (.ref a_BLAME)
 END:Gc mg "END" (.ref a_END)
 still:DP K a_STILL aX
 hush:DP K a_HUSH bJ
 blm:DP K a_BLAME k7
 enD:DP K a_END kC
 mc:MC K C
 cm:mg "Machine"=some (.ref C)
 makes:mI K C=true
 kc:gb K (.ref C)=true
 ksc:KC K Ck
 cmksc:mg "KnownSteps"=some (.ref Ck)
 makesksc:mI K Ck=true
 kcksc:gb K (.ref Ck)=true
 dc:DC K Cd
 cmdc:mg "Made"=some (.ref Cd)
 makesdc:mI K Cd=true
 kcdc:gb K (.ref Cd)=true
structure Ts(K:Za)(C Ck Cd:Addr):Prop where
 f_law_spread:io K "_law_spread" (eW 45)
 f_law_open:io K "_law_open" (eW 46)
 f_law_anew:io K "_law_anew" (eW 47)
 f_law_take:io K "_law_take" (eW 48)
 f_law_names:io K "_law_names" (eW 49)
 f_law_put:io K "_law_put" (eW 51)
 f_law_draw_doors:io K "_law_draw_doors" (eW 52)
 f_law_model:io K "_law_model" (eW 53)
 f_is_name:io K "is_name" (eW 21)
 f_as_keys:io K "as_keys" (eW 22)
 f_first_wrong_name:io K "first_wrong_name" (eW 23)
 f_door_signs:io K "door_signs" (eW 24)
 f_first_wrong_door:io K "first_wrong_door" (eW 25)
 f_goals_by_start_and_sign:io K "goals_by_start_and_sign" (eW 26)
 f_led_by_still:io K "led_by_still" (eW 27)
 f_first_led_round:io K "first_led_round" (eW 28)
 f_need_none:io K "need_none" (eW 29)
 f_need_parts:io K "need_parts" (eW 30)
 f_doors_by_start:io K "doors_by_start" (eW 31)
 f_has_asks_alone:io K "has_asks_alone" (eW 32)
 f_Machine___init__:wU K C "__init__" "Machine.__init__" (cO (eW 33) 0)
 f_law_machine:io K "_law_machine" (eW 62)
 f_Machine_rooms:wU K C "rooms" "Machine.rooms" (cO (eW 33) 3)
 f_Machine_led_from:wU K C "led_from" "Machine.led_from" (cO (eW 33) 8)
 f_with_still:io K "with_still" (eW 9)
 f_Machine_goals:wU K C "goals" "Machine.goals" (cO (eW 33) 7)
 f_Machine_is_quiet:wU K C "is_quiet" "Machine.is_quiet" (cO (eW 33) 5)
 f_law_still_on:io K "_law_still_on" (eW 50)
 f_Machine_asks:wU K C "asks" "Machine.asks" (cO (eW 33) 1)
 f_Machine_says:wU K C "says" "Machine.says" (cO (eW 33) 2)
 f_first_face:io K "first_face" (eW 10)
 f_face_behind:io K "face_behind" (eW 11)
 f_signs_in_order:io K "signs_in_order" (eW 8)
 f_steps_at:io K "steps_at" (eW 12)
 f_KnownSteps___init__:wU K Ck "__init__" "KnownSteps.__init__" (cO (eW 13) 0)
 f_KnownSteps_steps_from:wU K Ck "steps_from" "KnownSteps.steps_from" (cO (eW 13) 1)
 f_need_depth:io K "need_depth" (eW 38)
 f_product:io K "product" (eW 39)
 f_Made___init__:wU K Cd "__init__" "Made.__init__" (cO (eW 41) 0)
 f_Made_steps_from:wU K Cd "steps_from" "Made.steps_from" (cO (eW 41) 1)
 f_Made_kinds_at:wU K Cd "kinds_at" "Made.kinds_at" (cO (eW 41) 2)
 f_Made_count_at:wU K Cd "count_at" "Made.count_at" (cO (eW 41) 3)
 f_Made_count_of:wU K Cd "count_of" "Made.count_of" (cO (eW 41) 4)
 f_how_many_made:io K "how_many_made" (eW 42)
 f_trial_from:io K "trial_from" (eW 40)
 f_Made_trial_of:wU K Cd "trial_of" "Made.trial_of" (cO (eW 41) 6)
 f_Made_trial_at:wU K Cd "trial_at" "Made.trial_at" (cO (eW 41) 5)
 f_made_by:io K "made_by" (eW 43)
 f_law_behind:io K "_law_behind" (eW 54)
 f_law_begin:io K "_law_begin" (eW 55)
 f_law_part_signs:io K "_law_part_signs" (eW 56)
 f_law_after:io K "_law_after" (eW 63)
 f_law_asked:io K "_law_asked" (eW 64)
 f_law_times:io K "_law_times" (eW 58)
 f_law_count:io K "_law_count" (eW 59)
 f_law_sizes:io K "_law_sizes" (eW 57)
 f_law_laid:io K "_law_laid" (eW 61)
 f_law_nth:io K "_law_nth" (eW 60)
 f_law_far:io K "_law_far" (eW 65)
 f_law42:io K "law" (eW 66)
section
variable{P:bj}{w:World}{K:Za}{mg:Str->Option Value}{base h:Heap}{C Ck Cd a_STILL a_HUSH a_BLAME a_END:Addr}
section
variable(P:bj)(w:World)(K:Za)(mg:Str->Option Value)(C Ck Cd a_STILL a_HUSH a_BLAME a_END:Addr)
abbrev jI:Prop:=∀base,fS P w K mg base "_law_spread" ["cell","at"] 1 kN
abbrev sN:Prop:=∀base,fS P w K mg base "_law_open" ["script"] 1 (qk K)
abbrev mE:Prop:=∀base,fS P w K mg base "_law_anew" ["pen"] 1 vX
abbrev fU:Prop:=∀base,fS P w K mg base "_law_take" ["pen","many"] 2 fZ
abbrev kK:Prop:=∀base,fS P w K mg base "_law_names" ["pen","many"] 3 mV
abbrev o7:Prop:=∀base,fS P w K mg base "_law_put" ["doors","door"] 1 rE
abbrev fV:Prop:=∀base,fS P w K mg base "_law_draw_doors" ["pen","asks","says","rooms","full"] 3 f8
abbrev pE:Prop:=∀base,fS P w K mg base "_law_model" ["pen","most","full"] 4 mY
abbrev o8:Prop:=∀base,fS P w K mg base "is_name" ["text"] 1 sp_is_name
abbrev jk:Prop:=∀base,fS P w K mg base "as_keys" ["things"] 1 (sp_as_keys K)
abbrev eO:Prop:=∀base,fS P w K mg base "first_wrong_name" ["names","most","taken"] 2 (sp_first_wrong_name K)
abbrev jK:Prop:=∀base,fS P w K mg base "door_signs" ["asks","says"] 1 (sp_door_signs K)
abbrev eP:Prop:=∀base,fS P w K mg base "first_wrong_door" ["doors","rooms","signs"] 2 (sp_first_wrong_door K)
abbrev cG:Prop:=∀base,fS P w K mg base "goals_by_start_and_sign" ["doors"] 1 mZ
abbrev ij:Prop:=∀base,fS P w K mg base "led_by_still" ["goals","room"] 1 vU
abbrev fJ:Prop:=∀base,fS P w K mg base "first_led_round" ["rooms","led"] 1 sp_first_led_round
abbrev iG:Prop:=∀base,fS P w K mg base "need_none" ["part","number"] 1 sp_need_none
abbrev jH:Prop:=∀base,fS P w K mg base "need_parts" ["asks","says","rooms","doors"] 3 sp_need_parts
abbrev fX:Prop:=∀base,fS P w K mg base "doors_by_start" ["rooms","doors"] 1 sp_doors_by_start
abbrev fW:Prop:=∀base,fS P w K mg base "has_asks_alone" ["doors"] 1 sp_has_asks_alone
abbrev o9:Prop:=∀base,G4 P w K mg base "Machine" C ["self","asks","says","rooms","doors"] 4 (qp C)
abbrev lJ:Prop:=∀base,fS P w K mg base "_law_machine" ["told"] 6 (ju C)
abbrev eJ:Prop:=∀base,o5 P w K mg base C "rooms" ["self"] 1 (kg C)
abbrev eQ:Prop:=∀base,o5 P w K mg base C "led_from" ["self","room"] 1 (iz C)
abbrev gP:Prop:=∀base,fS P w K mg base "with_still" ["M","rooms"] 2 (sp_with_still C)
abbrev gC:Prop:=∀base,o5 P w K mg base C "goals" ["self","room","sign"] 1 (i5 C)
abbrev eR:Prop:=∀base,o5 P w K mg base C "is_quiet" ["self","room"] 1 (iA C)
abbrev fI:Prop:=∀base,fS P w K mg base "_law_still_on" ["doors","rooms"] 1 (gf K)
abbrev ik:Prop:=∀base,o5 P w K mg base C "asks" ["self"] 1 (qr C)
abbrev fK:Prop:=∀base,o5 P w K mg base C "says" ["self"] 1 (mU C)
abbrev gR:Prop:=∀base,fS P w K mg base "first_face" ["M"] 3 (bD C)
abbrev iS:Prop:=∀base,fS P w K mg base "face_behind" ["M","face","sign"] 3 (qq K C)
abbrev fT:Prop:=∀base,fS P w K mg base "signs_in_order" ["M"] 2 (vT C a_HUSH)
abbrev mD:Prop:=∀base,fS P w K mg base "steps_at" ["M","face"] 4 (js C)
abbrev jL:Prop:=∀base,G4 P w K mg base "KnownSteps" Ck ["self","M"] 1 (kP Ck)
abbrev cW:Prop:=∀base,o5 P w K mg base Ck "steps_from" ["self","face"] 5 (kQ C Ck)
abbrev gQ:Prop:=∀base,fS P w K mg base "need_depth" ["d"] 1 sp_need_depth
abbrev lb:Prop:=∀base,fS P w K mg base "product" ["numbers"] 1 sp_product
abbrev wW:Prop:=∀base,G4 P w K mg base "Made" Cd ["self","M"] 3 (i6 C Ck Cd)
abbrev b_:Prop:=∀base,o5 P w K mg base Cd "steps_from" ["self","face"] 6 (gS C Ck Cd)
abbrev eI:Prop:=∀base,o5 P w K mg base Cd "kinds_at" ["self","face"] 7 (i4 K C Ck Cd)
abbrev cH:Prop:=∀base,o5 P w K mg base Cd "count_at" ["self","face","d"] 16 (fA C Ck Cd 4)
abbrev gB:Prop:=∀base,o5 P w K mg base Cd "count_of" ["self","face","d","signs"] 17 (hV K C Ck Cd 4)
abbrev jQ:Prop:=∀base,fS P w K mg base "how_many_made" ["M","d"] 17 (jx C)
abbrev jG:Prop:=∀base,fS P w K mg base "trial_from" ["signs","parts"] 1 (kM K)
abbrev gA:Prop:=∀base,o5 P w K mg base Cd "trial_at" ["self","face","d","number"] 26 (jt K C Ck Cd 4)
abbrev uH:Prop:=∀base,fS P w K mg base "made_by" ["M","d","number"] 27 (kO K C)
abbrev jJ:Prop:=∀base,fS P w K mg base "_law_behind" ["told","face","sign"] 2 (vW K)
abbrev pF:Prop:=∀base,fS P w K mg base "_law_begin" ["told"] 2 m8
abbrev cV:Prop:=∀base,fS P w K mg base "_law_part_signs" ["told","ask"] 1 kh
abbrev ff:Prop:=∀base,fS P w K mg base "_law_after" ["told","known","face","sign"] 3 (i7 K)
abbrev iI:Prop:=∀base,fS P w K mg base "_law_asked" ["told","known","face"] 4 (kj K)
abbrev iH:Prop:=∀base,fS P w K mg base "_law_times" ["numbers"] 1 sp_product
abbrev kL:Prop:=∀base,fS P w K mg base "_law_count" ["told","known","face","deep"] 13 (jw K 4)
abbrev kJ:Prop:=∀base,fS P w K mg base "_law_sizes" ["told","known","face","ask","deep"] 14 (gg K 4)
abbrev uI:Prop:=∀base,fS P w K mg base "_law_nth" ["told","known","face","deep","number"] 23 (jv K 4)
abbrev uJ:Prop:=∀base,fS P w K mg base "_law_far" ["pen","many"] 3 vV
end
section
variable(X:K.In h)(G:h.Ns bA mg)(z:Zs mg)(c:Cs K mg C Ck Cd a_STILL a_HUSH a_BLAME a_END)(T:Ts K C Ck Cd)
include X G z c T
theorem sZ:jI P w K mg:=fun base=>dG X G T.f_law_spread (fun S _ _ _ _ _ _ _ _ _ hr hu h=>bK (Bl (K:=K) h) (ab (bT (ke C7 (pv 0) (aB C4 af af)) (ag (au (pv 0))) aP) (ab (qs 2 S (aB eL (aB cF (aB cF (aB h9 (aB eL (pv 0) af) af) (aB h9 (pv 1) af)) af) af)) (ab (qs 3 S (aB eL (aB cF (aB cF (aB h9 (pv 2) (pv 2)) (aB h9 (pv 1) af)) (aB eL (pv 0) af)) af)) (ab (qs 4 S (aB eL (aB cF (aB cF (aB h9 (pv 3) (pv 3)) (aB h9 (pv 2) af)) af) af)) (ag (au (aB cF (aB h9 (aB cF (aB h9 (pv 2) af) (pv 3)) af) (pv 4))))))))) (by walk_at "b")
theorem xw:sN P w K mg:=fun base=>dG X G T.f_law_open (fun S _ _ _ _ _ _ _ _ _ hr hu h=>bK (Ew h) (ab (qs 1 S (qL rfl z.list (a1 (cj dZ (pv 0) dH (cy af))))) (ab (bG bo rfl (ny rfl z.enumerate (a1 (cj dZ (pv 0) (cy af) (cy af)))) (gw rfl (aS (gn 2 S) (aS (gn 3 S) eF))) (ag (mf (aB cF (xl (pv 1) (aB eL (pv 2) af)) (pv 3)) (rS (pv 1) (aB eL (pv 2) af) km)))) (ag (au (br (a3 (pv 1) af af))))))) (by walk_at "b")
theorem xx:mE P w K mg:=fun base=>dG X G T.f_law_anew (fun S _ _ _ _ _ _ _ _ _ hr hu h=>bK (EF (K:=K) h) (ab (mf af (rS (pv 0) af km)) (ag (au (pv 0))))) (by walk_at "b")
theorem xv(D_law_spread:jI P w K mg):fU P w K mg:=fun base=>dG X G T.f_law_take (fun S _ _ _ _ _ _ _ _ _ hr hu h=>bK (Eu h) (ab (bT (ke uk (xl (pv 0) af) (pv 1)) (ab (qs 2 S (xl (pv 0) af)) (ab (qs 3 S af) (ab (bT (ke uk (pv 2) (ql z.len (a1 (xl (pv 0) af)))) (ag (qs 3 S (xl (xl (pv 0) af) (pv 2)))) (ag (bT (ke At (ql z.len (a1 (xl (pv 0) af))) af) (ag (qs 3 S (aB eL (xl (xl (pv 0) af) (aB eL (aB cF (aB h9 (pv 2) af) af) (ql z.len (a1 (xl (pv 0) af))))) (aB cF (aB C4 af af) (pv 2))))) aP))) (ab (mf (aB cF (pv 2) af) (rS (pv 0) af km)) (ag (mf (qf hr (D_law_spread base) (a2 (pv 3) (pv 2))) (rS (pv 0) af km))))))) aP) (ab (qs 4 S (aB eL (xl (pv 0) af) (pv 1))) (ab (mf (aB Au (xl (pv 0) af) (pv 1)) (rS (pv 0) af km)) (ag (au (pv 4))))))) (by walk_at "b")
theorem vL(D_law_take:fU P w K mg):kK P w K mg:=fun base=>dG X G T.f_law_names (fun S _ _ _ _ _ _ _ _ _ hr hu h=>bK (CJ h) (ab (qs 2 S bq) (ab (qs 3 S (i_ PySem.F.plainAttrs_str PySem.F.slot_str_join PySem.F.type_str_join EU bq (a1 (qc (i8 rfl z.range (a1 af)) (aT (by decide)) fun _ _ _ _ _ _=>⟨gc 0,cg,xs' (pv 1) (qf hr (D_law_take base) (a2 (pv 2) af))⟩)))) (ab (qs 4 S (qf hr (D_law_take base) (a2 (pv 0) af))) (ab (qs 5 S (qf hr (D_law_take base) (a2 (pv 0) af))) (ab (qs 6 S (qf hr (D_law_take base) (a2 (pv 0) af))) (ab (qs 7 S (br cR)) (ab (bG bo rfl (i8 rfl z.range (a1 (pv 1))) (gn 8 S) (ab (qs 9 S (xs' (pv 2) (aB eL (aB cF (pv 5) (aB h9 af (pv 8))) af))) (ab (qs 10 S (cj yX (pv 3) dH (cy (aB eL (aB cF (pv 6) (aB h9 (pv 8) (aB eL (pv 4) af))) af)))) (ab (qs 11 S (xl (br (a3 af (ql z.len (a1 (pv 10))) (aB Au (ql z.len (a1 (pv 10))) af))) (pv 4))) (ag (bu (i_ fj iK iJ cS (pv 7) (a1 (aB rW (aB rW (cj yX (pv 10) dH (cy (pv 11))) (pv 9)) (cj yX (pv 10) (cy (pv 11)) dH)))))))))) (ag (au (pv 7))))))))))) (by walk_at "b")
theorem yQ:o7 P w K mg:=fun base=>dG X G T.f_law_put (fun S _ _ _ _ _ _ _ _ _ hr hu h=>bK (FP h) (ag (bT (FL (kT hu) (pv 1) (pv 0)) (ag (bu (i_ fj iK iJ cS (pv 0) (a1 (pv 1))))) aP))) (by walk_at "b")
theorem mR(D_law_take:fU P w K mg)(D_law_put:o7 P w K mg):fV P w K mg:=fun base=>dG X G T.f_law_draw_doors (fun S _ _ _ _ _ _ _ _ _ hr hu h=>bK (tG h) (ab (qs 5 S (br cR)) (ab (qs 6 S (qf hr (D_law_take base) (a2 (pv 0) af))) (ab (bG bo rfl (ny rfl z.enumerate (a1 (pv 3))) (gw rfl (aS (gn 7 S) (aS (gn 8 S) eF))) (ab (bG bo rfl (i8 rfl z.range (a1 (xl (br (aG af (a3 af af af))) (qf hr (D_law_take base) (a2 (pv 0) af))))) (gn 9 S) (ab (qs 10 S (aN (a2 bq (xl (pv 2) (qf hr (D_law_take base) (a2 (pv 0) (ql z.len (a1 (pv 2))))))))) (ag (bu (qf hr (D_law_put base) (a2 (pv 5) (aN (a3 (pv 8) (pv 10) (xl (pv 3) (qf hr (D_law_take base) (a2 (pv 0) (ql z.len (a1 (pv 3)))))))))))))) (ab (bG bo rfl (aL (pv 1)) (gn 11 S) (ag (bG bo rfl (i8 rfl z.range (a1 (xl (br (aG (pv 4) (a3 af af af))) (qf hr (D_law_take base) (a2 (pv 0) af))))) (gn 9 S) (ag (bu (qf hr (D_law_put base) (a2 (pv 5) (aN (a3 (pv 8) (aN (a2 bq (pv 11))) (xl (pv 3) (qf hr (D_law_take base) (a2 (pv 0) (ql z.len (a1 (pv 3))))))))))))))) (ab (qs 12 S (xl (br (a2 (cj dZ (pv 3) (cy (aB cF (pv 7) af)) dH) (cj dZ (pv 3) dH (cy (pv 7))))) (pv 6))) (ag (bT (PW.pt (v_ (ke (C5 hu) (pv 12) (br cR)) (v9 (ke kq (qf hr (D_law_take base) (a2 (pv 0) af)) af)))) (ag (bu (qf hr (D_law_put base) (a2 (pv 5) (aN (a3 (pv 8) (aN (a1 bq)) (xq (pv 12) (qf hr (D_law_take base) (a2 (pv 0) (ql z.len (a1 (pv 12)))))))))))) aP)))))) (ag (au (pv 5))))))) (by walk_at "b")
theorem vM(D_law_anew:mE P w K mg)(D_law_take:fU P w K mg)(D_law_names:kK P w K mg)(D_law_draw_doors:fV P w K mg):pE P w K mg:=fun base=>dG X G T.f_law_model (fun S _ _ _ _ _ _ _ _ _ hr hu h=>bK (CK h) (ab (bu (qf hr (D_law_anew base) (a1 (pv 0)))) (ab (qs 3 S (qf hr (D_law_names base) (a2 (pv 0) af))) (ab (qs 4 S (cj dZ (pv 3) dH (cy (aB cF af (xl (br (aG af (aG af (aG af (a3 af af af))))) (qf hr (D_law_take base) (a2 (pv 0) af))))))) (ab (qs 5 S (cj dZ (pv 3) (cy af) (cy (aB cF af (xl (br (aG af (aG af (aG af (a3 af af af))))) (qf hr (D_law_take base) (a2 (pv 0) af))))))) (ab (qs 6 S (qf hr (D_law_names base) (a2 (pv 0) (aB cF af (qf hr (D_law_take base) (a2 (pv 0) (pv 1))))))) (ab (qs 7 S (qf hr (D_law_draw_doors base) (aG (pv 0) (aG (pv 4) (a3 (pv 5) (pv 6) (pv 2)))))) (ag (au (aN (aG (pv 4) (a3 (pv 5) (pv 6) (pv 7))))))))))))) (by walk_at "b")
theorem yT:o8 P w K mg:=fun base=>dG X G T.f_is_name (fun S _ _ _ _ _ _ _ _ _ hr hu h=>bK (y2 h) (ag (au (C3 (ecm C6 (pv 0) bq) (C3 (ecm GP (ql z.len (a1 (pv 0))) (iB rfl c.LONGEST_NAME)) (FZ (qB (pC rfl) z.all boot_all (a1 (qc (FV (pv 0)) (aT (by decide)) fun _ _ _ _ _ _=>⟨gc 0,cg,eci zj (pv 0) (iB rfl c.LETTERS)⟩))))))))) (by walk_at "b")
theorem yU:jk P w K mg:=fun base=>dG X G T.f_as_keys (fun S _ _ _ _ _ _ _ _ _ hr hu h=>bK (y8 h) (ab (qs 1 S nz) (ab (bG bo rfl (aL (pv 0)) (gn 2 S) (ag (fC hu (pv 1) (pv 2) nC rfl))) (ag (au (pv 1)))))) (by walk_at "b")
theorem lf(D_is_name:o8 P w K mg)(D_as_keys:jk P w K mg):eO P w K mg:=fun base=>dG X G T.f_first_wrong_name (fun S _ _ _ _ _ _ _ _ _ hr hu h=>bK (lh h) (ab (bT (ke kq (ql z.len (a1 (pv 0))) af) (ag (au af)) aP) (ab (qs 3 S (qf hr (D_as_keys base) (a1 (pv 2)))) (ab (bG bo rfl (ny rfl z.enumerate (a1 (pv 0))) (gw rfl (aS (gn 4 S) (aS (gn 5 S) eF))) (ab (bT (PW.pt (nu (ke kq (pv 4) (pv 1)) (nu (dU (rV hu (pv 5) (pv 3))) (me (FT (zc (qf hr (D_is_name base) (a1 (pv 5))))))))) (ag (au (pv 4))) aP) (ag (fC hu (pv 3) (pv 5) nC rfl)))) (ag (au oI)))))) (by walk_at "b")
theorem tj:jK P w K mg:=fun base=>dG X G T.f_door_signs (fun S _ _ _ _ _ _ _ _ _ hr hu h=>bK (tH c.still h) (ag (au (aB h_ (aB h_ (qc (aL (pv 0)) (aT (by decide)) fun _ _ _ _ _ _=>⟨gc 0,cg,aN (a2 bq (pv 0))⟩) (qc (aL (pv 1)) (aT (by decide)) fun _ _ _ _ _ _=>⟨gc 0,cg,aN (a2 bq (pv 0))⟩)) (br (a1 (iB rfl c.STILL))))))) (by walk_at "b")
theorem lg(D_as_keys:jk P w K mg):eP P w K mg:=fun base=>dG X G T.f_first_wrong_door (fun S _ _ _ _ _ _ _ _ _ hr hu h=>bK (lm h) (ab (qs 3 S (qf hr (D_as_keys base) (a1 (pv 1)))) (ab (qs 4 S i9) (ab (bG bo rfl (ny rfl z.enumerate (a1 (pv 0))) (gw rfl (aS (gn 5 S) (aS (gn 6 S) eF))) (ab (bT (PW.pt (nu (ke kq (pv 5) (iB rfl c.MOST_DOORS)) (me (dU (rV hu (pv 6) (pv 4)))))) (ag (au (pv 5))) aP) (ab (bT (PW.pt (nu (dU (eX hu (xq (pv 6) af) (pv 3))) (nu (FL (kT hu) (xq (pv 6) af) (pv 2)) (me (dU (eX hu (xq (pv 6) af) (pv 3))))))) (ag (au (pv 5))) aP) (ag (fC hu (pv 4) (pv 6) nC rfl))))) (ag (au oI)))))) (by walk_at "b")
theorem hJ:cG P w K mg:=fun base=>dG X G T.f_goals_by_start_and_sign (fun S _ _ _ _ _ _ _ _ _ hr hu h=>bK (hW h) (ab (qs 1 S i9) (ab (bG bo rfl (aL (pv 0)) (gw rfl (aS (gn 2 S) (aS (gn 3 S) (aS (gn 4 S) eF)))) (ag (bu (i_ fj iK iJ cS (i_ PySem.F.plainAttrs_dict PySem.F.slot_dict_setdefault PySem.F.type_dict_setdefault (BA hu) (pv 1) (a2 (aN (a2 (pv 2) (pv 3))) (br cR))) (a1 (pv 4)))))) (ag (au (pv 1)))))) (by walk_at "b")
theorem pR:ij P w K mg:=fun base=>dG X G T.f_led_by_still (fun S _ _ _ _ _ _ _ _ _ hr hu h=>bK (pT c.still h) (ab (qs 2 S nz) (ab (qs 3 S (br (a1 (pv 1)))) (ab (rO bo (ke At (ql z.len (a1 (pv 3))) af) (ab (qs 4 S (zi fj PySem.F.slot_list_pop PySem.F.type_list_pop Ga (pv 3))) (ag (bG bo rfl (FW (rT hu (pv 0) (aN (a2 (pv 4) (iB rfl c.STILL))) (aN cR) ⟨rfl,rfl,rfl,rfl⟩)) (gn 5 S) (ag (bT (dU (eX hu (pv 5) (pv 2))) (ab (fC hu (pv 2) (pv 5) nC rfl) (ag (bu (i_ fj iK iJ cS (pv 3) (a1 (pv 5)))))) aP)))))) (ag (au (pv 2))))))) (by walk_at "b")
theorem l7:fJ P w K mg:=fun base=>dG X G T.f_first_led_round (fun S _ _ _ _ _ _ _ _ _ hr hu h=>bK (ma h) (ab (bG bo rfl (ny rfl z.enumerate (a1 (pv 0))) (gw rfl (aS (gn 2 S) (aS (gn 3 S) eF))) (ag (bT (dU (rV hu (pv 3) (jy hu (pv 1) (pv 3) (fun _ _=>rfl)))) (ag (au (pv 2))) aP))) (ag (au oI)))) (by walk_at "b")
theorem vI:iG P w K mg:=fun base=>dG X G T.f_need_none (fun S _ _ _ _ _ _ _ _ _ hr hu h=>bK (vZ (K:=K) h) (ag (bT (dU (ER (pv 1))) (ag (rP)) aP))) (by walk_at "b")
theorem sX(D_first_wrong_name:eO P w K mg)(D_door_signs:jK P w K mg)(D_first_wrong_door:eP P w K mg)(D_need_none:iG P w K mg):jH P w K mg:=fun base=>dG X G T.f_need_parts (fun S _ _ _ _ _ _ _ _ _ hr hu h=>bK (tD (K:=K) h) (ab (bu (qf hr (D_need_none base) (a2 bq (qf hr (D_first_wrong_name base) (a3 (pv 0) (iB rfl c.MOST_WORDS) (br cR)))))) (ab (bu (qf hr (D_need_none base) (a2 bq (qf hr (D_first_wrong_name base) (a3 (pv 1) (iB rfl c.MOST_WORDS) (pv 0)))))) (ab (bu (qf hr (D_need_none base) (a2 bq (qf hr (D_first_wrong_name base) (a3 (pv 2) (iB rfl c.MOST_ROOMS) (br cR)))))) (ag (bu (qf hr (D_need_none base) (a2 bq (qf hr (D_first_wrong_door base) (a3 (pv 3) (pv 2) (qf hr (D_door_signs base) (a2 (pv 0) (pv 1))))))))))))) (by walk_at "b")
theorem mT:fX P w K mg:=fun base=>dG X G T.f_doors_by_start (fun S _ _ _ _ _ _ _ _ _ hr hu h=>bK (nn h) (ab (qs 2 S nz) (ab (bG bo rfl (aL (pv 0)) (gn 3 S) (ag (fC hu (pv 2) (pv 3) (br cR) rfl))) (ab (bG bo rfl (aL (pv 1)) (gn 4 S) (ag (bu (i_ fj iK iJ cS (jy hu (pv 2) (xq (pv 4) af) (fun _ _=>rfl)) (a1 (pv 4)))))) (ag (au (pv 2))))))) (by walk_at "b")
theorem mS:fW P w K mg:=fun base=>dG X G T.f_has_asks_alone (fun S _ _ _ _ _ _ _ _ _ hr hu h=>bK (nj h) (ag (au (qB (pC rfl) z.all boot_all (a1 (qc (aL (pv 0)) (aT (by decide)) fun _ _ _ _ _ _=>⟨gc 0,cg,ecm kq (xq (xq (pv 0) af) af) bq⟩)))))) (by walk_at "b")
theorem yV(D_as_keys:jk P w K mg)(D_goals_by_start_and_sign:cG P w K mg)(D_led_by_still:ij P w K mg)(D_first_led_round:fJ P w K mg)(D_need_none:iG P w K mg)(D_need_parts:jH P w K mg)(D_doors_by_start:fX P w K mg)(D_has_asks_alone:fW P w K mg):o9 P w K mg C:=fun base=>dN c.cm c.makes c.kc T.f_Machine___init__ (fun S _ _ _ _ _ _ _ _ _ hr hu h=>bK (EB c.mc h) (ab (bu (qf hr (D_need_parts base) (aG (pv 1) (a3 (pv 2) (pv 3) (pv 4))))) (ab (fQ (pv 0) (qL rfl z.list (a1 (pv 1))) rfl) (ab (fQ (pv 0) (qL rfl z.list (a1 (pv 2))) rfl) (ab (fQ (pv 0) (qL rfl z.list (a1 (pv 3))) rfl) (ab (fQ (pv 0) (qL rfl z.list (a1 (pv 4))) rfl) (ab (fQ (pv 0) (qf hr (D_doors_by_start base) (a2 (pv 3) (pv 4))) rfl) (ab (fQ (pv 0) (qf hr (D_as_keys base) (a1 (qc (aL (pv 3)) (aT (by decide)) fun _ _ _ _ _ _=>⟨gc 0,ga (zc (qf hr (D_has_asks_alone base) (a1 (jy hu (c9 (pv 1) rfl) (pv 0) (fun _ _=>rfl))))),pv 0⟩))) rfl) (ab (fQ (pv 0) (qf hr (D_goals_by_start_and_sign base) (a1 (pv 4))) rfl) (ab (fQ (pv 0) (d6 (wF rfl) rfl z.dict zM (a1 (qc (aL (pv 3)) (aT (by decide)) fun _ _ _ _ _ _=>⟨gc 0,cg,aN (a2 (pv 0) (qf hr (D_led_by_still base) (a2 (c9 (pv 1) rfl) (pv 0))))⟩))) rfl) (ag (bu (qf hr (D_need_none base) (a2 bq (qf hr (D_first_led_round base) (a2 (pv 3) (c9 (pv 0) rfl))))))))))))))))) (by walk_at "b")
theorem rq(D_Machine:o9 P w K mg C):lJ P w K mg C:=fun base=>dG X G T.f_law_machine (fun S _ _ _ _ _ _ _ _ _ hr hu h=>bK (y1 h) (ag (au (wa (D_Machine base) (hr.mono (by decide)) rfl (aG (qL rfl z.list (a1 (xq (pv 0) af))) (a3 (qL rfl z.list (a1 (xq (pv 0) af))) (qL rfl z.list (a1 (xq (pv 0) af))) (qL rfl z.list (a1 (xq (pv 0) af))))))))) (by walk_at "b")
theorem oE:eJ P w K mg C:=fun base=>dM c.mc.cls T.f_Machine_rooms (fun S _ _ _ _ _ _ _ _ _ hr hu h=>bK (CH c.mc h) (ag (au (qL rfl z.list (a1 (c9 (pv 0) rfl)))))) (by walk_at "b")
theorem lc:eQ P w K mg C:=fun base=>dM c.mc.cls T.f_Machine_led_from (fun S _ _ _ _ _ _ _ _ _ hr hu h=>bK (xD c.mc h) (ag (au (qL rfl z.list (a1 (rT hu (c9 (pv 0) rfl) (pv 1) (aN cR) ⟨rfl,rfl,rfl,rfl⟩)))))) (by walk_at "b")
theorem sV(M_Machine_rooms:eJ P w K mg C)(M_Machine_led_from:eQ P w K mg C):gP P w K mg C:=fun base=>dG X G T.f_with_still (fun S _ _ _ _ _ _ _ _ _ hr hu h=>bK (tw h) (ab (qs 2 S nz) (ab (bG bo rfl (aL (pv 1)) (gn 3 S) (ag (bT (dU (eX hu (pv 3) (pv 2))) (ab (fC hu (pv 2) (pv 3) nC rfl) (ag (bG bo rfl (aL (qm hr (M_Machine_led_from base) (pv 0) (a1 (pv 3)))) (gn 4 S) (ag (fC hu (pv 2) (pv 4) nC rfl))))) aP))) (ag (au (d6 cK rfl z.tuple cY (a1 (qc (aL (GN hr (M_Machine_rooms base) (pv 0))) (aT (by decide)) fun _ _ _ _ _ _=>⟨gc 0,ga (dU (rV hu (pv 0) (pv 1))),pv 0⟩)))))))) (by walk_at "b")
theorem oF:gC P w K mg C:=fun base=>dM c.mc.cls T.f_Machine_goals (fun S _ _ _ _ _ _ _ _ _ hr hu h=>bK (Bn c.mc h) (ag (au (qL rfl z.list (a1 (rT hu (c9 (pv 0) rfl) (aN (a2 (pv 1) (pv 2))) (aN cR) ⟨rfl,rfl,rfl,rfl⟩)))))) (by walk_at "b")
theorem le:eR P w K mg C:=fun base=>dM c.mc.cls T.f_Machine_is_quiet (fun S _ _ _ _ _ _ _ _ _ hr hu h=>bK (xE c.mc h) (ag (au (F1 (rV hu (pv 1) (c9 (pv 0) rfl)))))) (by walk_at "b")
theorem pS:fI P w K mg:=fun base=>dG X G T.f_law_still_on (fun S _ _ _ _ _ _ _ _ _ hr hu h=>bK (xB h) (ab (qs 2 S (qL rfl z.list (a1 (pv 1)))) (ab (qs 3 S af) (ab (rO bo (ke uk (pv 3) (ql z.len (a1 (pv 2)))) (ab (bG bo rfl (aL (pv 0)) (gw rfl (aS (gn 4 S) (aS (gn 5 S) (aS (gn 6 S) eF)))) (ag (bT (PW.pt (v_ (ke (mh hu) (pv 4) (xq (pv 2) (pv 3))) (v_ (ke (mh hu) (pv 5) (aN (a1 bq))) (v9 (FL (kT hu) (pv 6) (pv 2)))))) (ag (bu (i_ fj iK iJ cS (pv 2) (a1 (pv 6))))) aP))) (ag (qs 3 S (aB cF (pv 3) af))))) (ag (au (pv 2))))))) (by walk_at "b")
theorem pQ:ik P w K mg C:=fun base=>dM c.mc.cls T.f_Machine_asks (fun S _ _ _ _ _ _ _ _ _ hr hu h=>bK (EE c.mc h) (ag (au (qL rfl z.list (a1 (c9 (pv 0) rfl)))))) (by walk_at "b")
theorem pP:fK P w K mg C:=fun base=>dM c.mc.cls T.f_Machine_says (fun S _ _ _ _ _ _ _ _ _ hr hu h=>bK (Ev c.mc h) (ag (au (qL rfl z.list (a1 (c9 (pv 0) rfl)))))) (by walk_at "b")
theorem tf(M_Machine_rooms:eJ P w K mg C)(D_with_still:gP P w K mg C):gR P w K mg C:=fun base=>dG X G T.f_first_face (fun S _ _ _ _ _ _ _ _ _ hr hu h=>bK (tF h) (ag (au (qf hr (D_with_still base) (a2 (pv 0) (cj dZ (GN hr (M_Machine_rooms base) (pv 0)) dH (cy af))))))) (by walk_at "b")
theorem rA(D_with_still:gP P w K mg C)(M_Machine_goals:gC P w K mg C)(M_Machine_is_quiet:eR P w K mg C):iS P w K mg C:=fun base=>dG X G T.f_face_behind (fun S _ _ _ _ _ _ _ _ _ hr hu h=>bK (EC c.hush h) (ab (bT (ke (mh hu) (pv 2) (iB rfl c.HUSH)) (ag (au (d6 cK rfl z.tuple cY (a1 (qc (zf (pv 1)) (aT (by decide)) fun _ _ _ _ _ _=>⟨gc 0,ga (zc (qm hr (M_Machine_is_quiet base) (pv 1) (a1 (pv 0)))),pv 0⟩))))) aP) (ab (qs 3 S (br cR)) (ab (bG bo rfl (zf (pv 1)) (gn 4 S) (ag (bu (i_ fj PySem.F.slot_list_extend PySem.F.type_list_extend BB (pv 3) (a1 (qm hr (M_Machine_goals base) (pv 0) (a2 (pv 4) (pv 2)))))))) (ag (au (qf hr (D_with_still base) (a2 (pv 0) (pv 3))))))))) (by walk_at "b")
theorem mP(M_Machine_asks:ik P w K mg C)(M_Machine_says:fK P w K mg C):fT P w K mg C a_HUSH:=fun base=>dG X G T.f_signs_in_order (fun S _ _ _ _ _ _ _ _ _ hr hu h=>bK (FO h) (ag (au (aB h_ (aB h_ (qc (aL (GN hr (M_Machine_asks base) (pv 0))) (aT (by decide)) fun _ _ _ _ _ _=>⟨gc 0,cg,aN (a2 bq (pv 0))⟩) (qc (aL (GN hr (M_Machine_says base) (pv 0))) (aT (by decide)) fun _ _ _ _ _ _=>⟨gc 0,cg,aN (a2 bq (pv 0))⟩)) (br (a1 (iB rfl c.HUSH))))))) (by walk_at "b")
theorem xu(D_face_behind:iS P w K mg C)(D_signs_in_order:fT P w K mg C a_HUSH):mD P w K mg C:=fun base=>dG X G T.f_steps_at (fun S _ _ _ _ _ _ _ _ _ hr hu h=>bK (y0 c.hush h) (ab (qs 2 S i9) (ab (bG bo rfl (aL (qf hr (D_signs_in_order base) (a1 (pv 0)))) (gn 3 S) (ab (qs 4 S (qf hr (D_face_behind base) (a3 (pv 0) (pv 1) (pv 3)))) (ag (bT (ke At (ql z.len (a1 (pv 4))) af) (ag (CZ hu (pv 2) (pv 3) (pv 4) rfl)) aP)))) (ag (au (pv 2)))))) (by walk_at "b")
theorem tm:jL P w K mg Ck:=fun base=>dN c.cmksc c.makesksc c.kcksc T.f_KnownSteps___init__ (fun S _ _ _ _ _ _ _ _ _ hr hu h=>bK (Br c.ksc h) (ab (fQ (pv 0) (pv 1) rfl) (ag (fQ (pv 0) i9 rfl)))) (by walk_at "b")
theorem iO(D_steps_at:mD P w K mg C):cW P w K mg C Ck:=fun base=>dM c.ksc.cls T.f_KnownSteps_steps_from (fun S _ _ _ _ _ _ _ _ _ hr hu h=>bK (Bs c.ksc h) (ab (bT (dU (eX hu (pv 1) (c9 (pv 0) rfl))) (ag (fC hu (c9 (pv 0) rfl) (pv 1) (qf hr (D_steps_at base) (a2 (c9 (pv 0) rfl) (pv 1))) rfl)) aP) (ag (au (jy hu (c9 (pv 0) rfl) (pv 1) (fun _ _=>rfl)))))) (by walk_at "b")
theorem sY:gQ P w K mg:=fun base=>dG X G T.f_need_depth (fun S _ _ _ _ _ _ _ _ _ hr hu h=>bK (tE (K:=K) h) (ag (bT (PW.pt (nu (ke uk (pv 0) af) (me (ke At (pv 0) (iB rfl c.DEEPEST))))) (ag (rP)) aP))) (by walk_at "b")
theorem yO:lb P w K mg:=fun base=>dG X G T.f_product (fun S _ _ _ _ _ _ _ _ _ hr hu h=>bK (rJ h) (ab (qs 1 S af) (ab (bG bo rfl (aL (pv 0)) (gn 2 S) (ag (qs 1 S (aB wc (pv 1) (pv 2))))) (ag (au (pv 1)))))) (by walk_at "b")
theorem Ek(M_Machine_says:fK P w K mg C)(D_KnownSteps:jL P w K mg Ck):wW P w K mg C Ck Cd:=fun base=>dN c.cmdc c.makesdc c.kcdc T.f_Made___init__ (fun S _ _ _ _ _ _ _ _ _ hr hu h=>bK (Bo c.dc h) (ab (fQ (pv 0) (qc (aL (GN hr (M_Machine_says base) (pv 1))) (aT (by decide)) fun _ _ _ _ _ _=>⟨gc 0,cg,aN (a2 bq (pv 0))⟩) rfl) (ab (fQ (pv 0) (wa (D_KnownSteps base) (hr.mono (by decide)) rfl (a1 (pv 1))) rfl) (ag (fQ (pv 0) i9 rfl))))) (by walk_at "b")
theorem l6(M_KnownSteps_steps_from:cW P w K mg C Ck):b_ P w K mg C Ck Cd:=fun base=>dM c.dc.cls T.f_Made_steps_from (fun S _ _ _ _ _ _ _ _ _ hr hu h=>bK (Bp c.dc h) (ag (au (qm hr (M_KnownSteps_steps_from base) (c9 (pv 0) rfl) (a1 (pv 1)))))) (by walk_at "b")
theorem oA(M_Made_steps_from:b_ P w K mg C Ck Cd):eI P w K mg C Ck Cd:=fun base=>dM c.dc.cls T.f_Made_kinds_at (fun S _ _ _ _ _ _ _ _ _ hr hu h=>bK (Bm c.dc c.hush h) (ab (GL 2 S (C1 (qm hr (M_Made_steps_from base) (pv 0) (a1 (pv 1)))) (aT (by decide)) fun _ _ _ _ _ _=>⟨gc 0,ga (ke kq (xq (pv 0) af) bq),pv 0⟩) (ag (au (aB h_ (qc (aL (pv 2)) (aT (by decide)) fun _ _ _ _ _ _=>⟨gc 0,cg,aB h_ (br (a1 (pv 0))) (c9 (pv 1) rfl)⟩) (br (a1 (aB h_ (c9 (pv 0) rfl) (br (a1 (iB rfl c.HUSH))))))))))) (by walk_at "b")
theorem oC(D_product:lb P w K mg)(M_Made_steps_from:b_ P w K mg C Ck Cd)(M_Made_kinds_at:eI P w K mg C Ck Cd):cH P w K mg C Ck Cd:=fun base=>by
  have E0:o5 P w K mg base Cd "count_of" ["self","face","d","signs"] 7 CB:=by
   obtain⟨f,a,i,t⟩:=T.f_Made_count_of;obtain⟨fd,F⟩:=t.fun_;exact⟨f,fd,Av,c.dc.cls,⟨a,i,F.kp⟩,F.binds (ps:=["self","face","d","signs"]) (by walk_at "b")⟩
  have sA:∀(n D:Nat) (sp:Sp),7<=n->D<=4->(∀m,D=m+1->sp=(hV K C Ck Cd m))->o5 P w K mg base Cd "count_of" ["self","face","d","signs"] n sp->o5 P w K mg base Cd "count_at" ["self","face","d"] (n+1) (fA C Ck Cd D):=fun n D sp hb hD hS Mr=>dM c.dc.cls T.f_Made_count_at (fun S _ _ _ _ _ _ _ _ _ hr hu h=>bK (CN c.dc hD hS h) (ab (bT (PW.pt (nu (dU (wb (pv 1))) (me (ke kq (pv 2) af)))) (ag (au af)) aP) (ab (bT (dU (eX hu (aN (a2 (pv 1) (pv 2))) (c9 (pv 0) rfl))) (ab (GL 3 S (aL (qm (k0:=7) (hr.mono (aE (by decide) hb)) (M_Made_kinds_at base) (pv 0) (a1 (pv 1)))) (aT (by decide)) fun _ _ _ _ _ _=>⟨gc 0,cg,qm (hk:=ay _) hr Mr (pv 3) (a3 (pv 1) (pv 2) (pv 0))⟩) (ag (fC hu (c9 (pv 0) rfl) (aN (a2 (pv 1) (pv 2))) (aB cF af (qB (BX rfl) z.sum boot_sum (a1 (pv 3)))) rfl))) aP) (ag (au (jy hu (c9 (pv 0) rfl) (aN (a2 (pv 1) (pv 2))) (fun _ _=>rfl))))))) (by walk_at "b");have sB:∀n D:Nat,7<=n->o5 P w K mg base Cd "count_at" ["self","face","d"] n (fA C Ck Cd D)->o5 P w K mg base Cd "count_of" ["self","face","d","signs"] (n+1) (hV K C Ck Cd D):=fun n D hb Mr=>dM c.dc.cls T.f_Made_count_of (fun S _ _ _ _ _ _ _ _ _ hr hu h=>bK (xF h) (ab (qs 4 S (qm (k0:=6) (hr.mono (aE (by decide) hb)) (M_Made_steps_from base) (pv 0) (a1 (pv 1)))) (ag (au (qf (k0:=1) (hr.mono (aE (by decide) hb)) (D_product base) (a1 (qc (aL (pv 3)) (aT (by decide)) fun _ _ _ _ _ _=>⟨gc 0,cg,qm (hk:=ay _) hr Mr (pv 1) (a2 (nA hu (pv 3) (pv 0) ⟨rfl,rfl,rfl,rfl⟩) (aB h7 (pv 2) af))⟩))))))) (by walk_at "b");have A0:=sA 7 0 _ (by decide) (by decide) (fun m e=>by cases e) E0;have B0:=sB 8 0 (by decide) A0;have A1:=sA 9 1 _ (by decide) (by decide) (fun m e=>by cases e;rfl) B0;have B1:=sB 10 1 (by decide) A1;have A2:=sA 11 2 _ (by decide) (by decide) (fun m e=>by cases e;rfl) B1;have B2:=sB 12 2 (by decide) A2;have A3:=sA 13 3 _ (by decide) (by decide) (fun m e=>by cases e;rfl) B2;have B3:=sB 14 3 (by decide) A3;have A4:=sA 15 4 _ (by decide) (by decide) (fun m e=>by cases e;rfl) B3;exact A4
theorem oB(D_product:lb P w K mg)(M_Made_steps_from:b_ P w K mg C Ck Cd)(M_Made_count_at:cH P w K mg C Ck Cd):gB P w K mg C Ck Cd:=fun base=>dM c.dc.cls T.f_Made_count_of (fun S _ _ _ _ _ _ _ _ _ hr hu h=>bK (xF h) (ab (qs 4 S (qm hr (M_Made_steps_from base) (pv 0) (a1 (pv 1)))) (ag (au (qf hr (D_product base) (a1 (qc (aL (pv 3)) (aT (by decide)) fun _ _ _ _ _ _=>⟨gc 0,cg,qm hr (M_Made_count_at base) (pv 1) (a2 (nA hu (pv 3) (pv 0) ⟨rfl,rfl,rfl,rfl⟩) (aB h7 (pv 2) af))⟩))))))) (by walk_at "b")
theorem oG(D_first_face:gR P w K mg C)(D_need_depth:gQ P w K mg)(D_Made:wW P w K mg C Ck Cd)(M_Made_count_at:cH P w K mg C Ck Cd):jQ P w K mg C:=fun base=>dG X G T.f_how_many_made (fun S _ _ _ _ _ _ _ _ _ hr hu h=>bK (y3 (K:=K) c.dc h) (ab (bu (qf hr (D_need_depth base) (a1 (pv 1)))) (ag (au (qm hr (M_Made_count_at base) (wa (D_Made base) (hr.mono (by decide)) rfl (a1 (pv 0))) (a2 (qf hr (D_first_face base) (a1 (pv 0))) (pv 1))))))) (by walk_at "b")
theorem sW:jG P w K mg:=fun base=>dG X G T.f_trial_from (fun S _ _ _ _ _ _ _ _ _ hr hu h=>bK (Bk h) (ab (bT (ke kq (xt (xl (pv 0) af) af) bq) (ab (GL 2 S (An rfl z.zip (a2 (cj dZ (pv 0) (cy af) dH) (cj dZ (pv 1) (cy af) dH))) (As (kS (aT (by decide)) gU (kS (aT (by decide)) gU (xJ) (kU)) (rY gU (kU)))) fun _ _ _ _ _ _=>⟨gw rfl (aS (gc 0) (aS (gc 1) eF)),cg,aN (a2 (xq (pv 0) af) (pv 1))⟩) (ag (au (aN (aG bq (a3 (xt (xl (pv 0) af) af) (xl (pv 1) af) (d6 cK rfl z.tuple cY (a1 (pv 2))))))))) aP) (ab (GL 2 S (An rfl z.zip (a2 (cj dZ (pv 0) dH (cy (uh on af))) (cj dZ (pv 1) dH (cy (uh on af))))) (As (kS (aT (by decide)) gU (kS (aT (by decide)) gU (xJ) (kU)) (rY gU (kU)))) fun _ _ _ _ _ _=>⟨gw rfl (aS (gc 0) (aS (gc 1) eF)),cg,aN (a2 (xq (pv 0) af) (pv 1))⟩) (ag (au (aN (a3 bq (d6 cK rfl z.tuple cY (a1 (pv 2))) (xl (pv 1) (uh on af))))))))) (by walk_at "b")
theorem oz(M_Made_steps_from:b_ P w K mg C Ck Cd)(M_Made_kinds_at:eI P w K mg C Ck Cd)(M_Made_count_at:cH P w K mg C Ck Cd)(M_Made_count_of:gB P w K mg C Ck Cd)(D_trial_from:jG P w K mg):gA P w K mg C Ck Cd:=fun base=>by
  have E0:o5 P w K mg base Cd "trial_of" ["self","face","d","signs","number"] 17 CB:=by
   obtain⟨f,a,i,t⟩:=T.f_Made_trial_of;obtain⟨fd,F⟩:=t.fun_;exact⟨f,fd,Av,c.dc.cls,⟨a,i,F.kp⟩,F.binds (ps:=["self","face","d","signs","number"]) (by walk_at "b")⟩
  have sA:∀(n D:Nat) (sp:Sp),17<=n->D<=4->(∀m,D=m+1->sp=(mW K C Ck Cd m))->o5 P w K mg base Cd "trial_of" ["self","face","d","signs","number"] n sp->o5 P w K mg base Cd "trial_at" ["self","face","d","number"] (n+1) (jt K C Ck Cd D):=fun n D sp hb hD hS Mr=>dM c.dc.cls T.f_Made_trial_at (fun S _ _ _ _ _ _ _ _ _ hr hu h=>bK (Ey c.dc c.blm c.enD hD hS h) (ab (bT (dU (wb (pv 1))) (ag (au (iB rfl c.BLAME))) aP) (ab (bT (ke kq (pv 3) af) (ag (au (iB rfl c.END))) aP) (ab (qs 4 S (aB h7 (pv 3) af)) (ab (qs 5 S (qm (k0:=7) (hr.mono (aE (by decide) hb)) (M_Made_kinds_at base) (pv 0) (a1 (pv 1)))) (ab (qs 6 S af) (ab (rO bo (ke C7 (pv 4) (qm (k0:=17) (hr.mono (aE (by decide) hb)) (M_Made_count_of base) (pv 0) (a3 (pv 1) (pv 2) (xl (pv 5) (pv 6))))) (ab (C0 (i:=4) S rfl (Or.inl rfl) (qm (k0:=17) (hr.mono (aE (by decide) hb)) (M_Made_count_of base) (pv 0) (a3 (pv 1) (pv 2) (xl (pv 5) (pv 6)))) Gf) (ag (C0 (i:=6) S rfl (Or.inl rfl) af Gg)))) (ag (au (qm (hk:=ay _) hr Mr (pv 0) (aG (pv 1) (a3 (pv 2) (xl (pv 5) (pv 6)) (pv 4))))))))))))) (by walk_at "b");have sB:∀n D:Nat,17<=n->o5 P w K mg base Cd "trial_at" ["self","face","d","number"] n (jt K C Ck Cd D)->o5 P w K mg base Cd "trial_of" ["self","face","d","signs","number"] (n+1) (mW K C Ck Cd D):=fun n D hb Mr=>dM c.dc.cls T.f_Made_trial_of (fun S _ _ _ _ _ _ _ _ _ hr hu h=>bK (Ex h) (ab (qs 5 S (qm (k0:=6) (hr.mono (aE (by decide) hb)) (M_Made_steps_from base) (pv 0) (a1 (pv 1)))) (ab (qs 6 S (br cR)) (ab (qs 7 S (pv 4)) (ab (bG bo rfl (FX rfl z.reversed (a1 (pv 3))) (gn 8 S) (ab (mf (qB wE z.divmod boot_divmod (a2 (pv 7) (qm (k0:=16) (hr.mono (aE (by decide) hb)) (M_Made_count_at base) (pv 0) (a2 (nA hu (pv 5) (pv 8) ⟨rfl,rfl,rfl,rfl⟩) (aB h7 (pv 2) af))))) (gw rfl (aS (gn 7 S) (aS (gn 9 S) eF)))) (ag (bu (i_ fj iK iJ cS (pv 6) (a1 (qm (hk:=ay _) hr Mr (pv 0) (a3 (nA hu (pv 5) (pv 8) ⟨rfl,rfl,rfl,rfl⟩) (aB h7 (pv 2) af) (pv 9))))))))) (ab (bu (zi fj PySem.F.slot_list_reverse PySem.F.type_list_reverse rX (pv 6))) (ag (au (qf (k0:=1) (hr.mono (aE (by decide) hb)) (D_trial_from base) (a2 (pv 3) (pv 6))))))))))) (by walk_at "b");have A0:=sA 17 0 _ (by decide) (by decide) (fun m e=>by cases e) E0;have B0:=sB 18 0 (by decide) A0;have A1:=sA 19 1 _ (by decide) (by decide) (fun m e=>by cases e;rfl) B0;have B1:=sB 20 1 (by decide) A1;have A2:=sA 21 2 _ (by decide) (by decide) (fun m e=>by cases e;rfl) B1;have B2:=sB 22 2 (by decide) A2;have A3:=sA 23 3 _ (by decide) (by decide) (fun m e=>by cases e;rfl) B2;have B3:=sB 24 3 (by decide) A3;have A4:=sA 25 4 _ (by decide) (by decide) (fun m e=>by cases e;rfl) B3;exact A4
theorem yP(D_first_face:gR P w K mg C)(D_need_depth:gQ P w K mg)(D_Made:wW P w K mg C Ck Cd)(M_Made_count_at:cH P w K mg C Ck Cd)(M_Made_trial_at:gA P w K mg C Ck Cd):uH P w K mg C:=fun base=>dG X G T.f_made_by (fun S _ _ _ _ _ _ _ _ _ hr hu h=>bK (Bq (K:=K) c.dc h) (ab (bu (qf hr (D_need_depth base) (a1 (pv 1)))) (ab (qs 3 S (wa (D_Made base) (hr.mono (by decide)) rfl (a1 (pv 0)))) (ab (bT (PW.pt (nu (ke uk (pv 2) af) (me (ke C7 (pv 2) (qm hr (M_Made_count_at base) (pv 3) (a2 (qf hr (D_first_face base) (a1 (pv 0))) (pv 1))))))) (ag (rP)) aP) (ag (au (qm hr (M_Made_trial_at base) (pv 3) (a3 (qf hr (D_first_face base) (a1 (pv 0))) (pv 1) (pv 2))))))))) (by walk_at "b")
theorem s_(D_law_still_on:fI P w K mg):jJ P w K mg:=fun base=>dG X G T.f_law_behind (fun S _ _ _ _ _ _ _ _ _ hr hu h=>bK (ED h) (ab (mf (pv 0) (gw rfl (aS (gn 3 S) (aS (gn 4 S) (aS (gn 5 S) (aS (gn 6 S) eF)))))) (ab (bT (ke (mh hu) (pv 2) (aN (a1 bq))) (ab (qs 7 S (qc (aL (pv 6)) (aT (by decide)) fun _ _ _ _ _ _=>⟨gc 0,ga (ke C6 (xt (xt (pv 0) af) af) bq),xt (pv 0) af⟩)) (ag (au (d6 cK rfl z.tuple cY (a1 (qc (zf (pv 1)) (aT (by decide)) fun _ _ _ _ _ _=>⟨gc 0,ga (FL (kT hu) (pv 0) (pv 1)),pv 0⟩)))))) aP) (ab (qs 8 S (qf hr (D_law_still_on base) (a2 (pv 6) (qc (aL (pv 6)) (aT (by decide)) fun _ _ _ _ _ _=>⟨gc 0,ga (PW.pt (v_ (FL (zm hu) (xt (pv 0) af) (pv 1)) (v9 (ke (mh hu) (xt (pv 0) af) (pv 2))))),xt (pv 0) af⟩)))) (ag (au (d6 cK rfl z.tuple cY (a1 (qc (aL (pv 5)) (aT (by decide)) fun _ _ _ _ _ _=>⟨gc 0,ga (FL (zm hu) (pv 0) (pv 1)),pv 0⟩))))))))) (by walk_at "b")
theorem vO(D_law_still_on:fI P w K mg):pF P w K mg:=fun base=>dG X G T.f_law_begin (fun S _ _ _ _ _ _ _ _ _ hr hu h=>bK (CO h) (ab (qs 1 S (qf hr (D_law_still_on base) (a2 (xq (pv 0) af) (br (a1 (xq (xq (pv 0) af) af)))))) (ag (au (d6 cK rfl z.tuple cY (a1 (qc (aL (xq (pv 0) af)) (aT (by decide)) fun _ _ _ _ _ _=>⟨gc 0,ga (FL (zm hu) (pv 0) (pv 1)),pv 0⟩))))))) (by walk_at "b")
theorem mQ:cV P w K mg:=fun base=>dG X G T.f_law_part_signs (fun S _ _ _ _ _ _ _ _ _ hr hu h=>bK (CI h) (ab (GL 2 S (aL (xq (pv 0) af)) (aT (by decide)) fun _ _ _ _ _ _=>⟨gc 0,cg,aN (a2 bq (pv 0))⟩) (ab (bT (dU (wb (pv 1))) (ag (au (aB h_ (pv 2) (br (a1 (aN (a1 bq))))))) aP) (ag (au (aB h_ (br (a1 (aN (a2 bq (pv 1))))) (pv 2))))))) (by walk_at "b")
theorem vQ(D_law_behind:jJ P w K mg):ff P w K mg:=fun base=>dG X G T.f_law_after (fun S _ _ _ _ _ _ _ _ _ hr hu h=>bK (CQ h) (ab (bT (dU (eX hu (aN (a2 (pv 2) (pv 3))) (pv 1))) (ag (fC hu (pv 1) (aN (a2 (pv 2) (pv 3))) (qf hr (D_law_behind base) (a3 (pv 0) (pv 2) (pv 3))) rfl)) aP) (ag (au (jy hu (pv 1) (aN (a2 (pv 2) (pv 3))) (fun _ _=>rfl)))))) (by walk_at "b")
theorem vP(D_law_after:ff P w K mg):iI P w K mg:=fun base=>dG X G T.f_law_asked (fun S _ _ _ _ _ _ _ _ _ hr hu h=>bK (CP h) (ag (au (qc (aL (xq (pv 0) af)) (aT (by decide)) fun _ _ _ _ _ _=>⟨gc 0,ga (ke (C5 hu) (qf hr (D_law_after base) (aG (pv 1) (a3 (pv 2) (pv 3) (aN (a2 bq (pv 0)))))) (aN cR)),pv 0⟩)))) (by walk_at "b")
theorem vJ:iH P w K mg:=fun base=>dG X G T.f_law_times (fun S _ _ _ _ _ _ _ _ _ hr hu h=>bK (CG h) (ab (qs 1 S af) (ab (bG bo rfl (aL (pv 0)) (gn 2 S) (ag (qs 1 S (aB wc (pv 1) (pv 2))))) (ag (au (pv 1)))))) (by walk_at "b")
theorem vN(D_law_part_signs:cV P w K mg)(D_law_after:ff P w K mg)(D_law_asked:iI P w K mg)(D_law_times:iH P w K mg):kL P w K mg:=fun base=>by
  have E0:fS P w K mg base "_law_sizes" ["told","known","face","ask","deep"] 4 CB:=by
   obtain⟨f,a,t⟩:=T.f_law_sizes;obtain⟨fd,F⟩:=t.fun_;exact⟨f,fd,Av,dO X G a,F.kp,F.binds (ps:=["told","known","face","ask","deep"]) (by walk_at "b")⟩
  have sA:∀(n D:Nat) (sp:Sp),4<=n->D<=4->(∀m,D=m+1->sp=(gg K m))->fS P w K mg base "_law_sizes" ["told","known","face","ask","deep"] n sp->fS P w K mg base "_law_count" ["told","known","face","deep"] (n+1) (jw K D):=fun n D sp hb hD hS Mr=>dG X G T.f_law_count (fun S _ _ _ _ _ _ _ _ _ hr hu h=>bK (EA hD hS h) (ab (bT (PW.pt (nu (ke (mh hu) (pv 2) (aN cR)) (me (ke kq (pv 3) af)))) (ag (au af)) aP) (ab (bT (dU (eX hu (aN (a2 (pv 2) (pv 3))) (pv 1))) (ab (qs 4 S af) (ab (bG bo rfl (aL (aB h_ (qf (k0:=4) (hr.mono (aE (by decide) hb)) (D_law_asked base) (a3 (pv 0) (pv 1) (pv 2))) (br (a1 oI)))) (gn 5 S) (ag (qs 4 S (aB cF (pv 4) (qf (k0:=1) (hr.mono (aE (by decide) hb)) (D_law_times base) (a1 (qf (hk:=ay _) hr Mr (aG (pv 0) (aG (pv 1) (a3 (pv 2) (pv 5) (pv 3))))))))))) (ag (fC hu (pv 1) (aN (a2 (pv 2) (pv 3))) (pv 4) rfl)))) aP) (ag (au (jy hu (pv 1) (aN (a2 (pv 2) (pv 3))) (fun _ _=>rfl))))))) (by walk_at "b");have sB:∀n D:Nat,4<=n->fS P w K mg base "_law_count" ["told","known","face","deep"] n (jw K D)->fS P w K mg base "_law_sizes" ["told","known","face","ask","deep"] (n+1) (gg K D):=fun n D hb Mr=>dG X G T.f_law_sizes (fun S _ _ _ _ _ _ _ _ _ hr hu h=>bK (xC h) (ab (qs 5 S (br cR)) (ab (bG bo rfl (aL (qf (k0:=1) (hr.mono (aE (by decide) hb)) (D_law_part_signs base) (a2 (pv 0) (pv 3)))) (gn 6 S) (ag (bu (i_ fj iK iJ cS (pv 5) (a1 (qf (hk:=ay _) hr Mr (aG (pv 0) (a3 (pv 1) (qf (k0:=3) (hr.mono (aE (by decide) hb)) (D_law_after base) (aG (pv 0) (a3 (pv 1) (pv 2) (pv 6)))) (aB h7 (pv 4) af))))))))) (ag (au (pv 5)))))) (by walk_at "b");have A0:=sA 4 0 _ (by decide) (by decide) (fun m e=>by cases e) E0;have B0:=sB 5 0 (by decide) A0;have A1:=sA 6 1 _ (by decide) (by decide) (fun m e=>by cases e;rfl) B0;have B1:=sB 7 1 (by decide) A1;have A2:=sA 8 2 _ (by decide) (by decide) (fun m e=>by cases e;rfl) B1;have B2:=sB 9 2 (by decide) A2;have A3:=sA 10 3 _ (by decide) (by decide) (fun m e=>by cases e;rfl) B2;have B3:=sB 11 3 (by decide) A3;have A4:=sA 12 4 _ (by decide) (by decide) (fun m e=>by cases e;rfl) B3;exact A4
theorem vK(D_law_part_signs:cV P w K mg)(D_law_after:ff P w K mg)(D_law_count:kL P w K mg):kJ P w K mg:=fun base=>dG X G T.f_law_sizes (fun S _ _ _ _ _ _ _ _ _ hr hu h=>bK (xC h) (ab (qs 5 S (br cR)) (ab (bG bo rfl (aL (qf hr (D_law_part_signs base) (a2 (pv 0) (pv 3)))) (gn 6 S) (ag (bu (i_ fj iK iJ cS (pv 5) (a1 (qf hr (D_law_count base) (aG (pv 0) (a3 (pv 1) (qf hr (D_law_after base) (aG (pv 0) (a3 (pv 1) (pv 2) (pv 6)))) (aB h7 (pv 4) af))))))))) (ag (au (pv 5)))))) (by walk_at "b")
theorem yR(D_law_part_signs:cV P w K mg)(D_law_after:ff P w K mg)(D_law_asked:iI P w K mg)(D_law_times:iH P w K mg)(D_law_sizes:kJ P w K mg):uI P w K mg:=fun base=>by
  have E0:fS P w K mg base "_law_laid" ["told","known","face","ask","deep","number"] 14 CB:=by
   obtain⟨f,a,t⟩:=T.f_law_laid;obtain⟨fd,F⟩:=t.fun_;exact⟨f,fd,Av,dO X G a,F.kp,F.binds (ps:=["told","known","face","ask","deep","number"]) (by walk_at "b")⟩
  have sA:∀(n D:Nat) (sp:Sp),14<=n->D<=4->(∀m,D=m+1->sp=(ki K m))->fS P w K mg base "_law_laid" ["told","known","face","ask","deep","number"] n sp->fS P w K mg base "_law_nth" ["told","known","face","deep","number"] (n+1) (jv K D):=fun n D sp hb hD hS Mr=>dG X G T.f_law_nth (fun S _ _ _ _ _ _ _ _ _ hr hu h=>bK (Ez hD hS h) (ab (bT (ke (mh hu) (pv 2) (aN cR)) (ag (au (aN (a1 bq)))) aP) (ab (bT (ke kq (pv 4) af) (ag (au (aN (a1 bq)))) aP) (ab (qs 4 S (aB h7 (pv 4) af)) (ab (bG bo rfl (aL (aB h_ (qf (k0:=4) (hr.mono (aE (by decide) hb)) (D_law_asked base) (a3 (pv 0) (pv 1) (pv 2))) (br (a1 oI)))) (gn 5 S) (ab (qs 6 S (qf (k0:=14) (hr.mono (aE (by decide) hb)) (D_law_sizes base) (aG (pv 0) (aG (pv 1) (a3 (pv 2) (pv 5) (pv 3)))))) (ab (bT (ke uk (pv 4) (qf (k0:=1) (hr.mono (aE (by decide) hb)) (D_law_times base) (a1 (pv 6)))) (ag (au (qf (hk:=ay _) hr Mr (aG (pv 0) (aG (pv 1) (aG (pv 2) (a3 (pv 5) (pv 3) (pv 4)))))))) aP) (ag (qs 4 S (aB h7 (pv 4) (qf (k0:=1) (hr.mono (aE (by decide) hb)) (D_law_times base) (a1 (pv 6))))))))) (ag (au oI))))))) (by walk_at "b");have sB:∀n D:Nat,14<=n->fS P w K mg base "_law_nth" ["told","known","face","deep","number"] n (jv K D)->fS P w K mg base "_law_laid" ["told","known","face","ask","deep","number"] (n+1) (ki K D):=fun n D hb Mr=>dG X G T.f_law_laid (fun S _ _ _ _ _ _ _ _ _ hr hu h=>bK (CL h) (ab (qs 6 S (br cR)) (ab (qs 7 S (qf (k0:=1) (hr.mono (aE (by decide) hb)) (D_law_part_signs base) (a2 (pv 0) (pv 3)))) (ab (bG bo rfl (aL (EJ (zh rfl rfl z.list rfl z.zip (a2 (pv 7) (qf (k0:=14) (hr.mono (aE (by decide) hb)) (D_law_sizes base) (aG (pv 0) (aG (pv 1) (a3 (pv 2) (pv 3) (pv 4))))))) (uh on af))) (gw rfl (aS (gn 8 S) (aS (gn 9 S) eF))) (ab (bu (i_ fj iK iJ cS (pv 6) (a1 (qf (hk:=ay _) hr Mr (aG (pv 0) (aG (pv 1) (a3 (qf (k0:=3) (hr.mono (aE (by decide) hb)) (D_law_after base) (aG (pv 0) (a3 (pv 1) (pv 2) (pv 8)))) (aB h7 (pv 4) af) (aB eL (pv 5) (pv 9))))))))) (ag (qs 5 S (aB C8 (pv 5) (pv 9)))))) (ab (bu (zi fj PySem.F.slot_list_reverse PySem.F.type_list_reverse rX (pv 6))) (ab (bT (dU (wb (pv 3))) (ag (au (aN (a3 bq (pi rfl rfl z.tuple rfl z.zip (a2 (xt (pv 0) af) (cj dZ (pv 6) dH (cy (uh on af))))) (xl (pv 6) (uh on af)))))) aP) (ag (au (aN (aG bq (a3 (pv 3) (xl (pv 6) af) (pi rfl rfl z.tuple rfl z.zip (a2 (xt (pv 0) af) (cj dZ (pv 6) (cy af) dH)))))))))))))) (by walk_at "b");have A0:=sA 14 0 _ (by decide) (by decide) (fun m e=>by cases e) E0;have B0:=sB 15 0 (by decide) A0;have A1:=sA 16 1 _ (by decide) (by decide) (fun m e=>by cases e;rfl) B0;have B1:=sB 17 1 (by decide) A1;have A2:=sA 18 2 _ (by decide) (by decide) (fun m e=>by cases e;rfl) B1;have B2:=sB 19 2 (by decide) A2;have A3:=sA 20 3 _ (by decide) (by decide) (fun m e=>by cases e;rfl) B2;have B3:=sB 21 3 (by decide) A3;have A4:=sA 22 4 _ (by decide) (by decide) (fun m e=>by cases e;rfl) B3;exact A4
theorem yS(D_law_take:fU P w K mg):uJ P w K mg:=fun base=>dG X G T.f_law_far (fun S _ _ _ _ _ _ _ _ _ hr hu h=>bK (FQ (K:=K) h) (ab (qs 2 S af) (ab (bG bo rfl (i8 rfl z.range (a1 af)) (gn 3 S) (ag (qs 2 S (aB cF (aB wc (pv 2) af) (qf hr (D_law_take base) (a2 (pv 0) af)))))) (ag (au (aB eL (pv 2) (pv 1))))))) (by walk_at "b")
end
theorem Gb(X:K.In h)(G:h.Ns bA mg)(z:Zs mg)(c:Cs K mg C Ck Cd a_STILL a_HUSH a_BLAME a_END)(T:Ts K C Ck Cd):∃f fd,mg "law"=some (.ref f)/\(∀(s:Shared) (v:Value),qA s fd ⟨[v],[]⟩ [("script",v)])/\∀base:Heap,kI P w K mg base CX0 28 f fd ["script"] (sp_law42 K):=by
 have D_law_spread:jI P w K mg:=sZ X G z c T;have D_law_open:sN P w K mg:=xw X G z c T;have D_law_anew:mE P w K mg:=xx X G z c T;have D_law_take:fU P w K mg:=xv X G z c T D_law_spread;have D_law_names:kK P w K mg:=vL X G z c T D_law_take;have D_law_put:o7 P w K mg:=yQ X G z c T;have D_law_draw_doors:fV P w K mg:=mR X G z c T D_law_take D_law_put;have D_law_model:pE P w K mg:=vM X G z c T D_law_anew D_law_take D_law_names D_law_draw_doors;have D_is_name:o8 P w K mg:=yT X G z c T;have D_as_keys:jk P w K mg:=yU X G z c T;have D_first_wrong_name:eO P w K mg:=lf X G z c T D_is_name D_as_keys;have D_door_signs:jK P w K mg:=tj X G z c T;have D_first_wrong_door:eP P w K mg:=lg X G z c T D_as_keys;have D_goals_by_start_and_sign:cG P w K mg:=hJ X G z c T;have D_led_by_still:ij P w K mg:=pR X G z c T;have D_first_led_round:fJ P w K mg:=l7 X G z c T;have D_need_none:iG P w K mg:=vI X G z c T;have D_need_parts:jH P w K mg:=sX X G z c T D_first_wrong_name D_door_signs D_first_wrong_door D_need_none;have D_doors_by_start:fX P w K mg:=mT X G z c T;have D_has_asks_alone:fW P w K mg:=mS X G z c T;have D_Machine:o9 P w K mg C:=yV X G z c T D_as_keys D_goals_by_start_and_sign D_led_by_still D_first_led_round D_need_none D_need_parts D_doors_by_start D_has_asks_alone;have D_law_machine:lJ P w K mg C:=rq X G z c T D_Machine;have M_Machine_rooms:eJ P w K mg C:=oE X G z c T;have M_Machine_led_from:eQ P w K mg C:=lc X G z c T;have D_with_still:gP P w K mg C:=sV X G z c T M_Machine_rooms M_Machine_led_from
 have M_Machine_goals:gC P w K mg C:=oF X G z c T;have M_Machine_is_quiet:eR P w K mg C:=le X G z c T;have D_law_still_on:fI P w K mg:=pS X G z c T;have M_Machine_asks:ik P w K mg C:=pQ X G z c T;have M_Machine_says:fK P w K mg C:=pP X G z c T;have D_first_face:gR P w K mg C:=tf X G z c T M_Machine_rooms D_with_still;have D_face_behind:iS P w K mg C:=rA X G z c T D_with_still M_Machine_goals M_Machine_is_quiet;have D_signs_in_order:fT P w K mg C a_HUSH:=mP X G z c T M_Machine_asks M_Machine_says;have D_steps_at:mD P w K mg C:=xu X G z c T D_face_behind D_signs_in_order;have D_KnownSteps:jL P w K mg Ck:=tm X G z c T;have M_KnownSteps_steps_from:cW P w K mg C Ck:=iO X G z c T D_steps_at;have D_need_depth:gQ P w K mg:=sY X G z c T;have D_product:lb P w K mg:=yO X G z c T;have D_Made:wW P w K mg C Ck Cd:=Ek X G z c T M_Machine_says D_KnownSteps;have M_Made_steps_from:b_ P w K mg C Ck Cd:=l6 X G z c T M_KnownSteps_steps_from
 have M_Made_kinds_at:eI P w K mg C Ck Cd:=oA X G z c T M_Made_steps_from
 have M_Made_count_at:cH P w K mg C Ck Cd:=oC X G z c T D_product M_Made_steps_from M_Made_kinds_at;have M_Made_count_of:gB P w K mg C Ck Cd:=oB X G z c T D_product M_Made_steps_from M_Made_count_at;have D_how_many_made:jQ P w K mg C:=oG X G z c T D_first_face D_need_depth D_Made M_Made_count_at;have D_trial_from:jG P w K mg:=sW X G z c T;have M_Made_trial_at:gA P w K mg C Ck Cd:=oz X G z c T M_Made_steps_from M_Made_kinds_at M_Made_count_at M_Made_count_of D_trial_from
 have D_made_by:uH P w K mg C:=yP X G z c T D_first_face D_need_depth D_Made M_Made_count_at M_Made_trial_at;have D_law_behind:jJ P w K mg:=s_ X G z c T D_law_still_on;have D_law_begin:pF P w K mg:=vO X G z c T D_law_still_on;have D_law_part_signs:cV P w K mg:=mQ X G z c T;have D_law_after:ff P w K mg:=vQ X G z c T D_law_behind;have D_law_asked:iI P w K mg:=vP X G z c T D_law_after;have D_law_times:iH P w K mg:=vJ X G z c T;have D_law_count:kL P w K mg:=vN X G z c T D_law_part_signs D_law_after D_law_asked D_law_times;have D_law_sizes:kJ P w K mg:=vK X G z c T D_law_part_signs D_law_after D_law_count;have D_law_nth:uI P w K mg:=yR X G z c T D_law_part_signs D_law_after D_law_asked D_law_times D_law_sizes;have D_law_far:uJ P w K mg:=yS X G z c T D_law_take;obtain⟨f,a,t⟩:=T.f_law42;obtain⟨oc,od,an,sl,kV,dc,pm,cd,ct,l,c1,k1⟩:=t;have F:=Dv (st:=(eW 66)) l c1 k1;have sc:jF AV CY (bM (eW 66)):=by walk_at "s"
 have S:=sc.nd;exact⟨f,_,dO X G a,fun s v=>.of_eq rfl,fun base=>F.ok (k:=27) sc (by walk_at "l") (fun _ _ _ _ _ _ _ _ hr h=>by have hu:=AB hr;exact bK (CM (C:=C) h) (ab (qs 1 S (qf hr (D_law_open base) (a1 (pv 0)))) (ab (qs 2 S (qf hr (D_law_model base) (a3 (pv 1) af (qf hr (D_law_take base) (a2 (pv 1) af))))) (ab (qs 3 S (qf hr (D_law_machine base) (a1 (pv 2)))) (ab (qs 4 S (xl (br (aG af (aG af (aG af (a3 af af af))))) (qf hr (D_law_take base) (a2 (pv 1) af)))) (ab (qs 5 S i9) (ab (qs 6 S (qf hr (D_law_begin base) (a1 (pv 2)))) (ab (qs 7 S (qf hr (D_law_count base) (aG (pv 2) (a3 (pv 5) (pv 6) (pv 4))))) (ab (bT (ke C6 (qf hr (D_how_many_made base) (a2 (pv 3) (pv 4))) (pv 7)) (ag (au nC)) aP) (ab (bG bo rfl (aL (br (a3 (aB h7 (pv 7) af) (qf hr (D_law_far base) (a2 (pv 1) (pv 7))) af))) (gn 8 S) (ab (qs 9 S (qf hr (D_law_nth base) (aG (pv 2) (aG (pv 5) (a3 (pv 6) (pv 4) (pv 8)))))) (ag (bT (ke (F_ hu) (qf hr (D_made_by base) (a3 (pv 3) (pv 4) (pv 8))) (pv 9)) (ag (au nC)) aP)))) (ag (au nC))))))))))))⟩
theorem all_mk{l:PySem.W.OpenLaw}{fa:Addr}{u_LETTERS:Value}{u_LONGEST_NAME:Value}{u_MOST_WORDS:Value}{u_MOST_ROOMS:Value}{u_MOST_DOORS:Value}{u_DEEPEST:Value}{o_STILL:Obj}{i_STILL:Array Value}{n_STILL:Nat}{o_HUSH:Obj}{i_HUSH:Array Value}{n_HUSH:Nat}{o_BLAME:Obj}{i_BLAME:Array Value}{n_BLAME:Nat}{o_END:Obj}{i_END:Array Value}{n_END:Nat}(X:K.In h)(G:h.Ns bA mg)(hfa:mg "law"=some (.ref fa))
  (aC:bX K bA "Machine"=some (some (.ref C)))
  (pg:qC K C z5=true)
  (hd:tS K C=true)
  (po:wZ K C=true)
  (sa:cP K (.ref C) "__setattr__"=some (some (.builtin "object.__setattr__")))
  (mk:mI K C=true)
  (kc:gb K (.ref C)=true)
  (na1:cP K (.ref C) "own_asks"=some none)
  (na2:cP K (.ref C) "own_says"=some none)
  (na3:cP K (.ref C) "own_rooms"=some none)
  (na4:cP K (.ref C) "own_doors"=some none)
  (na5:cP K (.ref C) "leaving"=some none)
  (na6:cP K (.ref C) "quiet"=some none)
  (na7:cP K (.ref C) "sign_goals"=some none)
  (na8:cP K (.ref C) "still_led"=some none)
  (aksc:bX K bA "KnownSteps"=some (some (.ref Ck)))
  (pgksc:qC K Ck z5=true)
  (hdksc:tS K Ck=true)
  (poksc:wZ K Ck=true)
  (saksc:cP K (.ref Ck) "__setattr__"=some (some (.builtin "object.__setattr__")))
  (mkksc:mI K Ck=true)
  (kcksc:gb K (.ref Ck)=true)
  (nksc1:cP K (.ref Ck) "machine"=some none)
  (nksc2:cP K (.ref Ck) "known"=some none)
  (adc:bX K bA "Made"=some (some (.ref Cd)))
  (pgdc:qC K Cd z5=true)
  (hddc:tS K Cd=true)
  (podc:wZ K Cd=true)
  (sadc:cP K (.ref Cd) "__setattr__"=some (some (.builtin "object.__setattr__")))
  (mkdc:mI K Cd=true)
  (kcdc:gb K (.ref Cd)=true)
  (ndc1:cP K (.ref Cd) "says_signs"=some none)
  (ndc2:cP K (.ref Cd) "known_steps"=some none)
  (ndc3:cP K (.ref Cd) "known_counts"=some none)
  (z_all:bX K bA "all"=some none)
  (z_dict:bX K bA "dict"=some none)
  (z_divmod:bX K bA "divmod"=some none)
  (z_enumerate:bX K bA "enumerate"=some none)
  (z_len:bX K bA "len"=some none)
  (z_list:bX K bA "list"=some none)
  (z_range:bX K bA "range"=some none)
  (z_reversed:bX K bA "reversed"=some none)
  (z_sum:bX K bA "sum"=some none)
  (z_tuple:bX K bA "tuple"=some none)
  (z_zip:bX K bA "zip"=some none)
  (g_LETTERS:bX K bA "LETTERS"=some (some u_LETTERS))
  (r_LETTERS:RelV (.str "abcdefghijklmnopqrstuvwxyz") u_LETTERS)
  (g_LONGEST_NAME:bX K bA "LONGEST_NAME"=some (some u_LONGEST_NAME))
  (r_LONGEST_NAME:RelV (.int 8) u_LONGEST_NAME)
  (g_MOST_WORDS:bX K bA "MOST_WORDS"=some (some u_MOST_WORDS))
  (r_MOST_WORDS:RelV (.int 4) u_MOST_WORDS)
  (g_MOST_ROOMS:bX K bA "MOST_ROOMS"=some (some u_MOST_ROOMS))
  (r_MOST_ROOMS:RelV (.int 150) u_MOST_ROOMS)
  (g_MOST_DOORS:bX K bA "MOST_DOORS"=some (some u_MOST_DOORS))
  (r_MOST_DOORS:RelV (.int 2000) u_MOST_DOORS)
  (g_DEEPEST:bX K bA "DEEPEST"=some (some u_DEEPEST))
  (r_DEEPEST:RelV (.int 4) u_DEEPEST)
  (g_STILL:bX K bA "STILL"=some (some (.ref a_STILL)))
  (l_STILL:K.lookup a_STILL=some o_STILL)
  (c_STILL:o_STILL.cls=.type "tuple")
  (d_STILL:o_STILL.data=.seq i_STILL n_STILL)
  (s_STILL:i_STILL.size<=ai)
  (v_STILL:aQ (aX.map V.str) i_STILL.toList)
  (g_HUSH:bX K bA "HUSH"=some (some (.ref a_HUSH)))
  (l_HUSH:K.lookup a_HUSH=some o_HUSH)
  (c_HUSH:o_HUSH.cls=.type "tuple")
  (d_HUSH:o_HUSH.data=.seq i_HUSH n_HUSH)
  (s_HUSH:i_HUSH.size<=ai)
  (v_HUSH:aQ (bJ.map V.str) i_HUSH.toList)
  (g_BLAME:bX K bA "BLAME"=some (some (.ref a_BLAME)))
  (l_BLAME:K.lookup a_BLAME=some o_BLAME)
  (c_BLAME:o_BLAME.cls=.type "tuple")
  (d_BLAME:o_BLAME.data=.seq i_BLAME n_BLAME)
  (s_BLAME:i_BLAME.size<=ai)
  (v_BLAME:aQ (k7.map V.str) i_BLAME.toList)
  (g_END:bX K bA "END"=some (some (.ref a_END)))
  (l_END:K.lookup a_END=some o_END)
  (c_END:o_END.cls=.type "tuple")
  (d_END:o_END.data=.seq i_END n_END)
  (s_END:i_END.size<=ai)
  (v_END:aQ (kC.map V.str) i_END.toList)
  (T:Ts K C Ck Cd)
 :∃fd:jM,(∀(s:Shared) (v:Value),qA s fd ⟨[v],[]⟩ [("script",v)])/\∀base:Heap,K.In base->base.Ns bA mg->kI l.prog w K mg base CX0 28 fa fd ["script"] (sp_law42 K):=by
 have z:Zs mg:=⟨gW X G z_all,gW X G z_dict,gW X G z_divmod,gW X G z_enumerate,gW X G z_len,gW X G z_list,gW X G z_range,gW X G z_reversed,gW X G z_sum,gW X G z_tuple,gW X G z_zip⟩;have c:Cs K mg C Ck Cd a_STILL a_HUSH a_BLAME a_END:=⟨⟨_,dO X G g_LETTERS,r_LETTERS⟩,⟨_,dO X G g_LONGEST_NAME,r_LONGEST_NAME⟩,⟨_,dO X G g_MOST_WORDS,r_MOST_WORDS⟩,⟨_,dO X G g_MOST_ROOMS,r_MOST_ROOMS⟩,⟨_,dO X G g_MOST_DOORS,r_MOST_DOORS⟩,⟨_,dO X G g_DEEPEST,r_DEEPEST⟩,⟨_,dO X G g_STILL,rfl⟩,⟨_,dO X G g_HUSH,rfl⟩,⟨_,dO X G g_BLAME,rfl⟩,⟨_,dO X G g_END,rfl⟩,qi l_STILL c_STILL d_STILL s_STILL v_STILL,qi l_HUSH c_HUSH d_HUSH s_HUSH v_HUSH,qi l_BLAME c_BLAME d_BLAME s_BLAME v_BLAME,qi l_END c_END d_END s_END v_END,⟨⟨pg,hd,po,sa⟩,na1,na2,na3,na4,na5,na6,na7,na8⟩,dO X G aC,mk,kc,⟨⟨pgksc,hdksc,poksc,saksc⟩,nksc1,nksc2⟩,dO X G aksc,mkksc,kcksc,⟨⟨pgdc,hddc,podc,sadc⟩,ndc1,ndc2,ndc3⟩,dO X G adc,mkdc,kcdc⟩;obtain⟨f,fd,e,b,k⟩:=Gb (P:=l.prog) (w:=w) X G z c T;have e0:=hfa.symm.trans e;cases e0;exact⟨fd,b,fun base _ _=>k base⟩
end
end Mum
namespace PySem.W.Fast
def tw17178027362884486471:=0
def tw11682923315145982848:=0
def tw11195842220840504443:=0
def tw15565805179188371342:=0
def tw2701600639410166277:=0
def tw2503501634856473673:=0
def tw17363849251474286879:=0
def tw2752554261627553860:=0
def tw7230879064417855827:=0
def tw10281623189444261002:=0
def tw18426466124025343726:=0
def tw14417415611125457816:=0
def tw6672602938432747287:=0
def tw12858395931831132489:=0
def tw159434460968026904:=0
def tw7304204334259395146:=0
def tw2286307117599984611:=0
def tw14900036344671975901:=0
def tw4934723653146285634:=0
def tw11202703898088910984:=0
def tw15530279922369266540:=0
def tw727351608023772989:=0
def tw8094267074712275770:=0
def tw707092021356455731:=0
def tw13974537888363710318:=0
def tw17369093802455899317:=0
def tw17927972840179514716:=0
def tw6524417444680897948:=0
def tw17583117965989040955:=0
def tw8719471199686450156:=0
def tw9622895223509684592:=0
def tw4128956177753620602:=0
def tw9216898549220025628:=0
def tw6426275204679865947:=0
def tw1357454901952190971:=0
def tw18138538047437173586:=0
def tw12262907939733695869:=0
def tw8706236162611827987:=0
def tw9559976058733115223:=0
def tw12525682202479976754:=0
def tw13457497858507383092:=0
def tw4246457803445429886:=0
def tw7915442917721071306:=0
def tw14814047450739941940:=0
def tw13472364731179290254:=0
def tw14214184254022083456:=0
def tw6191494428501698377:=0
def tw5166914144119391801:=0
def tw9545306652440860722:=0
def tw2618034718779832116:=0
def tw18194488900064188557:=0
def tw18236010322089301812:=0
def tw10152471021403861213:=0
def tw6648491020499419376:=0
def tw18145273718595036721:=0
def tw5249932046887296821:=0
def tw6650416744786127463:=0
def tw6179060302602910700:=0
def tw15036229626728247146:=0
def tw9116614544915038941:=0
def tw1561968335669240452:=0
def tw7038901157318422761:=0
def tw10773465974796889839:=0
def tw11167082748819161273:=0
def tw2284544779940232432:=0
def tw16481705163815851557:=0
def tw6731217828504912012:=0
def tw14273932975846163687:=0
def tw17979890653105331939:=0
def tw13925782228090121562:=0
def tw3575434246919930995:=0
def tw15187930358983737151:=0
def tw1455740122815107454:=0
def tw13604081451351204518:=0
def tw1021737577778214450:=0
def tw2407270419898616989:=0
def tw284655965365219959:=0
def tw5024506814089152201:=0
def tw16767517565098133121:=0
def tw1462962007921848775:=0
def tw5009073058396141207:=0
def tw7456106554596638130:=0
def tw17635765145420907832:=0
def tw12782914545803478812:=0
def tw8995641115122527746:=0
def tw5874081162867975207:=0
def tw11260200525154595834:=0
def tw16927598301658247730:=0
def tw16667226413823013801:=0
def tw13607316519785224379:=0
def tw2704960072159481090:=0
def tw15472002080753193908:=0
def tw333187432560792489:=0
def tw4501544950796401770:=0
def tw8906146601119781540:=0
def tw458043117600467701:=0
def tw7778110868468366942:=0
def tw1783075714551813626:=0
def tw638693047794253150:=0
def tw8536834017678102394:=0
def tw1292228606470634323:=0
def tw8224321217599858979:=0
def tw1213381975990485631:=0
def tw2964202315428627477:=0
def tw13478242170700916878:=0
def tw15466667275569071930:=0
def tw16796626327739744021:=0
def tw11168339186125478062:=0
def tw10413639777132302366:=0
def tw12104018312090474778:=0
def tw7254094593464614820:=0
def tw4802654590889110083:=0
def tw3155222876087158008:=0
def tw12617610316882801668:=0
def tw13129439059485063323:=0
def tw12543871633067438998:=0
def tw11449059087790738292:=0
def tw3267760420698984906:=0
def tw3750463667132273337:=0
def tw1239727271905200963:=0
def tw1116422520929523757:=0
def tw768513826547458187:=0
def tw2592780637076274789:=0
def tw7747805645956284259:=0
def tw18324733490584385588:=0
def tw10471903790737750930:=0
def tw6463588448390035927:=0
def tw15468913145656483125:=0
def tw10108647856219751125:=0
def tw11674163826010388833:=0
def tw15478477168604876963:=0
def tw15112781217407513832:=0
def tw7438469180475462429:=0
def tw12630131823072238575:=0
def tw8416644736516647609:=0
def tw1267980075282803113:=0
def tw6636564906036960609:=0
def tw6523074901781780208:=0
def tw11213785674319225439:=0
def tw15498462165452397044:=0
def tw13555031990911198146:=0
def tw16358431672328283480:=0
def tw15953307749504685540:=0
def tw6271475865975935932:=0
def tw8456520053912929120:=0
def tw1777782092260262709:=0
def tw10942095015900974255:=0
def tw3120436866372949645:=0
def tw678747888000080157:=0
def tw1582284001207569355:=0
def tw4797484724419666705:=0
def tw2843109341697683820:=0
def tw5170339843008283662:=0
def tw17511459996553326625:=0
def tw13746506348618618724:=0
def tw12481891710440346644:=0
def tw6573276113552476650:=0
def tw17374453121240887161:=0
def tw15685661982414408645:=0
def tw12358018352382045909:=0
def tw1721281085329645003:=0
def tw12047167549513072057:=0
def tw11096944749049011447:=0
def tw13711635495194630898:=0
def tw9288994749634881541:=0
def tw6607012773729773822:=0
def tw15406722042745899797:=0
def tw15869652187177477314:=0
def tw3316581472058405314:=0
def tw4138255661301420649:=0
def tw15011292793332354683:=0
def tw2944775425385920101:=0
def tw12164985876466522281:=0
def tw15666272048654876587:=0
def tw7620793129541579444:=0
def tw13519359750953178921:=0
def tw8849579287917434080:=0
def tw13306363575319481555:=0
def tw7430789205016895040:=0
def tw4718671258036588899:=0
def tw8369965164173715412:=0
def tw6505843962790533261:=0
def tw9177063214220343280:=0
def tw16991742172487253768:=0
def tw2133628231413875425:=0
def tw14560368812266684945:=0
def tw17196007744769377947:=0
def tw4503977676179091522:=0
def tw4916664093443525469:=0
def tw16022232406162305394:=0
def tw11129009648907912716:=0
def tw926148137141953020:=0
def tw16896820793342636003:=0
def tw12328244333133110588:=0
def tw6696239443379010450:=0
def tw1781136021972700771:=0
def tw7241963138226500148:=0
def tw5424468916108690377:=0
def tw17947495266101576105:=0
def tw17037916414497989178:=0
def tw15701998035823543757:=0
def tw15814550525152129871:=0
def tw8973941928098562646:=0
def tw16111700330122564766:=0
def tw16454320488723980263:=0
def tw7684543256917945723:=0
def tw1086231333886370280:=0
def tw11690511689501775823:=0
def tw17924172558107452870:=0
def tw2748225970943069084:=0
def tw17353951869157163668:=0
def tw6571504508140747778:=0
def tw16679710010450275887:=0
def tw5850434341430197448:=0
def tw5313486516798118348:=0
def tw6278599545793996003:=0
def tw7929035077877756255:=0
def tw14032491943190026963:=0
def tw7567684502411446126:=0
def tw17274155620378634643:=0
def tw1606858882507844881:=0
def tw2197296712401319685:=0
def tw1633837356301761479:=0
def tw4171778751065676829:=0
def tw6847669229069728019:=0
def tw17420328434143272713:=0
def tw3120952455608472922:=0
def tw11796760341543967258:=0
def tw12803680819600672543:=0
def tw15835762613383524094:=0
def tw3242396290979344162:=0
def tw11499588431937742879:=0
def tw5116118014953009632:=0
def tw6192173161183701769:=0
def tw5127660930203184637:=0
def tw9574672420242908989:=0
def tw759412460454307872:=0
def tw15764335181737691286:=0
def tw12193048985542792150:=0
def tw6983444294940781729:=0
def tw5493270172048302096:=0
def tw1726001671514734913:=0
def tw14866608164480179876:=0
def tw7208529267971795736:=0
def tw8774966875551912886:=0
def tw17007662163970521906:=0
def tw16111433061916888357:=0
def tw8945622052640787815:=0
def tw11753228198367564445:=0
def tw10168938311324463123:=0
def tw10732943895270626715:=0
def tw8412848813607862165:=0
def tw1253739812349311696:=0
def tw10587820795560363830:=0
def tw14307248966545205450:=0
def tw1943740148959320438:=0
def tw11250378590102394423:=0
def tw13139821474977735291:=0
def tw7484536827481666336:=0
def tw5184181737743704983:=0
def tw11558243910722945047:=0
def tw18389654327371598330:=0
def tw14078405412386233861:=0
def tw16952921828009421500:=0
def tw10904544410820394406:=0
def tw5569669644508473803:=0
def tw10024690863320219542:=0
def tw13365249211082688976:=0
def tw16785969741684583760:=0
def tw12244860810315026259:=0
def tw4763237721794349330:=0
def tw18400192621052900777:=0
def tw13984140262941277768:=0
def tw10182754386145676887:=0
def tw14861093710918268707:=0
def tw17319544429956976650:=0
def tw18329266716800792753:=0
def tw4147969542287876943:=0
def tw7126845436650994839:=0
def tw10344075592362451543:=0
def tw7081870795549741242:=0
def tw9764896540039907558:=0
def tw4380133959750177451:=0
def tw2096466439773698097:=0
def tw10674111355064279765:=0
def tw9216414977409250208:=0
def tw468998811746906205:=0
def tw11228348730666926408:=0
def tw1950363272814305794:=0
def tw1341726139166562948:=0
def tw16822132334437100076:=0
def tw5003362408636103751:=0
def tw14607108735398796800:=0
def tw15564459649715218536:=0
def tw11850648439548963815:=0
def tw1815961652546840750:=0
def tw493595067058763348:=0
def tw11620711432874346275:=0
def tw7152083754975031614:=0
def tw12385393539013358658:=0
def tw10136173413162503352:=0
def tw2842390746216706104:=0
def tw10629985065563346185:=0
def tw1371145935570274049:=0
def tw3282068817507933930:=0
def tw5419605318344994553:=0
def tw11693349123036999740:=0
def tw2589904495723573826:=0
def tw11822371884123428693:=0
def tw16450674548341726627:=0
def tw18267432519354080924:=0
def tw9938606235356571196:=0
def tw1409542804488399366:=0
def tw11451289143580856556:=0
def tw15489093387576722214:=0
def tw5446518180400347138:=0
def tw5839554982181637042:=0
def tw17597830631611770304:=0
def tw2578375727499079009:=0
def tw10471931197255429117:=0
def tw11853236270415678326:=0
def tw7176991379754676243:=0
def tw9279867412248710273:=0
def tw9304256114194788704:=0
def tw6043942266357373137:=0
def tw11690057665860959708:=0
def tw11255433656322693781:=0
def tw3175693240313209216:=0
def tw2707180558938152970:=0
def tw9304876208304886499:=0
def tw10621453576649702745:=0
def tw4882502416430032239:=0
def tw13818155956387418673:=0
def tw6976298927993815797:=0
def tw16592833394752473705:=0
def tw3002810648367049980:=0
def tw8493314291808163699:=0
def tw12620312663717050510:=0
def tw15634920351484120411:=0
def tw5570567403349644073:=0
def tw7600915614794717268:=0
def tw11864935912717496821:=0
def tw16363744076247249222:=0
def tw12743368878763633403:=0
def tw8283275968486060621:=0
def tw15768196885196618533:=0
def tw11522231599021222947:=0
def tw8382659433414249901:=0
def tw15444739033338092925:=0
def tw11690330205347351:=0
def tw16512520462365032286:=0
def tw2974599242615836748:=0
def tw10228488024625582738:=0
def tw9397652659677352428:=0
def tw3437397942141316973:=0
def tw3804650661486655458:=0
def tw5335824323787978597:=0
def tw3861112572372688896:=0
def tw4192242894362429214:=0
def tw8239956935977229805:=0
def tw12386139445794146705:=0
def tw15398524525463259472:=0
def tw14048852631994754304:=0
def tw15982425367121424182:=0
def tw16850133116918342460:=0
def tw10061191699868436917:=0
def tw17854065498341560210:=0
def tw1700868390780088806:=0
def tw17033001412889041087:=0
def tw10303918562250614080:=0
def tw7258650693407086349:=0
def tw13225148043969272494:=0
def tw12788897980184800328:=0
def tw3154305757612368396:=0
def tw18072495285585829854:=0
def tw8113403786393097291:=0
def tw11684394241628469556:=0
def tw16863541231834056126:=0
def tw17733501586744852461:=0
def tw4757005589603834946:=0
def tw1367087648741454885:=0
def tw15518437450688273730:=0
def tw8494401356557955523:=0
def tw4278368374306397476:=0
def tw4774598301531154987:=0
end PySem.W.Fast
open PySem PySem.W PyProof.Rows
set_option maxRecDepth 100000 in
set_option maxHeartbeats 0 in
theorem PySem.Challenge.cw_mumtrial_k42_made_by_number_holds : PySem.Challenge.rw_mumtrial_k42_made_by_number.Holds := by
 w_on;o_law;k_head;(case hw=>w_witness2)
 k_fill
 refine L2.walk_ofK (l:=PySem.Challenge.rw_mumtrial_k42_made_by_number) (n:=63) (k:=28) (x:="script") (CX:=L2.CX0) (sp:=Mum.sp_law42) rfl (by decide) rfl ⟨rfl,by decide,by decide⟩ (fun w h Y=>PySem.W.kIn_of Y) ?F (fun _ _ a ns hl _ hS=>⟨a,ns,rfl,hS,hl,fun _=>rfl⟩) (fun _ _ _ _ z=>z)
 case F =>
  intro w mg fa h KX G hmg;refine' Mum.all_mk KX G hmg ?aC ?pg ?hd ?po ?sa ?mk ?kc ?na1 ?na2 ?na3 ?na4 ?na5 ?na6 ?na7 ?na8 ?aksc ?pgksc ?hdksc ?poksc ?saksc ?mkksc ?kcksc ?nksc1 ?nksc2 ?adc ?pgdc ?hddc ?podc ?sadc ?mkdc ?kcdc ?ndc1 ?ndc2 ?ndc3 ?z_all ?z_dict ?z_divmod ?z_enumerate ?z_len ?z_list ?z_range ?z_reversed ?z_sum ?z_tuple ?z_zip ?g_LETTERS ?r_LETTERS ?g_LONGEST_NAME ?r_LONGEST_NAME ?g_MOST_WORDS ?r_MOST_WORDS ?g_MOST_ROOMS ?r_MOST_ROOMS ?g_MOST_DOORS ?r_MOST_DOORS ?g_DEEPEST ?r_DEEPEST ?g_STILL ?l_STILL ?c_STILL ?d_STILL ?s_STILL ?v_STILL ?g_HUSH ?l_HUSH ?c_HUSH ?d_HUSH ?s_HUSH ?v_HUSH ?g_BLAME ?l_BLAME ?c_BLAME ?d_BLAME ?s_BLAME ?v_BLAME ?g_END ?l_END ?c_END ?d_END ?s_END ?v_END ?T
  (case aC|pg|hd|po|sa|mk|kc|na1|na2|na3|na4|na5|na6|na7|na8|aksc|pgksc|hdksc|poksc|saksc|mkksc|kcksc|nksc1|nksc2|adc|pgdc|hddc|podc|sadc|mkdc|kcdc|ndc1|ndc2|ndc3|z_all|z_dict|z_divmod|z_enumerate|z_len|z_list|z_range|z_reversed|z_sum|z_tuple|z_zip|g_LETTERS=>k_is)
  (case r_LETTERS=>exact⟨_,rfl⟩)
  (case g_LONGEST_NAME=>k_is)
  (case r_LONGEST_NAME=>exact⟨_,rfl⟩)
  (case g_MOST_WORDS=>k_is)
  (case r_MOST_WORDS=>exact⟨_,rfl⟩)
  (case g_MOST_ROOMS=>k_is)
  (case r_MOST_ROOMS=>exact⟨_,rfl⟩)
  (case g_MOST_DOORS=>k_is)
  (case r_MOST_DOORS=>exact⟨_,rfl⟩)
  (case g_DEEPEST=>k_is)
  (case r_DEEPEST=>exact⟨_,rfl⟩)
  (case g_STILL|l_STILL=>k_is)
  (case c_STILL|d_STILL=>rfl)
  (case s_STILL=>decide)
  (case v_STILL=>exact .cons ⟨_,rfl⟩ .nil)
  (case g_HUSH|l_HUSH=>k_is)
  (case c_HUSH|d_HUSH=>rfl)
  (case s_HUSH=>decide)
  (case v_HUSH=>exact .cons ⟨_,rfl⟩ .nil)
  (case g_BLAME|l_BLAME=>k_is)
  (case c_BLAME|d_BLAME=>rfl)
  (case s_BLAME=>decide)
  (case v_BLAME=>exact .cons ⟨_,rfl⟩ .nil)
  (case g_END|l_END=>k_is)
  (case c_END|d_END=>rfl)
  (case s_END=>decide)
  (case v_END=>exact .cons ⟨_,rfl⟩ .nil)
  (case T=>constructor<;>first|(refine' Mum.fnG_mk ?a ?l ?c ?k;(case a=>k_is);(case l=>k_is);(case c=>k_is);(case k=>k_is))|(refine' Mum.fnM_mk ?a ?i ?l ?c ?k;(case a=>k_is);(case i=>k_is);(case l=>k_is);(case c=>k_is);(case k=>k_is)))
