
import PyProof.Rows.All
import Wide.All
import OpenK.AllK
import Wide.FinOn
import Lean
import PyProof.EqAt
import PyProof.EqKinds
import PyProof.TupleCall
import PyProof.NeKinds
import PyProof.DictIter
import PyProof.DictWalks
import PyProof.RaisesMany
import PyProof.RulesAs
import PyProof.NsDelKeeps
import PyProof.InstStoreFacts
import PyProof.ExcClass3
import PyProof.ExcInit
import KE.KTryMore
import PyProof.AutoSeq1
import PyProof.WalkInts
import PyProof.DictItems
import PyProof.DictItemsLoops
import KE.KPairComp
import PyProof.DictValues
import PyProof.SumAny
import PySem.Challenge.RW_mumtrial_k24_papers_judged
noncomputable section
open PySem renaming Program->bR,reduceHash->so,wpAny_bind->ak,wpAny_specialOf->xQ,wpAny_call_entry->mS,wpAny_tupleItemsOf->AL,wpAny_forIn_list->tG,wpAny_pure->ao,wpAny_rule->kj,Builtin->cw,isInstance->zT,wpAny_isInstance->tF,isSubtype_tuple_tuple->zQ,wpAny_holding->iG,wpAny_truthy_bool->mU,eqIsQuiet->zO,eqIsQuiet_byValue->zN,wpAny_seqItems->j_,HeapKind->zM,sizeLine->ah,sysModules->gG,mainGlobals->b_,bootBuiltins->iF,starEach->aQ,wpAny_mono->iD,compareOp->eM,behindInMarks->jW,standAt->pc,holding->j9,wpAny_execs_nil->zK,swapsWith->pb,assignEach->tz,wpAny_standAt->zJ,wpAny_passesOwn->qa,letOwnedTupleGo->zI,wpAny_pyIter_list->wt,wpAny_pyIter_tuple->zG,foldedSetIterable->wr,binaryOp->lK,sizeLine_eq->p9,getMethod->o_,codeAny->zzl90,attributeBase->tw,FuncData->gA,BindsTo->l6,codeAny_mono->u1,wpAny_Call_Name_kw->uZ,callWith->ow,backToKw->jw,keywordEach->jv,NameKind->fV,mem_of_lookup->qx,wpAny_field->dY,getItem->fU,wpAny_callSpecial?_slot->ju,wpAny_typeOf->on,wpAny_newObj_type->fB,seqIndex?->uS,subscripted->uR,sliceBounds->lY,Keyword->om,call_meets->qt,valueAt->lX,call_meetsIn->qp,callerA->kh,DictEntry->jq,ZipApart->n_,wpAny_pyIter_zip->uJ,wpAny_setField->uH,firstArgMember->uF,wpAny_setField_rec->n8,wpAny_onRaise->uD,wpAny_attempt->uC,wpAny_dictEntries->ux,wpAny_typeNameOfWhole_keyiter->uv,wpAny_typeNameOf_keyiter->uu
open PySem.Builtin.Tuple renaming tupleHashOf->lC,tupleItemsOf->BS,tupleExact->km
open PySem.F renaming slot_tuple_hash->wu,slot_tuple_eq->tE,slot_dict_get->oh,entry_dict_get->uM,slot_tuple_iterator_next->uI,slot_zip_next->uB,slot_dict_keyiterator_next->qh,plainAttrs_list->fz,slot_list_append->hW,type_list_append->hV
open Bool renaming false_ne_true->fR,not_true->pf,false_eq_true->kb,false_and->zH,eq_iff_iff->p_,and_eq_true->lZ,and_false->uO,true_and->qb
open Array renaming forIn_toList->zU,length_toList->j8,getElem?_toList->uN
open Nat renaming add_assoc->ph,le_refl->aH,lt_of_lt_of_le->hU,lt_irrefl->pd,ne_of_lt->cR,le_trans->bh,le_of_lt->fh,ne_of_gt->gE,zero_le->dL,le_succ->oq,sub_zero->uw,min_eq_left->lU,mod_lt->qg
open List renaming append_nil->dv,zip_cons_cons->zP,range->hJ,mem_filter->dO,filterMap_cons->tD,mem_cons_self->fx,mem_cons_of_mem->fw,mem_cons->cv,mem_append->bN,mem_append_left->dq,getElem?_eq_some_iff->cE,mem_append_right->d_,length_cons->em,lookup->j7,map_cons->bI,length_map->ai,nodup_cons->iU,length_take->aD,getElem?_append_left->qw,getElem?_map->cO,mem_of_getElem?->bY,length_append->aO,size_toArray->bE,length_drop->dX,find?_cons->ki,any_cons->oj,nodup_nil->qq,lookup_cons->ia,forIn_cons->og,all_eq_true->uK,mem_map->aX,not_mem_nil->qk,any_toArray->uA,map_congr_left->qj,drop_zero->n6,take_length->bf,getElem?_eq_getElem->h_,all_map->uy,mem_singleton->cz,map_append->aB,nodup_append->c9,drop_of_length_le->n5,length_reverse->ut,map_map->ke,map_take->lV,map_drop->nX,take_of_length_le->nW,mem_of_mem_take->fT,mem_of_mem_drop->ur,append_assoc->eN,nodup_iff_pairwise_ne->uo,mem_map_of_mem->nV,getElem?_of_mem->nU,take_append_drop->um,take_zero->uk,length_filter_le->cF,filter_append->lT,flatMap_append->uj,flatMap_cons->nT
open Option.some renaming inj->ef
open PySem.W renaming instObj->pe,lookIn->zE,plainGet->wq,hasDictIn->zD,findIn->eR,isFn->wo,makesIn->wn,emptyDict->mR,keepIn->i8,kitOne->mQ,kia_one->fW,fnOf->ib,codeIn->l5,nsIn->cy,mg_of->hZ,mg_none_of->fy
open PySem.Heap renaming lt_size->bo,SameBut->iE,get?_push_of_some->bC,get?_push_size->c8,size_push->o9,get?_update_self->uQ
open PyProof.Rows renaming AllBare->mT,callWith_type1->zF,slicePart_none->uX,slot_tuple_getitem->jr,Subscript_->uV,subscriptTail->uU,IntsAre->qo
open Ne renaming symm->gF
open False renaming elim->i9
open True renaming intro->iC
open PySem.Calls renaming spliced_cons->u2,callWith_builtin->uP
open Option renaming isSome_iff_exists->uY,map_some->qr
open Int renaming toNat_natCast->ko,emod_nonneg->nZ,emod_lt_of_pos->nY,eq_ofNat_of_zero_le->gy
open PySem.Builtin.Slice renaming sliceAdjust->oo,slicePlaces->kn,sliceApplied->uW
open PySem.Str renaming ofString->js
open PyProof.Rows.IsTup renaming new->uT
open PySem.Obj renaming mapSeq->qv,data_mapFields->uG
open PySem.Paired renaming snoc->fA
open ForInStep renaming yield->uL
open PySem.NameKind renaming free->kg
open PySem.Builtin.SmallTypes renaming nextOf->kf,ownedTupleIsFree->uE
open PySem.Heap.SameBut renaming update->lW
open PySem.SeqAt renaming EqAt->bj
open PySem.Builtin.Str renaming strSliceIndices->qi
open PySem.Txt renaming join->uz
open Classical renaming not_not->ka
open PySem.PassesOwn renaming never->bx
theorem Q0:0<=PySem.sizeLine:=by decide
theorem Q1:1<=PySem.sizeLine:=by decide
theorem Q2:2<=PySem.sizeLine:=by decide
theorem Q3:3<=PySem.sizeLine:=by decide
theorem Q4:4<=PySem.sizeLine:=by decide
theorem Q6:6<=PySem.sizeLine:=by decide
theorem zzr0{p:Prop}[Decidable p](h:¬p):decide p=false:=decide_eq_false h
theorem zzr1{p:Prop}[Decidable p](h:p):decide p=true:=decide_eq_true h
abbrev Za:=PySem.W.Frag
abbrev Zb:=List PySem.Str
abbrev Zc:=PySem.Value->PySem.Shared->Prop
abbrev Zd:=List (PySem.Addr×PySem.Obj)
abbrev Ze:=List PySem.Addr
abbrev Zf:=List PySem.Value
section
set_option Elab.async false
set_option linter.all false
set_option maxRecDepth 100000
set_option maxHeartbeats 4000000
namespace L2
open PySem PySem.Spec PyProof.Rows
open Sem (wp)
abbrev d6:=Sum Int Str
def cq:d6->Value->Bool
 |.inl k,v=>Value.isInt k v
 |.inr x,v=>Value.isStrOf x v
def FL(w:World):d6->Int
 |.inl k=>hashInt k
 |.inr x=>hashStr w x
theorem av:∀{k:d6}{v:Value},cq k v=true->(∃i t,k=Sum.inl i/\v=Value.int i t)∨(∃x t,k=Sum.inr x/\v=Value.str x t)
 |.inl i,v,h=>by
  obtain⟨t,e⟩:=Value.isInt_shape (k:=i) (v:=v) h;exact .inl ⟨i,t,rfl,e⟩
 |.inr x,v,h=>by
  obtain⟨t,e⟩:=Value.isStrOf_shape (x:=x) (v:=v) h;exact .inr ⟨x,t,rfl,e⟩
theorem oR(i:Int)(t:Tok):cq (.inl i) (.int i t)=true:=by simp[cq,Value.isInt]
theorem lm(x:Str)(t:Tok):cq (.inr x) (.str x t)=true:=by simp[cq,Value.isStrOf]
theorem vJ(a b:Int):decide ((Sum.inl a:d6)=Sum.inl b)=(a==b):=by
 by_cases e:a=b
 ·subst e;simp
 ·have h:¬(Sum.inl a:d6)=Sum.inl b:=fun q=>e (Sum.inl.inj q);rw[zzr0 h];exact(beq_eq_false_iff_ne.mpr e).symm
theorem vG(a b:Str):decide ((Sum.inr a:d6)=Sum.inr b)=decide (a=b):=by
 by_cases e:a=b
 ·subst e;simp
 ·have h:¬(Sum.inr a:d6)=Sum.inr b:=fun q=>e (Sum.inr.inj q);rw[zzr0 h,zzr0 e]
theorem vI(a:Int)(b:Str):decide ((Sum.inl a:d6)=Sum.inr b)=false:=zzr0 (fun q=>nomatch q)
theorem vH(a:Str)(b:Int):decide ((Sum.inr a:d6)=Sum.inl b)=false:=zzr0 (fun q=>nomatch q)
def bT(prog:bR)(w:World):PySem.KeyKind prog w d6 where
 is:=cq
 hash:=FL w
 inj:=fun v a b ha hb=>by
  rcases av ha with⟨i,t,rfl,rfl⟩|⟨x,t,rfl,rfl⟩
  ·rcases av hb with⟨j,u,rfl,e⟩|⟨y,u,rfl,e⟩
   ·injection e with e1 _;rw[e1]
   ·exact nomatch e
  ·rcases av hb with⟨j,u,rfl,e⟩|⟨y,u,rfl,e⟩
   ·exact nomatch e
   ·injection e with e1 _;rw[e1]
 byValue:=fun k v h=>by
  rcases av h with⟨i,t,rfl,rfl⟩|⟨x,t,rfl,rfl⟩<;>rfl
 pyHash:=fun hv h=>by
  rcases av hv with⟨i,t,rfl,rfl⟩|⟨x,t,rfl,rfl⟩
  ·exact wpAny_pyHash_int h
  ·exact wpAny_pyHash_str h
 eqBool:=fun hu hv h=>by
  rcases av hu with⟨i,t,rfl,rfl⟩|⟨x,t,rfl,rfl⟩
  ·rcases av hv with⟨j,u,rfl,rfl⟩|⟨y,u,rfl,rfl⟩
   ·rw[vJ]at h;exact wpAny_eqBool_int h
   ·rw[vI]at h;exact bj.int_str i t y u _ _ _ _ h
  ·rcases av hv with⟨j,u,rfl,rfl⟩|⟨y,u,rfl,rfl⟩
   ·rw[vH]at h;exact bj.str_int x t j u _ _ _ _ h
   ·rw[vG]at h;exact wpAny_eqBool_str h
 «strs»:=fun k x t v h=>by
  rcases av h with⟨i,u,rfl,e⟩|⟨y,u,rfl,e⟩
  ·exact nomatch e
  ·injection e with e1 _;subst e1;cases v<;>rfl
theorem xj(prog:bR)(w:World)(i:Int)(t:Tok):(bT prog w).is (.inl i) (.int i t)=true:=oR i t
theorem xi(prog:bR)(w:World)(x:Str)(t:Tok):(bT prog w).is (.inr x) (.str x t)=true:=lm x t
end L2
namespace L2
open PySem PySem.Spec PyProof.Rows
open Sem (wp)
inductive TK where
 |k (a:d6)
 |t (l:List TK)
mutual
def Fm:(x y:TK)->Decidable (x=y)
 |.k a,.k b=>if h:a=b then Decidable.isTrue (by rw[h])else Decidable.isFalse fun e=>h (by injection e)
 |.t l,.t m=>match decTKs l m with
  |Decidable.isTrue h=>Decidable.isTrue (by rw[h])
  |Decidable.isFalse h=>Decidable.isFalse fun e=>h (by injection e)
 |.k _,.t _=>Decidable.isFalse nofun
 |.t _,.k _=>Decidable.isFalse nofun
def decTKs:(x y:List TK)->Decidable (x=y)
 |[],[]=>Decidable.isTrue rfl
 |[],_::_=>Decidable.isFalse nofun
 |_::_,[]=>Decidable.isFalse nofun
 |a::l,b::m=>match Fm a b with
  |Decidable.isTrue h=>match decTKs l m with
   |Decidable.isTrue h'=>Decidable.isTrue (by rw[h,h'])
   |Decidable.isFalse h'=>Decidable.isFalse fun e=>h' (by injection e)
  |Decidable.isFalse h=>Decidable.isFalse fun e=>h (by injection e)
end
instance:DecidableEq TK:=Fm
mutual
def TK.depth:TK->Nat
 |.k _=>0
 |.t l=>TK.depths l+1
def TK.depths:List TK->Nat
 |[]=>0
 |a::r=>max (TK.depth a) (TK.depths r)
end
mutual
def TK.hash(w:World):TK->Int
 |.k a=>FL w a
 |.t l=>so (lC (TK.hashs w l))
def TK.hashs(w:World):List TK->List Int
 |[]=>[]
 |a::r=>TK.hash w a::TK.hashs w r
end
mutual
def TK.draws:TK->Nat
 |.k _=>1
 |.t l=>TK.drawss l+1
def TK.drawss:List TK->Nat
 |[]=>0
 |a::r=>TK.draws a+TK.drawss r
end
mutual
def lA(h:Heap):TK->Value->Prop
 |.k a,v=>cq a v=true
 |.t l,v=>∃a o items n,v=.ref a/\h.get? a=some o/\o.cls=.type "tuple"/\o.data=.seq items n/\TAts h l items.toList
def TAts(h:Heap):List TK->List Value->Prop
 |[],vs=>vs=[]
 |k::r,vs=>∃v us,vs=v::us/\lA h k v/\TAts h r us
end
theorem lA.inj{h:Heap}:∀(d:Nat) {x y:TK}{v:Value},x.depth<=d->lA h x v->lA h y v->x=y:=by
 have key:∀(d:Nat) (ih:∀{x y:TK}{v:Value},x.depth<=d->lA h x v->lA h y v->x=y) (xs ys:List TK) (vs:Zf),TK.depths xs<=d->TAts h xs vs->TAts h ys vs->xs=ys:=by
  intro d ih xs
  induction xs with
  |nil =>
   intro ys vs _ hx hy;have hx':vs=[]:=hx;subst hx';cases ys with
   |nil=>rfl
   |cons y ys=>obtain⟨_,_,e,_⟩:=hy;cases e
  |cons x xs ihl =>
   intro ys vs hd hx hy;obtain⟨v,us,rfl,hx1,hx2⟩:=hx;cases ys with
   |nil=>have hy':v::us=[]:=hy;cases hy'
   |cons y ys =>
    obtain⟨v',us',e,hy1,hy2⟩:=hy;cases e;have hd':max x.depth (TK.depths xs)<=d:=hd;rw[ih (by omega) hx1 hy1,ihl ys us (by omega) hx2 hy2]
 have leaf:∀(a:d6) (l:List TK) (v:Value),lA h (.k a) v->lA h (.t l) v->False:=by
  intro a l v h1 h2;obtain⟨b,o,items,n,rfl,_⟩:=h2;rcases av (show cq a (.ref b)=true from h1)with⟨_,_,_,e⟩|⟨_,_,_,e⟩<;>cases e
 have kk:∀(a b:d6) (v:Value),cq a v=true->cq b v=true->a=b:=by
  intro a b v h1 h2;rcases av h1 with⟨i,t,rfl,rfl⟩|⟨i,t,rfl,rfl⟩
  ·rcases av h2 with⟨j,u,rfl,e⟩|⟨j,u,rfl,e⟩
   ·cases e;rfl
   ·cases e
  ·rcases av h2 with⟨j,u,rfl,e⟩|⟨j,u,rfl,e⟩
   ·cases e
   ·cases e;rfl
 intro d
 induction d with
 |zero =>
  intro x y v hd hx hy;cases x with
  |t l=>exact absurd hd (by show ¬(TK.depths l+1<=0);omega)
  |k a =>
   cases y with
   |k b=>rw[kk a b v hx hy]
   |t l=>exact(leaf a l v hx hy).elim
 |succ d ih =>
  intro x y v hd hx hy;cases x with
  |k a =>
   cases y with
   |k b=>rw[kk a b v hx hy]
   |t l=>exact(leaf a l v hx hy).elim
  |t l =>
   cases y with
   |k b=>exact(leaf b l v hy hx).elim
   |t l' =>
    obtain⟨a,o,items,n,rfl,ho,hc,hdt,hi⟩:=hx;obtain⟨a',o',items',n',e,ho',hc',hdt',hi'⟩:=hy;cases e;rw[ho]at ho';cases ho';rw[hdt]at hdt';injection hdt' with e1 _;subst e1;rw[key d (fun h1=>ih h1) l l' items.toList (by have:TK.depths l+1<=d+1:=hd;omega) hi hi']
theorem lA.mono{h h':Heap}(k:∀a o items n,h.get? a=some o->o.cls=.type "tuple"->o.data=.seq items n->h'.get? a=some o):∀(d:Nat) {x:TK}{v:Value},x.depth<=d->lA h x v->lA h' x v:=by
 have key:∀(d:Nat) (ih:∀{x:TK}{v:Value},x.depth<=d->lA h x v->lA h' x v) (xs:List TK) (vs:Zf),TK.depths xs<=d->TAts h xs vs->TAts h' xs vs:=by
  intro d ih xs
  induction xs with
  |nil=>intro vs _ hx;exact hx
  |cons x xs ihl =>
   intro vs hd hx;obtain⟨v,us,rfl,hx1,hx2⟩:=hx;have hd':max x.depth (TK.depths xs)<=d:=hd;exact⟨v,us,rfl,ih (by omega) hx1,ihl us (by omega) hx2⟩
 intro d
 induction d with
 |zero =>
  intro x v hd hx;cases x with
  |t l=>exact absurd hd (by show ¬(TK.depths l+1<=0);omega)
  |k a=>exact hx
 |succ d ih =>
  intro x v hd hx;cases x with
  |k a=>exact hx
  |t l =>
   obtain⟨a,o,items,n,rfl,ho,hc,hdt,hi⟩:=hx;exact⟨a,o,items,n,rfl,k a o items n ho hc hdt,hc,hdt,key d (fun h1=>ih h1) l _ (by have:TK.depths l+1<=d+1:=hd;omega) hi⟩
section
variable{prog:bR}{w:World}
theorem DP:∀(d:Nat) {A:Around}{E:Zc}{s:Shared}{k:TK}{v:Value}{Q:Int->Shared->Prop},k.depth<=d->A.units+d<cLine->lA s.heap k v->Q (k.hash w) { s with toks:=s.toks+k.draws } ->
  wpAny (model prog w) A (pyHash v) Q E s:=by
 intro d
 induction d with
 |zero =>
  intro A E s k v Q hd hu hk h;cases k with
  |t l=>exact absurd hd (by show ¬(TK.depths l+1<=0);omega)
  |k a=>exact(bT prog w).pyHash (k:=a) hk h
 |succ d ih =>
  intro A E s k v Q hd hu hk h;cases k with
  |k a=>exact(bT prog w).pyHash (k:=a) hk h
  |t l =>
   obtain⟨a,o,items,n,rfl,ho,hc,hdt,hi⟩:=hk;have hT:s.TypeIs (.ref a) "tuple":=⟨o,ho,hc⟩;have hdl:TK.depths l<=d:=by have:TK.depths l+1<=d+1:=hd;omega
   unfold pyHash
   first|unfold pyHashByItsType|skip
   first|refine ak (wpAny_cRoomFor_or (.inr (by omega)) ?_)|skip
   refine ak (xQ hT wu.lookup ?_);show wpAny _ _ (if(some (Value.builtin "tuple.__hash__")==some Value.none)=true then _ else _) Q E s
   rw[if_neg (by rw[beq_builtin_none];exact fR)];refine ak (xQ hT wu.lookup ?_);show wpAny _ _ (callSpecialIfBoundUnlessNone? (.ref a) "__hash__" _ >>= _) Q E s;refine ak (wpAny_callSpecialIfBoundUnlessNone?_slot hT wu (mS wu hT F.entry_tuple_hash ?_ (F.args_tuple_hash_1 _)));show wpAny _ _ (BS (.ref a) >>= _) _ _ s;refine ak (AL ho hdt ?_);refine ak ?_;rw[<-zU];refine tG _
    (fun rest (b:Array Int) s'=>∃done left,l=done++left/\TAts s.heap left rest/\b.toList=TK.hashs w done/\s'={ s with toks:=s.toks+TK.drawss done })
    _ ?_ ?_ _ _ ⟨[],l,rfl,hi,rfl,rfl⟩
   ·rintro x rest b s' ⟨done,left,e,hl,hb,rfl⟩;cases left with
    |nil=>have hl':x::rest=[]:=hl;cases hl'
    |cons k' left =>
     obtain⟨x',rest',e',h1,h2⟩:=hl;cases e';have hdk:k'.depth<=d:=by
      have gen:∀(p:List TK),TK.depths (p++k'::left)<=d->k'.depth<=d:=by
       intro p
       induction p with
       |nil=>intro hp;have hp':max k'.depth (TK.depths left)<=d:=hp;omega
       |cons q p ihp=>intro hp;have hp':max q.depth (TK.depths (p++k'::left))<=d:=hp;exact ihp (by omega)
      exact gen done (by rw[<-e];exact hdl)
     have hs:TK.hashs w (done++[k'])=TK.hashs w done++[k'.hash w]:=by
      clear e hb
      induction done with
      |nil=>rfl
      |cons q p ihp=>show _::TK.hashs w (p++[k'])=_;rw[ihp];rfl
     have hdr:TK.drawss (done++[k'])=TK.drawss done+k'.draws:=by
      clear e hb hs
      induction done with
      |nil=>show k'.draws+0=0+k'.draws;omega
      |cons q p ihp=>show q.draws+TK.drawss (p++[k'])=q.draws+TK.drawss p+k'.draws;rw[ihp];omega
     refine ak (ih (k:=k') hdk (by show A.units+1+d<cLine;omega) h1 ?_)
     first
      |exact ao ⟨done++[k'],left,by rw[e];simp,h2,by rw[hs];simp[hb],by rw[hdr];simp[ph]⟩
      |exact ak (ao (ao ⟨done++[k'],left,by rw[e];simp,h2,by rw[hs];simp[hb],by rw[hdr];simp[ph]⟩))
   ·rintro b s' ⟨done,left,e,hl,hb,rfl⟩;cases left with
    |cons k' left=>obtain⟨_,_,e',_⟩:=hl;cases e'
    |nil =>
     rw[dv]at e;subst e;show wpAny _ _ (retInt (lC b.toList)) _ _ _;rw[hb];refine wpAny_ret_mkInt ?_;have h':Q (so (lC (TK.hashs w l))) { s with toks:=s.toks+(TK.drawss l+1) }:=h;show wpAny _ _ (if(decide (-(2:Int) ^ 63<=lC (TK.hashs w l)) && decide (lC (TK.hashs w l)<2 ^ 63))=true then _ else _) Q E _
     unfold so at h';by_cases hr:(decide (-(2:Int) ^ 63<=lC (TK.hashs w l)) && decide (lC (TK.hashs w l)<2 ^ 63))=true
     ·rw[if_pos hr];rw[if_pos hr]at h';exact ao (by simpa[ph]using h')
     ·rw[if_neg hr];rw[if_neg hr]at h';exact ak (kj (ao (by simpa[ph]using h')))
theorem AT(d:Nat)(ih:∀{A:Around}{E:Zc}{s:Shared}{x y:TK}{u v:Value}{Q:Bool->Shared->Prop},x.depth<=d->y.depth<=d->A.units+d<cLine->lA s.heap x u->lA s.heap y v->Q (decide (x=y)) s->wpAny (model prog w) A (eqBool u v) Q E s)
  {A:Around}{E:Zc}{s:Shared}{x y:List TK}{a b:Addr}{P:Fin->Shared->Prop}{oa ob:Obj}{xs ys:Array Value}{na nb:Nat}(hx:TK.depths x<=d) (hy:TK.depths y<=d) (hu:A.units+d<cLine)
  (hoa:s.heap.get? a=some oa) (hda:oa.data=.seq xs na) (hia:TAts s.heap x xs.toList) (hob:s.heap.get? b=some ob) (hcb:ob.cls=.type "tuple") (hdb:ob.data=.seq ys nb) (hib:TAts s.heap y ys.toList)
  (h:P (.done (.ret (.bool (decide (x=y))))) s):wpAny (model prog w) A (cw.«tuple.__eq__» ⟨[.ref a,.ref b],[]⟩) P E s:=by
 have hTb:s.TypeIs (.ref b) "tuple":=⟨ob,hob,hcb⟩;show wpAny _ _ (zT (.ref b) (.type "tuple") >>= _) _ _ s;refine ak (tF hTb zQ ?_);simp only[pf,kb,if_false];refine ak (AL hoa hda ?_);refine ak (AL hob hdb ?_);refine ak ?_;refine tG _
  (fun rest r s'=>r.1=none/\s'=s/\∃x' y' xs' ys',rest=List.zip xs' ys'/\TAts s.heap x' xs'/\TAts s.heap y' ys'/\TK.depths x'<=d/\TK.depths y'<=d/\decide (x'=y')=decide (x=y)/\(xs'.length==ys'.length)=(xs.size==ys.size))
  _ ?_ ?_ _ _ ⟨rfl,rfl,x,y,xs.toList,ys.toList,rfl,hia,hib,hx,hy,rfl,by simp⟩
 ·rintro⟨u,v⟩ rest r s' ⟨hr,rfl,x',y',xs',ys',hz,hx',hy',dx,dy,hdec,hlen⟩;cases x' with
  |nil =>
   have e:xs'=[]:=hx';subst e;simp at hz
  |cons k1 x'' =>
   obtain⟨u',xs'',rfl,h1,hx''⟩:=hx';cases y' with
   |nil =>
    have e:ys'=[]:=hy';subst e;simp at hz
   |cons k2 y'' =>
    obtain⟨v',ys'',rfl,h2,hy''⟩:=hy';simp only[zP,List.cons.injEq,Prod.mk.injEq]at hz;obtain⟨⟨rfl,rfl⟩,rfl⟩:=hz;have dx':max k1.depth (TK.depths x'')<=d:=dx;have dy':max k2.depth (TK.depths y'')<=d:=dy;refine ak (ih (x:=k1) (y:=k2) (by omega) (by omega) hu h1 h2 ?_);by_cases hk:k1=k2
    ·subst hk;rw[zzr1 rfl];simp only[pf,kb,if_false];refine ao ⟨rfl,rfl,x'',y'',xs'',ys'',rfl,hx'',hy'',by omega,by omega,?_,by simpa using hlen⟩;rw[<-hdec];by_cases hxy:x''=y''
     ·simp[hxy]
     ·simp[hxy]
    ·rw[zzr0 hk];simp only[Bool.not_false,if_true];have hf:decide (x=y)=false:=by rw[<-hdec];simp[hk]
     rw[hf]at h;exact ak (ao (ao (ao h)))
 ·rintro⟨r1,r2⟩ s' ⟨hr,rfl,x',y',xs',ys',hz,hx',hy',dx,dy,hdec,hlen⟩;simp only at hr;subst hr;refine ao ?_;have hfin:(xs.size==ys.size)=decide (x=y):=by
   rw[<-hdec,<-hlen];cases x' with
   |nil =>
    have e:xs'=[]:=hx';subst e;cases y' with
    |nil=>have e:ys'=[]:=hy';subst e;simp
    |cons _ _=>obtain⟨_,_,rfl,_⟩:=hy';simp
   |cons _ _ =>
    obtain⟨_,_,rfl,_⟩:=hx';cases y' with
    |nil=>have e:ys'=[]:=hy';subst e;simp
    |cons _ _=>obtain⟨_,_,rfl,_⟩:=hy';simp at hz
  show P (.done (.ret (.bool (xs.size==ys.size)))) s';rw[hfin];exact h
theorem Gf:∀(d:Nat) {A:Around}{E:Zc}{s:Shared}{x y:TK}{u v:Value}{Q:Bool->Shared->Prop},x.depth<=d->y.depth<=d->A.units+d<cLine->lA s.heap x u->lA s.heap y v->Q (decide (x=y)) s ->
  wpAny (model prog w) A (eqBool u v) Q E s:=by
 have mixed1:∀{A:Around}{E:Zc}{s:Shared}{a:d6}{l:List TK}{u v:Value}{Q:Bool->Shared->Prop},A.units<cLine->lA s.heap (.k a) u->lA s.heap (.t l) v->Q false s->wpAny (model prog w) A (eqBool u v) Q E s:=by
  intro A E s a l u v Q hu hx hy h;obtain⟨b,o,items,n,rfl,ho,hc,hdt,hi⟩:=hy;have ht:s.heap.IsTuple b items:=⟨o,ho,hc,n,hdt⟩;rcases av (show cq a u=true from hx)with⟨i,t,rfl,rfl⟩|⟨i,t,rfl,rfl⟩
  ·exact bj.int_tuple i t ht hu prog w E Q h
  ·exact bj.str_tuple i t ht hu prog w E Q h
 have mixed2:∀{A:Around}{E:Zc}{s:Shared}{a:d6}{l:List TK}{u v:Value}{Q:Bool->Shared->Prop},A.units<cLine->lA s.heap (.t l) u->lA s.heap (.k a) v->Q false s->wpAny (model prog w) A (eqBool u v) Q E s:=by
  intro A E s a l u v Q hu hx hy h;obtain⟨b,o,items,n,rfl,ho,hc,hdt,hi⟩:=hx;have ht:s.heap.IsTuple b items:=⟨o,ho,hc,n,hdt⟩;rcases av (show cq a v=true from hy)with⟨i,t,rfl,rfl⟩|⟨i,t,rfl,rfl⟩
  ·exact bj.tuple_int i t ht hu prog w E Q h
  ·exact bj.tuple_str i t ht hu prog w E Q h
 have leaves:∀{A:Around}{E:Zc}{s:Shared}{a b:d6}{u v:Value}{Q:Bool->Shared->Prop},lA s.heap (.k a) u->lA s.heap (.k b) v->Q (decide (TK.k a=TK.k b)) s->wpAny (model prog w) A (eqBool u v) Q E s:=by
  intro A E s a b u v Q hx hy h;refine(bT prog w).eqBool (a:=a) (b:=b) hx hy ?_;by_cases e:a=b
  ·subst e;simpa using h
  ·have:¬(TK.k a=TK.k b):=fun z=>e (by injection z);rw[zzr0 this]at h;rw[zzr0 e];exact h
 intro d
 induction d with
 |zero =>
  intro A E s x y u v Q hdx hdy hu hx hy h;cases x with
  |t l=>exact absurd hdx (by show ¬(TK.depths l+1<=0);omega)
  |k a =>
   cases y with
   |t l=>exact absurd hdy (by show ¬(TK.depths l+1<=0);omega)
   |k b=>exact leaves hx hy h
 |succ d ih =>
  intro A E s x y u v Q hdx hdy hu hx hy h;cases x with
  |k a =>
   cases y with
   |k b=>exact leaves hx hy h
   |t l =>
    rw[zzr0 (by intro z;cases z)]at h;exact mixed1 (by omega) hx hy h
  |t l =>
   cases y with
   |k b =>
    rw[zzr0 (by intro z;cases z)]at h;exact mixed2 (by omega) hx hy h
   |t m =>
    have hl:TK.depths l<=d:=by have:TK.depths l+1<=d+1:=hdx;omega
    have hm:TK.depths m<=d:=by have:TK.depths m+1<=d+1:=hdy;omega
    have hx0:=hx;have hy0:=hy;obtain⟨a,oa,xs,na,rfl,hoa,hca,hda,hia⟩:=hx;obtain⟨b,ob,ys,nb,rfl,hob,hcb,hdb,hib⟩:=hy;have hTa:s.TypeIs (.ref a) "tuple":=⟨oa,hoa,hca⟩;have hTb:s.TypeIs (.ref b) "tuple":=⟨ob,hob,hcb⟩;have hd':decide (TK.t l=TK.t m)=decide (l=m):=by
     by_cases e:l=m
     ·subst e;simp
     ·have:¬(TK.t l=TK.t m):=fun z=>e (by injection z);rw[zzr0 this,zzr0 e]
    unfold eqBool
    try with_reducible refine iG ?_
    show wpAny _ _ (if(Value.ref a==Value.ref b)=true then _ else _) Q E s
    by_cases hab:(Value.ref a==Value.ref b)=true
    ·rw[if_pos hab];have e:a=b:=by have:=eq_of_beq hab;injection this
     subst e;have e2:TK.t l=TK.t m:=lA.inj _ (aH _) hx0 hy0;rw[zzr1 e2]at h;exact ak (kj (ao h))
    ·rw[if_neg hab];rw[hd']at h;exact ak (wpAny_richCompare_same_room (op:=.Eq) hTa hTb tE
      (mS tE hTa F.entry_tuple_eq (AT d (fun h1 h2 h3 h4 h5 h6=>ih h1 h2 h3 h4 h5 h6) hl hm (by show A.units+1+d<cLine;omega) hoa hda hia hob hcb hdb hib ⟨_,rfl,(fun e=>nomatch e),mU h⟩) (F.args_tuple_eq_2 _ _)) (by omega))
theorem B_:∀(d:Nat) {A:Around}{E:Zc}{s:Shared}{k:TK}{v:Value}{Q:Bool->Shared->Prop},k.depth<=d->lA s.heap k v->Q true s->wpAny (model prog w) A (zO d v) Q E s:=by
 intro d
 induction d with
 |zero =>
  intro A E s k v Q hd hk h;cases k with
  |t l=>exact absurd hd (by show ¬(TK.depths l+1<=0);omega)
  |k a=>rw[zN _ ((bT prog w).byValue a v hk)];exact ao h
 |succ d ih =>
  intro A E s k v Q hd hk h;cases k with
  |k a=>rw[zN _ ((bT prog w).byValue a v hk)];exact ao h
  |t l =>
   have hl:TK.depths l<=d:=by have:TK.depths l+1<=d+1:=hd;omega
   obtain⟨a,o,items,n,rfl,ho,hc,hdt,hi⟩:=hk;have hT:s.TypeIs (.ref a) "tuple":=⟨o,ho,hc⟩;unfold zO;refine ak (xQ hT tE.lookup ?_);show wpAny _ _ (zT (.ref a) (.type "tuple") >>= _) _ _ s;refine ak (tF hT zQ ?_);simp only[pf,kb,if_false];refine ak (j_ ho hdt ?_);refine ak ?_;show wpAny _ _ (forIn items _ _) _ _ s;rw[<-zU];refine tG _ (fun rest r s'=>r.1=none/\s'=s/\∃left,TAts s.heap left rest/\TK.depths left<=d) _ ?_ ?_ _ _ ⟨rfl,rfl,l,hi,hl⟩
   ·rintro v rest r s' ⟨hr,rfl,left,hall,hdl⟩;cases left with
    |nil=>have e:v::rest=[]:=hall;cases e
    |cons k' left =>
     obtain⟨v',rest',e,h1,h2⟩:=hall;cases e;have hdl':max k'.depth (TK.depths left)<=d:=hdl;refine ak (ih (k:=k') (by omega) h1 ?_);simp only[pf,kb,if_false];exact ao ⟨rfl,rfl,left,h2,by omega⟩
   ·rintro⟨r1,r2⟩ s' ⟨hr,rfl,_⟩;simp only at hr;subst hr;exact ao h
def c_(prog:bR)(w:World):zM prog w TK where
 is:=fun h k a=>lA h k (.ref a)/\k.depth<=8
 hash:=TK.hash w
 draws:=TK.draws
 room:=fun A=>A.units+8<cLine
 inj:=fun hx hy=>lA.inj 8 hx.2 hx.1 hy.1
 keeps:=fun{h h' k a d o es ep} x ho hd hs=>⟨lA.mono (fun b ob items n hb _ hdb=>(hs.2 b fun e=>by
  subst e;rw[ho]at hb;cases hb;rw[hd]at hdb;cases hdb).trans hb) 8 x.2 x.1,x.2⟩
 pyHash:=fun hu hk h=>DP 8 hk.2 hu hk.1 h
 eqBool:=fun hu hx hy h=>Gf 8 hx.2 hy.2 hu hx.1 hy.1 h
 quiet:=fun hk h=>B_ 8 hk.2 hk.1 h
end
end L2
namespace L2
open PySem PySem.Spec PyProof.Rows
inductive V where
 |non|bl (b:Bool)|int (i:Int)|str (x:Str)|byt (b:Array UInt8)|flt (b:UInt64)|ref (a:Addr)|ty (n:String)
 deriving DecidableEq
def RelV:V->Value->Prop
 |.non,u=>u=Value.none
 |.bl b,u=>u=Value.bool b
 |.int i,u=>∃t,u=Value.int i t
 |.str x,u=>∃t,u=Value.str x t
 |.byt b,u=>∃t,u=Value.bytes b t
 |.flt b,u=>∃t,u=Value.float b t
 |.ref a,u=>u=Value.ref a
 |.ty n,u=>u=Value.type n
abbrev bg:List V->List Value->Prop:=Paired RelV
theorem bg.length{xs:List V}{us:Zf}(r:bg xs us):xs.length=us.length:=Paired.length r
theorem bg.get:∀{xs:List V}{us:Zf}{i:Nat}{x:V},bg xs us->xs[i]?=some x->∃u,us[i]?=some u/\RelV x u
 |_,_,_,_,.nil,e=>by simp at e
 |_,_,0,_,.cons r _,e=>by simp at e;subst e;exact⟨_,rfl,r⟩
 |_,_,i+1,x,.cons _ t,e=>by
  obtain⟨u,h1,h2⟩:=bg.get (i:=i) (x:=x) t (by simpa using e);exact⟨u,by simpa using h1,h2⟩
theorem bg.set{x:V}{u:Value}(r:RelV x u):∀{xs:List V}{us:Zf}(i:Nat),bg xs us->bg (xs.set i x) (us.set i u)
 |_,_,_,.nil=>.nil
 |_,_,0,.cons _ t=>.cons r t
 |_,_,i+1,.cons q t=>.cons q (bg.set r i t)
theorem bg.append:∀{xs ys:List V}{us ws:Zf},bg xs us->bg ys ws->bg (xs++ys) (us++ws)
 |_,_,_,_,.nil,s=>s
 |_,_,_,_,.cons r t,s=>.cons r (bg.append t s)
theorem bg.take:∀{xs:List V}{us:Zf}(n:Nat),bg xs us->bg (xs.take n) (us.take n)
 |_,_,0,_=>.nil
 |_,_,_+1,.nil=>.nil
 |_,_,n+1,.cons r t=>.cons r (bg.take n t)
theorem bg.drop:∀{xs:List V}{us:Zf}(n:Nat),bg xs us->bg (xs.drop n) (us.drop n)
 |_,_,0,r=>r
 |_,_,_+1,.nil=>.nil
 |_,_,n+1,.cons _ t=>bg.drop n t
def j5:Option V->Option Value->Prop
 |some v,some u=>RelV v u
 |none,none=>True
 |_,_=>False
def KV{κ:Type}:List (κ×V)->List (κ×Value)->Prop:=Paired fun(p:κ×V) (q:κ×Value)=>p.1=q.1/\RelV p.2 q.2
def kV:d6->V
 |.inl i=>.int i
 |.inr x=>.str x
inductive HO where
 |lst (xs:List V)
 |tup (xs:List V)
 |dK (kvs:List (d6×V))|dT (kvs:List (TK×V))
 |set (S:Int->Bool) (n:Nat)
 |ins (C dx:Addr) (fs:List (Str×V))
 |own (x:Addr)
 |xd (fs:List (Str×V))
 |met (f x:Addr)
 |rng (lo hi:Int)
 |frz (o:Obj) (u:HO)
 |tbl (ps:Array Value)
 |ext (φ:Heap->Prop)
abbrev Hp:=Addr->Option HO
mutual
def fq(H:Hp):TK->V->Prop
 |.k a,v=>v=kV a
 |.t l,v=>∃b xs,v=.ref b/\H b=some (.tup xs)/\TKAts H l xs
def TKAts(H:Hp):List TK->List V->Prop
 |[],vs=>vs=[]
 |k::r,vs=>∃v us,vs=v::us/\fq H k v/\TKAts H r us
end
def ck(K:Za)(H:Hp)(a:Addr)(xs:List V):Prop :=
 H a=some (.tup xs)∨∃(o:Obj) (its:Array Value) (n:Nat),K.lookup a=some o/\o.cls=.type "tuple"/\o.data=.seq its n/\its.size<=ah/\bg xs its.toList
theorem ck.keeps{K:Za}{H H':Hp}{a:Addr}{xs:List V}(h:ck K H a xs)(ht:∀b xs,H b=some (.tup xs)->H' b=some (.tup xs)):ck K H' a xs:=h.imp (ht a xs) id
mutual
def mP(K:Za)(H:Hp):TK->V->Prop
 |.k a,v=>v=kV a
 |.t l,v=>∃b xs,v=.ref b/\ck K H b xs/\TKCs K H l xs
def TKCs(K:Za)(H:Hp):List TK->List V->Prop
 |[],vs=>vs=[]
 |k::r,vs=>∃v us,vs=v::us/\mP K H k v/\TKCs K H r us
end
theorem mP.keeps{K:Za}{H H':Hp}(ht:∀b xs,H b=some (.tup xs)->H' b=some (.tup xs)):∀(d:Nat) {k:TK}{v:V},k.depth<=d->mP K H k v->mP K H' k v:=by
 have key:∀(d:Nat) (ih:∀{k:TK}{v:V},k.depth<=d->mP K H k v->mP K H' k v) (xs:List TK) (vs:List V),TK.depths xs<=d->TKCs K H xs vs->TKCs K H' xs vs:=by
  intro d ih xs
  induction xs with
  |nil=>intro vs _ hx;exact hx
  |cons x xs ihl =>
   intro vs hd hx;obtain⟨v,us,rfl,hx1,hx2⟩:=hx;have hd':max x.depth (TK.depths xs)<=d:=hd;exact⟨v,us,rfl,ih (by omega) hx1,ihl us (by omega) hx2⟩
 intro d
 induction d with
 |zero =>
  intro k v hd hx;cases k with
  |t l=>exact absurd hd (by show ¬(TK.depths l+1<=0);omega)
  |k a=>exact hx
 |succ d ih =>
  intro k v hd hx;cases k with
  |k a=>exact hx
  |t l =>
   obtain⟨b,xs,rfl,hb,hi⟩:=hx;exact⟨b,xs,rfl,hb.keeps ht,key d (fun h1=>ih h1) l xs (by have:TK.depths l+1<=d+1:=hd;omega) hi⟩
theorem fq.c{K:Za}{H:Hp}:∀(d:Nat) {k:TK}{v:V},k.depth<=d->fq H k v->mP K H k v:=by
 have key:∀(d:Nat) (ih:∀{k:TK}{v:V},k.depth<=d->fq H k v->mP K H k v) (xs:List TK) (vs:List V),TK.depths xs<=d->TKAts H xs vs->TKCs K H xs vs:=by
  intro d ih xs
  induction xs with
  |nil=>intro vs _ hx;exact hx
  |cons x xs ihl =>
   intro vs hd hx;obtain⟨v,us,rfl,hx1,hx2⟩:=hx;have hd':max x.depth (TK.depths xs)<=d:=hd;exact⟨v,us,rfl,ih (by omega) hx1,ihl us (by omega) hx2⟩
 intro d
 induction d with
 |zero =>
  intro k v hd hx;cases k with
  |t l=>exact absurd hd (by show ¬(TK.depths l+1<=0);omega)
  |k a=>exact hx
 |succ d ih =>
  intro k v hd hx;cases k with
  |k a=>exact hx
  |t l =>
   obtain⟨b,xs,rfl,hb,hi⟩:=hx;exact⟨b,xs,rfl,.inl hb,key d (fun h1=>ih h1) l xs (by have:TK.depths l+1<=d+1:=hd;omega) hi⟩
def upd(H:Hp)(a:Addr)(o:HO):Hp:=fun b=>if b=a then some o else H b
theorem aa{H:Hp}{a:Addr}{o:HO}:upd H a o a=some o:=by unfold upd;rw[if_pos rfl]
theorem aj{H:Hp}{a b:Addr}{o:HO}(h:b≠a):upd H a o b=H b:=by unfold upd;rw[if_neg h]
theorem jy{H:Hp}{a:Addr}{o u:HO}:upd (upd H a o) a u=upd H a u:=by
 funext b;unfold upd;split<;>rfl
theorem Aj{H:Hp}{a b:Addr}{o u:HO}(h:H a=some o)(h':H b=some u)(d:o≠u):a≠b:=by
 intro e;subst e;rw[h]at h';exact d (ef h')
theorem ag{H:Hp}{a b:Addr}{o:HO}(h:H a=some o)(h':H b=none):a≠b:=by
 intro e;subst e;rw[h]at h';cases h'
section
variable(P:bR)(w:World)(K:Za)
def cj(H:Hp)(h:Heap)(a:Addr):HO->Prop
 |.lst xs=>xs.length<=ah/\∃(its:Zf) (n:Nat),bg xs its/\h.get? a=some { cls:=.type "list",data:=.seq its.toArray n }
 |.tup xs=>xs.length<=ah/\∃its:List Value,bg xs its/\IsTup h a its.toArray
 |.dK kvs=>kvs.length<=ah/\(a==gG)=false/\∃vs,KV kvs vs/\h.DictOf (bT P w) a vs
 |.dT kvs=>kvs.length<=ah/\(a==gG)=false/\∃xs:List (TK×Addr×Value),
   Paired (fun(p:TK×V) (q:TK×Addr×Value)=>p.1=q.1/\mP K H p.1 (.ref q.2.1)/\p.1.depth<=8/\RelV p.2 q.2.2) kvs xs /\
   ∃o es ep,h.get? a=some o/\o.ExactDict/\o.data=.dict es ep/\es.toList=xs.map (entryOfKey (c_ P w))/\(xs.map (·.1)).Nodup
 |.set S n=>h.SetOf (intKind P w) a S n
 |.ins C dx fs=>H dx=some (.own a)/\fs.length<=1000/\dx≠a/\h.get? a=some (pe C dx) /\
   ∃mA,h.Ns1 dx mA/\(∀f,j5 (fs.lookup f) (mA f))/\PySem.Within mA (fs.map (·.1))
 |.own _=>∃o,h.get? a=some o
 |.xd fs=>∃mA,h.Ns1 a mA/\∀f,j5 (fs.lookup f) (mA f)
 |.rng lo hi=>∃t u v,h.get? a=some { cls:=.type "range",data:=.fields #[.int lo t,.int hi u,.int 1 v] }
 |.frz o u=>h.get? a=some o/\cj H h a u
 |.tbl ps=>h.get? a=some { cls:=.none,data:=.fields ps }
 |.met f x=>h.get? a=some (PySem.W.methodObj (.ref f) (.ref x))
 |.ext φ=>φ h/\(∃o,h.get? a=some o)/\∀h1 h2:Heap,φ h1->(∀o,h1.get? a=some o->h2.get? a=some o)->φ h2
def lB(H:Hp)(h:Heap):Prop:=∀a o,H a=some o->cj P w K H h a o
end
section
variable{P:bR}{w:World}{K:Za}{H H':Hp}{h h':Heap}{a:Addr}{o:HO}
theorem cj.lt(x:cj P w K H h a o):a<h.objs.size:=by
 cases o with
 |lst xs=>obtain⟨_,_,_,_,e⟩:=x;exact bo e
 |tup xs=>obtain⟨_,_,_,p⟩:=x;exact p.lt
 |dK kvs=>obtain⟨_,_,_,_,o,_,_,e,_⟩:=x;exact bo e
 |dT kvs=>obtain⟨_,_,_,_,o,_,_,e,_⟩:=x;exact bo e
 |set S n=>obtain⟨o,_,_,_,e,_⟩:=x;exact bo e
 |ins C dx fs=>obtain⟨_,_,_,e,_⟩:=x;exact bo e
 |own y=>obtain⟨_,e⟩:=x;exact bo e
 |xd fs=>obtain⟨_,⟨_,_,_,e,_⟩,_⟩:=x;exact bo e
 |rng lo hi=>obtain⟨_,_,_,e⟩:=x;exact bo e
 |frz ob u=>obtain⟨e,_⟩:=x;exact bo e
 |tbl ps=>exact bo (show h.get? a=some _ from x)
 |met f y=>exact bo (show h.get? a=some _ from x)
 |ext φ=>obtain⟨_,⟨_,e⟩,_⟩:=x;exact bo e
theorem Paired.mapP{α β:Type}{F G:α->β->Prop}:∀{l₁:List α}{l₂:List β},Paired F l₁ l₂->(∀a b,F a b->G a b)->Paired G l₁ l₂
 |_,_,.nil,_=>.nil
 |_,_,.cons r t,f=>.cons (f _ _ r) (Paired.mapP t f)
theorem cj.stay(x:cj P w K H h a o)(k:∀b u,(b=a∨H b=some (.own a))->h.get? b=some u->h'.get? b=some u)
  (ho:∀b,H b=some (.own a)->H' b=some (.own a)) (ht:∀b xs,H b=some (.tup xs)->H' b=some (.tup xs)):cj P w K H' h' a o:=by
 induction o with
 |lst xs=>obtain⟨z,its,n,r,e⟩:=x;exact⟨z,its,n,r,k _ _ (.inl rfl) e⟩
 |tup xs=>obtain⟨z,its,r,ob,e,c⟩:=x;exact⟨z,its,r,ob,k _ _ (.inl rfl) e,c⟩
 |dK kvs=>obtain⟨z,y,vs,r,ob,es,ep,e,c⟩:=x;exact⟨z,y,vs,r,ob,es,ep,k _ _ (.inl rfl) e,c⟩
 |dT kvs =>
  obtain⟨z,y,xs,r,ob,es,ep,e,c⟩:=x;exact⟨z,y,xs,Paired.mapP r fun p q z=>⟨z.1,mP.keeps ht 8 z.2.2.1 z.2.1,z.2.2⟩,ob,es,ep,k _ _ (.inl rfl) e,c⟩
 |set S n=>obtain⟨ob,es,ep,t,e,c⟩:=x;exact⟨ob,es,ep,t,k _ _ (.inl rfl) e,c⟩
 |ins C dx fs =>
  obtain⟨d,z,ne,e,mA,⟨od,es,ep,e2,c⟩,r⟩:=x;exact⟨ho _ d,z,ne,k _ _ (.inl rfl) e,mA,⟨od,es,ep,k _ _ (.inr d) e2,c⟩,r⟩
 |own y=>obtain⟨ob,e⟩:=x;exact⟨ob,k _ _ (.inl rfl) e⟩
 |xd fs=>obtain⟨mA,⟨od,es,ep,e,c⟩,r⟩:=x;exact⟨mA,⟨od,es,ep,k _ _ (.inl rfl) e,c⟩,r⟩
 |rng lo hi=>obtain⟨t,u,v,e⟩:=x;exact⟨t,u,v,k _ _ (.inl rfl) e⟩
 |frz ob u ih=>obtain⟨e,q⟩:=x;exact⟨k _ _ (.inl rfl) e,ih q⟩
 |tbl ps =>
  have e:h.get? a=some { cls:=.none,data:=.fields ps }:=x;show h'.get? a=some { cls:=.none,data:=.fields ps };exact k a _ (.inl rfl) e
 |met f y =>
  have e:h.get? a=some (PySem.W.methodObj (.ref f) (.ref y)):=x;show h'.get? a=some (PySem.W.methodObj (.ref f) (.ref y));exact k a _ (.inl rfl) e
 |ext φ=>obtain⟨p,⟨o,e⟩,st⟩:=x;exact⟨st _ _ p fun o q=>k _ _ (.inl rfl) q,⟨o,k _ _ (.inl rfl) e⟩,st⟩
theorem lB.lt(x:lB P w K H h)(e:H a=some o):a<h.objs.size:=(x a o e).lt
theorem lB.fresh(x:lB P w K H h)(e:h.objs.size<=a):H a=none:=by
 cases q:H a with
 |none=>rfl
 |some u=>exact absurd (hU (x.lt q) e) (pd _)
theorem lB.kept(x:lB P w K H h)(k:∀b u,h.get? b=some u->h'.get? b=some u):lB P w K H h':=fun a o e =>
 (x a o e).stay (fun b u _ q=>k b u q) (fun _ q=>q) fun _ _ q=>q
theorem lB.laid(x:lB P w K H h)(k:∀b u,h.get? b=some u->h'.get? b=some u)(hp:h.objs.size<=a)(new:cj P w K (upd H a o) h' a o):lB P w K (upd H a o) h':=fun b u e=>by
 have hn:=x.fresh hp;by_cases hb:b=a
 ·subst hb;rw[aa]at e;cases e;exact new
 ·rw[aj hb]at e;exact(x b u e).stay (fun c v _ q=>k c v q) (fun c q=>by rw[aj (ag q hn)];exact q) fun c xs q=>by rw[aj (ag q hn)];exact q
end
def Rd(H:Hp)(a:Addr)(u:HO):Prop:=H a=some u∨∃o,H a=some (.frz o u)
theorem Rd.ok{P:bR}{w:World}{K:Za}{H:Hp}{h:Heap}{a:Addr}{u:HO}(r:Rd H a u)(x:lB P w K H h):cj P w K H h a u:=by
 rcases r with r|⟨o,r⟩
 ·exact x a u r
 ·obtain⟨_,q⟩:=x a _ r;exact q
def GI:Option HO->Prop
 |some (.lst _)=>True
 |some (.dK _)=>True
 |some (.dT _)=>True
 |some (.set _ _)=>True
 |some (.ins _ _ _)=>True
 |some (.ext _)=>True
 |_=>False
section
variable{P:bR}{w:World}{K:Za}{H:Hp}{h h':Heap}{x e:Addr}{o':HO}
theorem lB.write(ok:lB P w K H h)(mu:GI (H x))(he:e=x∨H e=some (.own x))(k:∀b u,b≠e->h.get? b=some u->h'.get? b=some u)(heo:∃u,h'.get? e=some u)
  (new:cj P w K (upd H x o') h' x o'):lB P w K (upd H x o') h':=fun b u q=>by
 have nown:∀c y,H c=some (.own y)->c≠x:=fun c y r z=>by subst z;rw[r]at mu;exact mu
 have ntup:∀c xs,H c=some (.tup xs)->c≠x:=fun c xs r z=>by subst z;rw[r]at mu;exact mu
 by_cases hb:b=x
 ·subst hb;rw[aa]at q;cases q;exact new
 ·rw[aj hb]at q;by_cases hbe:b=e
  ·have q':H b=some (.own x):=by
    rcases he with z|z
    ·exact absurd (hbe.trans z) hb
    ·rw[hbe];exact z
   rw[q]at q';cases q';obtain⟨v,hv⟩:=heo;exact⟨v,by rw[hbe];exact hv⟩
  ·refine(ok b u q).stay (fun c v hc r=>k c v ?_ r) (fun c r=>by rw[aj (nown c b r)];exact r) fun c xs r=>by rw[aj (ntup c xs r)];exact r
   rcases hc with rfl|hc
   ·exact hbe
   ·rintro rfl;rcases he with z|z
    ·exact nown c b hc z
    ·rw[hc]at z;cases z;exact hb rfl
end
structure Un(fs ex:Ze)(H H':Hp)(h h':Heap):Prop where
 keep:∀b o,h.get? b=some o->H b=none->b∉fs->b∉ex->h'.get? b=some o
 slot:∀b o,h.get? b=some o->H b=none->b∈fs->b∉ex->∃sl,h'.get? b=some { o with slots:=sl }
 free:∀b o,h.get? b=some o->H b=none->b∉ex->H' b=none
 there:∀b o,h.get? b=some o->b∉ex->∃o',h'.get? b=some o'
 tups:∀b xs,H b=some (.tup xs)->H' b=some (.tup xs)
 frzs:∀b o u,H b=some (.frz o u)->H' b=some (.frz o u)
 tbls:∀b ps,H b=some (.tbl ps)->∃more,H' b=some (.tbl (ps++more))
section
variable{fs fs' ex ex':Ze}{H H1 H2:Hp}{h h1 h2 h':Heap}{a x e:Addr}{o:HO}
theorem Un.any(u:Un fs ex H H1 h h1){b:Addr}{ob:Obj}(q:h.get? b=some ob)(n:H b=none)(hx:b∉ex):∃sl,h1.get? b=some { ob with slots:=sl }:=by
 by_cases hb:b∈fs
 ·exact u.slot b ob q n hb hx
 ·exact⟨ob.slots,u.keep b ob q n hb hx⟩
theorem Un.kept(k:∀b u,h.get? b=some u->h'.get? b=some u):Un fs ex H H h h' :=
 ⟨fun b ob q _ _ _=>k b ob q,fun b ob q _ _ _=>⟨ob.slots,k b ob q⟩,fun _ _ _ n _=>n,fun b ob q _=>⟨ob,k b ob q⟩,fun _ _ q=>q,fun _ _ _ q=>q,fun _ ps q=>⟨#[],by rw[q];simp⟩⟩
theorem Un.refl:Un fs ex H H h h:=Un.kept fun _ _ q=>q
theorem Un.laid(k:∀b u,h.get? b=some u->h'.get? b=some u)(hp:h.objs.size<=a)(hn:H a=none):Un fs ex H (upd H a o) h h' where
 keep:=fun b u q _ _ _=>k b u q
 slot:=fun b u q _ _ _=>⟨u.slots,k b u q⟩
 free:=fun b u q n _=>by rw[aj (cR (hU (bo q) hp))];exact n
 there:=fun b u q _=>⟨u,k b u q⟩
 tups:=fun b xs q=>by rw[aj (ag q hn)];exact q
 frzs:=fun b u xs q=>by rw[aj (ag q hn)];exact q
 tbls:=fun b ps q=>⟨#[],by rw[aj (ag q hn),q];simp⟩
theorem Un.write(mu:GI (H x))(he:e=x∨H e=some (.own x))(k:∀b u,b≠e->h.get? b=some u->h'.get? b=some u)(heo:∃u,h'.get? e=some u):Un fs ex H (upd H x o) h h':=by
 have hx:∀b,H b=none->b≠x:=fun b n z=>by subst z;rw[n]at mu;exact mu
 have hb:∀b,H b=none->b≠e:=fun b n z=>by
  subst z;rcases he with r|r
  ·exact hx b n r
  ·rw[n]at r;cases r
 have hm:∀b u,H b=some u->¬GI (some u)->b≠x:=fun b u q nm z=>by subst z;rw[q]at mu;exact nm mu
 refine⟨fun b u q n _ _=>k b u (hb b n) q,fun b u q n _ _=>⟨u.slots,k b u (hb b n) q⟩,fun b u q n _=>by rw[aj (hx b n)];exact n,fun b u q _=>?_,
  fun b xs q=>by rw[aj (hm b _ q fun z=>z)];exact q,fun b u xs q=>by rw[aj (hm b _ q fun z=>z)];exact q,fun b ps q=>⟨#[],by rw[aj (hm b _ q fun z=>z),q];simp⟩⟩
 by_cases hbe:b=e
 ·subst hbe;exact heo
 ·exact⟨u,k b u hbe q⟩
end
def trk(h:Heap)(H:Hp):List Addr:=(hJ h.objs.size).filter fun a=>(H a).isSome
def vL(h:Heap)(H:Hp):Heap:=PySem.W.hideAll h (trk h H)
theorem Bt(h:Heap)(H:Hp):(vL h H).objs.size=h.objs.size:=PySem.W.hideAll_size _ _
theorem C6{h:Heap}{H:Hp}{b:Addr}{o:Obj}(e:h.get? b=some o)(n:H b=none):(vL h H).get? b=some o :=
 PySem.W.hideAll_get _ e fun hm=>by
  have q:(H b).isSome=true:=(dO.mp hm).2;rw[n]at q;simp at q
theorem EA{h:Heap}{H:Hp}{b:Addr}{o:Obj}(e:(vL h H).get? b=some o):h.get? b=some o/\H b=none:=by
 have e':h.get? b=some o:=PySem.W.of_hideAll (trk h H) e;refine⟨e',?_⟩;cases q:H b with
 |none=>rfl
 |some x =>
  have hm:b∈trk h H:=dO.mpr ⟨List.mem_range.mpr (bo e'),by simp[q]⟩;have z:(vL h H).get? b=none:=PySem.W.hideAll_none (trk h H) hm;rw[z]at e;cases e
end L2
namespace L2
open PySem PySem.Spec PyProof.Rows
structure Mod(K:Za)(mg:Str->Option Value)(base:Heap):Prop where
 kin:K.In base
 glob:base.Ns b_ mg
 blt:∃mb,base.Ns builtinsNs mb/\∀x:Str,x≠"__name__"->mb x=iF x
 nolimit:base.NoLimit
structure Cx where
 prog:bR
 w:World
 K:Za
 mg:Str->Option Value
 base:Heap
 A:Around
 N:List Str
 s₀:Shared
 H₀:Hp
 env:Env
 outer:List Env
 stack:List Env
 ex:List Addr
 fn:Str->Bool
 calm:Bool
 pn:List (Addr×Obj)
 xe:Value->Shared->Prop
def BN(l:List Env):List Addr:=l.filterMap (·.frame)
abbrev Cx.fs(X:Cx):List Addr:=BN X.outer
def Vis(sc:Scope)(x:Str):Prop:=sc.names.lookup x=some .local∨sc.names.lookup x=some .cell∨sc.names.lookup x=some .free
def Loc(sc:Scope)(x:Str):Prop:=sc.names.lookup x=some .local∨sc.names.lookup x=some .cell
def Look(env:Env)(h:Heap)(m:Str->Option Value)(x:Str)(u:Value):Prop :=
 (env.kindOf x=some .local/\m x=some u)∨((env.kindOf x=some .cell∨env.kindOf x=some .free)/\∃c,env.cells.lookup x=some c/\h.IsCell c (some u))
structure Cx.Ok(X:Cx):Prop where
 mod:Mod X.K X.mg X.base
 kind:X.env.scope.kind=.function
 glob:X.env.globals=b_
 blt:X.env.builtins=builtinsNs
 above:X.s₀.heap.objs.size<=X.env.locals
 inj:∀x y c,X.env.cells.lookup x=some c->X.env.cells.lookup y=some c->x=y
 has:∀x,(X.env.kindOf x=some .cell∨X.env.kindOf x=some .free)->∃c,X.env.cells.lookup x=some c
 cab:∀x c,X.fn x=true->X.env.cells.lookup x=some c->X.s₀.heap.objs.size<=c
 hd:X.calm=true->X.A.handled=none
 frames:X.A.frames=some X.stack
 stk:X.stack=X.outer∨(X.stack=X.env::X.outer/\X.env.frame=some X.env.locals)
 exf:∀b∈X.ex,b≠X.env.locals/\∀x c,X.env.cells.lookup x=some c->c≠b
 bs:∀b o,X.base.get? b=some o->X.s₀.heap.get? b=some o/\X.H₀ b=none
 bsz:X.base.objs.size<=X.s₀.heap.objs.size
 noex:∀b o,X.base.get? b=some o->b∉X.ex
 exfs:∀b∈X.ex,b∉X.fs
 funs:X.s₀.heap.FunFrames X.base X.outer
 frf:∀b∈X.fs,X.H₀ b=none
structure Inv(X:Cx)(J3:Zd)(σ:List (Option V))(H:Hp)(s:Shared):Prop where
 ok:X.Ok
 os:s.os=X.s₀.os
 bare:mT s.gens
 base:Un X.fs X.ex X.H₀ H X.s₀.heap s.heap
 loc:∃m,s.heap.Ns X.env.locals m/\∀(i:Nat) (x:Str) (v:V),X.N[i]?=some x->σ[i]?=some (some v)->Vis X.env.scope x->∃u,RelV v u/\Look X.env s.heap m x u
 cell:∀x c,X.env.cells.lookup x=some c->∃v,s.heap.IsCell c v
 free:H X.env.locals=none
 freeC:∀x c,X.env.cells.lookup x=some c->H c=none
 pin:∀p∈X.pn++J3,s.heap.get? p.1=some p.2/\H p.1=none/\p.1≠X.env.locals/\p.1∉X.fs/\∀v,p.2.data≠.cell v
 hok:lB X.prog X.w X.K H s.heap
 len:σ.length=X.N.length
section
variable{X:Cx}{J3:Zd}{σ:List (Option V)}{H H':Hp}{s:Shared}{h':Heap}
theorem Cx.Ok.nofr(ok:X.Ok){b:Addr}{o:Obj}(e:X.base.get? b=some o):b∉X.fs:=fun hb=>by
 have:=(ok.funs.mem hb).1;rw[e]at this;cases this
theorem Inv.bs(I:Inv X J3 σ H s):∀b o,X.base.get? b=some o->s.heap.get? b=some o/\H b=none:=fun b o e =>
 ⟨I.base.keep b o (I.ok.bs b o e).1 (I.ok.bs b o e).2 (I.ok.nofr e) (I.ok.noex b o e),I.base.free b o (I.ok.bs b o e).1 (I.ok.bs b o e).2 (I.ok.noex b o e)⟩
theorem Inv.bk(I:Inv X J3 σ H s):∀b o,X.base.get? b=some o->s.heap.get? b=some o:=fun b o e=>(I.bs b o e).1
theorem Inv.mod(I:Inv X J3 σ H s):Mod X.K X.mg X.base:=I.ok.mod
theorem Inv.kIn(I:Inv X J3 σ H s):X.K.In s.heap:=I.ok.mod.kin.keeps I.bk
theorem Inv.fr(I:Inv X J3 σ H s):∃m,Fr X.base X.env.locals s.heap m :=
 let⟨m,hn,_⟩:=I.loc
 ⟨m,hn,I.bk,bh I.ok.bsz I.ok.above⟩
theorem Inv.lt(I:Inv X J3 σ H s):X.env.locals<s.heap.objs.size:=let⟨_,hn,_⟩:=I.loc;hn.lt
theorem Inv.sz(I:Inv X J3 σ H s):X.s₀.heap.objs.size<=s.heap.objs.size:=bh I.ok.above (fh I.lt)
theorem Inv.nofs(I:Inv X J3 σ H s){a:Addr}(h:s.heap.objs.size<=a):a∉X.fs:=fun hb=>by
 obtain⟨_,o,ho,_⟩:=I.ok.funs.mem hb;exact absurd (hU (bo ho) (bh I.sz h)) (pd _)
theorem Inv.cne(I:Inv X J3 σ H s):∀x c,X.env.cells.lookup x=some c->c≠X.env.locals:=fun x c e z=>by
 obtain⟨v,o,ho,hd⟩:=I.cell x c e;obtain⟨m,⟨o',es,ep,ho',hd',_⟩,_⟩:=I.loc;rw[z,ho']at ho;cases ho;rw[hd']at hd;cases hd
theorem Inv.funs(I:Inv X J3 σ H s):s.heap.FunFrames X.base X.outer:=by
 have all:∀(l:List Env),(∀b∈BN l,b∈X.fs)->X.s₀.heap.FunFrames X.base l->s.heap.FunFrames X.base l:=by
  intro l
  induction l with
  |nil=>intro _ _;trivial
  |cons env r ih =>
   intro hs hl;obtain⟨hk,⟨L,o,hf,hn,ho,hd⟩,hr⟩:=hl;have hL:L∈X.fs:=hs L (by unfold BN;rw[tD,hf];exact fx);obtain⟨sl,e⟩:=I.base.slot L o ho (I.ok.frf L hL) hL fun z=>I.ok.exfs L z hL;exact⟨hk,⟨L,_,hf,hn,e,hd⟩,ih (fun b hb=>hs b (by unfold BN;rw[tD,hf];exact fw _ hb)) hr⟩
 exact all X.outer (fun _ hb=>hb) I.ok.funs
theorem Inv.stack(I:Inv X J3 σ H s):s.heap.FunFrames X.base X.stack:=by
 rcases I.ok.stk with e|⟨e,hf⟩
 ·rw[e];exact I.funs
 ·rw[e];obtain⟨m,hn,_⟩:=I.loc;refine .cons (by rw[I.ok.kind];decide) hf hn ?_ I.funs;exact Heap.get?_none_of_le (bh I.ok.bsz I.ok.above)
theorem Inv.stkSub(I:Inv X J3 σ H s):∀b∈BN X.stack,b∈X.env.locals::X.fs:=fun b hb=>by
 rcases I.ok.stk with e|⟨e,hf⟩
 ·rw[e]at hb;exact fw _ hb
 ·rw[e]at hb;unfold BN at hb;rw[tD,hf]at hb;exact hb
theorem Inv.stkFree(I:Inv X J3 σ H s):∀b∈BN X.stack,H b=none:=fun b hb=>by
 rcases cv.mp (I.stkSub b hb)with e|hb
 ·rw[e];exact I.free
 ·obtain⟨_,o,ho,_⟩:=I.ok.funs.mem hb;exact I.base.free b o ho (I.ok.frf b hb) fun z=>I.ok.exfs b z hb
theorem Inv.step{g':Array GenState}{t':Nat}{d':Drawn}{ch:Ze}(I:Inv X J3 σ H s)
  (hch:∀b∈ch,(b∈X.ex∨X.s₀.heap.objs.size<=b)/\b≠X.env.locals/\(∀x c,X.env.cells.lookup x=some c->c≠b)/\∀p∈X.pn++J3,p.1≠b)
  (keep:∀b o,b≠X.env.locals->b∉X.fs->b∉ch->s.heap.get? b=some o->H b=none->h'.get? b=some o)
  (slot:∀b o,b≠X.env.locals->b∈X.fs->b∉ch->s.heap.get? b=some o->H b=none->∃sl,h'.get? b=some { o with slots:=sl }) (free:∀b o,b∉ch->s.heap.get? b=some o->H b=none->H' b=none)
  (there:∀b o,b∉ch->s.heap.get? b=some o->∃o',h'.get? b=some o')
  (tups:∀b xs,H b=some (.tup xs)->H' b=some (.tup xs)) (frzs:∀b o u,H b=some (.frz o u)->H' b=some (.frz o u)) (tbls:∀b ps,H b=some (.tbl ps)->∃more,H' b=some (.tbl (ps++more)))
  (ns:∀m,s.heap.Ns X.env.locals m->h'.Ns X.env.locals m) (hok:lB X.prog X.w X.K H' h') (hg:mT g') :
  Inv X J3 σ H' { s with heap:=h',gens:=g',drawn:=d',toks:=t' }:=by
 have neL:∀b o,X.s₀.heap.get? b=some o->b≠X.env.locals:=fun b o e=>cR (hU (bo e) I.ok.above);have neC:∀b o,X.s₀.heap.get? b=some o->b∉X.ex->b∉ch:=fun b o e hx hb=>by
  rcases(hch b hb).1 with z|z
  ·exact hx z
  ·exact absurd (hU (bo e) z) (pd _)
 have cellK:∀x c,X.env.cells.lookup x=some c->∀v,s.heap.IsCell c v->h'.IsCell c v:=fun x c e v ⟨o,ho,hd⟩=>by
  have nch:c∉ch:=fun z=>(hch c z).2.2.1 x c e rfl;by_cases hc:c∈X.fs
  ·obtain⟨sl,q⟩:=slot c o (I.cne x c e) hc nch ho (I.freeC x c e);exact⟨_,q,hd⟩
  ·exact⟨o,keep c o (I.cne x c e) hc nch ho (I.freeC x c e),hd⟩
 refine⟨I.ok,I.os,hg,⟨fun b o e n hb hx=>?_,fun b o e n hb hx=>?_,fun b o e n hx=>?_,fun b o e hx=>?_,fun b xs e=>tups b xs (I.base.tups b xs e),fun b o xs e=>frzs b o xs (I.base.frzs b o xs e),fun b ps e=>?_⟩,?_,fun x c e=>?_,?_,fun x c e=>?_,fun p hp=>?_,hok,I.len⟩
 ·exact keep b o (neL b o e) hb (neC b o e hx) (I.base.keep b o e n hb hx) (I.base.free b o e n hx)
 ·obtain⟨sl,e1⟩:=I.base.slot b o e n hb hx;obtain⟨sl',e2⟩:=slot b _ (neL b o e) hb (neC b o e hx) e1 (I.base.free b o e n hx);exact⟨sl',e2⟩
 ·obtain⟨o',e1⟩:=I.base.there b o e hx;exact free b o' (neC b o e hx) e1 (I.base.free b o e n hx)
 ·obtain⟨o',e1⟩:=I.base.there b o e hx;exact there b o' (neC b o e hx) e1
 ·obtain⟨m1,e1⟩:=I.base.tbls b ps e;obtain⟨m2,e2⟩:=tbls b _ e1;exact⟨m1++m2,by rw[e2,Array.append_assoc]⟩
 ·obtain⟨m,hn,hl⟩:=I.loc;refine⟨m,ns m hn,fun i x v e1 e2 e3=>?_⟩;obtain⟨u,r,l⟩:=hl i x v e1 e2 e3;refine⟨u,r,?_⟩;rcases l with l|⟨k,c,e,z⟩
  ·exact .inl l
  ·exact .inr ⟨k,c,e,cellK x c e _ z⟩
 ·obtain⟨v,z⟩:=I.cell x c e;exact⟨v,cellK x c e v z⟩
 ·obtain⟨m,⟨o,_,_,ho,_⟩,_⟩:=I.loc;exact free _ o (fun z=>(hch _ z).2.1 rfl) ho I.free
 ·obtain⟨v,o,ho,hd⟩:=I.cell x c e;exact free c o (fun z=>(hch c z).2.2.1 x c e rfl) ho (I.freeC x c e)
 ·obtain⟨e,n,ne,nf,d⟩:=I.pin p hp;have nch:p.1∉ch:=fun z=>(hch p.1 z).2.2.2 p hp rfl;exact⟨keep p.1 p.2 ne nf nch e n,free p.1 p.2 nch e n,ne,nf,d⟩
theorem Inv.un{t':Nat}(I:Inv X J3 σ H s)(u:Un X.fs [] H H' s.heap h')(hok:lB X.prog X.w X.K H' h'):Inv X J3 σ H' { s with heap:=h',toks:=t' }:=by
 obtain⟨m,⟨o,es,ep,ho,r⟩,_⟩:=id I.loc;obtain⟨sl,hL⟩:=u.any ho I.free (by simp);exact I.step (g':=s.gens) (d':=s.drawn) (ch:=[]) (fun _ z=>nomatch z) (fun b o _ hb _ e n=>u.keep b o e n hb (by simp)) (fun b o _ hb _ e n=>u.slot b o e n hb (by simp)) (fun b o _ e n=>u.free b o e n (by simp)) (fun b o _ e=>u.there b o e (by simp)) u.tups u.frzs u.tbls (fun m' hm=>by
  obtain⟨o',es',ep',ho',r'⟩:=hm;rw[ho]at ho';cases ho';exact⟨_,es',ep',hL,r'⟩) hok I.bare
theorem Inv.call{g':Array GenState}{t':Nat}{d':Drawn}{ch:Ze}(I:Inv X J3 σ H s)(u:Un (BN X.stack) ch H H' s.heap h')(hok:lB X.prog X.w X.K H' h')(hg:mT g')
  (hch:∀b∈ch,(b∈X.ex∨X.s₀.heap.objs.size<=b)/\b≠X.env.locals/\(∀x c,X.env.cells.lookup x=some c->c≠b)/\∀p∈X.pn++J3,p.1≠b) :
  Inv X J3 σ H' { s with heap:=h',gens:=g',drawn:=d',toks:=t' }:=by
 obtain⟨m,⟨o,es,ep,ho,r⟩,_⟩:=id I.loc;obtain⟨sl,hL⟩:=u.any ho I.free fun z=>(hch _ z).2.1 rfl;exact I.step (ch:=ch) hch (fun b o hL hb hc e n=>u.keep b o e n (fun z=>(cv.mp (I.stkSub b z)).elim hL hb) hc) (fun b o _ _ hc e n=>u.any e n hc) (fun b o hc e n=>u.free b o e n hc) (fun b o hc e=>u.there b o e hc) u.tups u.frzs u.tbls (fun m' hm=>by
  obtain⟨o',es',ep',ho',r'⟩:=hm;rw[ho]at ho';cases ho';exact⟨_,es',ep',hL,r'⟩) hok hg
theorem Inv.turned{t':Nat}{it:Addr}(I:Inv X J3 σ H s)(k:∀b o,b≠it->s.heap.get? b=some o->h'.get? b=some o)(hn:H it=none)(hL:it≠X.env.locals)
  (h1:it∈X.ex∨X.s₀.heap.objs.size<=it) (h2:∀x c,X.env.cells.lookup x=some c->c≠it) (h3:∀p∈X.pn++J3,p.1≠it):Inv X J3 σ H { s with heap:=h',toks:=t' }:=by
 have nit:∀b u,H b=some u->b≠it:=fun b u e z=>by rw[z,hn]at e;cases e
 refine I.step (g':=s.gens) (d':=s.drawn) (ch:=[it]) (fun b hb=>?_) (fun b o _ _ hc e _=>k b o (fun z=>hc (by simp[z])) e) (fun b o _ _ hc e _=>⟨o.slots,k b o (fun z=>hc (by simp[z])) e⟩) (fun _ _ _ _ n=>n)
  (fun b o hc e=>⟨o,k b o (fun z=>hc (by simp[z])) e⟩) (fun _ _ e=>e) (fun _ _ _ e=>e) (fun b ps e=>⟨#[],by rw[e];simp⟩) (fun m hm=>?_) (fun b u e=>?_) I.bare
 ·have e:b=it:=by simpa using hb
  subst e;exact⟨h1,hL,h2,h3⟩
 ·obtain⟨o,es,ep,ho,r⟩:=hm;exact⟨o,es,ep,k _ o (gF hL) ho,r⟩
 ·refine(I.hok b u e).stay (fun c v hc q=>k c v ?_ q) (fun _ q=>q) fun _ _ q=>q;rcases hc with z|z
  ·rw[z];exact nit b u e
  ·exact nit c _ z
theorem Inv.tok(I:Inv X J3 σ H s)(t:Nat):Inv X J3 σ H { s with toks:=t }:=I.un (h':=s.heap) (t':=t) Un.refl I.hok
theorem Inv.kept{t':Nat}(I:Inv X J3 σ H s)(k:∀b u,s.heap.get? b=some u->h'.get? b=some u):Inv X J3 σ H { s with heap:=h',toks:=t' }:=I.un (Un.kept k) (I.hok.kept k)
theorem Inv.laid{a:Addr}{o:HO}{t':Nat}(I:Inv X J3 σ H s)(k:∀b u,s.heap.get? b=some u->h'.get? b=some u)(hp:s.heap.objs.size<=a)(new:cj X.prog X.w X.K (upd H a o) h' a o):
  Inv X J3 σ (upd H a o) { s with heap:=h',toks:=t' }:=I.un (Un.laid k hp (I.hok.fresh hp)) (I.hok.laid k hp new)
theorem Inv.write{x e:Addr}{o:HO}{t':Nat}(I:Inv X J3 σ H s)(mu:GI (H x))(he:e=x∨H e=some (.own x))(k:∀b u,b≠e->s.heap.get? b=some u->h'.get? b=some u)(heo:∃u,h'.get? e=some u)
  (new:cj X.prog X.w X.K (upd H x o) h' x o):Inv X J3 σ (upd H x o) { s with heap:=h',toks:=t' }:=I.un (Un.write mu he k heo) (I.hok.write mu he k heo new)
theorem Inv.weak{σ':List (Option V)}(I:Inv X J3 σ H s)(hl:σ'.length=σ.length)(w:∀(i:Nat) v,σ'[i]?=some (some v)->σ[i]?=some (some v)):Inv X J3 σ' H s :=
 ⟨I.ok,I.os,I.bare,I.base,let⟨m,hn,hl'⟩:=I.loc;⟨m,hn,fun i x v e1 e2 e3=>hl' i x v e1 (w i v e2) e3⟩,I.cell,I.free,I.freeC,I.pin,I.hok,hl.trans I.len⟩
theorem Inv.pins_of{pins':Zd}(I:Inv X J3 σ H s)(h:∀p∈pins',s.heap.get? p.1=some p.2/\H p.1=none/\p.1≠X.env.locals/\p.1∉X.fs/\∀v,p.2.data≠.cell v):Inv X pins' σ H s :=
 ⟨I.ok,I.os,I.bare,I.base,I.loc,I.cell,I.free,I.freeC,fun p hp=>(bN.mp hp).elim (fun z=>I.pin p (dq _ z)) (h p),I.hok,I.len⟩
theorem xc{N:Zb}(hN:N.Nodup){i j:Nat}{x:Str}(a:N[i]?=some x)(b:N[j]?=some x):i=j:=by
 obtain⟨h1,e1⟩:=cE.mp a;obtain⟨h2,e2⟩:=cE.mp b;exact(List.getElem_inj hN).mp (e1.trans e2.symm)
theorem tN{M:Model}{A:Around}{E:Zc}{i:Nat}{x:Str}{v:V}{u:Value}{Q:Unit->Shared->Prop}(I:Inv X J3 σ H s)(hN:X.N.Nodup)(hi:X.N[i]?=some x)(hx:Loc X.env.scope x)(r:RelV v u)
  (h:∀s',Inv X J3 (σ.set i (some v)) H s'->(∃a,iE a s.heap s'.heap/\(a=X.env.locals∨X.env.cells.lookup x=some a))->Q () s') (hf:X.fn x=true∨X.env.scope.names.lookup x=some .local:=by first|exact .inl rfl|exact .inr rfl|assumption):wpAny M A (storeName X.env x u) Q E s:=by
 obtain⟨m,hn,hl⟩:=id I.loc;have hcls:(X.env.scope.kind==.class || (X.env.scope.kind==.module && X.env.locals != X.env.globals))=false:=by rw[I.ok.kind];rfl
 have hiσ:i<σ.length:=by rw[I.len];exact(cE.mp hi).1
 have cne:=I.cne;have tracked:∀{a:Addr}{h':Heap},(∃o,s.heap.get? a=some o/\H a=none)->iE a s.heap h'->lB X.prog X.w X.K H h':=fun{a h'} ha hs b ob e=>by
  obtain⟨_,_,hfree⟩:=ha;refine(I.hok b ob e).stay (fun c w' hc q=>(hs.2 c ?_).trans q) (fun _ q=>q) fun _ _ q=>q;rintro rfl;rcases hc with rfl|hc
  ·rw[hfree]at e;cases e
  ·rw[hfree]at hc;cases hc
 rcases hx with hk|hk
 ·refine wpAny_storeName_local hk hn (fun h' hn' hs=>?_) hcls;obtain⟨oL,_,_,hoL,_⟩:=id hn;refine h _ ⟨I.ok,I.os,I.bare,⟨fun b o e n hb hx=>?_,fun b o e n hb hx=>?_,I.base.free,fun b o e hx=>?_,I.base.tups,I.base.frzs,I.base.tbls⟩,⟨_,hn',fun j y v' e1 e2 e3=>?_⟩,fun y c e=>?_,I.free,I.freeC,fun p hp=>?_,tracked ⟨oL,hoL,I.free⟩ hs,by simpa using I.len⟩ ⟨_,hs,.inl rfl⟩
  ·exact(hs.2 b (cR (hU (bo e) I.ok.above))).trans (I.base.keep b o e n hb hx)
  ·obtain⟨sl,e1⟩:=I.base.slot b o e n hb hx;exact⟨sl,(hs.2 b (cR (hU (bo e) I.ok.above))).trans e1⟩
  ·obtain⟨o',e1⟩:=I.base.there b o e hx;exact⟨o',(hs.2 b (cR (hU (bo e) I.ok.above))).trans e1⟩
  ·by_cases hj:j=i
   ·subst hj;rw[hi]at e1;cases e1;rw[List.getElem?_set_self hiσ]at e2;cases e2;exact⟨u,r,.inl ⟨hk,by simp⟩⟩
   ·rw[List.getElem?_set_ne (gF hj)]at e2;obtain⟨u',r',q⟩:=hl j y v' e1 e2 e3;refine⟨u',r',?_⟩;rcases q with⟨k,e⟩|⟨k,c,e,z⟩
    ·refine .inl ⟨k,?_⟩;have:y≠x:=fun e=>hj (xc hN e1 (e▸hi));simp[this,e]
    ·exact .inr ⟨k,c,e,z.sameBut hs (cne y c e)⟩
  ·obtain⟨w',z⟩:=I.cell y c e;exact⟨w',z.sameBut hs (cne y c e)⟩
  ·obtain⟨e,n,ne,nf,d⟩:=I.pin p hp;exact⟨(hs.2 p.1 ne).trans e,n,ne,nf,d⟩
 ·have hfn:X.fn x=true:=by
   rcases hf with z|z
   ·exact z
   ·rw[z]at hk;cases hk
  obtain⟨c,hc⟩:=I.ok.has x (.inl hk);obtain⟨w',z⟩:=I.cell x c hc;refine wpAny_storeName_cell I.ok.kind hk hc z (fun h' hc' hs=>?_);obtain⟨oc,hoc,hocd⟩:=id z;refine h { s with heap:=h' } ⟨I.ok,I.os,I.bare,⟨fun b o e n hb hx=>?_,fun b o e n hb hx=>?_,I.base.free,fun b o e hx=>?_,I.base.tups,I.base.frzs,I.base.tbls⟩,⟨m,hn.sameBut hs (gF (cne x c hc)),fun j y v' e1 e2 e3=>?_⟩,fun y c' e=>?_,I.free,I.freeC,fun p hp=>?_,tracked ⟨oc,hoc,I.freeC x c hc⟩ hs,by simpa using I.len⟩ ⟨c,hs,.inr hc⟩
  ·exact(hs.2 b (cR (hU (bo e) (I.ok.cab x c hfn hc)))).trans (I.base.keep b o e n hb hx)
  ·obtain⟨sl,e1⟩:=I.base.slot b o e n hb hx;exact⟨sl,(hs.2 b (cR (hU (bo e) (I.ok.cab x c hfn hc)))).trans e1⟩
  ·obtain⟨o',e1⟩:=I.base.there b o e hx;exact⟨o',(hs.2 b (cR (hU (bo e) (I.ok.cab x c hfn hc)))).trans e1⟩
  ·by_cases hj:j=i
   ·subst hj;rw[hi]at e1;cases e1;rw[List.getElem?_set_self hiσ]at e2;cases e2;exact⟨u,r,.inr ⟨.inl hk,c,hc,hc'⟩⟩
   ·rw[List.getElem?_set_ne (gF hj)]at e2;obtain⟨u',r',q⟩:=hl j y v' e1 e2 e3;refine⟨u',r',?_⟩;rcases q with q|⟨k,c',e,z'⟩
    ·exact .inl q
    ·refine .inr ⟨k,c',e,z'.sameBut hs ?_⟩;rintro rfl;exact hj (xc hN e1 (I.ok.inj _ _ _ e hc▸hi))
  ·by_cases hcc:c'=c
   ·subst hcc;exact⟨_,hc'⟩
   ·obtain⟨w2,z2⟩:=I.cell y c' e;exact⟨w2,z2.sameBut hs hcc⟩
  ·obtain⟨e,n,ne,nf,d⟩:=I.pin p hp;refine⟨(hs.2 p.1 ?_).trans e,n,ne,nf,d⟩;intro q;rw[q,hoc]at e;have q':oc=p.2:=ef e;exact d w' (by rw[<-q'];exact hocd)
theorem wN{M:Model}{A:Around}{E:Zc}{i:Nat}{x:Str}{v:V}{u:Value}{Q:Unit->Shared->Prop}(I:Inv X J3 σ H s)(hN:X.N.Nodup)(hi:X.N[i]?=some x)(hx:Loc X.env.scope x)(r:RelV v u)
  (h:∀s',Inv X J3 (σ.set i (some v)) H s'->Q () s') (hf:X.fn x=true∨X.env.scope.names.lookup x=some .local:=by first|exact .inl rfl|exact .inr rfl|assumption):wpAny M A (storeName X.env x u) Q E s :=
 tN I hN hi hx r (fun s' I' _=>h s' I') hf
theorem Inv.call'{s':Shared}{ch:Ze}(I:Inv X J3 σ H s)(ho:s'.os=s.os)(u:Un (BN X.stack) ch H H' s.heap s'.heap)(hok:lB X.prog X.w X.K H' s'.heap)(hg:mT s'.gens)
  (hch:∀b∈ch,(b∈X.ex∨X.s₀.heap.objs.size<=b)/\b≠X.env.locals/\(∀x c,X.env.cells.lookup x=some c->c≠b)/\∀p∈X.pn++J3,p.1≠b):Inv X J3 σ H' s':=by
 obtain⟨h',g',d',t',o'⟩:=s';have e:o'=s.os:=ho;subst e;exact I.call (g':=g') (t':=t') (d':=d') u hok hg hch
end
abbrev XK:=Value->Option Addr->Hp->Prop
abbrev St:=List (Option V)
abbrev VK:=V->Hp->Prop
abbrev TE:=St->Hp->VK->Prop
abbrev TT:=St->Hp->(Bool->Hp->Prop)->Prop
abbrev TA:=St->Hp->(List V->Hp->Prop)->Prop
structure mK where
 nx:St->Hp->Prop
 rt:VK
 bk:St->Hp->Prop:=fun _ _=>False
 ct:St->Hp->Prop:=fun _ _=>False
abbrev bJ(Q:VK):mK:={ nx:=fun _ H=>Q .non H,rt:=Q }
abbrev TS:=mK->St->Hp->Prop
def EP(X:Cx)(J3:Zd)(σ:St)(Q:VK)(u:Value)(s':Shared):Prop:=∃v H',Inv X J3 σ H' s'/\RelV v u/\Q v H'
def TP(X:Cx)(J3:Zd)(σ:St)(Q:Bool->Hp->Prop)(b:Bool)(s':Shared):Prop:=∃H',Inv X J3 σ H' s'/\Q b H'
def AP(X:Cx)(J3:Zd)(σ:St)(Q:List V->Hp->Prop)(us:Zf)(s':Shared):Prop:=∃vs H',Inv X J3 σ H' s'/\bg vs us/\Q vs H'
def SP(X:Cx)(J3:Zd)(D:mK)(f:Flow)(s':Shared):Prop :=
 match f with
 |.next=>∃σ' H',Inv X J3 σ' H' s'/\D.nx σ' H'
 |.brk=>∃σ' H',Inv X J3 σ' H' s'/\D.bk σ' H'
 |.cont=>∃σ' H',Inv X J3 σ' H' s'/\D.ct σ' H'
 |.ret u=>∃v σ' H',Inv X J3 σ' H' s'/\RelV v u/\D.rt v H'
def PE(X:Cx)(e:Expr)(t:TE):Prop :=
 ∀(J3:Zd) (s:Shared) (σ:St) (H:Hp) (Q:VK),Inv X J3 σ H s->t σ H Q->wpAny (model X.prog X.w) X.A (eval e X.env) (EP X J3 σ Q) X.xe s
def PT(X:Cx)(e:Expr)(t:TT):Prop :=
 ∀(J3:Zd) (s:Shared) (σ:St) (H:Hp) (Q:Bool->Hp->Prop),Inv X J3 σ H s->t σ H Q->wpAny (model X.prog X.w) X.A (isTrue e X.env (eval e X.env)) (TP X J3 σ Q) X.xe s
def PW(X:Cx)(e:Expr)(t:TT):Prop :=
 ∀(whole:Sem Value) (J3:Zd) (s:Shared) (σ:St) (H:Hp) (Q:Bool->Hp->Prop),Inv X J3 σ H s->t σ H Q->wpAny (model X.prog X.w) X.A (isTrue e X.env whole) (TP X J3 σ Q) X.xe s
theorem PW.pt{X:Cx}{e:Expr}{t:TT}(h:PW X e t):PT X e t:=h _
def PA(X:Cx)(es:List Expr)(t:TA):Prop :=
 ∀(pos:Pos) (J3:Zd) (s:Shared) (σ:St) (H:Hp) (Q:List V->Hp->Prop),Inv X J3 σ H s->t σ H Q->wpAny (model X.prog X.w) X.A (spliced (backTo pos (aQ es X.env))) (AP X J3 σ Q) X.xe s
def PS(X:Cx)(st:Stmt)(t:TS):Prop :=
 ∀(J3:Zd) (s:Shared) (σ:St) (H:Hp) (D:mK),Inv X J3 σ H s->t D σ H->wpAny (model X.prog X.w) X.A (exec st X.env) (SP X J3 D) X.xe s
def xP(X:Cx)(st:List Stmt)(t:TS):Prop :=
 ∀(J3:Zd) (s:Shared) (σ:St) (H:Hp) (D:mK),Inv X J3 σ H s->t D σ H->wpAny (model X.prog X.w) X.A (execs st X.env) (SP X J3 D) X.xe s
theorem cr{α:Type}{t:Sem α}{Q Q':α->Shared->Prop}{M:Model}{A:Around}{E:Zc}{s:Shared}(h:wpAny M A t Q E s)(hQ:∀a s,Q a s->Q' a s):wpAny M A t Q' E s:=iD h hQ fun _ _ x=>x
end L2
namespace L2
open PySem PySem.Spec PyProof.Rows
section
variable{X:Cx}
def cL(i:Nat):TE:=fun σ H Q=>∃v,σ[i]?=some (some v)/\Q v H
abbrev V0:TE:=cL 0
abbrev V1:TE:=cL 1
abbrev V2:TE:=cL 2
abbrev V3:TE:=cL 3
abbrev V4:TE:=cL 4
abbrev V5:TE:=cL 5
abbrev V6:TE:=cL 6
abbrev V7:TE:=cL 7
abbrev V8:TE:=cL 8
abbrev V9:TE:=cL 9
abbrev pE:TE:=cL 10
abbrev EO:TE:=cL 11
abbrev V12:TE:=cL 12
def tC(v:V):TE:=fun _ H Q=>Q v H
theorem FC{i:Nat}{x:Str}{pos:Pos}(hN:X.N[i]?=some x)(hv:Vis X.env.scope x)(hd:(x==("__debug__":Str))=false:=by decide)(hcd:(x==("__classdict__":Str))=false:=by decide):PE X (.Name x pos) (cL i):=by
 intro J3 s σ H Q I h;obtain⟨v,e,h⟩:=h;obtain⟨m,hn,hl⟩:=I.loc;obtain⟨u,r,l⟩:=hl i x v hN e hv;have fin:EP X J3 σ Q u s:=⟨v,H,I,r,h⟩;rcases l with⟨hk,hm⟩|⟨hk,c,hc,hcell⟩
 ·exact wpAny_Name (wpAny_loadName_local I.ok.kind hk hn hm fin) hd
 ·rcases hk with hk|hk
  ·exact wpAny_Name (wpAny_loadName_cell I.ok.kind hk hc hcell fin) hd
  ·exact wpAny_Name (wpAny_loadName_free I.ok.kind hk hc hcell fin hcd) hd
theorem af{i j pos}:PE X (.Constant (.int i) j pos) (tC (.int i)):=fun _ _ _ H _ I h=>wpAny_Constant_int ⟨.int i,H,I.tok _,⟨_,rfl⟩,h⟩
theorem cH{b j pos}:PE X (.Constant (.bool b) j pos) (tC (.bl b)):=fun _ _ _ H _ I h=>Constant_bool ⟨.bl b,H,I,rfl,h⟩
theorem yE{j pos}:PE X (.Constant .none j pos) (tC .non):=fun _ _ _ H _ I h=>Constant_none ⟨.non,H,I,rfl,h⟩
theorem bP{x j pos}:PE X (.Constant (.str x) j pos) (tC (.str x)):=fun _ _ _ H _ I h=>Calls.Constant_str ⟨.str x,H,I.tok _,⟨_,rfl⟩,h⟩
def Gl(X:Cx)(x:Str):Prop:=X.env.kindOf x=some .globalImplicit
theorem vF{E:Zc}{J3:Zd}{s:Shared}{σ:St}{H:Hp}{x:Str}{u:Value}{pos:Pos}{Q:Zc}(I:Inv X J3 σ H s)(hg:Gl X x)(hm:X.mg x=some u)(h:Q u s)
  (hd:(x==("__debug__":Str))=false:=by decide):wpAny (model X.prog X.w) X.A (eval (.Name x pos) X.env) Q E s :=
 Calls.Name_function_global I.ok.kind hg (Calls.loadGlobal_global (by rw[I.ok.glob];exact I.mod.glob.keeps I.bk) hm h) hd
theorem oP{E:Zc}{J3:Zd}{s:Shared}{σ:St}{H:Hp}{x:Str}{u:Value}{pos:Pos}{Q:Zc}(I:Inv X J3 σ H s)(hg:Gl X x)(hm:X.mg x=none)(hv:iF x=some u)(h:Q u s)
  (hn:x≠"__name__":=by decide) (hd:(x==("__debug__":Str))=false:=by decide):wpAny (model X.prog X.w) X.A (eval (.Name x pos) X.env) Q E s:=by
 obtain⟨mb,h1,h2⟩:=I.mod.blt;exact Calls.Name_function_global I.ok.kind hg (Calls.loadGlobal_builtin (by rw[I.ok.glob];exact I.mod.glob.keeps I.bk) hm (by rw[I.ok.blt];exact h1.keeps I.bk) ((h2 x hn).trans hv) h) hd
theorem Es{x:Str}{v:V}{u:Value}{pos:Pos}(hg:Gl X x)(hm:X.mg x=some u)(r:RelV v u)(hd:(x==("__debug__":Str))=false:=by decide):PE X (.Name x pos) (tC v) :=
 fun _ _ _ H _ I h=>vF I hg hm ⟨v,H,I,r,h⟩ hd
theorem nB{x:Str}{v:V}{u:Value}{pos:Pos}(hg:Gl X x)(hm:X.mg x=none)(hv:iF x=some u)(r:RelV v u)(hn:x≠"__name__":=by decide)(hd:(x==("__debug__":Str))=false:=by decide):PE X (.Name x pos) (tC v) :=
 fun _ _ _ H _ I h=>oP I hg hm hv ⟨v,H,I,r,h⟩ hn hd
variable{a b:Expr}{ta tb:TE}{pos:Pos}
def PC(X:Cx)(op:CmpOp)(a b:Expr)(t:TE):Prop :=
 ∀(J3:Zd) (s:Shared) (σ:St) (H:Hp) (Q:VK),Inv X J3 σ H s->t σ H Q ->
  wpAny (model X.prog X.w) X.A (eval a X.env) (fun v s₁=>wpAny (model X.prog X.w) X.A (eval b X.env) (fun u s₂=>wpAny (model X.prog X.w) X.A (eM op v u) (EP X J3 σ Q) X.xe s₂) X.xe s₁) X.xe s
theorem xf(b:Expr){op:CmpOp}(h:op≠.In)(h2:op≠.NotIn):jW op b=false:=by
 have e1:(op==CmpOp.In)=false:=by cases op<;>first|rfl|exact absurd rfl h
 have e2:(op==CmpOp.NotIn)=false:=by cases op<;>first|rfl|exact absurd rfl h2
 cases b<;>simp[jW,e1,e2]
def Fu(ta:TE):TE:=fun σ H Q=>ta σ H fun x H1=>Q (.bl (decide (x=.non))) H1
def EZ(ta:TE):TE:=fun σ H Q=>ta σ H fun x H1=>Q (.bl (!decide (x=.non))) H1
theorem RelV.none_iff{x:V}{v:Value}(r:RelV x v):(v==Value.none)=decide (x=.non):=by
 cases x with
 |non=>cases r;rfl
 |bl _=>cases r;rfl
 |int _=>obtain⟨t,rfl⟩:=r;rfl
 |str _=>obtain⟨t,rfl⟩:=r;rfl
 |byt _=>obtain⟨t,rfl⟩:=r;rfl
 |flt _=>obtain⟨t,rfl⟩:=r;rfl
 |ref _=>cases r;rfl
 |ty _=>cases r;rfl
theorem CI{j pos'}(ha:PE X a ta):PC X .Is a (.Constant .none j pos') (Fu ta):=by
 intro J3 s σ H Q I h;refine cr (ha J3 s σ H _ I h) fun v s1 ⟨x,H1,I1,r1,q1⟩=>?_;exact Constant_none (is_none_gen ⟨.bl _,H1,I1,by rw[r1.none_iff];rfl,q1⟩)
theorem Ev{j pos'}(ha:PE X a ta):PC X .IsNot a (.Constant .none j pos') (EZ ta):=by
 intro J3 s σ H Q I h;refine cr (ha J3 s σ H _ I h) fun v s1 ⟨x,H1,I1,r1,q1⟩=>?_;exact Constant_none (isnot_none_gen ⟨.bl _,H1,I1,by rw[r1.none_iff];rfl,q1⟩)
def tB(t:TE):TT:=fun σ H Q=>t σ H fun x H1=>∃c,x=.bl c/\Q c H1
theorem rm{op:CmpOp}{t:TE}(h:PC X op a b t)(h1:jW op b=false:=by first|exact xf _ (by decide) (by decide)|rfl):PE X (.Compare a [op] [b] pos) t:=fun J3 s σ H Q I hw=>wpAny_Compare1 (h J3 s σ H Q I hw) h1
theorem dZ{op:CmpOp}{t:TE}(h:PC X op a b t)(h1:jW op b=false:=by first|exact xf _ (by decide) (by decide)|rfl):PT X (.Compare a [op] [b] pos) (tB t):=by
 intro J3 s σ H Q I hw;refine wpAny_isTrue_Compare1 (cr (h J3 s σ H _ I hw) fun v s1 h1=>cr h1 fun u s2 h2=>cr h2 fun c s3 ⟨x,H1,I1,r1,q1⟩=>?_) h1;obtain⟨d,rfl,q⟩:=q1;cases r1;exact mU ⟨H1,I1,q⟩
theorem fb{e:Expr}{t:TE}(h:PE X e t)(he:∀whole,isTrue e X.env whole=(do let v <- whole;pc e.pos;j9 [v] (truthy v)):=by intro _;rfl):PT X e (tB t):=by
 intro J3 s σ H Q I hw;refine isTrue_plain (cr (h J3 s σ H _ I hw) fun v s1 ⟨x,H1,I1,r1,q1⟩=>?_) (he _);obtain⟨d,rfl,q⟩:=q1;cases r1;exact mU ⟨H1,I1,q⟩
variable{tA tB':TT}{rest:List Expr}
def iV(t u:TT):TT:=fun σ H Q=>t σ H fun c H1=>if c=true then u σ H1 Q else Q false H1
def wk(t u:TT):TT:=fun σ H Q=>t σ H fun c H1=>if c=true then Q true H1 else u σ H1 Q
def pJ(t:TT):TT:=fun σ H Q=>t σ H fun c H1=>Q (!c) H1
theorem eV(ha:PT X a tA):PW X (.BoolOp .And [a] pos) tA:=by
 intro wh J3 s σ H Q I h;refine isTrue_and (cr (ha J3 s σ H Q I h) fun c s1 e=>?_);cases c with
 |true=>exact isTrue_and_nil e
 |false=>exact e
theorem iX(ha:PT X a tA):PW X (.BoolOp .Or [a] pos) tA:=by
 intro wh J3 s σ H Q I h;refine isTrue_or (cr (ha J3 s σ H Q I h) fun c s1 e=>?_);cases c with
 |false=>exact isTrue_or_nil e
 |true=>exact e
theorem e_(ha:PT X a tA)(hb:PW X (.BoolOp .And (b::rest) pos) tB'):PW X (.BoolOp .And (a::b::rest) pos) (iV tA tB'):=by
 intro wh J3 s σ H Q I h;refine isTrue_and (cr (ha J3 s σ H _ I h) fun c s1 ⟨H1,I1,q1⟩=>?_);cases c with
 |true=>exact hb wh J3 s1 σ H1 Q I1 q1
 |false=>exact⟨H1,I1,q1⟩
theorem jd(ha:PT X a tA)(hb:PW X (.BoolOp .Or (b::rest) pos) tB'):PW X (.BoolOp .Or (a::b::rest) pos) (wk tA tB'):=by
 intro wh J3 s σ H Q I h;refine isTrue_or (cr (ha J3 s σ H _ I h) fun c s1 ⟨H1,I1,q1⟩=>?_);cases c with
 |true=>exact⟨H1,I1,q1⟩
 |false=>exact hb wh J3 s1 σ H1 Q I1 q1
theorem mo(ha:PT X a tA):PT X (.UnaryOp .Not a pos) (pJ tA):=by
 intro J3 s σ H Q I h;exact isTrue_not (ha J3 s σ H (fun c H1=>Q (!c) H1) I h)
def pi(ta tb:TE):TE:=fun σ H Q=>ta σ H fun x H1=>∃c,x=.bl c/\if c=true then tb σ H1 Q else Q (.bl false) H1
def EY(ta:TE):TE:=fun σ H Q=>ta σ H fun x H1=>∃c,x=.bl c/\Q (.bl (!c)) H1
theorem rk{op}{t:TE}(h:PE X a t):PE X (.BoolOp op [a] pos) t:=fun J3 s σ H Q I hw=>BoolOp_one (h J3 s σ H Q I hw)
theorem mq(ha:PE X a ta)(hb:PE X (.BoolOp .And (b::rest) pos) tb):PE X (.BoolOp .And (a::b::rest) pos) (pi ta tb):=by
 intro J3 s σ H Q I h;refine BoolOp_and (cr (ha J3 s σ H _ I h) fun v s1 ⟨x,H1,I1,r1,q1⟩=>?_);obtain⟨c,rfl,q1⟩:=q1;cases r1;refine mU ?_;cases c with
 |true=>exact hb J3 s1 σ H1 Q I1 q1
 |false=>exact⟨.bl false,H1,I1,rfl,q1⟩
theorem FD(ha:PE X a ta):PE X (.UnaryOp .Not a pos) (EY ta):=by
 intro J3 s σ H Q I h;refine UnaryOp_ (cr (ha J3 s σ H _ I h) fun v s1 ⟨x,H1,I1,r1,q1⟩=>?_);obtain⟨c,rfl,q1⟩:=q1;cases r1;exact not_of (mU ⟨.bl (!c),H1,I1,rfl,q1⟩)
end
end L2
namespace L2
open PySem PySem.Spec PyProof.Rows
def aA(K:Za)(H:Hp)(a:Addr)(xs:List V):Prop :=
 Rd H a (.lst xs) ∨
  ∃(o:Obj) (its:Array Value) (n:Nat),K.lookup a=some o/\o.cls=.type "list"/\o.dict=none/\o.data=.seq its n/\its.size<=ah/\bg xs its.toList
def aY(K:Za)(H:Hp)(a:Addr)(xs:List V):Prop :=
 Rd H a (.tup xs) ∨
  ∃(o:Obj) (its:Array Value) (n:Nat),K.lookup a=some o/\o.cls=.type "tuple"/\o.data=.seq its n/\its.size<=ah/\bg xs its.toList
def absV:Value->Option V
 |.none=>some .non
 |.bool b=>some (.bl b)
 |.int i _=>some (.int i)
 |.str x _=>some (.str x)
 |.bytes b _=>some (.byt b)
 |.float b _=>some (.flt b)
 |.ref a=>some (.ref a)
 |.type n=>some (.ty n)
 |_=>none
theorem RelV.abs{x:V}{u:Value}(r:RelV x u):absV u=some x:=by
 cases x with
 |non=>cases r;rfl
 |bl _=>cases r;rfl
 |int _=>obtain⟨t,rfl⟩:=r;rfl
 |str _=>obtain⟨t,rfl⟩:=r;rfl
 |byt _=>obtain⟨t,rfl⟩:=r;rfl
 |flt _=>obtain⟨t,rfl⟩:=r;rfl
 |ref _=>cases r;rfl
 |ty _=>cases r;rfl
theorem RelV.inj{x y:V}{u:Value}(r:RelV x u)(q:RelV y u):x=y:=ef (r.abs.symm.trans q.abs)
theorem bg.inj:∀{xs ys:List V}{us:Zf},bg xs us->bg ys us->xs=ys
 |_,_,_,.nil,.nil=>rfl
 |_,_,_,.cons r t,.cons r' t'=>by rw[r.inj r',bg.inj t t']
section
variable{X:Cx}{J3:Zd}{σ:St}{H:Hp}{s:Shared}{a:Addr}{xs ys:List V}
theorem aA.of{K:Za}(h:H a=some (.lst xs)):aA K H a xs:=.inl (.inl h)
theorem aY.of{K:Za}(h:H a=some (.tup xs)):aY K H a xs:=.inl (.inl h)
theorem Inv.list(I:Inv X J3 σ H s)(h:aA X.K H a xs):∃its:List Value,bg xs its/\PlainL s.heap a its.toArray/\xs.length<=ah:=by
 rcases h with h|⟨o,its,n,hk,hc,hd,hs,hz,r⟩
 ·obtain⟨z,its,n,r,e⟩:=h.ok I.hok;exact⟨its,r,⟨_,n,e,rfl,rfl,rfl⟩,z⟩
 ·refine⟨its.toList,r,⟨o,n,I.kIn a o hk,hc,hd,by simpa using hs⟩,?_⟩;have e:=r.length;simp only[j8]at e;omega
theorem Inv.tuple(I:Inv X J3 σ H s)(h:aY X.K H a xs):∃its:List Value,bg xs its/\IsTup s.heap a its.toArray/\xs.length<=ah:=by
 rcases h with h|⟨o,its,n,hk,hc,hs,hz,r⟩
 ·obtain⟨z,its,r,p⟩:=h.ok I.hok;exact⟨its,r,p,z⟩
 ·refine⟨its.toList,r,⟨o,I.kIn a o hk,hc,n,by simpa using hs⟩,?_⟩;have e:=r.length;simp only[j8]at e;omega
theorem Inv.list_inj(I:Inv X J3 σ H s)(h:aA X.K H a xs)(h':aA X.K H a ys):xs=ys:=by
 obtain⟨its,r,⟨o,n,e,_,_,d⟩,_⟩:=I.list h;obtain⟨its',r',⟨o',n',e',_,_,d'⟩,_⟩:=I.list h';rw[e]at e';cases e';rw[d]at d';injection d' with d1 _;have:its=its':=by simpa using congrArg Array.toList d1
 subst this;exact r.inj r'
theorem Inv.tuple_inj(I:Inv X J3 σ H s)(h:aY X.K H a xs)(h':aY X.K H a ys):xs=ys:=by
 obtain⟨its,r,⟨o,e,_,n,d⟩,_⟩:=I.tuple h;obtain⟨its',r',⟨o',e',_,n',d'⟩,_⟩:=I.tuple h';rw[e]at e';cases e';rw[d]at d';injection d' with d1 _;have:its=its':=by simpa using congrArg Array.toList d1
 subst this;exact r.inj r'
end
abbrev Cx.wish(X:Cx)(E:Zc):Cx:={ X with xe:=E }
abbrev Cx.nox(X:Cx):Cx:=X.wish fun _ _=>False
theorem Cx.Ok.wish{X:Cx}(ok:X.Ok)(E:Zc):(X.wish E).Ok :=
 ⟨ok.mod,ok.kind,ok.glob,ok.blt,ok.above,ok.inj,ok.has,ok.cab,ok.hd,ok.frames,ok.stk,ok.exf,ok.bs,ok.bsz,ok.noex,ok.exfs,ok.funs,ok.frf⟩
theorem Cx.Ok.unwish{X:Cx}{E:Zc}(ok:(X.wish E).Ok):X.Ok :=
 ⟨ok.mod,ok.kind,ok.glob,ok.blt,ok.above,ok.inj,ok.has,ok.cab,ok.hd,ok.frames,ok.stk,ok.exf,ok.bs,ok.bsz,ok.noex,ok.exfs,ok.funs,ok.frf⟩
section
variable{X:Cx}{J3:Zd}{σ:St}{H:Hp}{s:Shared}{E:Zc}
theorem Inv.wish(I:Inv X J3 σ H s)(E:Zc):Inv (X.wish E) J3 σ H s:=⟨I.ok.wish E,I.os,I.bare,I.base,I.loc,I.cell,I.free,I.freeC,I.pin,I.hok,I.len⟩
theorem Inv.unwish(I:Inv (X.wish E) J3 σ H s):Inv X J3 σ H s:=⟨I.ok.unwish,I.os,I.bare,I.base,I.loc,I.cell,I.free,I.freeC,I.pin,I.hok,I.len⟩
theorem SP.unwish{D:mK}{f:Flow}{s':Shared}(h:SP (X.wish E) J3 D f s'):SP X J3 D f s':=by
 cases f with
 |next=>obtain⟨σ',H',I,q⟩:=h;exact⟨σ',H',I.unwish,q⟩
 |brk=>obtain⟨σ',H',I,q⟩:=h;exact⟨σ',H',I.unwish,q⟩
 |cont=>obtain⟨σ',H',I,q⟩:=h;exact⟨σ',H',I.unwish,q⟩
 |ret u=>obtain⟨v,σ',H',I,r,q⟩:=h;exact⟨v,σ',H',I.unwish,r,q⟩
theorem xP.nox{st:List Stmt}{t:TS}(h:xP X.nox st t):xP X st t:=fun J3 s σ H D I hw =>
 iD (h J3 s σ H D (I.wish _) hw) (fun _ _ q=>q.unwish) fun _ _ z=>i9 z
end
section
variable{X:Cx}{st:Stmt}{rest:List Stmt}{t u:TS}{e:Expr}{te:TE}{pos:Pos}
def aR:TS:=fun D σ H=>D.nx σ H
def ap(t u:TS):TS:=fun D σ H=>t { D with nx:=u D } σ H
theorem az:xP X [] aR:=fun _ _ σ H _ I h=>zK ⟨σ,H,I,h⟩
theorem ac(h1:PS X st t)(h2:xP X rest u):xP X (st::rest) (ap t u):=by
 intro J3 s σ H D I h;refine wpAny_execs_cons (cr (h1 J3 s σ H { D with nx:=u D } I h) fun f s1 q=>?_);cases f with
 |next =>
  obtain⟨σ',H',I',q⟩:=q;exact h2 J3 s1 σ' H' D I' q
 |ret v=>exact q
 |brk=>exact q
 |cont=>exact q
theorem ae(h1:PS X st t):xP X [st] t:=by
 intro J3 s σ H D I h;refine wpAny_execs_cons (cr (h1 J3 s σ H D I h) fun f s1 q=>?_);cases f with
 |next=>exact zK q
 |ret v=>exact q
 |brk=>exact q
 |cont=>exact q
theorem Inv.quiet{J3:Zd}{σ:St}{H:Hp}{s:Shared}(I:Inv X J3 σ H s):interactive X.env=false:=by simp[interactive,I.ok.kind]
def cb(te:TE):TS:=fun D σ H=>te σ H fun _ H1=>D.nx σ H1
theorem br(he:PE X e te)(hs:pb e none pos.line X.env=pure false:=by rfl):PS X (.Expr e pos) (cb te):=by
 intro J3 s σ H D I h;exact wpAny_Expr_any (cr (he J3 s σ H _ I h) fun v s1 ⟨x,H1,I1,r1,q1⟩=>⟨σ,H1,I1,q1⟩) I.quiet hs
def aU(te:TE):TS:=fun D σ H=>te σ H D.rt
theorem au(he:PE X e te):PS X (.Return (some e) pos) (aU te):=by
 intro J3 s σ H D I h;exact wpAny_Return_some (cr (he J3 s σ H _ I h) fun v s1 ⟨x,H1,I1,r1,q1⟩=>⟨x,σ,H1,I1,r1,q1⟩)
def bB(c:TT)(t u:TS):TS:=fun D σ H=>c σ H fun b H1=>if b=true then t D σ H1 else u D σ H1
theorem bb{c:Expr}{a b:List Stmt}{tc:TT}(hc:PT X c tc)(ha:xP X a t)(hb:xP X b u):PS X (.If c a b pos) (bB tc t u):=by
 intro J3 s σ H D I h;refine wpAny_If (cr (hc J3 s σ H _ I h) fun d s1 ⟨H1,I1,q1⟩=>?_);cases d with
 |true=>exact ha J3 s1 σ H1 D I1 q1
 |false=>exact hb J3 s1 σ H1 D I1 q1
def vd:TS:=fun _ _ _=>False
theorem rc:PS X st vd:=fun _ _ _ _ _ _ h=>h.elim
end
abbrev TG:=V->St->Hp->(St->Hp->Prop)->Prop
abbrev BP:=List V->St->Hp->(St->Hp->Prop)->Prop
def PG(X:Cx)(target:Expr)(t:TG):Prop :=
 ∀(J3:Zd) (s:Shared) (σ:St) (H:Hp) (v:V) (u:Value) (Q:St->Hp->Prop),Inv X J3 σ H s->RelV v u->t v σ H Q ->
  wpAny (model X.prog X.w) X.A (assign target X.env u) (fun _ s'=>∃σ' H',Inv X J3 σ' H' s'/\Q σ' H') X.xe s
def GZ(X:Cx)(ts:List Expr)(t:BP):Prop :=
 ∀(J3:Zd) (s:Shared) (σ:St) (H:Hp) (vs:List V) (us:Zf) (Q:St->Hp->Prop),Inv X J3 σ H s->bg vs us->t vs σ H Q ->
  wpAny (model X.prog X.w) X.A (assignInOrder ((tz ts X.env).map (·.2)) us) (fun _ s'=>∃σ' H',Inv X J3 σ' H' s'/\Q σ' H') X.xe s
abbrev FV:=V->V->V->Hp->(Hp->Prop)->Prop
def GH(X:Cx)(t:FV):Prop :=
 ∀(J3:Zd) (s:Shared) (σ:St) (H:Hp) (o i v:V) (ov iv u:Value) (Q:Hp->Prop),Inv X J3 σ H s->RelV o ov->RelV i iv->RelV v u->t o i v H Q ->
  wpAny (model X.prog X.w) X.A (setItem ov iv u) (fun _ s'=>∃H',Inv X J3 σ H' s'/\Q H') X.xe s
section
variable{X:Cx}{pos:Pos}
def ei(i:Nat):TG:=fun v σ H Q=>Q (σ.set i (some v)) H
abbrev U0:TG:=ei 0
abbrev U1:TG:=ei 1
abbrev U2:TG:=ei 2
abbrev U3:TG:=ei 3
abbrev U4:TG:=ei 4
abbrev U5:TG:=ei 5
abbrev U6:TG:=ei 6
abbrev U7:TG:=ei 7
abbrev U8:TG:=ei 8
abbrev U9:TG:=ei 9
abbrev EQ:TG:=ei 10
abbrev U11:TG:=ei 11
abbrev U12:TG:=ei 12
theorem Ab{i:Nat}{x:Str}(hN:X.N.Nodup)(hi:X.N[i]?=some x)(hx:Loc X.env.scope x)(hf:X.fn x=true∨X.env.scope.names.lookup x=some .local:=by first|exact .inl rfl|exact .inr rfl|assumption):PG X (.Name x pos) (ei i):=by
 intro J3 s σ H v u Q I r h;exact wpAny_assign_Name (wN I hN hi hx r (fun s' I'=>⟨_,H,I',h⟩) hf)
def f6:BP:=fun vs σ H Q=>vs=[]/\Q σ H
def bc(t:TG)(u:BP):BP:=fun vs σ H Q=>∃v r,vs=v::r/\t v σ H fun σ' H'=>u r σ' H' Q
theorem cp:GZ X [] f6:=by
 intro J3 s σ H vs us Q I r h;obtain⟨e,h⟩:=h;subst e;cases r;exact assignInOrder_nil ⟨σ,H,I,h⟩
theorem ax{e:Expr}{es:List Expr}{t:TG}{u:BP}(h1:PG X e t)(h2:GZ X es u)
  (hs:(tz (e::es) X.env).map (·.2)=assign e X.env::(tz es X.env).map (·.2):=by rfl):GZ X (e::es) (bc t u):=by
 intro J3 s σ H vs us Q I r h;obtain⟨v,vr,e1,h⟩:=h;subst e1;cases r with
 |cons r rr =>
  rw[hs];refine assignInOrder_cons (cr (h1 J3 s σ H _ _ _ I r h) fun _ s1 ⟨σ1,H1,I1,q1⟩=>?_);exact h2 J3 s1 σ1 H1 _ _ Q I1 rr q1
def gw(K:Za)(n:Nat)(t:BP):TG:=fun v σ H Q=>∃a xs,v=.ref a/\aY K H a xs/\xs.length=n/\t xs σ H Q
theorem dg{es:List Expr}{k:Nat}{t:BP}{n:Nat}(hc:X.calm=true)(h:GZ X es t)
  (hn:(tz es X.env).length=n:=by rfl) (hst:(tz es X.env).findIdx? (·.1)=none:=by rfl):PG X (.Tuple es k pos) (gw X.K n t):=by
 intro J3 s σ H v u Q I r hw;obtain⟨a,xs,e1,hq,hl,hw⟩:=hw;subst e1;cases r;obtain⟨its,rv,ht,hz⟩:=I.tuple hq;refine assign_Tuple_tuple (I.ok.hd hc) ht (by simp[hn,<-hl,rv.length]) hst fun h' hx=>?_;have I1:Inv X J3 σ H { s with heap:=h' }:=I.kept (t':=s.toks) fun b o e=>hx b o (cR (bo e)) e;exact h J3 _ σ H xs _ Q I1 (by simpa using rv) hw
def yT(to ti:TE)(t:FV):TG:=fun v σ H Q=>to σ H fun o H1=>ti σ H1 fun i H2=>t o i v H2 fun H3=>Q σ H3
theorem rh{o i:Expr}{to ti:TE}{t:FV}(ho:PE X o to)(hi:PE X i ti)(hs:GH X t)
  (ha:∀v,assign (.Subscript o i pos) X.env v=(do
   let ov <- j9 [v] (eval o X.env)
   let iv <- j9 [v,ov] (eval i X.env)
   pc pos
   j9 [v,ov,iv] (setItem ov iv v)
   release [v,ov,iv] []):=by intro _;rfl):PG X (.Subscript o i pos) (yT to ti t):=by
 intro J3 s σ H v u Q I r h;rw[ha];refine ak (iG (cr (ho J3 s σ H _ I h) fun ov s1 ⟨x,H1,I1,r1,q1⟩=>?_));refine ak (iG (cr (hi J3 s1 σ H1 _ I1 q1) fun iv s2 ⟨y,H2,I2,r2,q2⟩=>?_));refine ak (zJ (ak (iG (cr (hs J3 s2 σ H2 x y v ov iv u _ I2 r1 r2 r q2) fun _ s3 ⟨H3,I3,q3⟩=>?_))));exact wpAny_release ⟨σ,H3,I3,q3⟩
def aS(te:TE)(g:TG):TS:=fun D σ H=>te σ H fun x H1=>g x σ H1 D.nx
theorem iY{tg e:Expr}{te:TE}{g:TG}(he:PE X e te)(hg:PG X tg g)(hs:swapsWithSole [tg] e pos.line X.env=pure false:=by rfl)(hw:swappedStores [tg] e X.env=pure none:=by rfl)
  (h1:(tz [tg] X.env).map (·.2)=[assign tg X.env]:=by rfl):PS X (.Assign [tg] e pos) (aS te g):=by
 intro J3 s σ H D I h;refine wpAny_Assign_stores (cr (he J3 s σ H _ I h) fun v s1 ⟨x,H1,I1,r1,q1⟩=>?_) hs hw;rw[h1];exact cr (hg J3 s1 σ H1 x v _ I1 r1 q1) fun _ s2 q=>q
theorem FA{i:Nat}{x:Str}{e:Expr}{te:TE}{pos':Pos}(hN:X.N.Nodup)(hi:X.N[i]?=some x)(hx:Loc X.env.scope x)(he:PE X e te)(hs:pb e (some (.Name x pos')) pos.line X.env=pure false:=by rfl)(hf:X.fn x=true∨X.env.scope.names.lookup x=some .local:=by first|exact .inl rfl|exact .inr rfl|assumption):
  PS X (.Assign [.Name x pos'] e pos) (aS te (ei i)):=by
 intro J3 s σ H D I h;refine wpAny_Assign_Name (cr (he J3 s σ H _ I h) fun v s1 ⟨y,H1,I1,r1,q1⟩=>?_) hs;exact wN I1 hN hi hx r1 (fun s2 I2=>⟨_,H1,I2,q1⟩) hf
end
section
variable{X:Cx}{pos:Pos}
def ye(c:TT)(tb:TS):TS:=fun D σ H=>∃W:Nat->St->Hp->Prop,(∃m,W m σ H)/\∀m σ H,W m σ H ->
 c σ H fun b H1=>if b=true then ∃N:St->Hp->Prop,(∀σ' H',N σ' H'->∃m',m'<m/\W m' σ' H')/\tb { D with nx:=N,ct:=N,bk:=D.nx } σ H1 else D.nx σ H1
theorem w6{c:Expr}{body:List Stmt}{tc:TT}{tb:TS}(hp:PassesOwn (model X.prog X.w) X.A X.env X.xe)(hc:PT X c tc)(hb:xP X body tb):PS X (.While c body [] pos) (ye tc tb):=by
 intro J3 s σ H D I h;obtain⟨W,⟨m0,w0⟩,turn⟩:=h;refine wpAny_While (codeAny_whileLoop (fun n s'=>∃σ' H',Inv X J3 σ' H' s'/\W n σ' H') ?_ m0 ⟨σ,H,I,w0⟩);rintro n s1 ⟨σ1,H1,I1,w1⟩;refine qa hp (cr (hc J3 s1 σ1 H1 _ I1 (turn n σ1 H1 w1)) fun b s2 ⟨H2,I2,q2⟩=>?_);cases b with
 |true =>
  obtain⟨N,hN,q2⟩:=q2;rw[if_pos rfl];refine qa hp (cr (hb J3 s2 σ1 H2 _ I2 q2) fun f s3 q3=>?_);cases f with
  |next =>
   obtain⟨σ3,H3,I3,n3⟩:=q3;obtain⟨m',hm,w3⟩:=hN σ3 H3 n3;exact⟨m',hm,σ3,H3,I3,w3⟩
  |cont =>
   obtain⟨σ3,H3,I3,n3⟩:=q3;obtain⟨m',hm,w3⟩:=hN σ3 H3 n3;exact⟨m',hm,σ3,H3,I3,w3⟩
  |brk=>exact q3
  |ret v=>exact q3
 |false =>
  rw[if_neg fR];exact zK ⟨σ1,H2,I2,q2⟩
end
structure It where
 go:Nat->Hp->Prop
 yld:Nat->Hp->V->Hp->Prop
 stop:Nat->Hp->Prop
def mJ(X:Cx)(J3:Zd)(H:Hp)(b:Addr):Prop :=
 H b=none/\b≠X.env.locals/\b∉X.fs/\(b∈X.ex∨X.s₀.heap.objs.size<=b)/\(∀x c,X.env.cells.lookup x=some c->c≠b)/\∀p∈X.pn++J3,p.1≠b
theorem Inv.fpOk{X:Cx}{J3:Zd}{σ:St}{H H':Hp}{s:Shared}{b:Addr}(I:Inv X J3 σ H s)(hb:s.heap.objs.size<=b)(hn:H' b=none):mJ X J3 H' b:=by
 refine⟨hn,gE (hU I.lt hb),I.nofs hb,.inr (bh I.sz hb),fun x c e z=>?_,fun p hp z=>?_⟩
 ·obtain⟨v,q⟩:=I.cell x c e;exact absurd (hU q.lt (by rw[z];exact hb)) (pd _)
 ·exact absurd (hU (bo (I.pin p hp).1) (by rw[z];exact hb)) (pd _)
structure rW(P:bR)(w:World)(K:Za)(tg:Expr)(J:It)(fp:Ze)(it:Addr)(tn:Nat->Heap->Prop):Prop where
 mem:it∈fp
 obj:∀i h,tn i h->∀b∈fp,∃o,h.get? b=some o/\∀v,o.data≠.cell v
 keep:∀i h h',tn i h->(∀b∈fp,∀o,h.get? b=some o->h'.get? b=some o)->tn i h'
 item:∀(X:Cx),X.prog=P->X.w=w->X.K=K->X.calm=true->∀(i:Nat) (J3:Zd) (s:Shared) (σ:St) (H:Hp) (E:Zc),Inv X J3 σ H s->(∀b∈fp,mJ X J3 H b)->tn i s.heap->J.go i H ->
  wpAny (model P w) X.A (pyNext (.ref it)) (fun r s1=>∃u,r=some u /\
   wpAny (model P w) X.A (zI tg (.ref it) u) (fun _ s2=>∃x H',Inv X J3 σ H' s2/\RelV x u/\J.yld i H x H'/\tn (i+1) s2.heap/\∀b∈fp,H' b=none) E s1) E s
 done:∀(X:Cx),X.prog=P->X.w=w->X.K=K->X.calm=true->∀(i:Nat) (J3:Zd) (s:Shared) (σ:St) (H:Hp) (E:Zc),Inv X J3 σ H s->(∀b∈fp,mJ X J3 H b)->tn i s.heap->J.stop i H ->
  wpAny (model P w) X.A (pyNext (.ref it)) (fun r s1=>r=none/\Inv X J3 σ H s1) E s
 self:∀(A:Around) (i:Nat) (s:Shared) (Q:Zc) (E:Zc),tn i s.heap->Q (.ref it) s->wpAny (model P w) A (pyIter (.ref it)) Q E s
abbrev TI:=St->Hp->(It->Hp->Prop)->Prop
def PIE(X:Cx)(J3:Zd)(σ:St)(tg:Expr)(R:It->Hp->Prop)(itv:Value)(s2:Shared):Prop :=
 ∃(it:Addr) (fp:Ze) (tn:Nat->Heap->Prop) (J:It) (H':Hp),itv=.ref it/\Inv X J3 σ H' s2/\rW X.prog X.w X.K tg J fp it tn/\tn 0 s2.heap/\(∀b∈fp,mJ X J3 H' b)/\R J H'
def PI(X:Cx)(tg iter:Expr)(wi:TI):Prop :=
 ∀(J3:Zd) (s:Shared) (σ:St) (H:Hp) (R:It->Hp->Prop),Inv X J3 σ H s->wi σ H R ->
  wpAny (model X.prog X.w) X.A (eval iter X.env) (fun v s1=>wpAny (model X.prog X.w) X.A (pyIter v) (PIE X J3 σ tg R) X.xe s1) X.xe s
theorem t5{M:Model}{A:Around}{E:Zc}{s:Shared}{tg:Expr}{it:Addr}{u:Value}{o:Obj}{n:String}{vs:Array Value}{Q:Unit->Shared->Prop}(ho:s.heap.get? it=some o)(hc:o.cls=.type n)(hd:o.data=.fields vs)
    (hn:["enumerate","zip","dict_itemiterator","dict_reverseitemiterator","odict_iterator","itertools.zip_longest","itertools.pairwise"].contains n=false) (hQ:Q () s):wpAny M A (zI tg (.ref it) u) Q E s:=by
  unfold zI;cases tg<;>first
    |exact ao hQ
    | (cases u <;> first
        |exact ao hQ
        | (refine ak (wpAny_load ho ?_)
           rw[hc,hd];show wpAny M A (if(["enumerate","zip","dict_itemiterator","dict_reverseitemiterator","odict_iterator","itertools.zip_longest","itertools.pairwise"].contains n && vs[0]?==some (rawInt _))=true then _ else _) Q E s
           rw[if_neg (by intro h;rw[hn,zH]at h;cases h)];exact ao hQ))
def DJ(K:Za)(a:Addr):It :=
 ⟨fun i H=>∃xs x,aA K H a xs/\xs[i]?=some x,fun i H x H'=>H'=H/\∀xs,aA K H a xs->xs[i]?=some x,fun i H=>∃xs,aA K H a xs/\xs.length<=i⟩
def FW(K:Za)(a:Addr):It :=
 ⟨fun i H=>∃xs x,aY K H a xs/\xs[i]?=some x,fun i H x H'=>H'=H/\∀xs,aY K H a xs->xs[i]?=some x,fun i H=>∃xs,aY K H a xs/\xs.length<=i⟩
def FX(lo:Int)(n:Nat):It:=⟨fun i _=>i<n,fun i H x H'=>H'=H/\x=.int (lo+i),fun i _=>n<=i⟩
theorem tJ{P:bR}{w:World}{K:Za}{tg:Expr}(a it:Addr):rW P w K tg (DJ K a) [it] it (fun i h=>h.IsListIter it a i) where
 mem:=by simp
 obj:=fun i h st b hb=>by
  have e:b=it:=by simpa using hb
  subst e;obtain⟨o,e,c,d⟩:=st;exact⟨o,e,fun v z=>by rw[d]at z;cases z⟩
 keep:=fun i h h' st k=>st.at fun o e=>k it (by simp) o e
 item:=by
  intro X hP hw hK hc i J3 s σ H E I hf st hg;subst hP hw hK;obtain⟨xs,x,hq,hx⟩:=hg;obtain⟨its,rv,p,hz⟩:=I.list hq;obtain⟨u,hu,ru⟩:=rv.get hx;obtain⟨f0,f1,f2,f3,f4,f5⟩:=hf it (by simp);refine wpAny_pyNext_list_item st p.isList (x:=u) (by simpa using hu) fun h' st' sb=>?_;have I1:Inv X J3 σ H { s with heap:=h' }:=I.turned (t':=s.toks) (fun b o hb e=>(sb.2 b hb).trans e) f0 f1 f3 f4 f5;obtain⟨o,e,c,d⟩:=id st';exact⟨u,rfl,t5 (s:={ s with heap:=h' }) e c d (by decide) ⟨x,H,I1,ru,⟨rfl,fun ys hy=>by rw[I.list_inj hy hq];exact hx⟩,st',fun b hb=>(hf b hb).1⟩⟩
 done:=by
  intro X hP hw hK hc i J3 s σ H E I hf st hg;subst hP hw hK;obtain⟨xs,hq,hx⟩:=hg;obtain⟨its,rv,p,hz⟩:=I.list hq;obtain⟨f0,f1,f2,f3,f4,f5⟩:=hf it (by simp);have hl:=rv.length;exact wpAny_pyNext_list_end (I.ok.hd hc) st p.isList (by simp;omega) fun h' eb=>⟨rfl,I.turned (t':=s.toks) (fun b o hb e=>eb b o hb e) f0 f1 f3 f4 f5⟩
 self:=fun _ _ _ _ _ st h=>wpAny_pyIter_listiter st h
theorem qz{P:bR}{w:World}{K:Za}{tg:Expr}(a it:Addr):rW P w K tg (FW K a) [it] it (fun i h=>h.IsTupleIter it a i) where
 mem:=by simp
 obj:=fun i h st b hb=>by
  have e:b=it:=by simpa using hb
  subst e;obtain⟨o,e,c,d⟩:=st;exact⟨o,e,fun v z=>by rw[d]at z;cases z⟩
 keep:=fun i h h' st k=>st.at fun o e=>k it (by simp) o e
 item:=by
  intro X hP hw hK hc i J3 s σ H E I hf st hg;subst hP hw hK;obtain⟨xs,x,hq,hx⟩:=hg;obtain⟨its,rv,p,hz⟩:=I.tuple hq;obtain⟨u,hu,ru⟩:=rv.get hx;obtain⟨f0,f1,f2,f3,f4,f5⟩:=hf it (by simp);refine wpAny_pyNext_tuple_item st (show s.heap.IsTuple a its.toArray from p) (x:=u) (by simpa using hu) fun h' st' sb=>?_;have I1:Inv X J3 σ H { s with heap:=h' }:=I.turned (t':=s.toks) (fun b o hb e=>(sb.2 b hb).trans e) f0 f1 f3 f4 f5;obtain⟨o,e,c,d⟩:=id st';exact⟨u,rfl,t5 (s:={ s with heap:=h' }) e c d (by decide) ⟨x,H,I1,ru,⟨rfl,fun ys hy=>by rw[I.tuple_inj hy hq];exact hx⟩,st',fun b hb=>(hf b hb).1⟩⟩
 done:=by
  intro X hP hw hK hc i J3 s σ H E I hf st hg;subst hP hw hK;obtain⟨xs,hq,hx⟩:=hg;obtain⟨its,rv,p,hz⟩:=I.tuple hq;obtain⟨f0,f1,f2,f3,f4,f5⟩:=hf it (by simp);have hl:=rv.length;exact wpAny_pyNext_tuple_end (I.ok.hd hc) st (show s.heap.IsTuple a its.toArray from p) (by simp;omega) fun h' eb=>⟨rfl,I.turned (t':=s.toks) (fun b o hb e=>eb b o hb e) f0 f1 f3 f4 f5⟩
 self:=fun _ _ _ _ _ st h=>wpAny_pyIter_tupleiter st h
theorem xS{P:bR}{w:World}{K:Za}{tg:Expr}(it:Addr)(lo:Int)(n:Nat):rW P w K tg (FX lo n) [it] it (fun i h=>IsRangeIter h it (lo+(i:Nat) * 1) ((n:Int)-(i:Nat)) 1) where
 mem:=by simp
 obj:=fun i h st b hb=>by
  have e:b=it:=by simpa using hb
  subst e;exact⟨_,st,fun v z=>by
   have z':Data.fields _=Data.cell v:=z;cases z'⟩
 keep:=fun i h h' st k=>k it (by simp) _ st
 item:=by
  intro X hP hw hK hc i J3 s σ H E I hf st hg;subst hP hw hK;obtain⟨f0,f1,f2,f3,f4,f5⟩:=hf it (by simp);have W:=Walks.range (prog:=X.prog) (w:=X.w) (I.ok.hd hc) it lo 1 n;refine W.item i s _ _ hg st fun v h' tk hv st' kk=>?_;obtain⟨t,rfl⟩:=hv;have I1:Inv X J3 σ H { s with heap:=h',toks:=tk }:=I.turned (fun b o hb e=>kk b o (by simpa using hb) e) f0 f1 f3 f4 f5;refine⟨_,rfl,t5 (s:={ s with heap:=h',toks:=tk }) (n:="range_iterator") st' rfl rfl (by decide) ⟨.int (lo+i),H,I1,⟨t,?_⟩,⟨rfl,rfl⟩,st',fun b hb=>(hf b hb).1⟩⟩;rw[Int.mul_one]
 done:=by
  intro X hP hw hK hc i J3 s σ H E I hf st hg;subst hP hw hK;obtain⟨f0,f1,f2,f3,f4,f5⟩:=hf it (by simp);exact wpAny_pyNext_range_end (I.ok.hd hc) st (by have:n<=i:=hg;omega) fun h' eb=>⟨rfl,I.turned (t':=s.toks) (fun b o hb e=>eb b o hb e) f0 f1 f3 f4 f5⟩
 self:=fun _ _ _ _ _ st h=>wpAny_pyIter_rangeiter st h
end L2
namespace L2
open PySem PySem.Spec PyProof.Rows
section
variable{X:Cx}{tg:Expr}
def bV(K:Za)(tl:TE):TI:=fun σ H R=>tl σ H fun x H1=>∃a,x=.ref a/\(∃xs,aA K H1 a xs)/\R (DJ K a) H1
def C4(K:Za)(tl:TE):TI:=fun σ H R=>tl σ H fun x H1=>∃a,x=.ref a/\(∃xs,aY K H1 a xs)/\R (FW K a) H1
theorem aW{l:Expr}{tl:TE}(hl:PE X l tl):PI X tg l (bV X.K tl):=by
 intro J3 s σ H R I h;refine cr (hl J3 s σ H _ I h) fun v s1 ⟨x,H1,I1,r1,q1⟩=>?_;obtain⟨a,e,⟨xs,hq⟩,q⟩:=q1;subst e;cases r1;obtain⟨its,rv,p,hz⟩:=I1.list hq;refine wt p.isList ?_;refine⟨s1.heap.objs.size,[s1.heap.objs.size],_,_,H1,rfl,I1.kept (t':=s1.toks) fun b o e=>bC _ e,tJ a _,⟨_,c8 _ rfl,rfl,rfl⟩,fun b hb=>?_,q⟩;have e:b=s1.heap.objs.size:=by simpa using hb
 subst e;exact I1.fpOk (aH _) (I1.hok.fresh (aH _))
theorem vx{l:Expr}{tl:TE}(hl:PE X l tl):PI X tg l (C4 X.K tl):=by
 intro J3 s σ H R I h;refine cr (hl J3 s σ H _ I h) fun v s1 ⟨x,H1,I1,r1,q1⟩=>?_;obtain⟨a,e,⟨xs,hq⟩,q⟩:=q1;subst e;cases r1;obtain⟨its,rv,p,hz⟩:=I1.tuple hq;refine zG (show s1.heap.IsTuple a its.toArray from p) ?_;refine⟨s1.heap.objs.size,[s1.heap.objs.size],_,_,H1,rfl,I1.kept (t':=s1.toks) fun b o e=>bC _ e,qz a _,⟨_,c8 _ rfl,rfl,rfl⟩,fun b hb=>?_,q⟩;have e:b=s1.heap.objs.size:=by simpa using hb
 subst e;exact I1.fpOk (aH _) (I1.hok.fresh (aH _))
theorem Cu{J3:Zd}{σ:St}{H:Hp}{s:Shared}{R:It->Hp->Prop}{E:Zc}{lo hi:Int}{t u v:Tok}{tk:Nat}(I:Inv X J3 σ H s)(h1:-(2 ^ 62)<=lo)(h2:lo<2 ^ 62)(h3:-(2 ^ 62)<=hi)(h4:hi<2 ^ 62)
  (q:R (FX lo (hi-lo).toNat) H):wpAny (model X.prog X.w) X.A (pyIter (.ref s.heap.objs.size)) (PIE X J3 σ tg R) E { s with heap:=s.heap.push { cls:=.type "range",data:=.fields #[.int lo t,.int hi u,.int 1 v] },toks:=tk }:=by
 refine wpAny_pyIter_range (IsRange.new ..) (small_one h1 h2 h3 h4) ?_;have I1:Inv X J3 σ H { s with heap:=s.heap.push { cls:=.type "range",data:=.fields #[.int lo t,.int hi u,.int 1 v] },toks:=tk }:=I.kept fun b o e=>bC _ e;refine⟨(s.heap.push { cls:=.type "range",data:=.fields #[.int lo t,.int hi u,.int 1 v] }).objs.size,[(s.heap.push { cls:=.type "range",data:=.fields #[.int lo t,.int hi u,.int 1 v] }).objs.size],_,_,H,rfl,
  I1.kept (t':=tk) fun b o e=>bC _ e,xS _ lo (hi-lo).toNat,?_,fun b hb=>?_,q⟩
 ·have e1:lo+((0:Nat):Int) * 1=lo:=by simp
  have e2:(((hi-lo).toNat:Nat):Int)-((0:Nat):Int)=cw.Range.rangeSize lo hi 1:=by rw[rangeSize_one];split<;>omega
  show IsRangeIter _ _ (lo+((0:Nat):Int) * 1) ((((hi-lo).toNat:Nat):Int)-((0:Nat):Int)) 1;rw[e1,e2];exact c8 _ rfl
 ·have e:b=(s.heap.push { cls:=.type "range",data:=.fields #[.int lo t,.int hi u,.int 1 v] }).objs.size:=by simpa using hb
  subst e;exact I1.fpOk (aH _) (I1.hok.fresh (aH _))
def rH(ta:TA):TI:=fun σ H R=>ta σ H fun vs H1=>∃j:Int,vs=[.int j]/\-(2 ^ 62)<=j/\j<2 ^ 62/\R (FX 0 j.toNat) H1
theorem g8{a:Expr}{ta:TA}{p pos:Pos}(hg:Gl X "range")(hm:X.mg "range"=none)(ha:PA X [a] ta)(hs:aQ [a] X.env=[(false,eval a X.env)]:=by rfl):PI X tg (.Call (.Name "range" p) [a] [] pos) (rH ta):=by
 intro J3 s σ H R I h;refine Call_ (oP I hg hm boot_range (zF (cr (ha pos J3 s σ H _ I h) fun us s1 ⟨vs,H1,I1,r1,q1⟩=>?_) hs rfl));obtain⟨j,e,q1,q2,q⟩:=q1;subst e;cases r1 with
 |cons r rr =>
  cases rr;obtain⟨t,rfl⟩:=r;exact call_range_1 (Cu I1 (by omega) (by omega) q1 q2 (by simpa using q))
def de(wi:TI)(g:TG)(tb:TS):TS:=fun D σ H=>wi σ H fun J H1=>∃W:Nat->Nat->St->Hp->Prop,(∃m,W 0 m σ H1)/\∀i m σ H,W i m σ H ->
 (J.stop i H/\D.nx σ H)∨(J.go i H/\∃N:St->Hp->Prop,(∀σ' H',N σ' H'->∃m',m'<m/\W (i+1) m' σ' H')/\∀x H',J.yld i H x H'->g x σ H' fun σ2 H2=>tb { D with nx:=N,ct:=N,bk:=D.nx } σ2 H2)
def rg(fp:Ze)(h:Heap):List (Addr×Obj):=fp.filterMap fun b=>(h.get? b).map fun o=>(b,o)
theorem jK{fp:Ze}{h:Heap}{b:Addr}{o:Obj}(hb:b∈fp)(e:h.get? b=some o):(b,o)∈rg fp h:=List.mem_filterMap.mpr ⟨b,hb,by rw[e];rfl⟩
theorem Bj{fp:Ze}{h:Heap}{p:Addr×Obj}(hp:p∈rg fp h):p.1∈fp/\h.get? p.1=some p.2:=by
 obtain⟨b,hb,e⟩:=List.mem_filterMap.mp hp;cases q:h.get? b with
 |none=>rw[q]at e;cases e
 |some o =>
  rw[q]at e;have e':(b,o)=p:=ef e;subst e';exact⟨hb,q⟩
theorem Inv.pinned{J3:Zd}{σ:St}{H:Hp}{s:Shared}{fp:Ze}(I:Inv X J3 σ H s)(hf:∀b∈fp,mJ X J3 H b)(ho:∀b∈fp,∃o,s.heap.get? b=some o/\∀v,o.data≠.cell v):Inv X (J3++rg fp s.heap) σ H s :=
 I.pins_of fun p hp=>(bN.mp hp).elim (fun z=>I.pin p (d_ _ z)) fun z=>by
  obtain⟨hb,e⟩:=Bj z;obtain⟨f0,f1,f2,_⟩:=hf p.1 hb;obtain⟨o,e',d⟩:=ho p.1 hb;rw[e]at e';cases e';exact⟨e,f0,f1,f2,d⟩
theorem Inv.unpinned{J3 pl:Zd}{σ:St}{H:Hp}{s:Shared}(I:Inv X (J3++pl) σ H s):Inv X J3 σ H s:=I.pins_of fun p hp=>I.pin p (d_ _ (dq _ hp))
theorem bF{iter:Expr}{body:List Stmt}{wi:TI}{g:TG}{tb:TS}{pos:Pos}(hp:PassesOwn (model X.prog X.w) X.A X.env X.xe)(hc:X.calm=true)(hi:PI X tg iter wi)(hg:PG X tg g)(hb:xP X body tb)
  (hs:∀x,wr iter X.env x=pure x:=by intro _;rfl):PS X (.For tg iter body [] pos) (de wi g tb):=by
 intro J3 s σ H D I h;refine wpAny_For (cr (hi J3 s σ H _ I h) fun v s1 h1=>cr h1 fun itv s2 h2=>?_) hs;obtain⟨it,fp,tn,J,H2,e,I2,T,st2,f2,W,⟨m0,w0⟩,turn⟩:=h2;subst e;have stat:∀{H':Hp},(∀b∈fp,H' b=none)->∀b∈fp,mJ X J3 H' b:=fun hn b hb=>⟨hn b hb,(f2 b hb).2⟩;refine codeAny_forLoop_any (fun n s'=>∃i σ' H',Inv X J3 σ' H' s'/\tn i s'.heap/\(∀b∈fp,H' b=none)/\W i n σ' H') ?_ m0 ⟨0,σ,H2,I2,st2,fun b hb=>(f2 b hb).1,w0⟩;rintro n s3 ⟨i,σ3,H3,I3,st3,fr3,w3⟩;rcases turn i n σ3 H3 w3 with⟨stop,qn⟩|⟨go,N,hN,step⟩
 ·refine qa hp (cr (T.done X rfl rfl rfl hc i J3 s3 σ3 H3 X.xe I3 (stat fr3) st3 stop) fun r s4 ⟨hr,I4⟩=>?_);subst hr;exact zK ⟨σ3,H3,I4,qn⟩
 ·refine qa hp (cr (T.item X rfl rfl rfl hc i J3 s3 σ3 H3 X.xe I3 (stat fr3) st3 go) fun r s4 ⟨u,hr,h4⟩=>?_);subst hr;refine qa hp (cr h4 fun _ s5 ⟨x,H5,I5,r5,y5,st5,fr5⟩=>?_);have I5':=I5.pinned (stat fr5) (T.obj _ _ st5);refine qa hp (cr (hg _ s5 σ3 H5 x u _ I5' r5 (step x H5 y5)) fun _ s6 ⟨σ6,H6,I6,q6⟩=>?_);refine qa hp (cr (hb _ s6 σ6 H6 _ I6 q6) fun f s7 q7=>?_);have again:∀{σ7:St}{H7:Hp},Inv X (J3++rg fp s5.heap) σ7 H7 s7->N σ7 H7->∃m,m<n/\∃i σ' H',Inv X J3 σ' H' s7/\tn i s7.heap/\(∀b∈fp,H' b=none)/\W i m σ' H':=fun{σ7 H7} I7 n7=>by
   obtain⟨m',hm,w7⟩:=hN σ7 H7 n7;refine⟨m',hm,i+1,σ7,H7,I7.unpinned,T.keep _ _ _ st5 fun b hb o e=>(I7.pin (b,o) (d_ _ (d_ _ (jK hb e)))).1,fun b hb=>?_,w7⟩;obtain⟨o,e,d⟩:=T.obj _ _ st5 b hb;exact(I7.pin (b,o) (d_ _ (d_ _ (jK hb e)))).2.1
  cases f with
  |next=>obtain⟨σ7,H7,I7,n7⟩:=q7;exact again I7 n7
  |cont=>obtain⟨σ7,H7,I7,n7⟩:=q7;exact again I7 n7
  |brk=>obtain⟨σ7,H7,I7,q7⟩:=q7;exact⟨σ7,H7,I7.unpinned,q7⟩
  |ret v=>obtain⟨x7,σ7,H7,I7,r7,q7⟩:=q7;exact⟨x7,σ7,H7,I7.unpinned,r7,q7⟩
end
theorem bW{K:Za}{a:Addr}{xs:List V}{g:TG}{tb:TS}{D:mK}{σ:St}{H:Hp}(Pv:Nat->St->Hp->Prop)(h0:Pv 0 σ H)(hl:∀i σ H,i<=xs.length->Pv i σ H->aA K H a xs)
  (hs:∀i x σ H,xs[i]?=some x->Pv i σ H->g x σ H fun σ2 H2=>tb { D with nx:=Pv (i+1),ct:=Pv (i+1),bk:=D.nx } σ2 H2) (hd:∀σ H,Pv xs.length σ H->D.nx σ H) :
  ∃W:Nat->Nat->St->Hp->Prop,(∃m,W 0 m σ H)/\∀i m σ H,W i m σ H ->
   ((DJ K a).stop i H/\D.nx σ H)∨((DJ K a).go i H/\∃N:St->Hp->Prop,(∀σ' H',N σ' H'->∃m',m'<m/\W (i+1) m' σ' H')/\∀x H',(DJ K a).yld i H x H'->g x σ H' fun σ2 H2=>tb { D with nx:=N,ct:=N,bk:=D.nx } σ2 H2):=by
 refine⟨fun i m σ H=>m=xs.length-i/\i<=xs.length/\Pv i σ H,⟨xs.length,by simp,dL _,h0⟩,?_⟩;rintro i m σ H ⟨rfl,hi,p⟩;have q:=hl i σ H hi p;by_cases hlt:i<xs.length
 ·refine .inr ⟨⟨xs,xs[i],q,by simp[hlt]⟩,Pv (i+1),fun σ' H' p'=>⟨xs.length-(i+1),by omega,rfl,hlt,p'⟩,fun x H' y=>?_⟩;obtain⟨e,y⟩:=y;subst e;exact hs i x σ _ (y xs q) p
 ·have e:i=xs.length:=by omega
  subst e;exact .inl ⟨⟨xs,q,aH _⟩,hd σ H p⟩
theorem vN{K:Za}{a:Addr}{xs:List V}{g:TG}{tb:TS}{D:mK}{σ:St}{H:Hp}(Pv:Nat->St->Hp->Prop)(h0:Pv 0 σ H)(hl:∀i σ H,i<=xs.length->Pv i σ H->aY K H a xs)
  (hs:∀i x σ H,xs[i]?=some x->Pv i σ H->g x σ H fun σ2 H2=>tb { D with nx:=Pv (i+1),ct:=Pv (i+1),bk:=D.nx } σ2 H2) (hd:∀σ H,Pv xs.length σ H->D.nx σ H) :
  ∃W:Nat->Nat->St->Hp->Prop,(∃m,W 0 m σ H)/\∀i m σ H,W i m σ H ->
   ((FW K a).stop i H/\D.nx σ H)∨((FW K a).go i H/\∃N:St->Hp->Prop,(∀σ' H',N σ' H'->∃m',m'<m/\W (i+1) m' σ' H')/\∀x H',(FW K a).yld i H x H'->g x σ H' fun σ2 H2=>tb { D with nx:=N,ct:=N,bk:=D.nx } σ2 H2):=by
 refine⟨fun i m σ H=>m=xs.length-i/\i<=xs.length/\Pv i σ H,⟨xs.length,by simp,dL _,h0⟩,?_⟩;rintro i m σ H ⟨rfl,hi,p⟩;have q:=hl i σ H hi p;by_cases hlt:i<xs.length
 ·refine .inr ⟨⟨xs,xs[i],q,by simp[hlt]⟩,Pv (i+1),fun σ' H' p'=>⟨xs.length-(i+1),by omega,rfl,hlt,p'⟩,fun x H' y=>?_⟩;obtain⟨e,y⟩:=y;subst e;exact hs i x σ _ (y xs q) p
 ·have e:i=xs.length:=by omega
  subst e;exact .inl ⟨⟨xs,q,aH _⟩,hd σ H p⟩
theorem jj{lo:Int}{n:Nat}{g:TG}{tb:TS}{D:mK}{σ:St}{H:Hp}(Pv:Nat->St->Hp->Prop)(h0:Pv 0 σ H)
  (hs:∀i σ H,i<n->Pv i σ H->g (.int (lo+i)) σ H fun σ2 H2=>tb { D with nx:=Pv (i+1),ct:=Pv (i+1),bk:=D.nx } σ2 H2) (hd:∀σ H,Pv n σ H->D.nx σ H) :
  ∃W:Nat->Nat->St->Hp->Prop,(∃m,W 0 m σ H)/\∀i m σ H,W i m σ H ->
   ((FX lo n).stop i H/\D.nx σ H)∨((FX lo n).go i H/\∃N:St->Hp->Prop,(∀σ' H',N σ' H'->∃m',m'<m/\W (i+1) m' σ' H')/\∀x H',(FX lo n).yld i H x H'->g x σ H' fun σ2 H2=>tb { D with nx:=N,ct:=N,bk:=D.nx } σ2 H2):=by
 refine⟨fun i m σ H=>m=n-i/\i<=n/\Pv i σ H,⟨n,by simp,dL _,h0⟩,?_⟩;rintro i m σ H ⟨rfl,hi,p⟩;by_cases hlt:i<n
 ·refine .inr ⟨hlt,Pv (i+1),fun σ' H' p'=>⟨n-(i+1),by omega,rfl,hlt,p'⟩,fun x H' y=>?_⟩;obtain⟨e,y⟩:=y;subst e y;exact hs i σ _ hlt p
 ·have e:i=n:=by omega
  subst e;exact .inl ⟨aH _,hd σ H p⟩
end L2
namespace L2
open PySem PySem.Spec PyProof.Rows
abbrev R2:=V->V->Hp->VK->Prop
def mC(X:Cx)(f:Value->Value->Sem Value)(r:R2):Prop :=
 ∀(J3:Zd) (s:Shared) (σ:St) (H:Hp) (x y:V) (v u:Value) (Q:VK),Inv X J3 σ H s->RelV x v->RelV y u->r x y H Q ->
  wpAny (model X.prog X.w) X.A (f v u) (EP X J3 σ Q) X.xe s
def UnR(X:Cx)(f:Value->Sem Value)(r:V->Hp->VK->Prop):Prop :=
 ∀(J3:Zd) (s:Shared) (σ:St) (H:Hp) (x:V) (v:Value) (Q:VK),Inv X J3 σ H s->RelV x v->r x H Q ->
  wpAny (model X.prog X.w) X.A (f v) (EP X J3 σ Q) X.xe s
def fN(X:Cx)(f:Value)(r:List V->Hp->VK->Prop):Prop :=
 ∀(J3:Zd) (s:Shared) (σ:St) (H:Hp) (xs:List V) (us:Zf) (Q:VK),Inv X J3 σ H s->bg xs us->r xs H Q ->
  wpAny (model X.prog X.w) X.A (call f us) (EP X J3 σ Q) X.xe s
def ay(r:R2)(ta tb:TE):TE:=fun σ H Q=>ta σ H fun x H1=>tb σ H1 fun y H2=>r x y H2 Q
def tUn(r:V->Hp->VK->Prop)(ta:TE):TE:=fun σ H Q=>ta σ H fun x H1=>r x H1 Q
def rI(C:Int->Int->Prop)(g:Int->Int->V):R2:=fun x y H Q=>∃i j,x=.int i/\y=.int j/\C i j/\Q (g i j) H
def BL(g:Int->Int->V):R2:=fun x y H Q=>∃i j,x=.int i/\y=.int j/\Q (g i j) H
def rU(g:Int->V):V->Hp->VK->Prop:=fun x H Q=>∃i,x=.int i/\Q (g i) H
section
variable{X:Cx}{a b c:Expr}{ta tb tc:TE}{pos:Pos}
theorem FT(ha:PE X a ta)(hb:PE X b tb){J3:Zd}{s:Shared}{σ:St}{H:Hp}{R:V->V->Hp->Prop}(I:Inv X J3 σ H s)
  (h:ta σ H fun x H1=>tb σ H1 fun y H2=>R x y H2) {Q:Zc}{f:Value->Value->Sem Value}
  (hf:∀v u s2 x y H2,Inv X J3 σ H2 s2->RelV x v->RelV y u->R x y H2->wpAny (model X.prog X.w) X.A (f v u) Q X.xe s2) :
  wpAny (model X.prog X.w) X.A (eval a X.env) (fun v s₁=>wpAny (model X.prog X.w) X.A (eval b X.env) (fun u s₂=>wpAny (model X.prog X.w) X.A (f v u) Q X.xe s₂) X.xe s₁) X.xe s:=by
 refine cr (ha J3 s σ H _ I h) fun v s1 ⟨x,H1,I1,r1,q1⟩=>?_;refine cr (hb J3 s1 σ H1 _ I1 q1) fun u s2 ⟨y,H2,I2,r2,q2⟩=>?_;exact hf v u s2 x y H2 I2 r1 r2 q2
theorem aJ{op:Operator}{r:R2}(ho:mC X (lK op) r)(ha:PE X a ta)(hb:PE X b tb):PE X (.BinOp a op b pos) (ay r ta tb):=by
 intro J3 s σ H Q I h;exact wpAny_BinOp (FT ha hb I h fun v u s2 x y H2 I2 rx ry q=>ho J3 s2 σ H2 x y v u Q I2 rx ry q)
theorem Gq{op:UnaryOp}{r:V->Hp->VK->Prop}(ho:UnR X (unaryOp op) r)(ha:PE X a ta):PE X (.UnaryOp op a pos) (tUn r ta):=by
 intro J3 s σ H Q I h;exact UnaryOp_ (cr (ha J3 s σ H _ I h) fun v s1 ⟨x,H1,I1,r1,q1⟩=>ho J3 s1 σ H1 x v Q I1 r1 q1)
theorem GX{f:Value->Value->Sem Value}{C:Int->Int->Prop}{g:Int->Int->Int}
  (rule:∀(i j:Int) (t u:Tok) (s:Shared) (Q:Zc) (E:Zc),C i j->Q (.int (g i j) s.toks) { s with toks:=s.toks+1 }->wpAny (model X.prog X.w) X.A (f (.int i t) (.int j u)) Q E s) :
  mC X f (rI C fun i j=>.int (g i j)):=by
 intro J3 s σ H x y v u Q I rx ry h;obtain⟨i,j,rfl,rfl,hc,q⟩:=h;obtain⟨t,rfl⟩:=rx;obtain⟨t',rfl⟩:=ry;exact rule i j t t' s _ _ hc ⟨.int (g i j),H,I.tok _,⟨_,rfl⟩,q⟩
theorem opI0{f:Value->Value->Sem Value}{g:Int->Int->Int}
  (rule:∀(i j:Int) (t u:Tok) (s:Shared) (Q:Zc) (E:Zc),Q (.int (g i j) s.toks) { s with toks:=s.toks+1 }->wpAny (model X.prog X.w) X.A (f (.int i t) (.int j u)) Q E s) :
  mC X f (BL fun i j=>.int (g i j)):=by
 intro J3 s σ H x y v u Q I rx ry h;obtain⟨i,j,rfl,rfl,q⟩:=h;obtain⟨t,rfl⟩:=rx;obtain⟨t',rfl⟩:=ry;exact rule i j t t' s _ _ ⟨.int (g i j),H,I.tok _,⟨_,rfl⟩,q⟩
theorem Ey{f:Value->Value->Sem Value}{g:Int->Int->Bool}
  (rule:∀(i j:Int) (t u:Tok) (s:Shared) (Q:Zc) (E:Zc),Q (.bool (g i j)) s->wpAny (model X.prog X.w) X.A (f (.int i t) (.int j u)) Q E s) :
  mC X f (BL fun i j=>.bl (g i j)):=by
 intro J3 s σ H x y v u Q I rx ry h;obtain⟨i,j,rfl,rfl,q⟩:=h;obtain⟨t,rfl⟩:=rx;obtain⟨t',rfl⟩:=ry;exact rule i j t t' s _ _ ⟨.bl (g i j),H,I,rfl,q⟩
def GR(i j:Int):Prop:=0<j/\j<1073741824
def GQ(i j:Int):Prop:=0<=j/\j<=1000000/\i.natAbs<2 ^ 64
def DD(i j:Int):Prop:=(-(2 ^ 64)<i/\i<2 ^ 64)∨(-(2 ^ 64)<j/\j<2 ^ 64)
theorem DD.ok{i j:Int}(h:DD i j):IntMulOk i j:=by
 rcases h with⟨h1,h2⟩|⟨h1,h2⟩
 ·exact .of_left (intBits_le_64 h1 h2)
 ·exact .of_right (intBits_le_64 h1 h2)
theorem cB:mC X (lK .Add) (BL fun i j=>.int (i+j)):=opI0 fun _ _ _ _ _ _ _ q=>add_int q
theorem im:mC X (lK .Mult) (rI DD fun i j=>.int (i * j)):=GX fun _ _ _ _ _ _ _ hc q=>mul_int q hc.ok
theorem Af:mC X (lK .FloorDiv) (rI GR fun i j=>.int (i / j)):=GX fun i j _ _ _ _ _ hc q=>by
 have h1:(0:Int)<j:=hc.1;have h2:j<1073741824:=hc.2;exact floordiv_int (by omega) (by rw[Int.fdiv_eq_ediv_of_nonneg i (by omega)];exact q) (.inl (PyProof.noPylong_small (by omega)))
theorem fZ:mC X (lK .Mod) (rI (fun _ j=>0<j) fun i j=>.int (i % j)):=GX fun i j _ _ _ _ _ hc q=>by
 have h1:(0:Int)<j:=hc;exact mod_int' (by omega) (by rw[Int.fmod_eq_emod_of_nonneg i (by omega)];exact q)
theorem CK:mC X (lK .Pow) (rI GQ fun i j=>.int (i ^ j.toNat)):=GX fun _ _ _ _ _ _ _ hc q=>pow_int_small hc.1 hc.2.1 hc.2.2 q
theorem unI{f:Value->Sem Value}{g:Int->Int}
  (rule:∀(i:Int) (t:Tok) (s:Shared) (Q:Zc) (E:Zc),Q (.int (g i) s.toks) { s with toks:=s.toks+1 }->wpAny (model X.prog X.w) X.A (f (.int i t)) Q E s) :
  UnR X f (rU fun i=>.int (g i)):=by
 intro J3 s σ H x v Q I rx h;obtain⟨i,rfl,q⟩:=h;obtain⟨t,rfl⟩:=rx;exact rule i t s _ _ ⟨.int (g i),H,I.tok _,⟨_,rfl⟩,q⟩
theorem Fq:UnR X (unaryOp .USub) (rU fun i=>.int (-i)):=unI fun _ _ _ _ _ q=>neg_int q
end
def Gj:V->V->Bool
 |.non,.non=>true | .non,.int _=>true | .int _,.non=>true | .non,.bl _=>true | .bl _,.non=>true | .non,.str _=>true | .str _,.non=>true
 |.int _,.int _=>true | .bl _,.bl _=>true | .str _,.str _=>true | .byt _,.byt _=>true
 |.int _,.str _=>true | .str _,.int _=>true | .bl _,.str _=>true | .str _,.bl _=>true
 |_,_=>false
def nS:R2:=fun x y H Q=>Gj x y=true/\Q (.bl (decide (x=y))) H
def xO:R2:=fun x y H Q=>Gj x y=true/\Q (.bl (!decide (x=y))) H
theorem AA{i j:Int}:decide (V.int i=V.int j)=(i==j):=by
 rw[p_];simp
theorem Dm{i j:Bool}:decide (V.bl i=V.bl j)=(i==j):=by
 rw[p_];simp
theorem Ax{i j:Str}:decide (V.str i=V.str j)=(i==j):=by
 rw[p_];simp
theorem AB{i j:Array UInt8}:decide (V.byt i=V.byt j)=(i.toList==j.toList):=by
 rw[p_];cases i;cases j;simp
section
variable{X:Cx}{a b c:Expr}{ta tb tc:TE}{pos:Pos}
theorem bZ{J3:Zd}{σ:St}{H:Hp}{s:Shared}{Q:VK}{k k':Bool}(I:Inv X J3 σ H s)(q:Q (.bl k) H)(e:k=k'):EP X J3 σ Q (.bool k') s:=by
 subst e;exact⟨.bl k,H,I,rfl,q⟩
theorem dA:mC X (eM .Eq) nS:=by
 intro J3 s σ H x y v u Q I rx ry h;obtain⟨hs,q⟩:=h;cases x with
 |non =>
  cases rx;cases y with
  |non=>cases ry;exact PySem.EqNone.eq_none_none (bZ I q (by simp))
  |bl j=>cases ry;exact PySem.EqNone.eq_none_bool (bZ I q (by simp))
  |int j=>obtain⟨t',rfl⟩:=ry;exact PySem.EqNone.eq_none_int (bZ I q (by simp))
  |str j=>obtain⟨t',rfl⟩:=ry;exact PySem.EqNone.eq_none_str (bZ I q (by simp))
  |_=>exact absurd (show false=true from hs) fR
 |bl i =>
  cases rx;cases y with
  |non=>cases ry;exact PySem.EqNone.eq_bool_none (bZ I q (by simp))
  |bl j=>cases ry;exact eq_bool (bZ I q Dm)
  |str j=>obtain⟨t',rfl⟩:=ry;exact PySem.EqMixed.eq_bool_str (bZ I q (by simp))
  |_=>exact absurd (show false=true from hs) fR
 |int i =>
  obtain⟨t,rfl⟩:=rx;cases y with
  |non=>cases ry;exact PySem.EqNone.eq_int_none (bZ I q (by simp))
  |int j=>obtain⟨t',rfl⟩:=ry;exact eq_int (bZ I q AA)
  |str j=>obtain⟨t',rfl⟩:=ry;exact PySem.EqMixed.eq_int_str (bZ I q (by simp))
  |_=>exact absurd (show false=true from hs) fR
 |str i =>
  obtain⟨t,rfl⟩:=rx;cases y with
  |non=>cases ry;exact PySem.EqNone.eq_str_none (bZ I q (by simp))
  |bl j=>cases ry;exact PySem.EqMixed.eq_str_bool (bZ I q (by simp))
  |int j=>obtain⟨t',rfl⟩:=ry;exact PySem.EqMixed.eq_str_int (bZ I q (by simp))
  |str j=>obtain⟨t',rfl⟩:=ry;exact eq_str (bZ I q Ax)
  |_=>exact absurd (show false=true from hs) fR
 |byt i =>
  obtain⟨t,rfl⟩:=rx;cases y with
  |byt j=>obtain⟨t',rfl⟩:=ry;exact PySem.W.eq_bytes (bZ I q AB)
  |_=>exact absurd (show false=true from hs) fR
 |_=>cases y<;>exact absurd (show false=true from hs) fR
theorem tT:mC X (eM .NotEq) xO:=by
 intro J3 s σ H x y v u Q I rx ry h;obtain⟨hs,q⟩:=h;cases x with
 |non =>
  cases rx;cases y with
  |non=>cases ry;exact PySem.EqNone.ne_none_none (bZ I q (by simp))
  |bl j=>cases ry;exact PySem.EqNone.ne_none_bool (bZ I q (by simp))
  |int j=>obtain⟨t',rfl⟩:=ry;exact PySem.EqNone.ne_none_int (bZ I q (by simp))
  |str j=>obtain⟨t',rfl⟩:=ry;exact PySem.EqNone.ne_none_str (bZ I q (by simp))
  |_=>exact absurd (show false=true from hs) fR
 |bl i =>
  cases rx;cases y with
  |non=>cases ry;exact PySem.EqNone.ne_bool_none (bZ I q (by simp))
  |bl j=>cases ry;exact ne_bool (bZ I q (congrArg not Dm))
  |str j=>obtain⟨t',rfl⟩:=ry;exact PySem.EqMixed.ne_bool_str (bZ I q (by simp))
  |_=>exact absurd (show false=true from hs) fR
 |int i =>
  obtain⟨t,rfl⟩:=rx;cases y with
  |non=>cases ry;exact PySem.EqNone.ne_int_none (bZ I q (by simp))
  |int j=>obtain⟨t',rfl⟩:=ry;exact ne_int (bZ I q (congrArg not AA))
  |str j=>obtain⟨t',rfl⟩:=ry;exact PySem.EqMixed.ne_int_str (bZ I q (by simp))
  |_=>exact absurd (show false=true from hs) fR
 |str i =>
  obtain⟨t,rfl⟩:=rx;cases y with
  |non=>cases ry;exact PySem.EqNone.ne_str_none (bZ I q (by simp))
  |bl j=>cases ry;exact PySem.EqMixed.ne_str_bool (bZ I q (by simp))
  |int j=>obtain⟨t',rfl⟩:=ry;exact PySem.EqMixed.ne_str_int (bZ I q (by simp))
  |str j=>obtain⟨t',rfl⟩:=ry;exact ne_str (bZ I q (congrArg not Ax))
  |_=>exact absurd (show false=true from hs) fR
 |byt i =>
  obtain⟨t,rfl⟩:=rx;cases y with
  |byt j=>obtain⟨t',rfl⟩:=ry;exact PySem.W.ne_bytes (bZ I q (congrArg not AB))
  |_=>exact absurd (show false=true from hs) fR
 |_=>cases y<;>exact absurd (show false=true from hs) fR
theorem xa:mC X (eM .Lt) (BL fun i j=>.bl (decide (i<j))):=Ey fun _ _ _ _ _ _ _ q=>lt_int q
theorem Gr:mC X (eM .LtE) (BL fun i j=>.bl (decide (i<=j))):=Ey fun _ _ _ _ _ _ _ q=>le_int q
theorem xb:mC X (eM .Gt) (BL fun i j=>.bl (decide (j<i))):=Ey fun _ _ _ _ _ _ _ q=>gt_int q
theorem Gs:mC X (eM .GtE) (BL fun i j=>.bl (decide (j<=i))):=Ey fun _ _ _ _ _ _ _ q=>ge_int q
theorem Bi:mC X (eM .In) (fun x y H Q=>∃i j,x=.str i/\y=.str j/\Q (.bl (!(cw.Str.occurrences j i 0 j.length 1).isEmpty)) H):=by
 intro J3 s σ H x y v u Q I rx ry h;obtain⟨i,j,rfl,rfl,q⟩:=h;obtain⟨t,rfl⟩:=rx;obtain⟨t',rfl⟩:=ry;exact in_str (bZ I q rfl)
theorem CM(b:Expr){op:CmpOp}(h:op≠.In:=by decide)(h2:op≠.NotIn:=by decide):jW op b=false:=by
 have e1:(op==CmpOp.In)=false:=by cases op<;>first|rfl|exact absurd rfl h
 have e2:(op==CmpOp.NotIn)=false:=by cases op<;>first|rfl|exact absurd rfl h2
 cases b<;>simp[jW,e1,e2]
theorem Ad{op:CmpOp}{r:R2}(ho:mC X (eM op) r)(ha:PE X a ta)(hb:PE X b tb)(hm:jW op b=false):PE X (.Compare a [op] [b] pos) (ay r ta tb):=by
 intro J3 s σ H Q I h;exact wpAny_Compare1 (FT ha hb I h fun v u s2 x y H2 I2 rx ry q=>ho J3 s2 σ H2 x y v u Q I2 rx ry q) hm
def aF(t:TE):TT:=fun σ H Q=>t σ H fun x H'=>∃k,x=.bl k/\Q k H'
theorem z_{op:CmpOp}{r:R2}(ho:mC X (eM op) r)(ha:PE X a ta)(hb:PE X b tb)(hm:jW op b=false):PT X (.Compare a [op] [b] pos) (aF (ay r ta tb)):=by
 intro J3 s σ H Q I h;refine wpAny_isTrue_Compare1 (cr (ha J3 s σ H _ I h) fun v s1 ⟨x,H1,I1,r1,q1⟩=>cr (hb J3 s1 σ H1 _ I1 q1) fun u s2 ⟨y,H2,I2,r2,q2⟩ =>
  cr (ho J3 s2 σ H2 x y v u _ I2 r1 r2 q2) fun c s3 ⟨z,H3,I3,r3,k,e,q3⟩=>?_) hm
 subst e;cases r3;exact mU ⟨H3,I3,q3⟩
theorem oO:(ah:Nat)<2 ^ 63:=by rw[p9];decide
theorem rp:mC X (lK .Add) (fun x y H Q=>∃i j,x=.str i/\y=.str j/\i.length+j.length<=ah/\Q (.str (i++j)) H):=by
 intro J3 s σ H x y v u Q I rx ry h;obtain⟨i,j,rfl,rfl,hz,q⟩:=h;obtain⟨t,rfl⟩:=rx;obtain⟨t',rfl⟩:=ry;exact add_str (fun t' tk=>⟨.str (i++j),H,I.tok _,⟨_,rfl⟩,q⟩) hz
theorem vals1{x:V}{us:Zf}(r:bg [x] us):∃u,us=[u]/\RelV x u:=by
 cases r with
 |cons r1 r2=>cases r2;exact⟨_,rfl,r1⟩
theorem vals2{x y:V}{us:Zf}(r:bg [x,y] us):∃u w',us=[u,w']/\RelV x u/\RelV y w':=by
 cases r with
 |cons r1 r2 =>
  cases r2 with
  |cons r3 r4=>cases r4;exact⟨_,_,rfl,r1,r3⟩
theorem BD(hc:X.calm=true):fN X (.builtin "max") (fun xs H Q=>∃i j,xs=[.int i,.int j]/\Q (.int (if j > i then j else i)) H):=by
 intro J3 s σ H xs us Q I r h;obtain⟨i,j,rfl,q⟩:=h;obtain⟨u,w',rfl,⟨t,rfl⟩,⟨t',rfl⟩⟩:=vals2 r;refine max_two_ints (I.ok.hd hc) fun h' tk k=>⟨_,H,I.kept k,?_,q⟩;by_cases hj:j > i
 ·rw[if_pos hj,if_pos hj];exact⟨_,rfl⟩
 ·rw[if_neg hj,if_neg hj];exact⟨_,rfl⟩
end
end L2
namespace L2
open PySem PySem.Spec PyProof.Rows
structure zb(h:Heap)(x dx C:Addr)(mA:Str->Option Value):Prop where
 obj:h.get? x=some (pe C dx)
 ns:h.Ns1 dx mA
 ne:dx≠x
theorem Bn{h:Heap}{dx:Addr}{mA:Str->Option Value}(n:h.Ns1 dx mA):∃od,h.get? dx=some od/\∀name,zE name od=some (mA name):=by
 obtain⟨o,es,ep,ho,hd,hk,_,hm⟩:=n;refine⟨o,ho,fun name=>?_⟩;have e:=hm name;unfold nsFind findBy at e;rw[<-Array.find?_toList]at e;unfold zE;rw[hd];dsimp only;split
 ·rename_i y q;rw[q]at e;exact congrArg some e
 ·rename_i q;rw[q]at e;have a:es.toList.any (·.refKey)=false:=by
   rw[List.any_eq_false];intro y hy;obtain⟨z,t,hkey⟩:=hk y (Array.mem_toList_iff.mp hy);simp[jq.refKey,hkey]
  have a':¬es.toList.any (·.refKey)=true:=by rw[a];exact fR
  rw[if_neg a'];exact congrArg some e
theorem zb.look{h:Heap}{x dx C:Addr}{mA:Str->Option Value}(I:zb h x dx C mA):∃od,PySem.W.InstAt h x (pe C dx) C (some od)/\∀name,zE name od=some (mA name) :=
 let⟨od,ho,hl⟩:=Bn I.ns
 ⟨od,⟨I.obj,rfl,rfl,ho⟩,hl⟩
section
variable{prog:bR}{w:World}{A:Around}{E:Zc}{s:Shared}{K:Za}{x dx C f:Addr}{mA:Str->Option Value}{name:Str}{v:Value}
theorem EF{expr:Bool}{Q:Zc}(X:K.In s.heap)(I:zb s.heap x dx C mA)(hg:wq K C name=true)(hh:zD K C=true)
  (ha:eR K (.ref C) name=some none) (hv:mA name=some v) (hv':PySem.W.handedIn v=true) (h:Q v { s with toks:=s.toks+1 }) :
  wpAny (model prog w) A (getAttr (.ref x) name expr) Q E s:=by
 obtain⟨od,J,hl⟩:=I.look;exact PySem.W.get_value X J (PySem.W.plainGet_of hg).1 (PySem.W.findObj_own hh ha rfl (by rw[hl,hv])) hv' h
theorem C7{pl:Sem Bool}{Q:Value×List Value->Shared->Prop}(X:K.In s.heap)(I:zb s.heap x dx C mA)(hg:wq K C name=true)
  (hf:eR K (.ref C) name=some (some (.ref f))) (ht:wo K (.ref f)=true) (hv:mA name=none) (h:Q (.ref f,[.ref x]) s) :
  wpAny (model prog w) A (o_ (.ref x) name pl) Q E s:=by
 obtain⟨od,J,hl⟩:=I.look;exact PySem.W.method_fn X J (PySem.W.plainGet_of hg).1 (PySem.W.plainGet_of hg).2 hf (beq_iff_eq.mp ht) (by show(zE name od).map (·.isSome)=some false;rw[hl,hv];rfl) h
theorem D0{ns:Zb}{Q:Unit->Shared->Prop}(X:K.In s.heap)(I:zb s.heap x dx C mA)
  (hs:eR K (.ref C) "__setattr__"=some (some (.builtin "object.__setattr__"))) (hp:PySem.W.plainOver K C=true) (ht:PySem.W.takerIn K C name=some none) (hh:zD K C=true)
  (hw:PySem.Within mA ns) (hsz:ns.length<=ah)
  (h:∀h',zb h' x dx C (fun y=>if y=name then some v else mA y)->iE dx s.heap h'->Q () { s with heap:=h',toks:=s.toks+2 }) :
  wpAny (model prog w) A (setAttr (.ref x) name v) Q E s:=by
 obtain⟨od,J,hl⟩:=I.look;refine PySem.W.set_plain X J hs (PySem.W.osa_open (s:={ s with toks:=s.toks+1 }) (r:=none) X J hp ht fun b=>?_);obtain⟨cd,hc,hd'⟩:=PySem.W.any_some hh;have hx:s.heap.get? x=some ⟨.ref C,some dx,.plain,#[]⟩:=I.obj;refine ak (ao (ak (ak (wpAny_loadPart hx (ak (PySem.W.Looks.here (s:={ s with toks:=s.toks+1 }) (PySem.W.looks_clsIn X hc) ?_))))));rw[hd'];refine ao (a:=some dx) (ak (ao (ak ?_)));refine wpAny_nsSet1 (s:={ s with toks:=s.toks+1 }) I.ns fun h' hn2 hs2=>?_;obtain⟨oD,esD,epD,hoD,hdD,hcD⟩:=hn2.count (PySem.Within.cons name v hw);refine ak (wpAny_lookBehind hoD (by rw[hdD];exact pastItsLine_dict (bh hcD (by rw[em];omega))) ?_);exact ao (h _ ⟨(hs2.2 _ (gF I.ne)).trans I.obj,hn2,I.ne⟩ hs2)
theorem CV{R:Result->Shared->Prop}{vs:Zf}{kw:List (Str×Value)}(X:K.In s.heap)(hm:wn K C=true)
  (hi:eR K (.ref C) "__init__"=some (some (.ref f))) (hf:PySem.W.typeIn K (.ref f)=some (.type "function"))
  (h:zzl90 (model prog w) (A.under (.builtin "type.__call__" ⟨.ref C::vs,kw⟩)) (.call (.ref f) ⟨.ref (s.heap.objs.size+1)::vs,kw⟩) (PySem.W.InitBack (s.heap.objs.size+1) R)
   { s with heap:=(s.heap.push mR).push (pe C s.heap.objs.size) }) :
  zzl90 (model prog w) A (.call (.ref C) ⟨vs,kw⟩) R s:=by
 obtain⟨hh,g,d,t,os⟩:=s;exact PySem.W.make_core (PySem.W.makes_of X hm) (PySem.W.looks_findIn X hi) (fun self=>PySem.W.bind_fn X self hf) (.inl rfl) h
end
def c7(f:Str)(v:V):List (Str×V)->List (Str×V)
 |[]=>[(f,v)]
 | (g,x)::r=>if g=f then(g,v)::r else(g,x)::c7 f v r
theorem fm(f g:Str)(v:V):∀fs:List (Str×V),(c7 f v fs).lookup g=if g=f then some v else fs.lookup g
 |[]=>by
  show j7 g [(f,v)]=_;by_cases h:g=f
  ·have hb:(g==f)=true:=beq_iff_eq.mpr h;simp only[j7,hb,if_pos h]
  ·have hb:(g==f)=false:=beq_eq_false_iff_ne.mpr h;simp only[j7,hb,if_neg h]
 | (k,x)::r=>by
  have ih:=fm f g v r;rw[show c7 f v ((k,x)::r)=(if k=f then(k,v)::r else(k,x)::c7 f v r)from rfl]
  by_cases hk:k=f
  ·rw[if_pos hk];by_cases h:g=k
   ·have hb:(g==k)=true:=beq_iff_eq.mpr h;simp only[j7,hb,if_pos (h.trans hk)]
   ·have hb:(g==k)=false:=beq_eq_false_iff_ne.mpr h;simp only[j7,hb,if_neg (fun e:g=f=>h (e.trans hk.symm))]
  ·rw[if_neg hk];by_cases h:g=k
   ·have hb:(g==k)=true:=beq_iff_eq.mpr h;simp only[j7,hb,if_neg (fun e:g=f=>hk (h.symm.trans e))]
   ·have hb:(g==k)=false:=beq_eq_false_iff_ne.mpr h;simp only[j7,hb];exact ih
theorem oQ(f:Str)(v:V):∀fs:List (Str×V),f∈(c7 f v fs).map (·.1)/\∀g,g∈fs.map (·.1)->g∈(c7 f v fs).map (·.1)
 |[]=>⟨by simp[c7],fun g h=>by simp at h⟩
 | (k,x)::r=>by
  obtain⟨i1,i2⟩:=oQ f v r;rw[show c7 f v ((k,x)::r)=(if k=f then(k,v)::r else(k,x)::c7 f v r)from rfl]
  by_cases hk:k=f
  ·rw[if_pos hk];subst hk;exact⟨by simp,fun g h=>by simpa using h⟩
  ·rw[if_neg hk];refine⟨?_,fun g h=>?_⟩
   ·rw[bI];exact fw _ i1
   ·rw[bI]at h ⊢;rcases cv.mp h with e|e
    ·exact cv.mpr (.inl e)
    ·exact fw _ (i2 g e)
theorem pA(f:Str)(v:V):∀fs:List (Str×V),(c7 f v fs).length<=fs.length+1
 |[]=>by simp[c7]
 | (k,x)::r=>by
  have ih:=pA f v r;rw[show c7 f v ((k,x)::r)=(if k=f then(k,v)::r else(k,x)::c7 f v r)from rfl]
  by_cases hk:k=f
  ·rw[if_pos hk,em,em];omega
  ·rw[if_neg hk,em,em];omega
theorem j5.some_of{v:V}{o:Option Value}(r:j5 (some v) o):∃u,o=some u/\RelV v u:=by
 cases o with
 |none=>exact(show False from r).elim
 |some u=>exact⟨u,rfl,r⟩
theorem j5.none_of{o:Option Value}(r:j5 none o):o=none:=by
 cases o with
 |none=>rfl
 |some u=>exact(show False from r).elim
theorem Bu{v:V}{u:Value}(r:RelV v u):PySem.W.handedIn u=true:=by
 cases v with
 |non=>cases(show u=Value.none from r);rfl
 |bl b=>cases(show u=Value.bool b from r);rfl
 |int i=>obtain⟨t,e⟩:=(show ∃t,u=Value.int i t from r);cases e;rfl
 |str x=>obtain⟨t,e⟩:=(show ∃t,u=Value.str x t from r);cases e;rfl
 |byt b=>obtain⟨t,e⟩:=(show ∃t,u=Value.bytes b t from r);cases e;rfl
 |flt b=>obtain⟨t,e⟩:=(show ∃t,u=Value.float b t from r);cases e;rfl
 |ref a=>cases(show u=Value.ref a from r);rfl
 |ty n=>cases(show u=Value.type n from r);rfl
section
variable{P:bR}{w:World}{H H':Hp}{h h':Heap}{a C dx:Addr}{fs fs':List (Str×V)}
theorem p6{K:Za}(hok:lB P w K H h)(e:H a=some (.ins C dx fs)):∃mA,zb h a dx C mA/\(∀f,j5 (fs.lookup f) (mA f))/\PySem.Within mA (fs.map (·.1))/\fs.length<=1000/\H dx=some (.own a):=by
 obtain⟨d,z,ne,ob,mA,n,r,q⟩:=(show cj P w K H h a (.ins C dx fs)from hok a _ e);exact⟨mA,⟨ob,n,ne⟩,r,q,z,d⟩
end
structure BK(K:Za)(C:Addr):Prop where
 pg:wq K C Str.empty=true
 hd:zD K C=true
 po:PySem.W.plainOver K C=true
 sa:eR K (.ref C) "__setattr__"=some (some (.builtin "object.__setattr__"))
theorem BK.get{K:Za}{C:Addr}(c:BK K C)(f:Str):wq K C f=true:=c.pg
def fM(K:Za)(C:Addr)(f:Str):Prop:=eR K (.ref C) f=some none
theorem fM.taker{K:Za}{C:Addr}{f:Str}(n:fM K C f):PySem.W.takerIn K C f=some none:=by
 unfold PySem.W.takerIn;rw[show eR K (.ref C) f=some none from n]
 rfl
structure EV(K:Za)(C:Addr)(m:Str)(f:Addr):Prop where
 at_:eR K (.ref C) m=some (some (.ref f))
 fn:wo K (.ref f)=true
 kp:i8 K (.ref f)=true
section
variable{X:Cx}{J3:Zd}{σ:St}{H:Hp}{s:Shared}{a C dx:Addr}{fs:List (Str×V)}{f:Str}{v:V}{A:Around}{E:Zc}
theorem yS{b:Bool}{Q:Zc}(I:Inv X J3 σ H s)(e:H a=some (.ins C dx fs))(c:BK X.K C)(n:fM X.K C f)(l:fs.lookup f=some v)
  (h:∀u s',Inv X J3 σ H s'->RelV v u->Q u s'):wpAny (model X.prog X.w) A (getAttr (.ref a) f b) Q E s:=by
 obtain⟨mA,O,r,_,_,_⟩:=p6 I.hok e;obtain⟨u,hu,ru⟩:=j5.some_of (v:=v) (o:=mA f) (by rw[<-l];exact r f);exact EF I.kIn O (c.get f) c.hd n hu (Bu ru) (h u _ (I.tok _) ru)
theorem rJ{m:Str}{g:Addr}{pl:Sem Bool}{Q:Value×List Value->Shared->Prop}(I:Inv X J3 σ H s)(e:H a=some (.ins C dx fs))(c:BK X.K C)(k:EV X.K C m g)(l:fs.lookup m=none)
  (h:Q (.ref g,[.ref a]) s):wpAny (model X.prog X.w) A (o_ (.ref a) m pl) Q E s:=by
 obtain⟨mA,O,r,_,_,_⟩:=p6 I.hok e;have hn:mA m=none:=j5.none_of (by rw[<-l];exact r m);exact C7 I.kIn O (c.get m) k.at_ k.fn hn h
theorem ym{y:V}{u:Value}{Q:Unit->Shared->Prop}(I:Inv X J3 σ H s)(e:H a=some (.ins C dx fs))(c:BK X.K C)(n:fM X.K C f)(hl:fs.length<1000)(ry:RelV y u)
  (h:∀s',Inv X J3 σ (upd H a (.ins C dx (c7 f y fs))) s'->Q () s'):wpAny (model X.prog X.w) A (setAttr (.ref a) f u) Q E s:=by
 obtain⟨mA,O,r,wi,_,ho⟩:=p6 I.hok e;have hz:(fs.map (·.1)).length<=ah:=by rw[ai,p9];omega
 refine D0 I.kIn O c.sa c.po n.taker c.hd wi hz fun h' O' sb=>h _ ?_;have hd:∃o,h'.get? dx=some o:=let⟨o,_,_,e',_⟩:=O'.ns;⟨o,e'⟩;refine I.write (x:=a) (e:=dx) (by rw[e];exact iC) (.inr ho) (fun b q hb z=>(sb.2 b hb).trans z) hd ?_;refine⟨by rw[aj O.ne];exact ho,?_,O.ne,O'.obj,_,O'.ns,fun g=>?_,fun g hg=>?_⟩
 ·have:=pA f y fs;omega
 ·show j5 ((c7 f y fs).lookup g) (if g=f then some u else mA g)
  rw[fm];by_cases q:g=f
  ·rw[if_pos q,if_pos q];exact ry
  ·rw[if_neg q,if_neg q];exact r g
 ·by_cases q:g=f
  ·rw[q];exact(oQ f y fs).1
  ·refine(oQ f y fs).2 g (wi g fun z=>hg ?_);show(if g=f then some u else mA g)=none
   rw[if_neg q];exact z
theorem Inv.made(I:Inv X J3 σ H s):Inv X J3 σ (upd (upd H s.heap.objs.size (.own (s.heap.objs.size+1))) (s.heap.objs.size+1) (.ins C s.heap.objs.size []))
  { s with heap:=(s.heap.push mR).push (pe C s.heap.objs.size) }:=by
 have e1:(s.heap.push mR).get? s.heap.objs.size=some mR:=c8 s.heap rfl;have e2:((s.heap.push mR).push (pe C s.heap.objs.size)).get? (s.heap.objs.size+1)=some (pe C s.heap.objs.size):=by
  have:=c8 (s.heap.push mR) (o:=pe C s.heap.objs.size) rfl;rwa[o9]at this
 have e3:(s.heap.push mR).Ns s.heap.objs.size (fun _=>none):=⟨mR,#[],_,e1,rfl,(fun e he=>absurd he (by simp)),fun _=>rfl⟩;have I1:=I.laid (a:=s.heap.objs.size) (o:=.own (s.heap.objs.size+1)) (h':=s.heap.push mR) (t':=s.toks) (fun b u q=>bC _ q) (aH _) ⟨_,e1⟩;refine I1.laid (a:=s.heap.objs.size+1) (o:=.ins C s.heap.objs.size []) (t':=s.toks) (fun b u q=>bC _ q) (Nat.le_of_eq (o9 _ _)) ?_;have ne:s.heap.objs.size≠s.heap.objs.size+1:=cR (Nat.lt_succ_self _);refine⟨by rw[aj ne,aa],dL _,ne,e2,fun _=>none,(Heap.Ns1.of_empty e3).at fun o q=>bC _ q,fun _=>iC,fun y hy=>absurd rfl hy⟩
theorem EN{prog:bR}{w:World}{env:Env}{e:Expr}{f:Str}{pos:Pos}{s:Shared}{Q:Zc}(hb:tw e f env (eval e env)=eval e env)
  (h:wpAny (model prog w) A (eval e env) (fun o s₁=>wpAny (model prog w) A (getAttr o f true) Q E s₁) E s):wpAny (model prog w) A (eval (.Attribute e f pos) env) Q E s :=
 Attribute_any_ h (by rw[arm_eval_Attribute,hb])
end
def qJ(K:Za)(ta:TE)(f:Str):TE:=fun σ H Q=>ta σ H fun x H1=>∃a C dx fs v,x=.ref a/\H1 a=some (.ins C dx fs)/\BK K C/\fM K C f/\fs.lookup f=some v/\Q v H1
def vp(K:Za)(ta tv:TE)(f:Str):TS:=fun D σ H=>tv σ H fun y H1=>ta σ H1 fun x H2=>∃a C dx fs,x=.ref a/\H2 a=some (.ins C dx fs)/\BK K C/\fM K C f/\fs.length<1000 /\
 D.nx σ (upd H2 a (.ins C dx (c7 f y fs)))
section
variable{X:Cx}{o e value:Expr}{f:Str}{pos pos' J7:Pos}{ta tv:TE}
theorem iZ(he:PE X e ta)(hb:tw e f X.env (eval e X.env)=eval e X.env):PE X (.Attribute e f pos) (qJ X.K ta f):=by
 intro J3 s σ H Q I h;refine EN hb (cr (he J3 s σ H _ I h) fun u s1 ⟨x,H1,I1,rx,a,C,dx,fs,v,ex,ea,c,n,l,q⟩=>?_);subst ex;obtain rfl:u=Value.ref a:=rx;exact yS I1 ea c n l fun u' s2 I2 ru=>⟨v,H1,I2,ru,q⟩
theorem kK(ha:PE X o ta)(hv:PE X value tv)(hs:pb value (some (.Attribute o f pos')) pos.line X.env=pure false):PS X (.Assign [.Attribute o f pos'] value pos) (vp X.K ta tv f):=by
 intro J3 s σ H D I h;refine plainObj_wpAny_Assign_Attribute (cr (hv J3 s σ H _ I h) fun u s1 ⟨y,H1,I1,ry,q⟩=>cr (ha J3 s1 σ H1 _ I1 q) fun ov s2 ⟨x,H2,I2,rx,a,C,dx,fs,ex,ea,c,n,l,q2⟩=>?_) hs;subst ex;obtain rfl:ov=Value.ref a:=rx;exact ym I2 ea c n l ry fun s3 I3=>⟨σ,_,I3,q2⟩
end
section
variable{X:Cx}{J3:Zd}{σ:St}{H:Hp}{s:Shared}{A:Around}{E:Zc}{Q:Zc}{c:Value}{b:Bool}
inductive gD(K:Za)(H:Hp):V->Value->Prop where
 |non:gD K H .non (.type "NoneType")
 |bl (x:Bool):gD K H (.bl x) (.type "bool")
 |int (i:Int):gD K H (.int i) (.type "int")
 |str (x:Str):gD K H (.str x) (.type "str")
 |flt (x:UInt64):gD K H (.flt x) (.type "float")
 |lst {a:Addr}{xs:List V}(e:H a=some (.lst xs)):gD K H (.ref a) (.type "list")
 |frz {a:Addr}{o:Obj}{xs:List V}(e:H a=some (.frz o (.lst xs))):gD K H (.ref a) (.type "list")
 |tup {a:Addr}{xs:List V}(e:H a=some (.tup xs)):gD K H (.ref a) (.type "tuple")
 |dK {a:Addr}{kvs:List (d6×V)}(e:H a=some (.dK kvs)):gD K H (.ref a) (.type "dict")
 |dT {a:Addr}{kvs:List (TK×V)}(e:H a=some (.dT kvs)):gD K H (.ref a) (.type "dict")
 |ins {a C dx:Addr}{fs:List (Str×V)}(e:H a=some (.ins C dx fs)) (cl:BK K C) (ha:eR K (.ref C) "__class__"=some (some (.builtin "object.__class__")))
   (hn:PySem.W.specialIn K (.builtin "object.__class__") "__get__"=some (some (.builtin "getset_descriptor.__get__"))) (htk:PySem.W.takesIn K (.builtin "object.__class__")=some true)
   (hm:PySem.W.mroIn K C (.type "object")=some true):gD K H (.ref a) (.ref C)
theorem Bq{x:V}{u t:Value}(I:Inv X J3 σ H s)(rx:RelV x u)(ty:gD X.K H x t)(e:mQ X.K t c=some b)(h:∀tk,Q (.bool b) { s with toks:=tk }):
  wpAny (model X.prog X.w) A (call (.builtin "isinstance") [u,c]) Q E s:=by
 cases ty with
 |non=>cases(show u=Value.none from rx);exact fW PySem.W.kitx_none I.kIn iC e (fun z=>nomatch z) h
 |bl y=>cases(show u=Value.bool y from rx);exact fW PySem.W.kitx_bool I.kIn iC e (fun z=>nomatch z) h
 |int i=>obtain⟨t,q⟩:=(show ∃t,u=Value.int i t from rx);cases q;exact fW PySem.W.kitx_int I.kIn iC e (fun z=>nomatch z) h
 |str y=>obtain⟨t,q⟩:=(show ∃t,u=Value.str y t from rx);cases q;exact fW PySem.W.kitx_str I.kIn iC e (fun z=>nomatch z) h
 |flt y=>obtain⟨t,q⟩:=(show ∃t,u=Value.float y t from rx);cases q;exact fW PySem.W.kitx_float I.kIn iC e (fun z=>nomatch z) h
 |@lst a xs ea =>
  cases(show u=Value.ref a from rx);obtain⟨_,_,n,_,h1⟩:=(show cj X.prog X.w X.K H s.heap a (.lst xs)from I.hok a _ ea);exact fW PySem.W.kitx_list I.kIn ⟨_,h1,rfl⟩ e (fun z=>nomatch z) h
 |@frz a ob xs ea =>
  cases(show u=Value.ref a from rx);obtain⟨_,_,_,n,_,h1⟩:=(show cj X.prog X.w X.K H s.heap a (.frz ob (.lst xs))from I.hok a _ ea);exact fW PySem.W.kitx_list I.kIn ⟨_,h1,rfl⟩ e (fun z=>nomatch z) h
 |@tup a xs ea =>
  cases(show u=Value.ref a from rx);obtain⟨_,_,_,p⟩:=(show cj X.prog X.w X.K H s.heap a (.tup xs)from I.hok a _ ea);obtain⟨o,h1,h2,_⟩:=p;exact fW PySem.W.kitx_tuple I.kIn ⟨o,h1,h2⟩ e (fun z=>nomatch z) h
 |@dK a kvs ea =>
  cases(show u=Value.ref a from rx);obtain⟨_,_,vs,_,p⟩:=(show cj X.prog X.w X.K H s.heap a (.dK kvs)from I.hok a _ ea);obtain⟨o,es,ep,h1,h2,_⟩:=p;exact fW PySem.W.kitx_dict I.kIn ⟨o,h1,h2.1⟩ e (fun z=>nomatch z) h
 |@dT a kvs ea =>
  cases(show u=Value.ref a from rx);obtain⟨_,_,xs,_,o,es,ep,h1,h2,_⟩:=(show cj X.prog X.w X.K H s.heap a (.dT kvs)from I.hok a _ ea);exact fW PySem.W.kitx_dict I.kIn ⟨o,h1,h2.1⟩ e (fun z=>nomatch z) h
 |@ins a C dx fs ea cl ha hn htk hm =>
  cases(show u=Value.ref a from rx);obtain⟨mA,O,_⟩:=p6 I.hok ea;obtain⟨od,J,_⟩:=O.look;exact fW (PySem.W.kitx_own (cl.get _) cl.hd ha hn htk hm) I.kIn J e (fun z=>nomatch z) h
end
end L2
namespace L2
open PySem PySem.Spec PyProof.Rows
structure eL(k:Nat)(A:Around):Prop where
 hd:A.handled=none
 dp:A.depth+3 * k+5<recursionLimit
 un:A.units+16 * k+200<cLine
theorem eL.mono{j k:Nat}{A:Around}(r:eL k A)(h:j<=k):eL j A:=⟨r.hd,by have:=r.dp;omega,by have:=r.un;omega⟩
theorem eL.deeper{k:Nat}{A:Around}(r:eL (k+1) A)(env:Env):eL k (A.deeper env) :=
 ⟨r.hd,by have:=r.dp;show A.depth+1+3 * k+5<_;omega,by have:=r.un;show A.units+3+16 * k+200<_;omega⟩
theorem yJ{A:Around}{C:Addr}{us:Zf}{kw:List (Str×Value)}:(A.under (.builtin "type.__call__" ⟨.ref C::us,kw⟩)).depth=A.depth+1:=by
 first|rfl|simp[Around.under,Code.weight,Code.isCreation,Code.isGuard,Code.isCaller,Code.frames,Code.isFrame,guardIds]
theorem yI{A:Around}{C:Addr}{us:Zf}{kw:List (Str×Value)}:(A.under (.builtin "type.__call__" ⟨.ref C::us,kw⟩)).units=A.units+1:=by
 first|rfl|simp[Around.under,Code.cUnits,Code.frames,Code.isFrame]
theorem eL.make{k:Nat}{A:Around}(r:eL (k+1) A)(C:Addr)(us:Zf)(kw:List (Str×Value)):eL k (A.under (.builtin "type.__call__" ⟨.ref C::us,kw⟩)) :=
 ⟨r.hd,by have:=r.dp;rw[yJ];omega,by have:=r.un;rw[yI];omega⟩
theorem eL.depth{k:Nat}{A:Around}(r:eL k A):A.depth<recursionLimit:=by have:=r.dp;omega
theorem eL.units{k:Nat}{A:Around}(r:eL k A):A.units+64<cLine:=by have:=r.un;omega
def a_:TA:=fun _ H Q=>Q [] H
def aq(ta:TE)(tr:TA):TA:=fun σ H Q=>ta σ H fun x H1=>tr σ H1 fun xs H2=>Q (x::xs) H2
abbrev aG(a:TE):TA:=aq a a_
abbrev aI(a b:TE):TA:=aq a (aq b a_)
abbrev dC(a b c:TE):TA:=aq a (aq b (aq c a_))
section
variable{X:Cx}{e:Expr}{es:List Expr}{te:TE}{t:TA}{pos:Pos}
theorem cA:PA X [] a_:=fun _ _ _ _ H Q I h=>Calls.spliced_nil ⟨[],H,I,.nil,h⟩
theorem bS(ha:PE X e te)(hr:PA X es t)(hs:aQ (e::es) X.env=(false,eval e X.env)::aQ es X.env:=by rfl):PA X (e::es) (aq te t):=by
 intro pos J3 s σ H Q I h;rw[hs];show wpAny _ _ (spliced ((false,eval e X.env)::backTo pos (aQ es X.env))) _ _ s;refine u2 (cr (ha J3 s σ H _ I h) fun u s1 ⟨x,H1,I1,r1,q1⟩=>?_);exact cr (hr pos J3 s1 σ H1 _ I1 q1) fun us s2 ⟨xs,H2,I2,r2,q2⟩=>⟨x::xs,H2,I2,.cons r1 r2,q2⟩
def bd(t:TA):TE:=fun σ H Q=>t σ H fun xs H1=>xs.length<=ah/\∀p,H1 p=none->Q (.ref p) (upd H1 p (.tup xs))
def db(t:TA):TE:=fun σ H Q=>t σ H fun xs H1=>xs.length<=ah/\∀p,H1 p=none->Q (.ref p) (upd H1 p (.lst xs))
theorem aE{x1}(h:PA X es t):PE X (.Tuple es x1 pos) (bd t):=by
 intro J3 s σ H Q I hq;refine wpAny_Tuple_spliced (cr (h pos J3 s σ H _ I hq) fun us s1 ⟨xs,H1,I1,r,z,q⟩=>⟨by rw[<-r.length];exact z,?_⟩);have hf:H1 s1.heap.objs.size=none:=I1.hok.fresh (aH _);refine⟨.ref s1.heap.objs.size,upd H1 s1.heap.objs.size (.tup xs),I1.laid (t':=s1.toks) (fun b u e=>bC _ e) (aH _) ?_,rfl,q _ hf⟩;exact⟨z,us,r,⟨_,c8 _ rfl,rfl,_,rfl⟩⟩
theorem bG(h:PA X es t):PE X (.List es pos) (db t):=by
 intro J3 s σ H Q I hq;refine wpAny_List_spliced (cr (h pos J3 s σ H _ I hq) fun us s1 ⟨xs,H1,I1,r,z,q⟩=>⟨by rw[<-r.length];exact z,?_⟩);have hf:H1 s1.heap.objs.size=none:=I1.hok.fresh (aH _);refine⟨.ref s1.heap.objs.size,upd H1 s1.heap.objs.size (.lst xs),I1.laid (t':=s1.toks) (fun b u e=>bC _ e) (aH _) ?_,rfl,q _ hf⟩;exact⟨z,us,0,r,c8 _ rfl⟩
end
abbrev Sp:=List V->Hp->VK->XK->Prop
abbrev BR:=List Env->Hp->Shared->XK->Value->Shared->Prop
structure zB(P:bR)(w:World)(K:Za)(mg:Str->Option Value)(base:Heap)(A:Around)(outer:List Env)(s:Shared)(H:Hp):Prop where
 frames:A.frames=some outer
 mod:Mod K mg base
 bs:∀b o,base.get? b=some o->s.heap.get? b=some o/\H b=none
 bsz:base.objs.size<=s.heap.objs.size
 funs:s.heap.FunFrames base outer
 frf:∀b∈BN outer,H b=none
 hok:lB P w K H s.heap
 bare:mT s.gens
def CE(outer:List Env)(P:bR)(w:World)(K:Za)(H:Hp)(s:Shared)(Q:VK)(u:Value)(s':Shared):Prop :=
 ∃v H',s'.os=s.os/\mT s'.gens/\Un (BN outer) [] H H' s.heap s'.heap/\lB P w K H' s'.heap/\RelV v u/\Q v H'
def CR(CX:BR)(outer:List Env)(P:bR)(w:World)(K:Za)(H:Hp)(s:Shared)(Q:VK)(E:XK)(r:Result)(s':Shared):Prop :=
 match r with
 |.ok (.ret u)=>CE outer P w K H s Q u s'
 |.ok _=>False
 |.error e=>CX outer H s E e s'
structure kU(P:bR)(w:World)(K:Za)(mg:Str->Option Value)(base:Heap)(CX:BR)(k:Nat)(f:Addr)(fd:gA)(ps:Zb)(sp:Sp):Prop where
 len:∀vs H Q E,sp vs H Q E->vs.length=ps.length
 run:∀(A:Around) (outer:List Env) (s:Shared) (H:Hp) (args:Args) (us:Zf) (vs:List V) (Q:VK) (E:XK),eL k A->zB P w K mg base A outer s H->l6 s fd args (ps.zip us)->bg vs us->sp vs H Q E ->
  zzl90 (model P w) A (.call (.ref f) args) (CR CX outer P w K H s Q E) s
theorem zB.make{P:bR}{w:World}{K:Za}{mg:Str->Option Value}{base:Heap}{A:Around}{outer:List Env}{s:Shared}{H:Hp}(e:zB P w K mg base A outer s H)(C:Addr)(us:Zf)(kw:List (Str×Value)):
  zB P w K mg base (A.under (.builtin "type.__call__" ⟨.ref C::us,kw⟩)) outer s H:=⟨by first|exact e.frames|(simpa[Around.under,Code.envs,Code.isFrame,pushEnvs]using e.frames),e.mod,e.bs,e.bsz,e.funs,e.frf,e.hok,e.bare⟩
section
variable{X:Cx}{J3:Zd}{σ:St}{H:Hp}{s s':Shared}
theorem Inv.env0(I:Inv X J3 σ H s):zB X.prog X.w X.K X.mg X.base X.A X.stack s H :=
 ⟨I.ok.frames,I.ok.mod,I.bs,bh I.ok.bsz I.sz,I.stack,I.stkFree,I.hok,I.bare⟩
theorem Inv.after{Q:VK}{u:Value}(I:Inv X J3 σ H s)(h:CE X.stack X.prog X.w X.K H s Q u s'):EP X J3 σ Q u s':=by
 obtain⟨v,H',os,bare,un,hok,r,q⟩:=h;obtain⟨hh,g,d,t,os'⟩:=s';obtain rfl:os'=s.os:=os;exact⟨v,H',I.call (h':=hh) (g':=g) (d':=d) (t':=t) (ch:=[]) un hok bare (fun b z=>absurd z (by simp)),r,q⟩
end
def E_(sp:Sp)(dvs:List V)(E:XK)(t:TA):TE:=fun σ H Q=>t σ H fun vs H1=>sp (vs++dvs) H1 Q E
def dw(C:Addr)(m:Str)(sp:Sp)(dvs:List V)(E:XK)(ta:TE)(t:TA):TE:=fun σ H Q=>ta σ H fun x H1=>∃a dx fs,x=.ref a/\H1 a=some (.ins C dx fs)/\fs.lookup m=none /\
 t σ H1 fun vs H2=>sp (x::(vs++dvs)) H2 Q E
def Cc(C:Addr)(sp:Sp)(dvs:List V)(E:XK)(t:TA):TE:=fun σ H Q=>t σ H fun vs H1=>∀x dx,H1 x=none->H1 dx=none->dx≠x ->
 sp (.ref x::(vs++dvs)) (upd (upd H1 dx (.own x)) x (.ins C dx [])) (fun v H2=>v=.non/\Q (.ref x) H2) E
def Binds(K:Za)(fd:gA)(ps:Zb)(ds:Zf):Prop :=
 ∀(s:Shared) (us:Zf),K.In s.heap->(us++ds).length=ps.length->l6 s fd ⟨us,[]⟩ (ps.zip (us++ds))
theorem Binds.all{K:Za}{fd:gA}{ps:Zb}(h:∀us:List Value,us.length=ps.length->bindArgs fd ⟨us,[]⟩=pure (ps.zip us)):Binds K fd ps []:=fun s us _ hl=>by
 rw[dv]at hl ⊢;exact .of_eq (h us hl)
def mB(CX:BR)(X:Cx)(E:XK):Prop:=∀(J3:Zd) (σ:St) (H:Hp) (s:Shared) (e:Value) (s':Shared),Inv X J3 σ H s->CX X.stack H s E e s'->X.xe e s'
section
variable{X:Cx}{CX:BR}{k:Nat}{f C:Addr}{fd:gA}{ps:Zb}{sp:Sp}{dvs:List V}{ds:Zf}{E:XK}{x m:Str}{p pos J5:Pos}{e o:Expr}{es:List Expr}{ta:TE}{t:TA}
theorem yq{J3:Zd}{σ:St}{H:Hp}{s:Shared}{Q:VK}{us:Zf}{vs:List V}(F:kU X.prog X.w X.K X.mg X.base CX k f fd ps sp)(hr:eL k X.A)(hb:Binds X.K fd ps ds)(hd:bg dvs ds)(hx:mB CX X E)
  (I:Inv X J3 σ H s) (r:bg vs us) (h:sp (vs++dvs) H Q E):wpAny (model X.prog X.w) X.A (call (.ref f) us) (EP X J3 σ Q) X.xe s:=by
 have r2:bg (vs++dvs) (us++ds):=r.append hd;have hl:(us++ds).length=ps.length:=by rw[<-r2.length];exact F.len _ _ _ _ h
 refine wpAny_call (u1 (F.run X.A X.stack s H ⟨us,[]⟩ (us++ds) (vs++dvs) Q E hr I.env0 (hb s us I.kIn hl) r2 h) fun r s' hq=>?_);cases r with
 |error e=>exact hx J3 σ H s e s' I hq
 |ok fl =>
  cases fl with
  |ret u=>exact I.after hq
  |next=>exact i9 hq
  |brk=>exact i9 hq
  |cont=>exact i9 hq
theorem Eu(F:kU X.prog X.w X.K X.mg X.base CX k f fd ps sp)(hr:eL k X.A)(hg:Gl X x)(hm:X.mg x=some (.ref f))(hk:i8 X.K (.ref f)=true)(hb:Binds X.K fd ps ds)(hd:bg dvs ds)(hx:mB CX X E)
  (ha:PA X (e::es) t) (hdb:(x==("__debug__":Str))=false:=by decide) (he:aQ (e::es) X.env=(false,eval e X.env)::aQ es X.env:=by rfl) (hpl:(backTo pos (aQ es X.env)).any (·.1)=false:=by rfl) :
  PE X (.Call (.Name x p) (e::es) [] pos) (E_ sp dvs E t):=by
 intro J3 s σ H Q I h;refine uZ (vF I hg hm ?_ hdb);refine PySem.W.callWith_K (h₀:=X.base) I.ok.mod.kin hk (cr (ha pos J3 s σ H _ I h) fun us s1 ⟨vs,H1,I1,r,q⟩=>⟨I1.kIn,?_⟩) he hpl;exact yq F hr hb hd hx I1 r q
theorem Ep{pl:Sem Bool}(he:PE X o ta)(c:BK X.K C)(hm:EV X.K C m f)(F:kU X.prog X.w X.K X.mg X.base CX k f fd ps sp)(hr:eL k X.A)(hb:Binds X.K fd ps ds)(hd:bg dvs ds)(hx:mB CX X E)(ha:PA X (e::es) t)
  (hst:aQ (e::es) X.env=(false,eval e X.env)::aQ es X.env:=by rfl) (hpl:(backTo pos (aQ es X.env)).any (·.1)=false:=by rfl)
  (ht:eval (.Call (.Attribute o m J5) (e::es) [] pos) X.env=(do
   let ov <- eval o X.env
   pc J5.atName
   let(f,first) <- j9 [ov] (o_ ov m pl)
   ow pos f first (backTo pos (aQ (e::es) X.env)) (jw pos (jv [] X.env))):=by rfl) :
  PE X (.Call (.Attribute o m J5) (e::es) [] pos) (dw C m sp dvs E ta t):=by
 intro J3 s σ H Q I h;refine PySem.W.methodCall_KW (pl:=pl) (cr (he J3 s σ H _ I h) fun u s1 ⟨x,H1,I1,rx,a,dx,fs,ex,ea,l,q⟩=>?_) ht;subst ex;obtain rfl:u=Value.ref a:=rx;refine rJ I1 ea c hm l ?_;refine PySem.W.callWith_K (first:=[.ref a]) (h₀:=X.base) I.ok.mod.kin hm.kp (cr (ha pos J3 s1 σ H1 _ I1 q) fun us s2 ⟨vs,H2,I2,r,q2⟩=>⟨I2.kIn,?_⟩) hst hpl
 exact yq (us:=.ref a::us) (vs:=.ref a::vs) F hr hb hd hx I2 (.cons rfl r) q2
theorem CH{pl:Sem Bool}(he:PE X o ta)(c:BK X.K C)(hm:EV X.K C m f)(F:kU X.prog X.w X.K X.mg X.base CX k f fd ps sp)(hr:eL k X.A)(hb:Binds X.K fd ps ds)(hd:bg dvs ds)(hx:mB CX X E)
  (ht:eval (.Call (.Attribute o m J5) [] [] pos) X.env=(do
   let ov <- eval o X.env
   pc J5.atName
   let(f,first) <- j9 [ov] (o_ ov m pl)
   ow pos f first (backTo pos (aQ [] X.env)) (jw pos (jv [] X.env))):=by rfl) :
  PE X (.Call (.Attribute o m J5) [] [] pos) (dw C m sp dvs E ta a_):=by
 intro J3 s σ H Q I h;refine PySem.W.methodCall_KW (pl:=pl) (cr (he J3 s σ H _ I h) fun u s1 ⟨x,H1,I1,rx,a,dx,fs,ex,ea,l,q⟩=>?_) ht;subst ex;obtain rfl:u=Value.ref a:=rx;refine rJ I1 ea c hm l ?_;exact PySem.W.callWith_K0 (first:=[.ref a]) I1.kIn hm.kp (yq (us:=[.ref a]) (vs:=[.ref a]) F hr hb hd hx I1 (.cons rfl .nil) q)
structure Mk(K:Za)(C f:Addr):Prop where
 makes:wn K C=true
 init:eR K (.ref C) "__init__"=some (some (.ref f))
 fn:wo K (.ref f)=true
 kp:i8 K (.ref C)=true
theorem Cg{J3:Zd}{σ:St}{H:Hp}{s:Shared}{Q:VK}{us:Zf}{vs:List V}(M:Mk X.K C f)(F:kU X.prog X.w X.K X.mg X.base CX k f fd ps sp)(hr:eL (k+1) X.A)(hb:Binds X.K fd ps ds)(hd:bg dvs ds)
  (hx:mB CX X E) (I:Inv X J3 σ H s) (r:bg vs us)
  (h:∀x dx,H x=none->H dx=none->dx≠x->sp (.ref x::(vs++dvs)) (upd (upd H dx (.own x)) x (.ins C dx [])) (fun v H2=>v=.non/\Q (.ref x) H2) E) :
  wpAny (model X.prog X.w) X.A (call (.ref C) us) (EP X J3 σ Q) X.xe s:=by
 have hq:=h (s.heap.objs.size+1) s.heap.objs.size (I.hok.fresh (oq _)) (I.hok.fresh (aH _)) (cR (Nat.lt_succ_self _));have I2:=Inv.made (C:=C) I;have r2:bg (V.ref (s.heap.objs.size+1)::(vs++dvs)) (Value.ref (s.heap.objs.size+1)::(us++ds)):=.cons rfl (r.append hd);have hl:(Value.ref (s.heap.objs.size+1)::us++ds).length=ps.length:=by
  have e:=r2.length;rw[F.len _ _ _ _ hq]at e;exact e.symm
 refine wpAny_call (CV (f:=f) I.kIn M.makes M.init (beq_iff_eq.mp M.fn) (u1 (F.run _ X.stack _ _ ⟨Value.ref (s.heap.objs.size+1)::us,[]⟩ (Value.ref (s.heap.objs.size+1)::(us++ds)) _ _ E (hr.make C us [])
  (I2.env0.make C us []) (hb _ (Value.ref (s.heap.objs.size+1)::us) I2.kIn hl) r2 hq) fun r s' hq'=>?_))
 cases r with
 |error e=>exact hx J3 σ _ _ e s' I2 hq'
 |ok fl =>
  cases fl with
  |ret u =>
   obtain⟨v,H',I3,rv,ev,q3⟩:=I2.after hq';subst ev;exact⟨rv,⟨V.ref (s.heap.objs.size+1),H',I3,rfl,q3⟩⟩
  |next=>exact i9 hq'
  |brk=>exact i9 hq'
  |cont=>exact i9 hq'
theorem Er(M:Mk X.K C f)(F:kU X.prog X.w X.K X.mg X.base CX k f fd ps sp)(hr:eL (k+1) X.A)(hg:Gl X x)(hm:X.mg x=some (.ref C))(hb:Binds X.K fd ps ds)(hd:bg dvs ds)(hx:mB CX X E)
  (ha:PA X (e::es) t) (hdb:(x==("__debug__":Str))=false:=by decide) (he:aQ (e::es) X.env=(false,eval e X.env)::aQ es X.env:=by rfl) (hpl:(backTo pos (aQ es X.env)).any (·.1)=false:=by rfl) :
  PE X (.Call (.Name x p) (e::es) [] pos) (Cc C sp dvs E t):=by
 intro J3 s σ H Q I h;refine uZ (vF I hg hm ?_ hdb);refine PySem.W.callWith_K (h₀:=X.base) I.ok.mod.kin M.kp (cr (ha pos J3 s σ H _ I h) fun us s1 ⟨vs,H1,I1,r,q⟩=>⟨I1.kIn,?_⟩) he hpl;exact Cg M F hr hb hd hx I1 r q
end
structure jN(N P:Zb)(sc:Scope):Prop where
 kind:sc.kind=.function
 co:sc.isCoroutine=false
 gen:sc.isGenerator=false
 nd:N.Nodup
 pre:N.take P.length=P
 par:∀x∈P,sc.names.lookup x=some .local∨sc.names.lookup x=some .cell
 nofree:∀y∈sc.names,y.2≠.free
theorem uc{kindOf:Str->Option fV}{x:Str}:∀{binds:List (Str×Value)}{m:Str->Option Value},(∀v,(x,v)∉binds)->bindL kindOf binds m x=m x
 |[],_,_=>rfl
 | (n,v)::r,m,h=>by
  unfold bindL;rw[uc fun w hw=>h w (fw _ hw)];split
  ·have:x≠n:=by rintro rfl;exact h v fx
   simp[this]
  ·rfl
theorem ue{kindOf:Str->Option fV}{x:Str}:∀{binds:List (Str×Value)}{m:Str->Option Value},(∀v,(x,v)∉binds)->bindC kindOf binds m x=m x
 |[],_,_=>rfl
 | (n,v)::r,m,h=>by
  unfold bindC;rw[ue fun w hw=>h w (fw _ hw)];split
  ·rfl
  ·have:x≠n:=by rintro rfl;exact h v fx
   simp[this]
theorem ud{kindOf:Str->Option fV}{x:Str}{v:Value}:∀{P:Zb}{vs:Zf}{i:Nat}{m:Str->Option Value},P.Nodup->P[i]?=some x->vs[i]?=some v->kindOf x=some .local ->
  bindL kindOf (P.zip vs) m x=some v
 |[],_,_,_,_,h,_,_=>by simp at h
 |_::_,[],_,_,_,_,h,_=>by simp at h
 |p::P,w::vs,0,m,nd,h1,h2,hk=>by
  simp at h1 h2;subst h1;subst h2;show bindL kindOf ((p,w)::P.zip vs) m p=_;unfold bindL;rw[uc fun v hv=>(iU.mp nd).1 (List.of_mem_zip hv).1,if_pos hk];simp
 |p::P,w::vs,i+1,m,nd,h1,h2,hk=>by
  show bindL kindOf ((p,w)::P.zip vs) m x=_;unfold bindL;exact ud (i:=i) (iU.mp nd).2 (by simpa using h1) (by simpa using h2) hk
theorem uf{kindOf:Str->Option fV}{x:Str}{v:Value}:∀{P:Zb}{vs:Zf}{i:Nat}{m:Str->Option Value},P.Nodup->P[i]?=some x->vs[i]?=some v->kindOf x≠some .local ->
  bindC kindOf (P.zip vs) m x=some v
 |[],_,_,_,_,h,_,_=>by simp at h
 |_::_,[],_,_,_,_,h,_=>by simp at h
 |p::P,w::vs,0,m,nd,h1,h2,hk=>by
  simp at h1 h2;subst h1;subst h2;show bindC kindOf ((p,w)::P.zip vs) m p=_;unfold bindC;rw[ue fun v hv=>(iU.mp nd).1 (List.of_mem_zip hv).1,if_neg hk];simp
 |p::P,w::vs,i+1,m,nd,h1,h2,hk=>by
  show bindC kindOf ((p,w)::P.zip vs) m x=_;unfold bindC;exact uf (i:=i) (iU.mp nd).2 (by simpa using h1) (by simpa using h2) hk
def start(N:Zb)(vs:List V):St:=vs.map some++List.replicate (N.length-vs.length) none
def yX(CX:BR)(P:bR)(w:World)(K:Za)(mg:Str->Option Value)(base:Heap)(N:Zb)(qual:Str)(scope:Scope)(f:Addr)(cd:Value)(A:Around)(outer:List Env)(s:Shared)(H:Hp)(E:XK):Cx where
 prog:=P
 w:=w
 K:=K
 mg:=mg
 base:=base
 A:=A.deeper (envOfC qual scope s.heap.objs.size f cd)
 N:=N
 s₀:=s
 H₀:=H
 env:=envOfC qual scope s.heap.objs.size f cd
 outer:=outer
 stack:=envOfC qual scope s.heap.objs.size f cd::outer
 ex:=[]
 calm:=true
 fn:=fun _=>true
 pn:=[]
 xe:=fun e s'=>wpAny (model P w) (A.deeper (envOfC qual scope s.heap.objs.size f cd)) (leaving (envOfC qual scope s.heap.objs.size f cd) e) (fun _ s''=>CX outer H s E e s'') (fun e' s''=>CX outer H s E e' s'') s'
theorem xD{sc:Scope}{n:Nat}{x:Str}(h:sc.names.lookup x=some .cell):∃c,(cellsFrom n sc.names []).lookup x=some c:=by
 have q:=PySem.W.cellsFrom_some sc.names n [] (.inl h);exact uY.mp q
theorem Bs{CX:BR}{P:bR}{w:World}{K:Za}{mg:Str->Option Value}{base:Heap}{N ps:Zb}{qual:Str}{scope:Scope}{f:Addr}{cd:Value}{A:Around}{outer:List Env}{s s1:Shared}{H:Hp}{E:XK}{us:Zf}{vs:List V}
  (S:jN N ps scope) (hd:A.handled=none) (e0:zB P w K mg base A outer s H) (hl:vs.length=ps.length) (r:bg vs us)
  (x:InCallC s s.heap.objs.size (bindL (envOfC qual scope s.heap.objs.size f cd).kindOf (ps.zip us) fun _=>none) (cellsFrom (s.heap.objs.size+1) scope.names []) (bindC (envOfC qual scope s.heap.objs.size f cd).kindOf (ps.zip us) fun _=>none) s1) :
  Inv (yX CX P w K mg base N qual scope f cd A outer s H E) [] (start N vs) H s1:=by
 have hpl:ps.length<=N.length:=by have:=congrArg List.length S.pre;rw[aD]at this;omega
 obtain⟨h1,tk,rfl,hk⟩:=x.done;have noA:∀b:Addr,b∉(yX CX P w K mg base N qual scope f cd A outer s H E).ex:=fun b z=>absurd (show b∈([]:Ze)from z) (by simp);refine⟨⟨e0.mod,S.kind,rfl,rfl,aH _,fun y z c h1 h2=>?_,fun y hy=>?_,fun y c _ h=>?_,fun _=>hd,Around.frames_deeper e0.frames,.inr ⟨rfl,rfl⟩,fun b z=>absurd z (noA b),e0.bs,e0.bsz,fun b _ _=>noA b,fun b z=>absurd z (noA b),e0.funs,e0.frf⟩,
  rfl,e0.bare,Un.kept hk,⟨_,x.toInCall.ns,fun i y v h1 h2 h3=>?_⟩,fun y c h=>⟨_,x.cell y c h⟩,e0.hok.fresh (aH _),fun y c h=>?_,fun p hp=>absurd (show p∈([]:Zd)from hp) (by simp),e0.hok.kept hk,?_⟩
 ·exact name_of_addr x.apart (qx h1) (qx h2)
 ·have hy:scope.names.lookup y=some .cell∨scope.names.lookup y=some .free:=hy;rcases hy with hy|hy
  ·exact xD hy
  ·exact absurd rfl (S.nofree _ (qx hy))
 ·exact fh (x.above y c (qx h))
 ·have hi:i<vs.length:=by
   unfold start at h2;by_cases hi:i<vs.length
   ·exact hi
   ·rw[List.getElem?_append_right (by simpa using hi)]at h2;rw[List.getElem?_replicate]at h2;split at h2<;>cases h2
  have ha:vs[i]?=some v:=by
   unfold start at h2;rw[qw (by simpa using hi),cO]at h2;cases e:vs[i]? with
   |none=>rw[e]at h2;cases h2
   |some a=>rw[e]at h2;cases h2;rfl
  obtain⟨u,hu,rv⟩:=r.get ha;have hp:ps[i]?=some y:=by
   rw[<-S.pre,List.getElem?_take_of_lt (by omega)];exact h1
  have ndP:ps.Nodup:=by rw[<-S.pre];exact S.nd.sublist (List.take_sublist _ _)
  refine⟨u,rv,?_⟩;rcases S.par y (bY hp)with k|k
  ·exact .inl ⟨k,ud ndP hp hu k⟩
  ·obtain⟨c,e⟩:=xD (n:=s.heap.objs.size+1) k;refine .inr ⟨.inl k,c,e,?_⟩;have q:=x.cell y c e;rw[uf ndP hp hu (by show scope.names.lookup y≠_;rw[k];decide)]at q;exact q
 ·exact e0.hok.fresh (fh (x.above y c (qx h)))
 ·unfold start;show _=N.length;rw[aO,ai,List.length_replicate];omega
theorem Gy{CX:BR}{P:bR}{w:World}{K:Za}{mg:Str->Option Value}{base:Heap}{k:Nat}{f:Addr}{name qual:Str}{params:Arguments}{body:List Stmt}{scope:Scope}{dV kV doc pm cdv ct oc:Value}{an od:Option Addr}
  {osl:Array (Option Value)}{N ps:Zb}{sp:Sp}(lk:K.lookup f=some ⟨oc,od,.func (ib name qual params body scope dV kV doc pm an cdv ct),osl⟩) (hcd:l5 K cdv qual=true) (S:jN N ps scope)
  (len:∀vs H Q E,sp vs H Q E->vs.length=ps.length)
  (hbody:∀(A:Around) (outer:List Env) (s:Shared) (H:Hp) (vs:List V) (Q:VK) (E:XK),eL k (A.deeper (envOfC qual scope s.heap.objs.size f cdv))->sp vs H Q E ->
   ∃t,xP (yX CX P w K mg base N qual scope f cdv A outer s H E) body t/\t (bJ Q) (start N vs) H) :
  kU P w K mg base CX (k+1) f (ib name qual params body scope dV kV doc pm an cdv ct) ps sp:=by
 refine⟨len,fun A outer s H args us vs Q E hr e0 hb r hsp=>?_⟩;have hl:=len _ _ _ _ hsp;have KX:K.In s.heap:=e0.mod.kin.keeps fun b o e=>(e0.bs b o e).1;have lim:s.heap.NoLimit:=e0.mod.nolimit.keeps fun b o e=>(e0.bs b o e).1;have hkind:∀y∈ps.zip us,scope.names.lookup y.1=some .local∨(scope.names.lookup y.1=some .cell/\((cellsFrom (s.heap.objs.size+1) scope.names []).lookup y.1).isSome=true):=fun⟨n,v⟩ hy=>by
  rcases S.par n (List.of_mem_zip hy).1 with q|q
  ·exact .inl q
  ·exact .inr ⟨q,PySem.W.cellsFrom_some _ _ _ (.inl q)⟩
 refine codeAny_call_function hr.depth (KX _ _ lk) rfl S.co S.gen rfl (PySem.W.codeRec_of KX hcd) (hb _ _ _ _ ?_);refine wpAny_newFunctionEnv_cells S.kind hkind fun env he s1 x=>?_;subst he;refine⟨lim.keeps x.toInCall.keep,codeAny_func ?_⟩;obtain⟨t,ht,hq⟩:=hbody A outer s H vs Q E (hr.deeper _) hsp;have I:Inv (yX CX P w K mg base N qual scope f cdv A outer s H E) [] (start N vs) H s1:=Bs S hr.hd e0 hl r x;refine iD (ht [] s1 (start N vs) H _ I hq) (fun fl s' hs=>?_) fun e s' hs=>hs;have fin:∀{σ':St}{H':Hp}{v:V}{u:Value},Inv (yX CX P w K mg base N qual scope f cdv A outer s H E) [] σ' H' s'->RelV v u->Q v H'->CE outer P w K H s Q u s' :=
  fun{σ' H' v u} J rv q=>⟨v,H',J.os,J.bare,J.base,J.hok,rv,q⟩
 cases fl with
 |ret u =>
  obtain⟨v,σ',H',J,rv,q⟩:=hs;exact fin J rv q
 |next =>
  obtain⟨σ',H',J,q⟩:=hs;exact fin (v:=V.non) (u:=Value.none) J rfl q
 |brk =>
  obtain⟨_,_,_,q⟩:=hs;exact i9 q
 |cont =>
  obtain⟨_,_,_,q⟩:=hs;exact i9 q
end L2
namespace L2
open PySem PySem.Spec PyProof.Rows
section
variable{X:Cx}{x:Str}{p pos:Pos}{e:Expr}{es:List Expr}{t:TA}{id T:String}{r:List V->Hp->VK->Prop}
def cK(r:List V->Hp->VK->Prop)(t:TA):TE:=fun σ H Q=>t σ H fun vs H1=>r vs H1 Q
theorem w_(hc:fN X (.builtin id) r)(hg:Gl X x)(hm:X.mg x=none)(hv:iF x=some (.builtin id))(ha:PA X (e::es) t)(hn:x≠"__name__":=by decide)(hdb:(x==("__debug__":Str))=false:=by decide)
  (he:aQ (e::es) X.env=(false,eval e X.env)::aQ es X.env:=by rfl) (hpl:(backTo pos (aQ es X.env)).any (·.1)=false:=by rfl):PE X (.Call (.Name x p) (e::es) [] pos) (cK r t):=by
 intro J3 s σ H Q I h;refine uZ (oP I hg hm hv ?_ hn hdb);exact PyProof.Rows.callWith_builtin1 (cr (ha pos J3 s σ H _ I h) fun us s1 ⟨vs,H1,I1,r1,q1⟩=>hc J3 s1 σ H1 vs us Q I1 r1 q1) he hpl
theorem eK(hc:fN X (.type T) r)(hg:Gl X x)(hm:X.mg x=none)(hv:iF x=some (.type T))(ha:PA X (e::es) t)(hn:x≠"__name__":=by decide)(hdb:(x==("__debug__":Str))=false:=by decide)
  (he:aQ (e::es) X.env=(false,eval e X.env)::aQ es X.env:=by rfl) (hpl:(backTo pos (aQ es X.env)).any (·.1)=false:=by rfl):PE X (.Call (.Name x p) (e::es) [] pos) (cK r t):=by
 intro J3 s σ H Q I h;refine uZ (oP I hg hm hv ?_ hn hdb);exact zF (cr (ha pos J3 s σ H _ I h) fun us s1 ⟨vs,H1,I1,r1,q1⟩=>hc J3 s1 σ H1 vs us Q I1 r1 q1) he hpl
end
end L2
namespace HT
open PySem PyProof.Rows
section
variable{prog:bR}{w:World}{A:Around}{E:Zc}{s:Shared}
theorem cat_tup{t b:Addr}{vs ws:Zf}{Q:Zc}(ht:IsTup s.heap t vs.toArray)(hb:IsTup s.heap b ws.toArray)(hv:vs≠[])
  (h1:ws=[]->Q (.ref t) s) (h2:ws≠[]->Q (.ref s.heap.objs.size) { s with heap:=s.heap.push { cls:=.type "tuple",data:=.seq (vs++ws).toArray } })
  (hsz:vs.length+ws.length<=ah):wpAny (model prog w) A (lK .Add (.ref t) (.ref b)) Q E s:=by
 obtain⟨⟨cls,dd,data,sl⟩,ho,hc,n,hd⟩:=id ht;obtain⟨⟨cls2,dd2,data2,sl2⟩,ho2,hc2,n2,hd2⟩:=id hb;simp only at hc hd hc2 hd2;subst hc hd hc2 hd2;have e:vs.toArray++ws.toArray=(vs++ws).toArray:=by simp
 by_cases hw:ws=[]
 ·exact concat_meets ⟨_,ho,rfl⟩ ⟨_,ho2,rfl⟩ noFill_tuple_add seq_tuple_add PySem.F.slot_tuple_add PySem.F.entry_tuple_add (PySem.F.args_tuple_add_2 _ _)
   (tuple_addW1 t b vs.toArray ws.toArray n n2 dd dd2 sl sl2 (by simpa using hv) (by simp[hw])) ⟨ho,ho2,h1 hw⟩
 ·refine concat_meets ⟨_,ho,rfl⟩ ⟨_,ho2,rfl⟩ noFill_tuple_add seq_tuple_add PySem.F.slot_tuple_add PySem.F.entry_tuple_add (PySem.F.args_tuple_add_2 _ _)
   (tuple_addW2 t b vs.toArray ws.toArray n n2 dd dd2 sl sl2 (by simpa using hv) (by simpa using hw) (by rw[bE,bE];exact hsz)) ⟨ho,ho2,?_⟩
  rw[e];exact h2 hw
def sIx(n d:Nat):Option Int->Nat
 |none=>d
 |some v=>if v<0 then(v+(n:Int)).toNat else min v.toNat n
theorem sIx_none(n d:Nat):sIx n d none=d:=rfl
theorem sIx_nat(n d k:Nat):sIx n d (some (k:Int))=min k n:=by
 show(if(k:Int)<0 then((k:Int)+(n:Int)).toNat else min (k:Int).toNat n)=min k n
 rw[if_neg (by omega),ko]
theorem sIx_le(n d:Nat)(hd:d<=n)(o:Option Int):sIx n d o<=n:=by
 cases o with
 |none=>exact hd
 |some v =>
  show(if v<0 then(v+(n:Int)).toNat else min v.toNat n)<=n
  by_cases hv:v<0
  ·rw[if_pos hv];omega
  ·rw[if_neg hv];exact Nat.min_le_right _ _
theorem clip_eq(v:Int)(n d:Nat):(if v<0 then max (v+(n:Int)) 0 else min v (n:Int))=((sIx n d (some v):Nat):Int):=by
 show(if v<0 then max (v+(n:Int)) 0 else min v (n:Int))=(((if v<0 then(v+(n:Int)).toNat else min v.toNat n):Nat):Int)
 by_cases hv:v<0
 ·simp only[if_pos hv];omega
 ·simp only[if_neg hv];omega
theorem adjust_gen(lo hi:Option Int)(n:Nat):oo lo hi 1 (n:Int)=(((sIx n 0 lo:Nat):Int),((sIx n n hi:Nat):Int)):=by
 have h1:¬((1:Int)<0):=by omega
 unfold oo;simp only[h1,if_false];refine Prod.ext ?_ ?_
 ·cases lo with
  |none=>rfl
  |some v=>exact clip_eq v n 0
 ·cases hi with
  |none=>rfl
  |some v=>exact clip_eq v n n
theorem places_gen(i j:Nat):kn (i:Int) (j:Int) 1=j-i:=by
 unfold kn;have h1:(1:Int) > 0:=by omega
 simp only[h1,if_true,Int.ediv_one];split<;>omega
theorem slicePart_{v:Value}{o:Option Int}{Q:Option Int->Shared->Prop}(p:IsPart v o)(h:Q o s):wpAny (model prog w) A (cw.Slice.slicePartIndex v) Q E s:=by
 cases p with
 |none=>exact uX h
 |int i t=>exact slicePart_int h
theorem sliceApplied_gen{sl:Addr}{vl vu:Value}{lo hi:Option Int}{n:Nat}{Q:Int×Int×Nat->Shared->Prop}(hs:s.heap.IsSliceOf sl vl vu .none)(pl:IsPart vl lo)(pu:IsPart vu hi)
  (h:Q (((sIx n 0 lo:Nat):Int),1,sIx n n hi-sIx n 0 lo) s):wpAny (model prog w) A (uW (.ref sl) (pure (n:Int))) Q E s:=by
 obtain⟨os,hos,hcs,hds⟩:=id hs;unfold uW cw.Slice.sliceFields;refine ak (ak (dY hos hds (x:=vl) rfl (ak (dY hos hds (x:=vu) rfl (ak (dY hos hds (x:=.none) rfl (ao ?_)))))));refine ak (uX ?_);show wpAny _ _ (if((1:Int)==0)=true then _ else _) _ _ s
 rw[if_neg (by decide)];refine ak (slicePart_ pl (ak (slicePart_ pu (ak (ao ?_)))));show wpAny _ _ (match oo lo hi 1 (n:Int)with|(lo,hi)=>pure (lo,(1:Int),kn lo hi 1)) _ _ s
 rw[adjust_gen lo hi n];show wpAny _ _ (pure (((sIx n 0 lo:Nat):Int),(1:Int),kn ((sIx n 0 lo:Nat):Int) ((sIx n n hi:Nat):Int) 1)) _ _ s;rw[places_gen];exact ao h
theorem pick_gen(xs:Array Value)(i k:Nat):((hJ k).filterMap fun(m:Nat)=>xs[((i:Int)+(m:Int) * 1).toNat]?).toArray=((xs.toList.drop i).take k).toArray:=by
 have e:(fun(m:Nat)=>xs[((i:Int)+(m:Int) * 1).toNat]?)=fun m=>xs[i+m]?:=by
  funext m;have:((i:Int)+(m:Int) * 1).toNat=i+m:=by omega
  rw[this]
 rw[e];have:=pick_run xs i k;rw[List.filterMap_map]at this;have e2:((fun x=>xs[x]?) ∘ fun x=>i+x)=fun m=>xs[i+m]?:=rfl;rw[e2]at this;rw[this]
theorem getItem_tuple_cut{t sl:Addr}{items:Array Value}{vl vu:Value}{lo hi:Option Int}{Q:Zc}(ht:IsTup s.heap t items)(hs:s.heap.IsSliceOf sl vl vu .none)(pl:IsPart vl lo)(pu:IsPart vu hi)
  (hw:¬(sIx items.size 0 lo=0/\sIx items.size items.size hi=items.size))
  (h:Q (.ref s.heap.objs.size) { s with heap:=s.heap.push { cls:=.type "tuple",data:=.seq ((items.toList.drop (sIx items.size 0 lo)).take (sIx items.size items.size hi-sIx items.size 0 lo)).toArray } })
  (hsz:items.size<=ah):wpAny (model prog w) A (fU (.ref t) (.ref sl)) Q E s:=by
 have htake:sizeOk (.seq ((items.toList.drop (sIx items.size 0 lo)).take (sIx items.size items.size hi-sIx items.size 0 lo)).toArray):=by
  show((items.toList.drop (sIx items.size 0 lo)).take (sIx items.size items.size hi-sIx items.size 0 lo)).toArray.size<=ah;rw[bE,aD,dX,j8];omega
 have hj:sIx items.size items.size hi<=items.size:=sIx_le _ _ (aH _) hi;obtain⟨os,hos,hcs,hds⟩:=id hs;have hTs:s.TypeIs (.ref sl) "slice":=⟨os,hos,hcs⟩;unfold fU
 try with_reducible refine iG ?_
 first|refine ak (ao ?_)|skip
 refine ak (wpAny_sequenceKey ht.typeIs (by decide) ?_);refine ak (ju (name:=js "__getitem__") ht.typeIs jr
  (mS jr ht.typeIs entry_tuple_getitem ?_ (args_tuple_getitem _ _)))
 show wpAny _ _ (BS (.ref t) >>= _) _ _ s;refine ak (tupleItemsOf_ ht ?_);refine ak (on hTs ?_);rw[if_pos (by decide)];refine ak (sliceApplied_gen hs pl pu ?_);have hno:¬((((sIx items.size 0 lo:Nat):Int)==0 && (1:Int)==1 && (sIx items.size items.size hi-sIx items.size 0 lo)==items.size)=true):=by
  intro q;rw[lZ,lZ]at q;have q1:((sIx items.size 0 lo:Nat):Int)=0:=eq_of_beq q.1.1;have q2:sIx items.size items.size hi-sIx items.size 0 lo=items.size:=eq_of_beq q.2;exact hw ⟨by omega,by omega⟩
 show wpAny _ _ (if(((sIx items.size 0 lo:Nat):Int)==0 && (1:Int)==1 && (sIx items.size items.size hi-sIx items.size 0 lo)==items.size)=true then _ else _) _ _ s
 rw[if_neg hno,pick_gen]
 first
  |exact ak (m:=km _) (fB (ao ⟨_,rfl,ao h⟩) htake)
  |exact ak (m:=km _) (fB (ak (ao (ao ⟨_,rfl,ao h⟩))) htake)
  |exact ak (ak (m:=km _) (fB (ao (ao ⟨_,rfl,ao h⟩)) htake))
  |exact ak (ak (m:=km _) (fB (ao ⟨_,rfl,ao h⟩) htake))
end
end HT
namespace L2
open PySem PySem.Spec PyProof.Rows
abbrev TO:=St->Hp->(Option Int->Hp->Prop)->Prop
def PO(X:Cx)(e:Option Expr)(t:TO):Prop :=
 ∀(J3:Zd) (s:Shared) (σ:St) (H:Hp) (Q:Option Int->Hp->Prop),Inv X J3 σ H s->t σ H Q ->
  wpAny (model X.prog X.w) X.A (evalPart e X.env) (fun u s'=>∃o H',Inv X J3 σ H' s'/\IsPart u o/\Q o H') X.xe s
def aT:TO:=fun _ H Q=>Q none H
def bA(t:TE):TO:=fun σ H Q=>t σ H fun x H1=>∃i,x=.int i/\Q (some i) H1
section
variable{X:Cx}{e:Expr}{te:TE}{lo hi:Option Expr}{tl th:TO}{pos p2:Pos}
theorem bu:PO X none aT:=by
 intro J3 s σ H Q I h;rw[evalPart_none];exact ao ⟨none,H,I,.none,h⟩
theorem aV(h:PE X e te):PO X (some e) (bA te):=by
 intro J3 s σ H Q I hw;rw[evalPart_some];refine cr (h J3 s σ H _ I hw) fun u s1 ⟨x,H1,I1,r1,q1⟩=>?_;obtain⟨i,rfl,q⟩:=q1;obtain⟨t,rfl⟩:=r1;exact⟨some i,H1,I1,.int i t,q⟩
def Dw(X:Cx)(r:V->Option Int->Option Int->Hp->VK->Prop):Prop :=
 ∀(J3:Zd) (s:Shared) (σ:St) (H:Hp) (x:V) (v vl vu:Value) (lo hi:Option Int) (sl:Addr) (Q:VK),Inv X J3 σ H s->RelV x v->s.heap.IsSliceOf sl vl vu .none->IsPart vl lo->IsPart vu hi->r x lo hi H Q ->
  ∃T id,typeLookup (.type T) "__getitem__"=pure (some (.builtin id))/\s.TypeIs v T/\wpAny (model X.prog X.w) X.A (fU v (.ref sl)) (EP X J3 σ Q) X.xe s
theorem Dw.or{r r':V->Option Int->Option Int->Hp->VK->Prop}(h:Dw X r)(h':Dw X r'):Dw X (fun x lo hi H Q=>r x lo hi H Q∨r' x lo hi H Q):=by
 intro J3 s σ H x v vl vu lo hi sl Q I rx hs pl pu q;rcases q with q|q
 ·exact h J3 s σ H x v vl vu lo hi sl Q I rx hs pl pu q
 ·exact h' J3 s σ H x v vl vu lo hi sl Q I rx hs pl pu q
def ic(r:V->Option Int->Option Int->Hp->VK->Prop)(te:TE)(tl th:TO):TE:=fun σ H Q=>te σ H fun x H1=>tl σ H1 fun l H2=>th σ H2 fun u H3=>r x l u H3 Q
theorem aP{r:V->Option Int->Option Int->Hp->VK->Prop}(hr:Dw X r)(he:PE X e te)(hl:PO X lo tl)(hu:PO X hi th):PE X (.Subscript e (.Slice lo hi none p2) pos) (ic r te tl th):=by
 intro J3 s σ H Q I h;refine uV (cr (he J3 s σ H _ I h) fun v s1 ⟨x,H1,I1,r1,q1⟩=>?_);refine wpAny_Slice (cr (hl J3 s1 σ H1 _ I1 q1) fun vl s2 ⟨l,H2,I2,pl,q2⟩=>cr (hu J3 s2 σ H2 _ I2 q2) fun vu s3 ⟨u,H3,I3,pu,q3⟩=>?_);rw[evalPart_none];refine ao ?_;have I4:Inv X J3 σ H3 { s3 with heap:=s3.heap.push { cls:=.type "slice",data:=.fields #[vl,vu,.none] } }:=I3.kept (t':=s3.toks) fun b ob q=>bC _ q;obtain⟨T,id,hT,ht,hg⟩:=hr J3 { s3 with heap:=s3.heap.push { cls:=.type "slice",data:=.fields #[vl,vu,.none] } } σ H3 x v vl vu l u s3.heap.objs.size Q I4 r1 (Heap.IsSliceOf.new ..) pl pu q3;show wpAny (model X.prog X.w) X.A (uU e (.Slice lo hi none p2) v (.ref s3.heap.objs.size)) (EP X J3 σ Q) X.xe { s3 with heap:=s3.heap.push { cls:=.type "slice",data:=.fields #[vl,vu,.none] } };exact tail_any (ops:=[.ref s3.heap.objs.size,v]) ht hT hg (by with_unfolding_all rfl)
def cD(xs:List V)(lo hi:Option Int):List V:=(xs.drop (HT.sIx xs.length 0 lo)).take (HT.sIx xs.length xs.length hi-HT.sIx xs.length 0 lo)
theorem pD(xs:List V)(lo hi:Option Int):(cD xs lo hi).length<=xs.length:=by
 unfold cD;rw[aD,dX];omega
def Gn(K:Za):V->Option Int->Option Int->Hp->VK->Prop:=fun x lo hi H Q=>∃a xs,x=.ref a/\aY K H a xs /\
 ¬(HT.sIx xs.length 0 lo=0/\HT.sIx xs.length xs.length hi=xs.length)/\∀p,H p=none->Q (.ref p) (upd H p (.tup (cD xs lo hi)))
theorem Fv:Dw X (Gn X.K):=by
 intro J3 s σ H x v vl vu lo hi sl Q I rx hs pl pu h;obtain⟨a,xs,rfl,hx,hw,q⟩:=h;cases rx;obtain⟨its,r,ht,hz⟩:=I.tuple hx;have hlen:its.toArray.size=xs.length:=by rw[bE];exact r.length.symm
 refine⟨"tuple",_,jr.lookup,ht.typeIs,?_⟩;refine HT.getItem_tuple_cut ht hs pl pu (by rw[hlen];exact hw) ?_ (by rw[hlen];exact hz);rw[hlen];refine⟨.ref s.heap.objs.size,_,I.laid (t':=s.toks) (o:=.tup (cD xs lo hi)) (fun b ob q=>bC _ q) (aH _) ?_,rfl,q _ (I.hok.fresh (aH _))⟩;exact⟨bh (pD xs lo hi) hz,_,(r.drop (HT.sIx xs.length 0 lo)).take (HT.sIx xs.length xs.length hi-HT.sIx xs.length 0 lo),uT _ _⟩
def z9(K:Za):R2:=fun x y H Q=>∃a b xs ys,x=.ref a/\y=.ref b/\aY K H a xs/\aY K H b ys/\xs≠[]/\xs.length+ys.length<=ah /\
 (ys=[]->Q (.ref a) H)/\(ys≠[]->∀p,H p=none->Q (.ref p) (upd H p (.tup (xs++ys))))
theorem bg.nil_iff{xs:List V}{us:Zf}(r:bg xs us):us=[]↔xs=[]:=by
 cases r with
 |nil=>simp
 |cons _ _=>simp
theorem Ag:mC X (lK .Add) (z9 X.K):=by
 intro J3 s σ H x y v u Q I rx ry h;obtain⟨a,b,xs,ys,rfl,rfl,ha,hb,hx,hz,q1,q2⟩:=h;cases rx;cases ry;obtain⟨its,r1,p1,_⟩:=I.tuple ha;obtain⟨its2,r2,p2,_⟩:=I.tuple hb;refine HT.cat_tup p1 p2 (fun z=>hx (r1.nil_iff.mp z)) (fun z=>⟨.ref a,H,I,rfl,q1 (r2.nil_iff.mp z)⟩) (fun z=>?_) (by rw[<-r1.length,<-r2.length];exact hz);refine⟨.ref s.heap.objs.size,_,I.laid (t':=s.toks) (o:=.tup (xs++ys)) (fun b ob q=>bC _ q) (aH _) ?_,rfl,q2 (fun w=>z (r2.nil_iff.mpr w)) _ (I.hok.fresh (aH _))⟩;exact⟨by rw[aO];exact hz,_,r1.append r2,uT _ _⟩
end
end L2
namespace L2
open PySem PySem.Spec PyProof.Rows
def DG(n:Nat)(i:Int):Option Nat:=if 0<=i then(if i<n then some i.toNat else none)else if -(n:Int)<=i then some (i+n).toNat else none
def vV{α:Type}(xs:List α)(i:Int):Option α:=(DG xs.length i).bind fun j=>xs[j]?
theorem vK{n:Nat}{i:Int}{j:Nat}(h:DG n i=some j):uS i n=some j/\j<n/\-(n:Int)<=i/\i<n:=by
 unfold DG at h;by_cases h0:0<=i
 ·rw[if_pos h0]at h;by_cases h1:i<n
  ·rw[if_pos h1]at h;have e:i.toNat=j:=ef h;exact⟨by rw[seqIndex_of h0 h1,e],by omega,by omega,h1⟩
  ·rw[if_neg h1]at h;cases h
 ·rw[if_neg h0]at h;by_cases h1:-(n:Int)<=i
  ·rw[if_pos h1]at h;have e:(i+n).toNat=j:=ef h;exact⟨by rw[seqIndex_neg (by omega) h1,e],by omega,h1,by omega⟩
  ·rw[if_neg h1]at h;cases h
theorem vU{α:Type}{xs:List α}{i:Int}{v:α}(h:vV xs i=some v):∃j,uS i xs.length=some j/\xs[j]?=some v/\j<xs.length/\-(xs.length:Int)<=i/\i<xs.length:=by
 unfold vV at h;cases e:DG xs.length i with
 |none=>rw[e]at h;cases h
 |some j =>
  rw[e]at h;obtain⟨h1,h2,h3,h4⟩:=vK e;exact⟨j,h1,h,h2,h3,h4⟩
theorem bQ{α:Type}{xs:List α}{j:Nat}{v:α}(h:xs[j]?=some v):vV xs (j:Int)=some v:=by
 have hj:j<xs.length:=(cE.mp h).1;have e:DG xs.length (j:Int)=some j:=by
  unfold DG;rw[if_pos (by omega),if_pos (by omega)];simp
 unfold vV;rw[e];exact h
def ES(b:Expr):Prop:=∀o i,uR b false o i=operate [o,i] (fU o i)
def EW(X:Cx)(r:R2):Prop :=
 ∀(value slice:Expr) (J3:Zd) (s:Shared) (σ:St) (H:Hp) (x y:V) (v u:Value) (Q:VK),Inv X J3 σ H s->RelV x v->RelV y u->r x y H Q ->
  uR slice false v u=operate [v,u] (fU v u)->wpAny (model X.prog X.w) X.A (uU value slice v u) (EP X J3 σ Q) X.xe s
def MtR(X:Cx)(id:String)(r:V->List V->Hp->VK->Prop):Prop :=
 ∀(J3:Zd) (s:Shared) (σ:St) (H:Hp) (x:V) (xs:List V) (v:Value) (us:Zf) (Q:VK),Inv X J3 σ H s->RelV x v->bg xs us->r x xs H Q ->
  wpAny (model X.prog X.w) X.A (call (.builtin id) (v::us)) (EP X J3 σ Q) X.xe s
section
variable{X:Cx}{a b:Expr}{ta tb:TE}{pos:Pos}
theorem EW.or{r r':R2}(h:EW X r)(h':EW X r'):EW X (fun x y H Q=>r x y H Q∨r' x y H Q):=by
 intro value slice J3 s σ H x y v u Q I rx ry q hs;rcases q with q|q
 ·exact h value slice J3 s σ H x y v u Q I rx ry q hs
 ·exact h' value slice J3 s σ H x y v u Q I rx ry q hs
theorem Ac{r:R2}(hr:EW X r)(ha:PE X a ta)(hb:PE X b tb)(hs:ES b):PE X (.Subscript a b pos) (ay r ta tb):=by
 intro J3 s σ H Q I h;exact uV (FT ha hb I h fun v u s2 x y H2 I2 rx ry q=>hr a b J3 s2 σ H2 x y v u Q I2 rx ry q (hs _ _))
def cM(K:Za):R2:=fun x y H Q=>∃p xs i v,x=.ref p/\y=.int i/\aA K H p xs/\vV xs i=some v/\Q v H
def oJ(K:Za):R2:=fun x y H Q=>∃p xs i v,x=.ref p/\y=.int i/\aY K H p xs/\vV xs i=some v/\Q v H
def Cy:R2:=fun x y H Q=>∃z i c,x=.str z/\y=.int i/\z.length<=ah/\vV z.cps.toList i=some c/\Q (.str ⟨#[c]⟩) H
theorem Aq:EW X (cM X.K):=by
 intro value slice J3 s σ H x y v u Q I rx ry h hs;obtain⟨p,xs,i,z,rfl,rfl,hq,he,q⟩:=h;cases rx;obtain⟨t,rfl⟩:=ry;obtain⟨its,r,pl,hz⟩:=I.list hq;obtain⟨j,h1,h2,h3,h4,h5⟩:=vU he;obtain⟨w,ew,rw'⟩:=r.get h2;have hl:=r.length;have hn:=oO;have fin:EP X J3 σ Q w s:=⟨z,H,I,rw',q⟩;by_cases h0:0<=i
 ·have hj:i.toNat=j:=by
   rw[seqIndex_of h0 h5]at h1;exact ef h1
  exact item_listR pl.isList h0 (by omega) (by rw[hj];simpa using ew) fin hs
 ·have hj:(i+(its.toArray.size:Int)).toNat=j:=by
   rw[seqIndex_neg (by omega) h4]at h1;rw[bE,<-hl];exact ef h1
  exact subscriptTail_builtinR (x:=w) pl.isList.typeIs slot_list_getitem.lookup
   (wpAny_getItem_list_neg (Q:=fun r s'=>r=w/\EP X J3 σ Q r s') pl.isList (by omega) (by rw[bE]<;>omega) (by omega) (by rw[hj];simpa using ew) ⟨rfl,fin⟩) hs
theorem C0:EW X (oJ X.K):=by
 intro value slice J3 s σ H x y v u Q I rx ry h hs;obtain⟨p,xs,i,z,rfl,rfl,hq,he,q⟩:=h;cases rx;obtain⟨t,rfl⟩:=ry;obtain⟨its,r,pl,hz⟩:=I.tuple hq;obtain⟨j,h1,h2,h3,h4,h5⟩:=vU he;obtain⟨w,ew,rw'⟩:=r.get h2;have hl:=r.length;have hn:=oO;have fin:EP X J3 σ Q w s:=⟨z,H,I,rw',q⟩;exact subscriptTail_builtinR (x:=w) pl.typeIs slot_tuple_getitem.lookup
  (getItem_tuple (j:=j) (Q:=fun r s'=>r=w/\EP X J3 σ Q r s') pl (by omega) (by omega) (by rw[bE,<-hl];exact h1) (by simpa using ew) ⟨rfl,fin⟩) hs
theorem C1:EW X Cy:=by
 intro value slice J3 s σ H x y v u Q I rx ry h hs;obtain⟨z,i,c,rfl,rfl,hz,he,q⟩:=h;obtain⟨t,rfl⟩:=rx;obtain⟨t',rfl⟩:=ry;obtain⟨j,h1,h2,h3,h4,h5⟩:=vU he;have hl:z.cps.toList.length=z.length:=by simp[Str.length]
 rw[hl]at h1 h4 h5;have hn:=oO;exact tail_any (typeIs_str s z t) slot_str_getitem.lookup (getItem_str (c:=c) (by
  have e1:decide (i < -(2 ^ 63:Int))=false:=zzr0 (by omega);have e2:decide (i ≥ 2 ^ 63)=false:=zzr0 (by omega);rw[e1,e2,Bool.or_false]) (by rw[h1];simpa using h2) ⟨.str ⟨#[c]⟩,H,I.tok _,⟨_,rfl⟩,q⟩) hs
def iM(K:Za):R2:=fun x y H Q=>cM K x y H Q∨oJ K x y H Q∨Cy x y H Q
theorem FM:EW X (iM X.K):=Aq.or (C0.or C1)
theorem yH(its:Zf)(n j:Nat)(u:Value):qv (·.setIfInBounds j u) { cls:=.type "list",data:=.seq its.toArray n }={ cls:=.type "list",data:=.seq (its.set j u).toArray n }:=by
 simp[qv]
theorem Inv.lst{J3:Zd}{σ:St}{H:Hp}{s:Shared}{p:Addr}{xs:List V}(I:Inv X J3 σ H s)(h:H p=some (.lst xs)):
  ∃(its:Zf) (n:Nat),bg xs its/\s.heap.get? p=some { cls:=.type "list",data:=.seq its.toArray n }/\xs.length<=ah:=by
 obtain⟨z,its,n,r,e⟩:=I.hok p _ h;exact⟨its,n,r,e,z⟩
theorem Inv.lstUpd{J3:Zd}{σ:St}{H:Hp}{s:Shared}{p:Addr}{xs ys:List V}{its its':Zf}{n n':Nat}{f:Obj->Obj}(I:Inv X J3 σ H s)(h:H p=some (.lst xs))
  (ho:s.heap.get? p=some { cls:=.type "list",data:=.seq its.toArray n }) (hf:f { cls:=.type "list",data:=.seq its.toArray n }={ cls:=.type "list",data:=.seq its'.toArray n' }) (r:bg ys its') (hz:ys.length<=ah) (t:Nat) :
  Inv X J3 σ (upd H p (.lst ys)) { s with heap:=s.heap.update p f,toks:=t }:=by
 have e:(s.heap.update p f).get? p=some { cls:=.type "list",data:=.seq its'.toArray n' }:=by
  rw[uQ f ho (by rw[hf]<;>rfl),hf]
 refine I.write (x:=p) (e:=p) (by rw[h];trivial) (.inl rfl) (fun b u hb q=>(Heap.get?_update_other _ _ (gF hb)).trans q) ⟨_,e⟩ ?_;exact⟨hz,its',n',r,e⟩
def qX:V->V->V->Hp->(Hp->Prop)->Prop:=fun o i v H Q=>∃p xs k j,o=.ref p/\i=.int k/\H p=some (.lst xs)/\DG xs.length k=some j/\Q (upd H p (.lst (xs.set j v)))
theorem kG:GH X qX:=by
 intro J3 s σ H o i v ov iv u Q I ro ri rv h;obtain⟨p,xs,k,j,rfl,rfl,hp,hj,q⟩:=h;cases ro;obtain⟨t,rfl⟩:=ri;obtain⟨its,n,r,ho,hz⟩:=I.lst hp;obtain⟨h1,h2,h3,h4⟩:=vK hj;have hl:=r.length;have hn:=oO;have I':Inv X J3 σ (upd H p (.lst (xs.set j v))) { s with heap:=s.heap.update p (qv (·.setIfInBounds j u)) } :=
  I.lstUpd hp ho (yH its n j u) (r.set rv j) (by rw[List.length_set];exact hz) s.toks
 by_cases h0:0<=k
 ·have hk:k.toNat=j:=by
   rw[seqIndex_of h0 h4]at h1;exact ef h1
  exact PySem.W.ki_setAt ho h0 (by omega) (by rw[bE,<-hl];exact h4) (by rw[hk];exact⟨_,I',q⟩)
 ·have hk:(k+(its.toArray.size:Int)).toNat=j:=by
   rw[seqIndex_neg (by omega) h3]at h1;rw[bE,<-hl];exact ef h1
  exact PySem.W.ki_setBack ho (by omega) (by rw[bE,<-hl];exact h3) (by omega) (by rw[hk];exact⟨_,I',q⟩)
theorem vo(lo hi:Option Int)(n:Nat):(lY lo hi none n).1=((HT.sIx n 0 lo:Nat):Int)/\(lY lo hi none n).2.1=((HT.sIx n n hi:Nat):Int)/\(lY lo hi none n).2.2=1:=by
 refine⟨?_,?_,rfl⟩
 ·cases lo with
  |none=>simp[lY,HT.sIx]
  |some i =>
   simp only[lY,HT.sIx,Option.getD_none,show(1:Int) > 0 by decide,if_true];by_cases h:i<0
   ·simp only[h,if_true]<;>omega
   ·simp only[h,if_false]<;>omega
 ·cases hi with
  |none=>simp[lY,HT.sIx]
  |some i =>
   simp only[lY,HT.sIx,Option.getD_none,show(1:Int) > 0 by decide,if_true];by_cases h:i<0
   ·simp only[h,if_true]<;>omega
   ·simp only[h,if_false]<;>omega
theorem sN(its:Zf)(lo hi:Option Int):slicePick its.toArray lo hi none=((its.drop (HT.sIx its.length 0 lo)).take (HT.sIx its.length its.length hi-HT.sIx its.length 0 lo)).toArray:=by
 obtain⟨h1,h2,h3⟩:=vo lo hi its.toArray.size;unfold slicePick;rw[h1,h2,h3];simp only[sliceRange_one,pick_run,bE]<;>rfl
def c6(K:Za):V->Option Int->Option Int->Hp->VK->Prop:=fun x lo hi H Q=>∃a xs,x=.ref a/\aA K H a xs/\∀p,H p=none->Q (.ref p) (upd H p (.lst (cD xs lo hi)))
theorem bq:Dw X (c6 X.K):=by
 intro J3 s σ H x v vl vu lo hi sl Q I rx hs pl pu h;obtain⟨a,xs,rfl,hx,q⟩:=h;cases rx;obtain⟨its,r,ht,hz⟩:=I.list hx;have hlen:=r.length;refine⟨"list",_,slot_list_getitem.lookup,ht.isList.typeIs,?_⟩;refine wpAny_getItem_list_slice ht.isList hs pl pu .none (by simp) ?_ (by rw[bE]<;>omega);rw[sN,<-hlen];refine⟨.ref s.heap.objs.size,_,I.laid (t':=s.toks) (o:=.lst (cD xs lo hi)) (fun b ob q=>bC _ q) (aH _) ?_,rfl,q _ (I.hok.fresh (aH _))⟩;exact⟨bh (pD xs lo hi) hz,_,0,(r.drop (HT.sIx xs.length 0 lo)).take (HT.sIx xs.length xs.length hi-HT.sIx xs.length 0 lo),c8 _ rfl⟩
theorem vS:fN X (.builtin "len") (fun xs H Q=>∃p ys,xs=[.ref p]/\(aA X.K H p ys∨aY X.K H p ys)/\Q (.int ys.length) H):=by
 intro J3 s σ H xs us Q I r h;obtain⟨p,ys,rfl,hq,q⟩:=h;obtain⟨u,rfl,rx⟩:=vals1 r;cases rx;have hn:=oO;rcases hq with hq|hq
 ·obtain⟨its,r',pl,hz⟩:=I.list hq;have hlen:=r'.length;exact Calls.call_len_list pl.isList (by simp only[bE]<;>omega) ⟨.int ys.length,H,I.tok _,⟨s.toks+1,by rw[bE,hlen]⟩,q⟩
 ·obtain⟨its,r',pl,hz⟩:=I.tuple hq;have hlen:=r'.length;exact len_tuple pl (by simp only[bE]<;>omega) ⟨.int ys.length,H,I.tok _,⟨s.toks+1,by rw[bE,hlen]⟩,q⟩
theorem vR:fN X (.builtin "len") (fun xs H Q=>∃z,xs=[.str z]/\z.length<=ah/\Q (.int z.length) H):=by
 intro J3 s σ H xs us Q I r h;obtain⟨z,rfl,hz,q⟩:=h;obtain⟨u,rfl,t,rfl⟩:=vals1 r;have hn:=oO;exact len_str (by omega) ⟨.int z.length,H,I.tok _,⟨_,rfl⟩,q⟩
theorem fN.or{f:Value}{r r':List V->Hp->VK->Prop}(h:fN X f r)(h':fN X f r'):fN X f (fun xs H Q=>r xs H Q∨r' xs H Q):=by
 intro J3 s σ H xs us Q I rs q;rcases q with q|q
 ·exact h J3 s σ H xs us Q I rs q
 ·exact h' J3 s σ H xs us Q I rs q
theorem vQ:fN X (.type "list") (fun xs H Q=>∃p ys,xs=[.ref p]/\(aA X.K H p ys∨aY X.K H p ys)/\∀l,H l=none->Q (.ref l) (upd H l (.lst ys))):=by
 intro J3 s σ H xs us Q I r h;obtain⟨p,ys,rfl,hq,q⟩:=h;obtain⟨u,rfl,rx⟩:=vals1 r;cases rx;have fin:∀(its:Zf),bg ys its->ys.length<=ah->∀(h':Heap) (c':Nat),(∀b o',s.heap.get? b=some o'->h'.get? b=some o') ->
   h'.get? s.heap.objs.size=some { cls:=.type "list",dict:=none,data:=.seq its.toArray c',slots:=#[] }->EP X J3 σ Q (.ref s.heap.objs.size) { s with heap:=h' }:=fun its r' hz h' c' kp e =>
  ⟨.ref s.heap.objs.size,_,I.laid (t':=s.toks) kp (aH _) (show cj X.prog X.w X.K _ h' _ (.lst ys)from⟨hz,its,c',r',e⟩),rfl,q _ (I.hok.fresh (aH _))⟩
 rcases hq with hq|hq
 ·obtain⟨its,r',pl,hz⟩:=I.list hq;have hlen:=r'.length;obtain⟨o,ho,hc,n,hd⟩:=pl.isList;exact call_list_seq p (.inl rfl) ho hc hd (fun h' c' kp e=>fin its r' hz h' c' kp e) (by simp only[bE]<;>omega)
 ·obtain⟨its,r',pl,hz⟩:=I.tuple hq;have hlen:=r'.length;obtain⟨o,ho,hc,n,hd⟩:=pl;exact call_list_seq p (.inr rfl) ho hc hd (fun h' c' kp e=>fin its r' hz h' c' kp e) (by simp only[bE]<;>omega)
theorem cY:fN X (.type "tuple") (fun xs H Q=>∃p ys,xs=[.ref p]/\((aA X.K H p ys/\∀l,H l=none->Q (.ref l) (upd H l (.tup ys)))∨(aY X.K H p ys/\Q (.ref p) H))):=by
 intro J3 s σ H xs us Q I r h;obtain⟨p,ys,rfl,h⟩:=h;obtain⟨u,rfl,rx⟩:=vals1 r;cases rx;rcases h with⟨hq,q⟩|⟨hq,q⟩
 ·obtain⟨its,r',pl,hz⟩:=I.list hq;have hlen:=r'.length;refine call_tuple_list pl.isList (fun h' kp=>?_) (by simp only[bE]<;>omega);have I1:Inv X J3 σ H { s with heap:=h' }:=I.kept (t':=s.toks) kp;have I2:Inv X J3 σ (upd H h'.objs.size (.tup ys)) { s with heap:=h'.push { cls:=.type "tuple",data:=.seq its.toArray } } :=
   I1.laid (t':=s.toks) (fun b o e=>bC _ e) (aH _) (show cj X.prog X.w X.K _ _ _ (.tup ys)from⟨hz,its,r',uT _ _⟩)
  exact⟨.ref h'.objs.size,_,I2,rfl,q _ (I1.hok.fresh (aH _))⟩
 ·obtain⟨its,r',pl,hz⟩:=I.tuple hq;exact call_tuple_same pl ⟨.ref p,H,I,rfl,q⟩
def tyV(K:Za)(T:String)(x:V)(H:Hp):Prop:=match x with
 |.str _=>T="str"
 |.int _=>T="int"
 |.ref p=>(T="list"/\∃xs,aA K H p xs)∨(T="tuple"/\∃o,K.lookup p=some o/\o.cls=.type "tuple"/\o.dict=none) ∨
   (T="dict"/\((∃kvs,H p=some (.dK kvs))∨∃kvs,H p=some (.dT kvs)))∨(T="set"/\∃S n,H p=some (.set S n))
 |_=>False
theorem BX{J3:Zd}{σ:St}{H:Hp}{s:Shared}{T:String}{x:V}{v:Value}(I:Inv X J3 σ H s)(r:RelV x v)(ty:tyV X.K T x H):
  s.TypeIs v T/\∀a,v=.ref a->∃ob,s.heap.get? a=some ob/\ob.dict=none:=by
 cases x with
 |str z =>
  obtain⟨t,rfl⟩:=r;cases(show T="str" from ty);exact⟨typeIs_str s z t,fun _ e=>nomatch e⟩
 |int i =>
  obtain⟨t,rfl⟩:=r;cases(show T="int" from ty);exact⟨typeIs_int s i t,fun _ e=>nomatch e⟩
 |ref p =>
  cases r;rcases ty with⟨rfl,xs,hq⟩|⟨rfl,o,hk,hc,hd⟩|⟨rfl,hk⟩|⟨rfl,S,n,hk⟩
  ·obtain⟨its,_,pl,_⟩:=I.list hq;refine⟨pl.isList.typeIs,fun a e=>?_⟩;cases e;obtain⟨o,n,e,c,hd,_⟩:=pl;exact⟨o,e,hd⟩
  ·refine⟨⟨o,I.kIn p o hk,hc⟩,fun a e=>?_⟩;cases e;exact⟨o,I.kIn _ o hk,hd⟩
  ·have z:∃o,s.heap.get? p=some o/\o.ExactDict:=by
    rcases hk with⟨kvs,hk⟩|⟨kvs,hk⟩
    ·obtain⟨_,_,_,_,o,_,_,e,ex,_⟩:=I.hok p _ hk;exact⟨o,e,ex⟩
    ·obtain⟨_,_,_,_,o,_,_,e,ex,_⟩:=I.hok p _ hk;exact⟨o,e,ex⟩
   obtain⟨o,e,ex⟩:=z;refine⟨⟨o,e,ex.1⟩,fun a e2=>?_⟩;cases e2;exact⟨o,e,ex.2.1⟩
  ·obtain⟨o,_,_,_,e,ex,_⟩:=I.hok p _ hk;refine⟨⟨o,e,ex.1⟩,fun a e2=>?_⟩;cases e2;exact⟨o,e,ex.2.1⟩
 |_=>exact i9 ty
def Gh(K:Za)(T:String)(r:V->List V->Hp->VK->Prop)(to:TE):TE:=fun σ H Q=>to σ H fun x H1=>tyV K T x H1/\r x [] H1 Q
def vj(K:Za)(T:String)(r:V->List V->Hp->VK->Prop)(to:TE)(t:TA):TE:=fun σ H Q=>to σ H fun x H1=>tyV K T x H1/\t σ H1 fun xs H2=>r x xs H2 Q
variable{o e:Expr}{es:List Expr}{to:TE}{t:TA}{name:Str}{J5 J4:Pos}{T id:String}{r:V->List V->Hp->VK->Prop}
theorem FH(pa:PlainAttrs T)(slot:Slot T name id)(hty:typeOf (.builtin id)=pure (.type "method_descriptor"))(hm:MtR X id r)(ho:PE X o to)
  (hbase:tw o name X.env (eval o X.env)=eval o X.env:=by rfl) (hline:(J5.endLine==J4.line)=true:=by rfl):PE X (.Call (.Attribute o name J5) [] [] J4) (Gh X.K T r to):=by
 intro J3 s σ H Q I h;refine wpAny_Call_method0_late hbase hline (cr (ho J3 s σ H _ I h) fun v s1 ⟨x,H1,I1,r1,ty,q1⟩=>?_);obtain⟨h1,h2⟩:=BX I1 r1 ty;exact⟨T,id,pa,slot,hty,h1,h2,uP rfl (PySem.evalArgs_none (hm J3 s1 σ H1 x [] v [] Q I1 r1 .nil q1))⟩
theorem ij(pa:PlainAttrs T)(slot:Slot T name id)(hty:typeOf (.builtin id)=pure (.type "method_descriptor"))(hm:MtR X id r)(ho:PE X o to)(ha:PA X (e::es) t)
  (hbase:tw o name X.env (eval o X.env)=eval o X.env:=by rfl)
  (hfew:((backTo J4 (aQ (e::es) X.env)).all (fun x=>!x.1) && (jw J4 (jv [] X.env)).all (fun x=>x.1.isSome)
   && decide ((e::es).length+([]:List om).length+(if([]:List om).isEmpty then 0 else 1)<30))=true:=by rfl)
  (hline:(J5.endLine==J4.line)=true:=by rfl) (hs:aQ (e::es) X.env=(false,eval e X.env)::aQ es X.env:=by rfl) (hplain:(backTo J4 (aQ es X.env)).any (·.1)=false:=by rfl) :
  PE X (.Call (.Attribute o name J5) (e::es) [] J4) (vj X.K T r to t):=by
 intro J3 s σ H Q I h;refine wpAny_Call_method_late hbase hfew hline rfl (cr (ho J3 s σ H _ I h) fun v s1 ⟨x,H1,I1,r1,ty,q1⟩=>?_);obtain⟨h1,h2⟩:=BX I1 r1 ty;refine⟨T,id,pa,slot,hty,h1,h2,?_⟩;have hA:=ha J4 J3 s1 σ H1 _ I1 q1;rw[hs]at hA ⊢;refine uP (by show(false || (backTo J4 (aQ es X.env)).any (·.1))=false;rw[hplain]<;>rfl) (Calls.evalArgs_plain ?_);exact cr hA fun us s2 ⟨vs,H2,I2,r2,q2⟩=>hm J3 s2 σ H2 x vs v us Q I2 r1 r2 q2
end
end L2
namespace L2
open PySem PySem.Spec PyProof.Rows
def Ga(X:Cx)(id:String)(r:V->List V->Hp->VK->Prop):Prop :=
 ∀(J3:Zd) (s:Shared) (σ:St) (H:Hp) (x:V) (xs:List V) (v:Value) (us:Zf) (Q:VK),Inv X J3 σ H s->RelV x v->bg xs us->r x xs H Q ->
  wpAny (model X.prog X.w) X.A (call (.builtin id) (v::us)) (EP X J3 σ Q) X.xe s
theorem bg.one:∀{x:V}{us:Zf},bg [x] us->∃u,us=[u]/\RelV x u
 |_,_,.cons r .nil=>⟨_,rfl,r⟩
theorem bg.two:∀{x y:V}{us:Zf},bg [x,y] us->∃u v,us=[u,v]/\RelV x u/\RelV y v
 |_,_,_,.cons r (.cons q .nil)=>⟨_,_,rfl,r,q⟩
theorem bg.zero:∀{us:Zf},bg [] us->us=[]
 |_,.nil=>rfl
theorem bg.dropLast{xs:List V}{us:Zf}(h:bg xs us):bg xs.dropLast us.dropLast:=by
 induction h with
 |nil=>exact .nil
 |cons r t ih =>
  cases t with
  |nil=>exact .nil
  |cons q t'=>exact .cons r ih
theorem bg.eraseIdx:∀{xs:List V}{us:Zf}(i:Nat),bg xs us->bg (xs.eraseIdx i) (us.eraseIdx i)
 |_,_,_,.nil=>.nil
 |_,_,0,.cons _ t=>t
 |_,_,i+1,.cons r t=>.cons r (bg.eraseIdx i t)
theorem bg.reverse{xs:List V}{us:Zf}(h:bg xs us):bg xs.reverse us.reverse:=by
 induction h with
 |nil=>exact .nil
 |cons r t ih=>rw[List.reverse_cons,List.reverse_cons];exact bg.append ih (.cons r .nil)
theorem yV{α:Type}(l:List α):l.eraseIdx (l.length-1)=l.dropLast:=by
 induction l with
 |nil=>rfl
 |cons a r ih =>
  cases r with
  |nil=>rfl
  |cons b r =>
   have e:(a::b::r).length-1=((b::r).length-1)+1:=by
    have h1:(a::b::r).length=r.length+2:=rfl;have h2:(b::r).length=r.length+1:=rfl;omega
   rw[e,List.eraseIdx_cons_succ,ih]
   all_goals rfl
theorem tU{α:Type}:∀(l:List α) (i:Nat),(l.eraseIdx i).length<=l.length
 |[],_=>aH _
 |_::_,0=>oq _
 |_::r,i+1=>Nat.succ_le_succ (tU r i)
section
variable{X:Cx}{J3:Zd}{σ:St}{H:Hp}{s:Shared}{l b:Addr}{xs ys zs:List V}
theorem Inv.lset{its its':Zf}{n:Nat}{f:Array Value->Array Value}{t':Nat}(I:Inv X J3 σ H s)(hH:H l=some (.lst xs))
  (e:s.heap.get? l=some { cls:=.type "list",data:=.seq its.toArray n }) (hf:f its.toArray=its'.toArray) (hv:bg ys its') (hz:ys.length<=ah) :
  Inv X J3 σ (upd H l (.lst ys)) { s with heap:=s.heap.update l (qv f),toks:=t' }:=by
 have q:=PySem.IsL.update e f;rw[hf]at q;refine I.write (x:=l) (e:=l) (by rw[hH];exact trivial) (.inl rfl) (fun b' u hb hu=>(Heap.get?_update_other s.heap (qv f) (gF hb)).trans hu) ⟨_,q⟩ ?_;exact⟨hz,its',_,hv,q⟩
theorem Inv.lnew{its:Zf}{t':Nat}(I:Inv X J3 σ H s)(hv:bg ys its)(hz:ys.length<=ah):
  Inv X J3 σ (upd H s.heap.objs.size (.lst ys)) { s with heap:=s.heap.push { cls:=.type "list",data:=.seq its.toArray },toks:=t' } :=
 I.laid (fun _ _ q=>bC _ q) (aH _) ⟨hz,its,0,hv,c8 _ rfl⟩
theorem Inv.fresh(I:Inv X J3 σ H s):H s.heap.objs.size=none:=I.hok.fresh (aH _)
theorem Inv.lstM(I:Inv X J3 σ H s)(hH:H l=some (.lst xs)):xs.length<=ah/\∃(its:Zf) (n:Nat),bg xs its/\xs.length=its.length/\s.heap.get? l=some { cls:=.type "list",data:=.seq its.toArray n }:=by
 obtain⟨z,its,n,r,e⟩:=I.hok l _ hH;exact⟨z,its,n,r,r.length,e⟩
theorem CL{n:Nat}(h:n<=ah):cw.List.listTooLong n=false:=by
 unfold cw.List.listTooLong;exact zzr0 (by omega)
end
section
variable{X:Cx}
def dE:V->List V->Hp->VK->Prop:=fun x vs H Q=>∃l xs y,x=.ref l/\vs=[y]/\H l=some (.lst xs)/\xs.length<ah/\Q .non (upd H l (.lst (xs++[y])))
theorem cQ:Ga X "list.append" dE:=by
 intro J3 s σ H x vs v us Q I rx rv h;obtain⟨l,xs,y,rfl,rfl,hH,hz,q⟩:=h;cases rx;obtain⟨u,rfl,ru⟩:=rv.one;obtain⟨z,its,n,r,hl,e⟩:=I.lstM hH;refine qt F.slot_list_append ⟨_,e,rfl⟩ F.entry_list_append (F.args_list_append_2 _ _) (PySem.list_append l its.toArray n u (by rw[bE];omega)) ⟨e,?_⟩;refine⟨.non,_,I.lset (its':=its++[u]) hH e (by simp) (r.append (.cons ru .nil)) ?_,rfl,q⟩;rw[aO,List.length_singleton];omega
def z7:V->List V->Hp->VK->Prop:=fun x vs H Q=>∃l b xs zs,x=.ref l/\vs=[.ref b]/\H l=some (.lst xs)/\H b=some (.lst zs)/\xs.length+zs.length<=ah/\Q .non (upd H l (.lst (xs++zs)))
theorem Bl:Ga X "list.extend" z7:=by
 intro J3 s σ H x vs v us Q I rx rv h;obtain⟨l,b,xs,zs,rfl,rfl,hH,hB,hz,q⟩:=h;cases rx;obtain⟨u,rfl,ru⟩:=rv.one;cases ru;obtain⟨z,its,n,r,hl,e⟩:=I.lstM hH;obtain⟨z2,its2,n2,r2,hl2,e2⟩:=I.lstM hB;have hsz:its.toArray.size+its2.toArray.size<=ah:=by rw[bE,bE];omega
 have hlong:¬(!its.toArray.isEmpty && cw.List.listTooLong (its.toArray.size+its2.toArray.size))=true:=by
  rw[CL hsz,uO];exact fR
 refine qt F.slot_list_extend ⟨_,e,rfl⟩ F.entry_list_extend (F.args_list_extend_2 _ _)
  (AutoSeq1.list_extend_list_list_0 l its.toArray n b its2.toArray n2 hlong (by rw[bE];omega) (by omega)) ⟨e,e2,?_⟩
 refine⟨.non,_,I.lset (its':=its++its2) hH e (by simp) (r.append r2) ?_,rfl,q⟩;rw[aO];omega
def Go:V->List V->Hp->VK->Prop:=fun x vs H Q=>∃l xs y,x=.ref l/\vs=[]/\H l=some (.lst xs)/\xs[xs.length-1]?=some y/\Q y (upd H l (.lst xs.dropLast))
theorem FI:Ga X "list.pop" Go:=by
 intro J3 s σ H x vs v us Q I rx rv h;obtain⟨l,xs,y,rfl,rfl,hH,hy,q⟩:=h;cases rx;have hus:=rv.zero;subst hus;obtain⟨z,its,n,r,hl,e⟩:=I.lstM hH;obtain⟨u,hu,ru⟩:=r.get hy;have hy':its.toArray[its.toArray.size-1]?=some u:=by
  show its.toArray[its.length-1]?=some u;rw[<-uN,<-hl];exact hu
 refine qt F.slot_list_pop ⟨_,e,rfl⟩ F.entry_list_pop (F.args_list_pop_1 _) (MeetsSeq.list_pop_last l its.toArray n u hy' (by rw[bE];omega)) ⟨e,?_⟩;refine⟨y,_,I.lset (its':=its.dropLast) hH e ?_ r.dropLast ?_,ru,q⟩
 ·show its.toArray.eraseIdxIfInBounds (its.toArray.size-1)=its.dropLast.toArray;rw[bE,List.eraseIdxIfInBounds_toArray,yV]
 ·rw[List.length_dropLast];omega
def Cv:V->List V->Hp->VK->Prop:=fun x vs H Q=>∃l xs i k y,x=.ref l/\vs=[.int i]/\H l=some (.lst xs)/\-(2 ^ 63)<=i/\i<2 ^ 63/\uS i xs.length=some k/\xs[k]?=some y/\Q y (upd H l (.lst (xs.eraseIdx k)))
theorem CT:Ga X "list.pop" Cv:=by
 intro J3 s σ H x vs v us Q I rx rv h;obtain⟨l,xs,i,k,y,rfl,rfl,hH,h1,h2,hk,hy,q⟩:=h;cases rx;obtain⟨u,rfl,ru⟩:=rv.one;obtain⟨t,rfl⟩:=ru;obtain⟨z,its,n,r,hl,e⟩:=I.lstM hH;obtain⟨w,hw,rw'⟩:=r.get hy;refine qt F.slot_list_pop ⟨_,e,rfl⟩ F.entry_list_pop (F.args_list_pop_2 _ _)
  (MeetsSeq.list_pop_at l its.toArray n i t k w (fitsIndex_both h1 h2) (by rw[bE,<-hl];exact hk) (by rw[<-uN];exact hw) (by rw[bE];omega)) ⟨e,?_⟩
 refine⟨y,_,I.lset (its':=its.eraseIdx k) hH e ?_ (r.eraseIdx k) ?_,rw',q⟩
 ·show its.toArray.eraseIdxIfInBounds k=(its.eraseIdx k).toArray;rw[List.eraseIdxIfInBounds_toArray]
 ·have:=tU xs k;omega
def eS:R2:=fun x y H Q=>∃l b xs zs,x=.ref l/\y=.ref b/\H l=some (.lst xs)/\H b=some (.lst zs)/\xs.length+zs.length<=ah/\∀p,H p=none->Q (.ref p) (upd H p (.lst (xs++zs)))
theorem cf:mC X (lK .Add) eS:=by
 intro J3 s σ H x y v u Q I rx ry h;obtain⟨l,b,xs,zs,rfl,rfl,hH,hB,hz,q⟩:=h;cases rx;cases ry;obtain⟨z,its,n,r,hl,e⟩:=I.lstM hH;obtain⟨z2,its2,n2,r2,hl2,e2⟩:=I.lstM hB;refine PySem.P.add_list e e2 ?_ (by rw[bE,bE];omega);have ea:its.toArray++its2.toArray=(its++its2).toArray:=by simp
 rw[ea];exact⟨.ref _,_,I.lnew (t':=s.toks) (r.append r2) (by rw[aO];omega),rfl,q _ I.fresh⟩
end
end L2
namespace L2
open PySem PySem.Spec PyProof.Rows
section
variable{κ:Type}[DecidableEq κ]
def bO(kvs:List (κ×V))(k:κ):Option V:=(kvs.find? fun kv=>decide (kv.1=k)).map (·.2)
def cX(kvs:List (κ×V))(k:κ)(v:V):List (κ×V) :=
 if(kvs.any fun kv=>decide (kv.1=k))=true then kvs.map (fun kv=>if kv.1=k then(kv.1,v)else kv)else kvs++[(k,v)]
theorem cS{p:κ×V}{r:List (κ×V)}{k:κ}(e:p.1=k):bO (p::r) k=some p.2:=by simp[bO,ki,e]
theorem cG{p:κ×V}{r:List (κ×V)}{k:κ}(e:¬p.1=k):bO (p::r) k=bO r k:=by simp[bO,ki,e]
theorem i_(k:κ):∀kvs:List (κ×V),(kvs.any fun kv=>decide (kv.1=k))=(bO kvs k).isSome
 |[]=>rfl
 |p::r=>by
  rw[oj];by_cases e:p.1=k
  ·simp only[cS e,zzr1 e,Bool.true_or,Option.isSome_some]
  ·rw[cG e,zzr0 e,Bool.false_or];exact i_ k r
theorem ww(k j:κ)(y:V):∀kvs:List (κ×V),bO (kvs.map fun kv=>if kv.1=k then(kv.1,y)else kv) j=(bO kvs j).map fun x=>if j=k then y else x
 |[]=>rfl
 |p::r=>by
  have ih:=ww k j y r;rw[bI];by_cases h:p.1=k
  ·rw[if_pos h];by_cases e:p.1=j
   ·rw[cS (p:=(p.1,y)) e,cS e,qr,if_pos (e.symm.trans h)]
   ·rw[cG (p:=(p.1,y)) e,cG e,ih]
  ·rw[if_neg h];by_cases e:p.1=j
   ·rw[cS (p:=p) e,cS e,qr,if_neg (fun z=>h (e.trans z))]
   ·rw[cG (p:=p) e,cG e,ih]
theorem tI(k j:κ)(y:V):∀kvs:List (κ×V),bO kvs k=none->bO (kvs++[(k,y)]) j=if j=k then some y else bO kvs j
 |[],_=>by
  by_cases e:k=j
  ·rw[if_pos e.symm];exact cS (p:=(k,y)) e
  ·rw[if_neg (fun z=>e z.symm)];exact cG (p:=(k,y)) e
 |p::r,hn=>by
  rw[List.cons_append];have hk:¬p.1=k:=fun z=>by rw[cS z]at hn;cases hn
  rw[cG hk]at hn;have ih:=tI k j y r hn;by_cases e:p.1=j
  ·rw[cS e,cS e,if_neg (fun z=>hk (e.trans z))]
  ·rw[cG e,cG e,ih]
theorem kr(kvs:List (κ×V))(k j:κ)(y:V):bO (cX kvs k y) j=if j=k then some y else bO kvs j:=by
 unfold cX;by_cases a:(kvs.any fun kv=>decide (kv.1=k))=true
 ·rw[if_pos a,ww];rw[i_]at a;by_cases e:j=k
  ·obtain⟨x,hx⟩:=uY.mp a;rw[if_pos e,e,hx,qr,if_pos rfl]
  ·rw[if_neg e];cases bO kvs j with
   |none=>rfl
   |some x=>rw[qr,if_neg e]
 ·rw[if_neg a];refine tI k j y kvs ?_;rw[i_]at a;cases q:bO kvs k with
  |none=>rfl
  |some x=>rw[q]at a;exact(a rfl).elim
theorem iN(kvs:List (κ×V))(k:κ)(v:V):(cX kvs k v).length<=kvs.length+1:=by
 unfold cX;split
 ·rw[ai];omega
 ·rw[aO,em,List.length_nil];omega
theorem eT{kvs:List (κ×V)}{k:κ}(v:V)(h:bO kvs k=none):cX kvs k v=kvs++[(k,v)]:=by
 unfold cX;rw[i_,h];exact if_neg (by decide)
theorem j5.isSome_eq{o:Option V}{u:Option Value}(r:j5 o u):o.isSome=u.isSome:=by
 cases o with
 |none=>cases u with
  |none=>rfl
  |some _=>exact(show False from r).elim
 |some _=>cases u with
  |none=>exact(show False from r).elim
  |some _=>rfl
theorem j5.getD{o:Option V}{u:Option Value}{d:V}{d':Value}(r:j5 o u)(rd:RelV d d'):RelV (o.getD d) (u.getD d'):=by
 cases o with
 |none=>cases u with
  |none=>exact rd
  |some _=>exact(show False from r).elim
 |some _=>cases u with
  |none=>exact(show False from r).elim
  |some _=>exact r
theorem KV.val{kvs:List (κ×V)}{vs:List (κ×Value)}(r:KV kvs vs)(k:κ):j5 (bO kvs k) (lX vs k):=by
 unfold KV at r
 induction r with
 |nil=>exact iC
 |@cons p q ps qs h t ih =>
  obtain⟨h1,h2⟩:=h;by_cases e:p.1=k
  ·have e':q.1=k:=h1.symm.trans e;have b:lX (q::qs) k=some q.2:=by simp[lX,ki,e']
   rw[cS e,b];exact h2
  ·have e':¬q.1=k:=fun z=>e (h1.trans z);have b:lX (q::qs) k=lX qs k:=by simp[lX,ki,e']
   rw[cG e,b];exact ih
theorem KV.any{kvs:List (κ×V)}{vs:List (κ×Value)}(r:KV kvs vs)(k:κ):(kvs.any fun kv=>decide (kv.1=k))=vs.any fun kv=>decide (kv.1=k):=by
 unfold KV at r
 induction r with
 |nil=>rfl
 |cons h t ih=>rw[oj,oj,ih,h.1]
theorem KV.repl{kvs:List (κ×V)}{vs:List (κ×Value)}(r:KV kvs vs)(k:κ){y:V}{u:Value}(ry:RelV y u):
  KV (kvs.map fun kv=>if kv.1=k then(kv.1,y)else kv) (vs.map fun kv=>if kv.1=k then(kv.1,u)else kv):=by
 unfold KV at r ⊢
 induction r with
 |nil=>exact .nil
 |@cons p q ps qs h t ih =>
  rw[bI,bI];refine .cons ?_ ih;obtain⟨h1,h2⟩:=h;by_cases e:p.1=k
  ·rw[if_pos e,if_pos (h1.symm.trans e)];exact⟨h1,ry⟩
  ·rw[if_neg e,if_neg (fun z=>e (h1.trans z))];exact⟨h1,h2⟩
theorem KV.put{kvs:List (κ×V)}{vs:List (κ×Value)}(r:KV kvs vs)(k:κ){y:V}{u:Value}(ry:RelV y u):KV (cX kvs k y) (stored vs k u):=by
 unfold cX stored;rw[r.any k];by_cases e:(vs.any fun kv=>decide (kv.1=k))=true
 ·rw[if_pos e,if_pos e];exact r.repl k ry
 ·rw[if_neg e,if_neg e];exact fA r ⟨rfl,ry⟩
theorem KV.length{kvs:List (κ×V)}{vs:List (κ×Value)}(r:KV kvs vs):kvs.length=vs.length:=Paired.length r
end
theorem jg{P:bR}{w:World}{k:d6}{u:Value}(r:RelV (kV k) u):(bT P w).is k u=true:=by
 cases k with
 |inl i=>obtain⟨t,e⟩:=(show ∃t,u=Value.int i t from r);subst e;exact xj P w i t
 |inr x=>obtain⟨t,e⟩:=(show ∃t,u=Value.str x t from r);subst e;exact xi P w x t
abbrev KT(K:Za)(H:Hp):List (TK×V)->List (TK×Addr×Value)->Prop:=Paired fun p q=>p.1=q.1/\mP K H p.1 (.ref q.2.1)/\p.1.depth<=8/\RelV p.2 q.2.2
theorem KT.val{K:Za}{H:Hp}{kvs:List (TK×V)}{xs:List (TK×Addr×Value)}(r:KT K H kvs xs)(k:TK):j5 (bO kvs k) ((atKey xs k).map (·.2)):=by
 induction r with
 |nil=>exact iC
 |@cons p q ps qs h t ih =>
  obtain⟨h1,_,_,h2⟩:=h;by_cases e:p.1=k
  ·have e':q.1=k:=h1.symm.trans e;have b:atKey (q::qs) k=some q.2:=by simp[atKey,ki,e']
   rw[cS e,b];exact h2
  ·have e':¬q.1=k:=fun z=>e (h1.trans z);have b:atKey (q::qs) k=atKey qs k:=by simp[atKey,ki,e']
   rw[cG e,b];exact ih
theorem KT.repl{K:Za}{H:Hp}{kvs:List (TK×V)}{xs:List (TK×Addr×Value)}(r:KT K H kvs xs)(k:TK){y:V}{u:Value}(ry:RelV y u):
  KT K H (kvs.map fun kv=>if kv.1=k then(kv.1,y)else kv) (xs.map (putAt k u)):=by
 induction r with
 |nil=>exact .nil
 |@cons p q ps qs h t ih =>
  rw[bI,bI];refine .cons ?_ ih;obtain⟨h1,h2,h3⟩:=h;unfold putAt;by_cases e:p.1=k
  ·rw[if_pos e,if_pos (h1.symm.trans e)];exact⟨h1,h2,h3.1,ry⟩
  ·rw[if_neg e,if_neg (fun z=>e (h1.trans z))];exact⟨h1,h2,h3⟩
theorem KT.put{K:Za}{H:Hp}{kvs:List (TK×V)}{xs:List (TK×Addr×Value)}(r:KT K H kvs xs)(k:TK){b:Addr}{y:V}{u:Value}(hb:mP K H k (.ref b))(h8:k.depth<=8)(ry:RelV y u):
  KT K H (cX kvs k y) (storedH xs k b u):=by
 have e:(kvs.any fun kv=>decide (kv.1=k))=(atKey xs k).isSome:=by
  rw[i_,(r.val k).isSome_eq,Option.isSome_map]
 unfold cX storedH;rw[e];by_cases q:(atKey xs k).isSome=true
 ·rw[if_pos q,if_pos q];exact r.repl k ry
 ·rw[if_neg q,if_neg q];exact fA r ⟨rfl,hb,h8,ry⟩
theorem KT.keeps{K:Za}{H H':Hp}{kvs:List (TK×V)}{xs:List (TK×Addr×Value)}(r:KT K H kvs xs)(ht:∀b ys,H b=some (.tup ys)->H' b=some (.tup ys)):KT K H' kvs xs :=
 Paired.mapP r fun _ _ z=>⟨z.1,mP.keeps ht 8 z.2.2.1 z.2.1,z.2.2⟩
section
variable{P:bR}{w:World}{K:Za}{H:Hp}{h:Heap}{a:Addr}
theorem Fa{u:HO}(ok:lB P w K H h)(e:Rd H a u):cj P w K H h a u:=e.ok ok
theorem nI{kvs:List (d6×V)}(ok:lB P w K H h)(e:Rd H a (.dK kvs)):kvs.length<=ah/\(a==gG)=false/\∃vs,KV kvs vs/\h.DictOf (bT P w) a vs :=
 show cj P w K H h a (.dK kvs)from Fa ok e
theorem GB{kvs:List (d6×V)}(ok:lB P w K H h)(e:H a=some (.dK kvs)):kvs.length<=ah/\(a==gG)=false/\∃vs,KV kvs vs/\h.DictOf (bT P w) a vs:=nI ok (.inl e)
theorem Ft(ok:lB P w K H h)(kin:K.In h):∀(d:Nat) {k:TK}{v:V}{u:Value},k.depth<=d->mP K H k v->RelV v u->lA h k u:=by
 have key:∀(d:Nat) (ih:∀{k:TK}{v:V}{u:Value},k.depth<=d->mP K H k v->RelV v u->lA h k u) (ks:List TK) (vs:List V) (us:Zf),TK.depths ks<=d->TKCs K H ks vs->bg vs us->TAts h ks us:=by
  intro d ih ks
  induction ks with
  |nil =>
   intro vs us _ hx r;have e:vs=[]:=hx;subst e;cases r
   rfl
  |cons k ks ihl =>
   intro vs us hd hx r;obtain⟨v,vs',rfl,h1,h2⟩:=hx;cases r with
   |@cons _ u _ us' r1 r2 =>
    have hd':max k.depth (TK.depths ks)<=d:=hd;exact⟨u,us',rfl,ih (by omega) h1 r1,ihl vs' us' (by omega) h2 r2⟩
 intro d
 induction d with
 |zero =>
  intro k v u hd hx r;cases k with
  |t l=>exact absurd hd (by show ¬(TK.depths l+1<=0);omega)
  |k b =>
   have e:v=kV b:=hx;subst e;exact jg (P:=P) (w:=w) r
 |succ d ih =>
  intro k v u hd hx r;cases k with
  |k b =>
   have e:v=kV b:=hx;subst e;exact jg (P:=P) (w:=w) r
  |t l =>
   obtain⟨b,xs,rfl,hb,hi⟩:=hx;cases(show u=Value.ref b from r);obtain⟨its,rv,ob,h1,h2,n,h3⟩:∃its:List Value,bg xs its/\IsTup h b its.toArray:=by
    rcases hb with hb|⟨o,its,n,hk,hc,hs,hz,r⟩
    ·obtain⟨_,its,rv,p⟩:=(show cj P w K H h b (.tup xs)from ok b _ hb);exact⟨its,rv,p⟩
    ·exact⟨its.toList,r,o,kin b o hk,hc,n,by simpa using hs⟩
   exact⟨b,ob,its.toArray,n,rfl,h1,h2,h3,by simpa using key d (fun h1=>ih h1) l xs its (by have:TK.depths l+1<=d+1:=hd;omega) hi rv⟩
theorem rE{k:TK}(ok:lB P w K H h)(kin:K.In h)(e:mP K H k (.ref a))(h8:k.depth<=8):(c_ P w).is h k a:=⟨Ft ok kin 8 h8 e rfl,h8⟩
theorem nG{kvs:List (TK×V)}(ok:lB P w K H h)(kin:K.In h)(e:Rd H a (.dT kvs)):kvs.length<=ah/\(a==gG)=false /\
  ∃xs,KT K H kvs xs/\h.DictOfH (c_ P w) a xs:=by
 obtain⟨z,y,xs,r,o,es,ep,h1,h2,h3,h4,h5⟩:=(show cj P w K H h a (.dT kvs)from Fa ok e);refine⟨z,y,xs,r,o,es,ep,h1,h2,h3,h4,fun x hx=>?_,h5⟩;have all:∀{l:List (TK×V)}{m:List (TK×Addr×Value)},KT K H l m->∀x∈m,(c_ P w).is h x.1 x.2.1:=by
  intro l m q
  induction q with
  |nil=>intro x hx;exact nomatch hx
  |@cons p q ps qs hq t ih =>
   intro x hx;rcases cv.mp hx with e|hx
   ·subst e;exact rE ok kin (by rw[<-hq.1];exact hq.2.1) (by rw[<-hq.1];exact hq.2.2.1)
   ·exact ih x hx
 exact all r x hx
theorem Au{kvs:List (TK×V)}(ok:lB P w K H h)(kin:K.In h)(e:H a=some (.dT kvs)):kvs.length<=ah/\(a==gG)=false /\
  ∃xs,KT K H kvs xs/\h.DictOfH (c_ P w) a xs:=nG ok kin (.inl e)
end
mutual
def kQ(K:Za)(H:Hp):TK->V->Prop
 |.k a,v=>v=kV a
 |.t l,v=>∃b xs,v=.ref b/\aY K H b xs/\TKIns K H l xs
def TKIns(K:Za)(H:Hp):List TK->List V->Prop
 |[],vs=>vs=[]
 |k::r,vs=>∃v us,vs=v::us/\kQ K H k v/\TKIns K H r us
end
theorem fq.isIn{K:Za}{H:Hp}:∀(d:Nat) {k:TK}{v:V},k.depth<=d->fq H k v->kQ K H k v:=by
 have key:∀(d:Nat) (ih:∀{k:TK}{v:V},k.depth<=d->fq H k v->kQ K H k v) (xs:List TK) (vs:List V),TK.depths xs<=d->TKAts H xs vs->TKIns K H xs vs:=by
  intro d ih xs
  induction xs with
  |nil=>intro vs _ hx;exact hx
  |cons x xs ihl =>
   intro vs hd hx;obtain⟨v,us,rfl,hx1,hx2⟩:=hx;have hd':max x.depth (TK.depths xs)<=d:=hd;exact⟨v,us,rfl,ih (by omega) hx1,ihl us (by omega) hx2⟩
 intro d
 induction d with
 |zero =>
  intro k v hd hx;cases k with
  |t l=>exact absurd hd (by show ¬(TK.depths l+1<=0);omega)
  |k a=>exact hx
 |succ d ih =>
  intro k v hd hx;cases k with
  |k a=>exact hx
  |t l =>
   obtain⟨b,xs,rfl,hb,hi⟩:=hx;exact⟨b,xs,rfl,aY.of hb,key d (fun h1=>ih h1) l xs (by have:TK.depths l+1<=d+1:=hd;omega) hi⟩
theorem DQ{X:Cx}{J3:Zd}{σ:St}{H:Hp}{s:Shared}(I:Inv X J3 σ H s):∀(d:Nat) {k:TK}{v:V}{u:Value},k.depth<=d->kQ X.K H k v->RelV v u->lA s.heap k u:=by
 have key:∀(d:Nat) (ih:∀{k:TK}{v:V}{u:Value},k.depth<=d->kQ X.K H k v->RelV v u->lA s.heap k u) (ks:List TK) (vs:List V) (us:Zf),TK.depths ks<=d->TKIns X.K H ks vs->bg vs us->TAts s.heap ks us:=by
  intro d ih ks
  induction ks with
  |nil =>
   intro vs us _ hx r;have e:vs=[]:=hx;subst e;cases r
   rfl
  |cons k ks ihl =>
   intro vs us hd hx r;obtain⟨v,vs',rfl,h1,h2⟩:=hx;cases r with
   |@cons _ u _ us' r1 r2 =>
    have hd':max k.depth (TK.depths ks)<=d:=hd;exact⟨u,us',rfl,ih (by omega) h1 r1,ihl vs' us' (by omega) h2 r2⟩
 intro d
 induction d with
 |zero =>
  intro k v u hd hx r;cases k with
  |t l=>exact absurd hd (by show ¬(TK.depths l+1<=0);omega)
  |k b =>
   have e:v=kV b:=hx;subst e;exact jg (P:=X.prog) (w:=X.w) r
 |succ d ih =>
  intro k v u hd hx r;cases k with
  |k b =>
   have e:v=kV b:=hx;subst e;exact jg (P:=X.prog) (w:=X.w) r
  |t l =>
   obtain⟨b,xs,rfl,hb,hi⟩:=hx;cases(show u=Value.ref b from r);obtain⟨its,rv,⟨ob,h1,h2,n,h3⟩,_⟩:=I.tuple hb;exact⟨b,ob,its.toArray,n,rfl,h1,h2,h3,by simpa using key d (fun h1=>ih h1) l xs its (by have:TK.depths l+1<=d+1:=hd;omega) hi rv⟩
theorem rF{X:Cx}{J3:Zd}{σ:St}{H:Hp}{s:Shared}{k:TK}{b:Addr}(I:Inv X J3 σ H s)(e:kQ X.K H k (.ref b))(h8:k.depth<=8):(c_ X.prog X.w).is s.heap k b:=⟨DQ I 8 h8 e rfl,h8⟩
theorem fj{P:bR}{w:World}{A:Around}(hu:A.units+16<cLine):(c_ P w).room A.in1:=by
 show A.units+1+8<cLine;omega
def kW(K:Za)(H:Hp)(a:Addr)(y:V)(r:Option V):Prop :=
 (∃kvs k,Rd H a (.dK kvs)/\y=kV k/\r=bO kvs k)∨∃kvs k b,Rd H a (.dT kvs)/\y=.ref b/\kQ K H k (.ref b)/\k.depth<=8/\r=bO kvs k
def GP(H:Hp)(a:Addr)(y v:V)(H':Hp):Prop :=
 (∃kvs k,H a=some (.dK kvs)/\y=kV k/\kvs.length<ah/\H'=upd H a (.dK (cX kvs k v))) ∨
 ∃kvs k b,H a=some (.dT kvs)/\y=.ref b/\fq H k (.ref b)/\k.depth<=8/\kvs.length<ah/\H'=upd H a (.dT (cX kvs k v))
section
variable{X:Cx}{J3:Zd}{σ:St}{H:Hp}{s:Shared}{a:Addr}{y v:V}{u r:Value}{o:Option V}{A:Around}{E:Zc}
theorem Inv.big(I:Inv X J3 σ H s):gG<s.heap.objs.size:=by
 have h:b_<s.heap.objs.size:=(I.mod.glob.keeps I.bk).lt;exact Nat.lt_trans (by decide) h
theorem BA{Q:Zc}(hu:A.units+16<cLine)(I:Inv X J3 σ H s)(g:kW X.K H a y (some v))(ry:RelV y u)(h:∀w' s',Inv X J3 σ H s'->RelV v w'->Q w' s'):
  wpAny (model X.prog X.w) A (fU (.ref a) u) Q E s:=by
 rcases g with⟨kvs,k,e,ey,l⟩|⟨kvs,k,b,e,ey,eb,e8,l⟩
 ·subst ey;obtain⟨z,hd,vs,rel,dd⟩:=nI I.hok e;obtain⟨w',hw,rw'⟩:=j5.some_of (v:=v) (o:=lX vs k) (by rw[l];exact rel.val k);exact wpAny_getItem_of (jg ry) dd.mapOf hw (h w' _ (I.tok _) rw')
 ·subst ey;cases(show u=Value.ref b from ry);obtain⟨z,hd,xs,rel,dd⟩:=nG I.hok I.kIn e;obtain⟨w',hw,rw'⟩:=j5.some_of (v:=v) (o:=(atKey xs k).map (·.2)) (by rw[l];exact rel.val k);obtain⟨p,hp,hp2⟩:=Option.map_eq_some_iff.mp hw;refine wpAny_getItem_heap (fj hu) (rF I eb e8) dd hp ?_;rw[hp2];exact h w' _ (I.tok _) rw'
theorem GD{Q:Zc}(hu:A.units+16<cLine)(I:Inv X J3 σ H s)(g:kW X.K H a y o)(ry:RelV y u)(h:∀s',Inv X J3 σ H s'->Q (.bool o.isSome) s'):
  wpAny (model X.prog X.w) A (eM .In u (.ref a)) Q E s:=by
 rcases g with⟨kvs,k,e,ey,l⟩|⟨kvs,k,b,e,ey,eb,e8,l⟩
 ·subst ey;obtain⟨z,hd,vs,rel,dd⟩:=nI I.hok e;refine wpAny_in_of (jg ry) hd dd.mapOf ?_;rw[<-(rel.val k).isSome_eq,<-l];exact h _ (I.tok _)
 ·subst ey;cases(show u=Value.ref b from ry);obtain⟨z,hd,xs,rel,dd⟩:=nG I.hok I.kIn e;refine wpAny_in_heap (fj hu) (rF I eb e8) hd dd ?_;have q:=(rel.val k).isSome_eq;rw[Option.isSome_map]at q;rw[<-q,<-l];exact h _ (I.tok _)
theorem EJ{Q:Zc}(hu:A.units+16<cLine)(I:Inv X J3 σ H s)(g:kW X.K H a y o)(ry:RelV y u)(h:∀s',Inv X J3 σ H s'->Q (.bool (!o.isSome)) s'):
  wpAny (model X.prog X.w) A (eM .NotIn u (.ref a)) Q E s:=by
 rcases g with⟨kvs,k,e,ey,l⟩|⟨kvs,k,b,e,ey,eb,e8,l⟩
 ·subst ey;obtain⟨z,hd,vs,rel,dd⟩:=nI I.hok e;refine wpAny_notIn_of (jg ry) hd dd.mapOf ?_;rw[<-(rel.val k).isSome_eq,<-l];exact h _ (I.tok _)
 ·subst ey;cases(show u=Value.ref b from ry);obtain⟨z,hd,xs,rel,dd⟩:=nG I.hok I.kIn e;refine wpAny_notIn_heap (fj hu) (rF I eb e8) hd dd ?_;have q:=(rel.val k).isSome_eq;rw[Option.isSome_map]at q;rw[<-q,<-l];exact h _ (I.tok _)
theorem nJ{h':Heap}{t':Nat}{ob:HO}(I:Inv X J3 σ H s)(mu:GI (H a))(hs:iE a s.heap h')(he:∃q,h'.get? a=some q)(new:cj X.prog X.w X.K (upd H a ob) h' a ob):
  Inv X J3 σ (upd H a ob) { s with heap:=h',toks:=t' } :=
 I.write (x:=a) (e:=a) mu (.inl rfl) (fun b q hb z=>(hs.2 b hb).trans z) he new
theorem Dh{P:bR}{w:World}{K:Za}{H':Hp}{h':Heap}{kvs:List (d6×V)}{vs:List (d6×Value)}(z:kvs.length<=ah)(hd:(a==gG)=false)(rel:KV kvs vs)(dd:h'.DictOf (bT P w) a vs):
  cj P w K H' h' a (.dK kvs):=⟨z,hd,vs,rel,dd⟩
theorem Bz{H':Hp}{Q:Unit->Shared->Prop}(hu:A.units+16<cLine)(I:Inv X J3 σ H s)(g:GP H a y v H')(ry:RelV y u)(rv:RelV v r)(h:∀s',Inv X J3 σ H' s'->Q () s'):
  wpAny (model X.prog X.w) A (setItem (.ref a) u r) Q E s:=by
 rcases g with⟨kvs,k,e,ey,l,eH⟩|⟨kvs,k,b,e,ey,eb,e8,l,eH⟩
 ·subst ey eH;obtain⟨z,hd,vs,rel,dd⟩:=GB I.hok e;have hz:vs.length<=ah:=by rw[<-rel.length];exact z
  have hl:(cX kvs k v).length<=ah:=by have:=iN kvs k v;omega
  refine wpAny_setItem_pairs (hsz:=hz) (jg ry) dd fun h' dd' hs=>h _ ?_;have he:∃q,h'.get? a=some q:=let⟨q,_,_,hq,_⟩:=dd';⟨q,hq⟩;exact nJ I (by rw[e];exact iC) hs he (Dh hl hd (rel.put k rv) dd')
 ·subst ey eH;cases(show u=Value.ref b from ry);obtain⟨z,hd,xs,rel,dd⟩:=Au I.hok I.kIn e;have hz:xs.length<=ah:=by rw[<-Paired.length rel];exact z
  have hl:(cX kvs k v).length<=ah:=by have:=iN kvs k v;omega
  refine wpAny_setItem_heap (hsz:=hz) (fj hu) (rE I.hok I.kIn (fq.c 8 e8 eb) e8) dd fun h' dd' hs=>h _ ?_;obtain⟨q,es,ep,hq,h2,h3,h4,_,h5⟩:=dd';refine nJ I (by rw[e];exact iC) hs ⟨q,hq⟩ ⟨hl,hd,_,(rel.put k (fq.c 8 e8 eb) e8 rv).keeps fun c ys ec=>?_,q,es,ep,hq,h2,h3,h4,h5⟩;rw[aj (Aj ec e (fun z=>nomatch z))];exact ec
theorem yW{b:Addr}{kvs:List (TK×V)}{k:TK}{Q:Unit->Shared->Prop}(hu:A.units+16<cLine)(I:Inv X J3 σ H s)(e:H a=some (.dT kvs))(eb:mP X.K H k (.ref b))(e8:k.depth<=8)(l:kvs.length<ah)(ry:RelV (.ref b) u)(rv:RelV v r)(h:∀s',Inv X J3 σ (upd H a (.dT (cX kvs k v))) s'->Q () s'):
  wpAny (model X.prog X.w) A (setItem (.ref a) u r) Q E s:=by
 cases(show u=Value.ref b from ry);obtain⟨z,hd,xs,rel,dd⟩:=Au I.hok I.kIn e;have hz:xs.length<=ah:=by rw[<-Paired.length rel];exact z
 have hl:(cX kvs k v).length<=ah:=by have:=iN kvs k v;omega
 refine wpAny_setItem_heap (hsz:=hz) (fj hu) (rE I.hok I.kIn (eb) e8) dd fun h' dd' hs=>h _ ?_;obtain⟨q,es,ep,hq,h2,h3,h4,_,h5⟩:=dd';refine nJ I (by rw[e];exact iC) hs ⟨q,hq⟩ ⟨hl,hd,_,(rel.put k (eb) e8 rv).keeps fun c ys ec=>?_,q,es,ep,hq,h2,h3,h4,h5⟩;rw[aj (Aj ec e (fun z=>nomatch z))];exact ec
end
def BH(i:Expr):Prop:=∀ov iv,uR i false ov iv=operate [ov,iv] (fU ov iv)
theorem DU{prog:bR}{w:World}{A:Around}{E:Zc}{s:Shared}{env:Env}{value slice:Expr}{pos:Pos}{T id:String}{Q:Zc}
  (hl:typeLookup (.type T) "__getitem__"=pure (some (.builtin id))) (hs:BH slice)
  (h:wpAny (model prog w) A (eval value env) (fun o s₁=>wpAny (model prog w) A (eval slice env) (fun i s₂=>s₂.TypeIs o T/\wpAny (model prog w) A (fU o i) Q E s₂) E s₁) E s) :
  wpAny (model prog w) A (eval (.Subscript value slice pos) env) Q E s:=by
 refine uV (iD h (fun o s₁ h₁=>iD h₁ (fun i s₂ h₂=>?_) fun _ _ x=>x) fun _ _ x=>x);obtain⟨hT,h₂⟩:=h₂;unfold uU;refine ak ?_;rw[getitemInPython_of_ne hT.not_modules];refine ak (xQ hT hl ?_);have fin:wpAny (model prog w) A (uR slice false o i) (fun r s₃=>wpAny (model prog w) A (letTemporaryGo value o r >>= fun _=>pure r) Q E s₃) E s₂:=by
  rw[hs o i];exact wpAny_operating (iD h₂ (fun r s₃ h₃=>ak (wpAny_letTemporaryGo (ao h₃))) fun _ _ x=>x)
 first
  |exact ao (ak fin)
  |exact ak (ao (ak fin))
  |exact ak fin
theorem xy{X:Cx}{J3:Zd}{σ:St}{H:Hp}{s:Shared}{a:Addr}{y:V}{o:Option V}(I:Inv X J3 σ H s)(g:kW X.K H a y o):s.TypeIs (.ref a) "dict":=by
 rcases g with⟨kvs,k,e,_,_⟩|⟨kvs,k,b,e,_,_,_⟩
 ·obtain⟨_,_,vs,_,dd⟩:=nI I.hok e;exact dd.typeIs
 ·obtain⟨_,_,xs,_,dd⟩:=nG I.hok I.kIn e;exact dd.typeIs
def m9(K:Za)(td ty:TE):TE:=fun σ H Q=>td σ H fun x H1=>ty σ H1 fun y H2=>∃a v,x=.ref a/\kW K H2 a y (some v)/\Q v H2
def sM(K:Za)(ty td:TE):TE:=fun σ H Q=>ty σ H fun y H1=>td σ H1 fun x H2=>∃a o,x=.ref a/\kW K H2 a y o/\Q (.bl o.isSome) H2
def dD(K:Za)(ty td:TE):TE:=fun σ H Q=>ty σ H fun y H1=>td σ H1 fun x H2=>∃a o,x=.ref a/\kW K H2 a y o/\Q (.bl (!o.isSome)) H2
def iJ(td ty tv:TE):TS:=fun D σ H=>tv σ H fun v H1=>td σ H1 fun x H2=>ty σ H2 fun y H3=>∃a H4,x=.ref a/\GP H3 a y v H4/\D.nx σ H4
section
variable{X:Cx}{o i e value:Expr}{pos pos' J7:Pos}{td ty tv:TE}
theorem jH(hu:X.A.units+16<cLine)(ho:PE X o td)(hi:PE X i ty)(hs:BH i):PE X (.Subscript o i pos) (m9 X.K td ty):=by
 intro J3 s σ H Q I h;refine DU PySem.F.slot_dict_getitem.lookup hs (cr (ho J3 s σ H _ I h) fun u s1 ⟨x,H1,I1,rx,q1⟩=>cr (hi J3 s1 σ H1 _ I1 q1) fun iv s2 ⟨y,H2,I2,ry,a,v,ex,g,q2⟩=>?_);subst ex;obtain rfl:u=Value.ref a:=rx;exact⟨xy I2 g,BA hu I2 g ry fun w' s3 I3 rw'=>⟨v,H2,I3,rw',q2⟩⟩
theorem jI(hu:X.A.units+16<cLine)(hi:PE X i ty)(ho:PE X o td):PC X .In i o (sM X.K ty td):=by
 intro J3 s σ H Q I h;refine cr (hi J3 s σ H _ I h) fun iv s1 ⟨y,H1,I1,ry,q1⟩=>cr (ho J3 s1 σ H1 _ I1 q1) fun u s2 ⟨x,H2,I2,rx,a,ov,ex,g,q2⟩=>?_;subst ex;obtain rfl:u=Value.ref a:=rx;exact GD hu I2 g ry fun s3 I3=>⟨.bl ov.isSome,H2,I3,rfl,q2⟩
theorem dW(hu:X.A.units+16<cLine)(hi:PE X i ty)(ho:PE X o td):PC X .NotIn i o (dD X.K ty td):=by
 intro J3 s σ H Q I h;refine cr (hi J3 s σ H _ I h) fun iv s1 ⟨y,H1,I1,ry,q1⟩=>cr (ho J3 s1 σ H1 _ I1 q1) fun u s2 ⟨x,H2,I2,rx,a,ov,ex,g,q2⟩=>?_;subst ex;obtain rfl:u=Value.ref a:=rx;exact EJ hu I2 g ry fun s3 I3=>⟨.bl (!ov.isSome),H2,I3,rfl,q2⟩
theorem eW(hu:X.A.units+16<cLine)(ho:PE X o td)(hi:PE X i ty)(hv:PE X value tv)(hs:pb value (some (.Subscript o i pos')) pos.line X.env=pure false):
  PS X (.Assign [.Subscript o i pos'] value pos) (iJ td ty tv):=by
 intro J3 s σ H D I h;refine wpAny_Assign_Subscript (cr (hv J3 s σ H _ I h) fun r s1 ⟨v,H1,I1,rv,q1⟩=>cr (ho J3 s1 σ H1 _ I1 q1) fun u s2 ⟨x,H2,I2,rx,q2⟩=>cr (hi J3 s2 σ H2 _ I2 q2) fun iv s3 ⟨y,H3,I3,ry,a,H4,ex,g,q3⟩=>?_) hs;subst ex;obtain rfl:u=Value.ref a:=rx;exact Bz hu I3 g ry rv fun s4 I4=>⟨σ,H4,I4,q3⟩
end
theorem Di{P:bR}{w:World}{K:Za}{H:Hp}(h:Heap)(hb:gG<h.objs.size):cj P w K H (h.push { cls:=.type "dict",data:=.dict #[] }) h.objs.size (.dK []) :=
 ⟨dL _,beq_eq_false_iff_ne.mpr (gF (cR hb)),[],.nil,Heap.DictOf.new h⟩
theorem xx{P:bR}{w:World}{K:Za}{H:Hp}(h:Heap)(hb:gG<h.objs.size):cj P w K H (h.push { cls:=.type "dict",data:=.dict #[] }) h.objs.size (.dT []) :=
 ⟨dL _,beq_eq_false_iff_ne.mpr (gF (cR hb)),[],.nil,_,#[],0,c8 _ rfl,⟨rfl,rfl,rfl⟩,rfl,rfl,qq⟩
def ml:TE:=fun _ H Q=>∀p,H p=none->Q (.ref p) (upd H p (.dK []))
def mj:TE:=fun _ H Q=>∀p,H p=none->Q (.ref p) (upd H p (.dT []))
section
variable{X:Cx}{pos:Pos}
theorem ii:PE X (.Dict [] [] pos) ml:=fun J3 s σ H Q I h =>
 wpAny_Dict_empty ⟨.ref s.heap.objs.size,_,I.laid (a:=s.heap.objs.size) (o:=.dK []) (t':=s.toks) (fun _ _ q=>bC _ q) (aH _) (Di s.heap I.big),rfl,h _ (I.hok.fresh (aH _))⟩
theorem je:PE X (.Dict [] [] pos) mj:=fun J3 s σ H Q I h =>
 wpAny_Dict_empty ⟨.ref s.heap.objs.size,_,I.laid (a:=s.heap.objs.size) (o:=.dT []) (t':=s.toks) (fun _ _ q=>bC _ q) (aH _) (xx s.heap I.big),rfl,h _ (I.hok.fresh (aH _))⟩
end
def i0(kvs more:List (d6×V)):List (d6×V):=more.foldl (fun acc kv=>cX acc kv.1 kv.2) kvs
theorem KV.merge:∀{more:List (d6×V)}{rs:List (d6×Value)}{kvs:List (d6×V)}{vs:List (d6×Value)},KV more rs->KV kvs vs->KV (i0 kvs more) (merged vs rs):=by
 intro more rs kvs vs r;unfold KV at r
 induction r generalizing kvs vs with
 |nil=>intro q;exact q
 |@cons p q ps qs h t ih =>
  intro r0;have e:KV (cX kvs p.1 p.2) (stored vs q.1 q.2):=by
   have:=r0.put p.1 h.2;rw[<-h.1];exact this
  exact ih e
theorem lO:∀(more kvs:List (d6×V)),(i0 kvs more).length<=kvs.length+more.length
 |[],kvs=>by show kvs.length<=kvs.length+0;omega
 |p::r,kvs=>by
  have h1:=lO r (cX kvs p.1 p.2);have h2:=iN kvs p.1 p.2;show(i0 (cX kvs p.1 p.2) r).length<=_;rw[em];omega
structure M1(X:Cx)(o:Expr)(m:Str)(J5:Pos)(e:Expr)(J4:Pos):Prop where
 base:tw o m X.env (eval o X.env)=eval o X.env
 few:((backTo J4 (aQ [e] X.env)).all (fun x=>!x.1) && (jw J4 (jv [] X.env)).all (fun x=>x.1.isSome)
  && decide (([e]:List Expr).length+([]:List om).length+(if([]:List om).isEmpty then 0 else 1)<30))=true
 line:(J5.endLine==J4.line)=true
 trees:backTo J4 (aQ [e] X.env)=[(false,eval e X.env)]
structure M2(X:Cx)(o:Expr)(m:Str)(J5:Pos)(e f:Expr)(J4:Pos):Prop where
 base:tw o m X.env (eval o X.env)=eval o X.env
 few:((backTo J4 (aQ [e,f] X.env)).all (fun x=>!x.1) && (jw J4 (jv [] X.env)).all (fun x=>x.1.isSome)
  && decide (([e,f]:List Expr).length+([]:List om).length+(if([]:List om).isEmpty then 0 else 1)<30))=true
 line:(J5.endLine==J4.line)=true
 trees:backTo J4 (aQ [e,f] X.env)=[(false,eval e X.env),(false,eval f X.env)]
def GL(H:Hp)(a:Addr):Prop:=(∃kvs,Rd H a (.dK kvs))∨∃kvs,Rd H a (.dT kvs)
theorem C2{X:Cx}{J3:Zd}{σ:St}{H:Hp}{s:Shared}{a:Addr}(I:Inv X J3 σ H s)(d:GL H a):
  s.TypeIs (.ref a) "dict"/\(∀b,Value.ref a=.ref b->∃ob,s.heap.get? b=some ob/\ob.dict=none)/\(a==gG)=false:=by
 rcases d with⟨kvs,e⟩|⟨kvs,e⟩
 ·obtain⟨_,hd,vs,_,dd⟩:=nI I.hok e;refine⟨dd.typeIs,fun b q=>?_,hd⟩;cases q;obtain⟨ob,_,_,h1,h2,_⟩:=dd;exact⟨ob,h1,h2.2.1⟩
 ·obtain⟨_,hd,xs,_,dd⟩:=nG I.hok I.kIn e;refine⟨dd.typeIs,fun b q=>?_,hd⟩;cases q;obtain⟨ob,_,_,h1,h2,_⟩:=dd;exact⟨ob,h1,h2.2.1⟩
section
variable{X:Cx}{J3:Zd}{σ:St}{H:Hp}{s:Shared}{a:Addr}{y d:V}{u r:Value}{o:Option V}{A:Around}{E:Zc}
theorem FS{Q:Zc}(hu:A.units+16<cLine)(I:Inv X J3 σ H s)(g:kW X.K H a y o)(ry:RelV y u)(h:∀w' s',Inv X J3 σ H s'->RelV (o.getD .non) w'->Q w' s'):
  wpAny (model X.prog X.w) A (call (.builtin "dict.get") [.ref a,u]) Q E s:=by
 rcases g with⟨kvs,k,e,ey,l⟩|⟨kvs,k,b,e,ey,eb,e8,l⟩
 ·subst ey;obtain⟨z,hd,vs,rel,dd⟩:=nI I.hok e;refine qp oh dd.typeIs uM (PySem.F.args_dict_get_2 _ _) (meets_dict_get (bT X.prog X.w) a (jg ry) hd) ⟨_,dd.mapOf,h _ _ (I.tok _) ?_⟩;rw[l];exact(rel.val k).getD rfl
 ·subst ey;cases(show u=Value.ref b from ry);obtain⟨z,hd,xs,rel,dd⟩:=nG I.hok I.kIn e;refine qp oh dd.typeIs uM (PySem.F.args_dict_get_2 _ _) (meetsH_dict_get (c_ X.prog X.w) a b hd) ⟨fj hu,k,xs,rF I eb e8,dd,h _ _ (I.tok _) ?_⟩;rw[l];exact(rel.val k).getD rfl
theorem FR{Q:Zc}(hu:A.units+16<cLine)(I:Inv X J3 σ H s)(g:kW X.K H a y o)(ry:RelV y u)(rd:RelV d r)(h:∀w' s',Inv X J3 σ H s'->RelV (o.getD d) w'->Q w' s'):
  wpAny (model X.prog X.w) A (call (.builtin "dict.get") [.ref a,u,r]) Q E s:=by
 rcases g with⟨kvs,k,e,ey,l⟩|⟨kvs,k,b,e,ey,eb,e8,l⟩
 ·subst ey;obtain⟨z,hd,vs,rel,dd⟩:=nI I.hok e;refine qp oh dd.typeIs uM (PySem.F.args_dict_get_3 _ _ _) (meets_dict_get_default (bT X.prog X.w) a (jg ry) hd r) ⟨_,dd.mapOf,h _ _ (I.tok _) ?_⟩;rw[l];exact(rel.val k).getD rd
 ·subst ey;cases(show u=Value.ref b from ry);obtain⟨z,hd,xs,rel,dd⟩:=nG I.hok I.kIn e;refine qp oh dd.typeIs uM (PySem.F.args_dict_get_3 _ _ _) (meetsH_dict_get_default (c_ X.prog X.w) a b hd r) ⟨fj hu,k,xs,rF I eb e8,dd,h _ _ (I.tok _) ?_⟩;rw[l];exact(rel.val k).getD rd
end
def vi(K:Za)(td ty:TE):TE:=fun σ H Q=>td σ H fun x H1=>∃a,x=.ref a/\GL H1 a/\ty σ H1 fun y H2=>∃o,kW K H2 a y o/\Q (o.getD .non) H2
def qQ(K:Za)(td ty tx:TE):TE:=fun σ H Q=>td σ H fun x H1=>∃a,x=.ref a/\GL H1 a/\ty σ H1 fun y H2=>tx σ H2 fun z H3=>∃o,kW K H3 a y o/\Q (o.getD z) H3
section
variable{X:Cx}{o e f:Expr}{J5 J4:Pos}{td ty tx:TE}
theorem w8(hu:X.A.units+16<cLine)(ho:PE X o td)(he:PE X e ty)(m:M1 X o "get" J5 e J4):PE X (.Call (.Attribute o "get" J5) [e] [] J4) (vi X.K td ty):=by
 intro J3 s σ H Q I h;refine wpAny_Call_method m.base m.few m.line PySem.F.plainAttrs_dict oh PySem.F.type_dict_get (cr (ho J3 s σ H _ I h) fun u s1 ⟨x,H1,I1,rx,a,ex,d,q1⟩=>?_);subst ex;obtain rfl:u=Value.ref a:=rx;obtain⟨t1,t2,_⟩:=C2 I1 d;refine⟨t1,t2,?_⟩;rw[m.trees];refine uP rfl (Calls.evalArgs_plain (u2 (cr (he J3 s1 σ H1 _ I1 q1) fun iv s2 ⟨y,H2,I2,ry,ov,g,q2⟩=>Calls.spliced_nil ?_)));exact FS hu I2 g ry fun w' s3 I3 rw'=>⟨_,H2,I3,rw',q2⟩
theorem nA(hu:X.A.units+16<cLine)(ho:PE X o td)(he:PE X e ty)(hf:PE X f tx)(m:M2 X o "get" J5 e f J4):PE X (.Call (.Attribute o "get" J5) [e,f] [] J4) (qQ X.K td ty tx):=by
 intro J3 s σ H Q I h;refine wpAny_Call_method m.base m.few m.line PySem.F.plainAttrs_dict oh PySem.F.type_dict_get (cr (ho J3 s σ H _ I h) fun u s1 ⟨x,H1,I1,rx,a,ex,d,q1⟩=>?_);subst ex;obtain rfl:u=Value.ref a:=rx;obtain⟨t1,t2,_⟩:=C2 I1 d;refine⟨t1,t2,?_⟩;rw[m.trees];refine uP rfl (Calls.evalArgs_plain (u2 (cr (he J3 s1 σ H1 _ I1 q1) fun iv s2 ⟨y,H2,I2,ry,q2⟩ =>
  u2 (cr (hf J3 s2 σ H2 _ I2 q2) fun fv s3 ⟨z,H3,I3,rz,ov,g,q3⟩=>Calls.spliced_nil ?_))))
 exact FR hu I3 g ry rz fun w' s4 I4 rw'=>⟨_,H3,I4,rw',q3⟩
end
end L2
namespace Att
open PySem PySem.W PySem.Calls PyProof.Rows
theorem ints_of_wellAll{P:Params}{h:Heap}:∀(ns:List Int) (vs:Zf),WellAll P h vs (ns.map WData.int)->qo vs ns:=by
 intro ns
 induction ns with
 |nil =>
  intro vs w;rw[List.map_nil]at w;cases w;exact .nil
 |cons n ns ih =>
  intro vs w;rw[bI]at w;cases w with
  |cons a b =>
   cases a;exact .cons _ _ (ih _ b)
theorem script_of{l:OpenLaw}{n:Nat}(hn:l.most=some n){P:Params}{h:Heap}{args:List WData}{vals:Zf}
  (hpre:l.row.toRowW.claim.pre args=true) (hwl:WellAll P h vals args) :
  ∃a vs ns,vals=[Value.ref a]/\args=[WData.list (ns.map WData.int)]/\h.get? a=some { cls:=.type "list",data:=.seq vs.toArray }/\qo vs ns/\ns.length<=n:=by
 have hsh:WShape.hasAll [] args [.list .int]=true:=(pre_splitW hpre).1;have hc:l.pre.holds [] { args:=args }=true:=(pre_splitW hpre).2;obtain⟨d,r,rfl,h1,h2⟩:=hasAllW_cons hsh;obtain rfl:=hasAllW_nil h2;obtain⟨xs,rfl,h3⟩:=hasW_list h1;obtain⟨ns,rfl⟩:=items_int h3;have hlen:ns.length<=n:=by
  unfold OpenLaw.pre at hc;have h4:(WTm.not (.lt (.lit (.int (n:Int))) (.len (.arg 0)))).holds [] { args:=[.list (ns.map .int)] }=true:=by
   have h4:=(holds_andW hc).1;rw[hn]at h4;exact h4
  have h5:=condW_of h4 (w_not (w_lt w_lit (w_len_list (w_arg rfl))));rw[ai]at h5;refine Nat.le_of_not_lt fun q=>?_;have q':(n:Int)<((ns.length:Nat):Int):=by omega
  first
   | (rw[zzr1 q']at h5;exact absurd h5 (by decide))
   | (simp at h5;omega)
 cases hwl with
 |cons w1 w2 =>
  cases w2;cases w1 with
  |list ho hall=>exact⟨_,_,ns,rfl,rfl,ho,ints_of_wellAll ns _ hall,hlen⟩
theorem post_true(l:OpenLaw)(args:List WData):l.row.toRowW.claim.post args (.bool true) args=true :=
 postW_of (r:=l.row.toRowW) (X:=(true==true))
  (show WShape.has [] (.bool true) .bool=true by first|rfl|decide|simp[WShape.has,WShape.arms,WShape.armsAll])
  (show(WTm.eq .res (.lit (.bool true))).value [] { args:=args,res:=some (.bool true),after:=args }=some (.bool (true==true))from w_eq_bool (w_res rfl) w_lit) rfl
theorem attach_call{l:OpenLaw}{n:Nat}{q:bR}{loose:Zb}{XP:(Str->Option Value)->Heap->Prop}{YP:World->Heap->Prop}{d:DefRec}
  (hn:l.most=some n) (hdf:d.params.defaults=[])
  (call:∀(w:World) (s₀ s₁:Shared) (mg mb:Str->Option Value) (fa:Addr) (o:Obj) (pm cd doc:Value) (a:Addr) (vs:Zf) (ns:List Int),
   Ground q loose [] XP w s₀ mg mb s₁.heap->YP w s₁.heap ->
   s₁.heap.get? fa=some o->o.data=.func (docDef d.name d.params d.body d.scope pm cd doc)->s₁.heap.CodeRec cd d.name->mg d.name=some (.ref fa) ->
   s₁.heap.get? a=some { cls:=.type "list",data:=.seq vs.toArray }->qo vs ns->ns.length<=n->s₁.gens=#[] ->
   zzl90 (model l.prog w) kh (.call (.ref fa) ⟨[.ref a],[]⟩) (fun r s'=>r=.ok (.ret (.bool true))/\OldK s₁.heap s'.heap/\s'.os=s₁.os/\mT s'.gens) s₁) :
  WalkO q loose XP YP l.row.toRowW d [] (fun f vs=>PySem.call f vs):=by
 intro w s₀ s₁ mg mb G Y fa o pm cd doc dV kV ho hd hcd hD hmg hg args vals as hpre hlay hrd hwl hlo;obtain rfl:dV=.none:=Dflts.none hD hdf;obtain rfl:kV=.none:=Dflts.noKw hD;obtain⟨a,vs,ns,rfl,rfl,hobj,hints,hlen⟩:=script_of hn hpre hwl;refine enter_call (u1 (call w s₀ s₁ mg mb fa o pm cd doc a vs ns G Y ho (fd_plain hd) hcd hmg hobj hints hlen hg) fun r s' hq=>?_);obtain⟨rfl,h2,h3,h4⟩:=hq;exact⟨.inl ⟨.bool true,.bool true,[],rfl,fun _=>rfl,.bool true,post_true l _,fun _=>⟨List.Pairwise.nil,fun _ hm=>(nomatch hm)⟩⟩,h2,h3,h4⟩
end Att
namespace L2
open PySem PySem.Spec PyProof.Rows
theorem tH:∀{vs:Zf}{ns:List Int},qo vs ns->bg (ns.map V.int) vs
 |_,_,.nil=>.nil
 |_,_,.cons n t h=>.cons ⟨t,rfl⟩ (tH h)
def ET(H:Hp):Prop:=∀b,H b=none∨∃o xs,H b=some (.frz o (.lst xs))
theorem CY{P:bR}{w:World}{K:Za}{mg mb:Str->Option Value}{CX:BR}{k:Nat}{fa a:Addr}{fd:gA}{x:Str}{sp:Sp}{s₁:Shared}{vs:Zf}{ns:List Int}
  (KX:K.In s₁.heap) (hns:s₁.heap.Ns b_ mg) (hb:s₁.heap.Ns builtinsNs mb) (hbb:∀x:Str,x≠"__name__"->mb x=iF x) (hlim:s₁.heap.NoLimit) (hg:s₁.gens=#[])
  (ha:s₁.heap.get? a=some { cls:=.type "list",data:=.seq vs.toArray }) (hi:qo vs ns) (hl:ns.length<=ah) (hr:eL k kh)
  (F:∀base:Heap,K.In base->base.Ns b_ mg->kU P w K mg base CX k fa fd [x] sp) (hbind:∀(s:Shared) (u:Value),l6 s fd ⟨[u],[]⟩ [(x,u)])
  (hsp:∀H:Hp,ET H->aA K H a (ns.map V.int)->sp [.ref a] H (fun v _=>v=.bl true) fun _ _ _=>False)
  (hCX:∀H e s',CX [] H s₁ (fun _ _ _=>False) e s'->False) :
  zzl90 (model P w) kh (.call (.ref fa) ⟨[.ref a],[]⟩) (fun r s'=>r=.ok (.ret (.bool true))/\OldK s₁.heap s'.heap/\s'.os=s₁.os/\mT s'.gens) s₁:=by
 have rv:=tH hi;have lenV:=hi.length;have core:∀H:Hp,ET H->aA K H a (ns.map V.int)->lB P w K H s₁.heap->(∀b,H b≠none->b=a)->(H a≠none->K.lookup a=none) ->
   zzl90 (model P w) kh (.call (.ref fa) ⟨[.ref a],[]⟩) (fun r s'=>r=.ok (.ret (.bool true))/\OldK s₁.heap s'.heap/\s'.os=s₁.os/\mT s'.gens) s₁:=by
  intro H hO hS hok hA hK;have base_of:∀{b:Addr}{o:Obj},s₁.heap.get? b=some o->H b=none->(vL s₁.heap H).get? b=some o:=fun e n=>C6 e n;have noA:∀{b:Addr}{o:Obj}{es:Array jq}{ep:Nat},s₁.heap.get? b=some o->o.data=.dict es ep->H b=none:=fun{b o es ep} e d=>by
   cases q:H b with
   |none=>rfl
   |some u =>
    have e':b=a:=hA b (by rw[q];simp);subst e';rw[ha]at e;cases e;have d':Data.seq vs.toArray _=Data.dict es ep:=d;cases d'
  have nsK:∀{b:Addr}{m:Str->Option Value},s₁.heap.Ns b m->(vL s₁.heap H).Ns b m:=fun{b m} ⟨o,es,ep,e,d,r⟩=>⟨o,es,ep,base_of e (noA e d),d,r⟩;have hKb:K.In (vL s₁.heap H):=fun b o e=>base_of (KX b o e) (by
   cases q:H b with
   |none=>rfl
   |some u =>
    have e':b=a:=hA b (by rw[q];simp);subst e';rw[hK (by rw[q];simp)]at e;cases e)
  have hM:Mod K mg (vL s₁.heap H):=⟨hKb,nsK hns,⟨mb,nsK hb,hbb⟩,let⟨mc,h1,h2⟩:=hlim;⟨mc,nsK h1,h2⟩⟩;have e0:zB P w K mg (vL s₁.heap H) kh [] s₁ H:=⟨rfl,hM,fun b o e=>EA e,Nat.le_of_eq (Bt _ _),trivial,fun b hb=>absurd (show b∈([]:Ze)from hb) (by simp),hok,.of_eq hg⟩;refine u1 ((F _ hKb (nsK hns)).run kh [] s₁ H ⟨[.ref a],[]⟩ [.ref a] [.ref a] _ _ hr e0 (hbind s₁ (.ref a)) (.cons rfl .nil) (hsp H hO hS)) fun r s' h=>?_;cases r with
  |error e=>exact(hCX H e s' h).elim
  |ok fl =>
   cases fl with
   |next=>exact i9 h
   |brk=>exact i9 h
   |cont=>exact i9 h
   |ret u =>
    obtain⟨v,H',os,bare,un,hok',r',q⟩:=h;have q':v=.bl true:=q;subst q';obtain rfl:u=Value.bool true:=r';refine⟨rfl,OldK.of_keep fun b o e=>?_,os,bare⟩;cases q:H b with
    |none=>exact un.keep b o e q (by intro z;exact absurd (show b∈([]:Ze)from z) (by simp)) (by simp)
    |some u =>
     rcases hO b with z|⟨ob,xs,z⟩
     ·rw[q]at z;cases z
     ·have z2:=un.frzs b ob _ z;obtain⟨e1,_⟩:=hok b _ z;obtain⟨e2,_⟩:=hok' b _ z2;rw[e]at e1;cases e1;exact e2
 cases hk:K.lookup a with
 |some o =>
  have e:=KX a o hk;rw[ha]at e;cases e;refine core (fun _=>none) (fun _=>.inl rfl) (.inr ⟨_,vs.toArray,_,hk,rfl,rfl,rfl,by rw[bE,lenV];exact hl,by simpa using rv⟩) (fun b u z=>by have z':(none:Option HO)=some u:=z;cases z') (fun b z=>absurd rfl z) fun z=>absurd rfl z
 |none =>
  refine core (fun b=>if b=a then some (.frz { cls:=.type "list",data:=.seq vs.toArray } (.lst (ns.map V.int)))else none) (fun b=>?_) (.inl (.inr ⟨{ cls:=.type "list",data:=.seq vs.toArray },if_pos rfl⟩)) (fun b u z=>?_) (fun b z=>?_) fun _=>hk
  ·by_cases hb:b=a
   ·exact .inr ⟨_,_,if_pos hb⟩
   ·exact .inl (if_neg hb)
  ·by_cases hb:b=a
   ·have z':=(if_pos hb).symm.trans z;cases z';subst hb;exact⟨ha,by rw[ai];exact hl,vs,_,rv,ha⟩
   ·have z':=(if_neg hb).symm.trans z;cases z'
  ·by_cases hb:b=a
   ·exact hb
   ·exact absurd (if_neg hb) z
end L2
namespace L2
open PySem PySem.Spec PyProof.Rows
theorem DM{l:PySem.W.OpenLaw}{n k:Nat}{q:bR}{loose:Zb}{XP:(Str->Option Value)->Heap->Prop}{YP:World->Heap->Prop}{d:DefRec}{K:Params->Za}{CX:World->BR}{sp:World->Sp}{x:Str}
  (hn:l.most=some n) (hn2:n<=ah) (hdf:d.params.defaults=[]) (hr:eL k kh)
  (hY:∀(w:World) (h:Heap),YP w h->(K w.params).In h)
  (F:∀(w:World) (mg:Str->Option Value) (fa:Addr) (h:Heap),(K w.params).In h->h.Ns b_ mg->mg d.name=some (.ref fa) ->
   ∃fd:gA,(∀(s:Shared) (u:Value),l6 s fd ⟨[u],[]⟩ [(x,u)]) /\
    ∀base:Heap,(K w.params).In base->base.Ns b_ mg->kU l.prog w (K w.params) mg base (CX w) k fa fd [x] (sp w))
  (hsp:∀(w:World) (H:Hp) (a:Addr) (ns:List Int),ns.length<=n->ET H->aA (K w.params) H a (ns.map V.int)->sp w [.ref a] H (fun v _=>v=.bl true) fun _ _ _=>False)
  (hCX:∀(w:World) (H:Hp) (s:Shared) (e:Value) (s':Shared),CX w [] H s (fun _ _ _=>False) e s'->False) :
  PySem.W.WalkO q loose XP YP l.row.toRowW d [] (fun f vs=>PySem.call f vs):=by
 refine Att.attach_call hn hdf fun w s₀ s₁ mg mb fa o pm cd doc a vs ns G Y ho hd hcd hmg hobj hints hlen hg=>?_;have KX:=hY w _ Y;obtain⟨fd,hb,hF⟩:=F w mg fa _ KX G.T.g hmg;exact CY KX G.T.g G.T.b G.T.builtins G.T.nolimit hg hobj hints (bh hlen hn2) hr hF hb (fun H hO hS=>hsp w H a ns hlen hO hS) fun H e s'=>hCX w H s₁ e s'
theorem walk_ofK{l:PySem.W.OpenLaw}{n k:Nat}{q:bR}{loose:Zb}{XP:(Str->Option Value)->Heap->Prop}{YP:World->Heap->Prop}{d:DefRec}{K:Params->Za}{CX:BR}{sp:Za->Sp}{x:Str}
  (hn:l.most=some n) (hn2:n<=ah) (hdf:d.params.defaults=[]) (hr:eL k kh)
  (hY:∀(w:World) (h:Heap),YP w h->(K w.params).In h)
  (F:∀(w:World) (mg:Str->Option Value) (fa:Addr) (h:Heap),(K w.params).In h->h.Ns b_ mg->mg d.name=some (.ref fa) ->
   ∃fd:gA,(∀(s:Shared) (u:Value),l6 s fd ⟨[u],[]⟩ [(x,u)]) /\
    ∀base:Heap,(K w.params).In base->base.Ns b_ mg->kU l.prog w (K w.params) mg base CX k fa fd [x] (sp (K w.params)))
  (hsp:∀(K:Za) (H:Hp) (a:Addr) (ns:List Int),ns.length<=n->ET H->aA K H a (ns.map V.int)->sp K [.ref a] H (fun v _=>v=.bl true) fun _ _ _=>False)
  (hCX:∀(H:Hp) (s:Shared) (e:Value) (s':Shared),CX [] H s (fun _ _ _=>False) e s'->False) :
  PySem.W.WalkO q loose XP YP l.row.toRowW d [] (fun f vs=>PySem.call f vs) :=
 DM (K:=K) (CX:=fun _=>CX) (sp:=fun w=>sp (K w.params)) hn hn2 hdf hr hY F (fun w H a ns h1 h2 h3=>hsp (K w.params) H a ns h1 h2 h3) fun _ H s e s'=>hCX H s e s'
end L2
namespace L2
open PySem PySem.Spec PyProof.Rows
def iP(s:Stmt)(j:Nat):Stmt:=match s with
 |.ClassDef _ _ _ body _ _ _ _ _ _ _=>body.getD j (.Pass ⟨0,0,0,0⟩)
 |_=>.Pass ⟨0,0,0,0⟩
def gR(s:Stmt):Arguments:=match s with
 |.FunctionDef _ a _ _ _ _ _ _ _ _=>a
 |_=>{ posonlyargs:=[],args:=[],vararg:=none,kwonlyargs:=[],kw_defaults:=[],kwarg:=none,defaults:=[] }
def fH(s:Stmt):List Stmt:=match s with
 |.FunctionDef _ _ b _ _ _ _ _ _ _=>b
 |_=>[]
def b9(s:Stmt):Scope:=match s with
 |.FunctionDef _ _ _ _ _ _ sc _ _ _=>sc
 |_=>{ kind:=.function,names:=[],isGenerator:=false,isCoroutine:=false }
abbrev CX0:BR:=fun _ _ _ _ _ _=>False
abbrev E0:XK:=fun _ _ _=>False
abbrev aM(sp:Sp)(a:TA):TE:=E_ sp [] E0 a
theorem Ae{X:Cx}:mB CX0 X E0:=fun _ _ _ _ _ _ _ h=>h.elim
structure Gd(K:Za)(x qual:Str)(st:Stmt)(f:Addr)(fd:gA):Prop where
 ex:∃(oc:Value) (od:Option Addr) (kV doc pm:Value) (an:Option Addr) (cdv ct:Value) (osl:Array (Option Value)),
  fd=ib x qual (gR st) (fH st) (b9 st) .none kV doc pm an cdv ct/\K.lookup f=some ⟨oc,od,.func fd,osl⟩/\l5 K cdv qual=true
 kp:i8 K (.ref f)=true
section
variable{P:bR}{w:World}{K:Za}{mg:Str->Option Value}{base:Heap}
theorem Gd.ok{x qual:Str}{st:Stmt}{f:Addr}{fd:gA}{N ps:Zb}{k:Nat}{sp:Sp}(F:Gd K x qual st f fd)(S:jN N ps (b9 st))(len:∀vs H Q E,sp vs H Q E->vs.length=ps.length)
  (hbody:∀(cdv:Value) (A:Around) (outer:List Env) (s:Shared) (H:Hp) (vs:List V) (Q:VK) (E:XK),eL k (A.deeper (envOfC qual (b9 st) s.heap.objs.size f cdv))->sp vs H Q E ->
   ∃t,xP (yX CX0 P w K mg base N qual (b9 st) f cdv A outer s H E).nox (fH st) t/\t (bJ Q) (start N vs) H):kU P w K mg base CX0 (k+1) f fd ps sp:=by
 obtain⟨oc,od,kV,doc,pm,an,cdv,ct,osl,rfl,lk,hcd⟩:=F.ex;refine Gy lk hcd S len fun A outer s H vs Q E hr hsp=>?_;obtain⟨t,h,q⟩:=hbody cdv A outer s H vs Q E hr hsp;exact⟨t,h.nox,q⟩
theorem Gd.binds{x qual:Str}{st:Stmt}{f:Addr}{fd:gA}{ps:Zb}(F:Gd K x qual st f fd)
  (h:∀(kV doc pm:Value) (an:Option Addr) (cdv ct:Value) (us:Zf),us.length=ps.length->bindArgs (ib x qual (gR st) (fH st) (b9 st) .none kV doc pm an cdv ct) ⟨us,[]⟩=pure (ps.zip us)):Binds K fd ps []:=by
 obtain⟨oc,od,kV,doc,pm,an,cdv,ct,osl,rfl,lk,hcd⟩:=F.ex;exact .all (h kV doc pm an cdv ct)
theorem C_{x qual:Str}{st:Stmt}{f:Addr}{oc:Value}{od an:Option Addr}{osl:Array (Option Value)}{kV doc pm cdv ct:Value}(l:K.lookup f=some ⟨oc,od,.func (ib x qual (gR st) (fH st) (b9 st) .none kV doc pm an cdv ct),osl⟩)
  (c:l5 K cdv qual=true) (k:i8 K (.ref f)=true):Gd K x qual st f (ib x qual (gR st) (fH st) (b9 st) .none kV doc pm an cdv ct):=⟨⟨oc,od,kV,doc,pm,an,cdv,ct,osl,rfl,l,c⟩,k⟩
end
theorem Ar{A:Around}{k:Nat}(hr:eL k A):A.units+16<cLine:=Nat.lt_of_le_of_lt (Nat.add_le_add_left (by decide:16<=64) _) hr.units
theorem aw{n:Nat}(h:n<=1000):n<ah:=Nat.lt_of_le_of_lt h (by decide)
section
variable{X:Cx}
theorem pv(i:Nat){x:Str}{pos:Pos}(hN:X.N[i]?=some x:=by rfl)(hv:Vis X.env.scope x:=by first|exact Or.inl rfl|exact Or.inr (Or.inl rfl)|exact Or.inr (Or.inr rfl))(hd:(x==("__debug__":Str))=false:=by decide)
  (hcd:(x==("__classdict__":Str))=false:=by decide):PE X (.Name x pos) (cL i):=FC hN hv hd hcd
end
theorem bv{A B:Prop}(h:B):if false=true then A else B:=by
 rw[if_neg fR];exact h
theorem b0{A B:Prop}(h:A):if true=true then A else B:=by
 rw[if_pos rfl];exact h
theorem gP{c A B:Prop}[Decidable c](h1:c->A)(h2:¬c->B):if c then A else B:=by
 by_cases h:c
 ·rw[if_pos h];exact h1 h
 ·rw[if_neg h];exact h2 h
def ab(H H':Hp):Prop:=∀b o,H b=some o->H' b=some o
theorem ab.refl(H:Hp):ab H H:=fun _ _ h=>h
theorem ab.trans{H H1 H2:Hp}(a:ab H H1)(b:ab H1 H2):ab H H2:=fun c o h=>b c o (a c o h)
theorem ab.free{H H':Hp}(e:ab H H'){l:Addr}(h:H' l=Option.none):H l=Option.none:=by
 cases q:H l with
 |none=>rfl
 |some o =>
  rw[e l o q]at h;cases h
theorem ab.seq{K:Za}{H H':Hp}{a:Addr}{xs:List V}(e:ab H H')(h:aA K H a xs):aA K H' a xs:=by
 rcases h with(h|⟨o,h⟩)|h
 ·exact .inl (.inl (e _ _ h))
 ·exact .inl (.inr ⟨o,e _ _ h⟩)
 ·exact .inr h
section
variable{prog:bR}{w:World}{A:Around}{R:Result->Shared->Prop}{s:Shared}
abbrev XF:Value->Shared->Prop:=fun _ _=>False
abbrev yQ(ifs:List Expr)(env:Env):Sem Bool:=forIn ifs true fun c r=>if r=true then do let ok <- isTrue c env (eval c env);pure (uL ok)else pure (uL r)
theorem vP{elt target iter:Expr}{ifs:List Expr}{scope:Scope}{pos:Pos}{it acc:Value}{env:Env}(I:Nat->Shared->Prop)
  (turn:∀n s,I n s->wpAny (model prog w) A (pyNext it) (fun r s₁=>match r with
   |none=>R (.ok .next) s₁
   |some v=>wpAny (model prog w) A (zI target it v) (fun _ s₁'=>wpAny (model prog w) A (assign target env v) (fun _ s₂ =>
     wpAny (model prog w) A (yQ ifs env) (fun ok s₃ =>
      if ok=true then wpAny (model prog w) A (eval elt env) (fun x s₄ =>
       wpAny (model prog w) A (call (.builtin "list.append") [acc,x]) (fun _ s₅=>∃m,m<n/\I m s₅) XF s₄) XF s₃
      else ∃m,m<n/\I m s₃) XF s₂) XF s₁') XF s₁) XF s)
  (n:Nat) (h:I n s):zzl90 (model prog w) A (.compLoop (.ListComp elt [⟨target,iter,ifs,0⟩] scope pos) 0 it acc env) R s:=by
 refine codeAny_loop rfl I (fun n s hI=>?_) n h;show wpAny _ A ((compTurn (.ListComp elt [⟨target,iter,ifs,0⟩] scope pos) 0 it acc env).onRaise (fun x=>do noteFrame x env;theTreesLotGoes x)) _ _ s
 refine wpAny_noted ?_;rw[compTurn_list];refine ak (zJ (ak (iD (turn n s hI) (fun r s₁ h₁=>?_) fun _ _ h'=>h'.elim)));cases r with
 |none=>exact ao h₁
 |some v =>
  refine ak (iD h₁ (fun _ s₁' h₁'=>?_) fun _ _ h'=>h'.elim);refine ak (iD h₁' (fun _ s₂ h₂=>ak (iD h₂ (fun ok s₃ h₃=>?_) fun _ _ h'=>h'.elim)) fun _ _ h'=>h'.elim);cases ok with
  |false=>exact ao ⟨rfl,h₃⟩
  |true =>
   exact ak (ak (iD h₃ (fun x s₄ h₄=>ak (iD h₄ (fun _ s₅ h₅=>ao (ao ⟨rfl,h₅⟩)) fun _ _ h'=>h'.elim)) fun _ _ h'=>h'.elim))
end
theorem my{env:Env}:∀(names:List (Str×fV)) (cs0:List (Str×Addr)),(∀y∈names,y.2=.free->∃c,env.cells.lookup y.1=some c)->(∀x c,cs0.lookup x=some c->env.cells.lookup x=some c) ->
  ∃cs:List (Str×Addr),(forIn names cs0 fun(x:Str×fV) (r:List (Str×Addr))=>if(x.2==kg)=true then(cellOf env x.1 >>= fun c=>(pure (uL ((x.1,c)::r)):Sem (ForInStep (List (Str×Addr)))))else pure (uL r))=pure cs /\
   (∀x c,cs.lookup x=some c->env.cells.lookup x=some c)/\(∀x,(cs0.lookup x).isSome=true->(cs.lookup x).isSome=true)/\∀y∈names,y.2=.free->(cs.lookup y.1).isSome=true
 |[],cs0,_,h0=>⟨cs0,rfl,h0,fun _ h=>h,fun _ h=>nomatch h⟩
 | (n,k)::r,cs0,has,h0=>by
  have hr:∀y∈r,y.2=.free->∃c,env.cells.lookup y.1=some c:=fun y hy=>has y (fw _ hy);by_cases hk:k=.free
  ·subst hk;obtain⟨c,hc⟩:=has (n,.free) fx rfl;obtain⟨cs,e,p1,p2,p3⟩:=my r ((n,c)::cs0) hr (fun x d hd=>by
    rw[ia]at hd;cases hx:x==n with
    |true =>
     rw[hx]at hd;have:x=n:=by simpa using hx
     subst this;cases hd;exact hc
    |false=>rw[hx]at hd;exact h0 x d hd)
   have hself:(((n,c)::cs0).lookup n).isSome=true:=by rw[ia,beq_self_eq_true];rfl
   have hmono:∀x,(cs0.lookup x).isSome=true->(((n,c)::cs0).lookup x).isSome=true:=fun x hx=>by
    rw[ia];cases x==n with
    |true=>rfl
    |false=>exact hx
   refine⟨cs,?_,p1,fun x hx=>p2 x (hmono x hx),fun y hy hf=>?_⟩
   ·rw[og];have hcell:cellOf env n=pure c:=by unfold cellOf;rw[hc]
    simp only[beq_self_eq_true,if_true,hcell];exact e
   ·rcases cv.mp hy with rfl|hy
    ·exact p2 _ hself
    ·exact p3 y hy hf
  ·obtain⟨cs,e,p1,p2,p3⟩:=my r cs0 hr h0;refine⟨cs,?_,p1,p2,fun y hy hf=>?_⟩
   ·rw[og];have hb:(k==kg)=false:=by simpa using hk
    simp only[hb,kb,if_false];exact e
   ·rcases cv.mp hy with rfl|hy
    ·exact absurd hf hk
    ·exact p3 y hy hf
theorem rQ{env:Env}{scope:Scope}(has:∀y∈scope.names,y.2=.free->∃c,env.cells.lookup y.1=some c):
  ∃cs:List (Str×Addr),closureFor scope env=pure cs/\(∀x c,cs.lookup x=some c->env.cells.lookup x=some c)/\∀y∈scope.names,y.2=.free->(cs.lookup y.1).isSome=true:=by
 obtain⟨cs,e,p1,_,p3⟩:=my (env:=env) scope.names [] has (fun _ _ h=>nomatch h);refine⟨cs,?_,p1,p3⟩;unfold closureFor
 first
  |exact e
  | (simp only[bind_pure];exact e)
  | (rw[show(forIn scope.names [] _:Sem (List (Str×Addr)))=pure cs from e];rfl)
def dH(X:Cx)(N:Zb)(scope:Scope)(C:Addr)(cl:List (Str×Addr))(s₀:Shared)(H₀:Hp)(ex:Ze)(pn:Zd):Cx where
 prog:=X.prog
 w:=X.w
 K:=X.K
 mg:=X.mg
 base:=X.base
 A:=X.A
 N:=N
 s₀:=s₀
 H₀:=H₀
 env:=compEnvC scope cl C X.env
 outer:=X.stack
 stack:=X.stack
 ex:=ex
 fn:=fun _=>false
 calm:=X.calm
 pn:=pn
 xe:=XF
def lr(sc scope:Scope)(k:Nat)(N XN:Zb)(fi:List Nat):Bool :=
 decide (scope.kind=.function) &&
 (scope.names.all fun y=>decide (y.2≠.cell) && (decide (y.2≠.local) || decide (scope.names.lookup y.1=some .local)) && (decide (y.2≠.free) || decide (sc.names.lookup y.1=some .cell) || decide (sc.names.lookup y.1=some .free))) &&
 decide (N.length=k+fi.length) &&
 ((hJ fi.length).all fun j=>match fi[j]? with
  |some i=>match N[k+j]?,XN[i]? with
   |some x,some y=>decide (x=y) && decide (scope.names.lookup x=some .free)
   |_,_=>false
  |none=>false)
structure mL(sc scope:Scope)(k:Nat)(N XN:Zb)(fi:List Nat):Prop where
 kind:scope.kind=.function
 cell:∀y∈scope.names,y.2≠.cell
 nm:∀y∈scope.names,y.2=.local->scope.names.lookup y.1=some .local
 fr:∀y∈scope.names,y.2=.free->sc.names.lookup y.1=some .cell∨sc.names.lookup y.1=some .free
 len:N.length=k+fi.length
 sl:∀j i,fi[j]?=some i->∃x,N[k+j]?=some x/\XN[i]?=some x/\scope.names.lookup x=some .free
theorem mL.of{sc scope:Scope}{k:Nat}{N XN:Zb}{fi:List Nat}(h:lr sc scope k N XN fi=true):mL sc scope k N XN fi:=by
 unfold lr at h;simp only[lZ,uK,Bool.or_eq_true,decide_eq_true_eq]at h;obtain⟨⟨⟨h1,h2⟩,h3⟩,h4⟩:=h;refine⟨h1,fun y hy=>(h2 y hy).1.1,fun y hy e=>((h2 y hy).1.2).resolve_left fun z=>z e,fun y hy e=>?_,h3,fun j i e=>?_⟩
 ·rcases(h2 y hy).2 with(z|z)|z
  ·exact absurd e z
  ·exact .inl z
  ·exact .inr z
 ·have hj:j<fi.length:=(cE.mp e).1;have q:=h4 j (List.mem_range.mpr hj);rw[e]at q;dsimp only at q;cases a:N[k+j]? with
  |none=>rw[a]at q;cases q
  |some x =>
   cases b:XN[i]? with
   |none=>rw[a,b]at q;cases q
   |some y =>
    rw[a,b]at q;simp only[lZ,decide_eq_true_eq]at q;exact⟨x,rfl,by rw[q.1],q.2⟩
theorem gH{env:Env}:∀{names:List (Str×fV)}{x:Str},names.lookup x=some .free ->
  (names.map fun(n,k)=>if(k==kg && env.scope.kind==.function && env.kindOf n==some .cell)then(n,fV.cell)else(n,k)).lookup x=some .cell ∨
  (names.map fun(n,k)=>if(k==kg && env.scope.kind==.function && env.kindOf n==some .cell)then(n,fV.cell)else(n,k)).lookup x=some .free
 |[],_,h=>by simp at h
 | (n,k)::r,x,h=>by
  have ih:=@gH env r x;simp only[bI];cases hx:x==n with
  |true =>
   simp only[ia,hx]at h;cases h;by_cases hc:(kg==kg && env.scope.kind==.function && env.kindOf n==some .cell)=true
   ·left;rw[if_pos hc];simp[ia,hx]
   ·right;rw[if_neg hc];simp[ia,hx]
  |false =>
   simp only[ia,hx]at h;by_cases hc:(k==kg && env.scope.kind==.function && env.kindOf n==some .cell)=true
   ·rw[if_pos hc];simp only[ia,hx];exact ih h
   ·rw[if_neg hc];simp only[ia,hx];exact ih h
def d4(k:Nat)(fi:List Nat)(σ:St):St:=List.replicate k none++fi.map fun i=>(σ[i]?).join
theorem y2(k:Nat)(fi:List Nat)(σ:St):(d4 k fi σ).length=k+fi.length:=by simp[d4]
theorem rP{k:Nat}{fi:List Nat}{σ:St}{i:Nat}{v:V}(h:(d4 k fi σ)[i]?=some (some v)):∃j t,i=k+j/\fi[j]?=some t/\σ[t]?=some (some v):=by
 unfold d4 at h;by_cases hi:i<k
 ·rw[qw (by simpa using hi),List.getElem?_replicate_of_lt hi]at h;cases h
 ·rw[List.getElem?_append_right (by simp;omega),List.length_replicate,cO]at h;refine⟨i-k,?_⟩;cases e:fi[i-k]? with
  |none=>rw[e]at h;cases h
  |some t =>
   rw[e]at h;simp only[qr]at h;refine⟨t,by omega,rfl,?_⟩;have h':=ef h;cases e2:σ[t]? with
   |none=>rw[e2]at h';cases h'
   |some o=>rw[e2]at h';simp only[Option.join]at h';first|(rw[h'])|(subst h';rfl)|(simpa using h')
def xH(k:Nat)(g:TG):Prop:=∀x σ H Q,g x σ H Q->g x σ H fun σ2 H2=>Q σ2 H2/\σ2.length=σ.length/\∀i,k<=i->σ2[i]?=σ[i]?
def AJ(k:Nat)(g:BP):Prop:=∀x σ H Q,g x σ H Q->g x σ H fun σ2 H2=>Q σ2 H2/\σ2.length=σ.length/\∀i,k<=i->σ2[i]?=σ[i]?
theorem bw{k i:Nat}(h:i<k):xH k (ei i):=fun x σ H Q q=>⟨q,by simp,fun j hj=>by rw[List.getElem?_set_ne (by omega)]⟩
theorem CJ{k:Nat}:AJ k f6:=fun x σ H Q ⟨e,q⟩=>⟨e,q,rfl,fun _ _=>rfl⟩
def Dz(g:TG):Prop:=∀x σ H Q Q',(∀σ2 H2,Q σ2 H2->Q' σ2 H2)->g x σ H Q->g x σ H Q'
def we(g:BP):Prop:=∀x σ H Q Q',(∀σ2 H2,Q σ2 H2->Q' σ2 H2)->g x σ H Q->g x σ H Q'
theorem g_{i:Nat}:Dz (ei i):=fun _ _ _ _ _ f q=>f _ _ q
theorem oN:we f6:=fun _ _ _ _ _ f ⟨e,q⟩=>⟨e,f _ _ q⟩
theorem mr{g:TG}{u:BP}(h1:Dz g)(h2:we u):we (bc g u):=fun _ _ _ _ _ f ⟨v,r,e,q⟩=>⟨v,r,e,h1 _ _ _ _ _ (fun _ _ q=>h2 _ _ _ _ _ f q) q⟩
theorem oK{k:Nat}{g:TG}{u:BP}(h1:xH k g)(m1:Dz g)(h2:AJ k u)(m2:we u):AJ k (bc g u):=fun x σ H Q ⟨v,r,e,q⟩ =>
 ⟨v,r,e,m1 _ _ _ _ _ (fun σ2 H2 ⟨q,l,s⟩=>m2 _ _ _ _ _ (fun σ3 H3 ⟨q',l',s'⟩=>⟨q',l'.trans l,fun i hi=>(s' i hi).trans (s i hi)⟩) (h2 _ _ _ _ q)) (h1 _ _ _ _ q)⟩
theorem Ex{K:Za}{k n:Nat}{t:BP}(h:AJ k t):xH k (gw K n t):=fun x σ H Q ⟨a,xs,e,hs,hl,q⟩=>⟨a,xs,e,hs,hl,h _ _ _ _ q⟩
def Fo(X:Cx)(ifs:List Expr)(t:TT):Prop :=
 ∀(J3:Zd) (s:Shared) (σ:St) (H:Hp) (Q:Bool->Hp->Prop),Inv X J3 σ H s->t σ H Q->wpAny (model X.prog X.w) X.A (yQ ifs X.env) (TP X J3 σ Q) X.xe s
def kA:TT:=fun _ H Q=>Q true H
theorem dQ{X:Cx}:Fo X [] kA:=fun J3 s σ H Q I h=>ao ⟨H,I,h⟩
theorem eJ{X:Cx}{c:Expr}{t:TT}(h:PT X c t):Fo X [c] t:=by
 intro J3 s σ H Q I hw;unfold yQ;rw[og];simp only[if_true];refine ak (ak (cr (h J3 s σ H Q I hw) fun b s1 q=>ao ?_));exact ao q
def cN(k:Nat)(fi:List Nat)(wi:TI)(g:TG)(tc:TT)(te:TE):TE:=fun σ H Q=>wi σ H fun J H1=>∀l,H1 l=none->∃W:Nat->Nat->List V->Hp->Prop,(∃m,W 0 m [] (upd H1 l (.lst [])))/\∀i m vs H2,W i m vs H2->H2 l=some (.lst vs) /\
 ((J.stop i H2/\Q (.ref l) H2)∨(J.go i H2/\∀x H3,J.yld i H2 x H3->g x (d4 k fi σ) H3 fun σ2 H4=>tc σ2 H4 fun b H5 =>
  if b=true then te σ2 H5 fun v H6=>H6 l=some (.lst vs)/\vs.length<ah/\∃m',m'<m/\W (i+1) m' (vs++[v]) (upd H6 l (.lst (vs++[v])))else ∃m',m'<m/\W (i+1) m' vs H5))
section
variable{X:Cx}{J3:Zd}{σ:St}
theorem EM{k:Nat}{N:Zb}{scope:Scope}{fi:List Nat}{H:Hp}{s:Shared}{cl:List (Str×Addr)}{fp:Ze}(S:mL X.env.scope scope k N X.N fi)(I:Inv X J3 σ H s)
  (hcl:∀x c,cl.lookup x=some c->X.env.cells.lookup x=some c) (hcf:∀y∈scope.names,y.2=.free->(cl.lookup y.1).isSome=true) (hf:∀b∈fp,mJ X J3 H b) (hlt:∀b∈fp,b<s.heap.objs.size) :
  (dH X N scope s.heap.objs.size cl s H fp (X.pn++J3)).Ok where
 mod:=I.ok.mod
 kind:=S.kind
 glob:=I.ok.glob
 blt:=I.ok.blt
 above:=aH _
 inj:=fun x y c e1 e2=>I.ok.inj x y c (hcl x c e1) (hcl y c e2)
 has:=fun x h=>by
  have key:∃y∈scope.names,y.1=x/\y.2=.free:=by
   have h':(relabel scope X.env).names.lookup x=some .cell∨(relabel scope X.env).names.lookup x=some .free:=h;have mem:∀(l:List (Str×fV)) (kd:fV),l.lookup x=some kd->(x,kd)∈l:=by
    intro l
    induction l with
    |nil=>intro kd e;cases e
    |cons a r ih =>
     intro kd e;obtain⟨n,k'⟩:=a;rw[ia]at e;cases hx:x==n with
     |true =>
      rw[hx]at e;have:x=n:=by simpa using hx
      subst this;cases e;exact fx
     |false=>rw[hx]at e;exact fw _ (ih kd e)
   have back:∀kd,(x,kd)∈(relabel scope X.env).names->kd=.cell∨kd=.free->∃y∈scope.names,y.1=x/\y.2=.free:=by
    intro kd hm hk;obtain⟨⟨n,k'⟩,hy,e⟩:=aX.mp hm;dsimp only at e;by_cases hc:(k'==kg && X.env.scope.kind==.function && X.env.kindOf n==some .cell)=true
    ·have hk':k'=.free:=by
      simp only[lZ]at hc;simpa using hc.1.1
     rw[if_pos hc]at e;cases e;exact⟨_,hy,rfl,hk'⟩
    ·rw[if_neg hc]at e;cases e;rcases hk with rfl|rfl
     ·exact absurd rfl (S.cell _ hy)
     ·exact⟨_,hy,rfl,rfl⟩
   rcases h' with h'|h'
   ·exact back _ (mem _ _ h') (.inl rfl)
   ·exact back _ (mem _ _ h') (.inr rfl)
  obtain⟨y,hy,rfl,hk⟩:=key;exact uY.mp (hcf y hy hk)
 cab:=fun x c h=>by cases h
 hd:=I.ok.hd
 frames:=I.ok.frames
 stk:=.inl rfl
 exf:=fun b hb=>⟨cR (hlt b hb),fun x c e=>(hf b hb).2.2.2.2.1 x c (hcl x c e)⟩
 bs:=I.bs
 bsz:=bh I.ok.bsz I.sz
 noex:=fun b o e hb=>by
  rcases(hf b hb).2.2.2.1 with z|z
  ·exact I.ok.noex b o e z
  ·exact absurd (hU (bo (I.ok.bs b o e).1) z) (pd _)
 exfs:=fun b hb z=>by
  obtain⟨_,f1,f2,_⟩:=hf b hb;rcases cv.mp (I.stkSub b z)with q|q
  ·exact f1 q
  ·exact f2 q
 funs:=I.stack
 frf:=I.stkFree
theorem Dr{k:Nat}{N:Zb}{scope:Scope}{fi:List Nat}{H:Hp}{s:Shared}{cl:List (Str×Addr)}{fp:Ze}{h₁:Heap}{t':Nat}{m:Str->Option Value}(S:mL X.env.scope scope k N X.N fi)(I:Inv X J3 σ H s)
  (hcl:∀x c,cl.lookup x=some c->X.env.cells.lookup x=some c) (hcf:∀y∈scope.names,y.2=.free->(cl.lookup y.1).isSome=true) (hf:∀b∈fp,mJ X J3 H b) (hlt:∀b∈fp,b<s.heap.objs.size)
  (hn:h₁.Ns s.heap.objs.size m) (old:∀b o,s.heap.get? b=some o->h₁.get? b=some o) :
  Inv (dH X N scope s.heap.objs.size cl s H fp (X.pn++J3)) [] (d4 k fi σ) H { s with heap:=h₁,toks:=t' }:=by
 have memOf:∀(l:List (Str×fV)) (x:Str) (kd:fV),l.lookup x=some kd->(x,kd)∈l:=by
  intro l
  induction l with
  |nil=>intro x kd e;cases e
  |cons a r ih =>
   intro x kd e;obtain⟨n,k'⟩:=a;rw[ia]at e;cases hx:x==n with
   |true =>
    rw[hx]at e;have:x=n:=by simpa using hx
    subst this;cases e;exact fx
   |false=>rw[hx]at e;exact fw _ (ih x kd e)
 refine⟨EM S I hcl hcf hf hlt,rfl,I.bare,Un.kept old,⟨m,hn,fun i x v e1 e2 e3=>?_⟩,fun x c e=>?_,I.hok.fresh (aH _),fun x c e=>I.freeC x c (hcl x c e),fun p hp=>?_,I.hok.kept old,?_⟩
 ·obtain⟨j,t,rfl,ht,hv⟩:=rP e2;obtain⟨y,hy,hXN,hfr⟩:=S.sl j t ht;have e1':N[k+j]?=some x:=e1;rw[hy]at e1';cases e1';have hmem:=memOf _ _ _ hfr;obtain⟨c,hc⟩:=uY.mp (hcf _ hmem rfl);have hX:=hcl _ _ hc;obtain⟨mX,hnX,hlX⟩:=I.loc;have kX:=S.fr _ hmem rfl;obtain⟨u,ru,lk⟩:=hlX t x v hXN hv (by rcases kX with z|z;exact .inr (.inl z);exact .inr (.inr z));refine⟨u,ru,.inr ⟨?_,c,hc,?_⟩⟩
  ·exact gH hfr
  ·rcases lk with⟨z,_⟩|⟨_,c',e',q⟩
   ·have z':X.env.scope.names.lookup x=some .local:=z;rcases kX with kX|kX<;>rw[z']at kX<;>cases kX
   ·rw[hX]at e';cases e';obtain⟨o,ho,hd⟩:=q;exact⟨o,old _ o ho,hd⟩
 ·obtain⟨v,o,ho,hd⟩:=I.cell x c (hcl x c e);exact⟨v,o,old _ o ho,hd⟩
 ·rw[dv]at hp;obtain⟨e,n,ne,nf,d⟩:=I.pin p hp;refine⟨old _ _ e,n,cR (bo e),fun z=>?_,d⟩;rcases cv.mp (I.stkSub _ z)with q|q
  ·exact ne q
  ·exact nf q
 ·rw[y2];exact S.len.symm
structure wg(X:Cx)(J3:Zd)(H:Hp)(C:Addr):Prop where
 free:H C=none
 loc:C≠X.env.locals
 young:X.s₀.heap.objs.size<=C
 cells:∀x c,X.env.cells.lookup x=some c->c≠C
 pin:∀p∈X.pn++J3,p.1≠C
theorem rO{elt iter tg:Expr}{ifs:List Expr}{scope:Scope}{pos:Pos}{k:Nat}{N:Zb}{fi:List Nat}{cl:List (Str×Addr)}{g:TG}{tc:TT}{te:TE}{it:Addr}{fp:Ze}{tn:Nat->Heap->Prop}{J:It}{H2:Hp}{s2:Shared}{Q:VK}
  {E:Zc}{RR:Value->Addr->Result->Shared->Prop}
  (S:mL X.env.scope scope k N X.N fi) (hc:X.calm=true) (hcl:∀x c,cl.lookup x=some c->X.env.cells.lookup x=some c) (hcf:∀y∈scope.names,y.2=.free->(cl.lookup y.1).isSome=true)
  (hg:∀C cl s₀ H₀ ex pn,PG (dH X N scope C cl s₀ H₀ ex pn) tg g) (ho:xH k g) (ht:∀C cl s₀ H₀ ex pn,Fo (dH X N scope C cl s₀ H₀ ex pn) ifs tc) (he:∀C cl s₀ H₀ ex pn,PE (dH X N scope C cl s₀ H₀ ex pn) elt te)
  (I2:Inv X J3 σ H2 s2) (T:rW X.prog X.w X.K tg J fp it tn) (st2:tn 0 s2.heap) (f2:∀b∈fp,mJ X J3 H2 b)
  (hw:∀l,H2 l=none->∃W:Nat->Nat->List V->Hp->Prop,(∃m,W 0 m [] (upd H2 l (.lst [])))/\∀i m vs H2,W i m vs H2->H2 l=some (.lst vs) /\
   ((J.stop i H2/\Q (.ref l) H2)∨(J.go i H2/\∀x H3,J.yld i H2 x H3->g x (d4 k fi σ) H3 fun σ2 H4=>tc σ2 H4 fun b H5 =>
    if b=true then te σ2 H5 fun v H6=>H6 l=some (.lst vs)/\vs.length<ah/\∃m',m'<m/\W (i+1) m' (vs++[v]) (upd H6 l (.lst (vs++[v])))else ∃m',m'<m/\W (i+1) m' vs H5)))
  (hR:∀D C H' s' m',Inv X J3 σ H' s'->s'.heap.Ns C m'->wg X J3 H' C->Q (.ref D) H'->RR (.ref D) C (.ok .next) s') :
  wpAny (model X.prog X.w) X.A (newList []) (fun acc s₃=>wpAny (model X.prog X.w) X.A (newFunctionEnv scope X.env.globals cl [] X.env.qual none .none (some X.env)) (fun cenv s₄ =>
   zzl90 (model X.prog X.w) X.A (.compStart (.ListComp elt [⟨tg,iter,ifs,0⟩] scope pos) 0 (.ref it) acc { cenv with scope:=relabel scope X.env }) (RR acc cenv.locals) s₄) E s₃) E s2:=by
 have hfresh:H2 s2.heap.objs.size=none:=I2.fresh;obtain⟨W,⟨m0,w0⟩,turn⟩:=hw _ hfresh;refine fB (wpAny_newFunctionEnv S.cell (by intro y hy;simp at hy) (fun h₁ hns₁ hsb₁=>?_) S.kind);dsimp only at hns₁ hsb₁ ⊢;have I3:Inv X J3 σ (upd H2 s2.heap.objs.size (.lst [])) { s2 with heap:=s2.heap.push { cls:=.type "list",data:=.seq ([]:Zf).toArray },toks:=s2.toks }:=I2.lnew (ys:=[]) .nil (dL _);generalize hs3:({ s2 with heap:=s2.heap.push { cls:=.type "list",data:=.seq ([]:Zf).toArray },toks:=s2.toks }:Shared)=s3 at I3;have hh3:s3.heap=s2.heap.push { cls:=.type "list",data:=.seq ([]:Zf).toArray }:=by rw[<-hs3]
 have hsz:s3.heap.objs.size=s2.heap.objs.size+1:=by rw[hh3,o9]
 have hlt:∀b∈fp,b<s2.heap.objs.size:=fun b hb=>by
  obtain⟨o,e,_⟩:=T.obj 0 _ st2 b hb;exact bo e
 have f3:∀b∈fp,mJ X J3 (upd H2 s2.heap.objs.size (.lst [])) b:=fun b hb=>⟨by rw[aj (cR (hlt b hb))];exact(f2 b hb).1,(f2 b hb).2⟩;have hlt3:∀b∈fp,b<s3.heap.objs.size:=fun b hb=>by rw[hsz];exact Nat.lt_succ_of_lt (hlt b hb)
 have old:∀b o,s3.heap.get? b=some o->h₁.get? b=some o:=fun b o e=>by
  have hb:b≠s3.heap.objs.size:=cR (bo e);rw[hh3]at e hb;exact hsb₁.extBut b o hb (bC _ e)
 have hns:h₁.Ns s3.heap.objs.size (fun x=>([]:List (Str×Value)).reverse.lookup x):=by rw[hh3];exact hns₁
 have I4:Inv (dH X N scope s3.heap.objs.size cl s3 (upd H2 s2.heap.objs.size (.lst [])) fp (X.pn++J3)) [] (d4 k fi σ) (upd H2 s2.heap.objs.size (.lst [])) { s3 with heap:=h₁,toks:=s2.toks+([]:List (Str×Value)).length } :=
  Dr S I3 hcl hcf f3 hlt3 hns old
 have st4:tn 0 h₁:=T.keep _ _ _ st2 fun b hb o e=>old b o (by rw[hh3];exact bC _ e);generalize hY:dH X N scope s3.heap.objs.size cl s3 (upd H2 s2.heap.objs.size (.lst [])) fp (X.pn++J3)=Y at I4;have yp:Y.prog=X.prog:=by rw[<-hY];rfl
 have yw:Y.w=X.w:=by rw[<-hY];rfl
 have yK:Y.K=X.K:=by rw[<-hY];rfl
 have yA:Y.A=X.A:=by rw[<-hY];rfl
 have yx:Y.xe=XF:=by rw[<-hY];rfl
 have yc:Y.calm=true:=by rw[<-hY];exact hc
 have gY:PG Y tg g:=by rw[<-hY];exact hg _ _ _ _ _ _
 have tY:Fo Y ifs tc:=by rw[<-hY];exact ht _ _ _ _ _ _
 have eY:PE Y elt te:=by rw[<-hY];exact he _ _ _ _ _ _
 have yenv:Y.env=compEnvC scope cl s3.heap.objs.size X.env:=by rw[<-hY];rfl
 have fY:∀{H':Hp},(∀b∈fp,H' b=none)->∀b∈fp,mJ Y [] H' b:=fun hn b hb=>by
  obtain⟨f0,f1,f2',f3',f4,f5⟩:=f3 b hb;rw[<-hY];refine⟨hn b hb,cR (hlt3 b hb),fun z=>?_,.inl hb,fun x c e=>f4 x c (hcl x c e),fun p hp=>?_⟩
  ·rcases cv.mp (I3.stkSub _ z)with q|q
   ·exact f1 q
   ·exact f2' q
  ·rw[dv]at hp;exact f5 p hp
 have loop:∀s4:Shared,s4={ s3 with heap:=h₁,toks:=s2.toks+([]:List (Str×Value)).length } ->
   zzl90 (model X.prog X.w) X.A (.compLoop (.ListComp elt [⟨tg,iter,ifs,0⟩] scope pos) 0 (.ref it) (.ref s2.heap.objs.size) Y.env) (RR (.ref s2.heap.objs.size) s3.heap.objs.size) s4:=by
  rintro s4 rfl;refine vP (fun n s'=>∃i vs H',Inv Y [] (d4 k fi σ) H' s'/\tn i s'.heap/\(∀b∈fp,H' b=none)/\W i n vs H') ?_ m0 ⟨0,[],_,I4,st4,fun b hb=>(f3 b hb).1,w0⟩;rintro n s5 ⟨i,vs,H5,I5,st5,fr5,w5⟩;obtain⟨hl5,hcase⟩:=turn i n vs H5 w5;rcases hcase with⟨stop,q⟩|⟨go,step⟩
  ·have d:=T.done Y yp yw yK yc i [] s5 _ H5 XF I5 (fY fr5) st5 stop;rw[yA]at d;refine cr d fun r s6 ⟨hr,I6⟩=>?_;subst hr;have hu:Un (BN X.stack) fp (upd H2 s2.heap.objs.size (.lst [])) H5 s3.heap s6.heap:=by have:=I6.base;rw[<-hY]at this;exact this
   have ho6:s6.os=s3.os:=by have:=I6.os;rw[<-hY]at this;exact this
   have hok6:lB X.prog X.w X.K H5 s6.heap:=by have:=I6.hok;rw[<-hY]at this;exact this
   have hC6:H5 s3.heap.objs.size=none:=by have:=I6.free;rw[<-hY]at this;exact this
   obtain⟨m6,hn6,_⟩:=I6.loc;have hn6':s6.heap.Ns s3.heap.objs.size m6:=by rw[<-hY]at hn6;exact hn6
   have IX:Inv X J3 σ H5 s6:=I3.call' ho6 hu hok6 I6.bare fun b hb=>by
    obtain⟨f0,f1,f2',f3',f4,f5⟩:=f3 b hb;exact⟨f3',f1,f4,f5⟩
   refine hR _ _ H5 s6 m6 IX hn6' ⟨hC6,gE I3.lt,I3.sz,fun x c e z=>?_,fun p hp z=>?_⟩ q
   ·obtain⟨v,o,ho,_⟩:=I3.cell x c e;exact absurd (bo ho) (by rw[z];exact pd _)
   ·exact absurd (bo (I3.pin p hp).1) (by rw[z];exact pd _)
  ·have d:=T.item Y yp yw yK yc i [] s5 _ H5 XF I5 (fY fr5) st5 go;rw[yA]at d;refine cr d fun r s6 ⟨u,hr,h6⟩=>?_;subst hr;refine cr h6 fun _ s7 ⟨x,H7,I7,r7,y7,st7,fr7⟩=>?_;have I7':=I7.pinned (fY fr7) (T.obj _ _ st7);have a7:=gY _ s7 _ H7 x u _ I7' r7 (ho _ _ _ _ (step x H7 y7));rw[yp,yw,yA,yx]at a7;refine cr a7 fun _ s8 ⟨σ8,H8,I8,q8,l8,k8⟩=>?_;have a8:=tY _ s8 σ8 H8 _ I8 q8;rw[yp,yw,yA,yx]at a8;have again:∀{H9:Hp}{s9:Shared}{vs':List V}{m':Nat},Inv Y ([]++rg fp s7.heap) σ8 H9 s9->m'<n->W (i+1) m' vs' H9->∃m,m<n/\∃i vs H',Inv Y [] (d4 k fi σ) H' s9/\tn i s9.heap/\(∀b∈fp,H' b=none)/\W i m vs H':=fun{H9 s9 vs' m'} I9 hm w9=>by
    refine⟨m',hm,i+1,vs',H9,(I9.unpinned).weak l8.symm (fun j v e=>?_),T.keep _ _ _ st7 fun b hb o e=>(I9.pin (b,o) (d_ _ (d_ _ (jK hb e)))).1,fun b hb=>?_,w9⟩
    ·obtain⟨j',t,rfl,_,_⟩:=rP e;rw[k8 _ (Nat.le_add_right _ _)];exact e
    ·obtain⟨o,e,_⟩:=T.obj _ _ st7 b hb;exact(I9.pin (b,o) (d_ _ (d_ _ (jK hb e)))).2.1
   refine cr a8 fun b s9 ⟨H9,I9,q9⟩=>?_;cases b with
   |false =>
    rw[if_neg fR]at q9 ⊢;obtain⟨m',hm,w9⟩:=q9;exact again I9 hm w9
   |true =>
    rw[if_pos rfl]at q9 ⊢;have a9:=eY _ s9 σ8 H9 _ I9 q9;rw[yp,yw,yA,yx]at a9;refine cr a9 fun y s10 ⟨v,H10,I10,r10,hl10,hsz10,m',hm,w10⟩=>?_;have a10:=cQ (X:=Y) _ s10 σ8 H10 (.ref s2.heap.objs.size) [v] (.ref s2.heap.objs.size) [y] (fun z H'=>z=.non/\H'=upd H10 s2.heap.objs.size (.lst (vs++[v]))) I10 rfl (.cons r10 .nil) ⟨_,vs,v,rfl,rfl,hl10,hsz10,rfl,rfl⟩;rw[yp,yw,yA,yx]at a10;refine cr a10 fun _ s11 ⟨_,H11,I11,_,_,e11⟩=>?_;subst e11;exact again I11 hm w10
 have hstart:=codeAny_compStart_list (prog:=X.prog) (w:=X.w) (A:=X.A) (elt:=elt) (target:=tg) (iter:=iter) (ifs:=ifs) (rest:=[]) (scope:=scope) (pos:=pos) (it:=.ref it) (acc:=.ref s2.heap.objs.size) (env:=Y.env) (loop _ rfl) (T.self _ 0 _ _ _ st4 (loop _ rfl));rw[yenv]at hstart;rw[<-hs3]at hstart;exact hstart
end
section
variable{X:Cx}
theorem wg.turned{J3:Zd}{σ:St}{H:Hp}{s:Shared}{C:Addr}{h':Heap}(c:wg X J3 H C)(I:Inv X J3 σ H s)(hs:iE C s.heap h'):Inv X J3 σ H { s with heap:=h' } :=
 I.turned (t':=s.toks) (fun b o hb e=>hs.extBut b o hb e) c.free c.loc (.inr c.young) c.cells c.pin
theorem Et{elt iter tg:Expr}{ifs:List Expr}{scope:Scope}{pos:Pos}{k:Nat}{N:Zb}{fi:List Nat}{wi:TI}{g:TG}{tc:TT}{te:TE}(hS:lr X.env.scope scope k N X.N fi=true)(hc:X.calm=true)(hi:PI X tg iter wi)
  (hg:∀C cl s₀ H₀ ex pn,PG (dH X N scope C cl s₀ H₀ ex pn) tg g) (ho:xH k g) (ht:∀C cl s₀ H₀ ex pn,Fo (dH X N scope C cl s₀ H₀ ex pn) ifs tc) (he:∀C cl s₀ H₀ ex pn,PE (dH X N scope C cl s₀ H₀ ex pn) elt te)
  (hs:∀x,wr iter X.env x=pure x:=by intro _;rfl):PE X (.ListComp elt [⟨tg,iter,ifs,0⟩] scope pos) (cN k fi wi g tc te):=by
 intro J3 s σ H Q I h;have S:=mL.of hS;obtain⟨cl,hclos,hcl,hcf⟩:=rQ (env:=X.env) (scope:=scope) fun y hy e=>I.ok.has y.1 (S.fr y hy e);rw[eval_ListComp];refine wpAny_comprehension_free (use:=none) rfl hs hclos S.kind S.nm (cr (hi J3 s σ H _ I h) fun v s1 h1=>cr h1 fun itv s2 h2=>?_);obtain⟨it,fp,tn,J,H2,e,I2,T,st2,f2,hw⟩:=h2;subst e;refine rO (RR:=fun acc C=>compPost (model X.prog X.w) X.A X.xe none (EP X J3 σ Q) acc C) S hc hcl hcf hg ho ht he I2 T st2 f2 hw ?_;intro D C H' s' m' I' hn ce q;exact⟨m',hn,fun h' hs'=>⟨.ref D,H',ce.turned I' hs',rfl,q⟩⟩
theorem yC{elt iter tg:Expr}{ifs:List Expr}{scope:Scope}{pos spos py:Pos}{k:Nat}{N:Zb}{fi:List Nat}{wi:TI}{g:TG}{tc:TT}{te:TE}{j:Nat}{y:Str}(hN:X.N.Nodup)(hj:X.N[j]?=some y)(hy:Loc X.env.scope y)(hS:lr X.env.scope scope k N X.N fi=true)(hc:X.calm=true)(hi:PI X tg iter wi)
  (hg:∀C cl s₀ H₀ ex pn,PG (dH X N scope C cl s₀ H₀ ex pn) tg g) (ho:xH k g) (ht:∀C cl s₀ H₀ ex pn,Fo (dH X N scope C cl s₀ H₀ ex pn) ifs tc) (he:∀C cl s₀ H₀ ex pn,PE (dH X N scope C cl s₀ H₀ ex pn) elt te)
  (hsw:pb (.ListComp elt [⟨tg,iter,ifs,0⟩] scope pos) (some (.Name y py)) spos.line X.env=pure true:=by rfl)
  (hs:∀x,wr iter X.env x=pure x:=by intro _;rfl) (hf:X.fn y=true∨X.env.scope.names.lookup y=some .local:=by first|exact .inl rfl|exact .inr rfl|assumption) :
  PS X (.Assign [.Name y py] (.ListComp elt [⟨tg,iter,ifs,0⟩] scope pos) spos) (aS (cN k fi wi g tc te) (ei j)):=by
 intro J3 s σ H D I h;have S:=mL.of hS;obtain⟨cl,hclos,hcl,hcf⟩:=rQ (env:=X.env) (scope:=scope) fun y hy e=>I.ok.has y.1 (S.fr y hy e);rw[exec_Assign_Name_used _ _ _ _ hsw];refine ak (zJ (ak ?_));show wpAny _ X.A (do let _ <- comprehension (.ListComp elt [⟨tg,iter,ifs,0⟩] scope pos) scope X.env _ (newList []) false (eval iter X.env) (some (assign (.Name y py) X.env))) _ _ s
 refine ak (iD (wpAny_comprehension_free (use:=some (assign (.Name y py) X.env)) (Q:=fun _ s'=>SP X J3 D .next s') rfl hs hclos S.kind S.nm
  (cr (hi J3 s σ H _ I h) fun v s1 h1=>cr h1 fun itv s2 h2=>?_)) (fun _ s' hq=>ao (ao hq)) fun _ _ e=>e)
 obtain⟨it,fp,tn,J,H2,e,I2,T,st2,f2,hw⟩:=h2;subst e;refine rO (RR:=fun acc C=>compPost (model X.prog X.w) X.A X.xe (some (assign (.Name y py) X.env)) (fun _ s'=>SP X J3 D .next s') acc C) (Q:=fun x H1=>ei j x σ H1 D.nx) S hc hcl hcf hg ho ht he I2 T st2 f2 hw ?_;intro A C H' s' m' I' hn ce q;show wpAny _ X.A (assign (.Name y py) X.env (.ref A)) _ _ _;refine wpAny_assign_Name (tN I' hN hj hy (v:=.ref A) rfl (fun s'' I'' hsb=>?_) hf);obtain⟨a,hsa,ha⟩:=hsb;have hCa:C≠a:=by
  rcases ha with z|z
  ·rw[z];exact ce.loc
  ·exact gF (ce.cells y a z)
 refine⟨m',hn.sameBut hsa hCa,fun h' hs'=>?_⟩;exact⟨_,H',ce.turned I'' hs',q⟩
end
theorem Inv.turnedNew{X:Cx}{J3:Zd}{σ:St}{H:Hp}{s:Shared}{h2:Heap}{t':Nat}{ch:Ze}{o:HO}(I:Inv X J3 σ H s)(hf:∀b∈ch,mJ X J3 H b)
  (k:∀b q,b∉ch->s.heap.get? b=some q->h2.get? b=some q) (hq:∃q,h2.get? s.heap.objs.size=some q) (hno:∀y,o≠.own y) (new:cj X.prog X.w X.K (upd H s.heap.objs.size o) h2 s.heap.objs.size o) :
  Inv X J3 σ (upd H s.heap.objs.size o) { s with heap:=h2,toks:=t' }:=by
 have hn0:H s.heap.objs.size=none:=I.fresh;have nsz:∀b q,s.heap.get? b=some q->b≠s.heap.objs.size:=fun b q e=>cR (bo e);have tr:∀b u,H b=some u->b∉ch:=fun b u e z=>by rw[(hf b z).1]at e;cases e
 refine I.step (g':=s.gens) (d':=s.drawn) (ch:=ch) (fun b hb=>?_) (fun b q _ _ hc e _=>k b q hc e) (fun b q _ _ hc e _=>⟨q.slots,k b q hc e⟩) (fun b q _ e n=>by rw[aj (nsz b q e)];exact n) (fun b q hc e=>⟨q,k b q hc e⟩)
  (fun b xs e=>by rw[aj (ag e hn0)];exact e) (fun b q u e=>by rw[aj (ag e hn0)];exact e) (fun b ps e=>⟨#[],by rw[aj (ag e hn0),e];simp⟩) (fun m hm=>?_) (fun b u e=>?_) I.bare
 ·obtain⟨f0,f1,f2,f3,f4,f5⟩:=hf b hb;exact⟨f3,f1,f4,f5⟩
 ·obtain⟨q,es,ep,ho,r⟩:=hm;exact⟨q,es,ep,k _ q (fun z=>(hf _ z).2.1 rfl) ho,r⟩
 ·by_cases hb:b=s.heap.objs.size
  ·subst hb;rw[aa]at e;cases e;exact new
  ·rw[aj hb]at e;refine(I.hok b u e).stay (fun c v hc q=>k c v ?_ q) (fun c q=>by rw[aj (ag q hn0)];exact q) fun c xs q=>by rw[aj (ag q hn0)];exact q
   rcases hc with z|z
   ·subst z;exact tr _ _ e
   ·exact tr _ _ z
def GK(K:Za)(a:Addr):It :=
 ⟨fun i H=>∃xs x,aA K H a xs/\xs[i]?=some x,fun i H x H'=>∃p v,x=.ref p/\H p=none/\(∀xs,aA K H a xs->xs[i]?=some v)/\H'=upd H p (.tup [.int i,v]),fun i H=>∃xs,aA K H a xs/\xs.length<=i⟩
theorem AR{P:bR}{w:World}{K:Za}{es:List Expr}{kx:Nat}{J7:Pos}(a e it:Addr)(hne:e≠it):
  rW P w K (.Tuple es kx J7) (GK K a) [e,it] e (fun i h=>(∃old,IsEnum h e it i old)/\h.IsListIter it a i) where
 mem:=by simp
 obj:=fun i h st b hb=>by
  obtain⟨⟨old,he⟩,o,ho,hc,hd⟩:=st;rcases cv.mp hb with z|z
  ·subst z;exact⟨_,he,fun v z=>by cases z⟩
  ·have z':b=it:=by simpa using z
   subst z';exact⟨o,ho,fun v z=>by rw[hd]at z;cases z⟩
 keep:=fun i h h' st k=>⟨let⟨old,he⟩:=st.1;⟨old,k e (by simp) _ he⟩,st.2.at fun o e=>k it (by simp) o e⟩
 item:=by
  intro X hP hw hK hc i J3 s σ H E I hf st hg;subst hP hw hK;obtain⟨⟨old,he⟩,hit⟩:=st;obtain⟨xs,x,hq,hx⟩:=hg;obtain⟨its,rv,p,hz⟩:=I.list hq;obtain⟨u,hu,ru⟩:=rv.get hx;obtain⟨e0,e1,e2,e3,e4,e5⟩:=hf e (by simp);obtain⟨f0,f1,f2,f3,f4,f5⟩:=hf it (by simp);refine wpAny_pyNext_enum_item he hit p.isList (x:=u) (by simpa using hu) hne fun h' ho' hit' ht' hsz' hk'=>?_;refine⟨_,rfl,wpAny_letOwnedTupleGo_enum (s:={ s with heap:=h',toks:=s.toks+1 }) ho' fun h2 he2 hs2=>?_⟩;have hs2':iE e h' h2:=hs2;have hpe:s.heap.objs.size≠e:=gE (bo he);have ht2:h2.get? s.heap.objs.size=some { cls:=.type "tuple",data:=.seq #[.int i s.toks,u] }:=hs2'.extBut _ _ hpe ht';have hn0:H s.heap.objs.size=none:=I.fresh;have hue:upd H s.heap.objs.size (.tup [.int i,x]) e=none:=by rw[aj (gF hpe)];exact e0
  have hpi:s.heap.objs.size≠it:=by
   obtain⟨o,ho,_⟩:=hit;exact gE (bo ho)
  have hui:upd H s.heap.objs.size (.tup [.int i,x]) it=none:=by rw[aj (gF hpi)];exact f0
  have I2:Inv X J3 σ (upd H s.heap.objs.size (.tup [.int i,x])) { s with heap:=h2,toks:=s.toks+1 }:=by
   refine I.turnedNew (ch:=[e,it]) hf (fun b o hb q=>?_) ⟨_,ht2⟩ (fun _ z=>nomatch z) ⟨by show 2<=ah;decide,[.int i s.toks,u],.cons ⟨_,rfl⟩ (.cons ru .nil),⟨_,ht2,rfl,_,rfl⟩⟩;have nb1:b≠e:=fun z=>hb (by simp[z]);have nb2:b≠it:=fun z=>hb (by simp[z]);exact hs2'.extBut _ _ nb1 (hk' b o nb1 nb2 q)
  refine⟨.ref s.heap.objs.size,_,I2,rfl,⟨_,x,rfl,hn0,fun ys hy=>by rw[I.list_inj hy hq];exact hx,rfl⟩,⟨⟨u,by simpa using he2⟩,hit'.at fun o y=>(hs2'.2 it (gF hne)).trans y⟩,fun b hb=>?_⟩;rcases cv.mp hb with z|z
  ·subst z;exact hue
  ·have z':b=it:=by simpa using z
   subst z';exact hui
 done:=by
  intro X hP hw hK hc i J3 s σ H E I hf st hg;subst hP hw hK;obtain⟨⟨old,he⟩,hit⟩:=st;obtain⟨xs,hq,hx⟩:=hg;obtain⟨its,rv,p,hz⟩:=I.list hq;obtain⟨f0,f1,f2,f3,f4,f5⟩:=hf it (by simp);have hl:=rv.length;exact wpAny_pyNext_enum_end (I.ok.hd hc) he hit p.isList (by simp;omega) fun h' eb=>⟨rfl,I.turned (t':=s.toks) (fun b o hb e=>eb b o hb e) f0 f1 f3 f4 f5⟩
 self:=fun _ _ _ _ _ st h=>let⟨_,he⟩:=st.1;wpAny_pyIter_enum he h
section
variable{X:Cx}{p pos:Pos}{es:List Expr}{kx:Nat}{J7:Pos}
def t4(K:Za)(ta:TA):TI:=fun σ H R=>ta σ H fun vs H1=>∃a,vs=[.ref a]/\(∃xs,aA K H1 a xs)/\R (GK K a) H1
theorem nz{a:Expr}{ta:TA}(hg:Gl X "enumerate")(hm:X.mg "enumerate"=none)(ha:PA X [a] ta)(hs:aQ [a] X.env=[(false,eval a X.env)]:=by rfl):PI X (.Tuple es kx J7) (.Call (.Name "enumerate" p) [a] [] pos) (t4 X.K ta):=by
 intro J3 s σ H R I h;refine Call_ (oP I hg hm boot_enumerate (zF (cr (ha pos J3 s σ H _ I h) fun us s1 ⟨vs,H1,I1,r1,q1⟩=>?_) hs rfl));obtain⟨l,e,⟨xs,hq⟩,q⟩:=q1;subst e;obtain⟨u,rfl,ru⟩:=vals1 r1;cases ru;obtain⟨its,rv,pl,hz⟩:=I1.list hq;refine call_enumerate_list pl.isList fun h' he hit hsz hk=>?_;refine wpAny_pyIter_enum (s:={ s1 with heap:=h' }) he ?_;have hk':∀b o,s1.heap.get? b=some o->h'.get? b=some o:=hk;have I2:Inv X J3 σ H1 { s1 with heap:=h' }:=I1.kept (t':=s1.toks) hk';refine⟨_,[s1.heap.objs.size+1,s1.heap.objs.size],_,_,H1,rfl,I2,AR l _ _ (Nat.succ_ne_self _),⟨⟨_,he⟩,hit⟩,fun b hb=>?_,q⟩;have hb':s1.heap.objs.size<=b:=by
  rcases cv.mp hb with z|z
  ·rw[z];exact oq _
  ·have z':b=s1.heap.objs.size:=by simpa using z
   rw[z'];exact aH _
 exact I1.fpOk hb' (I1.hok.fresh hb')
end
def G0(x:Str):It:=⟨fun i _=>i<x.cps.size,fun i H y H'=>H'=H/\∃c,x.cps[i]?=some c/\y=.str ⟨#[c]⟩,fun i _=>x.cps.size<=i⟩
theorem xT{P:bR}{w:World}{K:Za}{tg:Expr}(x:Str)(t:Tok)(it:Addr):rW P w K tg (G0 x) [it] it (fun i h=>h.IsStrIter it "str_ascii_iterator" x t i) where
 mem:=by simp
 obj:=fun i h st b hb=>by
  have e:b=it:=by simpa using hb
  subst e;obtain⟨o,e,c,d⟩:=st;exact⟨o,e,fun v z=>by rw[d]at z;cases z⟩
 keep:=fun i h h' st k=>by
  obtain⟨o,e,c,d⟩:=st;exact⟨o,k it (by simp) o e,c,d⟩
 item:=by
  intro X hP hw hK hc i J3 s σ H E I hf st hg;subst hP hw hK;have hlt:i<x.cps.size:=hg;obtain⟨f0,f1,f2,f3,f4,f5⟩:=hf it (by simp);have hx:x.cps[i]?=some x.cps[i]:=by simp[hlt]
  refine wpAny_pyNext_ascii_item st hx fun h' st' sb=>?_;have I1:Inv X J3 σ H { s with heap:=h',toks:=s.toks+1 }:=I.turned (t':=s.toks+1) (fun b o hb e=>(sb.2 b hb).trans e) f0 f1 f3 f4 f5;obtain⟨o,e,c,d⟩:=id st';exact⟨_,rfl,t5 (s:={ s with heap:=h',toks:=s.toks+1 }) e c d (by decide) ⟨.str ⟨#[x.cps[i]]⟩,H,I1,⟨_,rfl⟩,⟨rfl,_,hx,rfl⟩,st',fun b hb=>(hf b hb).1⟩⟩
 done:=by
  intro X hP hw hK hc i J3 s σ H E I hf st hg;subst hP hw hK;have hge:x.cps.size<=i:=hg;obtain⟨f0,f1,f2,f3,f4,f5⟩:=hf it (by simp);exact wpAny_pyNext_ascii_end (I.ok.hd hc) st (by simp;omega) fun h' eb=>⟨rfl,I.turned (t':=s.toks) (fun b o hb e=>eb b o hb e) f0 f1 f3 f4 f5⟩
 self:=fun _ _ _ _ _ st h=>wpAny_pyIter_striter_ascii st h
theorem AO{P:bR}{w:World}{K:Za}{tg:Expr}(x:Str)(t:Tok)(it:Addr):rW P w K tg (G0 x) [it] it (fun i h=>h.IsStrIter it "str_iterator" x t i) where
 mem:=by simp
 obj:=fun i h st b hb=>by
  have e:b=it:=by simpa using hb
  subst e;obtain⟨o,e,c,d⟩:=st;exact⟨o,e,fun v z=>by rw[d]at z;cases z⟩
 keep:=fun i h h' st k=>by
  obtain⟨o,e,c,d⟩:=st;exact⟨o,k it (by simp) o e,c,d⟩
 item:=by
  intro X hP hw hK hc i J3 s σ H E I hf st hg;subst hP hw hK;have hlt:i<x.cps.size:=hg;obtain⟨f0,f1,f2,f3,f4,f5⟩:=hf it (by simp);have hx:x.cps[i]?=some x.cps[i]:=by simp[hlt]
  refine wpAny_pyNext_wide_item st hx fun h' st' sb=>?_;have I1:Inv X J3 σ H { s with heap:=h',toks:=s.toks+1 }:=I.turned (t':=s.toks+1) (fun b o hb e=>(sb.2 b hb).trans e) f0 f1 f3 f4 f5;obtain⟨o,e,c,d⟩:=id st';exact⟨_,rfl,t5 (s:={ s with heap:=h',toks:=s.toks+1 }) e c d (by decide) ⟨.str ⟨#[x.cps[i]]⟩,H,I1,⟨_,rfl⟩,⟨rfl,_,hx,rfl⟩,st',fun b hb=>(hf b hb).1⟩⟩
 done:=by
  intro X hP hw hK hc i J3 s σ H E I hf st hg;subst hP hw hK;have hge:x.cps.size<=i:=hg;obtain⟨f0,f1,f2,f3,f4,f5⟩:=hf it (by simp);exact wpAny_pyNext_wide_end (I.ok.hd hc) st (by simp;omega) fun h' eb=>⟨rfl,I.turned (t':=s.toks) (fun b o hb e=>eb b o hb e) f0 f1 f3 f4 f5⟩
 self:=fun _ _ _ _ _ st h=>wpAny_pyIter_striter_wide st h
section
variable{X:Cx}{p pos:Pos}{tg:Expr}
def FO(tl:TE):TI:=fun σ H R=>tl σ H fun v H1=>∃x,v=.str x/\R (G0 x) H1
theorem CF{l:Expr}{tl:TE}(hl:PE X l tl):PI X tg l (FO tl):=by
 intro J3 s σ H R I h;refine cr (hl J3 s σ H _ I h) fun v s1 ⟨y,H1,I1,r1,q1⟩=>?_;obtain⟨x,e,q⟩:=q1;subst e;obtain⟨t,rfl⟩:=r1;have fin:∀b∈[s1.heap.objs.size],mJ X J3 H1 b:=fun b hb=>by
  have e:b=s1.heap.objs.size:=by simpa using hb
  subst e;exact I1.fpOk (aH _) (I1.hok.fresh (aH _))
 cases ha:x.cps.all (·<128)
 ·refine wpAny_pyIter_wide ha ?_;exact⟨s1.heap.objs.size,[s1.heap.objs.size],_,_,H1,rfl,I1.kept (t':=s1.toks) fun b o e=>bC _ e,AO x t _,⟨_,c8 _ rfl,rfl,rfl⟩,fin,q⟩
 ·refine wpAny_pyIter_ascii ha ?_;exact⟨s1.heap.objs.size,[s1.heap.objs.size],_,_,H1,rfl,I1.kept (t':=s1.toks) fun b o e=>bC _ e,xT x t _,⟨_,c8 _ rfl,rfl,rfl⟩,fin,q⟩
end
def GJ(K:Za)(a b:Addr):It :=
  ⟨fun i H=>∃xs ys x y,aA K H a xs/\aA K H b ys/\xs[i]?=some x/\ys[i]?=some y,
   fun i H x H'=>∃p u v,x=.ref p/\H p=none/\(∀xs,aA K H a xs->xs[i]?=some u)/\(∀ys,aA K H b ys->ys[i]?=some v)/\H'=upd H p (.tup [u,v]),
   fun i H=>∃xs ys,aA K H a xs/\aA K H b ys/\(xs.length<=i∨ys.length<=i)⟩
theorem BY{P:bR}{w:World}{K:Za}{es:List Expr}{kx:Nat}{J7:Pos}(a b z TI TO i1 i2:Addr)(D:n_ z TI TO i1 i2 a b):
  rW P w K (.Tuple es kx J7) (GJ K a b) [z,TI,TO,i1,i2] z (fun i h=>IsZip h z TI TO .none/\IsPair h TI (.ref i1) (.ref i2)/\(∃a b,IsPair h TO a b)/\h.IsListIter i1 a i/\h.IsListIter i2 b i) where
 mem:=by simp
 obj:=fun i h st c hc=>by
  obtain⟨hz,hTI,⟨u,v,hTO⟩,h1,h2⟩:=st;simp only[cv,qk,or_false]at hc;rcases hc with rfl|rfl|rfl|rfl|rfl
  ·exact⟨_,hz,fun v z=>by cases z⟩
  ·exact⟨_,hTI,fun v z=>by cases z⟩
  ·exact⟨_,hTO,fun v z=>by cases z⟩
  ·obtain⟨o,e,c,d⟩:=h1;exact⟨o,e,fun v z=>by rw[d]at z;cases z⟩
  ·obtain⟨o,e,c,d⟩:=h2;exact⟨o,e,fun v z=>by rw[d]at z;cases z⟩
 keep:=fun i h h' st k=>by
  obtain⟨hz,hTI,⟨u,v,hTO⟩,h1,h2⟩:=st;exact⟨k z (by simp) _ hz,k TI (by simp) _ hTI,⟨u,v,k TO (by simp) _ hTO⟩,h1.at fun o e=>k i1 (by simp) o e,h2.at fun o e=>k i2 (by simp) o e⟩
 item:=by
  intro X hP hw hK hc i J3 s σ H E I hf st hg;subst hP hw hK;obtain⟨hz,hTI,⟨u0,v0,hTO⟩,h1,h2⟩:=st;obtain⟨xs,ys,x,y,hqx,hqy,hx,hy⟩:=hg;obtain⟨its,rx,px,zx⟩:=I.list hqx;obtain⟨jts,ry,py,zy⟩:=I.list hqy;obtain⟨u,hu,ru⟩:=rx.get hx;obtain⟨v,hv,rv⟩:=ry.get hy;refine wpAny_pyNext_zip_item D hz hTI hTO h1 h2 px.isList py.isList (x:=u) (y:=v) (by simpa using hu) (by simpa using hv) fun h' a1 a2 a3 a4 a5 a6 hk=>?_;refine⟨_,rfl,wpAny_letOwnedTupleGo_zip (s:={ s with heap:=h' }) a1 fun h2' hz2 hs2=>?_⟩;have hs2':iE z h' h2':=hs2;have nsz:s.heap.objs.size≠z:=gE (bo hz);have nsTO:s.heap.objs.size≠TO:=gE (bo hTO);have nsTI:s.heap.objs.size≠TI:=gE (bo hTI);have nsi1:s.heap.objs.size≠i1:=by obtain⟨o,ho,_⟩:=h1;exact gE (bo ho)
  have nsi2:s.heap.objs.size≠i2:=by obtain⟨o,ho,_⟩:=h2;exact gE (bo ho)
  have ht2:IsPair h2' s.heap.objs.size u v:=hs2'.extBut _ _ nsz a5;have I2:Inv X J3 σ (upd H s.heap.objs.size (.tup [x,y])) { s with heap:=h2',toks:=s.toks }:=by
   refine I.turnedNew (ch:=[z,TI,TO,i1,i2]) hf (fun c o hc q=>?_) ⟨_,ht2⟩ (fun _ z=>nomatch z) ⟨by show 2<=ah;decide,[u,v],.cons ru (.cons rv .nil),⟨_,ht2,rfl,_,rfl⟩⟩;have n1:c≠z:=fun q=>hc (by simp[q]);exact hs2'.extBut _ _ n1 (hk c o n1 (fun q=>hc (by simp[q])) (fun q=>hc (by simp[q])) (fun q=>hc (by simp[q])) q)
  refine⟨.ref s.heap.objs.size,_,I2,rfl,⟨_,x,y,rfl,I.fresh,fun zs hz=>by rw[I.list_inj hz hqx];exact hx,fun zs hz=>by rw[I.list_inj hz hqy];exact hy,rfl⟩,⟨hz2,hs2'.extBut _ _ D.TIz (hk _ _ D.TIz D.TITO D.TIi1 D.TIi2 hTI),⟨_,_,hs2'.extBut _ _ D.TOz a2⟩,a3.at fun o e=>hs2'.extBut _ _ D.i1z e,a4.at fun o e=>hs2'.extBut _ _ D.i2z e⟩,fun c hc=>?_⟩;have hcn:=(hf c hc).1;simp only[cv,qk,or_false]at hc;have ne:c≠s.heap.objs.size:=by
   rcases hc with rfl|rfl|rfl|rfl|rfl
   ·exact nsz.symm
   ·exact nsTI.symm
   ·exact nsTO.symm
   ·exact nsi1.symm
   ·exact nsi2.symm
  rw[aj ne];exact hcn
 done:=by
  intro X hP hw hK hc i J3 s σ H E I hf st hg;subst hP hw hK;obtain⟨hz,hTI,⟨u0,v0,hTO⟩,h1,h2⟩:=st;obtain⟨xs,ys,hqx,hqy,hend⟩:=hg;obtain⟨its,rx,px,zx⟩:=I.list hqx;obtain⟨jts,ry,py,zy⟩:=I.list hqy;have lx:=rx.length;have ly:=ry.length;refine wpAny_pyNext_zip_end (I.ok.hd hc) D hz hTI hTO h1 h2 px.isList py.isList (by rcases hend with q|q;exact .inl (by simp;omega);exact .inr (by simp;omega)) fun h' hk=>⟨rfl,?_⟩;have tr:∀c q,H c=some q->c∉[z,TI,TO,i1,i2]:=fun c q e m=>by rw[(hf c m).1]at e;cases e
  have kk:∀c o,c∉[z,TI,TO,i1,i2]->s.heap.get? c=some o->h'.get? c=some o:=fun c o hc q=>hk c o (fun q=>hc (by simp[q])) (fun q=>hc (by simp[q])) (fun q=>hc (by simp[q])) (fun q=>hc (by simp[q])) q;refine I.step (g':=s.gens) (d':=s.drawn) (t':=s.toks) (ch:=[z,TI,TO,i1,i2]) (fun c hc=>?_) (fun c o _ _ hc e _=>kk c o hc e) (fun c o _ _ hc e _=>⟨o.slots,kk c o hc e⟩) (fun _ _ _ _ n=>n) (fun c o hc e=>⟨o,kk c o hc e⟩) (fun _ _ e=>e) (fun _ _ _ e=>e) (fun c ps e=>⟨#[],by rw[e];simp⟩) (fun m hm=>?_) (fun c q e=>?_) I.bare
  ·obtain⟨f0,f1,f2,f3,f4,f5⟩:=hf c hc;exact⟨f3,f1,f4,f5⟩
  ·obtain⟨q,es',ep,ho,r⟩:=hm;exact⟨q,es',ep,kk _ q (fun z=>(hf _ z).2.1 rfl) ho,r⟩
  ·refine(I.hok c q e).stay (fun d v hd q'=>kk d v ?_ q') (fun _ q=>q) fun _ _ q=>q;rcases hd with z|z
   ·subst z;exact tr _ _ e
   ·exact tr _ _ z
 self:=fun _ _ _ _ _ st h=>uJ st.1 h
section
variable{prog:bR}{w:World}{A:Around}{E:Zc}{s:Shared}
theorem jJ{it t:Addr}{i:Nat}{items:Array Value}{x:Value}{Q:Zc}(st:s.heap.IsTupleIter it t i)(tt:s.heap.IsTuple t items)(hx:items[i]?=some x)
  (k:∀h',h'.IsTupleIter it t (i+1)->iE it s.heap h'->Q x { s with heap:=h' }):wpAny (model prog w) A (kf (.ref it)) Q E s:=by
 obtain⟨oi,gi,ci,di⟩:=id st;obtain⟨ot,gt,_,nt,dt⟩:=tt;unfold kf;refine ak (ju (name:=js "__next__") st.typeIs uI
  (mS uI st.typeIs F.entry_tuple_iterator_next ?_ (F.args_tuple_iterator_next_1 _)))
 show wpAny _ _ (field (.ref it) 0 >>= _) _ _ s;refine ak (dY gi di (x:=.ref t) rfl ?_);show wpAny _ _ (if(Value.ref t==Value.none)=true then _ else _) _ _ s
 rw[if_neg (show ¬((Value.ref t==Value.none)=true)from fR)];show wpAny _ _ (field (.ref it) 1 >>= _) _ _ s;refine ak (dY gi di (x:=.int i 0) rfl ?_);show wpAny _ _ (seqItems? (.ref t) >>= _) _ _ s;refine ak (j_ gt dt ?_);simp only[ko,hx];refine ak (uH gi di (by simp) (ao ⟨x,rfl,ao (k _ ?_ (lW ..))⟩));exact⟨_,uQ _ gi (Obj.isFreed_of_fields (uG di _)),(Obj.cls_mapFields ..).trans ci,by
  rw[uG di];simp[rawInt]⟩
theorem pp{it t:Addr}{i:Nat}{items:Array Value}{Q:Zc}(hh:A.handled=none)(st:s.heap.IsTupleIter it t i)(tt:s.heap.IsTuple t items)(hx:items[i]?=none)
  (k:∀h' e,Heap.ExtBut it s.heap h'->(∃o,h'.get? e=some o/\o.cls=.type "StopIteration")->E (.ref e) { s with heap:=h' }):wpAny (model prog w) A (kf (.ref it)) Q E s:=by
 obtain⟨oi,gi,ci,di⟩:=id st;obtain⟨ot,gt,_,nt,dt⟩:=tt;unfold kf;refine ak (ju (name:=js "__next__") st.typeIs uI
  (mS uI st.typeIs F.entry_tuple_iterator_next ?_ (F.args_tuple_iterator_next_1 _)))
 show wpAny _ _ (field (.ref it) 0 >>= _) _ _ s;refine ak (dY gi di (x:=.ref t) rfl ?_);show wpAny _ _ (if(Value.ref t==Value.none)=true then _ else _) _ _ s
 rw[if_neg (show ¬((Value.ref t==Value.none)=true)from fR)];show wpAny _ _ (field (.ref it) 1 >>= _) _ _ s;refine ak (dY gi di (x:=.int i 0) rfl ?_);show wpAny _ _ (seqItems? (.ref t) >>= _) _ _ s;refine ak (j_ gt dt ?_);simp only[ko,hx];refine ak (kj (ak (uH gi di (by simp) ?_)));show wpAny _ _ (newExc (.type "StopIteration") [] >>= _) _ _ _;refine ak ?_;simp only[newExc,newTuple];refine ak (fB ?_ (by size_fits));refine ak (m:=uF _ _) (wpAny_of_eq (a:=Value.none) (by first|rfl|(simp only[uF];rfl)) ?_)
 refine fB ?_ (by size_fits);simp only[raiseNew];refine ak (wpAny_handled ?_)
 first|rw[show A.in1.handled=none from hh] | rw[hh]
 refine ak (ao (wpAny_throw ?_));exact k _ _ (((lW ..).extBut.push _).push _) ⟨_,c8 _ rfl,rfl⟩
theorem AM{z TI TO i1 i2 l1 l2:Addr}{k1 k2:Nat}{xs ys:Array Value}{x y a b:Value}{Q:Zc}(D:n_ z TI TO i1 i2 l1 l2)
  (gz:IsZip s.heap z TI TO .none) (gI:IsPair s.heap TI (.ref i1) (.ref i2)) (gO:IsPair s.heap TO a b)
  (g1:s.heap.IsTupleIter i1 l1 k1) (g2:s.heap.IsTupleIter i2 l2 k2) (t1:s.heap.IsTuple l1 xs) (t2:s.heap.IsTuple l2 ys) (hx:xs[k1]?=some x) (hy:ys[k2]?=some y)
  (k:∀h',IsZip h' z TI TO (rawInt s.heap.objs.size)->IsPair h' TO x y->h'.IsTupleIter i1 l1 (k1+1)->h'.IsTupleIter i2 l2 (k2+1)->IsPair h' s.heap.objs.size x y->h'.objs.size=s.heap.objs.size+1 ->
   (∀c o,c≠z->c≠TO->c≠i1->c≠i2->s.heap.get? c=some o->h'.get? c=some o)->Q (.ref s.heap.objs.size) { s with heap:=h' }) :
  wpAny (model prog w) A (cw.«zip.__next__» ⟨[.ref z],[]⟩) (fun fin s'=>∃v,fin=.done (.ret v)/\Q v s') E s:=by
 show wpAny _ _ (field (.ref z) 2 >>= _) _ _ _;refine ak (dY gz rfl (x:=.bool false) rfl ?_);show wpAny _ _ (field (.ref z) 3 >>= _) _ _ _;refine ak (dY gz rfl (x:=.ref TI) rfl ?_);refine ak (j_ gI rfl ?_);show wpAny _ _ (uE (.ref z) >>= _) _ _ _;refine ak ?_;unfold uE;refine ak (dY gz rfl (x:=.none) rfl (ao ?_));simp only[if_true];refine ak (kj ?_);refine ak (dY gz rfl (x:=.ref TO) rfl ?_);refine ak (n8 gz (by simp) fun m₁ gz₁ u₁=>?_)
 replace gz₁:IsZip m₁ z TI TO .ellipsis:=gz₁
 refine ak ?_;simp only[List.zipIdx_cons,List.zipIdx_nil,og,List.forIn_nil];refine ak (ak (uD ?_));show wpAny _ _ (kf (.ref i1) >>= _) _ _ _;refine ak (jJ (g1.extBut u₁.extBut D.i1z) (t1.extBut u₁.extBut D.l1z) hx fun m₂ g1₂ u₂=>ao ?_);have gO₂:IsPair m₂ TO a b:=u₂.extBut _ _ D.TOi1 (u₁.extBut _ _ D.TOz gO);refine ak (j_ gO₂ rfl ?_);refine ak (wpAny_updateSeq_pair gO₂ fun m₃ gO₃ u₃=>?_)
 replace gO₃:IsPair m₃ TO x b:=gO₃
 refine ak (wpAny_letGo (ao ?_));refine ak (ak (uD ?_));show wpAny _ _ (kf (.ref i2) >>= _) _ _ _;refine ak (jJ (((g2.extBut u₁.extBut D.i2z).extBut u₂.extBut D.i12.symm).extBut u₃.extBut D.TOi2.symm)
  (((t2.extBut u₁.extBut D.l2z).extBut u₂.extBut D.l2i1).extBut u₃.extBut D.l2TO) hy fun m₄ g2₄ u₄=>ao ?_)
 have gO₄:IsPair m₄ TO x b:=u₄.extBut _ _ D.TOi2 gO₃;refine ak (j_ gO₄ rfl ?_);refine ak (wpAny_updateSeq_pair gO₄ fun m₅ gO₅ u₅=>?_)
 replace gO₅:IsPair m₅ TO x y:=gO₅
 refine ak (wpAny_letGo (ao (ao ?_)));refine ak (j_ gO₅ rfl ?_);refine ak (wpAny_newTuple ?_);have esz:m₅.objs.size=s.heap.objs.size:=by rw[u₅.1,u₄.1,u₃.1,u₂.1,u₁.1]
 have gz₅:IsZip m₅ z TI TO .ellipsis:=u₅.extBut _ _ D.TOz.symm (u₄.extBut _ _ D.i2z.symm (u₃.extBut _ _ D.TOz.symm (u₂.extBut _ _ D.i1z.symm gz₁)));have kp₅:∀c o,c≠z->c≠TO->c≠i1->c≠i2->s.heap.get? c=some o->m₅.get? c=some o:=fun c o c1 c2 c3 c4 e =>
  u₅.extBut _ _ c2 (u₄.extBut _ _ c4 (u₃.extBut _ _ c2 (u₂.extBut _ _ c3 (u₁.extBut _ _ c1 e))))
 have g1₅:m₅.IsTupleIter i1 l1 (k1+1):=((g1₂.extBut u₃.extBut D.TOi1.symm).extBut u₄.extBut D.i12).extBut u₅.extBut D.TOi1.symm;have g2₅:m₅.IsTupleIter i2 l2 (k2+1):=g2₄.extBut u₅.extBut D.TOi2.symm;have zlt:z<m₅.objs.size:=bo gz₅;show wpAny _ _ (cw.SmallTypes.ownedTupleHandOut (.ref z) (.ref m₅.objs.size) >>= _) _ _ _;refine ak ?_;unfold cw.SmallTypes.ownedTupleHandOut;have gz₆:IsZip (m₅.push { cls:=.type "tuple",data:=.seq #[x,y] }) z TI TO .ellipsis:=bC _ gz₅;refine ak (n8 gz₆ (by simp) fun m₇ gz₇ u₇=>?_)
 replace gz₇:IsZip m₇ z TI TO (rawInt m₅.objs.size):=gz₇
 refine n8 gz₇ (by simp) fun m₈ gz₈ u₈=>?_
 replace gz₈:IsZip m₈ z TI TO (rawInt m₅.objs.size):=gz₈
 have up:∀c o,c≠z->m₅.get? c=some o->m₈.get? c=some o:=fun c o c1 e=>u₈.extBut _ _ c1 (u₇.extBut _ _ c1 (bC _ e));have gT₈:IsPair m₈ m₅.objs.size x y:=u₈.extBut _ _ (gE zlt) (u₇.extBut _ _ (gE zlt) (c8 _ rfl));have ez8:m₈.objs.size=m₅.objs.size+1:=by rw[u₈.1,u₇.1,o9]
 rw[esz]at gz₈ gT₈ ez8;refine ao ⟨_,rfl,?_⟩;show Q (.ref m₅.objs.size) _;rw[esz];refine k m₈ gz₈ (up _ _ D.TOz gO₅) ?_ ?_ gT₈ ez8 fun c o c1 c2 c3 c4 e=>up c o c1 (kp₅ c o c1 c2 c3 c4 e)
 ·obtain⟨o,e,r⟩:=g1₅;exact⟨o,up _ o D.i1z e,r⟩
 ·obtain⟨o,e,r⟩:=g2₅;exact⟨o,up _ o D.i2z e,r⟩
theorem BT{z TI TO i1 i2 l1 l2:Addr}{k1 k2:Nat}{xs ys:Array Value}{a b:Value}{Q:Fin->Shared->Prop}(hh:A.handled=none)(D:n_ z TI TO i1 i2 l1 l2)
  (gz:IsZip s.heap z TI TO .none) (gI:IsPair s.heap TI (.ref i1) (.ref i2)) (gO:IsPair s.heap TO a b)
  (g1:s.heap.IsTupleIter i1 l1 k1) (g2:s.heap.IsTupleIter i2 l2 k2) (t1:s.heap.IsTuple l1 xs) (t2:s.heap.IsTuple l2 ys) (fin:xs[k1]?=none∨ys[k2]?=none)
  (k:∀h' e,(∀c o,c≠z->c≠TO->c≠i1->c≠i2->s.heap.get? c=some o->h'.get? c=some o)->(∃o,h'.get? e=some o/\o.cls=.type "StopIteration")->E (.ref e) { s with heap:=h' }) :
  wpAny (model prog w) A (cw.«zip.__next__» ⟨[.ref z],[]⟩) Q E s:=by
 show wpAny _ _ (field (.ref z) 2 >>= _) _ _ _;refine ak (dY gz rfl (x:=.bool false) rfl ?_);show wpAny _ _ (field (.ref z) 3 >>= _) _ _ _;refine ak (dY gz rfl (x:=.ref TI) rfl ?_);refine ak (j_ gI rfl ?_);show wpAny _ _ (uE (.ref z) >>= _) _ _ _;refine ak ?_;unfold uE;refine ak (dY gz rfl (x:=.none) rfl (ao ?_));simp only[if_true];refine ak (kj ?_);refine ak (dY gz rfl (x:=.ref TO) rfl ?_);refine ak (n8 gz (by simp) fun m₁ gz₁ u₁=>?_)
 replace gz₁:IsZip m₁ z TI TO .ellipsis:=gz₁
 refine ak ?_;simp only[List.zipIdx_cons,List.zipIdx_nil,og,List.forIn_nil];refine ak (ak (uD ?_));show wpAny _ _ (kf (.ref i1) >>= _) _ _ _;cases hx:xs[k1]? with
 |none =>
  refine ak (pp hh (g1.extBut u₁.extBut D.i1z) (t1.extBut u₁.extBut D.l1z) hx fun m₂ e u₂ he=>?_);obtain⟨oe,ge,ce⟩:=he;have gz₂:IsZip m₂ z TI TO .ellipsis:=u₂ _ _ D.i1z.symm gz₁;have nez:e≠z:=fun q=>by subst q;rw[gz₂]at ge;cases ge;simp at ce
  refine n8 gz₂ (by simp) fun m₃ _ u₃=>k m₃ e (fun c o c1 _ c3 _ q=>u₃.extBut _ _ c1 (u₂ _ _ c3 (u₁.extBut _ _ c1 q))) ⟨oe,u₃.extBut _ _ nez ge,ce⟩
 |some x =>
  have hy:ys[k2]?=none:=by rcases fin with q|q;rw[hx]at q;cases q;exact q
  refine ak (jJ (g1.extBut u₁.extBut D.i1z) (t1.extBut u₁.extBut D.l1z) hx fun m₂ g1₂ u₂=>ao ?_);have gO₂:IsPair m₂ TO a b:=u₂.extBut _ _ D.TOi1 (u₁.extBut _ _ D.TOz gO);refine ak (j_ gO₂ rfl ?_);refine ak (wpAny_updateSeq_pair gO₂ fun m₃ gO₃ u₃=>?_);refine ak (wpAny_letGo (ao ?_));refine ak (ak (uD ?_));show wpAny _ _ (kf (.ref i2) >>= _) _ _ _;refine ak (pp hh (((g2.extBut u₁.extBut D.i2z).extBut u₂.extBut D.i12.symm).extBut u₃.extBut D.TOi2.symm)
   (((t2.extBut u₁.extBut D.l2z).extBut u₂.extBut D.l2i1).extBut u₃.extBut D.l2TO) hy fun m₄ e u₄ he=>?_)
  obtain⟨oe,ge,ce⟩:=he;have gz₄:IsZip m₄ z TI TO .ellipsis:=u₄ _ _ D.i2z.symm (u₃.extBut _ _ D.TOz.symm (u₂.extBut _ _ D.i1z.symm gz₁));have nez:e≠z:=fun q=>by subst q;rw[gz₄]at ge;cases ge;simp at ce
  refine n8 gz₄ (by simp) fun m₅ _ u₅=>k m₅ e (fun c o c1 c2 c3 c4 q=>u₅.extBut _ _ c1 (u₄ _ _ c4 (u₃.extBut _ _ c2 (u₂.extBut _ _ c3 (u₁.extBut _ _ c1 q))))) ⟨oe,u₅.extBut _ _ nez ge,ce⟩
theorem sW{z TI TO i1 i2 l1 l2:Addr}{k1 k2:Nat}{xs ys:Array Value}{x y a b:Value}{Q:Option Value->Shared->Prop}(D:n_ z TI TO i1 i2 l1 l2)
  (gz:IsZip s.heap z TI TO .none) (gI:IsPair s.heap TI (.ref i1) (.ref i2)) (gO:IsPair s.heap TO a b)
  (g1:s.heap.IsTupleIter i1 l1 k1) (g2:s.heap.IsTupleIter i2 l2 k2) (t1:s.heap.IsTuple l1 xs) (t2:s.heap.IsTuple l2 ys) (hx:xs[k1]?=some x) (hy:ys[k2]?=some y)
  (k:∀h',IsZip h' z TI TO (rawInt s.heap.objs.size)->IsPair h' TO x y->h'.IsTupleIter i1 l1 (k1+1)->h'.IsTupleIter i2 l2 (k2+1)->IsPair h' s.heap.objs.size x y->h'.objs.size=s.heap.objs.size+1 ->
   (∀c o,c≠z->c≠TO->c≠i1->c≠i2->s.heap.get? c=some o->h'.get? c=some o)->Q (some (.ref s.heap.objs.size)) { s with heap:=h' }) :
  wpAny (model prog w) A (pyNext (.ref z)) Q E s:=by
 have hT:s.TypeIs (.ref z) "zip":=⟨_,gz,rfl⟩;unfold pyNext;exact ak (uC (ju (name:=js "__next__") hT uB
  (mS uB hT F.entry_zip_next
   (AM D gz gI gO g1 g2 t1 t2 hx hy fun h' a1 a2 a3 a4 a5 a6 a7=>ao (k h' a1 a2 a3 a4 a5 a6 a7)) (F.args_zip_next_1 _))))
theorem vC{z TI TO i1 i2 l1 l2:Addr}{k1 k2:Nat}{xs ys:Array Value}{a b:Value}{Q:Option Value->Shared->Prop}(hh:A.handled=none)(D:n_ z TI TO i1 i2 l1 l2)
  (gz:IsZip s.heap z TI TO .none) (gI:IsPair s.heap TI (.ref i1) (.ref i2)) (gO:IsPair s.heap TO a b)
  (g1:s.heap.IsTupleIter i1 l1 k1) (g2:s.heap.IsTupleIter i2 l2 k2) (t1:s.heap.IsTuple l1 xs) (t2:s.heap.IsTuple l2 ys) (fin:xs[k1]?=none∨ys[k2]?=none)
  (k:∀h',(∀c o,c≠z->c≠TO->c≠i1->c≠i2->s.heap.get? c=some o->h'.get? c=some o)->Q none { s with heap:=h' }):wpAny (model prog w) A (pyNext (.ref z)) Q E s:=by
 have hT:s.TypeIs (.ref z) "zip":=⟨_,gz,rfl⟩;unfold pyNext;refine ak (uC (ju (name:=js "__next__") hT uB
  (mS uB hT F.entry_zip_next (BT hh D gz gI gO g1 g2 t1 t2 fin fun h' e kp he=>?_) (F.args_zip_next_1 _))))
 obtain⟨o,ho,hc⟩:=he;refine ak (tF (T:="StopIteration") (b:=true) ⟨o,ho,hc⟩ isSubtype_stop ?_);exact ao (k _ kp)
end
abbrev GW(h:Heap)(l1:Addr):Heap:=h.push { cls:=.type "tuple_iterator",data:=.fields #[.ref l1,.int 0 0] }
abbrev GV(h:Heap)(l1 l2:Addr):Heap:=(GW h l1).push { cls:=.type "tuple_iterator",data:=.fields #[.ref l2,.int 0 0] }
abbrev GU(h:Heap)(l1 l2:Addr):Heap:=(GV h l1 l2).push { cls:=.type "tuple",data:=.seq #[.ref h.objs.size,.ref (GW h l1).objs.size] }
abbrev GS(h:Heap)(l1 l2:Addr):Heap:=(GU h l1 l2).push { cls:=.type "tuple",data:=.seq #[.none,.none] }
abbrev F_(h:Heap)(l1 l2:Addr):Heap:=(GS h l1 l2).push { cls:=.type "zip",data:=.fields #[.none,.bool false,.bool false,.ref (GV h l1 l2).objs.size,.ref (GU h l1 l2).objs.size] }
theorem yG(l1 l2:Addr)(xs ys:Array Value):
  Meets (cw.«zip.__new__» ⟨[.type "zip",.ref l1,.ref l2],[]⟩) (fun _ R s=>s.heap.IsTuple l1 xs/\s.heap.IsTuple l2 ys /\
   R (.ok (.ret (.ref (GS s.heap l1 l2).objs.size))) { s with heap:=F_ s.heap l1 l2 }) :=
 .of_wp fun prog w A R s h=>by
  obtain⟨hp,g,d,tk,os⟩:=s;obtain⟨q1,q2,h⟩:=h;have hsub:=sub_zip;have T1:Heap.IsTuple (Shared.heap ⟨hp,g,d,tk,os⟩) l1 xs:=q1;have T2:Heap.IsTuple (Shared.heap ⟨hp.push { cls:=.type "tuple_iterator",data:=.fields #[.ref l1,.int 0 0] },g,d,tk,os⟩) l2 ys:=Heap.IsTuple.push q2 _
  wp_walk using zG T1,zG T2
  exact⟨_,rfl,h⟩
section
variable{prog:bR}{w:World}{A:Around}{E:Zc}{s:Shared}
theorem BC{l1 l2:Addr}{xs ys:Array Value}{Q:Zc}(t1:s.heap.IsTuple l1 xs)(t2:s.heap.IsTuple l2 ys)
  (k:∀h',IsZip h' (s.heap.objs.size+4) (s.heap.objs.size+2) (s.heap.objs.size+3) .none->IsPair h' (s.heap.objs.size+2) (.ref s.heap.objs.size) (.ref (s.heap.objs.size+1)) ->
   IsPair h' (s.heap.objs.size+3) .none .none->h'.IsTupleIter s.heap.objs.size l1 0->h'.IsTupleIter (s.heap.objs.size+1) l2 0->(∀c o,s.heap.get? c=some o->h'.get? c=some o)->Q (.ref (s.heap.objs.size+4)) { s with heap:=h' }) :
  wpAny (model prog w) A (call (.type "zip") [.ref l1,.ref l2]) Q E s:=by
 refine callType_new F.called_zip (by decide) (F.typeCall_zip_2 _ _) (F.newCall_zip_2 _ _) (fun obj=>F.args_object_init_3 obj _ _) F.entry_zip_new
  (yG l1 l2 xs ys) ⟨t1,t2,?_⟩
 have z1:(GW s.heap l1).objs.size=s.heap.objs.size+1:=o9 ..;have z2:(GV s.heap l1 l2).objs.size=s.heap.objs.size+2:=by rw[o9,z1]
 have z3:(GU s.heap l1 l2).objs.size=s.heap.objs.size+3:=by rw[o9,z2]
 have z4:(GS s.heap l1 l2).objs.size=s.heap.objs.size+4:=by rw[o9,z3]
 have g5:(F_ s.heap l1 l2).get? (GS s.heap l1 l2).objs.size=some _:=c8 _ rfl;have g4:(F_ s.heap l1 l2).get? (GU s.heap l1 l2).objs.size=some _:=bC _ (c8 _ rfl);have g3:(F_ s.heap l1 l2).get? (GV s.heap l1 l2).objs.size=some _:=bC _ (bC _ (c8 _ rfl));have g2:(F_ s.heap l1 l2).get? (GW s.heap l1).objs.size=some _:=bC _ (bC _ (bC _ (c8 _ rfl)));have g1:(F_ s.heap l1 l2).get? s.heap.objs.size=some _:=bC _ (bC _ (bC _ (bC _ (c8 _ rfl))));show _/\_;rw[z2,z3,z4]at g5;rw[z1,z2]at g3;rw[z3]at g4;rw[z1]at g2;rw[z4];exact⟨⟨_,g5,rfl⟩,k _ g5 g3 g4 ⟨_,g1,rfl,rfl⟩ ⟨_,g2,rfl,rfl⟩ fun c o x =>
  bC _ (bC _ (bC _ (bC _ (bC _ x))))⟩
end
def DB(K:Za)(a b:Addr):It :=
  ⟨fun i H=>∃xs ys x y,aY K H a xs/\aY K H b ys/\xs[i]?=some x/\ys[i]?=some y,
   fun i H x H'=>∃p u v,x=.ref p/\H p=none/\(∀xs,aY K H a xs->xs[i]?=some u)/\(∀ys,aY K H b ys->ys[i]?=some v)/\H'=upd H p (.tup [u,v]),
   fun i H=>∃xs ys,aY K H a xs/\aY K H b ys/\(xs.length<=i∨ys.length<=i)⟩
theorem AN{P:bR}{w:World}{K:Za}{es:List Expr}{kx:Nat}{J7:Pos}(a b z TI TO i1 i2:Addr)(D:n_ z TI TO i1 i2 a b):
  rW P w K (.Tuple es kx J7) (DB K a b) [z,TI,TO,i1,i2] z (fun i h=>IsZip h z TI TO .none/\IsPair h TI (.ref i1) (.ref i2)/\(∃a b,IsPair h TO a b)/\h.IsTupleIter i1 a i/\h.IsTupleIter i2 b i) where
 mem:=by simp
 obj:=fun i h st c hc=>by
  obtain⟨hz,hTI,⟨u,v,hTO⟩,h1,h2⟩:=st;simp only[cv,qk,or_false]at hc;rcases hc with rfl|rfl|rfl|rfl|rfl
  ·exact⟨_,hz,fun v z=>by cases z⟩
  ·exact⟨_,hTI,fun v z=>by cases z⟩
  ·exact⟨_,hTO,fun v z=>by cases z⟩
  ·obtain⟨o,e,c,d⟩:=h1;exact⟨o,e,fun v z=>by rw[d]at z;cases z⟩
  ·obtain⟨o,e,c,d⟩:=h2;exact⟨o,e,fun v z=>by rw[d]at z;cases z⟩
 keep:=fun i h h' st k=>by
  obtain⟨hz,hTI,⟨u,v,hTO⟩,⟨o1,e1,r1⟩,⟨o2,e2,r2⟩⟩:=st;exact⟨k z (by simp) _ hz,k TI (by simp) _ hTI,⟨u,v,k TO (by simp) _ hTO⟩,⟨o1,k i1 (by simp) o1 e1,r1⟩,⟨o2,k i2 (by simp) o2 e2,r2⟩⟩
 item:=by
  intro X hP hw hK hc i J3 s σ H E I hf st hg;subst hP hw hK;obtain⟨hz,hTI,⟨u0,v0,hTO⟩,h1,h2⟩:=st;obtain⟨xs,ys,x,y,hqx,hqy,hx,hy⟩:=hg;obtain⟨its,rx,px,zx⟩:=I.tuple hqx;obtain⟨jts,ry,py,zy⟩:=I.tuple hqy;obtain⟨u,hu,ru⟩:=rx.get hx;obtain⟨v,hv,rv⟩:=ry.get hy;refine sW D hz hTI hTO h1 h2 (xs:=its.toArray) (ys:=jts.toArray) px py (x:=u) (y:=v) (by simpa using hu) (by simpa using hv) fun h' a1 a2 a3 a4 a5 a6 hk=>?_;refine⟨_,rfl,wpAny_letOwnedTupleGo_zip (s:={ s with heap:=h' }) a1 fun h2' hz2 hs2=>?_⟩;have hs2':iE z h' h2':=hs2;have nsz:s.heap.objs.size≠z:=gE (bo hz);have nsTO:s.heap.objs.size≠TO:=gE (bo hTO);have nsTI:s.heap.objs.size≠TI:=gE (bo hTI);have nsi1:s.heap.objs.size≠i1:=by obtain⟨o,ho,_⟩:=h1;exact gE (bo ho)
  have nsi2:s.heap.objs.size≠i2:=by obtain⟨o,ho,_⟩:=h2;exact gE (bo ho)
  have ht2:IsPair h2' s.heap.objs.size u v:=hs2'.extBut _ _ nsz a5;have I2:Inv X J3 σ (upd H s.heap.objs.size (.tup [x,y])) { s with heap:=h2',toks:=s.toks }:=by
   refine I.turnedNew (ch:=[z,TI,TO,i1,i2]) hf (fun c o hc q=>?_) ⟨_,ht2⟩ (fun _ z=>nomatch z) ⟨by show 2<=ah;decide,[u,v],.cons ru (.cons rv .nil),⟨_,ht2,rfl,_,rfl⟩⟩;have n1:c≠z:=fun q=>hc (by simp[q]);exact hs2'.extBut _ _ n1 (hk c o n1 (fun q=>hc (by simp[q])) (fun q=>hc (by simp[q])) (fun q=>hc (by simp[q])) q)
  have a3':h2'.IsTupleIter i1 a (i+1):=by obtain⟨o,e,r⟩:=a3;exact⟨o,hs2'.extBut _ _ D.i1z e,r⟩
  have a4':h2'.IsTupleIter i2 b (i+1):=by obtain⟨o,e,r⟩:=a4;exact⟨o,hs2'.extBut _ _ D.i2z e,r⟩
  refine⟨.ref s.heap.objs.size,_,I2,rfl,⟨_,x,y,rfl,I.fresh,fun zs hz=>by rw[I.tuple_inj hz hqx];exact hx,fun zs hz=>by rw[I.tuple_inj hz hqy];exact hy,rfl⟩,⟨hz2,hs2'.extBut _ _ D.TIz (hk _ _ D.TIz D.TITO D.TIi1 D.TIi2 hTI),⟨_,_,hs2'.extBut _ _ D.TOz a2⟩,a3',a4'⟩,fun c hc=>?_⟩;have hcn:=(hf c hc).1;simp only[cv,qk,or_false]at hc;have ne:c≠s.heap.objs.size:=by
   rcases hc with rfl|rfl|rfl|rfl|rfl
   ·exact nsz.symm
   ·exact nsTI.symm
   ·exact nsTO.symm
   ·exact nsi1.symm
   ·exact nsi2.symm
  rw[aj ne];exact hcn
 done:=by
  intro X hP hw hK hc i J3 s σ H E I hf st hg;subst hP hw hK;obtain⟨hz,hTI,⟨u0,v0,hTO⟩,h1,h2⟩:=st;obtain⟨xs,ys,hqx,hqy,hend⟩:=hg;obtain⟨its,rx,px,zx⟩:=I.tuple hqx;obtain⟨jts,ry,py,zy⟩:=I.tuple hqy;have lx:=rx.length;have ly:=ry.length;refine vC (I.ok.hd hc) D hz hTI hTO h1 h2 (xs:=its.toArray) (ys:=jts.toArray) px py (by rcases hend with q|q;exact .inl (by simp;omega);exact .inr (by simp;omega)) fun h' hk=>⟨rfl,?_⟩;have tr:∀c q,H c=some q->c∉[z,TI,TO,i1,i2]:=fun c q e m=>by rw[(hf c m).1]at e;cases e
  have kk:∀c o,c∉[z,TI,TO,i1,i2]->s.heap.get? c=some o->h'.get? c=some o:=fun c o hc q=>hk c o (fun q=>hc (by simp[q])) (fun q=>hc (by simp[q])) (fun q=>hc (by simp[q])) (fun q=>hc (by simp[q])) q;refine I.step (g':=s.gens) (d':=s.drawn) (t':=s.toks) (ch:=[z,TI,TO,i1,i2]) (fun c hc=>?_) (fun c o _ _ hc e _=>kk c o hc e) (fun c o _ _ hc e _=>⟨o.slots,kk c o hc e⟩) (fun _ _ _ _ n=>n) (fun c o hc e=>⟨o,kk c o hc e⟩) (fun _ _ e=>e) (fun _ _ _ e=>e) (fun c ps e=>⟨#[],by rw[e];simp⟩) (fun m hm=>?_) (fun c q e=>?_) I.bare
  ·obtain⟨f0,f1,f2,f3,f4,f5⟩:=hf c hc;exact⟨f3,f1,f4,f5⟩
  ·obtain⟨q,es',ep,ho,r⟩:=hm;exact⟨q,es',ep,kk _ q (fun z=>(hf _ z).2.1 rfl) ho,r⟩
  ·refine(I.hok c q e).stay (fun d v hd q'=>kk d v ?_ q') (fun _ q=>q) fun _ _ q=>q;rcases hd with z|z
   ·subst z;exact tr _ _ e
   ·exact tr _ _ z
 self:=fun _ _ _ _ _ st h=>uJ st.1 h
section
variable{X:Cx}{p pos:Pos}{es:List Expr}{kx:Nat}{J7:Pos}
def tZ(K:Za)(ta:TA):TI:=fun σ H R=>ta σ H fun vs H1=>∃a b,vs=[.ref a,.ref b]/\(((∃xs,aA K H1 a xs)/\(∃ys,aA K H1 b ys)/\R (GJ K a b) H1)∨((∃xs,aY K H1 a xs)/\(∃ys,aY K H1 b ys)/\R (DB K a b) H1))
theorem Aa{a b:Expr}{ta:TA}(hg:Gl X "zip")(hm:X.mg "zip"=none)(ha:PA X [a,b] ta)(hs:aQ [a,b] X.env=[(false,eval a X.env),(false,eval b X.env)]:=by rfl)(hs2:aQ [b] X.env=[(false,eval b X.env)]:=by rfl):
  PI X (.Tuple es kx J7) (.Call (.Name "zip" p) [a,b] [] pos) (tZ X.K ta):=by
 intro J3 s σ H R I h;refine Call_ (oP I hg hm boot_zip (zF (cr (ha pos J3 s σ H _ I h) fun us s1 ⟨vs,H1,I1,r1,q1⟩=>?_) (by rw[hs,hs2]) (by rw[hs2];rfl)));obtain⟨l1,l2,e,q⟩:=q1;subst e;obtain⟨u,v,rfl,ru,rv⟩:=vals2 r1;cases ru;cases rv;have fin:∀b∈[s1.heap.objs.size+4,s1.heap.objs.size+2,s1.heap.objs.size+3,s1.heap.objs.size,s1.heap.objs.size+1],mJ X J3 H1 b:=fun b hb=>by
  have hb':s1.heap.objs.size<=b:=by
   simp only[cv,qk,or_false]at hb;rcases hb with rfl|rfl|rfl|rfl|rfl<;>omega
  exact I1.fpOk hb' (I1.hok.fresh hb')
 rcases q with⟨⟨xs,hx⟩,⟨ys,hy⟩,q⟩|⟨⟨xs,hx⟩,⟨ys,hy⟩,q⟩
 ·obtain⟨its,rx,px,zx⟩:=I1.list hx;obtain⟨jts,ry,py,zy⟩:=I1.list hy;obtain⟨o1,n1,e1,_⟩:=id px;obtain⟨o2,n2,e2,_⟩:=id py;refine call_zip_2 px.isList py.isList fun h' a1 a2 a3 a4 a5 a6 hk=>?_;refine uJ (s:={ s1 with heap:=h' }) a1 ?_;have hk':∀b o,s1.heap.get? b=some o->h'.get? b=some o:=hk;have I2:Inv X J3 σ H1 { s1 with heap:=h' }:=I1.kept (t':=s1.toks) hk';exact⟨_,_,_,_,H1,rfl,I2,BY l1 l2 _ _ _ _ _ (zipApart_new (bo e1) (bo e2)),⟨a1,a2,⟨_,_,a3⟩,a4,a5⟩,fin,q⟩
 ·obtain⟨its,rx,px,zx⟩:=I1.tuple hx;obtain⟨jts,ry,py,zy⟩:=I1.tuple hy;obtain⟨o1,e1,_⟩:=id px;obtain⟨o2,e2,_⟩:=id py;refine BC (xs:=its.toArray) (ys:=jts.toArray) px py fun h' a1 a2 a3 a4 a5 hk=>?_;refine uJ (s:={ s1 with heap:=h' }) a1 ?_;have hk':∀b o,s1.heap.get? b=some o->h'.get? b=some o:=hk;have I2:Inv X J3 σ H1 { s1 with heap:=h' }:=I1.kept (t':=s1.toks) hk';exact⟨_,_,_,_,H1,rfl,I2,AN l1 l2 _ _ _ _ _ (zipApart_new (bo e1) (bo e2)),⟨a1,a2,⟨_,_,a3⟩,a4,a5⟩,fin,q⟩
end
inductive DT where
 |k (a:d6)
 |t (l:List DT)
 |s (l:List DT)
mutual
def Fn:(x y:DT)->Decidable (x=y)
 |.k a,.k b=>if h:a=b then Decidable.isTrue (by rw[h])else Decidable.isFalse fun e=>h (by injection e)
 |.t l,.t m=>match decDTs l m with
  |Decidable.isTrue h=>Decidable.isTrue (by rw[h])
  |Decidable.isFalse h=>Decidable.isFalse fun e=>h (by injection e)
 |.s l,.s m=>match decDTs l m with
  |Decidable.isTrue h=>Decidable.isTrue (by rw[h])
  |Decidable.isFalse h=>Decidable.isFalse fun e=>h (by injection e)
 |.k _,.t _=>Decidable.isFalse nofun
 |.k _,.s _=>Decidable.isFalse nofun
 |.t _,.k _=>Decidable.isFalse nofun
 |.t _,.s _=>Decidable.isFalse nofun
 |.s _,.k _=>Decidable.isFalse nofun
 |.s _,.t _=>Decidable.isFalse nofun
def decDTs:(x y:List DT)->Decidable (x=y)
 |[],[]=>Decidable.isTrue rfl
 |[],_::_=>Decidable.isFalse nofun
 |_::_,[]=>Decidable.isFalse nofun
 |a::l,b::m=>match Fn a b with
  |Decidable.isTrue h=>match decDTs l m with
   |Decidable.isTrue h'=>Decidable.isTrue (by rw[h,h'])
   |Decidable.isFalse h'=>Decidable.isFalse fun e=>h' (by injection e)
  |Decidable.isFalse h=>Decidable.isFalse fun e=>h (by injection e)
end
instance:DecidableEq DT:=Fn
mutual
def DT.depth:DT->Nat
 |.k _=>0
 |.t l=>DT.depths l+1
 |.s l=>DT.depths l+1
def DT.depths:List DT->Nat
 |[]=>0
 |a::r=>max (DT.depth a) (DT.depths r)
end
mutual
def p8(h:Heap):DT->Value->Prop
 |.k a,v=>cq a v=true
 |.t l,v=>∃a items,v=.ref a/\h.IsTuple a items/\DAts h l items.toList
 |.s l,v=>∃a items,v=.ref a/\h.IsList a items/\DAts h l items.toList
def DAts(h:Heap):List DT->List Value->Prop
 |[],vs=>vs=[]
 |k::r,vs=>∃v us,vs=v::us/\p8 h k v/\DAts h r us
end
theorem DAts.length{h:Heap}:∀{xs:List DT}{vs:Zf},DAts h xs vs->xs.length=vs.length
 |[],vs,e=>by have e':vs=[]:=e;rw[e'];rfl
 |x::xs,vs,e=>by
  obtain⟨v,us,rfl,_,h2⟩:=e;simp[DAts.length h2]
theorem DAts.get{h:Heap}:∀{xs:List DT}{vs:Zf}{i:Nat}{v:Value},DAts h xs vs->vs[i]?=some v->∃x,xs[i]?=some x/\p8 h x v
 |[],vs,i,v,e,q=>by have e':vs=[]:=e;subst e';simp at q
 |x::xs,vs,i,v,e,q=>by
  obtain⟨u,us,rfl,h1,h2⟩:=e;cases i with
  |zero =>
   simp at q;subst q;exact⟨x,rfl,h1⟩
  |succ i =>
   obtain⟨y,e1,e2⟩:=DAts.get h2 (i:=i) (v:=v) (by simpa using q);exact⟨y,by simpa using e1,e2⟩
theorem DT.depths_get{l:List DT}{x:DT}{i d:Nat}(h:DT.depths l<=d)(e:l[i]?=some x):x.depth<=d:=by
 induction l generalizing i with
 |nil=>simp at e
 |cons a r ih =>
  have h':max a.depth (DT.depths r)<=d:=h;cases i with
  |zero=>simp at e;subst e;omega
  |succ i=>exact ih (by omega) (by simpa using e)
theorem yP{h:Heap}{a:Addr}{i j:Array Value}(x:h.IsList a i)(y:h.IsList a j):i=j:=by
 obtain⟨o,ho,_,n,hd⟩:=x;obtain⟨o',ho',_,n',hd'⟩:=y;rw[ho]at ho';cases ho';rw[hd]at hd';injection hd'
theorem xo{h:Heap}{a:Addr}{i j:Array Value}(x:h.IsTuple a i)(y:h.IsTuple a j):i=j:=by
 obtain⟨o,ho,_,n,hd⟩:=x;obtain⟨o',ho',_,n',hd'⟩:=y;rw[ho]at ho';cases ho';rw[hd]at hd';injection hd'
theorem jh{h:Heap}{a:Addr}{i j:Array Value}(x:h.IsList a i)(y:h.IsTuple a j):False:=by
 obtain⟨o,ho,hc,_⟩:=x;obtain⟨o',ho',hc',_⟩:=y;rw[ho]at ho';cases ho';rw[hc]at hc';simp at hc'
theorem tX{a b:d6}{v:Value}(h1:cq a v=true)(h2:cq b v=true):a=b:=by
 rcases av h1 with⟨i,t,rfl,rfl⟩|⟨i,t,rfl,rfl⟩
 ·rcases av h2 with⟨j,u,rfl,e⟩|⟨j,u,rfl,e⟩
  ·cases e;rfl
  ·cases e
 ·rcases av h2 with⟨j,u,rfl,e⟩|⟨j,u,rfl,e⟩
  ·cases e
  ·cases e;rfl
theorem hC{a:d6}{b:Addr}(h:cq a (.ref b)=true):False:=by
 rcases av h with⟨_,_,_,e⟩|⟨_,_,_,e⟩<;>cases e
theorem p8.inj{h:Heap}:∀(d:Nat) {x y:DT}{v:Value},x.depth<=d->p8 h x v->p8 h y v->x=y:=by
 have key:∀(d:Nat) (ih:∀{x y:DT}{v:Value},x.depth<=d->p8 h x v->p8 h y v->x=y) (xs ys:List DT) (vs:Zf),DT.depths xs<=d->DAts h xs vs->DAts h ys vs->xs=ys:=by
  intro d ih xs
  induction xs with
  |nil =>
   intro ys vs _ hx hy;have hx':vs=[]:=hx;subst hx';cases ys with
   |nil=>rfl
   |cons y ys=>obtain⟨_,_,e,_⟩:=hy;cases e
  |cons x xs ihl =>
   intro ys vs hd hx hy;obtain⟨v,us,rfl,hx1,hx2⟩:=hx;cases ys with
   |nil=>have hy':v::us=[]:=hy;cases hy'
   |cons y ys =>
    obtain⟨v',us',e,hy1,hy2⟩:=hy;cases e;have hd':max x.depth (DT.depths xs)<=d:=hd;rw[ih (by omega) hx1 hy1,ihl ys us (by omega) hx2 hy2]
 intro d
 induction d with
 |zero =>
  intro x y v hd hx hy;cases x with
  |t l=>exact absurd hd (by show ¬(DT.depths l+1<=0);omega)
  |s l=>exact absurd hd (by show ¬(DT.depths l+1<=0);omega)
  |k a =>
   cases y with
   |k b=>rw[tX hx hy]
   |t l=>obtain⟨b,_,rfl,_⟩:=hy;exact(hC hx).elim
   |s l=>obtain⟨b,_,rfl,_⟩:=hy;exact(hC hx).elim
 |succ d ih =>
  intro x y v hd hx hy;cases x with
  |k a =>
   cases y with
   |k b=>rw[tX hx hy]
   |t l=>obtain⟨b,_,rfl,_⟩:=hy;exact(hC hx).elim
   |s l=>obtain⟨b,_,rfl,_⟩:=hy;exact(hC hx).elim
  |t l =>
   obtain⟨a,i,rfl,hi,hx⟩:=hx;cases y with
   |k b=>exact(hC hy).elim
   |t m =>
    obtain⟨a',j,e,hj,hy⟩:=hy;cases e;rw[xo hj hi]at hy;rw[key d (fun h1=>ih h1) l m i.toList (by have:DT.depths l+1<=d+1:=hd;omega) hx hy]
   |s m =>
    obtain⟨a',j,e,hj,hy⟩:=hy;cases e;exact(jh hj hi).elim
  |s l =>
   obtain⟨a,i,rfl,hi,hx⟩:=hx;cases y with
   |k b=>exact(hC hy).elim
   |s m =>
    obtain⟨a',j,e,hj,hy⟩:=hy;cases e;rw[yP hj hi]at hy;rw[key d (fun h1=>ih h1) l m i.toList (by have:DT.depths l+1<=d+1:=hd;omega) hx hy]
   |t m =>
    obtain⟨a',j,e,hj,hy⟩:=hy;cases e;exact(jh hi hj).elim
theorem fK{l m:List DT}(hl:l.length=m.length):((hJ l.length).all fun j=>decide (l[j]?=m[j]?))=decide (l=m):=by
 by_cases e:l=m
 ·subst e;simp
 ·rw[zzr0 e];rw[List.all_eq_false];apply Classical.byContradiction;intro h;apply e;apply List.ext_getElem?;intro i;by_cases hi:i<l.length
  ·apply Classical.byContradiction;intro hne;exact h ⟨i,List.mem_range.mpr hi,by simpa using hne⟩
  ·rw[List.getElem?_eq_none (by omega),List.getElem?_eq_none (by omega)]
section
variable{s:Shared}
theorem Fi:∀(d:Nat) {A:Around}{x y:DT}{u v:Value},x.depth<=d->y.depth<=d->A.units+d<cLine->p8 s.heap x u->p8 s.heap y v->bj A s u v (decide (x=y)):=by
 have leaves:∀{A:Around}{a b:d6}{u v:Value},cq a u=true->cq b v=true->bj A s u v (decide (DT.k a=DT.k b)):=by
  intro A a b u v h1 h2;have hd:decide (DT.k a=DT.k b)=decide (a=b):=by
   by_cases e:a=b
   ·subst e;simp
   ·have:¬(DT.k a=DT.k b):=fun z=>e (by injection z);rw[zzr0 this,zzr0 e]
  rw[hd];rcases av h1 with⟨i,t,rfl,rfl⟩|⟨i,t,rfl,rfl⟩
  ·rcases av h2 with⟨j,u,rfl,rfl⟩|⟨j,u,rfl,rfl⟩
   ·rw[vJ];exact bj.int_int i t j u
   ·rw[vI];exact bj.int_str i t j u
  ·rcases av h2 with⟨j,u,rfl,rfl⟩|⟨j,u,rfl,rfl⟩
   ·rw[vH];exact bj.str_int i t j u
   ·rw[vG];have:=bj.str_str (A:=A) (s:=s) i t j u;rwa[show(i==j)=decide (i=j)from by by_cases e:i=j<;>simp[e]]at this
 have kt:∀{A:Around}{a:d6}{u:Value}{b:Addr}{items:Array Value},A.units<cLine->cq a u=true->s.heap.IsTuple b items->bj A s u (.ref b) false/\bj A s (.ref b) u false:=by
  intro A a u b items hu h1 ht;rcases av h1 with⟨i,t,rfl,rfl⟩|⟨i,t,rfl,rfl⟩
  ·exact⟨bj.int_tuple i t ht hu,bj.tuple_int i t ht hu⟩
  ·exact⟨bj.str_tuple i t ht hu,bj.tuple_str i t ht hu⟩
 have kl:∀{A:Around}{a:d6}{u:Value}{b:Addr}{items:Array Value},A.units<cLine->cq a u=true->s.heap.IsList b items->bj A s u (.ref b) false/\bj A s (.ref b) u false:=by
  intro A a u b items hu h1 ht;rcases av h1 with⟨i,t,rfl,rfl⟩|⟨i,t,rfl,rfl⟩
  ·exact⟨bj.int_list i t ht hu,bj.list_int i t ht hu⟩
  ·exact⟨bj.str_list i t ht hu,bj.list_str i t ht hu⟩
 intro d
 induction d with
 |zero =>
  intro A x y u v hdx hdy hu hx hy;cases x with
  |t l=>exact absurd hdx (by show ¬(DT.depths l+1<=0);omega)
  |s l=>exact absurd hdx (by show ¬(DT.depths l+1<=0);omega)
  |k a =>
   cases y with
   |t l=>exact absurd hdy (by show ¬(DT.depths l+1<=0);omega)
   |s l=>exact absurd hdy (by show ¬(DT.depths l+1<=0);omega)
   |k b=>exact leaves hx hy
 |succ d ih =>
  intro A x y u v hdx hdy hu hx hy;have items:∀{l m:List DT}{i j:Array Value},DT.depths l<=d->DT.depths m<=d->DAts s.heap l i.toList->DAts s.heap m j.toList->∀n (h1:n<i.size) (h2:n<j.size),bj A.in1 s i[n] j[n] (decide (l[n]?=m[n]?)):=by
   intro l m i j hl hm hi hj n h1 h2;obtain⟨x,ex,hx⟩:=hi.get (i:=n) (v:=i[n]) (by simp[h1]);obtain⟨y,ey,hy⟩:=hj.get (i:=n) (v:=j[n]) (by simp[h2]);rw[ex,ey];have hd:decide ((some x:Option DT)=some y)=decide (x=y):=by
    by_cases e:x=y
    ·subst e;simp
    ·rw[zzr0 e,zzr0 fun z=>e (ef z)]
   rw[hd];exact ih (DT.depths_get hl ex) (DT.depths_get hm ey) (by show A.units+1+d<cLine;omega) hx hy
  cases x with
  |k a =>
   cases y with
   |k b=>exact leaves hx hy
   |t l =>
    obtain⟨b,i,rfl,hi,_⟩:=hy;rw[zzr0 (by intro z;cases z)];exact(kt (by omega) hx hi).1
   |s l =>
    obtain⟨b,i,rfl,hi,_⟩:=hy;rw[zzr0 (by intro z;cases z)];exact(kl (by omega) hx hi).1
  |t l =>
   have hl:DT.depths l<=d:=by have:DT.depths l+1<=d+1:=hdx;omega
   have hx0:=hx;obtain⟨a,i,rfl,hi,hx⟩:=hx;cases y with
   |k b =>
    rw[zzr0 (by intro z;cases z)];exact(kt (by omega) hy hi).2
   |s m =>
    obtain⟨b,j,rfl,hj,_⟩:=hy;rw[zzr0 (by intro z;cases z)];exact bj.tuple_list hi hj (by omega)
   |t m =>
    have hm:DT.depths m<=d:=by have:DT.depths m+1<=d+1:=hdy;omega
    have hy0:=hy;obtain⟨b,j,rfl,hj,hy⟩:=hy;by_cases hab:a=b
    ·subst hab;have e:DT.t l=DT.t m:=p8.inj _ (aH _) hx0 hy0;rw[zzr1 e];exact bj.same _
    ·have r:=SeqAt.RcAt.tuples (A:=A) hi hj (by omega) (items hl hm hx hy);have li:=hx.length;have lj:=hy.length;simp only[j8]at li lj;have q:((hJ (min i.size j.size)).all (fun n=>decide (l[n]?=m[n]?)) && i.size==j.size)=decide (DT.t l=DT.t m):=by
      by_cases e:l.length=m.length
      ·have e1:i.size=j.size:=by omega
       rw[<-e1,Nat.min_self,<-li,fK e];by_cases e2:l=m
       ·subst e2;simp
       ·have:¬(DT.t l=DT.t m):=fun z=>e2 (by injection z);rw[zzr0 this,zzr0 e2];rfl
      ·have e1:(i.size==j.size)=false:=by simp;omega
       have:¬(DT.t l=DT.t m):=fun z=>e (by injection z with z;rw[z]);rw[e1,zzr0 this,uO]
     rw[q]at r;exact .of_refs hab r
  |s l =>
   have hl:DT.depths l<=d:=by have:DT.depths l+1<=d+1:=hdx;omega
   have hx0:=hx;obtain⟨a,i,rfl,hi,hx⟩:=hx;cases y with
   |k b =>
    rw[zzr0 (by intro z;cases z)];exact(kl (by omega) hy hi).2
   |t m =>
    obtain⟨b,j,rfl,hj,_⟩:=hy;rw[zzr0 (by intro z;cases z)];exact bj.list_tuple hi hj (by omega)
   |s m =>
    have hm:DT.depths m<=d:=by have:DT.depths m+1<=d+1:=hdy;omega
    have hy0:=hy;obtain⟨b,j,rfl,hj,hy⟩:=hy;by_cases hab:a=b
    ·subst hab;have e:DT.s l=DT.s m:=p8.inj _ (aH _) hx0 hy0;rw[zzr1 e];exact bj.same _
    ·have li:=hx.length;have lj:=hy.length;simp only[j8]at li lj;by_cases e:l.length=m.length
     ·have r:=SeqAt.RcAt.lists (A:=A) hi hj (by omega) (by omega) (items hl hm hx hy);rw[<-li,fK e]at r;have q:decide (l=m)=decide (DT.s l=DT.s m):=by
       by_cases e2:l=m
       ·subst e2;simp
       ·have:¬(DT.s l=DT.s m):=fun z=>e2 (by injection z);rw[zzr0 this,zzr0 e2]
      rw[q]at r;exact .of_refs hab r
     ·have:¬(DT.s l=DT.s m):=fun z=>e (by injection z with z;rw[z]);rw[zzr0 this];exact .of_refs hab (SeqAt.RcAt.lists_lengths hi hj (by simp;omega) (by omega))
end
theorem Az(a b:d6):decide (DT.k a=DT.k b)=decide (a=b):=by
 by_cases e:a=b
 ·subst e;simp
 ·rw[zzr0 e,zzr0 fun z=>e (by injection z)]
theorem Fj(l m:List DT):decide (DT.t l=DT.t m)=decide (l=m):=by
 by_cases e:l=m
 ·subst e;simp
 ·rw[zzr0 e,zzr0 fun z=>e (by injection z)]
theorem Fk(l m:List DT):decide (DT.s l=DT.s m)=decide (l=m):=by
 by_cases e:l=m
 ·subst e;simp
 ·rw[zzr0 e,zzr0 fun z=>e (by injection z)]
theorem Dl(x y:DT):decide ((some x:Option DT)=some y)=decide (x=y):=by
 by_cases e:x=y
 ·subst e;simp
 ·rw[zzr0 e,zzr0 fun z=>e (ef z)]
section
variable{A:Around}{s:Shared}
theorem nH{d:Nat}(hu:A.units+1+d<cLine){l m:List DT}{i j:Array Value}(hl:DT.depths l<=d)(hm:DT.depths m<=d)(hi:DAts s.heap l i.toList)(hj:DAts s.heap m j.toList):
  ∀n (h1:n<i.size) (h2:n<j.size),bj A.in1 s i[n] j[n] (decide (l[n]?=m[n]?)):=by
 intro n h1 h2;obtain⟨x,ex,hx⟩:=hi.get (i:=n) (v:=i[n]) (by simp[h1]);obtain⟨y,ey,hy⟩:=hj.get (i:=n) (v:=j[n]) (by simp[h2]);rw[ex,ey,Dl];exact Fi d (DT.depths_get hl ex) (DT.depths_get hm ey) hu hx hy
theorem zV{l m:List DT}{i j:Array Value}(hi:DAts s.heap l i.toList)(hj:DAts s.heap m j.toList):((hJ (min i.size j.size)).all (fun n=>decide (l[n]?=m[n]?)) && i.size==j.size)=decide (l=m):=by
 have li:=hi.length;have lj:=hj.length;simp only[j8]at li lj;by_cases e:l.length=m.length
 ·have e1:i.size=j.size:=by omega
  rw[<-e1,Nat.min_self,<-li,fK e];simp
 ·have e1:(i.size==j.size)=false:=by simp;omega
  rw[e1,zzr0 fun z=>e (by rw[z]),uO]
theorem Gz{x y:DT}{u v:Value}(dx:x.depth<=8)(dy:y.depth<=8)(hu:A.units+16<cLine)(hx:p8 s.heap x u)(hy:p8 s.heap y v):SeqAt.RcAt A s u v (decide (x=y)):=by
 cases x with
 |k a =>
  rcases av (show cq a u=true from hx)with⟨i,t,rfl,rfl⟩|⟨i,t,rfl,rfl⟩
  ·cases y with
   |k b =>
    rw[Az];rcases av (show cq b v=true from hy)with⟨j,t',rfl,rfl⟩|⟨j,t',rfl,rfl⟩
    ·rw[vJ];exact SeqAt.RcAt.int_int i t j t'
    ·rw[vI];exact SeqAt.RcAt.int_str i t j t'
   |t m=>obtain⟨b,j,rfl,hj,_⟩:=hy;rw[zzr0 (by intro z;cases z)];exact SeqAt.RcAt.int_tuple i t hj (by omega)
   |s m=>obtain⟨b,j,rfl,hj,_⟩:=hy;rw[zzr0 (by intro z;cases z)];exact SeqAt.RcAt.int_list i t hj (by omega)
  ·cases y with
   |k b =>
    rw[Az];rcases av (show cq b v=true from hy)with⟨j,t',rfl,rfl⟩|⟨j,t',rfl,rfl⟩
    ·rw[vH];exact SeqAt.RcAt.str_int i t j t'
    ·rw[vG];have:=SeqAt.RcAt.str_str (A:=A) (s:=s) i t j t';rwa[show(i==j)=decide (i=j)from by by_cases e:i=j<;>simp[e]]at this
   |t m=>obtain⟨b,j,rfl,hj,_⟩:=hy;rw[zzr0 (by intro z;cases z)];exact SeqAt.RcAt.str_tuple i t hj (by omega)
   |s m=>obtain⟨b,j,rfl,hj,_⟩:=hy;rw[zzr0 (by intro z;cases z)];exact SeqAt.RcAt.str_list i t hj (by omega)
 |t l =>
  obtain⟨a,i,rfl,hi,hx⟩:=hx;have dl:DT.depths l<=7:=by have:DT.depths l+1<=8:=dx;omega
  cases y with
  |k b =>
   rw[zzr0 (by intro z;cases z)];rcases av (show cq b v=true from hy)with⟨j,t',rfl,rfl⟩|⟨j,t',rfl,rfl⟩
   ·exact SeqAt.RcAt.tuple_int j t' hi (by omega)
   ·exact SeqAt.RcAt.tuple_str j t' hi (by omega)
  |t m =>
   obtain⟨b,j,rfl,hj,hy⟩:=hy;have dm:DT.depths m<=7:=by have:DT.depths m+1<=8:=dy;omega
   have r:=SeqAt.RcAt.tuples (A:=A) hi hj (by omega) (nH (by omega) dl dm hx hy);rw[zV hx hy]at r;rw[Fj];exact r
  |s m=>obtain⟨b,j,rfl,hj,_⟩:=hy;rw[zzr0 (by intro z;cases z)];exact SeqAt.RcAt.tuple_list hi hj (by omega)
 |s l =>
  obtain⟨a,i,rfl,hi,hx⟩:=hx;have dl:DT.depths l<=7:=by have:DT.depths l+1<=8:=dx;omega
  cases y with
  |k b =>
   rw[zzr0 (by intro z;cases z)];rcases av (show cq b v=true from hy)with⟨j,t',rfl,rfl⟩|⟨j,t',rfl,rfl⟩
   ·exact SeqAt.RcAt.list_int j t' hi (by omega)
   ·exact SeqAt.RcAt.list_str j t' hi (by omega)
  |t m=>obtain⟨b,j,rfl,hj,_⟩:=hy;rw[zzr0 (by intro z;cases z)];exact SeqAt.RcAt.list_tuple hi hj (by omega)
  |s m =>
   obtain⟨b,j,rfl,hj,hy⟩:=hy;have dm:DT.depths m<=7:=by have:DT.depths m+1<=8:=dy;omega
   have li:=hx.length;have lj:=hy.length;simp only[j8]at li lj;rw[Fk];by_cases e:l.length=m.length
   ·have r:=SeqAt.RcAt.lists (A:=A) hi hj (by omega) (by omega) (nH (by omega) dl dm hx hy);rw[<-li,fK e]at r;exact r
   ·rw[zzr0 fun z=>e (by rw[z])];exact SeqAt.RcAt.lists_lengths hi hj (by simp;omega) (by omega)
theorem GA{x y:DT}{u v:Value}(dx:x.depth<=8)(dy:y.depth<=8)(hu:A.units+16<cLine)(hx:p8 s.heap x u)(hy:p8 s.heap y v):SeqAt.RcNeAt A s u v (!decide (x=y)):=by
 cases x with
 |k a =>
  rcases av (show cq a u=true from hx)with⟨i,t,rfl,rfl⟩|⟨i,t,rfl,rfl⟩
  ·cases y with
   |k b =>
    rw[Az];rcases av (show cq b v=true from hy)with⟨j,t',rfl,rfl⟩|⟨j,t',rfl,rfl⟩
    ·rw[vJ];exact SeqAt.RcNeAt.int_int i t j t'
    ·rw[vI];exact SeqAt.RcNeAt.int_str i t j t'
   |t m=>obtain⟨b,j,rfl,hj,_⟩:=hy;rw[zzr0 (by intro z;cases z)];exact SeqAt.RcNeAt.int_tuple i t hj (by omega)
   |s m=>obtain⟨b,j,rfl,hj,_⟩:=hy;rw[zzr0 (by intro z;cases z)];exact SeqAt.RcNeAt.int_list i t hj (by omega)
  ·cases y with
   |k b =>
    rw[Az];rcases av (show cq b v=true from hy)with⟨j,t',rfl,rfl⟩|⟨j,t',rfl,rfl⟩
    ·rw[vH];exact SeqAt.RcNeAt.str_int i t j t'
    ·rw[vG];have:=SeqAt.RcNeAt.str_str (A:=A) (s:=s) i t j t';rwa[show(i==j)=decide (i=j)from by by_cases e:i=j<;>simp[e]]at this
   |t m=>obtain⟨b,j,rfl,hj,_⟩:=hy;rw[zzr0 (by intro z;cases z)];exact SeqAt.RcNeAt.str_tuple i t hj (by omega)
   |s m=>obtain⟨b,j,rfl,hj,_⟩:=hy;rw[zzr0 (by intro z;cases z)];exact SeqAt.RcNeAt.str_list i t hj (by omega)
 |t l =>
  obtain⟨a,i,rfl,hi,hx⟩:=hx;have dl:DT.depths l<=7:=by have:DT.depths l+1<=8:=dx;omega
  cases y with
  |k b =>
   rw[zzr0 (by intro z;cases z)];rcases av (show cq b v=true from hy)with⟨j,t',rfl,rfl⟩|⟨j,t',rfl,rfl⟩
   ·exact SeqAt.RcNeAt.tuple_int j t' hi (by omega)
   ·exact SeqAt.RcNeAt.tuple_str j t' hi (by omega)
  |t m =>
   obtain⟨b,j,rfl,hj,hy⟩:=hy;have dm:DT.depths m<=7:=by have:DT.depths m+1<=8:=dy;omega
   have r:=SeqAt.RcNeAt.tuples (A:=A) hi hj (by omega) (nH (by omega) dl dm hx hy);rw[zV hx hy]at r;rw[Fj];exact r
  |s m=>obtain⟨b,j,rfl,hj,_⟩:=hy;rw[zzr0 (by intro z;cases z)];exact SeqAt.RcNeAt.tuple_list hi hj (by omega)
 |s l =>
  obtain⟨a,i,rfl,hi,hx⟩:=hx;have dl:DT.depths l<=7:=by have:DT.depths l+1<=8:=dx;omega
  cases y with
  |k b =>
   rw[zzr0 (by intro z;cases z)];rcases av (show cq b v=true from hy)with⟨j,t',rfl,rfl⟩|⟨j,t',rfl,rfl⟩
   ·exact SeqAt.RcNeAt.list_int j t' hi (by omega)
   ·exact SeqAt.RcNeAt.list_str j t' hi (by omega)
  |t m=>obtain⟨b,j,rfl,hj,_⟩:=hy;rw[zzr0 (by intro z;cases z)];exact SeqAt.RcNeAt.list_tuple hi hj (by omega)
  |s m =>
   obtain⟨b,j,rfl,hj,hy⟩:=hy;have dm:DT.depths m<=7:=by have:DT.depths m+1<=8:=dy;omega
   have li:=hx.length;have lj:=hy.length;simp only[j8]at li lj;rw[Fk];by_cases e:l.length=m.length
   ·have r:=SeqAt.RcNeAt.lists (A:=A) hi hj (by omega) (by omega) (nH (by omega) dl dm hx hy);rw[<-li,fK e]at r;exact r
   ·rw[zzr0 fun z=>e (by rw[z])];exact SeqAt.RcNeAt.lists_lengths hi hj (by simp;omega) (by omega)
end
mutual
def gW(K:Za)(H:Hp):DT->V->Prop
 |.k a,v=>v=kV a
 |.t l,v=>∃b xs,v=.ref b/\aY K H b xs/\DIns K H l xs
 |.s l,v=>∃b xs,v=.ref b/\aA K H b xs/\DIns K H l xs
def DIns(K:Za)(H:Hp):List DT->List V->Prop
 |[],vs=>vs=[]
 |k::r,vs=>∃v us,vs=v::us/\gW K H k v/\DIns K H r us
end
section
variable{X:Cx}{J3:Zd}{σ:St}{H:Hp}{s:Shared}
theorem mx(I:Inv X J3 σ H s):∀(d:Nat) {k:DT}{v:V}{u:Value},k.depth<=d->gW X.K H k v->RelV v u->p8 s.heap k u:=by
 have key:∀(d:Nat) (ih:∀{k:DT}{v:V}{u:Value},k.depth<=d->gW X.K H k v->RelV v u->p8 s.heap k u) (ks:List DT) (vs:List V) (us:Zf),DT.depths ks<=d->DIns X.K H ks vs->bg vs us->DAts s.heap ks us:=by
  intro d ih ks
  induction ks with
  |nil =>
   intro vs us _ hx r;have e:vs=[]:=hx;subst e;cases r
   rfl
  |cons k ks ihl =>
   intro vs us hd hx r;obtain⟨v,vs',rfl,h1,h2⟩:=hx;cases r with
   |@cons _ u _ us' r1 r2 =>
    have hd':max k.depth (DT.depths ks)<=d:=hd;exact⟨u,us',rfl,ih (by omega) h1 r1,ihl vs' us' (by omega) h2 r2⟩
 intro d
 induction d with
 |zero =>
  intro k v u hd hx r;cases k with
  |t l=>exact absurd hd (by show ¬(DT.depths l+1<=0);omega)
  |s l=>exact absurd hd (by show ¬(DT.depths l+1<=0);omega)
  |k b =>
   have e:v=kV b:=hx;subst e;exact jg (P:=X.prog) (w:=X.w) r
 |succ d ih =>
  intro k v u hd hx r;cases k with
  |k b =>
   have e:v=kV b:=hx;subst e;exact jg (P:=X.prog) (w:=X.w) r
  |t l =>
   obtain⟨b,xs,rfl,hb,hi⟩:=hx;cases(show u=Value.ref b from r);obtain⟨its,rv,ht,_⟩:=I.tuple hb;exact⟨b,its.toArray,rfl,ht,by simpa using key d (fun h1=>ih h1) l xs its (by have:DT.depths l+1<=d+1:=hd;omega) hi rv⟩
  |s l =>
   obtain⟨b,xs,rfl,hb,hi⟩:=hx;cases(show u=Value.ref b from r);obtain⟨its,rv,ht,_⟩:=I.list hb;exact⟨b,its.toArray,rfl,ht.isList,by simpa using key d (fun h1=>ih h1) l xs its (by have:DT.depths l+1<=d+1:=hd;omega) hi rv⟩
theorem nK(I:Inv X J3 σ H s):∀{ks:List DT}{vs:List V}{us:Zf},DT.depths ks<=8->DIns X.K H ks vs->bg vs us->DAts s.heap ks us
 |[],vs,us,_,hx,r=>by
  have e:vs=[]:=hx;subst e;cases r
  rfl
 |k::ks,vs,us,hd,hx,r=>by
  obtain⟨v,vs',rfl,h1,h2⟩:=hx;cases r with
  |@cons _ u _ us' r1 r2 =>
   have hd':max k.depth (DT.depths ks)<=8:=hd;exact⟨u,us',rfl,mx I 8 (by omega) h1 r1,nK I (by omega) h2 r2⟩
end
def jG(K:Za):R2:=fun x y H Q=>∃d e:DT,gW K H d x/\gW K H e y/\d.depth<=8/\e.depth<=8/\Q (.bl (decide (d=e))) H
def j3(K:Za):R2:=fun x y H Q=>∃d e:DT,gW K H d x/\gW K H e y/\d.depth<=8/\e.depth<=8/\Q (.bl (!decide (d=e))) H
section
variable{X:Cx}
theorem eP(hu:X.A.units+16<cLine):mC X (eM .Eq) (jG X.K):=by
 intro J3 s σ H x y v u Q I rx ry h;obtain⟨d,e,hx,hy,dx,dy,q⟩:=h;exact Gz dx dy hu (mx I 8 dx hx rx) (mx I 8 dy hy ry) X.prog X.w X.xe _ ⟨.bl _,H,I,rfl,q⟩
theorem ik(hu:X.A.units+16<cLine):mC X (eM .NotEq) (j3 X.K):=by
 intro J3 s σ H x y v u Q I rx ry h;obtain⟨d,e,hx,hy,dx,dy,q⟩:=h;exact GA dx dy hu (mx I 8 dx hx rx) (mx I 8 dy hy ry) X.prog X.w X.xe _ ⟨.bl _,H,I,rfl,q⟩
def ny(K:Za)(neg:Bool):R2:=fun x y H Q=>∃(d:DT) (ds:List DT) (p:Addr) (xs:List V),gW K H d x/\y=.ref p/\(aA K H p xs∨aY K H p xs)/\DIns K H ds xs/\d.depth<=8/\DT.depths ds<=8/\Q (.bl (if neg then !decide (d∈ds)else decide (d∈ds))) H
open Classical in
theorem nN{h:Heap}{d:DT}(d8:d.depth<=8):∀{ds:List DT}{us:Zf},DAts h ds us->DT.depths ds<=8->us.any (fun u=>@decide (p8 h d u) (propDecidable _))=decide (d∈ds)
 |[],us,e,_=>by
  have e':us=[]:=e;subst e'
  rfl
 |x::ds,us,e,hd=>by
  obtain⟨u,us',rfl,h1,h2⟩:=e;have hd':max x.depth (DT.depths ds)<=8:=hd;rw[oj,nN d8 h2 (by omega)];by_cases q:d=x
  ·subst q;simp[h1]
  ·have n:¬p8 h d u:=fun z=>q (p8.inj 8 d8 z h1);simp[n,q]
open Classical in
theorem rA{A:Around}{s:Shared}{d:DT}{v:Value}(d8:d.depth<=8)(hu:A.units+8<cLine)(hd:p8 s.heap d v):∀{ds:List DT}{us:Zf},DAts s.heap ds us->DT.depths ds<=8->∀u∈us,bj A s u v (@decide (p8 s.heap d u) (propDecidable _))
 |[],us,e,_,u,hm=>by
  have e':us=[]:=e;subst e';cases hm
 |x::ds,us,e,h8,u,hm=>by
  obtain⟨u',us',rfl,h1,h2⟩:=e;have h8':max x.depth (DT.depths ds)<=8:=h8;rcases cv.mp hm with rfl|hm
  ·have q:=Fi 8 (A:=A) (by omega) d8 hu h1 hd;by_cases z:x=d
   ·subst z;rw[zzr1 h1];rwa[zzr1 rfl]at q
   ·have n:¬p8 s.heap d u:=fun w=>z (p8.inj 8 d8 w h1).symm;rw[zzr0 n];rwa[zzr0 z]at q
  ·exact rA d8 hu hd h2 (by omega) u hm
theorem vz(hu:X.A.units+16<cLine):mC X (eM .In) (ny X.K false):=by
 intro J3 s σ H x y v u Q I rx ry h;obtain⟨d,ds,p,xs,hx,rfl,hq,hds,d8,ds8,q⟩:=h;cases ry;have hd:=mx I 8 d8 hx rx;have hu':X.A.in1.units+8<cLine:=by show X.A.units+1+8<cLine;omega
 rcases hq with hq|hq
 ·obtain⟨its,r,pl,hz⟩:=I.list hq;have hi:=nK I ds8 hds r;refine SeqAt.in_listAt _ pl.isList (fun w hw=>rA d8 hu' hd hi ds8 w (by simpa using hw)) ⟨.bl _,H,I,rfl,?_⟩;rw[uA,nN d8 hi ds8];exact q
 ·obtain⟨its,r,pl,hz⟩:=I.tuple hq;have hi:=nK I ds8 hds r;refine SeqAt.in_tupleAt _ pl (fun w hw=>rA d8 hu' hd hi ds8 w (by simpa using hw)) ⟨.bl _,H,I,rfl,?_⟩;rw[uA,nN d8 hi ds8];exact q
theorem g9(hu:X.A.units+16<cLine):mC X (eM .NotIn) (ny X.K true):=by
 intro J3 s σ H x y v u Q I rx ry h;obtain⟨d,ds,p,xs,hx,rfl,hq,hds,d8,ds8,q⟩:=h;cases ry;have hd:=mx I 8 d8 hx rx;have hu':X.A.in1.units+8<cLine:=by show X.A.units+1+8<cLine;omega
 rcases hq with hq|hq
 ·obtain⟨its,r,pl,hz⟩:=I.list hq;have hi:=nK I ds8 hds r;refine SeqAt.notIn_listAt _ pl.isList (fun w hw=>rA d8 hu' hd hi ds8 w (by simpa using hw)) ⟨.bl _,H,I,rfl,?_⟩;rw[uA,nN d8 hi ds8];exact q
 ·obtain⟨its,r,pl,hz⟩:=I.tuple hq;have hi:=nK I ds8 hds r;refine SeqAt.notIn_tupleAt _ pl (fun w hw=>rA d8 hu' hd hi ds8 w (by simpa using hw)) ⟨.bl _,H,I,rfl,?_⟩;rw[uA,nN d8 hi ds8];exact q
end
def rM(z:Str)(lo hi:Option Int):Str:=⟨((z.cps.toList.drop (HT.sIx z.length 0 lo)).take (HT.sIx z.length z.length hi-HT.sIx z.length 0 lo)).toArray⟩
theorem sliceRange_one(a b:Nat):sliceRange (a:Int) (b:Int) 1=(hJ (b-a)).map (fun k=>a+k):=by
 unfold sliceRange;simp only[show(1:Int) > 0 from by decide,if_true];by_cases h:(a:Int)<(b:Int)
 ·have e:(if(a:Int)<(b:Int)then((b:Int)-a+1-1) / 1 else 0).toNat=b-a:=by rw[if_pos h];omega
  rw[e];exact qj fun k _=>by omega
 ·have e:(if(a:Int)<(b:Int)then((b:Int)-a+1-1) / 1 else 0).toNat=b-a:=by rw[if_neg h];omega
  rw[e];exact qj fun k _=>by omega
theorem xC(v:Option Int)(n d:Nat):(match v with|none=>(d:Int)|some i=>max 0 (min (if i<0 then i+(n:Int)else i) (n:Int)))=((HT.sIx n d v:Nat):Int):=by
 cases v with
 |none=>rfl
 |some i =>
  rw[<-HT.clip_eq i n d];dsimp only;by_cases h:i<0
  ·rw[if_pos h,if_pos h];omega
  ·rw[if_neg h,if_neg h];omega
theorem nk(lo hi:Option Int)(n:Nat):qi lo hi 1 n=(hJ (HT.sIx n n hi-HT.sIx n 0 lo)).map (fun k=>HT.sIx n 0 lo+k):=by
 have e1:=xC lo n 0;have e2:=xC hi n n;rw[<-sliceRange_one,<-e1,<-e2];unfold qi;simp only[show(1:Int) > 0 from by decide,if_true];cases lo<;>cases hi<;>rfl
theorem AZ(z:Str)(lo hi:Option Int):Txt.slice z lo hi=rM z lo hi:=by
 have ha:HT.sIx z.length 0 lo<=z.length:=HT.sIx_le _ _ (dL _) _;have hb:HT.sIx z.length z.length hi<=z.length:=HT.sIx_le _ _ (aH _) _;have hlen:z.cps.toList.length=z.length:=by simp[Str.length]
 have pick:(qi lo hi 1 z.length).filterMap (z.cps[·]?)=(z.cps.toList.drop (HT.sIx z.length 0 lo)).take (HT.sIx z.length z.length hi-HT.sIx z.length 0 lo):=by
  rw[nk];generalize HT.sIx z.length 0 lo=a at *;generalize HT.sIx z.length z.length hi=b at *;have h:=StrLaws.picks z.cps.toList (b-a) a (by omega);simpa using h
 unfold Txt.slice;by_cases h:((1:Int)==1 && (qi lo hi 1 z.length).length==z.length)=true
 ·rw[if_pos h];have hl:(qi lo hi 1 z.length).length=z.length:=by simpa using h
  rw[nk,ai,List.length_range]at hl;unfold rM;have a0:HT.sIx z.length 0 lo=0:=by omega
  have bn:HT.sIx z.length z.length hi-HT.sIx z.length 0 lo=z.cps.toList.length:=by omega
  rw[bn,a0,n6,bf]
 ·rw[if_neg h];unfold rM;rw[pick]
section
variable{X:Cx}
def Ek:V->Option Int->Option Int->Hp->VK->Prop:=fun x lo hi H Q=>∃z,x=.str z/\z.length<=ah/\Q (.str (rM z lo hi)) H
theorem yk:Dw X Ek:=by
 intro J3 s σ H x v vl vu lo hi sl Q I rx hs pl pu h;obtain⟨z,rfl,hz,q⟩:=h;obtain⟨t,rfl⟩:=rx;rw[<-AZ]at q;refine⟨"str",_,F.slot_str_getitem.lookup,typeIs_str _ _ _,?_⟩;obtain⟨o,ho,hc,hd⟩:=hs;have fin:∀(l u:Option (Int×Tok)),vl=partValue l->vu=partValue u->lo=l.map (·.1)->hi=u.map (·.1)->wpAny (model X.prog X.w) X.A (fU (.str z t) (.ref sl)) (EP X J3 σ Q) X.xe s:=by
  rintro l u rfl rfl rfl rfl;refine wpAny_getItem_str_slice (l:=l) (u:=u) (st:=none) ⟨o,ho,hc,hd⟩ rfl (post_val_or_str ⟨bh (Txt.slice_le z _ _) hz,fun t' k=>⟨.str _,H,I.tok _,⟨_,rfl⟩,q⟩⟩)
 cases pl with
 |none =>
  cases pu with
  |none=>exact fin none none rfl rfl rfl rfl
  |int j u=>exact fin none (some (j,u)) rfl rfl rfl rfl
 |int i t' =>
  cases pu with
  |none=>exact fin (some (i,t')) none rfl rfl rfl rfl
  |int j u=>exact fin (some (i,t')) (some (j,u)) rfl rfl rfl rfl
def Fc(K:Za):V->List V->Hp->VK->Prop:=fun x vs H Q=>∃z p ys,x=.str z/\vs=[.ref p]/\aA K H p (ys.map V.str)/\(ys.map (·.length)).sum+ys.length * z.length<=16777216/\Q (.str (uz z ys)) H
theorem DV{ys:Zb}:∀{us:Zf},bg (ys.map V.str) us->StrsAre us ys:=by
 induction ys with
 |nil=>intro us r;cases r;exact .nil
 |cons y ys ih =>
  intro us r;cases r with
  |cons r1 r2 =>
   obtain⟨t,rfl⟩:=r1;exact .cons _ _ (ih r2)
theorem EC:Ga X "str.join" (Fc X.K):=by
 intro J3 s σ H x vs v us Q I rx rv h;obtain⟨z,p,ys,rfl,rfl,hq,hz,q⟩:=h;obtain⟨t,rfl⟩:=rx;obtain⟨u,rfl,ru⟩:=rv.one;cases ru;obtain⟨its,r,pl,_⟩:=I.list hq;exact join_list pl.isList (by simpa using DV r) hz fun t' k=>⟨.str _,H,I.tok _,⟨_,rfl⟩,q⟩
end
section
variable{X:Cx}
def DH(K:Za)(H:Hp)(x:V)(t:Value):Prop:=gD K H x t∨(∃a xs,x=.ref a/\t=.type "tuple"/\aY K H a xs)∨(∃a xs,x=.ref a/\t=.type "list"/\aA K H a xs)
theorem yO{J3:Zd}{σ:St}{H:Hp}{s:Shared}{A:Around}{E:Zc}{Q:Zc}{c:Value}{b:Bool}{x:V}{u t:Value}(I:Inv X J3 σ H s)(rx:RelV x u)(ty:DH X.K H x t)(e:mQ X.K t c=some b)(h:∀tk,Q (.bool b) { s with toks:=tk }):
  wpAny (model X.prog X.w) A (call (.builtin "isinstance") [u,c]) Q E s:=by
 rcases ty with ty|⟨a,xs,rfl,rfl,q⟩|⟨a,xs,rfl,rfl,q⟩
 ·exact Bq I rx ty e h
 ·cases(show u=Value.ref a from rx);obtain⟨its,rv,p,hz⟩:=I.tuple q;obtain⟨o,h1,h2,_⟩:=p;exact fW PySem.W.kitx_tuple I.kIn ⟨o,h1,h2⟩ e (fun z=>nomatch z) h
 ·cases(show u=Value.ref a from rx);obtain⟨its,rv,p,hz⟩:=I.list q;obtain⟨o,n,h1,h2,_⟩:=p;exact fW PySem.W.kitx_list I.kIn ⟨o,h1,h2⟩ e (fun z=>nomatch z) h
theorem fI:fN X (.builtin "isinstance") (fun xs H Q=>∃x c t b,xs=[x,.ty c]/\DH X.K H x t/\mQ X.K t (.type c)=some b/\Q (.bl b) H):=by
 intro J3 s σ H xs us Q I r h;obtain⟨x,c,t,b,rfl,ty,hk,q⟩:=h;obtain⟨u,v,rfl,ru,rv⟩:=vals2 r;cases(show v=Value.type c from rv);exact yO I ru ty hk fun tk=>⟨.bl b,H,I.tok _,rfl,q⟩
theorem Dt{bs:List Bool}{us:Zf}(r:bg (bs.map V.bl) us){i:Nat}{v:Value}(h:us[i]?=some v):v=.bool ((bs[i]?).getD false)/\i<bs.length:=by
 have hi:i<us.length:=(cE.mp h).1;have hl:=r.length;rw[ai]at hl;have hb:i<bs.length:=by omega
 obtain⟨u,hu,ru⟩:=r.get (i:=i) (x:=V.bl bs[i]) (by simp[hb]);rw[h]at hu;cases hu;refine⟨?_,hb⟩;rw[h_ hb];exact ru
theorem vY(bs:List Bool):((hJ bs.length).all fun i=>(bs[i]?).getD false)=bs.all id:=by
 induction bs with
 |nil=>rfl
 |cons b bs ih =>
  rw[em,List.range_succ_eq_map,List.all_cons,uy,List.all_cons,<-ih]
  rfl
theorem vX(bs:List Bool):((hJ bs.length).any fun i=>(bs[i]?).getD false)=bs.any id:=by
 induction bs with
 |nil=>rfl
 |cons b bs ih =>
  rw[em,List.range_succ_eq_map,oj,List.any_map,oj,<-ih]
  rfl
theorem kP(hc:X.calm=true):fN X (.builtin "all") (fun xs H Q=>∃(p:Addr) (bs:List Bool),xs=[.ref p]/\aA X.K H p (bs.map V.bl)/\Q (.bl (bs.all id)) H):=by
 intro J3 s σ H xs us Q I r h;obtain⟨p,bs,rfl,hq,q⟩:=h;obtain⟨u,rfl,ru⟩:=vals1 r;cases ru;obtain⟨its,rv,pl,hz⟩:=I.list hq;obtain⟨o,n,ho,_⟩:=id pl;have hl:=rv.length;rw[ai]at hl;refine call_all_walk (wt pl.isList ?_);refine⟨s.heap.objs.size,_,_,_,_,_,fun i=>(bs[i]?).getD false,rfl,Walks.list (prog:=X.prog) (w:=X.w) (A:=X.A.in1) (I.ok.hd hc) s.heap.objs.size p (cR (bo ho)) its.toArray,⟨⟨_,c8 _ rfl,rfl,rfl⟩,pl.isList.push _⟩,?_,?_⟩
 ·intro i v s' Q' E' hv hq';obtain⟨e,_⟩:=Dt rv (i:=i) (v:=v) (by simpa using hv);rw[e];exact mU hq'
 ·intro h' tk hk;have I':Inv X J3 σ H { s with heap:=h',toks:=tk }:=I.kept fun b o e=>hk b o (by simp;exact cR (bo e)) (bC _ e);rw[bE,<-hl,vY];exact⟨.bl _,H,I',rfl,q⟩
theorem xE(hc:X.calm=true):fN X (.builtin "any") (fun xs H Q=>∃(p:Addr) (bs:List Bool),xs=[.ref p]/\aA X.K H p (bs.map V.bl)/\Q (.bl (bs.any id)) H):=by
 intro J3 s σ H xs us Q I r h;obtain⟨p,bs,rfl,hq,q⟩:=h;obtain⟨u,rfl,ru⟩:=vals1 r;cases ru;obtain⟨its,rv,pl,hz⟩:=I.list hq;obtain⟨o,n,ho,_⟩:=id pl;have hl:=rv.length;rw[ai]at hl;refine call_any_walk (wt pl.isList ?_);refine⟨s.heap.objs.size,_,_,_,_,_,fun i=>(bs[i]?).getD false,rfl,Walks.list (prog:=X.prog) (w:=X.w) (A:=X.A.in1) (I.ok.hd hc) s.heap.objs.size p (cR (bo ho)) its.toArray,⟨⟨_,c8 _ rfl,rfl,rfl⟩,pl.isList.push _⟩,?_,?_⟩
 ·intro i v s' Q' E' hv hq';obtain⟨e,_⟩:=Dt rv (i:=i) (v:=v) (by simpa using hv);rw[e];exact mU hq'
 ·intro h' tk hk;have I':Inv X J3 σ H { s with heap:=h',toks:=tk }:=I.kept fun b o e=>hk b o (by simp;exact cR (bo e)) (bC _ e);rw[bE,<-hl,vX];exact⟨.bl _,H,I',rfl,q⟩
theorem yF:mC X (eM .In) (fun x y H Q=>∃c j,x=.str ⟨#[c]⟩/\y=.str j/\Q (.bl (decide (c∈j.cps.toList))) H):=by
 intro J3 s σ H x y v u Q I rx ry h;obtain⟨c,j,rfl,rfl,q⟩:=h;rw[<-StrLaws.found_one]at q;exact Bi J3 s σ H _ _ v u Q I rx ry ⟨_,_,rfl,rfl,q⟩
theorem rS(hc:X.calm=true):fN X (.type "list") (fun xs H Q=>∃(d:Addr) (kvs:List (d6×V)),xs=[.ref d]/\Rd H d (.dK kvs)/\∀l,H l=none->Q (.ref l) (upd H l (.lst (kvs.map fun kv=>kV kv.1)))):=by
 intro J3 s σ H xs us Q I r h;obtain⟨d,kvs,rfl,hd,q⟩:=h;obtain⟨u,rfl,ru⟩:=vals1 r;cases ru;obtain⟨z,hsys,vs,rel,dd⟩:=nI I.hok hd;obtain⟨ep,hat⟩:=dd.dictAt;have hl:=rel.length;refine PySem.W.kdl_call (PySem.W.kdl_dict (knd:=bT X.prog X.w) (kvs:=vs) (ep:=ep) hsys) (I.ok.hd hc) hat (by rw[<-hl];exact z) fun h' tk acc c hk hD hacc=>?_;have hv:bg (kvs.map fun kv=>kV kv.1) acc.toList:=by
  obtain⟨hn,hP⟩:=hacc;have key:∀(a:Zf) (ks:List (d6×V)) (ws:List (d6×Value)),KV ks ws->a.length=ws.length->(∀(j:Nat) (v:Value),a[j]?=some v->∃k x,ws[j]?=some (k,x)/\(bT X.prog X.w).is k v=true)->bg (ks.map fun kv=>kV kv.1) a:=by
   intro a ks ws rl
   induction rl generalizing a with
   |nil=>intro ha _;cases a with
    |nil=>exact .nil
    |cons _ _=>cases ha
   |@cons p w' ps ws' hp _ ih =>
    intro ha hj;cases a with
    |nil=>cases ha
    |cons v a =>
     obtain⟨k,x,e,hk⟩:=hj 0 v rfl;have e':w'=(k,x):=by simpa using e
     refine .cons ?_ (ih a (by simpa using ha) fun j v hv=>by simpa using hj (j+1) v (by simpa using hv));have ek:p.1=k:=by rw[hp.1,e']
     show RelV (kV p.1) v;rw[ek];rcases av (show cq k v=true from hk)with⟨i,t,rfl,rfl⟩|⟨i,t,rfl,rfl⟩
     ·exact⟨t,rfl⟩
     ·exact⟨t,rfl⟩
  exact key acc.toList kvs vs rel (by rw[j8];exact hn) fun j v hv=>hP j v (by rw[<-uN];exact hv)
 refine⟨.ref s.heap.objs.size,_,I.laid (o:=.lst (kvs.map fun kv=>kV kv.1)) hk (aH _) ⟨by rw[ai];exact z,acc.toList,c,hv,by rw[Array.toArray_toList];exact hD⟩,rfl,q _ I.fresh⟩
end
section
variable{prog:bR}{w:World}{K:Type}[DecidableEq K]{knd:zM prog w K}{A:Around}{E:Zc}{s:Shared}
theorem qy{d a:Addr}{xs:List (K×Addr×Value)}{k:K}{v:Value}{Q:Zc}(hu:knd.room A)(hkey:knd.is s.heap k a)(hm:s.heap.DictOfH knd d xs)
  (there:∀p,atKey xs k=some p->Q p.2 { s with toks:=s.toks+knd.draws k })
  (new:atKey xs k=none->∀h',h'.DictOfH knd d (xs++[(k,a,v)])->iE d s.heap h'->Q v { s with heap:=h',toks:=s.toks+knd.draws k })
  (hsz:xs.length<=ah):wpAny (model prog w) A (dictSetDefault d (.ref a) v) Q E s:=by
 obtain⟨o,es,ep,ho,hc,hd,he,his,hn⟩:=hm;unfold dictSetDefault
 try with_reducible refine iG ?_
 refine ak (knd.pyHash hu hkey ?_);refine ak (wpAny_dictFind_heap (s:={ s with toks:=s.toks+knd.draws k }) hu hkey ho hd he his hn ?_ ?_)
 ·intro hno;have hnot:k∉xs.map (·.1):=not_mem_keys_of_get hno;refine ak (kj (ak (wpAny_updateDictKeys (hz:=by have e:=size_of_entries he;omega) (s:={ s with toks:=s.toks+knd.draws k }) ho hd (ao (new (atKey_none_of_get hno) _ ⟨_,_,ep+1,uQ _ ho (Obj.isFreed_of_dict (Obj.data_mapDictKeys hd _)),
   hc.mapDictKeys _,Obj.data_mapDictKeys hd _,?_,?_,?_⟩ (lW ..))))))
  ·simp[he,entryOfKey]
  ·intro x hx;rcases bN.mp hx with hx|hx
   ·exact knd.keeps (his x hx) ho hd (lW ..)
   ·simp only[cz]at hx;subst hx;exact knd.keeps hkey ho hd (lW ..)
  ·rw[aB,c9];refine⟨hn,by simp,?_⟩;intro x hx y hy;simp only[bI,List.map_nil,cz]at hy;subst hy;exact fun e=>hnot (e▸hx)
 ·intro j p hj;refine ak (ux (s:={ s with toks:=s.toks+knd.draws k }) ho hd ?_);rw[entry_at he j,hj];exact ak (kj (ao (there p (atKey_of_get hn hj))))
theorem nE(knd:zM prog w K)(d a:Addr)(hd:(d==gG)=false)(dflt:Value):
  MeetsIn prog w (cw.«dict.setdefault» ⟨[.ref d,.ref a,dflt],[]⟩) (fun A R s=>knd.room A.in1/\∃k xs,knd.is s.heap k a/\s.heap.DictOfH knd d xs/\xs.length<=ah /\
   (∀p,atKey xs k=some p->R (.ok (.ret p.2)) { s with toks:=s.toks+knd.draws k }) /\
   (atKey xs k=none->∀h',h'.DictOfH knd d (xs++[(k,a,dflt)])->iE d s.heap h'->R (.ok (.ret dflt)) { s with heap:=h',toks:=s.toks+knd.draws k })) :=
 .of_wp fun A R s ⟨hu,k,xs,hkey,hm,hz,h1,h2⟩=>by
  unfold cw.«dict.setdefault»;refine ak ?_;unfold cw.Dict.keyAndDefault;refine ak (wpAny_notOrdered_dict hm.typeIs ?_);show wpAny _ _ (pure (d,Value.ref a,some dflt)) _ _ s;refine ao ?_;show wpAny _ _ (if(d==gG)=true then _ else(dictSetDefault d (.ref a) dflt >>= _)) _ _ s
  rw[if_neg (by rw[hd];exact fR)];exact ak (qy hu hkey hm (fun p hp=>ao ⟨p.2,rfl,h1 p hp⟩) (fun hn h' hm' hs'=>ao ⟨dflt,rfl,h2 hn h' hm' hs'⟩) hz)
end
section
variable{X:Cx}
def z6:V->List V->Hp->VK->Prop:=fun x vs H Q=>∃(d b:Addr) (kvs:List (TK×V)) (k:TK) (z:V),x=.ref d/\vs=[.ref b,z]/\H d=some (.dT kvs)/\fq H k (.ref b)/\k.depth<=8/\kvs.length<ah /\
 (∀v,bO kvs k=some v->Q v H)/\(bO kvs k=none->Q z (upd H d (.dT (kvs++[(k,z)]))))
theorem Bk(hu:X.A.units+16<cLine):Ga X "dict.setdefault" z6:=by
 intro J3 s σ H x vs v us Q I rx rv h;obtain⟨d,b,kvs,k,z,rfl,rfl,hd,hb,h8,hz,q1,q2⟩:=h;cases rx;obtain⟨u,v,rfl,ru,rz⟩:=rv.two;cases ru;obtain⟨_,hsys,xs,rel,dd⟩:=Au I.hok I.kIn hd;have hl:kvs.length=xs.length:=Paired.length rel;refine qp PySem.F.slot_dict_setdefault dd.typeIs PySem.F.entry_dict_setdefault (PySem.F.args_dict_setdefault_3 _ _ _) (nE (c_ X.prog X.w) d b hsys v)
  ⟨fj hu,k,xs,rE I.hok I.kIn (fq.c 8 h8 hb) h8,dd,by omega,fun p hp=>?_,fun hn h' dd' hs=>?_⟩
 ·have e:=rel.val k;rw[hp]at e;cases e2:bO kvs k with
  |none=>rw[e2]at e;exact e.elim
  |some y =>
   rw[e2]at e;exact⟨y,H,I.tok _,e,q1 y e2⟩
 ·have e:=rel.val k;rw[hn]at e;have e2:bO kvs k=none:=by
   cases e2:bO kvs k with
   |none=>rfl
   |some y=>rw[e2]at e;exact e.elim
  obtain⟨o,es,ep,hq,h2,h3,h4,_,h5⟩:=dd';refine⟨z,_,nJ (ob:=.dT (kvs++[(k,z)])) I (by rw[hd];exact iC) hs ⟨o,hq⟩ ⟨by rw[aO,List.length_singleton];omega,hsys,_,KT.keeps (kvs:=kvs++[(k,z)]) (xs:=xs++[(k,b,v)]) (fA rel ⟨rfl,fq.c 8 h8 hb,h8,rz⟩) fun c ys ec=>?_,o,es,ep,hq,h2,h3,h4,h5⟩,rz,q2 e2⟩;rw[aj (Aj ec hd (fun z=>nomatch z))];exact ec
end
theorem kO:entryFor table "dict.update.loop"=some cw.«dict.update.loop»:=entryFor_of_fast (by kernel_rfl)
theorem fF:plainId "dict.update.loop"=true:=by decide +kernel
theorem vB:typeLookup (.type "list") "keys"=pure none:=am_miss_of_fast (by decide +kernel)
section
variable{prog:bR}{w:World}{A:Around}{E:Zc}{s:Shared}
theorem Bm{a:Addr}{o:Obj}{xs:Array Value}{k:Nat}{Q:Option Value->Shared->Prop}(hx:s.heap.get? a=some o)(hc:o.cls=.type "list")(hdat:o.data=.seq xs k)(hd:o.dict=none)(hA:A.handled=none)
  (h:∀h' tk,(∀b ob,s.heap.get? b=some ob->h'.get? b=some ob)->Q none { s with heap:=h',toks:=tk }):wpAny (model prog w) A (getAttr? (.ref a) "keys") Q E s:=by
 obtain⟨c,dct,dat,sl⟩:=o;simp only at hc hdat hd;subst hc hdat hd;obtain⟨hp,g,d,tk,os⟩:=s;have hT:∀tk',(⟨hp,g,d,tk',os⟩:Shared).TypeIs (.ref a) "list":=fun _=>⟨_,hx,rfl⟩;have f1:=sub_AttributeError;have f3:=F.slot_list_getattribute.lookup;have f4:=F.slot_list_getattribute.bind (.ref a);have f5:=am_list_getattr_none;unfold getAttr? getAttrBy? getAttrBy
 repeat (any_goals (first|assumption|exact hT _|((with_reducible show wpAny _ _ (call (Value.builtin "list.__getattribute__") _ _) _ _ _);refine qt F.slot_list_getattribute (hT _) am_entry_list_getattribute (F.args_list_getattribute_2 _ _) (meets_getattribute_miss_list a xs k sl "keys" _ vB (by decide +kernel) (by decide +kernel)) ⟨hx,hA,fun h' tk' e hx'=>?_⟩)|wp_step))
 obtain⟨t',u',he⟩:=hx'.there;show wpAny _ _ (getattributeRaised _ _ _ _ _ _ _) _ _ _;unfold getattributeRaised hookOrError attributeErrorLeaves
 repeat (any_goals (first|assumption|wp_step))
 all_goals first|exact h _ _ hx'.keeps|trace_state
def za(h:Heap)(u:Value)(kv:d6×Value):Prop:=∃t ku,u=.ref t/\h.IsTuple t #[ku,kv.2]/\cq kv.1 ku=true
theorem yj{κ:Type}[DecidableEq κ](kvs:List (κ×Value))(k:κ)(v:Value):(stored kvs k v).length<=kvs.length+1:=by
 unfold stored;split
 ·rw[ai];omega
 ·rw[aO,List.length_singleton];exact aH _
theorem BV{R:Result->Shared->Prop}(hh:A.handled=none){D it l:Addr}{items:Array Value}{ps:List (d6×Value)}(hDi:D≠it)(hli:l≠it)(hlD:l≠D)(hps:ps.length=items.size):
  ∀(n i:Nat) (s:Shared) (acc:List (d6×Value)),items.size-i=n->i<=items.size->acc.length+(items.size-i)<=ah->s.heap.IsListIter it l i->s.heap.IsList l items->s.heap.DictOf (bT prog w) D acc ->
   (∀(j:Nat) (u:Value) (kv:d6×Value),items[j]?=some u->ps[j]?=some kv->za s.heap u kv) ->
   (∀h' tk,h'.DictOf (bT prog w) D (merged acc (ps.drop i))->(∀b o,b≠D->b≠it->s.heap.get? b=some o->h'.get? b=some o)->R (.ok (.ret .none)) { s with heap:=h',toks:=tk }) ->
   zzl90 (model prog w) A (.builtin "dict.update.loop" ⟨[.ref D,.ref it,rawInt i,.none],[]⟩) R s:=by
 intro n
 induction n with
 |zero =>
  intro i s acc hn hi hz hit hl hD hp hR;have e:i=items.size:=by omega
  subst e;refine codeAny_builtin kO ?_;rw[Around.under_plainId fF _];show wpAny _ A.in1 (pyNext (.ref it) >>= _) _ _ s;refine ak (wpAny_pyNext_list_end hh hit hl (by simp) fun h' eb=>?_);show wpAny _ _ (cw.Dict.addKeywords D [] >>= _) _ _ _;refine ak (ao (ao ?_));have hD':h'.DictOf (bT prog w) D acc:=hD.extBut eb hDi;have q:=hR h' s.toks (by rw[n5 (by omega)];exact hD') fun b o _ hb e=>eb b o hb e;exact q
 |succ n ih =>
  intro i s acc hn hi hz hit hl hD hp hR;have hlt:i<items.size:=by omega
  refine codeAny_builtin kO ?_;rw[Around.under_plainId fF _];show wpAny _ A.in1 (pyNext (.ref it) >>= _) _ _ s;have hu:items[i]?=some items[i]:=by simp[hlt]
  have hk:ps[i]?=some ps[i]:=h_ (by omega);obtain⟨t,ku,eu,ht,hku⟩:=hp i _ _ hu hk;refine ak (wpAny_pyNext_list_item hit hl (x:=items[i]) hu fun h1 hit1 hs1=>?_);rw[eu];have hs1':iE it s.heap h1:=hs1;have nt:t≠it:=by
   rintro rfl;obtain⟨o,ho,hc,_⟩:=ht;obtain⟨o',ho',hc',_⟩:=hit;rw[ho]at ho';cases ho';rw[hc]at hc';simp at hc'
  have ht1:h1.IsTuple t #[ku,ps[i].2]:=ht.extBut hs1'.extBut nt;have hT1:Shared.TypeIs { s with heap:=h1 } (.ref t) "tuple":=ht1.typeIs (s:={ s with heap:=h1 });obtain⟨ot,got,hct,nt',hdt⟩:=id ht1;refine ak (iG ?_);refine ak (wpAny_tryCatch ?_);unfold cw.Dict.pairItems;refine ak (on hT1 ?_);rw[if_pos (by decide)];refine ak (j_ got hdt (ao ?_));show wpAny _ _ (j9 [ku,ps[i].2] (dictSet D ku ps[i].2)) _ _ _;have hD1:h1.DictOf (bT prog w) D acc:=hD.extBut hs1'.extBut hDi;refine iG (wpAny_dictSet_pairs (knd:=bT prog w) (k:=ps[i].1) hku hD1 (fun h2 hD2 hs2=>?_) (by omega));have hs2':iE D h1 h2:=hs2;show wpAny _ _ (again _) _ _ _;refine ao ⟨plainId_quiet fF _,?_⟩;have hl1:h1.IsList l items:=hl.extBut hs1'.extBut hli;have kp:∀b o,b≠D->b≠it->s.heap.get? b=some o->h2.get? b=some o:=fun b o h1 h2 e=>hs2'.extBut b o h1 (hs1'.extBut b o h2 e);refine ih (i+1) _ (stored acc ps[i].1 ps[i].2) (by omega) hlt (by have:=yj acc ps[i].1 ps[i].2;omega) (hit1.extBut hs2'.extBut (gF hDi)) (hl1.extBut hs2'.extBut hlD) hD2 (fun j u kv h1 h2=>?_) fun h' tk hD' kp'=>?_
  ·obtain⟨t2,ku2,e2,ht2,hk2⟩:=hp j u kv h1 h2;have n1:t2≠it:=by
    rintro rfl;obtain⟨o,ho,hc,_⟩:=ht2;obtain⟨o',ho',hc',_⟩:=hit;rw[ho]at ho';cases ho';rw[hc]at hc';simp at hc'
   have n2:t2≠D:=by
    rintro rfl;obtain⟨o,ho,hc,_⟩:=ht2;obtain⟨o',_,_,ho',hc',_⟩:=hD;rw[ho]at ho';cases ho';have:=hc'.1;rw[hc]at this;simp at this
   obtain⟨o,ho,r⟩:=ht2;exact⟨t2,ku2,e2,⟨o,kp _ o n2 n1 ho,r⟩,hk2⟩
  ·refine hR h' tk ?_ fun b o h1 h2 e=>kp' b o h1 h2 (kp b o h1 h2 e);have ed:ps.drop i=ps[i]::ps.drop (i+1):=List.drop_eq_getElem_cons (by omega);rw[ed];exact hD'
theorem pR{l:Addr}{o:Obj}{items:Array Value}{n:Nat}{ps:List (d6×Value)}{Q:Zc}(hh:A.handled=none)(ho:s.heap.get? l=some o)(hc:o.cls=.type "list")(hdt:o.data=.seq items n)(hod:o.dict=none)
  (hps:ps.length=items.size) (hp:∀(j:Nat) (u:Value) (kv:d6×Value),items[j]?=some u->ps[j]?=some kv->za s.heap u kv) (hz:items.size<=ah)
  (h:∀h' tk,h'.DictOf (bT prog w) s.heap.objs.size (merged [] ps)->(∀b o,s.heap.get? b=some o->h'.get? b=some o)->Q (.ref s.heap.objs.size) { s with heap:=h',toks:=tk }) :
  wpAny (model prog w) A (call (.type "dict") [.ref l]) Q E s:=by
 refine callType_codes (Q₁:=fun obj s₁=>obj=.ref s.heap.objs.size/\s₁={ s with heap:=s.heap.push { cls:=.type "dict",data:=.dict #[] } }) F.kt_called_dict (F.kt_typeCall_dict_1 _) F.entry_dict_init (kt_code_dict_new _ ⟨rfl,rfl⟩) ?_;rintro obj s₁ ⟨rfl,rfl⟩;have hnew:(s.heap.push { cls:=.type "dict",data:=.dict #[] }).DictOf (bT prog w) s.heap.objs.size []:=Heap.DictOf.new s.heap;have ho1:(s.heap.push { cls:=.type "dict",data:=.dict #[] }).get? l=some o:=bC _ ho;have hlt:l<s.heap.objs.size:=bo ho;refine⟨hnew.typeIs,F.args_dict_init_2 _ _,?_⟩;unfold cw.«dict.__init__»;refine ak ?_;unfold cw.Dict.selfAndRest;refine ak (wpAny_notOrdered_dict hnew.typeIs ?_);show wpAny _ _ (pure (s.heap.objs.size,[Value.ref l])) _ _ _;refine ao ?_;show wpAny _ _ (cw.Dict.updateFrom "dict.__init__" s.heap.objs.size (.ref l) [] .none) _ _ _;unfold cw.Dict.updateFrom;have hTl:Shared.TypeIs { s with heap:=s.heap.push { cls:=.type "dict",data:=.dict #[] } } (.ref l) "list":=⟨o,ho1,hc⟩;refine ak (on hTl ?_);rw[if_pos (by decide)];refine ak (Bm ho1 hc hdt hod hh fun h1 tk1 k1=>?_);have k1':∀b ob,(s.heap.push { cls:=.type "dict",data:=.dict #[] }).get? b=some ob->h1.get? b=some ob:=k1;rw[if_pos (by rfl:(none:Option Value).isNone=true)];refine ak (kj ?_);have hl1:h1.IsList l items:=⟨o,k1' _ _ ho1,hc,n,hdt⟩;refine ak (wt (s:={ s with heap:=h1,toks:=tk1 }) hl1 ?_);have hD1:h1.DictOf (bT prog w) s.heap.objs.size []:=by
  obtain⟨od,es,ep,g,r⟩:=hnew;exact⟨od,es,ep,k1' _ _ g,r⟩
 have hDlt:s.heap.objs.size<h1.objs.size:=by
  obtain⟨od,es,ep,g,r⟩:=hD1;exact bo g
 refine ao ⟨plainId_quiet fF _,?_⟩;refine BV (A:=A.in1) (prog:=prog) (w:=w) hh (D:=s.heap.objs.size) (it:=h1.objs.size) (l:=l) (items:=items) (ps:=ps) (cR hDlt) (cR (Nat.lt_trans hlt hDlt)) (cR hlt) hps items.size 0 _ [] (uw _) (dL _) (by rw[List.length_nil];omega)
  ⟨_,c8 _ rfl,rfl,rfl⟩ (hl1.push _) (hD1.push _) (fun j u kv a b=>?_) fun h' tk hD' kp=>?_
 ·obtain⟨t,ku,e,ht,hk⟩:=hp j u kv a b;obtain⟨ot,g,r⟩:=ht;exact⟨t,ku,e,⟨ot,bC _ (k1' _ _ (bC _ g)),r⟩,hk⟩
 ·rw[n6]at hD';refine⟨rfl,h h' tk hD' fun b ob e=>kp b ob (cR (bo e)) (cR (Nat.lt_trans (bo e) hDlt)) (bC _ (k1' _ _ (bC _ e)))⟩
end
section
variable{X:Cx}
theorem vT(hc:X.calm=true):fN X (.type "dict") (fun xs H Q=>∃(l:Addr) (ts:Ze) (kvs:List (d6×V)),xs=[.ref l]/\aA X.K H l (ts.map V.ref)/\ts.length=kvs.length /\
  (∀(j:Nat) (t:Addr) (kv:d6×V),ts[j]?=some t->kvs[j]?=some kv->H t=some (.tup [kV kv.1,kv.2]))/\∀p,H p=none->Q (.ref p) (upd H p (.dK (i0 [] kvs)))):=by
 intro J3 s σ H xs us Q I r h;obtain⟨l,ts,kvs,rfl,hl,hlen,ht,q⟩:=h;obtain⟨u,rfl,ru⟩:=vals1 r;cases ru;obtain⟨its,rv,⟨o,n,ho,hcl,hod,hdt⟩,hz⟩:=I.list hl;have key:∀(ts:Ze) (kvs:List (d6×V)),ts.length=kvs.length->(∀(j:Nat) (t:Addr) (kv:d6×V),ts[j]?=some t->kvs[j]?=some kv->H t=some (.tup [kV kv.1,kv.2]))->∃ps:List (d6×Value),KV kvs ps/\∀(j:Nat) (t:Addr) (kv:d6×Value),ts[j]?=some t->ps[j]?=some kv->za s.heap (.ref t) kv:=by
  intro ts
  induction ts with
  |nil =>
   intro kvs hl _;cases kvs with
   |nil=>exact⟨[],.nil,fun j t kv e=>by simp at e⟩
   |cons _ _=>cases hl
  |cons t ts ih =>
   intro kvs hl ht;cases kvs with
   |nil=>cases hl
   |cons kv kvs =>
    obtain⟨ps,r1,r2⟩:=ih kvs (by simpa using hl) fun j t' kv' a b=>ht (j+1) t' kv' (by simpa using a) (by simpa using b);obtain⟨_,itt,rt,p⟩:=(show cj X.prog X.w X.K H s.heap t (.tup [kV kv.1,kv.2])from I.hok t _ (ht 0 t kv rfl rfl));obtain⟨a,b,e,ra,rb⟩:=rt.two;subst e;refine⟨(kv.1,b)::ps,.cons ⟨rfl,rb⟩ r1,fun j t' kv' h1 h2=>?_⟩;cases j with
    |zero =>
     simp at h1 h2;subst h1 h2;exact⟨t,a,rfl,p,jg (P:=X.prog) (w:=X.w) ra⟩
    |succ j=>exact r2 j t' kv' (by simpa using h1) (by simpa using h2)
 obtain⟨ps,rel,pa⟩:=key ts kvs hlen ht;have hl1:=rv.length;rw[ai]at hl1;have hl2:=rel.length;refine pR (prog:=X.prog) (w:=X.w) (ps:=ps) (I.ok.hd hc) ho hcl hdt hod (by rw[bE];omega) (fun j u kv a b=>?_) (by rw[bE,<-hl1];rw[ai]at hz;exact hz) fun h' tk hD kp=>?_
 ·have a':its[j]?=some u:=by simpa using a
  have hj:j<ts.length:=by
   have:=(cE.mp a').1;omega
  obtain⟨u',e1,r1⟩:=rv.get (i:=j) (x:=V.ref ts[j]) (by simp[hj]);rw[a']at e1;cases e1;cases(show u=Value.ref ts[j]from r1);exact pa j ts[j] kv (by simp[hj]) b
 ·have hm:(i0 [] kvs).length<=ah:=by
   have h1:=lO kvs [];rw[List.length_nil]at h1;rw[ai]at hz;omega
  exact⟨.ref s.heap.objs.size,_,I.laid (o:=.dK (i0 [] kvs)) kp (aH _) (Dh hm (beq_eq_false_iff_ne.mpr (gF (cR I.big))) (rel.merge .nil) hD),rfl,q _ I.fresh⟩
end
abbrev dz:R2:=BL fun i j=>.int (i+j)
abbrev kI:R2:=rI DD fun i j=>.int (i * j)
abbrev iL:R2:=rI (fun _ j=>0<j) fun i j=>.int (i % j)
abbrev CB:R2:=rI GR fun i j=>.int (i / j)
abbrev Fb:R2:=rI GQ fun i j=>.int (i ^ j.toNat)
abbrev Cw:R2:=BL fun i j=>.bl (decide (i<j))
abbrev rLeI:R2:=BL fun i j=>.bl (decide (i<=j))
abbrev CA:R2:=BL fun i j=>.bl (decide (j<i))
abbrev rGeI:R2:=BL fun i j=>.bl (decide (j<=i))
abbrev Fd:R2:=fun x y H Q=>∃i j,x=.str i/\y=.str j/\i.length+j.length<=ah/\Q (.str (i++j)) H
abbrev rInS:R2:=fun x y H Q=>∃c j,x=.str ⟨#[c]⟩/\y=.str j/\Q (.bl (decide (c∈j.cps.toList))) H
abbrev Cz:R2:=fun x y H Q=>∃b,y=.bl b/\Q (.bl (decide (x=.bl b))) H
abbrev iW(K:Za):List V->Hp->VK->Prop:=fun xs H Q=>∃x c t b,xs=[x,.ty c]/\DH K H x t/\mQ K t (.type c)=some b/\Q (.bl b) H
abbrev Em(K:Za):List V->Hp->VK->Prop:=fun xs H Q=>∃(p:Addr) (bs:List Bool),xs=[.ref p]/\aA K H p (bs.map V.bl)/\Q (.bl (bs.all id)) H
abbrev rAny(K:Za):List V->Hp->VK->Prop:=fun xs H Q=>∃(p:Addr) (bs:List Bool),xs=[.ref p]/\aA K H p (bs.map V.bl)/\Q (.bl (bs.any id)) H
abbrev qW(K:Za):List V->Hp->VK->Prop:=fun xs H Q=>∃p ys,xs=[.ref p]/\((aA K H p ys/\∀l,H l=none->Q (.ref l) (upd H l (.tup ys)))∨(aY K H p ys/\Q (.ref p) H))
abbrev El(K:Za):List V->Hp->VK->Prop:=fun xs H Q=>∃(l:Addr) (ts:Ze) (kvs:List (d6×V)),xs=[.ref l]/\aA K H l (ts.map V.ref)/\ts.length=kvs.length /\
  (∀(j:Nat) (t:Addr) (kv:d6×V),ts[j]?=some t->kvs[j]?=some kv->H t=some (.tup [kV kv.1,kv.2]))/\∀p,H p=none->Q (.ref p) (upd H p (.dK (i0 [] kvs)))
abbrev cW(K:Za):List V->Hp->VK->Prop:=fun xs H Q =>
 (∃p ys,xs=[.ref p]/\(aA K H p ys∨aY K H p ys)/\∀l,H l=none->Q (.ref l) (upd H l (.lst ys))) ∨
 (∃(d:Addr) (kvs:List (d6×V)),xs=[.ref d]/\Rd H d (.dK kvs)/\∀l,H l=none->Q (.ref l) (upd H l (.lst (kvs.map fun kv=>kV kv.1))))
abbrev dP(K:Za):List V->Hp->VK->Prop:=fun xs H Q =>
 (∃p ys,xs=[.ref p]/\(aA K H p ys∨aY K H p ys)/\Q (.int ys.length) H)∨(∃z,xs=[.str z]/\z.length<=ah/\Q (.int z.length) H)
theorem fJ:iF "isinstance"=some (.builtin "isinstance"):=by decide +kernel
theorem rT:iF "list"=some (.type "list"):=by decide +kernel
theorem dB:iF "tuple"=some (.type "tuple"):=by decide +kernel
theorem y4:iF "dict"=some (.type "dict"):=by decide +kernel
theorem y6:iF "bool"=some (.type "bool"):=by decide +kernel
theorem BG:iF "int"=some (.type "int"):=by decide +kernel
theorem BF:iF "str"=some (.type "str"):=by decide +kernel
section
variable{X:Cx}{p pos:Pos}
theorem BE:fN X (.builtin "len") (dP X.K):=vS.or vR
theorem y3(hc:X.calm=true):fN X (.type "list") (cW X.K):=vQ.or (rS hc)
theorem vy:mC X (eM .Is) Cz:=by
 intro J3 s σ H x y v u Q I rx ry h;obtain⟨b,rfl,q⟩:=h;cases(show u=Value.bool b from ry);have key:∀k:Bool,k=decide (x=.bl b)->EP X J3 σ Q (.bool k) s:=fun k e=>⟨.bl k,H,I,rfl,by rw[e];exact q⟩;cases x with
 |non=>cases(show v=Value.none from rx);exact ao (key _ rfl)
 |bl a =>
  cases(show v=Value.bool a from rx);refine ao (key _ ?_);cases a<;>cases b<;>rfl
 |int i=>obtain⟨t,rfl⟩:=rx;exact ao (key _ rfl)
 |str i=>obtain⟨t,rfl⟩:=rx;exact ao (key _ rfl)
 |byt i=>obtain⟨t,rfl⟩:=rx;exact ao (key _ rfl)
 |flt i=>obtain⟨t,rfl⟩:=rx;exact ao (key _ rfl)
 |ref a=>cases(show v=Value.ref a from rx);exact ao (key _ rfl)
 |ty n=>cases(show v=Value.type n from rx);exact ao (key _ rfl)
theorem yD(hg:Gl X "bool")(hm:X.mg "bool"=none):PE X (.Name "bool" pos) (tC (.ty "bool")):=nB hg hm y6 rfl
theorem tQ(hg:Gl X "int")(hm:X.mg "int"=none):PE X (.Name "int" pos) (tC (.ty "int")):=nB hg hm BG rfl
theorem tP(hg:Gl X "str")(hm:X.mg "str"=none):PE X (.Name "str" pos) (tC (.ty "str")):=nB hg hm BF rfl
theorem rj(hg:Gl X "list")(hm:X.mg "list"=none):PE X (.Name "list" pos) (tC (.ty "list")):=nB hg hm rT rfl
theorem pk(hg:Gl X "tuple")(hm:X.mg "tuple"=none):PE X (.Name "tuple" pos) (tC (.ty "tuple")):=nB hg hm dB rfl
end
def Gc(mg:Str->Option Value)(x:Str)(v:V):Prop:=∃u,mg x=some u/\RelV v u
theorem jX{X:Cx}{x:Str}{v:V}{pos:Pos}(hg:Gl X x)(h:Gc X.mg x v)(hd:(x==("__debug__":Str))=false:=by decide):PE X (.Name x pos) (tC v):=by
 obtain⟨u,hm,r⟩:=h;exact Es hg hm r hd
structure gm(P:bR)(w:World)(K:Za)(mg:Str->Option Value)(base:Heap)(x:Str)(ps:Zb)(k:Nat)(sp:Sp):Prop where
 ex:∃f fd,kU P w K mg base CX0 k f fd ps sp/\mg x=some (.ref f)/\i8 K (.ref f)=true/\Binds K fd ps []
structure New(P:bR)(w:World)(K:Za)(mg:Str->Option Value)(base:Heap)(x:Str)(C:Addr)(ps:Zb)(k:Nat)(sp:Sp):Prop where
 ex:∃f fd,kU P w K mg base CX0 k f fd ps sp/\mg x=some (.ref C)/\Mk K C f/\Binds K fd ps []
structure BQ(P:bR)(w:World)(K:Za)(mg:Str->Option Value)(base:Heap)(C:Addr)(m:Str)(ps:Zb)(k:Nat)(sp:Sp):Prop where
 ex:∃f fd,kU P w K mg base CX0 k f fd ps sp/\BK K C/\EV K C m f/\Binds K fd ps []
section
variable{X:Cx}{k:Nat}{ps:Zb}{sp:Sp}{x m:Str}{C:Addr}{p pos J5:Pos}{o e:Expr}{es:List Expr}{t:TA}{ta:TE}
theorem Fe(D:gm X.prog X.w X.K X.mg X.base x ps k sp)(hr:eL k X.A)(hg:Gl X x)(ha:PA X (e::es) t)(hdb:(x==("__debug__":Str))=false:=by decide)
  (he:aQ (e::es) X.env=(false,eval e X.env)::aQ es X.env:=by rfl) (hpl:(backTo pos (aQ es X.env)).any (·.1)=false:=by rfl) :
  PE X (.Call (.Name x p) (e::es) [] pos) (aM sp t):=by
 obtain⟨f,fd,F,hm,hk,hb⟩:=D.ex;exact Eu F hr hg hm hk hb .nil Ae ha hdb he hpl
theorem FF(D:New X.prog X.w X.K X.mg X.base x C ps k sp)(hr:eL (k+1) X.A)(hg:Gl X x)(ha:PA X (e::es) t)(hdb:(x==("__debug__":Str))=false:=by decide)
  (he:aQ (e::es) X.env=(false,eval e X.env)::aQ es X.env:=by rfl) (hpl:(backTo pos (aQ es X.env)).any (·.1)=false:=by rfl) :
  PE X (.Call (.Name x p) (e::es) [] pos) (Cc C sp [] E0 t):=by
 obtain⟨f,fd,F,hm,M,hb⟩:=D.ex;exact Er M F hr hg hm hb .nil Ae ha hdb he hpl
theorem FG{pl:Sem Bool}(M:BQ X.prog X.w X.K X.mg X.base C m ps k sp)(hr:eL k X.A)(he:PE X o ta)(ha:PA X (e::es) t)
  (hst:aQ (e::es) X.env=(false,eval e X.env)::aQ es X.env:=by rfl) (hpl:(backTo pos (aQ es X.env)).any (·.1)=false:=by rfl)
  (ht:eval (.Call (.Attribute o m J5) (e::es) [] pos) X.env=(do
   let ov <- eval o X.env
   pc J5.atName
   let(f,first) <- j9 [ov] (o_ ov m pl)
   ow pos f first (backTo pos (aQ (e::es) X.env)) (jw pos (jv [] X.env))):=by rfl) :
  PE X (.Call (.Attribute o m J5) (e::es) [] pos) (dw C m sp [] E0 ta t):=by
 obtain⟨f,fd,F,c,hm,hb⟩:=M.ex;exact Ep he c hm F hr hb .nil Ae ha hst hpl ht
theorem Eo{pl:Sem Bool}(M:BQ X.prog X.w X.K X.mg X.base C m ps k sp)(hr:eL k X.A)(he:PE X o ta)
  (ht:eval (.Call (.Attribute o m J5) [] [] pos) X.env=(do
   let ov <- eval o X.env
   pc J5.atName
   let(f,first) <- j9 [ov] (o_ ov m pl)
   ow pos f first (backTo pos (aQ [] X.env)) (jw pos (jv [] X.env))):=by rfl) :
  PE X (.Call (.Attribute o m J5) [] [] pos) (dw C m sp [] E0 ta a_):=by
 obtain⟨f,fd,F,c,hm,hb⟩:=M.ex;exact CH he c hm F hr hb .nil Ae ht
end
def Gx(K:Za)(tl:TE):TI:=fun σ H R=>tl σ H fun x H1=>∃a,x=.ref a/\(((∃xs,aA K H1 a xs)/\R (DJ K a) H1)∨((∃xs,aY K H1 a xs)/\R (FW K a) H1))
theorem FB{X:Cx}{tg l:Expr}{tl:TE}(hl:PE X l tl):PI X tg l (Gx X.K tl):=by
 intro J3 s σ H R I h;refine cr (hl J3 s σ H _ I h) fun v s1 ⟨x,H1,I1,r1,q1⟩=>?_;obtain⟨a,e,q⟩:=q1;subst e;cases r1;have fin:∀b∈[s1.heap.objs.size],mJ X J3 H1 b:=fun b hb=>by
  have e:b=s1.heap.objs.size:=by simpa using hb
  subst e;exact I1.fpOk (aH _) (I1.hok.fresh (aH _))
 rcases q with⟨⟨xs,hq⟩,q⟩|⟨⟨xs,hq⟩,q⟩
 ·obtain⟨its,rv,p,hz⟩:=I1.list hq;refine wt p.isList ?_;exact⟨s1.heap.objs.size,[s1.heap.objs.size],_,_,H1,rfl,I1.kept (t':=s1.toks) fun b o e=>bC _ e,tJ a _,⟨_,c8 _ rfl,rfl,rfl⟩,fin,q⟩
 ·obtain⟨its,rv,p,hz⟩:=I1.tuple hq;refine zG p ?_;exact⟨s1.heap.objs.size,[s1.heap.objs.size],_,_,H1,rfl,I1.kept (t':=s1.toks) fun b o e=>bC _ e,qz a _,⟨_,c8 _ rfl,rfl,rfl⟩,fin,q⟩
theorem kN{K:Za}{a:Addr}{xs:List V}{g:TG}{tb:TS}{D:mK}{σ:St}{H:Hp}(Pv:Nat->St->Hp->Prop)(h0:Pv 0 σ H)(hl:∀i σ H,i<=xs.length->Pv i σ H->aA K H a xs)
  (hs:∀i x σ H p,xs[i]?=some x->Pv i σ H->H p=none->g (.ref p) σ (upd H p (.tup [.int i,x])) fun σ2 H2=>tb { D with nx:=Pv (i+1),ct:=Pv (i+1),bk:=D.nx } σ2 H2) (hd:∀σ H,Pv xs.length σ H->D.nx σ H) :
  ∃W:Nat->Nat->St->Hp->Prop,(∃m,W 0 m σ H)/\∀i m σ H,W i m σ H ->
   ((GK K a).stop i H/\D.nx σ H)∨((GK K a).go i H/\∃N:St->Hp->Prop,(∀σ' H',N σ' H'->∃m',m'<m/\W (i+1) m' σ' H')/\∀x H',(GK K a).yld i H x H'->g x σ H' fun σ2 H2=>tb { D with nx:=N,ct:=N,bk:=D.nx } σ2 H2):=by
 refine⟨fun i m σ H=>m=xs.length-i/\i<=xs.length/\Pv i σ H,⟨xs.length,by simp,dL _,h0⟩,?_⟩;rintro i m σ H ⟨rfl,hi,p⟩;have q:=hl i σ H hi p;by_cases hlt:i<xs.length
 ·refine .inr ⟨⟨xs,xs[i],q,by simp[hlt]⟩,Pv (i+1),fun σ' H' p'=>⟨xs.length-(i+1),by omega,rfl,hlt,p'⟩,fun x H' y=>?_⟩;obtain⟨t,v,rfl,hn,hv,rfl⟩:=y;exact hs i v σ H t (hv xs q) p hn
 ·have e:i=xs.length:=by omega
  subst e;exact .inl ⟨⟨xs,q,aH _⟩,hd σ H p⟩
def Wc(n:Nat)(Pv:Nat->List V->Hp->Prop):Nat->Nat->List V->Hp->Prop:=fun i m vs H=>m=n-i/\i<=n/\Pv i vs H
theorem j4{n i:Nat}{Pv:Nat->List V->Hp->Prop}{vs:List V}{H:Hp}(hi:i<n)(p:Pv (i+1) vs H):∃m',m'<n-i/\Wc n Pv (i+1) m' vs H:=⟨n-(i+1),by omega,rfl,hi,p⟩
abbrev gx(k:Nat)(fi:List Nat)(σ:St)(J:It)(g:TG)(tc:TT)(te:TE)(H1:Hp)(l:Addr)(Q:Hp->Prop):Prop :=
 ∃W:Nat->Nat->List V->Hp->Prop,(∃m,W 0 m [] (upd H1 l (.lst [])))/\∀i m vs H2,W i m vs H2->H2 l=some (.lst vs) /\
  ((J.stop i H2/\Q H2)∨(J.go i H2/\∀x H3,J.yld i H2 x H3->g x (d4 k fi σ) H3 fun σ2 H4=>tc σ2 H4 fun b H5 =>
   if b=true then te σ2 H5 fun v H6=>H6 l=some (.lst vs)/\vs.length<ah/\∃m',m'<m/\W (i+1) m' (vs++[v]) (upd H6 l (.lst (vs++[v])))else ∃m',m'<m/\W (i+1) m' vs H5))
theorem nL{k:Nat}{fi:List Nat}{J:It}{g:TG}{tc:TT}{te:TE}{σ:St}{H1:Hp}{Q:Hp->Prop}{l:Addr}(n:Nat)(Pv:Nat->List V->Hp->Prop)(h0:Pv 0 [] (upd H1 l (.lst [])))
  (hl:∀i vs H,i<=n->Pv i vs H->H l=some (.lst vs)) (hgo:∀i vs H,i<n->Pv i vs H->J.go i H) (hst:∀vs H,Pv n vs H->J.stop n H/\Q H)
  (hs:∀i vs H x H3,i<n->Pv i vs H->J.yld i H x H3->g x (d4 k fi σ) H3 fun σ2 H4=>tc σ2 H4 fun b H5 =>
   if b=true then te σ2 H5 fun v H6=>H6 l=some (.lst vs)/\vs.length<ah/\∃m',m'<n-i/\Wc n Pv (i+1) m' (vs++[v]) (upd H6 l (.lst (vs++[v])))else ∃m',m'<n-i/\Wc n Pv (i+1) m' vs H5) :
  gx k fi σ J g tc te H1 l Q:=by
 refine⟨Wc n Pv,⟨n,by simp[Wc],dL _,h0⟩,?_⟩;rintro i m vs H ⟨rfl,hi,p⟩;refine⟨hl i vs H hi p,?_⟩;by_cases hlt:i<n
 ·exact .inr ⟨hgo i vs H hlt p,fun x H3 y=>hs i vs H x H3 hlt p y⟩
 ·have e:i=n:=by omega
  subst e;exact .inl (hst vs H p)
section
variable{K:Za}{k:Nat}{fi:List Nat}{g:TG}{tc:TT}{te:TE}{σ:St}{H1:Hp}{Q:Hp->Prop}{l:Addr}
theorem bU{a:Addr}{xs:List V}(Pv:Nat->List V->Hp->Prop)(h0:Pv 0 [] (upd H1 l (.lst [])))
  (hl:∀i vs H,i<=xs.length->Pv i vs H->H l=some (.lst vs)/\aA K H a xs) (hd:∀vs H,Pv xs.length vs H->Q H)
  (hs:∀i vs H x,xs[i]?=some x->i<xs.length->Pv i vs H->g x (d4 k fi σ) H fun σ2 H4=>tc σ2 H4 fun b H5 =>
   if b=true then te σ2 H5 fun v H6=>H6 l=some (.lst vs)/\vs.length<ah/\∃m',m'<xs.length-i/\Wc xs.length Pv (i+1) m' (vs++[v]) (upd H6 l (.lst (vs++[v])))else ∃m',m'<xs.length-i/\Wc xs.length Pv (i+1) m' vs H5) :
  gx k fi σ (DJ K a) g tc te H1 l Q:=by
 refine nL xs.length Pv h0 (fun i vs H hi p=>(hl i vs H hi p).1) (fun i vs H hi p=>⟨xs,xs[i],(hl i vs H (fh hi) p).2,by simp[hi]⟩) (fun vs H p=>⟨⟨xs,(hl _ vs H (aH _) p).2,aH _⟩,hd vs H p⟩) fun i vs H x H3 hi p y=>?_;obtain⟨rfl,y⟩:=y;exact hs i vs _ x (y xs (hl i vs _ (fh hi) p).2) hi p
theorem xz{a:Addr}{xs:List V}(Pv:Nat->List V->Hp->Prop)(h0:Pv 0 [] (upd H1 l (.lst [])))
  (hl:∀i vs H,i<=xs.length->Pv i vs H->H l=some (.lst vs)/\aY K H a xs) (hd:∀vs H,Pv xs.length vs H->Q H)
  (hs:∀i vs H x,xs[i]?=some x->i<xs.length->Pv i vs H->g x (d4 k fi σ) H fun σ2 H4=>tc σ2 H4 fun b H5 =>
   if b=true then te σ2 H5 fun v H6=>H6 l=some (.lst vs)/\vs.length<ah/\∃m',m'<xs.length-i/\Wc xs.length Pv (i+1) m' (vs++[v]) (upd H6 l (.lst (vs++[v])))else ∃m',m'<xs.length-i/\Wc xs.length Pv (i+1) m' vs H5) :
  gx k fi σ (FW K a) g tc te H1 l Q:=by
 refine nL xs.length Pv h0 (fun i vs H hi p=>(hl i vs H hi p).1) (fun i vs H hi p=>⟨xs,xs[i],(hl i vs H (fh hi) p).2,by simp[hi]⟩) (fun vs H p=>⟨⟨xs,(hl _ vs H (aH _) p).2,aH _⟩,hd vs H p⟩) fun i vs H x H3 hi p y=>?_;obtain⟨rfl,y⟩:=y;exact hs i vs _ x (y xs (hl i vs _ (fh hi) p).2) hi p
theorem yZ{lo:Int}{n:Nat}(Pv:Nat->List V->Hp->Prop)(h0:Pv 0 [] (upd H1 l (.lst [])))
  (hl:∀i vs H,i<=n->Pv i vs H->H l=some (.lst vs)) (hd:∀vs H,Pv n vs H->Q H)
  (hs:∀i vs H,i<n->Pv i vs H->g (.int (lo+i)) (d4 k fi σ) H fun σ2 H4=>tc σ2 H4 fun b H5 =>
   if b=true then te σ2 H5 fun v H6=>H6 l=some (.lst vs)/\vs.length<ah/\∃m',m'<n-i/\Wc n Pv (i+1) m' (vs++[v]) (upd H6 l (.lst (vs++[v])))else ∃m',m'<n-i/\Wc n Pv (i+1) m' vs H5) :
  gx k fi σ (FX lo n) g tc te H1 l Q:=by
 refine nL n Pv h0 hl (fun i vs H hi p=>hi) (fun vs H p=>⟨aH _,hd vs H p⟩) fun i vs H x H3 hi p y=>?_;obtain⟨rfl,rfl⟩:=y;exact hs i vs _ hi p
theorem xA{x:Str}(Pv:Nat->List V->Hp->Prop)(h0:Pv 0 [] (upd H1 l (.lst [])))
  (hl:∀i vs H,i<=x.cps.size->Pv i vs H->H l=some (.lst vs)) (hd:∀vs H,Pv x.cps.size vs H->Q H)
  (hs:∀i vs H c,x.cps[i]?=some c->i<x.cps.size->Pv i vs H->g (.str ⟨#[c]⟩) (d4 k fi σ) H fun σ2 H4=>tc σ2 H4 fun b H5 =>
   if b=true then te σ2 H5 fun v H6=>H6 l=some (.lst vs)/\vs.length<ah/\∃m',m'<x.cps.size-i/\Wc x.cps.size Pv (i+1) m' (vs++[v]) (upd H6 l (.lst (vs++[v])))else ∃m',m'<x.cps.size-i/\Wc x.cps.size Pv (i+1) m' vs H5) :
  gx k fi σ (G0 x) g tc te H1 l Q:=by
 refine nL x.cps.size Pv h0 hl (fun i vs H hi p=>hi) (fun vs H p=>⟨aH _,hd vs H p⟩) fun i vs H y H3 hi p yl=>?_;obtain⟨rfl,c,hc,rfl⟩:=yl;exact hs i vs _ c hc hi p
end
theorem gN{j:Nat}{x:V}{σ:St}{H:Hp}{Q:St->Hp->Prop}(h:Q (σ.set j (some x)) H):ei j x σ H Q:=h
theorem sr{σ:St}{H:Hp}{A B:Hp->Prop}(h:A H):kA σ H (fun b H5=>if b=true then A H5 else B H5):=by
 show(if(true:Bool)=true then A H else B H)
 exact h
theorem tR{α β:Type}{F:α->β->Prop}:∀{l₁:List α}{l₂:List β},Paired F l₁ l₂->∀{i:Nat}{a:α}{b:β},l₁[i]?=some a->l₂[i]?=some b->F a b
 |_,_,.nil,_,_,_,h,_=>by simp at h
 |_,_,.cons r t,0,_,_,h,h'=>by simp at h h';subst h h';exact r
 |_,_,.cons r t,i+1,_,_,h,h'=>by simp at h h';exact tR t h h'
def Trc(n:Nat)(h:Heap)(e:Addr)(vs:Array Value)(T:Option Addr):Prop :=
 (vs[1]?=some .none/\T=none)∨∃t oT ts,T=some t/\vs[1]?=some (.ref t)/\n<=t/\t≠e/\h.get? t=some oT/\oT.data=.fields ts/\ts[3]?=some .none
def FZ(a C:Addr)(od:Option Addr):Heap->Prop:=fun h=>∃vs,h.get? a=some { cls:=.ref C,dict:=od,data:=.fields vs }/\1<vs.size
structure GO(n:Nat)(h:Heap)(H:Hp)(a C:Addr)(od:Option Addr):Prop where
 trk:H a=some (.ext (FZ a C od))
 new:n<=a
 tr:∃vs T,h.get? a=some { cls:=.ref C,dict:=od,data:=.fields vs }/\1<vs.size/\Trc n h a vs T/\∀t,T=some t->H t=none
structure GG(X:Cx)(J3:Zd)(n:Nat):Prop where
 s0:X.s₀.heap.objs.size<=n
 loc:X.env.locals<n
 cell:∀x c,X.env.cells.lookup x=some c->c<n
 pin:∀p∈X.pn++J3,p.1<n
section
variable{X:Cx}{J3:Zd}{σ:St}{H:Hp}{s:Shared}{n:Nat}{a C:Addr}{od:Option Addr}{v:Value}
def XE(X:Cx)(J3:Zd)(σ:St)(W:XK)(e:Value)(s':Shared):Prop:=∃n a C od H',e=.ref a/\GG X J3 n/\Inv X J3 σ H' s'/\GO n s'.heap H' a C od/\W (.ref C) (some a) H'
end
end L2
namespace L2
open PySem PySem.W
def vq(K:Za)(td ty tv:TE):TS:=fun D σ H=>tv σ H fun v H1=>td σ H1 fun x H2=>ty σ H2 fun y H3 =>
 ∃(a b:Addr) (kvs:List (TK×V)) (k:TK),x=.ref a/\y=.ref b/\H3 a=some (.dT kvs)/\mP K H3 k (.ref b)/\k.depth<=8/\kvs.length<ah/\D.nx σ (upd H3 a (.dT (cX kvs k v)))
section
variable{X:Cx}{o i value:Expr}{pos pos':Pos}{td ty tv:TE}
theorem rf(hu:X.A.units+16<cLine)(ho:PE X o td)(hi:PE X i ty)(hv:PE X value tv)(hs:pb value (some (.Subscript o i pos')) pos.line X.env=pure false):
  PS X (.Assign [.Subscript o i pos'] value pos) (vq X.K td ty tv):=by
 intro J3 s σ H D I h;refine wpAny_Assign_Subscript (cr (hv J3 s σ H _ I h) fun r s1 ⟨v,H1,I1,rv,q1⟩=>cr (ho J3 s1 σ H1 _ I1 q1) fun u s2 ⟨x,H2,I2,rx,q2⟩=>cr (hi J3 s2 σ H2 _ I2 q2) fun iv s3 ⟨y,H3,I3,ry,a,b,kvs,k,ex,ey,e,eb,e8,l,q3⟩=>?_) hs;subst ex;subst ey;obtain rfl:u=Value.ref a:=rx;exact yW hu I3 e eb e8 l ry rv fun s4 I4=>⟨σ,_,I4,q3⟩
end
theorem tM{K:Za}{H:Hp}:∀xs:List Str,TKCs K H (xs.map fun x=>TK.k (.inr x)) (xs.map V.str)
 |[]=>by show TKCs K H [] [];unfold TKCs;rfl
 |x::xs=>by
  rw[bI,bI];unfold TKCs;refine⟨_,_,rfl,?_,tM xs⟩;unfold mP
  rfl
theorem wz{K:Za}{H:Hp}{a:Addr}{xs:Zb}(h:ck K H a (xs.map V.str)):mP K H (.t (xs.map fun x=>TK.k (.inr x))) (.ref a):=by
 unfold mP;exact⟨a,_,rfl,h,tM xs⟩
end L2
end

section
set_option Elab.async false
set_option linter.all false
set_option maxRecDepth 100000
namespace L2
open PySem PySem.Spec PyProof.Rows PySem.W
def EX:Expr->List Str
 |.Name x _=>[x]
 |.Tuple es _ _=>es.filterMap fun e=>match e with | .Name x _=>some x|_=>none
 |_=>[]
theorem bK{X:Cx}{b:List Stmt}{t:TS}{D:mK}{σ:St}{H:Hp}(r:t D σ H)(p:xP X b t):∃t,xP X b t/\t D σ H:=⟨t,p,r⟩
section
variable{X:Cx}{k k0:Nat}{ps:Zb}{sp:Sp}{x m:Str}{C:Addr}{p pos J5:Pos}{o e a b:Expr}{es:List Expr}{t:TA}{ta tb te:TE}
theorem qf(hr:eL k0 X.A)(D:gm X.prog X.w X.K X.mg X.base x ps k sp)(ha:PA X (e::es) t)(hk:k<=k0:=by decide)(hg:Gl X x:=by rfl)(hdb:(x==("__debug__":Str))=false:=by decide)
  (he:aQ (e::es) X.env=(false,eval e X.env)::aQ es X.env:=by rfl) (hpl:(backTo pos (aQ es X.env)).any (·.1)=false:=by rfl) :
  PE X (.Call (.Name x p) (e::es) [] pos) (aM sp t):=Fe D (hr.mono hk) hg ha hdb he hpl
theorem qm{pl:Sem Bool}(hr:eL k0 X.A)(M:BQ X.prog X.w X.K X.mg X.base C m ps k sp)(he:PE X o ta)(ha:PA X (e::es) t)(hk:k<=k0:=by decide)
  (hst:aQ (e::es) X.env=(false,eval e X.env)::aQ es X.env:=by rfl) (hpl:(backTo pos (aQ es X.env)).any (·.1)=false:=by rfl)
  (ht:eval (.Call (.Attribute o m J5) (e::es) [] pos) X.env=(do
   let ov <- eval o X.env
   pc J5.atName
   let(f,first) <- j9 [ov] (o_ ov m pl)
   ow pos f first (backTo pos (aQ (e::es) X.env)) (jw pos (jv [] X.env))):=by rfl) :
  PE X (.Call (.Attribute o m J5) (e::es) [] pos) (dw C m sp [] E0 ta t):=FG (pl:=pl) M (hr.mono hk) he ha hst hpl ht
theorem Bg{pl:Sem Bool}(hr:eL k0 X.A)(M:BQ X.prog X.w X.K X.mg X.base C m ps k sp)(he:PE X o ta)(hk:k<=k0:=by decide)
  (ht:eval (.Call (.Attribute o m J5) [] [] pos) X.env=(do
   let ov <- eval o X.env
   pc J5.atName
   let(f,first) <- j9 [ov] (o_ ov m pl)
   ow pos f first (backTo pos (aQ [] X.env)) (jw pos (jv [] X.env))):=by rfl) :
  PE X (.Call (.Attribute o m J5) [] [] pos) (dw C m sp [] E0 ta a_):=Eo (pl:=pl) M (hr.mono hk) he ht
theorem xl(ha:PE X a ta)(hb:PE X b tb)(hs:BH b:=by exact fun _ _=>rfl):PE X (.Subscript a b pos) (ay (cM X.K) ta tb):=Ac Aq ha hb hs
theorem xt(ha:PE X a ta)(hb:PE X b tb)(hs:BH b:=by exact fun _ _=>rfl):PE X (.Subscript a b pos) (ay (oJ X.K) ta tb):=Ac C0 ha hb hs
theorem xq(ha:PE X a ta)(hb:PE X b tb)(hs:BH b:=by exact fun _ _=>rfl):PE X (.Subscript a b pos) (ay (iM X.K) ta tb):=Ac FM ha hb hs
theorem xs'(ha:PE X a ta)(hb:PE X b tb)(hs:BH b:=by exact fun _ _=>rfl):PE X (.Subscript a b pos) (ay Cy ta tb):=Ac C1 ha hb hs
theorem eZ{op:CmpOp}{r:R2}(ho:mC X (eM op) r)(ha:PE X a ta)(hb:PE X b tb)(hm:jW op b=false:=by exact CM _):PT X (.Compare a [op] [b] pos) (aF (ay r ta tb)):=z_ ho ha hb hm
theorem BO{op:CmpOp}{r:R2}(ho:mC X (eM op) r)(ha:PE X a ta)(hb:PE X b tb)(hm:jW op b=false:=by exact CM _):PE X (.Compare a [op] [b] pos) (ay r ta tb):=Ad ho ha hb hm
theorem DE{op:CmpOp}{r:R2}(ho:mC X (eM op) r)(ha:PE X a ta)(hb:PE X b tb)(hm:jW op b=false:=by with_unfolding_all rfl):PT X (.Compare a [op] [b] pos) (aF (ay r ta tb)):=z_ ho ha hb hm
theorem eci{op:CmpOp}{r:R2}(ho:mC X (eM op) r)(ha:PE X a ta)(hb:PE X b tb)(hm:jW op b=false:=by with_unfolding_all rfl):PE X (.Compare a [op] [b] pos) (ay r ta tb):=Ad ho ha hb hm
theorem qB{id:String}{r:List V->Hp->VK->Prop}(hc:fN X (.builtin id) r)(hm:X.mg x=none)(hv:iF x=some (.builtin id))(ha:PA X (e::es) t)(hg:Gl X x:=by rfl)(hn:x≠"__name__":=by decide)(hdb:(x==("__debug__":Str))=false:=by decide)
  (he:aQ (e::es) X.env=(false,eval e X.env)::aQ es X.env:=by rfl) (hpl:(backTo pos (aQ es X.env)).any (·.1)=false:=by rfl):PE X (.Call (.Name x p) (e::es) [] pos) (cK r t):=w_ hc hg hm hv ha hn hdb he hpl
theorem qL(hc:X.calm=true)(hm:X.mg "list"=none)(ha:PA X (e::es) t)(hg:Gl X "list":=by rfl)
  (he:aQ (e::es) X.env=(false,eval e X.env)::aQ es X.env:=by rfl) (hpl:(backTo pos (aQ es X.env)).any (·.1)=false:=by rfl):PE X (.Call (.Name "list" p) (e::es) [] pos) (cK (cW X.K) t):=eK (y3 hc) hg hm rT ha (by decide) (by decide) he hpl
theorem ql(hm:X.mg "len"=none)(ha:PA X (e::es) t)(hg:Gl X "len":=by rfl)
  (he:aQ (e::es) X.env=(false,eval e X.env)::aQ es X.env:=by rfl) (hpl:(backTo pos (aQ es X.env)).any (·.1)=false:=by rfl):PE X (.Call (.Name "len" p) (e::es) [] pos) (cK (dP X.K) t):=w_ BE hg hm PySem.boot_len ha (by decide) (by decide) he hpl
theorem qs(i:Nat){pos':Pos}(hN:X.N.Nodup)(he:PE X e te)(hi:X.N[i]?=some x:=by rfl)(hx:Loc X.env.scope x:=by first|exact Or.inl rfl|exact Or.inr rfl)(hs:pb e (some (.Name x pos')) pos.line X.env=pure false:=by rfl)(hf:X.fn x=true∨X.env.scope.names.lookup x=some .local:=by first|exact .inl rfl|exact .inr rfl|assumption):
  PS X (.Assign [.Name x pos'] e pos) (aS te (ei i)):=FA hN hi hx he hs hf
theorem gn(i:Nat)(hN:X.N.Nodup)(hi:X.N[i]?=some x:=by rfl)(hx:Loc X.env.scope x:=by first|exact Or.inl rfl|exact Or.inr rfl)(hf:X.fn x=true∨X.env.scope.names.lookup x=some .local:=by first|exact .inl rfl|exact .inr rfl|assumption):PG X (.Name x pos) (ei i):=Ab hN hi hx hf
theorem gc(i:Nat)(hN:X.N.Nodup:=by exact of_decide_eq_true (by with_unfolding_all rfl))(hi:X.N[i]?=some x:=by rfl)(hx:Loc X.env.scope x:=by exact Or.inl rfl)(hf:X.fn x=true∨X.env.scope.names.lookup x=some .local:=by first|exact .inl rfl|exact .inr rfl|assumption):PG X (.Name x pos) (ei i):=Ab hN hi hx hf
theorem a1(ha:PE X a ta)(hs:aQ [a] X.env=(false,eval a X.env)::aQ [] X.env:=by rfl):PA X [a] (aq ta a_):=bS ha cA hs
theorem a2(ha:PE X a ta)(hb:PE X b tb)(hs:aQ [a,b] X.env=(false,eval a X.env)::aQ [b] X.env:=by rfl)(hs2:aQ [b] X.env=(false,eval b X.env)::aQ [] X.env:=by rfl):PA X [a,b] (aq ta (aq tb a_)):=bS ha (bS hb cA hs2) hs
theorem a3{c:Expr}{tc:TE}(ha:PE X a ta)(hb:PE X b tb)(hc:PE X c tc)(hs:aQ [a,b,c] X.env=(false,eval a X.env)::aQ [b,c] X.env:=by rfl)(hs1:aQ [b,c] X.env=(false,eval b X.env)::aQ [c] X.env:=by rfl)(hs2:aQ [c] X.env=(false,eval c X.env)::aQ [] X.env:=by rfl):PA X [a,b,c] (aq ta (aq tb (aq tc a_))):=bS ha (a2 hb hc hs1 hs2) hs
variable{elt iter tg:Expr}{ifs:List Expr}{scope:Scope}{fi:List Nat}{wi:TI}{g:TG}{tc:TT}
theorem qc(hi:PI X tg iter wi)(ho:xH k g)
  (h:∀C cl s₀ H₀ ex pn,PG (dH X (EX tg++fi.map fun i=>X.N.getD i "") scope C cl s₀ H₀ ex pn) tg g/\Fo (dH X (EX tg++fi.map fun i=>X.N.getD i "") scope C cl s₀ H₀ ex pn) ifs tc/\PE (dH X (EX tg++fi.map fun i=>X.N.getD i "") scope C cl s₀ H₀ ex pn) elt te)
  (hS:lr X.env.scope scope k (EX tg++fi.map fun i=>X.N.getD i "") X.N fi=true:=by with_unfolding_all rfl) (hc:X.calm=true:=by rfl)
  (hs:∀x,wr iter X.env x=pure x:=by intro _;rfl):PE X (.ListComp elt [⟨tg,iter,ifs,0⟩] scope pos) (cN k fi wi g tc te) :=
 Et hS hc hi (fun _ _ _ _ _ _=>(h _ _ _ _ _ _).1) ho (fun _ _ _ _ _ _=>(h _ _ _ _ _ _).2.1) (fun _ _ _ _ _ _=>(h _ _ _ _ _ _).2.2) hs
theorem qsc(j:Nat){y:Str}{spos py:Pos}(hN:X.N.Nodup)(hi:PI X tg iter wi)(ho:xH k g)
  (h:∀C cl s₀ H₀ ex pn,PG (dH X (EX tg++fi.map fun i=>X.N.getD i "") scope C cl s₀ H₀ ex pn) tg g/\Fo (dH X (EX tg++fi.map fun i=>X.N.getD i "") scope C cl s₀ H₀ ex pn) ifs tc/\PE (dH X (EX tg++fi.map fun i=>X.N.getD i "") scope C cl s₀ H₀ ex pn) elt te)
  (hj:X.N[j]?=some y:=by rfl) (hy:Loc X.env.scope y:=by first|exact Or.inl rfl|exact Or.inr rfl)
  (hS:lr X.env.scope scope k (EX tg++fi.map fun i=>X.N.getD i "") X.N fi=true:=by with_unfolding_all rfl) (hc:X.calm=true:=by rfl)
  (hsw:pb (.ListComp elt [⟨tg,iter,ifs,0⟩] scope pos) (some (.Name y py)) spos.line X.env=pure true:=by rfl)
  (hs:∀x,wr iter X.env x=pure x:=by intro _;rfl) (hf:X.fn y=true∨X.env.scope.names.lookup y=some .local:=by first|exact .inl rfl|exact .inr rfl|assumption) :
  PS X (.Assign [.Name y py] (.ListComp elt [⟨tg,iter,ifs,0⟩] scope pos) spos) (aS (cN k fi wi g tc te) (ei j)) :=
 yC hN hj hy hS hc hi (fun _ _ _ _ _ _=>(h _ _ _ _ _ _).1) ho (fun _ _ _ _ _ _=>(h _ _ _ _ _ _).2.1) (fun _ _ _ _ _ _=>(h _ _ _ _ _ _).2.2) hsw hs hf
end
end L2
end

section
set_option Elab.async false
set_option linter.all false
set_option maxRecDepth 100000
namespace L2
open PySem PySem.Spec PyProof.Rows
structure Dx(h:Heap)(d:Addr)(es:Array jq)(ep:Nat):Prop where
 ex:∃o,h.get? d=some o/\o.ExactDict/\o.data=.dict es ep
section
variable{prog:bR}{w:World}{A:Around}{E:Zc}{s:Shared}{d v it:Addr}{es:Array jq}{ep i:Nat}
theorem Dx.ty(h:Dx s.heap d es ep):s.TypeIs (.ref d) "dict":=let⟨o,ho,e,_⟩:=h.ex;⟨o,ho,e.1⟩
end
structure F0(P:bR)(w:World)(K:Za)(d:Addr)(o:Obj)(u:HO)(n:Nat)(ent:Nat->Hp->V->V->Prop)(es:Array jq)(ep:Nat):Prop where
 ex:o.ExactDict
 dat:o.data=.dict es ep
 sz:es.size=n
 get:∀{H:Hp}{h:Heap}{i:Nat}(hi:i<es.size),lB P w K H h->H d=some (.frz o u)->∃a b,ent i H a b/\RelV a es[i].key/\RelV b es[i].val
def FQ(K:Za)(kvs:List (TK×V)):Nat->Hp->V->V->Prop:=fun i H a b=>∃k,kvs[i]?=some (k,b)/\mP K H k a
theorem t6{P:bR}{w:World}{K:Za}{H:Hp}{h:Heap}{d:Addr}{o:Obj}{kvs:List (TK×V)}(hok:lB P w K H h)(e:H d=some (.frz o (.dT kvs))):
  (d==gG)=false/\∃es ep,F0 P w K d o (.dT kvs) kvs.length (FQ K kvs) es ep:=by
 obtain⟨g,z,hsys,xs,rel,o',es,ep,ho',ex,hd,hes,nd⟩:=(show cj P w K H h d (.frz o (.dT kvs))from hok d _ e);rw[g]at ho';cases ho';have hl:es.size=xs.length:=by rw[<-j8,hes,ai]
 refine⟨hsys,es,ep,ex,hd,by rw[hl,Paired.length rel],fun{H' h' i} hi hok' e'=>?_⟩;obtain⟨g',z',hsys',xs',rel',o'',es',ep',ho'',ex',hd',hes',nd'⟩:=(show cj P w K H' h' d (.frz o (.dT kvs))from hok' d _ e');rw[g']at ho'';cases ho'';rw[hd]at hd';cases hd';have hl':es.size=xs'.length:=by rw[<-j8,hes',ai]
 have hi':i<xs'.length:=by omega
 have hk:i<kvs.length:=by rw[Paired.length rel'];exact hi'
 have hp:=tR rel' (i:=i) (a:=kvs[i]) (b:=xs'[i]) (by simp[hk]) (by simp[hi']);have he:es[i]=entryOfKey (c_ P w) xs'[i]:=by
  have:es.toList[i]?=some es[i]:=by simp[hi]
  rw[hes',cO,h_ hi']at this;injection this with this;exact this.symm
 refine⟨.ref xs'[i].2.1,kvs[i].2,⟨kvs[i].1,by simp[hk],hp.2.1⟩,?_,?_⟩
 ·rw[he];exact rfl
 ·rw[he];exact hp.2.2.2
def z0(K:Za)(tk tv:TE):TE:=fun σ H Q=>∀p,H p=none->tk σ (upd H p (.dT [])) fun x H1=>tv σ H1 fun y H2=>H2 p=some (.dT [])/\∃b k,x=.ref b/\mP K H2 k (.ref b)/\k.depth<=8/\Q (.ref p) (upd H2 p (.dT [(k,y)]))
theorem Bh{X:Cx}{pos:Pos}{k v:Expr}{tk tv:TE}(hu:X.A.units+16<cLine)(hk:PE X k tk)(hv:PE X v tv):PE X (.Dict [some k] [v] pos) (z0 X.K tk tv):=by
 intro J3 s σ H Q I q;have hn:=I.hok.fresh (aH s.heap.objs.size);have I1:=I.laid (a:=s.heap.objs.size) (o:=.dT []) (h':=s.heap.push { cls:=.type "dict",data:=.dict #[] }) (t':=s.toks) (fun _ _ q=>bC _ q) (aH _) (xx s.heap I.big);rw[arm_eval_Dict,zip_pairTrees [some k] [v] X.env pos rfl rfl,dictDisplay_pairs (pairTrees [some k] [v] X.env pos) (by unfold pairTrees;simp) (by show 1<17;decide)];refine ak (zJ (ak ?_));unfold subDict;refine ak (wpAny_alloc ?_);refine ak (iG ?_);rw[if_pos (show(pairTrees [some k] [v] X.env pos).length<=15 from by show 1<=15;decide)];refine ak (pairTrees_cons_walk (cr (hk J3 _ σ _ _ I1 (q _ hn)) fun u s1 ⟨x,H1,I1,rx,q1⟩=>cr (hv J3 s1 σ H1 _ I1 q1) fun r s2 ⟨y,H2,I2,ry,e,b,kk,ex,eb,e8,q2⟩=>pairTrees_nil_walk ?_));subst ex;cases rx;refine iG ?_;obtain⟨z,hd,xs,rel,dd⟩:=Au I2.hok I2.kIn e;cases rel;rw[og];refine ak (ak (ak (wpAny_dictSet_heap (hsz:=dL _) (show(c_ X.prog X.w).room X.A from by show X.A.units+8<cLine;omega) (rE I2.hok I2.kIn eb e8) dd fun h' dd' hs=>ao ?_)));show wpAny _ _ (forIn [] PUnit.unit _) _ _ _;rw[List.forIn_nil];refine ao (ao (ao (ao ⟨.ref s.heap.objs.size,_,?_,rfl,q2⟩)));obtain⟨q,es,ep,hq,h2,h3,h4,_,h5⟩:=dd';refine nJ I2 (by rw[e];exact iC) hs ⟨q,hq⟩ ⟨by show 1<=ah;decide,hd,_,((KT.put (kvs:=[]) .nil kk eb e8 ry)).keeps fun c ys ec=>?_,q,es,ep,hq,h2,h3,h4,h5⟩;rw[aj (Aj ec e (fun z=>nomatch z))];exact ec
section
variable{prog:bR}{w:World}{A:Around}{E:Zc}{s:Shared}{d v it:Addr}{es:Array jq}{ep i:Nat}
theorem Bf{Q:Zc}(hd:(d==gG)=false)(h:Dx s.heap d es ep)
  (q:∀h',h'.IsKeyIter s.heap.objs.size d 0 es.size ep->(∀b o,s.heap.get? b=some o->h'.get? b=some o)->Q (.ref s.heap.objs.size) { s with heap:=h' }):wpAny (model prog w) A (pyIter (.ref d)) Q E s:=by
 obtain⟨o,ho,hx,hdat⟩:=h.ex;refine wpAny_pyIter_slot h.ty F.slot_dict_iter <| mS F.slot_dict_iter h.ty F.entry_dict_iter ?_ (F.args_dict_iter_1 _);unfold cw.«dict.__iter__»;refine ak ?_;unfold cw.Dict.dictSlotNone;refine ak <| wpAny_notOrdered_dict h.ty <| ?_;refine ao (show wpAny _ _ (cw.Dict.showsAll d >>= _) _ _ s from ?_);unfold cw.Dict.showsAll;rw[if_neg (fun z=>by rw[hd]at z;cases z)];refine ak <| ao <| ak <| ux ho hdat <| ak <| wpAny_dictEpoch ho hdat ?_;refine ak (fB (ao ⟨_,rfl,"dict_keyiterator",_,⟨_,c8 _ rfl,rfl⟩,qh.lookup,?_⟩));exact q _ ⟨_,c8 _ rfl,rfl,by simp[rawInt]⟩ fun b o e=>bC _ e
theorem Be{Q:Option Value->Shared->Prop}(hit:s.heap.IsKeyIter it d i es.size ep)(h:Dx s.heap d es ep)(hi:i<es.size)
  (q:∀h',h'.IsKeyIter it d (i+1) es.size ep->iE it s.heap h'->Q (some es[i].key) { s with heap:=h' }):wpAny (model prog w) A (pyNext (.ref it)) Q E s:=by
 obtain⟨ov,hov,hcv,hdv⟩:=id hit;obtain⟨o,ho,hx,hdat⟩:=h.ex;have hT:=hit.typeIs;unfold pyNext;refine ak <| uC <| ju (name:=js "__next__") hT qh <| mS qh hT F.entry_dict_keyiterator_next ?_ (F.args_dict_keyiterator_next_1 _);refine ak <| ao <| ak <| ak ?_
 first|refine ak <| uv hT <| ao ?_|refine ak <| uu hT <| ao ?_
 refine ak <| wpAny_fieldsOf hov hdv ?_;simp only[show cw.Dict_items.ownsTuple "dict_keyiterator"=false by decide,kb,if_false];show wpAny _ _ (if(Value.ref d==Value.none)=true then _ else _) _ _ _
 rw[if_neg (show ¬((Value.ref d==Value.none)=true)from fR)];refine ak <| ao <| ak <| ux ho hdat ?_;rw[if_neg (by simp)];refine ak <| ao <| ak <| wpAny_dictEpoch ho hdat ?_;rw[if_neg (by simp)];refine ao ?_;simp only[show ¬((i:Int)<0)from by omega,if_false,ko,Array.getElem?_eq_getElem hi];refine ak ?_
 first|refine ak <| uv hT <| ao ?_|refine ak <| uu hT <| ao ?_
 refine ak <| wpAny_isOneOf_keyiter hT ?_;show wpAny _ _ (setField (.ref it) 1 (rawInt ((i:Int)+1)) >>= _) _ _ s;refine ak <| uH hov hdv (by simp) ?_;have n1:(s.heap.update it (Obj.mapFields (·.setIfInBounds 1 (rawInt ((i:Int)+1))))).IsKeyIter it d (i+1) es.size ep:=⟨_,uQ _ hov (Obj.isFreed_of_fields (uG hdv _)),(Obj.cls_mapFields ..).trans hcv,by rw[uG hdv];simp[rawInt]⟩;have T1:=Heap.IsKeyIter.typeIs (s:={ s with heap:=s.heap.update it (Obj.mapFields (·.setIfInBounds 1 (rawInt ((i:Int)+1)))) }) n1;refine ak <| iG <| ak <| wpAny_isOneOf_keyiter T1 ?_;show wpAny _ _ (pure es[i].key) _ _ _;exact ao <| ao ⟨_,rfl,ao <| q _ n1 (lW ..)⟩
theorem Ct{Q:Option Value->Shared->Prop}(hh:A.handled=none)(hit:s.heap.IsKeyIter it d i es.size ep)(h:Dx s.heap d es ep)(hi:es.size<=i)
  (q:∀h',Heap.ExtBut it s.heap h'->Q none { s with heap:=h' }):wpAny (model prog w) A (pyNext (.ref it)) Q E s:=by
 obtain⟨ov,hov,hcv,hdv⟩:=id hit;obtain⟨o,ho,hx,hdat⟩:=h.ex;have hT:=hit.typeIs;unfold pyNext;refine ak <| uC <| ju (name:=js "__next__") hT qh <| mS qh hT F.entry_dict_keyiterator_next ?_ (F.args_dict_keyiterator_next_1 _);refine ak <| ao <| ak <| ak ?_
 first|refine ak <| uv hT <| ao ?_|refine ak <| uu hT <| ao ?_
 refine ak <| wpAny_fieldsOf hov hdv ?_;simp only[show cw.Dict_items.ownsTuple "dict_keyiterator"=false by decide,kb,if_false];show wpAny _ _ (if(Value.ref d==Value.none)=true then _ else _) _ _ _
 rw[if_neg (show ¬((Value.ref d==Value.none)=true)from fR)];refine ak <| ao <| ak <| ux ho hdat ?_;rw[if_neg (by simp)];refine ak <| ao <| ak <| wpAny_dictEpoch ho hdat ?_;rw[if_neg (by simp)];refine ao ?_;simp only[show ¬((i:Int)<0)from by omega,if_false,ko,Array.getElem?_eq_none hi];refine ak ?_
 first|refine ak <| uv hT <| ao ?_|refine ak <| uu hT <| ao ?_
 show wpAny _ _ (setField (.ref it) 0 .none >>= _) _ _ s;refine ak <| uH hov hdv (by simp) ?_;show wpAny _ _ (newExc (.type "StopIteration") [] >>= _) _ _ _;refine ak ?_;simp only[newExc,newTuple];refine ak <| fB ?_ (by size_fits);refine ak (m:=uF _ _) <| wpAny_of_eq (a:=Value.none) (by first|rfl|(simp only[uF];rfl)) <| fB ?_ (by size_fits)
 simp only[raiseNew];refine ak <| wpAny_handled ?_;rw[show A.in1.handled=none from hh];refine ak <| ao <| wpAny_throw ?_;refine ak (tF (b:=true) (T:="StopIteration") ⟨_,c8 _ rfl,rfl⟩ isSubtype_stop (ao (q _ (((lW ..).extBut.push _).push _))))
end
def FY(d:Addr)(o:Obj)(u:HO)(n:Nat)(ent:Nat->Hp->V->V->Prop):It :=
 ⟨fun i H=>H d=some (.frz o u)/\i<n,fun i H x H'=>H'=H/\∃b,ent i H x b,fun i H=>H d=some (.frz o u)/\n<=i⟩
theorem AQ{P:bR}{w:World}{K:Za}{tg:Expr}{d it:Addr}{o:Obj}{u:HO}{n:Nat}{ent:Nat->Hp->V->V->Prop}{es:Array jq}{ep:Nat}(X0:F0 P w K d o u n ent es ep):
  rW P w K tg (FY d o u n ent) [it] it (fun i h=>h.IsKeyIter it d i n ep) where
 mem:=by simp
 obj:=fun i h st b hb=>by
  have e:b=it:=by simpa using hb
  subst e;obtain⟨o,e,c,d⟩:=st;exact⟨o,e,fun v z=>by rw[d]at z;cases z⟩
 keep:=fun i h h' st k=>st.at fun o e=>k it (by simp) o e
 item:=by
  intro X hP hw hK hc i J3 s σ H E I hf st hg;subst hP hw hK;obtain⟨hd,hi⟩:=hg;have hi':i<es.size:=by rw[X0.sz];exact hi
  obtain⟨g,ou⟩:=(show cj X.prog X.w X.K H s.heap d (.frz o u)from I.hok d _ hd);obtain⟨a,b,en,ra,rb⟩:=X0.get hi' I.hok hd;obtain⟨f0,f1,f2,f3,f4,f5⟩:=hf it (by simp);rw[<-X0.sz]at st;refine Be st ⟨o,g,X0.ex,X0.dat⟩ hi' fun h' st' sb=>?_;have I1:Inv X J3 σ H { s with heap:=h' }:=I.turned (t':=s.toks) (fun b o hb e=>(sb.2 b hb).trans e) f0 f1 f3 f4 f5;obtain⟨oi,e,c,dd⟩:=id st';exact⟨_,rfl,t5 (s:={ s with heap:=h' }) e c dd (by decide) ⟨a,H,I1,ra,⟨rfl,b,en⟩,by rw[<-X0.sz];exact st',fun b hb=>(hf b hb).1⟩⟩
 done:=by
  intro X hP hw hK hc i J3 s σ H E I hf st hg;subst hP hw hK;obtain⟨hd,hi⟩:=hg;obtain⟨g,ou⟩:=(show cj X.prog X.w X.K H s.heap d (.frz o u)from I.hok d _ hd);obtain⟨f0,f1,f2,f3,f4,f5⟩:=hf it (by simp);rw[<-X0.sz]at st;exact Ct (I.ok.hd hc) st ⟨o,g,X0.ex,X0.dat⟩ (by rw[X0.sz];exact hi) fun h' eb=>⟨rfl,I.turned (t':=s.toks) (fun b o hb e=>eb b o hb e) f0 f1 f3 f4 f5⟩
 self:=fun _ _ _ _ _ st h=>wpAny_pyIter_keyiter st h
def C5(K:Za)(tl:TE):TI:=fun σ H R=>tl σ H fun x H1=>∃d kvs,x=.ref d /\
 ((H1 d=some (.dT kvs)/\∀o,R (FY d o (.dT kvs) kvs.length (FQ K kvs)) (upd H1 d (.frz o (.dT kvs))))∨∃o,H1 d=some (.frz o (.dT kvs))/\R (FY d o (.dT kvs) kvs.length (FQ K kvs)) H1)
section
variable{X:Cx}{J3:Zd}{σ:St}{l tg:Expr}{tl:TE}
theorem tW{R:It->Hp->Prop}{H2:Hp}{s1:Shared}{d:Addr}{o:Obj}{u:HO}{n:Nat}{ent:Nat->Hp->V->V->Prop}{es:Array jq}{ep:Nat}(X0:F0 X.prog X.w X.K d o u n ent es ep)(hsys:(d==gG)=false)(I2:Inv X J3 σ H2 s1)(e:H2 d=some (.frz o u))(q:R (FY d o u n ent) H2):
  wpAny (model X.prog X.w) X.A (pyIter (.ref d)) (PIE X J3 σ tg R) X.xe s1:=by
 obtain⟨g,_⟩:=(show cj X.prog X.w X.K H2 s1.heap d (.frz o u)from I2.hok d _ e);refine Bf hsys ⟨o,g,X0.ex,X0.dat⟩ fun h' hit hk=>?_;have I3:Inv X J3 σ H2 { s1 with heap:=h',toks:=s1.toks }:=I2.kept (t':=s1.toks) hk;refine⟨_,[_],_,_,H2,rfl,I3,AQ X0,by rw[<-X0.sz];exact hit,fun b hb=>?_,q⟩;have e:b=s1.heap.objs.size:=by simpa using hb
 subst e;exact I2.fpOk (aH _) (I2.hok.fresh (aH _))
theorem CG(hl:PE X l tl):PI X tg l (C5 X.K tl):=by
 intro J3 s σ H R I h;refine cr (hl J3 s σ H _ I h) fun v s1 ⟨x,H1,I1,r1,d,kvs,ex,q⟩=>?_;subst ex;cases r1;rcases q with⟨e,q⟩|⟨o,e,q⟩
 ·obtain⟨z,hsys,xs',rel,o,es,ep,ho,r⟩:=id (show cj X.prog X.w X.K H1 s1.heap d (.dT kvs)from I1.hok d _ e);have I2:Inv X J3 σ (upd H1 d (.frz o (.dT kvs))) { s1 with heap:=s1.heap,toks:=s1.toks } :=
   I1.write (x:=d) (e:=d) (t':=s1.toks) (by rw[e];trivial) (.inl rfl) (fun _ _ _ q=>q) ⟨o,ho⟩ ⟨ho,z,hsys,xs',Paired.mapP rel (fun p q r=>⟨r.1,mP.keeps (fun b ys eb=>by rw[aj (fun z=>by rw[z,e]at eb;cases eb)];exact eb) 8 r.2.2.1 r.2.1,r.2.2⟩),o,es,ep,ho,r⟩
  obtain⟨hsys',es',ep',X0⟩:=t6 I2.hok (aa (H:=H1) (a:=d));exact tW X0 hsys' I2 aa (q o)
 ·obtain⟨hsys',es',ep',X0⟩:=t6 I1.hok e;exact tW X0 hsys' I1 e q
end
end L2
end

section
set_option Elab.async false
set_option linter.all false
set_option maxRecDepth 100000
namespace HT
open PySem PySem.Spec PyProof.Rows
section
variable{prog:bR}{w:World}{A:Around}{E:Zc}{s:Shared}
theorem applied_rev{sl:Addr}{u:Tok}{n:Nat}{Q:Int×Int×Nat->Shared->Prop}(hs:s.heap.IsSliceOf sl .none .none (.int (-1) u))(h:Q ((n:Int)-1,-1,n) s):
  wpAny (model prog w) A (uW (.ref sl) (pure (n:Int))) Q E s:=by
 obtain⟨os,h1,_,h3⟩:=id hs;unfold uW cw.Slice.sliceFields;refine ak <| ak <| dY h1 h3 (x:=.none) rfl <| ak <| dY h1 h3 (x:=.none) rfl <| ak <| dY h1 h3 (x:=.int (-1) u) rfl <| ao ?_;refine ak <| slicePart_int ?_;show wpAny _ _ (if((-1:Int)==0)=true then _ else _) _ _ s
 rw[if_neg (by decide)];refine ak <| uX <| ak <| uX <| ak <| ao ?_;have e1:oo none none (-1) (n:Int)=((n:Int)-1,-1):=by
  unfold oo;simp
 have e2:kn ((n:Int)-1) (-1) (-1)=n:=by
  unfold kn;simp;omega
 show wpAny _ _ (match oo none none (-1) (n:Int)with|(a,b)=>pure (a,(-1:Int),kn a b (-1))) _ _ s
 rw[e1];show wpAny _ _ (pure ((n:Int)-1,(-1:Int),kn ((n:Int)-1) (-1) (-1))) _ _ s;rw[e2];exact ao h
theorem fm_congr{f g:Nat->Option Value}:∀{l:List Nat},(∀m∈l,f m=g m)->l.filterMap f=l.filterMap g
 |[],_=>rfl
 |a::l,h=>by rw[tD,tD,h a fx,fm_congr fun m hm=>h m (fw _ hm)]
theorem pick_rev(xs:Zf):((hJ xs.length).filterMap fun(m:Nat)=>xs.toArray[((xs.length:Int)-1+(m:Int) * (-1)).toNat]?).toArray=xs.reverse.toArray:=by
 congr 1;apply List.ext_getElem?;intro i;have e:((hJ xs.length).filterMap fun(m:Nat)=>xs.toArray[((xs.length:Int)-1+(m:Int) * (-1)).toNat]?)=(hJ xs.length).filterMap fun m=>xs.reverse[m]?:=by
  refine fm_congr fun m hm=>?_;have lt:=List.mem_range.1 hm;have e1:((xs.length:Int)-1+(m:Int) * (-1)).toNat=xs.length-1-m:=by omega
  rw[e1,List.getElem?_reverse lt,List.getElem?_toArray]
 rw[e];have:∀ys:List Value,(hJ ys.length).filterMap (fun m=>ys[m]?)=ys:=by
  intro ys
  induction ys with
  |nil=>rfl
  |cons y ys ih =>
   rw[em,List.range_succ_eq_map,tD,List.filterMap_map];simp only[List.getElem?_cons_zero];congr 1
 have h:=this xs.reverse;rw[ut]at h;rw[h]
theorem getItem_tuple_rev{t sl:Addr}{xs:Zf}{u:Tok}{Q:Zc}(ht:IsTup s.heap t xs.toArray)(hs:s.heap.IsSliceOf sl .none .none (.int (-1) u))
  (h:Q (.ref s.heap.objs.size) { s with heap:=s.heap.push { cls:=.type "tuple",data:=.seq xs.reverse.toArray } }) (hz:xs.length<=ah):wpAny (model prog w) A (fU (.ref t) (.ref sl)) Q E s:=by
 have ok:sizeOk (.seq xs.reverse.toArray):=by
  show xs.reverse.toArray.size<=ah;rw[bE,ut];exact hz
 obtain⟨os,h1,h2,h3⟩:=id hs;have ty:s.TypeIs (.ref sl) "slice":=⟨os,h1,h2⟩;unfold fU
 try with_reducible refine iG ?_
 first|refine ak (ao ?_)|skip
 refine ak <| wpAny_sequenceKey ht.typeIs (by decide) <| ?_;refine ak <| ju (name:=js "__getitem__") ht.typeIs jr <| mS jr ht.typeIs entry_tuple_getitem ?_ (args_tuple_getitem _ _);show wpAny _ _ (BS (.ref t) >>= _) _ _ s;refine ak <| tupleItemsOf_ ht <| ak <| on ty <| ?_;rw[if_pos (by decide)];have e0:xs.toArray.size=xs.length:=bE ..;rw[e0];refine ak <| applied_rev hs ?_;have no:¬((((xs.length:Int)-1)==0 && (-1:Int)==1 && xs.length==xs.length)=true):=by simp
 show wpAny _ _ (if(((xs.length:Int)-1)==0 && (-1:Int)==1 && xs.length==xs.length)=true then _ else _) _ _ s
 rw[if_neg no,pick_rev]
 first
  |exact ak (m:=km _) <| fB (ao ⟨_,rfl,ao h⟩) ok
  |exact ak (m:=km _) <| fB (ak (ao (ao ⟨_,rfl,ao h⟩))) ok
  |exact ak <| ak (m:=km _) <| fB (ao (ao ⟨_,rfl,ao h⟩)) ok
  |exact ak <| ak (m:=km _) <| fB (ao ⟨_,rfl,ao h⟩) ok
end
end HT
namespace L2
open PySem PySem.Spec PyProof.Rows
def Cb(K:Za)(te:TE):TE:=fun σ H Q=>te σ H fun x H1=>∃a xs,x=.ref a/\aY K H1 a xs/\∀p,H1 p=none->Q (.ref p) (upd H1 p (.tup xs.reverse))
theorem En{X:Cx}{e st:Expr}{te:TE}{p2 pos:Pos}(he:PE X e te)(hst:PE X st (tUn (rU fun i=>.int (-i)) (tC (.int 1)))):PE X (.Subscript e (.Slice none none (some st) p2) pos) (Cb X.K te):=by
 intro J3 s σ H Q I h;refine uV (cr (he J3 s σ H _ I h) fun v s1 ⟨x,H1,I1,r1,a,xs,e1,hx,q⟩=>?_);subst e1;cases r1;refine wpAny_Slice ?_;rw[evalPart_none];refine ao ?_;refine ao ?_;rw[evalPart_some];refine cr (hst J3 s1 σ H1 (fun x H2=>x=.int (-1)/\H2=H1) I1 ⟨_,rfl,rfl,rfl⟩) fun vu s3 ⟨y,H3,I3,r3,e3,e4⟩=>?_;subst e3 e4;obtain⟨u,rfl⟩:=r3;have I4:Inv X J3 σ H3 { s3 with heap:=s3.heap.push { cls:=.type "slice",data:=.fields #[.none,.none,.int (-1) u] } }:=I3.kept (t':=s3.toks) fun b ob q=>bC _ q;obtain⟨its,r,ht,hz⟩:=I4.tuple hx;show wpAny (model X.prog X.w) X.A (uU e (.Slice none none (some st) p2) (.ref a) (.ref s3.heap.objs.size)) (EP X J3 σ Q) X.xe { s3 with heap:=s3.heap.push { cls:=.type "slice",data:=.fields #[.none,.none,.int (-1) u] } };refine tail_any (ops:=[.ref a,.ref s3.heap.objs.size]) ht.typeIs jr.lookup (HT.getItem_tuple_rev ht (Heap.IsSliceOf.new ..) ?_ (by rw[<-r.length];exact hz)) (by with_unfolding_all rfl);refine⟨.ref _,_,I4.laid (t':=s3.toks) (o:=.tup xs.reverse) (fun b ob q=>bC _ q) (aH _) ?_,rfl,q _ (I4.hok.fresh (aH _))⟩;exact⟨by rw[ut];exact hz,_,r.reverse,uT _ _⟩
end L2
namespace HT
open PySem PySem.Spec PyProof.Rows
section
variable{prog:bR}{w:World}{A:Around}{E:Zc}{s:Shared}
theorem getItem_tuple_all{t sl:Addr}{items:Array Value}{vl vu:Value}{lo hi:Option Int}{Q:Zc}(ht:IsTup s.heap t items)(hs:s.heap.IsSliceOf sl vl vu .none)(pl:IsPart vl lo)(pu:IsPart vu hi)
  (h1:sIx items.size 0 lo=0) (h2:sIx items.size items.size hi=items.size) (h:Q (.ref t) s):wpAny (model prog w) A (fU (.ref t) (.ref sl)) Q E s:=by
 obtain⟨os,q1,q2,q3⟩:=id hs;have ty:s.TypeIs (.ref sl) "slice":=⟨os,q1,q2⟩;unfold fU
 try with_reducible refine iG ?_
 first|refine ak (ao ?_)|skip
 refine ak <| wpAny_sequenceKey ht.typeIs (by decide) <| ?_;refine ak <| ju (name:=js "__getitem__") ht.typeIs jr <| mS jr ht.typeIs entry_tuple_getitem ?_ (args_tuple_getitem _ _);show wpAny _ _ (BS (.ref t) >>= _) _ _ s;refine ak <| tupleItemsOf_ ht <| ak <| on ty <| ?_;rw[if_pos (by decide)];refine ak <| sliceApplied_gen hs pl pu ?_;rw[h1,h2];show wpAny _ _ (if(((0:Nat):Int)==0 && (1:Int)==1 && (items.size-0)==items.size)=true then _ else _) _ _ s
 rw[if_pos (by simp)];unfold cw.Tuple.tupleIsExact;refine ak <| ak <| on ht.typeIs <| ao ?_;rw[if_pos (by decide)];exact ak (kj (ao ⟨_,rfl,ao h⟩))
end
end HT
namespace L2
open PySem PySem.Spec PyProof.Rows
def Gm(K:Za):V->Option Int->Option Int->Hp->VK->Prop:=fun x lo hi H Q=>∃a xs,x=.ref a/\aY K H a xs/\HT.sIx xs.length 0 lo=0/\HT.sIx xs.length xs.length hi=xs.length/\Q (.ref a) H
theorem Cf{X:Cx}:Dw X (Gm X.K):=by
 intro J3 s σ H x v vl vu lo hi sl Q I rx hs pl pu h;obtain⟨a,xs,rfl,hx,h1,h2,q⟩:=h;cases rx;obtain⟨its,r,ht,hz⟩:=I.tuple hx;have hlen:its.toArray.size=xs.length:=by rw[bE];exact r.length.symm
 exact⟨"tuple",_,jr.lookup,ht.typeIs,HT.getItem_tuple_all ht hs pl pu (by rw[hlen];exact h1) (by rw[hlen];exact h2) ⟨.ref a,H,I,rfl,q⟩⟩
abbrev Fz(K:Za):V->Option Int->Option Int->Hp->VK->Prop:=fun x lo hi H Q=>Gn K x lo hi H Q∨Gm K x lo hi H Q
theorem DZ{X:Cx}:Dw X (Fz X.K):=Dw.or Fv Cf
end L2
end

section
set_option Elab.async false
set_option linter.all false
set_option maxRecDepth 100000
namespace HT
open PySem PyProof.Rows
end HT
namespace L2
open PySem PySem.Spec PyProof.Rows
abbrev o5:=Option d6
def i3:o5->Value->Bool
 |none,v=>match v with
  |.none=>true
  |_=>false
 |some k,v=>cq k v
def Fh(w:World):o5->Int
 |none=>so 4238894112
 |some k=>FL w k
theorem bX:∀{k:o5}{v:Value},i3 k v=true->(∃i t,k=some (Sum.inl i)/\v=Value.int i t)∨(∃x t,k=some (Sum.inr x)/\v=Value.str x t)∨(k=none/\v=Value.none)
 |none,v,h=>by
  refine .inr (.inr ⟨rfl,?_⟩);cases v<;>first|rfl|cases h
 |some k,v,h=>by
  rcases av (show cq k v=true from h)with⟨i,t,rfl,rfl⟩|⟨i,t,rfl,rfl⟩
  ·exact .inl ⟨i,t,rfl,rfl⟩
  ·exact .inr (.inl ⟨i,t,rfl,rfl⟩)
theorem rG{a b:o5}{v:Value}(h1:i3 a v=true)(h2:i3 b v=true):a=b:=by
 rcases bX h1 with⟨i,t,rfl,rfl⟩|⟨i,t,rfl,rfl⟩|⟨rfl,rfl⟩<;>rcases bX h2 with⟨j,u,rfl,e⟩|⟨j,u,rfl,e⟩|⟨rfl,e⟩<;>first|rfl|(cases e;rfl)|cases e
def xh(prog:bR)(w:World):PySem.KeyKind prog w o5 where
 is:=i3
 hash:=Fh w
 inj:=fun v a b ha hb=>rG ha hb
 byValue:=fun k v h=>by
  rcases bX h with⟨i,t,rfl,rfl⟩|⟨x,t,rfl,rfl⟩|⟨rfl,rfl⟩<;>rfl
 pyHash:=fun{A E s k v Q} hv h=>by
  rcases bX hv with⟨i,t,rfl,rfl⟩|⟨x,t,rfl,rfl⟩|⟨rfl,rfl⟩
  ·exact wpAny_pyHash_int h
  ·exact wpAny_pyHash_str h
  ·refine PySem.W.pyHash_slot (T:="NoneType") rfl F.slot_NoneType_hash F.entry_NoneType_hash (F.args_NoneType_hash_1 _) (by rw[beq_builtin_none]) (.inl rfl) ?_;show wpAny _ _ (retInt 4238894112) _ _ _;refine iD (wpAny_ret_mkInt (Q:=fun v s'=>∃n t,v=Value.int n t/\Q (so n) s') ⟨_,_,rfl,h⟩) (fun fin s' ⟨v,e,n,t,e2,q⟩=>⟨n,t,by rw[e,e2],q⟩) (fun _ _ z=>z)
 eqBool:=fun{A E s a b u v Q} hu hv h=>by
  rcases bX hu with⟨i,t,rfl,rfl⟩|⟨x,t,rfl,rfl⟩|⟨rfl,rfl⟩
  ·rcases bX hv with⟨j,u,rfl,rfl⟩|⟨y,u,rfl,rfl⟩|⟨rfl,rfl⟩
   ·exact(bT prog w).eqBool (a:=.inl i) (b:=.inl j) (oR i t) (oR j u) (by rw[show decide ((Sum.inl i:d6)=Sum.inl j)=decide ((some (Sum.inl i):o5)=some (Sum.inl j))from decide_eq_decide.mpr ⟨fun z=>by rw[z],fun z=>by injection z⟩];exact h)
   ·rw[zzr0 (by intro z;injection z with z;cases z)]at h;exact bj.int_str i t y u _ _ _ _ h
   ·rw[zzr0 (by intro z;cases z)]at h;exact bj.int_none i t _ _ _ _ h
  ·rcases bX hv with⟨j,u,rfl,rfl⟩|⟨y,u,rfl,rfl⟩|⟨rfl,rfl⟩
   ·rw[zzr0 (by intro z;injection z with z;cases z)]at h;exact bj.str_int x t j u _ _ _ _ h
   ·exact(bT prog w).eqBool (a:=.inr x) (b:=.inr y) (lm x t) (lm y u) (by rw[show decide ((Sum.inr x:d6)=Sum.inr y)=decide ((some (Sum.inr x):o5)=some (Sum.inr y))from decide_eq_decide.mpr ⟨fun z=>by rw[z],fun z=>by injection z⟩];exact h)
   ·rw[zzr0 (by intro z;cases z)]at h;exact bj.str_none x t _ _ _ _ h
  ·rcases bX hv with⟨j,u,rfl,rfl⟩|⟨y,u,rfl,rfl⟩|⟨rfl,rfl⟩
   ·rw[zzr0 (by intro z;cases z)]at h;exact bj.none_int j u _ _ _ _ h
   ·rw[zzr0 (by intro z;cases z)]at h;exact bj.none_str y u _ _ _ _ h
   ·rw[zzr1 rfl]at h;exact bj.same _ _ _ _ _ h
 «strs»:=fun k x t v h=>by
  rcases bX h with⟨i,u,rfl,e⟩|⟨y,u,rfl,e⟩|⟨rfl,e⟩
  ·exact nomatch e
  ·injection e with e1 _;subst e1;cases v<;>rfl
  ·exact nomatch e
inductive TN where
 |k (a:o5)
 |t (l:List TN)
mutual
def Fl:(x y:TN)->Decidable (x=y)
 |.k a,.k b=>if h:a=b then Decidable.isTrue (by rw[h])else Decidable.isFalse fun e=>h (by injection e)
 |.t l,.t m=>match decTNs l m with
  |Decidable.isTrue h=>Decidable.isTrue (by rw[h])
  |Decidable.isFalse h=>Decidable.isFalse fun e=>h (by injection e)
 |.k _,.t _=>Decidable.isFalse nofun
 |.t _,.k _=>Decidable.isFalse nofun
def decTNs:(x y:List TN)->Decidable (x=y)
 |[],[]=>Decidable.isTrue rfl
 |[],_::_=>Decidable.isFalse nofun
 |_::_,[]=>Decidable.isFalse nofun
 |a::l,b::m=>match Fl a b with
  |Decidable.isTrue h=>match decTNs l m with
   |Decidable.isTrue h'=>Decidable.isTrue (by rw[h,h'])
   |Decidable.isFalse h'=>Decidable.isFalse fun e=>h' (by injection e)
  |Decidable.isFalse h=>Decidable.isFalse fun e=>h (by injection e)
end
instance:DecidableEq TN:=Fl
mutual
def TN.depth:TN->Nat
 |.k _=>0
 |.t l=>TN.depths l+1
def TN.depths:List TN->Nat
 |[]=>0
 |a::r=>max (TN.depth a) (TN.depths r)
end
mutual
def TN.hash(w:World):TN->Int
 |.k a=>Fh w a
 |.t l=>so (lC (TN.hashs w l))
def TN.hashs(w:World):List TN->List Int
 |[]=>[]
 |a::r=>TN.hash w a::TN.hashs w r
end
mutual
def TN.draws:TN->Nat
 |.k _=>1
 |.t l=>TN.drawss l+1
def TN.drawss:List TN->Nat
 |[]=>0
 |a::r=>TN.draws a+TN.drawss r
end
mutual
def mO(h:Heap):TN->Value->Prop
 |.k a,v=>i3 a v=true
 |.t l,v=>∃a o items n,v=.ref a/\h.get? a=some o/\o.cls=.type "tuple"/\o.data=.seq items n/\TNts h l items.toList
def TNts(h:Heap):List TN->List Value->Prop
 |[],vs=>vs=[]
 |k::r,vs=>∃v us,vs=v::us/\mO h k v/\TNts h r us
end
theorem mO.inj{h:Heap}:∀(d:Nat) {x y:TN}{v:Value},x.depth<=d->mO h x v->mO h y v->x=y:=by
 have key:∀(d:Nat) (ih:∀{x y:TN}{v:Value},x.depth<=d->mO h x v->mO h y v->x=y) (xs ys:List TN) (vs:Zf),TN.depths xs<=d->TNts h xs vs->TNts h ys vs->xs=ys:=by
  intro d ih xs
  induction xs with
  |nil =>
   intro ys vs _ hx hy;have hx':vs=[]:=hx;subst hx';cases ys with
   |nil=>rfl
   |cons y ys=>obtain⟨_,_,e,_⟩:=hy;cases e
  |cons x xs ihl =>
   intro ys vs hd hx hy;obtain⟨v,us,rfl,hx1,hx2⟩:=hx;cases ys with
   |nil=>have hy':v::us=[]:=hy;cases hy'
   |cons y ys =>
    obtain⟨v',us',e,hy1,hy2⟩:=hy;cases e;have hd':max x.depth (TN.depths xs)<=d:=hd;rw[ih (by omega) hx1 hy1,ihl ys us (by omega) hx2 hy2]
 have leaf:∀(a:o5) (l:List TN) (v:Value),mO h (.k a) v->mO h (.t l) v->False:=by
  intro a l v h1 h2;obtain⟨b,o,items,n,rfl,_⟩:=h2;rcases bX (show i3 a (.ref b)=true from h1)with⟨_,_,_,e⟩|⟨_,_,_,e⟩|⟨_,e⟩<;>cases e
 have kk:∀(a b:o5) (v:Value),i3 a v=true->i3 b v=true->a=b:=fun a b v h1 h2=>rG h1 h2;intro d
 induction d with
 |zero =>
  intro x y v hd hx hy;cases x with
  |t l=>exact absurd hd (by show ¬(TN.depths l+1<=0);omega)
  |k a =>
   cases y with
   |k b=>rw[kk a b v hx hy]
   |t l=>exact(leaf a l v hx hy).elim
 |succ d ih =>
  intro x y v hd hx hy;cases x with
  |k a =>
   cases y with
   |k b=>rw[kk a b v hx hy]
   |t l=>exact(leaf a l v hx hy).elim
  |t l =>
   cases y with
   |k b=>exact(leaf b l v hy hx).elim
   |t l' =>
    obtain⟨a,o,items,n,rfl,ho,hc,hdt,hi⟩:=hx;obtain⟨a',o',items',n',e,ho',hc',hdt',hi'⟩:=hy;cases e;rw[ho]at ho';cases ho';rw[hdt]at hdt';injection hdt' with e1 _;subst e1;rw[key d (fun h1=>ih h1) l l' items.toList (by have:TN.depths l+1<=d+1:=hd;omega) hi hi']
theorem mO.mono{h h':Heap}(k:∀a o items n,h.get? a=some o->o.cls=.type "tuple"->o.data=.seq items n->h'.get? a=some o):∀(d:Nat) {x:TN}{v:Value},x.depth<=d->mO h x v->mO h' x v:=by
 have key:∀(d:Nat) (ih:∀{x:TN}{v:Value},x.depth<=d->mO h x v->mO h' x v) (xs:List TN) (vs:Zf),TN.depths xs<=d->TNts h xs vs->TNts h' xs vs:=by
  intro d ih xs
  induction xs with
  |nil=>intro vs _ hx;exact hx
  |cons x xs ihl =>
   intro vs hd hx;obtain⟨v,us,rfl,hx1,hx2⟩:=hx;have hd':max x.depth (TN.depths xs)<=d:=hd;exact⟨v,us,rfl,ih (by omega) hx1,ihl us (by omega) hx2⟩
 intro d
 induction d with
 |zero =>
  intro x v hd hx;cases x with
  |t l=>exact absurd hd (by show ¬(TN.depths l+1<=0);omega)
  |k a=>exact hx
 |succ d ih =>
  intro x v hd hx;cases x with
  |k a=>exact hx
  |t l =>
   obtain⟨a,o,items,n,rfl,ho,hc,hdt,hi⟩:=hx;exact⟨a,o,items,n,rfl,k a o items n ho hc hdt,hc,hdt,key d (fun h1=>ih h1) l _ (by have:TN.depths l+1<=d+1:=hd;omega) hi⟩
section
variable{prog:bR}{w:World}
theorem DO:∀(d:Nat) {A:Around}{E:Zc}{s:Shared}{k:TN}{v:Value}{Q:Int->Shared->Prop},k.depth<=d->A.units+d<cLine->mO s.heap k v->Q (k.hash w) { s with toks:=s.toks+k.draws } ->
  wpAny (model prog w) A (pyHash v) Q E s:=by
 intro d
 induction d with
 |zero =>
  intro A E s k v Q hd hu hk h;cases k with
  |t l=>exact absurd hd (by show ¬(TN.depths l+1<=0);omega)
  |k a=>exact(xh prog w).pyHash (k:=a) hk h
 |succ d ih =>
  intro A E s k v Q hd hu hk h;cases k with
  |k a=>exact(xh prog w).pyHash (k:=a) hk h
  |t l =>
   obtain⟨a,o,items,n,rfl,ho,hc,hdt,hi⟩:=hk;have hT:s.TypeIs (.ref a) "tuple":=⟨o,ho,hc⟩;have hdl:TN.depths l<=d:=by have:TN.depths l+1<=d+1:=hd;omega
   unfold pyHash
   first|unfold pyHashByItsType|skip
   first|refine ak (wpAny_cRoomFor_or (.inr (by omega)) ?_)|skip
   refine ak (xQ hT wu.lookup ?_);show wpAny _ _ (if(some (Value.builtin "tuple.__hash__")==some Value.none)=true then _ else _) Q E s
   rw[if_neg (by rw[beq_builtin_none];exact fR)];refine ak (xQ hT wu.lookup ?_);show wpAny _ _ (callSpecialIfBoundUnlessNone? (.ref a) "__hash__" _ >>= _) Q E s;refine ak (wpAny_callSpecialIfBoundUnlessNone?_slot hT wu (mS wu hT F.entry_tuple_hash ?_ (F.args_tuple_hash_1 _)));show wpAny _ _ (BS (.ref a) >>= _) _ _ s;refine ak (AL ho hdt ?_);refine ak ?_;rw[<-zU];refine tG _
    (fun rest (b:Array Int) s'=>∃done left,l=done++left/\TNts s.heap left rest/\b.toList=TN.hashs w done/\s'={ s with toks:=s.toks+TN.drawss done })
    _ ?_ ?_ _ _ ⟨[],l,rfl,hi,rfl,rfl⟩
   ·rintro x rest b s' ⟨done,left,e,hl,hb,rfl⟩;cases left with
    |nil=>have hl':x::rest=[]:=hl;cases hl'
    |cons k' left =>
     obtain⟨x',rest',e',h1,h2⟩:=hl;cases e';have hdk:k'.depth<=d:=by
      have gen:∀(p:List TN),TN.depths (p++k'::left)<=d->k'.depth<=d:=by
       intro p
       induction p with
       |nil=>intro hp;have hp':max k'.depth (TN.depths left)<=d:=hp;omega
       |cons q p ihp=>intro hp;have hp':max q.depth (TN.depths (p++k'::left))<=d:=hp;exact ihp (by omega)
      exact gen done (by rw[<-e];exact hdl)
     have hs:TN.hashs w (done++[k'])=TN.hashs w done++[k'.hash w]:=by
      clear e hb
      induction done with
      |nil=>rfl
      |cons q p ihp=>show _::TN.hashs w (p++[k'])=_;rw[ihp];rfl
     have hdr:TN.drawss (done++[k'])=TN.drawss done+k'.draws:=by
      clear e hb hs
      induction done with
      |nil=>show k'.draws+0=0+k'.draws;omega
      |cons q p ihp=>show q.draws+TN.drawss (p++[k'])=q.draws+TN.drawss p+k'.draws;rw[ihp];omega
     refine ak (ih (k:=k') hdk (by show A.units+1+d<cLine;omega) h1 ?_)
     first
      |exact ao ⟨done++[k'],left,by rw[e];simp,h2,by rw[hs];simp[hb],by rw[hdr];simp[ph]⟩
      |exact ak (ao (ao ⟨done++[k'],left,by rw[e];simp,h2,by rw[hs];simp[hb],by rw[hdr];simp[ph]⟩))
   ·rintro b s' ⟨done,left,e,hl,hb,rfl⟩;cases left with
    |cons k' left=>obtain⟨_,_,e',_⟩:=hl;cases e'
    |nil =>
     rw[dv]at e;subst e;show wpAny _ _ (retInt (lC b.toList)) _ _ _;rw[hb];refine wpAny_ret_mkInt ?_;have h':Q (so (lC (TN.hashs w l))) { s with toks:=s.toks+(TN.drawss l+1) }:=h;show wpAny _ _ (if(decide (-(2:Int) ^ 63<=lC (TN.hashs w l)) && decide (lC (TN.hashs w l)<2 ^ 63))=true then _ else _) Q E _
     unfold so at h';by_cases hr:(decide (-(2:Int) ^ 63<=lC (TN.hashs w l)) && decide (lC (TN.hashs w l)<2 ^ 63))=true
     ·rw[if_pos hr];rw[if_pos hr]at h';exact ao (by simpa[ph]using h')
     ·rw[if_neg hr];rw[if_neg hr]at h';exact ak (kj (ao (by simpa[ph]using h')))
theorem AS(d:Nat)(ih:∀{A:Around}{E:Zc}{s:Shared}{x y:TN}{u v:Value}{Q:Bool->Shared->Prop},x.depth<=d->y.depth<=d->A.units+d<cLine->mO s.heap x u->mO s.heap y v->Q (decide (x=y)) s->wpAny (model prog w) A (eqBool u v) Q E s)
  {A:Around}{E:Zc}{s:Shared}{x y:List TN}{a b:Addr}{P:Fin->Shared->Prop}{oa ob:Obj}{xs ys:Array Value}{na nb:Nat}(hx:TN.depths x<=d) (hy:TN.depths y<=d) (hu:A.units+d<cLine)
  (hoa:s.heap.get? a=some oa) (hda:oa.data=.seq xs na) (hia:TNts s.heap x xs.toList) (hob:s.heap.get? b=some ob) (hcb:ob.cls=.type "tuple") (hdb:ob.data=.seq ys nb) (hib:TNts s.heap y ys.toList)
  (h:P (.done (.ret (.bool (decide (x=y))))) s):wpAny (model prog w) A (cw.«tuple.__eq__» ⟨[.ref a,.ref b],[]⟩) P E s:=by
 have hTb:s.TypeIs (.ref b) "tuple":=⟨ob,hob,hcb⟩;show wpAny _ _ (zT (.ref b) (.type "tuple") >>= _) _ _ s;refine ak (tF hTb zQ ?_);simp only[pf,kb,if_false];refine ak (AL hoa hda ?_);refine ak (AL hob hdb ?_);refine ak ?_;refine tG _
  (fun rest r s'=>r.1=none/\s'=s/\∃x' y' xs' ys',rest=List.zip xs' ys'/\TNts s.heap x' xs'/\TNts s.heap y' ys'/\TN.depths x'<=d/\TN.depths y'<=d/\decide (x'=y')=decide (x=y)/\(xs'.length==ys'.length)=(xs.size==ys.size))
  _ ?_ ?_ _ _ ⟨rfl,rfl,x,y,xs.toList,ys.toList,rfl,hia,hib,hx,hy,rfl,by simp⟩
 ·rintro⟨u,v⟩ rest r s' ⟨hr,rfl,x',y',xs',ys',hz,hx',hy',dx,dy,hdec,hlen⟩;cases x' with
  |nil =>
   have e:xs'=[]:=hx';subst e;simp at hz
  |cons k1 x'' =>
   obtain⟨u',xs'',rfl,h1,hx''⟩:=hx';cases y' with
   |nil =>
    have e:ys'=[]:=hy';subst e;simp at hz
   |cons k2 y'' =>
    obtain⟨v',ys'',rfl,h2,hy''⟩:=hy';simp only[zP,List.cons.injEq,Prod.mk.injEq]at hz;obtain⟨⟨rfl,rfl⟩,rfl⟩:=hz;have dx':max k1.depth (TN.depths x'')<=d:=dx;have dy':max k2.depth (TN.depths y'')<=d:=dy;refine ak (ih (x:=k1) (y:=k2) (by omega) (by omega) hu h1 h2 ?_);by_cases hk:k1=k2
    ·subst hk;rw[zzr1 rfl];simp only[pf,kb,if_false];refine ao ⟨rfl,rfl,x'',y'',xs'',ys'',rfl,hx'',hy'',by omega,by omega,?_,by simpa using hlen⟩;rw[<-hdec];by_cases hxy:x''=y''
     ·simp[hxy]
     ·simp[hxy]
    ·rw[zzr0 hk];simp only[Bool.not_false,if_true];have hf:decide (x=y)=false:=by rw[<-hdec];simp[hk]
     rw[hf]at h;exact ak (ao (ao (ao h)))
 ·rintro⟨r1,r2⟩ s' ⟨hr,rfl,x',y',xs',ys',hz,hx',hy',dx,dy,hdec,hlen⟩;simp only at hr;subst hr;refine ao ?_;have hfin:(xs.size==ys.size)=decide (x=y):=by
   rw[<-hdec,<-hlen];cases x' with
   |nil =>
    have e:xs'=[]:=hx';subst e;cases y' with
    |nil=>have e:ys'=[]:=hy';subst e;simp
    |cons _ _=>obtain⟨_,_,rfl,_⟩:=hy';simp
   |cons _ _ =>
    obtain⟨_,_,rfl,_⟩:=hx';cases y' with
    |nil=>have e:ys'=[]:=hy';subst e;simp
    |cons _ _=>obtain⟨_,_,rfl,_⟩:=hy';simp at hz
  show P (.done (.ret (.bool (xs.size==ys.size)))) s';rw[hfin];exact h
theorem Ge:∀(d:Nat) {A:Around}{E:Zc}{s:Shared}{x y:TN}{u v:Value}{Q:Bool->Shared->Prop},x.depth<=d->y.depth<=d->A.units+d<cLine->mO s.heap x u->mO s.heap y v->Q (decide (x=y)) s ->
  wpAny (model prog w) A (eqBool u v) Q E s:=by
 have mixed1:∀{A:Around}{E:Zc}{s:Shared}{a:o5}{l:List TN}{u v:Value}{Q:Bool->Shared->Prop},A.units<cLine->mO s.heap (.k a) u->mO s.heap (.t l) v->Q false s->wpAny (model prog w) A (eqBool u v) Q E s:=by
  intro A E s a l u v Q hu hx hy h;obtain⟨b,o,items,n,rfl,ho,hc,hdt,hi⟩:=hy;have ht:s.heap.IsTuple b items:=⟨o,ho,hc,n,hdt⟩;rcases bX (show i3 a u=true from hx)with⟨i,t,rfl,rfl⟩|⟨i,t,rfl,rfl⟩|⟨rfl,rfl⟩
  ·exact bj.int_tuple i t ht hu prog w E Q h
  ·exact bj.str_tuple i t ht hu prog w E Q h
  ·exact bj.none_tuple ht hu prog w E Q h
 have mixed2:∀{A:Around}{E:Zc}{s:Shared}{a:o5}{l:List TN}{u v:Value}{Q:Bool->Shared->Prop},A.units<cLine->mO s.heap (.t l) u->mO s.heap (.k a) v->Q false s->wpAny (model prog w) A (eqBool u v) Q E s:=by
  intro A E s a l u v Q hu hx hy h;obtain⟨b,o,items,n,rfl,ho,hc,hdt,hi⟩:=hx;have ht:s.heap.IsTuple b items:=⟨o,ho,hc,n,hdt⟩;rcases bX (show i3 a v=true from hy)with⟨i,t,rfl,rfl⟩|⟨i,t,rfl,rfl⟩|⟨rfl,rfl⟩
  ·exact bj.tuple_int i t ht hu prog w E Q h
  ·exact bj.tuple_str i t ht hu prog w E Q h
  ·exact bj.tuple_none ht hu prog w E Q h
 have leaves:∀{A:Around}{E:Zc}{s:Shared}{a b:o5}{u v:Value}{Q:Bool->Shared->Prop},mO s.heap (.k a) u->mO s.heap (.k b) v->Q (decide (TN.k a=TN.k b)) s->wpAny (model prog w) A (eqBool u v) Q E s:=by
  intro A E s a b u v Q hx hy h;refine(xh prog w).eqBool (a:=a) (b:=b) hx hy ?_;by_cases e:a=b
  ·subst e;simpa using h
  ·have:¬(TN.k a=TN.k b):=fun z=>e (by injection z);rw[zzr0 this]at h;rw[zzr0 e];exact h
 intro d
 induction d with
 |zero =>
  intro A E s x y u v Q hdx hdy hu hx hy h;cases x with
  |t l=>exact absurd hdx (by show ¬(TN.depths l+1<=0);omega)
  |k a =>
   cases y with
   |t l=>exact absurd hdy (by show ¬(TN.depths l+1<=0);omega)
   |k b=>exact leaves hx hy h
 |succ d ih =>
  intro A E s x y u v Q hdx hdy hu hx hy h;cases x with
  |k a =>
   cases y with
   |k b=>exact leaves hx hy h
   |t l =>
    rw[zzr0 (by intro z;cases z)]at h;exact mixed1 (by omega) hx hy h
  |t l =>
   cases y with
   |k b =>
    rw[zzr0 (by intro z;cases z)]at h;exact mixed2 (by omega) hx hy h
   |t m =>
    have hl:TN.depths l<=d:=by have:TN.depths l+1<=d+1:=hdx;omega
    have hm:TN.depths m<=d:=by have:TN.depths m+1<=d+1:=hdy;omega
    have hx0:=hx;have hy0:=hy;obtain⟨a,oa,xs,na,rfl,hoa,hca,hda,hia⟩:=hx;obtain⟨b,ob,ys,nb,rfl,hob,hcb,hdb,hib⟩:=hy;have hTa:s.TypeIs (.ref a) "tuple":=⟨oa,hoa,hca⟩;have hTb:s.TypeIs (.ref b) "tuple":=⟨ob,hob,hcb⟩;have hd':decide (TN.t l=TN.t m)=decide (l=m):=by
     by_cases e:l=m
     ·subst e;simp
     ·have:¬(TN.t l=TN.t m):=fun z=>e (by injection z);rw[zzr0 this,zzr0 e]
    unfold eqBool
    try with_reducible refine iG ?_
    show wpAny _ _ (if(Value.ref a==Value.ref b)=true then _ else _) Q E s
    by_cases hab:(Value.ref a==Value.ref b)=true
    ·rw[if_pos hab];have e:a=b:=by have:=eq_of_beq hab;injection this
     subst e;have e2:TN.t l=TN.t m:=mO.inj _ (aH _) hx0 hy0;rw[zzr1 e2]at h;exact ak (kj (ao h))
    ·rw[if_neg hab];rw[hd']at h;exact ak (wpAny_richCompare_same_room (op:=.Eq) hTa hTb tE
      (mS tE hTa F.entry_tuple_eq (AS d (fun h1 h2 h3 h4 h5 h6=>ih h1 h2 h3 h4 h5 h6) hl hm (by show A.units+1+d<cLine;omega) hoa hda hia hob hcb hdb hib ⟨_,rfl,(fun e=>nomatch e),mU h⟩) (F.args_tuple_eq_2 _ _)) (by omega))
theorem BZ:∀(d:Nat) {A:Around}{E:Zc}{s:Shared}{k:TN}{v:Value}{Q:Bool->Shared->Prop},k.depth<=d->mO s.heap k v->Q true s->wpAny (model prog w) A (zO d v) Q E s:=by
 intro d
 induction d with
 |zero =>
  intro A E s k v Q hd hk h;cases k with
  |t l=>exact absurd hd (by show ¬(TN.depths l+1<=0);omega)
  |k a=>rw[zN _ ((xh prog w).byValue a v hk)];exact ao h
 |succ d ih =>
  intro A E s k v Q hd hk h;cases k with
  |k a=>rw[zN _ ((xh prog w).byValue a v hk)];exact ao h
  |t l =>
   have hl:TN.depths l<=d:=by have:TN.depths l+1<=d+1:=hd;omega
   obtain⟨a,o,items,n,rfl,ho,hc,hdt,hi⟩:=hk;have hT:s.TypeIs (.ref a) "tuple":=⟨o,ho,hc⟩;unfold zO;refine ak (xQ hT tE.lookup ?_);show wpAny _ _ (zT (.ref a) (.type "tuple") >>= _) _ _ s;refine ak (tF hT zQ ?_);simp only[pf,kb,if_false];refine ak (j_ ho hdt ?_);refine ak ?_;show wpAny _ _ (forIn items _ _) _ _ s;rw[<-zU];refine tG _ (fun rest r s'=>r.1=none/\s'=s/\∃left,TNts s.heap left rest/\TN.depths left<=d) _ ?_ ?_ _ _ ⟨rfl,rfl,l,hi,hl⟩
   ·rintro v rest r s' ⟨hr,rfl,left,hall,hdl⟩;cases left with
    |nil=>have e:v::rest=[]:=hall;cases e
    |cons k' left =>
     obtain⟨v',rest',e,h1,h2⟩:=hall;cases e;have hdl':max k'.depth (TN.depths left)<=d:=hdl;refine ak (ih (k:=k') (by omega) h1 ?_);simp only[pf,kb,if_false];exact ao ⟨rfl,rfl,left,h2,by omega⟩
   ·rintro⟨r1,r2⟩ s' ⟨hr,rfl,_⟩;simp only at hr;subst hr;exact ao h
def oy(prog:bR)(w:World):zM prog w TN where
 is:=fun h k a=>mO h k (.ref a)/\k.depth<=8
 hash:=TN.hash w
 draws:=TN.draws
 room:=fun A=>A.units+8<cLine
 inj:=fun hx hy=>mO.inj 8 hx.2 hx.1 hy.1
 keeps:=fun{h h' k a d o es ep} x ho hd hs=>⟨mO.mono (fun b ob items n hb _ hdb=>(hs.2 b fun e=>by
  subst e;rw[ho]at hb;cases hb;rw[hd]at hdb;cases hdb).trans hb) 8 x.2 x.1,x.2⟩
 pyHash:=fun hu hk h=>DO 8 hk.2 hu hk.1 h
 eqBool:=fun hu hx hy h=>Ge 8 hx.2 hy.2 hu hx.1 hy.1 h
 quiet:=fun hk h=>BZ 8 hk.2 hk.1 h
end
mutual
def TK.n:TK->TN
 |.k a=>.k (some a)
 |.t l=>.t (TK.ns l)
def TK.ns:List TK->List TN
 |[]=>[]
 |a::r=>TK.n a::TK.ns r
end
mutual
theorem CS(w:World):(k:TK)->k.n.hash w=k.hash w
 |.k a=>rfl
 |.t l=>by
  show so (lC (TN.hashs w (TK.ns l)))=so (lC (TK.hashs w l));rw[ns_hash w l]
theorem ns_hash(w:World):(l:List TK)->TN.hashs w (TK.ns l)=TK.hashs w l
 |[]=>rfl
 |a::r=>by
  show TN.hash w a.n::TN.hashs w (TK.ns r)=TK.hash w a::TK.hashs w r;rw[CS w a,ns_hash w r]
end
mutual
theorem Ak:(k:TK)->k.n.depth=k.depth
 |.k a=>rfl
 |.t l=>by show TN.depths (TK.ns l)+1=TK.depths l+1;rw[ns_depth l]
theorem ns_depth:(l:List TK)->TN.depths (TK.ns l)=TK.depths l
 |[]=>rfl
 |a::r=>by show max a.n.depth (TN.depths (TK.ns r))=max a.depth (TK.depths r);rw[Ak a,ns_depth r]
end
mutual
theorem Gv{h:Heap}:(k:TK)->{v:Value}->lA h k v->mO h k.n v
 |.k a,v,q=>q
 |.t l,v,⟨a,o,items,n,e,h1,h2,h3,h4⟩=>⟨a,o,items,n,e,h1,h2,h3,ns_at l h4⟩
theorem ns_at{h:Heap}:(l:List TK)->{vs:Zf}->TAts h l vs->TNts h (TK.ns l) vs
 |[],_,q=>q
 |a::r,_,⟨v,us,e,h1,h2⟩=>⟨v,us,e,Gv a h1,ns_at r h2⟩
end
mutual
theorem Fg:(x y:TK)->x.n=y.n->x=y
 |.k a,.k b,h=>by injection h with h;injection h with h;rw[h]
 |.k a,.t l,h=>by cases h
 |.t l,.k a,h=>by cases h
 |.t l,.t m,h=>by have h:TN.t (TK.ns l)=TN.t (TK.ns m):=h;injection h with h;rw[ns_inj l m h]
theorem ns_inj:(l m:List TK)->TK.ns l=TK.ns m->l=m
 |[],[],_=>rfl
 |[],_::_,h=>by cases h
 |_::_,[],h=>by cases h
 |a::l,b::m,h=>by have h:a.n::TK.ns l=b.n::TK.ns m:=h;injection h with h1 h2;rw[Fg a b h1,ns_inj l m h2]
end
theorem GC{P:bR}{w:World}{h:Heap}{d:Addr}{xs:List (TK×Addr×Value)}(q:h.DictOfH (c_ P w) d xs):h.DictOfH (oy P w) d (xs.map fun x=>(x.1.n,x.2)):=by
 obtain⟨o,es,ep,h1,h2,h3,h4,h5,h6⟩:=q;refine⟨o,es,ep,h1,h2,h3,?_,?_,?_⟩
 ·rw[h4,ke];refine qj fun x _=>?_;show(⟨TK.hash w x.1,Value.ref x.2.1,x.2.2⟩:jq)=⟨TN.hash w x.1.n,Value.ref x.2.1,x.2.2⟩;rw[CS]
 ·intro x hx;obtain⟨y,hy,rfl⟩:=aX.mp hx;have:=h5 y hy;exact⟨Gv _ this.1,by rw[Ak];exact this.2⟩
 ·rw[ke];have:((fun x:TN×Addr×Value=>x.1) ∘ fun x:TK×Addr×Value=>(x.1.n,x.2))=(fun k:TK=>k.n) ∘ fun x=>x.1:=rfl;rw[this,<-ke];exact nodup_map h6
where
 nodup_map:∀{l:List TK},l.Nodup->(l.map fun k:TK=>k.n).Nodup:=fun{l} hl=>by
  induction l with
  |nil=>simp
  |cons a l ih =>
   rw[iU]at hl;rw[bI,iU];refine⟨fun z=>?_,ih hl.2⟩;obtain⟨b,hb,e⟩:=aX.mp z;exact hl.1 (Fg _ _ e▸hb)
def Ce(K:Za)(ty td:TE):TE:=fun σ H Q=>ty σ H fun y H1=>td σ H1 fun x H2=>∃a,x=.ref a /\
 ((∃o,kW K H2 a y o/\Q (.bl o.isSome) H2)∨∃kvs b r,Rd H2 a (.dT kvs)/\y=.ref b/\aY K H2 b [.str r,.non]/\Q (.bl false) H2)
theorem EH{xs:List (TK×Addr×Value)}{k:TN}(h:∀x:TK,x.n≠k):atKey (xs.map fun x=>(x.1.n,x.2)) k=none:=by
 unfold atKey;have:(xs.map fun x=>(x.1.n,x.2)).find? (fun x=>decide (x.1=k))=none:=by
  rw[List.find?_eq_none];intro x hx;obtain⟨y,hy,rfl⟩:=aX.mp hx;simpa using h y.1
 rw[this];rfl
theorem EB{r:Str}:∀x:TK,x.n≠.t [.k (some (.inr r)),.k none]
 |.k a,h=>by cases h
 |.t [],h=>by cases h
 |.t [a],h=>by have h:TN.t [a.n]=.t [.k (some (.inr r)),.k none]:=h;injection h with h;injection h with _ h;cases h
 |.t (a::b::l),h=>by
  have h:TN.t (a.n::b.n::TK.ns l)=.t [.k (some (.inr r)),.k none]:=h;injection h with h;injection h with _ h;injection h with h _
  match b,h with
  |.k c,h=>injection h with h;cases h
  |.t m,h=>cases h
section
variable{X:Cx}{i o:Expr}{ty td:TE}
theorem Ew(hu:X.A.units+16<cLine)(hi:PE X i ty)(ho:PE X o td):PC X .In i o (Ce X.K ty td):=by
 intro J3 s σ H Q I h;refine cr (hi J3 s σ H _ I h) fun iv s1 ⟨y,H1,I1,ry,q1⟩=>cr (ho J3 s1 σ H1 _ I1 q1) fun u s2 ⟨x,H2,I2,rx,a,ex,g⟩=>?_;subst ex;obtain rfl:u=Value.ref a:=rx;rcases g with⟨ov,g,q2⟩|⟨kvs,b,r,e,ey,eb,q2⟩
 ·exact GD hu I2 g ry fun s3 I3=>⟨.bl ov.isSome,H2,I3,rfl,q2⟩
 ·subst ey;cases(show iv=Value.ref b from ry);obtain⟨z,hd,xs,rel,dd⟩:=nG I2.hok I2.kIn e;obtain⟨its,rv,ht,hz⟩:=I2.tuple eb;obtain⟨ob,hob,hcb,nb,hdb⟩:=ht;have key:(oy X.prog X.w).is s2.heap (.t [.k (some (.inr r)),.k none]) b:=by
   refine⟨⟨b,ob,_,nb,rfl,hob,hcb,hdb,?_⟩,(by show max 0 (max 0 0)+1<=8;decide)⟩;cases rv with
   |cons r1 rv=>cases rv with
    |cons r2 rv =>
     cases rv;obtain⟨t,rfl⟩:=r1;cases r2;exact⟨_,_,rfl,lm r t,_,_,rfl,rfl,rfl⟩
  refine wpAny_in_heap (knd:=oy X.prog X.w) (by show X.A.in1.units+8<cLine;show X.A.units+1+8<cLine;omega) key hd (GC dd) ?_;rw[EH EB];exact⟨.bl false,H2,I2.tok _,rfl,q2⟩
end
abbrev Gp:List V->Hp->VK->Prop:=fun xs H Q=>∃i j,xs=[.int i,.int j]/\Q (.int (if j > i then j else i)) H
end L2
end
set_option Elab.async false
set_option linter.all false
set_option maxRecDepth 100000
set_option maxHeartbeats 4000000
namespace Mum
open PySem PySem.Spec PyProof.Rows L2
def u8(K:Za):TS :=
 ap (bB (aF (ay rGeI V0 (ay Fb (tC (.int 10)) (tC (.int 18))))) (aU V0) (aR))
 (ap (aS (ay iL (ay dz (ay dz (ay kI (ay iL V0 (tC (.int 1000000007))) (tC (.int 69069))) (ay kI V1 (tC (.int 40503)))) (tC (.int 977))) (tC (.int 2147483629))) U2)
 (ap (aS (ay iL (ay dz (ay dz (ay kI V2 V2) (ay kI V1 (tC (.int 7919)))) (ay iL V0 (tC (.int 65537)))) (tC (.int 2147483587))) U3)
 (ap (aS (ay iL (ay dz (ay dz (ay kI V3 V3) (ay kI V2 (tC (.int 31)))) (tC (.int 5))) (tC (.int 2147483563))) U4)
 (aU (ay dz (ay kI (ay dz (ay kI V2 (tC (.int 2147483659))) V3) (tC (.int 2147483693))) V4)))))
def v_:List Str:=["cell","at","one","two","three"]
def xY(K:Za):TS :=
 ap (aS (cK (cW K) (aG (ic (c6 K) V0 (aT) (bA (tC (.int 12)))))) U1)
 (ap (de (t4 K (aG (ic (c6 K) V0 (bA (tC (.int 12))) (bA (tC (.int 63)))))) (gw K 2 (bc U2 (bc U3 (f6)))) (aS (ay dz (ay (cM K) V1 (ay iL V2 (tC (.int 12)))) V3) (yT V1 (ay iL V2 (tC (.int 12))) qX)))
 (aU (db (dC V1 (tC (.int 0)) (tC (.int 0))))))
def zm:List Str:=["script","cells","k","cell"]
def ya(K:Za):TS :=
 ap (aS (tC (.int 0)) (yT V0 (tC (.int 2)) qX))
 (aU V0)
def zq:List Str:=["pen"]
def xW(K:Za)(sp_law_spread:Sp):TS :=
 ap (bB (aF (ay Cw (ay (cM K) V0 (tC (.int 2))) V1)) (ap (aS (ay (cM K) V0 (tC (.int 1))) U2)
 (ap (aS (tC (.int 0)) U3)
 (ap (bB (aF (ay Cw V2 (cK (dP K) (aG (ay (cM K) V0 (tC (.int 0))))))) (aS (ay (cM K) (ay (cM K) V0 (tC (.int 0))) V2) U3) (bB (aF (ay CA (cK (dP K) (aG (ay (cM K) V0 (tC (.int 0))))) (tC (.int 0)))) (aS (ay iL (ay (cM K) (ay (cM K) V0 (tC (.int 0))) (ay iL (ay dz (ay kI V2 (tC (.int 5))) (tC (.int 3))) (cK (dP K) (aG (ay (cM K) V0 (tC (.int 0))))))) (ay dz (ay Fb (tC (.int 10)) (tC (.int 17))) V2)) U3) (aR)))
 (ap (aS (ay dz V2 (tC (.int 1))) (yT V0 (tC (.int 1)) qX))
 (aS (aM sp_law_spread (aI V3 V2)) (yT V0 (tC (.int 2)) qX)))))) (aR))
 (ap (aS (ay iL (ay (cM K) V0 (tC (.int 2))) V1) U4)
 (ap (aS (ay CB (ay (cM K) V0 (tC (.int 2))) V1) (yT V0 (tC (.int 2)) qX))
 (aU V4)))
def zh:List Str:=["pen","many","at","cell","found"]
def wC(K:Za)(sp_law_take:Sp):TS :=
 ap (aS (tC (.str "abcdefghijklmnopqrstuvwxyz")) U2)
 (ap (aS (vj K "str" (Fc K) (tC (.str "")) (aq (cN 1 [2,0] (rH (aG (tC (.int 7)))) U0 (kA) (ay Cy V1 (aM sp_law_take (aI V2 (tC (.int 26)))))) a_)) U3)
 (ap (aS (aM sp_law_take (aI V0 (tC (.int 3)))) U4)
 (ap (aS (aM sp_law_take (aI V0 (tC (.int 26)))) U5)
 (ap (aS (aM sp_law_take (aI V0 (tC (.int 8)))) U6)
 (ap (aS (db (a_)) U7)
 (ap (de (rH (aG V1)) U8 (ap (aS (ay Cy V2 (ay iL (ay dz V5 (ay kI (tC (.int 3)) V8)) (tC (.int 26)))) U9)
 (ap (aS (ic Ek V3 (aT) (bA (ay iL (ay dz V6 (ay kI V8 (ay iL V4 (tC (.int 2))))) (tC (.int 8))))) EQ)
 (ap (aS (ay (cM K) (db (dC (tC (.int 0)) (cK (dP K) (aG pE)) (ay CB (cK (dP K) (aG pE)) (tC (.int 2))))) V4) U11)
 (cb (vj K "list" dE V7 (aG (ay Fd (ay Fd (ic Ek pE (aT) (bA EO)) V9) (ic Ek pE (bA EO) (aT))))))))))
 (aU V7)))))))
def xK:List Str:=["pen","many","letters","base","way","turn","size","found","k","sign","part","at"]
def AV(K:Za):TS :=
 bB (aF (ay (ny K true) V1 V0)) (cb (vj K "list" dE V0 (aG V1))) (aR)
def BI:List Str:=["doors","door"]
def oC(K:Za)(sp_law_take:Sp)(sp_law_put:Sp):TS :=
 ap (aS (db (a_)) U5)
 (ap (aS (aM sp_law_take (aI V0 (tC (.int 2)))) U6)
 (ap (de (t4 K (aG V3)) (gw K 2 (bc U7 (bc U8 (f6)))) (ap (de (rH (aq (ay (cM K) (db (aq (tC (.int 0)) (dC (tC (.int 1)) (tC (.int 1)) (tC (.int 2))))) (aM sp_law_take (aI V0 (tC (.int 4))))) a_)) U9 (ap (aS (bd (aq (tC (.str "say")) (aq (ay (cM K) V2 (aM sp_law_take (aI V0 (cK (dP K) (aG V2))))) a_))) EQ)
 (cb (aM sp_law_put (aq V5 (aq (bd (aq V8 (aq pE (aq (ay (cM K) V3 (aM sp_law_take (aI V0 (cK (dP K) (aG V3))))) a_)))) a_))))))
 (ap (de (bV K V1) U11 (de (rH (aq (ay (cM K) (db (aq V4 (dC (tC (.int 1)) (tC (.int 1)) (tC (.int 2))))) (aM sp_law_take (aI V0 (tC (.int 4))))) a_)) U9 (cb (aM sp_law_put (aq V5 (aq (bd (aq V8 (aq (bd (aI (tC (.str "ask")) EO)) (aq (ay (cM K) V3 (aM sp_law_take (aI V0 (cK (dP K) (aG V3))))) a_)))) a_))))))
 (ap (aS (ay (cM K) (db (aq (ic (c6 K) V3 (bA (ay dz V7 (tC (.int 1)))) (aT)) (aG (ic (c6 K) V3 (aT) (bA V7))))) V6) U12)
 (bB (iV (aF (ay (j3 K) V12 (db (a_)))) (aF (ay nS (aM sp_law_take (aI V0 (tC (.int 3)))) (tC (.int 0))))) (cb (aM sp_law_put (aq V5 (aq (bd (aq V8 (aq (bd (aG (tC (.str "still")))) (aq (ay (iM K) V12 (aM sp_law_take (aI V0 (cK (dP K) (aG V12))))) a_)))) a_)))) (aR))))))
 (aU V5)))
def oY:List Str:=["pen","asks","says","rooms","full","doors","down","k","room","turn","sign","ask","later"]
def wD(K:Za)(sp_law_draw_doors:Sp)(sp_law_names:Sp)(sp_law_take:Sp)(sp_law_anew:Sp):TS :=
 ap (cb (aM sp_law_anew (aG V0)))
 (ap (aS (aM sp_law_names (aI V0 (tC (.int 8)))) U3)
 (ap (aS (ic (c6 K) V3 (aT) (bA (ay dz (tC (.int 1)) (ay (cM K) (db (aq (tC (.int 0)) (aq (tC (.int 1)) (aq (tC (.int 1)) (dC (tC (.int 2)) (tC (.int 2)) (tC (.int 3))))))) (aM sp_law_take (aI V0 (tC (.int 6)))))))) U4)
 (ap (aS (ic (c6 K) V3 (bA (tC (.int 4))) (bA (ay dz (tC (.int 5)) (ay (cM K) (db (aq (tC (.int 0)) (aq (tC (.int 1)) (aq (tC (.int 1)) (dC (tC (.int 2)) (tC (.int 2)) (tC (.int 3))))))) (aM sp_law_take (aI V0 (tC (.int 6)))))))) U5)
 (ap (aS (aM sp_law_names (aI V0 (ay dz (tC (.int 1)) (aM sp_law_take (aq V0 (aG V1)))))) U6)
 (ap (aS (aM sp_law_draw_doors (aq V0 (aq V4 (dC V5 V6 V2)))) U7)
 (aU (bd (aq V4 (dC V5 V6 V7)))))))))
def xL:List Str:=["pen","most","full","words","asks","says","rooms","doors"]
def sB(K:Za)(C_Machine:Addr)(sp_Machine_init:Sp):TS :=
 aU (Cc C_Machine sp_Machine_init [] E0 (aq (cK (cW K) (aG (ay (iM K) V0 (tC (.int 0))))) (aq (cK (cW K) (aG (ay (iM K) V0 (tC (.int 1))))) (aq (cK (cW K) (aG (ay (iM K) V0 (tC (.int 2))))) (aq (cK (cW K) (aG (ay (iM K) V0 (tC (.int 3))))) a_)))))
def tu:List Str:=["told"]
def xX(K:Za)(sp_law_take:Sp)(sp_law_anew:Sp):TS :=
 ap (cb (aM sp_law_anew (aG V0)))
 (aU (cK (qW K) (aq (cN 1 [0] (bV K V1) U0 (aF (ay nS (aM sp_law_take (aI V1 (tC (.int 2)))) (tC (.int 1)))) V0) a_)))
def zi:List Str:=["pen","rooms"]
def qE(K:Za)(sp_law_same:Sp):TS :=
 ap (bB (tB (Fu V1)) (aU (Fu V0)) (aR))
 (ap (bB (aF (ay Cz V1 (tC (.bl true)))) (aU (ay Cz V0 (tC (.bl true)))) (aR))
 (ap (bB (aF (ay Cz V1 (tC (.bl false)))) (aU (ay Cz V0 (tC (.bl false)))) (aR))
 (ap (bB (tB (cK (iW K) (aI V1 (tC (.ty "int"))))) (aU (pi (cK (iW K) (aI V0 (tC (.ty "int")))) (pi (EY (cK (iW K) (aI V0 (tC (.ty "bool"))))) (ay (jG K) V0 V1)))) (aR))
 (ap (bB (tB (cK (iW K) (aI V1 (tC (.ty "str"))))) (aU (pi (cK (iW K) (aI V0 (tC (.ty "str")))) (ay (jG K) V0 V1))) (aR))
 (ap (bB (wk (aF (ay xO (cK (iW K) (aI V1 (tC (.ty "tuple")))) (cK (iW K) (aI V0 (tC (.ty "tuple")))))) (aF (ay xO (cK (iW K) (aI V1 (tC (.ty "list")))) (cK (iW K) (aI V0 (tC (.ty "list"))))))) (aU (tC (.bl false))) (aR))
 (ap (bB (aF (ay xO (cK (dP K) (aG V0)) (cK (dP K) (aG V1)))) (aU (tC (.bl false))) (aR))
 (ap (de (tZ K (aI V0 V1)) (gw K 2 (bc U2 (bc U3 (f6)))) (bB (pJ (tB (aM sp_law_same (aI V2 V3)))) (aU (tC (.bl false))) (aR)))
 (aU (tC (.bl true))))))))))
def zj:List Str:=["found","due","one","other"]
def AW(K:Za):TS :=
 aU (pi (ay xO V0 (tC (.str ""))) (pi (ay rLeI (cK (dP K) (aG V0)) (tC (.int 8))) (cK (Em K) (aG (cN 1 [] (FO V0) U0 (kA) (ay rInS V0 (tC (.str "abcdefghijklmnopqrstuvwxyz"))))))))
def BJ:List Str:=["text"]
def AX(K:Za):TS :=
 ap (aS (ml) U1)
 (ap (de (bV K V0) U2 (iJ V1 V2 (tC (.bl true))))
 (aU V1))
def ui:List Str:=["things","keys","thing"]
def l_(K:Za)(sp_is_name:Sp)(sp_as_keys:Sp):TS :=
 ap (bB (aF (ay nS (cK (dP K) (aG V0)) (tC (.int 0)))) (aU (tC (.int 0))) (aR))
 (ap (aS (aM sp_as_keys (aG V2)) U3)
 (ap (de (t4 K (aG V0)) (gw K 2 (bc U4 (bc U5 (f6)))) (ap (bB (wk (aF (ay nS V4 V1)) (wk (tB (sM K V5 V3)) (pJ (tB (aM sp_is_name (aG V5)))))) (aU V4) (aR))
 (iJ V3 V5 (tC (.bl true)))))
 (aU (tC .non))))
def mE:List Str:=["names","most","taken","ahead","number","name"]
def vc(K:Za)(a_STILL:Addr):TS :=
 aU (ay eS (ay eS (cN 1 [] (bV K V0) U0 (kA) (bd (aI (tC (.str "ask")) V0))) (cN 1 [] (bV K V1) U0 (kA) (bd (aI (tC (.str "say")) V0)))) (db (aG (tC (.ref a_STILL)))))
def wd:List Str:=["asks","says"]
def ma(K:Za)(sp_as_keys:Sp):TS :=
 ap (aS (aM sp_as_keys (aG V1)) U3)
 (ap (aS (mj) U4)
 (ap (de (t4 K (aG V0)) (gw K 2 (bc U5 (bc U6 (f6)))) (ap (bB (wk (aF (ay nS V5 (tC (.int 2000)))) (tB (sM K V6 V4))) (aU V5) (aR))
 (ap (bB (wk (tB (dD K (ay (iM K) V6 (tC (.int 0))) V3)) (wk (aF (ay (ny K true) (ay (iM K) V6 (tC (.int 1))) V2)) (tB (dD K (ay (iM K) V6 (tC (.int 2))) V3)))) (aU V5) (aR))
 (iJ V4 V6 (tC (.bl true))))))
 (aU (tC .non))))
def mF:List Str:=["doors","rooms","signs","own_rooms","ahead","number","door"]
def iA(K:Za):TS :=
 ap (aS (mj) U1)
 (ap (de (bV K V0) (gw K 3 (bc U2 (bc U3 (bc U4 (f6))))) (cb (vj K "list" dE (vj K "dict" z6 V1 (aI (bd (aq V2 (aG V3))) (db (a_)))) (aG V4))))
 (aU V1))
def iB:List Str:=["doors","goals","start","sign","goal"]
def qC(K:Za)(a_STILL:Addr):TS :=
 ap (aS (ml) U2)
 (ap (aS (db (aG V1)) U3)
 (ap (ye (aF (ay CA (cK (dP K) (aG V3)) (tC (.int 0)))) (ap (aS (Gh K "list" Go V3) U4)
 (de (Gx K (qQ K V0 (bd (aI V4 (tC (.ref a_STILL)))) (bd (a_)))) U5 (bB (tB (dD K V5 V2)) (ap (iJ V2 V5 (tC (.bl true)))
 (cb (vj K "list" dE V3 (aG V5)))) (aR)))))
 (aU V2)))
def rX:List Str:=["goals","room","led","waiting","here","goal"]
def mV(K:Za):TS :=
 ap (de (t4 K (aG V0)) (gw K 2 (bc U2 (bc U3 (f6)))) (bB (tB (sM K V3 (m9 K V1 V3))) (aU V2) (aR)))
 (aU (tC .non))
def nP:List Str:=["rooms","led","number","room"]
def wA(K:Za):TS :=
 bB (tB (EZ V1)) (vd) (aR)
def xI:List Str:=["part","number"]
def u6(K:Za)(sp_need_none:Sp)(sp_first_wrong_door:Sp)(sp_door_signs:Sp)(sp_first_wrong_name:Sp):TS :=
 ap (cb (aM sp_need_none (aI (tC (.str "asks")) (aM sp_first_wrong_name (dC V0 (tC (.int 4)) (db (a_)))))))
 (ap (cb (aM sp_need_none (aI (tC (.str "says")) (aM sp_first_wrong_name (dC V1 (tC (.int 4)) V0)))))
 (ap (cb (aM sp_need_none (aI (tC (.str "rooms")) (aM sp_first_wrong_name (dC V2 (tC (.int 150)) (db (a_)))))))
 (cb (aM sp_need_none (aq (tC (.str "doors")) (aG (aM sp_first_wrong_door (dC V3 V2 (aM sp_door_signs (aI V0 V1))))))))))
def v4:List Str:=["asks","says","rooms","doors"]
def oF(K:Za):TS :=
 ap (aS (ml) U2)
 (ap (de (bV K V0) U3 (iJ V2 V3 (db (a_))))
 (ap (de (bV K V1) U4 (cb (vj K "list" dE (m9 K V2 (ay (iM K) V4 (tC (.int 0)))) (aG V4))))
 (aU V2)))
def o0:List Str:=["rooms","doors","leaving","room","door"]
def oE(K:Za):TS :=
 aU (cK (Em K) (aq (cN 1 [] (bV K V0) U0 (kA) (ay nS (ay (iM K) (ay (iM K) V0 (tC (.int 1))) (tC (.int 0))) (tC (.str "ask")))) a_))
def oZ:List Str:=["doors"]
def mh(K:Za)(sp_need_none:Sp)(sp_first_led_round:Sp)(sp_led_by_still:Sp)(sp_goals_by_start_and_sign:Sp)(sp_as_keys:Sp)(sp_has_asks_alone:Sp)(sp_doors_by_start:Sp)(sp_need_parts:Sp):TS :=
 ap (cb (aM sp_need_parts (aq V1 (dC V2 V3 V4))))
 (ap (vp K V0 (cK (cW K) (aG V1)) "own_asks")
 (ap (vp K V0 (cK (cW K) (aG V2)) "own_says")
 (ap (vp K V0 (cK (cW K) (aG V3)) "own_rooms")
 (ap (vp K V0 (cK (cW K) (aG V4)) "own_doors")
 (ap (vp K V0 (aM sp_doors_by_start (aI V3 V4)) "leaving")
 (ap (vp K V0 (aM sp_as_keys (aq (cN 1 [0] (bV K V3) U0 (tB (aM sp_has_asks_alone (aG (m9 K (qJ K V1 "leaving") V0)))) V0) a_)) "quiet")
 (ap (vp K V0 (aM sp_goals_by_start_and_sign (aG V4)) "sign_goals")
 (ap (vp K V0 (cK (El K) (aq (cN 1 [0] (bV K V3) U0 (kA) (bd (aI V0 (aM sp_led_by_still (aq (qJ K V1 "sign_goals") (aG V0)))))) a_)) "still_led")
 (cb (aM sp_need_none (aI (tC (.str "still")) (aM sp_first_led_round (aq V3 (aG (qJ K V0 "still_led")))))))))))))))
def mI:List Str:=["self","asks","says","rooms","doors"]
def mf(K:Za):TS :=
 aU (sM K V1 (qJ K V0 "quiet"))
def mH:List Str:=["self","room"]
def lM(K:Za)(sp_with_still:Sp)(C_Machine:Addr)(sp_Machine_goals:Sp)(a_HUSH:Addr)(sp_Machine_is_quiet:Sp):TS :=
 ap (bB (aF (ay (jG K) V2 (tC (.ref a_HUSH)))) (aU (cK (qW K) (aG (cN 1 [0] (C4 K V1) U0 (tB (dw C_Machine "is_quiet" sp_Machine_is_quiet [] E0 V1 (aG V0))) V0)))) (aR))
 (ap (aS (db (a_)) U3)
 (ap (de (C4 K V1) U4 (cb (vj K "list" z7 V3 (aG (dw C_Machine "goals" sp_Machine_goals [] E0 V0 (aI V4 V2))))))
 (aU (aM sp_with_still (aI V0 V3)))))
def lR:List Str:=["M","face","sign","goals","room"]
def cx(p:Addr)(H H':Hp):Prop:=∀b o,H b=some o->b≠p->H' b=some o
theorem cx.refl(p:Addr)(H:Hp):cx p H H:=fun _ _ h _=>h
theorem cx.trans{p:Addr}{H H1 H2:Hp}(a:cx p H H1)(b:cx p H1 H2):cx p H H2:=fun c o h n=>b c o (a c o h n) n
theorem ab.exB{p:Addr}{H H':Hp}(a:ab H H'):cx p H H':=fun b o h _=>a b o h
theorem cx.upd(p:Addr)(H:Hp)(o:HO):cx p H (upd H p o):=fun b u h n=>by rw[aj n];exact h
theorem ab.new{H:Hp}{a:Addr}{o:HO}(h:H a=none):ab H (upd H a o):=fun b u e=>by rw[aj (ag e h)];exact e
theorem cx.free{p:Addr}{H H':Hp}(e:cx p H H'){u:HO}(hp:H' p=some u){l:Addr}(h:H' l=none):H l=none:=by
 cases q:H l with
 |none=>rfl
 |some o =>
  by_cases z:l=p
  ·subst z;rw[hp]at h;cases h
  ·rw[e l o q z]at h;cases h
theorem kp{H:Hp}{a b:Addr}{o x:HO}(h:H b=some o)(n:H a=none):upd H a x b=some o:=by rw[aj (ag h n)];exact h
structure AH(H:Hp)(p c:Addr)(at_ rest:Int)(ns:List Int):Prop where
 pen:H p=some (.lst [.ref c,.int at_,.int rest])
 cells:H c=some (.lst (ns.map V.int))
 at0:0<=at_
 rest0:0<=rest
theorem AH.ne{H:Hp}{p c:Addr}{a r:Int}{ns:List Int}(h:AH H p c a r ns):c≠p:=by
 intro e;have h1:=h.pen;have h2:=h.cells;rw[e,h1]at h2;injection h2 with h2;injection h2 with h2;cases ns with
 |nil=>cases h2
 |cons n ns=>injection h2 with h2;cases h2
def fo(H:Hp)(p c:Addr):Prop:=∃a r ns,AH H p c a r ns
theorem fo.ex{H H':Hp}{p c:Addr}(h:fo H p c)(e:ab H H'):fo H' p c:=by
 obtain⟨a,r,ns,h1,h2,h3,h4⟩:=h;exact⟨a,r,ns,e _ _ h1,e _ _ h2,h3,h4⟩
theorem fo.pen{H:Hp}{p c:Addr}(h:fo H p c):∃o,H p=some o:=by
 obtain⟨a,r,ns,h1,_⟩:=h;exact⟨_,h1⟩
theorem fo.cell{H:Hp}{p c:Addr}(h:fo H p c):∃o,H c=some o:=by
 obtain⟨a,r,ns,_,h1,_⟩:=h;exact⟨_,h1⟩
theorem fo.upd{H:Hp}{p c l:Addr}{o:HO}(h:fo H p c)(h1:p≠l)(h2:c≠l):fo (upd H l o) p c:=by
 obtain⟨a,r,ns,g1,g2,g3,g4⟩:=h;exact⟨a,r,ns,by rw[aj h1];exact g1,by rw[aj h2];exact g2,g3,g4⟩
theorem fo.nep{H:Hp}{p c l:Addr}(h:fo H p c)(hl:H l=none):p≠l:=let⟨_,e⟩:=h.pen;ag e hl
theorem fo.nec{H:Hp}{p c l:Addr}(h:fo H p c)(hl:H l=none):c≠l:=let⟨_,e⟩:=h.cell;ag e hl
theorem cx.new{p:Addr}{H:Hp}{a:Addr}{o:HO}(h:H a=none):cx p H (L2.upd H a o):=fun b u e _=>by rw[aj (ag e h)];exact e
inductive k3 (vs:List V)(H:Hp)(Q:VK)(E:XK):Prop
 |mk (c a:Int):(vs=[.int c,.int a])->(0<=a)->(∀r:Int,0<=r->Q (.int r) H)->k3  vs H Q E
theorem nM{i j:Int}(h1:-(2 ^ 64)<j)(h2:j<2 ^ 64):DD i j:=.inr ⟨h1,h2⟩
theorem Ba{K:Za}{vs:List V}{H:Hp}{Q:VK}{E:XK}(h:k3 vs H Q E):u8 K (bJ Q) (start v_ vs) H:=by
 obtain⟨c,a,rfl,ha,k⟩:=h;refine⟨_,rfl,_,_,rfl,rfl,⟨by decide,by decide,by decide⟩,_,_,rfl,rfl,_,rfl,?_⟩;refine gP (fun h=>?_) (fun _=>?_)
 ·refine⟨_,rfl,k _ ?_⟩;have:=of_decide_eq_true h;have e:((10:Int) ^ (18:Int).toNat)=1000000000000000000:=by decide
  omega
 ·have one:∀z:Int,0<=z % 2147483629/\z % 2147483629<2147483629:=fun z=>⟨nZ _ (by decide),nY _ (by decide)⟩;have two:∀z:Int,0<=z % 2147483587/\z % 2147483587<2147483587:=fun z=>⟨nZ _ (by decide),nY _ (by decide)⟩;have three:∀z:Int,0<=z % 2147483563/\z % 2147483563<2147483563:=fun z=>⟨nZ _ (by decide),nY _ (by decide)⟩;refine⟨_,rfl,_,_,rfl,rfl,(by show(0:Int)<1000000007;decide),_,_,rfl,rfl,nM (by decide) (by decide),_,rfl,_,_,rfl,rfl,nM (by decide) (by decide),_,_,rfl,rfl,_,_,rfl,rfl,_,_,rfl,rfl,(by show(0:Int)<2147483629;decide),?_⟩;generalize hz1:(c % 1000000007 * 69069+a * 40503+977)=z1;obtain⟨o1,o2⟩:=one z1;generalize z1 % 2147483629=o at o1 o2 ⊢;refine⟨_,rfl,_,rfl,_,_,rfl,rfl,nM (by omega) (by omega),_,rfl,_,_,rfl,rfl,nM (by decide) (by decide),_,_,rfl,rfl,_,rfl,_,_,rfl,rfl,(by show(0:Int)<65537;decide),_,_,rfl,rfl,_,_,rfl,rfl,(by show(0:Int)<2147483587;decide),?_⟩;generalize hz2:(o * o+a * 7919+c % 65537)=z2;obtain⟨p1,p2⟩:=two z2;generalize z2 % 2147483587=q at p1 p2 ⊢;refine⟨_,rfl,_,rfl,_,_,rfl,rfl,nM (by omega) (by omega),_,rfl,_,_,rfl,rfl,nM (by decide) (by decide),_,_,rfl,rfl,_,_,rfl,rfl,_,_,rfl,rfl,(by show(0:Int)<2147483563;decide),?_⟩;generalize hz3:(q * q+o * 31+5)=z3;obtain⟨r1,r2⟩:=three z3;generalize z3 % 2147483563=r at r1 r2 ⊢;refine⟨_,rfl,_,_,rfl,rfl,nM (by decide) (by decide),_,rfl,_,_,rfl,rfl,_,_,rfl,rfl,nM (by decide) (by decide),_,rfl,_,_,rfl,rfl,k _ ?_⟩;omega
def k_:Sp:=fun vs H Q _=>∃p c,vs=[.ref p]/\fo H p c/\∀H',fo H' p c->cx p H H'->Q (.ref p) H'
theorem Ej{K:Za}{vs:List V}{H:Hp}{Q:VK}{E:XK}(h:k_ vs H Q E):ya K (bJ Q) (start zq vs) H:=by
 obtain⟨p,c,rfl,⟨a,r,ns,h⟩,k⟩:=h;refine⟨_,rfl,p,_,_,_,rfl,rfl,h.pen,rfl,_,rfl,k _ ⟨a,0,ns,aa,?_,h.at0,Int.le_refl 0⟩ (cx.upd _ _ _)⟩;rw[aj h.ne];exact h.cells
theorem AE{ns:List Int}{a:Int}(h0:0<=a)(h1:a<ns.length):∃z,vV (ns.map V.int) a=some (.int z):=by
 obtain⟨n,rfl⟩:=gy h0;have hn:n<ns.length:=by omega
 exact⟨ns[n],bQ (by simp[hn])⟩
inductive eg (vs:List V)(H:Hp)(Q:VK)(E:XK):Prop
 |mk (p c:Addr) (m:Int):(vs=[.ref p,.int m])->(fo H p c)->(0<m)->(m<1073741824)->(∀(r:Int) (H':Hp),0<=r->r<m->fo H' p c->cx p H H'->Q (.int r) H')->eg  vs H Q E
theorem da{H:Hp}{Q:VK}{E:XK}{p c:Addr}{m:Int}(hp:fo H p c)(m0:0<m)(m1:m<1073741824)(k:∀(r:Int) (H':Hp),0<=r->r<m->fo H' p c->cx p H H'->Q (.int r) H'):eg [.ref p,.int m] H Q E:=by
 exact⟨p,c,m,rfl,hp,m0,m1,k⟩
theorem Ea{K:Za}{vs:List V}{H:Hp}{Q:VK}{E:XK}(h:eg vs H Q E):xW K k3 (bJ Q) (start zh vs) H:=by
 obtain⟨p,c,m,rfl,⟨a,r,ns,h⟩,hm,hm2,k⟩:=h;have fin:∀(H':Hp) (a' r':Int) (x y:Option V),AH H' p c a' r' ns->cx p H H' ->
   (ap (aS (ay iL (ay (cM K) V0 (tC (.int 2))) V1) U4) (ap (aS (ay CB (ay (cM K) V0 (tC (.int 2))) V1) (yT V0 (tC (.int 2)) qX)) (aU V4)))
    (bJ Q) [some (.ref p),some (.int m),x,y,none] H':=by
  intro H' a' r' x y h' ex;refine⟨_,rfl,p,_,2,_,rfl,rfl,aA.of h'.pen,rfl,_,rfl,_,_,rfl,rfl,hm,?_⟩;refine⟨_,rfl,p,_,2,_,rfl,rfl,aA.of h'.pen,rfl,_,rfl,_,_,rfl,rfl,⟨hm,hm2⟩,_,rfl,p,_,_,_,rfl,rfl,h'.pen,rfl,?_⟩;refine⟨_,rfl,k _ _ (nZ _ (by omega)) (nY _ hm) ⟨a',_,ns,aa,?_,h'.at0,Int.ediv_nonneg h'.rest0 (by omega)⟩ (ex.trans (cx.upd _ _ _))⟩;rw[aj h'.ne];exact h'.cells
 refine⟨_,rfl,p,_,2,_,rfl,rfl,aA.of h.pen,rfl,_,rfl,_,_,rfl,rfl,_,rfl,?_⟩;refine gP (fun h1=>?_) (fun h1=>?_)
 ·-- at=pen[1];cell=0;if at<len(pen[0])
  refine⟨_,rfl,p,_,1,_,rfl,rfl,aA.of h.pen,rfl,?_⟩;have la:(V.int ((ns.map V.int).length:Nat))=V.int (ns.length:Nat):=by rw[ai]
  refine⟨_,rfl,_,rfl,p,_,0,_,rfl,rfl,aA.of h.pen,rfl,.inl ⟨c,_,rfl,.inl (aA.of h.cells),_,_,rfl,la,_,rfl,?_⟩⟩;refine gP (fun h2=>?_) (fun h2=>?_)
  ·obtain⟨z,hz⟩:=AE (ns:=ns) h.at0 (of_decide_eq_true h2);refine⟨_,rfl,p,_,0,_,rfl,rfl,aA.of h.pen,rfl,_,rfl,c,_,_,_,rfl,rfl,aA.of h.cells,hz,?_⟩;refine⟨_,rfl,_,_,rfl,rfl,_,rfl,p,_,_,_,rfl,rfl,h.pen,rfl,?_⟩;refine⟨_,rfl,_,rfl,_,_,rfl,h.at0,fun q hq=>⟨_,rfl,p,_,_,_,rfl,rfl,aa,rfl,?_⟩⟩;rw[jy];refine fin _ (a+1) q _ _ ⟨aa,by rw[aj h.ne];exact h.cells,by have:=h.at0;omega,hq⟩ (cx.upd _ _ _)
  ·refine⟨_,rfl,p,_,0,_,rfl,rfl,aA.of h.pen,rfl,.inl ⟨c,_,rfl,.inl (aA.of h.cells),_,_,la,rfl,_,rfl,?_⟩⟩;refine gP (fun h3=>?_) (fun h3=>?_)
   ·have hl:(0:Int)<ns.length:=of_decide_eq_true h3;obtain⟨z,hz⟩:=AE (ns:=ns) (a:=(a * 5+3) % (ns.length:Int)) (nZ _ (by omega)) (nY _ hl);refine⟨_,rfl,p,_,0,_,rfl,rfl,aA.of h.pen,rfl,_,rfl,_,_,rfl,rfl,nM (by decide) (by decide),_,_,rfl,rfl,_,rfl,p,_,0,_,rfl,rfl,aA.of h.pen,rfl,.inl ⟨c,_,rfl,.inl (aA.of h.cells),_,_,rfl,la,hl,c,_,_,_,rfl,rfl,aA.of h.cells,hz,?_⟩⟩;refine⟨_,_,rfl,rfl,⟨by decide,by decide,by decide⟩,_,rfl,_,_,rfl,rfl,_,_,rfl,rfl,?_,?_⟩
    ·have e:((10:Int) ^ (17:Int).toNat)=100000000000000000:=by decide
     have:=h.at0;show(0:Int)<10 ^ (17:Int).toNat+a;omega
    refine⟨_,rfl,_,_,rfl,rfl,_,rfl,p,_,_,_,rfl,rfl,h.pen,rfl,?_⟩;refine⟨_,rfl,_,rfl,_,_,rfl,h.at0,fun q hq=>⟨_,rfl,p,_,_,_,rfl,rfl,aa,rfl,?_⟩⟩;rw[jy];refine fin _ (a+1) q _ _ ⟨aa,by rw[aj h.ne];exact h.cells,by have:=h.at0;omega,hq⟩ (cx.upd _ _ _)
   ·refine⟨_,rfl,_,_,rfl,rfl,_,rfl,p,_,_,_,rfl,rfl,h.pen,rfl,?_⟩;refine⟨_,rfl,_,rfl,_,_,rfl,h.at0,fun q hq=>⟨_,rfl,p,_,_,_,rfl,rfl,aa,rfl,?_⟩⟩;rw[jy];refine fin _ (a+1) q _ _ ⟨aa,by rw[aj h.ne];exact h.cells,by have:=h.at0;omega,hq⟩ (cx.upd _ _ _)
 ·exact fin H a r _ _ h (cx.refl _ _)
inductive pX(K:Za)(vs:List V)(H:Hp)(Q:VK)(E:XK):Prop
 |mk (a:Addr) (ns:List Int):(vs=[.ref a])->(aA K H a (ns.map V.int))->(ns.length<=63)->(∀(p c:Addr) (H':Hp),H p=none->fo H' p c->ab H H'->Q (.ref p) H')->pX K vs H Q E
theorem t_(ns:List Int)(lo hi:Option Int):∃ms:List Int,cD (ns.map V.int) lo hi=ms.map V.int/\ms.length=(cD (ns.map V.int) lo hi).length:=by
 refine⟨(ns.drop (HT.sIx (ns.map V.int).length 0 lo)).take (HT.sIx (ns.map V.int).length (ns.map V.int).length hi-HT.sIx (ns.map V.int).length 0 lo),?_,?_⟩
 ·unfold cD;rw[lV,nX]
 ·unfold cD;rw[aD,aD,dX,dX,ai]
theorem Ed{K:Za}{vs:List V}{H:Hp}{Q:VK}{E:XK}(h:pX K vs H Q E):xY K (bJ Q) (start zm vs) H:=by
 obtain⟨a,ns,rfl,hs,hn,k⟩:=h;obtain⟨c0,e0,l0⟩:=t_ ns none (some 12);obtain⟨c1,e1,l1⟩:=t_ ns (some 12) (some 63);have hlen:c1≠[]->c0.length=12:=by
  intro hne;have hc1:0<c1.length:=by cases c1 with|nil=>exact absurd rfl hne|cons _ _=>simp
  rw[l1]at hc1;rw[l0];unfold cD at hc1 ⊢;rw[aD,dX,ai]at hc1;rw[aD,dX,ai];have s1:HT.sIx ns.length 0 (some 12)=min 12 ns.length:=HT.sIx_nat _ _ 12;have s2:HT.sIx ns.length ns.length (some 12)=min 12 ns.length:=HT.sIx_nat _ _ 12;rw[HT.sIx_none,s2];rw[s1]at hc1;omega
 refine⟨_,rfl,_,rfl,a,_,rfl,hs,fun q hq=>.inl ⟨q,_,rfl,.inl (aA.of aa),fun c hc=>?_⟩⟩;rw[e0]at hc ⊢;have hcH:H c=none:=by
  have:c≠q:=fun z=>by subst z;rw[aa]at hc;cases hc
  rw[aj this]at hc;exact hc
 have hS:ab H (upd (upd H q (.lst (c0.map V.int))) c (.lst (c0.map V.int))):=(ab.new hq).trans (ab.new hc);refine⟨_,rfl,_,rfl,_,rfl,a,_,rfl,hS.seq hs,fun r hr=>⟨r,rfl,⟨_,aA.of aa⟩,?_⟩⟩;rw[e1];have hcr:c≠r:=ag aa hr;refine kN (xs:=c1.map V.int) (fun i σ H'=>∃(ms:List Int) (x y:Option V),σ=[some (.ref a),some (.ref c),x,y]/\H' c=some (.lst (ms.map V.int))/\ms.length=c0.length/\H' r=some (.lst (c1.map V.int))/\ab H H')
  ⟨c0,none,none,rfl,kp aa hr,rfl,aa,hS.trans (ab.new hr)⟩ (fun i σ H' _ ⟨ms,x,y,_,_,_,h,_⟩=>aA.of h) ?_ ?_
 ·rintro i x σ H' t hi ⟨ms,u,v,rfl,hcell,hml,hr',hS'⟩ ht;have hi':i<c1.length:=by
   have:=(cE.mp hi).1;rwa[ai]at this
  have h12:=hlen (fun z=>by rw[z]at hi';simp at hi');obtain⟨z,rfl⟩:∃z,x=V.int z:=by
   rw[cO,h_ hi']at hi;exact⟨_,(ef hi).symm⟩
  have hcell1:upd H' t (.tup [.int i,.int z]) c=some (.lst (ms.map V.int)):=kp hcell ht;have hidx:(i:Int) % 12=((i % 12:Nat):Int):=by omega
  have hlt:i % 12<ms.length:=by omega
  refine⟨t,_,rfl,aY.of aa,rfl,_,_,rfl,_,_,rfl,rfl,?_⟩;have hat:vV (ms.map V.int) ((i:Int) % 12)=some (.int ms[i % 12]):=by rw[hidx];exact bQ (by simp[hlt])
  refine⟨_,rfl,_,rfl,_,_,rfl,rfl,(by show(0:Int)<12;decide),c,_,_,_,rfl,rfl,aA.of hcell1,hat,_,rfl,_,_,rfl,rfl,_,rfl,_,rfl,_,_,rfl,rfl,(by show(0:Int)<12;decide),c,_,_,i % 12,rfl,rfl,hcell1,?_,?_⟩
  ·rw[hidx];unfold DG;rw[if_pos (by omega),if_pos (by rw[ai];omega)];rw[ko]
  ·refine⟨ms.set (i % 12) (ms[i % 12]+z),_,_,rfl,?_,by rw[List.length_set];exact hml,?_,?_⟩
   ·rw[aa,List.map_set]
   ·rw[aj hcr.symm];exact kp hr' ht
   ·intro b o e;rw[aj (ag e hcH)];exact kp (hS' b o e) ht
 ·rintro σ H' ⟨ms,x,y,rfl,hcell,hml,hr',hS'⟩;refine⟨_,rfl,(by show 3<=ah;decide),fun p hp=>k p c _ (hS'.free hp) ⟨0,0,ms,aa,kp hcell hp,Int.le_refl _,Int.le_refl _⟩ (hS'.trans (ab.new hp))⟩
def vE(c:Nat):Prop:=97<=c/\c<=122
structure o6(w:Str):Prop where
 lo:1<=w.length
 hi:w.length<=8
 al:∀c∈w.cps.toList,vE c
theorem AG:∀n:Nat,n<26->(("abcdefghijklmnopqrstuvwxyz":Str).cps.toList)[n]?=some (97+n):=by decide +kernel
theorem AF:("abcdefghijklmnopqrstuvwxyz":Str).length<=ah:=by decide +kernel
theorem Dv{r:Int}(h0:0<=r)(h1:r<26):vV (("abcdefghijklmnopqrstuvwxyz":Str).cps.toList) r=some (97+r.toNat):=by
 obtain⟨n,rfl⟩:=gy h0;rw[ko];exact bQ (AG n (by omega))
theorem sX(cs:List Nat):∀acc:Array Nat,((cs.map fun c=>(⟨#[c]⟩:Str)).foldl (fun acc p=>acc++("":Str).cps++p.cps) acc).toList=acc.toList++cs:=by
 have e:("":Str).cps=#[]:=by decide +kernel
 induction cs with
 |nil=>intro acc;simp
 |cons c cs ih =>
  intro acc;rw[bI,List.foldl_cons,ih,e];simp
theorem yN(cs:List Nat):(uz "" (cs.map fun c=>(⟨#[c]⟩:Str))).cps.toList=cs:=by
 unfold uz cw.Str.glued;cases cs with
 |nil=>rfl
 |cons c cs =>
  rw[bI];show((cs.map fun c=>(⟨#[c]⟩:Str)).foldl (fun acc p=>acc++("":Str).cps++p.cps) #[c]).toList=_;rw[sX]
  rfl
theorem DW{a b:Str}(h:a.cps.toList=b.cps.toList):a=b:=by
 cases a with|mk x=>cases b with|mk y=>exact congrArg Str.mk (Array.toList_inj.mp h)
theorem eU(a:Str):a.length=a.cps.toList.length:=by simp[Str.length]
theorem vW(a b:Str):(a++b).cps.toList=a.cps.toList++b.cps.toList:=by
 show(a.cps++b.cps).toList=_;simp
theorem Dn(z:Str)(m:Nat):(rM z none (some (m:Int))).cps.toList=z.cps.toList.take m:=by
 unfold rM;rw[HT.sIx_none,HT.sIx_nat,n6,uw,eU];show List.take _ _=_;rw[List.take_eq_take_iff];omega
theorem Do(z:Str)(m:Nat):(rM z (some (m:Int)) none).cps.toList=z.cps.toList.drop m:=by
 unfold rM;rw[HT.sIx_none,HT.sIx_nat,eU];show List.take _ _=_;rw[nW (by rw[dX];omega)];by_cases h:m<=z.cps.toList.length
 ·rw[lU h]
 ·rw[Nat.min_eq_right (by omega),List.drop_length,n5 (by omega)]
def eO(way size k:Nat):Nat:=(size+k * (way % 2)) % 8
def xN(way m:Nat):Nat:=if way=0 then 0 else if way=1 then m else m / 2
def lL(b:List Nat)(way turn size k:Nat):List Nat :=
 (b.take (eO way size k)).take (xN way (eO way size k))++[97+(turn+3 * k) % 26]++(b.take (eO way size k)).drop (xN way (eO way size k))
def wv(b:List Nat)(way turn size k:Nat):Str:=⟨(lL b way turn size k).toArray⟩
theorem ox{b:List Nat}(hb:b.length=7)(way turn size k:Nat):(lL b way turn size k).length=eO way size k+1:=by
 have h8:eO way size k<8:=qg _ (by decide);unfold lL;rw[aO,aO,aD,dX,aD,hb];have:xN way (eO way size k)<=eO way size k:=by unfold xN;split;omega;split;omega;omega
 simp;omega
theorem DK{b:List Nat}(hb:b.length=7)(hl:∀c∈b,vE c)(way turn size k:Nat):o6 (wv b way turn size k):=by
 have h8:eO way size k<8:=qg _ (by decide);have hlen:=ox hb way turn size k;have e:(wv b way turn size k).cps.toList=lL b way turn size k:=by simp[wv]
 refine⟨?_,?_,?_⟩
 ·rw[eU,e];omega
 ·rw[eU,e];omega
 ·rw[e];intro c hc;unfold lL at hc;rcases bN.mp hc with hc|hc
  ·rcases bN.mp hc with hc|hc
   ·exact hl c (fT (fT hc))
   ·have:c=97+(turn+3 * k) % 26:=by simpa using hc
    subst this;have:(turn+3 * k) % 26<26:=qg _ (by decide);exact⟨by omega,by omega⟩
  ·exact hl c (fT (ur hc))
theorem BU{b:List Nat}(hb:b.length=7){way turn size:Nat}(hw:way<3){j k:Nat}(hj:j<26)(hk:k<26)(h:wv b way turn size j=wv b way turn size k):j=k:=by
 have h8:∀i,eO way size i<8:=fun i=>qg _ (by decide);have e:lL b way turn size j=lL b way turn size k:=by
  have:=congrArg (fun s=>Str.cps s |>.toList) h;simpa[wv]using this
 have el:eO way size j=eO way size k:=by
  have:=congrArg List.length e;rw[ox hb,ox hb]at this;omega
 have key:97+(turn+3 * j) % 26=97+(turn+3 * k) % 26:=by
  have hat:∀i,xN way (eO way size i)<=eO way size i:=fun i=>by unfold xN;split;omega;split;omega;omega
  have get:∀i,(lL b way turn size i)[xN way (eO way size i)]?=some (97+(turn+3 * i) % 26):=by
   intro i;unfold lL;have hl:((b.take (eO way size i)).take (xN way (eO way size i))).length=xN way (eO way size i):=by
    rw[aD,aD,hb];have:=h8 i;have:=hat i;omega
   rw[eN,List.getElem?_append_right (by omega),hl,Nat.sub_self]
   rfl
  have g1:=get j;have g2:=get k;rw[e,el]at g1;rw[g1]at g2;exact ef g2
 omega
def jL(ws:Zb):Prop:=ws.Nodup/\∀w∈ws,o6 w
def jx(b:List Nat)(way turn size n:Nat):List Str:=(hJ n).map (wv b way turn size)
theorem xR{b:List Nat}(hb:b.length=7)(hl:∀c∈b,vE c){way turn size n:Nat}(hw:way<3)(hn:n<=26):jL (jx b way turn size n):=by
 refine⟨?_,fun w hm=>?_⟩
 ·unfold jx;rw[uo,List.pairwise_map];refine(List.nodup_range (n:=n)).imp_of_mem ?_;intro j k hj hk hne h;exact hne (BU hb hw (by have:=List.mem_range.mp hj;omega) (by have:=List.mem_range.mp hk;omega) h)
 ·obtain⟨k,_,rfl⟩:=aX.mp hm;exact DK hb hl _ _ _ _
inductive kC (vs:List V)(H:Hp)(Q:VK)(E:XK):Prop
 |mk (p c:Addr) (n:Nat):(vs=[.ref p,.int n])->(fo H p c)->(n<=26)->(∀(l:Addr) (ws:Zb) (H':Hp),jL ws->ws.length=n->H l=none->H' l=some (.lst (ws.map V.str))->fo H' p c->cx p H H'->Q (.ref l) H')->kC  vs H Q E
theorem Cn{K:Za}{vs:List V}{H:Hp}{Q:VK}{E:XK}(h:kC vs H Q E):wC K eg (bJ Q) (start xK vs) H:=by
 obtain⟨p,c,n,rfl,hp,hn,k⟩:=h;refine⟨rfl,7,rfl,by decide,by decide,fun l hl=>?_⟩;refine yZ (lo:=0) (n:=Int.toNat 7) (fun i vs H'=>∃cs:List Nat,vs=cs.map (fun c=>V.str ⟨#[c]⟩)/\cs.length=i/\(∀c∈cs,vE c)/\fo H' p c/\cx p H H'/\H' l=some (.lst vs))
  ⟨[],rfl,rfl,(fun _ h=>nomatch h),hp.ex (ab.new hl),cx.new hl,aa⟩ (fun i vs H' _ ⟨_,_,_,_,_,_,h⟩=>h) ?_ ?_
 rotate_left
 ·rintro i vs H' hi ⟨cs,rfl,hlen,hlet,hp',hex,hl'⟩;have hlp:=hp.nep hl;have hlc:=hp.nec hl;refine gN (sr ?_);refine⟨_,rfl,_,rfl,da hp' (by decide) (by decide) fun r H2 h0 h1 hp2 hex2=>⟨_,r,_,rfl,rfl,AF,Dv h0 h1,?_⟩⟩;have hl2:=hex2 l _ hl' hlp.symm;refine⟨hl2,by rw[ai,hlen];exact aw (by omega),j4 hi ⟨cs++[97+r.toNat],by rw[aB];rfl,by rw[aO,hlen];rfl,?_,hp2.upd hlp hlc,?_,aa⟩⟩
  ·intro x hc;rcases bN.mp hc with hc|hc
   ·exact hlet x hc
   ·have:x=97+r.toNat:=by simpa using hc
    subst this;exact⟨by omega,by omega⟩
  ·intro b o' e nb;rw[aj (ag e hl)];exact hex2 b o' (hex b o' e nb) nb
 ·rintro vs H1 ⟨cs,rfl,hlen,hlet,hp1,hex1,hl1⟩;refine⟨"",l,cs.map fun c=>(⟨#[c]⟩:Str),rfl,rfl,aA.of (by rw[hl1,ke];rfl),?_,?_⟩
  ·have e0:("":Str).length=0:=by decide +kernel
   rw[e0,Nat.mul_zero,ke];have:∀cs:List Nat,(cs.map ((fun x=>Str.length x) ∘ fun c=>(⟨#[c]⟩:Str))).sum=cs.length:=by
    intro cs
    induction cs with
    |nil=>rfl
    |cons c cs ih=>rw[bI,List.sum_cons,ih,em];show 1+_=_;omega
   rw[this,hlen];decide
  refine⟨_,rfl,da hp1 (by decide) (by decide) fun way H2 w0 w1 hp2 hex2=>?_⟩;refine⟨_,rfl,da hp2 (by decide) (by decide) fun turn H3 t0 t1 hp3 hex3=>?_⟩;refine⟨_,rfl,da hp3 (by decide) (by decide) fun size H4 s0 s1 hp4 hex4=>?_⟩;have ex4:cx p H H4:=((hex1.trans hex2).trans hex3).trans hex4;obtain⟨wy,rfl⟩:=gy w0;obtain⟨tn,rfl⟩:=gy t0;obtain⟨sz,rfl⟩:=gy s0;have hb:=yN cs;generalize uz "" (cs.map fun c=>(⟨#[c]⟩:Str))=base at hb ⊢;refine⟨(by show 0<=ah;decide),fun f hf=>?_⟩;obtain⟨op,hop⟩:=hp4.pen;have hfH:H f=none:=ex4.free hop hf;have hfp:=hp.nep hfH;have hfc:=hp.nec hfH;refine⟨_,rfl,n,rfl,by omega,by omega,jj (lo:=0) (n:=((n:Int)).toNat) (fun i σ H'=>∃(a b c' d:Option V),σ=[some (.ref p),some (.int n),some (.str "abcdefghijklmnopqrstuvwxyz"),some (.str base),some (.int wy),some (.int tn),some (.int sz),some (.ref f),a,b,c',d] /\
   fo H' p c/\cx p H H'/\H' f=some (.lst ((jx cs wy tn sz i).map V.str)))
   ⟨_,_,_,_,rfl,hp4.upd hfp hfc,ex4.trans (cx.new hf),aa⟩ ?_ ?_⟩
  ·rintro i σ H' hi ⟨a,b,c',d,rfl,hp',hex',hf'⟩;have hi':i<n:=by omega
   have hwy:wy<3:=by omega
   have e26:((tn:Int)+3 * (0+(i:Int))) % 26=(((tn+3 * i) % 26:Nat):Int):=by omega
   refine⟨_,rfl,_,rfl,_,rfl,_,_,rfl,rfl,.inl ⟨by decide,by decide⟩,_,_,rfl,rfl,_,_,rfl,rfl,(by show(0:Int)<26;decide),_,_,_,rfl,rfl,AF,Dv (nZ _ (by decide)) (nY _ (by decide)),?_⟩;have blen:base.length<=ah:=by rw[eU,hb,hlen];decide
   have e8:((sz:Int)+(0+(i:Int)) * ((wy:Int) % 2)) % 8=((eO wy sz i:Nat):Int):=by
    unfold eO;have:wy=0∨wy=1∨wy=2:=by omega
    rcases this with rfl|rfl|rfl<;>simp<;>omega
   refine⟨_,rfl,_,rfl,_,rfl,_,rfl,_,_,rfl,rfl,(by show(0:Int)<2;decide),_,_,rfl,rfl,.inr ⟨by omega,by omega⟩,_,_,rfl,rfl,_,_,rfl,rfl,(by show(0:Int)<8;decide),_,rfl,base,rfl,blen,?_⟩;rw[e8];have hpart:=Dn base (eO wy sz i);rw[hb]at hpart;generalize rM base none (some ((eO wy sz i:Nat):Int))=part at hpart ⊢;have h8:eO wy sz i<8:=qg _ (by decide);have plen:part.length=eO wy sz i:=by rw[eU,hpart,aD,hlen];omega
   have pz:part.length<=ah:=by rw[plen];exact fh (aw (by omega))
   refine⟨_,rfl,.inr ⟨part,rfl,pz,_,rfl,.inr ⟨part,rfl,pz,_,_,rfl,rfl,⟨by decide,by decide⟩,(by show 3<=ah;decide),fun q hq=>?_⟩⟩⟩;have hqH:H q=none:=by
    obtain⟨op',hop'⟩:=hp'.pen;exact hex'.free hop' hq
   have hat:vV [V.int 0,V.int (part.length:Nat),V.int ((part.length:Int) / 2)] (wy:Int)=some (.int (xN wy (eO wy sz i):Nat)):=by
    rw[plen];have:wy=0∨wy=1∨wy=2:=by omega
    rcases this with rfl|rfl|rfl
    ·rfl
    ·rfl
    ·show some (V.int (((eO 2 sz i:Nat):Int) / 2))=some (V.int ((xN 2 (eO 2 sz i):Nat):Int));have:xN 2 (eO 2 sz i)=eO 2 sz i / 2:=rfl;rw[this];congr 2
   refine⟨_,rfl,q,_,_,_,rfl,rfl,aA.of aa,hat,?_⟩;have hf2:upd H' q (.lst [V.int 0,V.int (part.length:Nat),V.int ((part.length:Int) / 2)]) f=some (.lst ((jx cs wy tn sz i).map V.str)):=kp hf' hq;have c1:=Dn part (xN wy (eO wy sz i));have c2:=Do part (xN wy (eO wy sz i));have l1:(rM part none (some ((xN wy (eO wy sz i):Nat):Int))).length<=8:=by rw[eU,c1,aD,hpart,aD,hlen];omega
   have l2:(rM part (some ((xN wy (eO wy sz i):Nat):Int)) none).length<=8:=by rw[eU,c2,dX,hpart,aD,hlen];omega
   refine⟨_,rfl,.inl ⟨rfl,_,aA.of hf2⟩,_,rfl,_,rfl,_,rfl,part,rfl,pz,_,rfl,_,_,rfl,rfl,?_,_,rfl,_,rfl,_,rfl,part,rfl,pz,_,_,rfl,rfl,?_,f,_,_,rfl,rfl,hf2,?_,?_⟩
   ·have:Str.length ⟨#[97+(((tn:Int)+3 * (0+(i:Int))) % 26).toNat]⟩=1:=rfl;rw[this];exact fh (aw (by omega))
   ·rw[eU,vW,aO,<-eU,<-eU];have:Str.length ⟨#[97+(((tn:Int)+3 * (0+(i:Int))) % 26).toNat]⟩=1:=rfl;rw[this];exact fh (aw (by omega))
   ·rw[ai];unfold jx;rw[ai,List.length_range];exact aw (by omega)
   ·refine⟨_,_,_,_,rfl,(hp'.upd (hp.nep hqH) (hp.nec hqH)).upd hfp hfc,?_,?_⟩
    ·intro b' o' e nb;rw[aj (ag e hfH)];exact kp (hex' b' o' e nb) hq
    ·rw[aa];unfold jx;rw[List.range_succ,aB,aB];congr 3;show[V.str _]=[V.str _];congr 2;refine DW ?_;rw[vW,vW,c1,c2,hpart,e26,ko];simp[wv,lL]
  ·rintro σ H' ⟨a,b,c',d,rfl,hp',hex',hf'⟩;have en:((n:Int)).toNat=n:=by omega
   rw[en]at hf';exact⟨_,rfl,k f _ H' (xR hlen hlet (by omega) hn) (by unfold jx;rw[ai,List.length_range]) hfH hf' hp' hex'⟩
structure am where
 a:Str
 sg:List Str
 b:Str
deriving DecidableEq
def SignAt(H:Hp)(s:Addr)(sg:Zb):Prop:=H s=some (.tup (sg.map V.str))
def f_(H:Hp)(t:Addr)(d:am):Prop:=∃s,H t=some (.tup [.str d.a,.ref s,.str d.b])/\SignAt H s d.sg
def jZ(H H':Hp):Prop:=∀b xs,H b=some (.tup xs)->H' b=some (.tup xs)
theorem f_.kt{H H':Hp}{t:Addr}{d:am}(k:jZ H H')(h:f_ H t d):f_ H' t d:=by
 obtain⟨s,h1,h2⟩:=h;exact⟨s,k _ _ h1,k _ _ h2⟩
theorem cx.kt{p:Addr}{H H':Hp}{xs:List V}(e:cx p H H')(hp:H p=some (.lst xs)):jZ H H':=fun b ys h=>e b _ h (fun z=>by rw[z,hp]at h;cases h)
theorem ab.kt{H H':Hp}(e:ab H H'):jZ H H':=fun b ys h=>e b _ h
theorem jZ.trans{H H1 H2:Hp}(a:jZ H H1)(b:jZ H1 H2):jZ H H2:=fun x xs h=>b x xs (a x xs h)
theorem eD{H:Hp}{l:Addr}{xs:List V}{o:HO}(h:H l=some (.lst xs)):jZ H (upd H l o):=fun b ys e=>by
 rw[aj (fun z=>by rw[z,h]at e;cases e)];exact e
abbrev cn(H:Hp)(ts:Ze)(ds:List am):Prop:=Paired (f_ H) ts ds
theorem Paired.get{α β:Type}{R:α->β->Prop}:∀{xs:List α}{ys:List β}{i:Nat}{y:β},Paired R xs ys->ys[i]?=some y->∃x,xs[i]?=some x/\R x y
 |_,_,i,y,.nil,h=>by simp at h
 |_,_,0,y,.cons r t,h=>by simp at h;subst h;exact⟨_,rfl,r⟩
 |_,_,i+1,y,.cons r t,h=>by
  simp at h;obtain⟨x,h1,h2⟩:=Paired.get t h;exact⟨x,by simpa using h1,h2⟩
theorem Paired.getL{α β:Type}{R:α->β->Prop}:∀{xs:List α}{ys:List β}{i:Nat}{x:α},Paired R xs ys->xs[i]?=some x->∃y,ys[i]?=some y/\R x y
 |_,_,i,y,.nil,h=>by simp at h
 |_,_,0,y,.cons r t,h=>by simp at h;subst h;exact⟨_,rfl,r⟩
 |_,_,i+1,y,.cons r t,h=>by
  simp at h;obtain⟨x,h1,h2⟩:=Paired.getL t h;exact⟨x,by simpa using h1,h2⟩
theorem cn.kt{H H':Hp}{ts:Ze}{ds:List am}(k:jZ H H')(h:cn H ts ds):cn H' ts ds:=Paired.mapP h fun _ _ r=>r.kt k
theorem Fp{H:Hp}{a:Addr}{o:HO}(h:H a=some o):upd H a o=H:=by
 funext b;by_cases e:b=a
 ·subst e;rw[aa,h]
 ·rw[aj e]
def fE(x:Str):DT:=.k (.inr x)
def rL(d:am):DT:=.t [fE d.a,.t (d.sg.map fE),fE d.b]
theorem np{x y:Str}(h:fE x=fE y):x=y:=by
 unfold fE at h;injection h with h;injection h
theorem gv:∀{x y:Zb},x.map fE=y.map fE->x=y
 |[],[],_=>rfl
 |[],_::_,h=>by cases h
 |_::_,[],h=>by cases h
 |a::x,b::y,h=>by
  rw[bI,bI]at h;injection h with h1 h2;rw[np h1,gv h2]
theorem EL{x y:am}(h:rL x=rL y):x=y:=by
 unfold rL at h;injection h with h;injection h with h1 h;injection h with h2 h;injection h with h3 h;injection h2 with h2;cases x;cases y;simp only at *;rw[np h1,gv h2,np h3]
theorem dk(xs:Zb):DT.depths (xs.map fE)=0:=by
 induction xs with
 |nil=>rfl
 |cons x xs ih=>rw[bI];show max (DT.depth (fE x)) (DT.depths _)=0;rw[ih];rfl
theorem vO(d:am):(rL d).depth=2:=by
 show DT.depths [fE d.a,.t (d.sg.map fE),fE d.b]+1=2;show max (DT.depth (fE d.a)) (max (DT.depths (d.sg.map fE)+1) (max (DT.depth (fE d.b)) 0))+1=2;rw[dk]
 rfl
theorem By(ds:List am):DT.depths (ds.map rL)<=8:=by
 induction ds with
 |nil=>exact dL _
 |cons x xs ih=>rw[bI];show max (DT.depth (rL x)) (DT.depths _)<=8;rw[vO];omega
theorem ir{K:Za}{H:Hp}:∀xs:List Str,DIns K H (xs.map fE) (xs.map V.str)
 |[]=>by show DIns K H [] [];unfold DIns;rfl
 |x::xs=>by
  rw[bI,bI];unfold DIns;refine⟨_,_,rfl,?_,ir xs⟩;unfold fE gW
  rfl
theorem iu{K:Za}{H:Hp}(x:Str):gW K H (fE x) (.str x):=by unfold fE gW;rfl
theorem aL{K:Za}{H:Hp}{s:Addr}{sg:Zb}(h:aY K H s (sg.map V.str)):gW K H (.t (sg.map fE)) (.ref s):=by
 unfold gW;exact⟨s,_,rfl,h,ir _⟩
theorem f_.dIn{K:Za}{H:Hp}{t:Addr}{d:am}(h:f_ H t d):gW K H (rL d) (.ref t):=by
 obtain⟨s,h1,h2⟩:=h;unfold rL;unfold gW;refine⟨t,_,rfl,aY.of h1,?_⟩;unfold DIns;refine⟨_,_,rfl,iu _,?_⟩;unfold DIns;refine⟨_,_,rfl,aL (aY.of h2),?_⟩;unfold DIns;refine⟨_,_,rfl,iu _,?_⟩;unfold DIns
 rfl
theorem cn.dIns{K:Za}{H:Hp}:∀{ts:Ze}{ds:List am},cn H ts ds->DIns K H (ds.map rL) (ts.map V.ref)
 |_,_,.nil=>by show DIns K H [] [];unfold DIns;rfl
 |_,_,.cons r t=>by
  rw[bI,bI];unfold DIns;exact⟨_,_,rfl,r.dIn,cn.dIns t⟩
theorem An{d:am}{ds:List am}:rL d∈ds.map rL↔d∈ds:=by
 constructor
 ·intro h;obtain⟨x,hx,e⟩:=aX.mp h;rw[<-EL e];exact hx
 ·exact nV
def kJ(ds:List am)(d:am):List am:=if d∈ds then ds else ds++[d]
inductive jC (vs:List V)(H:Hp)(Q:VK)(E:XK):Prop
 |mk (l t:Addr) (ts:Ze) (ds:List am) (d:am):(vs=[.ref l,.ref t])->(H l=some (.lst (ts.map V.ref)))->(cn H ts ds)->(f_ H t d)->(ds.length<=1000)->(∀ts':List Addr,cn H ts' (kJ ds d)->Q .non (upd H l (.lst (ts'.map V.ref))))->jC  vs H Q E
theorem Fy{K:Za}{vs:List V}{H:Hp}{Q:VK}{E:XK}(h:jC vs H Q E):AV K (bJ Q) (start BI vs) H:=by
 obtain⟨l,t,ts,ds,d,rfl,hl,hd,ht,hz,k⟩:=h;refine⟨_,rfl,_,rfl,rL d,ds.map rL,l,_,ht.dIn,rfl,.inl (aA.of hl),hd.dIns,by rw[vO];decide,By ds,_,rfl,?_⟩;by_cases hm:d∈ds
 ·rw[if_pos rfl,zzr1 (An.mpr hm)];refine bv ?_;have:=k ts (by unfold kJ;rw[if_pos hm];exact hd);rw[Fp hl]at this;exact this
 ·rw[if_pos rfl,zzr0 (fun z=>hm (An.mp z))];refine b0 ?_;refine⟨_,rfl,.inl ⟨rfl,_,aA.of hl⟩,_,rfl,l,_,_,rfl,rfl,hl,?_,?_⟩
  ·rw[ai,Paired.length hd];exact aw hz
  ·have:=k (ts++[t]) (by unfold kJ;rw[if_neg hm];exact fA hd ht);rw[aB]at this;exact this
structure DI(R:am->Prop)(H0:Hp)(p c l:Addr)(m:Nat)(H:Hp):Prop where
 pen:fo H p c
 ds:∃ts ds,H l=some (.lst (ts.map V.ref))/\cn H ts ds/\ds.Nodup/\(∀d∈ds,R d)/\ds.length<=m
 ex:cx p H0 H
 fr:H0 l=none
 pl:p≠l
 cl:c≠l
section
variable{R:am->Prop}{H0 H H':Hp}{p c l:Addr}{m:Nat}
theorem fo.lst{H:Hp}{p c:Addr}(h:fo H p c):∃xs,H p=some (.lst xs):=by
 obtain⟨a,r,ns,h1,_⟩:=h;exact⟨_,h1⟩
theorem DI.took(h:DI R H0 p c l m H)(hp:fo H' p c)(e:cx p H H'):DI R H0 p c l m H':=by
 obtain⟨ts,ds,h1,h2,h3⟩:=h.ds;obtain⟨xs,hx⟩:=h.pen.lst;exact⟨hp,⟨ts,ds,e _ _ h1 h.pl.symm,h2.kt (e.kt hx),h3⟩,h.ex.trans e,h.fr,h.pl,h.cl⟩
theorem DI.new(h:DI R H0 p c l m H){q:Addr}{o:HO}(hq:H q=none):DI R H0 p c l m (upd H q o) :=
 h.took (h.pen.ex (ab.new hq)) (cx.new hq)
theorem DI.up(h:DI R H0 p c l m H){n:Nat}(hn:m<=n):DI R H0 p c l n H:=by
 obtain⟨ts,ds,h1,h2,h3,h4,h5⟩:=h.ds;exact⟨h.pen,⟨ts,ds,h1,h2,h3,h4,bh h5 hn⟩,h.ex,h.fr,h.pl,h.cl⟩
theorem DI.put(h:DI R H0 p c l m H){t:Addr}{d:am}{Q:VK}{E:XK}(ht:f_ H t d)(hR:R d)(hm:m<=1000)(k:∀H',DI R H0 p c l (m+1) H'->Q .non H'):jC [.ref l,.ref t] H Q E:=by
 obtain⟨ts,ds,h1,h2,h3,h4,h5⟩:=h.ds;refine⟨l,t,ts,ds,d,rfl,h1,h2,ht,bh h5 hm,fun ts' h'=>k _ ⟨h.pen.upd h.pl h.cl,⟨ts',kJ ds d,aa,h'.kt (eD h1),?_,?_,?_⟩,?_,h.fr,h.pl,h.cl⟩⟩
 ·unfold kJ;split
  ·exact h3
  ·next hn =>
   rw[c9];refine⟨h3,by simp,?_⟩;intro a ha b hb e;have:b=d:=by simpa using hb
   subst this;exact hn (e▸ha)
 ·intro x hx;unfold kJ at hx;split at hx
  ·exact h4 x hx
  ·rcases bN.mp hx with hx|hx
   ·exact h4 x hx
   ·have:x=d:=by simpa using hx
    rw[this];exact hR
 ·unfold kJ;split
  ·omega
  ·rw[aO];show ds.length+1<=m+1;omega
 ·intro b o e n;rw[aj (ag e h.fr)];exact h.ex b o e n
end
theorem fo.ne_strs{H:Hp}{p c a:Addr}{ws:Zb}(hp:fo H p c)(ha:H a=some (.lst (ws.map V.str))):a≠p:=by
 intro e;obtain⟨x,y,ns,h1,_⟩:=hp;rw[e,h1]at ha;injection ha with ha;injection ha with ha;cases ws with
 |nil=>cases ha
 |cons w ws=>injection ha with ha;cases ha
theorem iK{K:Za}{r:R2}(hr:∀x y H Q,cM K x y H Q->r x y H Q){σ:L2.St}{H:Hp}{Q:VK}{p c a:Addr}{j:Nat}{ws:Zb}(h0:σ[0]?=some (some (.ref p)))(hj:σ[j]?=some (some (.ref a)))(hp:fo H p c)
  (ha:H a=some (.lst (ws.map V.str))) (hne:ws≠[]) (hlen:ws.length<=1000) (k:∀w∈ws,∀H',fo H' p c->cx p H H'->Q (.str w) H') :
  ∃v,σ[j]?=some (some v)/\∃v0,σ[0]?=some (some v0)/\∃v1,σ[j]?=some (some v1)/\dP K [v1] H fun y H1=>eg [v0,y] H1 (fun y H2=>r v y H2 Q) E0:=by
 have hl:0<ws.length:=by cases ws with|nil=>exact absurd rfl hne|cons _ _=>simp
 have la:(V.int ((ws.map V.str).length:Nat))=V.int (ws.length:Nat):=by rw[ai]
 have hpa:=hp.ne_strs ha;have fin:∀(x:Int) (H':Hp),0<=x->x<(ws.length:Int)->fo H' p c->cx p H H'->cM K (.ref a) (.int x) H' Q:=by
  intro x H' x0 x1 hp' ex;obtain⟨n,rfl⟩:=gy x0;have hn:n<ws.length:=by omega
  exact⟨a,_,(n:Int),.str ws[n],rfl,rfl,aA.of (ex _ _ ha hpa),bQ (by simp[hn]),k _ (List.getElem_mem hn) H' hp' ex⟩
 exact⟨_,hj,_,h0,_,hj,.inl ⟨a,_,rfl,.inl (aA.of ha),by rw[la];exact da hp (by omega) (by omega) fun x H' x0 x1 hp' ex=>hr _ _ _ _ (fin x H' x0 x1 hp' ex)⟩⟩
def Up(up:Bool)(J2:Zb)(a b:Str):Prop:=∃i j:Nat,J2[i]?=some a/\J2[j]?=some b/\(if up=true then i<j else j<i)
structure kT(J0 J1 J2:Zb)(up:Bool)(d:am):Prop where
 a:d.a∈J2
 b:d.b∈J2
 sg:(∃w∈J0,d.sg=[("ask":Str),w])∨(∃w∈J1,d.sg=[("say":Str),w])∨(d.sg=[("still":Str)]/\Up up J2 d.a d.b)
def ar:List Str:=[("still":Str)]
structure xM(J0 J1 J2:Zb)(d:am):Prop where
 a:d.a∈J2
 b:d.b∈J2
 sg:(∃w∈J0,d.sg=[("ask":Str),w])∨(∃w∈J1,d.sg=[("say":Str),w])∨d.sg=ar
theorem kT.d{J0 J1 J2:Zb}{up:Bool}{d:am}(h:kT J0 J1 J2 up d):xM J0 J1 J2 d:=⟨h.a,h.b,h.sg.imp id (Or.imp id And.left)⟩
inductive Reach(ds:List am)(a:Str):Str->Prop
 |one {b:Str}(h:(⟨a,ar,b⟩:am)∈ds):Reach ds a b
 |step {b c:Str}(r:Reach ds a b) (h:(⟨b,ar,c⟩:am)∈ds):Reach ds a c
theorem p7{J2:Zb}(nd:J2.Nodup){i j:Nat}{a:Str}(hi:J2[i]?=some a)(hj:J2[j]?=some a):i=j:=by
 obtain⟨h1,e1⟩:=cE.mp hi;obtain⟨h2,e2⟩:=cE.mp hj;have pw:=List.pairwise_iff_getElem.mp nd;rcases Nat.lt_trichotomy i j with h|h|h
 ·exact absurd (e1.trans e2.symm) (pw i j h1 h2 h)
 ·exact h
 ·exact absurd (e2.trans e1.symm) (pw j i h2 h1 h)
theorem Up.trans{up:Bool}{J2:Zb}(nd:J2.Nodup){a b c:Str}(h1:Up up J2 a b)(h2:Up up J2 b c):Up up J2 a c:=by
 obtain⟨i,j,e1,e2,h⟩:=h1;obtain⟨j',k,e3,e4,h'⟩:=h2;have:=p7 nd e2 e3;subst this;refine⟨i,k,e1,e4,?_⟩;cases up
 ·simp at h h' ⊢;omega
 ·simp at h h' ⊢;omega
theorem Up.irr{up:Bool}{J2:Zb}(nd:J2.Nodup){a:Str}(h:Up up J2 a a):False:=by
 obtain⟨i,j,e1,e2,h⟩:=h;have:=p7 nd e1 e2;subst this;cases up
 ·simp at h
 ·simp at h
theorem BW{J0 J1 J2:Zb}{ds:List am}{up:Bool}(nd:J2.Nodup)(m:∀d∈ds,kT J0 J1 J2 up d){a b:Str}(h:Reach ds a b):Up up J2 a b:=by
 have edge:∀{a b:Str},(⟨a,ar,b⟩:am)∈ds->Up up J2 a b:=by
  intro a b h;rcases(m _ h).sg with⟨w,_,e⟩|⟨w,_,e⟩|⟨_,e⟩
  ·cases e
  ·cases e
  ·exact e
 induction h with
 |one h=>exact edge h
 |step r h ih=>exact ih.trans nd (edge h)
inductive gk (vs:List V)(H:Hp)(Q:VK)(E:XK):Prop
 |mk (p c l1 l2 l3:Addr) (J0 J1 J2:Zb) (full:Int):(vs=[.ref p,.ref l1,.ref l2,.ref l3,.int full])->(fo H p c)->(H l1=some (.lst (J0.map V.str)))->(H l2=some (.lst (J1.map V.str)))->(H l3=some (.lst (J2.map V.str)))->(J0.length<=4)->(J1≠[])->(J1.length<=4)->(J2≠[])->(J2.length<=26)->(0<=full)->(full<=2)->(∀(l:Addr) (ts:Ze) (ds:List am) (up:Bool) (H':Hp),H l=none->H' l=some (.lst (ts.map V.ref))->cn H' ts ds->ds.Nodup->(∀d∈ds,kT J0 J1 J2 up d)->ds.length<=600->fo H' p c->cx p H H'->Q (.ref l) H')->gk  vs H Q E
theorem GF{x r:Int}(x0:0<=x)(x2:x<=2)(r0:0<=r)(r4:r<4):∃j:Int,vV [V.int x,.int 1,.int 1,.int 2] r=some (.int j)/\0<=j/\j<=2:=by
 have:r=0∨r=1∨r=2∨r=3:=by omega
 rcases this with rfl|rfl|rfl|rfl
 ·exact⟨x,rfl,x0,x2⟩
 ·exact⟨1,rfl,by decide,by decide⟩
 ·exact⟨1,rfl,by decide,by decide⟩
 ·exact⟨2,rfl,by decide,by decide⟩
theorem ub(ws:Zb)(k:Nat):cD (ws.map V.str) (some (k:Int)) none=(ws.drop k).map V.str:=by
 unfold cD;rw[HT.sIx_none,HT.sIx_nat,ai,nW (by rw[dX,ai];omega),nX];by_cases h:k<=ws.length
 ·rw[lU h]
 ·rw[Nat.min_eq_right (by omega),n5 (by simp),n5 (by rw[ai];omega)]
theorem gS(ws:Zb)(k:Nat):cD (ws.map V.str) none (some (k:Int))=(ws.take k).map V.str:=by
 unfold cD;rw[HT.sIx_none,HT.sIx_nat,ai,n6,uw,lV,List.take_eq_take_iff,ai];omega
theorem rK{K:Za}{H:Hp}{a:Addr}{ws:Zb}(h:aA K H a (ws.map V.str)):gW K H (.s (ws.map fE)) (.ref a):=by
 unfold gW;exact⟨a,_,rfl,h,ir _⟩
theorem AD{K:Za}{H:Hp}{a:Addr}(h:aA K H a []):gW K H (.s []) (.ref a):=by
 unfold gW;refine⟨a,_,rfl,h,?_⟩;unfold DIns
 rfl
theorem sT{K:Za}{vs:List V}{H:Hp}{Q:VK}{E:XK}(h:gk vs H Q E):oC K eg jC (bJ Q) (start oY vs) H:=by
 obtain⟨p,c,l1,l2,l3,J0,J1,J2,full,rfl,hp,h1,h2,h3,ha,hs0,hs,hr0,hr,f0,f2,k⟩:=h;have n1:=hp.ne_strs h1;have n2:=hp.ne_strs h2;have n3:=hp.ne_strs h3;refine⟨(by show 0<=ah;decide),fun l hl=>?_⟩;have hpl:=hp.nep hl;have hcl:=hp.nec hl;refine⟨_,rfl,da (hp.ex (ab.new hl)) (by decide) (by decide) fun dn H1 d0 d1 hp1 ex1=>?_⟩;generalize hG:kT J0 J1 J2 (decide (dn=0))=G;have base:DI G H p c l 0 H1:=⟨hp1,⟨[],[],ex1 _ _ aa hpl.symm,.nil,qq,by simp,dL _⟩,(cx.new hl).trans ex1,hl,hpl,hcl⟩;refine⟨_,rfl,l3,rfl,⟨_,aA.of (base.ex _ _ h3 n3)⟩,?_⟩;refine kN (xs:=J2.map V.str) (fun i σ H'=>∃a7 a8 a9 a10 a11 a12:Option V,σ=[some (.ref p),some (.ref l1),some (.ref l2),some (.ref l3),some (.int full),some (.ref l),some (.int dn),a7,a8,a9,a10,a11,a12]/\DI G H p c l (11 * i) H')
  ⟨_,_,_,_,_,_,rfl,base⟩ (fun i σ H' _ ⟨_,_,_,_,_,_,_,D⟩=>aA.of (D.ex _ _ h3 n3)) ?_ ?_
 ·rintro i x σ H' t hi ⟨a7,a8,a9,a10,a11,a12,rfl,D⟩ ht;obtain⟨room,hroom,rfl⟩:∃room,J2[i]?=some room/\x=V.str room:=by
   rw[cO]at hi;cases q:J2[i]? with
   |none=>rw[q]at hi;cases hi
   |some r=>rw[q]at hi;exact⟨r,rfl,(ef hi).symm⟩
  have hiL:i<J2.length:=(cE.mp hroom).1;have hmem:room∈J2:=bY hroom;refine⟨t,_,rfl,aY.of aa,rfl,_,_,rfl,_,_,rfl,rfl,?_⟩;have D1:=D.new ht (o:=.tup [.int i,.str room]);refine⟨(by show 4<=ah;decide),fun q hq=>⟨_,rfl,da (D1.new hq).pen (by decide) (by decide) fun r H2 r0 r1 hp2 ex2=>?_⟩⟩;obtain⟨j,hj,j0,j2⟩:=GF (x:=0) (by decide) (by decide) r0 r1;have D2:=(D1.new hq).took hp2 ex2;refine⟨q,_,_,_,rfl,rfl,aA.of (ex2 q _ aa (D1.pen.nep hq).symm),hj,j,rfl,by omega,by omega,?_⟩;refine jj (lo:=0) (n:=j.toNat) (fun i' σ H''=>∃a9 a10:Option V,σ=[some (.ref p),some (.ref l1),some (.ref l2),some (.ref l3),some (.int full),some (.ref l),some (.int dn),some (.int i),some (.str room),a9,a10,a11,a12]/\DI G H p c l (11 * i+i') H'')
   ⟨_,_,rfl,D2⟩ ?_ ?_
  ·rintro i' σ H3 hi' ⟨a9,a10,rfl,D3⟩;refine iK (fun _ _ _ _ h=>h) rfl rfl D3.pen (D3.ex _ _ h2 n2) hs0 (by omega) fun w hw H4 hp4 ex4=>?_;have D4:=D3.took hp4 ex4;refine⟨(by show 2<=ah;decide),fun sg hsg=>?_⟩;have D5:=D4.new hsg (o:=.tup [.str "say",.str w]);refine⟨_,rfl,_,rfl,_,rfl,iK (fun _ _ _ _ h=>h) rfl rfl D5.pen (D5.ex _ _ h3 n3) hr0 (by omega) fun w2 hw2 H6 hp6 ex6=>?_⟩;have D6:=D5.took hp6 ex6;refine⟨(by show 3<=ah;decide),fun dr hdr=>?_⟩;have D7:=D6.new hdr (o:=.tup [.str room,.ref sg,.str w2]);have hsg6:H6 sg=some (.tup [.str "say",.str w]):=ex6 _ _ aa (D4.pen.nep hsg).symm;refine D7.put (d:=⟨room,["say",w],w2⟩) ⟨sg,aa,kp hsg6 hdr⟩ ?_ (by omega) fun H8 D8=>⟨_,_,rfl,D8⟩;rw[<-hG];exact⟨hmem,hw2,.inr (.inl ⟨w,hw,rfl⟩)⟩
  rintro σ H3 ⟨a9,a10,rfl,D3'⟩;have D3:DI G H p c l (11 * i+2) H3:=D3'.up (by omega);clear D3';refine⟨_,rfl,l1,rfl,⟨_,aA.of (D3.ex _ _ h1 n1)⟩,?_⟩;refine bW (xs:=J0.map V.str) (fun i' σ H''=>∃a9 a11:Option V,σ=[some (.ref p),some (.ref l1),some (.ref l2),some (.ref l3),some (.int full),some (.ref l),some (.int dn),some (.int i),some (.str room),a9,a10,a11,a12]/\DI G H p c l (11 * i+2+2 * i') H'')
   ⟨_,_,rfl,D3⟩ (fun i σ H' _ ⟨_,_,_,D⟩=>aA.of (D.ex _ _ h1 n1)) ?_ ?_
  ·rintro i' x σ H4 hi' ⟨a9,a11,rfl,D4⟩;obtain⟨ask,hask,rfl⟩:∃ask,J0[i']?=some ask/\x=V.str ask:=by
    rw[cO]at hi';cases q:J0[i']? with
    |none=>rw[q]at hi';cases hi'
    |some r=>rw[q]at hi';exact⟨r,rfl,(ef hi').symm⟩
   have hi2:i'<J0.length:=(cE.mp hask).1;have hm2:ask∈J0:=bY hask;refine⟨_,rfl,(by show 4<=ah;decide),fun q hq=>⟨_,rfl,da (D4.new hq).pen (by decide) (by decide) fun r H5 r0 r1 hp5 ex5=>?_⟩⟩;obtain⟨j,hj,j0,j2⟩:=GF f0 f2 r0 r1;have D5:=(D4.new hq).took hp5 ex5;refine⟨q,_,_,_,rfl,rfl,aA.of (ex5 q _ aa (D4.pen.nep hq).symm),hj,j,rfl,by omega,by omega,?_⟩;refine jj (lo:=0) (n:=j.toNat) (fun i'' σ H''=>∃a9:Option V,σ=[some (.ref p),some (.ref l1),some (.ref l2),some (.ref l3),some (.int full),some (.ref l),some (.int dn),some (.int i),some (.str room),a9,a10,some (.str ask),a12]/\DI G H p c l (11 * i+2+2 * i'+i'') H'')
    ⟨_,rfl,D5⟩ ?_ ?_
   ·rintro i'' σ H6 hi'' ⟨a9,rfl,D6⟩;refine⟨_,rfl,_,rfl,_,rfl,(by show 2<=ah;decide),fun sg hsg=>?_⟩;have D7:=D6.new hsg (o:=.tup [.str "ask",.str ask]);refine iK (fun _ _ _ _ h=>h) rfl rfl D7.pen (D7.ex _ _ h3 n3) hr0 (by omega) fun w2 hw2 H8 hp8 ex8=>?_;have D8:=D7.took hp8 ex8;refine⟨(by show 3<=ah;decide),fun dr hdr=>?_⟩;have D9:=D8.new hdr (o:=.tup [.str room,.ref sg,.str w2]);have hsg8:H8 sg=some (.tup [.str "ask",.str ask]):=ex8 _ _ aa (D6.pen.nep hsg).symm;refine D9.put (d:=⟨room,["ask",ask],w2⟩) ⟨sg,aa,kp hsg8 hdr⟩ ?_ (by omega) fun H8 D8=>⟨_,rfl,D8⟩;rw[<-hG];exact⟨hmem,hw2,.inl ⟨ask,hm2,rfl⟩⟩
   ·rintro σ H6 ⟨a9,rfl,D6⟩;exact⟨_,_,rfl,D6.up (by omega)⟩
  rintro σ H4 ⟨a9,a11,rfl,D4'⟩;have D4:DI G H p c l (11 * i+10) H4:=D4'.up (by rw[ai];omega);clear D4';have hnext:∀(H9:Hp) (a12:Option V),DI G H p c l (11 * i+11) H9->∃a7 a8 a9' a10' a11' a12':Option V,[some (.ref p),some (.ref l1),some (.ref l2),some (.ref l3),some (.int full),some (.ref l),some (.int dn),some (.int i),some (.str room),a9,a10,a11,a12] =
    [some (.ref p),some (.ref l1),some (.ref l2),some (.ref l3),some (.int full),some (.ref l),some (.int dn),a7,a8,a9',a10',a11',a12']/\DI G H p c l (11 * (i+1)) H9:=fun H9 a12 D9=>⟨_,_,_,_,_,_,rfl,D9.up (by omega)⟩
  refine⟨_,rfl,_,rfl,_,_,rfl,rfl,_,rfl,l3,_,rfl,aA.of (D4.ex _ _ h3 n3),fun q1 hq1=>?_⟩;have D5:=D4.new hq1 (o:=.lst (cD (J2.map V.str) (some ((i:Int)+1)) none));refine⟨_,rfl,_,rfl,_,rfl,l3,_,rfl,aA.of (D5.ex _ _ h3 n3),fun q2 hq2=>?_⟩;have e1:cD (J2.map V.str) (some ((i:Int)+1)) none=(J2.drop (i+1)).map V.str:=ub J2 (i+1);rw[gS];have D6:=D5.new hq2 (o:=.lst ((J2.take i).map V.str));refine⟨(by show 2<=ah;decide),fun q3 hq3=>?_⟩;have D7:=D6.new hq3 (o:=.lst [.ref q1,.ref q2]);obtain⟨lt,q,hq,hlt,hgood⟩:∃(lt:Zb) (q:Addr),vV [V.ref q1,.ref q2] dn=some (.ref q) /\
    upd (upd (upd H4 q1 (.lst (cD (J2.map V.str) (some ((i:Int)+1)) none))) q2 (.lst ((J2.take i).map V.str))) q3 (.lst [.ref q1,.ref q2]) q=some (.lst (lt.map V.str))/\lt.length<=26 /\
    ∀w∈lt,w∈J2/\Up (decide (dn=0)) J2 room w:=by
   have:dn=0∨dn=1:=by omega
   rcases this with rfl|rfl
   ·refine⟨J2.drop (i+1),q1,rfl,?_,by rw[dX];omega,fun w hw=>⟨ur hw,?_⟩⟩
    ·refine(kp (kp aa hq2) hq3).trans ?_;rw[e1]
    ·obtain⟨n,hn⟩:=nU hw;rw[List.getElem?_drop]at hn;exact⟨i,i+1+n,hroom,hn,by rw[if_pos (by decide)];omega⟩
   ·refine⟨J2.take i,q2,rfl,?_,by rw[aD];omega,fun w hw=>⟨fT hw,?_⟩⟩
    ·exact kp aa hq3
    ·obtain⟨n,hn⟩:=nU hw;have hnl:n<i:=by
      have:=(cE.mp hn).1;rw[aD]at this;omega
     rw[List.getElem?_take_of_lt hnl]at hn;exact⟨i,n,hroom,hn,by rw[if_neg (by decide)];omega⟩
  refine⟨_,rfl,q3,_,_,_,rfl,rfl,aA.of aa,hq,?_⟩;generalize upd (upd (upd H4 q1 (.lst (cD (J2.map V.str) (some ((i:Int)+1)) none))) q2 (.lst ((J2.take i).map V.str))) q3 (.lst [.ref q1,.ref q2])=H7 at D7 hlt ⊢;refine⟨_,rfl,(by show 0<=ah;decide),fun e he=>⟨.s (lt.map fE),.s [],rK (aA.of (kp hlt he)),AD (aA.of aa),?_,by decide,_,rfl,?_⟩⟩
  ·show DT.depths (lt.map fE)+1<=8;rw[dk];decide
  have D8:=D7.new he (o:=.lst []);by_cases hz:lt=[]
  ·have ez:(!decide (DT.s (lt.map fE)=DT.s []))=false:=by rw[hz,zzr1 (by rfl)];rfl
   rw[ez];exact bv (bv (hnext _ _ (D8.up (by omega))))
  ·have ez:(!decide (DT.s (lt.map fE)=DT.s []))=true:=by
    rw[zzr0 (fun z=>hz (gv (y:=[]) (by injection z)))];rfl
   rw[ez];refine b0 ?_;refine⟨_,rfl,da D8.pen (by decide) (by decide) fun r H9 r0 r1 hp9 ex9=>⟨rfl,_,rfl,?_⟩⟩;have D9:=D8.took hp9 ex9;refine gP (fun _=>?_) (fun _=>hnext _ _ (D9.up (by omega)));refine⟨_,rfl,_,rfl,(by show 1<=ah;decide),fun sg hsg=>?_⟩;have D10:=D9.new hsg (o:=.tup [.str "still"]);have hlt10:upd H9 sg (.tup [.str "still"]) q=some (.lst (lt.map V.str)):=kp (ex9 _ _ (kp hlt he) (D8.pen.ne_strs (kp hlt he))) hsg;refine iK (fun _ _ _ _ h=>.inl h) rfl rfl D10.pen hlt10 hz (by omega) fun w2 hw2 H11 hp11 ex11=>?_;have D11:=D10.took hp11 ex11;refine⟨(by show 3<=ah;decide),fun dr hdr=>?_⟩;have D12:=D11.new hdr (o:=.tup [.str room,.ref sg,.str w2]);have hsg11:H11 sg=some (.tup [.str "still"]):=ex11 _ _ aa (D9.pen.nep hsg).symm;refine D12.put (d:=⟨room,[("still":Str)],w2⟩) ⟨sg,aa,kp hsg11 hdr⟩ ?_ (by omega) fun H13 D13=>hnext _ _ D13;rw[<-hG];exact⟨hmem,(hgood.2 w2 hw2).1,.inr (.inr ⟨rfl,(hgood.2 w2 hw2).2⟩)⟩
 ·rintro σ H' ⟨a7,a8,a9,a10,a11,a12,rfl,D⟩;obtain⟨ts,ds,g1,g2,g3,g4,g5⟩:=D.ds;rw[ai]at g5;rw[<-hG]at g4;exact⟨_,rfl,k l ts ds _ H' hl g1 g2 g3 g4 (by omega) D.pen D.ex⟩
structure aN(J0 J1 J2:Zb)(ds:List am):Prop where
 okA:jL J0
 okS:jL J1
 apart:∀w∈J1,w∉J0
 okR:jL J2
 asks0:J0≠[]
 says0:J1≠[]
 rooms0:J2≠[]
 asks4:J0.length<=4
 says4:J1.length<=4
 rooms26:J2.length<=150
 nodup:ds.Nodup
 good:∀d∈ds,xM J0 J1 J2 d
 few:ds.length<=1000
 noround:∀r,¬Reach ds r r
structure fL(H:Hp)(t l1 l2 l3 l4:Addr)(ts:Ze)(J0 J1 J2:Zb)(ds:List am):Prop where
 t:H t=some (.tup [.ref l1,.ref l2,.ref l3,.ref l4])
 a1:H l1=some (.lst (J0.map V.str))
 a2:H l2=some (.lst (J1.map V.str))
 a3:H l3=some (.lst (J2.map V.str))
 a4:H l4=some (.lst (ts.map V.ref))
 ds:cn H ts ds
theorem fo.ne_refs{H:Hp}{p c a:Addr}{ts:Ze}(hp:fo H p c)(ha:H a=some (.lst (ts.map V.ref))):a≠p:=by
 intro e;obtain⟨x,y,ns,h1,_⟩:=hp;rw[e,h1]at ha;injection ha with ha;injection ha with ha;cases ts with
 |nil=>cases ha
 |cons w ws =>
  injection ha with _ ha;cases ws with
  |nil=>cases ha
  |cons w ws=>injection ha with ha;cases ha
theorem fL.ex{H H':Hp}{p c t l1 l2 l3 l4:Addr}{ts:Ze}{J0 J1 J2:Zb}{ds:List am}(h:fL H t l1 l2 l3 l4 ts J0 J1 J2 ds)(hp:fo H p c)(e:cx p H H'):fL H' t l1 l2 l3 l4 ts J0 J1 J2 ds:=by
 obtain⟨xs,hx⟩:=hp.lst;exact⟨e.kt hx _ _ h.t,e _ _ h.a1 (hp.ne_strs h.a1),e _ _ h.a2 (hp.ne_strs h.a2),e _ _ h.a3 (hp.ne_strs h.a3),e _ _ h.a4 (hp.ne_refs h.a4),h.ds.kt (e.kt hx)⟩
theorem fL.same{H H':Hp}{t l1 l2 l3 l4:Addr}{ts:Ze}{J0 J1 J2:Zb}{ds:List am}(h:fL H t l1 l2 l3 l4 ts J0 J1 J2 ds)(e:ab H H'):fL H' t l1 l2 l3 l4 ts J0 J1 J2 ds :=
 ⟨e _ _ h.t,e _ _ h.a1,e _ _ h.a2,e _ _ h.a3,e _ _ h.a4,h.ds.kt (ab.kt e)⟩
inductive ng (vs:List V)(H:Hp)(Q:VK)(E:XK):Prop
 |mk (p c:Addr) (most full:Int):(vs=[.ref p,.int most,.int full])->(fo H p c)->(0<most)->(most<=25)->(0<=full)->(full<=2)->(∀(t l1 l2 l3 l4:Addr) (ts:Ze) (J0 J1 J2:Zb) (ds:List am) (H':Hp),fL H' t l1 l2 l3 l4 ts J0 J1 J2 ds->aN J0 J1 J2 ds->J2.length<=most.toNat->ds.length<=600->fo H' p c->cx p H H'->Q (.ref t) H')->ng  vs H Q E
theorem at6{r:Int}(r0:0<=r)(r6:r<6):∃n:Nat,vV [V.int 0,.int 1,.int 1,.int 2,.int 2,.int 3] r=some (.int n)/\n<=3:=by
 have:r=0∨r=1∨r=2∨r=3∨r=4∨r=5:=by omega
 rcases this with rfl|rfl|rfl|rfl|rfl|rfl
 ·exact⟨0,rfl,by decide⟩
 ·exact⟨1,rfl,by decide⟩
 ·exact⟨1,rfl,by decide⟩
 ·exact⟨2,rfl,by decide⟩
 ·exact⟨2,rfl,by decide⟩
 ·exact⟨3,rfl,by decide⟩
theorem Dq{ws:Zb}(hw:ws.length=8){n:Nat}(hn:n<=3):cD (ws.map V.str) (some 4) (some (5+(n:Int)))=((ws.drop 4).take (1+n)).map V.str:=by
 unfold cD;have s1:HT.sIx (ws.map V.str).length 0 (some 4)=min 4 (ws.map V.str).length:=HT.sIx_nat _ _ 4;have s2:HT.sIx (ws.map V.str).length (ws.map V.str).length (some (5+(n:Int)))=min (5+n) (ws.map V.str).length:=HT.sIx_nat _ _ (5+n);rw[s1,s2,ai,hw,lV,nX];have e1:min 4 8=4:=by decide
 have e2:min (5+n) 8-4=1+n:=by omega
 rw[e1,e2]
theorem Co{K:Za}{vs:List V}{H:Hp}{Q:VK}{E:XK}(h:ng vs H Q E):wD K gk kC eg k_ (bJ Q) (start xL vs) H:=by
 obtain⟨p,c,most,full,rfl,hp,m0,m1,f0,f2,k⟩:=h;refine⟨_,rfl,p,c,rfl,hp,fun H1 hp1 ex1=>?_⟩;refine⟨_,rfl,p,c,8,rfl,hp1,by decide,fun lw ws H2 ok len fr hl hp2 ex2=>?_⟩;have e2:=ex1.trans ex2;have nw:=hp2.ne_strs hl;refine⟨_,rfl,(by show 6<=ah;decide),fun q hq=>⟨_,rfl,da (hp2.ex (ab.new hq)) (by decide) (by decide) fun r H3 r0 r1 hp3 ex3=>?_⟩⟩;obtain⟨n,hn,n3⟩:=at6 r0 r1;have hl3:H3 lw=some (.lst (ws.map V.str)):=ex3 _ _ (kp hl hq) nw;refine⟨q,_,_,_,rfl,rfl,aA.of (ex3 _ _ aa (hp2.nep hq).symm),hn,_,_,rfl,rfl,_,rfl,lw,_,rfl,aA.of hl3,fun l1 hl1=>?_⟩;have ea:cD (ws.map V.str) none (some (1+(n:Int)))=(ws.take (1+n)).map V.str:=gS ws (1+n);rw[ea];have e3:cx p H H3:=e2.trans ((cx.new hq).trans ex3);have hp4:fo (upd H3 l1 (.lst ((ws.take (1+n)).map V.str))) p c:=hp3.ex (ab.new hl1);have e4:cx p H (upd H3 l1 (.lst ((ws.take (1+n)).map V.str))):=e3.trans (cx.new hl1);have hl4:upd H3 l1 (.lst ((ws.take (1+n)).map V.str)) lw=some (.lst (ws.map V.str)):=kp hl3 hl1;have ha4:upd H3 l1 (.lst ((ws.take (1+n)).map V.str)) l1=some (.lst ((ws.take (1+n)).map V.str)):=aa;generalize upd H3 l1 (.lst ((ws.take (1+n)).map V.str))=H4 at hp4 e4 hl4 ha4 ⊢;refine⟨_,rfl,_,rfl,(by show 6<=ah;decide),fun q hq=>⟨_,rfl,da (hp4.ex (ab.new hq)) (by decide) (by decide) fun r H5 r0 r1 hp5 ex5=>?_⟩⟩;obtain⟨m,hm,m3⟩:=at6 r0 r1;have hl5:H5 lw=some (.lst (ws.map V.str)):=ex5 _ _ (kp hl4 hq) nw;have ha5:H5 l1=some (.lst ((ws.take (1+n)).map V.str)):=ex5 _ _ (kp ha4 hq) (hp4.ne_strs ha4);refine⟨q,_,_,_,rfl,rfl,aA.of (ex5 _ _ aa (hp4.nep hq).symm),hm,_,_,rfl,rfl,_,rfl,lw,_,rfl,aA.of hl5,fun l2 hl2=>?_⟩;rw[Dq len m3];have e5:cx p H H5:=e4.trans ((cx.new hq).trans ex5);have hp6:fo (upd H5 l2 (.lst (((ws.drop 4).take (1+m)).map V.str))) p c:=hp5.ex (ab.new hl2);have e6:cx p H (upd H5 l2 (.lst (((ws.drop 4).take (1+m)).map V.str))):=e5.trans (cx.new hl2);have ha6:upd H5 l2 (.lst (((ws.drop 4).take (1+m)).map V.str)) l1=some (.lst ((ws.take (1+n)).map V.str)):=kp ha5 hl2;have hb6:upd H5 l2 (.lst (((ws.drop 4).take (1+m)).map V.str)) l2=some (.lst (((ws.drop 4).take (1+m)).map V.str)):=aa;generalize upd H5 l2 (.lst (((ws.drop 4).take (1+m)).map V.str))=H6 at hp6 e6 ha6 hb6 ⊢;refine⟨_,rfl,_,rfl,_,rfl,da hp6 m0 (by omega) fun r H7 r0 r1 hp7 ex7=>?_⟩;obtain⟨rn,rfl⟩:=gy r0;have ha7:=ex7 _ _ ha6 (hp6.ne_strs ha6);have hb7:=ex7 _ _ hb6 (hp6.ne_strs hb6);refine⟨_,_,rfl,rfl,p,c,1+rn,rfl,hp7,by omega,fun l3 J2 H8 okr lenr fr3 hl3' hp8 ex8=>?_⟩;have ha8:=ex8 _ _ ha7 (hp7.ne_strs ha7);have hb8:=ex8 _ _ hb7 (hp7.ne_strs hb7);have hs0:(ws.drop 4).take (1+m)≠[]:=by
  intro z;have:=congrArg List.length z;rw[aD,dX,len]at this;simp at this
 have ha0:ws.take (1+n)≠[]:=by
  intro z;have:=congrArg List.length z;rw[aD,len]at this;simp at this
 have hr0:J2≠[]:=by
  intro z;rw[z]at lenr;simp at lenr;omega
 refine⟨_,rfl,_,rfl,_,rfl,_,rfl,_,rfl,p,c,l1,l2,l3,_,_,J2,full,rfl,hp8,ha8,hb8,hl3',by rw[aD];omega,hs0,by rw[aD];omega,hr0,by omega,f0,f2,fun l4 ts ds up H9 fr4 hl4' hds nod good few hp9 ex9=>?_⟩;have ha9:=ex9 _ _ ha8 (hp8.ne_strs ha8);have hb9:=ex9 _ _ hb8 (hp8.ne_strs hb8);have hc9:=ex9 _ _ hl3' (hp8.ne_strs hl3');refine⟨_,rfl,_,rfl,_,rfl,_,rfl,(by show 4<=ah;decide),fun t ht=>k t l1 l2 l3 l4 ts _ _ J2 ds _ ⟨aa,kp ha9 ht,kp hb9 ht,kp hc9 ht,kp hl4' ht,hds.kt (ab.kt (ab.new ht))⟩ ?_ ?_ few (hp9.ex (ab.new ht)) ?_⟩
 ·refine⟨⟨?_,fun w h=>ok.2 w (fT h)⟩,⟨?_,fun w h=>ok.2 w (ur (fT h))⟩,?_,okr,ha0,hs0,hr0,by rw[aD];omega,by rw[aD];omega,by omega,nod,fun d hd=>(good d hd).d,by omega,fun r z=>(BW okr.1 good z).irr okr.1⟩
  ·exact ok.1.sublist (List.take_sublist _ _)
  ·exact ok.1.sublist ((List.take_sublist _ _).trans (List.drop_sublist _ _))
  ·intro w h1 h2;have h3:w∈ws.drop 4:=fT h1;have h4:w∈ws.take 4:=by
    have:ws.take (1+n)=(ws.take 4).take (1+n):=by rw[List.take_take];congr 1;omega
    rw[this]at h2;exact fT h2
   have:=ok.1;rw[<-um 4 ws,c9]at this;exact this.2.2 w h4 w h3 rfl
 ·omega
 ·exact(((e6.trans ex7).trans ex8).trans ex9).trans (cx.new ht)
inductive pW (vs:List V)(H:Hp)(Q:VK)(E:XK):Prop
 |mk (p c l:Addr) (J2:Zb):(vs=[.ref p,.ref l])->(fo H p c)->(H l=some (.lst (J2.map V.str)))->(J2.length<=1000)->(∀(t:Addr) (J6:Zb) (H':Hp),J6.Sublist J2->H' t=some (.tup (J6.map V.str))->fo H' p c->cx p H H'->Q (.ref t) H')->pW  vs H Q E
theorem bp{ws:Zb}{i:Nat}{x:V}(h:(ws.map V.str)[i]?=some x):∃w,ws[i]?=some w/\x=.str w:=by
 rw[cO]at h;cases q:ws[i]? with
 |none=>rw[q]at h;cases h
 |some r=>rw[q]at h;exact⟨r,rfl,(ef h).symm⟩
theorem take_snoc{α:Type}{ws:List α}{i:Nat}{w:α}(h:ws[i]?=some w):ws.take (i+1)=ws.take i++[w]:=by
 obtain⟨hi,rfl⟩:=cE.mp h;rw[List.take_succ_eq_append_getElem hi]
theorem Eb{K:Za}{vs:List V}{H:Hp}{Q:VK}{E:XK}(h:pW vs H Q E):xX K eg k_ (bJ Q) (start zi vs) H:=by
 obtain⟨p,c,l,J2,rfl,hp,hl,hlen,k⟩:=h;have nl:=hp.ne_strs hl;refine⟨_,rfl,p,c,rfl,hp,fun H1 hp1 ex1=>?_⟩;have hl1:=ex1 _ _ hl nl;refine⟨_,rfl,l,rfl,⟨_,aA.of hl1⟩,fun f hf=>?_⟩;have fp:=hp1.nep hf;have fc:=hp1.nec hf;refine bU (xs:=J2.map V.str) (fun i vs H'=>∃J6:List Str,vs=J6.map V.str/\J6.Sublist (J2.take i)/\fo H' p c/\cx p H1 H'/\H' f=some (.lst vs))
  ⟨[],rfl,List.nil_sublist _,hp1.ex (ab.new hf),cx.new hf,aa⟩ (fun i vs H' _ ⟨_,_,_,hp',ex',h'⟩=>⟨h',aA.of (ex' _ _ hl1 nl)⟩) ?_ ?_
 ·rintro vs H' ⟨J6,rfl,hs,hp',ex',h'⟩;rw[ai,bf]at hs;refine⟨f,_,rfl,.inl ⟨aA.of h',fun t ht=>k t J6 _ hs aa (hp'.ex (ab.new ht)) ((ex1.trans ex').trans (cx.new ht))⟩⟩
 ·rintro i vs H' x hx hi ⟨J6,rfl,hs,hp',ex',h'⟩;obtain⟨w,hw,rfl⟩:=bp hx;refine gN ?_;refine⟨_,rfl,da hp' (by decide) (by decide) fun r H2 r0 r1 hp2 ex2=>⟨rfl,_,rfl,?_⟩⟩;have h2:=ex2 _ _ h' fp.symm;have hsl:J6.length<=1000:=bh hs.length_le (by rw[aD];omega);refine gP (fun _=>?_) (fun _=>?_)
  ·refine⟨_,rfl,h2,by rw[ai];exact aw hsl,j4 hi ⟨J6++[w],by rw[aB];rfl,?_,hp2.upd fp fc,?_,aa⟩⟩
   ·rw[take_snoc hw];exact hs.append (List.Sublist.refl _)
   ·intro b o e n;rw[aj (ag e hf)];exact ex2 _ _ (ex' _ _ e n) n
  ·exact j4 hi ⟨J6,rfl,hs.trans (by rw[take_snoc hw];exact List.sublist_append_left _ _),hp2,ex'.trans ex2,h2⟩
def nC(w:Str):Bool:=!decide (w=("":Str)) && (decide (w.length<=8) && w.cps.toList.all fun c=>decide (c∈("abcdefghijklmnopqrstuvwxyz":Str).cps.toList))
theorem o6.b{w:Str}(h:o6 w):nC w=true:=by
 unfold nC;have h1:¬(w=("":Str)):=fun e=>by
  have:=h.lo;rw[e]at this;exact absurd this (by decide +kernel)
 rw[zzr0 h1,zzr1 h.hi,Bool.not_false,qb,qb,uK];intro c hc;obtain⟨c1,c2⟩:=h.al c hc;refine zzr1 ?_;have:=AG (c-97) (by omega);have e:97+(c-97)=c:=by omega
 rw[e]at this;exact bY this
inductive sp_is_name (vs:List V)(H:Hp)(Q:VK)(E:XK):Prop
 |mk (w:Str):(vs=[.str w])->(w.length<=1000)->(∀H',ab H H'->Q (.bl (nC w)) H')->sp_is_name  vs H Q E
theorem yB{K:Za}{vs:List V}{H:Hp}{Q:VK}{E:XK}(h:sp_is_name vs H Q E):AW K (bJ Q) (start BJ vs) H:=by
 obtain⟨w,rfl,hz,k⟩:=h;refine⟨_,rfl,rfl,_,rfl,?_⟩;have ed:(!decide (V.str w=V.str ("":Str)))=!decide (w=("":Str)):=by
  congr 1;by_cases e:w=("":Str)
  ·rw[zzr1 e,zzr1 (by rw[e])]
  ·rw[zzr0 e,zzr0 (fun z=>e (by injection z))]
 rw[ed];refine gP (fun h1=>?_) (fun h1=>?_)
 ·refine⟨_,rfl,.inr ⟨w,rfl,fh (aw hz),_,_,rfl,rfl,_,rfl,?_⟩⟩;refine gP (fun h2=>?_) (fun h2=>?_)
  ·refine⟨_,rfl,w,rfl,fun l hl=>?_⟩;refine xA (fun i vs H'=>vs=((w.cps.toList.take i).map fun c=>V.bl (decide (c∈("abcdefghijklmnopqrstuvwxyz":Str).cps.toList)))/\ab H H'/\H' l=some (.lst vs))
    ⟨rfl,ab.new hl,aa⟩ (fun i vs H' _ h=>h.2.2) ?_ ?_
   ·rintro vs H' ⟨rfl,hS,hl'⟩;refine⟨l,w.cps.toList.map fun c=>decide (c∈("abcdefghijklmnopqrstuvwxyz":Str).cps.toList),rfl,aA.of ?_,?_⟩
    ·rw[hl',ke];have:w.cps.toList.take w.cps.size=w.cps.toList:=by
      rw[nW];simp
     rw[this]
     rfl
    ·have:=k H' hS;have h2':decide (w.length<=8)=true:=zzr1 (by have:=of_decide_eq_true h2;omega);unfold nC at this;rw[h1,h2',qb,qb]at this;rw[uy];exact this
   ·rintro i vs H' c hc hi ⟨rfl,hS,hl'⟩;refine gN (sr ?_);refine⟨_,rfl,c,_,rfl,rfl,hl',?_,j4 hi ⟨?_,?_,aa⟩⟩
    ·rw[ai,aD];have:w.length=w.cps.toList.length:=eU w;exact aw (by omega)
    ·rw[take_snoc (by rw[<-hc];simp),aB]
     rfl
    ·intro b o e;rw[aj (ag e hl)];exact hS b o e
  ·have:=k H (ab.refl H);have h2':decide (w.length<=8)=false:=zzr0 (fun z=>h2 (zzr1 (by omega)));unfold nC at this;rw[h1,h2',qb,zH]at this;exact this
 ·have:=k H (ab.refl H);unfold nC at this;rw[Bool.eq_false_iff.mpr h1,zH]at this;exact this
def aK(ws:Zb):List (d6×V):=ws.foldl (fun acc w=>cX acc (.inr w) (.bl true)) []
theorem cT(ws:Zb)(w:Str):aK (ws++[w])=cX (aK ws) (.inr w) (.bl true):=by
 unfold aK;rw[List.foldl_append]
 rfl
theorem q0{κ:Type}[DecidableEq κ](kvs:List (κ×V))(k:κ)(v:V):(cX kvs k v).length<=kvs.length+1:=by
 unfold cX;split
 ·rw[ai];omega
 ·rw[aO];exact aH _
theorem jb{α:Type}(P:List α->Prop)(h0:P [])(hs:∀ws w,P ws->P (ws++[w]))(ws:List α):P ws:=by
 have:∀n (ws:List α),ws.length=n->P ws:=by
  intro n
  induction n with
  |zero=>intro ws h;rw[List.length_eq_zero_iff.mp h];exact h0
  |succ n ih =>
   intro ws h;have hne:ws≠[]:=fun z=>by rw[z]at h;cases h
   rw[<-List.dropLast_concat_getLast hne];exact hs _ _ (ih _ (by rw[List.length_dropLast,h];rfl))
 exact this _ ws rfl
theorem io(ws:Zb):(aK ws).length<=ws.length:=by
 refine jb (fun ws=>(aK ws).length<=ws.length) (aH _) (fun ws w h=>?_) ws;show(aK (ws++[w])).length<=(ws++[w]).length;rw[cT,aO];have:=q0 (aK ws) (.inr w) (.bl true);show _<=ws.length+1;omega
theorem rC(ws:Zb)(x:Str):bO (aK ws) (.inr x)=if x∈ws then some (.bl true)else none:=by
 refine jb (fun ws=>bO (aK ws) (.inr x)=if x∈ws then some (.bl true)else none) rfl (fun ws w h=>?_) ws
 show bO (aK (ws++[w])) (.inr x)=_;rw[cT,kr,h];by_cases e:x=w
 ·subst e;rw[if_pos rfl,if_pos (by simp)]
 ·have e1:¬((Sum.inr x:d6)=.inr w):=fun z=>e (by injection z);rw[if_neg e1];by_cases m:x∈ws
  ·rw[if_pos m,if_pos (dq _ m)]
  ·rw[if_neg m,if_neg (fun z=>by rcases bN.mp z with z|z;exact m z;exact e (by simpa using z))]
theorem dh(ws:Zb)(x:Str):(bO (aK ws) (.inr x)).isSome=decide (x∈ws):=by
 rw[rC];by_cases m:x∈ws
 ·rw[if_pos m,zzr1 m];rfl
 ·rw[if_neg m,zzr0 m];rfl
inductive sp_as_keys(K:Za)(vs:List V)(H:Hp)(Q:VK)(E:XK):Prop
 |mk (l:Addr) (ws:Zb):(vs=[.ref l])->(aA K H l (ws.map V.str))->(ws.length<=1000)->(∀d,H d=none->Q (.ref d) (upd H d (.dK (aK ws))))->sp_as_keys K vs H Q E
theorem qV{K:Za}{vs:List V}{H:Hp}{Q:VK}{E:XK}(h:sp_as_keys K vs H Q E):AX K (bJ Q) (start ui vs) H:=by
 obtain⟨l,ws,rfl,hl,hz,k⟩:=h;refine fun d hd=>?_;have key:∀kvs,aA K (upd H d (.dK kvs)) l (ws.map V.str):=fun kvs=>(ab.new hd).seq hl;refine⟨_,rfl,l,rfl,⟨_,key _⟩,?_⟩;refine bW (xs:=ws.map V.str) (fun i σ H'=>∃x,σ=[some (.ref l),some (.ref d),x]/\H'=upd H d (.dK (aK (ws.take i)))) ⟨_,rfl,rfl⟩ (fun i σ H' _ ⟨_,_,e⟩=>by rw[e];exact key _) ?_ ?_
 ·rintro i x σ H' hi ⟨y,rfl,rfl⟩;obtain⟨w,hw,rfl⟩:=bp hi;have hlen:(aK (ws.take i)).length<ah:=aw (bh (io _) (by rw[aD];omega));refine⟨_,rfl,_,rfl,d,_,rfl,.inl ⟨_,.inr w,aa,rfl,hlen,rfl⟩,_,rfl,?_⟩;rw[jy,take_snoc hw,cT]
 ·rintro σ H' ⟨x,rfl,rfl⟩;rw[ai,bf];exact⟨_,rfl,k d hd⟩
def C8(most:Nat):Nat->List Str->List Str->Option Nat
 |_,_,[]=>none
 |i,ahead,n::ns=>if i=most∨n∈ahead∨nC n=false then some i else C8 most (i+1) (ahead++[n]) ns
def cI(names:Zb)(most:Nat)(taken:Zb):Option Nat:=if names=[]then some 0 else C8 most 0 taken names
def oV:Option Nat->V
 |none=>.non
 |some i=>.int i
inductive sp_first_wrong_name(K:Za)(vs:List V)(H:Hp)(Q:VK)(E:XK):Prop
 |mk (l t:Addr) (names taken:Zb) (most:Nat):(vs=[.ref l,.int most,.ref t])->(aA K H l (names.map V.str))->(aA K H t (taken.map V.str))->(names.length+taken.length<=1000)->((∀w∈names,w.length<=1000))->(∀H',ab H H'->Q (oV (cI names most taken)) H')->sp_first_wrong_name K vs H Q E
theorem oU{K:Za}{H:Hp}{Q:VK}{E:XK}{l:Addr}{ws:Zb}(hl:aA K H l (ws.map V.str))(hz:ws.length<=1000)(k:∀d,H d=none->Q (.ref d) (upd H d (.dK (aK ws)))):sp_as_keys K [.ref l] H Q E:=by
 exact⟨l,ws,rfl,hl,hz,k⟩
theorem Br{H:Hp}{Q:VK}{E:XK}{w:Str}(hz:w.length<=1000)(k:∀H',ab H H'->Q (.bl (nC w)) H'):sp_is_name [.str w] H Q E:=by
 exact⟨w,rfl,hz,k⟩
theorem lI{K:Za}{vs:List V}{H:Hp}{Q:VK}{E:XK}(h:sp_first_wrong_name K vs H Q E):l_ K sp_is_name (sp_as_keys K) (bJ Q) (start mE vs) H:=by
 obtain⟨l,t,names,taken,most,rfl,hl,ht,hz,hw,k⟩:=h;refine⟨_,rfl,.inl ⟨l,_,rfl,.inl hl,rfl,_,rfl,?_⟩⟩;by_cases h0:names=[]
 ·subst h0;refine b0 ?_;have:=k H (ab.refl H);exact this
 have e0:decide (V.int ((names.map V.str).length:Nat)=V.int 0)=false:=zzr0 (fun z=>h0 (by
  injection z with z;rw[ai]at z;exact List.length_eq_zero_iff.mp (by omega)))
 rw[e0];refine bv ?_;have hk:∀H',ab H H'->Q (oV (C8 most 0 taken names)) H':=by
  unfold cI at k;rw[if_neg h0]at k;exact k
 refine⟨_,rfl,oU ht (by omega) fun d hd=>?_⟩;refine⟨_,rfl,l,rfl,⟨_,(ab.new hd).seq hl⟩,?_⟩;refine kN (xs:=names.map V.str) (fun i σ H'=>∃x y,σ=[some (.ref l),some (.int most),some (.ref t),some (.ref d),x,y]/\ab H H'/\H' d=some (.dK (aK (taken++names.take i)))/\C8 most i (taken++names.take i) (names.drop i)=C8 most 0 taken names)
  ⟨_,_,rfl,ab.new hd,by rw[uk,dv];exact aa,by rw[uk,dv,n6]⟩ (fun i σ H' _ ⟨_,_,_,hS,_⟩=>hS.seq hl) ?_ ?_
 ·rintro i x σ H' q hi ⟨x4,x5,rfl,hS,hd',hf⟩ hq;obtain⟨w,hw',rfl⟩:=bp hi;have hil:i<names.length:=(cE.mp hw').1;have ed:names.drop i=w::names.drop (i+1):=by
   rw[List.drop_eq_getElem_cons hil];congr 1;exact(cE.mp hw').2
  rw[ed]at hf;have hd2:upd H' q (.tup [.int i,.str w]) d=some (.dK (aK (taken++names.take i))):=kp hd' hq;have hS2:ab H (upd H' q (.tup [.int i,.str w])):=hS.trans (ab.new hq);have hww:w.length<=1000:=hw w (bY hw');refine⟨q,_,rfl,aY.of aa,rfl,_,_,rfl,_,_,rfl,rfl,?_⟩;generalize upd H' q (.tup [.int i,.str w])=H2 at hd2 hS2 ⊢;refine⟨_,rfl,_,rfl,rfl,_,rfl,?_⟩;by_cases c1:i=most
  ·have e1:decide (V.int (i:Nat)=V.int (most:Nat))=true:=zzr1 (by rw[c1]);rw[e1];refine b0 (b0 ?_);refine⟨_,rfl,?_⟩;have:=hk H2 hS2;rw[<-hf]at this;unfold C8 at this;rw[if_pos (.inl c1)]at this;exact this
  have e1:decide (V.int (i:Nat)=V.int (most:Nat))=false:=zzr0 (fun z=>c1 (by injection z with z;omega));rw[e1];refine bv ?_;refine⟨_,rfl,_,rfl,d,_,rfl,.inl ⟨_,.inr w,.inl hd2,rfl,rfl⟩,_,rfl,?_⟩;rw[dh];by_cases c2:w∈taken++names.take i
  ·rw[zzr1 c2];refine b0 (b0 ?_);refine⟨_,rfl,?_⟩;have:=hk H2 hS2;rw[<-hf]at this;unfold C8 at this;rw[if_pos (.inr (.inl c2))]at this;exact this
  rw[zzr0 c2];refine bv ?_;refine⟨_,rfl,Br hww fun H3 hS3=>⟨_,rfl,?_⟩⟩;have hd3:=hS3 _ _ hd2;cases c3:nC w with
  |false =>
   refine b0 ?_;refine⟨_,rfl,?_⟩;have:=hk H3 (hS2.trans hS3);rw[<-hf]at this;unfold C8 at this;rw[if_pos (.inr (.inr c3))]at this;exact this
  |true =>
   refine bv ?_;have hlen:(aK (taken++names.take i)).length<ah:=aw (bh (io _) (by rw[aO,aD];omega));refine⟨_,rfl,_,rfl,d,_,rfl,.inl ⟨_,.inr w,hd3,rfl,hlen,rfl⟩,_,_,rfl,?_,?_,?_⟩
   ·intro b o e;rw[aj (ag e hd)];exact hS3 _ _ (hS2 _ _ e)
   ·rw[aa,take_snoc hw',<-eN,cT]
   ·rw[<-hf,take_snoc hw',<-eN]
    conv=>rhs;unfold C8
    rw[if_neg];rintro(z|z|z)
    ·exact c1 z
    ·exact c2 z
    ·rw[c3]at z;cases z
 ·rintro σ H' ⟨x,y,rfl,hS,_,hf⟩;rw[ai,List.drop_length]at hf;have:=hk H' hS;rw[<-hf]at this;exact this
theorem xp{most:Nat}:∀(ns ahead:Zb) (i:Nat),i+ns.length<=most->(ahead++ns).Nodup->(∀w∈ns,o6 w)->C8 most i ahead ns=none
 |[],_,_,_,_,_=>rfl
 |n::ns,ahead,i,h1,h2,h3=>by
  rw[em]at h1;unfold C8;rw[if_neg]
  ·refine xp ns (ahead++[n]) (i+1) (by omega) (by rw[eN];exact h2) fun w hw=>h3 w (fw _ hw)
  ·rintro(z|z|z)
   ·omega
   ·rw[c9]at h2;exact h2.2.2 n z n (fx) rfl
   ·rw[(h3 n fx).b]at z;cases z
theorem gC{most:Nat}{ns taken:Zb}(h0:ns≠[])(h1:ns.length<=most)(h2:(taken++ns).Nodup)(h3:∀w∈ns,o6 w):cI ns most taken=none:=by
 unfold cI;rw[if_neg h0];exact xp ns taken 0 (by omega) h2 h3
theorem fX{n:Nat}(h:n<=9000):n<ah:=Nat.lt_of_le_of_lt h (by decide)
def lf(x:Str):TK:=.k (.inr x)
def ip(sg:Zb):TK:=.t (sg.map lf)
def AC(d:am):TK:=.t [lf d.a,ip d.sg,lf d.b]
theorem p5{x y:Str}(h:lf x=lf y):x=y:=by
 unfold lf at h;injection h with h;injection h
theorem pq:∀{x y:Zb},x.map lf=y.map lf->x=y
 |[],[],_=>rfl
 |[],_::_,h=>by cases h
 |_::_,[],h=>by cases h
 |a::x,b::y,h=>by
  rw[bI,bI]at h;injection h with h1 h2;rw[p5 h1,pq h2]
theorem ln{x y:Zb}(h:ip x=ip y):x=y:=by
 unfold ip at h;injection h with h;exact pq h
theorem EK{x y:am}(h:AC x=AC y):x=y:=by
 unfold AC at h;injection h with h;injection h with h1 h;injection h with h2 h;injection h with h3 h;cases x;cases y;simp only at *;rw[p5 h1,ln h2,p5 h3]
theorem xU(xs:Zb):TK.depths (xs.map lf)=0:=by
 induction xs with
 |nil=>rfl
 |cons x xs ih=>rw[bI];show max (TK.depth (lf x)) (TK.depths _)=0;rw[ih];rfl
theorem oz(sg:Zb):(ip sg).depth=1:=by
 show TK.depths (sg.map lf)+1=1;rw[xU]
theorem tK(d:am):(AC d).depth=2:=by
 show max (TK.depth (lf d.a)) (max (TK.depth (ip d.sg)) (max (TK.depth (lf d.b)) 0))+1=2;rw[oz]
 rfl
theorem zZ{H:Hp}:∀xs:List Str,TKAts H (xs.map lf) (xs.map V.str)
 |[]=>by show TKAts H [] [];unfold TKAts;rfl
 |x::xs=>by
  rw[bI,bI];unfold TKAts;refine⟨_,_,rfl,?_,zZ xs⟩;unfold lf fq
  rfl
theorem qA{H:Hp}(x:Str):fq H (lf x) (.str x):=by unfold lf fq;rfl
theorem SignAt.tk{H:Hp}{s:Addr}{sg:Zb}(h:SignAt H s sg):fq H (ip sg) (.ref s):=by
 unfold ip fq;exact⟨s,_,rfl,h,zZ _⟩
theorem f_.tk{H:Hp}{t:Addr}{d:am}(h:f_ H t d):fq H (AC d) (.ref t):=by
 obtain⟨s,h1,h2⟩:=h;unfold AC fq;refine⟨t,_,rfl,h1,?_⟩;unfold TKAts;refine⟨_,_,rfl,qA _,?_⟩;unfold TKAts;refine⟨_,_,rfl,SignAt.tk h2,?_⟩;unfold TKAts;refine⟨_,_,rfl,qA _,?_⟩;unfold TKAts
 rfl
section
variable{κ:Type}[DecidableEq κ]
def jY(ks:List κ):List (κ×V):=ks.foldl (fun acc k=>cX acc k (.bl true)) []
theorem mv(ws:List κ)(w:κ):jY (ws++[w])=cX (jY ws) w (.bl true):=by
 unfold jY;rw[List.foldl_append]
 rfl
theorem Bp(ws:List κ):(jY ws).length<=ws.length:=by
 refine jb (fun ws=>(jY ws).length<=ws.length) (aH _) (fun ws w h=>?_) ws;show(jY (ws++[w])).length<=(ws++[w]).length;rw[mv,aO];have:=q0 (jY ws) w (.bl true);show _<=ws.length+1;omega
theorem CZ(ws:List κ)(x:κ):(bO (jY ws) x).isSome=decide (x∈ws):=by
 refine jb (fun ws=>(bO (jY ws) x).isSome=decide (x∈ws)) rfl (fun ws w h=>?_) ws;show(bO (jY (ws++[w])) x).isSome=_;rw[mv,kr];by_cases e:x=w
 ·subst e;rw[if_pos rfl,zzr1 (by simp)]
  rfl
 ·rw[if_neg e,h];by_cases m:x∈ws
  ·rw[zzr1 m,zzr1 (dq _ m)]
  ·rw[zzr0 m,zzr0 (fun z=>by rcases bN.mp z with z|z;exact m z;exact e (by simpa using z))]
end
theorem Am{d:am}{ds:List am}:AC d∈ds.map AC↔d∈ds:=by
 constructor
 ·intro h;obtain⟨x,hx,e⟩:=aX.mp h;rw[<-EK e];exact hx
 ·exact nV
def mz(K:Za)(H:Hp)(v:V)(sg:Zb):Prop:=∃s,v=.ref s/\aY K H s (sg.map V.str)
theorem ab.sqT{K:Za}{H H':Hp}{a:Addr}{xs:List V}(e:ab H H')(h:aY K H a xs):aY K H' a xs:=by
 rcases h with(h|⟨o,h⟩)|h
 ·exact .inl (.inl (e _ _ h))
 ·exact .inl (.inr ⟨o,e _ _ h⟩)
 ·exact .inr h
theorem Signs.same{K:Za}{H H':Hp}(e:ab H H'){xs:List V}{sgs:List (List Str)}(h:Paired (mz K H) xs sgs):Paired (mz K H') xs sgs :=
 Paired.mapP h fun _ _ ⟨s,h1,h2⟩=>⟨s,h1,ab.sqT e h2⟩
def gB(sg:Zb):DT:=.t (sg.map fE)
theorem As{x y:Zb}(h:gB x=gB y):x=y:=by
 unfold gB at h;injection h with h;exact gv h
theorem aZ(sg:Zb):(gB sg).depth=1:=by
 show DT.depths (sg.map fE)+1=1;rw[dk]
theorem Bx(sgs:List (List Str)):DT.depths (sgs.map gB)<=8:=by
 induction sgs with
 |nil=>exact dL _
 |cons x xs ih=>rw[bI];show max (DT.depth (gB x)) (DT.depths _)<=8;rw[aZ];omega
theorem Signs.dIns{K:Za}{H:Hp}:∀{xs:List V}{sgs:List (List Str)},Paired (mz K H) xs sgs->DIns K H (sgs.map gB) xs
 |_,_,.nil=>by show DIns K H [] [];unfold DIns;rfl
 |_,_,.cons ⟨s,e,r⟩ t=>by
  rw[bI];unfold DIns;refine⟨_,_,rfl,?_,Signs.dIns t⟩;rw[e];exact aL r
theorem Al{d:Zb}{ds:List (List Str)}:gB d∈ds.map gB↔d∈ds:=by
 constructor
 ·intro h;obtain⟨x,hx,e⟩:=aX.mp h;rw[<-As e];exact hx
 ·exact nV
theorem Paired.app{α β:Type}{R:α->β->Prop}:∀{a:List α}{b:List β}{c:List α}{d:List β},Paired R a b->Paired R c d->Paired R (a++c) (b++d)
 |_,_,_,_,.nil,h=>h
 |_,_,_,_,.cons r t,h=>.cons r (Paired.app t h)
def cZ(w:Str):List Str:=[("ask":Str),w]
def nn(w:Str):List Str:=[("say":Str),w]
def jk(J0 J1:Zb):List (List Str):=J0.map cZ++J1.map nn++[ar]
theorem qS{K:Za}{kw:Str}{σ:L2.St}{H:Hp}{a l:Addr}{ws:Zb}{Q:Hp->Prop}(ha:H a=some (.lst (ws.map V.str)))(hl:H l=none)(hz:ws.length<=1000)
  (k:∀(xs:List V) (H':Hp),Paired (mz K H') xs (ws.map fun w=>[kw,w])->ab H H'->H' l=some (.lst xs)->Q H') :
  gx 1 [] σ (DJ K a) U0 kA (bd (aI (tC (.str kw)) V0)) H l Q:=by
 refine bU (xs:=ws.map V.str) (fun i vs H'=>Paired (mz K H') vs ((ws.take i).map fun w=>[kw,w])/\ab H H'/\H' l=some (.lst vs))
  ⟨.nil,ab.new hl,aa⟩ (fun i vs H' _ ⟨_,hS,h'⟩=>⟨h',aA.of (hS _ _ ha)⟩) ?_ ?_
 ·rintro vs H' ⟨h1,h2,h3⟩;rw[ai,bf]at h1;exact k vs H' h1 h2 h3
 ·rintro i vs H' x hx hi ⟨h1,h2,h3⟩;obtain⟨w,hw,rfl⟩:=bp hx;refine gN (sr ?_);refine⟨_,rfl,(by show 2<=ah;decide),fun t ht=>⟨kp h3 ht,?_,j4 hi ⟨?_,?_,aa⟩⟩⟩
  ·rw[Paired.length h1,ai,aD];exact aw (by omega)
  ·rw[take_snoc hw,aB];have hS2:jZ (upd H' t (.tup [.str kw,.str w])) (upd (upd H' t (.tup [.str kw,.str w])) l (.lst (vs++[.ref t]))):=eD (kp h3 ht);have hS3:jZ H' (upd (upd H' t (.tup [.str kw,.str w])) l (.lst (vs++[.ref t]))):=(ab.kt (ab.new ht)).trans hS2;refine Paired.app (Paired.mapP h1 fun v sg ⟨s,e1,e2⟩=>⟨s,e1,?_⟩) (.cons ⟨t,rfl,aY.of (hS2 _ _ aa)⟩ .nil);rcases e2 with(e2|⟨o,e2⟩)|e2
   ·exact .inl (.inl (hS3 _ _ e2))
   ·refine .inl (.inr ⟨o,?_⟩);rw[aj (fun z=>by rw[z,h3]at e2;cases e2)];exact kp e2 ht
   ·exact .inr e2
  ·intro b o e;rw[aj (ag e hl)];exact kp (h2 _ _ e) ht
inductive sp_door_signs(K:Za)(vs:List V)(H:Hp)(Q:VK)(E:XK):Prop
 |mk (l1 l2:Addr) (J0 J1:Zb):(vs=[.ref l1,.ref l2])->(H l1=some (.lst (J0.map V.str)))->(H l2=some (.lst (J1.map V.str)))->(J0.length<=100)->(J1.length<=100)->(∀(l:Addr) (xs:List V) (H':Hp),Paired (mz K H') xs (jk J0 J1)->ab H H'->H' l=some (.lst xs)->Q (.ref l) H')->sp_door_signs K vs H Q E
theorem sV{K:Za}{st:Addr}(hst:∀H,aY K H st (ar.map V.str)){vs:List V}{H:Hp}{Q:VK}{E:XK}(h:sp_door_signs K vs H Q E):vc K st (bJ Q) (start wd vs) H:=by
 obtain⟨l1,l2,J0,J1,rfl,h1,h2,z1,z2,k⟩:=h;refine⟨_,rfl,l1,rfl,⟨_,aA.of h1⟩,fun a ha=>?_⟩;refine qS h1 ha (by omega) fun xs1 H1 p1 s1 g1=>?_;refine⟨_,rfl,l2,rfl,⟨_,aA.of (s1 _ _ h2)⟩,fun b hb=>?_⟩;refine qS (s1 _ _ h2) hb (by omega) fun xs2 H2 p2 s2 g2=>?_;have len1:xs1.length<=100:=by rw[Paired.length p1,ai];exact z1
 have len2:xs2.length<=100:=by rw[Paired.length p2,ai];exact z2
 refine⟨a,b,xs1,xs2,rfl,rfl,s2 _ _ g1,g2,fh (aw (by omega)),fun c hc=>?_⟩;refine⟨(by show 1<=ah;decide),fun d hd=>?_⟩;refine⟨c,d,_,_,rfl,rfl,kp aa hd,aa,?_,fun e he=>k e _ _ ?_ ?_ aa⟩
 ·rw[aO];show _+1<=ah;exact fh (aw (by omega))
 ·have sx:ab H2 (upd (upd (upd H2 c (.lst (xs1++xs2))) d (.lst [.ref st])) e (.lst (xs1++xs2++[.ref st]))):=((ab.new hc).trans (ab.new hd)).trans (ab.new he);exact Paired.app (Paired.app (Signs.same (s2.trans sx) p1) (Signs.same sx p2)) (.cons ⟨st,rfl,hst _⟩ .nil)
 ·exact(((s1.trans s2).trans (ab.new hc)).trans (ab.new hd)).trans (ab.new he)
def EG(J2:Zb)(sgs:List (List Str)):Nat->List am->List am->Option Nat
 |_,_,[]=>none
 |i,ahead,d::ds=>if i=2000∨d∈ahead∨d.a∉J2∨d.sg∉sgs∨d.b∉J2 then some i else EG J2 sgs (i+1) (ahead++[d]) ds
inductive sp_first_wrong_door(K:Za)(vs:List V)(H:Hp)(Q:VK)(E:XK):Prop
 |mk (l l3 sl:Addr) (ts:Ze) (ds:List am) (J2:Zb) (xs:List V) (sgs:List (List Str)):(vs=[.ref l,.ref l3,.ref sl])->(H l=some (.lst (ts.map V.ref)))->(cn H ts ds)->(H l3=some (.lst (J2.map V.str)))->(J2.length<=1000)->(H sl=some (.lst xs))->(Paired (mz K H) xs sgs)->(ds.length<=9000)->(∀H',ab H H'->Q (oV (EG J2 sgs 0 [] ds)) H')->sp_first_wrong_door K vs H Q E
theorem cg{ws:Ze}{i:Nat}{x:V}(h:(ws.map V.ref)[i]?=some x):∃w,ws[i]?=some w/\x=.ref w:=by
 rw[cO]at h;cases q:ws[i]? with
 |none=>rw[q]at h;cases h
 |some r=>rw[q]at h;exact⟨r,rfl,(ef h).symm⟩
theorem lJ{K:Za}{vs:List V}{H:Hp}{Q:VK}{E:XK}(h:sp_first_wrong_door K vs H Q E):ma K (sp_as_keys K) (bJ Q) (start mF vs) H:=by
 obtain⟨l,l3,sl,ts,ds,J2,xs,sgs,rfl,hl,hds,h3,hr,hsl,hsg,hz,k⟩:=h;refine⟨_,rfl,oU (aA.of h3) hr fun d hd=>?_⟩;refine fun e he=>?_;have hS0:ab H (upd (upd H d (.dK (aK J2))) e (.dT [])):=(ab.new hd).trans (ab.new he);have heH:H e=none:=(ab.new hd).free he;refine⟨_,rfl,l,rfl,⟨_,aA.of (hS0 _ _ hl)⟩,?_⟩;refine kN (xs:=ts.map V.ref) (fun i σ H'=>∃x y,σ=[some (.ref l),some (.ref l3),some (.ref sl),some (.ref d),some (.ref e),x,y]/\ab H H'/\H' d=some (.dK (aK J2))/\H' e=some (.dT (jY ((ds.take i).map AC)))/\EG J2 sgs i (ds.take i) (ds.drop i)=EG J2 sgs 0 [] ds)
  ⟨_,_,rfl,hS0,kp aa he,aa,rfl⟩ (fun i σ H' _ ⟨_,_,_,hS,_⟩=>aA.of (hS _ _ hl)) ?_ ?_
 ·rintro i x σ H' q hi ⟨x5,x6,rfl,hS,hd',he',hf⟩ hq;obtain⟨t,ht,rfl⟩:=cg hi;obtain⟨dr,hdr,hat⟩:=Paired.getL hds ht;have hil:i<ds.length:=(cE.mp hdr).1;have ed:ds.drop i=dr::ds.drop (i+1):=by
   rw[List.drop_eq_getElem_cons hil];congr 1;exact(cE.mp hdr).2
  rw[ed]at hf;have hS2:ab H (upd H' q (.tup [.int i,.ref t])):=hS.trans (ab.new hq);have hd2:upd H' q (.tup [.int i,.ref t]) d=_:=kp hd' hq;have he2:upd H' q (.tup [.int i,.ref t]) e=_:=kp he' hq;refine⟨q,_,rfl,aY.of aa,rfl,_,_,rfl,_,_,rfl,rfl,?_⟩;generalize upd H' q (.tup [.int i,.ref t])=H2 at hd2 he2 hS2 ⊢;have hat2:=hat.kt (ab.kt hS2);have hin:kQ K H2 (AC dr) (.ref t):=fq.isIn 8 (by rw[tK];decide) hat2.tk;have hd8:(AC dr).depth<=8:=by rw[tK];decide
  obtain⟨s,ht2,hs2⟩:=hat2;have bad:(i=2000∨dr∈ds.take i∨dr.a∉J2∨dr.sg∉sgs∨dr.b∉J2)->Q (.int i) H2:=by
   intro c;have:=k H2 hS2;rw[<-hf]at this;unfold EG at this;rw[if_pos c]at this;exact this
  refine⟨_,rfl,rfl,_,rfl,?_⟩;by_cases c1:i=2000
  ·have e1:decide (V.int (i:Nat)=V.int 2000)=true:=zzr1 (by rw[c1];rfl);rw[e1];exact b0 (b0 ⟨_,rfl,bad (.inl c1)⟩)
  have e1:decide (V.int (i:Nat)=V.int 2000)=false:=zzr0 (fun z=>c1 (by injection z with z;omega));rw[e1];refine bv ?_;refine⟨_,rfl,_,rfl,e,_,rfl,.inr ⟨_,AC dr,t,.inl he2,rfl,hin,hd8,rfl⟩,_,rfl,?_⟩;rw[CZ];by_cases c2:dr∈ds.take i
  ·rw[zzr1 (Am.mpr c2)];exact b0 ⟨_,rfl,bad (.inr (.inl c2))⟩
  rw[zzr0 (fun z=>c2 (Am.mp z))];refine bv ?_;refine⟨_,rfl,.inr (.inl ⟨t,_,0,_,rfl,rfl,aY.of ht2,rfl,_,rfl,d,_,rfl,.inl ⟨_,.inr dr.a,.inl hd2,rfl,rfl⟩,_,rfl,?_⟩)⟩;rw[dh];by_cases c3:dr.a∈J2;rotate_left
  ·rw[zzr0 c3];exact b0 (b0 ⟨_,rfl,bad (.inr (.inr (.inl c3)))⟩)
  rw[zzr1 c3];refine bv ?_;refine⟨_,rfl,.inr (.inl ⟨t,_,1,_,rfl,rfl,aY.of ht2,rfl,_,rfl,gB dr.sg,sgs.map gB,sl,xs,aL (aY.of hs2),rfl,.inl (aA.of (hS2 _ _ hsl)),Signs.dIns (Signs.same hS2 hsg),by rw[aZ];decide,Bx _,_,rfl,?_⟩)⟩;rw[if_pos rfl];by_cases c4:dr.sg∈sgs;rotate_left
  ·rw[zzr0 (fun z=>c4 (Al.mp z))];exact b0 (b0 ⟨_,rfl,bad (.inr (.inr (.inr (.inl c4))))⟩)
  rw[zzr1 (Al.mpr c4)];refine bv ?_;refine⟨_,rfl,.inr (.inl ⟨t,_,2,_,rfl,rfl,aY.of ht2,rfl,_,rfl,d,_,rfl,.inl ⟨_,.inr dr.b,.inl hd2,rfl,rfl⟩,_,rfl,?_⟩)⟩;rw[dh];by_cases c5:dr.b∈J2;rotate_left
  ·rw[zzr0 c5];exact b0 ⟨_,rfl,bad (.inr (.inr (.inr (.inr c5))))⟩
  rw[zzr1 c5];refine bv ?_;have hlen:(jY ((ds.take i).map AC)).length<ah:=fX (bh (Bp _) (by rw[ai,aD];omega));refine⟨_,rfl,_,rfl,e,_,rfl,.inr ⟨_,AC dr,t,he2,rfl,f_.tk ⟨s,ht2,hs2⟩,hd8,hlen,rfl⟩,_,_,rfl,?_,?_,?_,?_⟩
  ·intro b o q;rw[aj (ag q heH)];exact hS2 _ _ q
  ·rw[aj (fun z=>by rw[z,he2]at hd2;cases hd2)];exact hd2
  ·rw[aa,take_snoc hdr,aB];exact congrArg (fun z=>some (HO.dT z)) (mv _ _).symm
  ·rw[<-hf,take_snoc hdr]
   conv=>rhs;unfold EG
   rw[if_neg];rintro(z|z|z|z|z)
   ·exact c1 z
   ·exact c2 z
   ·exact z c3
   ·exact z c4
   ·exact z c5
 ·rintro σ H' ⟨x,y,rfl,hS,_,_,hf⟩;have:=k H' hS;rw[<-hf,ai,Paired.length hds,List.drop_length]at this;exact this
theorem xr{J2:Zb}{sgs:List (List Str)}:∀(ds ahead:List am) (i:Nat),i+ds.length<=2000->(ahead++ds).Nodup->(∀d∈ds,d.a∈J2/\d.sg∈sgs/\d.b∈J2)->EG J2 sgs i ahead ds=none
 |[],_,_,_,_,_=>rfl
 |n::ns,ahead,i,h1,h2,h3=>by
  rw[em]at h1;unfold EG;rw[if_neg]
  ·refine xr ns (ahead++[n]) (i+1) (by omega) (by rw[eN];exact h2) fun w hw=>h3 w (fw _ hw)
  ·have:=h3 n fx;rintro(z|z|z|z|z)
   ·omega
   ·rw[c9]at h2;exact h2.2.2 n z n (fx) rfl
   ·exact z this.1
   ·exact z this.2.1
   ·exact z this.2.2
inductive sp_need_none (vs:List V)(H:Hp)(Q:VK)(E:XK):Prop
 |mk (x:V):(vs=[x,.non])->(Q .non H)->sp_need_none  vs H Q E
theorem vt{K:Za}{vs:List V}{H:Hp}{Q:VK}{E:XK}(h:sp_need_none vs H Q E):wA K (bJ Q) (start xI vs) H:=by
 obtain⟨x,rfl,k⟩:=h;refine⟨_,rfl,_,rfl,?_⟩;have e:(!decide (V.non=V.non))=false:=by rw[zzr1 rfl];rfl
 rw[e];exact bv k
structure Lists(H:Hp)(l1 l2 l3 l4:Addr)(ts:Ze)(J0 J1 J2:Zb)(ds:List am):Prop where
 a1:H l1=some (.lst (J0.map V.str))
 a2:H l2=some (.lst (J1.map V.str))
 a3:H l3=some (.lst (J2.map V.str))
 a4:H l4=some (.lst (ts.map V.ref))
 ds:cn H ts ds
theorem Lists.same{H H':Hp}{l1 l2 l3 l4:Addr}{ts:Ze}{J0 J1 J2:Zb}{ds:List am}(h:Lists H l1 l2 l3 l4 ts J0 J1 J2 ds)(e:ab H H'):Lists H' l1 l2 l3 l4 ts J0 J1 J2 ds :=
 ⟨e _ _ h.a1,e _ _ h.a2,e _ _ h.a3,e _ _ h.a4,h.ds.kt (ab.kt e)⟩
inductive sp_need_parts (vs:List V)(H:Hp)(Q:VK)(E:XK):Prop
 |mk (l1 l2 l3 l4:Addr) (ts:Ze) (J0 J1 J2:Zb) (ds:List am):(vs=[.ref l1,.ref l2,.ref l3,.ref l4])->(Lists H l1 l2 l3 l4 ts J0 J1 J2 ds)->(aN J0 J1 J2 ds)->(∀H',ab H H'->Q .non H')->sp_need_parts  vs H Q E
theorem aN.signs{J0 J1 J2:Zb}{ds:List am}(m:aN J0 J1 J2 ds):∀d∈ds,d.a∈J2/\d.sg∈jk J0 J1/\d.b∈J2:=by
 intro d hd;have g:=m.good d hd;refine⟨g.a,?_,g.b⟩;unfold jk;rcases g.sg with⟨w,hw,e⟩|⟨w,hw,e⟩|e
 ·rw[e];exact dq _ (dq _ (aX.mpr ⟨w,hw,rfl⟩))
 ·rw[e];exact dq _ (d_ _ (aX.mpr ⟨w,hw,rfl⟩))
 ·rw[e];exact d_ _ (by simp[ar])
theorem oM{ws:Zb}(h:jL ws):∀w∈ws,w.length<=1000:=fun w hw=>bh (h.2 w hw).hi (by decide)
theorem sQ{K:Za}{vs:List V}{H:Hp}{Q:VK}{E:XK}(h:sp_need_parts vs H Q E):u6 K sp_need_none (sp_first_wrong_door K) (sp_door_signs K) (sp_first_wrong_name K) (bJ Q) (start v4 vs) H:=by
 obtain⟨l1,l2,l3,l4,ts,J0,J1,J2,ds,rfl,L,m,k⟩:=h;have w1:cI J0 4 []=none:=gC m.asks0 m.asks4 m.okA.1 m.okA.2;have w2:cI J1 4 J0=none:=gC m.says0 m.says4 (by
  rw[c9];exact⟨m.okA.1,m.okS.1,fun a ha b hb e=>m.apart b hb (e▸ha)⟩) m.okS.2
 have w3:cI J2 150 []=none:=gC m.rooms0 (by have:=m.rooms26;omega) m.okR.1 m.okR.2;have w4:EG J2 (jk J0 J1) 0 [] ds=none:=xr ds [] 0 (by have:=m.few;omega) m.nodup m.signs;have z1:=m.asks4;have z2:=m.says4;have z3:=m.rooms26;have z4:=m.few;refine⟨_,rfl,(by show 0<=ah;decide),fun e he=>⟨l1,e,J0,[],4,rfl,aA.of (kp L.a1 he),aA.of aa,by simp;omega,oM m.okA,fun H1 s1=>?_⟩⟩;rw[w1];refine⟨_,rfl,?_⟩;have S1:=(ab.new he).trans s1;refine⟨_,rfl,_,rfl,l2,l1,J1,J0,4,rfl,aA.of (S1 _ _ L.a2),aA.of (S1 _ _ L.a1),by omega,oM m.okS,fun H2 s2=>?_⟩;rw[w2];refine⟨_,rfl,?_⟩;have S2:=S1.trans s2;refine⟨_,rfl,(by show 0<=ah;decide),fun e he=>⟨l3,e,J2,[],150,rfl,aA.of (kp (S2 _ _ L.a3) he),aA.of aa,by simp;omega,oM m.okR,fun H3 s3=>?_⟩⟩;rw[w3];refine⟨_,rfl,?_⟩;have S3:=(S2.trans (ab.new he)).trans s3;refine⟨_,rfl,_,rfl,_,rfl,_,rfl,l1,l2,J0,J1,rfl,S3 _ _ L.a1,S3 _ _ L.a2,by omega,by omega,fun sl xs H4 hx s4 hsl=>?_⟩;have S4:=S3.trans s4;have L4:=L.same S4;refine⟨l4,l3,sl,ts,ds,J2,xs,jk J0 J1,rfl,L4.a4,L4.ds,L4.a3,by omega,hsl,hx,by omega,fun H5 s5=>?_⟩;rw[w4];exact⟨_,rfl,k H5 (S4.trans s5)⟩
section
variable{κ ι:Type}[DecidableEq κ]{e:ι->κ}
def dS(e:ι->κ)(ps:List (ι×Addr)):List (κ×V):=ps.map fun x=>(e x.1,V.ref x.2)
theorem lh(inj:∀x y,e x=e y->x=y){i:ι}:∀{ps:List (ι×Addr)},i∉ps.map (·.1)->bO (dS e ps) (e i)=none
 |[],_=>rfl
 |x::ps,h=>by
  rw[bI,cv]at h;show bO ((e x.1,V.ref x.2)::dS e ps) (e i)=none;rw[cG (fun z=>h (.inl (inj _ _ z).symm))];exact lh inj (fun z=>h (.inr z))
theorem eh(inj:∀x y,e x=e y->x=y){i:ι}{a:Addr}:∀{ps:List (ι×Addr)},(ps.map (·.1)).Nodup->(i,a)∈ps->bO (dS e ps) (e i)=some (.ref a)
 |[],_,h=>by cases h
 |x::ps,nd,h=>by
  rw[bI,iU]at nd;show bO ((e x.1,V.ref x.2)::dS e ps) (e i)=_;rcases cv.mp h with h|h
  ·rw[<-h];exact cS rfl
  ·rw[cG (fun z=>nd.1 (by rw[inj _ _ z];exact aX.mpr ⟨_,h,rfl⟩))];exact eh inj nd.2 h
theorem tV(ps:List (ι×Addr))(i:ι)(a:Addr):dS e (ps++[(i,a)])=dS e ps++[(e i,.ref a)]:=by
 unfold dS;rw[aB]
 rfl
end
structure DL{ι:Type}(H0 H:Hp)(d:Addr)(ps:List (ι×Addr)):Prop where
 nd:(ps.map (·.1)).Nodup
 na:(ps.map (·.2)).Nodup
 fr:∀x∈ps,H0 x.2=none
 frd:H0 d=none
 ned:∀x∈ps,x.2≠d
 same:ab H0 H
theorem DL.snoc{ι:Type}{H0 H H':Hp}{d:Addr}{ps:List (ι×Addr)}{i:ι}{a:Addr}(h:DL H0 H d ps)(hi:i∉ps.map (·.1))(ha:∀x∈ps,x.2≠a)(fr:H0 a=none)(nd:a≠d)(s:ab H0 H'):DL H0 H' d (ps++[(i,a)]):=by
 refine⟨?_,?_,?_,h.frd,?_,s⟩
 ·rw[aB,c9];refine⟨h.nd,by simp,fun x hx y hy e=>?_⟩;have:y=i:=by simpa using hy
  exact hi (by rw[<-this,<-e];exact hx)
 ·rw[aB,c9];refine⟨h.na,by simp,fun x hx y hy e=>?_⟩;have:y=a:=by simpa using hy
  obtain⟨z,hz,rfl⟩:=aX.mp hx;exact ha z hz (e.trans this)
 ·intro x hx;rcases bN.mp hx with hx|hx
  ·exact h.fr x hx
  ·have:x=(i,a):=by simpa using hx
   rw[this];exact fr
 ·intro x hx;rcases bN.mp hx with hx|hx
  ·exact h.ned x hx
  ·have:x=(i,a):=by simpa using hx
   rw[this];exact nd
theorem CQ{ι:Type}:∀{ps:List (ι×Addr)},(ps.map (·.2)).Nodup->∀{x y:ι×Addr},x∈ps->y∈ps->x.2=y.2->x=y
 |[],_,x,_,h,_,_=>by cases h
 |p::ps,nd,x,y,hx,hy,e=>by
  rw[bI,iU]at nd;rcases cv.mp hx with hx'|hx'<;>rcases cv.mp hy with hy'|hy'
  ·rw[hx',hy']
  ·exact absurd (aX.mpr ⟨y,hy',by rw[<-e,hx']⟩) nd.1
  ·exact absurd (aX.mpr ⟨x,hx',by rw[e,hy']⟩) nd.1
  ·exact CQ nd.2 hx' hy' e
theorem gQ:∀x y:Str,(Sum.inr x:d6)=Sum.inr y->x=y:=fun x y h=>by injection h
def bm(ds:List am)(r:Str):List am:=ds.filter fun d=>decide (d.a=r)
inductive sp_doors_by_start (vs:List V)(H:Hp)(Q:VK)(E:XK):Prop
 |mk (l3 l4:Addr) (ts:Ze) (J2:Zb) (ds:List am):(vs=[.ref l3,.ref l4])->(H l3=some (.lst (J2.map V.str)))->(H l4=some (.lst (ts.map V.ref)))->(cn H ts ds)->(J2.Nodup)->(J2.length<=1000)->(ds.length<=9000)->((∀d∈ds,d.a∈J2))->(∀(d:Addr) (ps:List (Str×Addr)) (H':Hp),ps.map (·.1)=J2->H' d=some (.dK (dS Sum.inr ps))->(∀x∈ps,∃us,H' x.2=some (.lst (us.map V.ref))/\cn H' us (bm ds x.1))->ab H H'->Q (.ref d) H')->sp_doors_by_start  vs H Q E
theorem nv{K:Za}{vs:List V}{H:Hp}{Q:VK}{E:XK}(h:sp_doors_by_start vs H Q E):oF K (bJ Q) (start o0 vs) H:=by
 obtain⟨l3,l4,ts,J2,ds,rfl,h3,h4,hds,nod,hz,hz2,hin,k⟩:=h;refine fun d hd=>?_;refine⟨_,rfl,l3,rfl,⟨_,aA.of (kp h3 hd)⟩,?_⟩;refine bW (xs:=J2.map V.str) (fun i σ H'=>∃x y,σ=[some (.ref l3),some (.ref l4),some (.ref d),x,y]/\∃ps:List (Str×Addr),ps.map (·.1)=J2.take i/\H' d=some (.dK (dS Sum.inr ps))/\DL H H' d ps/\∀x∈ps,H' x.2=some (.lst []))
  ⟨_,_,rfl,[],rfl,aa,⟨by simp,by simp,by simp,hd,by simp,ab.new hd⟩,by simp⟩ (fun i σ H' _ ⟨_,_,_,_,_,_,D,_⟩=>aA.of (D.same _ _ h3)) ?_ ?_
 ·rintro i x σ H' hi ⟨x3,x4,rfl,ps,hps,hd',D,hls⟩;obtain⟨w,hw,rfl⟩:=bp hi;have hnew:w∉ps.map (·.1):=by
   rw[hps];intro z;have:=nod;rw[<-um (i+1) J2,take_snoc hw,c9]at this;have:=this.1;rw[c9]at this;exact this.2.2 w z w (by simp) rfl
  refine⟨(by show 0<=ah;decide),fun a ha=>?_⟩;have hlen:(dS (Sum.inr:Str->d6) ps).length<ah:=aw (by
   unfold dS;rw[ai,<-ai (f:=(·.1)) (as:=ps),hps,aD];omega)
  have haH:H a=none:=D.same.free ha;have nda:a≠d:=(ag hd' ha).symm;have hneA:∀x∈ps,x.2≠a:=fun x hx=>ag (hls x hx) ha;refine⟨_,rfl,_,rfl,d,_,rfl,.inl ⟨_,.inr w,kp hd' ha,rfl,hlen,rfl⟩,_,_,rfl,ps++[(w,a)],?_,?_,?_,?_⟩
  ·rw[aB,hps,take_snoc hw];rfl
  ·rw[aa,eT _ (lh gQ hnew),tV]
  ·refine D.snoc hnew hneA haH nda ?_;intro b o q;rw[aj (ag q hd)];exact kp (D.same _ _ q) ha
  ·intro x hx;rcases bN.mp hx with hx|hx
   ·rw[aj (D.ned x hx)];exact kp (hls x hx) ha
   ·have:x=(w,a):=by simpa using hx
    rw[this,aj nda];exact aa
 ·rintro σ H1 ⟨x3,x4,rfl,ps,hps,hd1,D1,hls⟩;rw[ai,bf]at hps;refine⟨_,rfl,l4,rfl,⟨_,aA.of (D1.same _ _ h4)⟩,?_⟩;refine bW (xs:=ts.map V.ref) (fun i σ H'=>∃x4,σ=[some (.ref l3),some (.ref l4),some (.ref d),x3,x4]/\H' d=some (.dK (dS Sum.inr ps))/\DL H H' d ps/\∀x∈ps,∃us,H' x.2=some (.lst (us.map V.ref))/\cn H' us (bm (ds.take i) x.1))
   ⟨_,rfl,hd1,D1,fun x hx=>⟨[],hls x hx,.nil⟩⟩ (fun i σ H' _ ⟨_,_,_,D,_⟩=>aA.of (D.same _ _ h4)) ?_ ?_
  ·rintro i x σ H' hi ⟨x4,rfl,hd',D,hls⟩;obtain⟨t,ht,rfl⟩:=cg hi;obtain⟨dr,hdr,hat⟩:=Paired.getL hds ht;have hat':=hat.kt (ab.kt D.same);have hat2:=hat';obtain⟨s,ht2,hs2⟩:=hat';have hmem:dr.a∈ps.map (·.1):=by rw[hps];exact hin dr (bY hdr)
   obtain⟨⟨r,a⟩,hra,er⟩:=aX.mp hmem;obtain rfl:r=dr.a:=er;obtain⟨us,hus,hdo⟩:=hls _ hra;have hil:i<ds.length:=(cE.mp hdr).1;have hlu:us.length<=9000:=by
    rw[Paired.length hdo];refine bh (cF _ _) ?_;rw[aD];omega
   have KT:jZ H' (upd H' a (.lst (us.map V.ref++[.ref t]))):=eD hus;refine⟨_,rfl,_,rfl,.inr (.inl ⟨t,_,0,_,rfl,rfl,aY.of ht2,rfl,d,.ref a,rfl,.inl ⟨_,.inr dr.a,.inl hd',rfl,(eh gQ D.nd hra).symm⟩,.inl ⟨rfl,_,aA.of hus⟩,_,rfl,a,_,_,rfl,rfl,hus,?_,_,rfl,?_,?_,?_⟩)⟩
   ·rw[ai];exact fX hlu
   ·rw[aj (D.ned _ hra).symm];exact hd'
   ·refine⟨D.nd,D.na,D.fr,D.frd,D.ned,fun b o q=>?_⟩;rw[aj (ag q (D.fr _ hra))];exact D.same _ _ q
   ·intro x hx;have hfl:∀r',bm (ds.take (i+1)) r'=bm (ds.take i) r'++(if dr.a=r' then[dr]else[]):=by
     intro r';unfold bm;rw[take_snoc hdr,lT];congr 1;by_cases c:dr.a=r'
     ·rw[if_pos c];simp[c]
     ·rw[if_neg c];simp[c]
    by_cases c:x.2=a
    ·have ex:=CQ D.na hx hra c;subst ex;refine⟨us++[t],?_,?_⟩
     ·show upd H' a _ a=_;rw[aa,aB];rfl
     ·rw[hfl];show cn _ _ (bm (ds.take i) dr.a++(if dr.a=dr.a then[dr]else[]))
      rw[if_pos rfl];exact Paired.app (hdo.kt KT) (.cons (hat2.kt KT) .nil)
    ·obtain⟨us',h1,h2⟩:=hls x hx;have hne:¬(dr.a=x.1):=fun z=>by
      have e1:=eh (e:=(Sum.inr:Str->d6)) gQ D.nd hra;have e2:=eh (e:=(Sum.inr:Str->d6)) (i:=x.1) (a:=x.2) gQ D.nd hx;rw[<-z,e1]at e2;injection e2 with e2;injection e2 with e2;exact c e2.symm
     refine⟨us',by rw[aj c];exact h1,?_⟩;rw[hfl,if_neg hne,dv];exact h2.kt KT
  ·rintro σ H' ⟨x4,rfl,hd',D,hls⟩;rw[ai,Paired.length hds,bf]at hls;exact⟨_,rfl,k d ps H' hps hd' hls D.same⟩
def fS(d:am):Bool:=match d.sg with
 |s::_=>decide (s=("ask":Str))
 |[]=>false
inductive sp_has_asks_alone (vs:List V)(H:Hp)(Q:VK)(E:XK):Prop
 |mk (a:Addr) (us:Ze) (ds:List am):(vs=[.ref a])->(H a=some (.lst (us.map V.ref)))->(cn H us ds)->(ds.length<=9000)->((∀d∈ds,d.sg≠[]))->(∀H',ab H H'->Q (.bl (ds.all fS)) H')->sp_has_asks_alone  vs H Q E
theorem nr{K:Za}{vs:List V}{H:Hp}{Q:VK}{E:XK}(h:sp_has_asks_alone vs H Q E):oE K (bJ Q) (start oZ vs) H:=by
 obtain⟨a,us,ds,rfl,ha,hds,hz,hne,k⟩:=h;refine⟨_,rfl,a,rfl,⟨_,aA.of ha⟩,fun l hl=>?_⟩;refine bU (xs:=us.map V.ref) (fun i vs H'=>vs=(ds.take i).map (fun d=>V.bl (fS d))/\ab H H'/\H' l=some (.lst vs))
  ⟨rfl,ab.new hl,aa⟩ (fun i vs H' _ ⟨_,hS,h'⟩=>⟨h',aA.of (hS _ _ ha)⟩) ?_ ?_
 ·rintro vs H' ⟨rfl,hS,h'⟩;rw[ai,Paired.length hds,bf]at h';refine⟨l,ds.map fS,rfl,aA.of (by rw[h',ke];rfl),?_⟩;rw[uy];exact k H' hS
 ·rintro i vs H' x hx hi ⟨rfl,hS,h'⟩;obtain⟨t,ht,rfl⟩:=cg hx;obtain⟨dr,hdr,hat⟩:=Paired.getL hds ht;obtain⟨s,ht2,hs2⟩:=hat.kt (ab.kt hS);have hmem:=bY hdr;obtain⟨s0,rest,hsg⟩:∃s0 rest,dr.sg=s0::rest:=by
   cases q:dr.sg with
   |nil=>exact absurd q (hne dr hmem)
   |cons x y=>exact⟨x,y,rfl⟩
  unfold SignAt at hs2;rw[hsg]at hs2;refine gN (sr ?_);refine⟨_,rfl,.inr (.inl ⟨t,_,1,_,rfl,rfl,aY.of ht2,rfl,.inr (.inl ⟨s,_,0,.str s0,rfl,rfl,aY.of hs2,bQ (j:=0) rfl,rfl,h',?_,j4 hi ⟨?_,?_,aa⟩⟩)⟩)⟩
  ·rw[ai,aD];exact fX (by omega)
  ·rw[take_snoc hdr,aB];congr 1;show[V.bl _]=[V.bl _];congr 2;unfold fS;rw[hsg];show decide (V.str s0=V.str _)=decide (s0=_);by_cases c:s0=("ask":Str)
   ·rw[zzr1 c,zzr1 (by rw[c])]
   ·rw[zzr0 c,zzr0 (fun z=>c (by injection z))]
  ·intro b o e;rw[aj (ag e hl)];exact hS _ _ e
def sm(x:Str×List Str):TK:=.t [lf x.1,ip x.2]
theorem gM:∀x y:Str×List Str,sm x=sm y->x=y:=by
 intro x y h;unfold sm at h;injection h with h;injection h with h1 h;injection h with h2 h;cases x;cases y;simp only at *;rw[p5 h1,ln h2]
theorem lc(x:Str×List Str):(sm x).depth<=8:=by
 show max (TK.depth (lf x.1)) (max (TK.depth (ip x.2)) 0)+1<=8;rw[oz];show max 0 (max 1 0)+1<=8
 decide
def bz(ds:List am)(x:Str×List Str):List Str:=(ds.filter fun d=>decide (d.a=x.1/\d.sg=x.2)).map (·.b)
theorem vM(ds:List am)(d:am)(x:Str×List Str):bz (ds++[d]) x=bz ds x++(if(d.a,d.sg)=x then[d.b]else[]):=by
 unfold bz;rw[lT,aB];congr 1;by_cases c:(d.a,d.sg)=x
 ·subst c;simp
 ·rw[if_neg c];have:¬(d.a=x.1/\d.sg=x.2):=fun z=>c (by cases x;simp only at z;rw[z.1,z.2]);simp[List.filter_cons];intro h1 h2;exact this ⟨h1,h2⟩
theorem kM{ds:List am}{x:Str×List Str}(h:∀d∈ds,(d.a,d.sg)≠x):bz ds x=[]:=by
 unfold bz;rw[List.map_eq_nil_iff,List.filter_eq_nil_iff];intro d hd;have:¬(d.a=x.1/\d.sg=x.2):=fun z=>h d hd (by cases x;simp only at z;rw[z.1,z.2]);simp;intro h1 h2;exact this ⟨h1,h2⟩
theorem eB{ds:List am}{x:Str×List Str}{b:Str}:b∈bz ds x↔(⟨x.1,x.2,b⟩:am)∈ds:=by
 unfold bz;rw[aX];constructor
 ·rintro⟨d,hd,rfl⟩;rw[dO]at hd;obtain⟨h1,h2⟩:=hd;obtain⟨h3,h4⟩:=of_decide_eq_true h2;cases d;simp only at h3 h4;rw[<-h3,<-h4];exact h1
 ·intro h;exact⟨_,dO.mpr ⟨h,zzr1 ⟨rfl,rfl⟩⟩,rfl⟩
structure iR(H:Hp)(g:Addr)(ps:List ((Str×List Str)×Addr))(ds:List am):Prop where
 nd:(ps.map (·.1)).Nodup
 g:H g=some (.dT (dS sm ps))
 ls:∀x∈ps,H x.2=some (.lst ((bz ds x.1).map V.str))
 all:∀d∈ds,(d.a,d.sg)∈ps.map (·.1)
theorem iR.same{H H':Hp}{g:Addr}{ps:List ((Str×List Str)×Addr)}{ds:List am}(h:iR H g ps ds)(s:ab H H'):iR H' g ps ds:=⟨h.nd,s _ _ h.g,fun x hx=>s _ _ (h.ls x hx),h.all⟩
inductive nh (vs:List V)(H:Hp)(Q:VK)(E:XK):Prop
 |mk (l4:Addr) (ts:Ze) (ds:List am):(vs=[.ref l4])->(H l4=some (.lst (ts.map V.ref)))->(cn H ts ds)->(ds.length<=9000)->(∀(g:Addr) (ps:List ((Str×List Str)×Addr)) (H':Hp),iR H' g ps ds->ab H H'->Q (.ref g) H')->nh  vs H Q E
theorem ig{K:Za}{vs:List V}{H:Hp}{Q:VK}{E:XK}(h:nh vs H Q E):iA K (bJ Q) (start iB vs) H:=by
 obtain⟨l4,ts,ds,rfl,h4,hds,hz,k⟩:=h;refine fun g hg=>?_;refine⟨_,rfl,l4,rfl,⟨_,aA.of (kp h4 hg)⟩,?_⟩;refine bW (xs:=ts.map V.ref) (fun i σ H'=>∃x y z,σ=[some (.ref l4),some (.ref g),x,y,z]/\∃ps:List ((Str×List Str)×Addr),DL H H' g ps/\H' g=some (.dT (dS sm ps))/\ps.length<=i/\(∀x∈ps,H' x.2=some (.lst ((bz (ds.take i) x.1).map V.str)))/\∀d∈ds.take i,(d.a,d.sg)∈ps.map (·.1))
  ⟨_,_,_,rfl,[],⟨by simp,by simp,by simp,hg,by simp,ab.new hg⟩,aa,by simp,by simp,by simp⟩ (fun i σ H' _ ⟨_,_,_,_,_,D,_⟩=>aA.of (D.same _ _ h4)) ?_ ?_
 ·rintro i x σ H' hi ⟨x2,x3,x4,rfl,ps,D,hg',hlen,hls,hall⟩;obtain⟨t,ht,rfl⟩:=cg hi;obtain⟨dr,hdr,hat⟩:=Paired.getL hds ht;have hil:i<ds.length:=(cE.mp hdr).1;obtain⟨s,ht2,hs2⟩:=hat.kt (ab.kt D.same);refine⟨t,_,rfl,aY.of ht2,rfl,_,_,rfl,_,_,rfl,_,_,rfl,rfl,?_⟩;refine⟨_,rfl,.inr (.inr (.inl ⟨rfl,.inr ⟨_,hg'⟩⟩)),_,rfl,_,rfl,(by show 2<=ah;decide),fun kt hkt=>⟨(by show 0<=ah;decide),fun nl hnl=>?_⟩⟩;have S2:ab H' (upd (upd H' kt (.tup [.str dr.a,.ref s])) nl (.lst [])):=(ab.new hkt).trans (ab.new hnl);have hkt2:upd (upd H' kt (.tup [.str dr.a,.ref s])) nl (.lst []) kt=some (.tup [.str dr.a,.ref s]):=kp aa hnl;have hnl2:upd (upd H' kt (.tup [.str dr.a,.ref s])) nl (.lst []) nl=some (.lst []):=aa;have hnlH':H' nl=none:=(ab.new hkt).free hnl;generalize upd (upd H' kt (.tup [.str dr.a,.ref s])) nl (.lst [])=H2 at S2 hkt2 hnl2 ⊢;have htk:fq H2 (sm (dr.a,dr.sg)) (.ref kt):=by
   unfold sm fq;refine⟨kt,_,rfl,hkt2,?_⟩;unfold TKAts;refine⟨_,_,rfl,qA _,?_⟩;unfold TKAts;refine⟨_,_,rfl,SignAt.tk (S2 _ _ hs2),?_⟩;unfold TKAts
   rfl
  have hlk:(dS sm ps).length<ah:=fX (by unfold dS;rw[ai];omega);have hgo:∀x,bz (ds.take (i+1)) x=bz (ds.take i) x++(if(dr.a,dr.sg)=x then[dr.b]else[]):=fun x=>by rw[take_snoc hdr,vM]
  have hgl:∀x,(bz (ds.take i) x).length<=9000:=fun x=>by
   unfold bz;rw[ai];refine bh (cF _ _) ?_;rw[aD];omega
  refine⟨g,kt,_,sm (dr.a,dr.sg),.ref nl,rfl,rfl,S2 _ _ hg',htk,lc _,hlk,fun v hv=>?_,fun hv=>?_⟩
  ·-- there already
   have hmem:(dr.a,dr.sg)∈ps.map (·.1):=by
    refine Classical.byContradiction fun z=>?_;rw[lh gM z]at hv;cases hv
   obtain⟨⟨r,a⟩,hra,er⟩:=aX.mp hmem;obtain rfl:r=(dr.a,dr.sg):=er;rw[eh gM D.nd hra]at hv;injection hv with hv;subst hv;have hla:=S2 _ _ (hls _ hra);refine⟨.inl ⟨rfl,_,aA.of hla⟩,_,rfl,a,_,_,rfl,rfl,hla,by rw[ai];exact fX (hgl _),_,_,_,rfl,ps,⟨D.nd,D.na,D.fr,D.frd,D.ned,fun b o q=>?_⟩,?_,by omega,?_,?_⟩
   ·rw[aj (ag q (D.fr _ hra))];exact S2 _ _ (D.same _ _ q)
   ·rw[aj (D.ned _ hra).symm];exact S2 _ _ hg'
   ·intro x hx;by_cases c:x.2=a
    ·have ex:=CQ D.na hx hra c;subst ex;show upd H2 a _ a=_;rw[aa,hgo,if_pos rfl,aB];rfl
    ·have hne:¬((dr.a,dr.sg)=x.1):=fun z=>by
      have e1:=eh (e:=sm) gM D.nd hra;have e2:=eh (e:=sm) (i:=x.1) (a:=x.2) gM D.nd hx;rw[<-z,e1]at e2;injection e2 with e2;injection e2 with e2;exact c e2.symm
     rw[aj c,hgo,if_neg hne,dv];exact S2 _ _ (hls x hx)
   ·intro d hd;rw[take_snoc hdr]at hd;rcases bN.mp hd with hd|hd
    ·exact hall d hd
    ·have:d=dr:=by simpa using hd
     rw[this];exact hmem
  ·-- a new list
   have hnew:(dr.a,dr.sg)∉ps.map (·.1):=by
    intro z;obtain⟨⟨r,a⟩,hra,er⟩:=aX.mp z;obtain rfl:r=(dr.a,dr.sg):=er;rw[eh gM D.nd hra]at hv;cases hv
   have hgne:nl≠g:=(ag hg' hnlH').symm;have hnl3:upd H2 g (.dT (dS sm ps++[(sm (dr.a,dr.sg),.ref nl)])) nl=some (.lst []):=by rw[aj hgne];exact hnl2
   refine⟨.inl ⟨rfl,_,aA.of hnl3⟩,_,rfl,nl,_,_,rfl,rfl,hnl3,(by show 0<ah;decide),_,_,_,rfl,ps++[((dr.a,dr.sg),nl)],?_,?_,?_,?_,?_⟩
   ·refine D.snoc hnew (fun x hx=>ag (hls x hx) hnlH') (D.same.free hnlH') hgne ?_;intro b o q;rw[aj (ag q (D.same.free hnlH')),aj (ag q hg)];exact S2 _ _ (D.same _ _ q)
   ·rw[aj hgne.symm,aa,tV]
   ·rw[aO];show _+1<=_;omega
   ·intro x hx;rcases bN.mp hx with hx|hx
    ·have hne:¬((dr.a,dr.sg)=x.1):=fun z=>hnew (by rw[z];exact aX.mpr ⟨x,hx,rfl⟩);rw[aj (ag (hls x hx) hnlH'),aj (D.ned x hx),hgo,if_neg hne,dv];exact S2 _ _ (hls x hx)
    ·have:x=((dr.a,dr.sg),nl):=by simpa using hx
     subst this;have hnil:bz (ds.take i) (dr.a,dr.sg)=[]:=kM fun d hd z=>hnew (by rw[<-z];exact hall d hd);show upd _ nl _ nl=_;rw[aa,hgo,if_pos rfl,hnil]
     rfl
   ·intro d hd;rw[aB];rw[take_snoc hdr]at hd;rcases bN.mp hd with hd|hd
    ·exact dq _ (hall d hd)
    ·have:d=dr:=by simpa using hd
     rw[this];exact d_ _ (by simp)
 ·rintro σ H' ⟨x2,x3,x4,rfl,ps,D,hg',hlen,hls,hall⟩;rw[ai,Paired.length hds,bf]at hls hall;exact⟨_,rfl,k g ps H' ⟨D.nd,hg',hls,hall⟩ D.same⟩
theorem jf:∀{L R:Zb},L.Nodup->(∀y∈L,y∈R)->L.length<=R.length
 |[],_,_,_=>dL _
 |x::L,R,nd,h=>by
  rw[iU]at nd;have hx:=h x fx;have:=jf (L:=L) (R:=R.erase x) nd.2 fun y hy=>(List.mem_erase_of_ne (fun e:y=x=>nd.1 (by rw[<-e];exact hy))).mpr (h y (fw _ hy));rw[List.length_erase_of_mem hx]at this;have:0<R.length:=List.length_pos_of_mem hx;rw[em];omega
theorem Reach.in_{ds:List am}{a b:Str}{J2:Zb}(hr:∀d∈ds,d.b∈J2)(h:Reach ds a b):b∈J2:=by
 cases h with
 |one h=>exact hr _ h
 |step r h=>exact hr _ h
inductive vm (vs:List V)(H:Hp)(Q:VK)(E:XK):Prop
 |mk (g:Addr) (room:Str) (ps:List ((Str×List Str)×Addr)) (ds:List am) (J2:Zb):(vs=[.ref g,.str room])->(iR H g ps ds)->((∀d∈ds,d.b∈J2))->(J2.length<=1000)->(∀(d:Addr) (L:Zb) (H':Hp),H' d=some (.dK (aK L))->L.Nodup->(∀w,w∈L↔Reach ds room w)->H d=none->ab H H'->Q (.ref d) H')->vm  vs H Q E
structure Gb(H0 H:Hp)(ds:List am)(room:Str)(d w:Addr)(L W:Zb)(open_:Str->Prop):Prop where
 d:H d=some (.dK (aK L))
 w:H w=some (.lst (W.map V.str))
 same:ab H0 H
 nd:L.Nodup
 sound:∀y∈L,Reach ds room y
 wait:∀y∈W,y=room∨y∈L
 closed:∀y,(y=room∨y∈L)->y∉W->¬open_ y->∀c∈bz ds (y,ar),c∈L
theorem pQ{K:Za}{st:Addr}(hst:∀H,aY K H st (ar.map V.str)){vs:List V}{H:Hp}{Q:VK}{E:XK}(h:vm vs H Q E):qC K st (bJ Q) (start rX vs) H:=by
 obtain⟨g,room,ps,ds,J2,rfl,G,hin,hz,k⟩:=h;refine fun d hd=>?_;refine⟨_,rfl,(by show 1<=ah;decide),fun w hw=>?_⟩;have hwH:H w=none:=(ab.new hd).free hw;have hdw:d≠w:=ag aa hw;refine⟨fun m σ H'=>∃(L W:Zb) (x y:Option V),σ=[some (.ref g),some (.str room),some (.ref d),some (.ref w),x,y]/\Gb H H' ds room d w L W (fun _=>False)/\m=2 * (J2.length-L.length)+W.length/\m<=2 * J2.length+1,
  ⟨_,[],[room],_,_,rfl,⟨kp aa hw,aa,(ab.new hd).trans (ab.new hw),qq,by simp,by simp,?_⟩,rfl,aH _⟩,?_⟩
 ·intro y hy hn;rcases hy with rfl|hy
  ·simp at hn
  ·cases hy
 rintro m σ H1 ⟨L,W,x4,x5,rfl,D,rfl,hbound⟩;have lenL:∀{L':Zb},L'.Nodup->(∀y∈L',Reach ds room y)->L'.length<=J2.length:=fun nd sd=>jf nd fun y hy=>(sd y hy).in_ hin;refine⟨_,rfl,.inl ⟨w,_,rfl,.inl (aA.of D.w),_,_,rfl,rfl,_,rfl,?_⟩⟩;refine gP (fun hpos=>?_) (fun hpos=>?_)
 ·have hne:W≠[]:=by
   intro z;rw[z]at hpos;exact absurd (of_decide_eq_true hpos) (by decide)
  obtain⟨W',here,rfl⟩:∃W' here,W=W'++[here]:=⟨W.dropLast,W.getLast hne,(List.dropLast_concat_getLast hne).symm⟩;have hhere:here=room∨here∈L:=D.wait here (by simp);refine⟨fun σ' H'=>∃(L' W2:Zb) (x y:Option V),σ'=[some (.ref g),some (.str room),some (.ref d),some (.ref w),x,y]/\Gb H H' ds room d w L' W2 (fun _=>False)/\2 * (J2.length-L'.length)+W2.length<2 * (J2.length-L.length)+(W'++[here]).length,
   fun σ' H' ⟨L',W2,x,y,e,D',hm⟩=>⟨_,hm,L',W2,x,y,e,D',rfl,by omega⟩,?_⟩
  have hlast:((W'++[here]).map V.str)[((W'++[here]).map V.str).length-1]?=some (.str here):=by simp
  have hdrop:((W'++[here]).map V.str).dropLast=W'.map V.str:=by rw[aB];simp
  refine⟨_,rfl,.inl ⟨rfl,_,aA.of D.w⟩,w,_,_,rfl,rfl,D.w,hlast,?_⟩;rw[hdrop];have hd1:upd H1 w (.lst (W'.map V.str)) d=some (.dK (aK L)):=by rw[aj hdw];exact D.d
  have hw1:upd H1 w (.lst (W'.map V.str)) w=some (.lst (W'.map V.str)):=aa;have S1:ab H (upd H1 w (.lst (W'.map V.str))):=fun b o q=>by rw[aj (ag q hwH)];exact D.same _ _ q
  generalize upd H1 w (.lst (W'.map V.str))=H2 at hd1 hw1 S1 ⊢;have G2:=G.same S1;refine⟨_,rfl,g,rfl,.inr ⟨_,.inl G2.g⟩,_,rfl,(by show 2<=ah;decide),fun kt hkt=>⟨(by show 0<=ah;decide),fun et het=>⟨bO (dS sm ps) (sm (here,ar)),.inr ⟨_,sm (here,ar),kt,.inl ?_,rfl,?_,lc _,rfl⟩,?_⟩⟩⟩
  ·exact kp (kp G2.g hkt) het
  ·unfold sm kQ;refine⟨kt,_,rfl,aY.of (kp aa het),?_⟩;unfold TKIns;refine⟨_,_,rfl,?_,?_⟩
   ·unfold lf kQ;rfl
   unfold TKIns;refine⟨_,_,rfl,?_,?_⟩
   ·unfold ip kQ;refine⟨st,_,rfl,hst _,?_⟩;unfold ar;show TKIns K _ [lf _] [V.str _];unfold TKIns;refine⟨_,_,rfl,?_,?_⟩
    ·unfold lf kQ;rfl
    unfold TKIns;rfl
   unfold TKIns;rfl
  have S3:ab H2 (upd (upd H2 kt (.tup [.str here,.ref st])) et (.tup [])):=(ab.new hkt).trans (ab.new het);have het3:upd (upd H2 kt (.tup [.str here,.ref st])) et (.tup []) et=some (.tup []):=aa;generalize upd (upd H2 kt (.tup [.str here,.ref st])) et (.tup [])=H3 at S3 het3 ⊢;have D3:Gb H H3 ds room d w L W' (fun y=>y=here):=⟨S3 _ _ hd1,S3 _ _ hw1,S1.trans S3,D.nd,D.sound,fun y hy=>D.wait y (dq _ hy),fun y hy hn ho=>D.closed y hy (fun z=>by rcases bN.mp z with z|z;exact hn z;exact ho (by simpa using z)) (fun z=>z)⟩;have hm3:2 * (J2.length-L.length)+W'.length<2 * (J2.length-L.length)+(W'++[here]).length:=by rw[aO];show _<_+(_+1);omega
  have fin:∀(H4:Hp) (L' W2:Zb) (x y:Option V),Gb H H4 ds room d w L' W2 (fun y=>y=here)->(∀c∈bz ds (here,ar),c∈L')->2 * (J2.length-L'.length)+W2.length<2 * (J2.length-L.length)+(W'++[here]).length ->
    ∃(L' W2:Zb) (x' y':Option V),[some (V.ref g),some (.str room),some (.ref d),some (.ref w),x,y]=[some (.ref g),some (.str room),some (.ref d),some (.ref w),x',y']/\Gb H H4 ds room d w L' W2 (fun _=>False)/\2 * (J2.length-L'.length)+W2.length<2 * (J2.length-L.length)+(W'++[here]).length:=by
   intro H4 L' W2 x y D4 hc hm;refine⟨L',W2,x,y,rfl,⟨D4.d,D4.w,D4.same,D4.nd,D4.sound,D4.wait,fun y hy hn _=>?_⟩,hm⟩;by_cases e:y=here
   ·rw[e];exact hc
   ·exact D4.closed y hy hn e
  by_cases hmem:(here,ar)∈ps.map (·.1)
  ·obtain⟨⟨r,a⟩,hra,er⟩:=aX.mp hmem;obtain rfl:r=(here,ar):=er;rw[eh gM G.nd hra];have hla:=G.ls _ hra;refine⟨a,rfl,.inl ⟨⟨_,aA.of ((S1.trans S3) _ _ hla)⟩,?_⟩⟩;refine bW (xs:=(bz ds (here,ar)).map V.str) (fun j σ H'=>∃(L' W2:Zb) (y:Option V),σ=[some (.ref g),some (.str room),some (.ref d),some (.ref w),some (.str here),y]/\Gb H H' ds room d w L' W2 (fun y=>y=here)/\(here=room∨here∈L')/\(∀c∈(bz ds (here,ar)).take j,c∈L') /\
     2 * (J2.length-L'.length)+W2.length<2 * (J2.length-L.length)+(W'++[here]).length)
    ⟨L,W',_,rfl,D3,hhere,by simp,hm3⟩ (fun j σ H' _ ⟨_,_,_,_,D',_⟩=>aA.of (D'.same _ _ hla)) ?_ ?_
   ·rintro j x σ H4 hj ⟨L',W2,y,rfl,D4,hh,hc,hm⟩;obtain⟨goal,hgoal,rfl⟩:=bp hj;have hedge:(⟨here,ar,goal⟩:am)∈ds:=eB.mp (bY hgoal);have hreach:Reach ds room goal:=by
     rcases hh with hh|hh
     ·rw[hh]at hedge;exact .one hedge
     ·exact .step (D4.sound _ hh) hedge
    have hlen':=lenL D4.nd D4.sound;refine⟨_,rfl,_,rfl,d,_,rfl,.inl ⟨_,.inr goal,.inl D4.d,rfl,rfl⟩,_,rfl,?_⟩;rw[dh];by_cases c:goal∈L'
    ·rw[zzr1 c];refine bv ⟨L',W2,_,rfl,D4,hh,?_,hm⟩;intro c' hc';rw[take_snoc hgoal]at hc';rcases bN.mp hc' with h|h
     ·exact hc c' h
     ·have:c'=goal:=by simpa using h
      rw[this];exact c
    ·rw[zzr0 c];refine b0 ?_;have nd':(L'++[goal]).Nodup:=by
      rw[c9];refine⟨D4.nd,by simp,fun a ha b hb e=>?_⟩;have:b=goal:=by simpa using hb
      exact c (by rw[<-this,<-e];exact ha)
     have sd':∀y∈L'++[goal],Reach ds room y:=by
      intro y hy;rcases bN.mp hy with hy|hy
      ·exact D4.sound y hy
      ·have:y=goal:=by simpa using hy
       rw[this];exact hreach
     have hlen2:=lenL nd' sd';rw[aO]at hlen2;have hlen3:L'.length+1<=J2.length:=hlen2;have hWl:W2.length<=9000:=by omega
     refine⟨_,rfl,_,rfl,d,_,rfl,.inl ⟨_,.inr goal,D4.d,rfl,aw (bh (io _) (by omega)),rfl⟩,?_⟩;have hw5:upd H4 d (.dK (cX (aK L') (.inr goal) (.bl true))) w=some (.lst (W2.map V.str)):=by rw[aj hdw.symm];exact D4.w
     refine⟨_,rfl,.inl ⟨rfl,_,aA.of hw5⟩,_,rfl,w,_,_,rfl,rfl,hw5,by rw[ai];exact fX hWl,L'++[goal],W2++[goal],_,rfl,⟨?_,?_,?_,nd',sd',?_,?_⟩,?_,?_,?_⟩
     ·rw[aj hdw,aa,cT]
     ·rw[aa,aB];rfl
     ·intro b o q;rw[aj (ag q hwH),aj (ag q hd)];exact D4.same _ _ q
     ·intro y hy;rcases bN.mp hy with hy|hy
      ·rcases D4.wait y hy with h|h
       ·exact .inl h
       ·exact .inr (dq _ h)
      ·exact .inr (d_ _ hy)
     ·intro y hy hn ho c' hc';have hn1:y∉W2:=fun z=>hn (dq _ z);have hyg:y≠goal:=fun z=>hn (d_ _ (by simp[z]));refine dq _ (D4.closed y ?_ hn1 ho c' hc');rcases hy with hy|hy
      ·exact .inl hy
      ·rcases bN.mp hy with hy|hy
       ·exact .inr hy
       ·exact absurd (by simpa using hy) hyg
     ·rcases hh with h|h
      ·exact .inl h
      ·exact .inr (dq _ h)
     ·intro c' hc';rw[take_snoc hgoal]at hc';rcases bN.mp hc' with h|h
      ·exact dq _ (hc c' h)
      ·exact d_ _ h
     ·rw[aO,aO];show 2 * (J2.length-(L'.length+1))+(W2.length+1)<_;omega
   ·rintro σ H4 ⟨L',W2,y,rfl,D4,hh,hc,hm⟩;rw[ai,bf]at hc;exact fin H4 L' W2 _ _ D4 hc hm
  ·rw[lh gM hmem];refine⟨et,rfl,.inr ⟨⟨_,aY.of het3⟩,?_⟩⟩;have hnil:bz ds (here,ar)=[]:=kM fun x hx z=>hmem (by rw[<-z];exact G.all x hx);refine vN (xs:=[]) (fun j σ H'=>σ=[some (.ref g),some (.str room),some (.ref d),some (.ref w),some (.str here),x5]/\H'=H3) ⟨rfl,rfl⟩ (fun j σ H' _ ⟨_,e⟩=>by rw[e];exact aY.of het3) (fun j x σ H' hj=>by cases hj) ?_;rintro σ H' ⟨rfl,rfl⟩;exact fin _ L W' _ _ D3 (by rw[hnil];simp) hm3
 ·have hnil:W=[]:=by
   cases W with
   |nil=>rfl
   |cons a W=>exact absurd (zzr1 (by rw[ai,em];omega)) hpos
  subst hnil;refine⟨_,rfl,k d L H1 D.d D.nd (fun w=>⟨D.sound w,fun hr=>?_⟩) hd D.same⟩
  induction hr with
  |one h=>exact D.closed room (.inl rfl) (by simp) (fun z=>z) _ (eB.mpr h)
  |step r h ih=>exact D.closed _ (.inr ih) (by simp) (fun z=>z) _ (eB.mpr h)
inductive sp_first_led_round (vs:List V)(H:Hp)(Q:VK)(E:XK):Prop
 |mk (l3 d:Addr) (J2:Zb) (ps:List (Str×Addr)):(vs=[.ref l3,.ref d])->(H l3=some (.lst (J2.map V.str)))->(H d=some (.dK (dS Sum.inr ps)))->(ps.map (·.1)=J2)->(J2.Nodup)->((∀x∈ps,∃L,H x.2=some (.dK (aK L))/\x.1∉L))->(∀H',ab H H'->Q .non H')->sp_first_led_round  vs H Q E
theorem mn{K:Za}{vs:List V}{H:Hp}{Q:VK}{E:XK}(h:sp_first_led_round vs H Q E):mV K (bJ Q) (start nP vs) H:=by
 obtain⟨l3,d,J2,ps,rfl,h3,hd,hps,nod,hL,k⟩:=h;refine⟨_,rfl,l3,rfl,⟨_,aA.of h3⟩,?_⟩;refine kN (xs:=J2.map V.str) (fun i σ H'=>∃x y,σ=[some (.ref l3),some (.ref d),x,y]/\ab H H') ⟨_,_,rfl,ab.refl H⟩ (fun i σ H' _ ⟨_,_,_,S⟩=>aA.of (S _ _ h3)) ?_ ?_
 ·rintro i x σ H' t hi ⟨x2,x3,rfl,S⟩ ht;obtain⟨w,hw,rfl⟩:=bp hi;refine⟨t,_,rfl,aY.of aa,rfl,_,_,rfl,_,_,rfl,rfl,?_⟩;have S2:ab H (upd H' t (.tup [.int i,.str w])):=S.trans (ab.new ht);generalize upd H' t (.tup [.int i,.str w])=H2 at S2 ⊢;have hmem:w∈ps.map (·.1):=by rw[hps];exact bY hw
  obtain⟨⟨r,a⟩,hra,er⟩:=aX.mp hmem;obtain rfl:r=w:=er;obtain⟨L,hLa,hn⟩:=hL _ hra;refine⟨_,rfl,_,rfl,_,rfl,d,.ref a,rfl,.inl ⟨_,.inr r,.inl (S2 _ _ hd),rfl,(eh gQ (by rw[hps];exact nod) hra).symm⟩,a,_,rfl,.inl ⟨_,.inr r,.inl (S2 _ _ hLa),rfl,rfl⟩,_,rfl,?_⟩;rw[dh,zzr0 hn];exact bv ⟨_,_,rfl,S2⟩
 ·rintro σ H' ⟨x,y,rfl,S⟩;exact k H' S
abbrev lk(f:Str)(fs:List (Str×V)):Option V:=fs.lookup f
def df(ds:List am)(r:Str):Bool:=(bm ds r).all fS
structure bL(C:Addr)(H:Hp)(x:Addr)(J0 J1 J2:Zb)(ds:List am):Prop where
 at_:∃(dx:Addr) (fs:List (Str×V)) (o1 o2 o3 o4 lv qu sg sl:Addr) (ts:Ze) (lps:List (Str×Addr)) (gps:List ((Str×List Str)×Addr)) (sps:List (Str×Addr)),
  H x=some (.ins C dx fs)/\lk "is_quiet" fs=none/\lk "goals" fs=none/\lk "led_from" fs=none/\lk "rooms" fs=none /\
  lk "own_asks" fs=some (.ref o1)/\lk "own_says" fs=some (.ref o2)/\lk "own_rooms" fs=some (.ref o3)/\lk "own_doors" fs=some (.ref o4) /\
  lk "leaving" fs=some (.ref lv)/\lk "quiet" fs=some (.ref qu)/\lk "sign_goals" fs=some (.ref sg)/\lk "still_led" fs=some (.ref sl) /\
  Lists H o1 o2 o3 o4 ts J0 J1 J2 ds /\
  lps.map (·.1)=J2/\H lv=some (.dK (dS Sum.inr lps))/\(∀x∈lps,∃us,H x.2=some (.lst (us.map V.ref))/\cn H us (bm ds x.1)) /\
  H qu=some (.dK (aK (J2.filter (df ds))))/\iR H sg gps ds /\
  sps.map (·.1)=J2/\H sl=some (.dK (dS Sum.inr sps))/\(∀x∈sps,∃L,H x.2=some (.dK (aK L))/\L.Nodup/\∀w,w∈L↔Reach ds x.1 w)
 ok:aN J0 J1 J2 ds
 more:∃(dx:Addr) (fs:List (Str×V)),H x=some (.ins C dx fs)/\lk "asks" fs=none/\lk "says" fs=none/\lk "doors" fs=none/\lk "doors_from" fs=none
theorem gu(f:Str)(v:V):∀fs:List (Str×V),(c7 f v fs).length<=fs.length+1
 |[]=>aH _
 | (g,x)::r=>by
  unfold c7;split
  ·exact oq _
  ·rw[em,em];have:=gu f v r;omega
theorem rq:∀(ps qs:List (Str×Addr)),((qs++ps).map (·.1)).Nodup->i0 (dS Sum.inr qs) (dS Sum.inr ps)=dS Sum.inr (qs++ps)
 |[],qs,_=>by rw[dv];rfl
 |p::ps,qs,nd=>by
  show i0 (cX (dS Sum.inr qs) (Sum.inr p.1) (.ref p.2)) (dS Sum.inr ps)=_;have e:qs++p::ps=(qs++[p])++ps:=by simp
  rw[e]at nd ⊢;have hnew:p.1∉qs.map (·.1):=by
   rw[aB,aB,c9]at nd;have:=nd.1;rw[c9]at this;intro z;exact this.2.2 _ z _ (by simp) rfl
  rw[eT _ (lh gQ hnew)];have:=rq ps (qs++[p]) nd;rw[<-this];have e2:dS (Sum.inr:Str->d6) (qs++[p])=dS Sum.inr qs++[(Sum.inr p.1,V.ref p.2)]:=by
   unfold dS;rw[aB];rfl
  rw[e2]
inductive pZ(C:Addr)(vs:List V)(H:Hp)(Q:VK)(E:XK):Prop
 |mk (x dx l1 l2 l3 l4:Addr) (ts:Ze) (J0 J1 J2:Zb) (ds:List am):(vs=[.ref x,.ref l1,.ref l2,.ref l3,.ref l4])->(H x=some (.ins C dx []))->(Lists H l1 l2 l3 l4 ts J0 J1 J2 ds)->(aN J0 J1 J2 ds)->(∀H',bL C H' x J0 J1 J2 ds->cx x H H'->Q .non H')->pZ C vs H Q E
theorem Lists.exI{H H':Hp}{x C dx:Addr}{fs:List (Str×V)}{l1 l2 l3 l4:Addr}{ts:Ze}{J0 J1 J2:Zb}{ds:List am}(h:Lists H l1 l2 l3 l4 ts J0 J1 J2 ds)(hx:H x=some (.ins C dx fs))(e:cx x H H'):Lists H' l1 l2 l3 l4 ts J0 J1 J2 ds:=by
 have ne:∀{b:Addr}{xs:List V},H b=some (.lst xs)->b≠x:=fun hb z=>by rw[z,hx]at hb;cases hb
 exact⟨e _ _ h.a1 (ne h.a1),e _ _ h.a2 (ne h.a2),e _ _ h.a3 (ne h.a3),e _ _ h.a4 (ne h.a4),h.ds.kt fun b xs hb=>e _ _ hb fun z=>by rw[z,hx]at hb;cases hb⟩
theorem cx.ktI{H H':Hp}{x C dx:Addr}{fs:List (Str×V)}(e:cx x H H')(hx:H x=some (.ins C dx fs)):jZ H H':=fun b xs hb=>e _ _ hb fun z=>by rw[z,hx]at hb;cases hb
theorem cx.neI{H:Hp}{x C dx:Addr}{fs:List (Str×V)}(hx:H x=some (.ins C dx fs)){b:Addr}{xs:List V}(hb:H b=some (.lst xs)):b≠x:=fun z=>by rw[z,hx]at hb;cases hb
theorem CP{H:Hp}{x C dx:Addr}{fs:List (Str×V)}(hx:H x=some (.ins C dx fs)){b:Addr}{kvs:List (d6×V)}(hb:H b=some (.dK kvs)):b≠x:=fun z=>by rw[z,hx]at hb;cases hb
theorem Ff{H:Hp}{x C dx:Addr}{fs:List (Str×V)}(hx:H x=some (.ins C dx fs)){b:Addr}{kvs:List (TK×V)}(hb:H b=some (.dT kvs)):b≠x:=fun z=>by rw[z,hx]at hb;cases hb
structure MC(K:Za)(C:Addr):Prop where
 cls:BK K C
 a1:fM K C "own_asks"
 a2:fM K C "own_says"
 a3:fM K C "own_rooms"
 a4:fM K C "own_doors"
 a5:fM K C "leaving"
 a6:fM K C "quiet"
 a7:fM K C "sign_goals"
 a8:fM K C "still_led"
theorem xw{H:Hp}{x C dx:Addr}{fs:List (Str×V)}(f:Str)(y:V)(hx:H x=some (.ins C dx fs)):∃H',H'=upd H x (.ins C dx (c7 f y fs))/\H' x=some (.ins C dx (c7 f y fs))/\cx x H H' :=
 ⟨_,rfl,aa,cx.upd _ _ _⟩
theorem bD{p:Str->Bool}{ws:Zb}{i:Nat}{w:Str}(h:ws[i]?=some w):(ws.take (i+1)).filter p=(ws.take i).filter p++(if p w=true then[w]else[]):=by
 rw[take_snoc h,lT];congr 1;by_cases c:p w=true
 ·rw[if_pos c];simp[c]
 ·rw[if_neg c];simp[c]
theorem yL(ds:List am)(r:Str):(bm ds r).length<=ds.length:=cF _ _
theorem aN.sg0{J0 J1 J2:Zb}{ds:List am}(m:aN J0 J1 J2 ds){r:Str}:∀d∈bm ds r,d.sg≠[]:=by
 intro d hd;have:=m.good d (dO.mp hd).1;rcases this.sg with⟨w,_,e⟩|⟨w,_,e⟩|e<;>rw[e]<;>exact List.cons_ne_nil _ _
theorem Ef{K:Za}{C:Addr}(M:MC K C){vs:List V}{H:Hp}{Q:VK}{E:XK}(h:pZ C vs H Q E):
  mh K sp_need_none sp_first_led_round vm nh (sp_as_keys K) sp_has_asks_alone sp_doors_by_start sp_need_parts (bJ Q) (start mI vs) H:=by
 obtain⟨x,dx,l1,l2,l3,l4,ts,J0,J1,J2,ds,rfl,hx,L,m,k⟩:=h;have z3:=m.rooms26;have z4:=m.few;refine⟨_,rfl,_,rfl,_,rfl,_,rfl,l1,l2,l3,l4,ts,J0,J1,J2,ds,rfl,L,m,fun H1 S1=>?_⟩;have hx1:=S1 _ _ hx;have L1:=L.same S1;have E1:cx x H H1:=ab.exB S1;refine⟨_,rfl,.inl ⟨l1,_,rfl,.inl (aA.of L1.a1),fun o1 ho1=>⟨_,rfl,x,C,dx,_,rfl,kp hx1 ho1,M.cls,M.a1,(by show 0<1000;decide),?_⟩⟩⟩;obtain⟨H2,e2,hx2,F2⟩:=xw "own_asks" (.ref o1) (kp (x:=.lst (J0.map V.str)) hx1 ho1);rw[<-e2];have n1:o1≠x:=(ag hx1 ho1).symm;have f1:=F2 _ _ aa n1;have E2:cx x H1 H2:=(cx.new ho1).trans F2;have L2':=L1.exI hx1 E2;have len2:(c7 ("own_asks":Str) (.ref o1) []).length<=1:=gu _ _ _;clear e2 F2;refine⟨_,rfl,.inl ⟨l2,_,rfl,.inl (aA.of L2'.a2),fun o2 ho2=>⟨_,rfl,x,C,dx,_,rfl,kp hx2 ho2,M.cls,M.a2,by omega,?_⟩⟩⟩;obtain⟨H3,e3,hx3,F3⟩:=xw "own_says" (.ref o2) (kp (x:=.lst (J1.map V.str)) hx2 ho2);rw[<-e3];have n2:o2≠x:=(ag hx2 ho2).symm;have f2:=F3 _ _ aa n2;have E3:cx x H2 H3:=(cx.new ho2).trans F3;have L3:=L2'.exI hx2 E3;have len3:=gu ("own_says":Str) (.ref o2) (c7 ("own_asks":Str) (.ref o1) []);clear e3 F3;refine⟨_,rfl,.inl ⟨l3,_,rfl,.inl (aA.of L3.a3),fun o3 ho3=>⟨_,rfl,x,C,dx,_,rfl,kp hx3 ho3,M.cls,M.a3,by omega,?_⟩⟩⟩;obtain⟨H4,e4,hx4,F4⟩:=xw "own_rooms" (.ref o3) (kp (x:=.lst (J2.map V.str)) hx3 ho3);rw[<-e4];have n3:o3≠x:=(ag hx3 ho3).symm;have f3:=F4 _ _ aa n3;have E4:cx x H3 H4:=(cx.new ho3).trans F4;have L4:=L3.exI hx3 E4;have len4:=gu ("own_rooms":Str) (.ref o3) (c7 ("own_says":Str) (.ref o2) (c7 ("own_asks":Str) (.ref o1) []));clear e4 F4;refine⟨_,rfl,.inl ⟨l4,_,rfl,.inl (aA.of L4.a4),fun o4 ho4=>⟨_,rfl,x,C,dx,_,rfl,kp hx4 ho4,M.cls,M.a4,by omega,?_⟩⟩⟩;obtain⟨H5,e5,hx5,F5⟩:=xw "own_doors" (.ref o4) (kp (x:=.lst (ts.map V.ref)) hx4 ho4);rw[<-e5];have n4:o4≠x:=(ag hx4 ho4).symm;have f4:=F5 _ _ aa n4;have E5:cx x H4 H5:=(cx.new ho4).trans F5;have L5:=L4.exI hx4 E5;generalize hfs4:c7 ("own_doors":Str) (.ref o4) (c7 ("own_rooms":Str) (.ref o3) (c7 ("own_says":Str) (.ref o2) (c7 ("own_asks":Str) (.ref o1) [])))=fs4 at hx5;have len5:fs4.length<=4:=by
  rw[<-hfs4];have:=gu ("own_doors":Str) (.ref o4) (c7 ("own_rooms":Str) (.ref o3) (c7 ("own_says":Str) (.ref o2) (c7 ("own_asks":Str) (.ref o1) [])));omega
 clear e5 F5;refine⟨_,rfl,_,rfl,l3,l4,ts,J2,ds,rfl,L5.a3,L5.a4,L5.ds,m.okR.1,by omega,by omega,fun d hd=>(m.good d hd).a,fun lv lps H6' hlps flv' hlv' S6=>⟨_,rfl,x,C,dx,fs4,rfl,S6 _ _ hx5,M.cls,M.a5,by omega,?_⟩⟩;obtain⟨H6,e6,hx6,F6⟩:=xw "leaving" (.ref lv) (S6 _ _ hx5);rw[<-e6];have E6:cx x H5 H6:=(ab.exB S6).trans F6;have L6:=L5.exI hx5 E6;have flv:=F6 _ _ flv' (CP (S6 _ _ hx5) flv');have hlv:∀y∈lps,∃us,H6 y.2=some (.lst (us.map V.ref))/\cn H6 us (bm ds y.1):=fun y hy=>by
  obtain⟨us,g1,g2⟩:=hlv' y hy;exact⟨us,F6 _ _ g1 (cx.neI (S6 _ _ hx5) g1),g2.kt (F6.ktI (S6 _ _ hx5))⟩
 have ndl:(lps.map (·.1)).Nodup:=by rw[hlps];exact m.okR.1
 have len6:=gu ("leaving":Str) (.ref lv) fs4;have lk5:lk "leaving" (c7 ("leaving":Str) (.ref lv) fs4)=some (.ref lv):=by
  show j7 _ _=_;rw[fm,if_pos rfl]
 clear e6 F6 flv' hlv';refine⟨_,rfl,l3,rfl,⟨_,aA.of L6.a3⟩,fun f hf=>?_⟩;refine bU (xs:=J2.map V.str) (fun i vs H'=>vs=((J2.take i).filter (df ds)).map V.str/\ab H6 H'/\H' f=some (.lst vs)) ⟨rfl,ab.new hf,aa⟩ (fun i vs H' _ ⟨_,S,h'⟩=>⟨h',aA.of (S _ _ L6.a3)⟩) ?_ ?_;rotate_left
 ·rintro i vs H' x' hx' hi ⟨rfl,S,f'⟩;obtain⟨r,hr,rfl⟩:=bp hx';obtain⟨⟨r',a⟩,hra,er⟩:=aX.mp (show r∈lps.map (·.1) by rw[hlps];exact bY hr);obtain rfl:r'=r:=er;obtain⟨us,hus,hdo⟩:=hlv _ hra;refine gN ?_;refine⟨_,rfl,x,C,dx,_,.ref lv,rfl,S _ _ hx6,M.cls,M.a5,lk5,_,rfl,lv,.ref a,rfl,.inl ⟨_,.inr r',.inl (S _ _ flv),rfl,(eh gQ ndl hra).symm⟩,a,us,bm ds r',rfl,S _ _ hus,hdo.kt (ab.kt S),bh (yL _ _) (by omega),m.sg0,fun H'' S''=>⟨_,rfl,?_⟩⟩;have hlen:(((J2.take i).filter (df ds)).map V.str).length<ah:=by
   rw[ai];refine aw (bh (cF _ _) ?_);rw[aD];omega
  refine gP (fun hq=>?_) (fun hq=>?_)
  ·refine⟨_,rfl,S'' _ _ f',hlen,j4 hi ⟨?_,?_,aa⟩⟩
   ·rw[bD hr,if_pos (show df ds r'=true from hq),aB];rfl
   ·intro b o q;rw[aj (ag q hf)];exact S'' _ _ (S _ _ q)
  ·refine j4 hi ⟨?_,S.trans S'',?_⟩
   ·rw[bD hr,if_neg (show ¬df ds r'=true from hq),dv]
   ·exact S'' _ _ f'
 rintro vs H7' ⟨rfl,S7,f7⟩;rw[ai,bf]at f7;refine oU (ws:=J2.filter (df ds)) (aA.of f7) (bh (cF _ _) (by omega)) fun qu hqu=>⟨_,rfl,x,C,dx,_,rfl,kp (S7 _ _ hx6) hqu,M.cls,M.a6,by omega,?_⟩;obtain⟨H7,e7,hx7,F7⟩:=xw "quiet" (.ref qu) (kp (x:=.dK (aK (J2.filter (df ds)))) (S7 _ _ hx6) hqu);rw[<-e7];have n7:qu≠x:=(ag (S7 _ _ hx6) hqu).symm;have fqu:=F7 _ _ aa n7;have E7:cx x H6 H7:=((ab.exB S7).trans (cx.new hqu)).trans F7;have L7:=L6.exI hx6 E7;have len7:=gu ("quiet":Str) (.ref qu) (c7 ("leaving":Str) (.ref lv) fs4);clear e7 F7;refine⟨_,rfl,l4,ts,ds,rfl,L7.a4,L7.ds,by omega,fun sg gps H8' G' S8=>⟨_,rfl,x,C,dx,_,rfl,S8 _ _ hx7,M.cls,M.a7,by omega,?_⟩⟩;obtain⟨H8,e8,hx8,F8⟩:=xw "sign_goals" (.ref sg) (S8 _ _ hx7);rw[<-e8];have E8:cx x H7 H8:=(ab.exB S8).trans F8;have L8:=L7.exI hx7 E8;have G8:iR H8 sg gps ds:=⟨G'.nd,F8 _ _ G'.g (Ff (S8 _ _ hx7) G'.g),fun y hy=>F8 _ _ (G'.ls y hy) (cx.neI (S8 _ _ hx7) (G'.ls y hy)),G'.all⟩;have len8:=gu ("sign_goals":Str) (.ref sg) (c7 ("quiet":Str) (.ref qu) (c7 ("leaving":Str) (.ref lv) fs4));have lk7:lk "sign_goals" (c7 ("sign_goals":Str) (.ref sg) (c7 ("quiet":Str) (.ref qu) (c7 ("leaving":Str) (.ref lv) fs4)))=some (.ref sg):=by
  show j7 _ _=_;rw[fm,if_pos rfl]
 clear e8 F8 G';refine⟨_,rfl,l3,rfl,⟨_,aA.of L8.a3⟩,fun f2' hf2=>?_⟩;refine bU (xs:=J2.map V.str) (fun i vs H'=>∃(us:Ze) (pl:List (Str×Addr)),vs=us.map V.ref/\Paired (fun t (p:Str×Addr)=>H' t=some (.tup [.str p.1,.ref p.2])) us pl/\pl.map (·.1)=J2.take i/\(∀p∈pl,∃L,H' p.2=some (.dK (aK L))/\L.Nodup/\∀w,w∈L↔Reach ds p.1 w)/\ab H8 H'/\H' f2'=some (.lst vs))
  ⟨[],[],rfl,.nil,rfl,by simp,ab.new hf2,aa⟩ (fun i vs H' _ ⟨_,_,_,_,_,_,S,h'⟩=>⟨h',aA.of (S _ _ L8.a3)⟩) ?_ ?_
 rotate_left
 ·rintro i vs H' x' hx' hi ⟨us,pl,rfl,hpa,hpl,hle,S,f'⟩;obtain⟨r,hr,rfl⟩:=bp hx';have hilen:us.length<=150:=by
   rw[Paired.length hpa,<-ai (f:=(·.1)) (as:=pl),hpl,aD];omega
  refine gN (sr ?_);refine⟨_,rfl,_,rfl,x,C,dx,_,.ref sg,rfl,S _ _ hx8,M.cls,M.a7,lk7,_,rfl,sg,r,gps,ds,J2,rfl,G8.same S,fun d hd=>(m.good d hd).b,by omega,fun ld Lr H'' hld nd hLr hfr S''=>⟨(by show 2<=ah;decide),fun t ht=>⟨?_,?_,j4 hi ⟨us++[t],pl++[(r,ld)],?_,?_,?_,?_,?_,aa⟩⟩⟩⟩
  ·exact kp (S'' _ _ f') ht
  ·rw[ai];exact aw (by omega)
  ·rw[aB];rfl
  ·have KT:jZ (upd H'' t (.tup [.str r,.ref ld])) (upd (upd H'' t (.tup [.str r,.ref ld])) f2' (.lst (us.map V.ref++[.ref t]))):=eD (kp (S'' _ _ f') ht);exact Paired.app (Paired.mapP hpa fun t' p' e=>KT _ _ (kp (S'' _ _ e) ht)) (.cons (KT _ _ aa) .nil)
  ·rw[aB,hpl,take_snoc hr];rfl
  ·have ned:∀{b:Addr}{kvs:List (d6×V)},upd H'' t (.tup [.str r,.ref ld]) b=some (.dK kvs)->b≠f2':=fun hb z=>by rw[z,kp (S'' _ _ f') ht]at hb;cases hb
   intro p hp;rcases bN.mp hp with hp|hp
   ·obtain⟨L0,g1,g2⟩:=hle p hp;refine⟨L0,?_,g2⟩;have:=kp (x:=.tup [.str r,.ref ld]) (S'' _ _ g1) ht;rw[aj (ned this)];exact this
   ·have:p=(r,ld):=by simpa using hp
    subst this;refine⟨Lr,?_,nd,hLr⟩;have:=kp (x:=.tup [.str r,.ref ld]) hld ht;rw[aj (ned this)];exact this
  ·intro b o q;rw[aj (ag q hf2)];exact kp (S'' _ _ (S _ _ q)) ht
 rintro vs H9' ⟨us,sps,rfl,hpa,hsps,hled,S9,f9⟩;rw[ai,bf]at hsps;have nds:(sps.map (·.1)).Nodup:=by rw[hsps];exact m.okR.1
 refine⟨f2',us,dS Sum.inr sps,rfl,aA.of f9,?_,?_,fun sl hsl=>⟨_,rfl,x,C,dx,_,rfl,kp (S9 _ _ hx8) hsl,M.cls,M.a8,by omega,?_⟩⟩
 ·rw[Paired.length hpa];unfold dS;rw[ai]
 ·intro j t kv hj hkv;obtain⟨p,hp,e⟩:=Paired.getL hpa hj;unfold dS at hkv;rw[cO,hp]at hkv;have:=ef hkv;rw[<-this];exact e
 have emerge:i0 [] (dS Sum.inr sps)=dS Sum.inr sps:=rq sps [] nds;rw[emerge];obtain⟨H9,e9,hx9,F9⟩:=xw "still_led" (.ref sl) (kp (x:=.dK (dS Sum.inr sps)) (S9 _ _ hx8) hsl);rw[<-e9];have n9:sl≠x:=(ag (S9 _ _ hx8) hsl).symm;have fsl:=F9 _ _ aa n9;have E9:cx x H8 H9:=((ab.exB S9).trans (cx.new hsl)).trans F9;have L9:=L8.exI hx8 E9;have hled9:∀p∈sps,∃L,H9 p.2=some (.dK (aK L))/\L.Nodup/\∀w,w∈L↔Reach ds p.1 w:=fun p hp=>by
  obtain⟨L0,g1,g2⟩:=hled p hp;have g3:=kp (x:=.dK (dS Sum.inr sps)) g1 hsl;exact⟨L0,F9 _ _ g3 (CP (kp (S9 _ _ hx8) hsl) g3),g2⟩
 clear e9 F9;have lk8:lk "still_led" (c7 ("still_led":Str) (.ref sl) (c7 ("sign_goals":Str) (.ref sg) (c7 ("quiet":Str) (.ref qu) (c7 ("leaving":Str) (.ref lv) fs4))))=some (.ref sl):=by
  show j7 _ _=_;rw[fm,if_pos rfl]
 refine⟨_,rfl,_,rfl,x,C,dx,_,.ref sl,rfl,hx9,M.cls,M.a8,lk8,l3,sl,J2,sps,rfl,L9.a3,fsl,hsps,m.okR.1,fun p hp=>?_,fun H10 S10=>⟨_,rfl,k H10 ?_ ?_⟩⟩
 ·obtain⟨L0,g1,g2,g3⟩:=hled9 p hp;exact⟨L0,g1,fun z=>m.noround _ ((g3 _).mp z)⟩
 ·have X69:cx x H6 H9:=(E7.trans E8).trans E9;have X59:=((E6.trans E7).trans E8).trans E9;have Y:∀{b:Addr}{o:HO},H9 b=some o->H10 b=some o:=fun h=>S10 _ _ h;have LL:Lists H5 o1 o2 o3 o4 ts J0 J1 J2 ds:=⟨(E3.trans (E4.trans E5)) _ _ f1 n1,(E4.trans E5) _ _ f2 n2,E5 _ _ f3 n3,f4,L5.ds⟩;refine⟨⟨dx,_,o1,o2,o3,o4,lv,qu,sg,sl,ts,lps,gps,sps,Y hx9,?_,?_,?_,?_,?_,?_,?_,?_,?_,?_,?_,lk8,(LL.exI hx5 X59).same S10,hlps,?_,?_,?_,?_,hsps,Y fsl,fun p hp=>?_⟩,m,⟨dx,_,Y hx9,?_,?_,?_,?_⟩⟩
  rotate_right 9
  ·exact Y (X69 _ _ flv (CP hx6 flv))
  ·intro y hy;obtain⟨us',g1,g2⟩:=hlv y hy;exact⟨us',Y (X69 _ _ g1 (cx.neI hx6 g1)),(g2.kt (X69.ktI hx6)).kt (ab.kt S10)⟩
  ·exact Y ((E8.trans E9) _ _ fqu n7)
  ·exact iR.same ⟨G8.nd,E9 _ _ G8.g (Ff hx8 G8.g),fun y hy=>E9 _ _ (G8.ls y hy) (cx.neI hx8 (G8.ls y hy)),G8.all⟩ S10
  ·obtain⟨L0,g1,g2⟩:=hled9 p hp;exact⟨L0,Y g1,g2⟩
  all_goals(show j7 _ _=_;subst hfs4;repeat (rw[fm];first|rw[if_pos rfl] | rw[if_neg (by decide +kernel)]))
  all_goals rfl
 ·exact((((((((E1.trans E2).trans E3).trans E4).trans E5).trans E6).trans E7).trans E8).trans E9).trans (ab.exB S10)
theorem Dd{K:Za}{a b:Addr}{xs ys:List V}{g:TG}{tb:TS}{D:mK}{σ:L2.St}{H:Hp}(hxy:xs.length=ys.length)(Pv:Nat->L2.St->Hp->Prop)(h0:Pv 0 σ H)(hl:∀i σ H,i<=xs.length->Pv i σ H->aY K H a xs/\aY K H b ys)
  (hs:∀i x y σ H p,xs[i]?=some x->ys[i]?=some y->Pv i σ H->H p=none->g (.ref p) σ (upd H p (.tup [x,y])) fun σ2 H2=>tb { D with nx:=Pv (i+1),ct:=Pv (i+1),bk:=D.nx } σ2 H2) (hd:∀σ H,Pv xs.length σ H->D.nx σ H) :
  ∃W:Nat->Nat->L2.St->Hp->Prop,(∃m,W 0 m σ H)/\∀i m σ H,W i m σ H ->
   ((DB K a b).stop i H/\D.nx σ H)∨((DB K a b).go i H/\∃N:L2.St->Hp->Prop,(∀σ' H',N σ' H'->∃m',m'<m/\W (i+1) m' σ' H')/\∀x H',(DB K a b).yld i H x H'->g x σ H' fun σ2 H2=>tb { D with nx:=N,ct:=N,bk:=D.nx } σ2 H2):=by
 refine⟨fun i m σ H=>m=xs.length-i/\i<=xs.length/\Pv i σ H,⟨xs.length,by simp,dL _,h0⟩,?_⟩;rintro i m σ H ⟨rfl,hi,p⟩;obtain⟨q1,q2⟩:=hl i σ H hi p;by_cases hlt:i<xs.length
 ·have hlt2:i<ys.length:=by omega
  refine .inr ⟨⟨xs,ys,xs[i],ys[i],q1,q2,by simp[hlt],by simp[hlt2]⟩,Pv (i+1),fun σ' H' p'=>⟨xs.length-(i+1),by omega,rfl,hlt,p'⟩,fun x H' y=>?_⟩;obtain⟨t,u,v,rfl,hn,hu,hv,rfl⟩:=y;exact hs i u v σ H t (hu xs q1) (hv ys q2) p hn
 ·have e:i=xs.length:=by omega
  subst e;exact .inl ⟨⟨xs,ys,q1,q2,.inl (aH _)⟩,hd σ H p⟩
theorem Ay(a b:Str):decide (fE a=fE b)=decide (a=b):=by
 by_cases e:a=b
 ·rw[zzr1 e,zzr1 (by rw[e])]
 ·rw[zzr0 e,zzr0 (fun z=>e (np z))]
theorem bL.by{C:Addr}{H H':Hp}{x:Addr}{J0 J1 J2:Zb}{ds:List am}(h:bL C H x J0 J1 J2 ds)
  (hs:∀b ws,H b=some (.lst (List.map V.str ws))->H' b=some (.lst (List.map V.str ws))) (hr:∀b ts,H b=some (.lst (List.map V.ref ts))->H' b=some (.lst (List.map V.ref ts))) (ht:jZ H H')
  (hd:∀b kvs,H b=some (.dK kvs)->H' b=some (.dK kvs)) (hT:∀b kvs,H b=some (.dT kvs)->H' b=some (.dT kvs)) (hi:∀b C dx fs,H b=some (.ins C dx fs)->H' b=some (.ins C dx fs)):bL C H' x J0 J1 J2 ds:=by
 obtain⟨dx,fs,o1,o2,o3,o4,lv,qu,sg,sl,ts,lps,gps,sps,g1,a1,a2,a3,a4,b1,b2,b3,b4,b5,b6,b7,b8,L,c1,c2,c3,c4,G,d1,d2,d3⟩:=h.at_;refine⟨⟨dx,fs,o1,o2,o3,o4,lv,qu,sg,sl,ts,lps,gps,sps,hi _ _ _ _ g1,a1,a2,a3,a4,b1,b2,b3,b4,b5,b6,b7,b8,⟨hs _ _ L.a1,hs _ _ L.a2,hs _ _ L.a3,hr _ _ L.a4,L.ds.kt ht⟩,c1,hd _ _ c2,fun y hy=>?_,hd _ _ c4,⟨G.nd,hT _ _ G.g,fun y hy=>hs _ _ (G.ls y hy),G.all⟩,d1,hd _ _ d2,fun y hy=>?_⟩,h.ok,by obtain⟨dx,fs,g,r⟩:=h.more;exact⟨dx,fs,hi _ _ _ _ g,r⟩⟩
 ·obtain⟨us,e1,e2⟩:=c3 y hy;exact⟨us,hr _ _ e1,e2.kt ht⟩
 ·obtain⟨L0,e1,e2⟩:=d3 y hy;exact⟨L0,hd _ _ e1,e2⟩
theorem bL.same{C:Addr}{H H':Hp}{x:Addr}{J0 J1 J2:Zb}{ds:List am}(h:bL C H x J0 J1 J2 ds)(S:ab H H'):bL C H' x J0 J1 J2 ds :=
 h.by (fun _ _ e=>S _ _ e) (fun _ _ e=>S _ _ e) (ab.kt S) (fun _ _ e=>S _ _ e) (fun _ _ e=>S _ _ e) (fun _ _ _ _ e=>S _ _ e)
theorem bL.ex{C:Addr}{H H':Hp}{x p c:Addr}{J0 J1 J2:Zb}{ds:List am}(h:bL C H x J0 J1 J2 ds)(hp:fo H p c)(S:cx p H H'):bL C H' x J0 J1 J2 ds:=by
 obtain⟨xs,hx⟩:=hp.lst;exact h.by (fun _ _ e=>S _ _ e (hp.ne_strs e)) (fun _ _ e=>S _ _ e (hp.ne_refs e)) (S.kt hx) (fun _ _ e=>S _ _ e (fun z=>by rw[z,hx]at e;cases e)) (fun _ _ e=>S _ _ e (fun z=>by rw[z,hx]at e;cases e)) (fun _ _ _ _ e=>S _ _ e (fun z=>by rw[z,hx]at e;cases e))
inductive gr(C:Addr)(vs:List V)(H:Hp)(Q:VK)(E:XK):Prop
 |mk (x:Addr) (w:Str) (J0 J1 J2:Zb) (ds:List am):(vs=[.ref x,.str w])->(bL C H x J0 J1 J2 ds)->(Q (.bl (decide (w∈J2.filter (df ds)))) H)->gr C vs H Q E
theorem wX{K:Za}{C:Addr}(M:MC K C){vs:List V}{H:Hp}{Q:VK}{E:XK}(h:gr C vs H Q E):mf K (bJ Q) (start mH vs) H:=by
 obtain⟨x,w,J0,J1,J2,ds,rfl,h,k⟩:=h;obtain⟨dx,fs,o1,o2,o3,o4,lv,qu,sg,sl,ts,lps,gps,sps,g1,a1,a2,a3,a4,b1,b2,b3,b4,b5,b6,b7,b8,L,c1,c2,c3,c4,_⟩:=h.at_;refine⟨_,rfl,_,rfl,x,C,dx,fs,.ref qu,rfl,g1,M.cls,M.a6,b6,qu,_,rfl,.inl ⟨_,.inr w,.inl c4,rfl,rfl⟩,?_⟩;rw[dh];exact k
def bH:List Str:=[("hush":Str)]
inductive jE(C:Addr)(vs:List V)(H:Hp)(Q:VK)(E:XK):Prop
 |mk (t l1 l2 l3 l4:Addr) (ts:Ze) (J0 J1 J2:Zb) (ds:List am):(vs=[.ref t])->(fL H t l1 l2 l3 l4 ts J0 J1 J2 ds)->(aN J0 J1 J2 ds)->(∀(x:Addr) (H':Hp),bL C H' x J0 J1 J2 ds->ab H H'->Q (.ref x) H')->jE C vs H Q E
theorem yy{K:Za}{C:Addr}{vs:List V}{H:Hp}{Q:VK}{E:XK}(h:jE C vs H Q E):sB K C (pZ C) (bJ Q) (start tu vs) H:=by
 obtain⟨t,l1,l2,l3,l4,ts,J0,J1,J2,ds,rfl,T,m,k⟩:=h;refine⟨_,rfl,.inr (.inl ⟨t,_,0,_,rfl,rfl,aY.of T.t,rfl,.inl ⟨l1,_,rfl,.inl (aA.of T.a1),fun m1 h1=>?_⟩⟩)⟩;have T1:=T.same (ab.new (o:=.lst (J0.map V.str)) h1);refine⟨_,rfl,.inr (.inl ⟨t,_,1,_,rfl,rfl,aY.of T1.t,rfl,.inl ⟨l2,_,rfl,.inl (aA.of T1.a2),fun m2 h2=>?_⟩⟩)⟩;have T2:=T1.same (ab.new (o:=.lst (J1.map V.str)) h2);refine⟨_,rfl,.inr (.inl ⟨t,_,2,_,rfl,rfl,aY.of T2.t,rfl,.inl ⟨l3,_,rfl,.inl (aA.of T2.a3),fun m3 h3=>?_⟩⟩)⟩;have T3:=T2.same (ab.new (o:=.lst (J2.map V.str)) h3);refine⟨_,rfl,.inr (.inl ⟨t,_,3,_,rfl,rfl,aY.of T3.t,rfl,.inl ⟨l4,_,rfl,.inl (aA.of T3.a4),fun m4 h4=>?_⟩⟩)⟩;have T4:=T3.same (ab.new (o:=.lst (ts.map V.ref)) h4);have S4:=(((ab.new (o:=.lst (J0.map V.str)) h1).trans (ab.new (o:=.lst (J1.map V.str)) h2)).trans (ab.new (o:=.lst (J2.map V.str)) h3)).trans (ab.new (o:=.lst (ts.map V.ref)) h4);refine fun x dx hx hdx hne=>?_;have S5:ab H (upd (upd (upd (upd (upd (upd H m1 (.lst (J0.map V.str))) m2 (.lst (J1.map V.str))) m3 (.lst (J2.map V.str))) m4 (.lst (ts.map V.ref))) dx (.own x)) x (.ins C dx [])) :=
  (S4.trans (ab.new hdx)).trans (ab.new (by rw[aj hne.symm];exact hx))
 have hxx:upd (upd (upd (upd (upd H m1 (.lst (J0.map V.str))) m2 (.lst (J1.map V.str))) m3 (.lst (J2.map V.str))) m4 (.lst (ts.map V.ref))) dx (.own x) x=none:=by rw[aj hne.symm];exact hx
 refine⟨x,dx,m1,m2,m3,m4,ts,J0,J1,J2,ds,rfl,aa,⟨?_,?_,?_,?_,T.ds.kt (ab.kt S5)⟩,m,fun H' M ex=>⟨rfl,k x H' M fun b o q=>?_⟩⟩
 ·exact kp (kp (kp (kp (kp aa h2) h3) h4) hdx) hxx
 ·exact kp (kp (kp (kp aa h3) h4) hdx) hxx
 ·exact kp (kp (kp aa h4) hdx) hxx
 ·exact kp (kp aa hdx) hxx
 ·have hq:=S5 _ _ q;exact ex _ _ hq (ag (S4.trans (ab.new hdx) _ _ q) hxx)
def eC(ds:List am):List Str:=(ds.filter fun d=>!fS d).map (·.a)
theorem qY(ds:List am)(r:Str):df ds r=decide (r∉eC ds):=by
 unfold df eC bm;rw[p_,uK,decide_eq_true_iff];constructor
 ·intro h z;obtain⟨d,hd,rfl⟩:=aX.mp z;rw[dO]at hd;have:=h d (dO.mpr ⟨hd.1,zzr1 rfl⟩);rw[this]at hd;exact absurd hd.2 (by decide)
 ·intro h d hd;rw[dO]at hd;cases q:fS d with
  |true=>rfl
  |false =>
   refine absurd (aX.mpr ⟨d,dO.mpr ⟨hd.1,by rw[q];rfl⟩,?_⟩) h;exact of_decide_eq_true hd.2
theorem lg{w:Str}{ws:Zb}:fE w∈ws.map fE↔w∈ws:=by
 constructor
 ·intro h;obtain⟨x,hx,e⟩:=aX.mp h;rw[<-np e];exact hx
 ·exact nV
def u5(K:Za)(C_Machine:Addr)(sp_Machine_rooms:Sp)(sp_Machine_led_from:Sp):TS :=
 ap (aS (ml) U2)
 (ap (de (bV K V1) U3 (bB (tB (dD K V3 V2)) (ap (iJ V2 V3 (tC (.bl true)))
 (de (bV K (dw C_Machine "led_from" sp_Machine_led_from [] E0 V0 (aG V3))) U4 (iJ V2 V4 (tC (.bl true))))) (aR)))
 (aU (cK (qW K) (aG (cN 1 [2] (bV K (dw C_Machine "rooms" sp_Machine_rooms [] E0 V0 a_)) U0 (tB (sM K V0 V1)) V0)))))
def v2:List Str:=["M","rooms","found","room","led"]
def pH(K:Za):TS :=
 aU (cK (cW K) (aG (qJ K V0 "own_rooms")))
def pT:List Str:=["self"]
def me(K:Za):TS :=
 aU (cK (cW K) (aG (qQ K (qJ K V0 "still_led") V1 (bd (a_)))))
def mG:List Str:=["self","room"]
def pI(K:Za):TS :=
 aU (cK (cW K) (aG (qQ K (qJ K V0 "sign_goals") (bd (aI V1 V2)) (bd (a_)))))
def pU:List Str:=["self","room","sign"]
def qD(K:Za):TS :=
 ap (aS (cK (cW K) (aG V1)) U2)
 (ap (aS (tC (.int 0)) U3)
 (ap (ye (aF (ay Cw V3 (cK (dP K) (aG V2)))) (ap (de (bV K V0) (gw K 3 (bc U4 (bc U5 (bc U6 (f6))))) (bB (iV (aF (ay (jG K) V4 (ay (iM K) V2 V3))) (iV (aF (ay (jG K) V5 (bd (aG (tC (.str "still")))))) (aF (ay (ny K true) V6 V2)))) (cb (vj K "list" dE V2 (aG V6))) (aR)))
 (aS (ay dz V3 (tC (.int 1))) U3)))
 (aU V2)))
def rY:List Str:=["doors","rooms","found","at","room","sign","other"]
inductive gp(C:Addr)(vs:List V)(H:Hp)(Q:VK)(E:XK):Prop
 |mk (x:Addr) (J0 J1 J2:Zb) (ds:List am):(vs=[.ref x])->(bL C H x J0 J1 J2 ds)->(∀l,H l=none->Q (.ref l) (upd H l (.lst (J2.map V.str))))->gp C vs H Q E
theorem Cm{K:Za}{C:Addr}(M:MC K C){vs:List V}{H:Hp}{Q:VK}{E:XK}(h:gp C vs H Q E):pH K (bJ Q) (start pT vs) H:=by
 obtain⟨x,J0,J1,J2,ds,rfl,h,k⟩:=h;obtain⟨dx,fs,o1,o2,o3,o4,lv,qu,sg,sl,ts,lps,gps,sps,g1,a1,a2,a3,a4,b1,b2,b3,b4,b5,b6,b7,b8,L,_⟩:=h.at_;exact⟨_,rfl,x,C,dx,fs,.ref o3,rfl,g1,M.cls,M.a3,b3,.inl ⟨o3,_,rfl,.inl (aA.of L.a3),k⟩⟩
theorem xn:∀{L:Zb},L.Nodup->(aK L).map (fun kv=>kV kv.1)=L.map V.str:=by
 intro L;refine jb (fun L=>L.Nodup->(aK L).map (fun kv=>kV kv.1)=L.map V.str) (fun _=>rfl) (fun ws w ih nd=>?_) L;rw[c9]at nd;have hn:bO (aK ws) (.inr w)=none:=by
  rw[rC,if_neg (fun z=>nd.2.2 w z w (by simp) rfl)]
 show(aK (ws++[w])).map _=_;rw[cT,eT _ hn,aB,ih nd.1,aB]
 rfl
inductive gq(C:Addr)(vs:List V)(H:Hp)(Q:VK)(E:XK):Prop
 |mk (x:Addr) (r:Str) (J0 J1 J2:Zb) (ds:List am):(vs=[.ref x,.str r])->(bL C H x J0 J1 J2 ds)->(r∈J2)->(∀(l:Addr) (L:Zb) (H':Hp),H' l=some (.lst (L.map V.str))->L.Nodup->(∀w,w∈L↔Reach ds r w)->H l=none->ab H H'->Q (.ref l) H')->gq C vs H Q E
theorem wW{K:Za}{C:Addr}(M:MC K C){vs:List V}{H:Hp}{Q:VK}{E:XK}(h:gq C vs H Q E):me K (bJ Q) (start mG vs) H:=by
 obtain⟨x,r,J0,J1,J2,ds,rfl,h,hr,k⟩:=h;obtain⟨dx,fs,o1,o2,o3,o4,lv,qu,sg,sl,ts,lps,gps,sps,g1,a1,a2,a3,a4,b1,b2,b3,b4,b5,b6,b7,b8,L,c1,c2,c3,c4,G,d1,d2,d3⟩:=h.at_;have nod:=h.ok.okR.1;obtain⟨⟨r',a⟩,hra,er⟩:=aX.mp (show r∈sps.map (·.1) by rw[d1];exact hr);obtain rfl:r'=r:=er;obtain⟨L0,e1,e2,e3⟩:=d3 _ hra;refine⟨_,rfl,x,C,dx,fs,.ref sl,rfl,g1,M.cls,M.a8,b8,sl,rfl,.inl ⟨_,.inl d2⟩,_,rfl,(by show 0<=ah;decide),fun et het=>⟨_,.inl ⟨_,.inr r',.inl (kp d2 het),rfl,rfl⟩,?_⟩⟩;rw[eh gQ (by rw[d1];exact nod) hra];refine .inr ⟨a,_,rfl,.inl (kp e1 het),fun l hl=>k l L0 _ ?_ e2 e3 ((ab.new het).free hl) ((ab.new het).trans (ab.new hl))⟩;rw[aa,xn e2]
inductive g0(C:Addr)(vs:List V)(H:Hp)(Q:VK)(E:XK):Prop
 |mk (x s:Addr) (r:Str) (sg J0 J1 J2:Zb) (ds:List am):(vs=[.ref x,.str r,.ref s])->(bL C H x J0 J1 J2 ds)->(H s=some (.tup (sg.map V.str)))->(∀(l:Addr) (H':Hp),H' l=some (.lst ((bz ds (r,sg)).map V.str))->H l=none->ab H H'->Q (.ref l) H')->g0 C vs H Q E
theorem Bb{K:Za}{C:Addr}(M:MC K C){vs:List V}{H:Hp}{Q:VK}{E:XK}(h:g0 C vs H Q E):pI K (bJ Q) (start pU vs) H:=by
 obtain⟨x,s,r,sgn,J0,J1,J2,ds,rfl,h,hs,k⟩:=h;obtain⟨dx,fs,o1,o2,o3,o4,lv,qu,sg,sl,ts,lps,gps,sps,g1,a1,a2,a3,a4,b1,b2,b3,b4,b5,b6,b7,b8,L,c1,c2,c3,c4,G,d1,d2,d3⟩:=h.at_;have nod:=h.ok.okR.1;refine⟨_,rfl,x,C,dx,fs,.ref sg,rfl,g1,M.cls,M.a7,b7,sg,rfl,.inr ⟨_,.inl G.g⟩,_,rfl,_,rfl,(by show 2<=ah;decide),fun kt hkt=>⟨(by show 0<=ah;decide),fun et het=>⟨bO (dS sm gps) (sm (r,sgn)),.inr ⟨_,sm (r,sgn),kt,.inl (kp (kp G.g hkt) het),rfl,?_,lc _,rfl⟩,?_⟩⟩⟩
 ·refine fq.isIn 8 (lc _) ?_;unfold sm fq;refine⟨kt,_,rfl,kp aa het,?_⟩;unfold TKAts;refine⟨_,_,rfl,qA _,?_⟩;unfold TKAts;refine⟨_,_,rfl,SignAt.tk (kp (kp hs hkt) het),?_⟩;unfold TKAts
  rfl
 have S2:ab H (upd (upd H kt (.tup [.str r,.ref s])) et (.tup [])):=(ab.new hkt).trans (ab.new het);by_cases hmem:(r,sgn)∈gps.map (·.1)
 ·obtain⟨⟨y,a⟩,hra,er⟩:=aX.mp hmem;obtain rfl:y=(r,sgn):=er;rw[eh gM G.nd hra];exact .inl ⟨a,_,rfl,.inl (aA.of (S2 _ _ (G.ls _ hra))),fun l hl=>k l _ aa (S2.free hl) (S2.trans (ab.new hl))⟩
 ·rw[lh gM hmem];have hnil:bz ds (r,sgn)=[]:=kM fun y hy z=>hmem (by rw[<-z];exact G.all y hy);refine .inl ⟨et,[],rfl,.inr (aY.of aa),fun l hl=>k l _ ?_ (S2.free hl) (S2.trans (ab.new hl))⟩;rw[hnil];exact aa
theorem Reach.trans{ds:List am}{a b c:Str}(h1:Reach ds a b)(h2:Reach ds b c):Reach ds a c:=by
 induction h2 with
 |one h=>exact .step h1 h
 |step r h ih=>exact .step ih h
def f8(ds:List am)(gs:Zb)(w:Str):Prop:=∃g∈gs,w=g∨Reach ds g w
theorem f8.in_{ds:List am}{gs J2:Zb}{w:Str}(hg:∀g∈gs,g∈J2)(hd:∀d∈ds,d.b∈J2)(h:f8 ds gs w):w∈J2:=by
 obtain⟨g,h1,rfl|h2⟩:=h
 ·exact hg _ h1
 ·exact h2.in_ hd
def pS(F:Zb)(w:Str):List Str:=if w∈F then F else F++[w]
theorem xm(F:Zb):∀kv∈aK F,kv.2=.bl true:=by
 refine jb (fun F=>∀kv∈aK F,kv.2=.bl true) (by intro kv h;cases h) (fun ws w ih=>?_) F;intro kv hkv;rw[cT]at hkv;unfold cX at hkv;split at hkv
 ·obtain⟨x,hx,rfl⟩:=aX.mp hkv;split
  ·rfl
  ·exact ih x hx
 ·rcases bN.mp hkv with h|h
  ·exact ih kv h
  ·have:kv=(.inr w,.bl true):=by simpa using h
   rw[this]
theorem rD(F:Zb)(w:Str):cX (aK F) (.inr w) (.bl true)=aK (pS F w):=by
 unfold pS;by_cases c:w∈F
 ·rw[if_pos c];have h1:((aK F).any fun kv=>decide (kv.1=(.inr w:d6)))=true:=by
   rw[i_,dh,zzr1 c]
  unfold cX;rw[if_pos h1];have:∀l:List (d6×V),(∀kv∈l,kv.2=.bl true)->l.map (fun kv=>if kv.1=(.inr w:d6)then(kv.1,V.bl true)else kv)=l:=by
   intro l
   induction l with
   |nil=>intro _;rfl
   |cons x l ih =>
    intro h;rw[bI,ih fun kv hkv=>h kv (fw _ hkv)];congr 1;split
    ·rw[<-h x fx]
    ·rfl
  exact this _ (xm F)
 ·rw[if_neg c,cT]
theorem rV{F:Zb}(h:F.Nodup)(w:Str):(pS F w).Nodup:=by
 unfold pS;split
 ·exact h
 ·next c =>
  rw[c9];refine⟨h,by simp,fun a ha b hb e=>?_⟩;have:b=w:=by simpa using hb
  exact c (by rw[<-this,<-e];exact ha)
theorem xk{F:Zb}{w y:Str}:y∈pS F w↔y∈F∨y=w:=by
 unfold pS;split
 ·next c=>exact⟨.inl,fun h=>h.elim id fun e=>by rw[e];exact c⟩
 ·rw[bN];simp
inductive sp_with_still(C:Addr)(vs:List V)(H:Hp)(Q:VK)(E:XK):Prop
 |mk (x l:Addr) (gs J0 J1 J2:Zb) (ds:List am):(vs=[.ref x,.ref l])->(bL C H x J0 J1 J2 ds)->(H l=some (.lst (gs.map V.str)))->((∀g∈gs,g∈J2))->(∀(t:Addr) (F:Zb) (H':Hp),H' t=some (.tup ((J2.filter fun r=>decide (r∈F)).map V.str))->(∀w,w∈F↔f8 ds gs w)->ab H H'->Q (.ref t) H')->sp_with_still C vs H Q E
theorem sP{K:Za}{C:Addr}{vs:List V}{H:Hp}{Q:VK}{E:XK}(h:sp_with_still C vs H Q E):u5 K C (gp C) (gq C) (bJ Q) (start v2 vs) H:=by
 obtain⟨x,l,gs,J0,J1,J2,ds,rfl,M,hl,hg,k⟩:=h;have hdb:∀d∈ds,d.b∈J2:=fun d hd=>(M.ok.good d hd).b;have z3:=M.ok.rooms26;refine fun d hd=>?_;refine⟨_,rfl,l,rfl,⟨_,aA.of (kp hl hd)⟩,?_⟩;refine bW (xs:=gs.map V.str) (fun i σ H'=>∃(F:Zb) (x3 x4:Option V),σ=[some (.ref x),some (.ref l),some (.ref d),x3,x4]/\H' d=some (.dK (aK F))/\ab H H'/\F.Nodup/\∀w,w∈F↔f8 ds (gs.take i) w)
  ⟨[],_,_,rfl,aa,ab.new hd,qq,fun w=>⟨fun h=>(by cases h),fun⟨g,h,_⟩=>(by cases h)⟩⟩ (fun i σ H' _ ⟨_,_,_,_,_,S,_⟩=>aA.of (S _ _ hl)) ?_ ?_
 ·rintro i y σ H1 hi ⟨F,x3,x4,rfl,hd1,S1,nd,hF⟩;obtain⟨r,hr,rfl⟩:=bp hi;have hrm:r∈J2:=hg r (bY hr);have hsub:∀w∈F,w∈J2:=fun w hw=>((hF w).mp hw).in_ (fun g hg'=>hg g (fT hg')) hdb;refine⟨_,rfl,_,rfl,d,_,rfl,.inl ⟨_,.inr r,.inl hd1,rfl,rfl⟩,_,rfl,?_⟩;rw[dh];have hstep:∀w,f8 ds (gs.take (i+1)) w↔(f8 ds (gs.take i) w∨w=r∨Reach ds r w):=by
   intro w;rw[take_snoc hr];constructor
   ·rintro⟨g,hg',h⟩;rcases bN.mp hg' with hg'|hg'
    ·exact .inl ⟨g,hg',h⟩
    ·have:g=r:=by simpa using hg'
     subst this;exact .inr h
   ·rintro(⟨g,hg',h⟩|h)
    ·exact⟨g,dq _ hg',h⟩
    ·exact⟨r,d_ _ (by simp),h⟩
  by_cases c:r∈F
  ·rw[zzr1 c];refine bv ⟨F,_,_,rfl,hd1,S1,nd,fun w=>?_⟩;rw[hstep,hF];refine⟨.inl,fun h=>h.elim id fun h=>?_⟩;obtain⟨g,hg',hgr⟩:=(hF r).mp c;rcases h with h|h
   ·rw[h];exact⟨g,hg',hgr⟩
   ·refine⟨g,hg',.inr ?_⟩;rcases hgr with e|hgr
    ·rw[<-e];exact h
    ·exact hgr.trans h
  ·rw[zzr0 c];refine b0 ?_;have hlen:∀{F:Zb},F.Nodup->(∀w∈F,w∈J2)->(aK F).length<ah:=fun nd hs=>aw (bh (io _) (bh (jf nd hs) (by omega)));refine⟨_,rfl,_,rfl,d,_,rfl,.inl ⟨_,.inr r,hd1,rfl,hlen nd hsub,rfl⟩,?_⟩;rw[rD];have S2:ab H (upd H1 d (.dK (aK (pS F r)))):=fun b o q=>by rw[aj (ag q hd)];exact S1 _ _ q
   have hd2:upd H1 d (.dK (aK (pS F r))) d=some (.dK (aK (pS F r))):=aa;generalize upd H1 d (.dK (aK (pS F r)))=H2 at S2 hd2 ⊢;have M2:=M.same S2;obtain⟨dx,fs,o1,o2,o3,o4,lv,qu,sg,sl,ts,lps,gps,sps,g1,a1,a2,a3,a4,_⟩:=M2.at_;refine⟨_,rfl,x,dx,fs,rfl,g1,a3,_,rfl,x,r,J0,J1,J2,ds,rfl,M2,hrm,fun ll L H3 hll ndL hL frl S3=>⟨ll,rfl,⟨_,aA.of hll⟩,?_⟩⟩;have hd3:=S3 _ _ hd2;have llH:H ll=none:=S2.free frl;have lld:ll≠d:=fun z=>by rw[z,hd2]at frl;cases frl
   refine bW (xs:=L.map V.str) (fun j σ H'=>∃(F':Zb) (x4:Option V),σ=[some (.ref x),some (.ref l),some (.ref d),some (.str r),x4]/\H' d=some (.dK (aK F'))/\H' ll=some (.lst (L.map V.str))/\ab H H'/\F'.Nodup/\∀w,w∈F'↔(f8 ds (gs.take i) w∨w=r∨w∈L.take j))
    ⟨pS F r,_,rfl,hd3,hll,S2.trans S3,rV nd r,fun w=>?_⟩ (fun j σ H' _ ⟨_,_,_,_,h,_⟩=>aA.of h) ?_ ?_
   ·rw[xk,hF];simp
   ·rintro j y σ H4 hj ⟨F',x4',rfl,hd4,hll4,S4,nd4,hF4⟩;obtain⟨v,hv,rfl⟩:=bp hj;have hsub4:∀w∈F',w∈J2:=by
     intro w hw;rcases(hF4 w).mp hw with h|h|h
     ·exact h.in_ (fun g hg'=>hg g (fT hg')) hdb
     ·rw[h];exact hrm
     ·exact((hL w).mp (fT h)).in_ hdb
    refine⟨_,rfl,_,rfl,d,_,rfl,.inl ⟨_,.inr v,hd4,rfl,hlen nd4 hsub4,rfl⟩,pS F' v,_,rfl,?_,?_,?_,rV nd4 v,fun w=>?_⟩
    ·rw[aa,rD]
    ·rw[aj lld];exact hll4
    ·intro b o q;rw[aj (ag q hd)];exact S4 _ _ q
    ·rw[xk,hF4,take_snoc hv,bN];simp only[cz];constructor
     ·rintro((h|h|h)|h)
      ·exact .inl h
      ·exact .inr (.inl h)
      ·exact .inr (.inr (.inl h))
      ·exact .inr (.inr (.inr h))
     ·rintro(h|h|h|h)
      ·exact .inl (.inl h)
      ·exact .inl (.inr (.inl h))
      ·exact .inl (.inr (.inr h))
      ·exact .inr h
   ·rintro σ H4 ⟨F',x4',rfl,hd4,hll4,S4,nd4,hF4⟩;rw[ai,bf]at hF4;refine⟨F',_,_,rfl,hd4,S4,nd4,fun w=>?_⟩;rw[hstep,hF4,hL]
 ·rintro σ H1 ⟨F,x3,x4,rfl,hd1,S1,nd,hF⟩;rw[ai,bf]at hF;have M1:=M.same S1;obtain⟨dx,fs,o1,o2,o3,o4,lv,qu,sg,sl,ts,lps,gps,sps,g1,a1,a2,a3,a4,_⟩:=M1.at_;refine⟨_,rfl,x,dx,fs,rfl,g1,a4,x,J0,J1,J2,ds,rfl,M1,fun rl hrl=>⟨rl,rfl,⟨_,aA.of aa⟩,fun f hf=>?_⟩⟩;have S2:ab H (upd H1 rl (.lst (J2.map V.str))):=S1.trans (ab.new hrl);have hd2:upd H1 rl (.lst (J2.map V.str)) d=some (.dK (aK F)):=kp hd1 hrl;have hrl2:upd H1 rl (.lst (J2.map V.str)) rl=some (.lst (J2.map V.str)):=aa;generalize upd H1 rl (.lst (J2.map V.str))=H2 at S2 hd2 hrl2 hf ⊢;refine bU (xs:=J2.map V.str) (fun i vs H'=>vs=((J2.take i).filter fun r=>decide (r∈F)).map V.str/\ab H2 H'/\H' f=some (.lst vs)) ⟨rfl,ab.new hf,aa⟩ (fun i vs H' _ ⟨_,S,h'⟩=>⟨h',aA.of (S _ _ hrl2)⟩) ?_ ?_
  ·rintro vs H' ⟨rfl,S,f'⟩;rw[ai,bf]at f';exact⟨f,_,rfl,.inl ⟨aA.of f',fun t ht=>k t F _ aa hF (S2.trans (S.trans (ab.new ht)))⟩⟩
  ·rintro i vs H' x' hx' hi ⟨rfl,S,f'⟩;obtain⟨r,hr,rfl⟩:=bp hx';refine gN ?_;refine⟨_,rfl,_,rfl,d,_,rfl,.inl ⟨_,.inr r,.inl (S _ _ hd2),rfl,rfl⟩,_,rfl,?_⟩;rw[dh];have hlen:(((J2.take i).filter fun r=>decide (r∈F)).map V.str).length<ah:=by
    rw[ai];refine aw (bh (cF _ _) ?_);rw[aD];omega
   refine gP (fun hq=>?_) (fun hq=>?_)
   ·refine⟨_,rfl,f',hlen,j4 hi ⟨?_,?_,aa⟩⟩
    ·rw[bD hr,if_pos hq,aB];rfl
    ·intro b o q;rw[aj (ag q hf)];exact S _ _ q
   ·refine j4 hi ⟨?_,S,f'⟩;rw[bD hr,if_neg hq,dv]
inductive eA(K:Za)(vs:List V)(H:Hp)(Q:VK)(E:XK):Prop
 |mk (l4 l:Addr) (ts:Ze) (ds:List am) (gs J2:Zb):(vs=[.ref l4,.ref l])->(H l4=some (.lst (ts.map V.ref)))->(cn H ts ds)->(H l=some (.lst (gs.map V.str)))->((∀d∈ds,d.b∈J2))->(J2.length<=1000)->(gs.length<=1000)->(∀(f:Addr) (F:Zb) (H':Hp),H' f=some (.lst (F.map V.str))->(∀w,w∈F↔f8 ds gs w)->F.length<=2000->H f=none->ab H H'->Q (.ref f) H')->eA K vs H Q E
structure SO(H0 H:Hp)(ds:List am)(gs:Zb)(f:Addr)(X:Zb):Prop where
 f:H f=some (.lst ((gs++X).map V.str))
 same:ab H0 H
 nd:X.Nodup
 new:∀y∈X,y∉gs
 sound:∀y∈X,f8 ds gs y
theorem f8.step{ds:List am}{gs:Zb}{a b:Str}(h:f8 ds gs a)(e:(⟨a,ar,b⟩:am)∈ds):f8 ds gs b:=by
 obtain⟨g,hg,rfl|h⟩:=h
 ·exact⟨_,hg,.inr (.one e)⟩
 ·exact⟨g,hg,.inr (.step h e)⟩
theorem cV(a b:Zb):decide (gB a=gB b)=decide (a=b):=by
 by_cases e:a=b
 ·rw[zzr1 e,zzr1 (by rw[e])]
 ·rw[zzr0 e,zzr0 (fun z=>e (As z))]
theorem wS{K:Za}{vs:List V}{H:Hp}{Q:VK}{E:XK}(h:eA K vs H Q E):qD K (bJ Q) (start rY vs) H:=by
 obtain⟨l4,l,ts,ds,gs,J2,rfl,h4,hds,hl,hin,hz,hz2,k⟩:=h;refine⟨_,rfl,.inl ⟨l,_,rfl,.inl (aA.of hl),fun f hf=>?_⟩⟩;have lenX:∀{X:Zb},X.Nodup->(∀y∈X,y∉gs)->(∀y∈X,f8 ds gs y)->X.length<=J2.length:=fun nd nw sd=>jf nd fun y hy=>by
  obtain⟨g,hg,e|h⟩:=sd y hy
  ·exact absurd (by rw[e];exact hg) (nw y hy)
  ·exact h.in_ hin
 refine⟨fun m σ H'=>∃(X:Zb) (at_:Nat) (x y z:Option V),σ=[some (.ref l4),some (.ref l),some (.ref f),some (.int at_),x,y,z]/\SO H H' ds gs f X/\at_<=(gs++X).length/\(∀i y,i<at_->(gs++X)[i]?=some y->∀c,(⟨y,ar,c⟩:am)∈ds->c∈gs++X)/\m=gs.length+J2.length-at_,
  ⟨_,[],0,_,_,_,rfl,⟨by rw[dv];exact aa,ab.new hf,qq,by simp,by simp⟩,dL _,fun i y h=>by omega,rfl⟩,?_⟩
 rintro m σ H1 ⟨X,at_,x4,x5,x6,rfl,D,hat,hcl,rfl⟩;have hXl:=lenX D.nd D.new D.sound;refine⟨_,rfl,_,rfl,.inl ⟨f,_,rfl,.inl (aA.of D.f),_,_,rfl,rfl,_,rfl,?_⟩⟩;refine gP (fun hlt=>?_) (fun hlt=>?_)
 ·have hlt':at_<(gs++X).length:=by
   have:=of_decide_eq_true hlt;rw[ai]at this;omega
  have hat0:at_<gs.length+J2.length:=by rw[aO]at hlt';omega
  generalize hhere:(gs++X)[at_]=here;have hget:(gs++X)[at_]?=some here:=by rw[<-hhere];exact h_ hlt'
  have hfrom:∀{Y:Zb}{y:Str},(∀y∈Y,f8 ds gs y)->y∈gs++Y->f8 ds gs y:=fun sd hy=>by
   rcases bN.mp hy with hy|hy
   ·exact⟨_,hy,.inl rfl⟩
   ·exact sd _ hy
  refine⟨fun σ' H'=>∃(X':Zb) (x y z:Option V),σ'=[some (.ref l4),some (.ref l),some (.ref f),some (.int ((at_+1:Nat):Int)),x,y,z]/\SO H H' ds gs f X'/\at_+1<=(gs++X').length/\(∀i y,i<at_+1->(gs++X')[i]?=some y->∀c,(⟨y,ar,c⟩:am)∈ds->c∈gs++X'),
   fun σ' H' ⟨X',x,y,z,e,D',h1,h2⟩=>⟨_,(by omega:gs.length+J2.length-(at_+1)<gs.length+J2.length-at_),X',at_+1,x,y,z,e,D',h1,h2,rfl⟩,?_⟩
  refine⟨_,rfl,l4,rfl,⟨_,aA.of (D.same _ _ h4)⟩,?_⟩;refine bW (xs:=ts.map V.ref) (fun j σ H'=>∃(X' Y:Zb) (x y z:Option V),σ=[some (.ref l4),some (.ref l),some (.ref f),some (.int at_),x,y,z]/\X'=X++Y/\SO H H' ds gs f X'/\∀d∈ds.take j,d.a=here->d.sg=ar->d.b∈gs++X')
   ⟨X,[],_,_,_,rfl,by simp,D,by simp⟩ (fun j σ H' _ ⟨_,_,_,_,_,_,_,D',_⟩=>aA.of (D'.same _ _ h4)) ?_ ?_
  ·rintro j y σ H2 hj ⟨X',Y,x4',x5',x6',rfl,rfl,D2,hdone⟩;obtain⟨t,ht,rfl⟩:=cg hj;obtain⟨dr,hdr,hatd⟩:=Paired.getL hds ht;obtain⟨s,ht2,hs2⟩:=hatd.kt (ab.kt D2.same);have hmem:=bY hdr;have hXl2:=lenX D2.nd D2.new D2.sound;have hget2:(gs++(X++Y))[at_]?=some here:=by
    rw[<-eN,qw hlt'];exact hget
   refine⟨t,_,rfl,aY.of ht2,rfl,_,_,rfl,_,_,rfl,_,_,rfl,rfl,?_⟩;have nextI:∀(H3:Hp) (X3 Y3:Zb) (q4 q5 q6:Option V),X3=X++Y3->SO H H3 ds gs f X3->(∀y∈X++Y,y∈X3)->(dr.a=here->dr.sg=ar->dr.b∈gs++X3) ->
     ∃(X' Y:Zb) (x y z:Option V),[some (.ref l4),some (.ref l),some (.ref f),some (.int at_),q4,q5,q6]=[some (.ref l4),some (.ref l),some (.ref f),some (.int at_),x,y,z]/\X'=X++Y/\SO H H3 ds gs f X'/\∀d∈ds.take (j+1),d.a=here->d.sg=ar->d.b∈gs++X':=by
    intro H3 X3 Y3 q4 q5 q6 e D3 hsub hnew;refine⟨X3,Y3,q4,q5,q6,rfl,e,D3,fun d hd e1 e2=>?_⟩;rw[take_snoc hdr]at hd;rcases bN.mp hd with hd|hd
    ·rcases bN.mp (hdone d hd e1 e2)with h|h
     ·exact dq _ h
     ·exact d_ _ (hsub _ h)
    ·have:d=dr:=by simpa using hd
     subst this;exact hnew e1 e2
   refine⟨_,rfl,_,rfl,_,rfl,.inl ⟨f,_,_,_,rfl,rfl,aA.of D2.f,bQ (j:=at_) (by rw[cO,hget2];rfl),fE dr.a,fE here,iu _,iu _,(by show 0<=8;decide),(by show 0<=8;decide),_,rfl,?_⟩⟩;rw[Ay];by_cases c1:dr.a=here;rotate_left
   ·rw[zzr0 c1];exact bv (bv (nextI H2 _ _ _ _ _ rfl D2 (fun _ h=>h) fun e=>absurd e c1))
   rw[zzr1 c1];refine b0 ?_;refine⟨_,rfl,(by show 1<=ah;decide),fun st hst=>⟨gB dr.sg,gB ar,aL (aY.of (kp hs2 hst)),aL (aY.of aa),by rw[aZ];decide,by rw[aZ];decide,_,rfl,?_⟩⟩;rw[cV];have D3:SO H (upd H2 st (.tup [.str "still"])) ds gs f (X++Y):=⟨kp D2.f hst,D2.same.trans (ab.new hst),D2.nd,D2.new,D2.sound⟩;have hstS:H st=none:=D2.same.free hst;generalize upd H2 st (.tup [.str "still"])=H3 at D3 ⊢;by_cases c2:dr.sg=ar;rotate_left
   ·rw[zzr0 c2];exact bv (bv (nextI H3 _ _ _ _ _ rfl D3 (fun _ h=>h) fun _ e=>absurd e c2))
   rw[zzr1 c2];refine b0 ?_;refine⟨_,rfl,_,rfl,fE dr.b,(gs++(X++Y)).map fE,f,_,iu _,rfl,.inl (aA.of D3.f),ir _,(by show 0<=8;decide),by rw[dk];decide,_,rfl,?_⟩;rw[if_pos rfl];by_cases c3:dr.b∈gs++(X++Y)
   ·rw[zzr1 (lg.mpr c3)];exact bv (nextI H3 _ _ _ _ _ rfl D3 (fun _ h=>h) fun _ _=>c3)
   rw[zzr0 (fun z=>c3 (lg.mp z))];refine b0 ?_;refine⟨_,rfl,.inl ⟨rfl,_,aA.of D3.f⟩,_,rfl,f,_,_,rfl,rfl,D3.f,by rw[ai,aO];exact fX (by omega),?_⟩;have hedge:(⟨here,ar,dr.b⟩:am)∈ds:=by
    have:dr=⟨here,ar,dr.b⟩:=by cases dr;simp only at c1 c2;rw[c1,c2]
    rw[<-this];exact hmem
   refine nextI _ (X++(Y++[dr.b])) _ _ _ _ rfl ⟨?_,?_,?_,?_,?_⟩ ?_ ?_
   ·rw[aa];have:gs++(X++(Y++[dr.b]))=gs++(X++Y)++[dr.b]:=by simp
    rw[this,aB (l₂:=[dr.b])]
    rfl
   ·intro b o q;rw[aj (ag q hf)];exact D3.same _ _ q
   ·rw[<-eN,c9];refine⟨D3.nd,by simp,fun a ha b hb e=>?_⟩;have:b=dr.b:=by simpa using hb
    exact c3 (d_ _ (by rw[<-this,<-e];exact ha))
   ·intro y hy;rw[<-eN]at hy;rcases bN.mp hy with hy|hy
    ·exact D3.new y hy
    ·have:y=dr.b:=by simpa using hy
     rw[this];exact fun z=>c3 (dq _ z)
   ·intro y hy;rw[<-eN]at hy;rcases bN.mp hy with hy|hy
    ·exact D3.sound y hy
    ·have:y=dr.b:=by simpa using hy
     rw[this];exact(hfrom D.sound (bY hget)).step hedge
   ·intro y hy;rw[<-eN];exact dq _ hy
   ·intro _ _;exact d_ _ (by simp)
  ·rintro σ H2 ⟨X',Y,x4',x5',x6',rfl,rfl,D2,hdone⟩;rw[ai,Paired.length hds,bf]at hdone;refine⟨_,rfl,_,_,rfl,rfl,X++Y,_,_,_,rfl,D2,?_,fun i y hi hy c hc=>?_⟩
   ·rw[<-eN,aO];omega
   ·by_cases e:i=at_
    ·subst e;rw[<-eN,qw hlt',hget]at hy;have:=ef hy;subst this;exact hdone _ hc rfl rfl
    ·have hi':i<at_:=by omega
     rw[<-eN,qw (by omega)]at hy;have:=hcl i y hi' hy c hc;rw[<-eN];exact dq _ this
 ·have hend:at_=(gs++X).length:=by
   have:¬(at_<(gs++X).length):=fun z=>hlt (zzr1 (by rw[ai];omega));omega
  refine⟨_,rfl,k f (gs++X) H1 D.f (fun w=>⟨fun hw=>?_,fun hw=>?_⟩) (by rw[aO];omega) hf D.same⟩
  ·rcases bN.mp hw with hw|hw
   ·exact⟨_,hw,.inl rfl⟩
   ·exact D.sound _ hw
  ·have closed:∀y∈gs++X,∀c,(⟨y,ar,c⟩:am)∈ds->c∈gs++X:=fun y hy c hc=>by
    obtain⟨n,hn⟩:=nU hy;exact hcl n y (by rw[hend];exact(cE.mp hn).1) hn c hc
   obtain⟨g,hg,rfl|h⟩:=hw
   ·exact dq _ hg
   ·induction h with
    |one e=>exact closed _ (dq _ hg) _ e
    |step r e ih=>exact closed _ ih _ e

theorem yt{ds:List am}{a b:Str}(h:¬f8 ds [b] a){x y:Str}(r:Reach (ds++[⟨a,ar,b⟩]) x y):Reach ds x y∨((x=a∨Reach ds x a)/\(y=b∨Reach ds b y)):=by
 have edge:∀{u v:Str},(⟨u,ar,v⟩:am)∈ds++[⟨a,ar,b⟩]->(⟨u,ar,v⟩:am)∈ds∨(u=a/\v=b):=by
  intro u v e;rcases bN.mp e with e|e
  ·exact .inl e
  ·have:(⟨u,ar,v⟩:am)=⟨a,ar,b⟩:=by simpa using e
   injection this with h1 h2 h3;exact .inr ⟨h1,h3⟩
 induction r with
 |one e =>
  rcases edge e with e|⟨rfl,rfl⟩
  ·exact .inl (.one e)
  ·exact .inr ⟨.inl rfl,.inl rfl⟩
 |step r e0 ih =>
  rcases edge e0 with e|⟨rfl,rfl⟩
  ·rcases ih with ih|⟨h1,h2⟩
   ·exact .inl (.step ih e)
   ·refine .inr ⟨h1,.inr ?_⟩;rcases h2 with h2|h2
    ·exact .one (by rw[<-h2];exact e)
    ·exact .step h2 e
  ·rcases ih with ih|⟨h1,h2⟩
   ·exact .inr ⟨.inr ih,.inl rfl⟩
   ·exact absurd ⟨_,by simp,h2⟩ h
theorem vA{ds:List am}{a b:Str}(hn:∀r,¬Reach ds r r)(h:¬f8 ds [b] a):∀r,¬Reach (ds++[⟨a,ar,b⟩]) r r:=by
 intro r z;have no:¬(a=b∨Reach ds b a):=fun z=>h ⟨b,by simp,z⟩;rcases yt h z with z|⟨h1,h2⟩
 ·exact hn r z
 ·rcases h1 with rfl|h1
  ·exact no h2
  ·rcases h2 with rfl|h2
   ·exact no (.inr h1)
   ·exact no (.inr (h2.trans h1))
theorem aN.putStill{J0 J1 J2:Zb}{ds:List am}{a b:Str}(m:aN J0 J1 J2 ds)(ha:a∈J2)(hb:b∈J2)(h:¬f8 ds [b] a)(hf:ds.length<=699):aN J0 J1 J2 (kJ ds ⟨a,ar,b⟩):=by
 unfold kJ;split
 ·exact m
 ·next hn =>
  refine{ m with nodup:=?_,good:=?_,few:=?_,noround:=vA m.noround h }
  ·rw[c9];refine⟨m.nodup,by simp,fun x hx y hy e=>?_⟩;have:y=⟨a,ar,b⟩:=by simpa using hy
   subst this;exact hn (e▸hx)
  ·intro d hd;rcases bN.mp hd with hd|hd
   ·exact m.good d hd
   ·have:d=⟨a,ar,b⟩:=by simpa using hd
    subst this;exact⟨ha,hb,.inr (.inr rfl)⟩
  ·rw[aO];show ds.length+1<=1000;omega
theorem q_(ds:List am)(d:am):(kJ ds d).length<=ds.length+1:=by
 unfold kJ;split
 ·omega
 ·rw[aO];exact aH _
def dj(ds:List am)(sg:Zb)(J6:Zb):List Str:=J6.flatMap fun r=>bz ds (r,sg)
theorem sY{ds:List am}{sg J6:Zb}{i:Nat}{r:Str}(h:J6[i]?=some r):dj ds sg (J6.take (i+1))=dj ds sg (J6.take i)++bz ds (r,sg):=by
 unfold dj;rw[take_snoc h,uj];simp
theorem pC(ds:List am)(x:Str×List Str):(bz ds x).length<=ds.length:=by
 unfold bz;rw[ai];exact cF _ _
theorem nF(ds:List am)(sg:Zb):∀J6:List Str,(dj ds sg J6).length<=J6.length * ds.length
 |[]=>dL _
 |r::J6=>by
  show((bz ds (r,sg))++dj ds sg J6).length<=(J6.length+1) * ds.length;rw[aO,Nat.succ_mul];have h1:=pC ds (r,sg);have h2:=nF ds sg J6;omega
theorem nD{ds:List am}{sg J6:Zb}{b:Str}:b∈dj ds sg J6↔∃r∈J6,(⟨r,sg,b⟩:am)∈ds:=by
 unfold dj;rw[List.mem_flatMap];constructor
 ·rintro⟨r,hr,h⟩;exact⟨r,hr,eB.mp h⟩
 ·rintro⟨r,hr,h⟩;exact⟨r,hr,eB.mpr h⟩
theorem fG{ds:List am}{i:Nat}{d:am}{p:am->Bool}(h:ds[i]?=some d):(ds.take (i+1)).filter p=(ds.take i).filter p++(if p d=true then[d]else[]):=by
 rw[take_snoc h,lT];congr 1;by_cases c:p d=true
 ·rw[if_pos c];simp[c]
 ·rw[if_neg c];simp[c]
def vb(K:Za)(sp_with_still:Sp)(C_Machine:Addr)(sp_Machine_rooms:Sp):TS :=
 aU (aM sp_with_still (aI V0 (ic (c6 K) (dw C_Machine "rooms" sp_Machine_rooms [] E0 V0 a_) (aT) (bA (tC (.int 1))))))
def wc:List Str:=["M"]
def sA(K:Za)(sp_law_take:Sp)(sp_law_names:Sp):TS :=
 ap (aS V1 (gw K 4 (bc U2 (bc U3 (bc U4 (bc U5 (f6)))))))
 (ap (aS (ml) U6)
 (ap (de (tZ K (aq V4 (aG (aM sp_law_names (aI V0 (cK (dP K) (aG V4))))))) (gw K 2 (bc U7 (bc U8 (f6)))) (iJ V6 V7 V8))
 (ap (aS (cN 1 [6] (bV K V4) U0 (kA) (m9 K V1 V0)) U9)
 (ap (aS (ay dz (tC (.int 1)) (aM sp_law_take (aI V0 (cK (dP K) (aG V4))))) EQ)
 (ap (aS (ay eS (ay eS (ic (c6 K) V9 (aT) (bA (tC (.int 1)))) (ic (c6 K) V9 (bA pE) (aT))) (ic (c6 K) V9 (bA (tC (.int 1))) (bA pE))) U9)
 (ap (aS (cN 3 [6] (bV K V5) (gw K 3 (bc U0 (bc U1 (bc U2 (f6))))) (kA) (bd (dC (m9 K V3 V0) V1 (m9 K V3 V2)))) U5)
 (aU (bd (aq V2 (dC V3 V9 V5))))))))))
def tq:List Str:=["pen","told","asks","says","rooms","doors","names","room","name","some","at"]
inductive dU(C:Addr)(vs:List V)(H:Hp)(Q:VK)(E:XK):Prop
 |mk (x:Addr) (J0 J1 J2:Zb) (ds:List am):(vs=[.ref x])->(bL C H x J0 J1 J2 ds)->(∀(t':Addr) (F:Zb) (H':Hp),H' t'=some (.tup ((J2.filter fun r=>decide (r∈F)).map V.str))->(∀w,w∈F↔f8 ds (J2.take 1) w)->ab H H'->Q (.ref t') H')->dU C vs H Q E
theorem sR{K:Za}{C:Addr}{vs:List V}{H:Hp}{Q:VK}{E:XK}(h:dU C vs H Q E):vb K (sp_with_still C) C (gp C) (bJ Q) (start wc vs) H:=by
 obtain⟨x,J0,J1,J2,ds,rfl,M,k⟩:=h;obtain⟨dx,fs,o1,o2,o3,o4,lv,qu,sgA,sl,ts,lps,gps,sps,g1,a1,a2,a3,a4,_⟩:=M.at_;have c1:cD (J2.map V.str) none (some 1)=(J2.take 1).map V.str:=gS J2 1;refine⟨_,rfl,_,rfl,x,dx,fs,rfl,g1,a4,x,J0,J1,J2,ds,rfl,M,fun rl hrl=>⟨_,rfl,rl,_,rfl,aA.of aa,fun l hl=>?_⟩⟩;rw[c1];have S:ab H (upd (upd H rl (.lst (J2.map V.str))) l (.lst ((J2.take 1).map V.str))):=(ab.new hrl).trans (ab.new hl);exact⟨x,l,J2.take 1,J0,J1,J2,ds,rfl,M.same S,aa,fun g hg=>fT hg,fun t' F H' h1 h2 S2=>k t' F H' h1 h2 (S.trans S2)⟩
theorem xv{K:Za}{a b:Addr}{xs ys:List V}{g:TG}{tb:TS}{D:mK}{σ:L2.St}{H:Hp}(hxy:xs.length=ys.length)(Pv:Nat->L2.St->Hp->Prop)(h0:Pv 0 σ H)(hl:∀i σ H,i<=xs.length->Pv i σ H->aA K H a xs/\aA K H b ys)
  (hs:∀i x y σ H p,xs[i]?=some x->ys[i]?=some y->Pv i σ H->H p=none->g (.ref p) σ (upd H p (.tup [x,y])) fun σ2 H2=>tb { D with nx:=Pv (i+1),ct:=Pv (i+1),bk:=D.nx } σ2 H2) (hd:∀σ H,Pv xs.length σ H->D.nx σ H) :
  ∃W:Nat->Nat->L2.St->Hp->Prop,(∃m,W 0 m σ H)/\∀i m σ H,W i m σ H ->
   ((GJ K a b).stop i H/\D.nx σ H)∨((GJ K a b).go i H/\∃N:L2.St->Hp->Prop,(∀σ' H',N σ' H'->∃m',m'<m/\W (i+1) m' σ' H')/\∀x H',(GJ K a b).yld i H x H'->g x σ H' fun σ2 H2=>tb { D with nx:=N,ct:=N,bk:=D.nx } σ2 H2):=by
 refine⟨fun i m σ H=>m=xs.length-i/\i<=xs.length/\Pv i σ H,⟨xs.length,by simp,dL _,h0⟩,?_⟩;rintro i m σ H ⟨rfl,hi,p⟩;obtain⟨q1,q2⟩:=hl i σ H hi p;by_cases hlt:i<xs.length
 ·have hlt2:i<ys.length:=by omega
  refine .inr ⟨⟨xs,ys,xs[i],ys[i],q1,q2,by simp[hlt],by simp[hlt2]⟩,Pv (i+1),fun σ' H' p'=>⟨xs.length-(i+1),by omega,rfl,hlt,p'⟩,fun x H' y=>?_⟩;obtain⟨t,u,v,rfl,hn,hu,hv,rfl⟩:=y;exact hs i u v σ H t (hu xs q1) (hv ys q2) p hn
 ·have e:i=xs.length:=by omega
  subst e;exact .inl ⟨⟨xs,ys,q1,q2,.inl (aH _)⟩,hd σ H p⟩
def BM(ps:List (Str×Str)):List (d6×V):=ps.map fun x=>(.inr x.1,.str x.2)
def DF:List (Str×Str)->Str->Str
 |[],r=>r
 | (a,b)::ps,r=>if a=r then b else DF ps r
theorem Ah{r:Str}:∀{ps:List (Str×Str)},r∈ps.map (·.1)->bO (BM ps) (.inr r:d6)=some (.str (DF ps r))
 |[],h=>by cases h
 | (a,b)::ps,h=>by
  unfold BM bO DF;rw[bI,ki];by_cases c:a=r
  ·rw[if_pos c,zzr1 (by rw[c])]
   rfl
  ·rw[if_neg c,zzr0 (fun z=>c (by injection z))];have:r∈ps.map (·.1):=by
    rcases cv.mp h with z|z
    ·exact absurd z.symm c
    ·exact z
   exact Ah this
theorem xg{r:Str}:∀{ps:List (Str×Str)},r∉ps.map (·.1)->bO (BM ps) (.inr r:d6)=none
 |[],_=>rfl
 | (a,b)::ps,h=>by
  unfold BM bO;rw[bI,ki,zzr0 (fun z=>h (by injection z with z;rw[bI];exact cv.mpr (.inl z.symm)))];exact xg fun z=>h (by rw[bI];exact fw _ z)
theorem CN{ps:List (Str×Str)}{r w:Str}(h:r∉ps.map (·.1)):cX (BM ps) (.inr r) (.str w)=BM (ps++[(r,w)]):=by
 rw[eT _ (xg h)];unfold BM;rw[aB]
 rfl
theorem u3:∀{rs ws:Zb},ws.length=rs.length->(rs.zip ws).map (·.1)=rs
 |[],_,_=>by simp
 |_::_,[],h=>by cases h
 |r::rs,w::ws,h=>by
  rw[zP,bI,u3 (by simpa using h)]
theorem z5:∀{rs ws:Zb},rs.Nodup->ws.length=rs.length->rs.map (DF (rs.zip ws))=ws
 |[],[],_,_=>rfl
 |[],_::_,_,h=>by cases h
 |_::_,[],_,h=>by cases h
 |r::rs,w::ws,nd,h=>by
  rw[zP,bI];have nd':=iU.mp nd;have e1:DF ((r,w)::rs.zip ws) r=w:=by unfold DF;rw[if_pos rfl]
  have e2:rs.map (DF ((r,w)::rs.zip ws))=rs.map (DF (rs.zip ws)):=by
   refine qj fun x hx=>?_;show(if r=x then w else DF (rs.zip ws) x)=_
   rw[if_neg (fun z=>nd'.1 (by rw[z];exact hx))]
  rw[e1,e2,z5 nd'.2 (by simpa using h)]
def sO(f:Str->Str)(d:am):am:=⟨f d.a,d.sg,f d.b⟩
theorem FN{J2 ws:Zb}{f:Str->Str}(hf:J2.map f=ws)(nd:ws.Nodup){a b:Str}(ha:a∈J2)(hb:b∈J2)(e:f a=f b):a=b:=by
 obtain⟨i,hi⟩:=nU ha;obtain⟨j,hj⟩:=nU hb;have h1:ws[i]?=some (f a):=by rw[<-hf,cO,hi];rfl
 have h2:ws[j]?=some (f a):=by rw[<-hf,cO,hj,e];rfl
 have:=p7 nd h1 h2;subst this;rw[hi]at hj;exact ef hj
theorem A3{J2:Zb}{f:Str->Str}{ds:List am}(inj:∀a∈J2,∀b∈J2,f a=f b->a=b)(hin:∀d∈ds,d.a∈J2/\d.b∈J2){x y:Str}(h:Reach (ds.map (sO f)) x y):
  ∃a∈J2,∃b∈J2,x=f a/\y=f b/\Reach ds a b:=by
 have edge:∀{u v:Str},(⟨u,ar,v⟩:am)∈ds.map (sO f)->∃a b,(⟨a,ar,b⟩:am)∈ds/\u=f a/\v=f b:=by
  intro u v e;obtain⟨⟨a,s,b⟩,hd,e⟩:=aX.mp e;unfold sO at e;injection e with e1 e2 e3;simp only at e2;subst e2;exact⟨a,b,hd,e1.symm,e3.symm⟩
 induction h with
 |one e =>
  obtain⟨a,b,hd,rfl,rfl⟩:=edge e;exact⟨a,(hin _ hd).1,b,(hin _ hd).2,rfl,rfl,.one hd⟩
 |step r e ih =>
  obtain⟨a,ha,b,hb,e1,e2,hr⟩:=ih;obtain⟨a',b',hd,e3,rfl⟩:=edge e;have:b=a':=inj b hb a' (hin _ hd).1 (e2.symm.trans e3);subst this;exact⟨a,ha,b',(hin _ hd).2,e1,rfl,.step hr hd⟩
theorem aN.renamed{J0 J1 J2 ws rooms':Zb}{ds:List am}{f:Str->Str}(m:aN J0 J1 J2 ds)(okw:jL ws)(hf:J2.map f=ws)(hp:rooms'.Perm ws):aN J0 J1 rooms' (ds.map (sO f)):=by
 have hlen:rooms'.length=J2.length:=by rw[hp.length_eq,<-hf,ai]
 have inj:∀a∈J2,∀b∈J2,f a=f b->a=b:=fun a ha b hb e=>FN hf okw.1 ha hb e;have hin:∀d∈ds,d.a∈J2/\d.b∈J2:=fun d hd=>⟨(m.good d hd).a,(m.good d hd).b⟩;have hmem:∀a∈J2,f a∈rooms':=fun a ha=>hp.mem_iff.mpr (by rw[<-hf];exact nV ha);refine{ m with okR:=⟨hp.nodup_iff.mpr okw.1,fun w hw=>okw.2 w (hp.mem_iff.mp hw)⟩,rooms0:=?_,rooms26:=by rw[hlen];exact m.rooms26,nodup:=?_,good:=?_,few:=by rw[ai];exact m.few,noround:=?_ }
 ·intro z;rw[z]at hlen;exact m.rooms0 (List.eq_nil_of_length_eq_zero hlen.symm)
 ·refine List.Pairwise.map _ ?_ (List.Pairwise.and_mem.mp m.nodup);rintro⟨a,s,b⟩ ⟨a',s',b'⟩ ⟨h1,h2,hne⟩ e;unfold sO at e;injection e with e1 e2 e3;simp only at e1 e2 e3;refine hne ?_;rw[inj a (hin _ h1).1 a' (hin _ h2).1 e1,e2,inj b (hin _ h1).2 b' (hin _ h2).2 e3]
 ·intro d hd;obtain⟨d0,hd0,rfl⟩:=aX.mp hd;exact⟨hmem _ (hin _ hd0).1,hmem _ (hin _ hd0).2,(m.good d0 hd0).sg⟩
 ·intro r z;obtain⟨a,ha,b,hb,e1,e2,hr⟩:=A3 inj hin z;have:=inj a ha b hb (e1.symm.trans e2);subst this;exact m.noround a hr
theorem BB(ws:Zb){j k:Nat}(hj:j<=k)(hk:k<=ws.length):cD (ws.map V.str) (some (j:Int)) (some (k:Int))=((ws.drop j).take (k-j)).map V.str:=by
 unfold cD;rw[HT.sIx_nat,HT.sIx_nat,ai,lU hk,lU (bh hj hk),lV,nX]
theorem wx(ws:Zb)(n:Nat):(ws.take 1++ws.drop (1+n)++(ws.drop 1).take (1+n-1)).Perm ws:=by
 have e:ws.drop (1+n)=(ws.drop 1).drop n:=by rw[List.drop_drop]
 have e2:1+n-1=n:=by omega
 rw[e,e2,eN];have h:ws=ws.take 1++((ws.drop 1).take n++(ws.drop 1).drop n):=by rw[um,um]
 exact(List.Perm.append_left _ List.perm_append_comm).trans (by rw[<-h])
theorem lq(o:Str)(L:Zb):decide (fE o∈L.map fE)=decide (o∈L):=by
 by_cases c:o∈L
 ·rw[zzr1 (lg.mpr c),zzr1 c]
 ·rw[zzr0 (fun z=>c (lg.mp z)),zzr0 c]
theorem aY.same{K:Za}{H H':Hp}{a:Addr}{xs:List V}(S:ab H H')(h:aY K H a xs):aY K H' a xs:=by
 rcases h with(h|⟨o,h⟩)|h
 ·exact .inl (.inl (S _ _ h))
 ·exact .inl (.inr ⟨o,S _ _ h⟩)
 ·exact .inr h
theorem aA.same{K:Za}{H H':Hp}{a:Addr}{xs:List V}(S:ab H H')(h:aA K H a xs):aA K H' a xs:=by
 rcases h with(h|⟨o,h⟩)|h
 ·exact .inl (.inl (S _ _ h))
 ·exact .inl (.inr ⟨o,S _ _ h⟩)
 ·exact .inr h
mutual
theorem gW.same{K:Za}{H H':Hp}(S:ab H H'):∀{d:DT}{v:V},gW K H d v->gW K H' d v
 |.k a,v,h=>by unfold gW at h ⊢;exact h
 |.t l,v,h=>by
  unfold gW at h ⊢;obtain⟨b,xs,e,q,r⟩:=h;exact⟨b,xs,e,aY.same S q,DIns.same S r⟩
 |.s l,v,h=>by
  unfold gW at h ⊢;obtain⟨b,xs,e,q,r⟩:=h;exact⟨b,xs,e,aA.same S q,DIns.same S r⟩
theorem DIns.same{K:Za}{H H':Hp}(S:ab H H'):∀{ds:List DT}{vs:List V},DIns K H ds vs->DIns K H' ds vs
 |[],vs,h=>by unfold DIns at h ⊢;exact h
 |d::ds,vs,h=>by
  unfold DIns at h ⊢;obtain⟨v,us,e,q,r⟩:=h;exact⟨v,us,e,gW.same S q,DIns.same S r⟩
end
theorem DIns.get{K:Za}{H:Hp}:∀{ds:List DT}{vs:List V}{i:Nat}{v:V},DIns K H ds vs->vs[i]?=some v->∃d,ds[i]?=some d/\gW K H d v
 |[],vs,i,v,h,e=>by unfold DIns at h;subst h;simp at e
 |d::ds,vs,i,v,h,e=>by
  unfold DIns at h;obtain⟨v',us,rfl,q,r⟩:=h;cases i with
  |zero=>simp at e;subst e;exact⟨d,rfl,q⟩
  |succ i =>
   simp at e;obtain⟨d',h1,h2⟩:=DIns.get r e;exact⟨d',by simpa using h1,h2⟩
theorem DIns.len{K:Za}{H:Hp}:∀{ds:List DT}{vs:List V},DIns K H ds vs->vs.length=ds.length
 |[],vs,h=>by unfold DIns at h;subst h;rfl
 |d::ds,vs,h=>by
  unfold DIns at h;obtain⟨v',us,rfl,q,r⟩:=h;rw[em,em,DIns.len r]
theorem iq{n:Nat}:∀{ds:List DT}{i:Nat}{d:DT},DT.depths ds<=n->ds[i]?=some d->d.depth<=n
 |[],i,d,_,e=>by simp at e
 |x::ds,i,d,h,e=>by
  have h':max (DT.depth x) (DT.depths ds)<=n:=h;cases i with
  |zero=>simp at e;subst e;omega
  |succ i=>simp at e;exact iq (by omega) e
theorem Av{l:List DT}{n:Nat}(h:(DT.t l).depth<=n+1):DT.depths l<=n:=by
 have:DT.depths l+1<=n+1:=h;omega
theorem Aw{l:List DT}{n:Nat}(h:(DT.s l).depth<=n+1):DT.depths l<=n:=by
 have:DT.depths l+1<=n+1:=h;omega
theorem Dj{l:List DT}{n:Nat}(h:(DT.t l).depth<=n):1<=n:=by
 have:DT.depths l+1<=n:=h;omega
theorem Dk{l:List DT}{n:Nat}(h:(DT.s l).depth<=n):1<=n:=by
 have:DT.depths l+1<=n:=h;omega
inductive wP(K:Za)(n:Nat)(vs:List V)(H:Hp)(Q:VK)(E:XK):Prop
 |mk (x y:V) (d e:DT):(vs=[x,y])->(gW K H d x)->(gW K H e y)->(d.depth<=n)->(e.depth<=n)->(∀H',ab H H'->Q (.bl (decide (d=e))) H')->wP K n vs H Q E
inductive wQ (vs:List V)(H:Hp)(Q:VK)(E:XK):Prop
 |mk (a b:Bool):(vs=[.bl a,.bl b])->(Q (.bl (decide (a=b))) H)->wQ  vs H Q E
def k4(K:Za)(n:Nat):Sp:=fun vs H Q E=>wP K n vs H Q E∨wQ vs H Q E
inductive Kd(K:Za)(H:Hp):DT->V->Prop
 |int (i:Int):Kd K H (.k (.inl i)) (.int i)
 |str (x:Str):Kd K H (.k (.inr x)) (.str x)
 |tup {a:Addr}{xs:List V}{l:List DT}(q:aY K H a xs) (r:DIns K H l xs):Kd K H (.t l) (.ref a)
 |lst {a:Addr}{xs:List V}{l:List DT}(q:aA K H a xs) (r:DIns K H l xs):Kd K H (.s l) (.ref a)
theorem gW.kd{K:Za}{H:Hp}:∀{d:DT}{v:V},gW K H d v->Kd K H d v
 |.k (.inl i),v,h=>by unfold gW at h;subst h;exact .int i
 |.k (.inr x),v,h=>by unfold gW at h;subst h;exact .str x
 |.t l,v,h=>by
  unfold gW at h;obtain⟨b,xs,rfl,q,r⟩:=h;exact .tup q r
 |.s l,v,h=>by
  unfold gW at h;obtain⟨b,xs,rfl,q,r⟩:=h;exact .lst q r
theorem jn(c:Bool):(!decide (V.bl c=V.bl c))=false:=by rw[zzr1 rfl];rfl
theorem pj{K:Za}{sp:Sp}{H:Hp}{Q:VK}{x:V}{b:Addr}{t:Value}(ty:DH K H (.ref b) t)(hi:mQ K t (.type "int")=some false)(hs:mQ K t (.type "str")=some false)
  (k:(ap (bB (wk (aF (ay xO (cK (iW K) (aI V1 (tC (.ty "tuple")))) (cK (iW K) (aI V0 (tC (.ty "tuple")))))) (aF (ay xO (cK (iW K) (aI V1 (tC (.ty "list")))) (cK (iW K) (aI V0 (tC (.ty "list"))))))) (aU (tC (.bl false))) (aR))
 (ap (bB (aF (ay xO (cK (dP K) (aG V0)) (cK (dP K) (aG V1)))) (aU (tC (.bl false))) (aR))
 (ap (de (tZ K (aI V0 V1)) (gw K 2 (bc U2 (bc U3 (f6)))) (bB (pJ (tB (aM sp (aI V2 V3)))) (aU (tC (.bl false))) (aR)))
 (aU (tC (.bl true)))))) (bJ Q) [some x,some (.ref b),none,none] H) :
  qE K sp (bJ Q) [some x,some (.ref b),none,none] H:=by
 have e1:decide (V.ref b=V.non)=false:=zzr0 nofun;have e2:∀c,decide (V.ref b=V.bl c)=false:=fun c=>zzr0 nofun;refine⟨_,rfl,_,rfl,?_⟩;rw[e1];refine bv ?_;refine⟨_,rfl,_,rfl,_,rfl,?_⟩;rw[e2];refine bv ?_;refine⟨_,rfl,_,rfl,_,rfl,?_⟩;rw[e2];refine bv ?_;refine⟨_,rfl,.ref b,"int",t,false,rfl,ty,hi,_,rfl,bv ?_⟩;refine⟨_,rfl,.ref b,"str",t,false,rfl,ty,hs,_,rfl,bv ?_⟩;exact k
theorem Ci{K:Za}{n:Nat}(hn:n<=8){sp:Sp}(hsp:∀m,n=m+1->sp=k4 K m){vs:List V}{H:Hp}{Q:VK}{E:XK}(h:k4 K n vs H Q E):qE K sp (bJ Q) (start zj vs) H:=by
 rcases h with h|h;rotate_left
 ·obtain⟨a,b,rfl,k⟩:=h;have e1:decide (V.bl b=V.non)=false:=zzr0 nofun;have e2:∀c,decide (V.bl b=V.bl c)=decide (b=c):=fun c=>by cases b<;>cases c<;>rfl
  have e3:∀c,decide (V.bl a=V.bl c)=decide (a=c):=fun c=>by cases a<;>cases c<;>rfl
  refine⟨_,rfl,_,rfl,?_⟩;rw[e1];refine bv ?_;refine⟨_,rfl,_,rfl,_,rfl,?_⟩;rw[e2];cases b with
  |true =>
   refine b0 ?_;refine⟨_,rfl,_,rfl,?_⟩;rw[e3];exact k
  |false =>
   refine bv ?_;refine⟨_,rfl,_,rfl,_,rfl,?_⟩;rw[e2];refine b0 ?_;refine⟨_,rfl,_,rfl,?_⟩;rw[e3];exact k
 obtain⟨x,y,d,e,rfl,hd,he,zd,ze,k⟩:=h;have k0:=k H (ab.refl H);have he':=gW.kd he;have hd':=gW.kd hd;cases he' with
 |int i =>
  have e1:decide (V.int i=V.non)=false:=zzr0 nofun;have e2:∀c,decide (V.int i=V.bl c)=false:=fun c=>zzr0 nofun;refine⟨_,rfl,_,rfl,?_⟩;rw[e1];refine bv ?_;refine⟨_,rfl,_,rfl,_,rfl,?_⟩;rw[e2];refine bv ?_;refine⟨_,rfl,_,rfl,_,rfl,?_⟩;rw[e2];refine bv ?_;refine⟨_,rfl,.int i,"int",_,true,rfl,.inl (gD.int i),rfl,_,rfl,b0 ?_⟩;cases hd' with
  |int j =>
   refine⟨_,rfl,.int j,"int",_,true,rfl,.inl (gD.int j),rfl,_,rfl,b0 ?_⟩;refine⟨_,rfl,.int j,"bool",_,false,rfl,.inl (gD.int j),rfl,_,rfl,_,rfl,b0 ?_⟩;exact⟨_,rfl,_,rfl,_,_,hd,he,by omega,by omega,k0⟩
  |str z =>
   refine⟨_,rfl,.str z,"int",_,false,rfl,.inl (gD.str z),rfl,_,rfl,bv ?_⟩;rw[zzr0 nofun]at k0;exact k0
  |tup q r =>
   refine⟨_,rfl,.ref _,"int",_,false,rfl,.inr (.inl ⟨_,_,rfl,rfl,q⟩),rfl,_,rfl,bv ?_⟩;rw[zzr0 nofun]at k0;exact k0
  |lst q r =>
   refine⟨_,rfl,.ref _,"int",_,false,rfl,.inr (.inr ⟨_,_,rfl,rfl,q⟩),rfl,_,rfl,bv ?_⟩;rw[zzr0 nofun]at k0;exact k0
 |str b =>
  have e1:decide (V.str b=V.non)=false:=zzr0 nofun;have e2:∀c,decide (V.str b=V.bl c)=false:=fun c=>zzr0 nofun;refine⟨_,rfl,_,rfl,?_⟩;rw[e1];refine bv ?_;refine⟨_,rfl,_,rfl,_,rfl,?_⟩;rw[e2];refine bv ?_;refine⟨_,rfl,_,rfl,_,rfl,?_⟩;rw[e2];refine bv ?_;refine⟨_,rfl,.str b,"int",_,false,rfl,.inl (gD.str b),rfl,_,rfl,bv ?_⟩;refine⟨_,rfl,.str b,"str",_,true,rfl,.inl (gD.str b),rfl,_,rfl,b0 ?_⟩;cases hd' with
  |int j =>
   refine⟨_,rfl,.int j,"str",_,false,rfl,.inl (gD.int j),rfl,_,rfl,bv ?_⟩;rw[zzr0 nofun]at k0;exact k0
  |str z =>
   refine⟨_,rfl,.str z,"str",_,true,rfl,.inl (gD.str z),rfl,_,rfl,b0 ?_⟩;exact⟨_,rfl,_,rfl,_,_,hd,he,by omega,by omega,k0⟩
  |tup q r =>
   refine⟨_,rfl,.ref _,"str",_,false,rfl,.inr (.inl ⟨_,_,rfl,rfl,q⟩),rfl,_,rfl,bv ?_⟩;rw[zzr0 nofun]at k0;exact k0
  |lst q r =>
   refine⟨_,rfl,.ref _,"str",_,false,rfl,.inr (.inr ⟨_,_,rfl,rfl,q⟩),rfl,_,rfl,bv ?_⟩;rw[zzr0 nofun]at k0;exact k0
 |@tup b ys le qe re =>
  have ty:DH K H (.ref b) (.type "tuple"):=.inr (.inl ⟨_,_,rfl,rfl,qe⟩);refine pj ty rfl rfl ?_;have no:∀(t:Value),DH K H x t->mQ K t (.type "tuple")=some false->¬d=.t le->(ap (bB (wk (aF (ay xO (cK (iW K) (aI V1 (tC (.ty "tuple")))) (cK (iW K) (aI V0 (tC (.ty "tuple")))))) (aF (ay xO (cK (iW K) (aI V1 (tC (.ty "list")))) (cK (iW K) (aI V0 (tC (.ty "list"))))))) (aU (tC (.bl false))) (aR))
 (ap (bB (aF (ay xO (cK (dP K) (aG V0)) (cK (dP K) (aG V1)))) (aU (tC (.bl false))) (aR))
 (ap (de (tZ K (aI V0 V1)) (gw K 2 (bc U2 (bc U3 (f6)))) (bB (pJ (tB (aM sp (aI V2 V3)))) (aU (tC (.bl false))) (aR)))
 (aU (tC (.bl true)))))) (bJ Q) [some x,some (.ref b),none,none] H:=by
   intro t tx kt ne;refine⟨_,rfl,.ref b,"tuple",_,true,rfl,ty,rfl,_,rfl,x,"tuple",t,false,rfl,tx,kt,rfl,_,rfl,?_⟩;have:(!decide (V.bl true=V.bl false))=true:=rfl;rw[this];refine b0 (b0 ?_);rw[zzr0 ne]at k0;exact k0
  cases hd' with
  |int j=>exact no _ (.inl (gD.int j)) rfl nofun
  |str z=>exact no _ (.inl (gD.str z)) rfl nofun
  |lst q r=>exact no _ (.inr (.inr ⟨_,_,rfl,rfl,q⟩)) rfl nofun
  |@tup f xs ld qd rd =>
   clear no;have tyd:DH K H (.ref f) (.type "tuple"):=.inr (.inl ⟨_,_,rfl,rfl,qd⟩);refine⟨_,rfl,.ref b,"tuple",_,true,rfl,ty,rfl,_,rfl,.ref f,"tuple",_,true,rfl,tyd,rfl,rfl,_,rfl,?_⟩;rw[jn];refine bv ?_;refine⟨_,rfl,.ref b,"list",_,false,rfl,ty,rfl,_,rfl,.ref f,"list",_,false,rfl,tyd,rfl,rfl,_,rfl,?_⟩;rw[jn];refine bv ?_;refine⟨_,rfl,.inl ⟨f,_,rfl,.inr qd,_,rfl,.inl ⟨b,_,rfl,.inr qe,rfl,_,rfl,?_⟩⟩⟩;by_cases hl:xs.length=ys.length;rotate_left
   ·have en:(!decide (V.int (xs.length:Nat)=V.int (ys.length:Nat)))=true:=by
     rw[zzr0 (fun z=>hl (by injection z with z;omega))];rfl
    rw[en];refine b0 ?_;rw[zzr0 (fun z=>hl (by rw[DIns.len rd,DIns.len re];injection z with z;rw[z]))]at k0;exact k0
   have en:(!decide (V.int (xs.length:Nat)=V.int (ys.length:Nat)))=false:=by
    rw[zzr1 (by rw[hl])];rfl
   rw[en];refine bv ?_;obtain⟨m,rfl⟩:∃m,n=m+1:=⟨n-1,by have:=Dj zd;omega⟩;obtain rfl:=hsp m rfl;refine⟨_,rfl,_,rfl,f,b,rfl,.inr ⟨⟨_,qd⟩,⟨_,qe⟩,?_⟩⟩;refine Dd (xs:=xs) (ys:=ys) hl (fun i σ H'=>∃x y,σ=[some (.ref f),some (.ref b),x,y]/\ab H H'/\ld.take i=le.take i)
    ⟨_,_,rfl,ab.refl H,rfl⟩ (fun i σ H' _ ⟨_,_,_,S,_⟩=>⟨aY.same S qd,aY.same S qe⟩) ?_ ?_
   ·rintro i x y σ H' p hx hy ⟨x2,x3,rfl,S,ht⟩ hp;obtain⟨du,hdu,du'⟩:=DIns.get rd hx;obtain⟨eu,heu,eu'⟩:=DIns.get re hy;have S':=S.trans (ab.new (o:=.tup [x,y]) hp);refine⟨p,_,rfl,aY.of aa,rfl,_,_,rfl,_,_,rfl,rfl,?_⟩;refine⟨_,rfl,_,rfl,.inl ⟨x,y,du,eu,rfl,gW.same S' du',gW.same S' eu',iq (Av zd) hdu,iq (Av ze) heu,fun H'' S''=>⟨_,rfl,?_⟩⟩⟩;by_cases c:du=eu
    ·rw[zzr1 c];refine bv ⟨_,_,rfl,S'.trans S'',?_⟩;rw[take_snoc hdu,take_snoc heu,ht,c]
    ·rw[zzr0 c];refine b0 ?_;have:=k _ (S'.trans S'');rw[zzr0 (fun z=>c (by injection z with z;rw[z,heu]at hdu;exact(ef hdu).symm))]at this;exact this
   ·rintro σ H' ⟨x,y,rfl,S,ht⟩;have:=k _ S;rw[zzr1 (by rw[DIns.len rd,bf,<-DIns.len rd,hl,DIns.len re,bf]at ht;rw[ht])]at this;exact this
 |@lst b ys le qe re =>
  have ty:DH K H (.ref b) (.type "list"):=.inr (.inr ⟨_,_,rfl,rfl,qe⟩);refine pj ty rfl rfl ?_;have no:∀(t:Value),DH K H x t->mQ K t (.type "tuple")=some false->mQ K t (.type "list")=some false->¬d=.s le->(ap (bB (wk (aF (ay xO (cK (iW K) (aI V1 (tC (.ty "tuple")))) (cK (iW K) (aI V0 (tC (.ty "tuple")))))) (aF (ay xO (cK (iW K) (aI V1 (tC (.ty "list")))) (cK (iW K) (aI V0 (tC (.ty "list"))))))) (aU (tC (.bl false))) (aR))
 (ap (bB (aF (ay xO (cK (dP K) (aG V0)) (cK (dP K) (aG V1)))) (aU (tC (.bl false))) (aR))
 (ap (de (tZ K (aI V0 V1)) (gw K 2 (bc U2 (bc U3 (f6)))) (bB (pJ (tB (aM sp (aI V2 V3)))) (aU (tC (.bl false))) (aR)))
 (aU (tC (.bl true)))))) (bJ Q) [some x,some (.ref b),none,none] H:=by
   intro t tx kt kl ne;refine⟨_,rfl,.ref b,"tuple",_,false,rfl,ty,rfl,_,rfl,x,"tuple",t,false,rfl,tx,kt,rfl,_,rfl,?_⟩;rw[jn];refine bv ?_;refine⟨_,rfl,.ref b,"list",_,true,rfl,ty,rfl,_,rfl,x,"list",t,false,rfl,tx,kl,rfl,_,rfl,?_⟩;have:(!decide (V.bl true=V.bl false))=true:=rfl;rw[this];refine b0 ?_;rw[zzr0 ne]at k0;exact k0
  cases hd' with
  |int j=>exact no _ (.inl (gD.int j)) rfl rfl nofun
  |str z=>exact no _ (.inl (gD.str z)) rfl rfl nofun
  |tup q r =>
   refine⟨_,rfl,.ref b,"tuple",_,false,rfl,ty,rfl,_,rfl,.ref _,"tuple",_,true,rfl,.inr (.inl ⟨_,_,rfl,rfl,q⟩),rfl,rfl,_,rfl,?_⟩;have:(!decide (V.bl false=V.bl true))=true:=rfl;rw[this];refine b0 (b0 ?_);rw[zzr0 nofun]at k0;exact k0
  |@lst f xs ld qd rd =>
   clear no;have tyd:DH K H (.ref f) (.type "list"):=.inr (.inr ⟨_,_,rfl,rfl,qd⟩);refine⟨_,rfl,.ref b,"tuple",_,false,rfl,ty,rfl,_,rfl,.ref f,"tuple",_,false,rfl,tyd,rfl,rfl,_,rfl,?_⟩;rw[jn];refine bv ?_;refine⟨_,rfl,.ref b,"list",_,true,rfl,ty,rfl,_,rfl,.ref f,"list",_,true,rfl,tyd,rfl,rfl,_,rfl,?_⟩;rw[jn];refine bv ?_;refine⟨_,rfl,.inl ⟨f,_,rfl,.inl qd,_,rfl,.inl ⟨b,_,rfl,.inl qe,rfl,_,rfl,?_⟩⟩⟩;by_cases hl:xs.length=ys.length;rotate_left
   ·have en:(!decide (V.int (xs.length:Nat)=V.int (ys.length:Nat)))=true:=by
     rw[zzr0 (fun z=>hl (by injection z with z;omega))];rfl
    rw[en];refine b0 ?_;rw[zzr0 (fun z=>hl (by rw[DIns.len rd,DIns.len re];injection z with z;rw[z]))]at k0;exact k0
   have en:(!decide (V.int (xs.length:Nat)=V.int (ys.length:Nat)))=false:=by
    rw[zzr1 (by rw[hl])];rfl
   rw[en];refine bv ?_;obtain⟨m,rfl⟩:∃m,n=m+1:=⟨n-1,by have:=Dk zd;omega⟩;obtain rfl:=hsp m rfl;refine⟨_,rfl,_,rfl,f,b,rfl,.inl ⟨⟨_,qd⟩,⟨_,qe⟩,?_⟩⟩;refine xv (xs:=xs) (ys:=ys) hl (fun i σ H'=>∃x y,σ=[some (.ref f),some (.ref b),x,y]/\ab H H'/\ld.take i=le.take i)
    ⟨_,_,rfl,ab.refl H,rfl⟩ (fun i σ H' _ ⟨_,_,_,S,_⟩=>⟨aA.same S qd,aA.same S qe⟩) ?_ ?_
   ·rintro i x y σ H' p hx hy ⟨x2,x3,rfl,S,ht⟩ hp;obtain⟨du,hdu,du'⟩:=DIns.get rd hx;obtain⟨eu,heu,eu'⟩:=DIns.get re hy;have S':=S.trans (ab.new (o:=.tup [x,y]) hp);refine⟨p,_,rfl,aY.of aa,rfl,_,_,rfl,_,_,rfl,rfl,?_⟩;refine⟨_,rfl,_,rfl,.inl ⟨x,y,du,eu,rfl,gW.same S' du',gW.same S' eu',iq (Aw zd) hdu,iq (Aw ze) heu,fun H'' S''=>⟨_,rfl,?_⟩⟩⟩;by_cases c:du=eu
    ·rw[zzr1 c];refine bv ⟨_,_,rfl,S'.trans S'',?_⟩;rw[take_snoc hdu,take_snoc heu,ht,c]
    ·rw[zzr0 c];refine b0 ?_;have:=k _ (S'.trans S'');rw[zzr0 (fun z=>c (by injection z with z;rw[z,heu]at hdu;exact(ef hdu).symm))]at this;exact this
   ·rintro σ H' ⟨x,y,rfl,S,ht⟩;have:=k _ S;rw[zzr1 (by rw[DIns.len rd,bf,<-DIns.len rd,hl,DIns.len re,bf]at ht;rw[ht])]at this;exact this
def Ca(K:Za)(sp_law_still_on:Sp):TS :=
 ap (aS (aM sp_law_still_on (aI (ay (iM K) V0 (tC (.int 3))) V1)) U2)
 (aU (cK (qW K) (aq (cN 1 [2] (bV K (ay (iM K) V0 (tC (.int 2)))) U0 (aF (ay (ny K false) V0 V1)) V0) a_)))
def Dy:List Str:=["told","some","there"]
def qF(K:Za):TS :=
 aU (ay (jG K) (cN 1 [1] (bV K (ay (iM K) V0 (tC (.int 3)))) U0 (iV (aF (ay (jG K) (ay (iM K) V0 (tC (.int 0))) V1)) (aF (ay xO (ay (iM K) (ay (iM K) V0 (tC (.int 1))) (tC (.int 0))) (tC (.str "ask"))))) V0) (db (a_)))
def rZ:List Str:=["told","room"]
def u_(K:Za)(sp_law_on:Sp)(sp_law_is_quiet:Sp):TS :=
 ap (bB (aF (ay (jG K) V2 (bd (aG (tC (.str "hush")))))) (aU (cK (qW K) (aG (cN 1 [0] (C4 K V1) U0 (tB (aM sp_law_is_quiet (aI V1 V0))) V0)))) (aR))
 (aU (aM sp_law_on (aq V0 (aq (cN 1 [1,2] (bV K (ay (iM K) V0 (tC (.int 3)))) U0 (iV (aF (ay (ny K false) (ay (iM K) V0 (tC (.int 0))) V1)) (aF (ay (jG K) (ay (iM K) V0 (tC (.int 1))) V2))) (ay (iM K) V0 (tC (.int 2)))) a_))))
def wa:List Str:=["told","face","sign"]
open Classical in
def closF(J2:Zb)(ds:List am)(gs:Zb):List Str:=J2.filter fun r=>decide (f8 ds gs r)
open Classical in
theorem rR{J2 F gs:Zb}{ds:List am}(hF:∀w,w∈F↔f8 ds gs w):J2.filter (fun r=>decide (r∈F))=closF J2 ds gs:=by
 unfold closF;refine List.filter_congr fun r _=>?_;by_cases c:r∈F
 ·rw[zzr1 c,zzr1 ((hF r).mp c)]
 ·rw[zzr0 c,zzr0 fun z=>c ((hF r).mpr z)]
open Classical in
theorem xB{J2 gs gs':Zb}{ds:List am}(h:∀g,g∈gs↔g∈gs'):closF J2 ds gs=closF J2 ds gs':=by
 have:∀r,f8 ds gs r↔f8 ds gs' r:=fun r=>⟨fun⟨g,hg,e⟩=>⟨g,(h g).mp hg,e⟩,fun⟨g,hg,e⟩=>⟨g,(h g).mpr hg,e⟩⟩;unfold closF;refine List.filter_congr fun r _=>?_;by_cases c:f8 ds gs r
 ·rw[zzr1 c,zzr1 ((this r).mp c)]
 ·rw[zzr0 c,zzr0 fun z=>c ((this r).mpr z)]
def behF(J2:Zb)(ds:List am)(J6 sg:Zb):List Str:=if sg=bH then J6.filter (fun r=>decide (r∉eC ds))else closF J2 ds (dj ds sg J6)
theorem CC{J2:Zb}{ds:List am}{fc:Zb}(hfc:∀r∈fc,r∈J2):(fc.filter fun r=>decide (r∈J2.filter (df ds)))=fc.filter fun r=>decide (r∉eC ds):=by
 refine List.filter_congr fun r hr=>?_;rw[<-qY];cases q:df ds r with
 |true=>exact zzr1 (dO.mpr ⟨hfc r hr,q⟩)
 |false=>exact zzr0 (fun z=>by rw[(dO.mp z).2]at q;cases q)
inductive tO (vs:List V)(H:Hp)(Q:VK)(E:XK):Prop
 |mk (t l l1 l2 l3 l4:Addr) (ts:Ze) (J0 J1 J2 gs:Zb) (ds:List am):(vs=[.ref t,.ref l])->(fL H t l1 l2 l3 l4 ts J0 J1 J2 ds)->(aN J0 J1 J2 ds)->(H l=some (.lst (gs.map V.str)))->(gs.length<=1000)->(∀(t':Addr) (H':Hp),H' t'=some (.tup ((closF J2 ds gs).map V.str))->ab H H'->Q (.ref t') H')->tO  vs H Q E
theorem Gk{K:Za}{vs:List V}{H:Hp}{Q:VK}{E:XK}(h:tO vs H Q E):Ca K (eA K) (bJ Q) (start Dy vs) H:=by
 obtain⟨t,l,l1,l2,l3,l4,ts,J0,J1,J2,gs,ds,rfl,T,m,hl,hz,k⟩:=h;have z3:=m.rooms26;refine⟨_,rfl,.inr (.inl ⟨t,_,3,_,rfl,rfl,aY.of T.t,rfl,_,rfl,l4,l,ts,ds,gs,J2,rfl,T.a4,T.ds,hl,fun d hd=>(m.good d hd).b,by omega,hz,fun th F H1 hth hF hFl fr S1=>?_⟩)⟩;have T1:=T.same S1;refine⟨_,rfl,.inr (.inl ⟨t,_,2,_,rfl,rfl,aY.of T1.t,rfl,l3,rfl,⟨_,aA.of T1.a3⟩,fun f hf=>?_⟩)⟩;refine bU (xs:=J2.map V.str) (fun i vs H'=>vs=((J2.take i).filter fun r=>decide (r∈F)).map V.str/\ab H1 H'/\H' f=some (.lst vs)) ⟨rfl,ab.new hf,aa⟩ (fun i vs H' _ ⟨_,S,h'⟩=>⟨h',aA.of (S _ _ T1.a3)⟩) ?_ ?_
 ·rintro vs H' ⟨rfl,S,f'⟩;rw[ai,bf,rR hF]at f';exact⟨f,_,rfl,.inl ⟨aA.of f',fun t' ht'=>k t' _ aa ((S1.trans S).trans (ab.new ht'))⟩⟩
 ·rintro i vs H' x' hx' hi ⟨rfl,S,f'⟩;obtain⟨r,hr,rfl⟩:=bp hx';refine gN ?_;refine⟨_,rfl,_,rfl,fE r,F.map fE,th,_,iu r,rfl,.inl (aA.of (S _ _ hth)),ir _,(by show 0<=8;decide),by rw[dk];decide,_,rfl,?_⟩;rw[if_neg fR,lq];have hlen:(((J2.take i).filter fun r=>decide (r∈F)).map V.str).length<ah:=by
   rw[ai];refine aw (bh (cF _ _) ?_);rw[aD];omega
  refine gP (fun hq=>?_) (fun hq=>?_)
  ·refine⟨_,rfl,f',hlen,j4 hi ⟨?_,?_,aa⟩⟩
   ·rw[bD hr,if_pos hq,aB];rfl
   ·intro b o q;rw[aj (ag q hf)];exact S _ _ q
  ·refine j4 hi ⟨?_,S,f'⟩;rw[bD hr,if_neg hq,dv]
theorem mw(ds:List am):DT.depths (ds.map rL)<=2:=by
 induction ds with
 |nil=>exact dL _
 |cons x xs ih=>rw[bI];show max (DT.depth (rL x)) (DT.depths _)<=2;rw[vO];omega
theorem lb{J0 J1 J2:Zb}{dr:am}(g:xM J0 J1 J2 dr):∃s0 rest,dr.sg=s0::rest/\(!decide (V.str s0=V.str ("ask":Str)))=!fS dr:=by
 obtain⟨s0,rest,hsg⟩:∃s0 rest,dr.sg=s0::rest:=by
  rcases g.sg with⟨w,_,e⟩|⟨w,_,e⟩|e<;>exact⟨_,_,e⟩
 refine⟨s0,rest,hsg,?_⟩;unfold fS;rw[hsg];congr 1;show _=decide (s0=("ask":Str));by_cases c:s0=("ask":Str)
 ·rw[zzr1 c,zzr1 (by rw[c])]
 ·rw[zzr0 c,zzr0 (fun z=>c (by injection z))]
inductive g6 (vs:List V)(H:Hp)(Q:VK)(E:XK):Prop
 |mk (t l1 l2 l3 l4:Addr) (ts:Ze) (J0 J1 J2:Zb) (ds:List am) (r:Str):(vs=[.ref t,.str r])->(fL H t l1 l2 l3 l4 ts J0 J1 J2 ds)->(aN J0 J1 J2 ds)->(∀H',ab H H'->Q (.bl (decide (r∉eC ds))) H')->g6  vs H Q E
theorem Bc{K:Za}{vs:List V}{H:Hp}{Q:VK}{E:XK}(h:g6 vs H Q E):qF K (bJ Q) (start rZ vs) H:=by
 obtain⟨t,l1,l2,l3,l4,ts,J0,J1,J2,ds,r,rfl,T,m,k⟩:=h;have z4:=m.few;refine⟨_,rfl,.inr (.inl ⟨t,_,3,_,rfl,rfl,aY.of T.t,rfl,l4,rfl,⟨_,aA.of T.a4⟩,fun f hf=>?_⟩)⟩;refine bU (xs:=ts.map V.ref) (fun i vs H'=>∃us:List Addr,vs=us.map V.ref/\ab H H'/\H' f=some (.lst vs)/\cn H' us ((ds.take i).filter fun d=>decide (d.a=r) && !fS d)) ⟨[],rfl,ab.new hf,aa,.nil⟩ (fun i vs H' _ ⟨_,_,S,h',_⟩=>⟨h',aA.of (S _ _ T.a4)⟩) ?_ ?_;rotate_left
 ·rintro i vs H' x' hx' hi ⟨us,rfl,S,f',hP⟩;obtain⟨u,hu,rfl⟩:=cg hx';obtain⟨dr,hdr,hatd⟩:=Paired.getL T.ds hu;have hat':=hatd.kt (ab.kt S);obtain⟨sb,ht2,hs2⟩:=hatd.kt (ab.kt S);obtain⟨s0,rest,hsg,ea⟩:=lb (m.good dr (bY hdr));unfold SignAt at hs2;rw[hsg]at hs2;have keep:(decide (dr.a=r) && !fS dr)=false->∃m',m'<(ts.map V.ref).length-i/\Wc (ts.map V.ref).length (fun i vs H'=>∃us:List Addr,vs=us.map V.ref/\ab H H'/\H' f=some (.lst vs)/\cn H' us ((ds.take i).filter fun d=>decide (d.a=r) && !fS d)) (i+1) m' (us.map V.ref) H':=by
   intro z;refine j4 hi ⟨us,rfl,S,f',?_⟩;rw[fG hdr,if_neg (by rw[z];decide),dv];exact hP
  refine gN ?_;refine⟨_,rfl,.inr (.inl ⟨u,_,0,_,rfl,rfl,aY.of ht2,rfl,_,rfl,fE dr.a,fE r,iu _,iu _,(by show 0<=8;decide),(by show 0<=8;decide),_,rfl,?_⟩)⟩;rw[Ay];by_cases c1:dr.a=r;rotate_left
  ·rw[zzr0 c1];exact bv (bv (keep (by rw[zzr0 c1];rfl)))
  rw[zzr1 c1];refine b0 ?_;refine⟨_,rfl,.inr (.inl ⟨u,_,1,_,rfl,rfl,aY.of ht2,rfl,.inr (.inl ⟨sb,_,0,.str s0,rfl,rfl,aY.of hs2,bQ (j:=0) rfl,rfl,_,rfl,?_⟩)⟩)⟩;rw[ea];cases q:fS dr with
  |true=>exact bv (keep (by rw[q,zzr1 c1];rfl))
  |false =>
   refine b0 ?_;refine⟨_,rfl,f',?_,j4 hi ⟨us++[u],by rw[aB];rfl,?_,aa,?_⟩⟩
   ·rw[ai,Paired.length hP];refine aw (bh (cF _ _) ?_);rw[aD];omega
   ·intro b o q;rw[aj (ag q hf)];exact S _ _ q
   ·rw[fG hdr,if_pos (by rw[q,zzr1 c1];rfl)];have hk:jZ H' (upd H' f (.lst (us.map V.ref++[.ref u]))):=eD f';exact fA (hP.kt hk) (hat'.kt hk)
 rintro vs H1 ⟨us,rfl,S1,f1,hP⟩;rw[ai,Paired.length T.ds,bf]at hP;refine⟨(by show 0<=ah;decide),fun e he=>⟨.s ((ds.filter fun d=>decide (d.a=r) && !fS d).map rL),.s [],?_,AD (aA.of aa),?_,by decide,?_⟩⟩
 ·unfold gW;exact⟨f,_,rfl,aA.of (kp f1 he),cn.dIns (hP.kt (ab.kt (ab.new he)))⟩
 ·show DT.depths _+1<=8;have:=mw (ds.filter fun d=>decide (d.a=r) && !fS d);omega
 have ed:decide (DT.s ((ds.filter fun d=>decide (d.a=r) && !fS d).map rL)=DT.s [])=decide (r∉eC ds):=by
  by_cases c:r∈eC ds
  ·have e0:decide (r∉eC ds)=false:=zzr0 (fun z=>z c);rw[e0];refine zzr0 fun z=>?_;injection z with z;unfold eC at c;obtain⟨d,hd,e1⟩:=aX.mp c;obtain⟨h1,h2⟩:=dO.mp hd;have:rL d∈(ds.filter fun d=>decide (d.a=r) && !fS d).map rL:=nV (dO.mpr ⟨h1,by rw[zzr1 e1,h2];rfl⟩);rw[z]at this;cases this
  ·have e0:decide (r∉eC ds)=true:=zzr1 c;rw[e0];refine zzr1 ?_;have:(ds.filter fun d=>decide (d.a=r) && !fS d)=[]:=by
    rw[List.filter_eq_nil_iff];intro d hd z;rw[lZ]at z;exact c (aX.mpr ⟨d,dO.mpr ⟨hd,z.2⟩,of_decide_eq_true z.1⟩)
   rw[this]
   rfl
 rw[ed];exact k _ (S1.trans (ab.new he))
abbrev vZ(H:Hp)(us:Ze)(L:List (List Str)):Prop:=Paired (SignAt H) us L
theorem vZ.kt{H H':Hp}{us:Ze}{L:List (List Str)}(k:jZ H H')(h:vZ H us L):vZ H' us L:=Paired.mapP h fun _ _ r=>k _ _ r
def dR(J0 J1:Zb):List (List Str):=J0.map cZ++J1.map nn++[bH]
theorem rN{K:Za}{σ:L2.St}{H:Hp}{a l:Addr}{ws:Zb}{kd:Str}{Q:Hp->Prop}(ha:H a=some (.lst (ws.map V.str)))(hz:ws.length<=1000)(hl:H l=none)
  (k:∀(us:Ze) (H':Hp),H' l=some (.lst (us.map V.ref))->vZ H' us (ws.map fun w=>[kd,w])->ab H H'->Q H') :
  gx 1 [] σ (DJ K a) U0 kA (bd (aI (tC (.str kd)) V0)) H l Q:=by
 refine bU (xs:=ws.map V.str) (fun i vs H'=>∃us:List Addr,vs=us.map V.ref/\ab H H'/\H' l=some (.lst vs)/\vZ H' us ((ws.take i).map fun w=>[kd,w])) ⟨[],rfl,ab.new hl,aa,.nil⟩ (fun i vs H' _ ⟨_,_,S,h',_⟩=>⟨h',aA.of (S _ _ ha)⟩) ?_ ?_
 ·rintro vs H' ⟨us,rfl,S,h',hP⟩;rw[ai,bf]at hP;exact k us H' h' hP S
 ·rintro i vs H' x' hx' hi ⟨us,rfl,S,f',hP⟩;obtain⟨w,hw,rfl⟩:=bp hx';refine gN (sr ?_);refine⟨_,rfl,(by show 2<=ah;decide),fun u hu=>⟨kp f' hu,?_,j4 hi ⟨us++[u],by rw[aB];rfl,?_,aa,?_⟩⟩⟩
  ·rw[ai,Paired.length hP,ai,aD];exact aw (by omega)
  ·intro b o q;rw[aj (ag q hl)];exact kp (S _ _ q) hu
  ·rw[take_snoc hw,aB];have hk:jZ H' (upd (upd H' u (.tup [.str kd,.str w])) l (.lst (us.map V.ref++[.ref u]))):=(ab.kt (ab.new hu)).trans (eD (kp f' hu));exact fA (vZ.kt hk hP) ((eD (kp f' hu)) _ _ aa)
theorem Dp(xs:List V)(k:Nat):cD xs none (some (k:Int))=xs.take k:=by
 unfold cD;rw[HT.sIx_none,HT.sIx_nat,n6,uw,List.take_eq_take_iff];omega
theorem yY(xs:List V)(k:Nat):cD xs (some (k:Int)) none=xs.drop k:=by
 unfold cD;rw[HT.sIx_none,HT.sIx_nat,nW (by rw[dX];omega)];by_cases h:k<=xs.length
 ·rw[lU h]
 ·rw[Nat.min_eq_right (by omega),n5 (by simp),n5 (by omega)]
theorem Paired.takeP{α β:Type}{R:α->β->Prop}:∀(n:Nat) {xs:List α}{ys:List β},Paired R xs ys->Paired R (xs.take n) (ys.take n)
 |0,_,_,_=>by rw[uk,uk];exact .nil
 |_+1,_,_,.nil=>.nil
 |n+1,_,_,.cons r t=>.cons r (Paired.takeP n t)
theorem Paired.dropP{α β:Type}{R:α->β->Prop}:∀(n:Nat) {xs:List α}{ys:List β},Paired R xs ys->Paired R (xs.drop n) (ys.drop n)
 |0,_,_,h=>h
 |_+1,_,_,.nil=>.nil
 |n+1,_,_,.cons r t=>Paired.dropP n t
def qI(K:Za):TS :=
 aU (cK (cW K) (aG (qJ K V0 "own_asks")))
def sf:List Str:=["self"]
def qH(K:Za):TS :=
 aU (cK (cW K) (aG (qJ K V0 "own_says")))
def se:List Str:=["self"]
def kz(K:Za):TS :=
 aU (cK (cW K) (aG (qQ K (qJ K V0 "leaving") V1 (bd (a_)))))
def kS:List Str:=["self","room"]
theorem mm{C x:Addr}{H:Hp}{J0 J1 J2:Zb}{ds:List am}(h:bL C H x J0 J1 J2 ds):∃(dx:Addr) (fs:List (Str×V)) (o1 o2 lv:Addr) (lps:List (Str×Addr)),H x=some (.ins C dx fs)/\lk "asks" fs=none/\lk "says" fs=none/\lk "doors_from" fs=none/\lk "is_quiet" fs=none/\lk "own_asks" fs=some (.ref o1)/\lk "own_says" fs=some (.ref o2)/\lk "leaving" fs=some (.ref lv) /\
  H o1=some (.lst (J0.map V.str))/\H o2=some (.lst (J1.map V.str))/\lps.map (·.1)=J2/\H lv=some (.dK (dS Sum.inr lps))/\(∀x∈lps,∃us,H x.2=some (.lst (us.map V.ref))/\cn H us (bm ds x.1)):=by
 obtain⟨dx,fs,o1,o2,o3,o4,lv,qu,sg,sl,ts,lps,gps,sps,g1,a1,a2,a3,a4,b1,b2,b3,b4,b5,b6,b7,b8,L,c1,c2,c3,c4,G,d1,d2,d3⟩:=h.at_;obtain⟨dx',fs',g1',e1,e2,e3,e4⟩:=h.more;rw[g1]at g1';cases g1';exact⟨dx,fs,o1,o2,lv,lps,g1,e1,e2,e4,a1,b1,b2,b5,L.a1,L.a2,c1,c2,c3⟩
inductive k9(C:Addr)(vs:List V)(H:Hp)(Q:VK)(E:XK):Prop
 |mk (x:Addr) (J0 J1 J2:Zb) (ds:List am):(vs=[.ref x])->(bL C H x J0 J1 J2 ds)->(∀l,H l=none->Q (.ref l) (upd H l (.lst (J0.map V.str))))->k9 C vs H Q E
theorem Ei{K:Za}{C:Addr}(M:MC K C){vs:List V}{H:Hp}{Q:VK}{E:XK}(h:k9 C vs H Q E):qI K (bJ Q) (start sf vs) H:=by
 obtain⟨x,J0,J1,J2,ds,rfl,h,k⟩:=h;obtain⟨dx,fs,o1,o2,lv,lps,g1,a1,a2,a3,a4,b1,b2,b3,c1,c2,_⟩:=mm h;exact⟨_,rfl,x,C,dx,fs,.ref o1,rfl,g1,M.cls,M.a1,b1,.inl ⟨o1,_,rfl,.inl (aA.of c1),k⟩⟩
inductive m_(C:Addr)(vs:List V)(H:Hp)(Q:VK)(E:XK):Prop
 |mk (x:Addr) (J0 J1 J2:Zb) (ds:List am):(vs=[.ref x])->(bL C H x J0 J1 J2 ds)->(∀l,H l=none->Q (.ref l) (upd H l (.lst (J1.map V.str))))->m_ C vs H Q E
theorem Ec{K:Za}{C:Addr}(M:MC K C){vs:List V}{H:Hp}{Q:VK}{E:XK}(h:m_ C vs H Q E):qH K (bJ Q) (start se vs) H:=by
 obtain⟨x,J0,J1,J2,ds,rfl,h,k⟩:=h;obtain⟨dx,fs,o1,o2,lv,lps,g1,a1,a2,a3,a4,b1,b2,b3,c1,c2,_⟩:=mm h;exact⟨_,rfl,x,C,dx,fs,.ref o2,rfl,g1,M.cls,M.a2,b2,.inl ⟨o2,_,rfl,.inl (aA.of c2),k⟩⟩
inductive gl(C:Addr)(vs:List V)(H:Hp)(Q:VK)(E:XK):Prop
 |mk (x:Addr) (r:Str) (J0 J1 J2:Zb) (ds:List am):(vs=[.ref x,.str r])->(bL C H x J0 J1 J2 ds)->(r∈J2)->(∀(l:Addr) (us:Ze) (H':Hp),H' l=some (.lst (us.map V.ref))->cn H' us (bm ds r)->H l=none->ab H H'->Q (.ref l) H')->gl C vs H Q E
theorem sU{K:Za}{C:Addr}(M:MC K C){vs:List V}{H:Hp}{Q:VK}{E:XK}(h:gl C vs H Q E):kz K (bJ Q) (start kS vs) H:=by
 obtain⟨x,r,J0,J1,J2,ds,rfl,h,hr,k⟩:=h;obtain⟨dx,fs,o1,o2,lv,lps,g1,a1,a2,a3,a4,b1,b2,b3,c1,c2,c3,c4,c5⟩:=mm h;have nod:=h.ok.okR.1;obtain⟨⟨r',a⟩,hra,er⟩:=aX.mp (show r∈lps.map (·.1) by rw[c3];exact hr);obtain rfl:r'=r:=er;obtain⟨us,e1,e2⟩:=c5 _ hra;refine⟨_,rfl,x,C,dx,fs,.ref lv,rfl,g1,M.cls,M.a5,b3,lv,rfl,.inl ⟨_,.inl c4⟩,_,rfl,(by show 0<=ah;decide),fun et het=>⟨_,.inl ⟨_,.inr r',.inl (kp c4 het),rfl,rfl⟩,?_⟩⟩;rw[eh gQ (by rw[c3];exact nod) hra];have S1:ab H (upd H et (.tup [])):=ab.new het;refine .inl ⟨a,_,rfl,.inl (aA.of (S1 _ _ e1)),fun l hl=>k l us _ aa ?_ (S1.free hl) (S1.trans (ab.new hl))⟩;exact e2.kt (ab.kt (S1.trans (ab.new hl)))

theorem EE{n j:Nat}(h:j<n):DG n (j:Int)=some j:=by
 unfold DG;rw[if_pos (Int.natCast_nonneg j),if_pos (by omega)]
 rfl
theorem Reach.mono{ds ds':List am}(h:∀a b,(⟨a,ar,b⟩:am)∈ds->(⟨a,ar,b⟩:am)∈ds'){a b:Str}(r:Reach ds a b):Reach ds' a b:=by
 induction r with
 |one e=>exact .one (h _ _ e)
 |step _ e ih=>exact .step ih (h _ _ e)
theorem CO{K:Za}{H:Hp}{l q:Addr}{ts:Ze}{ds:List am}{Q:VK}(hl:H l=some (.lst (ts.map V.ref)))(hd:cn H ts ds)(hq:H q=some (.lst []))(h1:ds≠[]->Q (.bl true) H)(h2:ds=[]->Q (.bl false) H):j3 K (.ref l) (.ref q) H Q:=by
 refine⟨.s (ds.map rL),.s [],(by unfold gW;exact⟨l,_,rfl,aA.of hl,hd.dIns⟩),(by unfold gW;exact⟨q,_,rfl,aA.of hq,by unfold DIns;rfl⟩),?_,(by decide),?_⟩
 ·show DT.depths _+1<=8;have:=mw ds;omega
 ·by_cases c:ds=[]
  ·subst c;rw[zzr1 (show DT.s (([]:List am).map rL)=DT.s []from rfl)];exact h2 rfl
  ·rw[zzr0 (fun z=>c (by injection z with z;exact List.map_eq_nil_iff.mp z))];exact h1 c
def DR(K:Za)(C_Machine:Addr)(sp_Machine_led_from:Sp)(sp_Machine_goals:Sp):TS :=
 aU (cK (rAny K) (aq (cN 1 [0,2] (bV K (ay eS (db (aG V1)) (dw C_Machine "led_from" sp_Machine_led_from [] E0 V0 (aG V1)))) U0 (kA) (ay CA (cK (dP K) (aq (dw C_Machine "goals" sp_Machine_goals [] E0 V1 (aI V0 (bd (aq (tC (.str "ask")) (aG V2))))) a_)) (tC (.int 0)))) a_))
def EU:List Str:=["I","room","ask"]
def sy(K:Za)(sp_law_put:Sp)(sp_law_take:Sp)(sp_law_still_on:Sp):TS :=
 ap (aS V1 (gw K 4 (bc U2 (bc U3 (bc U4 (bc U5 (f6)))))))
 (ap (aS (cK (cW K) (aG V5)) U5)
 (ap (de (bV K V4) U6 (de (bV K V2) U7 (ap (aS (aM sp_law_still_on (aI V5 (db (aG V6)))) U8)
 (bB (aF (ay (jG K) (cN 1 [8,7] (bV K V5) U0 (iV (aF (ay (ny K false) (ay (iM K) V0 (tC (.int 0))) V1)) (aF (ay (jG K) (ay (iM K) V0 (tC (.int 1))) (bd (aI (tC (.str "ask")) V2))))) V0) (db (a_)))) (ap (aS (ay (cM K) (db (aq V6 (aq (ay (cM K) V4 (aM sp_law_take (aI V0 (cK (dP K) (aG V4))))) a_))) (aM sp_law_take (aI V0 (tC (.int 2))))) U9)
 (cb (aM sp_law_put (aq V5 (aq (bd (dC V6 (bd (aI (tC (.str "ask")) V7)) V9)) a_))))) (aR)))))
 (aU (bd (aq V2 (dC V3 V4 V5))))))
def tp:List Str:=["pen","told","asks","says","rooms","doors","room","ask","there","other"]
def gJ(ds:List am)(r a:Str):Prop:=∃h,(h=r∨Reach ds r h)/\∃b,(⟨h,cZ a,b⟩:am)∈ds
open Classical in
def takesB(ds:List am)(r a:Str):Bool:=decide (gJ ds r a)
theorem ky{ds:List am}{r a:Str}:takesB ds r a=true↔gJ ds r a:=by unfold takesB;exact @decide_eq_true_iff _ (Classical.propDecidable _)
theorem u4{ds:List am}{r a:Str}:takesB ds r a=false↔¬gJ ds r a:=by unfold takesB;exact @decide_eq_false_iff_not _ (Classical.propDecidable _)
theorem pB{ds:List am}{h:Str}{sg:Zb}:0<(bz ds (h,sg)).length↔∃b,(⟨h,sg,b⟩:am)∈ds:=by
 rw[List.length_pos_iff_exists_mem];constructor
 ·rintro⟨b,hb⟩;exact⟨b,eB.mp hb⟩
 ·rintro⟨b,hb⟩;exact⟨b,eB.mpr hb⟩
theorem AU{ds:List am}{r a:Str}{L:Zb}(hL:∀w,w∈L↔Reach ds r w):((r::L).map fun h=>decide ((0:Int)<(bz ds (h,cZ a)).length)).any id=takesB ds r a:=by
 rw[p_,ky,List.any_eq_true];constructor
 ·rintro⟨b,hb,e⟩;obtain⟨h,hh,rfl⟩:=aX.mp hb;have:=of_decide_eq_true e;refine⟨h,?_,pB.mp (by omega)⟩;rcases cv.mp hh with e|e
  ·exact .inl e
  ·exact .inr ((hL h).mp e)
 ·rintro⟨h,hh,hb⟩;refine⟨true,aX.mpr ⟨h,?_,zzr1 (by have:=pB.mpr hb;omega)⟩,rfl⟩;rcases hh with e|e
  ·rw[e];exact fx
  ·exact fw _ ((hL h).mpr e)
inductive jc(C:Addr)(vs:List V)(H:Hp)(Q:VK)(E:XK):Prop
 |mk (x:Addr) (r a:Str) (J0 J1 J2:Zb) (ds:List am):(vs=[.ref x,.str r,.str a])->(bL C H x J0 J1 J2 ds)->(r∈J2)->(∀H',ab H H'->Q (.bl (takesB ds r a)) H')->jc C vs H Q E
theorem Ch{K:Za}{C:Addr}{vs:List V}{H:Hp}{Q:VK}{E:XK}(h:jc C vs H Q E):DR K C (gq C) (g0 C) (bJ Q) (start EU vs) H:=by
 obtain⟨x,r,a,J0,J1,J2,ds,rfl,M,hr,k⟩:=h;refine⟨_,rfl,(by show 1<=ah;decide),fun l1 hl1=>?_⟩;have S1:ab H (upd H l1 (.lst [.str r])):=ab.new hl1;have e1:upd H l1 (.lst [.str r]) l1=some (.lst [.str r]):=aa;generalize upd H l1 (.lst [.str r])=H1 at S1 e1 ⊢;have M1:=M.same S1;obtain⟨dx,fs,o1,o2,o3,o4,lv,qu,sgA,sl,ts,lps,gps,sps,g1,a1,a2,a3,a4,_⟩:=id M1.at_;refine⟨_,rfl,x,dx,fs,rfl,g1,a3,_,rfl,x,r,J0,J1,J2,ds,rfl,M1,hr,fun l2 L H2 e2 nd hL _ S2=>?_⟩;have hin:∀w∈L,w∈J2:=fun w hw=>((hL w).mp hw).in_ fun d hd=>(M.ok.good d hd).b;have zL:=jf nd hin;have z3:=M.ok.rooms26;refine⟨l1,l2,_,_,rfl,rfl,S2 _ _ e1,e2,by rw[ai];show 1+L.length<=ah;exact fh (aw (by omega)),fun l3 hl3=>?_⟩;have eq:([.str r]++L.map V.str:List V)=(r::L).map V.str:=rfl;rw[eq];have S3:ab H (upd H2 l3 (.lst ((r::L).map V.str))):=(S1.trans S2).trans (ab.new hl3);have e3:upd H2 l3 (.lst ((r::L).map V.str)) l3=some (.lst ((r::L).map V.str)):=aa;generalize upd H2 l3 (.lst ((r::L).map V.str))=H3 at S3 e3 ⊢;refine⟨l3,rfl,⟨_,aA.of e3⟩,fun q hq=>?_⟩;refine bU (xs:=(r::L).map V.str) (fun i vs H'=>vs=(((r::L).take i).map fun h=>decide ((0:Int)<(bz ds (h,cZ a)).length)).map V.bl/\ab H3 H'/\H' q=some (.lst vs)) ⟨rfl,ab.new hq,aa⟩ (fun i vs H' _ ⟨_,S,h⟩=>⟨h,aA.of (S _ _ e3)⟩) ?_ ?_
 ·rintro vs H' ⟨rfl,S,h⟩;rw[ai,bf]at h;refine⟨q,_,rfl,aA.of h,?_⟩;rw[AU hL];exact k H' (S3.trans S)
 ·rintro i vs H' y hy hi ⟨rfl,S,h⟩;obtain⟨w,hw,rfl⟩:=bp hy;refine gN (sr ?_);have M':=M.same (S3.trans S);obtain⟨dx,fs,o1,o2,o3,o4,lv,qu,sgA,sl,ts,lps,gps,sps,g1,a1,a2,a3,a4,_⟩:=id M'.at_;refine⟨_,rfl,x,dx,fs,rfl,g1,a2,_,rfl,_,rfl,(by show 2<=ah;decide),fun s hs=>?_⟩;have S4:ab H' (upd H' s (.tup ((cZ a).map V.str))):=ab.new hs;refine⟨x,s,w,cZ a,J0,J1,J2,ds,rfl,M'.same S4,aa,fun g H5 hg _ S5=>?_⟩;have S45:=S4.trans S5;refine .inl ⟨g,_,rfl,.inl (aA.of hg),_,_,rfl,rfl,S45 _ _ h,?_,?_⟩
  ·rw[ai,ai,aD];exact aw (by rw[em];omega)
  refine j4 hi ⟨?_,fun b o e=>?_,aa⟩
  ·rw[take_snoc hw,aB,aB];show _++[V.bl (decide ((0:Int)<(((bz ds (w,cZ a)).map V.str).length:Nat)))]=_;rw[ai];rfl
  ·rw[aj (ag e hq)];exact S45 _ _ (S _ _ e)
theorem Ai{K:Za}{H:Hp}{l m:Addr}{a b:Zb}{Q:VK}(hl:H l=some (.lst (a.map V.str)))(hm:H m=some (.lst (b.map V.str)))(k:Q (.bl (!decide (a=b))) H):j3 K (.ref l) (.ref m) H Q:=by
 refine⟨.s (a.map fE),.s (b.map fE),rK (aA.of hl),rK (aA.of hm),?_,?_,?_⟩
 ·show DT.depths _+1<=8;rw[dk];decide
 ·show DT.depths _+1<=8;rw[dk];decide
 ·rw[decide_eq_decide.mpr (show DT.s (a.map fE)=DT.s (b.map fE)↔a=b from⟨fun h=>gv (by injection h),fun h=>by rw[h]⟩)];exact k
def xG(F:Zb)(a:Str)(d:am):Bool:=decide (d.a∈F) && decide (d.sg=cZ a)
theorem xF{ds:List am}{F:Zb}{r a:Str}(hF:∀w,w∈F↔f8 ds [r] w):ds.filter (xG F a)=[]↔takesB ds r a=false:=by
 rw[u4,List.filter_eq_nil_iff];constructor
 ·rintro h ⟨w,hw,b,hb⟩;refine h _ hb ?_;unfold xG;rw[zzr1,zzr1]
  ·rfl
  ·rfl
  ·exact(hF w).mpr ⟨r,fx,hw⟩
 ·intro n d hd q;unfold xG at q;rw[lZ]at q;have q1:=of_decide_eq_true q.1;have q2:=of_decide_eq_true q.2;obtain⟨g,hg,e⟩:=(hF _).mp q1;have:g=r:=by simpa using hg
  subst this;obtain⟨x,sg,b⟩:=d;exact n ⟨x,e,b,by rw[<-q2];exact hd⟩
theorem Du{K:Za}{σ:L2.St}{jt ja:Nat}{l4 f l:Addr}{ts:Ze}{ds:List am}{F:Zb}{a:Str}{H1:Hp}{Q:Hp->Prop}(st:σ[jt]?=some (some (.ref f)))(sa:σ[ja]?=some (some (.str a)))
  (h4:H1 l4=some (.lst (ts.map V.ref))) (hd:cn H1 ts ds) (hf:H1 f=some (.lst (F.map V.str))) (z:ds.length<=1000) (hl:H1 l=none)
  (k:∀(us:Ze) (H':Hp),H' l=some (.lst (us.map V.ref))->cn H' us (ds.filter (xG F a))->ab H1 H'->Q H') :
  gx 1 [jt,ja] σ (DJ K l4) U0 (iV (aF (ay (ny K false) (ay (iM K) V0 (tC (.int 0))) V1)) (aF (ay (jG K) (ay (iM K) V0 (tC (.int 1))) (bd (aI (tC (.str "ask")) V2))))) V0 H1 l Q:=by
 have cs:d4 1 [jt,ja] σ=[none,some (.ref f),some (.str a)]:=by simp[d4,st,sa]
 refine bU (xs:=ts.map V.ref) (fun i vs H'=>∃us:List Addr,vs=us.map V.ref/\cn H' us ((ds.take i).filter (xG F a))/\ab H1 H'/\H' l=some (.lst vs))
  ⟨[],rfl,.nil,ab.new hl,aa⟩ (fun i vs H' _ ⟨_,_,_,S,h'⟩=>⟨h',aA.of (S _ _ h4)⟩) ?_ ?_
 ·rintro vs H' ⟨us,rfl,D,S,h'⟩;rw[ai,Paired.length hd,bf]at D;exact k us H' h' D S
 ·rintro i vs H' y hy hi ⟨us,rfl,D,S,h'⟩;obtain⟨u,hu,rfl⟩:=cg hy;obtain⟨dr,hdr,hat⟩:=Paired.getL hd hu;obtain⟨sb,ht2,hs2⟩:=hat.kt (ab.kt S);have hi':i<ds.length:=(cE.mp hdr).1;have zu:us.length<=i:=by
   have:=Paired.length D;rw[this];refine bh (cF _ _) ?_;rw[aD];omega
  rw[cs];refine gN ?_;refine⟨_,rfl,.inr (.inl ⟨u,_,0,_,rfl,rfl,aY.of ht2,rfl,_,rfl,fE dr.a,F.map fE,f,_,iu _,rfl,.inl (aA.of (S _ _ hf)),ir _,(by show 0<=8;decide),by rw[dk];decide,_,rfl,?_⟩)⟩;rw[if_neg fR,lq];by_cases c1:dr.a∈F;rotate_left
  ·rw[zzr0 c1];refine bv (bv (j4 hi ⟨us,rfl,?_,S,h'⟩));rw[fG hdr,if_neg (by unfold xG;rw[zzr0 c1,zH];decide),dv];exact D
  rw[zzr1 c1];refine b0 ?_;refine⟨_,rfl,.inr (.inl ⟨u,_,1,_,rfl,rfl,aY.of ht2,rfl,_,rfl,(by show 2<=ah;decide),fun s hs=>?_⟩)⟩;have S2:ab H' (upd H' s (.tup ((cZ a).map V.str))):=ab.new hs;have e2:upd H' s (.tup ((cZ a).map V.str)) s=some (.tup ((cZ a).map V.str)):=aa;have e2':(.tup [.str "ask",.str a]:HO)=.tup ((cZ a).map V.str):=rfl;rw[e2'];generalize upd H' s (.tup ((cZ a).map V.str))=H2 at S2 e2 ⊢;have D2:=D.kt (ab.kt S2);refine⟨gB dr.sg,gB (cZ a),aL (aY.of (S2 _ _ hs2)),aL (aY.of e2),by rw[aZ];decide,by rw[aZ];decide,_,rfl,?_⟩;rw[cV];by_cases c2:dr.sg=cZ a;rotate_left
  ·rw[zzr0 c2];refine bv (j4 hi ⟨us,rfl,?_,S.trans S2,S2 _ _ h'⟩);rw[fG hdr,if_neg (by unfold xG;rw[zzr0 c2,uO];decide),dv];exact D2
  rw[zzr1 c2];refine b0 ?_;have S3:ab H1 (upd H2 l (.lst (us.map V.ref++[.ref u]))):=fun b o q=>by
   rw[aj (ag q hl)];exact S2 _ _ (S _ _ q)
  have kt:jZ H2 (upd H2 l (.lst (us.map V.ref++[.ref u]))):=fun b xs q=>by
   rw[aj (fun z=>by rw[z,S2 _ _ h']at q;cases q)];exact q
  refine⟨_,rfl,S2 _ _ h',by rw[ai];exact aw (by omega),j4 hi ⟨us++[u],by rw[aB];rfl,?_,S3,aa⟩⟩;rw[fG hdr,if_pos (by unfold xG;rw[zzr1 c1,zzr1 c2];rfl)];exact fA (D2.kt kt) ⟨sb,kt _ _ (S2 _ _ ht2),kt _ _ (S2 _ _ hs2)⟩
theorem Dg{K:Za}{H:Hp}{l q:Addr}{ts:Ze}{ds:List am}{Q:VK}(hl:H l=some (.lst (ts.map V.ref)))(hd:cn H ts ds)(hq:H q=some (.lst []))(h:Q (.bl (decide (ds=[]))) H):jG K (.ref l) (.ref q) H Q:=by
 refine⟨.s (ds.map rL),.s [],(by unfold gW;exact⟨l,_,rfl,aA.of hl,hd.dIns⟩),(by unfold gW;exact⟨q,_,rfl,aA.of hq,by unfold DIns;rfl⟩),?_,(by decide),?_⟩
 ·show DT.depths _+1<=8;have:=mw ds;omega
 ·rw[decide_eq_decide.mpr (show DT.s (ds.map rL)=DT.s []↔ds=[]from⟨fun z=>List.map_eq_nil_iff.mp (by injection z),fun z=>by rw[z];rfl⟩)];exact h
theorem Reach.unask{ds:List am}{d:am}(n:d.sg≠ar){a b:Str}(r:Reach (ds++[d]) a b):Reach ds a b:=by
 have key:∀{x y:Str},(⟨x,ar,y⟩:am)∈ds++[d]->(⟨x,ar,y⟩:am)∈ds:=fun q=>by
  rcases bN.mp q with q|q
  ·exact q
  ·have e:=cz.mp q;exact absurd (by rw[<-e]) n
 induction r with
 |one q=>exact .one (key q)
 |step _ q ih=>exact .step ih (key q)
theorem gJ.mono{ds es:List am}(h:∀d∈ds,d∈es){r a:Str}:gJ ds r a->gJ es r a:=fun⟨w,hw,b,hb⟩=>⟨w,hw.imp id (Reach.mono fun x y=>h _),b,h _ hb⟩
theorem mem_putD{ds:List am}{d x:am}:x∈kJ ds d↔x∈ds∨x=d:=by
 unfold kJ;split
 ·rename_i h;exact⟨.inl,fun z=>z.elim id fun e=>by rw[e];exact h⟩
 ·simp
theorem aN.putOne{J0 J1 J2:Zb}{ds:List am}{d:am}(m:aN J0 J1 J2 ds)(g:xM J0 J1 J2 d)(n:d.sg≠ar)(z:ds.length+1<=1000):aN J0 J1 J2 (kJ ds d):=by
 refine⟨m.okA,m.okS,m.apart,m.okR,m.asks0,m.says0,m.rooms0,m.asks4,m.says4,m.rooms26,?_,fun x hx=>?_,?_,fun r q=>?_⟩
 ·unfold kJ;split
  ·exact m.nodup
  ·rename_i h;rw[c9];exact⟨m.nodup,by simp,fun a ha b hb e=>h (by rw[<-cz.1 hb,<-e];exact ha)⟩
 ·rcases mem_putD.mp hx with h|h
  ·exact m.good x h
  ·rw[h];exact g
 ·have:=q_ ds d;omega
 ·refine m.noround r ?_;unfold kJ at q;split at q
  ·exact q
  ·exact q.unask n
theorem ug(a:Str):cZ a≠ar:=by unfold cZ ar;intro h;injection h with _ h;cases h
structure TX(H0:Hp)(p c l:Addr)(R:List am->Prop)(H:Hp):Prop where
 pen:fo H p c
 ds:∃ts ds,H l=some (.lst (ts.map V.ref))/\cn H ts ds/\R ds
 ex:cx p H0 H
 fr:H0 l=none
 pl:p≠l
 cl:c≠l
section
variable{H0 H H':Hp}{p c l:Addr}{R R':List am->Prop}
theorem TX.took(h:TX H0 p c l R H)(hp:fo H' p c)(e:cx p H H'):TX H0 p c l R H':=by
 obtain⟨ts,ds,h1,h2,h3⟩:=h.ds;obtain⟨xs,hx⟩:=h.pen.lst;exact⟨hp,⟨ts,ds,e _ _ h1 h.pl.symm,h2.kt (e.kt hx),h3⟩,h.ex.trans e,h.fr,h.pl,h.cl⟩
theorem TX.same(h:TX H0 p c l R H)(S:ab H H'):TX H0 p c l R H':=h.took (h.pen.ex S) (ab.exB S)
theorem TX.imp(h:TX H0 p c l R H)(q:∀ds,R ds->R' ds):TX H0 p c l R' H:=by
 obtain⟨ts,ds,h1,h2,h3⟩:=h.ds;exact⟨h.pen,⟨ts,ds,h1,h2,q _ h3⟩,h.ex,h.fr,h.pl,h.cl⟩
theorem TX.put{ts:Ze}{ds:List am}(h:TX H0 p c l R H)(hl:∃xs,H l=some (.lst xs))(hd:cn H ts ds)(r:R' ds):TX H0 p c l R' (upd H l (.lst (ts.map V.ref))):=by
 obtain⟨xs,hx⟩:=hl;refine⟨h.pen.upd h.pl h.cl,⟨ts,ds,aa,hd.kt fun b ys q=>?_,r⟩,fun b o q n=>?_,h.fr,h.pl,h.cl⟩
 ·rw[aj (fun z=>by rw[z,hx]at q;cases q)];exact q
 ·rw[aj (ag q h.fr)];exact h.ex _ _ q n
end
def WR(J0 J1 J2:Zb)(D:List (Str×Str))(n:Nat)(ds:List am):Prop:=aN J0 J1 J2 ds/\ds.length<=n/\∀x∈D,gJ ds x.1 x.2
theorem WR.up{J0 J1 J2:Zb}{D:List (Str×Str)}{n n':Nat}{ds:List am}(h:WR J0 J1 J2 D n ds)(z:n<=n'):WR J0 J1 J2 D n' ds:=⟨h.1,bh h.2.1 z,h.2.2⟩
inductive jB (vs:List V)(H:Hp)(Q:VK)(E:XK):Prop
 |mk (p c t l1 l2 l3 l4:Addr) (ts:Ze) (J0 J1 J2:Zb) (ds:List am):(vs=[.ref p,.ref t])->(fo H p c)->(fL H t l1 l2 l3 l4 ts J0 J1 J2 ds)->(aN J0 J1 J2 ds)->(J2.length<=26)->(ds.length<=800)->(∀(t' l4':Addr) (ts':Ze) (ds':List am) (H':Hp),fL H' t' l1 l2 l3 l4' ts' J0 J1 J2 ds'->aN J0 J1 J2 ds'->(∀r∈J2,∀a∈J0,gJ ds' r a)->ds'.length<=ds.length+4 * J2.length->fo H' p c->cx p H H'->Q (.ref t') H')->jB  vs H Q E
theorem yu{K:Za}{vs:List V}{H:Hp}{Q:VK}{E:XK}(h:jB vs H Q E):sy K jC eg (eA K) (bJ Q) (start tp vs) H:=by
 obtain⟨p,c,t,l1,l2,l3,l4,ts,J0,J1,J2,ds,rfl,hp,T,m,z26,z8,k⟩:=h;have a4:=m.asks4;refine⟨_,rfl,t,_,rfl,aY.of T.t,rfl,_,_,rfl,_,_,rfl,_,_,rfl,_,_,rfl,rfl,?_⟩;refine⟨_,rfl,.inl ⟨l4,_,rfl,.inl (aA.of T.a4),fun f hf=>?_⟩⟩;have B0:TX H p c f (WR J0 J1 J2 [] ds.length) (upd H f (.lst (ts.map V.ref))):=⟨hp.ex (ab.new hf),⟨ts,ds,aa,T.ds.kt (ab.kt (ab.new hf)),m,aH _,by simp⟩,cx.new hf,hf,hp.nep hf,hp.nec hf⟩;generalize upd H f (.lst (ts.map V.ref))=H1 at B0 ⊢;have keep:∀{H':Hp}{R:List am->Prop},TX H p c f R H'->H' l1=some (.lst (J0.map V.str))/\H' l2=some (.lst (J1.map V.str))/\H' l3=some (.lst (J2.map V.str)):=fun B =>
  ⟨B.ex _ _ T.a1 (hp.ne_strs T.a1),B.ex _ _ T.a2 (hp.ne_strs T.a2),B.ex _ _ T.a3 (hp.ne_strs T.a3)⟩
 refine⟨_,rfl,l3,rfl,⟨_,aA.of (keep B0).2.2⟩,?_⟩;refine bW (xs:=J2.map V.str) (fun i σ H'=>∃a6 a7 a8 a9:Option V,σ=[some (.ref p),some (.ref t),some (.ref l1),some (.ref l2),some (.ref l3),some (.ref f),a6,a7,a8,a9]/\TX H p c f (WR J0 J1 J2 ((J2.take i).flatMap fun r=>J0.map fun a=>(r,a)) (ds.length+4 * i)) H')
  ⟨_,_,_,_,rfl,B0⟩ (fun i σ H' _ ⟨_,_,_,_,_,B⟩=>aA.of (keep B).2.2) ?_ ?_
 ·rintro i v σ H2 hi ⟨a6,a7,a8,a9,rfl,B2⟩;obtain⟨r,hr,rfl⟩:=bp hi;have hir:i<J2.length:=(cE.mp hr).1;have hrm:=bY hr;refine⟨_,rfl,l1,rfl,⟨_,aA.of (keep B2).1⟩,?_⟩;refine bW (xs:=J0.map V.str) (fun j σ H'=>∃a7 a8 a9:Option V,σ=[some (.ref p),some (.ref t),some (.ref l1),some (.ref l2),some (.ref l3),some (.ref f),some (.str r),a7,a8,a9]/\TX H p c f (WR J0 J1 J2 ((J2.take i).flatMap (fun r=>J0.map fun a=>(r,a))++(J0.take j).map fun a=>(r,a)) (ds.length+4 * i+j)) H')
   ⟨_,_,_,rfl,B2.imp fun ds h=>by simpa using h⟩ (fun i σ H' _ ⟨_,_,_,_,B⟩=>aA.of (keep B).1) ?_ ?_
  ·rintro j v σ H3 hj ⟨a7,a8,a9,rfl,B3⟩;obtain⟨a,ha,rfl⟩:=bp hj;have hja:j<J0.length:=(cE.mp ha).1;have ham:=bY ha;have fin:∀es n,WR J0 J1 J2 ((J2.take i).flatMap (fun r=>J0.map fun a=>(r,a))++(J0.take j).map fun a=>(r,a)) n es->gJ es r a->WR J0 J1 J2 ((J2.take i).flatMap (fun r=>J0.map fun a=>(r,a))++(J0.take (j+1)).map fun a=>(r,a)) n es:=fun es n w tk=>by
    refine⟨w.1,w.2.1,fun x hx=>?_⟩;rw[take_snoc ha,aB,<-eN]at hx;rcases bN.mp hx with h|h
    ·exact w.2.2 x h
    ·have:x=(r,a):=by simpa using h
     rw[this];exact tk
   refine⟨_,rfl,_,rfl,(by show 1<=ah;decide),fun q hq=>?_⟩;have B4:=B3.same (ab.new (o:=.lst [.str r]) hq);have q4:upd H3 q (.lst [.str r]) q=some (.lst [.str r]):=aa;generalize upd H3 q (.lst [.str r])=H4 at B4 q4 ⊢;obtain⟨us,es,g1,g2,g3⟩:=B4.ds;refine⟨f,q,us,es,[r],J2,rfl,g1,g2,q4,fun d hd=>(g3.1.good d hd).b,by omega,(by show 1<=1000;decide),fun th F H5 hth hF _ _ S5=>?_⟩;have B5:=B4.same S5;have f5:=S5 _ _ g1;have d5:=g2.kt (ab.kt S5);refine⟨_,rfl,f,rfl,⟨_,aA.of f5⟩,fun l hl=>?_⟩;refine Du (K:=K) (jt:=8) (ja:=7) rfl rfl f5 d5 hth g3.1.few hl fun vs H6 h6 D6 S6=>⟨(by show 0<=ah;decide),fun e he=>?_⟩;refine Dg (kp h6 he) (D6.kt (ab.kt (ab.new he))) aa ⟨_,rfl,?_⟩;have S7:ab H5 (upd H6 e (.lst [])):=S6.trans (ab.new he);generalize upd H6 e (.lst [])=H7 at S7 ⊢;have f7:=S7 _ _ f5;have d7:=d5.kt (ab.kt S7);have B7:TX H p c f (fun ds'=>ds'=es) H7:=by
    have B:=B5.same S7;exact⟨B.pen,⟨us,es,f7,d7,rfl⟩,B.ex,B.fr,B.pl,B.cl⟩
   cases q:takesB es r a with
   |true =>
    rw[zzr0 (fun z=>by rw[xF hF,q]at z;cases z)];exact bv ⟨_,_,_,rfl,B7.imp fun ds' e=>by rw[e];exact fin _ _ (g3.up (by omega)) (ky.mp q)⟩
   |false =>
    rw[zzr1 ((xF hF).mpr q)];refine b0 ?_;have l37:=(keep B7).2.2;refine⟨_,rfl,_,rfl,_,rfl,_,rfl,.inl ⟨l3,_,rfl,.inl (aA.of l37),?_⟩⟩;rw[ai];refine da B7.pen (by omega) (by omega) fun x H8 x0 x1 hp8 ex8=>?_;obtain⟨n,rfl⟩:=gy x0;have B8:=B7.took hp8 ex8;obtain⟨w,hw⟩:∃w,J2[n]?=some w:=⟨_,h_ (by omega)⟩;refine⟨l3,_,(n:Int),.str w,rfl,rfl,aA.of (keep B8).2.2,bQ (j:=n) (by rw[cO,hw];rfl),(by show 2<=ah;decide),fun u hu=>?_⟩;have B9:=B8.same (ab.new (o:=.lst [.str r,.str w]) hu);have u9:upd H8 u (.lst [.str r,.str w]) u=some (.lst ([r,w].map V.str)):=aa;generalize upd H8 u (.lst [.str r,.str w])=H9 at B9 u9 ⊢;refine⟨_,rfl,da B9.pen (by decide) (by decide) fun y H10 y0 y1 hp10 ex10=>?_⟩;have B10:=B9.took hp10 ex10;obtain⟨g,hg,hgm⟩:∃g,vV ([r,w].map V.str) y=some (.str g)/\g∈J2:=by
     have:y=0∨y=1:=by omega
     rcases this with rfl|rfl
     ·exact⟨r,rfl,hrm⟩
     ·exact⟨w,rfl,bY hw⟩
    refine⟨u,_,y,.str g,rfl,rfl,aA.of (ex10 _ _ u9 (B9.pen.ne_strs u9)),hg,?_⟩;refine⟨_,rfl,_,rfl,_,rfl,(by show 2<=ah;decide),fun s hs=>⟨_,rfl,(by show 3<=ah;decide),fun d hd=>?_⟩⟩;have S12:ab H10 (upd (upd H10 s (.tup [.str "ask",.str a])) d (.tup [.str r,.ref s,.str g])):=(ab.new hs).trans (ab.new hd);have at12:f_ (upd (upd H10 s (.tup [.str "ask",.str a])) d (.tup [.str r,.ref s,.str g])) d ⟨r,cZ a,g⟩:=⟨s,aa,kp aa hd⟩;generalize upd (upd H10 s (.tup [.str "ask",.str a])) d (.tup [.str r,.ref s,.str g])=H12 at S12 at12 ⊢;have B12:=B10.same S12;obtain⟨us',es',k1,k2,rfl⟩:=id B12.ds;have zz:=g3.2.1;have good:xM J0 J1 J2 ⟨r,cZ a,g⟩:=⟨hrm,hgm,.inl ⟨a,ham,rfl⟩⟩;refine⟨f,d,us',_,⟨r,cZ a,g⟩,rfl,k1,k2,at12,g3.1.few,fun us2 D2=>?_⟩;refine⟨_,_,_,rfl,B12.put ⟨_,k1⟩ D2 (fin _ _ ⟨g3.1.putOne good (ug a) (by omega),?_,fun x hx=>(g3.2.2 x hx).mono fun y hy=>mem_putD.mpr (.inl hy)⟩ ⟨r,.inl rfl,g,mem_putD.mpr (.inr rfl)⟩)⟩;have:=q_ es' ⟨r,cZ a,g⟩;omega
  ·rintro σ H3 ⟨a7,a8,a9,rfl,B3⟩;refine⟨_,_,_,_,rfl,B3.imp fun es h=>?_⟩;rw[ai]at h;refine⟨h.1,by have:=h.2.1;omega,fun x hx=>h.2.2 x ?_⟩;rw[take_snoc hr,uj]at hx;rw[bf];simpa using hx
 ·rintro σ H2 ⟨a6,a7,a8,a9,rfl,B2⟩;rw[ai,bf]at B2;obtain⟨us,es,g1,g2,g3⟩:=B2.ds;obtain⟨q1,q2,q3⟩:=keep B2;refine⟨_,rfl,_,rfl,_,rfl,_,rfl,(by show 4<=ah;decide),fun t' ht'=>?_⟩;have S3:=ab.new (o:=.tup [.ref l1,.ref l2,.ref l3,.ref f]) ht';exact k t' f us es _ ⟨aa,S3 _ _ q1,S3 _ _ q2,S3 _ _ q3,S3 _ _ g1,g2.kt (ab.kt S3)⟩ g3.1 (fun r hr a ha=>g3.2.2 (r,a) (List.mem_flatMap.mpr ⟨r,hr,aX.mpr ⟨a,ha,rfl⟩⟩)) g3.2.1 (B2.pen.ex S3) (B2.ex.trans (ab.exB S3))
def oA(K:Za)(C_Machine:Addr)(sp_Machine_asks:Sp)(sp_Machine_says:Sp)(a_HUSH:Addr):TS :=
 aU (ay eS (ay eS (cN 1 [] (bV K (dw C_Machine "asks" sp_Machine_asks [] E0 V0 a_)) U0 (kA) (bd (aI (tC (.str "ask")) V0))) (cN 1 [] (bV K (dw C_Machine "says" sp_Machine_says [] E0 V0 a_)) U0 (kA) (bd (aI (tC (.str "say")) V0)))) (db (aG (tC (.ref a_HUSH)))))
def oW:List Str:=["M"]
def xV(K:Za)(sp_signs_in_order:Sp)(sp_face_behind:Sp):TS :=
 ap (aS (mj) U2)
 (ap (de (bV K (aM sp_signs_in_order (aG V0))) U3 (ap (aS (aM sp_face_behind (dC V0 V1 V3)) U4)
 (bB (aF (ay CA (cK (dP K) (aG V4)) (tC (.int 0)))) (vq K V2 V3 V4) (aR))))
 (aU V2))
def zc:List Str:=["M","face","steps","sign","behind"]
abbrev Sg:=List Str
def stepsF(J0 J1 J2:Zb)(ds:List am)(J6:Zb):List (Sg×List Str):=((dR J0 J1).map fun sg=>(sg,behF J2 ds J6 sg)).filter fun p=>decide (p.2≠[])
structure FMs where
 fs:List (List Str)
 ss:List (List Sg)
abbrev FMst:=FMs×List (List (Sg×Nat))
def IsFc(J2 f:Zb):Prop:=∃p:Str->Bool,f=J2.filter p
structure Good(J2:Zb)(m:FMs):Prop where
 nd:m.fs.Nodup
 len:m.ss.length=m.fs.length
 isF:∀f∈m.fs,IsFc J2 f
 sl:∀(i:Nat) (s:List Sg),m.ss[i]?=some s->s.length<=i
structure FmOk(J0 J1 J2:Zb)(ds:List am)(S:FMst):Prop where
 good:Good J2 S.1
 le:S.2.length<=S.1.fs.length
 zero:S.1.fs[0]?=some (closF J2 ds (J2.take 1))
 st:∀(i:Nat) (l:List (Sg×Nat)),S.2[i]?=some l->∃f,S.1.fs[i]?=some f/\Paired (fun(a:Sg×Nat) (p:Sg×List Str)=>a.1=p.1/\S.1.fs[a.2]?=some p.2) l (stepsF J0 J1 J2 ds f)
def ER(hu:Addr)(H:Hp)(u:Addr)(sg:Zb):Prop:=H u=some (.tup (sg.map V.str))∨(u=hu/\sg=bH)
theorem ER.same{hu:Addr}{H H':Hp}{u:Addr}{sg:Zb}(h:ER hu H u sg)(S:ab H H'):ER hu H' u sg:=h.imp (S _ _) id
theorem zX{K:Za}{a:Addr}{xs:List V}(h:∀H,aY K H a xs)(H:Hp):ck K H a xs:=by
 rcases h (fun _=>none)with(h|⟨o,h⟩)|h
 ·cases h
 ·cases h
 ·exact .inr h
section
variable{K:Za}{hu:Addr}(hh:∀H,aY K H hu (bH.map V.str))
include hh
theorem ER.tup{H:Hp}{u:Addr}{sg:Zb}(h:ER hu H u sg):ck K H u (sg.map V.str):=by
 rcases h with h|⟨rfl,rfl⟩
 ·exact .inl h
 ·exact zX hh H
theorem ER.sq{H:Hp}{u:Addr}{sg:Zb}(h:ER hu H u sg):aY K H u (sg.map V.str):=by
 rcases h with h|⟨rfl,rfl⟩
 ·exact aY.of h
 ·exact hh H
end
inductive vk(C hu:Addr)(vs:List V)(H:Hp)(Q:VK)(E:XK):Prop
 |mk (x:Addr) (J0 J1 J2:Zb) (ds:List am):(vs=[.ref x])->(bL C H x J0 J1 J2 ds)->(∀(l:Addr) (us:Ze) (H':Hp),H' l=some (.lst (us.map V.ref))->Paired (ER hu H') us (dR J0 J1)->ab H H'->Q (.ref l) H')->vk C hu vs H Q E
theorem Fx{K:Za}{C hu:Addr}{vs:List V}{H:Hp}{Q:VK}{E:XK}(h:vk C hu vs H Q E):oA K C (k9 C) (m_ C) hu (bJ Q) (start oW vs) H:=by
 obtain⟨x,J0,J1,J2,ds,rfl,M,k⟩:=h;have z1:=M.ok.asks4;have z2:=M.ok.says4;obtain⟨dx,fs,o1,o2,lv,lps,g1,a1,a2,_⟩:=mm M;refine⟨_,rfl,x,dx,fs,rfl,g1,a1,x,J0,J1,J2,ds,rfl,M,fun w1 hw1=>⟨w1,rfl,⟨_,aA.of aa⟩,fun la hla=>?_⟩⟩;have S0:ab H (upd H w1 (.lst (J0.map V.str))):=ab.new hw1;refine rN (kd:="ask") (ws:=J0) aa (by omega) hla fun ua H1 h1 hP1 S1=>?_;have M1:=M.same (S0.trans S1);obtain⟨dx,fs,o1,o2,lv,lps,g1,a1,a2,_⟩:=mm M1;refine⟨_,rfl,x,dx,fs,rfl,g1,a2,x,J0,J1,J2,ds,rfl,M1,fun w2 hw2=>⟨w2,rfl,⟨_,aA.of aa⟩,fun ls hls=>?_⟩⟩;have S2:ab H1 (upd H1 w2 (.lst (J1.map V.str))):=ab.new hw2;refine rN (kd:="say") (ws:=J1) aa (by omega) hls fun us H2 h2 hP2 S3=>?_;have S23:=S2.trans S3;have h12:=S23 _ _ h1;have hP12:=vZ.kt (ab.kt S23) hP1;refine⟨la,ls,_,_,rfl,rfl,h12,h2,?_,fun c1 hc1=>?_⟩
 ·rw[ai,ai,Paired.length hP1,Paired.length hP2,ai,ai];exact fh (aw (by omega))
 refine⟨(by show 1<=ah;decide),fun hl hhl=>?_⟩;refine⟨c1,hl,_,_,rfl,rfl,kp aa hhl,aa,?_,fun r hr=>?_⟩
 ·rw[aO,ai,ai,Paired.length hP1,Paired.length hP2,ai,ai];exact fh (aw (by show _+1<=1000;omega))
 have S4:=((ab.new (o:=.lst (ua.map V.ref++us.map V.ref)) hc1).trans (ab.new (o:=.lst [.ref hu]) hhl)).trans (ab.new (o:=.lst (ua.map V.ref++us.map V.ref++[.ref hu])) hr);refine k r (ua++us++[hu]) _ ?_ ?_ (((S0.trans S1).trans S23).trans S4)
 ·rw[aa,aB,aB];rfl
 ·exact Paired.app (Paired.app (Paired.mapP (vZ.kt (ab.kt S4) hP12) fun _ _ r=>.inl r) (Paired.mapP (vZ.kt (ab.kt S4) hP2) fun _ _ r=>.inl r)) (.cons (.inr ⟨rfl,rfl⟩) .nil)
theorem rB{J0 J1 J2:Zb}{ds:List am}(m:aN J0 J1 J2 ds):(dR J0 J1).Nodup:=by
 unfold dR;have i1:∀a b:Str,cZ a=cZ b->a=b:=fun a b h=>by unfold cZ at h;injection h with _ h;injection h
 have i2:∀a b:Str,nn a=nn b->a=b:=fun a b h=>by unfold nn at h;injection h with _ h;injection h
 have nd:∀{f:Str->List Str}{l:Zb},(∀a b,f a=f b->a=b)->l.Nodup->(l.map f).Nodup:=by
  intro f l hf hl;rw[uo,List.pairwise_map];exact(uo.1 hl).imp fun h e=>h (hf _ _ e)
 rw[c9,c9];refine⟨⟨nd i1 m.okA.1,nd i2 m.okS.1,?_⟩,by simp,?_⟩
 ·intro x hx y hy e;obtain⟨a,_,rfl⟩:=aX.1 hx;obtain⟨b,_,rfl⟩:=aX.1 hy;unfold cZ nn at e;injection e with e _;exact absurd e (by decide)
 ·intro x hx y hy e;rw[cz.1 hy]at e;rcases bN.1 hx with hx|hx
  ·obtain⟨a,_,rfl⟩:=aX.1 hx;unfold cZ bH at e;injection e with _ e;cases e
  ·obtain⟨a,_,rfl⟩:=aX.1 hx;unfold nn bH at e;injection e with _ e;cases e
abbrev kR(H:Hp)(kvs:List (TK×V))(L:List (Sg×List Str)):Prop:=Paired (fun(kv:TK×V) (p:Sg×List Str)=>kv.1=ip p.1/\∃u,kv.2=.ref u/\H u=some (.tup (p.2.map V.str))) kvs L
theorem DN{κ:Type}[DecidableEq κ]{kvs:List (κ×V)}{k:κ}(h:∀kv∈kvs,kv.1≠k):bO kvs k=none:=by
 unfold bO;rw[List.find?_eq_none.2 fun kv hkv=>by simpa using h kv hkv]
 rfl
theorem jm(sg:Zb):(ip sg).depth<=8:=by
 have:∀l:List Str,TK.depths (l.map lf)=0:=by
  intro l
  induction l with
  |nil=>rfl
  |cons a l ih=>show max (TK.depth (lf a)) (TK.depths _)=0;rw[ih];rfl
 show TK.depths (sg.map lf)+1<=8;rw[this];decide
def stG(J2:Zb)(ds:List am)(J6:Zb)(L:List (List Str)):List (Sg×List Str):=(L.map fun sg=>(sg,behF J2 ds J6 sg)).filter fun p=>decide (p.2≠[])
theorem wO(J2:Zb)(ds:List am)(J6:Zb)(L:List (List Str))(sg:Zb):stG J2 ds J6 (L++[sg])=stG J2 ds J6 L++if behF J2 ds J6 sg=[]then[]else[(sg,behF J2 ds J6 sg)]:=by
 unfold stG;rw[aB,lT];congr 1;by_cases c:behF J2 ds J6 sg=[]
 ·rw[if_pos c];simp[c]
 ·rw[if_neg c];simp[c]
theorem DX{J2:Zb}{ds:List am}{J6:Zb}{L:List (List Str)}{p:Sg×List Str}(h:p∈stG J2 ds J6 L):p.1∈L:=by
 obtain⟨sg,hs,rfl⟩:=aX.1 (dO.1 h).1;exact hs
theorem DY{J2:Zb}{ds:List am}{J6:Zb}{L:List (List Str)}:(stG J2 ds J6 L).length<=L.length:=by
 unfold stG;exact bh (cF _ _) (by rw[ai];exact aH _)
theorem kR.kt{H H':Hp}{kvs:List (TK×V)}{L:List (Sg×List Str)}(k:jZ H H')(h:kR H kvs L):kR H' kvs L:=Paired.mapP h fun _ _ ⟨e,u,e2,r⟩=>⟨e,u,e2,k _ _ r⟩
theorem kR.no{H:Hp}{kvs:List (TK×V)}{L:List (Sg×List Str)}(h:kR H kvs L){sg:Sg}(n:∀p∈L,p.1≠sg):bO kvs (ip sg)=none:=by
 refine DN ?_
 induction h with
 |nil=>intro kv hk;exact nomatch hk
 |@cons a b as bs r t ih =>
  intro kv hk;rcases cv.1 hk with rfl|hk
  ·rw[r.1];exact fun e=>n b fx (ln e)
  ·exact ih (fun p hp=>n p (fw _ hp)) kv hk
theorem vD{α:Type}{L:List α}(nd:L.Nodup){i:Nat}{x:α}(e:L[i]?=some x):¬x∈L.take i:=by
 intro h;obtain⟨j,hj,ej⟩:=List.getElem_of_mem h;rw[aD]at hj;have hi:i<L.length:=by rcases Nat.lt_or_ge i L.length with z|z;exact z;rw[List.getElem?_eq_none z]at e;cases e
 rw[List.getElem_take]at ej;rw[h_ hi]at e;injection e with e;exact List.pairwise_iff_getElem.1 (uo.1 nd) j i (by omega) hi (by omega) (ej.trans e.symm)
theorem GY{H:Hp}{d:Addr}{kvs:List (TK×V)}{o:HO}(h:H d=some (.dT kvs)):jZ H (upd H d o):=fun b xs e=>by rw[aj (fun z=>by rw[z,h]at e;cases e)];exact e
theorem ji{b:Bool}{P X Y:Prop}(h:b=true↔P)(h1:P->X)(h2:¬P->Y):if b=true then X else Y:=by
 cases b with
 |true=>exact h1 (h.1 rfl)
 |false=>exact h2 fun z=>by cases h.2 z
theorem ck.kt{K:Za}{H H':Hp}{a:Addr}{xs:List V}(k:jZ H H')(h:ck K H a xs):ck K H' a xs:=h.keeps k
theorem tL{K:Za}{H:Hp}:∀{sg:Zb}{xs:List V},TKCs K H (sg.map lf) xs->xs=sg.map V.str
 |[],xs,h=>by rw[List.map_nil]at h;unfold TKCs at h;exact h
 |s::sg,xs,h=>by
  rw[bI]at h;unfold TKCs at h;obtain⟨v,us,rfl,h1,h2⟩:=h;unfold lf mP at h1;rw[h1,tL h2]
  rfl
theorem B1{K:Za}{H:Hp}{sg:Zb}{a:V}(h:mP K H (ip sg) a):∃b,a=.ref b/\ck K H b (sg.map V.str):=by
 unfold ip mP at h;obtain⟨b,xs,rfl,h1,h2⟩:=h;rw[tL h2]at h1;exact⟨b,rfl,h1⟩
inductive k7(K:Za)(vs:List V)(H:Hp)(Q:VK)(E:XK):Prop
 |mk (t ft s l1 l2 l3 l4:Addr) (ts:Ze) (J0 J1 J2 J6 sg:Zb) (ds:List am):(vs=[.ref t,.ref ft,.ref s])->(fL H t l1 l2 l3 l4 ts J0 J1 J2 ds)->(aN J0 J1 J2 ds)->(aY K H ft (J6.map V.str))->(aY K H s (sg.map V.str))->(J6.length<=1000)->(∀(t':Addr) (H':Hp),H' t'=some (.tup ((behF J2 ds J6 sg).map V.str))->ab H H'->Q (.ref t') H')->k7 K vs H Q E
theorem Eh{K:Za}{vs:List V}{H:Hp}{Q:VK}{E:XK}(h:k7 K vs H Q E):u_ K tO g6 (bJ Q) (start wa vs) H:=by
 obtain⟨t,ft,s,l1,l2,l3,l4,ts,J0,J1,J2,J6,sg,ds,rfl,T,m,hft,hs,hz,k⟩:=h;have z4:=m.few;refine⟨_,rfl,(by show 1<=ah;decide),fun hh hhh=>⟨gB sg,gB bH,aL (aY.same (ab.new hhh) hs),aL (aY.of aa),by rw[aZ];decide,by rw[aZ];decide,_,rfl,?_⟩⟩;rw[cV];have Sn:ab H (upd H hh (.tup [.str "hush"])):=ab.new hhh;generalize upd H hh (.tup [.str "hush"])=H1 at Sn ⊢;have T1:=T.same Sn;have ft1:=aY.same Sn hft;have hs1:=aY.same Sn hs;by_cases c:sg=bH
 ·rw[zzr1 c];refine b0 ?_;refine⟨_,rfl,ft,rfl,⟨_,ft1⟩,fun f hf=>?_⟩;refine xz (xs:=J6.map V.str) (fun i vs H'=>vs=((J6.take i).filter fun r=>decide (r∉eC ds)).map V.str/\ab H1 H'/\H' f=some (.lst vs)) ⟨rfl,ab.new hf,aa⟩ (fun i vs H' _ ⟨_,S,h'⟩=>⟨h',aY.same S ft1⟩) ?_ ?_
  ·rintro vs H' ⟨rfl,S,f'⟩;rw[ai,bf]at f';refine⟨f,_,rfl,.inl ⟨aA.of f',fun t' ht'=>k t' _ ?_ ((Sn.trans S).trans (ab.new ht'))⟩⟩;rw[aa];unfold behF;rw[if_pos c]
  ·rintro i vs H' x' hx' hi ⟨rfl,S,f'⟩;obtain⟨r,hr,rfl⟩:=bp hx';refine gN ?_;refine⟨_,rfl,_,rfl,t,l1,l2,l3,l4,ts,J0,J1,J2,ds,r,rfl,T1.same S,m,fun H2 S2=>⟨_,rfl,?_⟩⟩;have hlen:(((J6.take i).filter fun r=>decide (r∉eC ds)).map V.str).length<ah:=by
    rw[ai];refine aw (bh (cF _ _) ?_);rw[aD];omega
   refine gP (fun hq=>?_) (fun hq=>?_)
   ·refine⟨_,rfl,S2 _ _ f',hlen,j4 hi ⟨?_,?_,aa⟩⟩
    ·rw[bD hr,if_pos hq,aB];rfl
    ·intro b o q;rw[aj (ag q hf)];exact S2 _ _ (S _ _ q)
   ·refine j4 hi ⟨?_,S.trans S2,S2 _ _ f'⟩;rw[bD hr,if_neg hq,dv]
 ·rw[zzr0 c];refine bv ?_;refine⟨_,rfl,_,rfl,.inr (.inl ⟨t,_,3,_,rfl,rfl,aY.of T1.t,rfl,l4,rfl,⟨_,aA.of T1.a4⟩,fun f hf=>?_⟩)⟩;refine bU (xs:=ts.map V.ref) (fun i vs H'=>∃G:List Str,vs=G.map V.str/\ab H1 H'/\H' f=some (.lst vs)/\G.length<=i/\∀g,g∈G↔∃d∈ds.take i,d.a∈J6/\d.sg=sg/\d.b=g)
   ⟨[],rfl,ab.new hf,aa,aH _,fun g=>⟨fun h=>(by cases h),fun⟨_,h,_⟩=>by simp at h⟩⟩ (fun i vs H' _ ⟨_,_,S,h',_⟩=>⟨h',aA.of (S _ _ T1.a4)⟩) ?_ ?_
  rotate_left
  ·rintro i vs H' x' hx' hi ⟨G,rfl,S,f',hl,hG⟩;obtain⟨u,hu,rfl⟩:=cg hx';obtain⟨dr,hdr,hatd⟩:=Paired.getL T1.ds hu;obtain⟨sb,ht2,hs2⟩:=hatd.kt (ab.kt S);have hi':i<ds.length:=(cE.mp hdr).1;have hstep:∀g,(∃d∈ds.take (i+1),d.a∈J6/\d.sg=sg/\d.b=g)↔((∃d∈ds.take i,d.a∈J6/\d.sg=sg/\d.b=g)∨(dr.a∈J6/\dr.sg=sg/\dr.b=g)):=by
    intro g;rw[take_snoc hdr];constructor
    ·rintro⟨d,hd,h⟩;rcases bN.mp hd with hd|hd
     ·exact .inl ⟨d,hd,h⟩
     ·have:d=dr:=by simpa using hd
      subst this;exact .inr h
    ·rintro(⟨d,hd,h⟩|h)
     ·exact⟨d,dq _ hd,h⟩
     ·exact⟨dr,d_ _ (by simp),h⟩
   have keep:¬(dr.a∈J6/\dr.sg=sg)->∃m',m'<(ts.map V.ref).length-i/\Wc (ts.map V.ref).length (fun i vs H'=>∃G:List Str,vs=G.map V.str/\ab H1 H'/\H' f=some (.lst vs)/\G.length<=i/\∀g,g∈G↔∃d∈ds.take i,d.a∈J6/\d.sg=sg/\d.b=g) (i+1) m' (G.map V.str) H':=by
    intro z;refine j4 hi ⟨G,rfl,S,f',by omega,fun g=>?_⟩;rw[hstep,hG];exact⟨.inl,fun h=>h.elim id fun h=>absurd ⟨h.1,h.2.1⟩ z⟩
   refine gN ?_;refine⟨_,rfl,.inr (.inl ⟨u,_,0,_,rfl,rfl,aY.of ht2,rfl,_,rfl,fE dr.a,J6.map fE,ft,_,iu _,rfl,.inr (aY.same S ft1),ir _,(by show 0<=8;decide),by rw[dk];decide,_,rfl,?_⟩)⟩;rw[if_neg fR,lq];by_cases c1:dr.a∈J6;rotate_left
   ·rw[zzr0 c1];exact bv (bv (keep fun z=>c1 z.1))
   rw[zzr1 c1];refine b0 ?_;refine⟨_,rfl,.inr (.inl ⟨u,_,1,_,rfl,rfl,aY.of ht2,rfl,_,rfl,gB dr.sg,gB sg,aL (aY.of hs2),aL (aY.same S hs1),by rw[aZ];decide,by rw[aZ];decide,_,rfl,?_⟩)⟩;rw[cV];by_cases c2:dr.sg=sg;rotate_left
   ·rw[zzr0 c2];exact bv (keep fun z=>c2 z.2)
   rw[zzr1 c2];refine b0 ?_;refine⟨_,rfl,.inr (.inl ⟨u,_,2,_,rfl,rfl,aY.of ht2,rfl,f',by rw[ai];exact aw (by omega),j4 hi ⟨G++[dr.b],by rw[aB];rfl,?_,aa,by rw[aO];show G.length+1<=i+1;omega,fun g=>?_⟩⟩)⟩
   ·intro b o q;rw[aj (ag q hf)];exact S _ _ q
   ·rw[hstep,<-hG,bN];simp only[cz];exact⟨fun h=>h.imp id fun h=>⟨c1,c2,h.symm⟩,fun h=>h.imp id fun h=>h.2.2.symm⟩
  rintro vs H2 ⟨G,rfl,S2,f2,hl,hG⟩;rw[ai,Paired.length T.ds]at hl;rw[ai,Paired.length T.ds,bf]at hG;refine⟨t,f,l1,l2,l3,l4,ts,J0,J1,J2,G,ds,rfl,T1.same S2,m,f2,by omega,fun t' H' h1 S'=>k t' H' ?_ ((Sn.trans S2).trans S')⟩;rw[h1];unfold behF;rw[if_neg c]
  suffices e0:closF J2 ds G=closF J2 ds (dj ds sg J6) by rw[e0]
  refine xB fun g=>?_;rw[hG,nD];constructor
  ·rintro⟨⟨a,sgd,b⟩,hd,h1,h2,h3⟩;simp only at h1 h2 h3;subst h2 h3;exact⟨a,h1,hd⟩
  ·rintro⟨r,hr,h⟩;exact⟨_,h,hr,rfl,rfl⟩
theorem zY{K:Za}{H:Hp}:∀xs:List Str,TKIns K H (xs.map lf) (xs.map V.str)
 |[]=>by show TKIns K H [] [];unfold TKIns;rfl
 |x::xs=>by
  rw[bI,bI];unfold TKIns;refine⟨_,_,rfl,?_,zY xs⟩;unfold lf kQ
  rfl
theorem ck.sq{K:Za}{H:Hp}{a:Addr}{xs:List V}(h:ck K H a xs):aY K H a xs:=h.imp .inl id
theorem pV{K:Za}{H:Hp}{a:Addr}{f:Zb}(h:ck K H a (f.map V.str)):kQ K H (ip f) (.ref a):=by
 unfold ip kQ;exact⟨a,_,rfl,ck.sq h,zY f⟩
def su(K:Za)(C_Machine:Addr)(sp_Machine_is_quiet:Sp)(a_HUSH:Addr)(sp_Machine_doors_from:Sp)(a_STILL:Addr):TS :=
 ap (aS (db (a_)) U4)
 (ap (de (bV K (dw C_Machine "doors_from" sp_Machine_doors_from [] E0 V0 (aG V1))) (gw K 3 (bc U5 (bc U6 (bc U7 (f6))))) (bB (aF (ay (jG K) V6 (tC (.ref a_STILL)))) (cb (vj K "list" dE V4 (aG (bd (aI V7 V2))))) (bB (wk (tB (sM K V6 V3)) (aF (ay nS (ay (oJ K) V6 (tC (.int 0))) (tC (.str "say"))))) (cb (vj K "list" dE V4 (aG (bd (aI V7 (vi K V3 V6)))))) (aR))))
 (ap (bB (tB (dw C_Machine "is_quiet" sp_Machine_is_quiet [] E0 V0 (aG V1))) (cb (vj K "list" dE V4 (aq (bd (aI V1 (vi K V3 (tC (.ref a_HUSH))))) a_))) (aR))
 (aU V4)))
def s_:List Str:=["I","room","face","steps","rows","start","sign","goal"]
abbrev Pr:=Nat×Nat
structure F1 where
 key:Pr
 from_:Option (Pr×Sg)
 story:List Sg
def hasP(P:List F1)(k:Pr):Bool:=P.any fun c=>decide (c.key=k)
def Gw(l:List (Sg×Nat))(sg:Sg):Option Nat:=(l.find? fun p=>decide (p.1=sg)).map (·.2)
def RowOk(ms ws:List (List (Sg×Nat)))(P:List F1)(c:F1):Prop:=∀p∈ms.getD c.key.2 [],match Gw (ws.getD c.key.1 []) p.1 with
 |none=>p.1.head?=some ("ask":Str)
 |some w=>hasP P (w,p.2)=true
def sw(K:Za)(C_Machine:Addr)(sp_Machine_says:Sp)(sp_Machine_asks:Sp):TS :=
 bB (wk (aF (ay (j3 K) (dw C_Machine "asks" sp_Machine_asks [] E0 V0 a_) (dw C_Machine "asks" sp_Machine_asks [] E0 V1 a_))) (aF (ay (j3 K) (dw C_Machine "says" sp_Machine_says [] E0 V0 a_) (dw C_Machine "says" sp_Machine_says [] E0 V1 a_)))) (vd) (aR)
def tm:List Str:=["M","I"]
def jz(K:Za)(C_Machine:Addr)(sp_Machine_rooms:Sp)(sp_Machine_asks:Sp)(jc:Sp):TS :=
 de (bV K (dw C_Machine "rooms" sp_Machine_rooms [] E0 V0 a_)) U1 (de (bV K (dw C_Machine "asks" sp_Machine_asks [] E0 V0 a_)) U2 (bB (pJ (tB (aM jc (dC V0 V1 V2)))) (vd) (aR)))
def jM:List Str:=["I","room","ask"]
def sv(K:Za)(sp_need_all_asks_taken:Sp)(sp_need_match:Sp):TS :=
 ap (cb (aM sp_need_match (aI V0 V1)))
 (cb (aM sp_need_all_asks_taken (aG V1)))
def tj:List Str:=["M","I"]
def u7(K:Za)(sp_law_put:Sp)(sp_law_take:Sp)(sp_law_still_on:Sp):TS :=
 ap (aS V1 (gw K 4 (bc U2 (bc U3 (bc U4 (bc U5 (f6)))))))
 (ap (aS (cK (cW K) (aG V5)) U5)
 (ap (aS (aM sp_law_take (aI V0 (tC (.int 6)))) U6)
 (ap (aS (aM sp_law_take (aq V0 (aG (cK Gp (aI (tC (.int 1)) (cK (dP K) (aG V5))))))) U7)
 (ap (aS (ay (cM K) V4 (aM sp_law_take (aI V0 (cK (dP K) (aG V4))))) U8)
 (ap (aS (ay (cM K) V4 (aM sp_law_take (aI V0 (cK (dP K) (aG V4))))) U9)
 (ap (bB (aF (ay nS V6 (tC (.int 0)))) (cb (aM sp_law_put (aq V5 (aq (bd (aq V8 (aq (bd (aq (tC (.str "say")) (aq (ay (cM K) V3 (aM sp_law_take (aI V0 (cK (dP K) (aG V3))))) a_))) (aG V9)))) a_)))) (bB (aF (ay nS V6 (tC (.int 1)))) (cb (aM sp_law_put (aq V5 (aq (bd (aq V8 (aq (bd (aq (tC (.str "ask")) (aq (ay (cM K) V2 (aM sp_law_take (aI V0 (cK (dP K) (aG V2))))) a_))) (aG V9)))) a_)))) (bB (iV (aF (ay Cw V6 (tC (.int 4)))) (iV (aF (ay (j3 K) V5 (db (a_)))) (aF (ay xO (ay (oJ K) (ay (oJ K) (ay (cM K) V5 V7) (tC (.int 1))) (tC (.int 0))) (tC (.str "still")))))) (ap (aS (vj K "list" Cv V5 (aG V7)) EQ)
 (bB (aF (ay nS V6 (tC (.int 3)))) (cb (aM sp_law_put (aq V5 (aq (bd (dC (ay (oJ K) pE (tC (.int 0))) (ay (oJ K) pE (tC (.int 1))) V9)) a_)))) (aR))) (bB (iV (aF (ay nS V6 (tC (.int 4)))) (aF (ay (ny K true) V8 (aM sp_law_still_on (aI V5 (db (aG V9))))))) (cb (aM sp_law_put (aq V5 (aq (bd (dC V8 (bd (aG (tC (.str "still")))) V9)) a_)))) (aR)))))
 (aU (bd (aq V2 (dC V3 V4 V5))))))))))
def v7:List Str:=["pen","told","asks","says","rooms","doors","way","at","room","other","door"]
def xZ(K:Za)(sp_law_take:Sp)(sp_law_renamed:Sp)(sp_law_willing:Sp)(sp_law_turned:Sp)(sp_law_anew:Sp):TS :=
 ap (cb (aM sp_law_anew (aG V0)))
 (ap (de (rH (aq (aM sp_law_take (aI V0 (ay dz V2 (tC (.int 1))))) a_)) U3 (aS (aM sp_law_turned (aI V0 V1)) U1))
 (ap (aS (aM sp_law_willing (aI V0 V1)) U1)
 (ap (bB (aF (ay nS (aM sp_law_take (aI V0 (tC (.int 2)))) (tC (.int 0)))) (aS (aM sp_law_renamed (aI V0 V1)) U1) (aR))
 (aU V1))))
def zo:List Str:=["pen","told","most","turn"]
inductive fD(C:Addr)(vs:List V)(H:Hp)(Q:VK)(E:XK):Prop
 |mk (x y:Addr) (J0 J1 J2 rooms':Zb) (ds ds':List am):(vs=[.ref x,.ref y])->(bL C H x J0 J1 J2 ds)->(bL C H y J0 J1 rooms' ds')->(∀H',ab H H'->Q .non H')->fD C vs H Q E
theorem qU{K:Za}{C:Addr}{vs:List V}{H:Hp}{Q:VK}{E:XK}(h:fD C vs H Q E):sw K C (m_ C) (k9 C) (bJ Q) (start tm vs) H:=by
 obtain⟨x,y,J0,J1,J2,rooms',ds,ds',rfl,M,N,k⟩:=h;obtain⟨dx,fs,g1,a1,a2,_⟩:=id M.more;obtain⟨dy,gs,g2,b1,b2,_⟩:=id N.more;refine⟨_,rfl,x,dx,fs,rfl,g1,a1,x,J0,J1,J2,ds,rfl,M,fun l1 h1=>?_⟩;have S1:ab H (upd H l1 (.lst (J0.map V.str))):=ab.new h1;have e1:upd H l1 (.lst (J0.map V.str)) l1=some (.lst (J0.map V.str)):=aa;generalize upd H l1 (.lst (J0.map V.str))=H1 at S1 e1 ⊢;refine⟨_,rfl,y,dy,gs,rfl,S1 _ _ g2,b1,y,J0,J1,rooms',ds',rfl,N.same S1,fun l2 h2=>?_⟩;have S2:ab H (upd H1 l2 (.lst (J0.map V.str))):=S1.trans (ab.new h2);refine Ai (kp e1 h2) aa ⟨_,rfl,?_⟩;generalize upd H1 l2 (.lst (J0.map V.str))=H2 at S2 ⊢;rw[zzr1 rfl];refine bv ?_;refine⟨_,rfl,x,dx,fs,rfl,S2 _ _ g1,a2,x,J0,J1,J2,ds,rfl,M.same S2,fun l3 h3=>?_⟩;have S3:ab H (upd H2 l3 (.lst (J1.map V.str))):=S2.trans (ab.new h3);have e3:upd H2 l3 (.lst (J1.map V.str)) l3=some (.lst (J1.map V.str)):=aa;generalize upd H2 l3 (.lst (J1.map V.str))=H3 at S3 e3 ⊢;refine⟨_,rfl,y,dy,gs,rfl,S3 _ _ g2,b2,y,J0,J1,rooms',ds',rfl,N.same S3,fun l4 h4=>?_⟩;have S4:ab H (upd H3 l4 (.lst (J1.map V.str))):=S3.trans (ab.new h4);refine Ai (kp e3 h4) aa ⟨_,rfl,?_⟩;rw[zzr1 rfl];exact bv (k _ S4)
inductive gL(C:Addr)(vs:List V)(H:Hp)(Q:VK)(E:XK):Prop
 |mk (x:Addr) (J0 J1 J2:Zb) (ds:List am):(vs=[.ref x])->(bL C H x J0 J1 J2 ds)->((∀r∈J2,∀a∈J0,gJ ds r a))->(∀H',ab H H'->Q .non H')->gL C vs H Q E
theorem vw{K:Za}{C:Addr}{vs:List V}{H:Hp}{Q:VK}{E:XK}(h:gL C vs H Q E):jz K C (gp C) (k9 C) (jc C) (bJ Q) (start jM vs) H:=by
 obtain⟨x,J0,J1,J2,ds,rfl,M,tk,k⟩:=h;obtain⟨dx,fs,o1,o2,o3,o4,lv,qu,sgA,sl,ts,lps,gps,sps,g1,a1,a2,a3,a4,_⟩:=id M.at_;refine⟨_,rfl,x,dx,fs,rfl,g1,a4,x,J0,J1,J2,ds,rfl,M,fun l1 h1=>?_⟩;have S1:ab H (upd H l1 (.lst (J2.map V.str))):=ab.new h1;have e1:upd H l1 (.lst (J2.map V.str)) l1=some (.lst (J2.map V.str)):=aa;generalize upd H l1 (.lst (J2.map V.str))=H1 at S1 e1 ⊢;refine⟨l1,rfl,⟨_,aA.of e1⟩,?_⟩;refine bW (xs:=J2.map V.str) (fun i σ H'=>∃y z,σ=[some (.ref x),y,z]/\ab H1 H') ⟨_,_,rfl,ab.refl _⟩ (fun i σ H' _ ⟨_,_,_,S⟩=>aA.of (S _ _ e1)) ?_ ?_
 ·rintro i v σ H2 hi ⟨y,z,rfl,S2⟩;obtain⟨r,hr,rfl⟩:=bp hi;have M2:=M.same (S1.trans S2);obtain⟨dx,fs,g1,a1,_⟩:=id M2.more;refine⟨_,rfl,x,dx,fs,rfl,g1,a1,x,J0,J1,J2,ds,rfl,M2,fun l2 h2=>?_⟩;have S3:ab H1 (upd H2 l2 (.lst (J0.map V.str))):=S2.trans (ab.new h2);have e2:upd H2 l2 (.lst (J0.map V.str)) l2=some (.lst (J0.map V.str)):=aa;generalize upd H2 l2 (.lst (J0.map V.str))=H3 at S3 e2 ⊢;refine⟨l2,rfl,⟨_,aA.of e2⟩,?_⟩;refine bW (xs:=J0.map V.str) (fun j σ H'=>∃z,σ=[some (.ref x),some (.str r),z]/\ab H3 H') ⟨_,rfl,ab.refl _⟩ (fun i σ H' _ ⟨_,_,S⟩=>aA.of (S _ _ e2)) ?_ ?_
  ·rintro j v σ H4 hj ⟨z,rfl,S4⟩;obtain⟨a,ha,rfl⟩:=bp hj;refine⟨_,rfl,_,rfl,_,rfl,x,r,a,J0,J1,J2,ds,rfl,M.same ((S1.trans S3).trans S4),bY hr,fun H5 S5=>⟨_,rfl,?_⟩⟩;rw[ky.2 (tk r (bY hr) a (bY ha))];exact bv ⟨_,rfl,S4.trans S5⟩
  ·rintro σ H4 ⟨z,rfl,S4⟩;exact⟨_,_,rfl,S3.trans S4⟩
 ·rintro σ H2 ⟨y,z,rfl,S2⟩;exact k H2 (S1.trans S2)
inductive fC(C:Addr)(vs:List V)(H:Hp)(Q:VK)(E:XK):Prop
 |mk (x y:Addr) (J0 J1 J2 rooms':Zb) (ds ds':List am):(vs=[.ref x,.ref y])->(bL C H x J0 J1 J2 ds)->(bL C H y J0 J1 rooms' ds')->((∀r∈rooms',∀a∈J0,gJ ds' r a))->(∀H',ab H H'->Q .non H')->fC C vs H Q E
theorem qT{K:Za}{C:Addr}{vs:List V}{H:Hp}{Q:VK}{E:XK}(h:fC C vs H Q E):sv K (gL C) (fD C) (bJ Q) (start tj vs) H:=by
 obtain⟨x,y,J0,J1,J2,rooms',ds,ds',rfl,M,N,tk,k⟩:=h;exact⟨_,rfl,_,rfl,x,y,J0,J1,J2,rooms',ds,ds',rfl,M,N,fun H1 S1=>⟨_,rfl,y,J0,J1,rooms',ds',rfl,N.same S1,tk,fun H2 S2=>k H2 (S1.trans S2)⟩⟩
theorem aN.out{J0 J1 J2:Zb}{ds:List am}(m:aN J0 J1 J2 ds)(k:Nat):aN J0 J1 J2 (ds.eraseIdx k):=by
 have sub:(ds.eraseIdx k).Sublist ds:=List.eraseIdx_sublist ds k;exact{ m with nodup:=m.nodup.sublist sub,good:=fun d hd=>m.good d (sub.mem hd),few:=bh sub.length_le m.few,noround:=fun r z=>m.noround r (z.mono fun x y h=>sub.mem h) }
theorem Paired.out{α β:Type}{R:α->β->Prop}:∀{as:List α}{bs:List β}(k:Nat),Paired R as bs->Paired R (as.eraseIdx k) (bs.eraseIdx k)
 |_,_,_,.nil=>.nil
 |_,_,0,.cons _ t=>t
 |_,_,k+1,.cons r t=>.cons r (Paired.out k t)
theorem t8{α β:Type}(f:α->β):∀(l:List α) (n:Nat),(l.map f).eraseIdx n=(l.eraseIdx n).map f
 |[],_=>rfl
 |_::_,0=>rfl
 |a::l,n+1=>by show f a::_=f a::_;rw[t8 f l n]
def TR(J0 J1 J2:Zb)(n:Nat)(ds:List am):Prop:=aN J0 J1 J2 ds/\ds.length<=n
inductive kZ (vs:List V)(H:Hp)(Q:VK)(E:XK):Prop
 |mk (p c t l1 l2 l3 l4:Addr) (ts:Ze) (J0 J1 J2:Zb) (ds:List am):(vs=[.ref p,.ref t])->(fo H p c)->(fL H t l1 l2 l3 l4 ts J0 J1 J2 ds)->(aN J0 J1 J2 ds)->(ds.length<=690)->(∀(t' l4':Addr) (ts':Ze) (ds':List am) (H':Hp),fL H' t' l1 l2 l3 l4' ts' J0 J1 J2 ds'->aN J0 J1 J2 ds'->ds'.length<=ds.length+1->fo H' p c->cx p H H'->Q (.ref t') H')->kZ  vs H Q E
theorem A_{K:Za}{vs:List V}{H:Hp}{Q:VK}{E:XK}(h:kZ vs H Q E):u7 K jC eg (eA K) (bJ Q) (start v7 vs) H:=by
 obtain⟨p,c,t,l1,l2,l3,l4,ts,J0,J1,J2,ds,rfl,hp,T,m,z8,k⟩:=h;have a4:=m.asks4;have s4:=m.says4;have r4:=m.rooms26;refine⟨_,rfl,t,_,rfl,aY.of T.t,rfl,_,_,rfl,_,_,rfl,_,_,rfl,_,_,rfl,rfl,?_⟩;refine⟨_,rfl,.inl ⟨l4,_,rfl,.inl (aA.of T.a4),fun f hf=>?_⟩⟩;have B0:TX H p c f (fun x=>x=ds) (upd H f (.lst (ts.map V.ref))):=⟨hp.ex (ab.new hf),⟨ts,ds,aa,T.ds.kt (ab.kt (ab.new hf)),rfl⟩,cx.new hf,hf,hp.nep hf,hp.nec hf⟩;generalize upd H f (.lst (ts.map V.ref))=H1 at B0 ⊢;have keep:∀{H':Hp}{R:List am->Prop},TX H p c f R H'->H' l1=some (.lst (J0.map V.str))/\H' l2=some (.lst (J1.map V.str))/\H' l3=some (.lst (J2.map V.str)):=fun B =>
  ⟨B.ex _ _ T.a1 (hp.ne_strs T.a1),B.ex _ _ T.a2 (hp.ne_strs T.a2),B.ex _ _ T.a3 (hp.ne_strs T.a3)⟩
 refine⟨_,rfl,da B0.pen (by decide) (by decide) fun way H2 w0 w1 hp2 ex2=>?_⟩;have B2:=B0.took hp2 ex2;obtain⟨us,es,g1,g2,rfl⟩:=id B2.ds;refine⟨_,rfl,_,rfl,.inl ⟨f,_,rfl,.inl (aA.of g1),_,_,rfl,?_⟩⟩;have lu:us.length=es.length:=Paired.length g2;refine da B2.pen (by split<;>omega) (by rw[ai,lu];split<;>omega) fun at_ H3 n0 n1 hp3 ex3=>?_;have B3:=B2.took hp3 ex3;rw[ai,lu]at n1;refine iK (fun _ _ _ _ h=>h) rfl rfl B3.pen (keep B3).2.2 m.rooms0 (by omega) fun room hroom H4 hp4 ex4=>?_;have B4:=B3.took hp4 ex4;refine iK (fun _ _ _ _ h=>h) rfl rfl B4.pen (keep B4).2.2 m.rooms0 (by omega) fun other hother H5 hp5 ex5=>?_;have B5:=B4.took hp5 ex5;clear B0 B2 B3 B4 hp2 hp3 hp4 hp5 ex2 ex3 ex4 ex5 g1 g2;have fin:∀{H6:Hp}(x10:Option V),TX H p c f (TR J0 J1 J2 (es.length+1)) H6->(aU (bd (aq V2 (dC V3 V4 V5)))) (bJ Q) [some (.ref p),some (.ref t),some (.ref l1),some (.ref l2),some (.ref l3),some (.ref f),some (.int way),some (.int at_),some (.str room),some (.str other),x10] H6:=fun x10 B=>by
  obtain⟨us,fs,g1,g2,g3⟩:=B.ds;obtain⟨q1,q2,q3⟩:=keep B;refine⟨_,rfl,_,rfl,_,rfl,_,rfl,(by show 4<=ah;decide),fun t' ht'=>?_⟩;have S3:=ab.new (o:=.tup [.ref l1,.ref l2,.ref l3,.ref f]) ht';exact k t' f us fs _ ⟨aa,S3 _ _ q1,S3 _ _ q2,S3 _ _ q3,S3 _ _ g1,g2.kt (ab.kt S3)⟩ g3.1 g3.2 (B.pen.ex S3) (B.ex.trans (ab.exB S3))
 have put:∀{H6:Hp}{fs:List am}{d:Addr}{x:am}(x10:Option V),TX H p c f (fun y=>y=fs) H6->fs.length<=es.length->f_ H6 d x->aN J0 J1 J2 (kJ fs x)->jC [.ref f,.ref d] H6 (fun _ H'=>(aU (bd (aq V2 (dC V3 V4 V5)))) (bJ Q) [some (.ref p),some (.ref t),some (.ref l1),some (.ref l2),some (.ref l3),some (.ref f),some (.int way),some (.int at_),some (.str room),some (.str other),x10] H') E0:=fun x10 B le hat ok=>by
  obtain⟨us',fs',k1,k2,rfl⟩:=id B.ds;refine⟨f,_,us',_,_,rfl,k1,k2,hat,by omega,fun us2 D2=>fin x10 (B.put ⟨_,k1⟩ D2 ⟨ok,?_⟩)⟩;exact bh (q_ _ _) (by omega)
 refine⟨_,rfl,rfl,_,rfl,?_⟩;refine gP (fun _=>?_) (fun _=>?_)
 ·refine⟨_,rfl,_,rfl,iK (fun _ _ _ _ h=>h) rfl rfl B5.pen (keep B5).2.1 m.says0 (by omega) fun w hw H6 hp6 ex6=>⟨(by show 2<=ah;decide),fun s hs=>⟨_,rfl,(by show 3<=ah;decide),fun d hd=>?_⟩⟩⟩;have B6:=B5.took hp6 ex6;have S:ab H6 (upd (upd H6 s (.tup [.str "say",.str w])) d (.tup [.str room,.ref s,.str other])):=(ab.new hs).trans (ab.new hd);exact put (x:=⟨room,nn w,other⟩) _ (B6.same S) (aH _) ⟨s,aa,kp aa hd⟩ (m.putOne ⟨hroom,hother,.inr (.inl ⟨w,hw,rfl⟩)⟩ (by unfold nn ar;intro h;injection h with _ h;cases h) (by omega))
 refine⟨_,rfl,rfl,_,rfl,?_⟩;refine gP (fun _=>?_) (fun _=>?_)
 ·refine⟨_,rfl,_,rfl,iK (fun _ _ _ _ h=>h) rfl rfl B5.pen (keep B5).1 m.asks0 (by omega) fun w hw H6 hp6 ex6=>⟨(by show 2<=ah;decide),fun s hs=>⟨_,rfl,(by show 3<=ah;decide),fun d hd=>?_⟩⟩⟩;have B6:=B5.took hp6 ex6;have S:ab H6 (upd (upd H6 s (.tup [.str "ask",.str w])) d (.tup [.str room,.ref s,.str other])):=(ab.new hs).trans (ab.new hd);exact put (x:=⟨room,cZ w,other⟩) _ (B6.same S) (aH _) ⟨s,aa,kp aa hd⟩ (m.putOne ⟨hroom,hother,.inl ⟨w,hw,rfl⟩⟩ (ug w) (by omega))
 have still:∀{H6:Hp},TX H p c f (fun y=>y=es) H6->(bB (iV (aF (ay nS V6 (tC (.int 4)))) (aF (ay (ny K true) V8 (aM (eA K) (aI V5 (db (aG V9))))))) (cb (aM jC (aq V5 (aq (bd (dC V8 (bd (aG (tC (.str "still")))) V9)) a_)))) (aR)) { nx:=(aU (bd (aq V2 (dC V3 V4 V5)))) (bJ Q),rt:=Q } [some (.ref p),some (.ref t),some (.ref l1),some (.ref l2),some (.ref l3),some (.ref f),some (.int way),some (.int at_),some (.str room),some (.str other),none] H6:=fun{H6} B=>by
  have idle:TX H p c f (TR J0 J1 J2 (es.length+1)) H6:=B.imp fun y e=>by rw[e];exact⟨m,oq _⟩
  refine⟨_,rfl,rfl,_,rfl,?_⟩;refine gP (fun _=>?_) (fun _=>bv (fin _ idle));refine⟨_,rfl,_,rfl,_,rfl,(by show 1<=ah;decide),fun bl hbl=>?_⟩;have B7:=B.same (ab.new (o:=.lst [.str other]) hbl);have e7:upd H6 bl (.lst [.str other]) bl=some (.lst [.str other]):=aa;generalize upd H6 bl (.lst [.str other])=H7 at B7 e7 ⊢;obtain⟨us,fs,g1,g2,rfl⟩:=id B7.ds;refine⟨f,bl,us,fs,[other],J2,rfl,g1,g2,e7,fun d hd=>(m.good d hd).b,by omega,(by show 1<=1000;decide),fun g F H8 hg hF _ _ S8=>?_⟩;have B8:=B7.same S8;refine⟨fE room,F.map fE,g,_,iu room,rfl,.inl (aA.of hg),ir _,(by show 0<=8;decide),by rw[dk];decide,_,rfl,?_⟩;rw[if_pos rfl];by_cases c1:room∈F
  ·rw[zzr1 (lg.mpr c1)];exact bv (fin _ (B8.imp fun y e=>by rw[e];exact⟨m,oq _⟩))
  rw[zzr0 (fun z=>c1 (lg.mp z))];refine b0 ?_;refine⟨_,rfl,_,rfl,(by show 1<=ah;decide),fun s hs=>⟨_,rfl,(by show 3<=ah;decide),fun d hd=>?_⟩⟩;have S:ab H8 (upd (upd H8 s (.tup [.str "still"])) d (.tup [.str room,.ref s,.str other])):=(ab.new hs).trans (ab.new hd);exact put (x:=⟨room,ar,other⟩) _ (B8.same S) (aH _) ⟨s,aa,kp aa hd⟩ (m.putStill hroom hother (fun z=>c1 ((hF room).mpr z)) (by omega))
 refine⟨_,rfl,_,_,rfl,rfl,_,rfl,?_⟩;refine gP (fun _=>?_) (fun _=>bv (still B5));refine⟨_,rfl,(by show 0<=ah;decide),fun q hq=>?_⟩;have B6:=B5.same (ab.new (o:=.lst []) hq);have e6:upd H5 q (.lst []) q=some (.lst []):=aa;generalize upd H5 q (.lst [])=H6 at B6 e6 ⊢;obtain⟨us,fs,g1,g2,rfl⟩:=id B6.ds;refine CO g1 g2 e6 (fun c1=>⟨_,rfl,b0 ?_⟩) (fun _=>⟨_,rfl,bv (bv (still B6))⟩);have fl:0<fs.length:=List.length_pos_iff.2 c1;have n2:at_<fs.length:=by split at n1<;>omega
 obtain⟨n,rfl⟩:=gy n0;have n3:n<fs.length:=by omega
 have hdr:fs[n]?=some fs[n]:=h_ n3;obtain⟨u,hu,hat⟩:=Paired.get g2 hdr;generalize fs[n]=dr at hdr hat;have hm:=bY hdr;obtain⟨sb,ht2,hs2⟩:=hat;obtain⟨s0,rest,hsg,_⟩:=lb (m.good dr hm);have at0:vV (dr.sg.map V.str) 0=some (.str s0):=by rw[hsg];exact bQ (j:=0) rfl
 have atu:(us.map V.ref)[n]?=some (.ref u):=by rw[cO,hu];rfl
 refine⟨_,rfl,_,rfl,f,_,_,_,rfl,rfl,aA.of g1,bQ atu,u,_,1,_,rfl,rfl,aY.of ht2,rfl,sb,_,0,_,rfl,rfl,aY.of hs2,at0,rfl,_,rfl,?_⟩;refine gP (fun c2=>?_) (fun _=>still B6);have ns:dr.sg≠ar:=fun z=>by
  rw[hsg]at z;injection z with z;rw[z]at c2;simp at c2
 have six:uS (n:Int) (us.map V.ref).length=some n:=(vK (EE (by rw[ai,Paired.length g2];exact n3))).1;refine⟨_,rfl,.inl ⟨rfl,_,aA.of g1⟩,_,rfl,f,_,_,n,.ref u,rfl,rfl,g1,by omega,by omega,six,atu,?_⟩;have ee:(us.map V.ref).eraseIdx n=(us.eraseIdx n).map V.ref:=t8 _ us n;rw[ee];have k6:jZ H6 (upd H6 f (.lst ((us.eraseIdx n).map V.ref))):=eD g1;have B7:TX H p c f (fun y=>y=fs.eraseIdx n) (upd H6 f (.lst ((us.eraseIdx n).map V.ref))):=B6.put ⟨_,g1⟩ (Paired.out n g2) rfl;have t7:=k6 _ _ ht2;have s7:=k6 _ _ hs2;generalize upd H6 f (.lst ((us.eraseIdx n).map V.ref))=H7 at B7 t7 s7 ⊢;have m7:=m.out n;have l7:(fs.eraseIdx n).length<=fs.length:=(List.eraseIdx_sublist fs n).length_le;refine⟨_,rfl,rfl,_,rfl,?_⟩;refine gP (fun _=>?_) (fun _=>fin _ (B7.imp fun y e=>by rw[e];exact⟨m7,by omega⟩));refine⟨_,rfl,_,rfl,u,_,0,_,rfl,rfl,aY.of t7,rfl,_,rfl,u,_,1,_,rfl,rfl,aY.of t7,rfl,_,rfl,(by show 3<=ah;decide),fun d hd=>?_⟩;have S:ab H7 (upd H7 d (.tup [.str dr.a,.ref sb,.str other])):=ab.new hd;exact put (x:=⟨dr.a,dr.sg,other⟩) _ (B7.same S) l7 ⟨sb,aa,S _ _ s7⟩ (m7.putOne ⟨(m.good dr hm).a,hother,(m.good dr hm).sg⟩ ns (by omega))
theorem Reach.ren{ds:List am}{f:Str->Str}{x y:Str}(h:Reach ds x y):Reach (ds.map (sO f)) (f x) (f y):=by
 induction h with
 |one e=>exact .one (aX.2 ⟨_,e,rfl⟩)
 |step _ e ih=>exact .step ih (aX.2 ⟨_,e,rfl⟩)
theorem gJ.ren{ds:List am}{f:Str->Str}{r a:Str}:gJ ds r a->gJ (ds.map (sO f)) (f r) a:=fun⟨w,hw,b,hb⟩ =>
 ⟨f w,hw.imp (fun e=>by rw[e]) Reach.ren,f b,aX.2 ⟨_,hb,rfl⟩⟩
inductive iI (vs:List V)(H:Hp)(Q:VK)(E:XK):Prop
 |mk (p c t l1 l2 l3 l4:Addr) (ts:Ze) (J0 J1 J2:Zb) (ds:List am):(vs=[.ref p,.ref t])->(fo H p c)->(fL H t l1 l2 l3 l4 ts J0 J1 J2 ds)->(aN J0 J1 J2 ds)->(J2.length<=26)->(∀(t' l3' l4':Addr) (ts':Ze) (rooms':Zb) (f:Str->Str) (H':Hp),fL H' t' l1 l2 l3' l4' ts' J0 J1 rooms' (ds.map (sO f))->aN J0 J1 rooms' (ds.map (sO f))->rooms'.Perm (J2.map f)->fo H' p c->cx p H H'->Q (.ref t') H')->iI  vs H Q E
theorem wU{K:Za}{vs:List V}{H:Hp}{Q:VK}{E:XK}(h:iI vs H Q E):sA K eg kC (bJ Q) (start tq vs) H:=by
 obtain⟨p,c,t,l1,l2,l3,l4,ts,J0,J1,J2,ds,rfl,hp,T,m,z3,k⟩:=h;have z4:=m.few;have hr0:0<J2.length:=by
  cases hq:J2 with
  |nil=>exact absurd hq m.rooms0
  |cons _ _=>simp
 refine⟨_,rfl,t,_,rfl,aY.of T.t,rfl,_,_,rfl,_,_,rfl,_,_,rfl,_,_,rfl,rfl,?_⟩;refine fun d hd=>?_;have dp:=hp.nep hd;have dc:=hp.nec hd;have T1:=T.same (ab.new (o:=.dK []) hd);have hp1:=hp.ex (ab.new (o:=.dK []) hd);have hd1:upd H d (.dK []) d=some (.dK (BM [])):=aa;have ex1:cx p H (upd H d (.dK [])):=cx.new hd;generalize upd H d (.dK [])=H1 at T1 hp1 hd1 ex1 ⊢;refine⟨_,rfl,_,rfl,_,rfl,.inl ⟨l3,_,rfl,.inl (aA.of T1.a3),p,c,(J2.map V.str).length,rfl,hp1,by rw[ai];exact z3,fun lw ws H2 okw lenw frw hlw hp2 ex2=>?_⟩⟩;rw[ai]at lenw;have T2:=T1.ex hp1 ex2;have hd2:=ex2 _ _ hd1 dp.symm;have lwd:lw≠d:=fun z=>by rw[z,hd1]at frw;cases frw
 have lwp:=hp2.ne_strs hlw;refine⟨l3,lw,rfl,.inl ⟨⟨_,aA.of T2.a3⟩,⟨_,aA.of hlw⟩,?_⟩⟩;have ez:(J2.zip ws).length=J2.length:=by rw[List.length_zip,lenw,Nat.min_self]
 refine xv (xs:=J2.map V.str) (ys:=ws.map V.str) (by rw[ai,ai,lenw]) (fun i σ H'=>∃x7 x8:Option V,σ=[some (.ref p),some (.ref t),some (.ref l1),some (.ref l2),some (.ref l3),some (.ref l4),some (.ref d),x7,x8,none,none]/\H' d=some (.dK (BM ((J2.zip ws).take i)))/\H' lw=some (.lst (ws.map V.str))/\fo H' p c/\cx p H H')
  ⟨_,_,rfl,hd2,hlw,hp2,ex1.trans ex2⟩ (fun i σ H' _ ⟨_,_,_,_,h1,_,ex⟩=>⟨aA.of (ex _ _ T.a3 (hp.ne_strs T.a3)),aA.of h1⟩) ?_ ?_
 ·rintro i x y σ H3 q hx hy ⟨x7,x8,rfl,hd3,hlw3,hp3,ex3⟩ hq;obtain⟨r,hr,rfl⟩:=bp hx;obtain⟨w,hw,rfl⟩:=bp hy;have hi:i<J2.length:=(cE.mp hr).1;refine⟨q,_,rfl,aY.of aa,rfl,_,_,rfl,_,_,rfl,rfl,?_⟩;have hlen:(BM ((J2.zip ws).take i)).length<ah:=by
   unfold BM;rw[ai,aD];exact aw (by omega)
  refine⟨_,rfl,_,rfl,_,rfl,d,_,rfl,.inl ⟨_,.inr r,kp hd3 hq,rfl,hlen,rfl⟩,_,_,rfl,?_,?_,?_,?_⟩
  ·have hz:(J2.zip ws)[i]?=some (r,w):=by
    rw[List.getElem?_zip_eq_some];exact⟨hr,hw⟩
   have hn:r∉((J2.zip ws).take i).map (·.1):=by
    rw[lV,u3 lenw];intro z;obtain⟨j,hj⟩:=nU z;have hjl:j<i:=by
     have:=(cE.mp hj).1;rw[aD]at this;omega
    rw[List.getElem?_take_of_lt hjl]at hj;have:=p7 m.okR.1 hj hr;omega
   rw[aa,CN hn,take_snoc hz]
  ·rw[aj lwd];exact kp hlw3 hq
  ·exact(hp3.ex (ab.new hq)).upd dp dc
  ·intro b o e n;rw[aj (ag e hd)];exact kp (ex3 _ _ e n) hq
 rintro σ H3 ⟨x7,x8,rfl,hd3,hlw3,hp3,ex3⟩;rw[ai,<-ez,bf]at hd3;have T3:=T.ex hp ex3;generalize hρ:DF (J2.zip ws)=ρ;have hmap:J2.map ρ=ws:=by rw[<-hρ];exact z5 m.okR.1 lenw
 have hval:∀r∈J2,bO (BM (J2.zip ws)) (.inr r:d6)=some (.str (ρ r)):=fun r hr=>by
  rw[<-hρ];exact Ah (by rw[u3 lenw];exact hr)
 refine⟨_,rfl,l3,rfl,⟨_,aA.of T3.a3⟩,fun f hf=>?_⟩;refine bU (xs:=J2.map V.str) (fun i vs H'=>vs=((J2.take i).map ρ).map V.str/\ab H3 H'/\H' f=some (.lst vs)) ⟨rfl,ab.new hf,aa⟩ (fun i vs H' _ ⟨_,S,h'⟩=>⟨h',aA.of (S _ _ T3.a3)⟩) ?_ ?_;rotate_left
 ·rintro i vs H' x' hx' hi ⟨rfl,S,f'⟩;obtain⟨r,hr,rfl⟩:=bp hx';refine gN (sr ?_);refine⟨_,rfl,_,rfl,d,.str (ρ r),rfl,.inl ⟨_,.inr r,.inl (S _ _ hd3),rfl,(hval r (bY hr)).symm⟩,f',?_,j4 hi ⟨?_,?_,aa⟩⟩
  ·rw[ai,ai,aD];exact aw (by omega)
  ·rw[take_snoc hr,aB,aB];rfl
  ·intro b o q;rw[aj (ag q hf)];exact S _ _ q
 rintro vs H4 ⟨rfl,S4,f4⟩;rw[ai,bf,hmap]at f4;have T4:=T3.same S4;have hp4:=hp3.ex S4;have hd4:=S4 _ _ hd3;refine⟨_,rfl,_,rfl,.inl ⟨l3,_,rfl,.inl (aA.of T4.a3),da (m:=((J2.map V.str).length:Nat)) hp4 (by rw[ai];omega) (by rw[ai];omega) fun r H5 r0 r1 hp5 ex5=>⟨_,_,rfl,rfl,?_⟩⟩⟩;rw[ai]at r1;obtain⟨n,rfl⟩:=gy r0;have T5:=T4.ex hp4 ex5;have f5:=ex5 _ _ f4 (hp4.ne_strs f4);have hd5:=ex5 _ _ hd4 dp.symm;have exx5:cx p H H5:=(ex3.trans (ab.exB S4)).trans ex5;have c1:cD (ws.map V.str) none (some 1)=(ws.take 1).map V.str:=gS ws 1;have c2:cD (ws.map V.str) (some (1+(n:Int))) none=(ws.drop (1+n)).map V.str:=ub ws (1+n);have c3:cD (ws.map V.str) (some 1) (some (1+(n:Int)))=((ws.drop 1).take (1+n-1)).map V.str:=BB ws (j:=1) (k:=1+n) (by omega) (by omega);refine⟨_,rfl,_,rfl,f,_,rfl,aA.of f5,fun q1 hq1=>⟨_,rfl,_,rfl,_,rfl,f,_,rfl,aA.of (kp f5 hq1),fun q2 hq2=>⟨q1,q2,_,_,rfl,rfl,kp aa hq2,aa,?_,fun q3 hq3=>⟨_,rfl,_,rfl,_,rfl,_,rfl,f,_,rfl,aA.of (kp (kp (kp f5 hq1) hq2) hq3),fun q4 hq4=>⟨q3,q4,_,_,rfl,rfl,kp aa hq4,aa,?_,fun q5 hq5=>?_⟩⟩⟩⟩⟩
 ·rw[c1,c2,ai,ai,aD,dX];exact fh (aw (by omega))
 ·rw[c1,c2,c3,aO,ai,ai,ai,aD,dX,aD,dX];exact fh (aw (by omega))
 rw[c1,c2,c3]at hq5 ⊢;have m1:(ws.take 1).map V.str++(ws.drop (1+n)).map V.str=(ws.take 1++ws.drop (1+n)).map V.str:=aB.symm;have m2:(ws.take 1++ws.drop (1+n)).map V.str++((ws.drop 1).take (1+n-1)).map V.str=(ws.take 1++ws.drop (1+n)++(ws.drop 1).take (1+n-1)).map V.str:=aB.symm;rw[m1]at hq5 ⊢;rw[m2];have S6:=((((ab.new (o:=.lst ((ws.take 1).map V.str)) hq1).trans (ab.new (o:=.lst ((ws.drop (1+n)).map V.str)) (by rw[<-c1];exact hq2))).trans (ab.new (o:=.lst ((ws.take 1++ws.drop (1+n)).map V.str)) (by rw[<-c1,<-c2];exact hq3))).trans (ab.new (o:=.lst (((ws.drop 1).take (1+n-1)).map V.str)) (by rw[aB,<-c1,<-c2];exact hq4))).trans (ab.new (o:=.lst ((ws.take 1++ws.drop (1+n)++(ws.drop 1).take (1+n-1)).map V.str)) hq5);have hperm:=wx ws n;generalize ws.take 1++ws.drop (1+n)++(ws.drop 1).take (1+n-1)=rooms' at S6 hperm hq5 ⊢;have hr':(upd (upd (upd (upd (upd H5 q1 (.lst ((ws.take 1).map V.str))) q2 (.lst ((ws.drop (1+n)).map V.str))) q3 (.lst ((ws.take 1++ws.drop (1+n)).map V.str))) q4 (.lst (((ws.drop 1).take (1+n-1)).map V.str))) q5 (.lst (rooms'.map V.str))) q5=some (.lst (rooms'.map V.str)):=aa;generalize(upd (upd (upd (upd (upd H5 q1 (.lst ((ws.take 1).map V.str))) q2 (.lst ((ws.drop (1+n)).map V.str))) q3 (.lst ((ws.take 1++ws.drop (1+n)).map V.str))) q4 (.lst (((ws.drop 1).take (1+n-1)).map V.str))) q5 (.lst (rooms'.map V.str)))=H6 at S6 hr' ⊢;have T6:=T5.same S6;have hd6:=S6 _ _ hd5;refine⟨_,rfl,l4,rfl,⟨_,aA.of T6.a4⟩,fun g hg=>?_⟩;refine bU (xs:=ts.map V.ref) (fun i vs H'=>∃us:List Addr,vs=us.map V.ref/\ab H6 H'/\H' g=some (.lst vs)/\cn H' us ((ds.take i).map (sO ρ))) ⟨[],rfl,ab.new hg,aa,.nil⟩ (fun i vs H' _ ⟨_,_,S,h',_⟩=>⟨h',aA.of (S _ _ T6.a4)⟩) ?_ ?_;rotate_left
 ·rintro i vs H' x' hx' hi ⟨us,rfl,S,g',hP⟩;obtain⟨u,hu,rfl⟩:=cg hx';obtain⟨dr,hdr,hatd⟩:=Paired.getL T6.ds hu;obtain⟨sb,ht2,hs2⟩:=hatd.kt (ab.kt S);have hmem:=bY hdr;have hda:=hval dr.a (m.good dr hmem).a;have hdb:=hval dr.b (m.good dr hmem).b;refine⟨u,_,rfl,aY.of ht2,rfl,_,_,rfl,_,_,rfl,_,_,rfl,rfl,?_⟩;refine sr ?_;refine⟨_,rfl,_,rfl,d,.str (ρ dr.a),rfl,.inl ⟨_,.inr dr.a,.inl (S _ _ hd6),rfl,hda.symm⟩,_,rfl,_,rfl,_,rfl,d,.str (ρ dr.b),rfl,.inl ⟨_,.inr dr.b,.inl (S _ _ hd6),rfl,hdb.symm⟩,(by show 3<=ah;decide),fun w hw=>⟨kp g' hw,?_,j4 hi ⟨us++[w],by rw[aB];rfl,?_,aa,?_⟩⟩⟩
  ·rw[ai,Paired.length hP,ai,aD];exact aw (by omega)
  ·intro b o q;rw[aj (ag q hg)];exact kp (S _ _ q) hw
  ·rw[take_snoc hdr,aB];have hk:jZ H' (upd (upd H' w (.tup [.str (ρ dr.a),.ref sb,.str (ρ dr.b)])) g (.lst (us.map V.ref++[.ref w]))):=(ab.kt (ab.new hw)).trans (eD (kp g' hw));refine fA (hP.kt hk) ⟨sb,?_,hk _ _ hs2⟩;exact(eD (kp g' hw)) _ _ aa
 rintro vs H7 ⟨us,rfl,S7,g7,hP⟩;rw[ai,Paired.length T.ds,bf]at hP;have T7:=T6.same S7;have hp7:=(hp5.ex S6).ex S7;have ex7:cx p H H7:=exx5.trans (ab.exB (S6.trans S7));refine⟨_,rfl,_,rfl,_,rfl,_,rfl,(by show 4<=ah;decide),fun t' ht'=>k t' q5 g us rooms' ρ _ ⟨aa,kp T7.a1 ht',kp T7.a2 ht',kp (S7 _ _ hr') ht',kp g7 ht',hP.kt (ab.kt (ab.new ht'))⟩ (m.renamed okw hmap hperm) (by rw[hmap];exact hperm) (hp7.ex (ab.new ht')) (ex7.trans (cx.new ht'))⟩
inductive pY (vs:List V)(H:Hp)(Q:VK)(E:XK):Prop
 |mk (p c t l1 l2 l3 l4:Addr) (ts:Ze) (J0 J1 J2:Zb) (ds:List am) (n:Nat):(vs=[.ref p,.ref t,.int (n:Nat)])->(fo H p c)->(fL H t l1 l2 l3 l4 ts J0 J1 J2 ds)->(aN J0 J1 J2 ds)->(J2.length<=26)->(ds.length<=650)->(n<=8)->(∀(t' l3' l4':Addr) (ts':Ze) (rooms':Zb) (ds':List am) (H':Hp),fL H' t' l1 l2 l3' l4' ts' J0 J1 rooms' ds'->aN J0 J1 rooms' ds'->(∀r∈rooms',∀a∈J0,gJ ds' r a)->rooms'.length=J2.length->ds'.length<=ds.length+n+4 * J2.length->fo H' p c->cx p H H'->Q (.ref t') H')->pY  vs H Q E
theorem Ee{K:Za}{vs:List V}{H:Hp}{Q:VK}{E:XK}(h:pY vs H Q E):xZ K eg iI jB kZ k_ (bJ Q) (start zo vs) H:=by
 obtain⟨p,c,t,l1,l2,l3,l4,ts,J0,J1,J2,ds,n,rfl,hp,T,m,z3,z4,zn,k⟩:=h;refine⟨_,rfl,p,c,rfl,hp,fun H1 hp1 ex1=>?_⟩;have T1:=T.ex hp ex1;refine⟨_,rfl,_,rfl,_,_,rfl,rfl,da hp1 (by omega) (by omega) fun x H2 x0 x1 hp2 ex2=>?_⟩;have T2:=T1.ex hp1 ex2;refine⟨x,rfl,by omega,by omega,?_⟩;refine jj (lo:=0) (n:=x.toNat) (fun i σ H'=>∃(t' l4':Addr) (ts':Ze) (ds':List am) (x3:Option V),σ=[some (.ref p),some (.ref t'),some (.int (n:Nat)),x3]/\fL H' t' l1 l2 l3 l4' ts' J0 J1 J2 ds'/\aN J0 J1 J2 ds'/\ds'.length<=ds.length+i/\fo H' p c/\cx p H H')
  ⟨t,l4,ts,ds,_,rfl,T2,m,aH _,hp2,ex1.trans ex2⟩ ?_ ?_
 ·rintro i σ H3 hi ⟨t',l4',ts',ds',x3,rfl,T3,m3,z,hp3,ex3⟩;refine⟨_,rfl,_,rfl,p,c,t',l1,l2,l3,l4',ts',J0,J1,J2,ds',rfl,hp3,T3,m3,by omega,fun t2 l42 ts2 ds2 H4 T4 m4 z4 hp4 ex4=>?_⟩;exact⟨t2,l42,ts2,ds2,_,rfl,T4,m4,by omega,hp4,ex3.trans ex4⟩
 ·rintro σ H3 ⟨t',l4',ts',ds',x3,rfl,T3,m3,z,hp3,ex3⟩;refine⟨_,rfl,_,rfl,p,c,t',l1,l2,l3,l4',ts',J0,J1,J2,ds',rfl,hp3,T3,m3,z3,by omega,fun t2 l42 ts2 ds2 H4 T4 m4 tk4 zw hp4 ex4=>?_⟩;refine⟨_,rfl,da hp4 (by decide) (by decide) fun w H5 w0 w1 hp5 ex5=>⟨rfl,_,rfl,?_⟩⟩;have T5:=T4.ex hp4 ex5;refine gP (fun _=>?_) (fun _=>?_)
  ·refine⟨_,rfl,_,rfl,p,c,t2,l1,l2,l3,l42,ts2,J0,J1,J2,ds2,rfl,hp5,T5,m4,z3,fun t3 l33 l43 ts3 rooms3 f H6 T6 m6 pr hp6 ex6=>⟨_,rfl,?_⟩⟩;refine k t3 l33 l43 ts3 rooms3 _ H6 T6 m6 (fun r hr a ha=>?_) (by rw[pr.length_eq,ai]) (by rw[ai];omega) hp6 (((ex3.trans ex4).trans ex5).trans ex6);obtain⟨r0,hr0,rfl⟩:=aX.1 (pr.mem_iff.1 hr);exact(tk4 r0 hr0 a ha).ren
  ·exact⟨_,rfl,k t2 l3 l42 ts2 J2 ds2 H5 T5 m4 tk4 rfl (by omega) hp5 ((ex3.trans ex4).trans ex5)⟩
abbrev LP:=(List Str×List Str)×List Sg
inductive lN(K:Za)(C:Addr)(vs:List V)(H:Hp)(Q:VK)(E:XK):Prop
 |mk (x t s:Addr) (J6 sg J0 J1 J2:Zb) (ds:List am):(vs=[.ref x,.ref t,.ref s])->(bL C H x J0 J1 J2 ds)->(ck K H t (J6.map V.str))->(H s=some (.tup (sg.map V.str)))->(sg≠bH)->(J6.length<=1000)->(∀(t':Addr) (F:Zb) (H':Hp),H' t'=some (.tup ((J2.filter fun r=>decide (r∈F)).map V.str))->(∀w,w∈F↔f8 ds (dj ds sg J6) w)->ab H H'->Q (.ref t') H')->lN K C vs H Q E
theorem sS{K:Za}{C hu:Addr}(hhu:∀H,aY K H hu (bH.map V.str)){sp2:Sp}{vs:List V}{H:Hp}{Q:VK}{E:XK}(h:lN K C vs H Q E):
  lM K (sp_with_still C) C (g0 C) hu sp2 (bJ Q) (start lR vs) H:=by
 obtain⟨x,t,s,J6,sg,J0,J1,J2,ds,rfl,M,ht,hs,hne,hz,k⟩:=h;have hdb:∀d∈ds,d.b∈J2:=fun d hd=>(M.ok.good d hd).b;have z4:=M.ok.few;refine⟨_,rfl,gB sg,gB bH,aL (aY.of hs),aL (hhu _),by rw[aZ];decide,by rw[aZ];decide,_,rfl,?_⟩;rw[cV,zzr0 hne];refine bv ?_;refine⟨(by show 0<=ah;decide),fun g hg=>?_⟩;refine⟨_,rfl,t,rfl,⟨_,ck.sq (ck.kt (ab.kt (ab.new hg)) ht)⟩,?_⟩;refine vN (xs:=J6.map V.str) (fun i σ H'=>∃x4:Option V,σ=[some (.ref x),some (.ref t),some (.ref s),some (.ref g),x4]/\H' g=some (.lst ((dj ds sg (J6.take i)).map V.str))/\ab H H')
  ⟨_,rfl,aa,ab.new hg⟩ (fun i σ H' _ ⟨_,_,_,S⟩=>ck.sq (ck.kt (ab.kt S) ht)) ?_ ?_
 ·rintro i y σ H1 hi ⟨x4,rfl,hg1,S1⟩;obtain⟨r,hr,rfl⟩:=bp hi;have M1:=M.same S1;obtain⟨dx,fs,o1,o2,o3,o4,lv,qu,sgA,sl,ts,lps,gps,sps,g1,a1,a2,a3,a4,_⟩:=M1.at_;refine⟨_,rfl,.inl ⟨rfl,_,aA.of hg1⟩,_,rfl,x,dx,fs,rfl,g1,a2,_,rfl,_,rfl,x,s,r,sg,J0,J1,J2,ds,rfl,M1,S1 _ _ hs,fun l H2 hl fr S2=>?_⟩;have hg2:=S2 _ _ hg1;have hlen:((dj ds sg (J6.take i)).map V.str).length+((bz ds (r,sg)).map V.str).length<=ah:=by
   rw[ai,ai];have h1:=nF ds sg (J6.take i);have h2:=pC ds (r,sg);have h3:(J6.take i).length * ds.length<=1000 * 1000:=Nat.mul_le_mul (by rw[aD];omega) z4;have:(1001000:Nat)<=ah:=by decide
   omega
  refine⟨g,l,_,_,rfl,rfl,hg2,hl,hlen,_,rfl,?_,?_⟩
  ·rw[aa,sY hr,aB]
  ·intro b o q;rw[aj (ag q hg)];exact S2 _ _ (S1 _ _ q)
 ·rintro σ H1 ⟨x4,rfl,hg1,S1⟩;rw[ai,bf]at hg1;refine⟨_,rfl,_,rfl,x,g,dj ds sg J6,J0,J1,J2,ds,rfl,M.same S1,hg1,fun w hw=>?_,fun t' F H' h1 h2 S2=>k t' F H' h1 h2 (S1.trans S2)⟩;obtain⟨r,_,h⟩:=nD.mp hw;exact hdb _ h
inductive ni(K:Za)(C:Addr)(vs:List V)(H:Hp)(Q:VK)(E:XK):Prop
 |mk (x t s:Addr) (J6 sg J0 J1 J2:Zb) (ds:List am):(vs=[.ref x,.ref t,.ref s])->(bL C H x J0 J1 J2 ds)->(ck K H t (J6.map V.str))->(aY K H s (sg.map V.str))->((sg=bH∨H s=some (.tup (sg.map V.str))))->((∀r∈J6,r∈J2))->(J6.length<=1000)->(∀(t':Addr) (H':Hp),H' t'=some (.tup ((behF J2 ds J6 sg).map V.str))->ab H H'->Q (.ref t') H')->ni K C vs H Q E
theorem Cq{K:Za}{C hu:Addr}(hhu:∀H,aY K H hu (bH.map V.str)){vs:List V}{H:Hp}{Q:VK}{E:XK}(h:ni K C vs H Q E):
  lM K (sp_with_still C) C (g0 C) hu (gr C) (bJ Q) (start lR vs) H:=by
 obtain⟨x,t,s,J6,sg,J0,J1,J2,ds,rfl,M,ht,hs,hor,hsub,hz,k⟩:=h;by_cases hh:sg=bH;rotate_left
 ·refine sS (E:=E) hhu ⟨x,t,s,J6,sg,J0,J1,J2,ds,rfl,M,ht,hor.resolve_left hh,hh,hz,fun t' F H' h1 hF S=>k t' H' ?_ S⟩;rw[h1,rR hF];unfold behF;rw[if_neg hh]
 subst hh;refine⟨_,rfl,gB bH,gB bH,aL hs,aL (hhu _),by rw[aZ];decide,by rw[aZ];decide,_,rfl,?_⟩;rw[zzr1 rfl];refine b0 ?_;refine⟨_,rfl,t,rfl,⟨_,ck.sq ht⟩,fun f hf=>?_⟩;refine xz (xs:=J6.map V.str) (fun i vs H'=>vs=((J6.take i).filter fun r=>decide (r∈J2.filter (df ds))).map V.str/\ab H H'/\H' f=some (.lst vs)) ⟨rfl,ab.new hf,aa⟩ (fun i vs H' _ ⟨_,S,h'⟩=>⟨h',ck.sq (ck.kt (ab.kt S) ht)⟩) ?_ ?_
 ·rintro vs H' ⟨rfl,S,f'⟩;rw[ai,bf]at f';refine⟨f,_,rfl,.inl ⟨aA.of f',fun t' ht'=>k t' _ ?_ (S.trans (ab.new ht'))⟩⟩;rw[aa,CC hsub];unfold behF;rw[if_pos rfl]
 ·rintro i vs H' x' hx' hi ⟨rfl,S,f'⟩;obtain⟨r,hr,rfl⟩:=bp hx';have M':=M.same S;obtain⟨dx,fs,o1,o2,o3,o4,lv,qu,sgA,sl,ts,lps,gps,sps,g1,a1,_⟩:=M'.at_;refine gN ?_;refine⟨_,rfl,x,dx,fs,rfl,g1,a1,_,rfl,x,r,J0,J1,J2,ds,rfl,M',_,rfl,?_⟩;have hlen:(((J6.take i).filter fun r=>decide (r∈J2.filter (df ds))).map V.str).length<ah:=by
   rw[ai];refine aw (bh (cF _ _) ?_);rw[aD];omega
  refine gP (fun hq=>?_) (fun hq=>?_)
  ·refine⟨_,rfl,f',hlen,j4 hi ⟨?_,?_,aa⟩⟩
   ·rw[bD hr,if_pos hq,aB];rfl
   ·intro b o q;rw[aj (ag q hf)];exact S _ _ q
  ·refine j4 hi ⟨?_,S,f'⟩;rw[bD hr,if_neg hq,dv]
inductive iH(K:Za)(C:Addr)(vs:List V)(H:Hp)(Q:VK)(E:XK):Prop
 |mk (x t:Addr) (J6 J0 J1 J2:Zb) (ds:List am):(vs=[.ref x,.ref t])->(bL C H x J0 J1 J2 ds)->(ck K H t (J6.map V.str))->((∀r∈J6,r∈J2))->(J6.length<=1000)->(∀(d:Addr) (kvs:List (TK×V)) (H':Hp),H' d=some (.dT kvs)->kR H' kvs (stepsF J0 J1 J2 ds J6)->H d=none->ab H H'->Q (.ref d) H')->iH K C vs H Q E
theorem wT{K:Za}{C hu:Addr}(hh:∀H,aY K H hu (bH.map V.str)){vs:List V}{H:Hp}{Q:VK}{E:XK}(h:iH K C vs H Q E):xV K (vk C hu) (ni K C) (bJ Q) (start zc vs) H:=by
 obtain⟨x,t,J6,J0,J1,J2,ds,rfl,M,ht,hsub,hz,k⟩:=h;have z1:=M.ok.asks4;have z2:=M.ok.says4;have zl:(dR J0 J1).length<=9:=by unfold dR;rw[aO,aO,ai,ai];show _+1<=9;omega
 have nd:=rB M.ok;refine fun d hd=>?_;have S0:ab H (upd H d (.dT [])):=ab.new hd;refine⟨_,rfl,x,J0,J1,J2,ds,rfl,M.same S0,fun l us H1 hl hP S1=>⟨l,rfl,⟨_,aA.of hl⟩,?_⟩⟩;refine bW (xs:=us.map V.ref) (fun i σ H'=>∃(kvs:List (TK×V)) (x3 x4:Option V),σ=[some (.ref x),some (.ref t),some (.ref d),x3,x4]/\H' d=some (.dT kvs)/\ab H H'/\(∀b o,H1 b=some o->b≠d->H' b=some o)/\kR H' kvs (stG J2 ds J6 ((dR J0 J1).take i)))
  ⟨[],_,_,rfl,S1 _ _ aa,S0.trans S1,fun _ _ e _=>e,.nil⟩ (fun i σ H' _ ⟨_,_,_,_,_,_,S,_⟩=>aA.of (S _ _ hl fun e=>by subst e;have:=S1 _ _ (aa (H:=H) (a:=l) (o:=.dT []));rw[hl]at this;cases this)) ?_ ?_
 ·rintro i y σ H2 hi ⟨kvs,x3,x4,rfl,h2,S2,S12,st⟩;obtain⟨u,hu',rfl⟩:=cg hi;obtain⟨sg,hsg,hat⟩:=Paired.getL hP hu';have hat2:ER hu H2 u sg:=hat.imp (fun e=>S12 _ _ e fun z=>by subst z;have:=S1 _ _ (aa (H:=H) (a:=u) (o:=.dT []));rw[e]at this;cases this) id;refine⟨_,rfl,_,rfl,_,rfl,x,t,u,J6,sg,J0,J1,J2,ds,rfl,M.same S2,ck.kt (ab.kt S2) ht,hat2.sq hh,hat2.symm.imp (fun e=>e.2) id,hsub,hz,fun f H3 hf S3=>?_⟩;have h3:=S3 _ _ h2;refine⟨_,rfl,.inl ⟨f,_,rfl,.inr (aY.of hf),_,_,rfl,rfl,?_⟩⟩;refine⟨_,rfl,?_⟩;have hat3:=hat2.same S3;have S13:∀b o,H1 b=some o->b≠d->H3 b=some o:=fun b o e n=>S3 _ _ (S12 b o e n);have st3:=st.kt (ab.kt S3);refine ji (P:=behF J2 ds J6 sg≠[]) ?_ (fun c=>?_) (fun c=>?_)
  ·rw[ai];constructor
   ·intro h z;rw[z]at h;exact absurd h (by decide)
   ·intro h;exact zzr1 (by have:=List.length_pos_iff.mpr h;omega)
  rotate_left
  ·have c:=ka.1 c;refine⟨kvs,_,_,rfl,h3,S2.trans S3,S13,?_⟩;rw[take_snoc hsg,wO,if_pos c,dv];exact st3
  ·have no:bO kvs (ip sg)=none:=st3.no fun p hp e=>by
    have h1:=DX hp;rw[e]at h1;exact vD nd hsg h1
   have ll:kvs.length<ah:=by
    rw[Paired.length st];refine aw ?_;have h1:=DY (J2:=J2) (ds:=ds) (J6:=J6) (L:=(dR J0 J1).take i);rw[aD]at h1;omega
   refine⟨_,rfl,_,rfl,_,rfl,d,u,kvs,ip sg,rfl,rfl,h3,wz (hat3.tup hh),jm sg,ll,_,_,_,rfl,aa,?_,?_,?_⟩
   ·intro b o e;rw[aj (ag e hd)];exact S3 _ _ (S2 _ _ e)
   ·intro b o e n;rw[aj n];exact S13 b o e n
   ·rw[eT _ no,take_snoc hsg,wO,if_neg c];have kt:jZ H3 (upd H3 d (.dT (kvs++[(ip sg,.ref f)]))):=GY h3;exact fA (st3.kt kt) ⟨rfl,f,rfl,kt _ _ hf⟩
 ·rintro σ H2 ⟨kvs,x3,x4,rfl,h2,S2,_,st⟩;rw[ai,Paired.length hP,bf]at st;exact⟨_,rfl,k d kvs H2 h2 st hd S2⟩
def cC(fv:V)(lo:Sg->Option V)(d:am):List (Str×V) :=
 if d.sg=ar then[(d.b,fv)]else if(lo d.sg).isSome=true∨d.sg.head?=some ("say":Str)then[(d.b,(lo d.sg).getD .non)]else[]
def wR(J2:Zb)(ds:List am)(room:Str)(fv:V)(lo:Sg->Option V):List (Str×V) :=
 (bm ds room).flatMap (cC fv lo)++if room∈J2.filter (df ds)then[(room,(lo bH).getD .non)]else[]
abbrev gU(H:Hp)(us:Ze)(L:List (Str×V)):Prop:=Paired (fun u (r:Str×V)=>H u=some (.tup [.str r.1,r.2])) us L
theorem gU.kt{H H':Hp}{us:Ze}{L:List (Str×V)}(k:jZ H H')(h:gU H us L):gU H' us L:=Paired.mapP h fun _ _ r=>k _ _ r
theorem sZ(fv:V)(lo:Sg->Option V)(d:am):(cC fv lo d).length<=1:=by
 unfold cC;split
 ·exact aH _
 ·split
  ·exact aH _
  ·exact dL _
theorem oI(fv:V)(lo:Sg->Option V):∀L:List am,(L.flatMap (cC fv lo)).length<=L.length
 |[]=>aH _
 |d::L=>by
  rw[nT,aO,em];have:=sZ fv lo d;have:=oI fv lo L;omega
inductive kB(K:Za)(C:Addr)(vs:List V)(H:Hp)(Q:VK)(E:XK):Prop
 |mk (x sd:Addr) (room:Str) (fv:V) (lo:Sg->Option V) (J0 J1 J2:Zb) (ds:List am):(vs=[.ref x,.str room,fv,.ref sd])->(bL C H x J0 J1 J2 ds)->(room∈J2)->((∀(H':Hp) (s:Addr) (sg:Sg),ab H H'->ck K H' s (sg.map V.str)->GL H' sd/\kW K H' sd (.ref s) (lo sg)))->(∀(l:Addr) (us:Ze) (H':Hp),H' l=some (.lst (us.map V.ref))->gU H' us (wR J2 ds room fv lo)->H l=none->ab H H'->Q (.ref l) H')->kB K C vs H Q E
theorem Cj{K:Za}{C hu sa:Addr}(hh:∀H,aY K H hu (bH.map V.str))(hs:∀H,aY K H sa (ar.map V.str)){vs:List V}{H:Hp}{Q:VK}{E:XK}(h:kB K C vs H Q E):su K C (gr C) hu (gl C) sa (bJ Q) (start s_ vs) H:=by
 obtain⟨x,sd,room,fv,lo,J0,J1,J2,ds,rfl,M,hr,hsd,k⟩:=h;have z4:=M.ok.few;refine⟨(by show 0<=ah;decide),fun l hl=>?_⟩;have S0:ab H (upd H l (.lst [])):=ab.new hl;obtain⟨dx,fs,o1,o2,lv,lps,g1,a1,a2,a3,a4,_⟩:=mm (M.same S0);refine⟨_,rfl,x,dx,fs,rfl,g1,a3,_,rfl,x,room,J0,J1,J2,ds,rfl,M.same S0,hr,fun dl du H1 hdl hD hdl0 S1=>⟨dl,rfl,⟨_,aA.of hdl⟩,?_⟩⟩;have lz:(bm ds room).length<=1000:=bh (cF _ _) (by omega);have ndl:dl≠l:=fun z=>by rw[z,aa]at hdl0;cases hdl0
 refine bW (xs:=du.map V.ref) (fun i σ H'=>∃(us:Ze) (x5 x6 x7:Option V),σ=[some (.ref x),some (.str room),some (fv),some (.ref sd),some (.ref l),x5,x6,x7]/\H' l=some (.lst (us.map V.ref))/\gU H' us (((bm ds room).take i).flatMap (cC fv lo))/\ab H H'/\∀b o,H1 b=some o->b≠l->H' b=some o)
  ⟨[],_,_,_,rfl,S1 _ _ aa,.nil,S0.trans S1,fun _ _ e _=>e⟩ (fun i σ H' _ ⟨_,_,_,_,_,_,_,_,e⟩=>aA.of (e _ _ hdl ndl)) ?_ ?_
 ·rintro i y σ H2 hi ⟨us,x5,x6,x7,rfl,hl2,hR,S2,e2⟩;obtain⟨u,hu',rfl⟩:=cg hi;obtain⟨d,hd,hat⟩:=Paired.getL hD hu';have k12:jZ H1 H2:=fun b xs e=>e2 _ _ e fun z=>by have:=S1 _ _ (aa (H:=H) (a:=l) (o:=.lst []));rw[<-z,e]at this;cases this
  obtain⟨sb,ht2,hs2⟩:=hat.kt k12;have hgood:=M.ok.good d (dO.1 (bY hd)).1;obtain⟨s0,rest,hsg,_⟩:=lb hgood;have il:i<(bm ds room).length:=(cE.mp hd).1;have ul:us.length<=1000:=by
   rw[Paired.length hR];refine bh (oI fv lo _) ?_;rw[aD];omega
  have row:∀{H3:Hp}(r:Str×V) (p:Addr),ab H2 H3->H3 p=none->cC fv lo d=[r]->∃(us':Ze) (x5 x6 x7:Option V),([some (.ref x),some (.str room),some (fv),some (.ref sd),some (.ref l),some (.str d.a),some (.ref sb),some (.str d.b)]:L2.St)=[some (.ref x),some (.str room),some (fv),some (.ref sd),some (.ref l),x5,x6,x7]/\upd (upd H3 p (.tup [.str r.1,r.2])) l (.lst (us.map V.ref++[.ref p])) l=some (.lst (us'.map V.ref))/\gU (upd (upd H3 p (.tup [.str r.1,r.2])) l (.lst (us.map V.ref++[.ref p]))) us' (((bm ds room).take (i+1)).flatMap (cC fv lo))/\ab H (upd (upd H3 p (.tup [.str r.1,r.2])) l (.lst (us.map V.ref++[.ref p])))/\∀b o,H1 b=some o->b≠l->upd (upd H3 p (.tup [.str r.1,r.2])) l (.lst (us.map V.ref++[.ref p])) b=some o:=by
   intro H3 r p S3 hp er;have hk:jZ H2 (upd (upd H3 p (.tup [.str r.1,r.2])) l (.lst (us.map V.ref++[.ref p]))):=((ab.kt S3).trans (ab.kt (ab.new hp))).trans (eD (kp (S3 _ _ hl2) hp));refine⟨us++[p],_,_,_,rfl,by rw[aa,aB];rfl,?_,fun b o e=>by rw[aj (ag e hl)];exact kp (S3 _ _ (S2 _ _ e)) hp,fun b o e nb=>by rw[aj nb];exact kp (S3 _ _ (e2 _ _ e nb)) hp⟩;rw[take_snoc hd,uj,nT,er];refine fA (gU.kt hk hR) ?_;rw[aj (ag (S3 _ _ hl2) hp).symm];exact aa
  refine⟨u,_,rfl,aY.of ht2,rfl,_,_,rfl,_,_,rfl,_,_,rfl,rfl,?_⟩;refine⟨_,rfl,gB d.sg,gB ar,aL (aY.of hs2),aL (hs H2),by rw[aZ];decide,by rw[aZ];decide,_,rfl,?_⟩;rw[cV];refine ji (P:=d.sg=ar) (by simp) (fun c=>?_) (fun c=>?_)
  ·refine⟨_,rfl,.inl ⟨rfl,_,aA.of hl2⟩,_,rfl,_,rfl,(by show 2<=ah;decide),fun p hp=>⟨l,_,.ref p,rfl,rfl,kp hl2 hp,by rw[ai];exact aw ul,?_⟩⟩;exact row (d.b,fv) p (.refl _) hp (by unfold cC;rw[if_pos c])
  ·have gd:kW K H2 sd (.ref sb) (lo d.sg):=(hsd H2 sb d.sg S2 (.inl hs2)).2;have isd:GL H2 sd:=(hsd H2 sb d.sg S2 (.inl hs2)).1;have at0:vV (d.sg.map V.str) 0=some (.str s0):=by rw[hsg];exact bQ (j:=0) rfl
   have put:(lo d.sg).isSome=true∨d.sg.head?=some ("say":Str)->cb (vj K "list" dE V4 (aG (bd (aI V7 (vi K V3 V6))))) { nx:=fun σ H'=>∃(us:Ze) (x5 x6 x7:Option V),σ=[some (.ref x),some (.str room),some (fv),some (.ref sd),some (.ref l),x5,x6,x7]/\H' l=some (.lst (us.map V.ref))/\gU H' us (((bm ds room).take (i+1)).flatMap (cC fv lo))/\ab H H'/\∀b o,H1 b=some o->b≠l->H' b=some o,rt:=Q } [some (.ref x),some (.str room),some (fv),some (.ref sd),some (.ref l),some (.str d.a),some (.ref sb),some (.str d.b)] H2:=by
    intro cc;refine⟨_,rfl,.inl ⟨rfl,_,aA.of hl2⟩,_,rfl,_,rfl,sd,rfl,isd,_,rfl,_,gd,?_⟩;refine⟨(by show 2<=ah;decide),fun p hp=>⟨l,_,.ref p,rfl,rfl,kp hl2 hp,by rw[ai];exact aw ul,?_⟩⟩;exact row (d.b,(lo d.sg).getD .non) p (.refl _) hp (by unfold cC;rw[if_neg c,if_pos cc])
   refine⟨_,rfl,_,rfl,sd,_,rfl,gd,_,rfl,?_⟩;cases hv:lo d.sg with
   |some w=>exact b0 (b0 (put (.inl (by rw[hv];rfl))))
   |none =>
    refine bv ?_;refine⟨_,rfl,sb,_,0,_,rfl,rfl,aY.of hs2,at0,rfl,_,rfl,?_⟩;refine ji (P:=d.sg.head?=some ("say":Str)) (by rw[hsg];simp) (fun c2=>put (.inr c2)) (fun c2=>?_);refine⟨us,_,_,_,rfl,hl2,?_,S2,e2⟩;have er:cC fv lo d=[]:=by
     unfold cC;rw[if_neg c,if_neg];rintro(z|z)
     ·rw[hv]at z;cases z
     ·exact c2 z
    rw[take_snoc hd,uj,nT,er];simpa using hR
 ·rintro σ H2 ⟨us,x5,x6,x7,rfl,hl2,hR,S2,e2⟩;rw[ai,Paired.length hD,bf]at hR;have M2:=M.same S2;obtain⟨dx,fs,o1,o2,lv,lps,g1,a1,a2,a3,a4,_⟩:=mm M2;have ul:us.length<=1000:=by
   rw[Paired.length hR];exact bh (oI fv lo _) lz
  refine⟨_,rfl,x,dx,fs,rfl,g1,a4,_,rfl,x,room,J0,J1,J2,ds,rfl,M2,_,rfl,?_⟩;refine ji (P:=room∈J2.filter (df ds)) (by simp) (fun c=>?_) (fun c=>?_)
  ·have gd:=hsd H2 hu bH S2 (zX hh H2);refine⟨_,rfl,.inl ⟨rfl,_,aA.of hl2⟩,_,rfl,_,rfl,sd,rfl,gd.1,_,gd.2,?_⟩;refine⟨(by show 2<=ah;decide),fun p hp=>⟨l,_,.ref p,rfl,rfl,kp hl2 hp,by rw[ai];exact aw ul,?_⟩⟩;have hk:jZ H2 (upd (upd H2 p (.tup [.str room,(lo bH).getD .non])) l (.lst (us.map V.ref++[.ref p]))):=(ab.kt (ab.new hp)).trans (eD (kp hl2 hp));refine⟨_,rfl,k l (us++[p]) _ (by rw[aa,aB];rfl) ?_ hl fun b o e=>by rw[aj (ag e hl)];exact kp (S2 _ _ e) hp⟩;unfold wR;rw[if_pos c];refine fA (gU.kt hk hR) ?_;rw[aj (ag hl2 hp).symm];exact aa
  ·refine⟨_,rfl,k l us H2 hl2 ?_ hl S2⟩;unfold wR;rw[if_neg c,dv];exact hR
def yb(K:Za):TS :=
 ap (aS (mj) U1)
 (ap (de (bV K V0) U2 (iJ V1 V2 (tC (.bl true))))
 (aU V1))
def zv:List Str:=["things","keys","thing"]
def yd(K:Za):TS :=
 ap (aS (ml) U1)
 (ap (de (C4 K V0) U2 (iJ V1 V2 (tC (.bl true))))
 (aU V1))
def zA:List Str:=["things","keys","thing"]
def qG(K:Za)(C_Machine:Addr)(sp_Machine_rooms:Sp)(sp_as_keys:Sp):TS :=
 ap (aS (aM sp_as_keys (aG V1)) U2)
 (aU (pi (ay CA (cK (dP K) (aG V1)) (tC (.int 0))) (ay (jG K) V1 (cK (qW K) (aG (cN 1 [2] (bV K (dw C_Machine "rooms" sp_Machine_rooms [] E0 V0 a_)) U0 (tB (sM K V0 V1)) V0))))))
def r_:List Str:=["M","face","rooms"]
def va(K:Za)(dU:Sp)(C_Machine:Addr)(sp_Machine_rooms:Sp)(sp_rows_needed:Sp)(sp_steps_at:Sp)(sp_is_full_face:Sp)(sp_as_keys:Sp)(sp_need_taker:Sp):TS :=
 ap (cb (aM sp_need_taker (aI V0 V1)))
 (ap (aS (aM sp_as_keys (aG V2)) U3)
 (ap (aS (aM sp_as_keys (aG (dw C_Machine "rooms" sp_Machine_rooms [] E0 V1 a_))) U4)
 (ap (aS (mj) U5)
 (ap (de (C5 K V3) (gw K 2 (bc U6 (bc U7 (f6)))) (ap (bB (tB (dD K V7 V5)) (ap (bB (pJ (tB (aM sp_is_full_face (aI V0 V7)))) (aU (tC (.bl false))) (aR))
 (vq K V5 V7 (aM sp_steps_at (aI V0 V7)))) (aR))
 (bB (wk (tB (dD K V6 V4)) (pJ (tB (cK (Em K) (aq (cN 1 [3] (bV K (aM sp_rows_needed (aq V1 (dC V6 V7 (m9 K V5 V7))))) U0 (kA) (Ce K V0 V1)) a_))))) (aU (tC (.bl false))) (aR))))
 (aU (sM K (bd (aI (ay (cM K) (dw C_Machine "rooms" sp_Machine_rooms [] E0 V1 a_) (tC (.int 0))) (aM dU (aG V0)))) V3))))))
def wb:List Str:=["M","I","paper","rows","rooms","steps","room","face"]
def oB(K:Za)(sp_law_is_quiet:Sp)(sp_law_behind:Sp):TS :=
 ap (de (bV K (ay (iM K) V1 (tC (.int 3)))) (gw K 3 (bc U5 (bc U6 (bc U7 (f6))))) (ap (bB (iV (aF (ay nS V5 V3)) (iV (aF (ay (jG K) V6 (bd (aG (tC (.str "still")))))) (tB (dD K (bd (aI V7 V4)) V2)))) (aU (tC (.bl false))) (aR))
 (bB (iV (aF (ay nS V5 V3)) (aF (ay (j3 K) V6 (bd (aG (tC (.str "still"))))))) (ap (aS (aM sp_law_behind (dC V0 V4 V6)) U8)
 (bB (wk (iV (aF (ay (jG K) V8 (bd (a_)))) (aF (ay nS (ay (oJ K) V6 (tC (.int 0))) (tC (.str "say"))))) (iV (aF (ay (j3 K) V8 (bd (a_)))) (tB (dD K (bd (aI V7 V8)) V2)))) (aU (tC (.bl false))) (aR))) (aR))))
 (ap (bB (tB (aM sp_law_is_quiet (aI V1 V3))) (ap (aS (aM sp_law_behind (dC V0 V4 (bd (aG (tC (.str "hush")))))) U8)
 (aU (pi (ay (j3 K) V8 (bd (a_))) (sM K (bd (aI V3 V8)) V2)))) (aR))
 (aU (tC (.bl true))))
def oX:List Str:=["told","some","rows","room","face","one","sign","other","behind"]
def l9(K:Za)(sp_law_row_stands:Sp)(sp_law_on:Sp):TS :=
 ap (aS (mj) U3)
 (ap (de (bV K V2) U4 (ap (bB (wk (aF (ay (ny K true) (ay (oJ K) V4 (tC (.int 0))) (ay (iM K) V1 (tC (.int 2))))) (wk (aF (ay (jG K) (ay (oJ K) V4 (tC (.int 1))) (bd (a_)))) (aF (ay (j3 K) (ay (oJ K) V4 (tC (.int 1))) (cK (qW K) (aq (cN 1 [4] (bV K (ay (iM K) V0 (tC (.int 2)))) U0 (aF (ay (ny K false) V0 (ay (oJ K) V1 (tC (.int 1))))) V0) a_)))))) (aU (tC (.bl false))) (aR))
 (vq K V3 V4 (tC (.bl true)))))
 (ap (bB (tB (dD K (bd (aq (ay (cM K) (ay (iM K) V1 (tC (.int 2))) (tC (.int 0))) (aq (aM sp_law_on (aI V0 (ic (c6 K) (ay (iM K) V0 (tC (.int 2))) (aT) (bA (tC (.int 1)))))) a_))) V3)) (aU (tC (.bl false))) (aR))
 (ap (de (bV K V2) (gw K 2 (bc U5 (bc U6 (f6)))) (bB (pJ (tB (aM sp_law_row_stands (aq V0 (aq V1 (dC V3 V5 V6)))))) (aU (tC (.bl false))) (aR)))
 (aU (tC (.bl true))))))
def mD:List Str:=["told","some","paper","rows","row","room","face"]
def wB(K:Za)(sp_law_behind:Sp)(sp_law_is_quiet:Sp)(sp_law_on:Sp):TS :=
 ap (aS (db (aq (bd (aq (ay (cM K) (ay (iM K) V1 (tC (.int 2))) (tC (.int 0))) (aq (aM sp_law_on (aI V0 (ic (c6 K) (ay (iM K) V0 (tC (.int 2))) (aT) (bA (tC (.int 1)))))) a_))) a_)) U2)
 (ap (aS (z0 K (ay (cM K) V2 (tC (.int 0))) (tC (.bl true))) U3)
 (ap (de (rH (aG (tC (.int 64)))) U4 (bB (aF (ay Cw V4 (cK (dP K) (aG V2)))) (ap (aS (ay (cM K) V2 V4) (gw K 2 (bc U5 (bc U6 (f6)))))
 (ap (aS (cN 1 [5] (bV K (ay (iM K) V1 (tC (.int 3)))) U0 (aF (ay nS (ay (iM K) V0 (tC (.int 0))) V1)) (bd (aI (ay (iM K) V0 (tC (.int 1))) (ay (iM K) V0 (tC (.int 2)))))) U7)
 (ap (bB (tB (aM sp_law_is_quiet (aI V1 V5))) (cb (vj K "list" dE V7 (aq (bd (aI (bd (aG (tC (.str "hush")))) V5)) a_))) (aR))
 (de (bV K V7) (gw K 2 (bc U8 (bc U9 (f6)))) (ap (aS V6 EQ)
 (ap (bB (aF (ay (j3 K) V8 (bd (aG (tC (.str "still")))))) (aS (aM sp_law_behind (dC V0 V6 V8)) EQ) (aR))
 (bB (iV (aF (ay (j3 K) pE (bd (a_)))) (tB (dD K (bd (aI V9 pE)) V3))) (ap (iJ V3 (bd (aI V9 pE)) (tC (.bl true)))
 (cb (vj K "list" dE V2 (aG (bd (aI V9 pE)))))) (aR)))))))) (aR)))
 (aU V2)))
def xJ:List Str:=["told","some","rows","known","at","room","face","ways","sign","other","behind"]
def x_(K:Za)(sp_law_some:Sp)(sp_law_take:Sp)(sp_law_anew:Sp):TS :=
 ap (cb (aM sp_law_anew (aG V0)))
 (ap (aS (aM sp_law_take (aI V0 (tC (.int 11)))) U4)
 (ap (aS (aM sp_law_take (aI V0 (cK (dP K) (aG V3)))) U5)
 (ap (aS (ic (c6 K) (cN 1 [1,2] (FO (tC (.str "abcdefghijklm"))) U0 (aF (ay (ny K true) V0 (ay eS (ay (iM K) V1 (tC (.int 2))) (ay (iM K) V2 (tC (.int 2)))))) V0) (aT) (bA (tC (.int 1)))) U6)
 (ap (aS (ay eS (ay eS (ay (iM K) V2 (tC (.int 2))) V6) (ic (c6 K) (ay (iM K) V1 (tC (.int 2))) (aT) (bA (tC (.int 1))))) U7)
 (ap (aS (ay (cM K) V7 (aM sp_law_take (aI V0 (cK (dP K) (aG V7))))) U8)
 (ap (aS (aM sp_law_some (aI V0 (ay (iM K) V1 (tC (.int 2))))) U9)
 (ap (aS (ay (cM K) V3 V5) (gw K 2 (bc EQ (bc U11 (f6)))))
 (ap (bB (aF (ay nS V4 (tC (.int 1)))) (aU (ay eS (ic (c6 K) V3 (aT) (bA V5)) (ic (c6 K) V3 (bA (ay dz V5 (tC (.int 1)))) (aT)))) (aR))
 (ap (bB (aF (ay nS V4 (tC (.int 2)))) (aU (ay eS (ay eS (ic (c6 K) V3 (aT) (bA V5)) (db (aG (bd (aI V8 V9))))) (ic (c6 K) V3 (bA V5) (aT)))) (aR))
 (ap (bB (aF (ay nS V4 (tC (.int 3)))) (aU (ay eS (ay eS (ic (c6 K) V3 (bA V5) (aT)) (ic (c6 K) V3 (aT) (bA V5))) (ic (c6 K) V3 (bA V5) (bA (ay dz V5 (tC (.int 1))))))) (aR))
 (ap (bB (aF (ay nS V4 (tC (.int 4)))) (aU (ay eS (ay eS (ic (c6 K) V3 (aT) (bA V5)) (db (aG (bd (aI pE (Cb K EO)))))) (ic (c6 K) V3 (bA V5) (aT)))) (aR))
 (ap (bB (aF (ay nS V4 (tC (.int 5)))) (aU (ay eS (ay eS (ic (c6 K) V3 (aT) (bA V5)) (db (aq (bd (aq pE (aq (ay (z9 K) EO (ic (Fz K) EO (aT) (bA (tC (.int 1))))) a_))) a_))) (ic (c6 K) V3 (bA V5) (aT)))) (aR))
 (ap (bB (aF (ay nS V4 (tC (.int 6)))) (aU (ay eS (ay eS (ic (c6 K) V3 (aT) (bA V5)) (db (aG (bd (aI pE V9))))) (ic (c6 K) V3 (bA (ay dz V5 (tC (.int 1)))) (aT)))) (aR))
 (ap (bB (aF (ay nS V4 (tC (.int 7)))) (aU (ay eS (ay eS (ic (c6 K) V3 (aT) (bA V5)) (db (aG (bd (aI V8 EO))))) (ic (c6 K) V3 (bA V5) (aT)))) (aR))
 (ap (bB (aF (ay nS V4 (tC (.int 8)))) (aU (ay eS (ay eS (ic (c6 K) V3 (aT) (bA V5)) (db (aq (bd (aq pE (aq (ay (z9 K) EO (bd (aG (ay (cM K) V6 (tC (.int 0)))))) a_))) a_))) (ic (c6 K) V3 (bA V5) (aT)))) (aR))
 (ap (bB (aF (ay nS V4 (tC (.int 9)))) (aU (ay eS (ay eS (ic (c6 K) V3 (aT) (bA V5)) (db (aq (bd (aI (ay (cM K) V6 (tC (.int 0))) EO)) a_))) (ic (c6 K) V3 (bA V5) (aT)))) (aR))
 (ap (bB (aF (ay nS V4 (tC (.int 10)))) (aU (ay eS V3 (db (aq (bd (aq pE (aq (bd (aG (ay (cM K) V6 (tC (.int 0))))) a_))) a_)))) (aR))
 (aU V3))))))))))))))))))
def zp:List Str:=["pen","told","some","paper","way","at","odd","rooms","room","face","mine","own"]
def DS(K:Za)(sp_law_bent:Sp)(sp_law_same:Sp)(sp_is_keeping:Sp)(sp_law_paper_stands:Sp)(sp_law_paper:Sp)(sp_law_machine:Sp)(sp_law_near:Sp)(sp_law_model:Sp)(sp_law_open:Sp):TS :=
 ap (aS (aM sp_law_open (aG V0)) U1)
 (ap (aS (aM sp_law_model (dC V1 (tC (.int 4)) (tC (.int 0)))) U2)
 (ap (aS (aM sp_law_near (dC V1 V2 (tC (.int 2)))) U3)
 (ap (aS (aM sp_law_machine (aG V2)) U4)
 (ap (aS (aM sp_law_machine (aG V3)) U5)
 (ap (aS (aM sp_law_paper (aI V2 V3)) U6)
 (ap (de (bV K (db (aq V6 (aq (aM sp_law_bent (aq V1 (dC V2 V3 V6))) (aI (db (a_)) (aM sp_law_bent (aq V1 (dC V2 V3 V6)))))))) U7 (ap (aS (cK (cW K) (aG V7)) U8)
 (ap (aS (aM sp_law_paper_stands (dC V2 V3 V7)) U9)
 (bB (wk (pJ (tB (aM sp_law_same (aI (aM sp_is_keeping (dC V4 V5 V8)) V9)))) (aF (ay (j3 K) V8 V7))) (aU (tC (.bl false))) (aR)))))
 (aU (tC (.bl true)))))))))
def AK:List Str:=["script","pen","told","some","model","made","whole","paper","handed","due"]
def CD:List Str:=["script"]
theorem Bw{d:Addr}{o:Obj}{u:HO}{n:Nat}{ent:Nat->Hp->V->V->Prop}{g:TG}{tb:TS}{D:mK}{σ:L2.St}{H:Hp}(Pv:Nat->L2.St->Hp->Prop)(h0:Pv 0 σ H)(hl:∀i σ H,i<=n->Pv i σ H->H d=some (.frz o u))
  (hs:∀i σ H a b,i<n->Pv i σ H->ent i H a b->g a σ H fun σ2 H2=>tb { D with nx:=Pv (i+1),ct:=Pv (i+1),bk:=D.nx } σ2 H2) (hd:∀σ H,Pv n σ H->D.nx σ H) :
  ∃W:Nat->Nat->L2.St->Hp->Prop,(∃m,W 0 m σ H)/\∀i m σ H,W i m σ H ->
   ((FY d o u n ent).stop i H/\D.nx σ H)∨((FY d o u n ent).go i H/\∃N:L2.St->Hp->Prop,(∀σ' H',N σ' H'->∃m',m'<m/\W (i+1) m' σ' H')/\∀x H',(FY d o u n ent).yld i H x H'->g x σ H' fun σ2 H2=>tb { D with nx:=N,ct:=N,bk:=D.nx } σ2 H2):=by
 refine⟨fun i m σ H=>m=n-i/\i<=n/\Pv i σ H,⟨n,by simp,dL _,h0⟩,?_⟩;rintro i m σ H ⟨rfl,hi,p⟩;have q:=hl i σ H hi p;by_cases lt:i<n
 ·refine .inr ⟨⟨q,lt⟩,Pv (i+1),fun σ' H' p'=>⟨n-(i+1),by omega,rfl,lt,p'⟩,fun x H' y=>?_⟩;obtain⟨rfl,b,en⟩:=y;exact hs i σ _ x b lt p en
 ·have e:i=n:=by omega
  subst e;exact .inl ⟨⟨q,aH _⟩,hd σ H p⟩
theorem kF{n:Nat}(h:n<=200000):n<ah:=by rw[p9];omega
abbrev bM:=Str×List Str
def cU(r:bM):TK:=.t [lf r.1,ip r.2]
theorem Dc{a b:bM}(h:cU a=cU b):a=b:=by
 unfold cU at h;injection h with h;injection h with h1 h2;injection h2 with h2 _;obtain⟨a1,a2⟩:=a;obtain⟨b1,b2⟩:=b;unfold lf at h1;injection h1 with h1;injection h1 with h1;rw[show a1=b1 from h1,show a2=b2 from ln h2]
theorem dF(k:bM):(cU k).depth<=8:=by
 show max (lf k.1).depth (max (ip k.2).depth 0)+1<=8;rw[oz];show max 0 (max 1 0)+1<=8
 decide
def gV(H:Hp)(u:Addr)(r:bM):Prop:=∃ft,H u=some (.tup [.str r.1,.ref ft])/\SignAt H ft r.2
theorem gV.kt{H H':Hp}{b:Addr}{k:bM}(kt:jZ H H'):gV H b k->gV H' b k:=fun⟨u,h1,h2⟩=>⟨u,kt _ _ h1,kt _ _ h2⟩
theorem gV.tk{H:Hp}{b:Addr}{k:bM}(h:gV H b k):fq H (cU k) (.ref b):=by
 obtain⟨u,h1,h2⟩:=h;unfold cU fq;refine⟨b,_,rfl,h1,?_⟩;unfold TKAts;refine⟨_,_,rfl,qA _,?_⟩;unfold TKAts;refine⟨_,_,rfl,SignAt.tk h2,?_⟩;unfold TKAts
 rfl
theorem Fs{K:Za}{H:Hp}{k:bM}{a:V}(h:mP K H (cU k) a):∃b ft,a=.ref b/\ck K H b [.str k.1,.ref ft]/\ck K H ft (k.2.map V.str):=by
 unfold cU mP at h;obtain⟨b,xs,rfl,h1,h2⟩:=h;unfold TKCs at h2;obtain⟨v,us,rfl,h3,h4⟩:=h2;unfold TKCs at h4;obtain⟨v',us',rfl,h5,h6⟩:=h4;unfold TKCs at h6;obtain⟨ft,rfl,h7⟩:=B1 h5;unfold lf mP at h3;subst h3 h6;exact⟨b,ft,rfl,h1,h7⟩
def j6(L:List bM):List (TK×V):=L.map fun k=>(cU k,.bl true)
theorem iO(k:bM):∀L:List bM,(bO (j6 L) (cU k)).isSome=decide (k∈L)
 |[]=>rfl
 |x::L=>by
  show(bO ((cU x,V.bl true)::j6 L) (cU k)).isSome=_;by_cases c:x=k
  ·rw[cS (by show cU x=cU k;rw[c])];simp[c]
  ·rw[cG (fun z=>c (Dc z)),iO k L];simp[gF c]
def qZ(L:List bM)(r:bM):List bM:=if r∈L then L else L++[r]
def be(L:List bM):List bM:=L.foldl qZ []
theorem Ap(r:bM)(L:List bM):cX (j6 L) (cU r) (.bl true)=j6 (qZ L r):=by
 unfold qZ;by_cases c:r∈L
 ·rw[if_pos c];unfold cX;rw[if_pos]
  ·unfold j6;rw[ke];refine qj fun x _=>?_;show(if cU x=cU r then(cU x,V.bl true)else(cU x,V.bl true))=_
   split<;>rfl
  ·rw[List.any_eq_true];exact⟨(cU r,.bl true),aX.2 ⟨r,c,rfl⟩,zzr1 rfl⟩
 ·rw[if_neg c];have vn:bO (j6 L) (cU r)=none:=by
   have:=iO r L;rw[zzr0 c]at this;cases e:bO (j6 L) (cU r)with
   |none=>rfl
   |some v=>rw[e]at this;cases this
  rw[eT _ vn];unfold j6;rw[aB];rfl
theorem nq{L:List bM}{i:Nat}{r:bM}(h:L[i]?=some r):be (L.take (i+1))=qZ (be (L.take i)) r:=by
 unfold be;rw[take_snoc h,List.foldl_append];rfl
theorem CU{L:List bM}{r x:bM}:x∈qZ L r↔x∈L∨x=r:=by
 unfold qZ;split
 ·rename_i h;exact⟨.inl,fun z=>z.elim id fun e=>by rw[e];exact h⟩
 ·simp
theorem fk{L:List bM}{x:bM}:x∈be L↔x∈L:=by
 have:∀(L A:List bM),x∈L.foldl qZ A↔x∈A∨x∈L:=by
  intro L
  induction L with
  |nil=>intro A;simp
  |cons y L ih =>
   intro A;rw[List.foldl_cons,ih,CU,cv,or_assoc]
 unfold be;rw[this];simp
theorem kH(L:List bM):(be L).length<=L.length:=by
 have:∀(L A:List bM),(L.foldl qZ A).length<=A.length+L.length:=by
  intro L
  induction L with
  |nil=>intro A;exact aH _
  |cons y L ih =>
   intro A;rw[List.foldl_cons,em];have h1:=ih (qZ A y);have h2:(qZ A y).length<=A.length+1:=by
    unfold qZ;split
    ·omega
    ·rw[aO];exact aH _
   omega
 have:=this L [];simpa[be]using this
inductive kD(K:Za)(vs:List V)(H:Hp)(Q:VK)(E:XK):Prop
 |mk (l:Addr) (us:Ze) (L:List bM):(vs=[.ref l])->(H l=some (.lst (us.map V.ref)))->(Paired (gV H) us L)->(L.length<=100000)->(∀d,H d=none->Q (.ref d) (upd H d (.dT (j6 (be L)))))->kD K vs H Q E
theorem wY{K:Za}{vs:List V}{H:Hp}{Q:VK}{E:XK}(h:kD K vs H Q E):yb K (bJ Q) (start zv vs) H:=by
 obtain⟨l,us,L,rfl,hl,hu,hz,k⟩:=h;refine fun d hd=>?_;have key:∀o,upd H d o l=some (.lst (us.map V.ref)):=fun o=>kp hl hd;refine⟨_,rfl,l,rfl,⟨_,aA.of (key _)⟩,?_⟩;refine bW (xs:=us.map V.ref) (fun i σ H'=>∃x,σ=[some (.ref l),some (.ref d),x]/\H'=upd H d (.dT (j6 (be (L.take i))))) ⟨_,rfl,rfl⟩ (fun i σ H' _ ⟨_,_,e⟩=>by rw[e];exact aA.of (key _)) ?_ ?_
 ·rintro i x σ H' hi ⟨y,rfl,rfl⟩;obtain⟨u,hu',rfl⟩:=cg hi;obtain⟨r,hr,hat⟩:=Paired.getL hu hu';have hlen:(j6 (be (L.take i))).length<ah:=by
   unfold j6;rw[ai];exact kF (bh (kH _) (by rw[aD];omega))
  refine⟨_,rfl,_,rfl,d,_,rfl,.inr ⟨_,cU r,u,aa,rfl,(hat.kt (ab.kt (ab.new hd))).tk,dF _,hlen,rfl⟩,_,rfl,?_⟩;rw[jy,nq hr,Ap]
 ·rintro σ H' ⟨x,rfl,rfl⟩;rw[ai,Paired.length hu,bf];exact⟨_,rfl,k d hd⟩
inductive kE(K:Za)(vs:List V)(H:Hp)(Q:VK)(E:XK):Prop
 |mk (l:Addr) (ws:Zb):(vs=[.ref l])->(ck K H l (ws.map V.str))->(ws.length<=1000)->(∀d,H d=none->Q (.ref d) (upd H d (.dK (aK ws))))->kE K vs H Q E
theorem wZ{K:Za}{vs:List V}{H:Hp}{Q:VK}{E:XK}(h:kE K vs H Q E):yd K (bJ Q) (start zA vs) H:=by
 obtain⟨l,ws,rfl,hl,hz,k⟩:=h;refine fun d hd=>?_;have key:∀kvs,aY K (upd H d (.dK kvs)) l (ws.map V.str):=fun kvs=>ck.sq (ck.kt (ab.kt (ab.new hd)) hl);refine⟨_,rfl,l,rfl,⟨_,key _⟩,?_⟩;refine vN (xs:=ws.map V.str) (fun i σ H'=>∃x,σ=[some (.ref l),some (.ref d),x]/\H'=upd H d (.dK (aK (ws.take i)))) ⟨_,rfl,rfl⟩ (fun i σ H' _ ⟨_,_,e⟩=>by rw[e];exact key _) ?_ ?_
 ·rintro i x σ H' hi ⟨y,rfl,rfl⟩;obtain⟨w,hw,rfl⟩:=bp hi;have hlen:(aK (ws.take i)).length<ah:=aw (bh (io _) (by rw[aD];omega));refine⟨_,rfl,_,rfl,d,_,rfl,.inl ⟨_,.inr w,aa,rfl,hlen,rfl⟩,_,rfl,?_⟩;rw[jy,take_snoc hw,cT]
 ·rintro σ H' ⟨x,rfl,rfl⟩;rw[ai,bf];exact⟨_,rfl,k d hd⟩
def qR(K:Za):Sp:=fun vs H Q E=>sp_as_keys K vs H Q E∨kD K vs H Q E∨kE K vs H Q E
def lP(J2 f:Zb):Bool:=decide (f≠[]/\f=J2.filter fun r=>decide (r∈f))
inductive p0(K:Za)(C:Addr)(vs:List V)(H:Hp)(Q:VK)(E:XK):Prop
 |mk (x ft:Addr) (f J0 J1 J2:Zb) (ds:List am):(vs=[.ref x,.ref ft])->(bL C H x J0 J1 J2 ds)->(ck K H ft (f.map V.str))->(f.length<=1000)->(∀H',ab H H'->Q (.bl (lP J2 f)) H')->p0 K C vs H Q E
theorem Eg{K:Za}{C:Addr}{vs:List V}{H:Hp}{Q:VK}{E:XK}(h:p0 K C vs H Q E):qG K C (gp C) (qR K) (bJ Q) (start r_ vs) H:=by
 obtain⟨x,ft,f,J0,J1,J2,ds,rfl,M,hf,hz,k⟩:=h;refine⟨_,rfl,.inr (.inr ⟨ft,f,rfl,hf,hz,fun d hd=>?_⟩)⟩;have S1:ab H (upd H d (.dK (aK f))):=ab.new hd;have d1:upd H d (.dK (aK f)) d=some (.dK (aK f)):=aa;generalize upd H d (.dK (aK f))=H1 at S1 d1 ⊢;have f1:=ck.kt (ab.kt S1) hf;refine⟨_,rfl,.inl ⟨ft,_,rfl,.inr (ck.sq f1),_,_,rfl,rfl,_,rfl,?_⟩⟩;by_cases c0:f=[]
 ·refine ji (P:=False) (by rw[c0];simp) (fun z=>z.elim) fun _=>?_;have:=k H1 S1;unfold lP at this;rw[zzr0 (fun z=>z.1 c0)]at this;exact this
 refine ji (P:=True) (by have:=List.length_pos_iff.2 c0;simpa using this) (fun _=>?_) fun z=>(z trivial).elim;have M1:=M.same S1;obtain⟨dx,fs,o1,o2,o3,o4,lv,qu,sgA,sl,ts,lps,gps,sps,g1,a1,a2,a3,a4,_⟩:=id M1.at_;have z3:=M.ok.rooms26;refine⟨_,rfl,_,rfl,x,dx,fs,rfl,g1,a4,x,J0,J1,J2,ds,rfl,M1,fun rl hrl=>⟨rl,rfl,⟨_,aA.of aa⟩,fun l hl=>?_⟩⟩;have S2:ab H1 (upd H1 rl (.lst (J2.map V.str))):=ab.new hrl;have r2:upd H1 rl (.lst (J2.map V.str)) rl=some (.lst (J2.map V.str)):=aa;generalize upd H1 rl (.lst (J2.map V.str))=H2 at S2 r2 hl ⊢;have d2:=S2 _ _ d1;refine bU (xs:=J2.map V.str) (fun i vs H'=>vs=((J2.take i).filter fun r=>decide (r∈f)).map V.str/\ab H2 H'/\H' l=some (.lst vs)) ⟨rfl,ab.new hl,aa⟩ (fun i vs H' _ ⟨_,S,h'⟩=>⟨h',aA.of (S _ _ r2)⟩) ?_ ?_
 ·rintro vs H' ⟨rfl,S,h'⟩;rw[ai,bf]at h';refine⟨l,_,rfl,.inl ⟨aA.of h',fun t' ht'=>?_⟩⟩;have S3:ab H1 (upd H' t' (.tup ((J2.filter fun r=>decide (r∈f)).map V.str))):=(S2.trans S).trans (ab.new ht');refine⟨gB f,gB (J2.filter fun r=>decide (r∈f)),aL (ck.sq (ck.kt (ab.kt S3) f1)),aL (aY.of aa),by rw[aZ];decide,by rw[aZ];decide,?_⟩;rw[cV];have:=k _ (S1.trans S3);unfold lP at this;rw[decide_eq_decide.2 (show(f≠[]/\f=J2.filter fun r=>decide (r∈f))↔f=J2.filter fun r=>decide (r∈f)from⟨fun z=>z.2,fun z=>⟨c0,z⟩⟩)]at this;exact this
 ·rintro i vs H' y hy hi ⟨rfl,S,h'⟩;obtain⟨r,hr,rfl⟩:=bp hy;refine gN ?_;refine⟨_,rfl,_,rfl,d,_,rfl,.inl ⟨_,.inr r,.inl (S _ _ d2),rfl,rfl⟩,_,rfl,?_⟩;rw[dh];refine ji (P:=r∈f) (by simp) (fun c=>?_) fun c=>?_
  ·refine⟨_,rfl,h',?_,j4 hi ⟨?_,fun b o q=>by rw[aj (ag q hl)];exact S _ _ q,aa⟩⟩
   ·rw[ai];exact aw (bh (cF _ _) (by rw[aD];omega))
   ·rw[bD hr,if_pos (by simpa using c),aB];rfl
  ·refine j4 hi ⟨?_,S,h'⟩;rw[bD hr,if_neg (by simpa using c),dv]
def iw(J2:Zb)(ds ds':List am)(L:List bM)(r:Str)(f:Zb):Prop :=
 (∀d∈ds',d.a=r->(d.sg=ar->(d.b,f)∈L)/\(d.sg≠ar->(behF J2 ds f d.sg=[]->d.sg.head?≠some ("say":Str))/\(behF J2 ds f d.sg≠[]->(d.b,behF J2 ds f d.sg)∈L))) /\
 (r∉eC ds'->behF J2 ds f bH≠[]/\(r,behF J2 ds f bH)∈L)
def nQ(J2 rooms':Zb)(ds ds':List am)(L:List bM)(x:bM):Prop:=x.1∈rooms'/\lP J2 x.2=true/\iw J2 ds ds' L x.1 x.2
def AI(J2 rooms':Zb)(ds ds':List am)(L:List bM):Prop:=(∀x∈L,nQ J2 rooms' ds ds' L x)/\∃r0,rooms'[0]?=some r0/\(r0,closF J2 ds (J2.take 1))∈L
theorem Db{J2 f:Zb}(h:lP J2 f=true):∀r∈f,r∈J2:=fun r hr=>by
 have:=(of_decide_eq_true h).2;rw[this]at hr;exact(dO.1 hr).1
theorem oS{K:Za}{H:Hp}{d p ft:Addr}{L:List bM}{r:Str}{f:Zb}(hd:Rd H d (.dT (j6 L)))(hp:aY K H p [.str r,.ref ft])(hf:ck K H ft (f.map V.str)):kW K H d (.ref p) (bO (j6 L) (cU (r,f))):=by
 refine .inr ⟨_,cU (r,f),p,hd,rfl,?_,dF _,rfl⟩;unfold cU kQ;refine⟨p,_,rfl,hp,?_⟩;unfold TKIns;refine⟨_,_,rfl,?_,?_⟩
 ·unfold lf kQ;rfl
 unfold TKIns;refine⟨_,_,rfl,pV hf,?_⟩;unfold TKIns
 rfl
theorem kR.find{H:Hp}{sg:Sg}:∀{kvs:List (TK×V)}{L:List (Sg×List Str)},kR H kvs L->((∀p∈L,p.1≠sg)/\bO kvs (ip sg)=none)∨∃p∈L,p.1=sg/\∃u,bO kvs (ip sg)=some (.ref u)/\H u=some (.tup (p.2.map V.str))
 |_,_,.nil=>.inl ⟨fun _ h=>(nomatch h),rfl⟩
 |kv::_,p::_,.cons ⟨e,u,e2,hu⟩ t=>by
  by_cases c:p.1=sg
  ·refine .inr ⟨p,fx,c,u,?_,hu⟩;rw[cS (by rw[e,c]),e2]
  ·rw[cG (fun z=>c (ln (by rw[<-e,z])))];rcases kR.find t with⟨h1,h2⟩|⟨q,hq,h⟩
   ·exact .inl ⟨fun x hx=>(cv.1 hx).elim (fun z=>by rw[z];exact c) (h1 x),h2⟩
   ·exact .inr ⟨q,fw _ hq,h⟩
theorem kR.look{H:Hp}{kvs:List (TK×V)}{J0 J1 J2 f:Zb}{ds:List am}(h:kR H kvs (stepsF J0 J1 J2 ds f)){sg:Sg}(hs:sg∈dR J0 J1):
  (behF J2 ds f sg=[]/\bO kvs (ip sg)=none)∨(behF J2 ds f sg≠[]/\∃u,bO kvs (ip sg)=some (.ref u)/\H u=some (.tup ((behF J2 ds f sg).map V.str))):=by
 rcases kR.find (sg:=sg) h with⟨h1,h2⟩|⟨p,hp,e,u,h1,h2⟩
 ·refine .inl ⟨?_,h2⟩;refine ka.1 fun z=>h1 (sg,behF J2 ds f sg) ?_ rfl;exact dO.2 ⟨aX.2 ⟨sg,hs,rfl⟩,zzr1 z⟩
 ·obtain⟨h3,h4⟩:=dO.1 hp;obtain⟨s,_,rfl⟩:=aX.1 h3;cases e;exact .inr ⟨of_decide_eq_true h4,u,h1,h2⟩
def rowS(J2:Zb)(ds:List am)(f:Zb)(d:am):List (Str×Option (List Str)) :=
 if d.sg=ar then[(d.b,some f)]else if behF J2 ds f d.sg≠[]then[(d.b,some (behF J2 ds f d.sg))]else if d.sg.head?=some ("say":Str)then[(d.b,none)]else[]
def rowsS(J2 rooms':Zb)(ds ds':List am)(r:Str)(f:Zb):List (Str×Option (List Str)) :=
 (bm ds' r).flatMap (rowS J2 ds f)++if r∈rooms'.filter (df ds')then[(r,if behF J2 ds f bH=[]then none else some (behF J2 ds f bH))]else[]
def RwIs(K:Za)(H:Hp)(x:Str×V)(s:Str×Option (List Str)):Prop:=x.1=s.1/\((s.2=none/\x.2=.non)∨∃g u,s.2=some g/\x.2=.ref u/\ck K H u (g.map V.str))
def yo(L:List bM)(s:Str×Option (List Str)):Bool:=match s.2 with
 |none=>false
 |some g=>decide ((s.1,g)∈L)
theorem tS{α β γ:Type}{R:β->γ->Prop}{F:α->List β}{G:α->List γ}:∀{l:List α},(∀a∈l,Paired R (F a) (G a))->Paired R (l.flatMap F) (l.flatMap G)
 |[],_=>.nil
 |a::l,h=>by
  rw[nT,nT];exact Paired.app (h a fx) (tS fun b hb=>h b (fw _ hb))
theorem D_{K:Za}{H:Hp}{kvs:List (TK×V)}{J0 J1 J2 rooms' f:Zb}{ds ds':List am}{ft:Addr}{r:Str}{lo:Sg->Option V}(hlo:∀sg,lo sg=bO kvs (ip sg))(m':aN J0 J1 rooms' ds')(h:kR H kvs (stepsF J0 J1 J2 ds f))(hf:ck K H ft (f.map V.str)):
  Paired (RwIs K H) (wR rooms' ds' r (.ref ft) lo) (rowsS J2 rooms' ds ds' r f):=by
 unfold wR rowsS;refine Paired.app (tS fun d hd=>?_) ?_
 ·have hd':=(dO.1 hd).1;unfold cC rowS;by_cases c:d.sg=ar
  ·rw[if_pos c,if_pos c];exact .cons ⟨rfl,.inr ⟨f,ft,rfl,rfl,hf⟩⟩ .nil
  rw[if_neg c,if_neg c];have hs:d.sg∈dR J0 J1:=by
   unfold dR;rcases(m'.good d hd').sg with⟨w,hw,e⟩|⟨w,hw,e⟩|e
   ·exact dq _ (dq _ (aX.2 ⟨w,hw,e.symm⟩))
   ·exact dq _ (d_ _ (aX.2 ⟨w,hw,e.symm⟩))
   ·exact absurd e c
  rcases h.look hs with⟨e1,e2⟩|⟨e1,u,e2,e3⟩
  ·rw[if_neg (fun z:_≠_=>z e1)];by_cases c2:d.sg.head?=some ("say":Str)
   ·rw[if_pos (.inr c2),if_pos c2,hlo,e2];exact .cons ⟨rfl,.inl ⟨rfl,rfl⟩⟩ .nil
   ·rw[if_neg c2,if_neg]
    ·exact .nil
    ·rintro(z|z)
     ·rw[hlo,e2]at z;cases z
     ·exact c2 z
  ·rw[if_pos e1,if_pos (.inl (by rw[hlo,e2];rfl)),hlo,e2];exact .cons ⟨rfl,.inr ⟨_,u,rfl,rfl,.inl e3⟩⟩ .nil
 ·by_cases c:r∈rooms'.filter (df ds')
  ·rw[if_pos c,if_pos c];have hs:bH∈dR J0 J1:=d_ _ (cz.2 rfl);rcases h.look hs with⟨e1,e2⟩|⟨e1,u,e2,e3⟩
   ·rw[if_pos e1,hlo,e2];exact .cons ⟨rfl,.inl ⟨rfl,rfl⟩⟩ .nil
   ·rw[if_neg e1,hlo,e2];exact .cons ⟨rfl,.inr ⟨_,u,rfl,rfl,.inl e3⟩⟩ .nil
  ·rw[if_neg c,if_neg c];exact .nil
theorem yr{J2 rooms' f:Zb}{ds ds':List am}{L:List bM}{r:Str}(hr:r∈rooms'):((rowsS J2 rooms' ds ds' r f).map (yo L)).all id=true↔iw J2 ds ds' L r f:=by
 rw[uy,uK];have split:(∀x∈rowsS J2 rooms' ds ds' r f,(id ∘ yo L) x=true)↔(∀d∈ds',d.a=r->∀x∈rowS J2 ds f d,yo L x=true)/\(r∉eC ds'->yo L (r,if behF J2 ds f bH=[]then none else some (behF J2 ds f bH))=true):=by
  have q:r∈rooms'.filter (df ds')↔r∉eC ds':=by
   rw[dO,qY,decide_eq_true_iff];exact⟨fun z=>z.2,fun z=>⟨hr,z⟩⟩
  unfold rowsS;constructor
  ·intro h;refine⟨fun d hd e x hx=>h x (dq _ (List.mem_flatMap.2 ⟨d,dO.2 ⟨hd,zzr1 e⟩,hx⟩)),fun z=>?_⟩;rw[if_pos (q.2 z)]at h;exact h _ (d_ _ (cz.2 rfl))
  ·rintro⟨h1,h2⟩ x hx;rcases bN.1 hx with z|z
   ·obtain⟨d,hd,hx⟩:=List.mem_flatMap.1 z;obtain⟨hd,e⟩:=dO.1 hd;exact h1 d hd (of_decide_eq_true e) x hx
   ·by_cases c:r∈rooms'.filter (df ds')
    ·rw[if_pos c]at z;rw[cz.1 z];exact h2 (q.1 c)
    ·rw[if_neg c]at z;cases z
 rw[split];unfold iw;refine and_congr ?_ ?_
 ·refine forall_congr' fun d=>forall_congr' fun _=>forall_congr' fun _=>?_;unfold rowS;by_cases c:d.sg=ar
  ·rw[if_pos c];refine⟨fun h=>⟨fun _=>of_decide_eq_true (h _ (cz.2 rfl)),fun z=>absurd c z⟩,fun h x hx=>?_⟩;rw[cz.1 hx];exact zzr1 (h.1 c)
  ·rw[if_neg c];by_cases e:behF J2 ds f d.sg=[]
   ·rw[if_neg (fun z:_≠_=>z e)];by_cases c2:d.sg.head?=some ("say":Str)
    ·rw[if_pos c2];refine⟨fun h=>?_,fun h=>absurd c2 ((h.2 c).1 e)⟩;have:=h _ (cz.2 rfl);cases this
    ·rw[if_neg c2];exact⟨fun _=>⟨fun z=>absurd z c,fun _=>⟨fun _=>c2,fun z=>absurd e z⟩⟩,fun _ x hx=>by cases hx⟩
   ·rw[if_pos e];refine⟨fun h=>⟨fun z=>absurd z c,fun _=>⟨fun z=>absurd z e,fun _=>of_decide_eq_true (h _ (cz.2 rfl))⟩⟩,fun h x hx=>?_⟩;rw[cz.1 hx];exact zzr1 ((h.2 c).2 e)
 ·refine forall_congr' fun _=>?_;by_cases e:behF J2 ds f bH=[]
  ·rw[if_pos e];exact⟨fun h=>(by cases h),fun h=>absurd e h.1⟩
  ·rw[if_neg e];exact⟨fun h=>⟨e,of_decide_eq_true h⟩,fun h=>zzr1 h.2⟩
theorem iw.congr{J2 f:Zb}{ds ds':List am}{L L':List bM}{r:Str}(e:∀x,x∈L↔x∈L'):iw J2 ds ds' L r f↔iw J2 ds ds' L' r f:=by
 unfold iw;simp only[e]
theorem A1(J2 rooms':Zb)(ds ds':List am)(r:Str)(f:Zb):(rowsS J2 rooms' ds ds' r f).length<=ds'.length+1:=by
 have h1:∀l:List am,(l.flatMap (rowS J2 ds f)).length<=l.length:=by
  intro l
  induction l with
  |nil=>exact aH _
  |cons d l ih =>
   rw[nT,aO,em];have:(rowS J2 ds f d).length<=1:=by
    unfold rowS;split
    ·exact aH _
    ·split
     ·exact aH _
     ·split
      ·exact aH _
      ·exact dL _
   omega
 unfold rowsS;rw[aO];have:=h1 (bm ds' r);have:(bm ds' r).length<=ds'.length:=cF _ _;split
 ·show _+1<=_;omega
 ·show _+0<=_;omega
structure nO(H:Hp)(sd:Addr)(kvS:List (TK×V))(J0 J1 J2:Zb)(ds:List am):Prop where
 at_:H sd=some (.dT kvS)
 ok:∀f:List Str,bO kvS (ip f)=none∨∃d kvs,bO kvS (ip f)=some (.ref d)/\d≠sd/\H d=some (.dT kvs)/\kR H kvs (stepsF J0 J1 J2 ds f)/\lP J2 f=true
theorem nO.same{H H':Hp}{sd:Addr}{kvS:List (TK×V)}{J0 J1 J2:Zb}{ds:List am}(S:ab H H')(h:nO H sd kvS J0 J1 J2 ds):nO H' sd kvS J0 J1 J2 ds :=
 ⟨S _ _ h.at_,fun f=>(h.ok f).imp id fun⟨d,kvs,h1,h2,h3,h4,h5⟩=>⟨d,kvs,h1,h2,S _ _ h3,h4.kt (ab.kt S),h5⟩⟩
theorem nO.put{H:Hp}{sd d:Addr}{kvS kvs:List (TK×V)}{J0 J1 J2 f:Zb}{ds:List am}(h:nO H sd kvS J0 J1 J2 ds)(nd:d≠sd)(hd:H d=some (.dT kvs))(st:kR H kvs (stepsF J0 J1 J2 ds f))(fu:lP J2 f=true)(no:bO kvS (ip f)=none):
  nO (upd H sd (.dT (kvS++[(ip f,.ref d)]))) sd (kvS++[(ip f,.ref d)]) J0 J1 J2 ds:=by
 have kt:jZ H (upd H sd (.dT (kvS++[(ip f,.ref d)]))):=GY h.at_;refine⟨aa,fun g=>?_⟩;by_cases c:g=f
 ·subst c;refine .inr ⟨d,kvs,?_,nd,by rw[aj nd];exact hd,st.kt kt,fu⟩;rw[<-eT (.ref d) no,kr,if_pos rfl]
 ·have e:bO (kvS++[(ip f,V.ref d)]) (ip g)=bO kvS (ip g):=by
   rw[<-eT (.ref d) no];rw[kr,if_neg fun z=>c (ln z)]
  rw[e];exact(h.ok g).imp id fun⟨d',kvs',h1,h2,h3,h4,h5⟩=>⟨d',kvs',h1,h2,by rw[aj h2];exact h3,h4.kt kt,h5⟩
inductive jF(K:Za)(C:Addr)(vs:List V)(H:Hp)(Q:VK)(E:XK):Prop
 |mk (x y l:Addr) (us:Ze) (L:List bM) (J0 J1 J2 rooms':Zb) (ds ds':List am):(vs=[.ref x,.ref y,.ref l])->(bL C H x J0 J1 J2 ds)->(bL C H y J0 J1 rooms' ds')->(∀r∈rooms',∀a∈J0,gJ ds' r a)->(H l=some (.lst (us.map V.ref)))->(Paired (gV H) us L)->(L.length<=90000)->(∀r∈L,r.2.length<=1000)->(∀(b:Bool) (H':Hp),(b=true↔AI J2 rooms' ds ds' L)->ab H H'->Q (.bl b) H')->jF K C vs H Q E
theorem yz{K:Za}{C:Addr}{vs:List V}{H:Hp}{Q:VK}{E:XK}(h:jF K C vs H Q E):va K (dU C) C (gp C) (kB K C) (iH K C) (p0 K C) (qR K) (fC C) (bJ Q) (start wb vs) H:=by
 obtain⟨x,y,l,us,L,J0,J1,J2,rooms',ds,ds',rfl,M,N,tk,hl,hu,zL,zf,k⟩:=h;have z4:=N.ok.few;refine⟨_,rfl,_,rfl,x,y,J0,J1,J2,rooms',ds,ds',rfl,M,N,tk,fun H1 S1=>?_⟩;refine⟨_,rfl,.inr (.inl ⟨l,us,L,rfl,S1 _ _ hl,Paired.mapP hu fun _ _ r=>r.kt (ab.kt S1),by omega,fun rd hrd=>?_⟩)⟩;have S2:ab H1 (upd H1 rd (.dT (j6 (be L)))):=ab.new hrd;have rd2:upd H1 rd (.dT (j6 (be L))) rd=some (.dT (j6 (be L))):=aa;generalize upd H1 rd (.dT (j6 (be L)))=H2 at S2 rd2 ⊢;have N2:=N.same (S1.trans S2);obtain⟨dy,gs,p1,p2,p3,p4,lv,qu,sgA,sl,ts,lps,gps,sps,g2,b1,b2,b3,b4,_⟩:=id N2.at_;refine⟨_,rfl,y,dy,gs,rfl,g2,b4,y,J0,J1,rooms',ds',rfl,N2,fun rl hrl=>?_⟩;have S3:ab H2 (upd H2 rl (.lst (rooms'.map V.str))):=ab.new hrl;have rl3:upd H2 rl (.lst (rooms'.map V.str)) rl=some (.lst (rooms'.map V.str)):=aa;generalize upd H2 rl (.lst (rooms'.map V.str))=H3 at S3 rl3 ⊢;refine .inl ⟨rl,rooms',rfl,aA.of rl3,bh N.ok.rooms26 (by decide),fun md hmd=>?_⟩;have S4:ab H3 (upd H3 md (.dK (aK rooms'))):=ab.new hmd;have md4:upd H3 md (.dK (aK rooms')) md=some (.dK (aK rooms')):=aa;generalize upd H3 md (.dK (aK rooms'))=H4 at S4 md4 ⊢;refine fun sd hsd=>?_;have S5:ab H4 (upd H4 sd (.dT [])):=ab.new hsd;have sd5:upd H4 sd (.dT []) sd=some (.dT []):=aa;generalize upd H4 sd (.dT [])=H5 at S5 sd5 ⊢;have S15:ab H1 H5:=((S2.trans S3).trans S4).trans S5;have rd5:H5 rd=some (.dT (j6 (be L))):=S5 _ _ (S4 _ _ (S3 _ _ rd2));refine⟨_,rfl,rd,j6 (be L),rfl,.inl ⟨rd5,fun o=>?_⟩⟩;have S6:ab H (upd H5 rd (.frz o (.dT (j6 (be L))))):=fun b q e=>by rw[aj (ag (S1 _ _ e) hrd)];exact S15 _ _ (S1 _ _ e)
 have rd6:upd H5 rd (.frz o (.dT (j6 (be L)))) rd=some (.frz o (.dT (j6 (be L)))):=aa;have sd6:upd H5 rd (.frz o (.dT (j6 (be L)))) sd=some (.dT []):=by rw[aj (ag (S4 _ _ (S3 _ _ rd2)) hsd).symm];exact sd5
 have md6:upd H5 rd (.frz o (.dT (j6 (be L)))) md=some (.dK (aK rooms')):=by rw[aj (ag (S3 _ _ rd2) hmd).symm];exact S5 _ _ md4
 have sn:H sd=none:=(((S1.trans S2).trans S3).trans S4).free hsd;generalize upd H5 rd (.frz o (.dT (j6 (be L))))=H6 at S6 rd6 sd6 md6 ⊢;have el:(j6 (be L)).length=(be L).length:=by unfold j6;rw[ai]
 have zk:=kH L;have bad:∀{r:bM}{H':Hp},r∈L->¬nQ J2 rooms' ds ds' L r->ab H H'->Q (.bl false) H':=fun hr hg S=>k false _ ⟨fun z=>(by cases z),fun z=>absurd (z.1 _ hr) hg⟩ S;refine Bw (fun i σ H'=>∃(kvS:List (TK×V)) (x6 x7:Option V),σ=[some (.ref x),some (.ref y),some (.ref l),some (.ref rd),some (.ref md),some (.ref sd),x6,x7]/\H' rd=some (.frz o (.dT (j6 (be L))))/\H' md=some (.dK (aK rooms'))/\nO H' sd kvS J0 J1 J2 ds/\kvS.length<=i/\ab H H'/\∀r∈(be L).take i,nQ J2 rooms' ds ds' L r)
  ⟨[],_,_,rfl,rd6,md6,⟨sd6,fun _=>.inl rfl⟩,aH _,S6,fun r hr=>by simp at hr⟩ (fun i σ H' _ ⟨_,_,_,_,q,_⟩=>q) ?_ ?_
 ·rintro i σ H7 a b hi ⟨kvS,x6,x7,rfl,rd7,md7,st7,zS,S7,good⟩ ⟨key,ek,tkc⟩;unfold j6 at ek;rw[cO]at ek;obtain⟨r,hr,er⟩:=Option.map_eq_some_iff.1 ek;cases er;obtain⟨rb,ft,rfl,hrb,hft⟩:=Fs tkc;have hrL:r∈L:=fk.1 (bY hr);have zft:=zf r hrL;have il:i<(be L).length:=by rw[<-el];exact hi
  refine⟨rb,_,rfl,ck.sq hrb,rfl,_,_,rfl,_,_,rfl,rfl,?_⟩;have rest:∀(kv:List (TK×V)) (d:Addr) (kvs:List (TK×V)) (H8:Hp),H8 rd=some (.frz o (.dT (j6 (be L))))->H8 md=some (.dK (aK rooms'))->nO H8 sd kv J0 J1 J2 ds->kv.length<=i+1->ab H H8->ck K H8 ft (r.2.map V.str)->bO kv (ip r.2)=some (.ref d)->H8 d=some (.dT kvs)->kR H8 kvs (stepsF J0 J1 J2 ds r.2)->lP J2 r.2=true ->
    (bB (wk (tB (dD K V6 V4)) (pJ (tB (cK (Em K) (aq (cN 1 [3] (bV K (aM (kB K C) (aq V1 (dC V6 V7 (m9 K V5 V7))))) U0 (kA) (Ce K V0 V1)) a_))))) (aU (tC (.bl false))) (aR)) { nx:=fun σ H'=>∃(kvS:List (TK×V)) (x6 x7:Option V),σ=[some (.ref x),some (.ref y),some (.ref l),some (.ref rd),some (.ref md),some (.ref sd),x6,x7]/\H' rd=some (.frz o (.dT (j6 (be L))))/\H' md=some (.dK (aK rooms'))/\nO H' sd kvS J0 J1 J2 ds/\kvS.length<=i+1/\ab H H'/\∀r∈(be L).take (i+1),nQ J2 rooms' ds ds' L r,rt:=Q } [some (.ref x),some (.ref y),some (.ref l),some (.ref rd),some (.ref md),some (.ref sd),some (.str r.1),some (.ref ft)] H8:=by
   intro kv d kvs H8 rd8 md8 st8 z8 S8 ft8 v8 d8 is8 fu;refine⟨_,rfl,_,rfl,md,_,rfl,.inl ⟨_,.inr r.1,.inl md8,rfl,rfl⟩,_,rfl,?_⟩;rw[dh];refine ji (P:=r.1∉rooms') (by simp) (fun c=>b0 (bad hrL (fun z=>c z.1) S8)) (fun c=>?_);have c:=ka.1 c;have gd:kW K H8 sd (.ref ft) (some (.ref d)):=by rw[<-v8];exact .inr ⟨_,ip r.2,ft,.inl st8.at_,rfl,pV ft8,jm _,rfl⟩
   refine⟨_,rfl,_,rfl,_,rfl,_,rfl,_,rfl,sd,_,rfl,gd,y,d,r.1,.ref ft,fun sg=>bO kvs (ip sg),J0,J1,rooms',ds',rfl,N.same S8,c,fun H' s sg S hs=>⟨.inr ⟨_,.inl (S _ _ d8)⟩,.inr ⟨_,ip sg,s,.inl (S _ _ d8),rfl,pV hs,jm _,rfl⟩⟩,fun nl nu H9 hnl hR _ S9=>⟨nl,rfl,⟨_,aA.of hnl⟩,fun cl hcl=>?_⟩⟩;have rows:=D_ (r:=r.1) (lo:=fun sg=>bO kvs (ip sg)) (fun _=>rfl) N.ok (is8.kt (ab.kt S9)) (ck.kt (ab.kt S9) ft8);have rd9:=S9 _ _ rd8;have zr:=A1 J2 rooms' ds ds' r.1 r.2;refine bU (xs:=nu.map V.ref) (fun j vs H'=>vs=(((rowsS J2 rooms' ds ds' r.1 r.2).take j).map (yo L)).map V.bl/\ab H9 H'/\H' cl=some (.lst vs)) ⟨by simp,ab.new hcl,aa⟩ (fun j vs H' _ ⟨_,S,h'⟩=>⟨h',aA.of (S _ _ hnl)⟩) ?_ ?_
   ·rintro vs H' ⟨rfl,S,h'⟩;rw[ai,Paired.length hR,Paired.length rows,bf]at h';refine⟨cl,_,rfl,aA.of h',_,rfl,?_⟩;have S10:=(S8.trans S9).trans S;have key:=yr (J2:=J2) (f:=r.2) (ds:=ds) (ds':=ds') (L:=L) c;by_cases w:((rowsS J2 rooms' ds ds' r.1 r.2).map (yo L)).all id=true
    ·rw[w];refine bv ⟨kv,_,_,rfl,(S9.trans S) _ _ rd8,(S9.trans S) _ _ md8,st8.same (S9.trans S),z8,S10,fun q hq=>?_⟩;rw[take_snoc hr]at hq;rcases bN.1 hq with z|z
     ·exact good q z
     ·rw[cz.1 z];exact⟨c,fu,key.1 w⟩
    ·rw[Bool.not_eq_true]at w;rw[w];exact b0 (bad hrL (fun z=>by have:=key.2 z.2.2;rw[w]at this;cases this) S10)
   ·rintro j vs H' v hv hj ⟨rfl,S,h'⟩;obtain⟨u,hu',rfl⟩:=cg hv;obtain⟨row,hrow,hut⟩:=Paired.getL hR hu';obtain⟨s,hs,is⟩:=Paired.getL rows hrow;have jl:j<(rowsS J2 rooms' ds ds' r.1 r.2).length:=(cE.mp hs).1;have zl:(((((rowsS J2 rooms' ds ds' r.1 r.2).take j).map (yo L)).map V.bl).length)<ah:=by
     rw[ai,ai,aD,p9];omega
    have nx:∀b:Bool,b=yo L s->H' cl=some (.lst ((((rowsS J2 rooms' ds ds' r.1 r.2).take j).map (yo L)).map V.bl))/\((((rowsS J2 rooms' ds ds' r.1 r.2).take j).map (yo L)).map V.bl).length<ah/\∃m',m'<(nu.map V.ref).length-j/\Wc (nu.map V.ref).length (fun j vs H'=>vs=(((rowsS J2 rooms' ds ds' r.1 r.2).take j).map (yo L)).map V.bl/\ab H9 H'/\H' cl=some (.lst vs)) (j+1) m' ((((rowsS J2 rooms' ds ds' r.1 r.2).take j).map (yo L)).map V.bl++[.bl b]) (upd H' cl (.lst ((((rowsS J2 rooms' ds ds' r.1 r.2).take j).map (yo L)).map V.bl++[.bl b]))):=by
     intro b eb;refine⟨h',zl,j4 hj ⟨?_,?_,aa⟩⟩
     ·rw[take_snoc hs,aB,aB,eb];rfl
     ·intro p q e;rw[aj (ag e hcl)];exact S _ _ e
    refine gN (sr ?_);refine⟨_,rfl,_,rfl,rd,rfl,?_⟩;have hut':=S _ _ hut;obtain⟨e1,⟨e2,e3⟩|⟨g,fu',e2,e3,e4⟩⟩:=is
    ·refine .inr ⟨_,u,row.1,.inr ⟨o,S _ _ rd9⟩,rfl,aY.of (by rw[hut',e3]),nx false ?_⟩;unfold yo;rw[e2]
    ·rw[e3]at hut';refine .inl ⟨_,oS (L:=be L) (.inr ⟨o,S _ _ rd9⟩) (aY.of hut') (ck.kt (ab.kt S) e4),nx _ ?_⟩;rw[iO];unfold yo;rw[e2,<-e1];exact decide_eq_decide.2 fk
  have gd:kW K H7 sd (.ref ft) (bO kvS (ip r.2)):=.inr ⟨_,ip r.2,ft,.inl st7.at_,rfl,pV hft,jm _,rfl⟩;refine⟨_,rfl,_,rfl,sd,_,rfl,gd,_,rfl,?_⟩;rcases st7.ok r.2 with no|⟨d,kvs,h1,h2,h3,h4,h5⟩
  ·rw[no];refine b0 ?_;refine⟨_,rfl,_,rfl,x,ft,r.2,J0,J1,J2,ds,rfl,M.same S7,hft,zft,fun H8 S8=>⟨_,rfl,?_⟩⟩;cases fu:lP J2 r.2 with
   |false=>exact b0 (bad hrL (fun z=>by have:=z.2.1;rw[fu]at this;cases this) (S7.trans S8))
   |true =>
    refine bv ?_;refine⟨_,rfl,_,rfl,x,ft,r.2,J0,J1,J2,ds,rfl,M.same (S7.trans S8),ck.kt (ab.kt S8) hft,Db fu,zft,fun d kvs H9 hd is dn S9=>?_⟩;have S79:=S8.trans S9;have st9:=st7.same S79;have nd:d≠sd:=(ag (st7.same S8).at_ dn).symm;refine⟨_,rfl,_,rfl,sd,ft,kvS,ip r.2,rfl,rfl,st9.at_,wz (ck.kt (ab.kt S79) hft),jm _,kF (by omega),?_⟩;rw[eT _ no];have st10:=st9.put nd hd is fu no;have kt10:jZ H9 (upd H9 sd (.dT (kvS++[(ip r.2,.ref d)]))):=GY st9.at_;refine rest (kvS++[(ip r.2,.ref d)]) d kvs _ ?_ ?_ st10 (by rw[aO];show _+1<=_;omega) ?_ (ck.kt ((ab.kt S79).trans kt10) hft) ?_ (by rw[aj nd];exact hd) (is.kt kt10) fu
    ·have:=S79 _ _ rd7;rw[aj (fun z=>by rw[z,st9.at_]at this;cases this)];exact this
    ·have:=S79 _ _ md7;rw[aj (fun z=>by rw[z,st9.at_]at this;cases this)];exact this
    ·intro p q e;rw[aj (ag e sn)];exact S79 _ _ (S7 _ _ e)
    ·rw[<-eT (.ref d) no,kr,if_pos rfl]
  ·rw[h1];refine bv ?_;exact rest kvS d kvs H7 rd7 md7 st7 (by omega) S7 hft h1 h3 h4 h5
 ·rintro σ H7 ⟨kvS,x6,x7,rfl,rd7,md7,st7,zS,S7,good⟩;rw[el,bf]at good;have N7:=N.same S7;obtain⟨dy,gs,p1,p2,p3,p4,lv,qu,sgA,sl,ts,lps,gps,sps,g7,b1,b2,b3,b4,_⟩:=id N7.at_;refine⟨_,rfl,y,dy,gs,rfl,g7,b4,y,J0,J1,rooms',ds',rfl,N7,fun rl' hrl'=>?_⟩;have S8:ab H7 (upd H7 rl' (.lst (rooms'.map V.str))):=ab.new hrl';have rl8:upd H7 rl' (.lst (rooms'.map V.str)) rl'=some (.lst (rooms'.map V.str)):=aa;generalize upd H7 rl' (.lst (rooms'.map V.str))=H8 at S8 rl8 ⊢;obtain⟨r0,hr0⟩:∃r0,rooms'[0]?=some r0:=by
   cases e:rooms' with
   |nil=>exact absurd e N.ok.rooms0
   |cons a _=>exact⟨a,rfl⟩
  refine⟨rl',_,0,.str r0,rfl,rfl,aA.of rl8,bQ (j:=0) (by rw[cO,hr0];rfl),?_⟩;refine⟨_,rfl,x,J0,J1,J2,ds,rfl,M.same (S7.trans S8),fun t' F H9 ht' hF S9=>?_⟩;rw[rR hF]at ht';refine⟨(by show 2<=ah;decide),fun p hp=>⟨_,rfl,rd,_,rfl,oS (L:=be L) (.inr ⟨o,kp (S9 _ _ (S8 _ _ rd7)) hp⟩) (aY.of aa) (.inl (kp ht' hp)),?_⟩⟩;rw[iO];refine k _ _ ?_ ((S7.trans (S8.trans S9)).trans (ab.new hp));rw[decide_eq_true_iff,fk];constructor
  ·intro z;exact⟨fun q hq=>good q (fk.2 hq),r0,hr0,z⟩
  ·rintro⟨_,r1,h1,z⟩;rw[hr0]at h1;cases h1;exact z
def wf(J2:Zb)(ds:List am)(L:List bM)(f:Zb)(d:am):Prop :=
 (d.sg=ar->(d.b,f)∈L)/\(d.sg≠ar->(behF J2 ds f d.sg=[]->d.sg.head?≠some ("say":Str))/\(behF J2 ds f d.sg≠[]->(d.b,behF J2 ds f d.sg)∈L))
inductive nc(K:Za)(vs:List V)(H:Hp)(Q:VK)(E:XK):Prop
 |mk (t t' rd ft l1 l2 l3 l4 l3' l4':Addr) (ts ts':Ze) (J0 J1 J2 rooms' f:Zb) (ds ds':List am) (L:List bM) (r:Str):(vs=[.ref t,.ref t',.ref rd,.str r,.ref ft])->(fL H t l1 l2 l3 l4 ts J0 J1 J2 ds)->(aN J0 J1 J2 ds)->(fL H t' l1 l2 l3' l4' ts' J0 J1 rooms' ds')->(aN J0 J1 rooms' ds')->(H rd=some (.dT (j6 L)))->(ck K H ft (f.map V.str))->(f.length<=1000)->(∀(b:Bool) (H':Hp),(b=true↔iw J2 ds ds' L r f)->ab H H'->Q (.bl b) H')->nc K vs H Q E
theorem Ck{K:Za}{vs:List V}{H:Hp}{Q:VK}{E:XK}(h:nc K vs H Q E):oB K g6 (k7 K) (bJ Q) (start oX vs) H:=by
 obtain⟨t,t',rd,ft,l1,l2,l3,l4,l3',l4',ts,ts',J0,J1,J2,rooms',f,ds,ds',L,r,rfl,T,m,T',m',hrd,hft,zf,k⟩:=h;have no:∀{H':Hp}{P:Prop},P->(iw J2 ds ds' L r f->¬P)->ab H H'->Q (.bl false) H':=fun p n S=>k false _ ⟨fun z=>(by cases z),fun z=>absurd p (n z)⟩ S;refine⟨_,rfl,.inr (.inl ⟨t',_,3,_,rfl,rfl,aY.of T'.t,rfl,l4',rfl,⟨_,aA.of T'.a4⟩,?_⟩)⟩;refine bW (xs:=ts'.map V.ref) (fun i σ H'=>∃x5 x6 x7 x8:Option V,σ=[some (.ref t),some (.ref t'),some (.ref rd),some (.str r),some (.ref ft),x5,x6,x7,x8]/\ab H H'/\∀d∈ds'.take i,d.a=r->wf J2 ds L f d) ⟨_,_,_,_,rfl,ab.refl _,fun d hd=>by simp at hd⟩ (fun i σ H' _ ⟨_,_,_,_,_,S,_⟩=>aA.of (S _ _ T'.a4)) ?_ ?_
 ·rintro i y σ H1 hi ⟨x5,x6,x7,x8,rfl,S1,good⟩;obtain⟨u,hu,rfl⟩:=cg hi;obtain⟨d,hd,hat⟩:=Paired.getL T'.ds hu;obtain⟨sb,hu1,hs1⟩:=hat.kt (ab.kt S1);have hdm:d∈ds':=bY hd;have ft1:=ck.kt (ab.kt S1) hft;have rd1:=S1 _ _ hrd;have more:(d.a=r->wf J2 ds L f d)->∀e∈ds'.take (i+1),e.a=r->wf J2 ds L f e:=fun h e he=>by
   rw[take_snoc hd]at he;rcases bN.1 he with z|z
   ·exact good e z
   ·rw[cz.1 z];exact h
  refine⟨u,_,rfl,aY.of hu1,rfl,_,_,rfl,_,_,rfl,_,_,rfl,rfl,?_⟩;refine⟨_,rfl,_,rfl,rfl,_,rfl,?_⟩;refine ji (P:=d.a=r) (by simp) (fun ca=>?_) (fun ca=>?_);rotate_left
  ·refine bv ?_;refine⟨_,rfl,_,rfl,rfl,_,rfl,?_⟩;refine ji (P:=d.a=r) (by simp) (fun z=>absurd z ca) (fun _=>bv ?_);exact⟨_,_,_,_,rfl,S1,more fun z=>absurd z ca⟩
  refine⟨_,rfl,(by show 1<=ah;decide),fun e1 he1=>⟨gB d.sg,gB ar,aL (aY.of (kp hs1 he1)),aL (aY.of aa),by rw[aZ];decide,by rw[aZ];decide,_,rfl,?_⟩⟩;rw[cV];have S2:ab H1 (upd H1 e1 (.tup [V.str ("still":Str)])):=ab.new he1;generalize upd H1 e1 (.tup [V.str ("still":Str)])=H2 at S2 ⊢;refine ji (P:=d.sg=ar) (by simp) (fun cs=>?_) (fun cs=>bv ?_)
  ·refine⟨_,rfl,_,rfl,(by show 2<=ah;decide),fun p hp=>⟨_,rfl,rd,_,rfl,oS (.inl (kp (S2 _ _ rd1) hp)) (aY.of aa) (ck.kt (ab.kt (S2.trans (ab.new hp))) ft1),_,rfl,?_⟩⟩;have S3:ab H1 (upd H2 p (.tup [.str d.b,.ref ft])):=S2.trans (ab.new hp);rw[iO];refine ji (P:=(d.b,f)∉L) (by simp) (fun c=>no c (fun z=>fun w=>w ((z.1 d hdm ca).1 cs)) (S1.trans S3)) (fun c=>?_);generalize upd H2 p (.tup [.str d.b,.ref ft])=H3 at S3 ⊢;refine⟨_,rfl,_,rfl,rfl,_,rfl,?_⟩;refine ji (P:=d.a=r) (by simp) (fun _=>?_) (fun z=>absurd ca z);refine⟨_,rfl,(by show 1<=ah;decide),fun e2 he2=>⟨gB d.sg,gB ar,aL (aY.of (kp (S3 _ _ hs1) he2)),aL (aY.of aa),by rw[aZ];decide,by rw[aZ];decide,_,rfl,?_⟩⟩;rw[cV];refine ji (P:=d.sg≠ar) (by simp) (fun z=>absurd cs z) (fun _=>?_);exact⟨_,_,_,_,rfl,(S1.trans S3).trans (ab.new he2),more fun _=>⟨fun _=>ka.1 c,fun z=>absurd cs z⟩⟩
  ·refine⟨_,rfl,_,rfl,rfl,_,rfl,?_⟩;refine ji (P:=d.a=r) (by simp) (fun _=>?_) (fun z=>absurd ca z);refine⟨_,rfl,(by show 1<=ah;decide),fun e2 he2=>⟨gB d.sg,gB ar,aL (aY.of (kp (S2 _ _ hs1) he2)),aL (aY.of aa),by rw[aZ];decide,by rw[aZ];decide,_,rfl,?_⟩⟩;rw[cV];have S3:ab H1 (upd H2 e2 (.tup [V.str ("still":Str)])):=S2.trans (ab.new he2);generalize upd H2 e2 (.tup [V.str ("still":Str)])=H3 at S3 ⊢;refine ji (P:=d.sg≠ar) (by simp) (fun _=>?_) (fun z=>absurd cs z);have S13:=S1.trans S3;refine⟨_,rfl,_,rfl,_,rfl,t,ft,sb,l1,l2,l3,l4,ts,J0,J1,J2,f,d.sg,ds,rfl,T.same S13,m,ck.sq (ck.kt (ab.kt S3) ft1),aY.of (S3 _ _ hs1),zf,fun bt H4 hbt S4=>?_⟩;have S14:=S13.trans S4;obtain⟨s0,rest,hsg,_⟩:=lb (m'.good d hdm);have at0:vV (d.sg.map V.str) 0=some (.str s0):=by rw[hsg];exact bQ (j:=0) rfl
   have hs4:=S4 _ _ (S3 _ _ hs1);refine⟨_,rfl,(by show 0<=ah;decide),fun e3 he3=>⟨gB (behF J2 ds f d.sg),gB [],aL (aY.of (kp hbt he3)),aL (sg:=[]) (aY.of aa),by rw[aZ];decide,by rw[aZ];decide,_,rfl,?_⟩⟩;rw[cV];have S5:ab H4 (upd H4 e3 (.tup [])):=ab.new he3;generalize upd H4 e3 (.tup [])=H5 at S5 ⊢;have half:∀H6,ab H4 H6->(behF J2 ds f d.sg=[]->d.sg.head?≠some ("say":Str))->(iV (aF (ay (j3 K) V8 (bd (a_)))) (tB (dD K (bd (aI V7 V8)) V2))) [some (.ref t),some (.ref t'),some (.ref rd),some (.str r),some (.ref ft),some (.str d.a),some (.ref sb),some (.str d.b),some (.ref bt)] H6 fun b H7=>if b=true then Q (.bl false) H7 else ∃x5 x6 x7 x8:Option V,([some (.ref t),some (.ref t'),some (.ref rd),some (.str r),some (.ref ft),some (.str d.a),some (.ref sb),some (.str d.b),some (.ref bt)]:L2.St)=[some (.ref t),some (.ref t'),some (.ref rd),some (.str r),some (.ref ft),x5,x6,x7,x8]/\ab H H7/\∀d∈ds'.take (i+1),d.a=r->wf J2 ds L f d:=by
    intro H6 S6 say;refine⟨_,rfl,(by show 0<=ah;decide),fun e4 he4=>⟨gB (behF J2 ds f d.sg),gB [],aL (aY.of (kp (S6 _ _ hbt) he4)),aL (sg:=[]) (aY.of aa),by rw[aZ];decide,by rw[aZ];decide,_,rfl,?_⟩⟩;rw[cV];have S7:ab H4 (upd H6 e4 (.tup [])):=S6.trans (ab.new he4);generalize upd H6 e4 (.tup [])=H7 at S7 ⊢;refine ji (P:=behF J2 ds f d.sg≠[]) (by simp) (fun c=>?_) (fun c=>bv ⟨_,_,_,_,rfl,S14.trans S7,more fun _=>⟨fun z=>absurd z cs,fun _=>⟨say,fun z=>absurd z c⟩⟩⟩);refine⟨_,rfl,_,rfl,(by show 2<=ah;decide),fun p hp=>⟨_,rfl,rd,_,rfl,oS (.inl (kp ((S14.trans S7) _ _ hrd) hp)) (aY.of aa) (.inl (kp (S7 _ _ hbt) hp)),_,rfl,?_⟩⟩;have S8:ab H (upd H7 p (.tup [.str d.b,.ref bt])):=(S14.trans S7).trans (ab.new hp);rw[iO];exact ji (P:=(d.b,behF J2 ds f d.sg)∉L) (by simp) (fun w=>no w (fun z=>fun v=>v (((z.1 d hdm ca).2 cs).2 c)) S8) (fun w=>⟨_,_,_,_,rfl,S8,more fun _=>⟨fun z=>absurd z cs,fun _=>⟨say,fun _=>ka.1 w⟩⟩⟩)
   refine ji (P:=behF J2 ds f d.sg=[]) (by simp) (fun c=>?_) (fun c=>bv (half H5 S5 fun z=>absurd z c));refine⟨_,rfl,sb,_,0,_,rfl,rfl,aY.of (S5 _ _ hs4),at0,rfl,_,rfl,?_⟩;refine ji (P:=d.sg.head?=some ("say":Str)) (by rw[hsg];simp) (fun w=>b0 (no w (fun z=>((z.1 d hdm ca).2 cs).1 c) (S14.trans S5))) (fun w=>half H5 S5 fun _=>w)
 ·rintro σ H1 ⟨x5,x6,x7,x8,rfl,S1,good⟩;rw[ai,Paired.length T'.ds,bf]at good;refine⟨_,rfl,_,rfl,t',l1,l2,l3',l4',ts',J0,J1,rooms',ds',r,rfl,T'.same S1,m',fun H2 S2=>⟨_,rfl,?_⟩⟩;refine ji (P:=r∉eC ds') (by simp) (fun c=>?_) (fun c=>k true _ ⟨fun _=>⟨good,fun z=>absurd z c⟩,fun _=>rfl⟩ (S1.trans S2));refine⟨_,rfl,_,rfl,(by show 1<=ah;decide),fun e1 he1=>?_⟩;have S3:ab H (upd H2 e1 (.tup [V.str ("hush":Str)])):=(S1.trans S2).trans (ab.new he1);have h3:upd H2 e1 (.tup [V.str ("hush":Str)]) e1=some (.tup (bH.map V.str)):=aa;generalize upd H2 e1 (.tup [V.str ("hush":Str)])=H3 at S3 h3 ⊢;refine⟨t,ft,e1,l1,l2,l3,l4,ts,J0,J1,J2,f,bH,ds,rfl,T.same S3,m,ck.sq (ck.kt (ab.kt S3) hft),aY.of h3,zf,fun bt H4 hbt S4=>?_⟩;refine⟨_,rfl,(by show 0<=ah;decide),fun e3 he3=>⟨gB (behF J2 ds f bH),gB [],aL (aY.of (kp hbt he3)),aL (sg:=[]) (aY.of aa),by rw[aZ];decide,by rw[aZ];decide,_,rfl,?_⟩⟩;rw[cV];have S5:ab H (upd H4 e3 (.tup [])):=(S3.trans S4).trans (ab.new he3);have bt5:upd H4 e3 (.tup []) bt=_:=kp hbt he3;generalize upd H4 e3 (.tup [])=H5 at S5 bt5 ⊢;refine ji (P:=behF J2 ds f bH≠[]) (by simp) (fun w=>?_) (fun w=>no w (fun z v=>v (z.2 c).1) S5);refine⟨_,rfl,_,rfl,(by show 2<=ah;decide),fun p hp=>⟨_,rfl,rd,_,rfl,oS (.inl (kp (S5 _ _ hrd) hp)) (aY.of aa) (.inl (kp bt5 hp)),?_⟩⟩;rw[iO];refine k _ _ ?_ (S5.trans (ab.new hp));rw[decide_eq_true_iff];exact⟨fun z=>⟨good,fun _=>⟨w,z⟩⟩,fun z=>(z.2 c).2⟩
inductive jD(K:Za)(vs:List V)(H:Hp)(Q:VK)(E:XK):Prop
 |mk (t t' pl l1 l2 l3 l4 l3' l4':Addr) (ts ts' us:Ze) (J0 J1 J2 rooms':Zb) (ds ds':List am) (L:List bM):(vs=[.ref t,.ref t',.ref pl])->(fL H t l1 l2 l3 l4 ts J0 J1 J2 ds)->(aN J0 J1 J2 ds)->(fL H t' l1 l2 l3' l4' ts' J0 J1 rooms' ds')->(aN J0 J1 rooms' ds')->(H pl=some (.lst (us.map V.ref)))->(Paired (gV H) us L)->(L.length<=90000)->(∀r∈L,r.2.length<=1000)->(∀(b:Bool) (H':Hp),(b=true↔AI J2 rooms' ds ds' L)->ab H H'->Q (.bl b) H')->jD K vs H Q E
theorem yv{K:Za}{vs:List V}{H:Hp}{Q:VK}{E:XK}(h:jD K vs H Q E):l9 K (nc K) tO (bJ Q) (start mD vs) H:=by
 obtain⟨t,t',pl,l1,l2,l3,l4,l3',l4',ts,ts',us,J0,J1,J2,rooms',ds,ds',L,rfl,T,m,T',m',hpl,hus,zL,zf,k⟩:=h;have z3:=m.rooms26;have bad:∀{r:bM}{H':Hp},r∈L->¬nQ J2 rooms' ds ds' L r->ab H H'->Q (.bl false) H':=fun hr hg S=>k false _ ⟨fun z=>(by cases z),fun z=>absurd (z.1 _ hr) hg⟩ S;refine fun rd hrd=>?_;refine⟨_,rfl,pl,rfl,⟨_,aA.of (kp hpl hrd)⟩,?_⟩;refine bW (xs:=us.map V.ref) (fun i σ H'=>∃x4 x5 x6:Option V,σ=[some (.ref t),some (.ref t'),some (.ref pl),some (.ref rd),x4,x5,x6]/\H' rd=some (.dT (j6 (be (L.take i))))/\ab H H'/\∀x∈L.take i,x.1∈rooms'/\lP J2 x.2=true) ⟨_,_,_,rfl,aa,ab.new hrd,fun d hd=>by simp at hd⟩ (fun i σ H' _ ⟨_,_,_,_,_,S,_⟩=>aA.of (S _ _ hpl)) ?_ ?_
 ·rintro i y σ H1 hi ⟨x4,x5,x6,rfl,rd1,S1,good⟩;obtain⟨u,hu,rfl⟩:=cg hi;obtain⟨r,hr,hat⟩:=Paired.getL hus hu;have hat1:=hat.kt (ab.kt S1);obtain⟨ft,hu1,hf1⟩:=id hat1;have hrL:r∈L:=bY hr;have T1:=T.same S1;have T1':=T'.same S1;refine⟨_,rfl,u,_,0,_,rfl,rfl,aY.of hu1,bQ (j:=0) rfl,_,rfl,.inr (.inl ⟨t',_,2,_,rfl,rfl,aY.of T1'.t,rfl,fE r.1,rooms'.map fE,l3',_,iu _,rfl,.inl (aA.of T1'.a3),ir _,(by show 0<=8;decide),by rw[dk];decide,_,rfl,?_⟩)⟩;rw[if_pos rfl,lq];refine ji (P:=r.1∉rooms') (by simp) (fun c=>b0 (bad hrL (fun z=>c z.1) S1)) (fun c=>?_);have c:=ka.1 c;refine⟨_,rfl,u,_,1,_,rfl,rfl,aY.of hu1,bQ (j:=1) rfl,(by show 0<=ah;decide),fun e1 he1=>⟨gB r.2,gB [],aL (aY.of (kp hf1 he1)),aL (sg:=[]) (aY.of aa),by rw[aZ];decide,by rw[aZ];decide,_,rfl,?_⟩⟩;rw[cV];have S2:ab H1 (upd H1 e1 (.tup [])):=ab.new he1;generalize upd H1 e1 (.tup [])=H2 at S2 ⊢;refine ji (P:=r.2=[]) (by simp) (fun c0=>b0 (bad hrL (fun z=>(of_decide_eq_true z.2.1).1 c0) (S1.trans S2))) (fun c0=>?_);have T2:=T1.same S2;refine⟨_,rfl,u,_,1,_,rfl,rfl,aY.of (S2 _ _ hu1),bQ (j:=1) rfl,_,rfl,.inr (.inl ⟨t,_,2,_,rfl,rfl,aY.of T2.t,rfl,l3,rfl,⟨_,aA.of T2.a3⟩,fun f hf=>?_⟩)⟩;refine bU (xs:=J2.map V.str) (fun i vs H'=>vs=((J2.take i).filter fun w=>decide (w∈r.2)).map V.str/\ab H2 H'/\H' f=some (.lst vs)) ⟨rfl,ab.new hf,aa⟩ (fun i vs H' _ ⟨_,S,h'⟩=>⟨h',aA.of (S _ _ T2.a3)⟩) ?_ ?_
  ·rintro vs H3 ⟨rfl,S3,f3⟩;rw[ai,bf]at f3;have S23:=S2.trans S3;refine⟨f,_,rfl,.inl ⟨aA.of f3,fun e2 he2=>⟨gB r.2,gB (J2.filter fun w=>decide (w∈r.2)),aL (aY.of (kp (S23 _ _ hf1) he2)),aL (aY.of aa),by rw[aZ];decide,by rw[aZ];decide,_,rfl,?_⟩⟩⟩;rw[cV];have S4:ab H1 (upd H3 e2 (.tup ((J2.filter fun w=>decide (w∈r.2)).map V.str))):=S23.trans (ab.new he2);generalize upd H3 e2 (.tup ((J2.filter fun w=>decide (w∈r.2)).map V.str))=H4 at S4 ⊢;refine ji (P:=r.2≠J2.filter fun w=>decide (w∈r.2)) (by simp) (fun w=>bad hrL (fun z=>w (of_decide_eq_true z.2.1).2) (S1.trans S4)) (fun w=>?_);have w:=ka.1 w;have hlen:(j6 (be (L.take i))).length<ah:=by
    unfold j6;rw[ai];exact kF (bh (kH _) (by rw[aD];omega))
   refine⟨_,rfl,_,rfl,rd,u,_,cU r,rfl,rfl,S4 _ _ rd1,fq.c 8 (dF _) (hat1.kt (ab.kt S4)).tk,dF _,hlen,?_⟩;rw[Ap,<-nq hr];refine⟨_,_,_,rfl,aa,fun b o e=>by rw[aj (ag e hrd)];exact S4 _ _ (S1 _ _ e),fun x hx=>?_⟩;rw[take_snoc hr]at hx;rcases bN.1 hx with z|z
   ·exact good x z
   ·rw[cz.1 z];exact⟨c,zzr1 ⟨c0,w⟩⟩
  ·rintro j vs H' v hv hj ⟨rfl,S,f'⟩;obtain⟨w,hw,rfl⟩:=bp hv;refine gN ?_;have S2':=S2.trans S;refine⟨_,rfl,_,rfl,u,_,1,_,rfl,rfl,aY.of (S2' _ _ hu1),bQ (j:=1) rfl,fE w,r.2.map fE,ft,_,iu w,rfl,.inr (aY.of (S2' _ _ hf1)),ir _,(by show 0<=8;decide),by rw[dk];decide,_,rfl,?_⟩;rw[if_neg fR,lq];have hlen:(((J2.take j).filter fun w=>decide (w∈r.2)).map V.str).length<ah:=by
    rw[ai];refine aw (bh (cF _ _) ?_);rw[aD];omega
   refine gP (fun hq=>?_) (fun hq=>?_)
   ·refine⟨_,rfl,f',hlen,j4 hj ⟨?_,?_,aa⟩⟩
    ·rw[bD hw,if_pos hq,aB];rfl
    ·intro b o q;rw[aj (ag q hf)];exact S _ _ q
   ·refine j4 hj ⟨?_,S,f'⟩;rw[bD hw,if_neg hq,dv]
 ·rintro σ H1 ⟨x4,x5,x6,rfl,rd1,S1,good⟩;rw[ai,Paired.length hus,bf]at rd1 good;have T1:=T.same S1;have T1':=T'.same S1;obtain⟨r0,hr0⟩:∃r0,rooms'[0]?=some r0:=by
   cases e:rooms' with
   |nil=>exact absurd e m'.rooms0
   |cons a _=>exact⟨a,rfl⟩
  refine⟨_,rfl,.inr (.inl ⟨t',_,2,_,rfl,rfl,aY.of T1'.t,rfl,l3',_,0,.str r0,rfl,rfl,aA.of T1'.a3,bQ (j:=0) (by rw[cO,hr0];rfl),_,rfl,_,rfl,.inr (.inl ⟨t,_,2,_,rfl,rfl,aY.of T1.t,rfl,_,rfl,l3,_,rfl,aA.of T1.a3,fun g hg=>?_⟩)⟩)⟩;have S2:ab H1 (upd H1 g (.lst (cD (J2.map V.str) none (some 1)))):=ab.new hg;have g2:upd H1 g (.lst (cD (J2.map V.str) none (some 1))) g=some (.lst ((J2.take 1).map V.str)):=by rw[aa,show(some (1:Int))=some ((1:Nat):Int)from rfl,gS]
  generalize upd H1 g (.lst (cD (J2.map V.str) none (some 1)))=H2 at S2 g2 ⊢;refine⟨t,g,l1,l2,l3,l4,ts,J0,J1,J2,J2.take 1,ds,rfl,T1.same S2,m,g2,by rw[aD];omega,fun t1 H3 ht1 S3=>?_⟩;have S13:=S2.trans S3;refine⟨(by show 2<=ah;decide),fun p hp=>⟨_,rfl,rd,_,rfl,oS (L:=be L) (.inl (kp (S13 _ _ rd1) hp)) (aY.of aa) (.inl (kp ht1 hp)),_,rfl,?_⟩⟩;rw[iO];have S4:ab H1 (upd H3 p (.tup [.str r0,.ref t1])):=S13.trans (ab.new hp);generalize upd H3 p (.tup [.str r0,.ref t1])=H4 at S4 ⊢;refine ji (P:=(r0,closF J2 ds (J2.take 1))∉L) (by simp[fk]) (fun c=>k false _ ⟨fun z=>(by cases z),fun⟨_,r1,h1,z⟩=>by rw[hr0]at h1;cases h1;exact absurd z c⟩ (S1.trans S4)) (fun c=>?_);have c:=ka.1 c;have S04:=S1.trans S4;refine⟨_,rfl,pl,rfl,⟨_,aA.of (S04 _ _ hpl)⟩,?_⟩;refine bW (xs:=us.map V.ref) (fun i σ H'=>∃x4 x5 x6:Option V,σ=[some (.ref t),some (.ref t'),some (.ref pl),some (.ref rd),x4,x5,x6]/\ab H4 H'/\∀x∈L.take i,iw J2 ds ds' L x.1 x.2) ⟨_,_,_,rfl,ab.refl _,fun d hd=>by simp at hd⟩ (fun i σ H' _ ⟨_,_,_,_,S,_⟩=>aA.of (S _ _ (S04 _ _ hpl))) ?_ ?_
  ·rintro i y σ H5 hi ⟨x4,x5,x6,rfl,S5,st⟩;obtain⟨u,hu,rfl⟩:=cg hi;obtain⟨r,hr,hat⟩:=Paired.getL hus hu;have S05:=S04.trans S5;obtain⟨ft,hu1,hf1⟩:=hat.kt (ab.kt S05);have hrL:r∈L:=bY hr;refine⟨u,_,rfl,aY.of hu1,rfl,_,_,rfl,_,_,rfl,rfl,?_⟩;refine⟨_,rfl,_,rfl,_,rfl,_,rfl,_,rfl,t,t',rd,ft,l1,l2,l3,l4,l3',l4',ts,ts',J0,J1,J2,rooms',r.2,ds,ds',be L,r.1,rfl,T.same S05,m,T'.same S05,m',(S4.trans S5) _ _ rd1,.inl hf1,zf r hrL,fun b H6 hb S6=>⟨_,rfl,?_⟩⟩;have hb:=hb.trans (iw.congr (L':=L) fun _=>fk);cases b with
   |false=>exact b0 (bad hrL (fun z=>by have:=hb.2 z.2.2;cases this) (S05.trans S6))
   |true =>
    refine bv ⟨_,_,_,rfl,S5.trans S6,fun x hx=>?_⟩;rw[take_snoc hr]at hx;rcases bN.1 hx with z|z
    ·exact st x z
    ·rw[cz.1 z];exact hb.1 rfl
  ·rintro σ H5 ⟨x4,x5,x6,rfl,S5,st⟩;rw[ai,Paired.length hus,bf]at st;exact k true _ ⟨fun _=>⟨fun x hx=>⟨(good x hx).1,(good x hx).2,st x hx⟩,r0,hr0,c⟩,fun _=>rfl⟩ (S04.trans S5)
def lQ(H:Hp)(u:Addr)(w:Sg×Str):Prop:=∃s,H u=some (.tup [.ref s,.str w.2])/\SignAt H s w.1
theorem lQ.kt{H H':Hp}{b:Addr}{k:Sg×Str}(kt:jZ H H'):lQ H b k->lQ H' b k:=fun⟨u,h1,h2⟩=>⟨u,kt _ _ h1,kt _ _ h2⟩
structure uh(H:Hp)(l kd:Addr)(n:Nat)(H':Hp)(us:Ze)(L:List bM)(kvs:List (TK×V)):Prop where
 hl:H' l=some (.lst (us.map V.ref))
 rows:Paired (gV H') us L
 ne:L≠[]
 fl:∀r∈L,r.2.length<=150/\r.2≠[]
 hk:H' kd=some (.dT kvs)
 zk:kvs.length<=n
 zl:L.length<=n
 S:ab H H'
 l0:H l=none
 k0:H kd=none
section
variable{H H' H'':Hp}{l kd:Addr}{n n':Nat}{us:Ze}{L:List bM}{kvs:List (TK×V)}
theorem uh.same(S:ab H' H'')(h:uh H l kd n H' us L kvs):uh H l kd n H'' us L kvs:=⟨S _ _ h.hl,Paired.mapP h.rows fun _ _ r=>r.kt (ab.kt S),h.ne,h.fl,S _ _ h.hk,h.zk,h.zl,h.S.trans S,h.l0,h.k0⟩
theorem uh.le(e:n<=n')(h:uh H l kd n H' us L kvs):uh H l kd n' H' us L kvs:=⟨h.hl,h.rows,h.ne,h.fl,h.hk,bh h.zk e,bh h.zl e,h.S,h.l0,h.k0⟩
theorem uh.other{wl:Addr}{xs ys:List V}(h:uh H l kd n H' us L kvs)(nl:wl≠l)(hw:H' wl=some (.lst xs))(w0:H wl=none):uh H l kd n (upd H' wl (.lst ys)) us L kvs :=
 ⟨by rw[aj nl.symm];exact h.hl,Paired.mapP h.rows fun _ _ r=>r.kt (eD hw),h.ne,h.fl,by rw[aj (fun z=>by have:=h.hk;rw[z,hw]at this;cases this)];exact h.hk,h.zk,h.zl,fun b o e=>by rw[aj (ag e w0)];exact h.S _ _ e,h.l0,h.k0⟩
theorem uh.ndl(h:uh H l kd n H' us L kvs):kd≠l:=fun z=>by have:=h.hl;rw[<-z,h.hk]at this;cases this
end
abbrev Gg(K:Za)(sp_law_behind:Sp):TS :=
 (de (bV K V7) (gw K 2 (bc U8 (bc U9 (f6)))) (ap (aS V6 EQ)
 (ap (bB (aF (ay (j3 K) V8 (bd (aG (tC (.str "still")))))) (aS (aM sp_law_behind (dC V0 V6 V8)) EQ) (aR))
 (bB (iV (aF (ay (j3 K) pE (bd (a_)))) (tB (dD K (bd (aI V9 pE)) V3))) (ap (iJ V3 (bd (aI V9 pE)) (tC (.bl true)))
 (cb (vj K "list" dE V2 (aG (bd (aI V9 pE)))))) (aR)))))
theorem y_{J2 f sg:Zb}{ds:List am}(h1:J2.length<=150)(h2:f.length<=150):(behF J2 ds f sg).length<=150:=by
 unfold behF;split
 ·exact bh (cF _ _) h2
 ·unfold closF;exact bh (cF _ _) h1
theorem wV{K:Za}{H H1:Hp}{t t' l kd wl fa l1 l2 l3 l4:Addr}{n:Nat}{us ts ws:Ze}{L:List bM}{kvs:List (TK×V)}{J0 J1 J2 f:Zb}{ds:List am}{W:List (Sg×Str)}{at_:V}{room:Str}{x8 x9 x10:Option V}{D:mK}
  (T:fL H t l1 l2 l3 l4 ts J0 J1 J2 ds) (m:aN J0 J1 J2 ds) (A:uh H l kd n H1 us L kvs) (hw:H1 wl=some (.lst (ws.map V.ref))) (hws:Paired (lQ H1) ws W) (zw:W.length<=1001) (nwl:wl≠l) (zn:n<=70000) (hf:SignAt H1 fa f) (zf:f.length<=150)
  (k:∀(us':Ze) (L':List bM) (kvs':List (TK×V)) (H':Hp) (y8 y9 y10:Option V),uh H l kd (n+1001) H' us' L' kvs'->D.nx [some (.ref t),some (.ref t'),some (.ref l),some (.ref kd),some at_,some (.str room),some (.ref fa),some (.ref wl),y8,y9,y10] H') :
  Gg K (k7 K) D [some (.ref t),some (.ref t'),some (.ref l),some (.ref kd),some at_,some (.str room),some (.ref fa),some (.ref wl),x8,x9,x10] H1:=by
 have z3:=m.rooms26;have nwk:wl≠kd:=fun z=>by have:=A.hk;rw[<-z,hw]at this;cases this
 refine⟨_,rfl,wl,rfl,⟨_,aA.of hw⟩,?_⟩;refine bW (xs:=ws.map V.ref) (fun i σ H'=>∃(us':Ze) (L':List bM) (kvs':List (TK×V)) (y8 y9 y10:Option V),σ=[some (.ref t),some (.ref t'),some (.ref l),some (.ref kd),some at_,some (.str room),some (.ref fa),some (.ref wl),y8,y9,y10]/\uh H l kd (n+i) H' us' L' kvs'/\H' wl=some (.lst (ws.map V.ref))/\Paired (lQ H') ws W/\SignAt H' fa f) ⟨_,_,_,_,_,_,rfl,A,hw,hws,hf⟩ (fun i σ H' _ ⟨_,_,_,_,_,_,_,_,q,_⟩=>aA.of q) ?_ ?_
 ·rintro i y σ H2 hi ⟨us2,L2',kvs2,y8,y9,y10,rfl,A2,hw2,hws2,hf2⟩;obtain⟨u,hu,rfl⟩:=cg hi;obtain⟨w,hwm,hat⟩:=Paired.getL hws2 hu;obtain⟨s,hu2,hs2⟩:=id hat;have il:i<W.length:=(cE.mp hwm).1;refine⟨u,_,rfl,aY.of hu2,rfl,_,_,rfl,_,_,rfl,rfl,?_⟩;refine⟨_,rfl,?_⟩;have last:∀(H3:Hp) (ba:Addr) (g:Zb),ab H2 H3->SignAt H3 ba g->g.length<=150->(bB (iV (aF (ay (j3 K) pE (bd (a_)))) (tB (dD K (bd (aI V9 pE)) V3))) (ap (iJ V3 (bd (aI V9 pE)) (tC (.bl true)))
 (cb (vj K "list" dE V2 (aG (bd (aI V9 pE)))))) (aR)) { D with nx:=fun σ H'=>∃(us':Ze) (L':List bM) (kvs':List (TK×V)) (y8 y9 y10:Option V),σ=[some (.ref t),some (.ref t'),some (.ref l),some (.ref kd),some at_,some (.str room),some (.ref fa),some (.ref wl),y8,y9,y10]/\uh H l kd (n+(i+1)) H' us' L' kvs'/\H' wl=some (.lst (ws.map V.ref))/\Paired (lQ H') ws W/\SignAt H' fa f } [some (.ref t),some (.ref t'),some (.ref l),some (.ref kd),some at_,some (.str room),some (.ref fa),some (.ref wl),some (.ref s),some (.str w.2),some (.ref ba)] H3:=by
   intro H3 ba g S3 hb zg;refine⟨_,rfl,(by show 0<=ah;decide),fun e1 he1=>⟨gB g,gB [],aL (aY.of (kp hb he1)),aL (sg:=[]) (aY.of aa),by rw[aZ];decide,by rw[aZ];decide,_,rfl,?_⟩⟩;rw[cV];have S4:ab H2 (upd H3 e1 (.tup [])):=S3.trans (ab.new he1);have hb4:SignAt (upd H3 e1 (.tup [])) ba g:=kp hb he1;generalize upd H3 e1 (.tup [])=H4 at S4 hb4 ⊢;have stay:∀H5,ab H4 H5->∃(us':Ze) (L':List bM) (kvs':List (TK×V)) (y8 y9 y10:Option V),([some (.ref t),some (.ref t'),some (.ref l),some (.ref kd),some at_,some (.str room),some (.ref fa),some (.ref wl),some (.ref s),some (.str w.2),some (.ref ba)]:L2.St)=[some (.ref t),some (.ref t'),some (.ref l),some (.ref kd),some at_,some (.str room),some (.ref fa),some (.ref wl),y8,y9,y10]/\uh H l kd (n+(i+1)) H5 us' L' kvs'/\H5 wl=some (.lst (ws.map V.ref))/\Paired (lQ H5) ws W/\SignAt H5 fa f:=fun H5 S5=>by
    have S:=S4.trans S5;exact⟨_,_,_,_,_,_,rfl,(A2.same S).le (by omega),S _ _ hw2,Paired.mapP hws2 fun _ _ r=>r.kt (ab.kt S),ab.kt S _ _ hf2⟩
   refine ji (P:=g≠[]) (by simp) (fun c=>?_) (fun c=>bv (stay H4 (ab.refl _)));have A4:=A2.same S4;refine⟨_,rfl,_,rfl,(by show 2<=ah;decide),fun p hp=>⟨_,rfl,kd,bO kvs2 (cU (w.2,g)),rfl,?_,_,rfl,?_⟩⟩
   ·have hat5:gV (upd H4 p (.tup [.str w.2,.ref ba])) p (w.2,g):=⟨ba,aa,kp hb4 hp⟩;exact .inr ⟨_,cU (w.2,g),p,.inl (kp A4.hk hp),rfl,fq.isIn 8 (dF _) hat5.tk,dF _,rfl⟩
   have S5:ab H4 (upd H4 p (.tup [.str w.2,.ref ba])):=ab.new hp;generalize upd H4 p (.tup [.str w.2,.ref ba])=H5 at S5 ⊢;cases vv:bO kvs2 (cU (w.2,g))with
   |some v=>exact bv (stay H5 S5)
   |none =>
    refine b0 ?_;have A5:=A4.same S5;refine⟨_,rfl,_,rfl,_,rfl,(by show 2<=ah;decide),fun p2 hp2=>⟨kd,_,rfl,.inr ⟨kvs2,cU (w.2,g),p2,kp A5.hk hp2,rfl,gV.tk ⟨ba,aa,kp (S5 _ _ hb4) hp2⟩,dF _,kF (by have:=A5.zk;omega),rfl⟩,?_⟩⟩;have S6:ab H5 (upd H5 p2 (.tup [.str w.2,.ref ba])):=ab.new hp2;generalize upd H5 p2 (.tup [.str w.2,.ref ba])=H6 at S6 ⊢;have A6:=A5.same S6;have S26:=(S4.trans S5).trans S6;have n1:=A6.ndl;have kt6:jZ H6 (upd H6 kd (.dT (cX kvs2 (cU (w.2,g)) (.bl true)))):=GY A6.hk;have hl7:upd H6 kd (.dT (cX kvs2 (cU (w.2,g)) (.bl true))) l=some (.lst (us2.map V.ref)):=by rw[aj n1.symm];exact A6.hl
    have hk7:upd H6 kd (.dT (cX kvs2 (cU (w.2,g)) (.bl true))) kd=some (.dT (cX kvs2 (cU (w.2,g)) (.bl true))):=aa;have hw7:upd H6 kd (.dT (cX kvs2 (cU (w.2,g)) (.bl true))) wl=some (.lst (ws.map V.ref)):=by rw[aj nwk];exact S26 _ _ hw2
    have S07:ab H (upd H6 kd (.dT (cX kvs2 (cU (w.2,g)) (.bl true)))):=fun b o e=>by rw[aj (ag e A.k0)];exact A6.S _ _ e
    generalize upd H6 kd (.dT (cX kvs2 (cU (w.2,g)) (.bl true)))=H7 at kt6 hl7 hk7 hw7 S07 ⊢;refine⟨_,rfl,.inl ⟨rfl,_,aA.of hl7⟩,_,rfl,_,rfl,(by show 2<=ah;decide),fun p3 hp3=>⟨l,_,.ref p3,rfl,rfl,kp hl7 hp3,?_,?_⟩⟩
    ·rw[ai,Paired.length A6.rows];exact kF (by have:=A6.zl;omega)
    have kt8:jZ H2 (upd (upd H7 p3 (.tup [.str w.2,.ref ba])) l (.lst (us2.map V.ref++[.ref p3]))):=(((ab.kt S26).trans kt6).trans (ab.kt (ab.new hp3))).trans (eD (kp hl7 hp3));have hb6:SignAt H6 ba g:=S6 _ _ (S5 _ _ hb4);refine⟨us2++[p3],L2'++[(w.2,g)],cX kvs2 (cU (w.2,g)) (.bl true),_,_,_,rfl,⟨by rw[aa,aB];rfl,?_,by simp,fun r hr=>?_,?_,?_,?_,?_,A.l0,A.k0⟩,?_,Paired.mapP hws2 fun _ _ r=>r.kt kt8,kt8 _ _ hf2⟩
    ·refine fA (Paired.mapP A2.rows fun _ _ r=>r.kt kt8) ⟨ba,?_,((kt6.trans (ab.kt (ab.new hp3))).trans (eD (kp hl7 hp3))) _ _ hb6⟩;rw[aj (ag hl7 hp3).symm];exact aa
    ·rcases bN.1 hr with z|z
     ·exact A2.fl r z
     ·rw[cz.1 z];exact⟨zg,c⟩
    ·rw[aj n1];exact kp hk7 hp3
    ·have:=q0 kvs2 (cU (w.2,g)) (V.bl true);have:=A2.zk;omega
    ·rw[aO];have:=A2.zl;show _+1<=_;omega
    ·intro b o e;rw[aj (ag e A.l0)];exact kp (S07 _ _ e) hp3
    ·rw[aj nwl];exact kp hw7 hp3
  refine⟨_,rfl,(by show 1<=ah;decide),fun e1 he1=>⟨gB w.1,gB ar,aL (aY.of (kp hs2 he1)),aL (aY.of aa),by rw[aZ];decide,by rw[aZ];decide,_,rfl,?_⟩⟩;rw[cV];have S3:ab H2 (upd H2 e1 (.tup [V.str ("still":Str)])):=ab.new he1;generalize upd H2 e1 (.tup [V.str ("still":Str)])=H3 at S3 ⊢;refine ji (P:=w.1≠ar) (by simp) (fun c=>?_) (fun c=>last H3 fa f S3 (S3 _ _ hf2) zf);exact⟨_,rfl,_,rfl,_,rfl,t,fa,s,l1,l2,l3,l4,ts,J0,J1,J2,f,w.1,ds,rfl,T.same (A2.S.trans S3),m,aY.of (S3 _ _ hf2),aY.of (S3 _ _ hs2),by omega,fun bt H4 hbt S4=>last H4 bt _ (S3.trans S4) hbt (y_ z3 zf)⟩
 ·rintro σ H2 ⟨us2,L2',kvs2,y8,y9,y10,rfl,A2,_⟩;refine k us2 L2' kvs2 H2 _ _ _ (A2.le ?_);rw[ai,Paired.length hws];omega
inductive k5(K:Za)(vs:List V)(H:Hp)(Q:VK)(E:XK):Prop
 |mk (t t' l1 l2 l3 l4 l3' l4':Addr) (ts ts':Ze) (J0 J1 J2 rooms':Zb) (ds ds':List am):(vs=[.ref t,.ref t'])->(fL H t l1 l2 l3 l4 ts J0 J1 J2 ds)->(aN J0 J1 J2 ds)->(fL H t' l1 l2 l3' l4' ts' J0 J1 rooms' ds')->(aN J0 J1 rooms' ds')->(∀(l:Addr) (us:Ze) (L:List bM) (H':Hp),H' l=some (.lst (us.map V.ref))->Paired (gV H') us L->L≠[]->L.length<=70000->(∀r∈L,r.2.length<=150/\r.2≠[])->H l=none->ab H H'->Q (.ref l) H')->k5 K vs H Q E
theorem Bd{K:Za}{vs:List V}{H:Hp}{Q:VK}{E:XK}(h:k5 K vs H Q E):wB K (k7 K) g6 tO (bJ Q) (start xJ vs) H:=by
 obtain⟨t,t',l1,l2,l3,l4,l3',l4',ts,ts',J0,J1,J2,rooms',ds,ds',rfl,T,m,T',m',k⟩:=h;have z3:=m.rooms26;have z4:=m'.few;obtain⟨r0,hr0⟩:∃r0,rooms'[0]?=some r0:=by
  cases e:rooms' with
  |nil=>exact absurd e m'.rooms0
  |cons a _=>exact⟨a,rfl⟩
 refine⟨_,rfl,.inr (.inl ⟨t',_,2,_,rfl,rfl,aY.of T'.t,rfl,l3',_,0,.str r0,rfl,rfl,aA.of T'.a3,bQ (j:=0) (by rw[cO,hr0];rfl),_,rfl,_,rfl,.inr (.inl ⟨t,_,2,_,rfl,rfl,aY.of T.t,rfl,_,rfl,l3,_,rfl,aA.of T.a3,fun g hg=>?_⟩)⟩)⟩;have S1:ab H (upd H g (.lst (cD (J2.map V.str) none (some 1)))):=ab.new hg;have g1:upd H g (.lst (cD (J2.map V.str) none (some 1))) g=some (.lst ((J2.take 1).map V.str)):=by rw[aa,show(some (1:Int))=some ((1:Nat):Int)from rfl,gS]
 generalize upd H g (.lst (cD (J2.map V.str) none (some 1)))=H1 at S1 g1 ⊢;refine⟨t,g,l1,l2,l3,l4,ts,J0,J1,J2,J2.take 1,ds,rfl,T.same S1,m,g1,by rw[aD];omega,fun t1 H2 ht1 S2=>?_⟩;have S02:=S1.trans S2;refine⟨(by show 2<=ah;decide),fun p hp=>?_⟩;have S3:ab H2 (upd H2 p (.tup [.str r0,.ref t1])):=ab.new hp;have at3:gV (upd H2 p (.tup [.str r0,.ref t1])) p (r0,closF J2 ds (J2.take 1)):=⟨t1,aa,kp ht1 hp⟩;generalize upd H2 p (.tup [.str r0,.ref t1])=H3 at S3 at3 ⊢;refine⟨(by show 1<=ah;decide),fun l hl=>?_⟩;have S4:ab H3 (upd H3 l (.lst [.ref p])):=ab.new hl;have hl4:upd H3 l (.lst [.ref p]) l=some (.lst [.ref p]):=aa;have l0:H l=none:=(S02.trans S3).free hl;generalize upd H3 l (.lst [.ref p])=H4 at S4 hl4 ⊢;have S04:=(S02.trans S3).trans S4;have GF:=at3.kt (ab.kt S4);refine fun kd hkd=>?_;have at5:=GF.kt (ab.kt (ab.new (o:=.dT []) hkd));refine⟨_,rfl,l,_,0,_,rfl,rfl,aA.of (kp hl4 hkd),bQ (j:=0) rfl,aa,p,cU (r0,closF J2 ds (J2.take 1)),rfl,fq.c 8 (dF _) at5.tk,dF _,?_⟩;rw[jy];have A0:uh H l kd 1 (upd H4 kd (.dT [(cU (r0,closF J2 ds (J2.take 1)),.bl true)])) [p] [(r0,closF J2 ds (J2.take 1))] [(cU (r0,closF J2 ds (J2.take 1)),.bl true)]:=by
  refine⟨kp hl4 hkd,.cons (GF.kt (ab.kt (ab.new hkd))) .nil,by simp,fun r hr=>?_,aa,aH _,aH _,S04.trans (ab.new hkd),l0,S04.free hkd⟩;rw[cz.1 hr];refine⟨bh (cF _ _) z3,?_⟩;cases e:J2 with
  |nil=>exact absurd e m.rooms0
  |cons ro rest =>
   have ff:f8 ds ((ro::rest).take 1) ro:=⟨ro,cz.2 rfl,.inl rfl⟩;exact List.ne_nil_of_mem (a:=ro) (dO.2 ⟨fx,@zzr1 _ (Classical.propDecidable _) ff⟩)
 generalize upd H4 kd (.dT [(cU (r0,closF J2 ds (J2.take 1)),.bl true)])=H5 at A0 ⊢;refine⟨_,rfl,by omega,by omega,?_⟩;refine jj (lo:=0) (n:=64) (fun i σ H'=>∃(us:Ze) (L:List bM) (kvs:List (TK×V)) (x4 x5 x6 x7 x8 x9 x10:Option V),σ=[some (.ref t),some (.ref t'),some (.ref l),some (.ref kd),x4,x5,x6,x7,x8,x9,x10]/\uh H l kd (1+1001 * i) H' us L kvs) ⟨_,_,_,_,_,_,_,_,_,_,rfl,A0⟩ ?_ ?_
 ·rintro i σ H6 i64 ⟨us,L,kvs,x4,x5,x6,x7,x8,x9,x10,rfl,A⟩;refine⟨_,rfl,_,rfl,.inl ⟨l,_,rfl,.inl (aA.of A.hl),_,_,rfl,rfl,_,rfl,?_⟩⟩;rw[ai];refine ji (P:=i<us.length) (by rw[decide_eq_true_iff];omega) (fun lt=>?_) (fun _=>⟨_,_,_,_,_,_,_,_,_,_,rfl,A.le (by omega)⟩);have hu:us[i]?=some us[i]:=h_ lt;obtain⟨r,hr,fa,hur,hfa⟩:=Paired.getL A.rows hu;have hrL:r∈L:=bY hr;have zfr:=(A.fl r hrL).1;have ati:vV (us.map V.ref) (0+(i:Int))=some (.ref us[i]):=by rw[Int.zero_add];exact bQ (by rw[cO,hu];rfl)
  refine⟨_,rfl,_,rfl,l,_,_,_,rfl,rfl,aA.of A.hl,ati,us[i],_,rfl,aY.of hur,rfl,_,_,rfl,_,_,rfl,rfl,?_⟩;have T6:=T'.same A.S;refine⟨_,rfl,.inr (.inl ⟨t',_,3,_,rfl,rfl,aY.of T6.t,rfl,l4',rfl,⟨_,aA.of T6.a4⟩,fun wl hwl=>?_⟩)⟩;have w0:H wl=none:=A.S.free hwl;have nwl:wl≠l:=(ag A.hl hwl).symm;refine bU (xs:=ts'.map V.ref) (fun j vs H'=>∃ws:List Addr,vs=ws.map V.ref/\Paired (lQ H') ws (((ds'.take j).filter fun d=>decide (d.a=r.1)).map fun d=>(d.sg,d.b))/\ab H6 H'/\H' wl=some (.lst vs)) ⟨[],rfl,.nil,ab.new hwl,aa⟩ (fun j vs H' _ ⟨_,_,_,S,h'⟩=>⟨h',aA.of (S _ _ T6.a4)⟩) ?_ ?_
  ·rintro vs H7 ⟨ws,rfl,hws,S7,hw7⟩;rw[ai,Paired.length T'.ds,bf]at hws;have A7:=A.same S7;have fin:∀(us':Ze) (L':List bM) (kvs':List (TK×V)) (H':Hp) (y8 y9 y10:Option V),uh H l kd (1+1001 * i+1001) H' us' L' kvs'->∃(us:Ze) (L:List bM) (kvs:List (TK×V)) (x4 x5 x6 x7 x8 x9 x10:Option V),([some (.ref t),some (.ref t'),some (.ref l),some (.ref kd),some (.int (0+(i:Int))),some (.str r.1),some (.ref fa),some (.ref wl),y8,y9,y10]:L2.St)=[some (.ref t),some (.ref t'),some (.ref l),some (.ref kd),x4,x5,x6,x7,x8,x9,x10]/\uh H l kd (1+1001 * (i+1)) H' us L kvs:=fun us' L' kvs' H' y8 y9 y10 A'=>⟨_,_,_,_,_,_,_,_,_,_,rfl,A'.le (by omega)⟩;have zw:(((ds'.filter fun d=>decide (d.a=r.1)).map fun d=>(d.sg,d.b)):List (Sg×Str)).length<=1000:=by
    rw[ai];exact bh (cF _ _) z4
   refine⟨_,rfl,_,rfl,t',l1,l2,l3',l4',ts',J0,J1,rooms',ds',r.1,rfl,T'.same A7.S,m',fun H8 S8=>⟨_,rfl,?_⟩⟩;have A8:=A7.same S8;have hf8:SignAt H8 fa r.2:=S8 _ _ (S7 _ _ hfa);have hws8:=Paired.mapP hws fun _ _ (q:lQ H7 _ _)=>q.kt (ab.kt S8);have hw8:=S8 _ _ hw7;refine ji (P:=r.1∉eC ds') (by simp) (fun c=>?_) (fun c=>wV T m A8 hw8 hws8 (by omega) nwl (by omega) hf8 zfr fin);refine⟨_,rfl,.inl ⟨rfl,_,aA.of hw8⟩,(by show 1<=ah;decide),fun q1 hq1=>?_⟩;have S9:ab H8 (upd H8 q1 (.tup [V.str ("hush":Str)])):=ab.new hq1;have q9:upd H8 q1 (.tup [V.str ("hush":Str)]) q1=some (.tup (bH.map V.str)):=aa;generalize upd H8 q1 (.tup [V.str ("hush":Str)])=H9 at S9 q9 ⊢;refine⟨_,rfl,(by show 2<=ah;decide),fun q2 hq2=>?_⟩;have S10:ab H8 (upd H9 q2 (.tup [.ref q1,.str r.1])):=S9.trans (ab.new hq2);have w10:lQ (upd H9 q2 (.tup [.ref q1,.str r.1])) q2 (bH,r.1):=⟨q1,aa,kp q9 hq2⟩;generalize upd H9 q2 (.tup [.ref q1,.str r.1])=H10 at S10 w10 ⊢;have hw10:=S10 _ _ hw8;refine⟨wl,_,.ref q2,rfl,rfl,hw10,by rw[ai,Paired.length hws];exact kF (by omega),?_⟩;have kt11:jZ H10 (upd H10 wl (.lst (ws.map V.ref++[.ref q2]))):=eD hw10;refine wV (ws:=ws++[q2]) T m ((A8.same S10).other nwl hw10 w0) (by rw[aa,aB];rfl) (fA (Paired.mapP hws8 fun _ _ q=>q.kt ((ab.kt S10).trans kt11)) (w10.kt kt11)) (by rw[aO];show _+1<=_;omega) nwl (by omega) (((ab.kt S10).trans kt11) _ _ hf8) zfr fin
  ·rintro j vs H' v hv hj ⟨ws,rfl,hws,S,h'⟩;obtain⟨u,hu',rfl⟩:=cg hv;obtain⟨d,hd,hat⟩:=Paired.getL T6.ds hu';obtain⟨sb,hud,hsb⟩:=hat.kt (ab.kt S);have jl:j<ds'.length:=(cE.mp hd).1;refine gN ?_;refine⟨_,rfl,.inr (.inl ⟨u,_,0,_,rfl,rfl,aY.of hud,bQ (j:=0) rfl,_,rfl,rfl,_,rfl,?_⟩)⟩;refine ji (P:=d.a=r.1) (by simp) (fun c=>?_) (fun c=>?_)
   ·refine⟨_,rfl,.inr (.inl ⟨u,_,1,_,rfl,rfl,aY.of hud,bQ (j:=1) rfl,_,rfl,.inr (.inl ⟨u,_,2,_,rfl,rfl,aY.of hud,bQ (j:=2) rfl,(by show 2<=ah;decide),fun q hq=>⟨kp h' hq,?_,j4 hj ⟨ws++[q],by rw[aB];rfl,?_,?_,aa⟩⟩⟩)⟩)⟩
    ·rw[ai,Paired.length hws,ai];exact kF (bh (cF _ _) (by rw[aD];omega))
    ·have kt:jZ H' (upd (upd H' q (.tup [.ref sb,.str d.b])) wl (.lst (ws.map V.ref++[.ref q]))):=(ab.kt (ab.new hq)).trans (eD (kp h' hq));rw[take_snoc hd,lT,show([d].filter fun d=>decide (d.a=r.1))=[d] by simp[c],aB];refine fA (Paired.mapP hws fun _ _ r=>r.kt kt) ⟨sb,?_,kt _ _ hsb⟩;rw[aj (ag h' hq).symm];exact aa
    ·intro b o e;rw[aj (ag e hwl)];exact kp (S _ _ e) hq
   ·refine j4 hj ⟨ws,rfl,?_,S,h'⟩;rw[take_snoc hd,lT,show([d].filter fun d=>decide (d.a=r.1))=[] by simp[c],dv];exact hws
 ·rintro σ H6 ⟨us,L,kvs,x4,x5,x6,x7,x8,x9,x10,rfl,A⟩;exact⟨_,rfl,k l us L H6 A.hl A.rows A.ne (bh A.zl (by decide)) A.fl l0 A.S⟩
def SE(σ:L2.St)(H0:Hp)(te:TE)(w:Str):Prop:=∀(H:Hp) (Q:VK),ab H0 H->Q (.str w) H->te σ H Q
def IE(σ:L2.St)(H0:Hp)(te:TE)(n:Nat):Prop:=∀(H:Hp) (Q:VK),ab H0 H->Q (.int n) H->te σ H Q
def FE(σ:L2.St)(H0:Hp)(te:TE)(g:Zb):Prop:=∀(H:Hp) (Q:VK),ab H0 H->(∀f H',SignAt H' f g->ab H H'->Q (.ref f) H')->te σ H Q
def XE(σ:L2.St)(H0:Hp)(te:TE)(r:bM):Prop:=∀(H:Hp) (Q:VK),ab H0 H->(∀u H',gV H' u r->ab H H'->Q (.ref u) H')->te σ H Q
def LE(σ:L2.St)(H0:Hp)(te:TE)(L:List bM):Prop:=∀(H:Hp) (Q:VK),ab H0 H->(∀l us H',H' l=some (.lst (us.map V.ref))->Paired (gV H') us L->ab H H'->Q (.ref l) H')->te σ H Q
section
variable{K:Za}{σ:L2.St}{H0:Hp}{te tf:TE}{w:Str}{g:Zb}{r:bM}{L L1 L2':List bM}{i n:Nat}{a:Addr}
theorem yn(h:∀(H:Hp) (Q:VK),Q (.str w) H->cL i σ H Q):SE σ H0 (cL i) w:=fun H Q _ q=>h H Q q
theorem yU(h:∀(H:Hp) (Q:VK),Q (.ref a) H->cL i σ H Q)(ha:SignAt H0 a g):FE σ H0 (cL i) g:=fun H Q S q=>h H Q (q a H (S _ _ ha) (ab.refl _))
theorem Fw(h:∀(H:Hp) (Q:VK),Q (.ref a) H->cL i σ H Q)(ha:H0 a=some (.lst [.str w])):SE σ H0 (ay (cM K) (cL i) (tC (.int 0))) w:=fun H Q S q=>h H _ ⟨a,_,0,_,rfl,rfl,aA.of (S _ _ ha),bQ (j:=0) rfl,q⟩
theorem FP(h:∀(H:Hp) (Q:VK),Q (.ref a) H->cL i σ H Q)(ha:SignAt H0 a g):FE σ H0 (Cb K (cL i)) g.reverse:=fun H Q S q =>
 h H _ ⟨a,_,rfl,aY.of (S _ _ ha),fun p hp=>q p _ (by unfold SignAt;rw[aa,List.map_reverse]) (ab.new hp)⟩
theorem At(h:SE σ H0 te w):FE σ H0 (bd (aq te a_)) [w]:=fun H Q S q=>h H _ S ⟨(by show 1<=ah;decide),fun p hp=>q p _ aa (ab.new hp)⟩
theorem Df{g':Zb}(h:∀(H:Hp) (Q:VK),Q (.ref a) H->cL i σ H Q)(ha:SignAt H0 a g)(hf:FE σ H0 tf g')(n1:g≠[])(n2:g'≠[])(z:g.length+g'.length<=1000):FE σ H0 (ay (z9 K) (cL i) tf) (g++g'):=fun H Q S q =>
 h H _ (hf H _ S fun f H1 h1 S1=>⟨a,f,_,_,rfl,rfl,aY.of (S1 _ _ (S _ _ ha)),aY.of h1,by simpa using n1,by rw[ai,ai];exact fh (aw z),fun e=>absurd e (by simpa using n2),fun _ p hp=>q p _ (by unfold SignAt;rw[aa,aB]) (S1.trans (ab.new hp))⟩)
theorem EI(h:∀(H:Hp) (Q:VK),Q (.ref a) H->cL i σ H Q)(ha:SignAt H0 a g):FE σ H0 (ic (Fz K) (cL i) (aT) (bA (tC (.int 1)))) (g.take 1):=fun H Q S q=>by
 refine h H _ ⟨1,rfl,?_⟩;by_cases c:HT.sIx (g.map V.str).length 0 none=0/\HT.sIx (g.map V.str).length (g.map V.str).length (some 1)=(g.map V.str).length
 ·refine .inr ⟨a,_,rfl,aY.of (S _ _ ha),c.1,c.2,q a H ?_ (ab.refl _)⟩;have e:=c.2;rw[show(some (1:Int))=some ((1:Nat):Int)from rfl,HT.sIx_nat,ai]at e;rw[nW (by omega)];exact S _ _ ha
 ·refine .inl ⟨a,_,rfl,aY.of (S _ _ ha),c,fun p hp=>q p _ ?_ (ab.new hp)⟩;unfold SignAt;rw[aa,show(some (1:Int))=some ((1:Nat):Int)from rfl,gS]
theorem kq(h1:SE σ H0 te w)(h2:FE σ H0 tf g):XE σ H0 (bd (aq te (aq tf a_))) (w,g):=fun H Q S q =>
 h1 H _ S (h2 H _ S fun f H1 hf S1=>⟨(by show 2<=ah;decide),fun p hp=>q p _ ⟨f,aa,kp hf hp⟩ (S1.trans (ab.new hp))⟩)
theorem yM(h:XE σ H0 te r):LE σ H0 (db (aq te a_)) [r]:=fun H Q S q =>
 h H _ S fun u H1 hu S1=>⟨(by show 1<=ah;decide),fun p hp=>q p [u] _ aa (.cons (hu.kt (ab.kt (ab.new hp))) .nil) (S1.trans (ab.new hp))⟩
theorem CW{us:Ze}(h:∀(H:Hp) (Q:VK),Q (.ref a) H->cL i σ H Q)(ha:H0 a=some (.lst (us.map V.ref)))(hu:Paired (gV H0) us L):LE σ H0 (cL i) L:=fun H Q S q =>
 h H Q (q a us H (S _ _ ha) (Paired.mapP hu fun _ _ r=>r.kt (ab.kt S)) (ab.refl _))
theorem kL(h1:LE σ H0 te L1)(h2:LE σ H0 tf L2')(z:L1.length+L2'.length<=200000):LE σ H0 (ay eS te tf) (L1++L2'):=fun H Q S q =>
 h1 H _ S fun l us H1 hl hu S1=>h2 H1 _ (S.trans S1) fun l' us' H2 hl' hu' S2=>by
  refine⟨l,l',_,_,rfl,rfl,S2 _ _ hl,hl',?_,fun p hp=>?_⟩
  ·rw[ai,ai,Paired.length hu,Paired.length hu'];exact fh (kF z)
  ·have S3:ab H2 (upd H2 p (.lst (us.map V.ref++us'.map V.ref))):=ab.new hp;refine q p (us++us') _ (by rw[aa,aB]) (Paired.app (Paired.mapP hu fun _ _ r=>r.kt (ab.kt (S2.trans S3))) (Paired.mapP hu' fun _ _ r=>r.kt (ab.kt S3))) ((S1.trans S2).trans S3)
theorem ED{us:Ze}(h:∀(H:Hp) (Q:VK),Q (.ref a) H->cL i σ H Q)(ha:H0 a=some (.lst (us.map V.ref)))(hu:Paired (gV H0) us L)(hn:IE σ H0 te n):LE σ H0 (ic (c6 K) (cL i) (aT) (bA te)) (L.take n):=fun H Q S q =>
 h H _ (hn H _ S ⟨n,rfl,a,_,rfl,aA.of (S _ _ ha),fun p hp=>by
  have S1:ab H (upd H p (.lst (cD (us.map V.ref) none (some (n:Int))))):=ab.new hp;exact q p (us.take n) _ (by rw[aa,Dp,lV]) (Paired.mapP (Paired.takeP n hu) fun _ _ r=>r.kt (ab.kt (S.trans S1))) S1⟩)
theorem Ao{us:Ze}(h:∀(H:Hp) (Q:VK),Q (.ref a) H->cL i σ H Q)(ha:H0 a=some (.lst (us.map V.ref)))(hu:Paired (gV H0) us L)(hn:IE σ H0 te n):LE σ H0 (ic (c6 K) (cL i) (bA te) (aT)) (L.drop n):=fun H Q S q =>
 h H _ (hn H _ S ⟨n,rfl,a,_,rfl,aA.of (S _ _ ha),fun p hp=>by
  have S1:ab H (upd H p (.lst (cD (us.map V.ref) (some (n:Int)) none))):=ab.new hp;exact q p (us.drop n) _ (by rw[aa,yY,nX]) (Paired.mapP (Paired.dropP n hu) fun _ _ r=>r.kt (ab.kt (S.trans S1))) S1⟩)
theorem FJ{us:Ze}{k:Nat}(h:∀(H:Hp) (Q:VK),Q (.ref a) H->cL i σ H Q)(ha:H0 a=some (.lst (us.map V.ref)))(hu:Paired (gV H0) us L)(hn:IE σ H0 te n)(hk:IE σ H0 tf k)(z1:n<=k)(z2:k<=us.length):LE σ H0 (ic (c6 K) (cL i) (bA te) (bA tf)) ((L.drop n).take (k-n)):=fun H Q S q =>
 h H _ (hn H _ S ⟨n,rfl,hk H _ S ⟨k,rfl,a,_,rfl,aA.of (S _ _ ha),fun p hp=>by
  have S1:ab H (upd H p (.lst (cD (us.map V.ref) (some (n:Int)) (some (k:Int))))):=ab.new hp;refine q p ((us.drop n).take (k-n)) _ ?_ (Paired.mapP (Paired.takeP _ (Paired.dropP n hu)) fun _ _ r=>r.kt (ab.kt (S.trans S1))) S1;rw[aa];unfold cD;rw[HT.sIx_nat,HT.sIx_nat,ai,lU z2,lU (show n<=us.length by omega),lV,nX]⟩⟩)
theorem yR(h:∀(H:Hp) (Q:VK),Q (.int n) H->cL i σ H Q):IE σ H0 (cL i) n:=fun H Q _ q=>h H Q q
theorem C3(h:∀(H:Hp) (Q:VK),Q (.int n) H->cL i σ H Q):IE σ H0 (ay dz (cL i) (tC (.int 1))) (n+1):=fun H Q _ q=>h H _ ⟨_,_,rfl,rfl,q⟩
end
abbrev eQ:List Str:=("abcdefghijklm":Str).cps.toList.map fun c=>(⟨#[c]⟩:Str)
theorem Bo:eQ.Nodup:=by decide +kernel
theorem Ez{R:Zb}(h:R.length<=12):∃w,(eQ.filter fun w=>!decide (w∈R)).take 1=[w]:=by
 cases q:eQ.filter fun w=>!decide (w∈R)with
 |nil =>
  have all:∀w∈eQ,w∈R:=fun w hw=>by
   by_cases c:w∈R
   ·exact c
   ·have:w∈eQ.filter fun w=>!decide (w∈R):=dO.2 ⟨hw,by simp[c]⟩;rw[q]at this;cases this
  have:=jf Bo all;have e:eQ.length=13:=by decide +kernel
  omega
 |cons w ws=>exact⟨w,rfl⟩
def wm(L:List bM):Prop:=∀r∈L,r.2.length<=1000
theorem wm.app{L M:List bM}(h:wm L)(g:wm M):wm (L++M):=fun r hr=>(bN.1 hr).elim (h r) (g r)
theorem wm.take{L:List bM}(h:wm L)(n:Nat):wm (L.take n):=fun r hr=>h r (fT hr)
theorem wm.drop{L:List bM}(h:wm L)(n:Nat):wm (L.drop n):=fun r hr=>h r (ur hr)
theorem wm.one{w:Str}{g:Zb}(h:g.length<=1000):wm [(w,g)]:=fun r hr=>by rw[cz.1 hr];exact h
inductive nj(K:Za)(vs:List V)(H:Hp)(Q:VK)(E:XK):Prop
 |mk (p c t t' pl l1 l2 l3 l4 l3' l4':Addr) (ts ts' us:Ze) (J0 J1 J2 rooms':Zb) (ds ds':List am) (L:List bM):(vs=[.ref p,.ref t,.ref t',.ref pl])->(fo H p c)->(fL H t l1 l2 l3 l4 ts J0 J1 J2 ds)->(aN J0 J1 J2 ds)->(fL H t' l1 l2 l3' l4' ts' J0 J1 rooms' ds')->(aN J0 J1 rooms' ds')->(J2.length+rooms'.length<=12)->(H pl=some (.lst (us.map V.ref)))->(Paired (gV H) us L)->(L≠[])->(L.length<=70000)->(∀r∈L,r.2.length<=150/\r.2≠[])->(∀(l:Addr) (us':Ze) (L':List bM) (H':Hp),H' l=some (.lst (us'.map V.ref))->Paired (gV H') us' L'->L'.length<=70001->wm L'->fo H' p c->cx p H H'->Q (.ref l) H')->nj K vs H Q E
theorem Cr{K:Za}{vs:List V}{H:Hp}{Q:VK}{E:XK}(h:nj K vs H Q E):x_ K pW eg k_ (bJ Q) (start zp vs) H:=by
 obtain⟨p,c,t,t',pl,l1,l2,l3,l4,l3',l4',ts,ts',us,J0,J1,J2,rooms',ds,ds',L,rfl,hp,T,m,T',m',z12,hpl,hus,ne,zL,fl,k⟩:=h;have el:=Paired.length hus;have lp:0<L.length:=List.length_pos_iff.2 ne;refine⟨_,rfl,p,c,rfl,hp,fun H1 hp1 ex1=>?_⟩;refine⟨_,rfl,p,c,11,rfl,hp1,by decide,by decide,fun way H2 w0 w1 hp2 ex2=>?_⟩;have ex02:=ex1.trans ex2;have pl2:=ex02 _ _ hpl (hp.ne_refs hpl);refine⟨_,rfl,_,rfl,.inl ⟨pl,_,rfl,.inl (aA.of pl2),p,c,_,rfl,hp2,by rw[ai];omega,by rw[ai];omega,fun at0 H3 a0 a1 hp3 ex3=>?_⟩⟩;rw[ai]at a1;obtain⟨at',rfl⟩:=gy a0;have alt:at'<us.length:=by omega
 have ex03:=ex02.trans ex3;have T3:=T.ex hp ex03;have T3':=T'.ex hp ex03;refine⟨_,rfl,fun ol hol=>?_⟩;refine xA (fun i vs H'=>vs=((eQ.take i).filter fun w=>!decide (w∈J2++rooms')).map V.str/\ab H3 H'/\H' ol=some (.lst vs)) ⟨rfl,ab.new hol,aa⟩ (fun i vs H' _ h=>h.2.2) ?_ ?_;rotate_left
 ·rintro i vs H' cc hc hi ⟨rfl,S,h'⟩;have hw:eQ[i]?=some (⟨#[cc]⟩:Str):=by rw[cO,uN,hc];rfl
  refine gN ?_;have T4:=T3.same S;have T4':=T3'.same S;refine⟨_,rfl,_,rfl,.inr (.inl ⟨t,_,2,_,rfl,rfl,aY.of T4.t,rfl,_,rfl,.inr (.inl ⟨t',_,2,_,rfl,rfl,aY.of T4'.t,rfl,l3,l3',_,_,rfl,rfl,T4.a3,T4'.a3,by rw[ai,ai,p9];omega,fun q hq=>⟨fE ⟨#[cc]⟩,(J2++rooms').map fE,q,(J2++rooms').map V.str,iu _,rfl,.inl (aA.of (by rw[aa,aB])),ir _,(by show 0<=8;decide),by rw[dk];decide,_,rfl,?_⟩⟩)⟩)⟩;rw[if_pos rfl,lq];have S5:ab H3 (upd H' q (.lst (J2.map V.str++rooms'.map V.str))):=S.trans (ab.new hq);have h5:upd H' q (.lst (J2.map V.str++rooms'.map V.str)) ol=_:=kp h' hq;generalize upd H' q (.lst (J2.map V.str++rooms'.map V.str))=H5 at S5 h5 ⊢;have hlen:(((eQ.take i).filter fun w=>!decide (w∈J2++rooms')).map V.str).length<ah:=by
   rw[ai];have e:eQ.length=13:=by decide +kernel
   refine aw (bh (cF _ _) ?_);rw[aD];omega
  refine gP (fun hq=>?_) (fun hq=>?_)
  ·refine⟨_,rfl,h5,hlen,j4 hi ⟨?_,?_,aa⟩⟩
   ·rw[bD hw,if_pos hq,aB];rfl
   ·intro b o e;rw[aj (ag e hol)];exact S5 _ _ e
  ·refine j4 hi ⟨?_,S5,h5⟩;rw[bD hw,if_neg hq,dv]
 rintro vs H4 ⟨rfl,S4,e4⟩;have et:eQ.take ("abcdefghijklm":Str).cps.size=eQ:=nW (by decide +kernel);rw[et]at e4;refine⟨_,rfl,ol,_,rfl,aA.of e4,fun od hod=>?_⟩;obtain⟨o,eo⟩:=Ez (R:=J2++rooms') (by rw[aO];exact z12);have od5:upd H4 od (.lst (cD ((eQ.filter fun w=>!decide (w∈J2++rooms')).map V.str) none (some 1))) od=some (.lst [.str o]):=by
  rw[aa];have:=gS (eQ.filter fun w=>!decide (w∈J2++rooms')) 1;rw[show((1:Nat):Int)=1 from rfl]at this;rw[this,eo];rfl
 have S5:ab H3 (upd H4 od (.lst (cD ((eQ.filter fun w=>!decide (w∈J2++rooms')).map V.str) none (some 1)))):=S4.trans (ab.new hod);generalize upd H4 od (.lst (cD ((eQ.filter fun w=>!decide (w∈J2++rooms')).map V.str) none (some 1)))=H5 at od5 S5 ⊢;have T5:=T3.same S5;have T5':=T3'.same S5;refine⟨_,rfl,.inr (.inl ⟨t',_,2,_,rfl,rfl,aY.of T5'.t,rfl,_,rfl,l3',od,_,_,rfl,rfl,T5'.a3,od5,by rw[ai,p9];show _+1<=_;omega,fun q1 hq1=>?_⟩)⟩;have q6:upd H5 q1 (.lst (rooms'.map V.str++[.str o])) q1=some (.lst ((rooms'++[o]).map V.str)):=by rw[aa,aB];rfl
 have S6:ab H5 (upd H5 q1 (.lst (rooms'.map V.str++[.str o]))):=ab.new hq1;generalize upd H5 q1 (.lst (rooms'.map V.str++[.str o]))=H6 at q6 S6 ⊢;have T6:=T5.same S6;refine⟨_,rfl,.inr (.inl ⟨t,_,2,_,rfl,rfl,aY.of T6.t,rfl,1,rfl,l3,_,rfl,aA.of T6.a3,fun q2 hq2=>?_⟩)⟩;have q7:upd H6 q2 (.lst (cD (J2.map V.str) none (some 1))) q2=some (.lst ((J2.take 1).map V.str)):=by rw[aa,show(some (1:Int))=some ((1:Nat):Int)from rfl,gS]
 have S7:ab H6 (upd H6 q2 (.lst (cD (J2.map V.str) none (some 1)))):=ab.new hq2;generalize upd H6 q2 (.lst (cD (J2.map V.str) none (some 1)))=H7 at q7 S7 ⊢;refine⟨q1,q2,_,_,rfl,rfl,S7 _ _ q6,q7,by rw[ai,ai,aO,aD,p9];show _+1+_<=_;omega,fun rl hrl=>?_⟩;have r8:upd H7 rl (.lst ((rooms'++[o]).map V.str++(J2.take 1).map V.str)) rl=some (.lst ((rooms'++[o]++J2.take 1).map V.str)):=by rw[aa,aB (l₁:=rooms'++[o])]
 have S8:ab H7 (upd H7 rl (.lst ((rooms'++[o]).map V.str++(J2.take 1).map V.str))):=ab.new hrl;generalize upd H7 rl (.lst ((rooms'++[o]).map V.str++(J2.take 1).map V.str))=H8 at r8 S8 ⊢;have S38:ab H3 H8:=((S5.trans S6).trans S7).trans S8;have zR:0<(rooms'++[o]++J2.take 1).length/\(rooms'++[o]++J2.take 1).length<=1000:=by
  rw[aO,aO,aD];show 0<_+1+_/\_+1+_<=_;omega
 generalize rooms'++[o]++J2.take 1=R at r8 zR ⊢;refine⟨_,rfl,_,rfl,_,rfl,.inl ⟨rl,_,rfl,.inl (aA.of r8),p,c,_,rfl,hp3.ex S38,by rw[ai];omega,by rw[ai];omega,fun ri H9 ri0 ri1 hp9 ex9=>?_⟩⟩;rw[ai]at ri1;obtain⟨rn,rfl⟩:=gy ri0;have rlt:rn<R.length:=by omega
 have hp8:=hp3.ex S38;have r9:=ex9 _ _ r8 (hp8.ne_strs r8);refine⟨rl,_,_,.str R[rn],rfl,rfl,aA.of r9,bQ (by rw[cO,h_ rlt];rfl),?_⟩;have ex39:cx p H3 H9:=(ab.exB S38).trans ex9;have T9:=T3.ex hp3 ex39;refine⟨_,rfl,_,rfl,.inr (.inl ⟨t,_,2,_,rfl,rfl,aY.of T9.t,rfl,p,c,l3,J2,rfl,hp9,T9.a3,by omega,fun ff fc H10 sub hff hp10 ex10=>?_⟩)⟩;have zfc:fc.length<=1000:=bh sub.length_le (by omega);have ex010:cx p H H10:=(ex03.trans ex39).trans ex10;obtain⟨xs,hx⟩:=hp.lst;have kt10:jZ H H10:=ex010.kt hx;have pl10:=ex010 _ _ hpl (hp.ne_refs hpl);have us10:=Paired.mapP hus fun _ _ (r:gV H _ _)=>r.kt kt10;have od10:H10 od=some (.lst [.str o]):=by
  have h8:=S8 _ _ (S7 _ _ (S6 _ _ od5));have h9:=ex9 _ _ h8 (hp8.ne_strs (ws:=[o]) h8);exact ex10 _ _ h9 (hp9.ne_strs (ws:=[o]) h9)
 have hu:us[at']?=some us[at']:=h_ alt;obtain⟨r,hr,fa,hur,hfa⟩:=Paired.getL us10 hu;have hrf:=fl r (bY hr);refine⟨_,rfl,_,rfl,pl,_,_,_,rfl,rfl,aA.of pl10,bQ (by rw[cO,hu];rfl),us[at'],_,rfl,aY.of hur,rfl,_,_,rfl,_,_,rfl,rfl,?_⟩;generalize R[rn]=room;have okL:wm L:=fun r hr=>by have:=(fl r hr).1;omega
 have fin:∀{te:TE}{L':List bM},LE [some (.ref p),some (.ref t),some (.ref t'),some (.ref pl),some (.int way),some (.int (at':Nat)),some (.ref od),some (.ref rl),some (.str room),some (.ref ff),some (.str r.1),some (.ref fa)] H10 te L'->L'.length<=70001->wm L'->aU te (bJ Q) [some (.ref p),some (.ref t),some (.ref t'),some (.ref pl),some (.int way),some (.int (at':Nat)),some (.ref od),some (.ref rl),some (.str room),some (.ref ff),some (.str r.1),some (.ref fa)] H10 :=
  fun h z ok=>h H10 _ (ab.refl _) fun l us' H' hl hu S=>k l us' _ H' hl hu z ok (hp10.ex S) (ex010.trans (ab.exB S))
 have v3:∀(H:Hp) (Q:VK),Q (.ref pl) H->cL 3 [some (.ref p),some (.ref t),some (.ref t'),some (.ref pl),some (.int way),some (.int (at':Nat)),some (.ref od),some (.ref rl),some (.str room),some (.ref ff),some (.str r.1),some (.ref fa)] H Q:=fun _ _ q=>⟨_,rfl,q⟩;have v5:∀(H:Hp) (Q:VK),Q (.int (at':Nat)) H->cL 5 [some (.ref p),some (.ref t),some (.ref t'),some (.ref pl),some (.int way),some (.int (at':Nat)),some (.ref od),some (.ref rl),some (.str room),some (.ref ff),some (.str r.1),some (.ref fa)] H Q:=fun _ _ q=>⟨_,rfl,q⟩;have v6:∀(H:Hp) (Q:VK),Q (.ref od) H->cL 6 [some (.ref p),some (.ref t),some (.ref t'),some (.ref pl),some (.int way),some (.int (at':Nat)),some (.ref od),some (.ref rl),some (.str room),some (.ref ff),some (.str r.1),some (.ref fa)] H Q:=fun _ _ q=>⟨_,rfl,q⟩;have v8:∀(H:Hp) (Q:VK),Q (.str room) H->cL 8 [some (.ref p),some (.ref t),some (.ref t'),some (.ref pl),some (.int way),some (.int (at':Nat)),some (.ref od),some (.ref rl),some (.str room),some (.ref ff),some (.str r.1),some (.ref fa)] H Q:=fun _ _ q=>⟨_,rfl,q⟩;have v9:∀(H:Hp) (Q:VK),Q (.ref ff) H->cL 9 [some (.ref p),some (.ref t),some (.ref t'),some (.ref pl),some (.int way),some (.int (at':Nat)),some (.ref od),some (.ref rl),some (.str room),some (.ref ff),some (.str r.1),some (.ref fa)] H Q:=fun _ _ q=>⟨_,rfl,q⟩;have v10:∀(H:Hp) (Q:VK),Q (.str r.1) H->cL 10 [some (.ref p),some (.ref t),some (.ref t'),some (.ref pl),some (.int way),some (.int (at':Nat)),some (.ref od),some (.ref rl),some (.str room),some (.ref ff),some (.str r.1),some (.ref fa)] H Q:=fun _ _ q=>⟨_,rfl,q⟩;have v11:∀(H:Hp) (Q:VK),Q (.ref fa) H->cL 11 [some (.ref p),some (.ref t),some (.ref t'),some (.ref pl),some (.int way),some (.int (at':Nat)),some (.ref od),some (.ref rl),some (.str room),some (.ref ff),some (.str r.1),some (.ref fa)] H Q:=fun _ _ q=>⟨_,rfl,q⟩;have hd:LE _ H10 (ic (c6 K) V3 (aT) (bA V5)) (L.take at'):=ED v3 pl10 us10 (yR v5);have tl:LE _ H10 (ic (c6 K) V3 (bA V5) (aT)) (L.drop at'):=Ao v3 pl10 us10 (yR v5);have tl1:LE _ H10 (ic (c6 K) V3 (bA (ay dz V5 (tC (.int 1)))) (aT)) (L.drop (at'+1)):=Ao v3 pl10 us10 (C3 v5);have zt:(L.take at').length=at':=by rw[aD];omega
 have zd:(L.drop at').length=L.length-at':=dX;have zd1:(L.drop (at'+1)).length=L.length-(at'+1):=dX;have ins:∀{te:TE}{x:bM},XE _ H10 te x->x.2.length<=1000->aU (ay eS (ay eS (ic (c6 K) V3 (aT) (bA V5)) (db (aq te a_))) (ic (c6 K) V3 (bA V5) (aT))) (bJ Q) [some (.ref p),some (.ref t),some (.ref t'),some (.ref pl),some (.int way),some (.int (at':Nat)),some (.ref od),some (.ref rl),some (.str room),some (.ref ff),some (.str r.1),some (.ref fa)] H10:=fun{te x} hx zx=>by
  have l1:(L.take at'++[x]).length=at'+1:=by rw[aO,zt];rfl
  exact fin (kL (kL hd (yM hx) (by rw[zt];show _+1<=_;omega)) tl (by rw[l1,zd];omega)) (by rw[aO,l1,zd];omega) (((okL.take _).app (fun r hr=>by rw[cz.1 hr];exact zx)).app (okL.drop _))
 have own:=yU v11 hfa;have mine:=yn (H0:=H10) v10;have odd:=Fw (K:=K) v6 od10;refine⟨_,rfl,rfl,_,rfl,ji (P:=way=1) (by simp) (fun _=>fin (kL hd tl1 (by rw[zt,zd1];omega)) (by rw[aO,zt,zd1];omega) ((okL.take _).app (okL.drop _))) (fun _=>?_)⟩;refine⟨_,rfl,rfl,_,rfl,ji (P:=way=2) (by simp) (fun _=>ins (kq (yn v8) (yU v9 hff)) zfc) (fun _=>?_)⟩;refine⟨_,rfl,rfl,_,rfl,ji (P:=way=3) (by simp) (fun _=>?_) (fun _=>?_)⟩
 ·have l1:(L.drop at'++L.take at').length=L.length:=by rw[aO,zt,zd];omega
  have l2:((L.drop at').take (at'+1-at')).length<=1:=by rw[aD];omega
  exact fin (kL (kL tl hd (by rw[zt,zd];omega)) (FJ v3 pl10 us10 (yR v5) (C3 v5) (by omega) (by omega)) (by rw[l1];omega)) (by rw[aO,l1];omega) (((okL.drop _).app (okL.take _)).app ((okL.drop _).take _))
 refine⟨_,rfl,rfl,_,rfl,ji (P:=way=4) (by simp) (fun _=>ins (kq mine (FP v11 hfa)) (by show(r.2.reverse).length<=1000;rw[ut];omega)) (fun _=>?_)⟩;refine⟨_,rfl,rfl,_,rfl,ji (P:=way=5) (by simp) (fun _=>ins (kq mine (Df v11 hfa (EI v11 hfa) hrf.2 (by cases e:r.2 with|nil=>exact absurd e hrf.2|cons a b=>simp) (by rw[aD];omega))) (by show(r.2++r.2.take 1).length<=1000;rw[aO,aD];omega)) (fun _=>?_)⟩;refine⟨_,rfl,rfl,_,rfl,ji (P:=way=6) (by simp) (fun _=>?_) (fun _=>?_)⟩
 ·have l1:(L.take at'++[(r.1,fc)]).length=at'+1:=by rw[aO,zt];rfl
  exact fin (kL (kL hd (yM (kq mine (yU v9 hff))) (by rw[zt];show _+1<=_;omega)) tl1 (by rw[l1,zd1];omega)) (by rw[aO,l1,zd1];omega) (((okL.take _).app (wm.one zfc)).app (okL.drop _))
 refine⟨_,rfl,rfl,_,rfl,ji (P:=way=7) (by simp) (fun _=>ins (kq (yn v8) own) (by show r.2.length<=1000;omega)) (fun _=>?_)⟩;refine⟨_,rfl,rfl,_,rfl,ji (P:=way=8) (by simp) (fun _=>ins (kq mine (Df v11 hfa (At odd) hrf.2 (by simp) (by show _+1<=_;omega))) (by show(r.2++[o]).length<=1000;rw[aO];show _+1<=_;omega)) (fun _=>?_)⟩;refine⟨_,rfl,rfl,_,rfl,ji (P:=way=9) (by simp) (fun _=>ins (kq odd own) (by show r.2.length<=1000;omega)) (fun _=>?_)⟩;refine⟨_,rfl,rfl,_,rfl,ji (P:=way=10) (by simp) (fun _=>?_) (fun _=>?_)⟩
 ·exact fin (kL (CW v3 pl10 us10) (yM (kq mine (At odd))) (by show _+1<=_;omega)) (by rw[aO];show _+1<=_;omega) (okL.app (wm.one (by show 1<=1000;decide)))
 ·exact fin (CW v3 pl10 us10) (by omega) okL
def Bv(r:bM):DT:=.t [fE r.1,gB r.2]
theorem t9(L:List bM):DT.depths (L.map Bv)<=2:=by
 induction L with
 |nil=>exact dL _
 |cons r L ih =>
  rw[bI];show max (max 0 (max (gB r.2).depth 0)+1) _<=2;rw[aZ];omega
theorem xu{K:Za}{H:Hp}:∀{us:Ze}{L:List bM},Paired (gV H) us L->DIns K H (L.map Bv) (us.map V.ref)
 |_,_,.nil=>by show DIns K H [] [];unfold DIns;rfl
 |_,_,.cons r t=>by
  rw[bI,bI];unfold DIns;refine⟨_,_,rfl,?_,xu t⟩;obtain⟨ft,h1,h2⟩:=r;unfold Bv gW;refine⟨_,_,rfl,aY.of h1,?_⟩;unfold DIns;refine⟨_,_,rfl,iu _,?_⟩;unfold DIns;refine⟨_,_,rfl,aL (aY.of h2),?_⟩;unfold DIns
  rfl
structure iQ(H:Hp)(l:Addr)(us:Ze)(L:List bM):Prop where
 at_:H l=some (.lst (us.map V.ref))
 rows:Paired (gV H) us L
 len:L.length<=70001
 ok:wm L
theorem iQ.dIn{K:Za}{H:Hp}{l:Addr}{us:Ze}{L:List bM}(h:iQ H l us L):gW K H (.s (L.map Bv)) (.ref l):=by
 unfold gW;exact⟨l,_,rfl,aA.of h.at_,xu h.rows⟩
theorem iQ.same{H H':Hp}{l:Addr}{us:Ze}{L:List bM}(S:ab H H')(h:iQ H l us L):iQ H' l us L:=⟨S _ _ h.at_,Paired.mapP h.rows fun _ _ r=>r.kt (ab.kt S),h.len,h.ok⟩
theorem iQ.ex{H H':Hp}{l p c:Addr}{us:Ze}{L:List bM}(h:iQ H l us L)(hp:fo H p c)(e:cx p H H'):iQ H' l us L:=by
 obtain⟨xs,hx⟩:=hp.lst;exact⟨e _ _ h.at_ (hp.ne_refs h.at_),Paired.mapP h.rows fun _ _ r=>r.kt (e.kt hx),h.len,h.ok⟩
inductive sp_law24(K:Za)(vs:List V)(H:Hp)(Q:VK)(E:XK):Prop
 |mk (a:Addr) (ns:List Int):(vs=[.ref a])->(aA K H a (ns.map V.int))->(ns.length<=63)->(∀H',Q (.bl true) H')->sp_law24 K vs H Q E
theorem Cp{K:Za}{C:Addr}{vs:List V}{H:Hp}{Q:VK}{E:XK}(h:sp_law24 K vs H Q E):DS K (nj K) (k4 K 1) (jF K C) (jD K) (k5 K) (jE C) pY ng (pX K) (bJ Q) (start AK vs) H:=by
 obtain⟨a,ns,rfl,hs,hn,k⟩:=h;refine⟨_,rfl,a,ns,rfl,hs,hn,fun p c H1 _ hp1 S1=>?_⟩;refine⟨_,rfl,p,c,4,0,rfl,hp1,by decide,by decide,by decide,by decide,fun t l1 l2 l3 l4 ts J0 J1 J2 ds H2 T m zr zd hp2 ex2=>?_⟩;have zr:J2.length<=4:=zr;refine⟨_,rfl,_,rfl,p,c,t,l1,l2,l3,l4,ts,J0,J1,J2,ds,2,rfl,hp2,T,m,by omega,by omega,by omega,fun t' l3' l4' ts' rooms' ds' H3 T' m' tk len _ hp3 ex3=>?_⟩;have T3:=T.ex hp2 ex3;refine⟨_,rfl,t,l1,l2,l3,l4,ts,J0,J1,J2,ds,rfl,T3,m,fun x H4 M4 S4=>?_⟩;refine⟨_,rfl,t',l1,l2,l3',l4',ts',J0,J1,rooms',ds',rfl,T'.same S4,m',fun y H5 N5 S5=>?_⟩;have M5:=M4.same S5;have S35:=S4.trans S5;refine⟨_,rfl,_,rfl,t,t',l1,l2,l3,l4,l3',l4',ts,ts',J0,J1,J2,rooms',ds,ds',rfl,T3.same S35,m,T'.same S35,m',fun pl us L H6 hpl hus ne zL fl l0 S6=>?_⟩;have S36:=S35.trans S6;have hp6:=hp3.ex S36;have T6:=T3.same S36;have T6':=T'.same S36;have A6:iQ H6 pl us L:=⟨hpl,hus,by omega,fun r hr=>by have:=(fl r hr).1;omega⟩;refine⟨_,rfl,_,rfl,_,rfl,_,rfl,_,rfl,p,c,t,t',pl,l1,l2,l3,l4,l3',l4',ts,ts',us,J0,J1,J2,rooms',ds,ds',L,rfl,hp6,T6,m,T6',m',by omega,hpl,hus,ne,zL,fl,fun b1 us1 L1 H7 hb1 hu1 z1 ok1 hp7 ex7=>?_⟩;have B7:iQ H7 b1 us1 L1:=⟨hb1,hu1,z1,ok1⟩;have A7:=A6.ex hp6 ex7;refine⟨(by show 0<=ah;decide),fun e hE=>?_⟩;have S8:ab H7 (upd H7 e (.lst [])):=ab.new hE;have E8:iQ (upd H7 e (.lst [])) e [] []:=⟨aa,.nil,by show 0<=70001;decide,fun r hr=>by cases hr⟩;generalize upd H7 e (.lst [])=H8 at S8 E8 ⊢;have T8:=(T6.ex hp6 ex7).same S8;have T8':=(T6'.ex hp6 ex7).same S8;have A8:=A7.same S8;have hp8:=hp7.ex S8;refine⟨_,rfl,_,rfl,_,rfl,_,rfl,p,c,t,t',pl,l1,l2,l3,l4,l3',l4',ts,ts',us,J0,J1,J2,rooms',ds,ds',L,rfl,hp8,T8,m,T8',m',by omega,A8.at_,A8.rows,ne,zL,fl,fun b2 us2 L2' H9 hb2 hu2 z2 ok2 hp9 ex9=>?_⟩;have C9:iQ H9 b2 us2 L2':=⟨hb2,hu2,z2,ok2⟩;have A9:=A8.ex hp8 ex9;have B9:=(B7.same S8).ex hp8 ex9;have E9:=E8.ex hp8 ex9;refine⟨(by show 4<=ah;decide),fun wl hwl=>?_⟩;have S10:ab H9 (upd H9 wl (.lst [.ref pl,.ref b1,.ref e,.ref b2])):=ab.new hwl;have w10:upd H9 wl (.lst [.ref pl,.ref b1,.ref e,.ref b2]) wl=some (.lst [.ref pl,.ref b1,.ref e,.ref b2]):=aa;generalize upd H9 wl (.lst [.ref pl,.ref b1,.ref e,.ref b2])=H10 at S10 w10 ⊢;have T10:=(T8.ex hp8 ex9).same S10;have T10':=(T8'.ex hp8 ex9).same S10;have M10:=((((M5.same S6).ex hp6 ex7).same S8).ex hp8 ex9).same S10;have N10:=((((N5.same S6).ex hp6 ex7).same S8).ex hp8 ex9).same S10;have all:∀v∈([.ref pl,.ref b1,.ref e,.ref b2]:List V),∃l us L,v=.ref l/\iQ H10 l us L:=by
  intro v hv;rcases cv.1 hv with rfl|hv
  ·exact⟨_,_,_,rfl,A9.same S10⟩
  rcases cv.1 hv with rfl|hv
  ·exact⟨_,_,_,rfl,B9.same S10⟩
  rcases cv.1 hv with rfl|hv
  ·exact⟨_,_,_,rfl,E9.same S10⟩
  rcases cv.1 hv with rfl|hv
  ·exact⟨_,_,_,rfl,C9.same S10⟩
  cases hv
 refine⟨wl,rfl,⟨_,aA.of w10⟩,?_⟩;refine bW (xs:=[.ref pl,.ref b1,.ref e,.ref b2]) (fun i σ H'=>∃x7 x8 x9:Option V,σ=[some (.ref a),some (.ref p),some (.ref t),some (.ref t'),some (.ref x),some (.ref y),some (.ref pl),x7,x8,x9]/\ab H10 H') ⟨_,_,_,rfl,ab.refl _⟩ (fun i σ H' _ ⟨_,_,_,_,S⟩=>aA.of (S _ _ w10)) ?_ ?_
 ·rintro i v σ H11 hi ⟨x7,x8,x9,rfl,S11⟩;obtain⟨q,uq,Lq,rfl,P⟩:=all v (bY hi);have P11:=P.same S11;refine⟨_,rfl,.inl ⟨q,_,rfl,.inl (aA.of P11.at_),fun hd hhd=>?_⟩⟩;have S12:ab H11 (upd H11 hd (.lst (uq.map V.ref))):=ab.new hhd;have D12:iQ (upd H11 hd (.lst (uq.map V.ref))) hd uq Lq:=⟨aa,(P11.same S12).rows,P.len,P.ok⟩;generalize upd H11 hd (.lst (uq.map V.ref))=H12 at S12 D12 ⊢;have P12:=P11.same S12;have SA:=S11.trans S12;refine⟨_,rfl,_,rfl,_,rfl,t,t',q,l1,l2,l3,l4,l3',l4',ts,ts',uq,J0,J1,J2,rooms',ds,ds',Lq,rfl,T10.same SA,m,T10'.same SA,m',P12.at_,P12.rows,bh P.len (by decide),P.ok,fun due H13 hdue S13=>?_⟩;have D13:=D12.same S13;have SB:=SA.trans S13;refine⟨_,rfl,_,rfl,_,rfl,x,y,hd,uq,Lq,J0,J1,J2,rooms',ds,ds',rfl,M10.same SB,N10.same SB,tk,D13.at_,D13.rows,bh P.len (by decide),P.ok,fun b H14 hb S14=>?_⟩;have eb:b=due:=p_.2 (hb.trans hdue.symm);refine⟨_,rfl,.inr ⟨b,due,rfl,_,rfl,?_⟩⟩;rw[zzr1 eb];refine bv ?_;have D14:=D13.same S14;have P14:=(P12.same S13).same S14;refine⟨_,rfl,_,rfl,.s (Lq.map Bv),.s (Lq.map Bv),D14.dIn,P14.dIn,?_,?_,_,rfl,?_⟩
  ·show DT.depths _+1<=8;have:=t9 Lq;omega
  ·show DT.depths _+1<=8;have:=t9 Lq;omega
  ·rw[zzr1 rfl];exact bv ⟨_,_,_,rfl,SB.trans S14⟩
 ·rintro σ H11 ⟨x7,x8,x9,rfl,S11⟩;exact k _
def fQ(i:Nat):Stmt:=PySem.Challenge.pw_mumtrial_k24_papers_judged.main.body.getD i (.Pass ⟨0,0,0,0⟩)
local macro_rules | `(tactic| walk_at "s")=>`(tactic| exact⟨rfl,rfl,rfl,by decide +kernel,rfl,by decide +kernel,by decide +kernel⟩)
local macro_rules | `(tactic| walk_at "l")=>`(tactic| (intro _ _ _ _ h;first|exact len_h h|exact len_g h|(cases h;subst_vars;rfl)|(obtain⟨_,_,h,_⟩:=h;subst h;rfl)|((repeat obtain⟨_,h⟩:=h);subst_vars;rfl)))
theorem zzlS{us:List Value}{n:Nat}(h:us.length=n+1):∃ a t,us=a::t∧t.length=n:=by
  cases us with
  |nil=>cases h
  |cons a t=>exact⟨a,t,rfl,Nat.succ.inj h⟩
local macro_rules | `(tactic| walk_at "b")=>`(tactic| (intro _ _ _ _ _ _ us hl;(repeat (have h:=zzlS hl;clear hl;obtain⟨_,_,e,hl⟩:=h;subst e));cases List.eq_nil_of_length_eq_zero hl;rfl))
def GN(K:Za)(x qual:Str)(st:Stmt)(f:Addr):Prop:=∃(oc:Value) (od an:Option Addr) (sl:Array (Option Value)) (kV dc pm cd ct:Value),
 K.lookup f=some ⟨oc,od,.func (ib x qual (gR st) (fH st) (b9 st) .none kV dc pm an cd ct),sl⟩/\l5 K cd qual=true/\i8 K (.ref f)=true
theorem De{K:Za}{x qual:Str}{st:Stmt}{f:Addr}{oc:Value}{od an:Option Addr}{sl:Array (Option Value)}{kV dc pm cd ct:Value}(l:K.lookup f=some ⟨oc,od,.func (ib x qual (gR st) (fH st) (b9 st) .none kV dc pm an cd ct),sl⟩)
  (c:l5 K cd qual=true) (k:i8 K (.ref f)=true):GN K x qual st f:=⟨oc,od,an,sl,kV,dc,pm,cd,ct,l,c,k⟩
def gK(K:Za)(x:Str)(st:Stmt):Prop:=∃f,cy K b_ x=some (some (.ref f))/\GN K x x st f
theorem fnG_mk{K:Za}{x:Str}{st:Stmt}{f:Addr}{oc:Value}{od an:Option Addr}{sl:Array (Option Value)}{kV dc pm cd ct:Value}(a:cy K b_ x=some (some (.ref f)))(l:K.lookup f=some ⟨oc,od,.func (ib x x (gR st) (fH st) (b9 st) .none kV dc pm an cd ct),sl⟩)
  (c:l5 K cd x=true) (k:i8 K (.ref f)=true):gK K x st:=⟨f,a,De l c k⟩
def DC(K:Za)(C:Addr)(m qual:Str)(st:Stmt):Prop:=∃f,eR K (.ref C) m=some (some (.ref f))/\wo K (.ref f)=true/\GN K m qual st f
theorem fnM_mk{K:Za}{C:Addr}{m qual:Str}{st:Stmt}{f:Addr}{oc:Value}{od an:Option Addr}{sl:Array (Option Value)}{kV dc pm cd ct:Value}(a:eR K (.ref C) m=some (some (.ref f)))(i:wo K (.ref f)=true)
  (l:K.lookup f=some ⟨oc,od,.func (ib m qual (gR st) (fH st) (b9 st) .none kV dc pm an cd ct),sl⟩) (c:l5 K cd qual=true) (k:i8 K (.ref f)=true):DC K C m qual st:=⟨f,a,i,De l c k⟩
theorem GN.fun_{K:Za}{x qual:Str}{st:Stmt}{f:Addr}(T:GN K x qual st f):∃fd,Gd K x qual st f fd:=by
 obtain⟨oc,od,an,sl,kV,dc,pm,cd,ct,l,c,k⟩:=T;exact⟨_,C_ (st:=st) l c k⟩
def Gi:Sp:=fun _ _ _ _=>False
theorem Gu{P:bR}{w:World}{K:Za}{mg:Str->Option Value}{base:Heap}{k:Nat}{f:Addr}{fd:gA}{ps:Zb}:kU P w K mg base CX0 k f fd ps Gi:=⟨fun _ _ _ _ h=>h.elim,fun _ _ _ _ _ _ _ _ _ _ _ _ _ h=>h.elim⟩
def FU(K:Za)(a:Addr)(ws:Zb):Prop:=∀H,aY K H a (ws.map V.str)
theorem zW{K:Za}{a:Addr}{ws:Zb}{o:Obj}{its:Array Value}{n:Nat}(l:K.lookup a=some o)(c:o.cls=.type "tuple")(d:o.data=.seq its n)(z:its.size<=ah)(v:bg (ws.map V.str) its.toList):FU K a ws :=
 fun _=>.inr ⟨o,its,n,l,c,d,z,v⟩
section
variable{P:bR}{w:World}{K:Za}{mg:Str->Option Value}{base h:Heap}{C:Addr}{x qual:Str}{st:Stmt}{N ps:Zb}{k:Nat}{sp:Sp}
abbrev DA(ps:Zb)(sp:Sp):Prop:=∀vs H Q E,sp vs H Q E->vs.length=ps.length
abbrev BodyOk(CX:BR)(P:bR)(w:World)(K:Za)(mg:Str->Option Value)(base:Heap)(qual:Str)(st:Stmt)(N:Zb)(k:Nat)(sp:Sp)(nox:Cx->Cx):Prop:=N.Nodup->∀(f:Addr) (cdv:Value) (A:Around) (outer:List Env) (s:Shared) (H:Hp) (vs:List V) (Q:VK) (E:XK),eL k (A.deeper (envOfC qual (b9 st) s.heap.objs.size f cdv))->(A.deeper (envOfC qual (b9 st) s.heap.objs.size f cdv)).units+16<cLine->sp vs H Q E ->
 ∃t,xP (nox (yX CX P w K mg base N qual (b9 st) f cdv A outer s H E)) (fH st) t/\t (bJ Q) (start N vs) H
abbrev zC(x qual:Str)(st:Stmt)(ps:Zb):Prop:=∀(kV doc pm:Value) (an:Option Addr) (cdv ct:Value) (us:Zf),us.length=ps.length->bindArgs (ib x qual (gR st) (fH st) (b9 st) .none kV doc pm an cdv ct) ⟨us,[]⟩=pure (ps.zip us)
theorem dG(X:K.In h)(G:h.Ns b_ mg)(T:gK K x st)(b:BodyOk CX0 P w K mg base x st N k sp Cx.nox)(bi:zC x x st ps)(S:jN N ps (b9 st):=by walk_at "s")(l:DA ps sp:=by walk_at "l"):gm P w K mg base x ps (k+1) sp:=by
 obtain⟨f,a,t⟩:=T;obtain⟨fd,F⟩:=t.fun_;exact⟨f,fd,F.ok S l fun cdv A outer s H vs Q E hr h=>b S.nd f cdv A outer s H vs Q E hr (Ar hr) h,hZ X G a,F.kp,F.binds bi⟩
theorem dM(cl:BK K C)(T:DC K C x qual st)(b:BodyOk CX0 P w K mg base qual st N k sp Cx.nox)(bi:zC x qual st ps)(S:jN N ps (b9 st):=by walk_at "s")(l:DA ps sp:=by walk_at "l"):BQ P w K mg base C x ps (k+1) sp:=by
 obtain⟨f,a,i,t⟩:=T;obtain⟨fd,F⟩:=t.fun_;exact⟨f,fd,F.ok S l fun cdv A outer s H vs Q E hr h=>b S.nd f cdv A outer s H vs Q E hr (Ar hr) h,cl,⟨a,i,F.kp⟩,F.binds bi⟩
theorem dN{y:Str}(cm:mg y=some (.ref C))(mk:wn K C=true)(kc:i8 K (.ref C)=true)(T:DC K C "__init__" qual st)(b:BodyOk CX0 P w K mg base qual st N k sp Cx.nox)(bi:zC "__init__" qual st ps)(S:jN N ps (b9 st):=by walk_at "s")(l:DA ps sp:=by walk_at "l"):New P w K mg base y C ps (k+1) sp:=by
 obtain⟨f,a,i,t⟩:=T;obtain⟨fd,F⟩:=t.fun_;exact⟨f,fd,F.ok S l fun cdv A outer s H vs Q E hr h=>b S.nd f cdv A outer s H vs Q E hr (Ar hr) h,cm,⟨mk,a,i,kc⟩,F.binds bi⟩
end
structure Zs(mg:Str->Option Value):Prop where
 all:mg "all"=none
 any:mg "any"=none
 bool:mg "bool"=none
 dict:mg "dict"=none
 enumerate:mg "enumerate"=none
 int:mg "int"=none
 isinstance:mg "isinstance"=none
 len:mg "len"=none
 list:mg "list"=none
 max:mg "max"=none
 range:mg "range"=none
 str:mg "str"=none
 tuple:mg "tuple"=none
 zip:mg "zip"=none
structure Cs(K:Za)(mg:Str->Option Value)(C a_STILL a_HUSH:Addr):Prop where
 LETTERS:Gc mg "LETTERS" (.str "abcdefghijklmnopqrstuvwxyz")
 LONGEST_NAME:Gc mg "LONGEST_NAME" (.int 8)
 MOST_WORDS:Gc mg "MOST_WORDS" (.int 4)
 MOST_ROOMS:Gc mg "MOST_ROOMS" (.int 150)
 MOST_DOORS:Gc mg "MOST_DOORS" (.int 2000)
 STILL:Gc mg "STILL" (.ref a_STILL)
 HUSH:Gc mg "HUSH" (.ref a_HUSH)
 still:FU K a_STILL ar
 hush:FU K a_HUSH bH
 mc:MC K C
 cm:mg "Machine"=some (.ref C)
 makes:wn K C=true
 kc:i8 K (.ref C)=true
structure Ts(K:Za)(C:Addr):Prop where
 f_law_spread:gK K "_law_spread" (fQ 41)
 f_law_open:gK K "_law_open" (fQ 42)
 f_law_anew:gK K "_law_anew" (fQ 43)
 f_law_take:gK K "_law_take" (fQ 44)
 f_law_names:gK K "_law_names" (fQ 45)
 f_law_put:gK K "_law_put" (fQ 46)
 f_law_draw_doors:gK K "_law_draw_doors" (fQ 47)
 f_law_model:gK K "_law_model" (fQ 48)
 f_is_name:gK K "is_name" (fQ 19)
 f_as_keys:gK K "as_keys" (fQ 20)
 f_first_wrong_name:gK K "first_wrong_name" (fQ 21)
 f_door_signs:gK K "door_signs" (fQ 22)
 f_first_wrong_door:gK K "first_wrong_door" (fQ 23)
 f_goals_by_start_and_sign:gK K "goals_by_start_and_sign" (fQ 24)
 f_led_by_still:gK K "led_by_still" (fQ 25)
 f_first_led_round:gK K "first_led_round" (fQ 26)
 f_need_none:gK K "need_none" (fQ 27)
 f_need_parts:gK K "need_parts" (fQ 28)
 f_doors_by_start:gK K "doors_by_start" (fQ 29)
 f_has_asks_alone:gK K "has_asks_alone" (fQ 30)
 f_Machine___init__:DC K C "__init__" "Machine.__init__" (iP (fQ 31) 0)
 f_law_machine:gK K "_law_machine" (fQ 54)
 f_Machine_rooms:DC K C "rooms" "Machine.rooms" (iP (fQ 31) 3)
 f_Machine_led_from:DC K C "led_from" "Machine.led_from" (iP (fQ 31) 8)
 f_with_still:gK K "with_still" (fQ 8)
 f_Machine_goals:DC K C "goals" "Machine.goals" (iP (fQ 31) 7)
 f_Machine_is_quiet:DC K C "is_quiet" "Machine.is_quiet" (iP (fQ 31) 5)
 f_law_some:gK K "_law_some" (fQ 56)
 f_law_still_on:gK K "_law_still_on" (fQ 49)
 f_law_on:gK K "_law_on" (fQ 57)
 f_law_is_quiet:gK K "_law_is_quiet" (fQ 58)
 f_law_behind:gK K "_law_behind" (fQ 59)
 f_law_same:gK K "_law_same" (fQ 55)
 f_Machine_asks:DC K C "asks" "Machine.asks" (iP (fQ 31) 1)
 f_Machine_says:DC K C "says" "Machine.says" (iP (fQ 31) 2)
 f_first_face:gK K "first_face" (fQ 9)
 f_face_behind:gK K "face_behind" (fQ 10)
 f_signs_in_order:gK K "signs_in_order" (fQ 7)
 f_steps_at:gK K "steps_at" (fQ 11)
 f_takes:gK K "takes" (fQ 34)
 f_need_match:gK K "need_match" (fQ 33)
 f_need_all_asks_taken:gK K "need_all_asks_taken" (fQ 35)
 f_need_taker:gK K "need_taker" (fQ 36)
 f_Machine_doors_from:DC K C "doors_from" "Machine.doors_from" (iP (fQ 31) 6)
 f_rows_needed:gK K "rows_needed" (fQ 37)
 f_is_full_face:gK K "is_full_face" (fQ 38)
 f_is_keeping:gK K "is_keeping" (fQ 39)
 f_law_willing:gK K "_law_willing" (fQ 50)
 f_law_turned:gK K "_law_turned" (fQ 51)
 f_law_renamed:gK K "_law_renamed" (fQ 52)
 f_law_near:gK K "_law_near" (fQ 53)
 f_law_row_stands:gK K "_law_row_stands" (fQ 60)
 f_law_paper_stands:gK K "_law_paper_stands" (fQ 61)
 f_law_paper:gK K "_law_paper" (fQ 62)
 f_law_bent:gK K "_law_bent" (fQ 63)
 f_law24:gK K "law" (fQ 64)
section
variable{P:bR}{w:World}{K:Za}{mg:Str->Option Value}{base h:Heap}{C a_STILL a_HUSH:Addr}
section
variable(P:bR)(w:World)(K:Za)(mg:Str->Option Value)(C a_STILL a_HUSH:Addr)
abbrev jS:Prop:=∀base,gm P w K mg base "_law_spread" ["cell","at"] 1 k3
abbrev si:Prop:=∀base,gm P w K mg base "_law_open" ["script"] 1 (pX K)
abbrev gg:Prop:=∀base,gm P w K mg base "_law_anew" ["pen"] 1 k_
abbrev cJ:Prop:=∀base,gm P w K mg base "_law_take" ["pen","many"] 2 eg
abbrev iT:Prop:=∀base,gm P w K mg base "_law_names" ["pen","many"] 3 kC
abbrev jo:Prop:=∀base,gm P w K mg base "_law_put" ["doors","door"] 1 jC
abbrev gf:Prop:=∀base,gm P w K mg base "_law_draw_doors" ["pen","asks","says","rooms","full"] 3 gk
abbrev pG:Prop:=∀base,gm P w K mg base "_law_model" ["pen","most","full"] 4 ng
abbrev o7:Prop:=∀base,gm P w K mg base "is_name" ["text"] 1 sp_is_name
abbrev jp:Prop:=∀base,gm P w K mg base "as_keys" ["things"] 1 (sp_as_keys K)
abbrev fe:Prop:=∀base,gm P w K mg base "first_wrong_name" ["names","most","taken"] 2 (sp_first_wrong_name K)
abbrev jU:Prop:=∀base,gm P w K mg base "door_signs" ["asks","says"] 1 (sp_door_signs K)
abbrev fg:Prop:=∀base,gm P w K mg base "first_wrong_door" ["doors","rooms","signs"] 2 (sp_first_wrong_door K)
abbrev cP:Prop:=∀base,gm P w K mg base "goals_by_start_and_sign" ["doors"] 1 nh
abbrev ix:Prop:=∀base,gm P w K mg base "led_by_still" ["goals","room"] 1 vm
abbrev fO:Prop:=∀base,gm P w K mg base "first_led_round" ["rooms","led"] 1 sp_first_led_round
abbrev iS:Prop:=∀base,gm P w K mg base "need_none" ["part","number"] 1 sp_need_none
abbrev jP:Prop:=∀base,gm P w K mg base "need_parts" ["asks","says","rooms","doors"] 3 sp_need_parts
abbrev gj:Prop:=∀base,gm P w K mg base "doors_by_start" ["rooms","doors"] 1 sp_doors_by_start
abbrev gh:Prop:=∀base,gm P w K mg base "has_asks_alone" ["doors"] 1 sp_has_asks_alone
abbrev o8:Prop:=∀base,New P w K mg base "Machine" C ["self","asks","says","rooms","doors"] 4 (pZ C)
abbrev lS:Prop:=∀base,gm P w K mg base "_law_machine" ["told"] 6 (jE C)
abbrev jV:Prop:=∀base,gm P w K mg base "as_keys" ["things"] 1 (qR K)
abbrev cu:Prop:=∀base,BQ P w K mg base C "rooms" ["self"] 1 (gp C)
abbrev dI:Prop:=∀base,BQ P w K mg base C "led_from" ["self","room"] 1 (gq C)
abbrev gX:Prop:=∀base,gm P w K mg base "with_still" ["M","rooms"] 2 (sp_with_still C)
abbrev eX:Prop:=∀base,BQ P w K mg base C "goals" ["self","room","sign"] 1 (g0 C)
abbrev dJ:Prop:=∀base,BQ P w K mg base C "is_quiet" ["self","room"] 1 (gr C)
abbrev mN:Prop:=∀base,gm P w K mg base "_law_some" ["pen","rooms"] 3 pW
abbrev eE:Prop:=∀base,gm P w K mg base "_law_still_on" ["doors","rooms"] 1 (eA K)
abbrev kY:Prop:=∀base,gm P w K mg base "_law_on" ["told","some"] 2 tO
abbrev eF:Prop:=∀base,gm P w K mg base "_law_is_quiet" ["told","room"] 1 g6
abbrev gZ:Prop:=∀base,gm P w K mg base "_law_behind" ["told","face","sign"] 3 (k7 K)
abbrev sh:Prop:=∀base,gm P w K mg base "_law_same" ["found","due"] 2 (k4 K 1)
abbrev eI:Prop:=∀base,BQ P w K mg base C "asks" ["self"] 1 (k9 C)
abbrev fP:Prop:=∀base,BQ P w K mg base C "says" ["self"] 1 (m_ C)
abbrev jT:Prop:=∀base,gm P w K mg base "first_face" ["M"] 3 (dU C)
abbrev i7:Prop:=∀base,gm P w K mg base "face_behind" ["M","face","sign"] 3 (ni K C)
abbrev ga:Prop:=∀base,gm P w K mg base "signs_in_order" ["M"] 2 (vk C a_HUSH)
abbrev mM:Prop:=∀base,gm P w K mg base "steps_at" ["M","face"] 4 (iH K C)
abbrev wj:Prop:=∀base,gm P w K mg base "takes" ["I","room","ask"] 2 (jc C)
abbrev jQ:Prop:=∀base,gm P w K mg base "need_match" ["M","I"] 2 (fD C)
abbrev d9:Prop:=∀base,gm P w K mg base "need_all_asks_taken" ["I"] 4 (gL C)
abbrev jO:Prop:=∀base,gm P w K mg base "need_taker" ["M","I"] 5 (fC C)
abbrev eG:Prop:=∀base,BQ P w K mg base C "doors_from" ["self","room"] 1 (gl C)
abbrev i4:Prop:=∀base,gm P w K mg base "rows_needed" ["I","room","face","steps"] 2 (kB K C)
abbrev iz:Prop:=∀base,gm P w K mg base "is_full_face" ["M","face"] 2 (p0 K C)
abbrev nR:Prop:=∀base,gm P w K mg base "is_keeping" ["M","I","paper"] 6 (jF K C)
abbrev i5:Prop:=∀base,gm P w K mg base "_law_willing" ["pen","told"] 3 jB
abbrev jR:Prop:=∀base,gm P w K mg base "_law_turned" ["pen","told"] 3 kZ
abbrev i6:Prop:=∀base,gm P w K mg base "_law_renamed" ["pen","told"] 4 iI
abbrev sj:Prop:=∀base,gm P w K mg base "_law_near" ["pen","told","most"] 5 pY
abbrev gb:Prop:=∀base,gm P w K mg base "_law_row_stands" ["told","some","rows","room","face"] 4 (nc K)
abbrev iy:Prop:=∀base,gm P w K mg base "_law_paper_stands" ["told","some","paper"] 5 (jD K)
abbrev pF:Prop:=∀base,gm P w K mg base "_law_paper" ["told","some"] 4 (k5 K)
abbrev sk:Prop:=∀base,gm P w K mg base "_law_bent" ["pen","told","some","paper"] 4 (nj K)
end
section
variable(X:K.In h)(G:h.Ns b_ mg)(z:Zs mg)(c:Cs K mg C a_STILL a_HUSH)(T:Ts K C)
include X G z c T
theorem sH:jS P w K mg:=fun base=>dG X G T.f_law_spread (fun S _ _ _ _ _ _ _ _ _ hr hu h=>bK (Ba (K:=K) h) (ac (bb (eZ Gs (pv 0) (aJ CK af af)) (ae (au (pv 0))) az) (ac (qs 2 S (aJ fZ (aJ cB (aJ cB (aJ im (aJ fZ (pv 0) af) af) (aJ im (pv 1) af)) af) af)) (ac (qs 3 S (aJ fZ (aJ cB (aJ cB (aJ im (pv 2) (pv 2)) (aJ im (pv 1) af)) (aJ fZ (pv 0) af)) af)) (ac (qs 4 S (aJ fZ (aJ cB (aJ cB (aJ im (pv 3) (pv 3)) (aJ im (pv 2) af)) af) af)) (ae (au (aJ cB (aJ im (aJ cB (aJ im (pv 2) af) (pv 3)) af) (pv 4))))))))) (by walk_at "b")
theorem wI:si P w K mg:=fun base=>dG X G T.f_law_open (fun S _ _ _ _ _ _ _ _ _ hr hu h=>bK (Ed h) (ac (qs 1 S (qL rfl z.list (a1 (aP bq (pv 0) bu (aV af))))) (ac (bF bx rfl (nz rfl z.enumerate (a1 (aP bq (pv 0) (aV af) (aV af)))) (dg rfl (ax (gn 2 S) (ax (gn 3 S) cp))) (ae (iY (aJ cB (xl (pv 1) (aJ fZ (pv 2) af)) (pv 3)) (rh (pv 1) (aJ fZ (pv 2) af) kG)))) (ae (au (bG (a3 (pv 1) af af))))))) (by walk_at "b")
theorem wL:gg P w K mg:=fun base=>dG X G T.f_law_anew (fun S _ _ _ _ _ _ _ _ _ hr hu h=>bK (Ej (K:=K) h) (ac (iY af (rh (pv 0) af kG)) (ae (au (pv 0))))) (by walk_at "b")
theorem wF(D_law_spread:jS P w K mg):cJ P w K mg:=fun base=>dG X G T.f_law_take (fun S _ _ _ _ _ _ _ _ _ hr hu h=>bK (Ea h) (ac (bb (eZ xa (xl (pv 0) af) (pv 1)) (ac (qs 2 S (xl (pv 0) af)) (ac (qs 3 S af) (ac (bb (eZ xa (pv 2) (ql z.len (a1 (xl (pv 0) af)))) (ae (qs 3 S (xl (xl (pv 0) af) (pv 2)))) (ae (bb (eZ xb (ql z.len (a1 (xl (pv 0) af))) af) (ae (qs 3 S (aJ fZ (xl (xl (pv 0) af) (aJ fZ (aJ cB (aJ im (pv 2) af) af) (ql z.len (a1 (xl (pv 0) af))))) (aJ cB (aJ CK af af) (pv 2))))) az))) (ac (iY (aJ cB (pv 2) af) (rh (pv 0) af kG)) (ae (iY (qf hr (D_law_spread base) (a2 (pv 3) (pv 2))) (rh (pv 0) af kG))))))) az) (ac (qs 4 S (aJ fZ (xl (pv 0) af) (pv 1))) (ac (iY (aJ Af (xl (pv 0) af) (pv 1)) (rh (pv 0) af kG)) (ae (au (pv 4))))))) (by walk_at "b")
theorem vg(D_law_take:cJ P w K mg):iT P w K mg:=fun base=>dG X G T.f_law_names (fun S _ _ _ _ _ _ _ _ _ hr hu h=>bK (Cn h) (ac (qs 2 S bP) (ac (qs 3 S (ij PySem.F.plainAttrs_str PySem.F.slot_str_join PySem.F.type_str_join EC bP (a1 (qc (g8 rfl z.range (a1 af)) (bw (by decide)) fun _ _ _ _ _ _=>⟨gc 0,dQ,xs' (pv 1) (qf hr (D_law_take base) (a2 (pv 2) af))⟩)))) (ac (qs 4 S (qf hr (D_law_take base) (a2 (pv 0) af))) (ac (qs 5 S (qf hr (D_law_take base) (a2 (pv 0) af))) (ac (qs 6 S (qf hr (D_law_take base) (a2 (pv 0) af))) (ac (qs 7 S (bG cA)) (ac (bF bx rfl (g8 rfl z.range (a1 (pv 1))) (gn 8 S) (ac (qs 9 S (xs' (pv 2) (aJ fZ (aJ cB (pv 5) (aJ im af (pv 8))) af))) (ac (qs 10 S (aP yk (pv 3) bu (aV (aJ fZ (aJ cB (pv 6) (aJ im (pv 8) (aJ fZ (pv 4) af))) af)))) (ac (qs 11 S (xl (bG (a3 af (ql z.len (a1 (pv 10))) (aJ Af (ql z.len (a1 (pv 10))) af))) (pv 4))) (ae (br (ij fz hW hV cQ (pv 7) (a1 (aJ rp (aJ rp (aP yk (pv 10) bu (aV (pv 11))) (pv 9)) (aP yk (pv 10) (aV (pv 11)) bu)))))))))) (ae (au (pv 7))))))))))) (by walk_at "b")
theorem yf:jo P w K mg:=fun base=>dG X G T.f_law_put (fun S _ _ _ _ _ _ _ _ _ hr hu h=>bK (Fy h) (ae (bb (DE (g9 hu) (pv 1) (pv 0)) (ae (br (ij fz hW hV cQ (pv 0) (a1 (pv 1))))) az))) (by walk_at "b")
theorem mZ(D_law_take:cJ P w K mg)(D_law_put:jo P w K mg):gf P w K mg:=fun base=>dG X G T.f_law_draw_doors (fun S _ _ _ _ _ _ _ _ _ hr hu h=>bK (sT h) (ac (qs 5 S (bG cA)) (ac (qs 6 S (qf hr (D_law_take base) (a2 (pv 0) af))) (ac (bF bx rfl (nz rfl z.enumerate (a1 (pv 3))) (dg rfl (ax (gn 7 S) (ax (gn 8 S) cp))) (ac (bF bx rfl (g8 rfl z.range (a1 (xl (bG (bS af (a3 af af af))) (qf hr (D_law_take base) (a2 (pv 0) af))))) (gn 9 S) (ac (qs 10 S (aE (a2 bP (xl (pv 2) (qf hr (D_law_take base) (a2 (pv 0) (ql z.len (a1 (pv 2))))))))) (ae (br (qf hr (D_law_put base) (a2 (pv 5) (aE (a3 (pv 8) (pv 10) (xl (pv 3) (qf hr (D_law_take base) (a2 (pv 0) (ql z.len (a1 (pv 3)))))))))))))) (ac (bF bx rfl (aW (pv 1)) (gn 11 S) (ae (bF bx rfl (g8 rfl z.range (a1 (xl (bG (bS (pv 4) (a3 af af af))) (qf hr (D_law_take base) (a2 (pv 0) af))))) (gn 9 S) (ae (br (qf hr (D_law_put base) (a2 (pv 5) (aE (a3 (pv 8) (aE (a2 bP (pv 11))) (xl (pv 3) (qf hr (D_law_take base) (a2 (pv 0) (ql z.len (a1 (pv 3))))))))))))))) (ac (qs 12 S (xl (bG (a2 (aP bq (pv 3) (aV (aJ cB (pv 7) af)) bu) (aP bq (pv 3) bu (aV (pv 7))))) (pv 6))) (ae (bb (PW.pt (e_ (eZ (ik hu) (pv 12) (bG cA)) (eV (eZ dA (qf hr (D_law_take base) (a2 (pv 0) af)) af)))) (ae (br (qf hr (D_law_put base) (a2 (pv 5) (aE (a3 (pv 8) (aE (a1 bP)) (xq (pv 12) (qf hr (D_law_take base) (a2 (pv 0) (ql z.len (a1 (pv 12)))))))))))) az)))))) (ae (au (pv 5))))))) (by walk_at "b")
theorem vh(D_law_anew:gg P w K mg)(D_law_take:cJ P w K mg)(D_law_names:iT P w K mg)(D_law_draw_doors:gf P w K mg):pG P w K mg:=fun base=>dG X G T.f_law_model (fun S _ _ _ _ _ _ _ _ _ hr hu h=>bK (Co h) (ac (br (qf hr (D_law_anew base) (a1 (pv 0)))) (ac (qs 3 S (qf hr (D_law_names base) (a2 (pv 0) af))) (ac (qs 4 S (aP bq (pv 3) bu (aV (aJ cB af (xl (bG (bS af (bS af (bS af (a3 af af af))))) (qf hr (D_law_take base) (a2 (pv 0) af))))))) (ac (qs 5 S (aP bq (pv 3) (aV af) (aV (aJ cB af (xl (bG (bS af (bS af (bS af (a3 af af af))))) (qf hr (D_law_take base) (a2 (pv 0) af))))))) (ac (qs 6 S (qf hr (D_law_names base) (a2 (pv 0) (aJ cB af (qf hr (D_law_take base) (a2 (pv 0) (pv 1))))))) (ac (qs 7 S (qf hr (D_law_draw_doors base) (bS (pv 0) (bS (pv 4) (a3 (pv 5) (pv 6) (pv 2)))))) (ae (au (aE (bS (pv 4) (a3 (pv 5) (pv 6) (pv 7))))))))))))) (by walk_at "b")
theorem yg:o7 P w K mg:=fun base=>dG X G T.f_is_name (fun S _ _ _ _ _ _ _ _ _ hr hu h=>bK (yB h) (ae (au (mq (BO tT (pv 0) bP) (mq (BO Gr (ql z.len (a1 (pv 0))) (jX rfl c.LONGEST_NAME)) (rk (qB (kP rfl) z.all boot_all (a1 (qc (CF (pv 0)) (bw (by decide)) fun _ _ _ _ _ _=>⟨gc 0,dQ,eci yF (pv 0) (jX rfl c.LETTERS)⟩))))))))) (by walk_at "b")
theorem yh:jp P w K mg:=fun base=>dG X G T.f_as_keys (fun S _ _ _ _ _ _ _ _ _ hr hu h=>bK (qV h) (ac (qs 1 S ii) (ac (bF bx rfl (aW (pv 0)) (gn 2 S) (ae (eW hu (pv 1) (pv 2) cH rfl))) (ae (au (pv 1)))))) (by walk_at "b")
theorem lG(D_is_name:o7 P w K mg)(D_as_keys:jp P w K mg):fe P w K mg:=fun base=>dG X G T.f_first_wrong_name (fun S _ _ _ _ _ _ _ _ _ hr hu h=>bK (lI h) (ac (bb (eZ dA (ql z.len (a1 (pv 0))) af) (ae (au af)) az) (ac (qs 3 S (qf hr (D_as_keys base) (a1 (pv 2)))) (ac (bF bx rfl (nz rfl z.enumerate (a1 (pv 0))) (dg rfl (ax (gn 4 S) (ax (gn 5 S) cp))) (ac (bb (PW.pt (jd (eZ dA (pv 4) (pv 1)) (jd (dZ (jI hu (pv 5) (pv 3))) (iX (mo (fb (qf hr (D_is_name base) (a1 (pv 5))))))))) (ae (au (pv 4))) az) (ae (eW hu (pv 3) (pv 5) cH rfl)))) (ae (au yE)))))) (by walk_at "b")
theorem sL:jU P w K mg:=fun base=>dG X G T.f_door_signs (fun S _ _ _ _ _ _ _ _ _ hr hu h=>bK (sV c.still h) (ae (au (aJ cf (aJ cf (qc (aW (pv 0)) (bw (by decide)) fun _ _ _ _ _ _=>⟨gc 0,dQ,aE (a2 bP (pv 0))⟩) (qc (aW (pv 1)) (bw (by decide)) fun _ _ _ _ _ _=>⟨gc 0,dQ,aE (a2 bP (pv 0))⟩)) (bG (a1 (jX rfl c.STILL))))))) (by walk_at "b")
theorem lH(D_as_keys:jp P w K mg):fg P w K mg:=fun base=>dG X G T.f_first_wrong_door (fun S _ _ _ _ _ _ _ _ _ hr hu h=>bK (lJ h) (ac (qs 3 S (qf hr (D_as_keys base) (a1 (pv 1)))) (ac (qs 4 S je) (ac (bF bx rfl (nz rfl z.enumerate (a1 (pv 0))) (dg rfl (ax (gn 5 S) (ax (gn 6 S) cp))) (ac (bb (PW.pt (jd (eZ dA (pv 5) (jX rfl c.MOST_DOORS)) (iX (dZ (jI hu (pv 6) (pv 4)))))) (ae (au (pv 5))) az) (ac (bb (PW.pt (jd (dZ (dW hu (xq (pv 6) af) (pv 3))) (jd (DE (g9 hu) (xq (pv 6) af) (pv 2)) (iX (dZ (dW hu (xq (pv 6) af) (pv 3))))))) (ae (au (pv 5))) az) (ae (eW hu (pv 4) (pv 6) cH rfl))))) (ae (au yE)))))) (by walk_at "b")
theorem ie:cP P w K mg:=fun base=>dG X G T.f_goals_by_start_and_sign (fun S _ _ _ _ _ _ _ _ _ hr hu h=>bK (ig h) (ac (qs 1 S je) (ac (bF bx rfl (aW (pv 0)) (dg rfl (ax (gn 2 S) (ax (gn 3 S) (ax (gn 4 S) cp)))) (ae (br (ij fz hW hV cQ (ij PySem.F.plainAttrs_dict PySem.F.slot_dict_setdefault PySem.F.type_dict_setdefault (Bk hu) (pv 1) (a2 (aE (a2 (pv 2) (pv 3))) (bG cA))) (a1 (pv 4)))))) (ae (au (pv 1)))))) (by walk_at "b")
theorem pM:ix P w K mg:=fun base=>dG X G T.f_led_by_still (fun S _ _ _ _ _ _ _ _ _ hr hu h=>bK (pQ c.still h) (ac (qs 2 S ii) (ac (qs 3 S (bG (a1 (pv 1)))) (ac (w6 bx (eZ xb (ql z.len (a1 (pv 3))) af) (ac (qs 4 S (FH fz PySem.F.slot_list_pop PySem.F.type_list_pop FI (pv 3))) (ae (bF bx rfl (FB (nA hu (pv 0) (aE (a2 (pv 4) (jX rfl c.STILL))) (aE cA) ⟨rfl,rfl,rfl,rfl⟩)) (gn 5 S) (ae (bb (dZ (dW hu (pv 5) (pv 2))) (ac (eW hu (pv 2) (pv 5) cH rfl) (ae (br (ij fz hW hV cQ (pv 3) (a1 (pv 5)))))) az)))))) (ae (au (pv 2))))))) (by walk_at "b")
theorem mi:fO P w K mg:=fun base=>dG X G T.f_first_led_round (fun S _ _ _ _ _ _ _ _ _ hr hu h=>bK (mn h) (ac (bF bx rfl (nz rfl z.enumerate (a1 (pv 0))) (dg rfl (ax (gn 2 S) (ax (gn 3 S) cp))) (ae (bb (dZ (jI hu (pv 3) (jH hu (pv 1) (pv 3) (fun _ _=>rfl)))) (ae (au (pv 2))) az))) (ae (au yE)))) (by walk_at "b")
theorem ve:iS P w K mg:=fun base=>dG X G T.f_need_none (fun S _ _ _ _ _ _ _ _ _ hr hu h=>bK (vt (K:=K) h) (ae (bb (dZ (Ev (pv 1))) (ae (rc)) az))) (by walk_at "b")
theorem sE(D_first_wrong_name:fe P w K mg)(D_door_signs:jU P w K mg)(D_first_wrong_door:fg P w K mg)(D_need_none:iS P w K mg):jP P w K mg:=fun base=>dG X G T.f_need_parts (fun S _ _ _ _ _ _ _ _ _ hr hu h=>bK (sQ (K:=K) h) (ac (br (qf hr (D_need_none base) (a2 bP (qf hr (D_first_wrong_name base) (a3 (pv 0) (jX rfl c.MOST_WORDS) (bG cA)))))) (ac (br (qf hr (D_need_none base) (a2 bP (qf hr (D_first_wrong_name base) (a3 (pv 1) (jX rfl c.MOST_WORDS) (pv 0)))))) (ac (br (qf hr (D_need_none base) (a2 bP (qf hr (D_first_wrong_name base) (a3 (pv 2) (jX rfl c.MOST_ROOMS) (bG cA)))))) (ae (br (qf hr (D_need_none base) (a2 bP (qf hr (D_first_wrong_door base) (a3 (pv 3) (pv 2) (qf hr (D_door_signs base) (a2 (pv 0) (pv 1))))))))))))) (by walk_at "b")
theorem m8:gj P w K mg:=fun base=>dG X G T.f_doors_by_start (fun S _ _ _ _ _ _ _ _ _ hr hu h=>bK (nv h) (ac (qs 2 S ii) (ac (bF bx rfl (aW (pv 0)) (gn 3 S) (ae (eW hu (pv 2) (pv 3) (bG cA) rfl))) (ac (bF bx rfl (aW (pv 1)) (gn 4 S) (ae (br (ij fz hW hV cQ (jH hu (pv 2) (xq (pv 4) af) (fun _ _=>rfl)) (a1 (pv 4)))))) (ae (au (pv 2))))))) (by walk_at "b")
theorem m5:gh P w K mg:=fun base=>dG X G T.f_has_asks_alone (fun S _ _ _ _ _ _ _ _ _ hr hu h=>bK (nr h) (ae (au (qB (kP rfl) z.all boot_all (a1 (qc (aW (pv 0)) (bw (by decide)) fun _ _ _ _ _ _=>⟨gc 0,dQ,BO dA (xq (xq (pv 0) af) af) bP⟩)))))) (by walk_at "b")
theorem yi(D_as_keys:jp P w K mg)(D_goals_by_start_and_sign:cP P w K mg)(D_led_by_still:ix P w K mg)(D_first_led_round:fO P w K mg)(D_need_none:iS P w K mg)(D_need_parts:jP P w K mg)(D_doors_by_start:gj P w K mg)(D_has_asks_alone:gh P w K mg):o8 P w K mg C:=fun base=>dN c.cm c.makes c.kc T.f_Machine___init__ (fun S _ _ _ _ _ _ _ _ _ hr hu h=>bK (Ef c.mc h) (ac (br (qf hr (D_need_parts base) (bS (pv 1) (a3 (pv 2) (pv 3) (pv 4))))) (ac (kK (pv 0) (qL rfl z.list (a1 (pv 1))) rfl) (ac (kK (pv 0) (qL rfl z.list (a1 (pv 2))) rfl) (ac (kK (pv 0) (qL rfl z.list (a1 (pv 3))) rfl) (ac (kK (pv 0) (qL rfl z.list (a1 (pv 4))) rfl) (ac (kK (pv 0) (qf hr (D_doors_by_start base) (a2 (pv 3) (pv 4))) rfl) (ac (kK (pv 0) (qf hr (D_as_keys base) (a1 (qc (aW (pv 3)) (bw (by decide)) fun _ _ _ _ _ _=>⟨gc 0,eJ (fb (qf hr (D_has_asks_alone base) (a1 (jH hu (iZ (pv 1) rfl) (pv 0) (fun _ _=>rfl))))),pv 0⟩))) rfl) (ac (kK (pv 0) (qf hr (D_goals_by_start_and_sign base) (a1 (pv 4))) rfl) (ac (kK (pv 0) (eK (vT rfl) rfl z.dict y4 (a1 (qc (aW (pv 3)) (bw (by decide)) fun _ _ _ _ _ _=>⟨gc 0,dQ,aE (a2 (pv 0) (qf hr (D_led_by_still base) (a2 (iZ (pv 1) rfl) (pv 0))))⟩))) rfl) (ae (br (qf hr (D_need_none base) (a2 bP (qf hr (D_first_led_round base) (a2 (pv 3) (iZ (pv 0) rfl))))))))))))))))) (by walk_at "b")
theorem qO(D_Machine:o8 P w K mg C):lS P w K mg C:=fun base=>dG X G T.f_law_machine (fun S _ _ _ _ _ _ _ _ _ hr hu h=>bK (yy h) (ae (au (FF (D_Machine base) (hr.mono (by decide)) rfl (bS (qL rfl z.list (a1 (xq (pv 0) af))) (a3 (qL rfl z.list (a1 (xq (pv 0) af))) (qL rfl z.list (a1 (xq (pv 0) af))) (qL rfl z.list (a1 (xq (pv 0) af))))))))) (by walk_at "b")
theorem wM:jV P w K mg:=fun base=>dG X G T.f_as_keys (N:=ui) (fun S _ _ _ _ _ _ _ _ _ hr hu h=>by rcases h with h|h|h;(exact bK (qV h) (ac (qs 1 S ii) (ac (bF bx rfl (aW (pv 0)) (gn 2 S) (ae (eW hu (pv 1) (pv 2) cH rfl))) (ae (au (pv 1))))));(exact bK (wY h) (ac (qs 1 S je) (ac (bF bx rfl (aW (pv 0)) (gn 2 S) (ae (eW hu (pv 1) (pv 2) cH rfl))) (ae (au (pv 1))))));(exact bK (wZ h) (ac (qs 1 S ii) (ac (bF bx rfl (vx (pv 0)) (gn 2 S) (ae (eW hu (pv 1) (pv 2) cH rfl))) (ae (au (pv 1))))))) (by walk_at "b") (l:=fun vs H Q E h=>by rcases h with h|h|h<;>(cases h;subst_vars;rfl))
theorem oG:cu P w K mg C:=fun base=>dM c.mc.cls T.f_Machine_rooms (fun S _ _ _ _ _ _ _ _ _ hr hu h=>bK (Cm c.mc h) (ae (au (qL rfl z.list (a1 (iZ (pv 0) rfl)))))) (by walk_at "b")
theorem lD:dI P w K mg C:=fun base=>dM c.mc.cls T.f_Machine_led_from (fun S _ _ _ _ _ _ _ _ _ hr hu h=>bK (wW c.mc h) (ae (au (qL rfl z.list (a1 (nA hu (iZ (pv 0) rfl) (pv 1) (aE cA) ⟨rfl,rfl,rfl,rfl⟩)))))) (by walk_at "b")
theorem sC(M_Machine_rooms:cu P w K mg C)(M_Machine_led_from:dI P w K mg C):gX P w K mg C:=fun base=>dG X G T.f_with_still (fun S _ _ _ _ _ _ _ _ _ hr hu h=>bK (sP h) (ac (qs 2 S ii) (ac (bF bx rfl (aW (pv 1)) (gn 3 S) (ae (bb (dZ (dW hu (pv 3) (pv 2))) (ac (eW hu (pv 2) (pv 3) cH rfl) (ae (bF bx rfl (aW (qm hr (M_Machine_led_from base) (pv 0) (a1 (pv 3)))) (gn 4 S) (ae (eW hu (pv 2) (pv 4) cH rfl))))) az))) (ae (au (eK cY rfl z.tuple dB (a1 (qc (aW (Bg hr (M_Machine_rooms base) (pv 0))) (bw (by decide)) fun _ _ _ _ _ _=>⟨gc 0,eJ (dZ (jI hu (pv 0) (pv 1))),pv 0⟩)))))))) (by walk_at "b")
theorem oH:eX P w K mg C:=fun base=>dM c.mc.cls T.f_Machine_goals (fun S _ _ _ _ _ _ _ _ _ hr hu h=>bK (Bb c.mc h) (ae (au (qL rfl z.list (a1 (nA hu (iZ (pv 0) rfl) (aE (a2 (pv 1) (pv 2))) (aE cA) ⟨rfl,rfl,rfl,rfl⟩)))))) (by walk_at "b")
theorem lE:dJ P w K mg C:=fun base=>dM c.mc.cls T.f_Machine_is_quiet (fun S _ _ _ _ _ _ _ _ _ hr hu h=>bK (wX c.mc h) (ae (au (rm (jI hu (pv 1) (iZ (pv 0) rfl)))))) (by walk_at "b")
theorem wG(D_law_anew:gg P w K mg)(D_law_take:cJ P w K mg):mN P w K mg:=fun base=>dG X G T.f_law_some (fun S _ _ _ _ _ _ _ _ _ hr hu h=>bK (Eb h) (ac (br (qf hr (D_law_anew base) (a1 (pv 0)))) (ae (au (eK cY rfl z.tuple dB (a1 (qc (aW (pv 1)) (bw (by decide)) fun _ _ _ _ _ _=>⟨gc 0,eJ (eZ dA (qf hr (D_law_take base) (a2 (pv 1) af)) af),pv 0⟩))))))) (by walk_at "b")
theorem pN:eE P w K mg:=fun base=>dG X G T.f_law_still_on (fun S _ _ _ _ _ _ _ _ _ hr hu h=>bK (wS h) (ac (qs 2 S (qL rfl z.list (a1 (pv 1)))) (ac (qs 3 S af) (ac (w6 bx (eZ xa (pv 3) (ql z.len (a1 (pv 2)))) (ac (bF bx rfl (aW (pv 0)) (dg rfl (ax (gn 4 S) (ax (gn 5 S) (ax (gn 6 S) cp)))) (ae (bb (PW.pt (e_ (eZ (eP hu) (pv 4) (xq (pv 2) (pv 3))) (e_ (eZ (eP hu) (pv 5) (aE (a1 bP))) (eV (DE (g9 hu) (pv 6) (pv 2)))))) (ae (br (ij fz hW hV cQ (pv 2) (a1 (pv 6))))) az))) (ae (qs 3 S (aJ cB (pv 3) af))))) (ae (au (pv 2))))))) (by walk_at "b")
theorem AY(D_law_still_on:eE P w K mg):kY P w K mg:=fun base=>dG X G T.f_law_on (fun S _ _ _ _ _ _ _ _ _ hr hu h=>bK (Gk h) (ac (qs 2 S (qf hr (D_law_still_on base) (a2 (xq (pv 0) af) (pv 1)))) (ae (au (eK cY rfl z.tuple dB (a1 (qc (aW (xq (pv 0) af)) (bw (by decide)) fun _ _ _ _ _ _=>⟨gc 0,eJ (DE (vz hu) (pv 0) (pv 1)),pv 0⟩))))))) (by walk_at "b")
theorem pO:eF P w K mg:=fun base=>dG X G T.f_law_is_quiet (fun S _ _ _ _ _ _ _ _ _ hr hu h=>bK (Bc h) (ae (au (BO (eP hu) (qc (aW (xq (pv 0) af)) (bw (by decide)) fun _ _ _ _ _ _=>⟨gc 0,eJ (PW.pt (e_ (eZ (eP hu) (xq (pv 0) af) (pv 1)) (eV (eZ tT (xq (xq (pv 0) af) af) bP)))),pv 0⟩) (bG cA))))) (by walk_at "b")
theorem sI(D_law_on:kY P w K mg)(D_law_is_quiet:eF P w K mg):gZ P w K mg:=fun base=>dG X G T.f_law_behind (fun S _ _ _ _ _ _ _ _ _ hr hu h=>bK (Eh h) (ac (bb (eZ (eP hu) (pv 2) (aE (a1 bP))) (ae (au (eK cY rfl z.tuple dB (a1 (qc (vx (pv 1)) (bw (by decide)) fun _ _ _ _ _ _=>⟨gc 0,eJ (fb (qf hr (D_law_is_quiet base) (a2 (pv 1) (pv 0)))),pv 0⟩))))) az) (ae (au (qf hr (D_law_on base) (a2 (pv 0) (qc (aW (xq (pv 0) af)) (bw (by decide)) fun _ _ _ _ _ _=>⟨gc 0,eJ (PW.pt (e_ (DE (vz hu) (xq (pv 0) af) (pv 1)) (eV (eZ (eP hu) (xq (pv 0) af) (pv 2))))),xq (pv 0) af⟩))))))) (by walk_at "b")
theorem wH:sh P w K mg:=fun base=>by
  have E0:gm P w K mg base "_law_same" ["found","due"] 0 Gi:=by
   obtain⟨f,a,t⟩:=T.f_law_same;obtain⟨fd,F⟩:=t.fun_;exact⟨f,fd,Gu,hZ X G a,F.kp,F.binds (ps:=["found","due"]) (by walk_at "b")⟩
  have st:∀(j:Nat) (sp:Sp),j<=8->(∀m,j=m+1->sp=(k4 K m))->gm P w K mg base "_law_same" ["found","due"] j sp->gm P w K mg base "_law_same" ["found","due"] (j+1) (k4 K j):=fun j sp hj hsp Ds=>dG X G T.f_law_same (fun S _ _ _ _ _ _ _ _ _ hr hu h=>bK (Ci hj hsp h) (ac (bb (dZ (CI (pv 1))) (ae (au (rm (CI (pv 0))))) az) (ac (bb (eZ vy (pv 1) cH) (ae (au (BO vy (pv 0) cH))) az) (ac (bb (eZ vy (pv 1) cH) (ae (au (BO vy (pv 0) cH))) az) (ac (bb (fb (qB fI z.isinstance fJ (a2 (pv 1) (tQ rfl z.int)))) (ae (au (mq (qB fI z.isinstance fJ (a2 (pv 0) (tQ rfl z.int))) (mq (FD (qB fI z.isinstance fJ (a2 (pv 0) (yD rfl z.bool)))) (rk (BO (eP hu) (pv 0) (pv 1))))))) az) (ac (bb (fb (qB fI z.isinstance fJ (a2 (pv 1) (tP rfl z.str)))) (ae (au (mq (qB fI z.isinstance fJ (a2 (pv 0) (tP rfl z.str))) (rk (BO (eP hu) (pv 0) (pv 1)))))) az) (ac (bb (PW.pt (jd (eZ tT (qB fI z.isinstance fJ (a2 (pv 1) (pk rfl z.tuple))) (qB fI z.isinstance fJ (a2 (pv 0) (pk rfl z.tuple)))) (iX (eZ tT (qB fI z.isinstance fJ (a2 (pv 1) (rj rfl z.list))) (qB fI z.isinstance fJ (a2 (pv 0) (rj rfl z.list))))))) (ae (au cH)) az) (ac (bb (eZ tT (ql z.len (a1 (pv 0))) (ql z.len (a1 (pv 1)))) (ae (au cH)) az) (ac (bF bx rfl (Aa rfl z.zip (a2 (pv 0) (pv 1))) (dg rfl (ax (gn 2 S) (ax (gn 3 S) cp))) (ae (bb (mo (fb (Fe Ds hr rfl (a2 (pv 2) (pv 3))))) (ae (au cH)) az))) (ae (au cH))))))))))) (by walk_at "b") (l:=fun vs H Q E h=>by rcases h with h|h;(obtain⟨_,_,_,_,rfl,_⟩:=h;rfl);(obtain⟨_,_,h,_⟩:=h;subst h;rfl));have E1:=st 0 _ (by decide) (fun m e=>by cases e) E0;have E2:=st 1 _ (by decide) (fun m e=>by cases e;rfl) E1;exact E2
theorem pL:eI P w K mg C:=fun base=>dM c.mc.cls T.f_Machine_asks (fun S _ _ _ _ _ _ _ _ _ hr hu h=>bK (Ei c.mc h) (ae (au (qL rfl z.list (a1 (iZ (pv 0) rfl)))))) (by walk_at "b")
theorem pK:fP P w K mg C:=fun base=>dM c.mc.cls T.f_Machine_says (fun S _ _ _ _ _ _ _ _ _ hr hu h=>bK (Ec c.mc h) (ae (au (qL rfl z.list (a1 (iZ (pv 0) rfl)))))) (by walk_at "b")
theorem sK(M_Machine_rooms:cu P w K mg C)(D_with_still:gX P w K mg C):jT P w K mg C:=fun base=>dG X G T.f_first_face (fun S _ _ _ _ _ _ _ _ _ hr hu h=>bK (sR h) (ae (au (qf hr (D_with_still base) (a2 (pv 0) (aP bq (Bg hr (M_Machine_rooms base) (pv 0)) bu (aV af))))))) (by walk_at "b")
theorem qP(D_with_still:gX P w K mg C)(M_Machine_goals:eX P w K mg C)(M_Machine_is_quiet:dJ P w K mg C):i7 P w K mg C:=fun base=>dG X G T.f_face_behind (fun S _ _ _ _ _ _ _ _ _ hr hu h=>bK (Cq c.hush h) (ac (bb (eZ (eP hu) (pv 2) (jX rfl c.HUSH)) (ae (au (eK cY rfl z.tuple dB (a1 (qc (vx (pv 1)) (bw (by decide)) fun _ _ _ _ _ _=>⟨gc 0,eJ (fb (qm hr (M_Machine_is_quiet base) (pv 1) (a1 (pv 0)))),pv 0⟩))))) az) (ac (qs 3 S (bG cA)) (ac (bF bx rfl (vx (pv 1)) (gn 4 S) (ae (br (ij fz PySem.F.slot_list_extend PySem.F.type_list_extend Bl (pv 3) (a1 (qm hr (M_Machine_goals base) (pv 0) (a2 (pv 4) (pv 2)))))))) (ae (au (qf hr (D_with_still base) (a2 (pv 0) (pv 3))))))))) (by walk_at "b")
theorem mW(M_Machine_asks:eI P w K mg C)(M_Machine_says:fP P w K mg C):ga P w K mg C a_HUSH:=fun base=>dG X G T.f_signs_in_order (fun S _ _ _ _ _ _ _ _ _ hr hu h=>bK (Fx h) (ae (au (aJ cf (aJ cf (qc (aW (Bg hr (M_Machine_asks base) (pv 0))) (bw (by decide)) fun _ _ _ _ _ _=>⟨gc 0,dQ,aE (a2 bP (pv 0))⟩) (qc (aW (Bg hr (M_Machine_says base) (pv 0))) (bw (by decide)) fun _ _ _ _ _ _=>⟨gc 0,dQ,aE (a2 bP (pv 0))⟩)) (bG (a1 (jX rfl c.HUSH))))))) (by walk_at "b")
theorem wE(D_face_behind:i7 P w K mg C)(D_signs_in_order:ga P w K mg C a_HUSH):mM P w K mg C:=fun base=>dG X G T.f_steps_at (fun S _ _ _ _ _ _ _ _ _ hr hu h=>bK (wT c.hush h) (ac (qs 2 S je) (ac (bF bx rfl (aW (qf hr (D_signs_in_order base) (a1 (pv 0)))) (gn 3 S) (ac (qs 4 S (qf hr (D_face_behind base) (a3 (pv 0) (pv 1) (pv 3)))) (ae (bb (eZ xb (ql z.len (a1 (pv 4))) af) (ae (rf hu (pv 2) (pv 3) (pv 4) rfl)) az)))) (ae (au (pv 2)))))) (by walk_at "b")
theorem Cd(M_Machine_led_from:dI P w K mg C)(M_Machine_goals:eX P w K mg C):wj P w K mg C:=fun base=>dG X G T.f_takes (fun S _ _ _ _ _ _ _ _ _ hr hu h=>bK (Ch h) (ae (au (qB (xE rfl) z.any boot_any (a1 (qc (aW (aJ cf (bG (a1 (pv 1))) (qm hr (M_Machine_led_from base) (pv 0) (a1 (pv 1))))) (bw (by decide)) fun _ _ _ _ _ _=>⟨gc 0,dQ,BO xb (ql z.len (a1 (qm hr (M_Machine_goals base) (pv 1) (a2 (pv 0) (aE (a2 bP (pv 2))))))) af⟩)))))) (by walk_at "b")
theorem sF(M_Machine_asks:eI P w K mg C)(M_Machine_says:fP P w K mg C):jQ P w K mg C:=fun base=>dG X G T.f_need_match (fun S _ _ _ _ _ _ _ _ _ hr hu h=>bK (qU h) (ae (bb (PW.pt (jd (eZ (ik hu) (Bg hr (M_Machine_asks base) (pv 0)) (Bg hr (M_Machine_asks base) (pv 1))) (iX (eZ (ik hu) (Bg hr (M_Machine_says base) (pv 0)) (Bg hr (M_Machine_says base) (pv 1)))))) (ae (rc)) az))) (by walk_at "b")
theorem jA(M_Machine_rooms:cu P w K mg C)(M_Machine_asks:eI P w K mg C)(D_takes:wj P w K mg C):d9 P w K mg C:=fun base=>dG X G T.f_need_all_asks_taken (fun S _ _ _ _ _ _ _ _ _ hr hu h=>bK (vw h) (ae (bF bx rfl (aW (Bg hr (M_Machine_rooms base) (pv 0))) (gn 1 S) (ae (bF bx rfl (aW (Bg hr (M_Machine_asks base) (pv 0))) (gn 2 S) (ae (bb (mo (fb (qf hr (D_takes base) (a3 (pv 0) (pv 1) (pv 2))))) (ae (rc)) az))))))) (by walk_at "b")
theorem sD(D_need_match:jQ P w K mg C)(D_need_all_asks_taken:d9 P w K mg C):jO P w K mg C:=fun base=>dG X G T.f_need_taker (fun S _ _ _ _ _ _ _ _ _ hr hu h=>bK (qT (K:=K) h) (ac (br (qf hr (D_need_match base) (a2 (pv 0) (pv 1)))) (ae (br (qf hr (D_need_all_asks_taken base) (a1 (pv 1))))))) (by walk_at "b")
theorem j1:eG P w K mg C:=fun base=>dM c.mc.cls T.f_Machine_doors_from (fun S _ _ _ _ _ _ _ _ _ hr hu h=>bK (sU c.mc h) (ae (au (qL rfl z.list (a1 (nA hu (iZ (pv 0) rfl) (pv 1) (aE cA) ⟨rfl,rfl,rfl,rfl⟩)))))) (by walk_at "b")
theorem qK(M_Machine_is_quiet:dJ P w K mg C)(M_Machine_doors_from:eG P w K mg C):i4 P w K mg C:=fun base=>dG X G T.f_rows_needed (fun S _ _ _ _ _ _ _ _ _ hr hu h=>bK (Cj c.hush c.still h) (ac (qs 4 S (bG cA)) (ac (bF bx rfl (aW (qm hr (M_Machine_doors_from base) (pv 0) (a1 (pv 1)))) (dg rfl (ax (gn 5 S) (ax (gn 6 S) (ax (gn 7 S) cp)))) (ae (bb (eZ (eP hu) (pv 6) (jX rfl c.STILL)) (ae (br (ij fz hW hV cQ (pv 4) (a1 (aE (a2 (pv 7) (pv 2))))))) (ae (bb (PW.pt (jd (dZ (jI hu (pv 6) (pv 3))) (iX (eZ dA (xt (pv 6) af) bP)))) (ae (br (ij fz hW hV cQ (pv 4) (a1 (aE (a2 (pv 7) (w8 hu (pv 3) (pv 6) ⟨rfl,rfl,rfl,rfl⟩))))))) az))))) (ac (bb (fb (qm hr (M_Machine_is_quiet base) (pv 0) (a1 (pv 1)))) (ae (br (ij fz hW hV cQ (pv 4) (a1 (aE (a2 (pv 1) (w8 hu (pv 3) (jX rfl c.HUSH) ⟨rfl,rfl,rfl,rfl⟩))))))) az) (ae (au (pv 4))))))) (by walk_at "b")
theorem pP(D_as_keysX:jV P w K mg)(M_Machine_rooms:cu P w K mg C):iz P w K mg C:=fun base=>dG X G T.f_is_full_face (fun S _ _ _ _ _ _ _ _ _ hr hu h=>bK (Eg h) (ac (qs 2 S (qf hr (D_as_keysX base) (a1 (pv 1)))) (ae (au (mq (BO xb (ql z.len (a1 (pv 1))) af) (rk (BO (eP hu) (pv 1) (eK cY rfl z.tuple dB (a1 (qc (aW (Bg hr (M_Machine_rooms base) (pv 0))) (bw (by decide)) fun _ _ _ _ _ _=>⟨gc 0,eJ (dZ (jI hu (pv 0) (pv 1))),pv 0⟩)))))))))) (by walk_at "b")
theorem sJ(D_as_keysX:jV P w K mg)(M_Machine_rooms:cu P w K mg C)(D_first_face:jT P w K mg C)(D_steps_at:mM P w K mg C)(D_need_taker:jO P w K mg C)(D_rows_needed:i4 P w K mg C)(D_is_full_face:iz P w K mg C):nR P w K mg C:=fun base=>dG X G T.f_is_keeping (fun S _ _ _ _ _ _ _ _ _ hr hu h=>bK (yz h) (ac (br (qf hr (D_need_taker base) (a2 (pv 0) (pv 1)))) (ac (qs 3 S (qf hr (D_as_keysX base) (a1 (pv 2)))) (ac (qs 4 S (qf hr (D_as_keysX base) (a1 (Bg hr (M_Machine_rooms base) (pv 1))))) (ac (qs 5 S je) (ac (bF bx rfl (CG (pv 3)) (dg rfl (ax (gn 6 S) (ax (gn 7 S) cp))) (ac (bb (dZ (dW hu (pv 7) (pv 5))) (ac (bb (mo (fb (qf hr (D_is_full_face base) (a2 (pv 0) (pv 7))))) (ae (au cH)) az) (ae (rf hu (pv 5) (pv 7) (qf hr (D_steps_at base) (a2 (pv 0) (pv 7))) rfl))) az) (ae (bb (PW.pt (jd (dZ (dW hu (pv 6) (pv 4))) (iX (mo (fb (qB (kP rfl) z.all boot_all (a1 (qc (aW (qf hr (D_rows_needed base) (bS (pv 1) (a3 (pv 6) (pv 7) (jH hu (pv 5) (pv 7) (fun _ _=>rfl)))))) (bw (by decide)) fun _ _ _ _ _ _=>⟨gc 0,dQ,rm (Ew hu (pv 0) (pv 1))⟩)))))))) (ae (au cH)) az)))) (ae (au (rm (jI hu (aE (a2 (xl (Bg hr (M_Machine_rooms base) (pv 1)) af) (qf hr (D_first_face base) (a1 (pv 0))))) (pv 3))))))))))) (by walk_at "b")
theorem qM(D_law_take:cJ P w K mg)(D_law_put:jo P w K mg)(D_law_still_on:eE P w K mg):i5 P w K mg:=fun base=>dG X G T.f_law_willing (fun S _ _ _ _ _ _ _ _ _ hr hu h=>bK (yu h) (ac (iY (pv 1) (dg rfl (ax (gn 2 S) (ax (gn 3 S) (ax (gn 4 S) (ax (gn 5 S) cp)))))) (ac (qs 5 S (qL rfl z.list (a1 (pv 5)))) (ac (bF bx rfl (aW (pv 4)) (gn 6 S) (ae (bF bx rfl (aW (pv 2)) (gn 7 S) (ac (qs 8 S (qf hr (D_law_still_on base) (a2 (pv 5) (bG (a1 (pv 6)))))) (ae (bb (eZ (eP hu) (qc (aW (pv 5)) (bw (by decide)) fun _ _ _ _ _ _=>⟨gc 0,eJ (PW.pt (e_ (DE (vz hu) (xq (pv 0) af) (pv 1)) (eV (eZ (eP hu) (xq (pv 0) af) (aE (a2 bP (pv 2))))))),pv 0⟩) (bG cA)) (ac (qs 9 S (xl (bG (a2 (pv 6) (xl (pv 4) (qf hr (D_law_take base) (a2 (pv 0) (ql z.len (a1 (pv 4)))))))) (qf hr (D_law_take base) (a2 (pv 0) af)))) (ae (br (qf hr (D_law_put base) (a2 (pv 5) (aE (a3 (pv 6) (aE (a2 bP (pv 7))) (pv 9)))))))) az)))))) (ae (au (aE (bS (pv 2) (a3 (pv 3) (pv 4) (pv 5)))))))))) (by walk_at "b")
theorem sG(D_law_take:cJ P w K mg)(D_law_put:jo P w K mg)(D_law_still_on:eE P w K mg):jR P w K mg:=fun base=>dG X G T.f_law_turned (fun S _ _ _ _ _ _ _ _ _ hr hu h=>bK (A_ h) (ac (iY (pv 1) (dg rfl (ax (gn 2 S) (ax (gn 3 S) (ax (gn 4 S) (ax (gn 5 S) cp)))))) (ac (qs 5 S (qL rfl z.list (a1 (pv 5)))) (ac (qs 6 S (qf hr (D_law_take base) (a2 (pv 0) af))) (ac (qs 7 S (qf hr (D_law_take base) (a2 (pv 0) (qB (BD rfl) z.max PyProof.Rows.boot_max (a2 af (ql z.len (a1 (pv 5)))))))) (ac (qs 8 S (xl (pv 4) (qf hr (D_law_take base) (a2 (pv 0) (ql z.len (a1 (pv 4))))))) (ac (qs 9 S (xl (pv 4) (qf hr (D_law_take base) (a2 (pv 0) (ql z.len (a1 (pv 4))))))) (ac (bb (eZ dA (pv 6) af) (ae (br (qf hr (D_law_put base) (a2 (pv 5) (aE (a3 (pv 8) (aE (a2 bP (xl (pv 3) (qf hr (D_law_take base) (a2 (pv 0) (ql z.len (a1 (pv 3)))))))) (pv 9))))))) (ae (bb (eZ dA (pv 6) af) (ae (br (qf hr (D_law_put base) (a2 (pv 5) (aE (a3 (pv 8) (aE (a2 bP (xl (pv 2) (qf hr (D_law_take base) (a2 (pv 0) (ql z.len (a1 (pv 2)))))))) (pv 9))))))) (ae (bb (PW.pt (e_ (eZ xa (pv 6) af) (e_ (eZ (ik hu) (pv 5) (bG cA)) (eV (eZ tT (xt (xt (xl (pv 5) (pv 7)) af) af) bP))))) (ac (qs 10 S (ij fz PySem.F.slot_list_pop PySem.F.type_list_pop CT (pv 5) (a1 (pv 7)))) (ae (bb (eZ dA (pv 6) af) (ae (br (qf hr (D_law_put base) (a2 (pv 5) (aE (a3 (xt (pv 10) af) (xt (pv 10) af) (pv 9))))))) az))) (ae (bb (PW.pt (e_ (eZ dA (pv 6) af) (eV (DE (g9 hu) (pv 8) (qf hr (D_law_still_on base) (a2 (pv 5) (bG (a1 (pv 9))))))))) (ae (br (qf hr (D_law_put base) (a2 (pv 5) (aE (a3 (pv 8) (aE (a1 bP)) (pv 9))))))) az))))))) (ae (au (aE (bS (pv 2) (a3 (pv 3) (pv 4) (pv 5)))))))))))))) (by walk_at "b")
theorem qN(D_law_take:cJ P w K mg)(D_law_names:iT P w K mg):i6 P w K mg:=fun base=>dG X G T.f_law_renamed (fun S _ _ _ _ _ _ _ _ _ hr hu h=>bK (wU h) (ac (iY (pv 1) (dg rfl (ax (gn 2 S) (ax (gn 3 S) (ax (gn 4 S) (ax (gn 5 S) cp)))))) (ac (qs 6 S ii) (ac (bF bx rfl (Aa rfl z.zip (a2 (pv 4) (qf hr (D_law_names base) (a2 (pv 0) (ql z.len (a1 (pv 4))))))) (dg rfl (ax (gn 7 S) (ax (gn 8 S) cp))) (ae (eW hu (pv 6) (pv 7) (pv 8) rfl))) (ac (qsc 9 S (aW (pv 4)) (bw (by decide)) fun _ _ _ _ _ _=>⟨gc 0,dQ,jH hu (pv 1) (pv 0) (fun _ _=>rfl)⟩) (ac (qs 10 S (aJ cB af (qf hr (D_law_take base) (a2 (pv 0) (ql z.len (a1 (pv 4))))))) (ac (qs 9 S (aJ cf (aJ cf (aP bq (pv 9) bu (aV af)) (aP bq (pv 9) (aV (pv 10)) bu)) (aP bq (pv 9) (aV af) (aV (pv 10))))) (ac (qsc 5 S (aW (pv 5)) (Ex (oK (bw (by decide)) g_ (oK (bw (by decide)) g_ (oK (bw (by decide)) g_ (CJ) (oN)) (mr g_ (oN))) (mr g_ (mr g_ (oN))))) fun _ _ _ _ _ _=>⟨dg rfl (ax (gc 0) (ax (gc 1) (ax (gc 2) cp))),dQ,aE (a3 (jH hu (pv 3) (pv 0) (fun _ _=>rfl)) (pv 1) (jH hu (pv 3) (pv 2) (fun _ _=>rfl)))⟩) (ae (au (aE (bS (pv 2) (a3 (pv 3) (pv 9) (pv 5)))))))))))))) (by walk_at "b")
theorem wJ(D_law_anew:gg P w K mg)(D_law_take:cJ P w K mg)(D_law_willing:i5 P w K mg)(D_law_turned:jR P w K mg)(D_law_renamed:i6 P w K mg):sj P w K mg:=fun base=>dG X G T.f_law_near (fun S _ _ _ _ _ _ _ _ _ hr hu h=>bK (Ee (K:=K) h) (ac (br (qf hr (D_law_anew base) (a1 (pv 0)))) (ac (bF bx rfl (g8 rfl z.range (a1 (qf hr (D_law_take base) (a2 (pv 0) (aJ cB (pv 2) af))))) (gn 3 S) (ae (qs 1 S (qf hr (D_law_turned base) (a2 (pv 0) (pv 1)))))) (ac (qs 1 S (qf hr (D_law_willing base) (a2 (pv 0) (pv 1)))) (ac (bb (eZ dA (qf hr (D_law_take base) (a2 (pv 0) af)) af) (ae (qs 1 S (qf hr (D_law_renamed base) (a2 (pv 0) (pv 1))))) az) (ae (au (pv 1)))))))) (by walk_at "b")
theorem mY(D_law_is_quiet:eF P w K mg)(D_law_behind:gZ P w K mg):gb P w K mg:=fun base=>dG X G T.f_law_row_stands (fun S _ _ _ _ _ _ _ _ _ hr hu h=>bK (Ck h) (ac (bF bx rfl (aW (xq (pv 1) af)) (dg rfl (ax (gn 5 S) (ax (gn 6 S) (ax (gn 7 S) cp)))) (ac (bb (PW.pt (e_ (eZ dA (pv 5) (pv 3)) (e_ (eZ (eP hu) (pv 6) (aE (a1 bP))) (eV (dZ (dW hu (aE (a2 (pv 7) (pv 4))) (pv 2))))))) (ae (au cH)) az) (ae (bb (PW.pt (e_ (eZ dA (pv 5) (pv 3)) (eV (eZ (ik hu) (pv 6) (aE (a1 bP)))))) (ac (qs 8 S (qf hr (D_law_behind base) (a3 (pv 0) (pv 4) (pv 6)))) (ae (bb (PW.pt (jd (PW.pt (e_ (eZ (eP hu) (pv 8) (aE cA)) (eV (eZ dA (xt (pv 6) af) bP)))) (iX (PW.pt (e_ (eZ (ik hu) (pv 8) (aE cA)) (eV (dZ (dW hu (aE (a2 (pv 7) (pv 8))) (pv 2))))))))) (ae (au cH)) az))) az)))) (ac (bb (fb (qf hr (D_law_is_quiet base) (a2 (pv 1) (pv 3)))) (ac (qs 8 S (qf hr (D_law_behind base) (a3 (pv 0) (pv 4) (aE (a1 bP))))) (ae (au (mq (BO (ik hu) (pv 8) (aE cA)) (rk (rm (jI hu (aE (a2 (pv 3) (pv 8))) (pv 2)))))))) az) (ae (au cH))))) (by walk_at "b")
theorem lF(D_law_on:kY P w K mg)(D_law_row_stands:gb P w K mg):iy P w K mg:=fun base=>dG X G T.f_law_paper_stands (fun S _ _ _ _ _ _ _ _ _ hr hu h=>bK (yv h) (ac (qs 3 S je) (ac (bF bx rfl (aW (pv 2)) (gn 4 S) (ac (bb (PW.pt (jd (DE (g9 hu) (xt (pv 4) af) (xq (pv 1) af)) (jd (eZ (eP hu) (xt (pv 4) af) (aE cA)) (iX (eZ (ik hu) (xt (pv 4) af) (eK cY rfl z.tuple dB (a1 (qc (aW (xq (pv 0) af)) (bw (by decide)) fun _ _ _ _ _ _=>⟨gc 0,eJ (DE (vz hu) (pv 0) (xt (pv 1) af)),pv 0⟩)))))))) (ae (au cH)) az) (ae (rf hu (pv 3) (pv 4) cH rfl)))) (ac (bb (dZ (dW hu (aE (a2 (xl (xq (pv 1) af) af) (qf hr (D_law_on base) (a2 (pv 0) (aP bq (xq (pv 0) af) bu (aV af)))))) (pv 3))) (ae (au cH)) az) (ac (bF bx rfl (aW (pv 2)) (dg rfl (ax (gn 5 S) (ax (gn 6 S) cp))) (ae (bb (mo (fb (qf hr (D_law_row_stands base) (bS (pv 0) (bS (pv 1) (a3 (pv 3) (pv 5) (pv 6))))))) (ae (au cH)) az))) (ae (au cH))))))) (by walk_at "b")
theorem vf(D_law_on:kY P w K mg)(D_law_is_quiet:eF P w K mg)(D_law_behind:gZ P w K mg):pF P w K mg:=fun base=>dG X G T.f_law_paper (fun S _ _ _ _ _ _ _ _ _ hr hu h=>bK (Bd h) (ac (qs 2 S (bG (a1 (aE (a2 (xl (xq (pv 1) af) af) (qf hr (D_law_on base) (a2 (pv 0) (aP bq (xq (pv 0) af) bu (aV af))))))))) (ac (qs 3 S (Bh hu (xl (pv 2) af) cH)) (ac (bF bx rfl (g8 rfl z.range (a1 af)) (gn 4 S) (ae (bb (eZ xa (pv 4) (ql z.len (a1 (pv 2)))) (ac (iY (xl (pv 2) (pv 4)) (dg rfl (ax (gn 5 S) (ax (gn 6 S) cp)))) (ac (qsc 7 S (aW (xq (pv 1) af)) (bw (by decide)) fun _ _ _ _ _ _=>⟨gc 0,eJ (eZ dA (xq (pv 0) af) (pv 1)),aE (a2 (xq (pv 0) af) (xq (pv 0) af))⟩) (ac (bb (fb (qf hr (D_law_is_quiet base) (a2 (pv 1) (pv 5)))) (ae (br (ij fz hW hV cQ (pv 7) (a1 (aE (a2 (aE (a1 bP)) (pv 5))))))) az) (ae (bF bx rfl (aW (pv 7)) (dg rfl (ax (gn 8 S) (ax (gn 9 S) cp))) (ac (qs 10 S (pv 6)) (ac (bb (eZ (ik hu) (pv 8) (aE (a1 bP))) (ae (qs 10 S (qf hr (D_law_behind base) (a3 (pv 0) (pv 6) (pv 8))))) az) (ae (bb (PW.pt (e_ (eZ (ik hu) (pv 10) (aE cA)) (eV (dZ (dW hu (aE (a2 (pv 9) (pv 10))) (pv 3)))))) (ac (eW hu (pv 3) (aE (a2 (pv 9) (pv 10))) cH rfl) (ae (br (ij fz hW hV cQ (pv 2) (a1 (aE (a2 (pv 9) (pv 10)))))))) az))))))))) az))) (ae (au (pv 2))))))) (by walk_at "b")
theorem wK(D_law_anew:gg P w K mg)(D_law_take:cJ P w K mg)(D_law_some:mN P w K mg):sk P w K mg:=fun base=>dG X G T.f_law_bent (fun S _ _ _ _ _ _ _ _ _ hr hu h=>bK (Cr h) (ac (br (qf hr (D_law_anew base) (a1 (pv 0)))) (ac (qs 4 S (qf hr (D_law_take base) (a2 (pv 0) af))) (ac (qs 5 S (qf hr (D_law_take base) (a2 (pv 0) (ql z.len (a1 (pv 3)))))) (ac (qs 6 S (aP bq (qc (CF bP) (bw (by decide)) fun _ _ _ _ _ _=>⟨gc 0,eJ (DE (g9 hu) (pv 0) (aJ cf (xq (pv 1) af) (xq (pv 2) af))),pv 0⟩) bu (aV af))) (ac (qs 7 S (aJ cf (aJ cf (xq (pv 2) af) (pv 6)) (aP bq (xq (pv 1) af) bu (aV af)))) (ac (qs 8 S (xl (pv 7) (qf hr (D_law_take base) (a2 (pv 0) (ql z.len (a1 (pv 7))))))) (ac (qs 9 S (qf hr (D_law_some base) (a2 (pv 0) (xq (pv 1) af)))) (ac (iY (xl (pv 3) (pv 5)) (dg rfl (ax (gn 10 S) (ax (gn 11 S) cp)))) (ac (bb (eZ dA (pv 4) af) (ae (au (aJ cf (aP bq (pv 3) bu (aV (pv 5))) (aP bq (pv 3) (aV (aJ cB (pv 5) af)) bu)))) az) (ac (bb (eZ dA (pv 4) af) (ae (au (aJ cf (aJ cf (aP bq (pv 3) bu (aV (pv 5))) (bG (a1 (aE (a2 (pv 8) (pv 9)))))) (aP bq (pv 3) (aV (pv 5)) bu)))) az) (ac (bb (eZ dA (pv 4) af) (ae (au (aJ cf (aJ cf (aP bq (pv 3) (aV (pv 5)) bu) (aP bq (pv 3) bu (aV (pv 5)))) (aP bq (pv 3) (aV (pv 5)) (aV (aJ cB (pv 5) af)))))) az) (ac (bb (eZ dA (pv 4) af) (ae (au (aJ cf (aJ cf (aP bq (pv 3) bu (aV (pv 5))) (bG (a1 (aE (a2 (pv 10) (En (pv 11) (Gq Fq af))))))) (aP bq (pv 3) (aV (pv 5)) bu)))) az) (ac (bb (eZ dA (pv 4) af) (ae (au (aJ cf (aJ cf (aP bq (pv 3) bu (aV (pv 5))) (bG (a1 (aE (a2 (pv 10) (aJ Ag (pv 11) (aP DZ (pv 11) bu (aV af)))))))) (aP bq (pv 3) (aV (pv 5)) bu)))) az) (ac (bb (eZ dA (pv 4) af) (ae (au (aJ cf (aJ cf (aP bq (pv 3) bu (aV (pv 5))) (bG (a1 (aE (a2 (pv 10) (pv 9)))))) (aP bq (pv 3) (aV (aJ cB (pv 5) af)) bu)))) az) (ac (bb (eZ dA (pv 4) af) (ae (au (aJ cf (aJ cf (aP bq (pv 3) bu (aV (pv 5))) (bG (a1 (aE (a2 (pv 8) (pv 11)))))) (aP bq (pv 3) (aV (pv 5)) bu)))) az) (ac (bb (eZ dA (pv 4) af) (ae (au (aJ cf (aJ cf (aP bq (pv 3) bu (aV (pv 5))) (bG (a1 (aE (a2 (pv 10) (aJ Ag (pv 11) (aE (a1 (xl (pv 6) af))))))))) (aP bq (pv 3) (aV (pv 5)) bu)))) az) (ac (bb (eZ dA (pv 4) af) (ae (au (aJ cf (aJ cf (aP bq (pv 3) bu (aV (pv 5))) (bG (a1 (aE (a2 (xl (pv 6) af) (pv 11)))))) (aP bq (pv 3) (aV (pv 5)) bu)))) az) (ac (bb (eZ dA (pv 4) af) (ae (au (aJ cf (pv 3) (bG (a1 (aE (a2 (pv 10) (aE (a1 (xl (pv 6) af)))))))))) az) (ae (au (pv 3)))))))))))))))))))))) (by walk_at "b")
end
theorem FK(X:K.In h)(G:h.Ns b_ mg)(z:Zs mg)(c:Cs K mg C a_STILL a_HUSH)(T:Ts K C):∃f fd,mg "law"=some (.ref f)/\(∀(s:Shared) (v:Value),l6 s fd ⟨[v],[]⟩ [("script",v)])/\∀base:Heap,kU P w K mg base CX0 7 f fd ["script"] (sp_law24 K):=by
 have D_law_spread:jS P w K mg:=sH X G z c T;have D_law_open:si P w K mg:=wI X G z c T;have D_law_anew:gg P w K mg:=wL X G z c T;have D_law_take:cJ P w K mg:=wF X G z c T D_law_spread;have D_law_names:iT P w K mg:=vg X G z c T D_law_take;have D_law_put:jo P w K mg:=yf X G z c T;have D_law_draw_doors:gf P w K mg:=mZ X G z c T D_law_take D_law_put;have D_law_model:pG P w K mg:=vh X G z c T D_law_anew D_law_take D_law_names D_law_draw_doors;have D_is_name:o7 P w K mg:=yg X G z c T;have D_as_keys:jp P w K mg:=yh X G z c T;have D_first_wrong_name:fe P w K mg:=lG X G z c T D_is_name D_as_keys;have D_door_signs:jU P w K mg:=sL X G z c T;have D_first_wrong_door:fg P w K mg:=lH X G z c T D_as_keys;have D_goals_by_start_and_sign:cP P w K mg:=ie X G z c T;have D_led_by_still:ix P w K mg:=pM X G z c T;have D_first_led_round:fO P w K mg:=mi X G z c T;have D_need_none:iS P w K mg:=ve X G z c T;have D_need_parts:jP P w K mg:=sE X G z c T D_first_wrong_name D_door_signs D_first_wrong_door D_need_none;have D_doors_by_start:gj P w K mg:=m8 X G z c T;have D_has_asks_alone:gh P w K mg:=m5 X G z c T;have D_Machine:o8 P w K mg C:=yi X G z c T D_as_keys D_goals_by_start_and_sign D_led_by_still D_first_led_round D_need_none D_need_parts D_doors_by_start D_has_asks_alone;have D_law_machine:lS P w K mg C:=qO X G z c T D_Machine;have D_as_keysX:jV P w K mg:=wM X G z c T;have M_Machine_rooms:cu P w K mg C:=oG X G z c T;have M_Machine_led_from:dI P w K mg C:=lD X G z c T;have D_with_still:gX P w K mg C:=sC X G z c T M_Machine_rooms M_Machine_led_from
 have M_Machine_goals:eX P w K mg C:=oH X G z c T;have M_Machine_is_quiet:dJ P w K mg C:=lE X G z c T;have D_law_some:mN P w K mg:=wG X G z c T D_law_anew D_law_take;have D_law_still_on:eE P w K mg:=pN X G z c T;have D_law_on:kY P w K mg:=AY X G z c T D_law_still_on;have D_law_is_quiet:eF P w K mg:=pO X G z c T;have D_law_behind:gZ P w K mg:=sI X G z c T D_law_on D_law_is_quiet;have D_law_same:sh P w K mg:=wH X G z c T;have M_Machine_asks:eI P w K mg C:=pL X G z c T;have M_Machine_says:fP P w K mg C:=pK X G z c T;have D_first_face:jT P w K mg C:=sK X G z c T M_Machine_rooms D_with_still;have D_face_behind:i7 P w K mg C:=qP X G z c T D_with_still M_Machine_goals M_Machine_is_quiet;have D_signs_in_order:ga P w K mg C a_HUSH:=mW X G z c T M_Machine_asks M_Machine_says;have D_steps_at:mM P w K mg C:=wE X G z c T D_face_behind D_signs_in_order;have D_takes:wj P w K mg C:=Cd X G z c T M_Machine_led_from M_Machine_goals;have D_need_match:jQ P w K mg C:=sF X G z c T M_Machine_asks M_Machine_says;have D_need_all_asks_taken:d9 P w K mg C:=jA X G z c T M_Machine_rooms M_Machine_asks D_takes;have D_need_taker:jO P w K mg C:=sD X G z c T D_need_match D_need_all_asks_taken;have M_Machine_doors_from:eG P w K mg C:=j1 X G z c T;have D_rows_needed:i4 P w K mg C:=qK X G z c T M_Machine_is_quiet M_Machine_doors_from
 have D_is_full_face:iz P w K mg C:=pP X G z c T D_as_keysX M_Machine_rooms;have D_is_keeping:nR P w K mg C:=sJ X G z c T D_as_keysX M_Machine_rooms D_first_face D_steps_at D_need_taker D_rows_needed D_is_full_face;have D_law_willing:i5 P w K mg:=qM X G z c T D_law_take D_law_put D_law_still_on;have D_law_turned:jR P w K mg:=sG X G z c T D_law_take D_law_put D_law_still_on;have D_law_renamed:i6 P w K mg:=qN X G z c T D_law_take D_law_names;have D_law_near:sj P w K mg:=wJ X G z c T D_law_anew D_law_take D_law_willing D_law_turned D_law_renamed;have D_law_row_stands:gb P w K mg:=mY X G z c T D_law_is_quiet D_law_behind;have D_law_paper_stands:iy P w K mg:=lF X G z c T D_law_on D_law_row_stands;have D_law_paper:pF P w K mg:=vf X G z c T D_law_on D_law_is_quiet D_law_behind;have D_law_bent:sk P w K mg:=wK X G z c T D_law_anew D_law_take D_law_some;obtain⟨f,a,t⟩:=T.f_law24;obtain⟨oc,od,an,sl,kV,dc,pm,cd,ct,l,c1,k1⟩:=t;have F:=C_ (st:=(fQ 64)) l c1 k1;have sc:jN AK CD (b9 (fQ 64)):=by walk_at "s"
 have S:=sc.nd;exact⟨f,_,hZ X G a,fun s v=>.of_eq rfl,fun base=>F.ok (k:=6) sc (by walk_at "l") (fun _ _ _ _ _ _ _ _ hr h=>by have hu:=Ar hr;exact bK (Cp (C:=C) h) (ac (qs 1 S (qf hr (D_law_open base) (a1 (pv 0)))) (ac (qs 2 S (qf hr (D_law_model base) (a3 (pv 1) af af))) (ac (qs 3 S (qf hr (D_law_near base) (a3 (pv 1) (pv 2) af))) (ac (qs 4 S (qf hr (D_law_machine base) (a1 (pv 2)))) (ac (qs 5 S (qf hr (D_law_machine base) (a1 (pv 3)))) (ac (qs 6 S (qf hr (D_law_paper base) (a2 (pv 2) (pv 3)))) (ac (bF bx rfl (aW (bG (bS (pv 6) (a3 (qf hr (D_law_bent base) (bS (pv 1) (a3 (pv 2) (pv 3) (pv 6)))) (bG cA) (qf hr (D_law_bent base) (bS (pv 1) (a3 (pv 2) (pv 3) (pv 6)))))))) (gn 7 S) (ac (qs 8 S (qL rfl z.list (a1 (pv 7)))) (ac (qs 9 S (qf hr (D_law_paper_stands base) (a3 (pv 2) (pv 3) (pv 7)))) (ae (bb (PW.pt (jd (mo (fb (qf hr (D_law_same base) (a2 (qf hr (D_is_keeping base) (a3 (pv 4) (pv 5) (pv 8))) (pv 9))))) (iX (eZ (ik hu) (pv 8) (pv 7))))) (ae (au cH)) az))))) (ae (au cH))))))))))⟩
theorem all_mk{l:PySem.W.OpenLaw}{fa:Addr}{u_LETTERS:Value}{u_LONGEST_NAME:Value}{u_MOST_WORDS:Value}{u_MOST_ROOMS:Value}{u_MOST_DOORS:Value}{o_STILL:Obj}{i_STILL:Array Value}{n_STILL:Nat}{o_HUSH:Obj}{i_HUSH:Array Value}{n_HUSH:Nat}(X:K.In h)(G:h.Ns b_ mg)(hfa:mg "law"=some (.ref fa))
  (aC:cy K b_ "Machine"=some (some (.ref C)))
  (pg:wq K C Str.empty=true)
  (hd:zD K C=true)
  (po:PySem.W.plainOver K C=true)
  (sa:eR K (.ref C) "__setattr__"=some (some (.builtin "object.__setattr__")))
  (mk:wn K C=true)
  (kc:i8 K (.ref C)=true)
  (na1:eR K (.ref C) "own_asks"=some none)
  (na2:eR K (.ref C) "own_says"=some none)
  (na3:eR K (.ref C) "own_rooms"=some none)
  (na4:eR K (.ref C) "own_doors"=some none)
  (na5:eR K (.ref C) "leaving"=some none)
  (na6:eR K (.ref C) "quiet"=some none)
  (na7:eR K (.ref C) "sign_goals"=some none)
  (na8:eR K (.ref C) "still_led"=some none)
  (z_all:cy K b_ "all"=some none)
  (z_any:cy K b_ "any"=some none)
  (z_bool:cy K b_ "bool"=some none)
  (z_dict:cy K b_ "dict"=some none)
  (z_enumerate:cy K b_ "enumerate"=some none)
  (z_int:cy K b_ "int"=some none)
  (z_isinstance:cy K b_ "isinstance"=some none)
  (z_len:cy K b_ "len"=some none)
  (z_list:cy K b_ "list"=some none)
  (z_max:cy K b_ "max"=some none)
  (z_range:cy K b_ "range"=some none)
  (z_str:cy K b_ "str"=some none)
  (z_tuple:cy K b_ "tuple"=some none)
  (z_zip:cy K b_ "zip"=some none)
  (g_LETTERS:cy K b_ "LETTERS"=some (some u_LETTERS))
  (r_LETTERS:RelV (.str "abcdefghijklmnopqrstuvwxyz") u_LETTERS)
  (g_LONGEST_NAME:cy K b_ "LONGEST_NAME"=some (some u_LONGEST_NAME))
  (r_LONGEST_NAME:RelV (.int 8) u_LONGEST_NAME)
  (g_MOST_WORDS:cy K b_ "MOST_WORDS"=some (some u_MOST_WORDS))
  (r_MOST_WORDS:RelV (.int 4) u_MOST_WORDS)
  (g_MOST_ROOMS:cy K b_ "MOST_ROOMS"=some (some u_MOST_ROOMS))
  (r_MOST_ROOMS:RelV (.int 150) u_MOST_ROOMS)
  (g_MOST_DOORS:cy K b_ "MOST_DOORS"=some (some u_MOST_DOORS))
  (r_MOST_DOORS:RelV (.int 2000) u_MOST_DOORS)
  (g_STILL:cy K b_ "STILL"=some (some (.ref a_STILL)))
  (l_STILL:K.lookup a_STILL=some o_STILL)
  (c_STILL:o_STILL.cls=.type "tuple")
  (d_STILL:o_STILL.data=.seq i_STILL n_STILL)
  (s_STILL:i_STILL.size<=ah)
  (v_STILL:bg (ar.map V.str) i_STILL.toList)
  (g_HUSH:cy K b_ "HUSH"=some (some (.ref a_HUSH)))
  (l_HUSH:K.lookup a_HUSH=some o_HUSH)
  (c_HUSH:o_HUSH.cls=.type "tuple")
  (d_HUSH:o_HUSH.data=.seq i_HUSH n_HUSH)
  (s_HUSH:i_HUSH.size<=ah)
  (v_HUSH:bg (bH.map V.str) i_HUSH.toList)
  (T:Ts K C)
 :∃fd:gA,(∀(s:Shared) (v:Value),l6 s fd ⟨[v],[]⟩ [("script",v)])/\∀base:Heap,K.In base->base.Ns b_ mg->kU l.prog w K mg base CX0 7 fa fd ["script"] (sp_law24 K):=by
 have z:Zs mg:=⟨fy X G z_all,fy X G z_any,fy X G z_bool,fy X G z_dict,fy X G z_enumerate,fy X G z_int,fy X G z_isinstance,fy X G z_len,fy X G z_list,fy X G z_max,fy X G z_range,fy X G z_str,fy X G z_tuple,fy X G z_zip⟩;have c:Cs K mg C a_STILL a_HUSH:=⟨⟨_,hZ X G g_LETTERS,r_LETTERS⟩,⟨_,hZ X G g_LONGEST_NAME,r_LONGEST_NAME⟩,⟨_,hZ X G g_MOST_WORDS,r_MOST_WORDS⟩,⟨_,hZ X G g_MOST_ROOMS,r_MOST_ROOMS⟩,⟨_,hZ X G g_MOST_DOORS,r_MOST_DOORS⟩,⟨_,hZ X G g_STILL,rfl⟩,⟨_,hZ X G g_HUSH,rfl⟩,zW l_STILL c_STILL d_STILL s_STILL v_STILL,zW l_HUSH c_HUSH d_HUSH s_HUSH v_HUSH,⟨⟨pg,hd,po,sa⟩,na1,na2,na3,na4,na5,na6,na7,na8⟩,hZ X G aC,mk,kc⟩;obtain⟨f,fd,e,b,k⟩:=FK (P:=l.prog) (w:=w) X G z c T;have e0:=hfa.symm.trans e;cases e0;exact⟨fd,b,fun base _ _=>k base⟩
end
end Mum
namespace PySem.W.Fast
def tw2491190490654064834:=0
def tw643746753563722803:=0
def tw11537043005257013141:=0
def tw6230620933307436110:=0
def tw11047894408911825042:=0
def tw5440337918388203248:=0
def tw14285997968044757160:=0
def tw389552784403520416:=0
def tw18404463655251142632:=0
def tw13225764216957025978:=0
def tw16374839896585490801:=0
def tw4348792658389503172:=0
def tw13491781604923595783:=0
def tw5506755264120875703:=0
def tw677549182277261315:=0
def tw16679146248707721739:=0
def tw15974178187101094438:=0
def tw16104894684167443145:=0
def tw11642694337411215000:=0
def tw5331703251426467014:=0
def tw9451434757193659943:=0
def tw997975171790920550:=0
def tw3674064842594478801:=0
def tw2802446633367619763:=0
def tw16047875045816777909:=0
def tw7253412642811880170:=0
def tw9257936604838676423:=0
def tw14349850560410493561:=0
def tw17461046945063100611:=0
def tw5062111879005570582:=0
def tw5038152393100297478:=0
def tw8306151498908096289:=0
def tw15222773235555572193:=0
def tw8035089128077320496:=0
def tw13501784610283240858:=0
def tw947629842691264032:=0
def tw4899690249613951713:=0
def tw2784903589634565631:=0
def tw10025033436007811271:=0
def tw17974734732920424048:=0
def tw12769190023914666150:=0
def tw9642530468897260614:=0
def tw8082140151643817494:=0
def tw12771798553618826060:=0
def tw2035364827784394565:=0
def tw8442680648732281774:=0
def tw12498208314655422206:=0
def tw6422427769821479827:=0
def tw9971386274595657551:=0
def tw1618893800934694410:=0
def tw15881188703919583644:=0
def tw11282078671974943111:=0
def tw14172944141601805905:=0
def tw3159382607619925886:=0
def tw10702241426191496245:=0
def tw18438253636821159954:=0
def tw18172648664562752611:=0
def tw7229198721996682651:=0
def tw18049704493501986873:=0
def tw15096513339173614886:=0
def tw5905242768809263305:=0
def tw4641969611066298190:=0
def tw6599788511779229924:=0
def tw6224443676512643434:=0
def tw14322349956640457869:=0
def tw11385980303789874899:=0
def tw16666376672551756932:=0
def tw3987381528668020128:=0
def tw6638068223191804874:=0
def tw7264331374810762395:=0
def tw9202014929328790109:=0
def tw14016594153602342026:=0
def tw8792065443012586264:=0
def tw7059194957546237135:=0
def tw15208499997588567891:=0
def tw13543775146946732125:=0
def tw6101524904987884988:=0
def tw3519176017446013501:=0
def tw7559230477711669744:=0
def tw1298744725084026363:=0
def tw7148228228050473647:=0
def tw10608613794284777451:=0
def tw3837949090166970811:=0
def tw12697327462191383604:=0
def tw13581234981496371886:=0
def tw9074505218160415057:=0
def tw10289019698815920311:=0
def tw14071272966869886040:=0
def tw1607775942820124805:=0
def tw15837309424112024234:=0
def tw15722230366840255294:=0
def tw5581920682983990007:=0
def tw10412355959077685512:=0
def tw1755837664385708287:=0
def tw13874295760855880033:=0
def tw671249685550097328:=0
def tw1305311064322156477:=0
def tw13562403653458478135:=0
def tw16837054038487644376:=0
def tw13067262598643791519:=0
def tw10686649209685191519:=0
def tw17635249888467493804:=0
def tw11138467617117631075:=0
def tw17348530031060904181:=0
def tw1473697532126495280:=0
def tw12810975121050119094:=0
def tw11149597181559207050:=0
def tw9496364594299216969:=0
def tw18215347703441888715:=0
def tw13634335858274852271:=0
def tw12566001975378700260:=0
def tw8145649384716462647:=0
def tw4862603709213500053:=0
def tw7561383023759690890:=0
def tw1545522273047594055:=0
def tw654778873822440807:=0
def tw10295131064026578680:=0
def tw3597385039162424261:=0
def tw1670350066659053826:=0
def tw11131401447829812305:=0
def tw13696068146338649220:=0
def tw827045814762245795:=0
def tw15399682478653613713:=0
def tw1757499463555020885:=0
def tw15656823114141995955:=0
def tw12044646725445762127:=0
def tw10924402631365179242:=0
def tw8783942009836502422:=0
def tw3372889558091599598:=0
def tw16943363343535405450:=0
def tw9919532866615504979:=0
def tw13403444255243884992:=0
def tw3244066990966223183:=0
def tw1487526830561740475:=0
def tw7318201744056699360:=0
def tw18289143451082543624:=0
def tw11332158505079316838:=0
def tw13031911641179567471:=0
def tw14917649422488576564:=0
def tw3963480313269505790:=0
def tw7619662681600520425:=0
def tw12029391384611070096:=0
def tw1148021508930196159:=0
def tw1815386762574270542:=0
def tw16121114761683079283:=0
def tw8219843949805528813:=0
def tw4464429465154656071:=0
def tw8964985782367773634:=0
def tw5072274086262926563:=0
def tw5100568374573150123:=0
def tw12971451869348553226:=0
def tw7506677116280980336:=0
def tw6486996924755300577:=0
def tw847938765652886969:=0
def tw12608398587134063878:=0
def tw317030994149321177:=0
def tw1475577897630191207:=0
def tw6269883492687750526:=0
def tw388771061335054395:=0
def tw12208390955935118943:=0
def tw1376478114668403679:=0
def tw18254016655323926369:=0
def tw5104295023484528000:=0
def tw5902306733138341957:=0
def tw17717109256414660190:=0
def tw773201807860910137:=0
def tw13271389181085356609:=0
def tw16011665245409099174:=0
def tw2601682397345380958:=0
def tw7547746533825684503:=0
def tw5633045883270773541:=0
def tw1898919786817531614:=0
def tw6490065965573661678:=0
def tw2816060925203706608:=0
def tw4755050505844363591:=0
def tw13653064740106334560:=0
def tw11894852363402969697:=0
def tw673794813769579648:=0
def tw2439195943900486117:=0
def tw3609289783383690813:=0
def tw5899335521122716016:=0
def tw8467578736648887626:=0
def tw5311190170365806524:=0
def tw14579487672853606832:=0
def tw12807892863959422621:=0
def tw7745834371904369559:=0
def tw13775782973529181655:=0
def tw4945446540616632319:=0
def tw7099396568941572606:=0
def tw15084536983487131937:=0
def tw15807607638408799821:=0
def tw16889558961532846260:=0
def tw16228420911685784478:=0
def tw10409945107179115381:=0
def tw10470278879993399296:=0
def tw14489359971545993775:=0
def tw2993067203415413020:=0
def tw8735389721157270813:=0
def tw12268080304725639991:=0
def tw3308575493979364120:=0
def tw1208532371045506024:=0
def tw10218888442150293615:=0
def tw18372605597511221088:=0
def tw15531953059152327300:=0
def tw11106764782925481350:=0
def tw16224779109897552999:=0
def tw590968312927449323:=0
def tw8678737747941677823:=0
def tw9259946317524676014:=0
def tw13237779660525008507:=0
def tw10887498143892394924:=0
def tw17777233737998378419:=0
def tw6783253546818145619:=0
def tw6846631917926487293:=0
def tw17055707363122080703:=0
def tw5630643970566565969:=0
def tw2775361756253500920:=0
def tw6639341582359274620:=0
def tw6890297472684615672:=0
def tw8695206697097146526:=0
def tw5149532671052356817:=0
def tw17024645523570754188:=0
def tw458737331069878094:=0
def tw5347749510493585611:=0
def tw5745986207050289188:=0
def tw4835571593311582181:=0
def tw5098615798825245709:=0
def tw17931741859804668428:=0
def tw9315503872934890158:=0
def tw7326585999379433781:=0
def tw4366939266329414448:=0
def tw2594619878636590094:=0
def tw2656233765640867918:=0
def tw2253385219637296339:=0
def tw18332017990494832043:=0
def tw11777810470518676046:=0
def tw1411496004743702541:=0
def tw1858334880004617347:=0
def tw3823445399938463730:=0
def tw14596989473424082090:=0
def tw11101382728350638760:=0
def tw7485597072984859062:=0
def tw6467122519620264399:=0
def tw9110524353297687100:=0
def tw14374591197132260806:=0
def tw7641932637519794964:=0
def tw1408094812298495052:=0
def tw15206976147524972620:=0
def tw1675344106690739540:=0
def tw3124800531162705554:=0
def tw17607169776466970764:=0
def tw15466785795006605486:=0
def tw2196579777090813596:=0
def tw4637772568890859221:=0
def tw17711921434905448392:=0
def tw690704117878342534:=0
def tw15509950935860529306:=0
def tw927125618750327614:=0
def tw5529999129944892869:=0
def tw16716543877120093055:=0
def tw12623509029592466221:=0
def tw14671131843697446251:=0
def tw1774397678720664990:=0
def tw2453305534549829823:=0
def tw15459214003510300134:=0
def tw2855833599422447234:=0
def tw6143127147168858097:=0
def tw11457975580863216765:=0
def tw3615748909593864816:=0
def tw9067204893060281174:=0
def tw17693406892858888179:=0
def tw2742136006577305758:=0
def tw12871768963286078794:=0
def tw8723557378973158151:=0
def tw3727620350513071972:=0
def tw6460690453275166471:=0
def tw16991155692958949656:=0
def tw3508685384221330954:=0
def tw17168570647781940796:=0
def tw18110028230883155699:=0
def tw10808179295445295667:=0
def tw1974912740940371241:=0
def tw4842182965102267701:=0
def tw13016344723738752721:=0
def tw822029258184127143:=0
def tw10928757379724863661:=0
def tw13399200938972072239:=0
def tw16365625369304103325:=0
def tw7982285632110696128:=0
def tw14243546968223895391:=0
def tw15660984991855305790:=0
def tw13852479326725686205:=0
def tw9551628521767404862:=0
def tw785439564500504456:=0
def tw10906601446591959261:=0
def tw8058067546827740679:=0
def tw6586416859571210606:=0
def tw6019204644224469914:=0
def tw11676528784467173814:=0
def tw17762300798936604855:=0
def tw14463500121015273048:=0
def tw4939413395754232601:=0
def tw12548270099553843259:=0
def tw7801883262275046384:=0
def tw5469113568969681663:=0
def tw4577928195586240405:=0
def tw14999704906220778499:=0
def tw14559039988208896260:=0
def tw16616816184285622353:=0
def tw3463627742928425470:=0
def tw11350444917513488539:=0
def tw6840256578541447669:=0
def tw382323589622645654:=0
def tw17926432960271664077:=0
def tw2474299554018396851:=0
def tw16402899427180654356:=0
def tw13247499546386927175:=0
def tw10081267378604294156:=0
def tw132096225847474655:=0
def tw13859435946704476248:=0
def tw1551044601317523368:=0
def tw10219270240386486843:=0
def tw17122993412326452515:=0
def tw15149093920271676567:=0
def tw1517655509462367126:=0
def tw3740198792381039766:=0
def tw7840795003393216066:=0
def tw13253954832279584816:=0
def tw6537987078585857699:=0
def tw10606863934111378220:=0
def tw4525589330827498081:=0
def tw708176770475504271:=0
def tw14698763673335256296:=0
def tw8498860753854543411:=0
def tw14037205079790640778:=0
def tw14009486086593249303:=0
def tw8482272668434492252:=0
def tw16603162968230193869:=0
def tw14441236412613992140:=0
def tw10200189303077436771:=0
def tw6598590117756058997:=0
def tw160503321366884949:=0
def tw11673881232942793743:=0
def tw7545120042092179572:=0
def tw9337598396524746152:=0
def tw3647467156336865601:=0
def tw14861782912998443540:=0
def tw15328418317935207973:=0
def tw17262054478600223585:=0
def tw8203832534057600784:=0
def tw12555908320627933616:=0
def tw6390462405826390642:=0
def tw7373505769886158679:=0
def tw5485857289020107938:=0
def tw5093578543494276890:=0
def tw559973339123796468:=0
def tw13367015138428571605:=0
def tw17607415318970651985:=0
def tw15052245079107683611:=0
def tw17047074179424225257:=0
def tw5253910462251877548:=0
def tw13376700775297163011:=0
def tw14566617657712774758:=0
def tw5890222105997877029:=0
def tw12616674804947089347:=0
def tw18147789872980379084:=0
def tw10590874310380540074:=0
def tw18262753491325198790:=0
def tw8451124794795840501:=0
def tw10856796468017128754:=0
def tw6446570612270114201:=0
def tw14960571963137873398:=0
def tw14872620498580400871:=0
def tw16602890530298653604:=0
def tw12906796089336063765:=0
def tw11795699425955902337:=0
def tw3313684858173093557:=0
def tw1840057199050247446:=0
def tw5903088138868609747:=0
def tw17641621771773109973:=0
def tw1215644995146005444:=0
def tw12031562916080107380:=0
def tw4114437203226062113:=0
def tw14580674257080249747:=0
def tw11940835514913901177:=0
def tw1129208198499601560:=0
def tw6447885423451770551:=0
def tw12357214314077179667:=0
def tw8419257567873407757:=0
def tw835364325487774187:=0
def tw12940010881352683097:=0
def tw8270443242261449939:=0
def tw165295926284577168:=0
def tw15370023044376531386:=0
def tw11552701026344323966:=0
def tw5408474275994072094:=0
def tw2318185742909929689:=0
def tw598357501761583538:=0
def tw9042815123014259705:=0
def tw5438862557354726385:=0
end PySem.W.Fast
open PySem PySem.W PyProof.Rows
set_option maxRecDepth 100000 in
set_option maxHeartbeats 0 in
theorem PySem.Challenge.cw_mumtrial_k24_papers_judged_holds : PySem.Challenge.rw_mumtrial_k24_papers_judged.Holds := by
 w_on;o_law;k_head;(case hw=>w_witness2)
 k_fill
 refine L2.walk_ofK (l:=PySem.Challenge.rw_mumtrial_k24_papers_judged) (n:=63) (k:=7) (x:="script") (CX:=L2.CX0) (sp:=Mum.sp_law24) rfl (by decide) rfl ⟨rfl,by decide,by decide⟩ (fun w h Y=>PySem.W.kIn_of Y) ?F (fun _ _ a ns hl _ hS=>⟨a,ns,rfl,hS,hl,fun _=>rfl⟩) (fun _ _ _ _ z=>z)
 case F =>
  intro w mg fa h KX G hmg;refine' Mum.all_mk KX G hmg ?aC ?pg ?hd ?po ?sa ?mk ?kc ?na1 ?na2 ?na3 ?na4 ?na5 ?na6 ?na7 ?na8 ?z_all ?z_any ?z_bool ?z_dict ?z_enumerate ?z_int ?z_isinstance ?z_len ?z_list ?z_max ?z_range ?z_str ?z_tuple ?z_zip ?g_LETTERS ?r_LETTERS ?g_LONGEST_NAME ?r_LONGEST_NAME ?g_MOST_WORDS ?r_MOST_WORDS ?g_MOST_ROOMS ?r_MOST_ROOMS ?g_MOST_DOORS ?r_MOST_DOORS ?g_STILL ?l_STILL ?c_STILL ?d_STILL ?s_STILL ?v_STILL ?g_HUSH ?l_HUSH ?c_HUSH ?d_HUSH ?s_HUSH ?v_HUSH ?T
  (case aC|pg|hd|po|sa|mk|kc|na1|na2|na3|na4|na5|na6|na7|na8|z_all|z_any|z_bool|z_dict|z_enumerate|z_int|z_isinstance|z_len|z_list|z_max|z_range|z_str|z_tuple|z_zip|g_LETTERS=>k_is)
  (case r_LETTERS=>exact⟨_,rfl⟩)
  (case g_LONGEST_NAME=>k_is)
  (case r_LONGEST_NAME=>exact⟨_,rfl⟩)
  (case g_MOST_WORDS=>k_is)
  (case r_MOST_WORDS=>exact⟨_,rfl⟩)
  (case g_MOST_ROOMS=>k_is)
  (case r_MOST_ROOMS=>exact⟨_,rfl⟩)
  (case g_MOST_DOORS=>k_is)
  (case r_MOST_DOORS=>exact⟨_,rfl⟩)
  (case g_STILL|l_STILL=>k_is)
  (case c_STILL|d_STILL=>rfl)
  (case s_STILL=>decide)
  (case v_STILL=>exact .cons ⟨_,rfl⟩ .nil)
  (case g_HUSH|l_HUSH=>k_is)
  (case c_HUSH|d_HUSH=>rfl)
  (case s_HUSH=>decide)
  (case v_HUSH=>exact .cons ⟨_,rfl⟩ .nil)
  (case T=>constructor<;>first|(refine' Mum.fnG_mk ?a ?l ?c ?k;(case a=>k_is);(case l=>k_is);(case c=>k_is);(case k=>k_is))|(refine' Mum.fnM_mk ?a ?i ?l ?c ?k;(case a=>k_is);(case i=>k_is);(case l=>k_is);(case c=>k_is);(case k=>k_is)))
