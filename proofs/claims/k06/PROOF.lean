
import PyProof.Rows.All
import Wide.All
import OpenK.AllK
import Wide.FinOn
import Lean
import PyProof.EqAt
import PyProof.EqKinds
import PyProof.TupleCall
import PyProof.NeKinds
import PyProof.RaisesMany
import PyProof.RulesAs
import PyProof.NsDelKeeps
import PyProof.InstStoreFacts
import PyProof.ExcClass3
import PyProof.ExcInit
import KE.KTryMore
import PyProof.AutoSeq1
import PyProof.WalkInts
import PySem.Challenge.RW_mumtrial_k06_what_is_told
noncomputable section
open PySem renaming Program->bh,wpAny_bind->aq,wpAny_specialOf->w6,wpAny_call_entry->uG,wpAny_pure->aW,wpAny_rule->qi,Builtin->c9,wpAny_holding->l_,wpAny_truthy_bool->lY,wpAny_seqItems->iR,sizeLine->am,sysModules->f_,mainGlobals->bg,bootBuiltins->fI,starEach->ax,wpAny_mono->fW,compareOp->c8,behindInMarks->gS,standAt->kO,holding->g8,wpAny_execs_nil->tN,swapsWith->lS,assignEach->nK,wpAny_passesOwn->lR,letOwnedTupleGo->tM,wpAny_pyIter_list->tL,wpAny_pyIter_tuple->tK,foldedSetIterable->qr,binaryOp->kM,getMethod->kK,codeAny->zzl73,attributeBase->qk,FuncData->gR,BindsTo->lQ,codeAny_mono->tF,wpAny_Call_Name_kw->tE,callWith->nJ,backToKw->kI,keywordEach->kH,NameKind->fT,mem_of_lookup->qg,getItem->i5,subscripted->oR,sliceBounds->i4,call_meets->oQ,valueAt->i3,callerA->hV,ZipApart->j6,wpAny_pyIter_zip->oJ,wpAny_callSpecial?_slot->oI,wpAny_field->ej,wpAny_setField_rec->j5,wpAny_onRaise->oE,excClassObj->oy
open PySem.Builtin.Tuple renaming tupleHashOf->rO
open Bool renaming false_ne_true->fX,not_true->tP,false_eq_true->qt,eq_iff_iff->kL,and_eq_true->iZ,true_and->lV
open Nat renaming add_assoc->wZ,le_refl->aE,lt_of_lt_of_le->fe,lt_irrefl->kP,ne_of_lt->bS,le_trans->cn,le_of_lt->f8,ne_of_gt->eF,zero_le->cj,lt_of_le_of_lt->oM,mod_lt->lX
open List renaming append_nil->iX,range->jA,mem_filter->jz,mem_cons_self->eG,mem_cons_of_mem->cC,mem_cons->bf,mem_append->bZ,mem_append_left->fH,getElem?_eq_some_iff->cB,getElem?_set_ne->tO,mem_append_right->eE,length_cons->eZ,lookup->g7,map_cons->aN,length_map->ap,nodup_cons->kG,of_mem_zip->qh,replicate->tD,length_take->be,getElem?_append_right->nI,getElem?_append_left->mj,getElem?_map->cD,mem_of_getElem?->bT,length_append->bC,length_replicate->oS,length_drop->ff,size_toArray->bt,length_set->mh,length_reverse->oP,find?_cons->j7,any_cons->oO,nodup_nil->md,lookup_cons->em,forIn_cons->l9,mem_map->bB,not_mem_nil->dJ,drop_zero->lZ,take_length->cY,getElem?_eq_getElem->oA,map_append->aL,nodup_append->dI,drop_of_length_le->oz,mem_of_mem_take->hC,append_assoc->lW,map_map->j1,filter_append->lU,length_filter_le->iY
open Option.some renaming inj->cT
open PySem.W renaming instObj->kQ,lookIn->tI,plainGet->qq,hasDictIn->tH,findIn->bH,isFn->qp,makesIn->qo,emptyDict->jx,keepIn->eX,specialIn->tG,kitOne->qj,kia_one->fU,fnOf->fg,codeIn->i6,nsIn->bA,mg_of->dH,mg_none_of->eh
open PySem.Heap renaming lt_size->aG,SameBut->fZ,get?_push_of_some->aO,get?_push_size->cA,size_push->kJ
open PyProof.Rows renaming AllBare->jy,callWith_type1->tJ,IntsAre->ma,boot_all->lT
open Ne renaming symm->e_
open Array renaming length_toList->kN
open False renaming elim->fV
open True renaming intro->eW
open Option renaming isSome_iff_exists->tz,map_some->mf,map_eq_some_iff->me
open Int renaming toNat_natCast->j8,emod_nonneg->j4,emod_lt_of_pos->j3,eq_ofNat_of_zero_le->hE
open PySem.Obj renaming mapSeq->mi
open PySem.Paired renaming snoc->oN
open ForInStep renaming yield->oK
open PySem.NameKind renaming free->hU
open PySem.Builtin.SmallTypes renaming nextOf->hJ,ownedTupleIsFree->oF
open PySem.Str renaming ofString->oH
open PySem.F renaming slot_tuple_iterator_next->oG,slot_zip_next->oC,plainAttrs_list->ei,slot_list_append->g_,type_list_append->g9
open PySem.Heap.SameBut renaming update->l7
open PySem.SeqAt renaming EqAt->aS
open PySem.Builtin.Str renaming strSliceIndices->l5
open PySem.Txt renaming join->oB
open PySem.PassesOwn renaming never->bI
theorem Q0:0<=PySem.sizeLine:=by decide
theorem Q1:1<=PySem.sizeLine:=by decide
theorem Q2:2<=PySem.sizeLine:=by decide
theorem Q3:3<=PySem.sizeLine:=by decide
theorem Q4:4<=PySem.sizeLine:=by decide
theorem Q6:6<=PySem.sizeLine:=by decide
theorem zzr0{p:Prop}[Decidable p](h:¬p):decide p=false:=decide_eq_false h
theorem zzr1{p:Prop}[Decidable p](h:p):decide p=true:=decide_eq_true h
abbrev Za:=PySem.W.Frag
abbrev Zb:=List PySem.Str
abbrev Zc:=PySem.Value->PySem.Shared->Prop
abbrev Zd:=List (PySem.Addr×PySem.Obj)
abbrev Ze:=List PySem.Addr
abbrev Zf:=List PySem.Value
section
set_option Elab.async false
set_option linter.all false
set_option maxRecDepth 100000
set_option maxHeartbeats 4000000
namespace L2
open PySem PySem.Spec PyProof.Rows
open Sem (wp)
abbrev cI:=Sum Int Str
def bz:cI->Value->Bool
 |.inl k,v=>Value.isInt k v
 |.inr x,v=>Value.isStrOf x v
def zQ(w:World):cI->Int
 |.inl k=>hashInt k
 |.inr x=>hashStr w x
theorem ao:∀{k:cI}{v:Value},bz k v=true->(∃i t,k=Sum.inl i/\v=Value.int i t)∨(∃x t,k=Sum.inr x/\v=Value.str x t)
 |.inl i,v,h=>by
  obtain⟨t,e⟩:=Value.isInt_shape (k:=i) (v:=v) h;exact .inl ⟨i,t,rfl,e⟩
 |.inr x,v,h=>by
  obtain⟨t,e⟩:=Value.isStrOf_shape (x:=x) (v:=v) h;exact .inr ⟨x,t,rfl,e⟩
theorem u7(i:Int)(t:Tok):bz (.inl i) (.int i t)=true:=by simp[bz,Value.isInt]
theorem u6(x:Str)(t:Tok):bz (.inr x) (.str x t)=true:=by simp[bz,Value.isStrOf]
theorem pH(a b:Int):decide ((Sum.inl a:cI)=Sum.inl b)=(a==b):=by
 by_cases e:a=b
 ·subst e;simp
 ·have h:¬(Sum.inl a:cI)=Sum.inl b:=fun q=>e (Sum.inl.inj q);rw[zzr0 h];exact(beq_eq_false_iff_ne.mpr e).symm
theorem pE(a b:Str):decide ((Sum.inr a:cI)=Sum.inr b)=decide (a=b):=by
 by_cases e:a=b
 ·subst e;simp
 ·have h:¬(Sum.inr a:cI)=Sum.inr b:=fun q=>e (Sum.inr.inj q);rw[zzr0 h,zzr0 e]
theorem pG(a:Int)(b:Str):decide ((Sum.inl a:cI)=Sum.inr b)=false:=zzr0 (fun q=>nomatch q)
theorem pF(a:Str)(b:Int):decide ((Sum.inr a:cI)=Sum.inl b)=false:=zzr0 (fun q=>nomatch q)
def bc(prog:bh)(w:World):PySem.KeyKind prog w cI where
 is:=bz
 hash:=zQ w
 inj:=fun v a b ha hb=>by
  rcases ao ha with⟨i,t,rfl,rfl⟩|⟨x,t,rfl,rfl⟩
  ·rcases ao hb with⟨j,u,rfl,e⟩|⟨y,u,rfl,e⟩
   ·injection e with e1 _;rw[e1]
   ·exact nomatch e
  ·rcases ao hb with⟨j,u,rfl,e⟩|⟨y,u,rfl,e⟩
   ·exact nomatch e
   ·injection e with e1 _;rw[e1]
 byValue:=fun k v h=>by
  rcases ao h with⟨i,t,rfl,rfl⟩|⟨x,t,rfl,rfl⟩<;>rfl
 pyHash:=fun hv h=>by
  rcases ao hv with⟨i,t,rfl,rfl⟩|⟨x,t,rfl,rfl⟩
  ·exact wpAny_pyHash_int h
  ·exact wpAny_pyHash_str h
 eqBool:=fun hu hv h=>by
  rcases ao hu with⟨i,t,rfl,rfl⟩|⟨x,t,rfl,rfl⟩
  ·rcases ao hv with⟨j,u,rfl,rfl⟩|⟨y,u,rfl,rfl⟩
   ·rw[pH]at h;exact wpAny_eqBool_int h
   ·rw[pG]at h;exact aS.int_str i t y u _ _ _ _ h
  ·rcases ao hv with⟨j,u,rfl,rfl⟩|⟨y,u,rfl,rfl⟩
   ·rw[pF]at h;exact aS.str_int x t j u _ _ _ _ h
   ·rw[pE]at h;exact wpAny_eqBool_str h
 «strs»:=fun k x t v h=>by
  rcases ao h with⟨i,u,rfl,e⟩|⟨y,u,rfl,e⟩
  ·exact nomatch e
  ·injection e with e1 _;subst e1;cases v<;>rfl
theorem q_(prog:bh)(w:World)(i:Int)(t:Tok):(bc prog w).is (.inl i) (.int i t)=true:=u7 i t
theorem q5(prog:bh)(w:World)(x:Str)(t:Tok):(bc prog w).is (.inr x) (.str x t)=true:=u6 x t
end L2
namespace L2
open PySem PySem.Spec PyProof.Rows
open Sem (wp)
inductive TK where
 |k (a:cI)
 |t (l:List TK)
mutual
def yM:(x y:TK)->Decidable (x=y)
 |.k a,.k b=>if h:a=b then Decidable.isTrue (by rw[h])else Decidable.isFalse fun e=>h (by injection e)
 |.t l,.t m=>match decTKs l m with
  |Decidable.isTrue h=>Decidable.isTrue (by rw[h])
  |Decidable.isFalse h=>Decidable.isFalse fun e=>h (by injection e)
 |.k _,.t _=>Decidable.isFalse nofun
 |.t _,.k _=>Decidable.isFalse nofun
def decTKs:(x y:List TK)->Decidable (x=y)
 |[],[]=>Decidable.isTrue rfl
 |[],_::_=>Decidable.isFalse nofun
 |_::_,[]=>Decidable.isFalse nofun
 |a::l,b::m=>match yM a b with
  |Decidable.isTrue h=>match decTKs l m with
   |Decidable.isTrue h'=>Decidable.isTrue (by rw[h,h'])
   |Decidable.isFalse h'=>Decidable.isFalse fun e=>h' (by injection e)
  |Decidable.isFalse h=>Decidable.isFalse fun e=>h (by injection e)
end
instance:DecidableEq TK:=yM
mutual
def TK.depth:TK->Nat
 |.k _=>0
 |.t l=>TK.depths l+1
def TK.depths:List TK->Nat
 |[]=>0
 |a::r=>max (TK.depth a) (TK.depths r)
end
mutual
def TK.hash(w:World):TK->Int
 |.k a=>zQ w a
 |.t l=>reduceHash (rO (TK.hashs w l))
def TK.hashs(w:World):List TK->List Int
 |[]=>[]
 |a::r=>TK.hash w a::TK.hashs w r
end
mutual
def TK.draws:TK->Nat
 |.k _=>1
 |.t l=>TK.drawss l+1
def TK.drawss:List TK->Nat
 |[]=>0
 |a::r=>TK.draws a+TK.drawss r
end
mutual
def iQ(h:Heap):TK->Value->Prop
 |.k a,v=>bz a v=true
 |.t l,v=>∃a o items n,v=.ref a/\h.get? a=some o/\o.cls=.type "tuple"/\o.data=.seq items n/\TAts h l items.toList
def TAts(h:Heap):List TK->List Value->Prop
 |[],vs=>vs=[]
 |k::r,vs=>∃v us,vs=v::us/\iQ h k v/\TAts h r us
end
theorem iQ.inj{h:Heap}:∀(d:Nat) {x y:TK}{v:Value},x.depth<=d->iQ h x v->iQ h y v->x=y:=by
 have key:∀(d:Nat) (ih:∀{x y:TK}{v:Value},x.depth<=d->iQ h x v->iQ h y v->x=y) (xs ys:List TK) (vs:Zf),TK.depths xs<=d->TAts h xs vs->TAts h ys vs->xs=ys:=by
  intro d ih xs
  induction xs with
  |nil =>
   intro ys vs _ hx hy;have hx':vs=[]:=hx;subst hx';cases ys with
   |nil=>rfl
   |cons y ys=>obtain⟨_,_,e,_⟩:=hy;cases e
  |cons x xs ihl =>
   intro ys vs hd hx hy;obtain⟨v,us,rfl,hx1,hx2⟩:=hx;cases ys with
   |nil=>have hy':v::us=[]:=hy;cases hy'
   |cons y ys =>
    obtain⟨v',us',e,hy1,hy2⟩:=hy;cases e;have hd':max x.depth (TK.depths xs)<=d:=hd;rw[ih (by omega) hx1 hy1,ihl ys us (by omega) hx2 hy2]
 have leaf:∀(a:cI) (l:List TK) (v:Value),iQ h (.k a) v->iQ h (.t l) v->False:=by
  intro a l v h1 h2;obtain⟨b,o,items,n,rfl,_⟩:=h2;rcases ao (show bz a (.ref b)=true from h1)with⟨_,_,_,e⟩|⟨_,_,_,e⟩<;>cases e
 have kk:∀(a b:cI) (v:Value),bz a v=true->bz b v=true->a=b:=by
  intro a b v h1 h2;rcases ao h1 with⟨i,t,rfl,rfl⟩|⟨i,t,rfl,rfl⟩
  ·rcases ao h2 with⟨j,u,rfl,e⟩|⟨j,u,rfl,e⟩
   ·cases e;rfl
   ·cases e
  ·rcases ao h2 with⟨j,u,rfl,e⟩|⟨j,u,rfl,e⟩
   ·cases e
   ·cases e;rfl
 intro d
 induction d with
 |zero =>
  intro x y v hd hx hy;cases x with
  |t l=>exact absurd hd (by show ¬(TK.depths l+1<=0);omega)
  |k a =>
   cases y with
   |k b=>rw[kk a b v hx hy]
   |t l=>exact(leaf a l v hx hy).elim
 |succ d ih =>
  intro x y v hd hx hy;cases x with
  |k a =>
   cases y with
   |k b=>rw[kk a b v hx hy]
   |t l=>exact(leaf a l v hx hy).elim
  |t l =>
   cases y with
   |k b=>exact(leaf b l v hy hx).elim
   |t l' =>
    obtain⟨a,o,items,n,rfl,ho,hc,hdt,hi⟩:=hx;obtain⟨a',o',items',n',e,ho',hc',hdt',hi'⟩:=hy;cases e;rw[ho]at ho';cases ho';rw[hdt]at hdt';injection hdt' with e1 _;subst e1;rw[key d (fun h1=>ih h1) l l' items.toList (by have:TK.depths l+1<=d+1:=hd;omega) hi hi']
theorem iQ.mono{h h':Heap}(k:∀a o items n,h.get? a=some o->o.cls=.type "tuple"->o.data=.seq items n->h'.get? a=some o):∀(d:Nat) {x:TK}{v:Value},x.depth<=d->iQ h x v->iQ h' x v:=by
 have key:∀(d:Nat) (ih:∀{x:TK}{v:Value},x.depth<=d->iQ h x v->iQ h' x v) (xs:List TK) (vs:Zf),TK.depths xs<=d->TAts h xs vs->TAts h' xs vs:=by
  intro d ih xs
  induction xs with
  |nil=>intro vs _ hx;exact hx
  |cons x xs ihl =>
   intro vs hd hx;obtain⟨v,us,rfl,hx1,hx2⟩:=hx;have hd':max x.depth (TK.depths xs)<=d:=hd;exact⟨v,us,rfl,ih (by omega) hx1,ihl us (by omega) hx2⟩
 intro d
 induction d with
 |zero =>
  intro x v hd hx;cases x with
  |t l=>exact absurd hd (by show ¬(TK.depths l+1<=0);omega)
  |k a=>exact hx
 |succ d ih =>
  intro x v hd hx;cases x with
  |k a=>exact hx
  |t l =>
   obtain⟨a,o,items,n,rfl,ho,hc,hdt,hi⟩:=hx;exact⟨a,o,items,n,rfl,k a o items n ho hc hdt,hc,hdt,key d (fun h1=>ih h1) l _ (by have:TK.depths l+1<=d+1:=hd;omega) hi⟩
section
variable{prog:bh}{w:World}
theorem xf:∀(d:Nat) {A:Around}{E:Zc}{s:Shared}{k:TK}{v:Value}{Q:Int->Shared->Prop},k.depth<=d->A.units+d<cLine->iQ s.heap k v->Q (k.hash w) { s with toks:=s.toks+k.draws } ->
  wpAny (model prog w) A (pyHash v) Q E s:=by
 intro d
 induction d with
 |zero =>
  intro A E s k v Q hd hu hk h;cases k with
  |t l=>exact absurd hd (by show ¬(TK.depths l+1<=0);omega)
  |k a=>exact(bc prog w).pyHash (k:=a) hk h
 |succ d ih =>
  intro A E s k v Q hd hu hk h;cases k with
  |k a=>exact(bc prog w).pyHash (k:=a) hk h
  |t l =>
   obtain⟨a,o,items,n,rfl,ho,hc,hdt,hi⟩:=hk;have hT:s.TypeIs (.ref a) "tuple":=⟨o,ho,hc⟩;have hdl:TK.depths l<=d:=by have:TK.depths l+1<=d+1:=hd;omega
   unfold pyHash
   first|unfold pyHashByItsType|skip
   first|refine aq (wpAny_cRoomFor_or (.inr (by omega)) ?_)|skip
   refine aq (w6 hT F.slot_tuple_hash.lookup ?_);show wpAny _ _ (if(some (Value.builtin "tuple.__hash__")==some Value.none)=true then _ else _) Q E s
   rw[if_neg (by rw[beq_builtin_none];exact fX)];refine aq (w6 hT F.slot_tuple_hash.lookup ?_);show wpAny _ _ (callSpecialIfBoundUnlessNone? (.ref a) "__hash__" _ >>= _) Q E s;refine aq (wpAny_callSpecialIfBoundUnlessNone?_slot hT F.slot_tuple_hash (uG F.slot_tuple_hash hT F.entry_tuple_hash ?_ (F.args_tuple_hash_1 _)));show wpAny _ _ (c9.Tuple.tupleItemsOf (.ref a) >>= _) _ _ s;refine aq (wpAny_tupleItemsOf ho hdt ?_);refine aq ?_;rw[<-Array.forIn_toList];refine wpAny_forIn_list _
    (fun rest (b:Array Int) s'=>∃done left,l=done++left/\TAts s.heap left rest/\b.toList=TK.hashs w done/\s'={ s with toks:=s.toks+TK.drawss done })
    _ ?_ ?_ _ _ ⟨[],l,rfl,hi,rfl,rfl⟩
   ·rintro x rest b s' ⟨done,left,e,hl,hb,rfl⟩;cases left with
    |nil=>have hl':x::rest=[]:=hl;cases hl'
    |cons k' left =>
     obtain⟨x',rest',e',h1,h2⟩:=hl;cases e';have hdk:k'.depth<=d:=by
      have gen:∀(p:List TK),TK.depths (p++k'::left)<=d->k'.depth<=d:=by
       intro p
       induction p with
       |nil=>intro hp;have hp':max k'.depth (TK.depths left)<=d:=hp;omega
       |cons q p ihp=>intro hp;have hp':max q.depth (TK.depths (p++k'::left))<=d:=hp;exact ihp (by omega)
      exact gen done (by rw[<-e];exact hdl)
     have hs:TK.hashs w (done++[k'])=TK.hashs w done++[k'.hash w]:=by
      clear e hb
      induction done with
      |nil=>rfl
      |cons q p ihp=>show _::TK.hashs w (p++[k'])=_;rw[ihp];rfl
     have hdr:TK.drawss (done++[k'])=TK.drawss done+k'.draws:=by
      clear e hb hs
      induction done with
      |nil=>show k'.draws+0=0+k'.draws;omega
      |cons q p ihp=>show q.draws+TK.drawss (p++[k'])=q.draws+TK.drawss p+k'.draws;rw[ihp];omega
     refine aq (ih (k:=k') hdk (by show A.units+1+d<cLine;omega) h1 ?_)
     first
      |exact aW ⟨done++[k'],left,by rw[e];simp,h2,by rw[hs];simp[hb],by rw[hdr];simp[wZ]⟩
      |exact aq (aW (aW ⟨done++[k'],left,by rw[e];simp,h2,by rw[hs];simp[hb],by rw[hdr];simp[wZ]⟩))
   ·rintro b s' ⟨done,left,e,hl,hb,rfl⟩;cases left with
    |cons k' left=>obtain⟨_,_,e',_⟩:=hl;cases e'
    |nil =>
     rw[iX]at e;subst e;show wpAny _ _ (retInt (rO b.toList)) _ _ _;rw[hb];refine wpAny_ret_mkInt ?_;have h':Q (reduceHash (rO (TK.hashs w l))) { s with toks:=s.toks+(TK.drawss l+1) }:=h;show wpAny _ _ (if(decide (-(2:Int) ^ 63<=rO (TK.hashs w l)) && decide (rO (TK.hashs w l)<2 ^ 63))=true then _ else _) Q E _
     unfold reduceHash at h';by_cases hr:(decide (-(2:Int) ^ 63<=rO (TK.hashs w l)) && decide (rO (TK.hashs w l)<2 ^ 63))=true
     ·rw[if_pos hr];rw[if_pos hr]at h';exact aW (by simpa[wZ]using h')
     ·rw[if_neg hr];rw[if_neg hr]at h';exact aq (qi (aW (by simpa[wZ]using h')))
theorem uL(d:Nat)(ih:∀{A:Around}{E:Zc}{s:Shared}{x y:TK}{u v:Value}{Q:Bool->Shared->Prop},x.depth<=d->y.depth<=d->A.units+d<cLine->iQ s.heap x u->iQ s.heap y v->Q (decide (x=y)) s->wpAny (model prog w) A (eqBool u v) Q E s)
  {A:Around}{E:Zc}{s:Shared}{x y:List TK}{a b:Addr}{P:Fin->Shared->Prop}{oa ob:Obj}{xs ys:Array Value}{na nb:Nat}(hx:TK.depths x<=d) (hy:TK.depths y<=d) (hu:A.units+d<cLine)
  (hoa:s.heap.get? a=some oa) (hda:oa.data=.seq xs na) (hia:TAts s.heap x xs.toList) (hob:s.heap.get? b=some ob) (hcb:ob.cls=.type "tuple") (hdb:ob.data=.seq ys nb) (hib:TAts s.heap y ys.toList)
  (h:P (.done (.ret (.bool (decide (x=y))))) s):wpAny (model prog w) A (c9.«tuple.__eq__» ⟨[.ref a,.ref b],[]⟩) P E s:=by
 have hTb:s.TypeIs (.ref b) "tuple":=⟨ob,hob,hcb⟩;show wpAny _ _ (isInstance (.ref b) (.type "tuple") >>= _) _ _ s;refine aq (wpAny_isInstance hTb isSubtype_tuple_tuple ?_);simp only[tP,qt,if_false];refine aq (wpAny_tupleItemsOf hoa hda ?_);refine aq (wpAny_tupleItemsOf hob hdb ?_);refine aq ?_;refine wpAny_forIn_list _
  (fun rest r s'=>r.1=none/\s'=s/\∃x' y' xs' ys',rest=List.zip xs' ys'/\TAts s.heap x' xs'/\TAts s.heap y' ys'/\TK.depths x'<=d/\TK.depths y'<=d/\decide (x'=y')=decide (x=y)/\(xs'.length==ys'.length)=(xs.size==ys.size))
  _ ?_ ?_ _ _ ⟨rfl,rfl,x,y,xs.toList,ys.toList,rfl,hia,hib,hx,hy,rfl,by simp⟩
 ·rintro⟨u,v⟩ rest r s' ⟨hr,rfl,x',y',xs',ys',hz,hx',hy',dx,dy,hdec,hlen⟩;cases x' with
  |nil =>
   have e:xs'=[]:=hx';subst e;simp at hz
  |cons k1 x'' =>
   obtain⟨u',xs'',rfl,h1,hx''⟩:=hx';cases y' with
   |nil =>
    have e:ys'=[]:=hy';subst e;simp at hz
   |cons k2 y'' =>
    obtain⟨v',ys'',rfl,h2,hy''⟩:=hy';simp only[List.zip_cons_cons,List.cons.injEq,Prod.mk.injEq]at hz;obtain⟨⟨rfl,rfl⟩,rfl⟩:=hz;have dx':max k1.depth (TK.depths x'')<=d:=dx;have dy':max k2.depth (TK.depths y'')<=d:=dy;refine aq (ih (x:=k1) (y:=k2) (by omega) (by omega) hu h1 h2 ?_);by_cases hk:k1=k2
    ·subst hk;rw[zzr1 rfl];simp only[tP,qt,if_false];refine aW ⟨rfl,rfl,x'',y'',xs'',ys'',rfl,hx'',hy'',by omega,by omega,?_,by simpa using hlen⟩;rw[<-hdec];by_cases hxy:x''=y''
     ·simp[hxy]
     ·simp[hxy]
    ·rw[zzr0 hk];simp only[Bool.not_false,if_true];have hf:decide (x=y)=false:=by rw[<-hdec];simp[hk]
     rw[hf]at h;exact aq (aW (aW (aW h)))
 ·rintro⟨r1,r2⟩ s' ⟨hr,rfl,x',y',xs',ys',hz,hx',hy',dx,dy,hdec,hlen⟩;simp only at hr;subst hr;refine aW ?_;have hfin:(xs.size==ys.size)=decide (x=y):=by
   rw[<-hdec,<-hlen];cases x' with
   |nil =>
    have e:xs'=[]:=hx';subst e;cases y' with
    |nil=>have e:ys'=[]:=hy';subst e;simp
    |cons _ _=>obtain⟨_,_,rfl,_⟩:=hy';simp
   |cons _ _ =>
    obtain⟨_,_,rfl,_⟩:=hx';cases y' with
    |nil=>have e:ys'=[]:=hy';subst e;simp
    |cons _ _=>obtain⟨_,_,rfl,_⟩:=hy';simp at hz
  show P (.done (.ret (.bool (xs.size==ys.size)))) s';rw[hfin];exact h
theorem zG:∀(d:Nat) {A:Around}{E:Zc}{s:Shared}{x y:TK}{u v:Value}{Q:Bool->Shared->Prop},x.depth<=d->y.depth<=d->A.units+d<cLine->iQ s.heap x u->iQ s.heap y v->Q (decide (x=y)) s ->
  wpAny (model prog w) A (eqBool u v) Q E s:=by
 have mixed1:∀{A:Around}{E:Zc}{s:Shared}{a:cI}{l:List TK}{u v:Value}{Q:Bool->Shared->Prop},A.units<cLine->iQ s.heap (.k a) u->iQ s.heap (.t l) v->Q false s->wpAny (model prog w) A (eqBool u v) Q E s:=by
  intro A E s a l u v Q hu hx hy h;obtain⟨b,o,items,n,rfl,ho,hc,hdt,hi⟩:=hy;have ht:s.heap.IsTuple b items:=⟨o,ho,hc,n,hdt⟩;rcases ao (show bz a u=true from hx)with⟨i,t,rfl,rfl⟩|⟨i,t,rfl,rfl⟩
  ·exact aS.int_tuple i t ht hu prog w E Q h
  ·exact aS.str_tuple i t ht hu prog w E Q h
 have mixed2:∀{A:Around}{E:Zc}{s:Shared}{a:cI}{l:List TK}{u v:Value}{Q:Bool->Shared->Prop},A.units<cLine->iQ s.heap (.t l) u->iQ s.heap (.k a) v->Q false s->wpAny (model prog w) A (eqBool u v) Q E s:=by
  intro A E s a l u v Q hu hx hy h;obtain⟨b,o,items,n,rfl,ho,hc,hdt,hi⟩:=hx;have ht:s.heap.IsTuple b items:=⟨o,ho,hc,n,hdt⟩;rcases ao (show bz a v=true from hy)with⟨i,t,rfl,rfl⟩|⟨i,t,rfl,rfl⟩
  ·exact aS.tuple_int i t ht hu prog w E Q h
  ·exact aS.tuple_str i t ht hu prog w E Q h
 have leaves:∀{A:Around}{E:Zc}{s:Shared}{a b:cI}{u v:Value}{Q:Bool->Shared->Prop},iQ s.heap (.k a) u->iQ s.heap (.k b) v->Q (decide (TK.k a=TK.k b)) s->wpAny (model prog w) A (eqBool u v) Q E s:=by
  intro A E s a b u v Q hx hy h;refine(bc prog w).eqBool (a:=a) (b:=b) hx hy ?_;by_cases e:a=b
  ·subst e;simpa using h
  ·have:¬(TK.k a=TK.k b):=fun z=>e (by injection z);rw[zzr0 this]at h;rw[zzr0 e];exact h
 intro d
 induction d with
 |zero =>
  intro A E s x y u v Q hdx hdy hu hx hy h;cases x with
  |t l=>exact absurd hdx (by show ¬(TK.depths l+1<=0);omega)
  |k a =>
   cases y with
   |t l=>exact absurd hdy (by show ¬(TK.depths l+1<=0);omega)
   |k b=>exact leaves hx hy h
 |succ d ih =>
  intro A E s x y u v Q hdx hdy hu hx hy h;cases x with
  |k a =>
   cases y with
   |k b=>exact leaves hx hy h
   |t l =>
    rw[zzr0 (by intro z;cases z)]at h;exact mixed1 (by omega) hx hy h
  |t l =>
   cases y with
   |k b =>
    rw[zzr0 (by intro z;cases z)]at h;exact mixed2 (by omega) hx hy h
   |t m =>
    have hl:TK.depths l<=d:=by have:TK.depths l+1<=d+1:=hdx;omega
    have hm:TK.depths m<=d:=by have:TK.depths m+1<=d+1:=hdy;omega
    have hx0:=hx;have hy0:=hy;obtain⟨a,oa,xs,na,rfl,hoa,hca,hda,hia⟩:=hx;obtain⟨b,ob,ys,nb,rfl,hob,hcb,hdb,hib⟩:=hy;have hTa:s.TypeIs (.ref a) "tuple":=⟨oa,hoa,hca⟩;have hTb:s.TypeIs (.ref b) "tuple":=⟨ob,hob,hcb⟩;have hd':decide (TK.t l=TK.t m)=decide (l=m):=by
     by_cases e:l=m
     ·subst e;simp
     ·have:¬(TK.t l=TK.t m):=fun z=>e (by injection z);rw[zzr0 this,zzr0 e]
    unfold eqBool
    try with_reducible refine l_ ?_
    show wpAny _ _ (if(Value.ref a==Value.ref b)=true then _ else _) Q E s
    by_cases hab:(Value.ref a==Value.ref b)=true
    ·rw[if_pos hab];have e:a=b:=by have:=eq_of_beq hab;injection this
     subst e;have e2:TK.t l=TK.t m:=iQ.inj _ (aE _) hx0 hy0;rw[zzr1 e2]at h;exact aq (qi (aW h))
    ·rw[if_neg hab];rw[hd']at h;exact aq (wpAny_richCompare_same_room (op:=.Eq) hTa hTb F.slot_tuple_eq
      (uG F.slot_tuple_eq hTa F.entry_tuple_eq (uL d (fun h1 h2 h3 h4 h5 h6=>ih h1 h2 h3 h4 h5 h6) hl hm (by show A.units+1+d<cLine;omega) hoa hda hia hob hcb hdb hib ⟨_,rfl,(fun e=>nomatch e),lY h⟩) (F.args_tuple_eq_2 _ _)) (by omega))
theorem vJ:∀(d:Nat) {A:Around}{E:Zc}{s:Shared}{k:TK}{v:Value}{Q:Bool->Shared->Prop},k.depth<=d->iQ s.heap k v->Q true s->wpAny (model prog w) A (eqIsQuiet d v) Q E s:=by
 intro d
 induction d with
 |zero =>
  intro A E s k v Q hd hk h;cases k with
  |t l=>exact absurd hd (by show ¬(TK.depths l+1<=0);omega)
  |k a=>rw[eqIsQuiet_byValue _ ((bc prog w).byValue a v hk)];exact aW h
 |succ d ih =>
  intro A E s k v Q hd hk h;cases k with
  |k a=>rw[eqIsQuiet_byValue _ ((bc prog w).byValue a v hk)];exact aW h
  |t l =>
   have hl:TK.depths l<=d:=by have:TK.depths l+1<=d+1:=hd;omega
   obtain⟨a,o,items,n,rfl,ho,hc,hdt,hi⟩:=hk;have hT:s.TypeIs (.ref a) "tuple":=⟨o,ho,hc⟩;unfold eqIsQuiet;refine aq (w6 hT F.slot_tuple_eq.lookup ?_);show wpAny _ _ (isInstance (.ref a) (.type "tuple") >>= _) _ _ s;refine aq (wpAny_isInstance hT isSubtype_tuple_tuple ?_);simp only[tP,qt,if_false];refine aq (iR ho hdt ?_);refine aq ?_;show wpAny _ _ (forIn items _ _) _ _ s;rw[<-Array.forIn_toList];refine wpAny_forIn_list _ (fun rest r s'=>r.1=none/\s'=s/\∃left,TAts s.heap left rest/\TK.depths left<=d) _ ?_ ?_ _ _ ⟨rfl,rfl,l,hi,hl⟩
   ·rintro v rest r s' ⟨hr,rfl,left,hall,hdl⟩;cases left with
    |nil=>have e:v::rest=[]:=hall;cases e
    |cons k' left =>
     obtain⟨v',rest',e,h1,h2⟩:=hall;cases e;have hdl':max k'.depth (TK.depths left)<=d:=hdl;refine aq (ih (k:=k') (by omega) h1 ?_);simp only[tP,qt,if_false];exact aW ⟨rfl,rfl,left,h2,by omega⟩
   ·rintro⟨r1,r2⟩ s' ⟨hr,rfl,_⟩;simp only at hr;subst hr;exact aW h
def de(prog:bh)(w:World):HeapKind prog w TK where
 is:=fun h k a=>iQ h k (.ref a)/\k.depth<=8
 hash:=TK.hash w
 draws:=TK.draws
 room:=fun A=>A.units+8<cLine
 inj:=fun hx hy=>iQ.inj 8 hx.2 hx.1 hy.1
 keeps:=fun{h h' k a d o es ep} x ho hd hs=>⟨iQ.mono (fun b ob items n hb _ hdb=>(hs.2 b fun e=>by
  subst e;rw[ho]at hb;cases hb;rw[hd]at hdb;cases hdb).trans hb) 8 x.2 x.1,x.2⟩
 pyHash:=fun hu hk h=>xf 8 hk.2 hu hk.1 h
 eqBool:=fun hu hx hy h=>zG 8 hx.2 hy.2 hu hx.1 hy.1 h
 quiet:=fun hk h=>vJ 8 hk.2 hk.1 h
end
end L2
namespace L2
open PySem PySem.Spec PyProof.Rows
inductive V where
 |non|bl (b:Bool)|int (i:Int)|str (x:Str)|byt (b:Array UInt8)|flt (b:UInt64)|ref (a:Addr)|ty (n:String)
 deriving DecidableEq
def RelV:V->Value->Prop
 |.non,u=>u=Value.none
 |.bl b,u=>u=Value.bool b
 |.int i,u=>∃t,u=Value.int i t
 |.str x,u=>∃t,u=Value.str x t
 |.byt b,u=>∃t,u=Value.bytes b t
 |.flt b,u=>∃t,u=Value.float b t
 |.ref a,u=>u=Value.ref a
 |.ty n,u=>u=Value.type n
abbrev aH:List V->List Value->Prop:=Paired RelV
theorem aH.length{xs:List V}{us:Zf}(r:aH xs us):xs.length=us.length:=Paired.length r
theorem aH.get:∀{xs:List V}{us:Zf}{i:Nat}{x:V},aH xs us->xs[i]?=some x->∃u,us[i]?=some u/\RelV x u
 |_,_,_,_,.nil,e=>by simp at e
 |_,_,0,_,.cons r _,e=>by simp at e;subst e;exact⟨_,rfl,r⟩
 |_,_,i+1,x,.cons _ t,e=>by
  obtain⟨u,h1,h2⟩:=aH.get (i:=i) (x:=x) t (by simpa using e);exact⟨u,by simpa using h1,h2⟩
theorem aH.set{x:V}{u:Value}(r:RelV x u):∀{xs:List V}{us:Zf}(i:Nat),aH xs us->aH (xs.set i x) (us.set i u)
 |_,_,_,.nil=>.nil
 |_,_,0,.cons _ t=>.cons r t
 |_,_,i+1,.cons q t=>.cons q (aH.set r i t)
theorem aH.append:∀{xs ys:List V}{us ws:Zf},aH xs us->aH ys ws->aH (xs++ys) (us++ws)
 |_,_,_,_,.nil,s=>s
 |_,_,_,_,.cons r t,s=>.cons r (aH.append t s)
theorem aH.take:∀{xs:List V}{us:Zf}(n:Nat),aH xs us->aH (xs.take n) (us.take n)
 |_,_,0,_=>.nil
 |_,_,_+1,.nil=>.nil
 |_,_,n+1,.cons r t=>.cons r (aH.take n t)
theorem aH.drop:∀{xs:List V}{us:Zf}(n:Nat),aH xs us->aH (xs.drop n) (us.drop n)
 |_,_,0,r=>r
 |_,_,_+1,.nil=>.nil
 |_,_,n+1,.cons _ t=>aH.drop n t
def g0:Option V->Option Value->Prop
 |some v,some u=>RelV v u
 |none,none=>True
 |_,_=>False
def KV{κ:Type}:List (κ×V)->List (κ×Value)->Prop:=Paired fun(p:κ×V) (q:κ×Value)=>p.1=q.1/\RelV p.2 q.2
def kV:cI->V
 |.inl i=>.int i
 |.inr x=>.str x
inductive HO where
 |lst (xs:List V)
 |tup (xs:List V)
 |dK (kvs:List (cI×V))|dT (kvs:List (TK×V))
 |set (S:Int->Bool) (n:Nat)
 |ins (C dx:Addr) (fs:List (Str×V))
 |own (x:Addr)
 |xd (fs:List (Str×V))
 |met (f x:Addr)
 |rng (lo hi:Int)
 |frz (o:Obj) (u:HO)
 |tbl (ps:Array Value)
 |ext (φ:Heap->Prop)
abbrev Hp:=Addr->Option HO
mutual
def fw(H:Hp):TK->V->Prop
 |.k a,v=>v=kV a
 |.t l,v=>∃b xs,v=.ref b/\H b=some (.tup xs)/\TKAts H l xs
def TKAts(H:Hp):List TK->List V->Prop
 |[],vs=>vs=[]
 |k::r,vs=>∃v us,vs=v::us/\fw H k v/\TKAts H r us
end
def yf(K:Za)(H:Hp)(a:Addr)(xs:List V):Prop :=
 H a=some (.tup xs)∨∃(o:Obj) (its:Array Value) (n:Nat),K.lookup a=some o/\o.cls=.type "tuple"/\o.data=.seq its n/\its.size<=am/\aH xs its.toList
theorem yf.keeps{K:Za}{H H':Hp}{a:Addr}{xs:List V}(h:yf K H a xs)(ht:∀b xs,H b=some (.tup xs)->H' b=some (.tup xs)):yf K H' a xs:=h.imp (ht a xs) id
mutual
def rM(K:Za)(H:Hp):TK->V->Prop
 |.k a,v=>v=kV a
 |.t l,v=>∃b xs,v=.ref b/\yf K H b xs/\TKCs K H l xs
def TKCs(K:Za)(H:Hp):List TK->List V->Prop
 |[],vs=>vs=[]
 |k::r,vs=>∃v us,vs=v::us/\rM K H k v/\TKCs K H r us
end
theorem rM.keeps{K:Za}{H H':Hp}(ht:∀b xs,H b=some (.tup xs)->H' b=some (.tup xs)):∀(d:Nat) {k:TK}{v:V},k.depth<=d->rM K H k v->rM K H' k v:=by
 have key:∀(d:Nat) (ih:∀{k:TK}{v:V},k.depth<=d->rM K H k v->rM K H' k v) (xs:List TK) (vs:List V),TK.depths xs<=d->TKCs K H xs vs->TKCs K H' xs vs:=by
  intro d ih xs
  induction xs with
  |nil=>intro vs _ hx;exact hx
  |cons x xs ihl =>
   intro vs hd hx;obtain⟨v,us,rfl,hx1,hx2⟩:=hx;have hd':max x.depth (TK.depths xs)<=d:=hd;exact⟨v,us,rfl,ih (by omega) hx1,ihl us (by omega) hx2⟩
 intro d
 induction d with
 |zero =>
  intro k v hd hx;cases k with
  |t l=>exact absurd hd (by show ¬(TK.depths l+1<=0);omega)
  |k a=>exact hx
 |succ d ih =>
  intro k v hd hx;cases k with
  |k a=>exact hx
  |t l =>
   obtain⟨b,xs,rfl,hb,hi⟩:=hx;exact⟨b,xs,rfl,hb.keeps ht,key d (fun h1=>ih h1) l xs (by have:TK.depths l+1<=d+1:=hd;omega) hi⟩
theorem fw.c{K:Za}{H:Hp}:∀(d:Nat) {k:TK}{v:V},k.depth<=d->fw H k v->rM K H k v:=by
 have key:∀(d:Nat) (ih:∀{k:TK}{v:V},k.depth<=d->fw H k v->rM K H k v) (xs:List TK) (vs:List V),TK.depths xs<=d->TKAts H xs vs->TKCs K H xs vs:=by
  intro d ih xs
  induction xs with
  |nil=>intro vs _ hx;exact hx
  |cons x xs ihl =>
   intro vs hd hx;obtain⟨v,us,rfl,hx1,hx2⟩:=hx;have hd':max x.depth (TK.depths xs)<=d:=hd;exact⟨v,us,rfl,ih (by omega) hx1,ihl us (by omega) hx2⟩
 intro d
 induction d with
 |zero =>
  intro k v hd hx;cases k with
  |t l=>exact absurd hd (by show ¬(TK.depths l+1<=0);omega)
  |k a=>exact hx
 |succ d ih =>
  intro k v hd hx;cases k with
  |k a=>exact hx
  |t l =>
   obtain⟨b,xs,rfl,hb,hi⟩:=hx;exact⟨b,xs,rfl,.inl hb,key d (fun h1=>ih h1) l xs (by have:TK.depths l+1<=d+1:=hd;omega) hi⟩
def upd(H:Hp)(a:Addr)(o:HO):Hp:=fun b=>if b=a then some o else H b
theorem aa{H:Hp}{a:Addr}{o:HO}:upd H a o a=some o:=by unfold upd;rw[if_pos rfl]
theorem af{H:Hp}{a b:Addr}{o:HO}(h:b≠a):upd H a o b=H b:=by unfold upd;rw[if_neg h]
theorem lE{H:Hp}{a:Addr}{o u:HO}:upd (upd H a o) a u=upd H a u:=by
 funext b;unfold upd;split<;>rfl
theorem yC{H:Hp}{a b:Addr}{o u:HO}(h:H a=some o)(h':H b=some u)(d:o≠u):a≠b:=by
 intro e;subst e;rw[h]at h';exact d (cT h')
theorem ai{H:Hp}{a b:Addr}{o:HO}(h:H a=some o)(h':H b=none):a≠b:=by
 intro e;subst e;rw[h]at h';cases h'
section
variable(P:bh)(w:World)(K:Za)
def bN(H:Hp)(h:Heap)(a:Addr):HO->Prop
 |.lst xs=>xs.length<=am/\∃(its:Zf) (n:Nat),aH xs its/\h.get? a=some { cls:=.type "list",data:=.seq its.toArray n }
 |.tup xs=>xs.length<=am/\∃its:List Value,aH xs its/\IsTup h a its.toArray
 |.dK kvs=>kvs.length<=am/\(a==f_)=false/\∃vs,KV kvs vs/\h.DictOf (bc P w) a vs
 |.dT kvs=>kvs.length<=am/\(a==f_)=false/\∃xs:List (TK×Addr×Value),
   Paired (fun(p:TK×V) (q:TK×Addr×Value)=>p.1=q.1/\rM K H p.1 (.ref q.2.1)/\p.1.depth<=8/\RelV p.2 q.2.2) kvs xs /\
   ∃o es ep,h.get? a=some o/\o.ExactDict/\o.data=.dict es ep/\es.toList=xs.map (entryOfKey (de P w))/\(xs.map (·.1)).Nodup
 |.set S n=>h.SetOf (intKind P w) a S n
 |.ins C dx fs=>H dx=some (.own a)/\fs.length<=1000/\dx≠a/\h.get? a=some (kQ C dx) /\
   ∃mA,h.Ns1 dx mA/\(∀f,g0 (fs.lookup f) (mA f))/\PySem.Within mA (fs.map (·.1))
 |.own _=>∃o,h.get? a=some o
 |.xd fs=>∃mA,h.Ns1 a mA/\∀f,g0 (fs.lookup f) (mA f)
 |.rng lo hi=>∃t u v,h.get? a=some { cls:=.type "range",data:=.fields #[.int lo t,.int hi u,.int 1 v] }
 |.frz o u=>h.get? a=some o/\bN H h a u
 |.tbl ps=>h.get? a=some { cls:=.none,data:=.fields ps }
 |.met f x=>h.get? a=some (PySem.W.methodObj (.ref f) (.ref x))
 |.ext φ=>φ h/\(∃o,h.get? a=some o)/\∀h1 h2:Heap,φ h1->(∀o,h1.get? a=some o->h2.get? a=some o)->φ h2
def iV(H:Hp)(h:Heap):Prop:=∀a o,H a=some o->bN P w K H h a o
end
section
variable{P:bh}{w:World}{K:Za}{H H':Hp}{h h':Heap}{a:Addr}{o:HO}
theorem bN.lt(x:bN P w K H h a o):a<h.objs.size:=by
 cases o with
 |lst xs=>obtain⟨_,_,_,_,e⟩:=x;exact aG e
 |tup xs=>obtain⟨_,_,_,p⟩:=x;exact p.lt
 |dK kvs=>obtain⟨_,_,_,_,o,_,_,e,_⟩:=x;exact aG e
 |dT kvs=>obtain⟨_,_,_,_,o,_,_,e,_⟩:=x;exact aG e
 |set S n=>obtain⟨o,_,_,_,e,_⟩:=x;exact aG e
 |ins C dx fs=>obtain⟨_,_,_,e,_⟩:=x;exact aG e
 |own y=>obtain⟨_,e⟩:=x;exact aG e
 |xd fs=>obtain⟨_,⟨_,_,_,e,_⟩,_⟩:=x;exact aG e
 |rng lo hi=>obtain⟨_,_,_,e⟩:=x;exact aG e
 |frz ob u=>obtain⟨e,_⟩:=x;exact aG e
 |tbl ps=>exact aG (show h.get? a=some _ from x)
 |met f y=>exact aG (show h.get? a=some _ from x)
 |ext φ=>obtain⟨_,⟨_,e⟩,_⟩:=x;exact aG e
theorem Paired.mapP{α β:Type}{F G:α->β->Prop}:∀{l₁:List α}{l₂:List β},Paired F l₁ l₂->(∀a b,F a b->G a b)->Paired G l₁ l₂
 |_,_,.nil,_=>.nil
 |_,_,.cons r t,f=>.cons (f _ _ r) (Paired.mapP t f)
theorem bN.stay(x:bN P w K H h a o)(k:∀b u,(b=a∨H b=some (.own a))->h.get? b=some u->h'.get? b=some u)
  (ho:∀b,H b=some (.own a)->H' b=some (.own a)) (ht:∀b xs,H b=some (.tup xs)->H' b=some (.tup xs)):bN P w K H' h' a o:=by
 induction o with
 |lst xs=>obtain⟨z,its,n,r,e⟩:=x;exact⟨z,its,n,r,k _ _ (.inl rfl) e⟩
 |tup xs=>obtain⟨z,its,r,ob,e,c⟩:=x;exact⟨z,its,r,ob,k _ _ (.inl rfl) e,c⟩
 |dK kvs=>obtain⟨z,y,vs,r,ob,es,ep,e,c⟩:=x;exact⟨z,y,vs,r,ob,es,ep,k _ _ (.inl rfl) e,c⟩
 |dT kvs =>
  obtain⟨z,y,xs,r,ob,es,ep,e,c⟩:=x;exact⟨z,y,xs,Paired.mapP r fun p q z=>⟨z.1,rM.keeps ht 8 z.2.2.1 z.2.1,z.2.2⟩,ob,es,ep,k _ _ (.inl rfl) e,c⟩
 |set S n=>obtain⟨ob,es,ep,t,e,c⟩:=x;exact⟨ob,es,ep,t,k _ _ (.inl rfl) e,c⟩
 |ins C dx fs =>
  obtain⟨d,z,ne,e,mA,⟨od,es,ep,e2,c⟩,r⟩:=x;exact⟨ho _ d,z,ne,k _ _ (.inl rfl) e,mA,⟨od,es,ep,k _ _ (.inr d) e2,c⟩,r⟩
 |own y=>obtain⟨ob,e⟩:=x;exact⟨ob,k _ _ (.inl rfl) e⟩
 |xd fs=>obtain⟨mA,⟨od,es,ep,e,c⟩,r⟩:=x;exact⟨mA,⟨od,es,ep,k _ _ (.inl rfl) e,c⟩,r⟩
 |rng lo hi=>obtain⟨t,u,v,e⟩:=x;exact⟨t,u,v,k _ _ (.inl rfl) e⟩
 |frz ob u ih=>obtain⟨e,q⟩:=x;exact⟨k _ _ (.inl rfl) e,ih q⟩
 |tbl ps =>
  have e:h.get? a=some { cls:=.none,data:=.fields ps }:=x;show h'.get? a=some { cls:=.none,data:=.fields ps };exact k a _ (.inl rfl) e
 |met f y =>
  have e:h.get? a=some (PySem.W.methodObj (.ref f) (.ref y)):=x;show h'.get? a=some (PySem.W.methodObj (.ref f) (.ref y));exact k a _ (.inl rfl) e
 |ext φ=>obtain⟨p,⟨o,e⟩,st⟩:=x;exact⟨st _ _ p fun o q=>k _ _ (.inl rfl) q,⟨o,k _ _ (.inl rfl) e⟩,st⟩
theorem iV.lt(x:iV P w K H h)(e:H a=some o):a<h.objs.size:=(x a o e).lt
theorem iV.fresh(x:iV P w K H h)(e:h.objs.size<=a):H a=none:=by
 cases q:H a with
 |none=>rfl
 |some u=>exact absurd (fe (x.lt q) e) (kP _)
theorem iV.kept(x:iV P w K H h)(k:∀b u,h.get? b=some u->h'.get? b=some u):iV P w K H h':=fun a o e =>
 (x a o e).stay (fun b u _ q=>k b u q) (fun _ q=>q) fun _ _ q=>q
theorem iV.laid(x:iV P w K H h)(k:∀b u,h.get? b=some u->h'.get? b=some u)(hp:h.objs.size<=a)(new:bN P w K (upd H a o) h' a o):iV P w K (upd H a o) h':=fun b u e=>by
 have hn:=x.fresh hp;by_cases hb:b=a
 ·subst hb;rw[aa]at e;cases e;exact new
 ·rw[af hb]at e;exact(x b u e).stay (fun c v _ q=>k c v q) (fun c q=>by rw[af (ai q hn)];exact q) fun c xs q=>by rw[af (ai q hn)];exact q
end
def Rd(H:Hp)(a:Addr)(u:HO):Prop:=H a=some u∨∃o,H a=some (.frz o u)
theorem Rd.ok{P:bh}{w:World}{K:Za}{H:Hp}{h:Heap}{a:Addr}{u:HO}(r:Rd H a u)(x:iV P w K H h):bN P w K H h a u:=by
 rcases r with r|⟨o,r⟩
 ·exact x a u r
 ·obtain⟨_,q⟩:=x a _ r;exact q
def z8:Option HO->Prop
 |some (.lst _)=>True
 |some (.dK _)=>True
 |some (.dT _)=>True
 |some (.set _ _)=>True
 |some (.ins _ _ _)=>True
 |some (.ext _)=>True
 |_=>False
section
variable{P:bh}{w:World}{K:Za}{H:Hp}{h h':Heap}{x e:Addr}{o':HO}
theorem iV.write(ok:iV P w K H h)(mu:z8 (H x))(he:e=x∨H e=some (.own x))(k:∀b u,b≠e->h.get? b=some u->h'.get? b=some u)(heo:∃u,h'.get? e=some u)
  (new:bN P w K (upd H x o') h' x o'):iV P w K (upd H x o') h':=fun b u q=>by
 have nown:∀c y,H c=some (.own y)->c≠x:=fun c y r z=>by subst z;rw[r]at mu;exact mu
 have ntup:∀c xs,H c=some (.tup xs)->c≠x:=fun c xs r z=>by subst z;rw[r]at mu;exact mu
 by_cases hb:b=x
 ·subst hb;rw[aa]at q;cases q;exact new
 ·rw[af hb]at q;by_cases hbe:b=e
  ·have q':H b=some (.own x):=by
    rcases he with z|z
    ·exact absurd (hbe.trans z) hb
    ·rw[hbe];exact z
   rw[q]at q';cases q';obtain⟨v,hv⟩:=heo;exact⟨v,by rw[hbe];exact hv⟩
  ·refine(ok b u q).stay (fun c v hc r=>k c v ?_ r) (fun c r=>by rw[af (nown c b r)];exact r) fun c xs r=>by rw[af (ntup c xs r)];exact r
   rcases hc with rfl|hc
   ·exact hbe
   ·rintro rfl;rcases he with z|z
    ·exact nown c b hc z
    ·rw[hc]at z;cases z;exact hb rfl
end
structure Un(fs ex:Ze)(H H':Hp)(h h':Heap):Prop where
 keep:∀b o,h.get? b=some o->H b=none->b∉fs->b∉ex->h'.get? b=some o
 slot:∀b o,h.get? b=some o->H b=none->b∈fs->b∉ex->∃sl,h'.get? b=some { o with slots:=sl }
 free:∀b o,h.get? b=some o->H b=none->b∉ex->H' b=none
 there:∀b o,h.get? b=some o->b∉ex->∃o',h'.get? b=some o'
 tups:∀b xs,H b=some (.tup xs)->H' b=some (.tup xs)
 frzs:∀b o u,H b=some (.frz o u)->H' b=some (.frz o u)
 tbls:∀b ps,H b=some (.tbl ps)->∃more,H' b=some (.tbl (ps++more))
section
variable{fs fs' ex ex':Ze}{H H1 H2:Hp}{h h1 h2 h':Heap}{a x e:Addr}{o:HO}
theorem Un.any(u:Un fs ex H H1 h h1){b:Addr}{ob:Obj}(q:h.get? b=some ob)(n:H b=none)(hx:b∉ex):∃sl,h1.get? b=some { ob with slots:=sl }:=by
 by_cases hb:b∈fs
 ·exact u.slot b ob q n hb hx
 ·exact⟨ob.slots,u.keep b ob q n hb hx⟩
theorem Un.kept(k:∀b u,h.get? b=some u->h'.get? b=some u):Un fs ex H H h h' :=
 ⟨fun b ob q _ _ _=>k b ob q,fun b ob q _ _ _=>⟨ob.slots,k b ob q⟩,fun _ _ _ n _=>n,fun b ob q _=>⟨ob,k b ob q⟩,fun _ _ q=>q,fun _ _ _ q=>q,fun _ ps q=>⟨#[],by rw[q];simp⟩⟩
theorem Un.refl:Un fs ex H H h h:=Un.kept fun _ _ q=>q
theorem Un.laid(k:∀b u,h.get? b=some u->h'.get? b=some u)(hp:h.objs.size<=a)(hn:H a=none):Un fs ex H (upd H a o) h h' where
 keep:=fun b u q _ _ _=>k b u q
 slot:=fun b u q _ _ _=>⟨u.slots,k b u q⟩
 free:=fun b u q n _=>by rw[af (bS (fe (aG q) hp))];exact n
 there:=fun b u q _=>⟨u,k b u q⟩
 tups:=fun b xs q=>by rw[af (ai q hn)];exact q
 frzs:=fun b u xs q=>by rw[af (ai q hn)];exact q
 tbls:=fun b ps q=>⟨#[],by rw[af (ai q hn),q];simp⟩
theorem Un.write(mu:z8 (H x))(he:e=x∨H e=some (.own x))(k:∀b u,b≠e->h.get? b=some u->h'.get? b=some u)(heo:∃u,h'.get? e=some u):Un fs ex H (upd H x o) h h':=by
 have hx:∀b,H b=none->b≠x:=fun b n z=>by subst z;rw[n]at mu;exact mu
 have hb:∀b,H b=none->b≠e:=fun b n z=>by
  subst z;rcases he with r|r
  ·exact hx b n r
  ·rw[n]at r;cases r
 have hm:∀b u,H b=some u->¬z8 (some u)->b≠x:=fun b u q nm z=>by subst z;rw[q]at mu;exact nm mu
 refine⟨fun b u q n _ _=>k b u (hb b n) q,fun b u q n _ _=>⟨u.slots,k b u (hb b n) q⟩,fun b u q n _=>by rw[af (hx b n)];exact n,fun b u q _=>?_,
  fun b xs q=>by rw[af (hm b _ q fun z=>z)];exact q,fun b u xs q=>by rw[af (hm b _ q fun z=>z)];exact q,fun b ps q=>⟨#[],by rw[af (hm b _ q fun z=>z),q];simp⟩⟩
 by_cases hbe:b=e
 ·subst hbe;exact heo
 ·exact⟨u,k b u hbe q⟩
end
def An(h:Heap)(H:Hp):List Addr:=(jA h.objs.size).filter fun a=>(H a).isSome
def pJ(h:Heap)(H:Hp):Heap:=PySem.W.hideAll h (An h H)
theorem va(h:Heap)(H:Hp):(pJ h H).objs.size=h.objs.size:=PySem.W.hideAll_size _ _
theorem wn{h:Heap}{H:Hp}{b:Addr}{o:Obj}(e:h.get? b=some o)(n:H b=none):(pJ h H).get? b=some o :=
 PySem.W.hideAll_get _ e fun hm=>by
  have q:(H b).isSome=true:=(jz.mp hm).2;rw[n]at q;simp at q
theorem xL{h:Heap}{H:Hp}{b:Addr}{o:Obj}(e:(pJ h H).get? b=some o):h.get? b=some o/\H b=none:=by
 have e':h.get? b=some o:=PySem.W.of_hideAll (An h H) e;refine⟨e',?_⟩;cases q:H b with
 |none=>rfl
 |some x =>
  have hm:b∈An h H:=jz.mpr ⟨List.mem_range.mpr (aG e'),by simp[q]⟩;have z:(pJ h H).get? b=none:=PySem.W.hideAll_none (An h H) hm;rw[z]at e;cases e
end L2
namespace L2
open PySem PySem.Spec PyProof.Rows
structure Mod(K:Za)(mg:Str->Option Value)(base:Heap):Prop where
 kin:K.In base
 glob:base.Ns bg mg
 blt:∃mb,base.Ns builtinsNs mb/\∀x:Str,x≠"__name__"->mb x=fI x
 nolimit:base.NoLimit
structure Cx where
 prog:bh
 w:World
 K:Za
 mg:Str->Option Value
 base:Heap
 A:Around
 N:List Str
 s₀:Shared
 H₀:Hp
 env:Env
 outer:List Env
 stack:List Env
 ex:List Addr
 fn:Str->Bool
 calm:Bool
 pn:List (Addr×Obj)
 xe:Value->Shared->Prop
def vB(l:List Env):List Addr:=l.filterMap (·.frame)
abbrev Cx.fs(X:Cx):List Addr:=vB X.outer
def Vis(sc:Scope)(x:Str):Prop:=sc.names.lookup x=some .local∨sc.names.lookup x=some .cell∨sc.names.lookup x=some .free
def Loc(sc:Scope)(x:Str):Prop:=sc.names.lookup x=some .local∨sc.names.lookup x=some .cell
def Look(env:Env)(h:Heap)(m:Str->Option Value)(x:Str)(u:Value):Prop :=
 (env.kindOf x=some .local/\m x=some u)∨((env.kindOf x=some .cell∨env.kindOf x=some .free)/\∃c,env.cells.lookup x=some c/\h.IsCell c (some u))
structure Cx.Ok(X:Cx):Prop where
 mod:Mod X.K X.mg X.base
 kind:X.env.scope.kind=.function
 glob:X.env.globals=bg
 blt:X.env.builtins=builtinsNs
 above:X.s₀.heap.objs.size<=X.env.locals
 inj:∀x y c,X.env.cells.lookup x=some c->X.env.cells.lookup y=some c->x=y
 has:∀x,(X.env.kindOf x=some .cell∨X.env.kindOf x=some .free)->∃c,X.env.cells.lookup x=some c
 cab:∀x c,X.fn x=true->X.env.cells.lookup x=some c->X.s₀.heap.objs.size<=c
 hd:X.calm=true->X.A.handled=none
 frames:X.A.frames=some X.stack
 stk:X.stack=X.outer∨(X.stack=X.env::X.outer/\X.env.frame=some X.env.locals)
 exf:∀b∈X.ex,b≠X.env.locals/\∀x c,X.env.cells.lookup x=some c->c≠b
 bs:∀b o,X.base.get? b=some o->X.s₀.heap.get? b=some o/\X.H₀ b=none
 bsz:X.base.objs.size<=X.s₀.heap.objs.size
 noex:∀b o,X.base.get? b=some o->b∉X.ex
 exfs:∀b∈X.ex,b∉X.fs
 funs:X.s₀.heap.FunFrames X.base X.outer
 frf:∀b∈X.fs,X.H₀ b=none
structure Inv(X:Cx)(J0:Zd)(σ:List (Option V))(H:Hp)(s:Shared):Prop where
 ok:X.Ok
 os:s.os=X.s₀.os
 bare:jy s.gens
 base:Un X.fs X.ex X.H₀ H X.s₀.heap s.heap
 loc:∃m,s.heap.Ns X.env.locals m/\∀(i:Nat) (x:Str) (v:V),X.N[i]?=some x->σ[i]?=some (some v)->Vis X.env.scope x->∃u,RelV v u/\Look X.env s.heap m x u
 cell:∀x c,X.env.cells.lookup x=some c->∃v,s.heap.IsCell c v
 free:H X.env.locals=none
 freeC:∀x c,X.env.cells.lookup x=some c->H c=none
 pin:∀p∈X.pn++J0,s.heap.get? p.1=some p.2/\H p.1=none/\p.1≠X.env.locals/\p.1∉X.fs/\∀v,p.2.data≠.cell v
 hok:iV X.prog X.w X.K H s.heap
 len:σ.length=X.N.length
section
variable{X:Cx}{J0:Zd}{σ:List (Option V)}{H H':Hp}{s:Shared}{h':Heap}
theorem Cx.Ok.nofr(ok:X.Ok){b:Addr}{o:Obj}(e:X.base.get? b=some o):b∉X.fs:=fun hb=>by
 have:=(ok.funs.mem hb).1;rw[e]at this;cases this
theorem Inv.bs(I:Inv X J0 σ H s):∀b o,X.base.get? b=some o->s.heap.get? b=some o/\H b=none:=fun b o e =>
 ⟨I.base.keep b o (I.ok.bs b o e).1 (I.ok.bs b o e).2 (I.ok.nofr e) (I.ok.noex b o e),I.base.free b o (I.ok.bs b o e).1 (I.ok.bs b o e).2 (I.ok.noex b o e)⟩
theorem Inv.bk(I:Inv X J0 σ H s):∀b o,X.base.get? b=some o->s.heap.get? b=some o:=fun b o e=>(I.bs b o e).1
theorem Inv.mod(I:Inv X J0 σ H s):Mod X.K X.mg X.base:=I.ok.mod
theorem Inv.kIn(I:Inv X J0 σ H s):X.K.In s.heap:=I.ok.mod.kin.keeps I.bk
theorem Inv.fr(I:Inv X J0 σ H s):∃m,Fr X.base X.env.locals s.heap m :=
 let⟨m,hn,_⟩:=I.loc
 ⟨m,hn,I.bk,cn I.ok.bsz I.ok.above⟩
theorem Inv.lt(I:Inv X J0 σ H s):X.env.locals<s.heap.objs.size:=let⟨_,hn,_⟩:=I.loc;hn.lt
theorem Inv.sz(I:Inv X J0 σ H s):X.s₀.heap.objs.size<=s.heap.objs.size:=cn I.ok.above (f8 I.lt)
theorem Inv.nofs(I:Inv X J0 σ H s){a:Addr}(h:s.heap.objs.size<=a):a∉X.fs:=fun hb=>by
 obtain⟨_,o,ho,_⟩:=I.ok.funs.mem hb;exact absurd (fe (aG ho) (cn I.sz h)) (kP _)
theorem Inv.cne(I:Inv X J0 σ H s):∀x c,X.env.cells.lookup x=some c->c≠X.env.locals:=fun x c e z=>by
 obtain⟨v,o,ho,hd⟩:=I.cell x c e;obtain⟨m,⟨o',es,ep,ho',hd',_⟩,_⟩:=I.loc;rw[z,ho']at ho;cases ho;rw[hd']at hd;cases hd
theorem Inv.funs(I:Inv X J0 σ H s):s.heap.FunFrames X.base X.outer:=by
 have all:∀(l:List Env),(∀b∈vB l,b∈X.fs)->X.s₀.heap.FunFrames X.base l->s.heap.FunFrames X.base l:=by
  intro l
  induction l with
  |nil=>intro _ _;trivial
  |cons env r ih =>
   intro hs hl;obtain⟨hk,⟨L,o,hf,hn,ho,hd⟩,hr⟩:=hl;have hL:L∈X.fs:=hs L (by unfold vB;rw[List.filterMap_cons,hf];exact eG);obtain⟨sl,e⟩:=I.base.slot L o ho (I.ok.frf L hL) hL fun z=>I.ok.exfs L z hL;exact⟨hk,⟨L,_,hf,hn,e,hd⟩,ih (fun b hb=>hs b (by unfold vB;rw[List.filterMap_cons,hf];exact cC _ hb)) hr⟩
 exact all X.outer (fun _ hb=>hb) I.ok.funs
theorem Inv.stack(I:Inv X J0 σ H s):s.heap.FunFrames X.base X.stack:=by
 rcases I.ok.stk with e|⟨e,hf⟩
 ·rw[e];exact I.funs
 ·rw[e];obtain⟨m,hn,_⟩:=I.loc;refine .cons (by rw[I.ok.kind];decide) hf hn ?_ I.funs;exact Heap.get?_none_of_le (cn I.ok.bsz I.ok.above)
theorem Inv.stkSub(I:Inv X J0 σ H s):∀b∈vB X.stack,b∈X.env.locals::X.fs:=fun b hb=>by
 rcases I.ok.stk with e|⟨e,hf⟩
 ·rw[e]at hb;exact cC _ hb
 ·rw[e]at hb;unfold vB at hb;rw[List.filterMap_cons,hf]at hb;exact hb
theorem Inv.stkFree(I:Inv X J0 σ H s):∀b∈vB X.stack,H b=none:=fun b hb=>by
 rcases bf.mp (I.stkSub b hb)with e|hb
 ·rw[e];exact I.free
 ·obtain⟨_,o,ho,_⟩:=I.ok.funs.mem hb;exact I.base.free b o ho (I.ok.frf b hb) fun z=>I.ok.exfs b z hb
theorem Inv.step{g':Array GenState}{t':Nat}{d':Drawn}{ch:Ze}(I:Inv X J0 σ H s)
  (hch:∀b∈ch,(b∈X.ex∨X.s₀.heap.objs.size<=b)/\b≠X.env.locals/\(∀x c,X.env.cells.lookup x=some c->c≠b)/\∀p∈X.pn++J0,p.1≠b)
  (keep:∀b o,b≠X.env.locals->b∉X.fs->b∉ch->s.heap.get? b=some o->H b=none->h'.get? b=some o)
  (slot:∀b o,b≠X.env.locals->b∈X.fs->b∉ch->s.heap.get? b=some o->H b=none->∃sl,h'.get? b=some { o with slots:=sl }) (free:∀b o,b∉ch->s.heap.get? b=some o->H b=none->H' b=none)
  (there:∀b o,b∉ch->s.heap.get? b=some o->∃o',h'.get? b=some o')
  (tups:∀b xs,H b=some (.tup xs)->H' b=some (.tup xs)) (frzs:∀b o u,H b=some (.frz o u)->H' b=some (.frz o u)) (tbls:∀b ps,H b=some (.tbl ps)->∃more,H' b=some (.tbl (ps++more)))
  (ns:∀m,s.heap.Ns X.env.locals m->h'.Ns X.env.locals m) (hok:iV X.prog X.w X.K H' h') (hg:jy g') :
  Inv X J0 σ H' { s with heap:=h',gens:=g',drawn:=d',toks:=t' }:=by
 have neL:∀b o,X.s₀.heap.get? b=some o->b≠X.env.locals:=fun b o e=>bS (fe (aG e) I.ok.above);have neC:∀b o,X.s₀.heap.get? b=some o->b∉X.ex->b∉ch:=fun b o e hx hb=>by
  rcases(hch b hb).1 with z|z
  ·exact hx z
  ·exact absurd (fe (aG e) z) (kP _)
 have cellK:∀x c,X.env.cells.lookup x=some c->∀v,s.heap.IsCell c v->h'.IsCell c v:=fun x c e v ⟨o,ho,hd⟩=>by
  have nch:c∉ch:=fun z=>(hch c z).2.2.1 x c e rfl;by_cases hc:c∈X.fs
  ·obtain⟨sl,q⟩:=slot c o (I.cne x c e) hc nch ho (I.freeC x c e);exact⟨_,q,hd⟩
  ·exact⟨o,keep c o (I.cne x c e) hc nch ho (I.freeC x c e),hd⟩
 refine⟨I.ok,I.os,hg,⟨fun b o e n hb hx=>?_,fun b o e n hb hx=>?_,fun b o e n hx=>?_,fun b o e hx=>?_,fun b xs e=>tups b xs (I.base.tups b xs e),fun b o xs e=>frzs b o xs (I.base.frzs b o xs e),fun b ps e=>?_⟩,?_,fun x c e=>?_,?_,fun x c e=>?_,fun p hp=>?_,hok,I.len⟩
 ·exact keep b o (neL b o e) hb (neC b o e hx) (I.base.keep b o e n hb hx) (I.base.free b o e n hx)
 ·obtain⟨sl,e1⟩:=I.base.slot b o e n hb hx;obtain⟨sl',e2⟩:=slot b _ (neL b o e) hb (neC b o e hx) e1 (I.base.free b o e n hx);exact⟨sl',e2⟩
 ·obtain⟨o',e1⟩:=I.base.there b o e hx;exact free b o' (neC b o e hx) e1 (I.base.free b o e n hx)
 ·obtain⟨o',e1⟩:=I.base.there b o e hx;exact there b o' (neC b o e hx) e1
 ·obtain⟨m1,e1⟩:=I.base.tbls b ps e;obtain⟨m2,e2⟩:=tbls b _ e1;exact⟨m1++m2,by rw[e2,Array.append_assoc]⟩
 ·obtain⟨m,hn,hl⟩:=I.loc;refine⟨m,ns m hn,fun i x v e1 e2 e3=>?_⟩;obtain⟨u,r,l⟩:=hl i x v e1 e2 e3;refine⟨u,r,?_⟩;rcases l with l|⟨k,c,e,z⟩
  ·exact .inl l
  ·exact .inr ⟨k,c,e,cellK x c e _ z⟩
 ·obtain⟨v,z⟩:=I.cell x c e;exact⟨v,cellK x c e v z⟩
 ·obtain⟨m,⟨o,_,_,ho,_⟩,_⟩:=I.loc;exact free _ o (fun z=>(hch _ z).2.1 rfl) ho I.free
 ·obtain⟨v,o,ho,hd⟩:=I.cell x c e;exact free c o (fun z=>(hch c z).2.2.1 x c e rfl) ho (I.freeC x c e)
 ·obtain⟨e,n,ne,nf,d⟩:=I.pin p hp;have nch:p.1∉ch:=fun z=>(hch p.1 z).2.2.2 p hp rfl;exact⟨keep p.1 p.2 ne nf nch e n,free p.1 p.2 nch e n,ne,nf,d⟩
theorem Inv.un{t':Nat}(I:Inv X J0 σ H s)(u:Un X.fs [] H H' s.heap h')(hok:iV X.prog X.w X.K H' h'):Inv X J0 σ H' { s with heap:=h',toks:=t' }:=by
 obtain⟨m,⟨o,es,ep,ho,r⟩,_⟩:=id I.loc;obtain⟨sl,hL⟩:=u.any ho I.free (by simp);exact I.step (g':=s.gens) (d':=s.drawn) (ch:=[]) (fun _ z=>nomatch z) (fun b o _ hb _ e n=>u.keep b o e n hb (by simp)) (fun b o _ hb _ e n=>u.slot b o e n hb (by simp)) (fun b o _ e n=>u.free b o e n (by simp)) (fun b o _ e=>u.there b o e (by simp)) u.tups u.frzs u.tbls (fun m' hm=>by
  obtain⟨o',es',ep',ho',r'⟩:=hm;rw[ho]at ho';cases ho';exact⟨_,es',ep',hL,r'⟩) hok I.bare
theorem Inv.call{g':Array GenState}{t':Nat}{d':Drawn}{ch:Ze}(I:Inv X J0 σ H s)(u:Un (vB X.stack) ch H H' s.heap h')(hok:iV X.prog X.w X.K H' h')(hg:jy g')
  (hch:∀b∈ch,(b∈X.ex∨X.s₀.heap.objs.size<=b)/\b≠X.env.locals/\(∀x c,X.env.cells.lookup x=some c->c≠b)/\∀p∈X.pn++J0,p.1≠b) :
  Inv X J0 σ H' { s with heap:=h',gens:=g',drawn:=d',toks:=t' }:=by
 obtain⟨m,⟨o,es,ep,ho,r⟩,_⟩:=id I.loc;obtain⟨sl,hL⟩:=u.any ho I.free fun z=>(hch _ z).2.1 rfl;exact I.step (ch:=ch) hch (fun b o hL hb hc e n=>u.keep b o e n (fun z=>(bf.mp (I.stkSub b z)).elim hL hb) hc) (fun b o _ _ hc e n=>u.any e n hc) (fun b o hc e n=>u.free b o e n hc) (fun b o hc e=>u.there b o e hc) u.tups u.frzs u.tbls (fun m' hm=>by
  obtain⟨o',es',ep',ho',r'⟩:=hm;rw[ho]at ho';cases ho';exact⟨_,es',ep',hL,r'⟩) hok hg
theorem Inv.turned{t':Nat}{it:Addr}(I:Inv X J0 σ H s)(k:∀b o,b≠it->s.heap.get? b=some o->h'.get? b=some o)(hn:H it=none)(hL:it≠X.env.locals)
  (h1:it∈X.ex∨X.s₀.heap.objs.size<=it) (h2:∀x c,X.env.cells.lookup x=some c->c≠it) (h3:∀p∈X.pn++J0,p.1≠it):Inv X J0 σ H { s with heap:=h',toks:=t' }:=by
 have nit:∀b u,H b=some u->b≠it:=fun b u e z=>by rw[z,hn]at e;cases e
 refine I.step (g':=s.gens) (d':=s.drawn) (ch:=[it]) (fun b hb=>?_) (fun b o _ _ hc e _=>k b o (fun z=>hc (by simp[z])) e) (fun b o _ _ hc e _=>⟨o.slots,k b o (fun z=>hc (by simp[z])) e⟩) (fun _ _ _ _ n=>n)
  (fun b o hc e=>⟨o,k b o (fun z=>hc (by simp[z])) e⟩) (fun _ _ e=>e) (fun _ _ _ e=>e) (fun b ps e=>⟨#[],by rw[e];simp⟩) (fun m hm=>?_) (fun b u e=>?_) I.bare
 ·have e:b=it:=by simpa using hb
  subst e;exact⟨h1,hL,h2,h3⟩
 ·obtain⟨o,es,ep,ho,r⟩:=hm;exact⟨o,es,ep,k _ o (e_ hL) ho,r⟩
 ·refine(I.hok b u e).stay (fun c v hc q=>k c v ?_ q) (fun _ q=>q) fun _ _ q=>q;rcases hc with z|z
  ·rw[z];exact nit b u e
  ·exact nit c _ z
theorem Inv.tok(I:Inv X J0 σ H s)(t:Nat):Inv X J0 σ H { s with toks:=t }:=I.un (h':=s.heap) (t':=t) Un.refl I.hok
theorem Inv.kept{t':Nat}(I:Inv X J0 σ H s)(k:∀b u,s.heap.get? b=some u->h'.get? b=some u):Inv X J0 σ H { s with heap:=h',toks:=t' }:=I.un (Un.kept k) (I.hok.kept k)
theorem Inv.laid{a:Addr}{o:HO}{t':Nat}(I:Inv X J0 σ H s)(k:∀b u,s.heap.get? b=some u->h'.get? b=some u)(hp:s.heap.objs.size<=a)(new:bN X.prog X.w X.K (upd H a o) h' a o):
  Inv X J0 σ (upd H a o) { s with heap:=h',toks:=t' }:=I.un (Un.laid k hp (I.hok.fresh hp)) (I.hok.laid k hp new)
theorem Inv.write{x e:Addr}{o:HO}{t':Nat}(I:Inv X J0 σ H s)(mu:z8 (H x))(he:e=x∨H e=some (.own x))(k:∀b u,b≠e->s.heap.get? b=some u->h'.get? b=some u)(heo:∃u,h'.get? e=some u)
  (new:bN X.prog X.w X.K (upd H x o) h' x o):Inv X J0 σ (upd H x o) { s with heap:=h',toks:=t' }:=I.un (Un.write mu he k heo) (I.hok.write mu he k heo new)
theorem Inv.weak{σ':List (Option V)}(I:Inv X J0 σ H s)(hl:σ'.length=σ.length)(w:∀(i:Nat) v,σ'[i]?=some (some v)->σ[i]?=some (some v)):Inv X J0 σ' H s :=
 ⟨I.ok,I.os,I.bare,I.base,let⟨m,hn,hl'⟩:=I.loc;⟨m,hn,fun i x v e1 e2 e3=>hl' i x v e1 (w i v e2) e3⟩,I.cell,I.free,I.freeC,I.pin,I.hok,hl.trans I.len⟩
theorem Inv.pins_of{pins':Zd}(I:Inv X J0 σ H s)(h:∀p∈pins',s.heap.get? p.1=some p.2/\H p.1=none/\p.1≠X.env.locals/\p.1∉X.fs/\∀v,p.2.data≠.cell v):Inv X pins' σ H s :=
 ⟨I.ok,I.os,I.bare,I.base,I.loc,I.cell,I.free,I.freeC,fun p hp=>(bZ.mp hp).elim (fun z=>I.pin p (fH _ z)) (h p),I.hok,I.len⟩
theorem qY{N:Zb}(hN:N.Nodup){i j:Nat}{x:Str}(a:N[i]?=some x)(b:N[j]?=some x):i=j:=by
 obtain⟨h1,e1⟩:=cB.mp a;obtain⟨h2,e2⟩:=cB.mp b;exact(List.getElem_inj hN).mp (e1.trans e2.symm)
theorem nS{M:Model}{A:Around}{E:Zc}{i:Nat}{x:Str}{v:V}{u:Value}{Q:Unit->Shared->Prop}(I:Inv X J0 σ H s)(hN:X.N.Nodup)(hi:X.N[i]?=some x)(hx:Loc X.env.scope x)(r:RelV v u)
  (h:∀s',Inv X J0 (σ.set i (some v)) H s'->(∃a,fZ a s.heap s'.heap/\(a=X.env.locals∨X.env.cells.lookup x=some a))->Q () s') (hf:X.fn x=true∨X.env.scope.names.lookup x=some .local:=by first|exact .inl rfl|exact .inr rfl|assumption):wpAny M A (storeName X.env x u) Q E s:=by
 obtain⟨m,hn,hl⟩:=id I.loc;have hcls:(X.env.scope.kind==.class || (X.env.scope.kind==.module && X.env.locals != X.env.globals))=false:=by rw[I.ok.kind];rfl
 have hiσ:i<σ.length:=by rw[I.len];exact(cB.mp hi).1
 have cne:=I.cne;have tracked:∀{a:Addr}{h':Heap},(∃o,s.heap.get? a=some o/\H a=none)->fZ a s.heap h'->iV X.prog X.w X.K H h':=fun{a h'} ha hs b ob e=>by
  obtain⟨_,_,hfree⟩:=ha;refine(I.hok b ob e).stay (fun c w' hc q=>(hs.2 c ?_).trans q) (fun _ q=>q) fun _ _ q=>q;rintro rfl;rcases hc with rfl|hc
  ·rw[hfree]at e;cases e
  ·rw[hfree]at hc;cases hc
 rcases hx with hk|hk
 ·refine wpAny_storeName_local hk hn (fun h' hn' hs=>?_) hcls;obtain⟨oL,_,_,hoL,_⟩:=id hn;refine h _ ⟨I.ok,I.os,I.bare,⟨fun b o e n hb hx=>?_,fun b o e n hb hx=>?_,I.base.free,fun b o e hx=>?_,I.base.tups,I.base.frzs,I.base.tbls⟩,⟨_,hn',fun j y v' e1 e2 e3=>?_⟩,fun y c e=>?_,I.free,I.freeC,fun p hp=>?_,tracked ⟨oL,hoL,I.free⟩ hs,by simpa using I.len⟩ ⟨_,hs,.inl rfl⟩
  ·exact(hs.2 b (bS (fe (aG e) I.ok.above))).trans (I.base.keep b o e n hb hx)
  ·obtain⟨sl,e1⟩:=I.base.slot b o e n hb hx;exact⟨sl,(hs.2 b (bS (fe (aG e) I.ok.above))).trans e1⟩
  ·obtain⟨o',e1⟩:=I.base.there b o e hx;exact⟨o',(hs.2 b (bS (fe (aG e) I.ok.above))).trans e1⟩
  ·by_cases hj:j=i
   ·subst hj;rw[hi]at e1;cases e1;rw[List.getElem?_set_self hiσ]at e2;cases e2;exact⟨u,r,.inl ⟨hk,by simp⟩⟩
   ·rw[tO (e_ hj)]at e2;obtain⟨u',r',q⟩:=hl j y v' e1 e2 e3;refine⟨u',r',?_⟩;rcases q with⟨k,e⟩|⟨k,c,e,z⟩
    ·refine .inl ⟨k,?_⟩;have:y≠x:=fun e=>hj (qY hN e1 (e▸hi));simp[this,e]
    ·exact .inr ⟨k,c,e,z.sameBut hs (cne y c e)⟩
  ·obtain⟨w',z⟩:=I.cell y c e;exact⟨w',z.sameBut hs (cne y c e)⟩
  ·obtain⟨e,n,ne,nf,d⟩:=I.pin p hp;exact⟨(hs.2 p.1 ne).trans e,n,ne,nf,d⟩
 ·have hfn:X.fn x=true:=by
   rcases hf with z|z
   ·exact z
   ·rw[z]at hk;cases hk
  obtain⟨c,hc⟩:=I.ok.has x (.inl hk);obtain⟨w',z⟩:=I.cell x c hc;refine wpAny_storeName_cell I.ok.kind hk hc z (fun h' hc' hs=>?_);obtain⟨oc,hoc,hocd⟩:=id z;refine h { s with heap:=h' } ⟨I.ok,I.os,I.bare,⟨fun b o e n hb hx=>?_,fun b o e n hb hx=>?_,I.base.free,fun b o e hx=>?_,I.base.tups,I.base.frzs,I.base.tbls⟩,⟨m,hn.sameBut hs (e_ (cne x c hc)),fun j y v' e1 e2 e3=>?_⟩,fun y c' e=>?_,I.free,I.freeC,fun p hp=>?_,tracked ⟨oc,hoc,I.freeC x c hc⟩ hs,by simpa using I.len⟩ ⟨c,hs,.inr hc⟩
  ·exact(hs.2 b (bS (fe (aG e) (I.ok.cab x c hfn hc)))).trans (I.base.keep b o e n hb hx)
  ·obtain⟨sl,e1⟩:=I.base.slot b o e n hb hx;exact⟨sl,(hs.2 b (bS (fe (aG e) (I.ok.cab x c hfn hc)))).trans e1⟩
  ·obtain⟨o',e1⟩:=I.base.there b o e hx;exact⟨o',(hs.2 b (bS (fe (aG e) (I.ok.cab x c hfn hc)))).trans e1⟩
  ·by_cases hj:j=i
   ·subst hj;rw[hi]at e1;cases e1;rw[List.getElem?_set_self hiσ]at e2;cases e2;exact⟨u,r,.inr ⟨.inl hk,c,hc,hc'⟩⟩
   ·rw[tO (e_ hj)]at e2;obtain⟨u',r',q⟩:=hl j y v' e1 e2 e3;refine⟨u',r',?_⟩;rcases q with q|⟨k,c',e,z'⟩
    ·exact .inl q
    ·refine .inr ⟨k,c',e,z'.sameBut hs ?_⟩;rintro rfl;exact hj (qY hN e1 (I.ok.inj _ _ _ e hc▸hi))
  ·by_cases hcc:c'=c
   ·subst hcc;exact⟨_,hc'⟩
   ·obtain⟨w2,z2⟩:=I.cell y c' e;exact⟨w2,z2.sameBut hs hcc⟩
  ·obtain⟨e,n,ne,nf,d⟩:=I.pin p hp;refine⟨(hs.2 p.1 ?_).trans e,n,ne,nf,d⟩;intro q;rw[q,hoc]at e;have q':oc=p.2:=cT e;exact d w' (by rw[<-q'];exact hocd)
theorem qK{M:Model}{A:Around}{E:Zc}{i:Nat}{x:Str}{v:V}{u:Value}{Q:Unit->Shared->Prop}(I:Inv X J0 σ H s)(hN:X.N.Nodup)(hi:X.N[i]?=some x)(hx:Loc X.env.scope x)(r:RelV v u)
  (h:∀s',Inv X J0 (σ.set i (some v)) H s'->Q () s') (hf:X.fn x=true∨X.env.scope.names.lookup x=some .local:=by first|exact .inl rfl|exact .inr rfl|assumption):wpAny M A (storeName X.env x u) Q E s :=
 nS I hN hi hx r (fun s' I' _=>h s' I') hf
theorem Inv.call'{s':Shared}{ch:Ze}(I:Inv X J0 σ H s)(ho:s'.os=s.os)(u:Un (vB X.stack) ch H H' s.heap s'.heap)(hok:iV X.prog X.w X.K H' s'.heap)(hg:jy s'.gens)
  (hch:∀b∈ch,(b∈X.ex∨X.s₀.heap.objs.size<=b)/\b≠X.env.locals/\(∀x c,X.env.cells.lookup x=some c->c≠b)/\∀p∈X.pn++J0,p.1≠b):Inv X J0 σ H' s':=by
 obtain⟨h',g',d',t',o'⟩:=s';have e:o'=s.os:=ho;subst e;exact I.call (g':=g') (t':=t') (d':=d') u hok hg hch
end
abbrev XK:=Value->Option Addr->Hp->Prop
abbrev St:=List (Option V)
abbrev VK:=V->Hp->Prop
abbrev TE:=St->Hp->VK->Prop
abbrev TT:=St->Hp->(Bool->Hp->Prop)->Prop
abbrev TA:=St->Hp->(List V->Hp->Prop)->Prop
structure jt where
 nx:St->Hp->Prop
 rt:VK
 bk:St->Hp->Prop:=fun _ _=>False
 ct:St->Hp->Prop:=fun _ _=>False
abbrev cp(Q:VK):jt:={ nx:=fun _ H=>Q .non H,rt:=Q }
abbrev TS:=jt->St->Hp->Prop
def EP(X:Cx)(J0:Zd)(σ:St)(Q:VK)(u:Value)(s':Shared):Prop:=∃v H',Inv X J0 σ H' s'/\RelV v u/\Q v H'
def TP(X:Cx)(J0:Zd)(σ:St)(Q:Bool->Hp->Prop)(b:Bool)(s':Shared):Prop:=∃H',Inv X J0 σ H' s'/\Q b H'
def AP(X:Cx)(J0:Zd)(σ:St)(Q:List V->Hp->Prop)(us:Zf)(s':Shared):Prop:=∃vs H',Inv X J0 σ H' s'/\aH vs us/\Q vs H'
def SP(X:Cx)(J0:Zd)(D:jt)(f:Flow)(s':Shared):Prop :=
 match f with
 |.next=>∃σ' H',Inv X J0 σ' H' s'/\D.nx σ' H'
 |.brk=>∃σ' H',Inv X J0 σ' H' s'/\D.bk σ' H'
 |.cont=>∃σ' H',Inv X J0 σ' H' s'/\D.ct σ' H'
 |.ret u=>∃v σ' H',Inv X J0 σ' H' s'/\RelV v u/\D.rt v H'
def PE(X:Cx)(e:Expr)(t:TE):Prop :=
 ∀(J0:Zd) (s:Shared) (σ:St) (H:Hp) (Q:VK),Inv X J0 σ H s->t σ H Q->wpAny (model X.prog X.w) X.A (eval e X.env) (EP X J0 σ Q) X.xe s
def PT(X:Cx)(e:Expr)(t:TT):Prop :=
 ∀(J0:Zd) (s:Shared) (σ:St) (H:Hp) (Q:Bool->Hp->Prop),Inv X J0 σ H s->t σ H Q->wpAny (model X.prog X.w) X.A (isTrue e X.env (eval e X.env)) (TP X J0 σ Q) X.xe s
def PW(X:Cx)(e:Expr)(t:TT):Prop :=
 ∀(whole:Sem Value) (J0:Zd) (s:Shared) (σ:St) (H:Hp) (Q:Bool->Hp->Prop),Inv X J0 σ H s->t σ H Q->wpAny (model X.prog X.w) X.A (isTrue e X.env whole) (TP X J0 σ Q) X.xe s
theorem PW.pt{X:Cx}{e:Expr}{t:TT}(h:PW X e t):PT X e t:=h _
def PA(X:Cx)(es:List Expr)(t:TA):Prop :=
 ∀(pos:Pos) (J0:Zd) (s:Shared) (σ:St) (H:Hp) (Q:List V->Hp->Prop),Inv X J0 σ H s->t σ H Q->wpAny (model X.prog X.w) X.A (spliced (backTo pos (ax es X.env))) (AP X J0 σ Q) X.xe s
def PS(X:Cx)(st:Stmt)(t:TS):Prop :=
 ∀(J0:Zd) (s:Shared) (σ:St) (H:Hp) (D:jt),Inv X J0 σ H s->t D σ H->wpAny (model X.prog X.w) X.A (exec st X.env) (SP X J0 D) X.xe s
def rN(X:Cx)(st:List Stmt)(t:TS):Prop :=
 ∀(J0:Zd) (s:Shared) (σ:St) (H:Hp) (D:jt),Inv X J0 σ H s->t D σ H->wpAny (model X.prog X.w) X.A (execs st X.env) (SP X J0 D) X.xe s
theorem bL{α:Type}{t:Sem α}{Q Q':α->Shared->Prop}{M:Model}{A:Around}{E:Zc}{s:Shared}(h:wpAny M A t Q E s)(hQ:∀a s,Q a s->Q' a s):wpAny M A t Q' E s:=fW h hQ fun _ _ x=>x
end L2
namespace L2
open PySem PySem.Spec PyProof.Rows
section
variable{X:Cx}
def iK(i:Nat):TE:=fun σ H Q=>∃v,σ[i]?=some (some v)/\Q v H
abbrev V0:TE:=iK 0
abbrev V1:TE:=iK 1
abbrev V2:TE:=iK 2
abbrev V3:TE:=iK 3
abbrev V4:TE:=iK 4
abbrev V5:TE:=iK 5
abbrev V6:TE:=iK 6
abbrev V7:TE:=iK 7
abbrev V8:TE:=iK 8
abbrev V9:TE:=iK 9
abbrev yO:TE:=iK 10
abbrev z0:TE:=iK 11
abbrev At:TE:=iK 12
def tC(v:V):TE:=fun _ H Q=>Q v H
theorem y_{i:Nat}{x:Str}{pos:Pos}(hN:X.N[i]?=some x)(hv:Vis X.env.scope x)(hd:(x==("__debug__":Str))=false:=by decide)(hcd:(x==("__classdict__":Str))=false:=by decide):PE X (.Name x pos) (iK i):=by
 intro J0 s σ H Q I h;obtain⟨v,e,h⟩:=h;obtain⟨m,hn,hl⟩:=I.loc;obtain⟨u,r,l⟩:=hl i x v hN e hv;have fin:EP X J0 σ Q u s:=⟨v,H,I,r,h⟩;rcases l with⟨hk,hm⟩|⟨hk,c,hc,hcell⟩
 ·exact wpAny_Name (wpAny_loadName_local I.ok.kind hk hn hm fin) hd
 ·rcases hk with hk|hk
  ·exact wpAny_Name (wpAny_loadName_cell I.ok.kind hk hc hcell fin) hd
  ·exact wpAny_Name (wpAny_loadName_free I.ok.kind hk hc hcell fin hcd) hd
theorem ah{i j pos}:PE X (.Constant (.int i) j pos) (tC (.int i)):=fun _ _ _ H _ I h=>wpAny_Constant_int ⟨.int i,H,I.tok _,⟨_,rfl⟩,h⟩
theorem dw{b j pos}:PE X (.Constant (.bool b) j pos) (tC (.bl b)):=fun _ _ _ H _ I h=>Constant_bool ⟨.bl b,H,I,rfl,h⟩
theorem ii{j pos}:PE X (.Constant .none j pos) (tC .non):=fun _ _ _ H _ I h=>Constant_none ⟨.non,H,I,rfl,h⟩
theorem cy{x j pos}:PE X (.Constant (.str x) j pos) (tC (.str x)):=fun _ _ _ H _ I h=>Calls.Constant_str ⟨.str x,H,I.tok _,⟨_,rfl⟩,h⟩
def Gl(X:Cx)(x:Str):Prop:=X.env.kindOf x=some .globalImplicit
theorem pD{E:Zc}{J0:Zd}{s:Shared}{σ:St}{H:Hp}{x:Str}{u:Value}{pos:Pos}{Q:Zc}(I:Inv X J0 σ H s)(hg:Gl X x)(hm:X.mg x=some u)(h:Q u s)
  (hd:(x==("__debug__":Str))=false:=by decide):wpAny (model X.prog X.w) X.A (eval (.Name x pos) X.env) Q E s :=
 Calls.Name_function_global I.ok.kind hg (Calls.loadGlobal_global (by rw[I.ok.glob];exact I.mod.glob.keeps I.bk) hm h) hd
theorem kn{E:Zc}{J0:Zd}{s:Shared}{σ:St}{H:Hp}{x:Str}{u:Value}{pos:Pos}{Q:Zc}(I:Inv X J0 σ H s)(hg:Gl X x)(hm:X.mg x=none)(hv:fI x=some u)(h:Q u s)
  (hn:x≠"__name__":=by decide) (hd:(x==("__debug__":Str))=false:=by decide):wpAny (model X.prog X.w) X.A (eval (.Name x pos) X.env) Q E s:=by
 obtain⟨mb,h1,h2⟩:=I.mod.blt;exact Calls.Name_function_global I.ok.kind hg (Calls.loadGlobal_builtin (by rw[I.ok.glob];exact I.mod.glob.keeps I.bk) hm (by rw[I.ok.blt];exact h1.keeps I.bk) ((h2 x hn).trans hv) h) hd
theorem xG{x:Str}{v:V}{u:Value}{pos:Pos}(hg:Gl X x)(hm:X.mg x=some u)(r:RelV v u)(hd:(x==("__debug__":Str))=false:=by decide):PE X (.Name x pos) (tC v) :=
 fun _ _ _ H _ I h=>pD I hg hm ⟨v,H,I,r,h⟩ hd
theorem jN{x:Str}{v:V}{u:Value}{pos:Pos}(hg:Gl X x)(hm:X.mg x=none)(hv:fI x=some u)(r:RelV v u)(hn:x≠"__name__":=by decide)(hd:(x==("__debug__":Str))=false:=by decide):PE X (.Name x pos) (tC v) :=
 fun _ _ _ H _ I h=>kn I hg hm hv ⟨v,H,I,r,h⟩ hn hd
variable{a b:Expr}{ta tb:TE}{pos:Pos}
def PC(X:Cx)(op:CmpOp)(a b:Expr)(t:TE):Prop :=
 ∀(J0:Zd) (s:Shared) (σ:St) (H:Hp) (Q:VK),Inv X J0 σ H s->t σ H Q ->
  wpAny (model X.prog X.w) X.A (eval a X.env) (fun v s₁=>wpAny (model X.prog X.w) X.A (eval b X.env) (fun u s₂=>wpAny (model X.prog X.w) X.A (c8 op v u) (EP X J0 σ Q) X.xe s₂) X.xe s₁) X.xe s
theorem qZ(b:Expr){op:CmpOp}(h:op≠.In)(h2:op≠.NotIn):gS op b=false:=by
 have e1:(op==CmpOp.In)=false:=by cases op<;>first|rfl|exact absurd rfl h
 have e2:(op==CmpOp.NotIn)=false:=by cases op<;>first|rfl|exact absurd rfl h2
 cases b<;>simp[gS,e1,e2]
def uP(ta:TE):TE:=fun σ H Q=>ta σ H fun x H1=>Q (.bl (decide (x=.non))) H1
def yn(ta:TE):TE:=fun σ H Q=>ta σ H fun x H1=>Q (.bl (!decide (x=.non))) H1
theorem RelV.none_iff{x:V}{v:Value}(r:RelV x v):(v==Value.none)=decide (x=.non):=by
 cases x with
 |non=>cases r;rfl
 |bl _=>cases r;rfl
 |int _=>obtain⟨t,rfl⟩:=r;rfl
 |str _=>obtain⟨t,rfl⟩:=r;rfl
 |byt _=>obtain⟨t,rfl⟩:=r;rfl
 |flt _=>obtain⟨t,rfl⟩:=r;rfl
 |ref _=>cases r;rfl
 |ty _=>cases r;rfl
theorem kh{j pos'}(ha:PE X a ta):PC X .Is a (.Constant .none j pos') (uP ta):=by
 intro J0 s σ H Q I h;refine bL (ha J0 s σ H _ I h) fun v s1 ⟨x,H1,I1,r1,q1⟩=>?_;exact Constant_none (is_none_gen ⟨.bl _,H1,I1,by rw[r1.none_iff];rfl,q1⟩)
theorem xJ{j pos'}(ha:PE X a ta):PC X .IsNot a (.Constant .none j pos') (yn ta):=by
 intro J0 s σ H Q I h;refine bL (ha J0 s σ H _ I h) fun v s1 ⟨x,H1,I1,r1,q1⟩=>?_;exact Constant_none (isnot_none_gen ⟨.bl _,H1,I1,by rw[r1.none_iff];rfl,q1⟩)
def tB(t:TE):TT:=fun σ H Q=>t σ H fun x H1=>∃c,x=.bl c/\Q c H1
theorem pi{op:CmpOp}{t:TE}(h:PC X op a b t)(h1:gS op b=false:=by first|exact qZ _ (by decide) (by decide)|rfl):PE X (.Compare a [op] [b] pos) t:=fun J0 s σ H Q I hw=>wpAny_Compare1 (h J0 s σ H Q I hw) h1
theorem fO{op:CmpOp}{t:TE}(h:PC X op a b t)(h1:gS op b=false:=by first|exact qZ _ (by decide) (by decide)|rfl):PT X (.Compare a [op] [b] pos) (tB t):=by
 intro J0 s σ H Q I hw;refine wpAny_isTrue_Compare1 (bL (h J0 s σ H _ I hw) fun v s1 h1=>bL h1 fun u s2 h2=>bL h2 fun c s3 ⟨x,H1,I1,r1,q1⟩=>?_) h1;obtain⟨d,rfl,q⟩:=q1;cases r1;exact lY ⟨H1,I1,q⟩
theorem bo{e:Expr}{t:TE}(h:PE X e t)(he:∀whole,isTrue e X.env whole=(do let v <- whole;kO e.pos;g8 [v] (truthy v)):=by intro _;rfl):PT X e (tB t):=by
 intro J0 s σ H Q I hw;refine isTrue_plain (bL (h J0 s σ H _ I hw) fun v s1 ⟨x,H1,I1,r1,q1⟩=>?_) (he _);obtain⟨d,rfl,q⟩:=q1;cases r1;exact lY ⟨H1,I1,q⟩
variable{tA tB':TT}{rest:List Expr}
def sh(t u:TT):TT:=fun σ H Q=>t σ H fun c H1=>if c=true then u σ H1 Q else Q false H1
def ym(t u:TT):TT:=fun σ H Q=>t σ H fun c H1=>if c=true then Q true H1 else u σ H1 Q
def ke(t:TT):TT:=fun σ H Q=>t σ H fun c H1=>Q (!c) H1
theorem gA(ha:PT X a tA):PW X (.BoolOp .And [a] pos) tA:=by
 intro wh J0 s σ H Q I h;refine isTrue_and (bL (ha J0 s σ H Q I h) fun c s1 e=>?_);cases c with
 |true=>exact isTrue_and_nil e
 |false=>exact e
theorem pd(ha:PT X a tA):PW X (.BoolOp .Or [a] pos) tA:=by
 intro wh J0 s σ H Q I h;refine isTrue_or (bL (ha J0 s σ H Q I h) fun c s1 e=>?_);cases c with
 |false=>exact isTrue_or_nil e
 |true=>exact e
theorem jd(ha:PT X a tA)(hb:PW X (.BoolOp .And (b::rest) pos) tB'):PW X (.BoolOp .And (a::b::rest) pos) (sh tA tB'):=by
 intro wh J0 s σ H Q I h;refine isTrue_and (bL (ha J0 s σ H _ I h) fun c s1 ⟨H1,I1,q1⟩=>?_);cases c with
 |true=>exact hb wh J0 s1 σ H1 Q I1 q1
 |false=>exact⟨H1,I1,q1⟩
theorem nX(ha:PT X a tA)(hb:PW X (.BoolOp .Or (b::rest) pos) tB'):PW X (.BoolOp .Or (a::b::rest) pos) (ym tA tB'):=by
 intro wh J0 s σ H Q I h;refine isTrue_or (bL (ha J0 s σ H _ I h) fun c s1 ⟨H1,I1,q1⟩=>?_);cases c with
 |true=>exact⟨H1,I1,q1⟩
 |false=>exact hb wh J0 s1 σ H1 Q I1 q1
theorem fq(ha:PT X a tA):PT X (.UnaryOp .Not a pos) (ke tA):=by
 intro J0 s σ H Q I h;exact isTrue_not (ha J0 s σ H (fun c H1=>Q (!c) H1) I h)
def gV(ta tb:TE):TE:=fun σ H Q=>ta σ H fun x H1=>∃c,x=.bl c/\if c=true then tb σ H1 Q else Q (.bl false) H1
def tU(ta:TE):TE:=fun σ H Q=>ta σ H fun x H1=>∃c,x=.bl c/\Q (.bl (!c)) H1
theorem fQ{op}{t:TE}(h:PE X a t):PE X (.BoolOp op [a] pos) t:=fun J0 s σ H Q I hw=>BoolOp_one (h J0 s σ H Q I hw)
theorem dz(ha:PE X a ta)(hb:PE X (.BoolOp .And (b::rest) pos) tb):PE X (.BoolOp .And (a::b::rest) pos) (gV ta tb):=by
 intro J0 s σ H Q I h;refine BoolOp_and (bL (ha J0 s σ H _ I h) fun v s1 ⟨x,H1,I1,r1,q1⟩=>?_);obtain⟨c,rfl,q1⟩:=q1;cases r1;refine lY ?_;cases c with
 |true=>exact hb J0 s1 σ H1 Q I1 q1
 |false=>exact⟨.bl false,H1,I1,rfl,q1⟩
theorem sB(ha:PE X a ta):PE X (.UnaryOp .Not a pos) (tU ta):=by
 intro J0 s σ H Q I h;refine UnaryOp_ (bL (ha J0 s σ H _ I h) fun v s1 ⟨x,H1,I1,r1,q1⟩=>?_);obtain⟨c,rfl,q1⟩:=q1;cases r1;exact not_of (lY ⟨.bl (!c),H1,I1,rfl,q1⟩)
end
end L2
namespace L2
open PySem PySem.Spec PyProof.Rows
def aB(K:Za)(H:Hp)(a:Addr)(xs:List V):Prop :=
 Rd H a (.lst xs) ∨
  ∃(o:Obj) (its:Array Value) (n:Nat),K.lookup a=some o/\o.cls=.type "list"/\o.dict=none/\o.data=.seq its n/\its.size<=am/\aH xs its.toList
def bM(K:Za)(H:Hp)(a:Addr)(xs:List V):Prop :=
 Rd H a (.tup xs) ∨
  ∃(o:Obj) (its:Array Value) (n:Nat),K.lookup a=some o/\o.cls=.type "tuple"/\o.data=.seq its n/\its.size<=am/\aH xs its.toList
def absV:Value->Option V
 |.none=>some .non
 |.bool b=>some (.bl b)
 |.int i _=>some (.int i)
 |.str x _=>some (.str x)
 |.bytes b _=>some (.byt b)
 |.float b _=>some (.flt b)
 |.ref a=>some (.ref a)
 |.type n=>some (.ty n)
 |_=>none
theorem RelV.abs{x:V}{u:Value}(r:RelV x u):absV u=some x:=by
 cases x with
 |non=>cases r;rfl
 |bl _=>cases r;rfl
 |int _=>obtain⟨t,rfl⟩:=r;rfl
 |str _=>obtain⟨t,rfl⟩:=r;rfl
 |byt _=>obtain⟨t,rfl⟩:=r;rfl
 |flt _=>obtain⟨t,rfl⟩:=r;rfl
 |ref _=>cases r;rfl
 |ty _=>cases r;rfl
theorem RelV.inj{x y:V}{u:Value}(r:RelV x u)(q:RelV y u):x=y:=cT (r.abs.symm.trans q.abs)
theorem aH.inj:∀{xs ys:List V}{us:Zf},aH xs us->aH ys us->xs=ys
 |_,_,_,.nil,.nil=>rfl
 |_,_,_,.cons r t,.cons r' t'=>by rw[r.inj r',aH.inj t t']
section
variable{X:Cx}{J0:Zd}{σ:St}{H:Hp}{s:Shared}{a:Addr}{xs ys:List V}
theorem aB.of{K:Za}(h:H a=some (.lst xs)):aB K H a xs:=.inl (.inl h)
theorem bM.of{K:Za}(h:H a=some (.tup xs)):bM K H a xs:=.inl (.inl h)
theorem Inv.list(I:Inv X J0 σ H s)(h:aB X.K H a xs):∃its:List Value,aH xs its/\PlainL s.heap a its.toArray/\xs.length<=am:=by
 rcases h with h|⟨o,its,n,hk,hc,hd,hs,hz,r⟩
 ·obtain⟨z,its,n,r,e⟩:=h.ok I.hok;exact⟨its,r,⟨_,n,e,rfl,rfl,rfl⟩,z⟩
 ·refine⟨its.toList,r,⟨o,n,I.kIn a o hk,hc,hd,by simpa using hs⟩,?_⟩;have e:=r.length;simp only[kN]at e;omega
theorem Inv.tuple(I:Inv X J0 σ H s)(h:bM X.K H a xs):∃its:List Value,aH xs its/\IsTup s.heap a its.toArray/\xs.length<=am:=by
 rcases h with h|⟨o,its,n,hk,hc,hs,hz,r⟩
 ·obtain⟨z,its,r,p⟩:=h.ok I.hok;exact⟨its,r,p,z⟩
 ·refine⟨its.toList,r,⟨o,I.kIn a o hk,hc,n,by simpa using hs⟩,?_⟩;have e:=r.length;simp only[kN]at e;omega
theorem Inv.list_inj(I:Inv X J0 σ H s)(h:aB X.K H a xs)(h':aB X.K H a ys):xs=ys:=by
 obtain⟨its,r,⟨o,n,e,_,_,d⟩,_⟩:=I.list h;obtain⟨its',r',⟨o',n',e',_,_,d'⟩,_⟩:=I.list h';rw[e]at e';cases e';rw[d]at d';injection d' with d1 _;have:its=its':=by simpa using congrArg Array.toList d1
 subst this;exact r.inj r'
theorem Inv.tuple_inj(I:Inv X J0 σ H s)(h:bM X.K H a xs)(h':bM X.K H a ys):xs=ys:=by
 obtain⟨its,r,⟨o,e,_,n,d⟩,_⟩:=I.tuple h;obtain⟨its',r',⟨o',e',_,n',d'⟩,_⟩:=I.tuple h';rw[e]at e';cases e';rw[d]at d';injection d' with d1 _;have:its=its':=by simpa using congrArg Array.toList d1
 subst this;exact r.inj r'
end
abbrev Cx.wish(X:Cx)(E:Zc):Cx:={ X with xe:=E }
abbrev Cx.nox(X:Cx):Cx:=X.wish fun _ _=>False
theorem Cx.Ok.wish{X:Cx}(ok:X.Ok)(E:Zc):(X.wish E).Ok :=
 ⟨ok.mod,ok.kind,ok.glob,ok.blt,ok.above,ok.inj,ok.has,ok.cab,ok.hd,ok.frames,ok.stk,ok.exf,ok.bs,ok.bsz,ok.noex,ok.exfs,ok.funs,ok.frf⟩
theorem Cx.Ok.unwish{X:Cx}{E:Zc}(ok:(X.wish E).Ok):X.Ok :=
 ⟨ok.mod,ok.kind,ok.glob,ok.blt,ok.above,ok.inj,ok.has,ok.cab,ok.hd,ok.frames,ok.stk,ok.exf,ok.bs,ok.bsz,ok.noex,ok.exfs,ok.funs,ok.frf⟩
section
variable{X:Cx}{J0:Zd}{σ:St}{H:Hp}{s:Shared}{E:Zc}
theorem Inv.wish(I:Inv X J0 σ H s)(E:Zc):Inv (X.wish E) J0 σ H s:=⟨I.ok.wish E,I.os,I.bare,I.base,I.loc,I.cell,I.free,I.freeC,I.pin,I.hok,I.len⟩
theorem Inv.unwish(I:Inv (X.wish E) J0 σ H s):Inv X J0 σ H s:=⟨I.ok.unwish,I.os,I.bare,I.base,I.loc,I.cell,I.free,I.freeC,I.pin,I.hok,I.len⟩
theorem SP.unwish{D:jt}{f:Flow}{s':Shared}(h:SP (X.wish E) J0 D f s'):SP X J0 D f s':=by
 cases f with
 |next=>obtain⟨σ',H',I,q⟩:=h;exact⟨σ',H',I.unwish,q⟩
 |brk=>obtain⟨σ',H',I,q⟩:=h;exact⟨σ',H',I.unwish,q⟩
 |cont=>obtain⟨σ',H',I,q⟩:=h;exact⟨σ',H',I.unwish,q⟩
 |ret u=>obtain⟨v,σ',H',I,r,q⟩:=h;exact⟨v,σ',H',I.unwish,r,q⟩
theorem rN.nox{st:List Stmt}{t:TS}(h:rN X.nox st t):rN X st t:=fun J0 s σ H D I hw =>
 fW (h J0 s σ H D (I.wish _) hw) (fun _ _ q=>q.unwish) fun _ _ z=>fV z
end
section
variable{X:Cx}{st:Stmt}{rest:List Stmt}{t u:TS}{e:Expr}{te:TE}{pos:Pos}
def bp:TS:=fun D σ H=>D.nx σ H
def au(t u:TS):TS:=fun D σ H=>t { D with nx:=u D } σ H
theorem aD:rN X [] bp:=fun _ _ σ H _ I h=>tN ⟨σ,H,I,h⟩
theorem ac(h1:PS X st t)(h2:rN X rest u):rN X (st::rest) (au t u):=by
 intro J0 s σ H D I h;refine wpAny_execs_cons (bL (h1 J0 s σ H { D with nx:=u D } I h) fun f s1 q=>?_);cases f with
 |next =>
  obtain⟨σ',H',I',q⟩:=q;exact h2 J0 s1 σ' H' D I' q
 |ret v=>exact q
 |brk=>exact q
 |cont=>exact q
theorem ae(h1:PS X st t):rN X [st] t:=by
 intro J0 s σ H D I h;refine wpAny_execs_cons (bL (h1 J0 s σ H D I h) fun f s1 q=>?_);cases f with
 |next=>exact tN q
 |ret v=>exact q
 |brk=>exact q
 |cont=>exact q
theorem Inv.quiet{J0:Zd}{σ:St}{H:Hp}{s:Shared}(I:Inv X J0 σ H s):interactive X.env=false:=by simp[interactive,I.ok.kind]
def b0(te:TE):TS:=fun D σ H=>te σ H fun _ H1=>D.nx σ H1
theorem bq(he:PE X e te)(hs:lS e none pos.line X.env=pure false:=by rfl):PS X (.Expr e pos) (b0 te):=by
 intro J0 s σ H D I h;exact wpAny_Expr_any (bL (he J0 s σ H _ I h) fun v s1 ⟨x,H1,I1,r1,q1⟩=>⟨σ,H1,I1,q1⟩) I.quiet hs
def ba(te:TE):TS:=fun D σ H=>te σ H D.rt
theorem ar(he:PE X e te):PS X (.Return (some e) pos) (ba te):=by
 intro J0 s σ H D I h;exact wpAny_Return_some (bL (he J0 s σ H _ I h) fun v s1 ⟨x,H1,I1,r1,q1⟩=>⟨x,σ,H1,I1,r1,q1⟩)
def bX(c:TT)(t u:TS):TS:=fun D σ H=>c σ H fun b H1=>if b=true then t D σ H1 else u D σ H1
theorem aP{c:Expr}{a b:List Stmt}{tc:TT}(hc:PT X c tc)(ha:rN X a t)(hb:rN X b u):PS X (.If c a b pos) (bX tc t u):=by
 intro J0 s σ H D I h;refine wpAny_If (bL (hc J0 s σ H _ I h) fun d s1 ⟨H1,I1,q1⟩=>?_);cases d with
 |true=>exact ha J0 s1 σ H1 D I1 q1
 |false=>exact hb J0 s1 σ H1 D I1 q1
def vL:TS:=fun _ _ _=>False
theorem v2:PS X st vL:=fun _ _ _ _ _ _ h=>h.elim
end
abbrev TG:=V->St->Hp->(St->Hp->Prop)->Prop
abbrev sW:=List V->St->Hp->(St->Hp->Prop)->Prop
def PG(X:Cx)(target:Expr)(t:TG):Prop :=
 ∀(J0:Zd) (s:Shared) (σ:St) (H:Hp) (v:V) (u:Value) (Q:St->Hp->Prop),Inv X J0 σ H s->RelV v u->t v σ H Q ->
  wpAny (model X.prog X.w) X.A (assign target X.env u) (fun _ s'=>∃σ' H',Inv X J0 σ' H' s'/\Q σ' H') X.xe s
def Au(X:Cx)(ts:List Expr)(t:sW):Prop :=
 ∀(J0:Zd) (s:Shared) (σ:St) (H:Hp) (vs:List V) (us:Zf) (Q:St->Hp->Prop),Inv X J0 σ H s->aH vs us->t vs σ H Q ->
  wpAny (model X.prog X.w) X.A (assignInOrder ((nK ts X.env).map (·.2)) us) (fun _ s'=>∃σ' H',Inv X J0 σ' H' s'/\Q σ' H') X.xe s
abbrev zu:=V->V->V->Hp->(Hp->Prop)->Prop
def z6(X:Cx)(t:zu):Prop :=
 ∀(J0:Zd) (s:Shared) (σ:St) (H:Hp) (o i v:V) (ov iv u:Value) (Q:Hp->Prop),Inv X J0 σ H s->RelV o ov->RelV i iv->RelV v u->t o i v H Q ->
  wpAny (model X.prog X.w) X.A (setItem ov iv u) (fun _ s'=>∃H',Inv X J0 σ H' s'/\Q H') X.xe s
section
variable{X:Cx}{pos:Pos}
def b_(i:Nat):TG:=fun v σ H Q=>Q (σ.set i (some v)) H
abbrev U0:TG:=b_ 0
abbrev U1:TG:=b_ 1
abbrev U2:TG:=b_ 2
abbrev U3:TG:=b_ 3
abbrev U4:TG:=b_ 4
abbrev U5:TG:=b_ 5
abbrev U6:TG:=b_ 6
abbrev U7:TG:=b_ 7
abbrev U8:TG:=b_ 8
abbrev U9:TG:=b_ 9
abbrev U10:TG:=b_ 10
abbrev U11:TG:=b_ 11
abbrev U12:TG:=b_ 12
theorem t6{i:Nat}{x:Str}(hN:X.N.Nodup)(hi:X.N[i]?=some x)(hx:Loc X.env.scope x)(hf:X.fn x=true∨X.env.scope.names.lookup x=some .local:=by first|exact .inl rfl|exact .inr rfl|assumption):PG X (.Name x pos) (b_ i):=by
 intro J0 s σ H v u Q I r h;exact wpAny_assign_Name (qK I hN hi hx r (fun s' I'=>⟨_,H,I',h⟩) hf)
def jS:sW:=fun vs σ H Q=>vs=[]/\Q σ H
def cu(t:TG)(u:sW):sW:=fun vs σ H Q=>∃v r,vs=v::r/\t v σ H fun σ' H'=>u r σ' H' Q
theorem dY:Au X [] jS:=by
 intro J0 s σ H vs us Q I r h;obtain⟨e,h⟩:=h;subst e;cases r;exact assignInOrder_nil ⟨σ,H,I,h⟩
theorem aQ{e:Expr}{es:List Expr}{t:TG}{u:sW}(h1:PG X e t)(h2:Au X es u)
  (hs:(nK (e::es) X.env).map (·.2)=assign e X.env::(nK es X.env).map (·.2):=by rfl):Au X (e::es) (cu t u):=by
 intro J0 s σ H vs us Q I r h;obtain⟨v,vr,e1,h⟩:=h;subst e1;cases r with
 |cons r rr =>
  rw[hs];refine assignInOrder_cons (bL (h1 J0 s σ H _ _ _ I r h) fun _ s1 ⟨σ1,H1,I1,q1⟩=>?_);exact h2 J0 s1 σ1 H1 _ _ Q I1 rr q1
def kq(K:Za)(n:Nat)(t:sW):TG:=fun v σ H Q=>∃a xs,v=.ref a/\bM K H a xs/\xs.length=n/\t xs σ H Q
theorem fP{es:List Expr}{k:Nat}{t:sW}{n:Nat}(hc:X.calm=true)(h:Au X es t)
  (hn:(nK es X.env).length=n:=by rfl) (hst:(nK es X.env).findIdx? (·.1)=none:=by rfl):PG X (.Tuple es k pos) (kq X.K n t):=by
 intro J0 s σ H v u Q I r hw;obtain⟨a,xs,e1,hq,hl,hw⟩:=hw;subst e1;cases r;obtain⟨its,rv,ht,hz⟩:=I.tuple hq;refine assign_Tuple_tuple (I.ok.hd hc) ht (by simp[hn,<-hl,rv.length]) hst fun h' hx=>?_;have I1:Inv X J0 σ H { s with heap:=h' }:=I.kept (t':=s.toks) fun b o e=>hx b o (bS (aG e)) e;exact h J0 _ σ H xs _ Q I1 (by simpa using rv) hw
def mK(to ti:TE)(t:zu):TG:=fun v σ H Q=>to σ H fun o H1=>ti σ H1 fun i H2=>t o i v H2 fun H3=>Q σ H3
theorem gD{o i:Expr}{to ti:TE}{t:zu}(ho:PE X o to)(hi:PE X i ti)(hs:z6 X t)
  (ha:∀v,assign (.Subscript o i pos) X.env v=(do
   let ov <- g8 [v] (eval o X.env)
   let iv <- g8 [v,ov] (eval i X.env)
   kO pos
   g8 [v,ov,iv] (setItem ov iv v)
   release [v,ov,iv] []):=by intro _;rfl):PG X (.Subscript o i pos) (mK to ti t):=by
 intro J0 s σ H v u Q I r h;rw[ha];refine aq (l_ (bL (ho J0 s σ H _ I h) fun ov s1 ⟨x,H1,I1,r1,q1⟩=>?_));refine aq (l_ (bL (hi J0 s1 σ H1 _ I1 q1) fun iv s2 ⟨y,H2,I2,r2,q2⟩=>?_));refine aq (wpAny_standAt (aq (l_ (bL (hs J0 s2 σ H2 x y v ov iv u _ I2 r1 r2 r q2) fun _ s3 ⟨H3,I3,q3⟩=>?_))));exact wpAny_release ⟨σ,H3,I3,q3⟩
def aM(te:TE)(g:TG):TS:=fun D σ H=>te σ H fun x H1=>g x σ H1 D.nx
theorem gB{tg e:Expr}{te:TE}{g:TG}(he:PE X e te)(hg:PG X tg g)(hs:swapsWithSole [tg] e pos.line X.env=pure false:=by rfl)(hw:swappedStores [tg] e X.env=pure none:=by rfl)
  (h1:(nK [tg] X.env).map (·.2)=[assign tg X.env]:=by rfl):PS X (.Assign [tg] e pos) (aM te g):=by
 intro J0 s σ H D I h;refine wpAny_Assign_stores (bL (he J0 s σ H _ I h) fun v s1 ⟨x,H1,I1,r1,q1⟩=>?_) hs hw;rw[h1];exact bL (hg J0 s1 σ H1 x v _ I1 r1 q1) fun _ s2 q=>q
theorem y6{i:Nat}{x:Str}{e:Expr}{te:TE}{pos':Pos}(hN:X.N.Nodup)(hi:X.N[i]?=some x)(hx:Loc X.env.scope x)(he:PE X e te)(hs:lS e (some (.Name x pos')) pos.line X.env=pure false:=by rfl)(hf:X.fn x=true∨X.env.scope.names.lookup x=some .local:=by first|exact .inl rfl|exact .inr rfl|assumption):
  PS X (.Assign [.Name x pos'] e pos) (aM te (b_ i)):=by
 intro J0 s σ H D I h;refine wpAny_Assign_Name (bL (he J0 s σ H _ I h) fun v s1 ⟨y,H1,I1,r1,q1⟩=>?_) hs;exact qK I1 hN hi hx r1 (fun s2 I2=>⟨_,H1,I2,q1⟩) hf
end
section
variable{X:Cx}{pos:Pos}
def vK(c:TT)(tb:TS):TS:=fun D σ H=>∃W:Nat->St->Hp->Prop,(∃m,W m σ H)/\∀m σ H,W m σ H ->
 c σ H fun b H1=>if b=true then ∃N:St->Hp->Prop,(∀σ' H',N σ' H'->∃m',m'<m/\W m' σ' H')/\tb { D with nx:=N,ct:=N,bk:=D.nx } σ H1 else D.nx σ H1
theorem vZ{c:Expr}{body:List Stmt}{tc:TT}{tb:TS}(hp:PassesOwn (model X.prog X.w) X.A X.env X.xe)(hc:PT X c tc)(hb:rN X body tb):PS X (.While c body [] pos) (vK tc tb):=by
 intro J0 s σ H D I h;obtain⟨W,⟨m0,w0⟩,turn⟩:=h;refine wpAny_While (codeAny_whileLoop (fun n s'=>∃σ' H',Inv X J0 σ' H' s'/\W n σ' H') ?_ m0 ⟨σ,H,I,w0⟩);rintro n s1 ⟨σ1,H1,I1,w1⟩;refine lR hp (bL (hc J0 s1 σ1 H1 _ I1 (turn n σ1 H1 w1)) fun b s2 ⟨H2,I2,q2⟩=>?_);cases b with
 |true =>
  obtain⟨N,hN,q2⟩:=q2;rw[if_pos rfl];refine lR hp (bL (hb J0 s2 σ1 H2 _ I2 q2) fun f s3 q3=>?_);cases f with
  |next =>
   obtain⟨σ3,H3,I3,n3⟩:=q3;obtain⟨m',hm,w3⟩:=hN σ3 H3 n3;exact⟨m',hm,σ3,H3,I3,w3⟩
  |cont =>
   obtain⟨σ3,H3,I3,n3⟩:=q3;obtain⟨m',hm,w3⟩:=hN σ3 H3 n3;exact⟨m',hm,σ3,H3,I3,w3⟩
  |brk=>exact q3
  |ret v=>exact q3
 |false =>
  rw[if_neg fX];exact tN ⟨σ1,H2,I2,q2⟩
end
structure It where
 go:Nat->Hp->Prop
 yld:Nat->Hp->V->Hp->Prop
 stop:Nat->Hp->Prop
def js(X:Cx)(J0:Zd)(H:Hp)(b:Addr):Prop :=
 H b=none/\b≠X.env.locals/\b∉X.fs/\(b∈X.ex∨X.s₀.heap.objs.size<=b)/\(∀x c,X.env.cells.lookup x=some c->c≠b)/\∀p∈X.pn++J0,p.1≠b
theorem Inv.fpOk{X:Cx}{J0:Zd}{σ:St}{H H':Hp}{s:Shared}{b:Addr}(I:Inv X J0 σ H s)(hb:s.heap.objs.size<=b)(hn:H' b=none):js X J0 H' b:=by
 refine⟨hn,eF (fe I.lt hb),I.nofs hb,.inr (cn I.sz hb),fun x c e z=>?_,fun p hp z=>?_⟩
 ·obtain⟨v,q⟩:=I.cell x c e;exact absurd (fe q.lt (by rw[z];exact hb)) (kP _)
 ·exact absurd (fe (aG (I.pin p hp).1) (by rw[z];exact hb)) (kP _)
structure nD(P:bh)(w:World)(K:Za)(tg:Expr)(J:It)(fp:Ze)(it:Addr)(tn:Nat->Heap->Prop):Prop where
 mem:it∈fp
 obj:∀i h,tn i h->∀b∈fp,∃o,h.get? b=some o/\∀v,o.data≠.cell v
 keep:∀i h h',tn i h->(∀b∈fp,∀o,h.get? b=some o->h'.get? b=some o)->tn i h'
 item:∀(X:Cx),X.prog=P->X.w=w->X.K=K->X.calm=true->∀(i:Nat) (J0:Zd) (s:Shared) (σ:St) (H:Hp) (E:Zc),Inv X J0 σ H s->(∀b∈fp,js X J0 H b)->tn i s.heap->J.go i H ->
  wpAny (model P w) X.A (pyNext (.ref it)) (fun r s1=>∃u,r=some u /\
   wpAny (model P w) X.A (tM tg (.ref it) u) (fun _ s2=>∃x H',Inv X J0 σ H' s2/\RelV x u/\J.yld i H x H'/\tn (i+1) s2.heap/\∀b∈fp,H' b=none) E s1) E s
 done:∀(X:Cx),X.prog=P->X.w=w->X.K=K->X.calm=true->∀(i:Nat) (J0:Zd) (s:Shared) (σ:St) (H:Hp) (E:Zc),Inv X J0 σ H s->(∀b∈fp,js X J0 H b)->tn i s.heap->J.stop i H ->
  wpAny (model P w) X.A (pyNext (.ref it)) (fun r s1=>r=none/\Inv X J0 σ H s1) E s
 self:∀(A:Around) (i:Nat) (s:Shared) (Q:Zc) (E:Zc),tn i s.heap->Q (.ref it) s->wpAny (model P w) A (pyIter (.ref it)) Q E s
abbrev TI:=St->Hp->(It->Hp->Prop)->Prop
def PIE(X:Cx)(J0:Zd)(σ:St)(tg:Expr)(R:It->Hp->Prop)(itv:Value)(s2:Shared):Prop :=
 ∃(it:Addr) (fp:Ze) (tn:Nat->Heap->Prop) (J:It) (H':Hp),itv=.ref it/\Inv X J0 σ H' s2/\nD X.prog X.w X.K tg J fp it tn/\tn 0 s2.heap/\(∀b∈fp,js X J0 H' b)/\R J H'
def PI(X:Cx)(tg iter:Expr)(wi:TI):Prop :=
 ∀(J0:Zd) (s:Shared) (σ:St) (H:Hp) (R:It->Hp->Prop),Inv X J0 σ H s->wi σ H R ->
  wpAny (model X.prog X.w) X.A (eval iter X.env) (fun v s1=>wpAny (model X.prog X.w) X.A (pyIter v) (PIE X J0 σ tg R) X.xe s1) X.xe s
theorem rf{M:Model}{A:Around}{E:Zc}{s:Shared}{tg:Expr}{it:Addr}{u:Value}{o:Obj}{n:String}{vs:Array Value}{Q:Unit->Shared->Prop}(ho:s.heap.get? it=some o)(hc:o.cls=.type n)(hd:o.data=.fields vs)
    (hn:["enumerate","zip","dict_itemiterator","dict_reverseitemiterator","odict_iterator","itertools.zip_longest","itertools.pairwise"].contains n=false) (hQ:Q () s):wpAny M A (tM tg (.ref it) u) Q E s:=by
  unfold tM;cases tg<;>first
    |exact aW hQ
    | (cases u <;> first
        |exact aW hQ
        | (refine aq (wpAny_load ho ?_)
           rw[hc,hd];show wpAny M A (if(["enumerate","zip","dict_itemiterator","dict_reverseitemiterator","odict_iterator","itertools.zip_longest","itertools.pairwise"].contains n && vs[0]?==some (rawInt _))=true then _ else _) Q E s
           rw[if_neg (by intro h;rw[hn,Bool.false_and]at h;cases h)];exact aW hQ))
def wR(K:Za)(a:Addr):It :=
 ⟨fun i H=>∃xs x,aB K H a xs/\xs[i]?=some x,fun i H x H'=>H'=H/\∀xs,aB K H a xs->xs[i]?=some x,fun i H=>∃xs,aB K H a xs/\xs.length<=i⟩
def zz(K:Za)(a:Addr):It :=
 ⟨fun i H=>∃xs x,bM K H a xs/\xs[i]?=some x,fun i H x H'=>H'=H/\∀xs,bM K H a xs->xs[i]?=some x,fun i H=>∃xs,bM K H a xs/\xs.length<=i⟩
def zA(lo:Int)(n:Nat):It:=⟨fun i _=>i<n,fun i H x H'=>H'=H/\x=.int (lo+i),fun i _=>n<=i⟩
theorem nO{P:bh}{w:World}{K:Za}{tg:Expr}(a it:Addr):nD P w K tg (wR K a) [it] it (fun i h=>h.IsListIter it a i) where
 mem:=by simp
 obj:=fun i h st b hb=>by
  have e:b=it:=by simpa using hb
  subst e;obtain⟨o,e,c,d⟩:=st;exact⟨o,e,fun v z=>by rw[d]at z;cases z⟩
 keep:=fun i h h' st k=>st.at fun o e=>k it (by simp) o e
 item:=by
  intro X hP hw hK hc i J0 s σ H E I hf st hg;subst hP hw hK;obtain⟨xs,x,hq,hx⟩:=hg;obtain⟨its,rv,p,hz⟩:=I.list hq;obtain⟨u,hu,ru⟩:=rv.get hx;obtain⟨f0,f1,f2,f3,f4,f5⟩:=hf it (by simp);refine wpAny_pyNext_list_item st p.isList (x:=u) (by simpa using hu) fun h' st' sb=>?_;have I1:Inv X J0 σ H { s with heap:=h' }:=I.turned (t':=s.toks) (fun b o hb e=>(sb.2 b hb).trans e) f0 f1 f3 f4 f5;obtain⟨o,e,c,d⟩:=id st';exact⟨u,rfl,rf (s:={ s with heap:=h' }) e c d (by decide) ⟨x,H,I1,ru,⟨rfl,fun ys hy=>by rw[I.list_inj hy hq];exact hx⟩,st',fun b hb=>(hf b hb).1⟩⟩
 done:=by
  intro X hP hw hK hc i J0 s σ H E I hf st hg;subst hP hw hK;obtain⟨xs,hq,hx⟩:=hg;obtain⟨its,rv,p,hz⟩:=I.list hq;obtain⟨f0,f1,f2,f3,f4,f5⟩:=hf it (by simp);have hl:=rv.length;exact wpAny_pyNext_list_end (I.ok.hd hc) st p.isList (by simp;omega) fun h' eb=>⟨rfl,I.turned (t':=s.toks) (fun b o hb e=>eb b o hb e) f0 f1 f3 f4 f5⟩
 self:=fun _ _ _ _ _ st h=>wpAny_pyIter_listiter st h
theorem mo{P:bh}{w:World}{K:Za}{tg:Expr}(a it:Addr):nD P w K tg (zz K a) [it] it (fun i h=>h.IsTupleIter it a i) where
 mem:=by simp
 obj:=fun i h st b hb=>by
  have e:b=it:=by simpa using hb
  subst e;obtain⟨o,e,c,d⟩:=st;exact⟨o,e,fun v z=>by rw[d]at z;cases z⟩
 keep:=fun i h h' st k=>st.at fun o e=>k it (by simp) o e
 item:=by
  intro X hP hw hK hc i J0 s σ H E I hf st hg;subst hP hw hK;obtain⟨xs,x,hq,hx⟩:=hg;obtain⟨its,rv,p,hz⟩:=I.tuple hq;obtain⟨u,hu,ru⟩:=rv.get hx;obtain⟨f0,f1,f2,f3,f4,f5⟩:=hf it (by simp);refine wpAny_pyNext_tuple_item st (show s.heap.IsTuple a its.toArray from p) (x:=u) (by simpa using hu) fun h' st' sb=>?_;have I1:Inv X J0 σ H { s with heap:=h' }:=I.turned (t':=s.toks) (fun b o hb e=>(sb.2 b hb).trans e) f0 f1 f3 f4 f5;obtain⟨o,e,c,d⟩:=id st';exact⟨u,rfl,rf (s:={ s with heap:=h' }) e c d (by decide) ⟨x,H,I1,ru,⟨rfl,fun ys hy=>by rw[I.tuple_inj hy hq];exact hx⟩,st',fun b hb=>(hf b hb).1⟩⟩
 done:=by
  intro X hP hw hK hc i J0 s σ H E I hf st hg;subst hP hw hK;obtain⟨xs,hq,hx⟩:=hg;obtain⟨its,rv,p,hz⟩:=I.tuple hq;obtain⟨f0,f1,f2,f3,f4,f5⟩:=hf it (by simp);have hl:=rv.length;exact wpAny_pyNext_tuple_end (I.ok.hd hc) st (show s.heap.IsTuple a its.toArray from p) (by simp;omega) fun h' eb=>⟨rfl,I.turned (t':=s.toks) (fun b o hb e=>eb b o hb e) f0 f1 f3 f4 f5⟩
 self:=fun _ _ _ _ _ st h=>wpAny_pyIter_tupleiter st h
theorem rQ{P:bh}{w:World}{K:Za}{tg:Expr}(it:Addr)(lo:Int)(n:Nat):nD P w K tg (zA lo n) [it] it (fun i h=>IsRangeIter h it (lo+(i:Nat) * 1) ((n:Int)-(i:Nat)) 1) where
 mem:=by simp
 obj:=fun i h st b hb=>by
  have e:b=it:=by simpa using hb
  subst e;exact⟨_,st,fun v z=>by
   have z':Data.fields _=Data.cell v:=z;cases z'⟩
 keep:=fun i h h' st k=>k it (by simp) _ st
 item:=by
  intro X hP hw hK hc i J0 s σ H E I hf st hg;subst hP hw hK;obtain⟨f0,f1,f2,f3,f4,f5⟩:=hf it (by simp);have W:=Walks.range (prog:=X.prog) (w:=X.w) (I.ok.hd hc) it lo 1 n;refine W.item i s _ _ hg st fun v h' tk hv st' kk=>?_;obtain⟨t,rfl⟩:=hv;have I1:Inv X J0 σ H { s with heap:=h',toks:=tk }:=I.turned (fun b o hb e=>kk b o (by simpa using hb) e) f0 f1 f3 f4 f5;refine⟨_,rfl,rf (s:={ s with heap:=h',toks:=tk }) (n:="range_iterator") st' rfl rfl (by decide) ⟨.int (lo+i),H,I1,⟨t,?_⟩,⟨rfl,rfl⟩,st',fun b hb=>(hf b hb).1⟩⟩;rw[Int.mul_one]
 done:=by
  intro X hP hw hK hc i J0 s σ H E I hf st hg;subst hP hw hK;obtain⟨f0,f1,f2,f3,f4,f5⟩:=hf it (by simp);exact wpAny_pyNext_range_end (I.ok.hd hc) st (by have:n<=i:=hg;omega) fun h' eb=>⟨rfl,I.turned (t':=s.toks) (fun b o hb e=>eb b o hb e) f0 f1 f3 f4 f5⟩
 self:=fun _ _ _ _ _ st h=>wpAny_pyIter_rangeiter st h
end L2
namespace L2
open PySem PySem.Spec PyProof.Rows
section
variable{X:Cx}{tg:Expr}
def cV(K:Za)(tl:TE):TI:=fun σ H R=>tl σ H fun x H1=>∃a,x=.ref a/\(∃xs,aB K H1 a xs)/\R (wR K a) H1
def wm(K:Za)(tl:TE):TI:=fun σ H R=>tl σ H fun x H1=>∃a,x=.ref a/\(∃xs,bM K H1 a xs)/\R (zz K a) H1
theorem bu{l:Expr}{tl:TE}(hl:PE X l tl):PI X tg l (cV X.K tl):=by
 intro J0 s σ H R I h;refine bL (hl J0 s σ H _ I h) fun v s1 ⟨x,H1,I1,r1,q1⟩=>?_;obtain⟨a,e,⟨xs,hq⟩,q⟩:=q1;subst e;cases r1;obtain⟨its,rv,p,hz⟩:=I1.list hq;refine tL p.isList ?_;refine⟨s1.heap.objs.size,[s1.heap.objs.size],_,_,H1,rfl,I1.kept (t':=s1.toks) fun b o e=>aO _ e,nO a _,⟨_,cA _ rfl,rfl,rfl⟩,fun b hb=>?_,q⟩;have e:b=s1.heap.objs.size:=by simpa using hb
 subst e;exact I1.fpOk (aE _) (I1.hok.fresh (aE _))
theorem v4{l:Expr}{tl:TE}(hl:PE X l tl):PI X tg l (wm X.K tl):=by
 intro J0 s σ H R I h;refine bL (hl J0 s σ H _ I h) fun v s1 ⟨x,H1,I1,r1,q1⟩=>?_;obtain⟨a,e,⟨xs,hq⟩,q⟩:=q1;subst e;cases r1;obtain⟨its,rv,p,hz⟩:=I1.tuple hq;refine tK (show s1.heap.IsTuple a its.toArray from p) ?_;refine⟨s1.heap.objs.size,[s1.heap.objs.size],_,_,H1,rfl,I1.kept (t':=s1.toks) fun b o e=>aO _ e,mo a _,⟨_,cA _ rfl,rfl,rfl⟩,fun b hb=>?_,q⟩;have e:b=s1.heap.objs.size:=by simpa using hb
 subst e;exact I1.fpOk (aE _) (I1.hok.fresh (aE _))
theorem vW{J0:Zd}{σ:St}{H:Hp}{s:Shared}{R:It->Hp->Prop}{E:Zc}{lo hi:Int}{t u v:Tok}{tk:Nat}(I:Inv X J0 σ H s)(h1:-(2 ^ 62)<=lo)(h2:lo<2 ^ 62)(h3:-(2 ^ 62)<=hi)(h4:hi<2 ^ 62)
  (q:R (zA lo (hi-lo).toNat) H):wpAny (model X.prog X.w) X.A (pyIter (.ref s.heap.objs.size)) (PIE X J0 σ tg R) E { s with heap:=s.heap.push { cls:=.type "range",data:=.fields #[.int lo t,.int hi u,.int 1 v] },toks:=tk }:=by
 refine wpAny_pyIter_range (IsRange.new ..) (small_one h1 h2 h3 h4) ?_;have I1:Inv X J0 σ H { s with heap:=s.heap.push { cls:=.type "range",data:=.fields #[.int lo t,.int hi u,.int 1 v] },toks:=tk }:=I.kept fun b o e=>aO _ e;refine⟨(s.heap.push { cls:=.type "range",data:=.fields #[.int lo t,.int hi u,.int 1 v] }).objs.size,[(s.heap.push { cls:=.type "range",data:=.fields #[.int lo t,.int hi u,.int 1 v] }).objs.size],_,_,H,rfl,
  I1.kept (t':=tk) fun b o e=>aO _ e,rQ _ lo (hi-lo).toNat,?_,fun b hb=>?_,q⟩
 ·have e1:lo+((0:Nat):Int) * 1=lo:=by simp
  have e2:(((hi-lo).toNat:Nat):Int)-((0:Nat):Int)=c9.Range.rangeSize lo hi 1:=by rw[rangeSize_one];split<;>omega
  show IsRangeIter _ _ (lo+((0:Nat):Int) * 1) ((((hi-lo).toNat:Nat):Int)-((0:Nat):Int)) 1;rw[e1,e2];exact cA _ rfl
 ·have e:b=(s.heap.push { cls:=.type "range",data:=.fields #[.int lo t,.int hi u,.int 1 v] }).objs.size:=by simpa using hb
  subst e;exact I1.fpOk (aE _) (I1.hok.fresh (aE _))
def kW(ta:TA):TI:=fun σ H R=>ta σ H fun vs H1=>∃j:Int,vs=[.int j]/\-(2 ^ 62)<=j/\j<2 ^ 62/\R (zA 0 j.toNat) H1
theorem dO{a:Expr}{ta:TA}{p pos:Pos}(hg:Gl X "range")(hm:X.mg "range"=none)(ha:PA X [a] ta)(hs:ax [a] X.env=[(false,eval a X.env)]:=by rfl):PI X tg (.Call (.Name "range" p) [a] [] pos) (kW ta):=by
 intro J0 s σ H R I h;refine Call_ (kn I hg hm boot_range (tJ (bL (ha pos J0 s σ H _ I h) fun us s1 ⟨vs,H1,I1,r1,q1⟩=>?_) hs rfl));obtain⟨j,e,q1,q2,q⟩:=q1;subst e;cases r1 with
 |cons r rr =>
  cases rr;obtain⟨t,rfl⟩:=r;exact call_range_1 (vW I1 (by omega) (by omega) q1 q2 (by simpa using q))
def fD(wi:TI)(g:TG)(tb:TS):TS:=fun D σ H=>wi σ H fun J H1=>∃W:Nat->Nat->St->Hp->Prop,(∃m,W 0 m σ H1)/\∀i m σ H,W i m σ H ->
 (J.stop i H/\D.nx σ H)∨(J.go i H/\∃N:St->Hp->Prop,(∀σ' H',N σ' H'->∃m',m'<m/\W (i+1) m' σ' H')/\∀x H',J.yld i H x H'->g x σ H' fun σ2 H2=>tb { D with nx:=N,ct:=N,bk:=D.nx } σ2 H2)
def mC(fp:Ze)(h:Heap):List (Addr×Obj):=fp.filterMap fun b=>(h.get? b).map fun o=>(b,o)
theorem gG{fp:Ze}{h:Heap}{b:Addr}{o:Obj}(hb:b∈fp)(e:h.get? b=some o):(b,o)∈mC fp h:=List.mem_filterMap.mpr ⟨b,hb,by rw[e];rfl⟩
theorem u1{fp:Ze}{h:Heap}{p:Addr×Obj}(hp:p∈mC fp h):p.1∈fp/\h.get? p.1=some p.2:=by
 obtain⟨b,hb,e⟩:=List.mem_filterMap.mp hp;cases q:h.get? b with
 |none=>rw[q]at e;cases e
 |some o =>
  rw[q]at e;have e':(b,o)=p:=cT e;subst e';exact⟨hb,q⟩
theorem Inv.pinned{J0:Zd}{σ:St}{H:Hp}{s:Shared}{fp:Ze}(I:Inv X J0 σ H s)(hf:∀b∈fp,js X J0 H b)(ho:∀b∈fp,∃o,s.heap.get? b=some o/\∀v,o.data≠.cell v):Inv X (J0++mC fp s.heap) σ H s :=
 I.pins_of fun p hp=>(bZ.mp hp).elim (fun z=>I.pin p (eE _ z)) fun z=>by
  obtain⟨hb,e⟩:=u1 z;obtain⟨f0,f1,f2,_⟩:=hf p.1 hb;obtain⟨o,e',d⟩:=ho p.1 hb;rw[e]at e';cases e';exact⟨e,f0,f1,f2,d⟩
theorem Inv.unpinned{J0 pl:Zd}{σ:St}{H:Hp}{s:Shared}(I:Inv X (J0++pl) σ H s):Inv X J0 σ H s:=I.pins_of fun p hp=>I.pin p (eE _ (fH _ hp))
theorem bP{iter:Expr}{body:List Stmt}{wi:TI}{g:TG}{tb:TS}{pos:Pos}(hp:PassesOwn (model X.prog X.w) X.A X.env X.xe)(hc:X.calm=true)(hi:PI X tg iter wi)(hg:PG X tg g)(hb:rN X body tb)
  (hs:∀x,qr iter X.env x=pure x:=by intro _;rfl):PS X (.For tg iter body [] pos) (fD wi g tb):=by
 intro J0 s σ H D I h;refine wpAny_For (bL (hi J0 s σ H _ I h) fun v s1 h1=>bL h1 fun itv s2 h2=>?_) hs;obtain⟨it,fp,tn,J,H2,e,I2,T,st2,f2,W,⟨m0,w0⟩,turn⟩:=h2;subst e;have stat:∀{H':Hp},(∀b∈fp,H' b=none)->∀b∈fp,js X J0 H' b:=fun hn b hb=>⟨hn b hb,(f2 b hb).2⟩;refine codeAny_forLoop_any (fun n s'=>∃i σ' H',Inv X J0 σ' H' s'/\tn i s'.heap/\(∀b∈fp,H' b=none)/\W i n σ' H') ?_ m0 ⟨0,σ,H2,I2,st2,fun b hb=>(f2 b hb).1,w0⟩;rintro n s3 ⟨i,σ3,H3,I3,st3,fr3,w3⟩;rcases turn i n σ3 H3 w3 with⟨stop,qn⟩|⟨go,N,hN,step⟩
 ·refine lR hp (bL (T.done X rfl rfl rfl hc i J0 s3 σ3 H3 X.xe I3 (stat fr3) st3 stop) fun r s4 ⟨hr,I4⟩=>?_);subst hr;exact tN ⟨σ3,H3,I4,qn⟩
 ·refine lR hp (bL (T.item X rfl rfl rfl hc i J0 s3 σ3 H3 X.xe I3 (stat fr3) st3 go) fun r s4 ⟨u,hr,h4⟩=>?_);subst hr;refine lR hp (bL h4 fun _ s5 ⟨x,H5,I5,r5,y5,st5,fr5⟩=>?_);have I5':=I5.pinned (stat fr5) (T.obj _ _ st5);refine lR hp (bL (hg _ s5 σ3 H5 x u _ I5' r5 (step x H5 y5)) fun _ s6 ⟨σ6,H6,I6,q6⟩=>?_);refine lR hp (bL (hb _ s6 σ6 H6 _ I6 q6) fun f s7 q7=>?_);have again:∀{σ7:St}{H7:Hp},Inv X (J0++mC fp s5.heap) σ7 H7 s7->N σ7 H7->∃m,m<n/\∃i σ' H',Inv X J0 σ' H' s7/\tn i s7.heap/\(∀b∈fp,H' b=none)/\W i m σ' H':=fun{σ7 H7} I7 n7=>by
   obtain⟨m',hm,w7⟩:=hN σ7 H7 n7;refine⟨m',hm,i+1,σ7,H7,I7.unpinned,T.keep _ _ _ st5 fun b hb o e=>(I7.pin (b,o) (eE _ (eE _ (gG hb e)))).1,fun b hb=>?_,w7⟩;obtain⟨o,e,d⟩:=T.obj _ _ st5 b hb;exact(I7.pin (b,o) (eE _ (eE _ (gG hb e)))).2.1
  cases f with
  |next=>obtain⟨σ7,H7,I7,n7⟩:=q7;exact again I7 n7
  |cont=>obtain⟨σ7,H7,I7,n7⟩:=q7;exact again I7 n7
  |brk=>obtain⟨σ7,H7,I7,q7⟩:=q7;exact⟨σ7,H7,I7.unpinned,q7⟩
  |ret v=>obtain⟨x7,σ7,H7,I7,r7,q7⟩:=q7;exact⟨x7,σ7,H7,I7.unpinned,r7,q7⟩
end
theorem dA{K:Za}{a:Addr}{xs:List V}{g:TG}{tb:TS}{D:jt}{σ:St}{H:Hp}(Pv:Nat->St->Hp->Prop)(h0:Pv 0 σ H)(hl:∀i σ H,i<=xs.length->Pv i σ H->aB K H a xs)
  (hs:∀i x σ H,xs[i]?=some x->Pv i σ H->g x σ H fun σ2 H2=>tb { D with nx:=Pv (i+1),ct:=Pv (i+1),bk:=D.nx } σ2 H2) (hd:∀σ H,Pv xs.length σ H->D.nx σ H) :
  ∃W:Nat->Nat->St->Hp->Prop,(∃m,W 0 m σ H)/\∀i m σ H,W i m σ H ->
   ((wR K a).stop i H/\D.nx σ H)∨((wR K a).go i H/\∃N:St->Hp->Prop,(∀σ' H',N σ' H'->∃m',m'<m/\W (i+1) m' σ' H')/\∀x H',(wR K a).yld i H x H'->g x σ H' fun σ2 H2=>tb { D with nx:=N,ct:=N,bk:=D.nx } σ2 H2):=by
 refine⟨fun i m σ H=>m=xs.length-i/\i<=xs.length/\Pv i σ H,⟨xs.length,by simp,cj _,h0⟩,?_⟩;rintro i m σ H ⟨rfl,hi,p⟩;have q:=hl i σ H hi p;by_cases hlt:i<xs.length
 ·refine .inr ⟨⟨xs,xs[i],q,by simp[hlt]⟩,Pv (i+1),fun σ' H' p'=>⟨xs.length-(i+1),by omega,rfl,hlt,p'⟩,fun x H' y=>?_⟩;obtain⟨e,y⟩:=y;subst e;exact hs i x σ _ (y xs q) p
 ·have e:i=xs.length:=by omega
  subst e;exact .inl ⟨⟨xs,q,aE _⟩,hd σ H p⟩
theorem xR{K:Za}{a:Addr}{xs:List V}{g:TG}{tb:TS}{D:jt}{σ:St}{H:Hp}(Pv:Nat->St->Hp->Prop)(h0:Pv 0 σ H)(hl:∀i σ H,i<=xs.length->Pv i σ H->bM K H a xs)
  (hs:∀i x σ H,xs[i]?=some x->Pv i σ H->g x σ H fun σ2 H2=>tb { D with nx:=Pv (i+1),ct:=Pv (i+1),bk:=D.nx } σ2 H2) (hd:∀σ H,Pv xs.length σ H->D.nx σ H) :
  ∃W:Nat->Nat->St->Hp->Prop,(∃m,W 0 m σ H)/\∀i m σ H,W i m σ H ->
   ((zz K a).stop i H/\D.nx σ H)∨((zz K a).go i H/\∃N:St->Hp->Prop,(∀σ' H',N σ' H'->∃m',m'<m/\W (i+1) m' σ' H')/\∀x H',(zz K a).yld i H x H'->g x σ H' fun σ2 H2=>tb { D with nx:=N,ct:=N,bk:=D.nx } σ2 H2):=by
 refine⟨fun i m σ H=>m=xs.length-i/\i<=xs.length/\Pv i σ H,⟨xs.length,by simp,cj _,h0⟩,?_⟩;rintro i m σ H ⟨rfl,hi,p⟩;have q:=hl i σ H hi p;by_cases hlt:i<xs.length
 ·refine .inr ⟨⟨xs,xs[i],q,by simp[hlt]⟩,Pv (i+1),fun σ' H' p'=>⟨xs.length-(i+1),by omega,rfl,hlt,p'⟩,fun x H' y=>?_⟩;obtain⟨e,y⟩:=y;subst e;exact hs i x σ _ (y xs q) p
 ·have e:i=xs.length:=by omega
  subst e;exact .inl ⟨⟨xs,q,aE _⟩,hd σ H p⟩
theorem gj{lo:Int}{n:Nat}{g:TG}{tb:TS}{D:jt}{σ:St}{H:Hp}(Pv:Nat->St->Hp->Prop)(h0:Pv 0 σ H)
  (hs:∀i σ H,i<n->Pv i σ H->g (.int (lo+i)) σ H fun σ2 H2=>tb { D with nx:=Pv (i+1),ct:=Pv (i+1),bk:=D.nx } σ2 H2) (hd:∀σ H,Pv n σ H->D.nx σ H) :
  ∃W:Nat->Nat->St->Hp->Prop,(∃m,W 0 m σ H)/\∀i m σ H,W i m σ H ->
   ((zA lo n).stop i H/\D.nx σ H)∨((zA lo n).go i H/\∃N:St->Hp->Prop,(∀σ' H',N σ' H'->∃m',m'<m/\W (i+1) m' σ' H')/\∀x H',(zA lo n).yld i H x H'->g x σ H' fun σ2 H2=>tb { D with nx:=N,ct:=N,bk:=D.nx } σ2 H2):=by
 refine⟨fun i m σ H=>m=n-i/\i<=n/\Pv i σ H,⟨n,by simp,cj _,h0⟩,?_⟩;rintro i m σ H ⟨rfl,hi,p⟩;by_cases hlt:i<n
 ·refine .inr ⟨hlt,Pv (i+1),fun σ' H' p'=>⟨n-(i+1),by omega,rfl,hlt,p'⟩,fun x H' y=>?_⟩;obtain⟨e,y⟩:=y;subst e y;exact hs i σ _ hlt p
 ·have e:i=n:=by omega
  subst e;exact .inl ⟨aE _,hd σ H p⟩
end L2
namespace L2
open PySem PySem.Spec PyProof.Rows
abbrev R2:=V->V->Hp->VK->Prop
def jZ(X:Cx)(f:Value->Value->Sem Value)(r:R2):Prop :=
 ∀(J0:Zd) (s:Shared) (σ:St) (H:Hp) (x y:V) (v u:Value) (Q:VK),Inv X J0 σ H s->RelV x v->RelV y u->r x y H Q ->
  wpAny (model X.prog X.w) X.A (f v u) (EP X J0 σ Q) X.xe s
def eK(X:Cx)(f:Value)(r:List V->Hp->VK->Prop):Prop :=
 ∀(J0:Zd) (s:Shared) (σ:St) (H:Hp) (xs:List V) (us:Zf) (Q:VK),Inv X J0 σ H s->aH xs us->r xs H Q ->
  wpAny (model X.prog X.w) X.A (call f us) (EP X J0 σ Q) X.xe s
def aI(r:R2)(ta tb:TE):TE:=fun σ H Q=>ta σ H fun x H1=>tb σ H1 fun y H2=>r x y H2 Q
def rI(C:Int->Int->Prop)(g:Int->Int->V):R2:=fun x y H Q=>∃i j,x=.int i/\y=.int j/\C i j/\Q (g i j) H
def vz(g:Int->Int->V):R2:=fun x y H Q=>∃i j,x=.int i/\y=.int j/\Q (g i j) H
section
variable{X:Cx}{a b c:Expr}{ta tb tc:TE}{pos:Pos}
theorem zt(ha:PE X a ta)(hb:PE X b tb){J0:Zd}{s:Shared}{σ:St}{H:Hp}{R:V->V->Hp->Prop}(I:Inv X J0 σ H s)
  (h:ta σ H fun x H1=>tb σ H1 fun y H2=>R x y H2) {Q:Zc}{f:Value->Value->Sem Value}
  (hf:∀v u s2 x y H2,Inv X J0 σ H2 s2->RelV x v->RelV y u->R x y H2->wpAny (model X.prog X.w) X.A (f v u) Q X.xe s2) :
  wpAny (model X.prog X.w) X.A (eval a X.env) (fun v s₁=>wpAny (model X.prog X.w) X.A (eval b X.env) (fun u s₂=>wpAny (model X.prog X.w) X.A (f v u) Q X.xe s₂) X.xe s₁) X.xe s:=by
 refine bL (ha J0 s σ H _ I h) fun v s1 ⟨x,H1,I1,r1,q1⟩=>?_;refine bL (hb J0 s1 σ H1 _ I1 q1) fun u s2 ⟨y,H2,I2,r2,q2⟩=>?_;exact hf v u s2 x y H2 I2 r1 r2 q2
theorem aF{op:Operator}{r:R2}(ho:jZ X (kM op) r)(ha:PE X a ta)(hb:PE X b tb):PE X (.BinOp a op b pos) (aI r ta tb):=by
 intro J0 s σ H Q I h;exact wpAny_BinOp (zt ha hb I h fun v u s2 x y H2 I2 rx ry q=>ho J0 s2 σ H2 x y v u Q I2 rx ry q)
theorem Ar{f:Value->Value->Sem Value}{C:Int->Int->Prop}{g:Int->Int->Int}
  (rule:∀(i j:Int) (t u:Tok) (s:Shared) (Q:Zc) (E:Zc),C i j->Q (.int (g i j) s.toks) { s with toks:=s.toks+1 }->wpAny (model X.prog X.w) X.A (f (.int i t) (.int j u)) Q E s) :
  jZ X f (rI C fun i j=>.int (g i j)):=by
 intro J0 s σ H x y v u Q I rx ry h;obtain⟨i,j,rfl,rfl,hc,q⟩:=h;obtain⟨t,rfl⟩:=rx;obtain⟨t',rfl⟩:=ry;exact rule i j t t' s _ _ hc ⟨.int (g i j),H,I.tok _,⟨_,rfl⟩,q⟩
theorem opI0{f:Value->Value->Sem Value}{g:Int->Int->Int}
  (rule:∀(i j:Int) (t u:Tok) (s:Shared) (Q:Zc) (E:Zc),Q (.int (g i j) s.toks) { s with toks:=s.toks+1 }->wpAny (model X.prog X.w) X.A (f (.int i t) (.int j u)) Q E s) :
  jZ X f (vz fun i j=>.int (g i j)):=by
 intro J0 s σ H x y v u Q I rx ry h;obtain⟨i,j,rfl,rfl,q⟩:=h;obtain⟨t,rfl⟩:=rx;obtain⟨t',rfl⟩:=ry;exact rule i j t t' s _ _ ⟨.int (g i j),H,I.tok _,⟨_,rfl⟩,q⟩
theorem xK{f:Value->Value->Sem Value}{g:Int->Int->Bool}
  (rule:∀(i j:Int) (t u:Tok) (s:Shared) (Q:Zc) (E:Zc),Q (.bool (g i j)) s->wpAny (model X.prog X.w) X.A (f (.int i t) (.int j u)) Q E s) :
  jZ X f (vz fun i j=>.bl (g i j)):=by
 intro J0 s σ H x y v u Q I rx ry h;obtain⟨i,j,rfl,rfl,q⟩:=h;obtain⟨t,rfl⟩:=rx;obtain⟨t',rfl⟩:=ry;exact rule i j t t' s _ _ ⟨.bl (g i j),H,I,rfl,q⟩
def Ai(i j:Int):Prop:=0<j/\j<1073741824
def Ah(i j:Int):Prop:=0<=j/\j<=1000000/\i.natAbs<2 ^ 64
def wV(i j:Int):Prop:=(-(2 ^ 64)<i/\i<2 ^ 64)∨(-(2 ^ 64)<j/\j<2 ^ 64)
theorem wV.ok{i j:Int}(h:wV i j):IntMulOk i j:=by
 rcases h with⟨h1,h2⟩|⟨h1,h2⟩
 ·exact .of_left (intBits_le_64 h1 h2)
 ·exact .of_right (intBits_le_64 h1 h2)
theorem bQ:jZ X (kM .Add) (vz fun i j=>.int (i+j)):=opI0 fun _ _ _ _ _ _ _ q=>add_int q
theorem ft:jZ X (kM .Mult) (rI wV fun i j=>.int (i * j)):=Ar fun _ _ _ _ _ _ _ hc q=>mul_int q hc.ok
theorem ua:jZ X (kM .FloorDiv) (rI Ai fun i j=>.int (i / j)):=Ar fun i j _ _ _ _ _ hc q=>by
 have h1:(0:Int)<j:=hc.1;have h2:j<1073741824:=hc.2;exact floordiv_int (by omega) (by rw[Int.fdiv_eq_ediv_of_nonneg i (by omega)];exact q) (.inl (PyProof.noPylong_small (by omega)))
theorem cQ:jZ X (kM .Mod) (rI (fun _ j=>0<j) fun i j=>.int (i % j)):=Ar fun i j _ _ _ _ _ hc q=>by
 have h1:(0:Int)<j:=hc;exact mod_int' (by omega) (by rw[Int.fmod_eq_emod_of_nonneg i (by omega)];exact q)
theorem v6:jZ X (kM .Pow) (rI Ah fun i j=>.int (i ^ j.toNat)):=Ar fun _ _ _ _ _ _ _ hc q=>pow_int_small hc.1 hc.2.1 hc.2.2 q
end
def zI:V->V->Bool
 |.non,.non=>true | .non,.int _=>true | .int _,.non=>true | .non,.bl _=>true | .bl _,.non=>true | .non,.str _=>true | .str _,.non=>true
 |.int _,.int _=>true | .bl _,.bl _=>true | .str _,.str _=>true | .byt _,.byt _=>true
 |.int _,.str _=>true | .str _,.int _=>true | .bl _,.str _=>true | .str _,.bl _=>true
 |_,_=>false
def vA:R2:=fun x y H Q=>zI x y=true/\Q (.bl (decide (x=y))) H
def yY:R2:=fun x y H Q=>zI x y=true/\Q (.bl (!decide (x=y))) H
theorem ur{i j:Int}:decide (V.int i=V.int j)=(i==j):=by
 rw[kL];simp
theorem wF{i j:Bool}:decide (V.bl i=V.bl j)=(i==j):=by
 rw[kL];simp
theorem uo{i j:Str}:decide (V.str i=V.str j)=(i==j):=by
 rw[kL];simp
theorem ut{i j:Array UInt8}:decide (V.byt i=V.byt j)=(i.toList==j.toList):=by
 rw[kL];cases i;cases j;simp
section
variable{X:Cx}{a b c:Expr}{ta tb tc:TE}{pos:Pos}
theorem aU{J0:Zd}{σ:St}{H:Hp}{s:Shared}{Q:VK}{k k':Bool}(I:Inv X J0 σ H s)(q:Q (.bl k) H)(e:k=k'):EP X J0 σ Q (.bool k') s:=by
 subst e;exact⟨.bl k,H,I,rfl,q⟩
theorem ij:jZ X (c8 .Eq) vA:=by
 intro J0 s σ H x y v u Q I rx ry h;obtain⟨hs,q⟩:=h;cases x with
 |non =>
  cases rx;cases y with
  |non=>cases ry;exact PySem.EqNone.eq_none_none (aU I q (by simp))
  |bl j=>cases ry;exact PySem.EqNone.eq_none_bool (aU I q (by simp))
  |int j=>obtain⟨t',rfl⟩:=ry;exact PySem.EqNone.eq_none_int (aU I q (by simp))
  |str j=>obtain⟨t',rfl⟩:=ry;exact PySem.EqNone.eq_none_str (aU I q (by simp))
  |_=>exact absurd (show false=true from hs) fX
 |bl i =>
  cases rx;cases y with
  |non=>cases ry;exact PySem.EqNone.eq_bool_none (aU I q (by simp))
  |bl j=>cases ry;exact eq_bool (aU I q wF)
  |str j=>obtain⟨t',rfl⟩:=ry;exact PySem.EqMixed.eq_bool_str (aU I q (by simp))
  |_=>exact absurd (show false=true from hs) fX
 |int i =>
  obtain⟨t,rfl⟩:=rx;cases y with
  |non=>cases ry;exact PySem.EqNone.eq_int_none (aU I q (by simp))
  |int j=>obtain⟨t',rfl⟩:=ry;exact eq_int (aU I q ur)
  |str j=>obtain⟨t',rfl⟩:=ry;exact PySem.EqMixed.eq_int_str (aU I q (by simp))
  |_=>exact absurd (show false=true from hs) fX
 |str i =>
  obtain⟨t,rfl⟩:=rx;cases y with
  |non=>cases ry;exact PySem.EqNone.eq_str_none (aU I q (by simp))
  |bl j=>cases ry;exact PySem.EqMixed.eq_str_bool (aU I q (by simp))
  |int j=>obtain⟨t',rfl⟩:=ry;exact PySem.EqMixed.eq_str_int (aU I q (by simp))
  |str j=>obtain⟨t',rfl⟩:=ry;exact eq_str (aU I q uo)
  |_=>exact absurd (show false=true from hs) fX
 |byt i =>
  obtain⟨t,rfl⟩:=rx;cases y with
  |byt j=>obtain⟨t',rfl⟩:=ry;exact PySem.W.eq_bytes (aU I q ut)
  |_=>exact absurd (show false=true from hs) fX
 |_=>cases y<;>exact absurd (show false=true from hs) fX
theorem qU:jZ X (c8 .NotEq) yY:=by
 intro J0 s σ H x y v u Q I rx ry h;obtain⟨hs,q⟩:=h;cases x with
 |non =>
  cases rx;cases y with
  |non=>cases ry;exact PySem.EqNone.ne_none_none (aU I q (by simp))
  |bl j=>cases ry;exact PySem.EqNone.ne_none_bool (aU I q (by simp))
  |int j=>obtain⟨t',rfl⟩:=ry;exact PySem.EqNone.ne_none_int (aU I q (by simp))
  |str j=>obtain⟨t',rfl⟩:=ry;exact PySem.EqNone.ne_none_str (aU I q (by simp))
  |_=>exact absurd (show false=true from hs) fX
 |bl i =>
  cases rx;cases y with
  |non=>cases ry;exact PySem.EqNone.ne_bool_none (aU I q (by simp))
  |bl j=>cases ry;exact ne_bool (aU I q (congrArg not wF))
  |str j=>obtain⟨t',rfl⟩:=ry;exact PySem.EqMixed.ne_bool_str (aU I q (by simp))
  |_=>exact absurd (show false=true from hs) fX
 |int i =>
  obtain⟨t,rfl⟩:=rx;cases y with
  |non=>cases ry;exact PySem.EqNone.ne_int_none (aU I q (by simp))
  |int j=>obtain⟨t',rfl⟩:=ry;exact ne_int (aU I q (congrArg not ur))
  |str j=>obtain⟨t',rfl⟩:=ry;exact PySem.EqMixed.ne_int_str (aU I q (by simp))
  |_=>exact absurd (show false=true from hs) fX
 |str i =>
  obtain⟨t,rfl⟩:=rx;cases y with
  |non=>cases ry;exact PySem.EqNone.ne_str_none (aU I q (by simp))
  |bl j=>cases ry;exact PySem.EqMixed.ne_str_bool (aU I q (by simp))
  |int j=>obtain⟨t',rfl⟩:=ry;exact PySem.EqMixed.ne_str_int (aU I q (by simp))
  |str j=>obtain⟨t',rfl⟩:=ry;exact ne_str (aU I q (congrArg not uo))
  |_=>exact absurd (show false=true from hs) fX
 |byt i =>
  obtain⟨t,rfl⟩:=rx;cases y with
  |byt j=>obtain⟨t',rfl⟩:=ry;exact PySem.W.ne_bytes (aU I q (congrArg not ut))
  |_=>exact absurd (show false=true from hs) fX
 |_=>cases y<;>exact absurd (show false=true from hs) fX
theorem yy:jZ X (c8 .Lt) (vz fun i j=>.bl (decide (i<j))):=xK fun _ _ _ _ _ _ _ q=>lt_int q
theorem zN:jZ X (c8 .LtE) (vz fun i j=>.bl (decide (i<=j))):=xK fun _ _ _ _ _ _ _ q=>le_int q
theorem yz:jZ X (c8 .Gt) (vz fun i j=>.bl (decide (j<i))):=xK fun _ _ _ _ _ _ _ q=>gt_int q
theorem zO:jZ X (c8 .GtE) (vz fun i j=>.bl (decide (j<=i))):=xK fun _ _ _ _ _ _ _ q=>ge_int q
theorem uZ:jZ X (c8 .In) (fun x y H Q=>∃i j,x=.str i/\y=.str j/\Q (.bl (!(c9.Str.occurrences j i 0 j.length 1).isEmpty)) H):=by
 intro J0 s σ H x y v u Q I rx ry h;obtain⟨i,j,rfl,rfl,q⟩:=h;obtain⟨t,rfl⟩:=rx;obtain⟨t',rfl⟩:=ry;exact in_str (aU I q rfl)
theorem wb(b:Expr){op:CmpOp}(h:op≠.In:=by decide)(h2:op≠.NotIn:=by decide):gS op b=false:=by
 have e1:(op==CmpOp.In)=false:=by cases op<;>first|rfl|exact absurd rfl h
 have e2:(op==CmpOp.NotIn)=false:=by cases op<;>first|rfl|exact absurd rfl h2
 cases b<;>simp[gS,e1,e2]
theorem t9{op:CmpOp}{r:R2}(ho:jZ X (c8 op) r)(ha:PE X a ta)(hb:PE X b tb)(hm:gS op b=false):PE X (.Compare a [op] [b] pos) (aI r ta tb):=by
 intro J0 s σ H Q I h;exact wpAny_Compare1 (zt ha hb I h fun v u s2 x y H2 I2 rx ry q=>ho J0 s2 σ H2 x y v u Q I2 rx ry q) hm
def bV(t:TE):TT:=fun σ H Q=>t σ H fun x H'=>∃k,x=.bl k/\Q k H'
theorem tZ{op:CmpOp}{r:R2}(ho:jZ X (c8 op) r)(ha:PE X a ta)(hb:PE X b tb)(hm:gS op b=false):PT X (.Compare a [op] [b] pos) (bV (aI r ta tb)):=by
 intro J0 s σ H Q I h;refine wpAny_isTrue_Compare1 (bL (ha J0 s σ H _ I h) fun v s1 ⟨x,H1,I1,r1,q1⟩=>bL (hb J0 s1 σ H1 _ I1 q1) fun u s2 ⟨y,H2,I2,r2,q2⟩ =>
  bL (ho J0 s2 σ H2 x y v u _ I2 r1 r2 q2) fun c s3 ⟨z,H3,I3,r3,k,e,q3⟩=>?_) hm
 subst e;cases r3;exact lY ⟨H3,I3,q3⟩
theorem km:(am:Nat)<2 ^ 63:=by rw[sizeLine_eq];decide
theorem mG:jZ X (kM .Add) (fun x y H Q=>∃i j,x=.str i/\y=.str j/\i.length+j.length<=am/\Q (.str (i++j)) H):=by
 intro J0 s σ H x y v u Q I rx ry h;obtain⟨i,j,rfl,rfl,hz,q⟩:=h;obtain⟨t,rfl⟩:=rx;obtain⟨t',rfl⟩:=ry;exact add_str (fun t' tk=>⟨.str (i++j),H,I.tok _,⟨_,rfl⟩,q⟩) hz
theorem vals1{x:V}{us:Zf}(r:aH [x] us):∃u,us=[u]/\RelV x u:=by
 cases r with
 |cons r1 r2=>cases r2;exact⟨_,rfl,r1⟩
theorem vals2{x y:V}{us:Zf}(r:aH [x,y] us):∃u w',us=[u,w']/\RelV x u/\RelV y w':=by
 cases r with
 |cons r1 r2 =>
  cases r2 with
  |cons r3 r4=>cases r4;exact⟨_,_,rfl,r1,r3⟩
end
end L2
namespace L2
open PySem PySem.Spec PyProof.Rows
structure sY(h:Heap)(x dx C:Addr)(mA:Str->Option Value):Prop where
 obj:h.get? x=some (kQ C dx)
 ns:h.Ns1 dx mA
 ne:dx≠x
theorem u4{h:Heap}{dx:Addr}{mA:Str->Option Value}(n:h.Ns1 dx mA):∃od,h.get? dx=some od/\∀name,tI name od=some (mA name):=by
 obtain⟨o,es,ep,ho,hd,hk,_,hm⟩:=n;refine⟨o,ho,fun name=>?_⟩;have e:=hm name;unfold nsFind findBy at e;rw[<-Array.find?_toList]at e;unfold tI;rw[hd];dsimp only;split
 ·rename_i y q;rw[q]at e;exact congrArg some e
 ·rename_i q;rw[q]at e;have a:es.toList.any (·.refKey)=false:=by
   rw[List.any_eq_false];intro y hy;obtain⟨z,t,hkey⟩:=hk y (Array.mem_toList_iff.mp hy);simp[DictEntry.refKey,hkey]
  have a':¬es.toList.any (·.refKey)=true:=by rw[a];exact fX
  rw[if_neg a'];exact congrArg some e
theorem sY.look{h:Heap}{x dx C:Addr}{mA:Str->Option Value}(I:sY h x dx C mA):∃od,PySem.W.InstAt h x (kQ C dx) C (some od)/\∀name,tI name od=some (mA name) :=
 let⟨od,ho,hl⟩:=u4 I.ns
 ⟨od,⟨I.obj,rfl,rfl,ho⟩,hl⟩
section
variable{prog:bh}{w:World}{A:Around}{E:Zc}{s:Shared}{K:Za}{x dx C f:Addr}{mA:Str->Option Value}{name:Str}{v:Value}
theorem xN{expr:Bool}{Q:Zc}(X:K.In s.heap)(I:sY s.heap x dx C mA)(hg:qq K C name=true)(hh:tH K C=true)
  (ha:bH K (.ref C) name=some none) (hv:mA name=some v) (hv':PySem.W.handedIn v=true) (h:Q v { s with toks:=s.toks+1 }) :
  wpAny (model prog w) A (getAttr (.ref x) name expr) Q E s:=by
 obtain⟨od,J,hl⟩:=I.look;exact PySem.W.get_value X J (PySem.W.plainGet_of hg).1 (PySem.W.findObj_own hh ha rfl (by rw[hl,hv])) hv' h
theorem wo{pl:Sem Bool}{Q:Value×List Value->Shared->Prop}(X:K.In s.heap)(I:sY s.heap x dx C mA)(hg:qq K C name=true)
  (hf:bH K (.ref C) name=some (some (.ref f))) (ht:qp K (.ref f)=true) (hv:mA name=none) (h:Q (.ref f,[.ref x]) s) :
  wpAny (model prog w) A (kK (.ref x) name pl) Q E s:=by
 obtain⟨od,J,hl⟩:=I.look;exact PySem.W.method_fn X J (PySem.W.plainGet_of hg).1 (PySem.W.plainGet_of hg).2 hf (beq_iff_eq.mp ht) (by show(tI name od).map (·.isSome)=some false;rw[hl,hv];rfl) h
theorem xr{ns:Zb}{Q:Unit->Shared->Prop}(X:K.In s.heap)(I:sY s.heap x dx C mA)
  (hs:bH K (.ref C) "__setattr__"=some (some (.builtin "object.__setattr__"))) (hp:PySem.W.plainOver K C=true) (ht:PySem.W.takerIn K C name=some none) (hh:tH K C=true)
  (hw:PySem.Within mA ns) (hsz:ns.length<=am)
  (h:∀h',sY h' x dx C (fun y=>if y=name then some v else mA y)->fZ dx s.heap h'->Q () { s with heap:=h',toks:=s.toks+2 }) :
  wpAny (model prog w) A (setAttr (.ref x) name v) Q E s:=by
 obtain⟨od,J,hl⟩:=I.look;refine PySem.W.set_plain X J hs (PySem.W.osa_open (s:={ s with toks:=s.toks+1 }) (r:=none) X J hp ht fun b=>?_);obtain⟨cd,hc,hd'⟩:=PySem.W.any_some hh;have hx:s.heap.get? x=some ⟨.ref C,some dx,.plain,#[]⟩:=I.obj;refine aq (aW (aq (aq (wpAny_loadPart hx (aq (PySem.W.Looks.here (s:={ s with toks:=s.toks+1 }) (PySem.W.looks_clsIn X hc) ?_))))));rw[hd'];refine aW (a:=some dx) (aq (aW (aq ?_)));refine wpAny_nsSet1 (s:={ s with toks:=s.toks+1 }) I.ns fun h' hn2 hs2=>?_;obtain⟨oD,esD,epD,hoD,hdD,hcD⟩:=hn2.count (PySem.Within.cons name v hw);refine aq (wpAny_lookBehind hoD (by rw[hdD];exact pastItsLine_dict (cn hcD (by rw[eZ];omega))) ?_);exact aW (h _ ⟨(hs2.2 _ (e_ I.ne)).trans I.obj,hn2,I.ne⟩ hs2)
theorem we{R:Result->Shared->Prop}{vs:Zf}{kw:List (Str×Value)}(X:K.In s.heap)(hm:qo K C=true)
  (hi:bH K (.ref C) "__init__"=some (some (.ref f))) (hf:PySem.W.typeIn K (.ref f)=some (.type "function"))
  (h:zzl73 (model prog w) (A.under (.builtin "type.__call__" ⟨.ref C::vs,kw⟩)) (.call (.ref f) ⟨.ref (s.heap.objs.size+1)::vs,kw⟩) (PySem.W.InitBack (s.heap.objs.size+1) R)
   { s with heap:=(s.heap.push jx).push (kQ C s.heap.objs.size) }) :
  zzl73 (model prog w) A (.call (.ref C) ⟨vs,kw⟩) R s:=by
 obtain⟨hh,g,d,t,os⟩:=s;exact PySem.W.make_core (PySem.W.makes_of X hm) (PySem.W.looks_findIn X hi) (fun self=>PySem.W.bind_fn X self hf) (.inl rfl) h
end
def bR(f:Str)(v:V):List (Str×V)->List (Str×V)
 |[]=>[(f,v)]
 | (g,x)::r=>if g=f then(g,v)::r else(g,x)::bR f v r
theorem da(f g:Str)(v:V):∀fs:List (Str×V),(bR f v fs).lookup g=if g=f then some v else fs.lookup g
 |[]=>by
  show g7 g [(f,v)]=_;by_cases h:g=f
  ·have hb:(g==f)=true:=beq_iff_eq.mpr h;simp only[g7,hb,if_pos h]
  ·have hb:(g==f)=false:=beq_eq_false_iff_ne.mpr h;simp only[g7,hb,if_neg h]
 | (k,x)::r=>by
  have ih:=da f g v r;rw[show bR f v ((k,x)::r)=(if k=f then(k,v)::r else(k,x)::bR f v r)from rfl]
  by_cases hk:k=f
  ·rw[if_pos hk];by_cases h:g=k
   ·have hb:(g==k)=true:=beq_iff_eq.mpr h;simp only[g7,hb,if_pos (h.trans hk)]
   ·have hb:(g==k)=false:=beq_eq_false_iff_ne.mpr h;simp only[g7,hb,if_neg (fun e:g=f=>h (e.trans hk.symm))]
  ·rw[if_neg hk];by_cases h:g=k
   ·have hb:(g==k)=true:=beq_iff_eq.mpr h;simp only[g7,hb,if_neg (fun e:g=f=>hk (h.symm.trans e))]
   ·have hb:(g==k)=false:=beq_eq_false_iff_ne.mpr h;simp only[g7,hb];exact ih
theorem ko(f:Str)(v:V):∀fs:List (Str×V),f∈(bR f v fs).map (·.1)/\∀g,g∈fs.map (·.1)->g∈(bR f v fs).map (·.1)
 |[]=>⟨by simp[bR],fun g h=>by simp at h⟩
 | (k,x)::r=>by
  obtain⟨i1,i2⟩:=ko f v r;rw[show bR f v ((k,x)::r)=(if k=f then(k,v)::r else(k,x)::bR f v r)from rfl]
  by_cases hk:k=f
  ·rw[if_pos hk];subst hk;exact⟨by simp,fun g h=>by simpa using h⟩
  ·rw[if_neg hk];refine⟨?_,fun g h=>?_⟩
   ·rw[aN];exact cC _ i1
   ·rw[aN]at h ⊢;rcases bf.mp h with e|e
    ·exact bf.mpr (.inl e)
    ·exact cC _ (i2 g e)
theorem kU(f:Str)(v:V):∀fs:List (Str×V),(bR f v fs).length<=fs.length+1
 |[]=>by simp[bR]
 | (k,x)::r=>by
  have ih:=kU f v r;rw[show bR f v ((k,x)::r)=(if k=f then(k,v)::r else(k,x)::bR f v r)from rfl]
  by_cases hk:k=f
  ·rw[if_pos hk,eZ,eZ];omega
  ·rw[if_neg hk,eZ,eZ];omega
theorem g0.some_of{v:V}{o:Option Value}(r:g0 (some v) o):∃u,o=some u/\RelV v u:=by
 cases o with
 |none=>exact(show False from r).elim
 |some u=>exact⟨u,rfl,r⟩
theorem g0.none_of{o:Option Value}(r:g0 none o):o=none:=by
 cases o with
 |none=>rfl
 |some u=>exact(show False from r).elim
theorem vb{v:V}{u:Value}(r:RelV v u):PySem.W.handedIn u=true:=by
 cases v with
 |non=>cases(show u=Value.none from r);rfl
 |bl b=>cases(show u=Value.bool b from r);rfl
 |int i=>obtain⟨t,e⟩:=(show ∃t,u=Value.int i t from r);cases e;rfl
 |str x=>obtain⟨t,e⟩:=(show ∃t,u=Value.str x t from r);cases e;rfl
 |byt b=>obtain⟨t,e⟩:=(show ∃t,u=Value.bytes b t from r);cases e;rfl
 |flt b=>obtain⟨t,e⟩:=(show ∃t,u=Value.float b t from r);cases e;rfl
 |ref a=>cases(show u=Value.ref a from r);rfl
 |ty n=>cases(show u=Value.type n from r);rfl
section
variable{P:bh}{w:World}{H H':Hp}{h h':Heap}{a C dx:Addr}{fs fs':List (Str×V)}
theorem lN{K:Za}(hok:iV P w K H h)(e:H a=some (.ins C dx fs)):∃mA,sY h a dx C mA/\(∀f,g0 (fs.lookup f) (mA f))/\PySem.Within mA (fs.map (·.1))/\fs.length<=1000/\H dx=some (.own a):=by
 obtain⟨d,z,ne,ob,mA,n,r,q⟩:=(show bN P w K H h a (.ins C dx fs)from hok a _ e);exact⟨mA,⟨ob,n,ne⟩,r,q,z,d⟩
end
structure vw(K:Za)(C:Addr):Prop where
 pg:qq K C Str.empty=true
 hd:tH K C=true
 po:PySem.W.plainOver K C=true
 sa:bH K (.ref C) "__setattr__"=some (some (.builtin "object.__setattr__"))
theorem vw.get{K:Za}{C:Addr}(c:vw K C)(f:Str):qq K C f=true:=c.pg
def cR(K:Za)(C:Addr)(f:Str):Prop:=bH K (.ref C) f=some none
theorem cR.taker{K:Za}{C:Addr}{f:Str}(n:cR K C f):PySem.W.takerIn K C f=some none:=by
 unfold PySem.W.takerIn;rw[show bH K (.ref C) f=some none from n]
 rfl
structure yi(K:Za)(C:Addr)(m:Str)(f:Addr):Prop where
 at_:bH K (.ref C) m=some (some (.ref f))
 fn:qp K (.ref f)=true
 kp:eX K (.ref f)=true
section
variable{X:Cx}{J0:Zd}{σ:St}{H:Hp}{s:Shared}{a C dx:Addr}{fs:List (Str×V)}{f:Str}{v:V}{A:Around}{E:Zc}
theorem sO{b:Bool}{Q:Zc}(I:Inv X J0 σ H s)(e:H a=some (.ins C dx fs))(c:vw X.K C)(n:cR X.K C f)(l:fs.lookup f=some v)
  (h:∀u s',Inv X J0 σ H s'->RelV v u->Q u s'):wpAny (model X.prog X.w) A (getAttr (.ref a) f b) Q E s:=by
 obtain⟨mA,O,r,_,_,_⟩:=lN I.hok e;obtain⟨u,hu,ru⟩:=g0.some_of (v:=v) (o:=mA f) (by rw[<-l];exact r f);exact xN I.kIn O (c.get f) c.hd n hu (vb ru) (h u _ (I.tok _) ru)
theorem mJ{m:Str}{g:Addr}{pl:Sem Bool}{Q:Value×List Value->Shared->Prop}(I:Inv X J0 σ H s)(e:H a=some (.ins C dx fs))(c:vw X.K C)(k:yi X.K C m g)(l:fs.lookup m=none)
  (h:Q (.ref g,[.ref a]) s):wpAny (model X.prog X.w) A (kK (.ref a) m pl) Q E s:=by
 obtain⟨mA,O,r,_,_,_⟩:=lN I.hok e;have hn:mA m=none:=g0.none_of (by rw[<-l];exact r m);exact wo I.kIn O (c.get m) k.at_ k.fn hn h
theorem so{y:V}{u:Value}{Q:Unit->Shared->Prop}(I:Inv X J0 σ H s)(e:H a=some (.ins C dx fs))(c:vw X.K C)(n:cR X.K C f)(hl:fs.length<1000)(ry:RelV y u)
  (h:∀s',Inv X J0 σ (upd H a (.ins C dx (bR f y fs))) s'->Q () s'):wpAny (model X.prog X.w) A (setAttr (.ref a) f u) Q E s:=by
 obtain⟨mA,O,r,wi,_,ho⟩:=lN I.hok e;have hz:(fs.map (·.1)).length<=am:=by rw[ap,sizeLine_eq];omega
 refine xr I.kIn O c.sa c.po n.taker c.hd wi hz fun h' O' sb=>h _ ?_;have hd:∃o,h'.get? dx=some o:=let⟨o,_,_,e',_⟩:=O'.ns;⟨o,e'⟩;refine I.write (x:=a) (e:=dx) (by rw[e];exact eW) (.inr ho) (fun b q hb z=>(sb.2 b hb).trans z) hd ?_;refine⟨by rw[af O.ne];exact ho,?_,O.ne,O'.obj,_,O'.ns,fun g=>?_,fun g hg=>?_⟩
 ·have:=kU f y fs;omega
 ·show g0 ((bR f y fs).lookup g) (if g=f then some u else mA g)
  rw[da];by_cases q:g=f
  ·rw[if_pos q,if_pos q];exact ry
  ·rw[if_neg q,if_neg q];exact r g
 ·by_cases q:g=f
  ·rw[q];exact(ko f y fs).1
  ·refine(ko f y fs).2 g (wi g fun z=>hg ?_);show(if g=f then some u else mA g)=none
   rw[if_neg q];exact z
theorem Inv.made(I:Inv X J0 σ H s):Inv X J0 σ (upd (upd H s.heap.objs.size (.own (s.heap.objs.size+1))) (s.heap.objs.size+1) (.ins C s.heap.objs.size []))
  { s with heap:=(s.heap.push jx).push (kQ C s.heap.objs.size) }:=by
 have e1:(s.heap.push jx).get? s.heap.objs.size=some jx:=cA s.heap rfl;have e2:((s.heap.push jx).push (kQ C s.heap.objs.size)).get? (s.heap.objs.size+1)=some (kQ C s.heap.objs.size):=by
  have:=cA (s.heap.push jx) (o:=kQ C s.heap.objs.size) rfl;rwa[kJ]at this
 have e3:(s.heap.push jx).Ns s.heap.objs.size (fun _=>none):=⟨jx,#[],_,e1,rfl,(fun e he=>absurd he (by simp)),fun _=>rfl⟩;have I1:=I.laid (a:=s.heap.objs.size) (o:=.own (s.heap.objs.size+1)) (h':=s.heap.push jx) (t':=s.toks) (fun b u q=>aO _ q) (aE _) ⟨_,e1⟩;refine I1.laid (a:=s.heap.objs.size+1) (o:=.ins C s.heap.objs.size []) (t':=s.toks) (fun b u q=>aO _ q) (Nat.le_of_eq (kJ _ _)) ?_;have ne:s.heap.objs.size≠s.heap.objs.size+1:=bS (Nat.lt_succ_self _);refine⟨by rw[af ne,aa],cj _,ne,e2,fun _=>none,(Heap.Ns1.of_empty e3).at fun o q=>aO _ q,fun _=>eW,fun y hy=>absurd rfl hy⟩
theorem ye{prog:bh}{w:World}{env:Env}{e:Expr}{f:Str}{pos:Pos}{s:Shared}{Q:Zc}(hb:qk e f env (eval e env)=eval e env)
  (h:wpAny (model prog w) A (eval e env) (fun o s₁=>wpAny (model prog w) A (getAttr o f true) Q E s₁) E s):wpAny (model prog w) A (eval (.Attribute e f pos) env) Q E s :=
 Attribute_any_ h (by rw[arm_eval_Attribute,hb])
end
def nc(K:Za)(ta:TE)(f:Str):TE:=fun σ H Q=>ta σ H fun x H1=>∃a C dx fs v,x=.ref a/\H1 a=some (.ins C dx fs)/\vw K C/\cR K C f/\fs.lookup f=some v/\Q v H1
def o_(K:Za)(ta tv:TE)(f:Str):TS:=fun D σ H=>tv σ H fun y H1=>ta σ H1 fun x H2=>∃a C dx fs,x=.ref a/\H2 a=some (.ins C dx fs)/\vw K C/\cR K C f/\fs.length<1000 /\
 D.nx σ (upd H2 a (.ins C dx (bR f y fs)))
section
variable{X:Cx}{o e value:Expr}{f:Str}{pos pos' J5:Pos}{ta tv:TE}
theorem gE(he:PE X e ta)(hb:qk e f X.env (eval e X.env)=eval e X.env):PE X (.Attribute e f pos) (nc X.K ta f):=by
 intro J0 s σ H Q I h;refine ye hb (bL (he J0 s σ H _ I h) fun u s1 ⟨x,H1,I1,rx,a,C,dx,fs,v,ex,ea,c,n,l,q⟩=>?_);subst ex;obtain rfl:u=Value.ref a:=rx;exact sO I1 ea c n l fun u' s2 I2 ru=>⟨v,H1,I2,ru,q⟩
theorem ig(ha:PE X o ta)(hv:PE X value tv)(hs:lS value (some (.Attribute o f pos')) pos.line X.env=pure false):PS X (.Assign [.Attribute o f pos'] value pos) (o_ X.K ta tv f):=by
 intro J0 s σ H D I h;refine plainObj_wpAny_Assign_Attribute (bL (hv J0 s σ H _ I h) fun u s1 ⟨y,H1,I1,ry,q⟩=>bL (ha J0 s1 σ H1 _ I1 q) fun ov s2 ⟨x,H2,I2,rx,a,C,dx,fs,ex,ea,c,n,l,q2⟩=>?_) hs;subst ex;obtain rfl:ov=Value.ref a:=rx;exact so I2 ea c n l ry fun s3 I3=>⟨σ,_,I3,q2⟩
end
section
variable{X:Cx}{J0:Zd}{σ:St}{H:Hp}{s:Shared}{A:Around}{E:Zc}{Q:Zc}{c:Value}{b:Bool}
inductive jl(K:Za)(H:Hp):V->Value->Prop where
 |non:jl K H .non (.type "NoneType")
 |bl (x:Bool):jl K H (.bl x) (.type "bool")
 |int (i:Int):jl K H (.int i) (.type "int")
 |str (x:Str):jl K H (.str x) (.type "str")
 |flt (x:UInt64):jl K H (.flt x) (.type "float")
 |lst {a:Addr}{xs:List V}(e:H a=some (.lst xs)):jl K H (.ref a) (.type "list")
 |frz {a:Addr}{o:Obj}{xs:List V}(e:H a=some (.frz o (.lst xs))):jl K H (.ref a) (.type "list")
 |tup {a:Addr}{xs:List V}(e:H a=some (.tup xs)):jl K H (.ref a) (.type "tuple")
 |dK {a:Addr}{kvs:List (cI×V)}(e:H a=some (.dK kvs)):jl K H (.ref a) (.type "dict")
 |dT {a:Addr}{kvs:List (TK×V)}(e:H a=some (.dT kvs)):jl K H (.ref a) (.type "dict")
 |ins {a C dx:Addr}{fs:List (Str×V)}(e:H a=some (.ins C dx fs)) (cl:vw K C) (ha:bH K (.ref C) "__class__"=some (some (.builtin "object.__class__")))
   (hn:tG K (.builtin "object.__class__") "__get__"=some (some (.builtin "getset_descriptor.__get__"))) (htk:PySem.W.takesIn K (.builtin "object.__class__")=some true)
   (hm:PySem.W.mroIn K C (.type "object")=some true):jl K H (.ref a) (.ref C)
theorem u8{x:V}{u t:Value}(I:Inv X J0 σ H s)(rx:RelV x u)(ty:jl X.K H x t)(e:qj X.K t c=some b)(h:∀tk,Q (.bool b) { s with toks:=tk }):
  wpAny (model X.prog X.w) A (call (.builtin "isinstance") [u,c]) Q E s:=by
 cases ty with
 |non=>cases(show u=Value.none from rx);exact fU PySem.W.kitx_none I.kIn eW e (fun z=>nomatch z) h
 |bl y=>cases(show u=Value.bool y from rx);exact fU PySem.W.kitx_bool I.kIn eW e (fun z=>nomatch z) h
 |int i=>obtain⟨t,q⟩:=(show ∃t,u=Value.int i t from rx);cases q;exact fU PySem.W.kitx_int I.kIn eW e (fun z=>nomatch z) h
 |str y=>obtain⟨t,q⟩:=(show ∃t,u=Value.str y t from rx);cases q;exact fU PySem.W.kitx_str I.kIn eW e (fun z=>nomatch z) h
 |flt y=>obtain⟨t,q⟩:=(show ∃t,u=Value.float y t from rx);cases q;exact fU PySem.W.kitx_float I.kIn eW e (fun z=>nomatch z) h
 |@lst a xs ea =>
  cases(show u=Value.ref a from rx);obtain⟨_,_,n,_,h1⟩:=(show bN X.prog X.w X.K H s.heap a (.lst xs)from I.hok a _ ea);exact fU PySem.W.kitx_list I.kIn ⟨_,h1,rfl⟩ e (fun z=>nomatch z) h
 |@frz a ob xs ea =>
  cases(show u=Value.ref a from rx);obtain⟨_,_,_,n,_,h1⟩:=(show bN X.prog X.w X.K H s.heap a (.frz ob (.lst xs))from I.hok a _ ea);exact fU PySem.W.kitx_list I.kIn ⟨_,h1,rfl⟩ e (fun z=>nomatch z) h
 |@tup a xs ea =>
  cases(show u=Value.ref a from rx);obtain⟨_,_,_,p⟩:=(show bN X.prog X.w X.K H s.heap a (.tup xs)from I.hok a _ ea);obtain⟨o,h1,h2,_⟩:=p;exact fU PySem.W.kitx_tuple I.kIn ⟨o,h1,h2⟩ e (fun z=>nomatch z) h
 |@dK a kvs ea =>
  cases(show u=Value.ref a from rx);obtain⟨_,_,vs,_,p⟩:=(show bN X.prog X.w X.K H s.heap a (.dK kvs)from I.hok a _ ea);obtain⟨o,es,ep,h1,h2,_⟩:=p;exact fU PySem.W.kitx_dict I.kIn ⟨o,h1,h2.1⟩ e (fun z=>nomatch z) h
 |@dT a kvs ea =>
  cases(show u=Value.ref a from rx);obtain⟨_,_,xs,_,o,es,ep,h1,h2,_⟩:=(show bN X.prog X.w X.K H s.heap a (.dT kvs)from I.hok a _ ea);exact fU PySem.W.kitx_dict I.kIn ⟨o,h1,h2.1⟩ e (fun z=>nomatch z) h
 |@ins a C dx fs ea cl ha hn htk hm =>
  cases(show u=Value.ref a from rx);obtain⟨mA,O,_⟩:=lN I.hok ea;obtain⟨od,J,_⟩:=O.look;exact fU (PySem.W.kitx_own (cl.get _) cl.hd ha hn htk hm) I.kIn J e (fun z=>nomatch z) h
end
end L2
namespace L2
open PySem PySem.Spec PyProof.Rows
structure cN(k:Nat)(A:Around):Prop where
 hd:A.handled=none
 dp:A.depth+3 * k+5<recursionLimit
 un:A.units+16 * k+200<cLine
theorem cN.mono{j k:Nat}{A:Around}(r:cN k A)(h:j<=k):cN j A:=⟨r.hd,by have:=r.dp;omega,by have:=r.un;omega⟩
theorem cN.deeper{k:Nat}{A:Around}(r:cN (k+1) A)(env:Env):cN k (A.deeper env) :=
 ⟨r.hd,by have:=r.dp;show A.depth+1+3 * k+5<_;omega,by have:=r.un;show A.units+3+16 * k+200<_;omega⟩
theorem sH{A:Around}{C:Addr}{us:Zf}{kw:List (Str×Value)}:(A.under (.builtin "type.__call__" ⟨.ref C::us,kw⟩)).depth=A.depth+1:=by
 first|rfl|simp[Around.under,Code.weight,Code.isCreation,Code.isGuard,Code.isCaller,Code.frames,Code.isFrame,guardIds]
theorem sG{A:Around}{C:Addr}{us:Zf}{kw:List (Str×Value)}:(A.under (.builtin "type.__call__" ⟨.ref C::us,kw⟩)).units=A.units+1:=by
 first|rfl|simp[Around.under,Code.cUnits,Code.frames,Code.isFrame]
theorem cN.make{k:Nat}{A:Around}(r:cN (k+1) A)(C:Addr)(us:Zf)(kw:List (Str×Value)):cN k (A.under (.builtin "type.__call__" ⟨.ref C::us,kw⟩)) :=
 ⟨r.hd,by have:=r.dp;rw[sH];omega,by have:=r.un;rw[sG];omega⟩
theorem cN.depth{k:Nat}{A:Around}(r:cN k A):A.depth<recursionLimit:=by have:=r.dp;omega
theorem cN.units{k:Nat}{A:Around}(r:cN k A):A.units+64<cLine:=by have:=r.un;omega
def bG:TA:=fun _ H Q=>Q [] H
def ay(ta:TE)(tr:TA):TA:=fun σ H Q=>ta σ H fun x H1=>tr σ H1 fun xs H2=>Q (x::xs) H2
abbrev aJ(a:TE):TA:=ay a bG
abbrev aK(a b:TE):TA:=ay a (ay b bG)
abbrev hW(a b c:TE):TA:=ay a (ay b (ay c bG))
section
variable{X:Cx}{e:Expr}{es:List Expr}{te:TE}{t:TA}{pos:Pos}
theorem eo:PA X [] bG:=fun _ _ _ _ H Q I h=>Calls.spliced_nil ⟨[],H,I,.nil,h⟩
theorem bw(ha:PE X e te)(hr:PA X es t)(hs:ax (e::es) X.env=(false,eval e X.env)::ax es X.env:=by rfl):PA X (e::es) (ay te t):=by
 intro pos J0 s σ H Q I h;rw[hs];show wpAny _ _ (spliced ((false,eval e X.env)::backTo pos (ax es X.env))) _ _ s;refine Calls.spliced_cons (bL (ha J0 s σ H _ I h) fun u s1 ⟨x,H1,I1,r1,q1⟩=>?_);exact bL (hr pos J0 s1 σ H1 _ I1 q1) fun us s2 ⟨xs,H2,I2,r2,q2⟩=>⟨x::xs,H2,I2,.cons r1 r2,q2⟩
def gb(t:TA):TE:=fun σ H Q=>t σ H fun xs H1=>xs.length<=am/\∀p,H1 p=none->Q (.ref p) (upd H1 p (.tup xs))
def gw(t:TA):TE:=fun σ H Q=>t σ H fun xs H1=>xs.length<=am/\∀p,H1 p=none->Q (.ref p) (upd H1 p (.lst xs))
theorem cP{x1}(h:PA X es t):PE X (.Tuple es x1 pos) (gb t):=by
 intro J0 s σ H Q I hq;refine wpAny_Tuple_spliced (bL (h pos J0 s σ H _ I hq) fun us s1 ⟨xs,H1,I1,r,z,q⟩=>⟨by rw[<-r.length];exact z,?_⟩);have hf:H1 s1.heap.objs.size=none:=I1.hok.fresh (aE _);refine⟨.ref s1.heap.objs.size,upd H1 s1.heap.objs.size (.tup xs),I1.laid (t':=s1.toks) (fun b u e=>aO _ e) (aE _) ?_,rfl,q _ hf⟩;exact⟨z,us,r,⟨_,cA _ rfl,rfl,_,rfl⟩⟩
theorem cz(h:PA X es t):PE X (.List es pos) (gw t):=by
 intro J0 s σ H Q I hq;refine wpAny_List_spliced (bL (h pos J0 s σ H _ I hq) fun us s1 ⟨xs,H1,I1,r,z,q⟩=>⟨by rw[<-r.length];exact z,?_⟩);have hf:H1 s1.heap.objs.size=none:=I1.hok.fresh (aE _);refine⟨.ref s1.heap.objs.size,upd H1 s1.heap.objs.size (.lst xs),I1.laid (t':=s1.toks) (fun b u e=>aO _ e) (aE _) ?_,rfl,q _ hf⟩;exact⟨z,us,0,r,cA _ rfl⟩
end
abbrev Sp:=List V->Hp->VK->XK->Prop
abbrev vC:=List Env->Hp->Shared->XK->Value->Shared->Prop
structure tq(P:bh)(w:World)(K:Za)(mg:Str->Option Value)(base:Heap)(A:Around)(outer:List Env)(s:Shared)(H:Hp):Prop where
 frames:A.frames=some outer
 mod:Mod K mg base
 bs:∀b o,base.get? b=some o->s.heap.get? b=some o/\H b=none
 bsz:base.objs.size<=s.heap.objs.size
 funs:s.heap.FunFrames base outer
 frf:∀b∈vB outer,H b=none
 hok:iV P w K H s.heap
 bare:jy s.gens
def CE(outer:List Env)(P:bh)(w:World)(K:Za)(H:Hp)(s:Shared)(Q:VK)(u:Value)(s':Shared):Prop :=
 ∃v H',s'.os=s.os/\jy s'.gens/\Un (vB outer) [] H H' s.heap s'.heap/\iV P w K H' s'.heap/\RelV v u/\Q v H'
def CR(CX:vC)(outer:List Env)(P:bh)(w:World)(K:Za)(H:Hp)(s:Shared)(Q:VK)(E:XK)(r:Result)(s':Shared):Prop :=
 match r with
 |.ok (.ret u)=>CE outer P w K H s Q u s'
 |.ok _=>False
 |.error e=>CX outer H s E e s'
structure iz(P:bh)(w:World)(K:Za)(mg:Str->Option Value)(base:Heap)(CX:vC)(k:Nat)(f:Addr)(fd:gR)(ps:Zb)(sp:Sp):Prop where
 len:∀vs H Q E,sp vs H Q E->vs.length=ps.length
 run:∀(A:Around) (outer:List Env) (s:Shared) (H:Hp) (args:Args) (us:Zf) (vs:List V) (Q:VK) (E:XK),cN k A->tq P w K mg base A outer s H->lQ s fd args (ps.zip us)->aH vs us->sp vs H Q E ->
  zzl73 (model P w) A (.call (.ref f) args) (CR CX outer P w K H s Q E) s
theorem tq.make{P:bh}{w:World}{K:Za}{mg:Str->Option Value}{base:Heap}{A:Around}{outer:List Env}{s:Shared}{H:Hp}(e:tq P w K mg base A outer s H)(C:Addr)(us:Zf)(kw:List (Str×Value)):
  tq P w K mg base (A.under (.builtin "type.__call__" ⟨.ref C::us,kw⟩)) outer s H:=⟨by first|exact e.frames|(simpa[Around.under,Code.envs,Code.isFrame,pushEnvs]using e.frames),e.mod,e.bs,e.bsz,e.funs,e.frf,e.hok,e.bare⟩
section
variable{X:Cx}{J0:Zd}{σ:St}{H:Hp}{s s':Shared}
theorem Inv.env0(I:Inv X J0 σ H s):tq X.prog X.w X.K X.mg X.base X.A X.stack s H :=
 ⟨I.ok.frames,I.ok.mod,I.bs,cn I.ok.bsz I.sz,I.stack,I.stkFree,I.hok,I.bare⟩
theorem Inv.after{Q:VK}{u:Value}(I:Inv X J0 σ H s)(h:CE X.stack X.prog X.w X.K H s Q u s'):EP X J0 σ Q u s':=by
 obtain⟨v,H',os,bare,un,hok,r,q⟩:=h;obtain⟨hh,g,d,t,os'⟩:=s';obtain rfl:os'=s.os:=os;exact⟨v,H',I.call (h':=hh) (g':=g) (d':=d) (t':=t) (ch:=[]) un hok bare (fun b z=>absurd z (by simp)),r,q⟩
end
def yo(sp:Sp)(dvs:List V)(E:XK)(t:TA):TE:=fun σ H Q=>t σ H fun vs H1=>sp (vs++dvs) H1 Q E
def gd(C:Addr)(m:Str)(sp:Sp)(dvs:List V)(E:XK)(ta:TE)(t:TA):TE:=fun σ H Q=>ta σ H fun x H1=>∃a dx fs,x=.ref a/\H1 a=some (.ins C dx fs)/\fs.lookup m=none /\
 t σ H1 fun vs H2=>sp (x::(vs++dvs)) H2 Q E
def vM(C:Addr)(sp:Sp)(dvs:List V)(E:XK)(t:TA):TE:=fun σ H Q=>t σ H fun vs H1=>∀x dx,H1 x=none->H1 dx=none->dx≠x ->
 sp (.ref x::(vs++dvs)) (upd (upd H1 dx (.own x)) x (.ins C dx [])) (fun v H2=>v=.non/\Q (.ref x) H2) E
def Binds(K:Za)(fd:gR)(ps:Zb)(ds:Zf):Prop :=
 ∀(s:Shared) (us:Zf),K.In s.heap->(us++ds).length=ps.length->lQ s fd ⟨us,[]⟩ (ps.zip (us++ds))
theorem Binds.all{K:Za}{fd:gR}{ps:Zb}(h:∀us:List Value,us.length=ps.length->bindArgs fd ⟨us,[]⟩=pure (ps.zip us)):Binds K fd ps []:=fun s us _ hl=>by
 rw[iX]at hl ⊢;exact .of_eq (h us hl)
def jn(CX:vC)(X:Cx)(E:XK):Prop:=∀(J0:Zd) (σ:St) (H:Hp) (s:Shared) (e:Value) (s':Shared),Inv X J0 σ H s->CX X.stack H s E e s'->X.xe e s'
section
variable{X:Cx}{CX:vC}{k:Nat}{f C:Addr}{fd:gR}{ps:Zb}{sp:Sp}{dvs:List V}{ds:Zf}{E:XK}{x m:Str}{p pos J2:Pos}{e o:Expr}{es:List Expr}{ta:TE}{t:TA}
theorem sr{J0:Zd}{σ:St}{H:Hp}{s:Shared}{Q:VK}{us:Zf}{vs:List V}(F:iz X.prog X.w X.K X.mg X.base CX k f fd ps sp)(hr:cN k X.A)(hb:Binds X.K fd ps ds)(hd:aH dvs ds)(hx:jn CX X E)
  (I:Inv X J0 σ H s) (r:aH vs us) (h:sp (vs++dvs) H Q E):wpAny (model X.prog X.w) X.A (call (.ref f) us) (EP X J0 σ Q) X.xe s:=by
 have r2:aH (vs++dvs) (us++ds):=r.append hd;have hl:(us++ds).length=ps.length:=by rw[<-r2.length];exact F.len _ _ _ _ h
 refine wpAny_call (tF (F.run X.A X.stack s H ⟨us,[]⟩ (us++ds) (vs++dvs) Q E hr I.env0 (hb s us I.kIn hl) r2 h) fun r s' hq=>?_);cases r with
 |error e=>exact hx J0 σ H s e s' I hq
 |ok fl =>
  cases fl with
  |ret u=>exact I.after hq
  |next=>exact fV hq
  |brk=>exact fV hq
  |cont=>exact fV hq
theorem xI(F:iz X.prog X.w X.K X.mg X.base CX k f fd ps sp)(hr:cN k X.A)(hg:Gl X x)(hm:X.mg x=some (.ref f))(hk:eX X.K (.ref f)=true)(hb:Binds X.K fd ps ds)(hd:aH dvs ds)(hx:jn CX X E)
  (ha:PA X (e::es) t) (hdb:(x==("__debug__":Str))=false:=by decide) (he:ax (e::es) X.env=(false,eval e X.env)::ax es X.env:=by rfl) (hpl:(backTo pos (ax es X.env)).any (·.1)=false:=by rfl) :
  PE X (.Call (.Name x p) (e::es) [] pos) (yo sp dvs E t):=by
 intro J0 s σ H Q I h;refine tE (pD I hg hm ?_ hdb);refine PySem.W.callWith_K (h₀:=X.base) I.ok.mod.kin hk (bL (ha pos J0 s σ H _ I h) fun us s1 ⟨vs,H1,I1,r,q⟩=>⟨I1.kIn,?_⟩) he hpl;exact sr F hr hb hd hx I1 r q
theorem xE{pl:Sem Bool}(he:PE X o ta)(c:vw X.K C)(hm:yi X.K C m f)(F:iz X.prog X.w X.K X.mg X.base CX k f fd ps sp)(hr:cN k X.A)(hb:Binds X.K fd ps ds)(hd:aH dvs ds)(hx:jn CX X E)(ha:PA X (e::es) t)
  (hst:ax (e::es) X.env=(false,eval e X.env)::ax es X.env:=by rfl) (hpl:(backTo pos (ax es X.env)).any (·.1)=false:=by rfl)
  (ht:eval (.Call (.Attribute o m J2) (e::es) [] pos) X.env=(do
   let ov <- eval o X.env
   kO J2.atName
   let(f,first) <- g8 [ov] (kK ov m pl)
   nJ pos f first (backTo pos (ax (e::es) X.env)) (kI pos (kH [] X.env))):=by rfl) :
  PE X (.Call (.Attribute o m J2) (e::es) [] pos) (gd C m sp dvs E ta t):=by
 intro J0 s σ H Q I h;refine PySem.W.methodCall_KW (pl:=pl) (bL (he J0 s σ H _ I h) fun u s1 ⟨x,H1,I1,rx,a,dx,fs,ex,ea,l,q⟩=>?_) ht;subst ex;obtain rfl:u=Value.ref a:=rx;refine mJ I1 ea c hm l ?_;refine PySem.W.callWith_K (first:=[.ref a]) (h₀:=X.base) I.ok.mod.kin hm.kp (bL (ha pos J0 s1 σ H1 _ I1 q) fun us s2 ⟨vs,H2,I2,r,q2⟩=>⟨I2.kIn,?_⟩) hst hpl
 exact sr (us:=.ref a::us) (vs:=.ref a::vs) F hr hb hd hx I2 (.cons rfl r) q2
theorem v5{pl:Sem Bool}(he:PE X o ta)(c:vw X.K C)(hm:yi X.K C m f)(F:iz X.prog X.w X.K X.mg X.base CX k f fd ps sp)(hr:cN k X.A)(hb:Binds X.K fd ps ds)(hd:aH dvs ds)(hx:jn CX X E)
  (ht:eval (.Call (.Attribute o m J2) [] [] pos) X.env=(do
   let ov <- eval o X.env
   kO J2.atName
   let(f,first) <- g8 [ov] (kK ov m pl)
   nJ pos f first (backTo pos (ax [] X.env)) (kI pos (kH [] X.env))):=by rfl) :
  PE X (.Call (.Attribute o m J2) [] [] pos) (gd C m sp dvs E ta bG):=by
 intro J0 s σ H Q I h;refine PySem.W.methodCall_KW (pl:=pl) (bL (he J0 s σ H _ I h) fun u s1 ⟨x,H1,I1,rx,a,dx,fs,ex,ea,l,q⟩=>?_) ht;subst ex;obtain rfl:u=Value.ref a:=rx;refine mJ I1 ea c hm l ?_;exact PySem.W.callWith_K0 (first:=[.ref a]) I1.kIn hm.kp (sr (us:=[.ref a]) (vs:=[.ref a]) F hr hb hd hx I1 (.cons rfl .nil) q)
structure Mk(K:Za)(C f:Addr):Prop where
 makes:qo K C=true
 init:bH K (.ref C) "__init__"=some (some (.ref f))
 fn:qp K (.ref f)=true
 kp:eX K (.ref C)=true
theorem vP{J0:Zd}{σ:St}{H:Hp}{s:Shared}{Q:VK}{us:Zf}{vs:List V}(M:Mk X.K C f)(F:iz X.prog X.w X.K X.mg X.base CX k f fd ps sp)(hr:cN (k+1) X.A)(hb:Binds X.K fd ps ds)(hd:aH dvs ds)
  (hx:jn CX X E) (I:Inv X J0 σ H s) (r:aH vs us)
  (h:∀x dx,H x=none->H dx=none->dx≠x->sp (.ref x::(vs++dvs)) (upd (upd H dx (.own x)) x (.ins C dx [])) (fun v H2=>v=.non/\Q (.ref x) H2) E) :
  wpAny (model X.prog X.w) X.A (call (.ref C) us) (EP X J0 σ Q) X.xe s:=by
 have hq:=h (s.heap.objs.size+1) s.heap.objs.size (I.hok.fresh (Nat.le_succ _)) (I.hok.fresh (aE _)) (bS (Nat.lt_succ_self _));have I2:=Inv.made (C:=C) I;have r2:aH (V.ref (s.heap.objs.size+1)::(vs++dvs)) (Value.ref (s.heap.objs.size+1)::(us++ds)):=.cons rfl (r.append hd);have hl:(Value.ref (s.heap.objs.size+1)::us++ds).length=ps.length:=by
  have e:=r2.length;rw[F.len _ _ _ _ hq]at e;exact e.symm
 refine wpAny_call (we (f:=f) I.kIn M.makes M.init (beq_iff_eq.mp M.fn) (tF (F.run _ X.stack _ _ ⟨Value.ref (s.heap.objs.size+1)::us,[]⟩ (Value.ref (s.heap.objs.size+1)::(us++ds)) _ _ E (hr.make C us [])
  (I2.env0.make C us []) (hb _ (Value.ref (s.heap.objs.size+1)::us) I2.kIn hl) r2 hq) fun r s' hq'=>?_))
 cases r with
 |error e=>exact hx J0 σ _ _ e s' I2 hq'
 |ok fl =>
  cases fl with
  |ret u =>
   obtain⟨v,H',I3,rv,ev,q3⟩:=I2.after hq';subst ev;exact⟨rv,⟨V.ref (s.heap.objs.size+1),H',I3,rfl,q3⟩⟩
  |next=>exact fV hq'
  |brk=>exact fV hq'
  |cont=>exact fV hq'
theorem xF(M:Mk X.K C f)(F:iz X.prog X.w X.K X.mg X.base CX k f fd ps sp)(hr:cN (k+1) X.A)(hg:Gl X x)(hm:X.mg x=some (.ref C))(hb:Binds X.K fd ps ds)(hd:aH dvs ds)(hx:jn CX X E)
  (ha:PA X (e::es) t) (hdb:(x==("__debug__":Str))=false:=by decide) (he:ax (e::es) X.env=(false,eval e X.env)::ax es X.env:=by rfl) (hpl:(backTo pos (ax es X.env)).any (·.1)=false:=by rfl) :
  PE X (.Call (.Name x p) (e::es) [] pos) (vM C sp dvs E t):=by
 intro J0 s σ H Q I h;refine tE (pD I hg hm ?_ hdb);refine PySem.W.callWith_K (h₀:=X.base) I.ok.mod.kin M.kp (bL (ha pos J0 s σ H _ I h) fun us s1 ⟨vs,H1,I1,r,q⟩=>⟨I1.kIn,?_⟩) he hpl;exact vP M F hr hb hd hx I1 r q
end
structure gL(N P:Zb)(sc:Scope):Prop where
 kind:sc.kind=.function
 co:sc.isCoroutine=false
 gen:sc.isGenerator=false
 nd:N.Nodup
 pre:N.take P.length=P
 par:∀x∈P,sc.names.lookup x=some .local∨sc.names.lookup x=some .cell
 nofree:∀y∈sc.names,y.2≠.free
theorem om{kindOf:Str->Option fT}{x:Str}:∀{binds:List (Str×Value)}{m:Str->Option Value},(∀v,(x,v)∉binds)->bindL kindOf binds m x=m x
 |[],_,_=>rfl
 | (n,v)::r,m,h=>by
  unfold bindL;rw[om fun w hw=>h w (cC _ hw)];split
  ·have:x≠n:=by rintro rfl;exact h v eG
   simp[this]
  ·rfl
theorem oo{kindOf:Str->Option fT}{x:Str}:∀{binds:List (Str×Value)}{m:Str->Option Value},(∀v,(x,v)∉binds)->bindC kindOf binds m x=m x
 |[],_,_=>rfl
 | (n,v)::r,m,h=>by
  unfold bindC;rw[oo fun w hw=>h w (cC _ hw)];split
  ·rfl
  ·have:x≠n:=by rintro rfl;exact h v eG
   simp[this]
theorem on{kindOf:Str->Option fT}{x:Str}{v:Value}:∀{P:Zb}{vs:Zf}{i:Nat}{m:Str->Option Value},P.Nodup->P[i]?=some x->vs[i]?=some v->kindOf x=some .local ->
  bindL kindOf (P.zip vs) m x=some v
 |[],_,_,_,_,h,_,_=>by simp at h
 |_::_,[],_,_,_,_,h,_=>by simp at h
 |p::P,w::vs,0,m,nd,h1,h2,hk=>by
  simp at h1 h2;subst h1;subst h2;show bindL kindOf ((p,w)::P.zip vs) m p=_;unfold bindL;rw[om fun v hv=>(kG.mp nd).1 (qh hv).1,if_pos hk];simp
 |p::P,w::vs,i+1,m,nd,h1,h2,hk=>by
  show bindL kindOf ((p,w)::P.zip vs) m x=_;unfold bindL;exact on (i:=i) (kG.mp nd).2 (by simpa using h1) (by simpa using h2) hk
theorem oq{kindOf:Str->Option fT}{x:Str}{v:Value}:∀{P:Zb}{vs:Zf}{i:Nat}{m:Str->Option Value},P.Nodup->P[i]?=some x->vs[i]?=some v->kindOf x≠some .local ->
  bindC kindOf (P.zip vs) m x=some v
 |[],_,_,_,_,h,_,_=>by simp at h
 |_::_,[],_,_,_,_,h,_=>by simp at h
 |p::P,w::vs,0,m,nd,h1,h2,hk=>by
  simp at h1 h2;subst h1;subst h2;show bindC kindOf ((p,w)::P.zip vs) m p=_;unfold bindC;rw[oo fun v hv=>(kG.mp nd).1 (qh hv).1,if_neg hk];simp
 |p::P,w::vs,i+1,m,nd,h1,h2,hk=>by
  show bindC kindOf ((p,w)::P.zip vs) m x=_;unfold bindC;exact oq (i:=i) (kG.mp nd).2 (by simpa using h1) (by simpa using h2) hk
def start(N:Zb)(vs:List V):St:=vs.map some++tD (N.length-vs.length) none
def sQ(CX:vC)(P:bh)(w:World)(K:Za)(mg:Str->Option Value)(base:Heap)(N:Zb)(qual:Str)(scope:Scope)(f:Addr)(cd:Value)(A:Around)(outer:List Env)(s:Shared)(H:Hp)(E:XK):Cx where
 prog:=P
 w:=w
 K:=K
 mg:=mg
 base:=base
 A:=A.deeper (envOfC qual scope s.heap.objs.size f cd)
 N:=N
 s₀:=s
 H₀:=H
 env:=envOfC qual scope s.heap.objs.size f cd
 outer:=outer
 stack:=envOfC qual scope s.heap.objs.size f cd::outer
 ex:=[]
 calm:=true
 fn:=fun _=>true
 pn:=[]
 xe:=fun e s'=>wpAny (model P w) (A.deeper (envOfC qual scope s.heap.objs.size f cd)) (leaving (envOfC qual scope s.heap.objs.size f cd) e) (fun _ s''=>CX outer H s E e s'') (fun e' s''=>CX outer H s E e' s'') s'
theorem rC{sc:Scope}{n:Nat}{x:Str}(h:sc.names.lookup x=some .cell):∃c,(cellsFrom n sc.names []).lookup x=some c:=by
 have q:=PySem.W.cellsFrom_some sc.names n [] (.inl h);exact tz.mp q
theorem u_{CX:vC}{P:bh}{w:World}{K:Za}{mg:Str->Option Value}{base:Heap}{N ps:Zb}{qual:Str}{scope:Scope}{f:Addr}{cd:Value}{A:Around}{outer:List Env}{s s1:Shared}{H:Hp}{E:XK}{us:Zf}{vs:List V}
  (S:gL N ps scope) (hd:A.handled=none) (e0:tq P w K mg base A outer s H) (hl:vs.length=ps.length) (r:aH vs us)
  (x:InCallC s s.heap.objs.size (bindL (envOfC qual scope s.heap.objs.size f cd).kindOf (ps.zip us) fun _=>none) (cellsFrom (s.heap.objs.size+1) scope.names []) (bindC (envOfC qual scope s.heap.objs.size f cd).kindOf (ps.zip us) fun _=>none) s1) :
  Inv (sQ CX P w K mg base N qual scope f cd A outer s H E) [] (start N vs) H s1:=by
 have hpl:ps.length<=N.length:=by have:=congrArg List.length S.pre;rw[be]at this;omega
 obtain⟨h1,tk,rfl,hk⟩:=x.done;have noA:∀b:Addr,b∉(sQ CX P w K mg base N qual scope f cd A outer s H E).ex:=fun b z=>absurd (show b∈([]:Ze)from z) (by simp);refine⟨⟨e0.mod,S.kind,rfl,rfl,aE _,fun y z c h1 h2=>?_,fun y hy=>?_,fun y c _ h=>?_,fun _=>hd,Around.frames_deeper e0.frames,.inr ⟨rfl,rfl⟩,fun b z=>absurd z (noA b),e0.bs,e0.bsz,fun b _ _=>noA b,fun b z=>absurd z (noA b),e0.funs,e0.frf⟩,
  rfl,e0.bare,Un.kept hk,⟨_,x.toInCall.ns,fun i y v h1 h2 h3=>?_⟩,fun y c h=>⟨_,x.cell y c h⟩,e0.hok.fresh (aE _),fun y c h=>?_,fun p hp=>absurd (show p∈([]:Zd)from hp) (by simp),e0.hok.kept hk,?_⟩
 ·exact name_of_addr x.apart (qg h1) (qg h2)
 ·have hy:scope.names.lookup y=some .cell∨scope.names.lookup y=some .free:=hy;rcases hy with hy|hy
  ·exact rC hy
  ·exact absurd rfl (S.nofree _ (qg hy))
 ·exact f8 (x.above y c (qg h))
 ·have hi:i<vs.length:=by
   unfold start at h2;by_cases hi:i<vs.length
   ·exact hi
   ·rw[nI (by simpa using hi)]at h2;rw[List.getElem?_replicate]at h2;split at h2<;>cases h2
  have ha:vs[i]?=some v:=by
   unfold start at h2;rw[mj (by simpa using hi),cD]at h2;cases e:vs[i]? with
   |none=>rw[e]at h2;cases h2
   |some a=>rw[e]at h2;cases h2;rfl
  obtain⟨u,hu,rv⟩:=r.get ha;have hp:ps[i]?=some y:=by
   rw[<-S.pre,List.getElem?_take_of_lt (by omega)];exact h1
  have ndP:ps.Nodup:=by rw[<-S.pre];exact S.nd.sublist (List.take_sublist _ _)
  refine⟨u,rv,?_⟩;rcases S.par y (bT hp)with k|k
  ·exact .inl ⟨k,on ndP hp hu k⟩
  ·obtain⟨c,e⟩:=rC (n:=s.heap.objs.size+1) k;refine .inr ⟨.inl k,c,e,?_⟩;have q:=x.cell y c e;rw[oq ndP hp hu (by show scope.names.lookup y≠_;rw[k];decide)]at q;exact q
 ·exact e0.hok.fresh (f8 (x.above y c (qg h)))
 ·unfold start;show _=N.length;rw[bC,ap,oS];omega
theorem zT{CX:vC}{P:bh}{w:World}{K:Za}{mg:Str->Option Value}{base:Heap}{k:Nat}{f:Addr}{name qual:Str}{params:Arguments}{body:List Stmt}{scope:Scope}{dV kV doc pm cdv ct oc:Value}{an od:Option Addr}
  {osl:Array (Option Value)}{N ps:Zb}{sp:Sp}(lk:K.lookup f=some ⟨oc,od,.func (fg name qual params body scope dV kV doc pm an cdv ct),osl⟩) (hcd:i6 K cdv qual=true) (S:gL N ps scope)
  (len:∀vs H Q E,sp vs H Q E->vs.length=ps.length)
  (hbody:∀(A:Around) (outer:List Env) (s:Shared) (H:Hp) (vs:List V) (Q:VK) (E:XK),cN k (A.deeper (envOfC qual scope s.heap.objs.size f cdv))->sp vs H Q E ->
   ∃t,rN (sQ CX P w K mg base N qual scope f cdv A outer s H E) body t/\t (cp Q) (start N vs) H) :
  iz P w K mg base CX (k+1) f (fg name qual params body scope dV kV doc pm an cdv ct) ps sp:=by
 refine⟨len,fun A outer s H args us vs Q E hr e0 hb r hsp=>?_⟩;have hl:=len _ _ _ _ hsp;have KX:K.In s.heap:=e0.mod.kin.keeps fun b o e=>(e0.bs b o e).1;have lim:s.heap.NoLimit:=e0.mod.nolimit.keeps fun b o e=>(e0.bs b o e).1;have hkind:∀y∈ps.zip us,scope.names.lookup y.1=some .local∨(scope.names.lookup y.1=some .cell/\((cellsFrom (s.heap.objs.size+1) scope.names []).lookup y.1).isSome=true):=fun⟨n,v⟩ hy=>by
  rcases S.par n (qh hy).1 with q|q
  ·exact .inl q
  ·exact .inr ⟨q,PySem.W.cellsFrom_some _ _ _ (.inl q)⟩
 refine codeAny_call_function hr.depth (KX _ _ lk) rfl S.co S.gen rfl (PySem.W.codeRec_of KX hcd) (hb _ _ _ _ ?_);refine wpAny_newFunctionEnv_cells S.kind hkind fun env he s1 x=>?_;subst he;refine⟨lim.keeps x.toInCall.keep,codeAny_func ?_⟩;obtain⟨t,ht,hq⟩:=hbody A outer s H vs Q E (hr.deeper _) hsp;have I:Inv (sQ CX P w K mg base N qual scope f cdv A outer s H E) [] (start N vs) H s1:=u_ S hr.hd e0 hl r x;refine fW (ht [] s1 (start N vs) H _ I hq) (fun fl s' hs=>?_) fun e s' hs=>hs;have fin:∀{σ':St}{H':Hp}{v:V}{u:Value},Inv (sQ CX P w K mg base N qual scope f cdv A outer s H E) [] σ' H' s'->RelV v u->Q v H'->CE outer P w K H s Q u s' :=
  fun{σ' H' v u} J rv q=>⟨v,H',J.os,J.bare,J.base,J.hok,rv,q⟩
 cases fl with
 |ret u =>
  obtain⟨v,σ',H',J,rv,q⟩:=hs;exact fin J rv q
 |next =>
  obtain⟨σ',H',J,q⟩:=hs;exact fin (v:=V.non) (u:=Value.none) J rfl q
 |brk =>
  obtain⟨_,_,_,q⟩:=hs;exact fV q
 |cont =>
  obtain⟨_,_,_,q⟩:=hs;exact fV q
end L2
namespace L2
open PySem PySem.Spec PyProof.Rows
section
variable{X:Cx}{x:Str}{p pos:Pos}{e:Expr}{es:List Expr}{t:TA}{id T:String}{r:List V->Hp->VK->Prop}
def cJ(r:List V->Hp->VK->Prop)(t:TA):TE:=fun σ H Q=>t σ H fun vs H1=>r vs H1 Q
theorem qS(hc:eK X (.builtin id) r)(hg:Gl X x)(hm:X.mg x=none)(hv:fI x=some (.builtin id))(ha:PA X (e::es) t)(hn:x≠"__name__":=by decide)(hdb:(x==("__debug__":Str))=false:=by decide)
  (he:ax (e::es) X.env=(false,eval e X.env)::ax es X.env:=by rfl) (hpl:(backTo pos (ax es X.env)).any (·.1)=false:=by rfl):PE X (.Call (.Name x p) (e::es) [] pos) (cJ r t):=by
 intro J0 s σ H Q I h;refine tE (kn I hg hm hv ?_ hn hdb);exact PyProof.Rows.callWith_builtin1 (bL (ha pos J0 s σ H _ I h) fun us s1 ⟨vs,H1,I1,r1,q1⟩=>hc J0 s1 σ H1 vs us Q I1 r1 q1) he hpl
theorem nY(hc:eK X (.type T) r)(hg:Gl X x)(hm:X.mg x=none)(hv:fI x=some (.type T))(ha:PA X (e::es) t)(hn:x≠"__name__":=by decide)(hdb:(x==("__debug__":Str))=false:=by decide)
  (he:ax (e::es) X.env=(false,eval e X.env)::ax es X.env:=by rfl) (hpl:(backTo pos (ax es X.env)).any (·.1)=false:=by rfl):PE X (.Call (.Name x p) (e::es) [] pos) (cJ r t):=by
 intro J0 s σ H Q I h;refine tE (kn I hg hm hv ?_ hn hdb);exact tJ (bL (ha pos J0 s σ H _ I h) fun us s1 ⟨vs,H1,I1,r1,q1⟩=>hc J0 s1 σ H1 vs us Q I1 r1 q1) he hpl
end
end L2
namespace HT
open PySem PyProof.Rows
section
variable{prog:bh}{w:World}{A:Around}{E:Zc}{s:Shared}
def sIx(n d:Nat):Option Int->Nat
 |none=>d
 |some v=>if v<0 then(v+(n:Int)).toNat else min v.toNat n
theorem sIx_none(n d:Nat):sIx n d none=d:=rfl
theorem sIx_nat(n d k:Nat):sIx n d (some (k:Int))=min k n:=by
 show(if(k:Int)<0 then((k:Int)+(n:Int)).toNat else min (k:Int).toNat n)=min k n
 rw[if_neg (by omega),j8]
theorem sIx_le(n d:Nat)(hd:d<=n)(o:Option Int):sIx n d o<=n:=by
 cases o with
 |none=>exact hd
 |some v =>
  show(if v<0 then(v+(n:Int)).toNat else min v.toNat n)<=n
  by_cases hv:v<0
  ·rw[if_pos hv];omega
  ·rw[if_neg hv];exact Nat.min_le_right _ _
theorem clip_eq(v:Int)(n d:Nat):(if v<0 then max (v+(n:Int)) 0 else min v (n:Int))=((sIx n d (some v):Nat):Int):=by
 show(if v<0 then max (v+(n:Int)) 0 else min v (n:Int))=(((if v<0 then(v+(n:Int)).toNat else min v.toNat n):Nat):Int)
 by_cases hv:v<0
 ·simp only[if_pos hv];omega
 ·simp only[if_neg hv];omega
end
end HT
namespace L2
open PySem PySem.Spec PyProof.Rows
abbrev TO:=St->Hp->(Option Int->Hp->Prop)->Prop
def PO(X:Cx)(e:Option Expr)(t:TO):Prop :=
 ∀(J0:Zd) (s:Shared) (σ:St) (H:Hp) (Q:Option Int->Hp->Prop),Inv X J0 σ H s->t σ H Q ->
  wpAny (model X.prog X.w) X.A (evalPart e X.env) (fun u s'=>∃o H',Inv X J0 σ H' s'/\IsPart u o/\Q o H') X.xe s
def fJ:TO:=fun _ H Q=>Q none H
def gU(t:TE):TO:=fun σ H Q=>t σ H fun x H1=>∃i,x=.int i/\Q (some i) H1
section
variable{X:Cx}{e:Expr}{te:TE}{lo hi:Option Expr}{tl th:TO}{pos p2:Pos}
theorem gC:PO X none fJ:=by
 intro J0 s σ H Q I h;rw[evalPart_none];exact aW ⟨none,H,I,.none,h⟩
theorem dj(h:PE X e te):PO X (some e) (gU te):=by
 intro J0 s σ H Q I hw;rw[evalPart_some];refine bL (h J0 s σ H _ I hw) fun u s1 ⟨x,H1,I1,r1,q1⟩=>?_;obtain⟨i,rfl,q⟩:=q1;obtain⟨t,rfl⟩:=r1;exact⟨some i,H1,I1,.int i t,q⟩
def SlR(X:Cx)(r:V->Option Int->Option Int->Hp->VK->Prop):Prop :=
 ∀(J0:Zd) (s:Shared) (σ:St) (H:Hp) (x:V) (v vl vu:Value) (lo hi:Option Int) (sl:Addr) (Q:VK),Inv X J0 σ H s->RelV x v->s.heap.IsSliceOf sl vl vu .none->IsPart vl lo->IsPart vu hi->r x lo hi H Q ->
  ∃T id,typeLookup (.type T) "__getitem__"=pure (some (.builtin id))/\s.TypeIs v T/\wpAny (model X.prog X.w) X.A (i5 v (.ref sl)) (EP X J0 σ Q) X.xe s
def wW(r:V->Option Int->Option Int->Hp->VK->Prop)(te:TE)(tl th:TO):TE:=fun σ H Q=>te σ H fun x H1=>tl σ H1 fun l H2=>th σ H2 fun u H3=>r x l u H3 Q
theorem du{r:V->Option Int->Option Int->Hp->VK->Prop}(hr:SlR X r)(he:PE X e te)(hl:PO X lo tl)(hu:PO X hi th):PE X (.Subscript e (.Slice lo hi none p2) pos) (wW r te tl th):=by
 intro J0 s σ H Q I h;refine Subscript_ (bL (he J0 s σ H _ I h) fun v s1 ⟨x,H1,I1,r1,q1⟩=>?_);refine wpAny_Slice (bL (hl J0 s1 σ H1 _ I1 q1) fun vl s2 ⟨l,H2,I2,pl,q2⟩=>bL (hu J0 s2 σ H2 _ I2 q2) fun vu s3 ⟨u,H3,I3,pu,q3⟩=>?_);rw[evalPart_none];refine aW ?_;have I4:Inv X J0 σ H3 { s3 with heap:=s3.heap.push { cls:=.type "slice",data:=.fields #[vl,vu,.none] } }:=I3.kept (t':=s3.toks) fun b ob q=>aO _ q;obtain⟨T,id,hT,ht,hg⟩:=hr J0 { s3 with heap:=s3.heap.push { cls:=.type "slice",data:=.fields #[vl,vu,.none] } } σ H3 x v vl vu l u s3.heap.objs.size Q I4 r1 (Heap.IsSliceOf.new ..) pl pu q3;show wpAny (model X.prog X.w) X.A (subscriptTail e (.Slice lo hi none p2) v (.ref s3.heap.objs.size)) (EP X J0 σ Q) X.xe { s3 with heap:=s3.heap.push { cls:=.type "slice",data:=.fields #[vl,vu,.none] } };exact tail_any (ops:=[.ref s3.heap.objs.size,v]) ht hT hg (by with_unfolding_all rfl)
def gq(xs:List V)(lo hi:Option Int):List V:=(xs.drop (HT.sIx xs.length 0 lo)).take (HT.sIx xs.length xs.length hi-HT.sIx xs.length 0 lo)
theorem rA(xs:List V)(lo hi:Option Int):(gq xs lo hi).length<=xs.length:=by
 unfold gq;rw[be,ff];omega
end
end L2
namespace L2
open PySem PySem.Spec PyProof.Rows
def yF(n:Nat)(i:Int):Option Nat:=if 0<=i then(if i<n then some i.toNat else none)else if -(n:Int)<=i then some (i+n).toNat else none
def uz{α:Type}(xs:List α)(i:Int):Option α:=(yF xs.length i).bind fun j=>xs[j]?
theorem uf{n:Nat}{i:Int}{j:Nat}(h:yF n i=some j):seqIndex? i n=some j/\j<n/\-(n:Int)<=i/\i<n:=by
 unfold yF at h;by_cases h0:0<=i
 ·rw[if_pos h0]at h;by_cases h1:i<n
  ·rw[if_pos h1]at h;have e:i.toNat=j:=cT h;exact⟨by rw[seqIndex_of h0 h1,e],by omega,by omega,h1⟩
  ·rw[if_neg h1]at h;cases h
 ·rw[if_neg h0]at h;by_cases h1:-(n:Int)<=i
  ·rw[if_pos h1]at h;have e:(i+n).toNat=j:=cT h;exact⟨by rw[seqIndex_neg (by omega) h1,e],by omega,h1,by omega⟩
  ·rw[if_neg h1]at h;cases h
theorem pW{α:Type}{xs:List α}{i:Int}{v:α}(h:uz xs i=some v):∃j,seqIndex? i xs.length=some j/\xs[j]?=some v/\j<xs.length/\-(xs.length:Int)<=i/\i<xs.length:=by
 unfold uz at h;cases e:yF xs.length i with
 |none=>rw[e]at h;cases h
 |some j =>
  rw[e]at h;obtain⟨h1,h2,h3,h4⟩:=uf e;exact⟨j,h1,h,h2,h3,h4⟩
theorem dC{α:Type}{xs:List α}{j:Nat}{v:α}(h:xs[j]?=some v):uz xs (j:Int)=some v:=by
 have hj:j<xs.length:=(cB.mp h).1;have e:yF xs.length (j:Int)=some j:=by
  unfold yF;rw[if_pos (by omega),if_pos (by omega)];simp
 unfold uz;rw[e];exact h
def yg(b:Expr):Prop:=∀o i,oR b false o i=operate [o,i] (i5 o i)
def yj(X:Cx)(r:R2):Prop :=
 ∀(value slice:Expr) (J0:Zd) (s:Shared) (σ:St) (H:Hp) (x y:V) (v u:Value) (Q:VK),Inv X J0 σ H s->RelV x v->RelV y u->r x y H Q ->
  oR slice false v u=operate [v,u] (i5 v u)->wpAny (model X.prog X.w) X.A (subscriptTail value slice v u) (EP X J0 σ Q) X.xe s
def MtR(X:Cx)(id:String)(r:V->List V->Hp->VK->Prop):Prop :=
 ∀(J0:Zd) (s:Shared) (σ:St) (H:Hp) (x:V) (xs:List V) (v:Value) (us:Zf) (Q:VK),Inv X J0 σ H s->RelV x v->aH xs us->r x xs H Q ->
  wpAny (model X.prog X.w) X.A (call (.builtin id) (v::us)) (EP X J0 σ Q) X.xe s
section
variable{X:Cx}{a b:Expr}{ta tb:TE}{pos:Pos}
theorem yj.or{r r':R2}(h:yj X r)(h':yj X r'):yj X (fun x y H Q=>r x y H Q∨r' x y H Q):=by
 intro value slice J0 s σ H x y v u Q I rx ry q hs;rcases q with q|q
 ·exact h value slice J0 s σ H x y v u Q I rx ry q hs
 ·exact h' value slice J0 s σ H x y v u Q I rx ry q hs
theorem t7{r:R2}(hr:yj X r)(ha:PE X a ta)(hb:PE X b tb)(hs:yg b):PE X (.Subscript a b pos) (aI r ta tb):=by
 intro J0 s σ H Q I h;exact Subscript_ (zt ha hb I h fun v u s2 x y H2 I2 rx ry q=>hr a b J0 s2 σ H2 x y v u Q I2 rx ry q (hs _ _))
def cK(K:Za):R2:=fun x y H Q=>∃p xs i v,x=.ref p/\y=.int i/\aB K H p xs/\uz xs i=some v/\Q v H
def xB(K:Za):R2:=fun x y H Q=>∃p xs i v,x=.ref p/\y=.int i/\bM K H p xs/\uz xs i=some v/\Q v H
def vX:R2:=fun x y H Q=>∃z i c,x=.str z/\y=.int i/\z.length<=am/\uz z.cps.toList i=some c/\Q (.str ⟨#[c]⟩) H
theorem ue:yj X (cK X.K):=by
 intro value slice J0 s σ H x y v u Q I rx ry h hs;obtain⟨p,xs,i,z,rfl,rfl,hq,he,q⟩:=h;cases rx;obtain⟨t,rfl⟩:=ry;obtain⟨its,r,pl,hz⟩:=I.list hq;obtain⟨j,h1,h2,h3,h4,h5⟩:=pW he;obtain⟨w,ew,rw'⟩:=r.get h2;have hl:=r.length;have hn:=km;have fin:EP X J0 σ Q w s:=⟨z,H,I,rw',q⟩;by_cases h0:0<=i
 ·have hj:i.toNat=j:=by
   rw[seqIndex_of h0 h5]at h1;exact cT h1
  exact item_listR pl.isList h0 (by omega) (by rw[hj];simpa using ew) fin hs
 ·have hj:(i+(its.toArray.size:Int)).toNat=j:=by
   rw[seqIndex_neg (by omega) h4]at h1;rw[bt,<-hl];exact cT h1
  exact subscriptTail_builtinR (x:=w) pl.isList.typeIs slot_list_getitem.lookup
   (wpAny_getItem_list_neg (Q:=fun r s'=>r=w/\EP X J0 σ Q r s') pl.isList (by omega) (by rw[bt]<;>omega) (by omega) (by rw[hj];simpa using ew) ⟨rfl,fin⟩) hs
theorem wk:yj X (xB X.K):=by
 intro value slice J0 s σ H x y v u Q I rx ry h hs;obtain⟨p,xs,i,z,rfl,rfl,hq,he,q⟩:=h;cases rx;obtain⟨t,rfl⟩:=ry;obtain⟨its,r,pl,hz⟩:=I.tuple hq;obtain⟨j,h1,h2,h3,h4,h5⟩:=pW he;obtain⟨w,ew,rw'⟩:=r.get h2;have hl:=r.length;have hn:=km;have fin:EP X J0 σ Q w s:=⟨z,H,I,rw',q⟩;exact subscriptTail_builtinR (x:=w) pl.typeIs slot_tuple_getitem.lookup
  (getItem_tuple (j:=j) (Q:=fun r s'=>r=w/\EP X J0 σ Q r s') pl (by omega) (by omega) (by rw[bt,<-hl];exact h1) (by simpa using ew) ⟨rfl,fin⟩) hs
theorem wl:yj X vX:=by
 intro value slice J0 s σ H x y v u Q I rx ry h hs;obtain⟨z,i,c,rfl,rfl,hz,he,q⟩:=h;obtain⟨t,rfl⟩:=rx;obtain⟨t',rfl⟩:=ry;obtain⟨j,h1,h2,h3,h4,h5⟩:=pW he;have hl:z.cps.toList.length=z.length:=by simp[Str.length]
 rw[hl]at h1 h4 h5;have hn:=km;exact tail_any (typeIs_str s z t) slot_str_getitem.lookup (getItem_str (c:=c) (by
  have e1:decide (i < -(2 ^ 63:Int))=false:=zzr0 (by omega);have e2:decide (i ≥ 2 ^ 63)=false:=zzr0 (by omega);rw[e1,e2,Bool.or_false]) (by rw[h1];simpa using h2) ⟨.str ⟨#[c]⟩,H,I.tok _,⟨_,rfl⟩,q⟩) hs
def sw(K:Za):R2:=fun x y H Q=>cK K x y H Q∨xB K x y H Q∨vX x y H Q
theorem ze:yj X (sw X.K):=ue.or (wk.or wl)
theorem sF(its:Zf)(n j:Nat)(u:Value):mi (·.setIfInBounds j u) { cls:=.type "list",data:=.seq its.toArray n }={ cls:=.type "list",data:=.seq (its.set j u).toArray n }:=by
 simp[mi]
theorem Inv.lst{J0:Zd}{σ:St}{H:Hp}{s:Shared}{p:Addr}{xs:List V}(I:Inv X J0 σ H s)(h:H p=some (.lst xs)):
  ∃(its:Zf) (n:Nat),aH xs its/\s.heap.get? p=some { cls:=.type "list",data:=.seq its.toArray n }/\xs.length<=am:=by
 obtain⟨z,its,n,r,e⟩:=I.hok p _ h;exact⟨its,n,r,e,z⟩
theorem Inv.lstUpd{J0:Zd}{σ:St}{H:Hp}{s:Shared}{p:Addr}{xs ys:List V}{its its':Zf}{n n':Nat}{f:Obj->Obj}(I:Inv X J0 σ H s)(h:H p=some (.lst xs))
  (ho:s.heap.get? p=some { cls:=.type "list",data:=.seq its.toArray n }) (hf:f { cls:=.type "list",data:=.seq its.toArray n }={ cls:=.type "list",data:=.seq its'.toArray n' }) (r:aH ys its') (hz:ys.length<=am) (t:Nat) :
  Inv X J0 σ (upd H p (.lst ys)) { s with heap:=s.heap.update p f,toks:=t }:=by
 have e:(s.heap.update p f).get? p=some { cls:=.type "list",data:=.seq its'.toArray n' }:=by
  rw[Heap.get?_update_self f ho (by rw[hf]<;>rfl),hf]
 refine I.write (x:=p) (e:=p) (by rw[h];trivial) (.inl rfl) (fun b u hb q=>(Heap.get?_update_other _ _ (e_ hb)).trans q) ⟨_,e⟩ ?_;exact⟨hz,its',n',r,e⟩
def ic:V->V->V->Hp->(Hp->Prop)->Prop:=fun o i v H Q=>∃p xs k j,o=.ref p/\i=.int k/\H p=some (.lst xs)/\yF xs.length k=some j/\Q (upd H p (.lst (xs.set j v)))
theorem dg:z6 X ic:=by
 intro J0 s σ H o i v ov iv u Q I ro ri rv h;obtain⟨p,xs,k,j,rfl,rfl,hp,hj,q⟩:=h;cases ro;obtain⟨t,rfl⟩:=ri;obtain⟨its,n,r,ho,hz⟩:=I.lst hp;obtain⟨h1,h2,h3,h4⟩:=uf hj;have hl:=r.length;have hn:=km;have I':Inv X J0 σ (upd H p (.lst (xs.set j v))) { s with heap:=s.heap.update p (mi (·.setIfInBounds j u)) } :=
  I.lstUpd hp ho (sF its n j u) (r.set rv j) (by rw[mh];exact hz) s.toks
 by_cases h0:0<=k
 ·have hk:k.toNat=j:=by
   rw[seqIndex_of h0 h4]at h1;exact cT h1
  exact PySem.W.ki_setAt ho h0 (by omega) (by rw[bt,<-hl];exact h4) (by rw[hk];exact⟨_,I',q⟩)
 ·have hk:(k+(its.toArray.size:Int)).toNat=j:=by
   rw[seqIndex_neg (by omega) h3]at h1;rw[bt,<-hl];exact cT h1
  exact PySem.W.ki_setBack ho (by omega) (by rw[bt,<-hl];exact h3) (by omega) (by rw[hk];exact⟨_,I',q⟩)
theorem o9(lo hi:Option Int)(n:Nat):(i4 lo hi none n).1=((HT.sIx n 0 lo:Nat):Int)/\(i4 lo hi none n).2.1=((HT.sIx n n hi:Nat):Int)/\(i4 lo hi none n).2.2=1:=by
 refine⟨?_,?_,rfl⟩
 ·cases lo with
  |none=>simp[i4,HT.sIx]
  |some i =>
   simp only[i4,HT.sIx,Option.getD_none,show(1:Int) > 0 by decide,if_true];by_cases h:i<0
   ·simp only[h,if_true]<;>omega
   ·simp only[h,if_false]<;>omega
 ·cases hi with
  |none=>simp[i4,HT.sIx]
  |some i =>
   simp only[i4,HT.sIx,Option.getD_none,show(1:Int) > 0 by decide,if_true];by_cases h:i<0
   ·simp only[h,if_true]<;>omega
   ·simp only[h,if_false]<;>omega
theorem nk(its:Zf)(lo hi:Option Int):slicePick its.toArray lo hi none=((its.drop (HT.sIx its.length 0 lo)).take (HT.sIx its.length its.length hi-HT.sIx its.length 0 lo)).toArray:=by
 obtain⟨h1,h2,h3⟩:=o9 lo hi its.toArray.size;unfold slicePick;rw[h1,h2,h3];simp only[sliceRange_one,pick_run,bt]<;>rfl
def sv(K:Za):V->Option Int->Option Int->Hp->VK->Prop:=fun x lo hi H Q=>∃a xs,x=.ref a/\aB K H a xs/\∀p,H p=none->Q (.ref p) (upd H p (.lst (gq xs lo hi)))
theorem iG:SlR X (sv X.K):=by
 intro J0 s σ H x v vl vu lo hi sl Q I rx hs pl pu h;obtain⟨a,xs,rfl,hx,q⟩:=h;cases rx;obtain⟨its,r,ht,hz⟩:=I.list hx;have hlen:=r.length;refine⟨"list",_,slot_list_getitem.lookup,ht.isList.typeIs,?_⟩;refine wpAny_getItem_list_slice ht.isList hs pl pu .none (by simp) ?_ (by rw[bt]<;>omega);rw[nk,<-hlen];refine⟨.ref s.heap.objs.size,_,I.laid (t':=s.toks) (o:=.lst (gq xs lo hi)) (fun b ob q=>aO _ q) (aE _) ?_,rfl,q _ (I.hok.fresh (aE _))⟩;exact⟨cn (rA xs lo hi) hz,_,0,(r.drop (HT.sIx xs.length 0 lo)).take (HT.sIx xs.length xs.length hi-HT.sIx xs.length 0 lo),cA _ rfl⟩
theorem pU:eK X (.builtin "len") (fun xs H Q=>∃p ys,xs=[.ref p]/\(aB X.K H p ys∨bM X.K H p ys)/\Q (.int ys.length) H):=by
 intro J0 s σ H xs us Q I r h;obtain⟨p,ys,rfl,hq,q⟩:=h;obtain⟨u,rfl,rx⟩:=vals1 r;cases rx;have hn:=km;rcases hq with hq|hq
 ·obtain⟨its,r',pl,hz⟩:=I.list hq;have hlen:=r'.length;exact Calls.call_len_list pl.isList (by simp only[bt]<;>omega) ⟨.int ys.length,H,I.tok _,⟨s.toks+1,by rw[bt,hlen]⟩,q⟩
 ·obtain⟨its,r',pl,hz⟩:=I.tuple hq;have hlen:=r'.length;exact len_tuple pl (by simp only[bt]<;>omega) ⟨.int ys.length,H,I.tok _,⟨s.toks+1,by rw[bt,hlen]⟩,q⟩
theorem pT:eK X (.builtin "len") (fun xs H Q=>∃z,xs=[.str z]/\z.length<=am/\Q (.int z.length) H):=by
 intro J0 s σ H xs us Q I r h;obtain⟨z,rfl,hz,q⟩:=h;obtain⟨u,rfl,t,rfl⟩:=vals1 r;have hn:=km;exact len_str (by omega) ⟨.int z.length,H,I.tok _,⟨_,rfl⟩,q⟩
theorem eK.or{f:Value}{r r':List V->Hp->VK->Prop}(h:eK X f r)(h':eK X f r'):eK X f (fun xs H Q=>r xs H Q∨r' xs H Q):=by
 intro J0 s σ H xs us Q I rs q;rcases q with q|q
 ·exact h J0 s σ H xs us Q I rs q
 ·exact h' J0 s σ H xs us Q I rs q
theorem pS:eK X (.type "list") (fun xs H Q=>∃p ys,xs=[.ref p]/\(aB X.K H p ys∨bM X.K H p ys)/\∀l,H l=none->Q (.ref l) (upd H l (.lst ys))):=by
 intro J0 s σ H xs us Q I r h;obtain⟨p,ys,rfl,hq,q⟩:=h;obtain⟨u,rfl,rx⟩:=vals1 r;cases rx;have fin:∀(its:Zf),aH ys its->ys.length<=am->∀(h':Heap) (c':Nat),(∀b o',s.heap.get? b=some o'->h'.get? b=some o') ->
   h'.get? s.heap.objs.size=some { cls:=.type "list",dict:=none,data:=.seq its.toArray c',slots:=#[] }->EP X J0 σ Q (.ref s.heap.objs.size) { s with heap:=h' }:=fun its r' hz h' c' kp e =>
  ⟨.ref s.heap.objs.size,_,I.laid (t':=s.toks) kp (aE _) (show bN X.prog X.w X.K _ h' _ (.lst ys)from⟨hz,its,c',r',e⟩),rfl,q _ (I.hok.fresh (aE _))⟩
 rcases hq with hq|hq
 ·obtain⟨its,r',pl,hz⟩:=I.list hq;have hlen:=r'.length;obtain⟨o,ho,hc,n,hd⟩:=pl.isList;exact call_list_seq p (.inl rfl) ho hc hd (fun h' c' kp e=>fin its r' hz h' c' kp e) (by simp only[bt]<;>omega)
 ·obtain⟨its,r',pl,hz⟩:=I.tuple hq;have hlen:=r'.length;obtain⟨o,ho,hc,n,hd⟩:=pl;exact call_list_seq p (.inr rfl) ho hc hd (fun h' c' kp e=>fin its r' hz h' c' kp e) (by simp only[bt]<;>omega)
def tyV(K:Za)(T:String)(x:V)(H:Hp):Prop:=match x with
 |.str _=>T="str"
 |.int _=>T="int"
 |.ref p=>(T="list"/\∃xs,aB K H p xs)∨(T="tuple"/\∃o,K.lookup p=some o/\o.cls=.type "tuple"/\o.dict=none) ∨
   (T="dict"/\((∃kvs,H p=some (.dK kvs))∨∃kvs,H p=some (.dT kvs)))∨(T="set"/\∃S n,H p=some (.set S n))
 |_=>False
theorem vH{J0:Zd}{σ:St}{H:Hp}{s:Shared}{T:String}{x:V}{v:Value}(I:Inv X J0 σ H s)(r:RelV x v)(ty:tyV X.K T x H):
  s.TypeIs v T/\∀a,v=.ref a->∃ob,s.heap.get? a=some ob/\ob.dict=none:=by
 cases x with
 |str z =>
  obtain⟨t,rfl⟩:=r;cases(show T="str" from ty);exact⟨typeIs_str s z t,fun _ e=>nomatch e⟩
 |int i =>
  obtain⟨t,rfl⟩:=r;cases(show T="int" from ty);exact⟨typeIs_int s i t,fun _ e=>nomatch e⟩
 |ref p =>
  cases r;rcases ty with⟨rfl,xs,hq⟩|⟨rfl,o,hk,hc,hd⟩|⟨rfl,hk⟩|⟨rfl,S,n,hk⟩
  ·obtain⟨its,_,pl,_⟩:=I.list hq;refine⟨pl.isList.typeIs,fun a e=>?_⟩;cases e;obtain⟨o,n,e,c,hd,_⟩:=pl;exact⟨o,e,hd⟩
  ·refine⟨⟨o,I.kIn p o hk,hc⟩,fun a e=>?_⟩;cases e;exact⟨o,I.kIn _ o hk,hd⟩
  ·have z:∃o,s.heap.get? p=some o/\o.ExactDict:=by
    rcases hk with⟨kvs,hk⟩|⟨kvs,hk⟩
    ·obtain⟨_,_,_,_,o,_,_,e,ex,_⟩:=I.hok p _ hk;exact⟨o,e,ex⟩
    ·obtain⟨_,_,_,_,o,_,_,e,ex,_⟩:=I.hok p _ hk;exact⟨o,e,ex⟩
   obtain⟨o,e,ex⟩:=z;refine⟨⟨o,e,ex.1⟩,fun a e2=>?_⟩;cases e2;exact⟨o,e,ex.2.1⟩
  ·obtain⟨o,_,_,_,e,ex,_⟩:=I.hok p _ hk;refine⟨⟨o,e,ex.1⟩,fun a e2=>?_⟩;cases e2;exact⟨o,e,ex.2.1⟩
 |_=>exact fV ty
def sf(K:Za)(T:String)(r:V->List V->Hp->VK->Prop)(to:TE):TE:=fun σ H Q=>to σ H fun x H1=>tyV K T x H1/\r x [] H1 Q
def uQ(K:Za)(T:String)(r:V->List V->Hp->VK->Prop)(to:TE)(t:TA):TE:=fun σ H Q=>to σ H fun x H1=>tyV K T x H1/\t σ H1 fun xs H2=>r x xs H2 Q
variable{o e:Expr}{es:List Expr}{to:TE}{t:TA}{name:Str}{J2 J1:Pos}{T id:String}{r:V->List V->Hp->VK->Prop}
theorem pj(pa:PlainAttrs T)(slot:Slot T name id)(hty:typeOf (.builtin id)=pure (.type "method_descriptor"))(hm:MtR X id r)(ho:PE X o to)
  (hbase:qk o name X.env (eval o X.env)=eval o X.env:=by rfl) (hline:(J2.endLine==J1.line)=true:=by rfl):PE X (.Call (.Attribute o name J2) [] [] J1) (sf X.K T r to):=by
 intro J0 s σ H Q I h;refine wpAny_Call_method0_late hbase hline (bL (ho J0 s σ H _ I h) fun v s1 ⟨x,H1,I1,r1,ty,q1⟩=>?_);obtain⟨h1,h2⟩:=vH I1 r1 ty;exact⟨T,id,pa,slot,hty,h1,h2,Calls.callWith_builtin rfl (PySem.evalArgs_none (hm J0 s1 σ H1 x [] v [] Q I1 r1 .nil q1))⟩
theorem iT(pa:PlainAttrs T)(slot:Slot T name id)(hty:typeOf (.builtin id)=pure (.type "method_descriptor"))(hm:MtR X id r)(ho:PE X o to)(ha:PA X (e::es) t)
  (hbase:qk o name X.env (eval o X.env)=eval o X.env:=by rfl)
  (hfew:((backTo J1 (ax (e::es) X.env)).all (fun x=>!x.1) && (kI J1 (kH [] X.env)).all (fun x=>x.1.isSome)
   && decide ((e::es).length+([]:List Keyword).length+(if([]:List Keyword).isEmpty then 0 else 1)<30))=true:=by rfl)
  (hline:(J2.endLine==J1.line)=true:=by rfl) (hs:ax (e::es) X.env=(false,eval e X.env)::ax es X.env:=by rfl) (hplain:(backTo J1 (ax es X.env)).any (·.1)=false:=by rfl) :
  PE X (.Call (.Attribute o name J2) (e::es) [] J1) (uQ X.K T r to t):=by
 intro J0 s σ H Q I h;refine wpAny_Call_method_late hbase hfew hline rfl (bL (ho J0 s σ H _ I h) fun v s1 ⟨x,H1,I1,r1,ty,q1⟩=>?_);obtain⟨h1,h2⟩:=vH I1 r1 ty;refine⟨T,id,pa,slot,hty,h1,h2,?_⟩;have hA:=ha J1 J0 s1 σ H1 _ I1 q1;rw[hs]at hA ⊢;refine Calls.callWith_builtin (by show(false || (backTo J1 (ax es X.env)).any (·.1))=false;rw[hplain]<;>rfl) (Calls.evalArgs_plain ?_);exact bL hA fun us s2 ⟨vs,H2,I2,r2,q2⟩=>hm J0 s2 σ H2 x vs v us Q I2 r1 r2 q2
end
end L2
namespace L2
open PySem PySem.Spec PyProof.Rows
def z9(X:Cx)(id:String)(r:V->List V->Hp->VK->Prop):Prop :=
 ∀(J0:Zd) (s:Shared) (σ:St) (H:Hp) (x:V) (xs:List V) (v:Value) (us:Zf) (Q:VK),Inv X J0 σ H s->RelV x v->aH xs us->r x xs H Q ->
  wpAny (model X.prog X.w) X.A (call (.builtin id) (v::us)) (EP X J0 σ Q) X.xe s
theorem aH.one:∀{x:V}{us:Zf},aH [x] us->∃u,us=[u]/\RelV x u
 |_,_,.cons r .nil=>⟨_,rfl,r⟩
theorem aH.two:∀{x y:V}{us:Zf},aH [x,y] us->∃u v,us=[u,v]/\RelV x u/\RelV y v
 |_,_,_,.cons r (.cons q .nil)=>⟨_,_,rfl,r,q⟩
theorem aH.zero:∀{us:Zf},aH [] us->us=[]
 |_,.nil=>rfl
theorem aH.dropLast{xs:List V}{us:Zf}(h:aH xs us):aH xs.dropLast us.dropLast:=by
 induction h with
 |nil=>exact .nil
 |cons r t ih =>
  cases t with
  |nil=>exact .nil
  |cons q t'=>exact .cons r ih
theorem aH.reverse{xs:List V}{us:Zf}(h:aH xs us):aH xs.reverse us.reverse:=by
 induction h with
 |nil=>exact .nil
 |cons r t ih=>rw[List.reverse_cons,List.reverse_cons];exact aH.append ih (.cons r .nil)
theorem sP{α:Type}(l:List α):l.eraseIdx (l.length-1)=l.dropLast:=by
 induction l with
 |nil=>rfl
 |cons a r ih =>
  cases r with
  |nil=>rfl
  |cons b r =>
   have e:(a::b::r).length-1=((b::r).length-1)+1:=by
    have h1:(a::b::r).length=r.length+2:=rfl;have h2:(b::r).length=r.length+1:=rfl;omega
   rw[e,List.eraseIdx_cons_succ,ih]
   all_goals rfl
section
variable{X:Cx}{J0:Zd}{σ:St}{H:Hp}{s:Shared}{l b:Addr}{xs ys zs:List V}
theorem Inv.lset{its its':Zf}{n:Nat}{f:Array Value->Array Value}{t':Nat}(I:Inv X J0 σ H s)(hH:H l=some (.lst xs))
  (e:s.heap.get? l=some { cls:=.type "list",data:=.seq its.toArray n }) (hf:f its.toArray=its'.toArray) (hv:aH ys its') (hz:ys.length<=am) :
  Inv X J0 σ (upd H l (.lst ys)) { s with heap:=s.heap.update l (mi f),toks:=t' }:=by
 have q:=PySem.IsL.update e f;rw[hf]at q;refine I.write (x:=l) (e:=l) (by rw[hH];exact trivial) (.inl rfl) (fun b' u hb hu=>(Heap.get?_update_other s.heap (mi f) (e_ hb)).trans hu) ⟨_,q⟩ ?_;exact⟨hz,its',_,hv,q⟩
theorem Inv.lnew{its:Zf}{t':Nat}(I:Inv X J0 σ H s)(hv:aH ys its)(hz:ys.length<=am):
  Inv X J0 σ (upd H s.heap.objs.size (.lst ys)) { s with heap:=s.heap.push { cls:=.type "list",data:=.seq its.toArray },toks:=t' } :=
 I.laid (fun _ _ q=>aO _ q) (aE _) ⟨hz,its,0,hv,cA _ rfl⟩
theorem Inv.fresh(I:Inv X J0 σ H s):H s.heap.objs.size=none:=I.hok.fresh (aE _)
theorem Inv.lstM(I:Inv X J0 σ H s)(hH:H l=some (.lst xs)):xs.length<=am/\∃(its:Zf) (n:Nat),aH xs its/\xs.length=its.length/\s.heap.get? l=some { cls:=.type "list",data:=.seq its.toArray n }:=by
 obtain⟨z,its,n,r,e⟩:=I.hok l _ hH;exact⟨z,its,n,r,r.length,e⟩
end
section
variable{X:Cx}
def dh:V->List V->Hp->VK->Prop:=fun x vs H Q=>∃l xs y,x=.ref l/\vs=[y]/\H l=some (.lst xs)/\xs.length<am/\Q .non (upd H l (.lst (xs++[y])))
theorem cL:z9 X "list.append" dh:=by
 intro J0 s σ H x vs v us Q I rx rv h;obtain⟨l,xs,y,rfl,rfl,hH,hz,q⟩:=h;cases rx;obtain⟨u,rfl,ru⟩:=rv.one;obtain⟨z,its,n,r,hl,e⟩:=I.lstM hH;refine oQ F.slot_list_append ⟨_,e,rfl⟩ F.entry_list_append (F.args_list_append_2 _ _) (PySem.list_append l its.toArray n u (by rw[bt];omega)) ⟨e,?_⟩;refine⟨.non,_,I.lset (its':=its++[u]) hH e (by simp) (r.append (.cons ru .nil)) ?_,rfl,q⟩;rw[bC,List.length_singleton];omega
def zK:V->List V->Hp->VK->Prop:=fun x vs H Q=>∃l xs y,x=.ref l/\vs=[]/\H l=some (.lst xs)/\xs[xs.length-1]?=some y/\Q y (upd H l (.lst xs.dropLast))
theorem zc:z9 X "list.pop" zK:=by
 intro J0 s σ H x vs v us Q I rx rv h;obtain⟨l,xs,y,rfl,rfl,hH,hy,q⟩:=h;cases rx;have hus:=rv.zero;subst hus;obtain⟨z,its,n,r,hl,e⟩:=I.lstM hH;obtain⟨u,hu,ru⟩:=r.get hy;have hy':its.toArray[its.toArray.size-1]?=some u:=by
  show its.toArray[its.length-1]?=some u;rw[<-Array.getElem?_toList,<-hl];exact hu
 refine oQ F.slot_list_pop ⟨_,e,rfl⟩ F.entry_list_pop (F.args_list_pop_1 _) (MeetsSeq.list_pop_last l its.toArray n u hy' (by rw[bt];omega)) ⟨e,?_⟩;refine⟨y,_,I.lset (its':=its.dropLast) hH e ?_ r.dropLast ?_,ru,q⟩
 ·show its.toArray.eraseIdxIfInBounds (its.toArray.size-1)=its.dropLast.toArray;rw[bt,List.eraseIdxIfInBounds_toArray,sP]
 ·rw[List.length_dropLast];omega
def gf:V->List V->Hp->VK->Prop:=fun x vs H Q=>∃l xs,x=.ref l/\vs=[]/\H l=some (.lst xs)/\Q .non (upd H l (.lst xs.reverse))
theorem je:z9 X "list.reverse" gf:=by
 intro J0 s σ H x vs v us Q I rx rv h;obtain⟨l,xs,rfl,rfl,hH,q⟩:=h;cases rx;have hus:=rv.zero;subst hus;obtain⟨z,its,n,r,hl,e⟩:=I.lstM hH;refine oQ F.slot_list_reverse ⟨_,e,rfl⟩ F.entry_list_reverse (F.args_list_reverse_1 _) (AutoSeq1.list_reverse_list_0 l its.toArray n (by rw[bt];omega)) ⟨e,?_⟩;refine⟨.non,_,I.lset (its':=its.reverse) hH e (by simp) r.reverse ?_,rfl,q⟩;rw[oP];omega
def y4:R2:=fun x y H Q=>∃l b xs zs,x=.ref l/\y=.ref b/\H l=some (.lst xs)/\H b=some (.lst zs)/\xs.length+zs.length<=am/\∀p,H p=none->Q (.ref p) (upd H p (.lst (xs++zs)))
theorem v8:jZ X (kM .Add) y4:=by
 intro J0 s σ H x y v u Q I rx ry h;obtain⟨l,b,xs,zs,rfl,rfl,hH,hB,hz,q⟩:=h;cases rx;cases ry;obtain⟨z,its,n,r,hl,e⟩:=I.lstM hH;obtain⟨z2,its2,n2,r2,hl2,e2⟩:=I.lstM hB;refine PySem.P.add_list e e2 ?_ (by rw[bt,bt];omega);have ea:its.toArray++its2.toArray=(its++its2).toArray:=by simp
 rw[ea];exact⟨.ref _,_,I.lnew (t':=s.toks) (r.append r2) (by rw[bC];omega),rfl,q _ I.fresh⟩
end
end L2
namespace L2
open PySem PySem.Spec PyProof.Rows
section
variable{κ:Type}[DecidableEq κ]
def cw(kvs:List (κ×V))(k:κ):Option V:=(kvs.find? fun kv=>decide (kv.1=k)).map (·.2)
def d9(kvs:List (κ×V))(k:κ)(v:V):List (κ×V) :=
 if(kvs.any fun kv=>decide (kv.1=k))=true then kvs.map (fun kv=>if kv.1=k then(kv.1,v)else kv)else kvs++[(k,v)]
theorem cq{p:κ×V}{r:List (κ×V)}{k:κ}(e:p.1=k):cw (p::r) k=some p.2:=by simp[cw,j7,e]
theorem bU{p:κ×V}{r:List (κ×V)}{k:κ}(e:¬p.1=k):cw (p::r) k=cw r k:=by simp[cw,j7,e]
theorem hZ(k:κ):∀kvs:List (κ×V),(kvs.any fun kv=>decide (kv.1=k))=(cw kvs k).isSome
 |[]=>rfl
 |p::r=>by
  rw[oO];by_cases e:p.1=k
  ·simp only[cq e,zzr1 e,Bool.true_or,Option.isSome_some]
  ·rw[bU e,zzr0 e,Bool.false_or];exact hZ k r
theorem qy(k j:κ)(y:V):∀kvs:List (κ×V),cw (kvs.map fun kv=>if kv.1=k then(kv.1,y)else kv) j=(cw kvs j).map fun x=>if j=k then y else x
 |[]=>rfl
 |p::r=>by
  have ih:=qy k j y r;rw[aN];by_cases h:p.1=k
  ·rw[if_pos h];by_cases e:p.1=j
   ·rw[cq (p:=(p.1,y)) e,cq e,mf,if_pos (e.symm.trans h)]
   ·rw[bU (p:=(p.1,y)) e,bU e,ih]
  ·rw[if_neg h];by_cases e:p.1=j
   ·rw[cq (p:=p) e,cq e,mf,if_neg (fun z=>h (e.trans z))]
   ·rw[bU (p:=p) e,bU e,ih]
theorem nN(k j:κ)(y:V):∀kvs:List (κ×V),cw kvs k=none->cw (kvs++[(k,y)]) j=if j=k then some y else cw kvs j
 |[],_=>by
  by_cases e:k=j
  ·rw[if_pos e.symm];exact cq (p:=(k,y)) e
  ·rw[if_neg (fun z=>e z.symm)];exact bU (p:=(k,y)) e
 |p::r,hn=>by
  rw[List.cons_append];have hk:¬p.1=k:=fun z=>by rw[cq z]at hn;cases hn
  rw[bU hk]at hn;have ih:=nN k j y r hn;by_cases e:p.1=j
  ·rw[cq e,cq e,if_neg (fun z=>hk (e.trans z))]
  ·rw[bU e,bU e,ih]
theorem qx(kvs:List (κ×V))(k j:κ)(y:V):cw (d9 kvs k y) j=if j=k then some y else cw kvs j:=by
 unfold d9;by_cases a:(kvs.any fun kv=>decide (kv.1=k))=true
 ·rw[if_pos a,qy];rw[hZ]at a;by_cases e:j=k
  ·obtain⟨x,hx⟩:=tz.mp a;rw[if_pos e,e,hx,mf,if_pos rfl]
  ·rw[if_neg e];cases cw kvs j with
   |none=>rfl
   |some x=>rw[mf,if_neg e]
 ·rw[if_neg a];refine nN k j y kvs ?_;rw[hZ]at a;cases q:cw kvs k with
  |none=>rfl
  |some x=>rw[q]at a;exact(a rfl).elim
theorem il(kvs:List (κ×V))(k:κ)(v:V):(d9 kvs k v).length<=kvs.length+1:=by
 unfold d9;split
 ·rw[ap];omega
 ·rw[bC,eZ,List.length_nil];omega
theorem qO{kvs:List (κ×V)}{k:κ}(v:V)(h:cw kvs k=none):d9 kvs k v=kvs++[(k,v)]:=by
 unfold d9;rw[hZ,h];exact if_neg (by decide)
theorem g0.isSome_eq{o:Option V}{u:Option Value}(r:g0 o u):o.isSome=u.isSome:=by
 cases o with
 |none=>cases u with
  |none=>rfl
  |some _=>exact(show False from r).elim
 |some _=>cases u with
  |none=>exact(show False from r).elim
  |some _=>rfl
theorem g0.getD{o:Option V}{u:Option Value}{d:V}{d':Value}(r:g0 o u)(rd:RelV d d'):RelV (o.getD d) (u.getD d'):=by
 cases o with
 |none=>cases u with
  |none=>exact rd
  |some _=>exact(show False from r).elim
 |some _=>cases u with
  |none=>exact(show False from r).elim
  |some _=>exact r
theorem KV.val{kvs:List (κ×V)}{vs:List (κ×Value)}(r:KV kvs vs)(k:κ):g0 (cw kvs k) (i3 vs k):=by
 unfold KV at r
 induction r with
 |nil=>exact eW
 |@cons p q ps qs h t ih =>
  obtain⟨h1,h2⟩:=h;by_cases e:p.1=k
  ·have e':q.1=k:=h1.symm.trans e;have b:i3 (q::qs) k=some q.2:=by simp[i3,j7,e']
   rw[cq e,b];exact h2
  ·have e':¬q.1=k:=fun z=>e (h1.trans z);have b:i3 (q::qs) k=i3 qs k:=by simp[i3,j7,e']
   rw[bU e,b];exact ih
theorem KV.any{kvs:List (κ×V)}{vs:List (κ×Value)}(r:KV kvs vs)(k:κ):(kvs.any fun kv=>decide (kv.1=k))=vs.any fun kv=>decide (kv.1=k):=by
 unfold KV at r
 induction r with
 |nil=>rfl
 |cons h t ih=>rw[oO,oO,ih,h.1]
theorem KV.repl{kvs:List (κ×V)}{vs:List (κ×Value)}(r:KV kvs vs)(k:κ){y:V}{u:Value}(ry:RelV y u):
  KV (kvs.map fun kv=>if kv.1=k then(kv.1,y)else kv) (vs.map fun kv=>if kv.1=k then(kv.1,u)else kv):=by
 unfold KV at r ⊢
 induction r with
 |nil=>exact .nil
 |@cons p q ps qs h t ih =>
  rw[aN,aN];refine .cons ?_ ih;obtain⟨h1,h2⟩:=h;by_cases e:p.1=k
  ·rw[if_pos e,if_pos (h1.symm.trans e)];exact⟨h1,ry⟩
  ·rw[if_neg e,if_neg (fun z=>e (h1.trans z))];exact⟨h1,h2⟩
theorem KV.put{kvs:List (κ×V)}{vs:List (κ×Value)}(r:KV kvs vs)(k:κ){y:V}{u:Value}(ry:RelV y u):KV (d9 kvs k y) (stored vs k u):=by
 unfold d9 stored;rw[r.any k];by_cases e:(vs.any fun kv=>decide (kv.1=k))=true
 ·rw[if_pos e,if_pos e];exact r.repl k ry
 ·rw[if_neg e,if_neg e];exact oN r ⟨rfl,ry⟩
theorem KV.length{kvs:List (κ×V)}{vs:List (κ×Value)}(r:KV kvs vs):kvs.length=vs.length:=Paired.length r
end
theorem gX{P:bh}{w:World}{k:cI}{u:Value}(r:RelV (kV k) u):(bc P w).is k u=true:=by
 cases k with
 |inl i=>obtain⟨t,e⟩:=(show ∃t,u=Value.int i t from r);subst e;exact q_ P w i t
 |inr x=>obtain⟨t,e⟩:=(show ∃t,u=Value.str x t from r);subst e;exact q5 P w x t
abbrev KT(K:Za)(H:Hp):List (TK×V)->List (TK×Addr×Value)->Prop:=Paired fun p q=>p.1=q.1/\rM K H p.1 (.ref q.2.1)/\p.1.depth<=8/\RelV p.2 q.2.2
theorem KT.val{K:Za}{H:Hp}{kvs:List (TK×V)}{xs:List (TK×Addr×Value)}(r:KT K H kvs xs)(k:TK):g0 (cw kvs k) ((atKey xs k).map (·.2)):=by
 induction r with
 |nil=>exact eW
 |@cons p q ps qs h t ih =>
  obtain⟨h1,_,_,h2⟩:=h;by_cases e:p.1=k
  ·have e':q.1=k:=h1.symm.trans e;have b:atKey (q::qs) k=some q.2:=by simp[atKey,j7,e']
   rw[cq e,b];exact h2
  ·have e':¬q.1=k:=fun z=>e (h1.trans z);have b:atKey (q::qs) k=atKey qs k:=by simp[atKey,j7,e']
   rw[bU e,b];exact ih
theorem KT.repl{K:Za}{H:Hp}{kvs:List (TK×V)}{xs:List (TK×Addr×Value)}(r:KT K H kvs xs)(k:TK){y:V}{u:Value}(ry:RelV y u):
  KT K H (kvs.map fun kv=>if kv.1=k then(kv.1,y)else kv) (xs.map (putAt k u)):=by
 induction r with
 |nil=>exact .nil
 |@cons p q ps qs h t ih =>
  rw[aN,aN];refine .cons ?_ ih;obtain⟨h1,h2,h3⟩:=h;unfold putAt;by_cases e:p.1=k
  ·rw[if_pos e,if_pos (h1.symm.trans e)];exact⟨h1,h2,h3.1,ry⟩
  ·rw[if_neg e,if_neg (fun z=>e (h1.trans z))];exact⟨h1,h2,h3⟩
theorem KT.put{K:Za}{H:Hp}{kvs:List (TK×V)}{xs:List (TK×Addr×Value)}(r:KT K H kvs xs)(k:TK){b:Addr}{y:V}{u:Value}(hb:rM K H k (.ref b))(h8:k.depth<=8)(ry:RelV y u):
  KT K H (d9 kvs k y) (storedH xs k b u):=by
 have e:(kvs.any fun kv=>decide (kv.1=k))=(atKey xs k).isSome:=by
  rw[hZ,(r.val k).isSome_eq,Option.isSome_map]
 unfold d9 storedH;rw[e];by_cases q:(atKey xs k).isSome=true
 ·rw[if_pos q,if_pos q];exact r.repl k ry
 ·rw[if_neg q,if_neg q];exact oN r ⟨rfl,hb,h8,ry⟩
theorem KT.keeps{K:Za}{H H':Hp}{kvs:List (TK×V)}{xs:List (TK×Addr×Value)}(r:KT K H kvs xs)(ht:∀b ys,H b=some (.tup ys)->H' b=some (.tup ys)):KT K H' kvs xs :=
 Paired.mapP r fun _ _ z=>⟨z.1,rM.keeps ht 8 z.2.2.1 z.2.1,z.2.2⟩
section
variable{P:bh}{w:World}{K:Za}{H:Hp}{h:Heap}{a:Addr}
theorem yq{u:HO}(ok:iV P w K H h)(e:Rd H a u):bN P w K H h a u:=e.ok ok
theorem k6{kvs:List (cI×V)}(ok:iV P w K H h)(e:Rd H a (.dK kvs)):kvs.length<=am/\(a==f_)=false/\∃vs,KV kvs vs/\h.DictOf (bc P w) a vs :=
 show bN P w K H h a (.dK kvs)from yq ok e
theorem zW{kvs:List (cI×V)}(ok:iV P w K H h)(e:H a=some (.dK kvs)):kvs.length<=am/\(a==f_)=false/\∃vs,KV kvs vs/\h.DictOf (bc P w) a vs:=k6 ok (.inl e)
theorem yR(ok:iV P w K H h)(kin:K.In h):∀(d:Nat) {k:TK}{v:V}{u:Value},k.depth<=d->rM K H k v->RelV v u->iQ h k u:=by
 have key:∀(d:Nat) (ih:∀{k:TK}{v:V}{u:Value},k.depth<=d->rM K H k v->RelV v u->iQ h k u) (ks:List TK) (vs:List V) (us:Zf),TK.depths ks<=d->TKCs K H ks vs->aH vs us->TAts h ks us:=by
  intro d ih ks
  induction ks with
  |nil =>
   intro vs us _ hx r;have e:vs=[]:=hx;subst e;cases r
   rfl
  |cons k ks ihl =>
   intro vs us hd hx r;obtain⟨v,vs',rfl,h1,h2⟩:=hx;cases r with
   |@cons _ u _ us' r1 r2 =>
    have hd':max k.depth (TK.depths ks)<=d:=hd;exact⟨u,us',rfl,ih (by omega) h1 r1,ihl vs' us' (by omega) h2 r2⟩
 intro d
 induction d with
 |zero =>
  intro k v u hd hx r;cases k with
  |t l=>exact absurd hd (by show ¬(TK.depths l+1<=0);omega)
  |k b =>
   have e:v=kV b:=hx;subst e;exact gX (P:=P) (w:=w) r
 |succ d ih =>
  intro k v u hd hx r;cases k with
  |k b =>
   have e:v=kV b:=hx;subst e;exact gX (P:=P) (w:=w) r
  |t l =>
   obtain⟨b,xs,rfl,hb,hi⟩:=hx;cases(show u=Value.ref b from r);obtain⟨its,rv,ob,h1,h2,n,h3⟩:∃its:List Value,aH xs its/\IsTup h b its.toArray:=by
    rcases hb with hb|⟨o,its,n,hk,hc,hs,hz,r⟩
    ·obtain⟨_,its,rv,p⟩:=(show bN P w K H h b (.tup xs)from ok b _ hb);exact⟨its,rv,p⟩
    ·exact⟨its.toList,r,o,kin b o hk,hc,n,by simpa using hs⟩
   exact⟨b,ob,its.toArray,n,rfl,h1,h2,h3,by simpa using key d (fun h1=>ih h1) l xs its (by have:TK.depths l+1<=d+1:=hd;omega) hi rv⟩
theorem sJ{k:TK}(ok:iV P w K H h)(kin:K.In h)(e:rM K H k (.ref a))(h8:k.depth<=8):(de P w).is h k a:=⟨yR ok kin 8 h8 e rfl,h8⟩
theorem mL{kvs:List (TK×V)}(ok:iV P w K H h)(kin:K.In h)(e:Rd H a (.dT kvs)):kvs.length<=am/\(a==f_)=false /\
  ∃xs,KT K H kvs xs/\h.DictOfH (de P w) a xs:=by
 obtain⟨z,y,xs,r,o,es,ep,h1,h2,h3,h4,h5⟩:=(show bN P w K H h a (.dT kvs)from yq ok e);refine⟨z,y,xs,r,o,es,ep,h1,h2,h3,h4,fun x hx=>?_,h5⟩;have all:∀{l:List (TK×V)}{m:List (TK×Addr×Value)},KT K H l m->∀x∈m,(de P w).is h x.1 x.2.1:=by
  intro l m q
  induction q with
  |nil=>intro x hx;exact nomatch hx
  |@cons p q ps qs hq t ih =>
   intro x hx;rcases bf.mp hx with e|hx
   ·subst e;exact sJ ok kin (by rw[<-hq.1];exact hq.2.1) (by rw[<-hq.1];exact hq.2.2.1)
   ·exact ih x hx
 exact all r x hx
theorem yG{kvs:List (TK×V)}(ok:iV P w K H h)(kin:K.In h)(e:H a=some (.dT kvs)):kvs.length<=am/\(a==f_)=false /\
  ∃xs,KT K H kvs xs/\h.DictOfH (de P w) a xs:=mL ok kin (.inl e)
end
mutual
def lB(K:Za)(H:Hp):TK->V->Prop
 |.k a,v=>v=kV a
 |.t l,v=>∃b xs,v=.ref b/\bM K H b xs/\TKIns K H l xs
def TKIns(K:Za)(H:Hp):List TK->List V->Prop
 |[],vs=>vs=[]
 |k::r,vs=>∃v us,vs=v::us/\lB K H k v/\TKIns K H r us
end
theorem fw.isIn{K:Za}{H:Hp}:∀(d:Nat) {k:TK}{v:V},k.depth<=d->fw H k v->lB K H k v:=by
 have key:∀(d:Nat) (ih:∀{k:TK}{v:V},k.depth<=d->fw H k v->lB K H k v) (xs:List TK) (vs:List V),TK.depths xs<=d->TKAts H xs vs->TKIns K H xs vs:=by
  intro d ih xs
  induction xs with
  |nil=>intro vs _ hx;exact hx
  |cons x xs ihl =>
   intro vs hd hx;obtain⟨v,us,rfl,hx1,hx2⟩:=hx;have hd':max x.depth (TK.depths xs)<=d:=hd;exact⟨v,us,rfl,ih (by omega) hx1,ihl us (by omega) hx2⟩
 intro d
 induction d with
 |zero =>
  intro k v hd hx;cases k with
  |t l=>exact absurd hd (by show ¬(TK.depths l+1<=0);omega)
  |k a=>exact hx
 |succ d ih =>
  intro k v hd hx;cases k with
  |k a=>exact hx
  |t l =>
   obtain⟨b,xs,rfl,hb,hi⟩:=hx;exact⟨b,xs,rfl,bM.of hb,key d (fun h1=>ih h1) l xs (by have:TK.depths l+1<=d+1:=hd;omega) hi⟩
theorem xh{X:Cx}{J0:Zd}{σ:St}{H:Hp}{s:Shared}(I:Inv X J0 σ H s):∀(d:Nat) {k:TK}{v:V}{u:Value},k.depth<=d->lB X.K H k v->RelV v u->iQ s.heap k u:=by
 have key:∀(d:Nat) (ih:∀{k:TK}{v:V}{u:Value},k.depth<=d->lB X.K H k v->RelV v u->iQ s.heap k u) (ks:List TK) (vs:List V) (us:Zf),TK.depths ks<=d->TKIns X.K H ks vs->aH vs us->TAts s.heap ks us:=by
  intro d ih ks
  induction ks with
  |nil =>
   intro vs us _ hx r;have e:vs=[]:=hx;subst e;cases r
   rfl
  |cons k ks ihl =>
   intro vs us hd hx r;obtain⟨v,vs',rfl,h1,h2⟩:=hx;cases r with
   |@cons _ u _ us' r1 r2 =>
    have hd':max k.depth (TK.depths ks)<=d:=hd;exact⟨u,us',rfl,ih (by omega) h1 r1,ihl vs' us' (by omega) h2 r2⟩
 intro d
 induction d with
 |zero =>
  intro k v u hd hx r;cases k with
  |t l=>exact absurd hd (by show ¬(TK.depths l+1<=0);omega)
  |k b =>
   have e:v=kV b:=hx;subst e;exact gX (P:=X.prog) (w:=X.w) r
 |succ d ih =>
  intro k v u hd hx r;cases k with
  |k b =>
   have e:v=kV b:=hx;subst e;exact gX (P:=X.prog) (w:=X.w) r
  |t l =>
   obtain⟨b,xs,rfl,hb,hi⟩:=hx;cases(show u=Value.ref b from r);obtain⟨its,rv,⟨ob,h1,h2,n,h3⟩,_⟩:=I.tuple hb;exact⟨b,ob,its.toArray,n,rfl,h1,h2,h3,by simpa using key d (fun h1=>ih h1) l xs its (by have:TK.depths l+1<=d+1:=hd;omega) hi rv⟩
theorem pI{X:Cx}{J0:Zd}{σ:St}{H:Hp}{s:Shared}{k:TK}{b:Addr}(I:Inv X J0 σ H s)(e:lB X.K H k (.ref b))(h8:k.depth<=8):(de X.prog X.w).is s.heap k b:=⟨xh I 8 h8 e rfl,h8⟩
theorem eO{P:bh}{w:World}{A:Around}(hu:A.units+16<cLine):(de P w).room A.in1:=by
 show A.units+1+8<cLine;omega
def qb(K:Za)(H:Hp)(a:Addr)(y:V)(r:Option V):Prop :=
 (∃kvs k,Rd H a (.dK kvs)/\y=kV k/\r=cw kvs k)∨∃kvs k b,Rd H a (.dT kvs)/\y=.ref b/\lB K H k (.ref b)/\k.depth<=8/\r=cw kvs k
def Af(H:Hp)(a:Addr)(y v:V)(H':Hp):Prop :=
 (∃kvs k,H a=some (.dK kvs)/\y=kV k/\kvs.length<am/\H'=upd H a (.dK (d9 kvs k v))) ∨
 ∃kvs k b,H a=some (.dT kvs)/\y=.ref b/\fw H k (.ref b)/\k.depth<=8/\kvs.length<am/\H'=upd H a (.dT (d9 kvs k v))
section
variable{X:Cx}{J0:Zd}{σ:St}{H:Hp}{s:Shared}{a:Addr}{y v:V}{u r:Value}{o:Option V}{A:Around}{E:Zc}
theorem Inv.big(I:Inv X J0 σ H s):f_<s.heap.objs.size:=by
 have h:bg<s.heap.objs.size:=(I.mod.glob.keeps I.bk).lt;exact Nat.lt_trans (by decide) h
theorem vh{Q:Zc}(hu:A.units+16<cLine)(I:Inv X J0 σ H s)(g:qb X.K H a y (some v))(ry:RelV y u)(h:∀w' s',Inv X J0 σ H s'->RelV v w'->Q w' s'):
  wpAny (model X.prog X.w) A (i5 (.ref a) u) Q E s:=by
 rcases g with⟨kvs,k,e,ey,l⟩|⟨kvs,k,b,e,ey,eb,e8,l⟩
 ·subst ey;obtain⟨z,hd,vs,rel,dd⟩:=k6 I.hok e;obtain⟨w',hw,rw'⟩:=g0.some_of (v:=v) (o:=i3 vs k) (by rw[l];exact rel.val k);exact wpAny_getItem_of (gX ry) dd.mapOf hw (h w' _ (I.tok _) rw')
 ·subst ey;cases(show u=Value.ref b from ry);obtain⟨z,hd,xs,rel,dd⟩:=mL I.hok I.kIn e;obtain⟨w',hw,rw'⟩:=g0.some_of (v:=v) (o:=(atKey xs k).map (·.2)) (by rw[l];exact rel.val k);obtain⟨p,hp,hp2⟩:=me.mp hw;refine wpAny_getItem_heap (eO hu) (pI I eb e8) dd hp ?_;rw[hp2];exact h w' _ (I.tok _) rw'
theorem d_in{Q:Zc}(hu:A.units+16<cLine)(I:Inv X J0 σ H s)(g:qb X.K H a y o)(ry:RelV y u)(h:∀s',Inv X J0 σ H s'->Q (.bool o.isSome) s'):
  wpAny (model X.prog X.w) A (c8 .In u (.ref a)) Q E s:=by
 rcases g with⟨kvs,k,e,ey,l⟩|⟨kvs,k,b,e,ey,eb,e8,l⟩
 ·subst ey;obtain⟨z,hd,vs,rel,dd⟩:=k6 I.hok e;refine wpAny_in_of (gX ry) hd dd.mapOf ?_;rw[<-(rel.val k).isSome_eq,<-l];exact h _ (I.tok _)
 ·subst ey;cases(show u=Value.ref b from ry);obtain⟨z,hd,xs,rel,dd⟩:=mL I.hok I.kIn e;refine wpAny_in_heap (eO hu) (pI I eb e8) hd dd ?_;have q:=(rel.val k).isSome_eq;rw[Option.isSome_map]at q;rw[<-q,<-l];exact h _ (I.tok _)
theorem x9{Q:Zc}(hu:A.units+16<cLine)(I:Inv X J0 σ H s)(g:qb X.K H a y o)(ry:RelV y u)(h:∀s',Inv X J0 σ H s'->Q (.bool (!o.isSome)) s'):
  wpAny (model X.prog X.w) A (c8 .NotIn u (.ref a)) Q E s:=by
 rcases g with⟨kvs,k,e,ey,l⟩|⟨kvs,k,b,e,ey,eb,e8,l⟩
 ·subst ey;obtain⟨z,hd,vs,rel,dd⟩:=k6 I.hok e;refine wpAny_notIn_of (gX ry) hd dd.mapOf ?_;rw[<-(rel.val k).isSome_eq,<-l];exact h _ (I.tok _)
 ·subst ey;cases(show u=Value.ref b from ry);obtain⟨z,hd,xs,rel,dd⟩:=mL I.hok I.kIn e;refine wpAny_notIn_heap (eO hu) (pI I eb e8) hd dd ?_;have q:=(rel.val k).isSome_eq;rw[Option.isSome_map]at q;rw[<-q,<-l];exact h _ (I.tok _)
theorem pO{h':Heap}{t':Nat}{ob:HO}(I:Inv X J0 σ H s)(mu:z8 (H a))(hs:fZ a s.heap h')(he:∃q,h'.get? a=some q)(new:bN X.prog X.w X.K (upd H a ob) h' a ob):
  Inv X J0 σ (upd H a ob) { s with heap:=h',toks:=t' } :=
 I.write (x:=a) (e:=a) mu (.inl rfl) (fun b q hb z=>(hs.2 b hb).trans z) he new
theorem wC{P:bh}{w:World}{K:Za}{H':Hp}{h':Heap}{kvs:List (cI×V)}{vs:List (cI×Value)}(z:kvs.length<=am)(hd:(a==f_)=false)(rel:KV kvs vs)(dd:h'.DictOf (bc P w) a vs):
  bN P w K H' h' a (.dK kvs):=⟨z,hd,vs,rel,dd⟩
theorem vg{H':Hp}{Q:Unit->Shared->Prop}(hu:A.units+16<cLine)(I:Inv X J0 σ H s)(g:Af H a y v H')(ry:RelV y u)(rv:RelV v r)(h:∀s',Inv X J0 σ H' s'->Q () s'):
  wpAny (model X.prog X.w) A (setItem (.ref a) u r) Q E s:=by
 rcases g with⟨kvs,k,e,ey,l,eH⟩|⟨kvs,k,b,e,ey,eb,e8,l,eH⟩
 ·subst ey eH;obtain⟨z,hd,vs,rel,dd⟩:=zW I.hok e;have hz:vs.length<=am:=by rw[<-rel.length];exact z
  have hl:(d9 kvs k v).length<=am:=by have:=il kvs k v;omega
  refine wpAny_setItem_pairs (hsz:=hz) (gX ry) dd fun h' dd' hs=>h _ ?_;have he:∃q,h'.get? a=some q:=let⟨q,_,_,hq,_⟩:=dd';⟨q,hq⟩;exact pO I (by rw[e];exact eW) hs he (wC hl hd (rel.put k rv) dd')
 ·subst ey eH;cases(show u=Value.ref b from ry);obtain⟨z,hd,xs,rel,dd⟩:=yG I.hok I.kIn e;have hz:xs.length<=am:=by rw[<-Paired.length rel];exact z
  have hl:(d9 kvs k v).length<=am:=by have:=il kvs k v;omega
  refine wpAny_setItem_heap (hsz:=hz) (eO hu) (sJ I.hok I.kIn (fw.c 8 e8 eb) e8) dd fun h' dd' hs=>h _ ?_;obtain⟨q,es,ep,hq,h2,h3,h4,_,h5⟩:=dd';refine pO I (by rw[e];exact eW) hs ⟨q,hq⟩ ⟨hl,hd,_,(rel.put k (fw.c 8 e8 eb) e8 rv).keeps fun c ys ec=>?_,q,es,ep,hq,h2,h3,h4,h5⟩;rw[af (yC ec e (fun z=>nomatch z))];exact ec
end
def vp(i:Expr):Prop:=∀ov iv,oR i false ov iv=operate [ov,iv] (i5 ov iv)
theorem xj{prog:bh}{w:World}{A:Around}{E:Zc}{s:Shared}{env:Env}{value slice:Expr}{pos:Pos}{T id:String}{Q:Zc}
  (hl:typeLookup (.type T) "__getitem__"=pure (some (.builtin id))) (hs:vp slice)
  (h:wpAny (model prog w) A (eval value env) (fun o s₁=>wpAny (model prog w) A (eval slice env) (fun i s₂=>s₂.TypeIs o T/\wpAny (model prog w) A (i5 o i) Q E s₂) E s₁) E s) :
  wpAny (model prog w) A (eval (.Subscript value slice pos) env) Q E s:=by
 refine Subscript_ (fW h (fun o s₁ h₁=>fW h₁ (fun i s₂ h₂=>?_) fun _ _ x=>x) fun _ _ x=>x);obtain⟨hT,h₂⟩:=h₂;unfold subscriptTail;refine aq ?_;rw[getitemInPython_of_ne hT.not_modules];refine aq (w6 hT hl ?_);have fin:wpAny (model prog w) A (oR slice false o i) (fun r s₃=>wpAny (model prog w) A (letTemporaryGo value o r >>= fun _=>pure r) Q E s₃) E s₂:=by
  rw[hs o i];exact wpAny_operating (fW h₂ (fun r s₃ h₃=>aq (wpAny_letTemporaryGo (aW h₃))) fun _ _ x=>x)
 first
  |exact aW (aq fin)
  |exact aq (aW (aq fin))
  |exact aq fin
theorem rq{X:Cx}{J0:Zd}{σ:St}{H:Hp}{s:Shared}{a:Addr}{y:V}{o:Option V}(I:Inv X J0 σ H s)(g:qb X.K H a y o):s.TypeIs (.ref a) "dict":=by
 rcases g with⟨kvs,k,e,_,_⟩|⟨kvs,k,b,e,_,_,_⟩
 ·obtain⟨_,_,vs,_,dd⟩:=k6 I.hok e;exact dd.typeIs
 ·obtain⟨_,_,xs,_,dd⟩:=mL I.hok I.kIn e;exact dd.typeIs
def tV(K:Za)(td ty:TE):TE:=fun σ H Q=>td σ H fun x H1=>ty σ H1 fun y H2=>∃a v,x=.ref a/\qb K H2 a y (some v)/\Q v H2
def vN(K:Za)(ty td:TE):TE:=fun σ H Q=>ty σ H fun y H1=>td σ H1 fun x H2=>∃a o,x=.ref a/\qb K H2 a y o/\Q (.bl o.isSome) H2
def lF(K:Za)(ty td:TE):TE:=fun σ H Q=>ty σ H fun y H1=>td σ H1 fun x H2=>∃a o,x=.ref a/\qb K H2 a y o/\Q (.bl (!o.isSome)) H2
def nW(td ty tv:TE):TS:=fun D σ H=>tv σ H fun v H1=>td σ H1 fun x H2=>ty σ H2 fun y H3=>∃a H4,x=.ref a/\Af H3 a y v H4/\D.nx σ H4
section
variable{X:Cx}{o i e value:Expr}{pos pos' J5:Pos}{td ty tv:TE}
theorem ph(hu:X.A.units+16<cLine)(ho:PE X o td)(hi:PE X i ty)(hs:vp i):PE X (.Subscript o i pos) (tV X.K td ty):=by
 intro J0 s σ H Q I h;refine xj PySem.F.slot_dict_getitem.lookup hs (bL (ho J0 s σ H _ I h) fun u s1 ⟨x,H1,I1,rx,q1⟩=>bL (hi J0 s1 σ H1 _ I1 q1) fun iv s2 ⟨y,H2,I2,ry,a,v,ex,g,q2⟩=>?_);subst ex;obtain rfl:u=Value.ref a:=rx;exact⟨rq I2 g,vh hu I2 g ry fun w' s3 I3 rw'=>⟨v,H2,I3,rw',q2⟩⟩
theorem pk(hu:X.A.units+16<cLine)(hi:PE X i ty)(ho:PE X o td):PC X .In i o (vN X.K ty td):=by
 intro J0 s σ H Q I h;refine bL (hi J0 s σ H _ I h) fun iv s1 ⟨y,H1,I1,ry,q1⟩=>bL (ho J0 s1 σ H1 _ I1 q1) fun u s2 ⟨x,H2,I2,rx,a,ov,ex,g,q2⟩=>?_;subst ex;obtain rfl:u=Value.ref a:=rx;exact d_in hu I2 g ry fun s3 I3=>⟨.bl ov.isSome,H2,I3,rfl,q2⟩
theorem ki(hu:X.A.units+16<cLine)(hi:PE X i ty)(ho:PE X o td):PC X .NotIn i o (lF X.K ty td):=by
 intro J0 s σ H Q I h;refine bL (hi J0 s σ H _ I h) fun iv s1 ⟨y,H1,I1,ry,q1⟩=>bL (ho J0 s1 σ H1 _ I1 q1) fun u s2 ⟨x,H2,I2,rx,a,ov,ex,g,q2⟩=>?_;subst ex;obtain rfl:u=Value.ref a:=rx;exact x9 hu I2 g ry fun s3 I3=>⟨.bl (!ov.isSome),H2,I3,rfl,q2⟩
theorem jL(hu:X.A.units+16<cLine)(ho:PE X o td)(hi:PE X i ty)(hv:PE X value tv)(hs:lS value (some (.Subscript o i pos')) pos.line X.env=pure false):
  PS X (.Assign [.Subscript o i pos'] value pos) (nW td ty tv):=by
 intro J0 s σ H D I h;refine wpAny_Assign_Subscript (bL (hv J0 s σ H _ I h) fun r s1 ⟨v,H1,I1,rv,q1⟩=>bL (ho J0 s1 σ H1 _ I1 q1) fun u s2 ⟨x,H2,I2,rx,q2⟩=>bL (hi J0 s2 σ H2 _ I2 q2) fun iv s3 ⟨y,H3,I3,ry,a,H4,ex,g,q3⟩=>?_) hs;subst ex;obtain rfl:u=Value.ref a:=rx;exact vg hu I3 g ry rv fun s4 I4=>⟨σ,H4,I4,q3⟩
end
theorem wD{P:bh}{w:World}{K:Za}{H:Hp}(h:Heap)(hb:f_<h.objs.size):bN P w K H (h.push { cls:=.type "dict",data:=.dict #[] }) h.objs.size (.dK []) :=
 ⟨cj _,beq_eq_false_iff_ne.mpr (e_ (bS hb)),[],.nil,Heap.DictOf.new h⟩
theorem wB{P:bh}{w:World}{K:Za}{H:Hp}(h:Heap)(hb:f_<h.objs.size):bN P w K H (h.push { cls:=.type "dict",data:=.dict #[] }) h.objs.size (.dT []) :=
 ⟨cj _,beq_eq_false_iff_ne.mpr (e_ (bS hb)),[],.nil,_,#[],0,cA _ rfl,⟨rfl,rfl,rfl⟩,rfl,rfl,md⟩
def o6:TE:=fun _ H Q=>∀p,H p=none->Q (.ref p) (upd H p (.dK []))
def r_:TE:=fun _ H Q=>∀p,H p=none->Q (.ref p) (upd H p (.dT []))
section
variable{X:Cx}{pos:Pos}
theorem mD:PE X (.Dict [] [] pos) o6:=fun J0 s σ H Q I h =>
 wpAny_Dict_empty ⟨.ref s.heap.objs.size,_,I.laid (a:=s.heap.objs.size) (o:=.dK []) (t':=s.toks) (fun _ _ q=>aO _ q) (aE _) (wD s.heap I.big),rfl,h _ (I.hok.fresh (aE _))⟩
theorem qQ:PE X (.Dict [] [] pos) r_:=fun J0 s σ H Q I h =>
 wpAny_Dict_empty ⟨.ref s.heap.objs.size,_,I.laid (a:=s.heap.objs.size) (o:=.dT []) (t':=s.toks) (fun _ _ q=>aO _ q) (aE _) (wB s.heap I.big),rfl,h _ (I.hok.fresh (aE _))⟩
end
def fS(kvs more:List (cI×V)):List (cI×V):=more.foldl (fun acc kv=>d9 acc kv.1 kv.2) kvs
theorem KV.merge:∀{more:List (cI×V)}{rs:List (cI×Value)}{kvs:List (cI×V)}{vs:List (cI×Value)},KV more rs->KV kvs vs->KV (fS kvs more) (merged vs rs):=by
 intro more rs kvs vs r;unfold KV at r
 induction r generalizing kvs vs with
 |nil=>intro q;exact q
 |@cons p q ps qs h t ih =>
  intro r0;have e:KV (d9 kvs p.1 p.2) (stored vs q.1 q.2):=by
   have:=r0.put p.1 h.2;rw[<-h.1];exact this
  exact ih e
theorem iU:∀(more kvs:List (cI×V)),(fS kvs more).length<=kvs.length+more.length
 |[],kvs=>by show kvs.length<=kvs.length+0;omega
 |p::r,kvs=>by
  have h1:=iU r (d9 kvs p.1 p.2);have h2:=il kvs p.1 p.2;show(fS (d9 kvs p.1 p.2) r).length<=_;rw[eZ];omega
structure M2(X:Cx)(o:Expr)(m:Str)(J2:Pos)(e f:Expr)(J1:Pos):Prop where
 base:qk o m X.env (eval o X.env)=eval o X.env
 few:((backTo J1 (ax [e,f] X.env)).all (fun x=>!x.1) && (kI J1 (kH [] X.env)).all (fun x=>x.1.isSome)
  && decide (([e,f]:List Expr).length+([]:List Keyword).length+(if([]:List Keyword).isEmpty then 0 else 1)<30))=true
 line:(J2.endLine==J1.line)=true
 trees:backTo J1 (ax [e,f] X.env)=[(false,eval e X.env),(false,eval f X.env)]
def IsD(H:Hp)(a:Addr):Prop:=(∃kvs,Rd H a (.dK kvs))∨∃kvs,Rd H a (.dT kvs)
theorem zf{X:Cx}{J0:Zd}{σ:St}{H:Hp}{s:Shared}{a:Addr}(I:Inv X J0 σ H s)(d:IsD H a):
  s.TypeIs (.ref a) "dict"/\(∀b,Value.ref a=.ref b->∃ob,s.heap.get? b=some ob/\ob.dict=none)/\(a==f_)=false:=by
 rcases d with⟨kvs,e⟩|⟨kvs,e⟩
 ·obtain⟨_,hd,vs,_,dd⟩:=k6 I.hok e;refine⟨dd.typeIs,fun b q=>?_,hd⟩;cases q;obtain⟨ob,_,_,h1,h2,_⟩:=dd;exact⟨ob,h1,h2.2.1⟩
 ·obtain⟨_,hd,xs,_,dd⟩:=mL I.hok I.kIn e;refine⟨dd.typeIs,fun b q=>?_,hd⟩;cases q;obtain⟨ob,_,_,h1,h2,_⟩:=dd;exact⟨ob,h1,h2.2.1⟩
section
variable{X:Cx}{J0:Zd}{σ:St}{H:Hp}{s:Shared}{a:Addr}{y d:V}{u r:Value}{o:Option V}{A:Around}{E:Zc}
theorem zp{Q:Zc}(hu:A.units+16<cLine)(I:Inv X J0 σ H s)(g:qb X.K H a y o)(ry:RelV y u)(rd:RelV d r)(h:∀w' s',Inv X J0 σ H s'->RelV (o.getD d) w'->Q w' s'):
  wpAny (model X.prog X.w) A (call (.builtin "dict.get") [.ref a,u,r]) Q E s:=by
 rcases g with⟨kvs,k,e,ey,l⟩|⟨kvs,k,b,e,ey,eb,e8,l⟩
 ·subst ey;obtain⟨z,hd,vs,rel,dd⟩:=k6 I.hok e;refine call_meetsIn PySem.F.slot_dict_get dd.typeIs PySem.F.entry_dict_get (PySem.F.args_dict_get_3 _ _ _) (meets_dict_get_default (bc X.prog X.w) a (gX ry) hd r) ⟨_,dd.mapOf,h _ _ (I.tok _) ?_⟩;rw[l];exact(rel.val k).getD rd
 ·subst ey;cases(show u=Value.ref b from ry);obtain⟨z,hd,xs,rel,dd⟩:=mL I.hok I.kIn e;refine call_meetsIn PySem.F.slot_dict_get dd.typeIs PySem.F.entry_dict_get (PySem.F.args_dict_get_3 _ _ _) (meetsH_dict_get_default (de X.prog X.w) a b hd r) ⟨eO hu,k,xs,pI I eb e8,dd,h _ _ (I.tok _) ?_⟩;rw[l];exact(rel.val k).getD rd
end
def se(K:Za)(td ty tx:TE):TE:=fun σ H Q=>td σ H fun x H1=>∃a,x=.ref a/\IsD H1 a/\ty σ H1 fun y H2=>tx σ H2 fun z H3=>∃o,qb K H3 a y o/\Q (o.getD z) H3
section
variable{X:Cx}{o e f:Expr}{J2 J1:Pos}{td ty tx:TE}
theorem qR(hu:X.A.units+16<cLine)(ho:PE X o td)(he:PE X e ty)(hf:PE X f tx)(m:M2 X o "get" J2 e f J1):PE X (.Call (.Attribute o "get" J2) [e,f] [] J1) (se X.K td ty tx):=by
 intro J0 s σ H Q I h;refine wpAny_Call_method m.base m.few m.line PySem.F.plainAttrs_dict PySem.F.slot_dict_get PySem.F.type_dict_get (bL (ho J0 s σ H _ I h) fun u s1 ⟨x,H1,I1,rx,a,ex,d,q1⟩=>?_);subst ex;obtain rfl:u=Value.ref a:=rx;obtain⟨t1,t2,_⟩:=zf I1 d;refine⟨t1,t2,?_⟩;rw[m.trees];refine Calls.callWith_builtin rfl (Calls.evalArgs_plain (Calls.spliced_cons (bL (he J0 s1 σ H1 _ I1 q1) fun iv s2 ⟨y,H2,I2,ry,q2⟩ =>
  Calls.spliced_cons (bL (hf J0 s2 σ H2 _ I2 q2) fun fv s3 ⟨z,H3,I3,rz,ov,g,q3⟩=>Calls.spliced_nil ?_))))
 exact zp hu I3 g ry rz fun w' s4 I4 rw'=>⟨_,H3,I4,rw',q3⟩
end
end L2
namespace Att
open PySem PySem.W PySem.Calls PyProof.Rows
theorem ints_of_wellAll{P:Params}{h:Heap}:∀(ns:List Int) (vs:Zf),WellAll P h vs (ns.map WData.int)->ma vs ns:=by
 intro ns
 induction ns with
 |nil =>
  intro vs w;rw[List.map_nil]at w;cases w;exact .nil
 |cons n ns ih =>
  intro vs w;rw[aN]at w;cases w with
  |cons a b =>
   cases a;exact .cons _ _ (ih _ b)
theorem script_of{l:OpenLaw}{n:Nat}(hn:l.most=some n){P:Params}{h:Heap}{args:List WData}{vals:Zf}
  (hpre:l.row.toRowW.claim.pre args=true) (hwl:WellAll P h vals args) :
  ∃a vs ns,vals=[Value.ref a]/\args=[WData.list (ns.map WData.int)]/\h.get? a=some { cls:=.type "list",data:=.seq vs.toArray }/\ma vs ns/\ns.length<=n:=by
 have hsh:WShape.hasAll [] args [.list .int]=true:=(pre_splitW hpre).1;have hc:l.pre.holds [] { args:=args }=true:=(pre_splitW hpre).2;obtain⟨d,r,rfl,h1,h2⟩:=hasAllW_cons hsh;obtain rfl:=hasAllW_nil h2;obtain⟨xs,rfl,h3⟩:=hasW_list h1;obtain⟨ns,rfl⟩:=items_int h3;have hlen:ns.length<=n:=by
  unfold OpenLaw.pre at hc;have h4:(WTm.not (.lt (.lit (.int (n:Int))) (.len (.arg 0)))).holds [] { args:=[.list (ns.map .int)] }=true:=by
   have h4:=(holds_andW hc).1;rw[hn]at h4;exact h4
  have h5:=condW_of h4 (w_not (w_lt w_lit (w_len_list (w_arg rfl))));rw[ap]at h5;refine Nat.le_of_not_lt fun q=>?_;have q':(n:Int)<((ns.length:Nat):Int):=by omega
  first
   | (rw[zzr1 q']at h5;exact absurd h5 (by decide))
   | (simp at h5;omega)
 cases hwl with
 |cons w1 w2 =>
  cases w2;cases w1 with
  |list ho hall=>exact⟨_,_,ns,rfl,rfl,ho,ints_of_wellAll ns _ hall,hlen⟩
theorem post_true(l:OpenLaw)(args:List WData):l.row.toRowW.claim.post args (.bool true) args=true :=
 postW_of (r:=l.row.toRowW) (X:=(true==true))
  (show WShape.has [] (.bool true) .bool=true by first|rfl|decide|simp[WShape.has,WShape.arms,WShape.armsAll])
  (show(WTm.eq .res (.lit (.bool true))).value [] { args:=args,res:=some (.bool true),after:=args }=some (.bool (true==true))from w_eq_bool (w_res rfl) w_lit) rfl
theorem attach_call{l:OpenLaw}{n:Nat}{q:bh}{loose:Zb}{XP:(Str->Option Value)->Heap->Prop}{YP:World->Heap->Prop}{d:DefRec}
  (hn:l.most=some n) (hdf:d.params.defaults=[])
  (call:∀(w:World) (s₀ s₁:Shared) (mg mb:Str->Option Value) (fa:Addr) (o:Obj) (pm cd doc:Value) (a:Addr) (vs:Zf) (ns:List Int),
   Ground q loose [] XP w s₀ mg mb s₁.heap->YP w s₁.heap ->
   s₁.heap.get? fa=some o->o.data=.func (docDef d.name d.params d.body d.scope pm cd doc)->s₁.heap.CodeRec cd d.name->mg d.name=some (.ref fa) ->
   s₁.heap.get? a=some { cls:=.type "list",data:=.seq vs.toArray }->ma vs ns->ns.length<=n->s₁.gens=#[] ->
   zzl73 (model l.prog w) hV (.call (.ref fa) ⟨[.ref a],[]⟩) (fun r s'=>r=.ok (.ret (.bool true))/\OldK s₁.heap s'.heap/\s'.os=s₁.os/\jy s'.gens) s₁) :
  WalkO q loose XP YP l.row.toRowW d [] (fun f vs=>PySem.call f vs):=by
 intro w s₀ s₁ mg mb G Y fa o pm cd doc dV kV ho hd hcd hD hmg hg args vals as hpre hlay hrd hwl hlo;obtain rfl:dV=.none:=Dflts.none hD hdf;obtain rfl:kV=.none:=Dflts.noKw hD;obtain⟨a,vs,ns,rfl,rfl,hobj,hints,hlen⟩:=script_of hn hpre hwl;refine enter_call (tF (call w s₀ s₁ mg mb fa o pm cd doc a vs ns G Y ho (fd_plain hd) hcd hmg hobj hints hlen hg) fun r s' hq=>?_);obtain⟨rfl,h2,h3,h4⟩:=hq;exact⟨.inl ⟨.bool true,.bool true,[],rfl,fun _=>rfl,.bool true,post_true l _,fun _=>⟨List.Pairwise.nil,fun _ hm=>(nomatch hm)⟩⟩,h2,h3,h4⟩
end Att
namespace L2
open PySem PySem.Spec PyProof.Rows
theorem nL:∀{vs:Zf}{ns:List Int},ma vs ns->aH (ns.map V.int) vs
 |_,_,.nil=>.nil
 |_,_,.cons n t h=>.cons ⟨t,rfl⟩ (nL h)
def yh(H:Hp):Prop:=∀b,H b=none∨∃o xs,H b=some (.frz o (.lst xs))
theorem wg{P:bh}{w:World}{K:Za}{mg mb:Str->Option Value}{CX:vC}{k:Nat}{fa a:Addr}{fd:gR}{x:Str}{sp:Sp}{s₁:Shared}{vs:Zf}{ns:List Int}
  (KX:K.In s₁.heap) (hns:s₁.heap.Ns bg mg) (hb:s₁.heap.Ns builtinsNs mb) (hbb:∀x:Str,x≠"__name__"->mb x=fI x) (hlim:s₁.heap.NoLimit) (hg:s₁.gens=#[])
  (ha:s₁.heap.get? a=some { cls:=.type "list",data:=.seq vs.toArray }) (hi:ma vs ns) (hl:ns.length<=am) (hr:cN k hV)
  (F:∀base:Heap,K.In base->base.Ns bg mg->iz P w K mg base CX k fa fd [x] sp) (hbind:∀(s:Shared) (u:Value),lQ s fd ⟨[u],[]⟩ [(x,u)])
  (hsp:∀H:Hp,yh H->aB K H a (ns.map V.int)->sp [.ref a] H (fun v _=>v=.bl true) fun _ _ _=>False)
  (hCX:∀H e s',CX [] H s₁ (fun _ _ _=>False) e s'->False) :
  zzl73 (model P w) hV (.call (.ref fa) ⟨[.ref a],[]⟩) (fun r s'=>r=.ok (.ret (.bool true))/\OldK s₁.heap s'.heap/\s'.os=s₁.os/\jy s'.gens) s₁:=by
 have rv:=nL hi;have lenV:=hi.length;have core:∀H:Hp,yh H->aB K H a (ns.map V.int)->iV P w K H s₁.heap->(∀b,H b≠none->b=a)->(H a≠none->K.lookup a=none) ->
   zzl73 (model P w) hV (.call (.ref fa) ⟨[.ref a],[]⟩) (fun r s'=>r=.ok (.ret (.bool true))/\OldK s₁.heap s'.heap/\s'.os=s₁.os/\jy s'.gens) s₁:=by
  intro H hO hS hok hA hK;have base_of:∀{b:Addr}{o:Obj},s₁.heap.get? b=some o->H b=none->(pJ s₁.heap H).get? b=some o:=fun e n=>wn e n;have noA:∀{b:Addr}{o:Obj}{es:Array DictEntry}{ep:Nat},s₁.heap.get? b=some o->o.data=.dict es ep->H b=none:=fun{b o es ep} e d=>by
   cases q:H b with
   |none=>rfl
   |some u =>
    have e':b=a:=hA b (by rw[q];simp);subst e';rw[ha]at e;cases e;have d':Data.seq vs.toArray _=Data.dict es ep:=d;cases d'
  have nsK:∀{b:Addr}{m:Str->Option Value},s₁.heap.Ns b m->(pJ s₁.heap H).Ns b m:=fun{b m} ⟨o,es,ep,e,d,r⟩=>⟨o,es,ep,base_of e (noA e d),d,r⟩;have hKb:K.In (pJ s₁.heap H):=fun b o e=>base_of (KX b o e) (by
   cases q:H b with
   |none=>rfl
   |some u =>
    have e':b=a:=hA b (by rw[q];simp);subst e';rw[hK (by rw[q];simp)]at e;cases e)
  have hM:Mod K mg (pJ s₁.heap H):=⟨hKb,nsK hns,⟨mb,nsK hb,hbb⟩,let⟨mc,h1,h2⟩:=hlim;⟨mc,nsK h1,h2⟩⟩;have e0:tq P w K mg (pJ s₁.heap H) hV [] s₁ H:=⟨rfl,hM,fun b o e=>xL e,Nat.le_of_eq (va _ _),trivial,fun b hb=>absurd (show b∈([]:Ze)from hb) (by simp),hok,.of_eq hg⟩;refine tF ((F _ hKb (nsK hns)).run hV [] s₁ H ⟨[.ref a],[]⟩ [.ref a] [.ref a] _ _ hr e0 (hbind s₁ (.ref a)) (.cons rfl .nil) (hsp H hO hS)) fun r s' h=>?_;cases r with
  |error e=>exact(hCX H e s' h).elim
  |ok fl =>
   cases fl with
   |next=>exact fV h
   |brk=>exact fV h
   |cont=>exact fV h
   |ret u =>
    obtain⟨v,H',os,bare,un,hok',r',q⟩:=h;have q':v=.bl true:=q;subst q';obtain rfl:u=Value.bool true:=r';refine⟨rfl,OldK.of_keep fun b o e=>?_,os,bare⟩;cases q:H b with
    |none=>exact un.keep b o e q (by intro z;exact absurd (show b∈([]:Ze)from z) (by simp)) (by simp)
    |some u =>
     rcases hO b with z|⟨ob,xs,z⟩
     ·rw[q]at z;cases z
     ·have z2:=un.frzs b ob _ z;obtain⟨e1,_⟩:=hok b _ z;obtain⟨e2,_⟩:=hok' b _ z2;rw[e]at e1;cases e1;exact e2
 cases hk:K.lookup a with
 |some o =>
  have e:=KX a o hk;rw[ha]at e;cases e;refine core (fun _=>none) (fun _=>.inl rfl) (.inr ⟨_,vs.toArray,_,hk,rfl,rfl,rfl,by rw[bt,lenV];exact hl,by simpa using rv⟩) (fun b u z=>by have z':(none:Option HO)=some u:=z;cases z') (fun b z=>absurd rfl z) fun z=>absurd rfl z
 |none =>
  refine core (fun b=>if b=a then some (.frz { cls:=.type "list",data:=.seq vs.toArray } (.lst (ns.map V.int)))else none) (fun b=>?_) (.inl (.inr ⟨{ cls:=.type "list",data:=.seq vs.toArray },if_pos rfl⟩)) (fun b u z=>?_) (fun b z=>?_) fun _=>hk
  ·by_cases hb:b=a
   ·exact .inr ⟨_,_,if_pos hb⟩
   ·exact .inl (if_neg hb)
  ·by_cases hb:b=a
   ·have z':=(if_pos hb).symm.trans z;cases z';subst hb;exact⟨ha,by rw[ap];exact hl,vs,_,rv,ha⟩
   ·have z':=(if_neg hb).symm.trans z;cases z'
  ·by_cases hb:b=a
   ·exact hb
   ·exact absurd (if_neg hb) z
end L2
namespace L2
open PySem PySem.Spec PyProof.Rows
theorem w_{l:PySem.W.OpenLaw}{n k:Nat}{q:bh}{loose:Zb}{XP:(Str->Option Value)->Heap->Prop}{YP:World->Heap->Prop}{d:DefRec}{K:Params->Za}{CX:World->vC}{sp:World->Sp}{x:Str}
  (hn:l.most=some n) (hn2:n<=am) (hdf:d.params.defaults=[]) (hr:cN k hV)
  (hY:∀(w:World) (h:Heap),YP w h->(K w.params).In h)
  (F:∀(w:World) (mg:Str->Option Value) (fa:Addr) (h:Heap),(K w.params).In h->h.Ns bg mg->mg d.name=some (.ref fa) ->
   ∃fd:gR,(∀(s:Shared) (u:Value),lQ s fd ⟨[u],[]⟩ [(x,u)]) /\
    ∀base:Heap,(K w.params).In base->base.Ns bg mg->iz l.prog w (K w.params) mg base (CX w) k fa fd [x] (sp w))
  (hsp:∀(w:World) (H:Hp) (a:Addr) (ns:List Int),ns.length<=n->yh H->aB (K w.params) H a (ns.map V.int)->sp w [.ref a] H (fun v _=>v=.bl true) fun _ _ _=>False)
  (hCX:∀(w:World) (H:Hp) (s:Shared) (e:Value) (s':Shared),CX w [] H s (fun _ _ _=>False) e s'->False) :
  PySem.W.WalkO q loose XP YP l.row.toRowW d [] (fun f vs=>PySem.call f vs):=by
 refine Att.attach_call hn hdf fun w s₀ s₁ mg mb fa o pm cd doc a vs ns G Y ho hd hcd hmg hobj hints hlen hg=>?_;have KX:=hY w _ Y;obtain⟨fd,hb,hF⟩:=F w mg fa _ KX G.T.g hmg;exact wg KX G.T.g G.T.b G.T.builtins G.T.nolimit hg hobj hints (cn hlen hn2) hr hF hb (fun H hO hS=>hsp w H a ns hlen hO hS) fun H e s'=>hCX w H s₁ e s'
theorem walk_ofK{l:PySem.W.OpenLaw}{n k:Nat}{q:bh}{loose:Zb}{XP:(Str->Option Value)->Heap->Prop}{YP:World->Heap->Prop}{d:DefRec}{K:Params->Za}{CX:vC}{sp:Za->Sp}{x:Str}
  (hn:l.most=some n) (hn2:n<=am) (hdf:d.params.defaults=[]) (hr:cN k hV)
  (hY:∀(w:World) (h:Heap),YP w h->(K w.params).In h)
  (F:∀(w:World) (mg:Str->Option Value) (fa:Addr) (h:Heap),(K w.params).In h->h.Ns bg mg->mg d.name=some (.ref fa) ->
   ∃fd:gR,(∀(s:Shared) (u:Value),lQ s fd ⟨[u],[]⟩ [(x,u)]) /\
    ∀base:Heap,(K w.params).In base->base.Ns bg mg->iz l.prog w (K w.params) mg base CX k fa fd [x] (sp (K w.params)))
  (hsp:∀(K:Za) (H:Hp) (a:Addr) (ns:List Int),ns.length<=n->yh H->aB K H a (ns.map V.int)->sp K [.ref a] H (fun v _=>v=.bl true) fun _ _ _=>False)
  (hCX:∀(H:Hp) (s:Shared) (e:Value) (s':Shared),CX [] H s (fun _ _ _=>False) e s'->False) :
  PySem.W.WalkO q loose XP YP l.row.toRowW d [] (fun f vs=>PySem.call f vs) :=
 w_ (K:=K) (CX:=fun _=>CX) (sp:=fun w=>sp (K w.params)) hn hn2 hdf hr hY F (fun w H a ns h1 h2 h3=>hsp (K w.params) H a ns h1 h2 h3) fun _ H s e s'=>hCX H s e s'
end L2
namespace L2
open PySem PySem.Spec PyProof.Rows
def gH(s:Stmt)(j:Nat):Stmt:=match s with
 |.ClassDef _ _ _ body _ _ _ _ _ _ _=>body.getD j (.Pass ⟨0,0,0,0⟩)
 |_=>.Pass ⟨0,0,0,0⟩
def eN(s:Stmt):Arguments:=match s with
 |.FunctionDef _ a _ _ _ _ _ _ _ _=>a
 |_=>{ posonlyargs:=[],args:=[],vararg:=none,kwonlyargs:=[],kw_defaults:=[],kwarg:=none,defaults:=[] }
def dB(s:Stmt):List Stmt:=match s with
 |.FunctionDef _ _ b _ _ _ _ _ _ _=>b
 |_=>[]
def bd(s:Stmt):Scope:=match s with
 |.FunctionDef _ _ _ _ _ _ sc _ _ _=>sc
 |_=>{ kind:=.function,names:=[],isGenerator:=false,isCoroutine:=false }
abbrev CX0:vC:=fun _ _ _ _ _ _=>False
abbrev E0:XK:=fun _ _ _=>False
abbrev a_(sp:Sp)(a:TA):TE:=yo sp [] E0 a
theorem t_{X:Cx}:jn CX0 X E0:=fun _ _ _ _ _ _ _ h=>h.elim
structure zF(K:Za)(x qual:Str)(st:Stmt)(f:Addr)(fd:gR):Prop where
 ex:∃(oc:Value) (od:Option Addr) (kV doc pm:Value) (an:Option Addr) (cdv ct:Value) (osl:Array (Option Value)),
  fd=fg x qual (eN st) (dB st) (bd st) .none kV doc pm an cdv ct/\K.lookup f=some ⟨oc,od,.func fd,osl⟩/\i6 K cdv qual=true
 kp:eX K (.ref f)=true
section
variable{P:bh}{w:World}{K:Za}{mg:Str->Option Value}{base:Heap}
theorem zF.ok{x qual:Str}{st:Stmt}{f:Addr}{fd:gR}{N ps:Zb}{k:Nat}{sp:Sp}(F:zF K x qual st f fd)(S:gL N ps (bd st))(len:∀vs H Q E,sp vs H Q E->vs.length=ps.length)
  (hbody:∀(cdv:Value) (A:Around) (outer:List Env) (s:Shared) (H:Hp) (vs:List V) (Q:VK) (E:XK),cN k (A.deeper (envOfC qual (bd st) s.heap.objs.size f cdv))->sp vs H Q E ->
   ∃t,rN (sQ CX0 P w K mg base N qual (bd st) f cdv A outer s H E).nox (dB st) t/\t (cp Q) (start N vs) H):iz P w K mg base CX0 (k+1) f fd ps sp:=by
 obtain⟨oc,od,kV,doc,pm,an,cdv,ct,osl,rfl,lk,hcd⟩:=F.ex;refine zT lk hcd S len fun A outer s H vs Q E hr hsp=>?_;obtain⟨t,h,q⟩:=hbody cdv A outer s H vs Q E hr hsp;exact⟨t,h.nox,q⟩
theorem zF.binds{x qual:Str}{st:Stmt}{f:Addr}{fd:gR}{ps:Zb}(F:zF K x qual st f fd)
  (h:∀(kV doc pm:Value) (an:Option Addr) (cdv ct:Value) (us:Zf),us.length=ps.length->bindArgs (fg x qual (eN st) (dB st) (bd st) .none kV doc pm an cdv ct) ⟨us,[]⟩=pure (ps.zip us)):Binds K fd ps []:=by
 obtain⟨oc,od,kV,doc,pm,an,cdv,ct,osl,rfl,lk,hcd⟩:=F.ex;exact .all (h kV doc pm an cdv ct)
theorem wu{x qual:Str}{st:Stmt}{f:Addr}{oc:Value}{od an:Option Addr}{osl:Array (Option Value)}{kV doc pm cdv ct:Value}(l:K.lookup f=some ⟨oc,od,.func (fg x qual (eN st) (dB st) (bd st) .none kV doc pm an cdv ct),osl⟩)
  (c:i6 K cdv qual=true) (k:eX K (.ref f)=true):zF K x qual st f (fg x qual (eN st) (dB st) (bd st) .none kV doc pm an cdv ct):=⟨⟨oc,od,kV,doc,pm,an,cdv,ct,osl,rfl,l,c⟩,k⟩
end
theorem uh{A:Around}{k:Nat}(hr:cN k A):A.units+16<cLine:=oM (Nat.add_le_add_left (by decide:16<=64) _) hr.units
theorem aY{n:Nat}(h:n<=1000):n<am:=oM h (by decide)
section
variable{X:Cx}
theorem pv(i:Nat){x:Str}{pos:Pos}(hN:X.N[i]?=some x:=by rfl)(hv:Vis X.env.scope x:=by first|exact Or.inl rfl|exact Or.inr (Or.inl rfl)|exact Or.inr (Or.inr rfl))(hd:(x==("__debug__":Str))=false:=by decide)
  (hcd:(x==("__classdict__":Str))=false:=by decide):PE X (.Name x pos) (iK i):=y_ hN hv hd hcd
end
theorem bj{A B:Prop}(h:B):if false=true then A else B:=by
 rw[if_neg fX];exact h
theorem bY{A B:Prop}(h:A):if true=true then A else B:=by
 rw[if_pos rfl];exact h
theorem mI{c A B:Prop}[Decidable c](h1:c->A)(h2:¬c->B):if c then A else B:=by
 by_cases h:c
 ·rw[if_pos h];exact h1 h
 ·rw[if_neg h];exact h2 h
def aj(H H':Hp):Prop:=∀b o,H b=some o->H' b=some o
theorem aj.refl(H:Hp):aj H H:=fun _ _ h=>h
theorem aj.trans{H H1 H2:Hp}(a:aj H H1)(b:aj H1 H2):aj H H2:=fun c o h=>b c o (a c o h)
theorem aj.free{H H':Hp}(e:aj H H'){l:Addr}(h:H' l=Option.none):H l=Option.none:=by
 cases q:H l with
 |none=>rfl
 |some o =>
  rw[e l o q]at h;cases h
theorem aj.seq{K:Za}{H H':Hp}{a:Addr}{xs:List V}(e:aj H H')(h:aB K H a xs):aB K H' a xs:=by
 rcases h with(h|⟨o,h⟩)|h
 ·exact .inl (.inl (e _ _ h))
 ·exact .inl (.inr ⟨o,e _ _ h⟩)
 ·exact .inr h
section
variable{prog:bh}{w:World}{A:Around}{R:Result->Shared->Prop}{s:Shared}
abbrev XF:Value->Shared->Prop:=fun _ _=>False
abbrev sN(ifs:List Expr)(env:Env):Sem Bool:=forIn ifs true fun c r=>if r=true then do let ok <- isTrue c env (eval c env);pure (oK ok)else pure (oK r)
theorem pR{elt target iter:Expr}{ifs:List Expr}{scope:Scope}{pos:Pos}{it acc:Value}{env:Env}(I:Nat->Shared->Prop)
  (turn:∀n s,I n s->wpAny (model prog w) A (pyNext it) (fun r s₁=>match r with
   |none=>R (.ok .next) s₁
   |some v=>wpAny (model prog w) A (tM target it v) (fun _ s₁'=>wpAny (model prog w) A (assign target env v) (fun _ s₂ =>
     wpAny (model prog w) A (sN ifs env) (fun ok s₃ =>
      if ok=true then wpAny (model prog w) A (eval elt env) (fun x s₄ =>
       wpAny (model prog w) A (call (.builtin "list.append") [acc,x]) (fun _ s₅=>∃m,m<n/\I m s₅) XF s₄) XF s₃
      else ∃m,m<n/\I m s₃) XF s₂) XF s₁') XF s₁) XF s)
  (n:Nat) (h:I n s):zzl73 (model prog w) A (.compLoop (.ListComp elt [⟨target,iter,ifs,0⟩] scope pos) 0 it acc env) R s:=by
 refine codeAny_loop rfl I (fun n s hI=>?_) n h;show wpAny _ A ((compTurn (.ListComp elt [⟨target,iter,ifs,0⟩] scope pos) 0 it acc env).onRaise (fun x=>do noteFrame x env;theTreesLotGoes x)) _ _ s
 refine wpAny_noted ?_;rw[compTurn_list];refine aq (wpAny_standAt (aq (fW (turn n s hI) (fun r s₁ h₁=>?_) fun _ _ h'=>h'.elim)));cases r with
 |none=>exact aW h₁
 |some v =>
  refine aq (fW h₁ (fun _ s₁' h₁'=>?_) fun _ _ h'=>h'.elim);refine aq (fW h₁' (fun _ s₂ h₂=>aq (fW h₂ (fun ok s₃ h₃=>?_) fun _ _ h'=>h'.elim)) fun _ _ h'=>h'.elim);cases ok with
  |false=>exact aW ⟨rfl,h₃⟩
  |true =>
   exact aq (aq (fW h₃ (fun x s₄ h₄=>aq (fW h₄ (fun _ s₅ h₅=>aW (aW ⟨rfl,h₅⟩)) fun _ _ h'=>h'.elim)) fun _ _ h'=>h'.elim))
end
theorem jk{env:Env}:∀(names:List (Str×fT)) (cs0:List (Str×Addr)),(∀y∈names,y.2=.free->∃c,env.cells.lookup y.1=some c)->(∀x c,cs0.lookup x=some c->env.cells.lookup x=some c) ->
  ∃cs:List (Str×Addr),(forIn names cs0 fun(x:Str×fT) (r:List (Str×Addr))=>if(x.2==hU)=true then(cellOf env x.1 >>= fun c=>(pure (oK ((x.1,c)::r)):Sem (ForInStep (List (Str×Addr)))))else pure (oK r))=pure cs /\
   (∀x c,cs.lookup x=some c->env.cells.lookup x=some c)/\(∀x,(cs0.lookup x).isSome=true->(cs.lookup x).isSome=true)/\∀y∈names,y.2=.free->(cs.lookup y.1).isSome=true
 |[],cs0,_,h0=>⟨cs0,rfl,h0,fun _ h=>h,fun _ h=>nomatch h⟩
 | (n,k)::r,cs0,has,h0=>by
  have hr:∀y∈r,y.2=.free->∃c,env.cells.lookup y.1=some c:=fun y hy=>has y (cC _ hy);by_cases hk:k=.free
  ·subst hk;obtain⟨c,hc⟩:=has (n,.free) eG rfl;obtain⟨cs,e,p1,p2,p3⟩:=jk r ((n,c)::cs0) hr (fun x d hd=>by
    rw[em]at hd;cases hx:x==n with
    |true =>
     rw[hx]at hd;have:x=n:=by simpa using hx
     subst this;cases hd;exact hc
    |false=>rw[hx]at hd;exact h0 x d hd)
   have hself:(((n,c)::cs0).lookup n).isSome=true:=by rw[em,beq_self_eq_true];rfl
   have hmono:∀x,(cs0.lookup x).isSome=true->(((n,c)::cs0).lookup x).isSome=true:=fun x hx=>by
    rw[em];cases x==n with
    |true=>rfl
    |false=>exact hx
   refine⟨cs,?_,p1,fun x hx=>p2 x (hmono x hx),fun y hy hf=>?_⟩
   ·rw[l9];have hcell:cellOf env n=pure c:=by unfold cellOf;rw[hc]
    simp only[beq_self_eq_true,if_true,hcell];exact e
   ·rcases bf.mp hy with rfl|hy
    ·exact p2 _ hself
    ·exact p3 y hy hf
  ·obtain⟨cs,e,p1,p2,p3⟩:=jk r cs0 hr h0;refine⟨cs,?_,p1,p2,fun y hy hf=>?_⟩
   ·rw[l9];have hb:(k==hU)=false:=by simpa using hk
    simp only[hb,qt,if_false];exact e
   ·rcases bf.mp hy with rfl|hy
    ·exact absurd hf hk
    ·exact p3 y hy hf
theorem mU{env:Env}{scope:Scope}(has:∀y∈scope.names,y.2=.free->∃c,env.cells.lookup y.1=some c):
  ∃cs:List (Str×Addr),closureFor scope env=pure cs/\(∀x c,cs.lookup x=some c->env.cells.lookup x=some c)/\∀y∈scope.names,y.2=.free->(cs.lookup y.1).isSome=true:=by
 obtain⟨cs,e,p1,_,p3⟩:=jk (env:=env) scope.names [] has (fun _ _ h=>nomatch h);refine⟨cs,?_,p1,p3⟩;unfold closureFor
 first
  |exact e
  | (simp only[bind_pure];exact e)
  | (rw[show(forIn scope.names [] _:Sem (List (Str×Addr)))=pure cs from e];rfl)
def cg(X:Cx)(N:Zb)(scope:Scope)(C:Addr)(cl:List (Str×Addr))(s₀:Shared)(H₀:Hp)(ex:Ze)(pn:Zd):Cx where
 prog:=X.prog
 w:=X.w
 K:=X.K
 mg:=X.mg
 base:=X.base
 A:=X.A
 N:=N
 s₀:=s₀
 H₀:=H₀
 env:=compEnvC scope cl C X.env
 outer:=X.stack
 stack:=X.stack
 ex:=ex
 fn:=fun _=>false
 calm:=X.calm
 pn:=pn
 xe:=XF
def iI(sc scope:Scope)(k:Nat)(N XN:Zb)(fi:List Nat):Bool :=
 decide (scope.kind=.function) &&
 (scope.names.all fun y=>decide (y.2≠.cell) && (decide (y.2≠.local) || decide (scope.names.lookup y.1=some .local)) && (decide (y.2≠.free) || decide (sc.names.lookup y.1=some .cell) || decide (sc.names.lookup y.1=some .free))) &&
 decide (N.length=k+fi.length) &&
 ((jA fi.length).all fun j=>match fi[j]? with
  |some i=>match N[k+j]?,XN[i]? with
   |some x,some y=>decide (x=y) && decide (scope.names.lookup x=some .free)
   |_,_=>false
  |none=>false)
structure ju(sc scope:Scope)(k:Nat)(N XN:Zb)(fi:List Nat):Prop where
 kind:scope.kind=.function
 cell:∀y∈scope.names,y.2≠.cell
 nm:∀y∈scope.names,y.2=.local->scope.names.lookup y.1=some .local
 fr:∀y∈scope.names,y.2=.free->sc.names.lookup y.1=some .cell∨sc.names.lookup y.1=some .free
 len:N.length=k+fi.length
 sl:∀j i,fi[j]?=some i->∃x,N[k+j]?=some x/\XN[i]?=some x/\scope.names.lookup x=some .free
theorem ju.of{sc scope:Scope}{k:Nat}{N XN:Zb}{fi:List Nat}(h:iI sc scope k N XN fi=true):ju sc scope k N XN fi:=by
 unfold iI at h;simp only[iZ,List.all_eq_true,Bool.or_eq_true,decide_eq_true_eq]at h;obtain⟨⟨⟨h1,h2⟩,h3⟩,h4⟩:=h;refine⟨h1,fun y hy=>(h2 y hy).1.1,fun y hy e=>((h2 y hy).1.2).resolve_left fun z=>z e,fun y hy e=>?_,h3,fun j i e=>?_⟩
 ·rcases(h2 y hy).2 with(z|z)|z
  ·exact absurd e z
  ·exact .inl z
  ·exact .inr z
 ·have hj:j<fi.length:=(cB.mp e).1;have q:=h4 j (List.mem_range.mpr hj);rw[e]at q;dsimp only at q;cases a:N[k+j]? with
  |none=>rw[a]at q;cases q
  |some x =>
   cases b:XN[i]? with
   |none=>rw[a,b]at q;cases q
   |some y =>
    rw[a,b]at q;simp only[iZ,decide_eq_true_eq]at q;exact⟨x,rfl,by rw[q.1],q.2⟩
theorem eI{env:Env}:∀{names:List (Str×fT)}{x:Str},names.lookup x=some .free ->
  (names.map fun(n,k)=>if(k==hU && env.scope.kind==.function && env.kindOf n==some .cell)then(n,fT.cell)else(n,k)).lookup x=some .cell ∨
  (names.map fun(n,k)=>if(k==hU && env.scope.kind==.function && env.kindOf n==some .cell)then(n,fT.cell)else(n,k)).lookup x=some .free
 |[],_,h=>by simp at h
 | (n,k)::r,x,h=>by
  have ih:=@eI env r x;simp only[aN];cases hx:x==n with
  |true =>
   simp only[em,hx]at h;cases h;by_cases hc:(hU==hU && env.scope.kind==.function && env.kindOf n==some .cell)=true
   ·left;rw[if_pos hc];simp[em,hx]
   ·right;rw[if_neg hc];simp[em,hx]
  |false =>
   simp only[em,hx]at h;by_cases hc:(k==hU && env.scope.kind==.function && env.kindOf n==some .cell)=true
   ·rw[if_pos hc];simp only[em,hx];exact ih h
   ·rw[if_neg hc];simp only[em,hx];exact ih h
def cf(k:Nat)(fi:List Nat)(σ:St):St:=tD k none++fi.map fun i=>(σ[i]?).join
theorem sR(k:Nat)(fi:List Nat)(σ:St):(cf k fi σ).length=k+fi.length:=by simp[cf]
theorem mT{k:Nat}{fi:List Nat}{σ:St}{i:Nat}{v:V}(h:(cf k fi σ)[i]?=some (some v)):∃j t,i=k+j/\fi[j]?=some t/\σ[t]?=some (some v):=by
 unfold cf at h;by_cases hi:i<k
 ·rw[mj (by simpa using hi),List.getElem?_replicate_of_lt hi]at h;cases h
 ·rw[nI (by simp;omega),oS,cD]at h;refine⟨i-k,?_⟩;cases e:fi[i-k]? with
  |none=>rw[e]at h;cases h
  |some t =>
   rw[e]at h;simp only[mf]at h;refine⟨t,by omega,rfl,?_⟩;have h':=cT h;cases e2:σ[t]? with
   |none=>rw[e2]at h';cases h'
   |some o=>rw[e2]at h';simp only[Option.join]at h';first|(rw[h'])|(subst h';rfl)|(simpa using h')
def rE(k:Nat)(g:TG):Prop:=∀x σ H Q,g x σ H Q->g x σ H fun σ2 H2=>Q σ2 H2/\σ2.length=σ.length/\∀i,k<=i->σ2[i]?=σ[i]?
def uD(k:Nat)(g:sW):Prop:=∀x σ H Q,g x σ H Q->g x σ H fun σ2 H2=>Q σ2 H2/\σ2.length=σ.length/\∀i,k<=i->σ2[i]?=σ[i]?
theorem aR{k i:Nat}(h:i<k):rE k (b_ i):=fun x σ H Q q=>⟨q,by simp,fun j hj=>by rw[tO (by omega)]⟩
theorem mF{k:Nat}:uD k jS:=fun x σ H Q ⟨e,q⟩=>⟨e,q,rfl,fun _ _=>rfl⟩
def wP(g:TG):Prop:=∀x σ H Q Q',(∀σ2 H2,Q σ2 H2->Q' σ2 H2)->g x σ H Q->g x σ H Q'
def p9(g:sW):Prop:=∀x σ H Q Q',(∀σ2 H2,Q σ2 H2->Q' σ2 H2)->g x σ H Q->g x σ H Q'
theorem cM{i:Nat}:wP (b_ i):=fun _ _ _ _ _ f q=>f _ _ q
theorem eT:p9 jS:=fun _ _ _ _ _ f ⟨e,q⟩=>⟨e,f _ _ q⟩
theorem jg{g:TG}{u:sW}(h1:wP g)(h2:p9 u):p9 (cu g u):=fun _ _ _ _ _ f ⟨v,r,e,q⟩=>⟨v,r,e,h1 _ _ _ _ _ (fun _ _ q=>h2 _ _ _ _ _ f q) q⟩
theorem eR{k:Nat}{g:TG}{u:sW}(h1:rE k g)(m1:wP g)(h2:uD k u)(m2:p9 u):uD k (cu g u):=fun x σ H Q ⟨v,r,e,q⟩ =>
 ⟨v,r,e,m1 _ _ _ _ _ (fun σ2 H2 ⟨q,l,s⟩=>m2 _ _ _ _ _ (fun σ3 H3 ⟨q',l',s'⟩=>⟨q',l'.trans l,fun i hi=>(s' i hi).trans (s i hi)⟩) (h2 _ _ _ _ q)) (h1 _ _ _ _ q)⟩
theorem pq{K:Za}{k n:Nat}{t:sW}(h:uD k t):rE k (kq K n t):=fun x σ H Q ⟨a,xs,e,hs,hl,q⟩=>⟨a,xs,e,hs,hl,h _ _ _ _ q⟩
def yP(X:Cx)(ifs:List Expr)(t:TT):Prop :=
 ∀(J0:Zd) (s:Shared) (σ:St) (H:Hp) (Q:Bool->Hp->Prop),Inv X J0 σ H s->t σ H Q->wpAny (model X.prog X.w) X.A (sN ifs X.env) (TP X J0 σ Q) X.xe s
def fC:TT:=fun _ H Q=>Q true H
theorem bD{X:Cx}:yP X [] fC:=fun J0 s σ H Q I h=>aW ⟨H,I,h⟩
theorem pf{X:Cx}{c:Expr}{t:TT}(h:PT X c t):yP X [c] t:=by
 intro J0 s σ H Q I hw;unfold sN;rw[l9];simp only[if_true];refine aq (aq (bL (h J0 s σ H Q I hw) fun b s1 q=>aW ?_));exact aW q
def b9(k:Nat)(fi:List Nat)(wi:TI)(g:TG)(tc:TT)(te:TE):TE:=fun σ H Q=>wi σ H fun J H1=>∀l,H1 l=none->∃W:Nat->Nat->List V->Hp->Prop,(∃m,W 0 m [] (upd H1 l (.lst [])))/\∀i m vs H2,W i m vs H2->H2 l=some (.lst vs) /\
 ((J.stop i H2/\Q (.ref l) H2)∨(J.go i H2/\∀x H3,J.yld i H2 x H3->g x (cf k fi σ) H3 fun σ2 H4=>tc σ2 H4 fun b H5 =>
  if b=true then te σ2 H5 fun v H6=>H6 l=some (.lst vs)/\vs.length<am/\∃m',m'<m/\W (i+1) m' (vs++[v]) (upd H6 l (.lst (vs++[v])))else ∃m',m'<m/\W (i+1) m' vs H5))
section
variable{X:Cx}{J0:Zd}{σ:St}
theorem yd{k:Nat}{N:Zb}{scope:Scope}{fi:List Nat}{H:Hp}{s:Shared}{cl:List (Str×Addr)}{fp:Ze}(S:ju X.env.scope scope k N X.N fi)(I:Inv X J0 σ H s)
  (hcl:∀x c,cl.lookup x=some c->X.env.cells.lookup x=some c) (hcf:∀y∈scope.names,y.2=.free->(cl.lookup y.1).isSome=true) (hf:∀b∈fp,js X J0 H b) (hlt:∀b∈fp,b<s.heap.objs.size) :
  (cg X N scope s.heap.objs.size cl s H fp (X.pn++J0)).Ok where
 mod:=I.ok.mod
 kind:=S.kind
 glob:=I.ok.glob
 blt:=I.ok.blt
 above:=aE _
 inj:=fun x y c e1 e2=>I.ok.inj x y c (hcl x c e1) (hcl y c e2)
 has:=fun x h=>by
  have key:∃y∈scope.names,y.1=x/\y.2=.free:=by
   have h':(relabel scope X.env).names.lookup x=some .cell∨(relabel scope X.env).names.lookup x=some .free:=h;have mem:∀(l:List (Str×fT)) (kd:fT),l.lookup x=some kd->(x,kd)∈l:=by
    intro l
    induction l with
    |nil=>intro kd e;cases e
    |cons a r ih =>
     intro kd e;obtain⟨n,k'⟩:=a;rw[em]at e;cases hx:x==n with
     |true =>
      rw[hx]at e;have:x=n:=by simpa using hx
      subst this;cases e;exact eG
     |false=>rw[hx]at e;exact cC _ (ih kd e)
   have back:∀kd,(x,kd)∈(relabel scope X.env).names->kd=.cell∨kd=.free->∃y∈scope.names,y.1=x/\y.2=.free:=by
    intro kd hm hk;obtain⟨⟨n,k'⟩,hy,e⟩:=bB.mp hm;dsimp only at e;by_cases hc:(k'==hU && X.env.scope.kind==.function && X.env.kindOf n==some .cell)=true
    ·have hk':k'=.free:=by
      simp only[iZ]at hc;simpa using hc.1.1
     rw[if_pos hc]at e;cases e;exact⟨_,hy,rfl,hk'⟩
    ·rw[if_neg hc]at e;cases e;rcases hk with rfl|rfl
     ·exact absurd rfl (S.cell _ hy)
     ·exact⟨_,hy,rfl,rfl⟩
   rcases h' with h'|h'
   ·exact back _ (mem _ _ h') (.inl rfl)
   ·exact back _ (mem _ _ h') (.inr rfl)
  obtain⟨y,hy,rfl,hk⟩:=key;exact tz.mp (hcf y hy hk)
 cab:=fun x c h=>by cases h
 hd:=I.ok.hd
 frames:=I.ok.frames
 stk:=.inl rfl
 exf:=fun b hb=>⟨bS (hlt b hb),fun x c e=>(hf b hb).2.2.2.2.1 x c (hcl x c e)⟩
 bs:=I.bs
 bsz:=cn I.ok.bsz I.sz
 noex:=fun b o e hb=>by
  rcases(hf b hb).2.2.2.1 with z|z
  ·exact I.ok.noex b o e z
  ·exact absurd (fe (aG (I.ok.bs b o e).1) z) (kP _)
 exfs:=fun b hb z=>by
  obtain⟨_,f1,f2,_⟩:=hf b hb;rcases bf.mp (I.stkSub b z)with q|q
  ·exact f1 q
  ·exact f2 q
 funs:=I.stack
 frf:=I.stkFree
theorem wM{k:Nat}{N:Zb}{scope:Scope}{fi:List Nat}{H:Hp}{s:Shared}{cl:List (Str×Addr)}{fp:Ze}{h₁:Heap}{t':Nat}{m:Str->Option Value}(S:ju X.env.scope scope k N X.N fi)(I:Inv X J0 σ H s)
  (hcl:∀x c,cl.lookup x=some c->X.env.cells.lookup x=some c) (hcf:∀y∈scope.names,y.2=.free->(cl.lookup y.1).isSome=true) (hf:∀b∈fp,js X J0 H b) (hlt:∀b∈fp,b<s.heap.objs.size)
  (hn:h₁.Ns s.heap.objs.size m) (old:∀b o,s.heap.get? b=some o->h₁.get? b=some o) :
  Inv (cg X N scope s.heap.objs.size cl s H fp (X.pn++J0)) [] (cf k fi σ) H { s with heap:=h₁,toks:=t' }:=by
 have memOf:∀(l:List (Str×fT)) (x:Str) (kd:fT),l.lookup x=some kd->(x,kd)∈l:=by
  intro l
  induction l with
  |nil=>intro x kd e;cases e
  |cons a r ih =>
   intro x kd e;obtain⟨n,k'⟩:=a;rw[em]at e;cases hx:x==n with
   |true =>
    rw[hx]at e;have:x=n:=by simpa using hx
    subst this;cases e;exact eG
   |false=>rw[hx]at e;exact cC _ (ih x kd e)
 refine⟨yd S I hcl hcf hf hlt,rfl,I.bare,Un.kept old,⟨m,hn,fun i x v e1 e2 e3=>?_⟩,fun x c e=>?_,I.hok.fresh (aE _),fun x c e=>I.freeC x c (hcl x c e),fun p hp=>?_,I.hok.kept old,?_⟩
 ·obtain⟨j,t,rfl,ht,hv⟩:=mT e2;obtain⟨y,hy,hXN,hfr⟩:=S.sl j t ht;have e1':N[k+j]?=some x:=e1;rw[hy]at e1';cases e1';have hmem:=memOf _ _ _ hfr;obtain⟨c,hc⟩:=tz.mp (hcf _ hmem rfl);have hX:=hcl _ _ hc;obtain⟨mX,hnX,hlX⟩:=I.loc;have kX:=S.fr _ hmem rfl;obtain⟨u,ru,lk⟩:=hlX t x v hXN hv (by rcases kX with z|z;exact .inr (.inl z);exact .inr (.inr z));refine⟨u,ru,.inr ⟨?_,c,hc,?_⟩⟩
  ·exact eI hfr
  ·rcases lk with⟨z,_⟩|⟨_,c',e',q⟩
   ·have z':X.env.scope.names.lookup x=some .local:=z;rcases kX with kX|kX<;>rw[z']at kX<;>cases kX
   ·rw[hX]at e';cases e';obtain⟨o,ho,hd⟩:=q;exact⟨o,old _ o ho,hd⟩
 ·obtain⟨v,o,ho,hd⟩:=I.cell x c (hcl x c e);exact⟨v,o,old _ o ho,hd⟩
 ·rw[iX]at hp;obtain⟨e,n,ne,nf,d⟩:=I.pin p hp;refine⟨old _ _ e,n,bS (aG e),fun z=>?_,d⟩;rcases bf.mp (I.stkSub _ z)with q|q
  ·exact ne q
  ·exact nf q
 ·rw[sR];exact S.len.symm
structure qd(X:Cx)(J0:Zd)(H:Hp)(C:Addr):Prop where
 free:H C=none
 loc:C≠X.env.locals
 young:X.s₀.heap.objs.size<=C
 cells:∀x c,X.env.cells.lookup x=some c->c≠C
 pin:∀p∈X.pn++J0,p.1≠C
theorem mS{elt iter tg:Expr}{ifs:List Expr}{scope:Scope}{pos:Pos}{k:Nat}{N:Zb}{fi:List Nat}{cl:List (Str×Addr)}{g:TG}{tc:TT}{te:TE}{it:Addr}{fp:Ze}{tn:Nat->Heap->Prop}{J:It}{H2:Hp}{s2:Shared}{Q:VK}
  {E:Zc}{RR:Value->Addr->Result->Shared->Prop}
  (S:ju X.env.scope scope k N X.N fi) (hc:X.calm=true) (hcl:∀x c,cl.lookup x=some c->X.env.cells.lookup x=some c) (hcf:∀y∈scope.names,y.2=.free->(cl.lookup y.1).isSome=true)
  (hg:∀C cl s₀ H₀ ex pn,PG (cg X N scope C cl s₀ H₀ ex pn) tg g) (ho:rE k g) (ht:∀C cl s₀ H₀ ex pn,yP (cg X N scope C cl s₀ H₀ ex pn) ifs tc) (he:∀C cl s₀ H₀ ex pn,PE (cg X N scope C cl s₀ H₀ ex pn) elt te)
  (I2:Inv X J0 σ H2 s2) (T:nD X.prog X.w X.K tg J fp it tn) (st2:tn 0 s2.heap) (f2:∀b∈fp,js X J0 H2 b)
  (hw:∀l,H2 l=none->∃W:Nat->Nat->List V->Hp->Prop,(∃m,W 0 m [] (upd H2 l (.lst [])))/\∀i m vs H2,W i m vs H2->H2 l=some (.lst vs) /\
   ((J.stop i H2/\Q (.ref l) H2)∨(J.go i H2/\∀x H3,J.yld i H2 x H3->g x (cf k fi σ) H3 fun σ2 H4=>tc σ2 H4 fun b H5 =>
    if b=true then te σ2 H5 fun v H6=>H6 l=some (.lst vs)/\vs.length<am/\∃m',m'<m/\W (i+1) m' (vs++[v]) (upd H6 l (.lst (vs++[v])))else ∃m',m'<m/\W (i+1) m' vs H5)))
  (hR:∀D C H' s' m',Inv X J0 σ H' s'->s'.heap.Ns C m'->qd X J0 H' C->Q (.ref D) H'->RR (.ref D) C (.ok .next) s') :
  wpAny (model X.prog X.w) X.A (newList []) (fun acc s₃=>wpAny (model X.prog X.w) X.A (newFunctionEnv scope X.env.globals cl [] X.env.qual none .none (some X.env)) (fun cenv s₄ =>
   zzl73 (model X.prog X.w) X.A (.compStart (.ListComp elt [⟨tg,iter,ifs,0⟩] scope pos) 0 (.ref it) acc { cenv with scope:=relabel scope X.env }) (RR acc cenv.locals) s₄) E s₃) E s2:=by
 have hfresh:H2 s2.heap.objs.size=none:=I2.fresh;obtain⟨W,⟨m0,w0⟩,turn⟩:=hw _ hfresh;refine wpAny_newObj_type (wpAny_newFunctionEnv S.cell (by intro y hy;simp at hy) (fun h₁ hns₁ hsb₁=>?_) S.kind);dsimp only at hns₁ hsb₁ ⊢;have I3:Inv X J0 σ (upd H2 s2.heap.objs.size (.lst [])) { s2 with heap:=s2.heap.push { cls:=.type "list",data:=.seq ([]:Zf).toArray },toks:=s2.toks }:=I2.lnew (ys:=[]) .nil (cj _);generalize hs3:({ s2 with heap:=s2.heap.push { cls:=.type "list",data:=.seq ([]:Zf).toArray },toks:=s2.toks }:Shared)=s3 at I3;have hh3:s3.heap=s2.heap.push { cls:=.type "list",data:=.seq ([]:Zf).toArray }:=by rw[<-hs3]
 have hsz:s3.heap.objs.size=s2.heap.objs.size+1:=by rw[hh3,kJ]
 have hlt:∀b∈fp,b<s2.heap.objs.size:=fun b hb=>by
  obtain⟨o,e,_⟩:=T.obj 0 _ st2 b hb;exact aG e
 have f3:∀b∈fp,js X J0 (upd H2 s2.heap.objs.size (.lst [])) b:=fun b hb=>⟨by rw[af (bS (hlt b hb))];exact(f2 b hb).1,(f2 b hb).2⟩;have hlt3:∀b∈fp,b<s3.heap.objs.size:=fun b hb=>by rw[hsz];exact Nat.lt_succ_of_lt (hlt b hb)
 have old:∀b o,s3.heap.get? b=some o->h₁.get? b=some o:=fun b o e=>by
  have hb:b≠s3.heap.objs.size:=bS (aG e);rw[hh3]at e hb;exact hsb₁.extBut b o hb (aO _ e)
 have hns:h₁.Ns s3.heap.objs.size (fun x=>([]:List (Str×Value)).reverse.lookup x):=by rw[hh3];exact hns₁
 have I4:Inv (cg X N scope s3.heap.objs.size cl s3 (upd H2 s2.heap.objs.size (.lst [])) fp (X.pn++J0)) [] (cf k fi σ) (upd H2 s2.heap.objs.size (.lst [])) { s3 with heap:=h₁,toks:=s2.toks+([]:List (Str×Value)).length } :=
  wM S I3 hcl hcf f3 hlt3 hns old
 have st4:tn 0 h₁:=T.keep _ _ _ st2 fun b hb o e=>old b o (by rw[hh3];exact aO _ e);generalize hY:cg X N scope s3.heap.objs.size cl s3 (upd H2 s2.heap.objs.size (.lst [])) fp (X.pn++J0)=Y at I4;have yp:Y.prog=X.prog:=by rw[<-hY];rfl
 have yw:Y.w=X.w:=by rw[<-hY];rfl
 have yK:Y.K=X.K:=by rw[<-hY];rfl
 have yA:Y.A=X.A:=by rw[<-hY];rfl
 have yx:Y.xe=XF:=by rw[<-hY];rfl
 have yc:Y.calm=true:=by rw[<-hY];exact hc
 have gY:PG Y tg g:=by rw[<-hY];exact hg _ _ _ _ _ _
 have tY:yP Y ifs tc:=by rw[<-hY];exact ht _ _ _ _ _ _
 have eY:PE Y elt te:=by rw[<-hY];exact he _ _ _ _ _ _
 have yenv:Y.env=compEnvC scope cl s3.heap.objs.size X.env:=by rw[<-hY];rfl
 have fY:∀{H':Hp},(∀b∈fp,H' b=none)->∀b∈fp,js Y [] H' b:=fun hn b hb=>by
  obtain⟨f0,f1,f2',f3',f4,f5⟩:=f3 b hb;rw[<-hY];refine⟨hn b hb,bS (hlt3 b hb),fun z=>?_,.inl hb,fun x c e=>f4 x c (hcl x c e),fun p hp=>?_⟩
  ·rcases bf.mp (I3.stkSub _ z)with q|q
   ·exact f1 q
   ·exact f2' q
  ·rw[iX]at hp;exact f5 p hp
 have loop:∀s4:Shared,s4={ s3 with heap:=h₁,toks:=s2.toks+([]:List (Str×Value)).length } ->
   zzl73 (model X.prog X.w) X.A (.compLoop (.ListComp elt [⟨tg,iter,ifs,0⟩] scope pos) 0 (.ref it) (.ref s2.heap.objs.size) Y.env) (RR (.ref s2.heap.objs.size) s3.heap.objs.size) s4:=by
  rintro s4 rfl;refine pR (fun n s'=>∃i vs H',Inv Y [] (cf k fi σ) H' s'/\tn i s'.heap/\(∀b∈fp,H' b=none)/\W i n vs H') ?_ m0 ⟨0,[],_,I4,st4,fun b hb=>(f3 b hb).1,w0⟩;rintro n s5 ⟨i,vs,H5,I5,st5,fr5,w5⟩;obtain⟨hl5,hcase⟩:=turn i n vs H5 w5;rcases hcase with⟨stop,q⟩|⟨go,step⟩
  ·have d:=T.done Y yp yw yK yc i [] s5 _ H5 XF I5 (fY fr5) st5 stop;rw[yA]at d;refine bL d fun r s6 ⟨hr,I6⟩=>?_;subst hr;have hu:Un (vB X.stack) fp (upd H2 s2.heap.objs.size (.lst [])) H5 s3.heap s6.heap:=by have:=I6.base;rw[<-hY]at this;exact this
   have ho6:s6.os=s3.os:=by have:=I6.os;rw[<-hY]at this;exact this
   have hok6:iV X.prog X.w X.K H5 s6.heap:=by have:=I6.hok;rw[<-hY]at this;exact this
   have hC6:H5 s3.heap.objs.size=none:=by have:=I6.free;rw[<-hY]at this;exact this
   obtain⟨m6,hn6,_⟩:=I6.loc;have hn6':s6.heap.Ns s3.heap.objs.size m6:=by rw[<-hY]at hn6;exact hn6
   have IX:Inv X J0 σ H5 s6:=I3.call' ho6 hu hok6 I6.bare fun b hb=>by
    obtain⟨f0,f1,f2',f3',f4,f5⟩:=f3 b hb;exact⟨f3',f1,f4,f5⟩
   refine hR _ _ H5 s6 m6 IX hn6' ⟨hC6,eF I3.lt,I3.sz,fun x c e z=>?_,fun p hp z=>?_⟩ q
   ·obtain⟨v,o,ho,_⟩:=I3.cell x c e;exact absurd (aG ho) (by rw[z];exact kP _)
   ·exact absurd (aG (I3.pin p hp).1) (by rw[z];exact kP _)
  ·have d:=T.item Y yp yw yK yc i [] s5 _ H5 XF I5 (fY fr5) st5 go;rw[yA]at d;refine bL d fun r s6 ⟨u,hr,h6⟩=>?_;subst hr;refine bL h6 fun _ s7 ⟨x,H7,I7,r7,y7,st7,fr7⟩=>?_;have I7':=I7.pinned (fY fr7) (T.obj _ _ st7);have a7:=gY _ s7 _ H7 x u _ I7' r7 (ho _ _ _ _ (step x H7 y7));rw[yp,yw,yA,yx]at a7;refine bL a7 fun _ s8 ⟨σ8,H8,I8,q8,l8,k8⟩=>?_;have a8:=tY _ s8 σ8 H8 _ I8 q8;rw[yp,yw,yA,yx]at a8;have again:∀{H9:Hp}{s9:Shared}{vs':List V}{m':Nat},Inv Y ([]++mC fp s7.heap) σ8 H9 s9->m'<n->W (i+1) m' vs' H9->∃m,m<n/\∃i vs H',Inv Y [] (cf k fi σ) H' s9/\tn i s9.heap/\(∀b∈fp,H' b=none)/\W i m vs H':=fun{H9 s9 vs' m'} I9 hm w9=>by
    refine⟨m',hm,i+1,vs',H9,(I9.unpinned).weak l8.symm (fun j v e=>?_),T.keep _ _ _ st7 fun b hb o e=>(I9.pin (b,o) (eE _ (eE _ (gG hb e)))).1,fun b hb=>?_,w9⟩
    ·obtain⟨j',t,rfl,_,_⟩:=mT e;rw[k8 _ (Nat.le_add_right _ _)];exact e
    ·obtain⟨o,e,_⟩:=T.obj _ _ st7 b hb;exact(I9.pin (b,o) (eE _ (eE _ (gG hb e)))).2.1
   refine bL a8 fun b s9 ⟨H9,I9,q9⟩=>?_;cases b with
   |false =>
    rw[if_neg fX]at q9 ⊢;obtain⟨m',hm,w9⟩:=q9;exact again I9 hm w9
   |true =>
    rw[if_pos rfl]at q9 ⊢;have a9:=eY _ s9 σ8 H9 _ I9 q9;rw[yp,yw,yA,yx]at a9;refine bL a9 fun y s10 ⟨v,H10,I10,r10,hl10,hsz10,m',hm,w10⟩=>?_;have a10:=cL (X:=Y) _ s10 σ8 H10 (.ref s2.heap.objs.size) [v] (.ref s2.heap.objs.size) [y] (fun z H'=>z=.non/\H'=upd H10 s2.heap.objs.size (.lst (vs++[v]))) I10 rfl (.cons r10 .nil) ⟨_,vs,v,rfl,rfl,hl10,hsz10,rfl,rfl⟩;rw[yp,yw,yA,yx]at a10;refine bL a10 fun _ s11 ⟨_,H11,I11,_,_,e11⟩=>?_;subst e11;exact again I11 hm w10
 have hstart:=codeAny_compStart_list (prog:=X.prog) (w:=X.w) (A:=X.A) (elt:=elt) (target:=tg) (iter:=iter) (ifs:=ifs) (rest:=[]) (scope:=scope) (pos:=pos) (it:=.ref it) (acc:=.ref s2.heap.objs.size) (env:=Y.env) (loop _ rfl) (T.self _ 0 _ _ _ st4 (loop _ rfl));rw[yenv]at hstart;rw[<-hs3]at hstart;exact hstart
end
section
variable{X:Cx}
theorem qd.turned{J0:Zd}{σ:St}{H:Hp}{s:Shared}{C:Addr}{h':Heap}(c:qd X J0 H C)(I:Inv X J0 σ H s)(hs:fZ C s.heap h'):Inv X J0 σ H { s with heap:=h' } :=
 I.turned (t':=s.toks) (fun b o hb e=>hs.extBut b o hb e) c.free c.loc (.inr c.young) c.cells c.pin
theorem xH{elt iter tg:Expr}{ifs:List Expr}{scope:Scope}{pos:Pos}{k:Nat}{N:Zb}{fi:List Nat}{wi:TI}{g:TG}{tc:TT}{te:TE}(hS:iI X.env.scope scope k N X.N fi=true)(hc:X.calm=true)(hi:PI X tg iter wi)
  (hg:∀C cl s₀ H₀ ex pn,PG (cg X N scope C cl s₀ H₀ ex pn) tg g) (ho:rE k g) (ht:∀C cl s₀ H₀ ex pn,yP (cg X N scope C cl s₀ H₀ ex pn) ifs tc) (he:∀C cl s₀ H₀ ex pn,PE (cg X N scope C cl s₀ H₀ ex pn) elt te)
  (hs:∀x,qr iter X.env x=pure x:=by intro _;rfl):PE X (.ListComp elt [⟨tg,iter,ifs,0⟩] scope pos) (b9 k fi wi g tc te):=by
 intro J0 s σ H Q I h;have S:=ju.of hS;obtain⟨cl,hclos,hcl,hcf⟩:=mU (env:=X.env) (scope:=scope) fun y hy e=>I.ok.has y.1 (S.fr y hy e);rw[eval_ListComp];refine wpAny_comprehension_free (use:=none) rfl hs hclos S.kind S.nm (bL (hi J0 s σ H _ I h) fun v s1 h1=>bL h1 fun itv s2 h2=>?_);obtain⟨it,fp,tn,J,H2,e,I2,T,st2,f2,hw⟩:=h2;subst e;refine mS (RR:=fun acc C=>compPost (model X.prog X.w) X.A X.xe none (EP X J0 σ Q) acc C) S hc hcl hcf hg ho ht he I2 T st2 f2 hw ?_;intro D C H' s' m' I' hn ce q;exact⟨m',hn,fun h' hs'=>⟨.ref D,H',ce.turned I' hs',rfl,q⟩⟩
theorem sA{elt iter tg:Expr}{ifs:List Expr}{scope:Scope}{pos spos py:Pos}{k:Nat}{N:Zb}{fi:List Nat}{wi:TI}{g:TG}{tc:TT}{te:TE}{j:Nat}{y:Str}(hN:X.N.Nodup)(hj:X.N[j]?=some y)(hy:Loc X.env.scope y)(hS:iI X.env.scope scope k N X.N fi=true)(hc:X.calm=true)(hi:PI X tg iter wi)
  (hg:∀C cl s₀ H₀ ex pn,PG (cg X N scope C cl s₀ H₀ ex pn) tg g) (ho:rE k g) (ht:∀C cl s₀ H₀ ex pn,yP (cg X N scope C cl s₀ H₀ ex pn) ifs tc) (he:∀C cl s₀ H₀ ex pn,PE (cg X N scope C cl s₀ H₀ ex pn) elt te)
  (hsw:lS (.ListComp elt [⟨tg,iter,ifs,0⟩] scope pos) (some (.Name y py)) spos.line X.env=pure true:=by rfl)
  (hs:∀x,qr iter X.env x=pure x:=by intro _;rfl) (hf:X.fn y=true∨X.env.scope.names.lookup y=some .local:=by first|exact .inl rfl|exact .inr rfl|assumption) :
  PS X (.Assign [.Name y py] (.ListComp elt [⟨tg,iter,ifs,0⟩] scope pos) spos) (aM (b9 k fi wi g tc te) (b_ j)):=by
 intro J0 s σ H D I h;have S:=ju.of hS;obtain⟨cl,hclos,hcl,hcf⟩:=mU (env:=X.env) (scope:=scope) fun y hy e=>I.ok.has y.1 (S.fr y hy e);rw[exec_Assign_Name_used _ _ _ _ hsw];refine aq (wpAny_standAt (aq ?_));show wpAny _ X.A (do let _ <- comprehension (.ListComp elt [⟨tg,iter,ifs,0⟩] scope pos) scope X.env _ (newList []) false (eval iter X.env) (some (assign (.Name y py) X.env))) _ _ s
 refine aq (fW (wpAny_comprehension_free (use:=some (assign (.Name y py) X.env)) (Q:=fun _ s'=>SP X J0 D .next s') rfl hs hclos S.kind S.nm
  (bL (hi J0 s σ H _ I h) fun v s1 h1=>bL h1 fun itv s2 h2=>?_)) (fun _ s' hq=>aW (aW hq)) fun _ _ e=>e)
 obtain⟨it,fp,tn,J,H2,e,I2,T,st2,f2,hw⟩:=h2;subst e;refine mS (RR:=fun acc C=>compPost (model X.prog X.w) X.A X.xe (some (assign (.Name y py) X.env)) (fun _ s'=>SP X J0 D .next s') acc C) (Q:=fun x H1=>b_ j x σ H1 D.nx) S hc hcl hcf hg ho ht he I2 T st2 f2 hw ?_;intro A C H' s' m' I' hn ce q;show wpAny _ X.A (assign (.Name y py) X.env (.ref A)) _ _ _;refine wpAny_assign_Name (nS I' hN hj hy (v:=.ref A) rfl (fun s'' I'' hsb=>?_) hf);obtain⟨a,hsa,ha⟩:=hsb;have hCa:C≠a:=by
  rcases ha with z|z
  ·rw[z];exact ce.loc
  ·exact e_ (ce.cells y a z)
 refine⟨m',hn.sameBut hsa hCa,fun h' hs'=>?_⟩;exact⟨_,H',ce.turned I'' hs',q⟩
end
theorem Inv.turnedNew{X:Cx}{J0:Zd}{σ:St}{H:Hp}{s:Shared}{h2:Heap}{t':Nat}{ch:Ze}{o:HO}(I:Inv X J0 σ H s)(hf:∀b∈ch,js X J0 H b)
  (k:∀b q,b∉ch->s.heap.get? b=some q->h2.get? b=some q) (hq:∃q,h2.get? s.heap.objs.size=some q) (hno:∀y,o≠.own y) (new:bN X.prog X.w X.K (upd H s.heap.objs.size o) h2 s.heap.objs.size o) :
  Inv X J0 σ (upd H s.heap.objs.size o) { s with heap:=h2,toks:=t' }:=by
 have hn0:H s.heap.objs.size=none:=I.fresh;have nsz:∀b q,s.heap.get? b=some q->b≠s.heap.objs.size:=fun b q e=>bS (aG e);have tr:∀b u,H b=some u->b∉ch:=fun b u e z=>by rw[(hf b z).1]at e;cases e
 refine I.step (g':=s.gens) (d':=s.drawn) (ch:=ch) (fun b hb=>?_) (fun b q _ _ hc e _=>k b q hc e) (fun b q _ _ hc e _=>⟨q.slots,k b q hc e⟩) (fun b q _ e n=>by rw[af (nsz b q e)];exact n) (fun b q hc e=>⟨q,k b q hc e⟩)
  (fun b xs e=>by rw[af (ai e hn0)];exact e) (fun b q u e=>by rw[af (ai e hn0)];exact e) (fun b ps e=>⟨#[],by rw[af (ai e hn0),e];simp⟩) (fun m hm=>?_) (fun b u e=>?_) I.bare
 ·obtain⟨f0,f1,f2,f3,f4,f5⟩:=hf b hb;exact⟨f3,f1,f4,f5⟩
 ·obtain⟨q,es,ep,ho,r⟩:=hm;exact⟨q,es,ep,k _ q (fun z=>(hf _ z).2.1 rfl) ho,r⟩
 ·by_cases hb:b=s.heap.objs.size
  ·subst hb;rw[aa]at e;cases e;exact new
  ·rw[af hb]at e;refine(I.hok b u e).stay (fun c v hc q=>k c v ?_ q) (fun c q=>by rw[af (ai q hn0)];exact q) fun c xs q=>by rw[af (ai q hn0)];exact q
   rcases hc with z|z
   ·subst z;exact tr _ _ e
   ·exact tr _ _ z
def Ac(K:Za)(a:Addr):It :=
 ⟨fun i H=>∃xs x,aB K H a xs/\xs[i]?=some x,fun i H x H'=>∃p v,x=.ref p/\H p=none/\(∀xs,aB K H a xs->xs[i]?=some v)/\H'=upd H p (.tup [.int i,v]),fun i H=>∃xs,aB K H a xs/\xs.length<=i⟩
theorem uK{P:bh}{w:World}{K:Za}{es:List Expr}{kx:Nat}{J5:Pos}(a e it:Addr)(hne:e≠it):
  nD P w K (.Tuple es kx J5) (Ac K a) [e,it] e (fun i h=>(∃old,IsEnum h e it i old)/\h.IsListIter it a i) where
 mem:=by simp
 obj:=fun i h st b hb=>by
  obtain⟨⟨old,he⟩,o,ho,hc,hd⟩:=st;rcases bf.mp hb with z|z
  ·subst z;exact⟨_,he,fun v z=>by cases z⟩
  ·have z':b=it:=by simpa using z
   subst z';exact⟨o,ho,fun v z=>by rw[hd]at z;cases z⟩
 keep:=fun i h h' st k=>⟨let⟨old,he⟩:=st.1;⟨old,k e (by simp) _ he⟩,st.2.at fun o e=>k it (by simp) o e⟩
 item:=by
  intro X hP hw hK hc i J0 s σ H E I hf st hg;subst hP hw hK;obtain⟨⟨old,he⟩,hit⟩:=st;obtain⟨xs,x,hq,hx⟩:=hg;obtain⟨its,rv,p,hz⟩:=I.list hq;obtain⟨u,hu,ru⟩:=rv.get hx;obtain⟨e0,e1,e2,e3,e4,e5⟩:=hf e (by simp);obtain⟨f0,f1,f2,f3,f4,f5⟩:=hf it (by simp);refine wpAny_pyNext_enum_item he hit p.isList (x:=u) (by simpa using hu) hne fun h' ho' hit' ht' hsz' hk'=>?_;refine⟨_,rfl,wpAny_letOwnedTupleGo_enum (s:={ s with heap:=h',toks:=s.toks+1 }) ho' fun h2 he2 hs2=>?_⟩;have hs2':fZ e h' h2:=hs2;have hpe:s.heap.objs.size≠e:=eF (aG he);have ht2:h2.get? s.heap.objs.size=some { cls:=.type "tuple",data:=.seq #[.int i s.toks,u] }:=hs2'.extBut _ _ hpe ht';have hn0:H s.heap.objs.size=none:=I.fresh;have hue:upd H s.heap.objs.size (.tup [.int i,x]) e=none:=by rw[af (e_ hpe)];exact e0
  have hpi:s.heap.objs.size≠it:=by
   obtain⟨o,ho,_⟩:=hit;exact eF (aG ho)
  have hui:upd H s.heap.objs.size (.tup [.int i,x]) it=none:=by rw[af (e_ hpi)];exact f0
  have I2:Inv X J0 σ (upd H s.heap.objs.size (.tup [.int i,x])) { s with heap:=h2,toks:=s.toks+1 }:=by
   refine I.turnedNew (ch:=[e,it]) hf (fun b o hb q=>?_) ⟨_,ht2⟩ (fun _ z=>nomatch z) ⟨by show 2<=am;decide,[.int i s.toks,u],.cons ⟨_,rfl⟩ (.cons ru .nil),⟨_,ht2,rfl,_,rfl⟩⟩;have nb1:b≠e:=fun z=>hb (by simp[z]);have nb2:b≠it:=fun z=>hb (by simp[z]);exact hs2'.extBut _ _ nb1 (hk' b o nb1 nb2 q)
  refine⟨.ref s.heap.objs.size,_,I2,rfl,⟨_,x,rfl,hn0,fun ys hy=>by rw[I.list_inj hy hq];exact hx,rfl⟩,⟨⟨u,by simpa using he2⟩,hit'.at fun o y=>(hs2'.2 it (e_ hne)).trans y⟩,fun b hb=>?_⟩;rcases bf.mp hb with z|z
  ·subst z;exact hue
  ·have z':b=it:=by simpa using z
   subst z';exact hui
 done:=by
  intro X hP hw hK hc i J0 s σ H E I hf st hg;subst hP hw hK;obtain⟨⟨old,he⟩,hit⟩:=st;obtain⟨xs,hq,hx⟩:=hg;obtain⟨its,rv,p,hz⟩:=I.list hq;obtain⟨f0,f1,f2,f3,f4,f5⟩:=hf it (by simp);have hl:=rv.length;exact wpAny_pyNext_enum_end (I.ok.hd hc) he hit p.isList (by simp;omega) fun h' eb=>⟨rfl,I.turned (t':=s.toks) (fun b o hb e=>eb b o hb e) f0 f1 f3 f4 f5⟩
 self:=fun _ _ _ _ _ st h=>let⟨_,he⟩:=st.1;wpAny_pyIter_enum he h
section
variable{X:Cx}{p pos:Pos}{es:List Expr}{kx:Nat}{J5:Pos}
def oj(K:Za)(ta:TA):TI:=fun σ H R=>ta σ H fun vs H1=>∃a,vs=[.ref a]/\(∃xs,aB K H1 a xs)/\R (Ac K a) H1
theorem jM{a:Expr}{ta:TA}(hg:Gl X "enumerate")(hm:X.mg "enumerate"=none)(ha:PA X [a] ta)(hs:ax [a] X.env=[(false,eval a X.env)]:=by rfl):PI X (.Tuple es kx J5) (.Call (.Name "enumerate" p) [a] [] pos) (oj X.K ta):=by
 intro J0 s σ H R I h;refine Call_ (kn I hg hm boot_enumerate (tJ (bL (ha pos J0 s σ H _ I h) fun us s1 ⟨vs,H1,I1,r1,q1⟩=>?_) hs rfl));obtain⟨l,e,⟨xs,hq⟩,q⟩:=q1;subst e;obtain⟨u,rfl,ru⟩:=vals1 r1;cases ru;obtain⟨its,rv,pl,hz⟩:=I1.list hq;refine call_enumerate_list pl.isList fun h' he hit hsz hk=>?_;refine wpAny_pyIter_enum (s:={ s1 with heap:=h' }) he ?_;have hk':∀b o,s1.heap.get? b=some o->h'.get? b=some o:=hk;have I2:Inv X J0 σ H1 { s1 with heap:=h' }:=I1.kept (t':=s1.toks) hk';refine⟨_,[s1.heap.objs.size+1,s1.heap.objs.size],_,_,H1,rfl,I2,uK l _ _ (Nat.succ_ne_self _),⟨⟨_,he⟩,hit⟩,fun b hb=>?_,q⟩;have hb':s1.heap.objs.size<=b:=by
  rcases bf.mp hb with z|z
  ·rw[z];exact Nat.le_succ _
  ·have z':b=s1.heap.objs.size:=by simpa using z
   rw[z'];exact aE _
 exact I1.fpOk hb' (I1.hok.fresh hb')
end
def Av(x:Str):It:=⟨fun i _=>i<x.cps.size,fun i H y H'=>H'=H/\∃c,x.cps[i]?=some c/\y=.str ⟨#[c]⟩,fun i _=>x.cps.size<=i⟩
theorem rR{P:bh}{w:World}{K:Za}{tg:Expr}(x:Str)(t:Tok)(it:Addr):nD P w K tg (Av x) [it] it (fun i h=>h.IsStrIter it "str_ascii_iterator" x t i) where
 mem:=by simp
 obj:=fun i h st b hb=>by
  have e:b=it:=by simpa using hb
  subst e;obtain⟨o,e,c,d⟩:=st;exact⟨o,e,fun v z=>by rw[d]at z;cases z⟩
 keep:=fun i h h' st k=>by
  obtain⟨o,e,c,d⟩:=st;exact⟨o,k it (by simp) o e,c,d⟩
 item:=by
  intro X hP hw hK hc i J0 s σ H E I hf st hg;subst hP hw hK;have hlt:i<x.cps.size:=hg;obtain⟨f0,f1,f2,f3,f4,f5⟩:=hf it (by simp);have hx:x.cps[i]?=some x.cps[i]:=by simp[hlt]
  refine wpAny_pyNext_ascii_item st hx fun h' st' sb=>?_;have I1:Inv X J0 σ H { s with heap:=h',toks:=s.toks+1 }:=I.turned (t':=s.toks+1) (fun b o hb e=>(sb.2 b hb).trans e) f0 f1 f3 f4 f5;obtain⟨o,e,c,d⟩:=id st';exact⟨_,rfl,rf (s:={ s with heap:=h',toks:=s.toks+1 }) e c d (by decide) ⟨.str ⟨#[x.cps[i]]⟩,H,I1,⟨_,rfl⟩,⟨rfl,_,hx,rfl⟩,st',fun b hb=>(hf b hb).1⟩⟩
 done:=by
  intro X hP hw hK hc i J0 s σ H E I hf st hg;subst hP hw hK;have hge:x.cps.size<=i:=hg;obtain⟨f0,f1,f2,f3,f4,f5⟩:=hf it (by simp);exact wpAny_pyNext_ascii_end (I.ok.hd hc) st (by simp;omega) fun h' eb=>⟨rfl,I.turned (t':=s.toks) (fun b o hb e=>eb b o hb e) f0 f1 f3 f4 f5⟩
 self:=fun _ _ _ _ _ st h=>wpAny_pyIter_striter_ascii st h
theorem uJ{P:bh}{w:World}{K:Za}{tg:Expr}(x:Str)(t:Tok)(it:Addr):nD P w K tg (Av x) [it] it (fun i h=>h.IsStrIter it "str_iterator" x t i) where
 mem:=by simp
 obj:=fun i h st b hb=>by
  have e:b=it:=by simpa using hb
  subst e;obtain⟨o,e,c,d⟩:=st;exact⟨o,e,fun v z=>by rw[d]at z;cases z⟩
 keep:=fun i h h' st k=>by
  obtain⟨o,e,c,d⟩:=st;exact⟨o,k it (by simp) o e,c,d⟩
 item:=by
  intro X hP hw hK hc i J0 s σ H E I hf st hg;subst hP hw hK;have hlt:i<x.cps.size:=hg;obtain⟨f0,f1,f2,f3,f4,f5⟩:=hf it (by simp);have hx:x.cps[i]?=some x.cps[i]:=by simp[hlt]
  refine wpAny_pyNext_wide_item st hx fun h' st' sb=>?_;have I1:Inv X J0 σ H { s with heap:=h',toks:=s.toks+1 }:=I.turned (t':=s.toks+1) (fun b o hb e=>(sb.2 b hb).trans e) f0 f1 f3 f4 f5;obtain⟨o,e,c,d⟩:=id st';exact⟨_,rfl,rf (s:={ s with heap:=h',toks:=s.toks+1 }) e c d (by decide) ⟨.str ⟨#[x.cps[i]]⟩,H,I1,⟨_,rfl⟩,⟨rfl,_,hx,rfl⟩,st',fun b hb=>(hf b hb).1⟩⟩
 done:=by
  intro X hP hw hK hc i J0 s σ H E I hf st hg;subst hP hw hK;have hge:x.cps.size<=i:=hg;obtain⟨f0,f1,f2,f3,f4,f5⟩:=hf it (by simp);exact wpAny_pyNext_wide_end (I.ok.hd hc) st (by simp;omega) fun h' eb=>⟨rfl,I.turned (t':=s.toks) (fun b o hb e=>eb b o hb e) f0 f1 f3 f4 f5⟩
 self:=fun _ _ _ _ _ st h=>wpAny_pyIter_striter_wide st h
section
variable{X:Cx}{p pos:Pos}{tg:Expr}
def zR(tl:TE):TI:=fun σ H R=>tl σ H fun v H1=>∃x,v=.str x/\R (Av x) H1
theorem y8{l:Expr}{tl:TE}(hl:PE X l tl):PI X tg l (zR tl):=by
 intro J0 s σ H R I h;refine bL (hl J0 s σ H _ I h) fun v s1 ⟨y,H1,I1,r1,q1⟩=>?_;obtain⟨x,e,q⟩:=q1;subst e;obtain⟨t,rfl⟩:=r1;have fin:∀b∈[s1.heap.objs.size],js X J0 H1 b:=fun b hb=>by
  have e:b=s1.heap.objs.size:=by simpa using hb
  subst e;exact I1.fpOk (aE _) (I1.hok.fresh (aE _))
 cases ha:x.cps.all (·<128)
 ·refine wpAny_pyIter_wide ha ?_;exact⟨s1.heap.objs.size,[s1.heap.objs.size],_,_,H1,rfl,I1.kept (t':=s1.toks) fun b o e=>aO _ e,uJ x t _,⟨_,cA _ rfl,rfl,rfl⟩,fin,q⟩
 ·refine wpAny_pyIter_ascii ha ?_;exact⟨s1.heap.objs.size,[s1.heap.objs.size],_,_,H1,rfl,I1.kept (t':=s1.toks) fun b o e=>aO _ e,rR x t _,⟨_,cA _ rfl,rfl,rfl⟩,fin,q⟩
end
def Ab(K:Za)(a b:Addr):It :=
  ⟨fun i H=>∃xs ys x y,aB K H a xs/\aB K H b ys/\xs[i]?=some x/\ys[i]?=some y,
   fun i H x H'=>∃p u v,x=.ref p/\H p=none/\(∀xs,aB K H a xs->xs[i]?=some u)/\(∀ys,aB K H b ys->ys[i]?=some v)/\H'=upd H p (.tup [u,v]),
   fun i H=>∃xs ys,aB K H a xs/\aB K H b ys/\(xs.length<=i∨ys.length<=i)⟩
theorem vI{P:bh}{w:World}{K:Za}{es:List Expr}{kx:Nat}{J5:Pos}(a b z TI TO i1 i2:Addr)(D:j6 z TI TO i1 i2 a b):
  nD P w K (.Tuple es kx J5) (Ab K a b) [z,TI,TO,i1,i2] z (fun i h=>IsZip h z TI TO .none/\IsPair h TI (.ref i1) (.ref i2)/\(∃a b,IsPair h TO a b)/\h.IsListIter i1 a i/\h.IsListIter i2 b i) where
 mem:=by simp
 obj:=fun i h st c hc=>by
  obtain⟨hz,hTI,⟨u,v,hTO⟩,h1,h2⟩:=st;simp only[bf,dJ,or_false]at hc;rcases hc with rfl|rfl|rfl|rfl|rfl
  ·exact⟨_,hz,fun v z=>by cases z⟩
  ·exact⟨_,hTI,fun v z=>by cases z⟩
  ·exact⟨_,hTO,fun v z=>by cases z⟩
  ·obtain⟨o,e,c,d⟩:=h1;exact⟨o,e,fun v z=>by rw[d]at z;cases z⟩
  ·obtain⟨o,e,c,d⟩:=h2;exact⟨o,e,fun v z=>by rw[d]at z;cases z⟩
 keep:=fun i h h' st k=>by
  obtain⟨hz,hTI,⟨u,v,hTO⟩,h1,h2⟩:=st;exact⟨k z (by simp) _ hz,k TI (by simp) _ hTI,⟨u,v,k TO (by simp) _ hTO⟩,h1.at fun o e=>k i1 (by simp) o e,h2.at fun o e=>k i2 (by simp) o e⟩
 item:=by
  intro X hP hw hK hc i J0 s σ H E I hf st hg;subst hP hw hK;obtain⟨hz,hTI,⟨u0,v0,hTO⟩,h1,h2⟩:=st;obtain⟨xs,ys,x,y,hqx,hqy,hx,hy⟩:=hg;obtain⟨its,rx,px,zx⟩:=I.list hqx;obtain⟨jts,ry,py,zy⟩:=I.list hqy;obtain⟨u,hu,ru⟩:=rx.get hx;obtain⟨v,hv,rv⟩:=ry.get hy;refine wpAny_pyNext_zip_item D hz hTI hTO h1 h2 px.isList py.isList (x:=u) (y:=v) (by simpa using hu) (by simpa using hv) fun h' a1 a2 a3 a4 a5 a6 hk=>?_;refine⟨_,rfl,wpAny_letOwnedTupleGo_zip (s:={ s with heap:=h' }) a1 fun h2' hz2 hs2=>?_⟩;have hs2':fZ z h' h2':=hs2;have nsz:s.heap.objs.size≠z:=eF (aG hz);have nsTO:s.heap.objs.size≠TO:=eF (aG hTO);have nsTI:s.heap.objs.size≠TI:=eF (aG hTI);have nsi1:s.heap.objs.size≠i1:=by obtain⟨o,ho,_⟩:=h1;exact eF (aG ho)
  have nsi2:s.heap.objs.size≠i2:=by obtain⟨o,ho,_⟩:=h2;exact eF (aG ho)
  have ht2:IsPair h2' s.heap.objs.size u v:=hs2'.extBut _ _ nsz a5;have I2:Inv X J0 σ (upd H s.heap.objs.size (.tup [x,y])) { s with heap:=h2',toks:=s.toks }:=by
   refine I.turnedNew (ch:=[z,TI,TO,i1,i2]) hf (fun c o hc q=>?_) ⟨_,ht2⟩ (fun _ z=>nomatch z) ⟨by show 2<=am;decide,[u,v],.cons ru (.cons rv .nil),⟨_,ht2,rfl,_,rfl⟩⟩;have n1:c≠z:=fun q=>hc (by simp[q]);exact hs2'.extBut _ _ n1 (hk c o n1 (fun q=>hc (by simp[q])) (fun q=>hc (by simp[q])) (fun q=>hc (by simp[q])) q)
  refine⟨.ref s.heap.objs.size,_,I2,rfl,⟨_,x,y,rfl,I.fresh,fun zs hz=>by rw[I.list_inj hz hqx];exact hx,fun zs hz=>by rw[I.list_inj hz hqy];exact hy,rfl⟩,⟨hz2,hs2'.extBut _ _ D.TIz (hk _ _ D.TIz D.TITO D.TIi1 D.TIi2 hTI),⟨_,_,hs2'.extBut _ _ D.TOz a2⟩,a3.at fun o e=>hs2'.extBut _ _ D.i1z e,a4.at fun o e=>hs2'.extBut _ _ D.i2z e⟩,fun c hc=>?_⟩;have hcn:=(hf c hc).1;simp only[bf,dJ,or_false]at hc;have ne:c≠s.heap.objs.size:=by
   rcases hc with rfl|rfl|rfl|rfl|rfl
   ·exact nsz.symm
   ·exact nsTI.symm
   ·exact nsTO.symm
   ·exact nsi1.symm
   ·exact nsi2.symm
  rw[af ne];exact hcn
 done:=by
  intro X hP hw hK hc i J0 s σ H E I hf st hg;subst hP hw hK;obtain⟨hz,hTI,⟨u0,v0,hTO⟩,h1,h2⟩:=st;obtain⟨xs,ys,hqx,hqy,hend⟩:=hg;obtain⟨its,rx,px,zx⟩:=I.list hqx;obtain⟨jts,ry,py,zy⟩:=I.list hqy;have lx:=rx.length;have ly:=ry.length;refine wpAny_pyNext_zip_end (I.ok.hd hc) D hz hTI hTO h1 h2 px.isList py.isList (by rcases hend with q|q;exact .inl (by simp;omega);exact .inr (by simp;omega)) fun h' hk=>⟨rfl,?_⟩;have tr:∀c q,H c=some q->c∉[z,TI,TO,i1,i2]:=fun c q e m=>by rw[(hf c m).1]at e;cases e
  have kk:∀c o,c∉[z,TI,TO,i1,i2]->s.heap.get? c=some o->h'.get? c=some o:=fun c o hc q=>hk c o (fun q=>hc (by simp[q])) (fun q=>hc (by simp[q])) (fun q=>hc (by simp[q])) (fun q=>hc (by simp[q])) q;refine I.step (g':=s.gens) (d':=s.drawn) (t':=s.toks) (ch:=[z,TI,TO,i1,i2]) (fun c hc=>?_) (fun c o _ _ hc e _=>kk c o hc e) (fun c o _ _ hc e _=>⟨o.slots,kk c o hc e⟩) (fun _ _ _ _ n=>n) (fun c o hc e=>⟨o,kk c o hc e⟩) (fun _ _ e=>e) (fun _ _ _ e=>e) (fun c ps e=>⟨#[],by rw[e];simp⟩) (fun m hm=>?_) (fun c q e=>?_) I.bare
  ·obtain⟨f0,f1,f2,f3,f4,f5⟩:=hf c hc;exact⟨f3,f1,f4,f5⟩
  ·obtain⟨q,es',ep,ho,r⟩:=hm;exact⟨q,es',ep,kk _ q (fun z=>(hf _ z).2.1 rfl) ho,r⟩
  ·refine(I.hok c q e).stay (fun d v hd q'=>kk d v ?_ q') (fun _ q=>q) fun _ _ q=>q;rcases hd with z|z
   ·subst z;exact tr _ _ e
   ·exact tr _ _ z
 self:=fun _ _ _ _ _ st h=>oJ st.1 h
section
variable{prog:bh}{w:World}{A:Around}{E:Zc}{s:Shared}
theorem gF{it t:Addr}{i:Nat}{items:Array Value}{x:Value}{Q:Zc}(st:s.heap.IsTupleIter it t i)(tt:s.heap.IsTuple t items)(hx:items[i]?=some x)
  (k:∀h',h'.IsTupleIter it t (i+1)->fZ it s.heap h'->Q x { s with heap:=h' }):wpAny (model prog w) A (hJ (.ref it)) Q E s:=by
 obtain⟨oi,gi,ci,di⟩:=id st;obtain⟨ot,gt,_,nt,dt⟩:=tt;unfold hJ;refine aq (oI (name:=oH "__next__") st.typeIs oG
  (uG oG st.typeIs F.entry_tuple_iterator_next ?_ (F.args_tuple_iterator_next_1 _)))
 show wpAny _ _ (field (.ref it) 0 >>= _) _ _ s;refine aq (ej gi di (x:=.ref t) rfl ?_);show wpAny _ _ (if(Value.ref t==Value.none)=true then _ else _) _ _ s
 rw[if_neg (show ¬((Value.ref t==Value.none)=true)from fX)];show wpAny _ _ (field (.ref it) 1 >>= _) _ _ s;refine aq (ej gi di (x:=.int i 0) rfl ?_);show wpAny _ _ (seqItems? (.ref t) >>= _) _ _ s;refine aq (iR gt dt ?_);simp only[j8,hx];refine aq (wpAny_setField gi di (by simp) (aW ⟨x,rfl,aW (k _ ?_ (l7 ..))⟩));exact⟨_,Heap.get?_update_self _ gi (Obj.isFreed_of_fields (Obj.data_mapFields di _)),(Obj.cls_mapFields ..).trans ci,by
  rw[Obj.data_mapFields di];simp[rawInt]⟩
theorem kS{it t:Addr}{i:Nat}{items:Array Value}{Q:Zc}(hh:A.handled=none)(st:s.heap.IsTupleIter it t i)(tt:s.heap.IsTuple t items)(hx:items[i]?=none)
  (k:∀h' e,Heap.ExtBut it s.heap h'->(∃o,h'.get? e=some o/\o.cls=.type "StopIteration")->E (.ref e) { s with heap:=h' }):wpAny (model prog w) A (hJ (.ref it)) Q E s:=by
 obtain⟨oi,gi,ci,di⟩:=id st;obtain⟨ot,gt,_,nt,dt⟩:=tt;unfold hJ;refine aq (oI (name:=oH "__next__") st.typeIs oG
  (uG oG st.typeIs F.entry_tuple_iterator_next ?_ (F.args_tuple_iterator_next_1 _)))
 show wpAny _ _ (field (.ref it) 0 >>= _) _ _ s;refine aq (ej gi di (x:=.ref t) rfl ?_);show wpAny _ _ (if(Value.ref t==Value.none)=true then _ else _) _ _ s
 rw[if_neg (show ¬((Value.ref t==Value.none)=true)from fX)];show wpAny _ _ (field (.ref it) 1 >>= _) _ _ s;refine aq (ej gi di (x:=.int i 0) rfl ?_);show wpAny _ _ (seqItems? (.ref t) >>= _) _ _ s;refine aq (iR gt dt ?_);simp only[j8,hx];refine aq (qi (aq (wpAny_setField gi di (by simp) ?_)));show wpAny _ _ (newExc (.type "StopIteration") [] >>= _) _ _ _;refine aq ?_;simp only[newExc,newTuple];refine aq (wpAny_newObj_type ?_ (by size_fits));refine aq (m:=firstArgMember _ _) (wpAny_of_eq (a:=Value.none) (by first|rfl|(simp only[firstArgMember];rfl)) ?_)
 refine wpAny_newObj_type ?_ (by size_fits);simp only[raiseNew];refine aq (wpAny_handled ?_)
 first|rw[show A.in1.handled=none from hh] | rw[hh]
 refine aq (aW (wpAny_throw ?_));exact k _ _ (((l7 ..).extBut.push _).push _) ⟨_,cA _ rfl,rfl⟩
theorem uH{z TI TO i1 i2 l1 l2:Addr}{k1 k2:Nat}{xs ys:Array Value}{x y a b:Value}{Q:Zc}(D:j6 z TI TO i1 i2 l1 l2)
  (gz:IsZip s.heap z TI TO .none) (gI:IsPair s.heap TI (.ref i1) (.ref i2)) (gO:IsPair s.heap TO a b)
  (g1:s.heap.IsTupleIter i1 l1 k1) (g2:s.heap.IsTupleIter i2 l2 k2) (t1:s.heap.IsTuple l1 xs) (t2:s.heap.IsTuple l2 ys) (hx:xs[k1]?=some x) (hy:ys[k2]?=some y)
  (k:∀h',IsZip h' z TI TO (rawInt s.heap.objs.size)->IsPair h' TO x y->h'.IsTupleIter i1 l1 (k1+1)->h'.IsTupleIter i2 l2 (k2+1)->IsPair h' s.heap.objs.size x y->h'.objs.size=s.heap.objs.size+1 ->
   (∀c o,c≠z->c≠TO->c≠i1->c≠i2->s.heap.get? c=some o->h'.get? c=some o)->Q (.ref s.heap.objs.size) { s with heap:=h' }) :
  wpAny (model prog w) A (c9.«zip.__next__» ⟨[.ref z],[]⟩) (fun fin s'=>∃v,fin=.done (.ret v)/\Q v s') E s:=by
 show wpAny _ _ (field (.ref z) 2 >>= _) _ _ _;refine aq (ej gz rfl (x:=.bool false) rfl ?_);show wpAny _ _ (field (.ref z) 3 >>= _) _ _ _;refine aq (ej gz rfl (x:=.ref TI) rfl ?_);refine aq (iR gI rfl ?_);show wpAny _ _ (oF (.ref z) >>= _) _ _ _;refine aq ?_;unfold oF;refine aq (ej gz rfl (x:=.none) rfl (aW ?_));simp only[if_true];refine aq (qi ?_);refine aq (ej gz rfl (x:=.ref TO) rfl ?_);refine aq (j5 gz (by simp) fun m₁ gz₁ u₁=>?_)
 replace gz₁:IsZip m₁ z TI TO .ellipsis:=gz₁
 refine aq ?_;simp only[List.zipIdx_cons,List.zipIdx_nil,l9,List.forIn_nil];refine aq (aq (oE ?_));show wpAny _ _ (hJ (.ref i1) >>= _) _ _ _;refine aq (gF (g1.extBut u₁.extBut D.i1z) (t1.extBut u₁.extBut D.l1z) hx fun m₂ g1₂ u₂=>aW ?_);have gO₂:IsPair m₂ TO a b:=u₂.extBut _ _ D.TOi1 (u₁.extBut _ _ D.TOz gO);refine aq (iR gO₂ rfl ?_);refine aq (wpAny_updateSeq_pair gO₂ fun m₃ gO₃ u₃=>?_)
 replace gO₃:IsPair m₃ TO x b:=gO₃
 refine aq (wpAny_letGo (aW ?_));refine aq (aq (oE ?_));show wpAny _ _ (hJ (.ref i2) >>= _) _ _ _;refine aq (gF (((g2.extBut u₁.extBut D.i2z).extBut u₂.extBut D.i12.symm).extBut u₃.extBut D.TOi2.symm)
  (((t2.extBut u₁.extBut D.l2z).extBut u₂.extBut D.l2i1).extBut u₃.extBut D.l2TO) hy fun m₄ g2₄ u₄=>aW ?_)
 have gO₄:IsPair m₄ TO x b:=u₄.extBut _ _ D.TOi2 gO₃;refine aq (iR gO₄ rfl ?_);refine aq (wpAny_updateSeq_pair gO₄ fun m₅ gO₅ u₅=>?_)
 replace gO₅:IsPair m₅ TO x y:=gO₅
 refine aq (wpAny_letGo (aW (aW ?_)));refine aq (iR gO₅ rfl ?_);refine aq (wpAny_newTuple ?_);have esz:m₅.objs.size=s.heap.objs.size:=by rw[u₅.1,u₄.1,u₃.1,u₂.1,u₁.1]
 have gz₅:IsZip m₅ z TI TO .ellipsis:=u₅.extBut _ _ D.TOz.symm (u₄.extBut _ _ D.i2z.symm (u₃.extBut _ _ D.TOz.symm (u₂.extBut _ _ D.i1z.symm gz₁)));have kp₅:∀c o,c≠z->c≠TO->c≠i1->c≠i2->s.heap.get? c=some o->m₅.get? c=some o:=fun c o c1 c2 c3 c4 e =>
  u₅.extBut _ _ c2 (u₄.extBut _ _ c4 (u₃.extBut _ _ c2 (u₂.extBut _ _ c3 (u₁.extBut _ _ c1 e))))
 have g1₅:m₅.IsTupleIter i1 l1 (k1+1):=((g1₂.extBut u₃.extBut D.TOi1.symm).extBut u₄.extBut D.i12).extBut u₅.extBut D.TOi1.symm;have g2₅:m₅.IsTupleIter i2 l2 (k2+1):=g2₄.extBut u₅.extBut D.TOi2.symm;have zlt:z<m₅.objs.size:=aG gz₅;show wpAny _ _ (c9.SmallTypes.ownedTupleHandOut (.ref z) (.ref m₅.objs.size) >>= _) _ _ _;refine aq ?_;unfold c9.SmallTypes.ownedTupleHandOut;have gz₆:IsZip (m₅.push { cls:=.type "tuple",data:=.seq #[x,y] }) z TI TO .ellipsis:=aO _ gz₅;refine aq (j5 gz₆ (by simp) fun m₇ gz₇ u₇=>?_)
 replace gz₇:IsZip m₇ z TI TO (rawInt m₅.objs.size):=gz₇
 refine j5 gz₇ (by simp) fun m₈ gz₈ u₈=>?_
 replace gz₈:IsZip m₈ z TI TO (rawInt m₅.objs.size):=gz₈
 have up:∀c o,c≠z->m₅.get? c=some o->m₈.get? c=some o:=fun c o c1 e=>u₈.extBut _ _ c1 (u₇.extBut _ _ c1 (aO _ e));have gT₈:IsPair m₈ m₅.objs.size x y:=u₈.extBut _ _ (eF zlt) (u₇.extBut _ _ (eF zlt) (cA _ rfl));have ez8:m₈.objs.size=m₅.objs.size+1:=by rw[u₈.1,u₇.1,kJ]
 rw[esz]at gz₈ gT₈ ez8;refine aW ⟨_,rfl,?_⟩;show Q (.ref m₅.objs.size) _;rw[esz];refine k m₈ gz₈ (up _ _ D.TOz gO₅) ?_ ?_ gT₈ ez8 fun c o c1 c2 c3 c4 e=>up c o c1 (kp₅ c o c1 c2 c3 c4 e)
 ·obtain⟨o,e,r⟩:=g1₅;exact⟨o,up _ o D.i1z e,r⟩
 ·obtain⟨o,e,r⟩:=g2₅;exact⟨o,up _ o D.i2z e,r⟩
theorem vD{z TI TO i1 i2 l1 l2:Addr}{k1 k2:Nat}{xs ys:Array Value}{a b:Value}{Q:Fin->Shared->Prop}(hh:A.handled=none)(D:j6 z TI TO i1 i2 l1 l2)
  (gz:IsZip s.heap z TI TO .none) (gI:IsPair s.heap TI (.ref i1) (.ref i2)) (gO:IsPair s.heap TO a b)
  (g1:s.heap.IsTupleIter i1 l1 k1) (g2:s.heap.IsTupleIter i2 l2 k2) (t1:s.heap.IsTuple l1 xs) (t2:s.heap.IsTuple l2 ys) (fin:xs[k1]?=none∨ys[k2]?=none)
  (k:∀h' e,(∀c o,c≠z->c≠TO->c≠i1->c≠i2->s.heap.get? c=some o->h'.get? c=some o)->(∃o,h'.get? e=some o/\o.cls=.type "StopIteration")->E (.ref e) { s with heap:=h' }) :
  wpAny (model prog w) A (c9.«zip.__next__» ⟨[.ref z],[]⟩) Q E s:=by
 show wpAny _ _ (field (.ref z) 2 >>= _) _ _ _;refine aq (ej gz rfl (x:=.bool false) rfl ?_);show wpAny _ _ (field (.ref z) 3 >>= _) _ _ _;refine aq (ej gz rfl (x:=.ref TI) rfl ?_);refine aq (iR gI rfl ?_);show wpAny _ _ (oF (.ref z) >>= _) _ _ _;refine aq ?_;unfold oF;refine aq (ej gz rfl (x:=.none) rfl (aW ?_));simp only[if_true];refine aq (qi ?_);refine aq (ej gz rfl (x:=.ref TO) rfl ?_);refine aq (j5 gz (by simp) fun m₁ gz₁ u₁=>?_)
 replace gz₁:IsZip m₁ z TI TO .ellipsis:=gz₁
 refine aq ?_;simp only[List.zipIdx_cons,List.zipIdx_nil,l9,List.forIn_nil];refine aq (aq (oE ?_));show wpAny _ _ (hJ (.ref i1) >>= _) _ _ _;cases hx:xs[k1]? with
 |none =>
  refine aq (kS hh (g1.extBut u₁.extBut D.i1z) (t1.extBut u₁.extBut D.l1z) hx fun m₂ e u₂ he=>?_);obtain⟨oe,ge,ce⟩:=he;have gz₂:IsZip m₂ z TI TO .ellipsis:=u₂ _ _ D.i1z.symm gz₁;have nez:e≠z:=fun q=>by subst q;rw[gz₂]at ge;cases ge;simp at ce
  refine j5 gz₂ (by simp) fun m₃ _ u₃=>k m₃ e (fun c o c1 _ c3 _ q=>u₃.extBut _ _ c1 (u₂ _ _ c3 (u₁.extBut _ _ c1 q))) ⟨oe,u₃.extBut _ _ nez ge,ce⟩
 |some x =>
  have hy:ys[k2]?=none:=by rcases fin with q|q;rw[hx]at q;cases q;exact q
  refine aq (gF (g1.extBut u₁.extBut D.i1z) (t1.extBut u₁.extBut D.l1z) hx fun m₂ g1₂ u₂=>aW ?_);have gO₂:IsPair m₂ TO a b:=u₂.extBut _ _ D.TOi1 (u₁.extBut _ _ D.TOz gO);refine aq (iR gO₂ rfl ?_);refine aq (wpAny_updateSeq_pair gO₂ fun m₃ gO₃ u₃=>?_);refine aq (wpAny_letGo (aW ?_));refine aq (aq (oE ?_));show wpAny _ _ (hJ (.ref i2) >>= _) _ _ _;refine aq (kS hh (((g2.extBut u₁.extBut D.i2z).extBut u₂.extBut D.i12.symm).extBut u₃.extBut D.TOi2.symm)
   (((t2.extBut u₁.extBut D.l2z).extBut u₂.extBut D.l2i1).extBut u₃.extBut D.l2TO) hy fun m₄ e u₄ he=>?_)
  obtain⟨oe,ge,ce⟩:=he;have gz₄:IsZip m₄ z TI TO .ellipsis:=u₄ _ _ D.i2z.symm (u₃.extBut _ _ D.TOz.symm (u₂.extBut _ _ D.i1z.symm gz₁));have nez:e≠z:=fun q=>by subst q;rw[gz₄]at ge;cases ge;simp at ce
  refine j5 gz₄ (by simp) fun m₅ _ u₅=>k m₅ e (fun c o c1 c2 c3 c4 q=>u₅.extBut _ _ c1 (u₄ _ _ c4 (u₃.extBut _ _ c2 (u₂.extBut _ _ c3 (u₁.extBut _ _ c1 q))))) ⟨oe,u₅.extBut _ _ nez ge,ce⟩
theorem nB{z TI TO i1 i2 l1 l2:Addr}{k1 k2:Nat}{xs ys:Array Value}{x y a b:Value}{Q:Option Value->Shared->Prop}(D:j6 z TI TO i1 i2 l1 l2)
  (gz:IsZip s.heap z TI TO .none) (gI:IsPair s.heap TI (.ref i1) (.ref i2)) (gO:IsPair s.heap TO a b)
  (g1:s.heap.IsTupleIter i1 l1 k1) (g2:s.heap.IsTupleIter i2 l2 k2) (t1:s.heap.IsTuple l1 xs) (t2:s.heap.IsTuple l2 ys) (hx:xs[k1]?=some x) (hy:ys[k2]?=some y)
  (k:∀h',IsZip h' z TI TO (rawInt s.heap.objs.size)->IsPair h' TO x y->h'.IsTupleIter i1 l1 (k1+1)->h'.IsTupleIter i2 l2 (k2+1)->IsPair h' s.heap.objs.size x y->h'.objs.size=s.heap.objs.size+1 ->
   (∀c o,c≠z->c≠TO->c≠i1->c≠i2->s.heap.get? c=some o->h'.get? c=some o)->Q (some (.ref s.heap.objs.size)) { s with heap:=h' }) :
  wpAny (model prog w) A (pyNext (.ref z)) Q E s:=by
 have hT:s.TypeIs (.ref z) "zip":=⟨_,gz,rfl⟩;unfold pyNext;exact aq (wpAny_attempt (oI (name:=oH "__next__") hT oC
  (uG oC hT F.entry_zip_next
   (uH D gz gI gO g1 g2 t1 t2 hx hy fun h' a1 a2 a3 a4 a5 a6 a7=>aW (k h' a1 a2 a3 a4 a5 a6 a7)) (F.args_zip_next_1 _))))
theorem pB{z TI TO i1 i2 l1 l2:Addr}{k1 k2:Nat}{xs ys:Array Value}{a b:Value}{Q:Option Value->Shared->Prop}(hh:A.handled=none)(D:j6 z TI TO i1 i2 l1 l2)
  (gz:IsZip s.heap z TI TO .none) (gI:IsPair s.heap TI (.ref i1) (.ref i2)) (gO:IsPair s.heap TO a b)
  (g1:s.heap.IsTupleIter i1 l1 k1) (g2:s.heap.IsTupleIter i2 l2 k2) (t1:s.heap.IsTuple l1 xs) (t2:s.heap.IsTuple l2 ys) (fin:xs[k1]?=none∨ys[k2]?=none)
  (k:∀h',(∀c o,c≠z->c≠TO->c≠i1->c≠i2->s.heap.get? c=some o->h'.get? c=some o)->Q none { s with heap:=h' }):wpAny (model prog w) A (pyNext (.ref z)) Q E s:=by
 have hT:s.TypeIs (.ref z) "zip":=⟨_,gz,rfl⟩;unfold pyNext;refine aq (wpAny_attempt (oI (name:=oH "__next__") hT oC
  (uG oC hT F.entry_zip_next (vD hh D gz gI gO g1 g2 t1 t2 fin fun h' e kp he=>?_) (F.args_zip_next_1 _))))
 obtain⟨o,ho,hc⟩:=he;refine aq (wpAny_isInstance (T:="StopIteration") (b:=true) ⟨o,ho,hc⟩ isSubtype_stop ?_);exact aW (k _ kp)
end
abbrev Am(h:Heap)(l1:Addr):Heap:=h.push { cls:=.type "tuple_iterator",data:=.fields #[.ref l1,.int 0 0] }
abbrev Al(h:Heap)(l1 l2:Addr):Heap:=(Am h l1).push { cls:=.type "tuple_iterator",data:=.fields #[.ref l2,.int 0 0] }
abbrev Ak(h:Heap)(l1 l2:Addr):Heap:=(Al h l1 l2).push { cls:=.type "tuple",data:=.seq #[.ref h.objs.size,.ref (Am h l1).objs.size] }
abbrev Aj(h:Heap)(l1 l2:Addr):Heap:=(Ak h l1 l2).push { cls:=.type "tuple",data:=.seq #[.none,.none] }
abbrev zB(h:Heap)(l1 l2:Addr):Heap:=(Aj h l1 l2).push { cls:=.type "zip",data:=.fields #[.none,.bool false,.bool false,.ref (Al h l1 l2).objs.size,.ref (Ak h l1 l2).objs.size] }
theorem sE(l1 l2:Addr)(xs ys:Array Value):
  Meets (c9.«zip.__new__» ⟨[.type "zip",.ref l1,.ref l2],[]⟩) (fun _ R s=>s.heap.IsTuple l1 xs/\s.heap.IsTuple l2 ys /\
   R (.ok (.ret (.ref (Aj s.heap l1 l2).objs.size))) { s with heap:=zB s.heap l1 l2 }) :=
 .of_wp fun prog w A R s h=>by
  obtain⟨hp,g,d,tk,os⟩:=s;obtain⟨q1,q2,h⟩:=h;have hsub:=sub_zip;have T1:Heap.IsTuple (Shared.heap ⟨hp,g,d,tk,os⟩) l1 xs:=q1;have T2:Heap.IsTuple (Shared.heap ⟨hp.push { cls:=.type "tuple_iterator",data:=.fields #[.ref l1,.int 0 0] },g,d,tk,os⟩) l2 ys:=Heap.IsTuple.push q2 _
  wp_walk using tK T1,tK T2
  exact⟨_,rfl,h⟩
section
variable{prog:bh}{w:World}{A:Around}{E:Zc}{s:Shared}
theorem vj{l1 l2:Addr}{xs ys:Array Value}{Q:Zc}(t1:s.heap.IsTuple l1 xs)(t2:s.heap.IsTuple l2 ys)
  (k:∀h',IsZip h' (s.heap.objs.size+4) (s.heap.objs.size+2) (s.heap.objs.size+3) .none->IsPair h' (s.heap.objs.size+2) (.ref s.heap.objs.size) (.ref (s.heap.objs.size+1)) ->
   IsPair h' (s.heap.objs.size+3) .none .none->h'.IsTupleIter s.heap.objs.size l1 0->h'.IsTupleIter (s.heap.objs.size+1) l2 0->(∀c o,s.heap.get? c=some o->h'.get? c=some o)->Q (.ref (s.heap.objs.size+4)) { s with heap:=h' }) :
  wpAny (model prog w) A (call (.type "zip") [.ref l1,.ref l2]) Q E s:=by
 refine callType_new F.called_zip (by decide) (F.typeCall_zip_2 _ _) (F.newCall_zip_2 _ _) (fun obj=>F.args_object_init_3 obj _ _) F.entry_zip_new
  (sE l1 l2 xs ys) ⟨t1,t2,?_⟩
 have z1:(Am s.heap l1).objs.size=s.heap.objs.size+1:=kJ ..;have z2:(Al s.heap l1 l2).objs.size=s.heap.objs.size+2:=by rw[kJ,z1]
 have z3:(Ak s.heap l1 l2).objs.size=s.heap.objs.size+3:=by rw[kJ,z2]
 have z4:(Aj s.heap l1 l2).objs.size=s.heap.objs.size+4:=by rw[kJ,z3]
 have g5:(zB s.heap l1 l2).get? (Aj s.heap l1 l2).objs.size=some _:=cA _ rfl;have g4:(zB s.heap l1 l2).get? (Ak s.heap l1 l2).objs.size=some _:=aO _ (cA _ rfl);have g3:(zB s.heap l1 l2).get? (Al s.heap l1 l2).objs.size=some _:=aO _ (aO _ (cA _ rfl));have g2:(zB s.heap l1 l2).get? (Am s.heap l1).objs.size=some _:=aO _ (aO _ (aO _ (cA _ rfl)));have g1:(zB s.heap l1 l2).get? s.heap.objs.size=some _:=aO _ (aO _ (aO _ (aO _ (cA _ rfl))));show _/\_;rw[z2,z3,z4]at g5;rw[z1,z2]at g3;rw[z3]at g4;rw[z1]at g2;rw[z4];exact⟨⟨_,g5,rfl⟩,k _ g5 g3 g4 ⟨_,g1,rfl,rfl⟩ ⟨_,g2,rfl,rfl⟩ fun c o x =>
  aO _ (aO _ (aO _ (aO _ (aO _ x))))⟩
end
def Aa(K:Za)(a b:Addr):It :=
  ⟨fun i H=>∃xs ys x y,bM K H a xs/\bM K H b ys/\xs[i]?=some x/\ys[i]?=some y,
   fun i H x H'=>∃p u v,x=.ref p/\H p=none/\(∀xs,bM K H a xs->xs[i]?=some u)/\(∀ys,bM K H b ys->ys[i]?=some v)/\H'=upd H p (.tup [u,v]),
   fun i H=>∃xs ys,bM K H a xs/\bM K H b ys/\(xs.length<=i∨ys.length<=i)⟩
theorem uI{P:bh}{w:World}{K:Za}{es:List Expr}{kx:Nat}{J5:Pos}(a b z TI TO i1 i2:Addr)(D:j6 z TI TO i1 i2 a b):
  nD P w K (.Tuple es kx J5) (Aa K a b) [z,TI,TO,i1,i2] z (fun i h=>IsZip h z TI TO .none/\IsPair h TI (.ref i1) (.ref i2)/\(∃a b,IsPair h TO a b)/\h.IsTupleIter i1 a i/\h.IsTupleIter i2 b i) where
 mem:=by simp
 obj:=fun i h st c hc=>by
  obtain⟨hz,hTI,⟨u,v,hTO⟩,h1,h2⟩:=st;simp only[bf,dJ,or_false]at hc;rcases hc with rfl|rfl|rfl|rfl|rfl
  ·exact⟨_,hz,fun v z=>by cases z⟩
  ·exact⟨_,hTI,fun v z=>by cases z⟩
  ·exact⟨_,hTO,fun v z=>by cases z⟩
  ·obtain⟨o,e,c,d⟩:=h1;exact⟨o,e,fun v z=>by rw[d]at z;cases z⟩
  ·obtain⟨o,e,c,d⟩:=h2;exact⟨o,e,fun v z=>by rw[d]at z;cases z⟩
 keep:=fun i h h' st k=>by
  obtain⟨hz,hTI,⟨u,v,hTO⟩,⟨o1,e1,r1⟩,⟨o2,e2,r2⟩⟩:=st;exact⟨k z (by simp) _ hz,k TI (by simp) _ hTI,⟨u,v,k TO (by simp) _ hTO⟩,⟨o1,k i1 (by simp) o1 e1,r1⟩,⟨o2,k i2 (by simp) o2 e2,r2⟩⟩
 item:=by
  intro X hP hw hK hc i J0 s σ H E I hf st hg;subst hP hw hK;obtain⟨hz,hTI,⟨u0,v0,hTO⟩,h1,h2⟩:=st;obtain⟨xs,ys,x,y,hqx,hqy,hx,hy⟩:=hg;obtain⟨its,rx,px,zx⟩:=I.tuple hqx;obtain⟨jts,ry,py,zy⟩:=I.tuple hqy;obtain⟨u,hu,ru⟩:=rx.get hx;obtain⟨v,hv,rv⟩:=ry.get hy;refine nB D hz hTI hTO h1 h2 (xs:=its.toArray) (ys:=jts.toArray) px py (x:=u) (y:=v) (by simpa using hu) (by simpa using hv) fun h' a1 a2 a3 a4 a5 a6 hk=>?_;refine⟨_,rfl,wpAny_letOwnedTupleGo_zip (s:={ s with heap:=h' }) a1 fun h2' hz2 hs2=>?_⟩;have hs2':fZ z h' h2':=hs2;have nsz:s.heap.objs.size≠z:=eF (aG hz);have nsTO:s.heap.objs.size≠TO:=eF (aG hTO);have nsTI:s.heap.objs.size≠TI:=eF (aG hTI);have nsi1:s.heap.objs.size≠i1:=by obtain⟨o,ho,_⟩:=h1;exact eF (aG ho)
  have nsi2:s.heap.objs.size≠i2:=by obtain⟨o,ho,_⟩:=h2;exact eF (aG ho)
  have ht2:IsPair h2' s.heap.objs.size u v:=hs2'.extBut _ _ nsz a5;have I2:Inv X J0 σ (upd H s.heap.objs.size (.tup [x,y])) { s with heap:=h2',toks:=s.toks }:=by
   refine I.turnedNew (ch:=[z,TI,TO,i1,i2]) hf (fun c o hc q=>?_) ⟨_,ht2⟩ (fun _ z=>nomatch z) ⟨by show 2<=am;decide,[u,v],.cons ru (.cons rv .nil),⟨_,ht2,rfl,_,rfl⟩⟩;have n1:c≠z:=fun q=>hc (by simp[q]);exact hs2'.extBut _ _ n1 (hk c o n1 (fun q=>hc (by simp[q])) (fun q=>hc (by simp[q])) (fun q=>hc (by simp[q])) q)
  have a3':h2'.IsTupleIter i1 a (i+1):=by obtain⟨o,e,r⟩:=a3;exact⟨o,hs2'.extBut _ _ D.i1z e,r⟩
  have a4':h2'.IsTupleIter i2 b (i+1):=by obtain⟨o,e,r⟩:=a4;exact⟨o,hs2'.extBut _ _ D.i2z e,r⟩
  refine⟨.ref s.heap.objs.size,_,I2,rfl,⟨_,x,y,rfl,I.fresh,fun zs hz=>by rw[I.tuple_inj hz hqx];exact hx,fun zs hz=>by rw[I.tuple_inj hz hqy];exact hy,rfl⟩,⟨hz2,hs2'.extBut _ _ D.TIz (hk _ _ D.TIz D.TITO D.TIi1 D.TIi2 hTI),⟨_,_,hs2'.extBut _ _ D.TOz a2⟩,a3',a4'⟩,fun c hc=>?_⟩;have hcn:=(hf c hc).1;simp only[bf,dJ,or_false]at hc;have ne:c≠s.heap.objs.size:=by
   rcases hc with rfl|rfl|rfl|rfl|rfl
   ·exact nsz.symm
   ·exact nsTI.symm
   ·exact nsTO.symm
   ·exact nsi1.symm
   ·exact nsi2.symm
  rw[af ne];exact hcn
 done:=by
  intro X hP hw hK hc i J0 s σ H E I hf st hg;subst hP hw hK;obtain⟨hz,hTI,⟨u0,v0,hTO⟩,h1,h2⟩:=st;obtain⟨xs,ys,hqx,hqy,hend⟩:=hg;obtain⟨its,rx,px,zx⟩:=I.tuple hqx;obtain⟨jts,ry,py,zy⟩:=I.tuple hqy;have lx:=rx.length;have ly:=ry.length;refine pB (I.ok.hd hc) D hz hTI hTO h1 h2 (xs:=its.toArray) (ys:=jts.toArray) px py (by rcases hend with q|q;exact .inl (by simp;omega);exact .inr (by simp;omega)) fun h' hk=>⟨rfl,?_⟩;have tr:∀c q,H c=some q->c∉[z,TI,TO,i1,i2]:=fun c q e m=>by rw[(hf c m).1]at e;cases e
  have kk:∀c o,c∉[z,TI,TO,i1,i2]->s.heap.get? c=some o->h'.get? c=some o:=fun c o hc q=>hk c o (fun q=>hc (by simp[q])) (fun q=>hc (by simp[q])) (fun q=>hc (by simp[q])) (fun q=>hc (by simp[q])) q;refine I.step (g':=s.gens) (d':=s.drawn) (t':=s.toks) (ch:=[z,TI,TO,i1,i2]) (fun c hc=>?_) (fun c o _ _ hc e _=>kk c o hc e) (fun c o _ _ hc e _=>⟨o.slots,kk c o hc e⟩) (fun _ _ _ _ n=>n) (fun c o hc e=>⟨o,kk c o hc e⟩) (fun _ _ e=>e) (fun _ _ _ e=>e) (fun c ps e=>⟨#[],by rw[e];simp⟩) (fun m hm=>?_) (fun c q e=>?_) I.bare
  ·obtain⟨f0,f1,f2,f3,f4,f5⟩:=hf c hc;exact⟨f3,f1,f4,f5⟩
  ·obtain⟨q,es',ep,ho,r⟩:=hm;exact⟨q,es',ep,kk _ q (fun z=>(hf _ z).2.1 rfl) ho,r⟩
  ·refine(I.hok c q e).stay (fun d v hd q'=>kk d v ?_ q') (fun _ q=>q) fun _ _ q=>q;rcases hd with z|z
   ·subst z;exact tr _ _ e
   ·exact tr _ _ z
 self:=fun _ _ _ _ _ st h=>oJ st.1 h
section
variable{X:Cx}{p pos:Pos}{es:List Expr}{kx:Nat}{J5:Pos}
def oh(K:Za)(ta:TA):TI:=fun σ H R=>ta σ H fun vs H1=>∃a b,vs=[.ref a,.ref b]/\(((∃xs,aB K H1 a xs)/\(∃ys,aB K H1 b ys)/\R (Ab K a b) H1)∨((∃xs,bM K H1 a xs)/\(∃ys,bM K H1 b ys)/\R (Aa K a b) H1))
theorem lM{a b:Expr}{ta:TA}(hg:Gl X "zip")(hm:X.mg "zip"=none)(ha:PA X [a,b] ta)(hs:ax [a,b] X.env=[(false,eval a X.env),(false,eval b X.env)]:=by rfl)(hs2:ax [b] X.env=[(false,eval b X.env)]:=by rfl):
  PI X (.Tuple es kx J5) (.Call (.Name "zip" p) [a,b] [] pos) (oh X.K ta):=by
 intro J0 s σ H R I h;refine Call_ (kn I hg hm boot_zip (tJ (bL (ha pos J0 s σ H _ I h) fun us s1 ⟨vs,H1,I1,r1,q1⟩=>?_) (by rw[hs,hs2]) (by rw[hs2];rfl)));obtain⟨l1,l2,e,q⟩:=q1;subst e;obtain⟨u,v,rfl,ru,rv⟩:=vals2 r1;cases ru;cases rv;have fin:∀b∈[s1.heap.objs.size+4,s1.heap.objs.size+2,s1.heap.objs.size+3,s1.heap.objs.size,s1.heap.objs.size+1],js X J0 H1 b:=fun b hb=>by
  have hb':s1.heap.objs.size<=b:=by
   simp only[bf,dJ,or_false]at hb;rcases hb with rfl|rfl|rfl|rfl|rfl<;>omega
  exact I1.fpOk hb' (I1.hok.fresh hb')
 rcases q with⟨⟨xs,hx⟩,⟨ys,hy⟩,q⟩|⟨⟨xs,hx⟩,⟨ys,hy⟩,q⟩
 ·obtain⟨its,rx,px,zx⟩:=I1.list hx;obtain⟨jts,ry,py,zy⟩:=I1.list hy;obtain⟨o1,n1,e1,_⟩:=id px;obtain⟨o2,n2,e2,_⟩:=id py;refine call_zip_2 px.isList py.isList fun h' a1 a2 a3 a4 a5 a6 hk=>?_;refine oJ (s:={ s1 with heap:=h' }) a1 ?_;have hk':∀b o,s1.heap.get? b=some o->h'.get? b=some o:=hk;have I2:Inv X J0 σ H1 { s1 with heap:=h' }:=I1.kept (t':=s1.toks) hk';exact⟨_,_,_,_,H1,rfl,I2,vI l1 l2 _ _ _ _ _ (zipApart_new (aG e1) (aG e2)),⟨a1,a2,⟨_,_,a3⟩,a4,a5⟩,fin,q⟩
 ·obtain⟨its,rx,px,zx⟩:=I1.tuple hx;obtain⟨jts,ry,py,zy⟩:=I1.tuple hy;obtain⟨o1,e1,_⟩:=id px;obtain⟨o2,e2,_⟩:=id py;refine vj (xs:=its.toArray) (ys:=jts.toArray) px py fun h' a1 a2 a3 a4 a5 hk=>?_;refine oJ (s:={ s1 with heap:=h' }) a1 ?_;have hk':∀b o,s1.heap.get? b=some o->h'.get? b=some o:=hk;have I2:Inv X J0 σ H1 { s1 with heap:=h' }:=I1.kept (t':=s1.toks) hk';exact⟨_,_,_,_,H1,rfl,I2,uI l1 l2 _ _ _ _ _ (zipApart_new (aG e1) (aG e2)),⟨a1,a2,⟨_,_,a3⟩,a4,a5⟩,fin,q⟩
end
inductive DT where
 |k (a:cI)
 |t (l:List DT)
 |s (l:List DT)
mutual
def yN:(x y:DT)->Decidable (x=y)
 |.k a,.k b=>if h:a=b then Decidable.isTrue (by rw[h])else Decidable.isFalse fun e=>h (by injection e)
 |.t l,.t m=>match decDTs l m with
  |Decidable.isTrue h=>Decidable.isTrue (by rw[h])
  |Decidable.isFalse h=>Decidable.isFalse fun e=>h (by injection e)
 |.s l,.s m=>match decDTs l m with
  |Decidable.isTrue h=>Decidable.isTrue (by rw[h])
  |Decidable.isFalse h=>Decidable.isFalse fun e=>h (by injection e)
 |.k _,.t _=>Decidable.isFalse nofun
 |.k _,.s _=>Decidable.isFalse nofun
 |.t _,.k _=>Decidable.isFalse nofun
 |.t _,.s _=>Decidable.isFalse nofun
 |.s _,.k _=>Decidable.isFalse nofun
 |.s _,.t _=>Decidable.isFalse nofun
def decDTs:(x y:List DT)->Decidable (x=y)
 |[],[]=>Decidable.isTrue rfl
 |[],_::_=>Decidable.isFalse nofun
 |_::_,[]=>Decidable.isFalse nofun
 |a::l,b::m=>match yN a b with
  |Decidable.isTrue h=>match decDTs l m with
   |Decidable.isTrue h'=>Decidable.isTrue (by rw[h,h'])
   |Decidable.isFalse h'=>Decidable.isFalse fun e=>h' (by injection e)
  |Decidable.isFalse h=>Decidable.isFalse fun e=>h (by injection e)
end
instance:DecidableEq DT:=yN
mutual
def DT.depth:DT->Nat
 |.k _=>0
 |.t l=>DT.depths l+1
 |.s l=>DT.depths l+1
def DT.depths:List DT->Nat
 |[]=>0
 |a::r=>max (DT.depth a) (DT.depths r)
end
mutual
def lP(h:Heap):DT->Value->Prop
 |.k a,v=>bz a v=true
 |.t l,v=>∃a items,v=.ref a/\h.IsTuple a items/\DAts h l items.toList
 |.s l,v=>∃a items,v=.ref a/\h.IsList a items/\DAts h l items.toList
def DAts(h:Heap):List DT->List Value->Prop
 |[],vs=>vs=[]
 |k::r,vs=>∃v us,vs=v::us/\lP h k v/\DAts h r us
end
theorem DAts.length{h:Heap}:∀{xs:List DT}{vs:Zf},DAts h xs vs->xs.length=vs.length
 |[],vs,e=>by have e':vs=[]:=e;rw[e'];rfl
 |x::xs,vs,e=>by
  obtain⟨v,us,rfl,_,h2⟩:=e;simp[DAts.length h2]
theorem DAts.get{h:Heap}:∀{xs:List DT}{vs:Zf}{i:Nat}{v:Value},DAts h xs vs->vs[i]?=some v->∃x,xs[i]?=some x/\lP h x v
 |[],vs,i,v,e,q=>by have e':vs=[]:=e;subst e';simp at q
 |x::xs,vs,i,v,e,q=>by
  obtain⟨u,us,rfl,h1,h2⟩:=e;cases i with
  |zero =>
   simp at q;subst q;exact⟨x,rfl,h1⟩
  |succ i =>
   obtain⟨y,e1,e2⟩:=DAts.get h2 (i:=i) (v:=v) (by simpa using q);exact⟨y,by simpa using e1,e2⟩
theorem DT.depths_get{l:List DT}{x:DT}{i d:Nat}(h:DT.depths l<=d)(e:l[i]?=some x):x.depth<=d:=by
 induction l generalizing i with
 |nil=>simp at e
 |cons a r ih =>
  have h':max a.depth (DT.depths r)<=d:=h;cases i with
  |zero=>simp at e;subst e;omega
  |succ i=>exact ih (by omega) (by simpa using e)
theorem sM{h:Heap}{a:Addr}{i j:Array Value}(x:h.IsList a i)(y:h.IsList a j):i=j:=by
 obtain⟨o,ho,_,n,hd⟩:=x;obtain⟨o',ho',_,n',hd'⟩:=y;rw[ho]at ho';cases ho';rw[hd]at hd';injection hd'
theorem rc{h:Heap}{a:Addr}{i j:Array Value}(x:h.IsTuple a i)(y:h.IsTuple a j):i=j:=by
 obtain⟨o,ho,_,n,hd⟩:=x;obtain⟨o',ho',_,n',hd'⟩:=y;rw[ho]at ho';cases ho';rw[hd]at hd';injection hd'
theorem gh{h:Heap}{a:Addr}{i j:Array Value}(x:h.IsList a i)(y:h.IsTuple a j):False:=by
 obtain⟨o,ho,hc,_⟩:=x;obtain⟨o',ho',hc',_⟩:=y;rw[ho]at ho';cases ho';rw[hc]at hc';simp at hc'
theorem og{a b:cI}{v:Value}(h1:bz a v=true)(h2:bz b v=true):a=b:=by
 rcases ao h1 with⟨i,t,rfl,rfl⟩|⟨i,t,rfl,rfl⟩
 ·rcases ao h2 with⟨j,u,rfl,e⟩|⟨j,u,rfl,e⟩
  ·cases e;rfl
  ·cases e
 ·rcases ao h2 with⟨j,u,rfl,e⟩|⟨j,u,rfl,e⟩
  ·cases e
  ·cases e;rfl
theorem eV{a:cI}{b:Addr}(h:bz a (.ref b)=true):False:=by
 rcases ao h with⟨_,_,_,e⟩|⟨_,_,_,e⟩<;>cases e
theorem lP.inj{h:Heap}:∀(d:Nat) {x y:DT}{v:Value},x.depth<=d->lP h x v->lP h y v->x=y:=by
 have key:∀(d:Nat) (ih:∀{x y:DT}{v:Value},x.depth<=d->lP h x v->lP h y v->x=y) (xs ys:List DT) (vs:Zf),DT.depths xs<=d->DAts h xs vs->DAts h ys vs->xs=ys:=by
  intro d ih xs
  induction xs with
  |nil =>
   intro ys vs _ hx hy;have hx':vs=[]:=hx;subst hx';cases ys with
   |nil=>rfl
   |cons y ys=>obtain⟨_,_,e,_⟩:=hy;cases e
  |cons x xs ihl =>
   intro ys vs hd hx hy;obtain⟨v,us,rfl,hx1,hx2⟩:=hx;cases ys with
   |nil=>have hy':v::us=[]:=hy;cases hy'
   |cons y ys =>
    obtain⟨v',us',e,hy1,hy2⟩:=hy;cases e;have hd':max x.depth (DT.depths xs)<=d:=hd;rw[ih (by omega) hx1 hy1,ihl ys us (by omega) hx2 hy2]
 intro d
 induction d with
 |zero =>
  intro x y v hd hx hy;cases x with
  |t l=>exact absurd hd (by show ¬(DT.depths l+1<=0);omega)
  |s l=>exact absurd hd (by show ¬(DT.depths l+1<=0);omega)
  |k a =>
   cases y with
   |k b=>rw[og hx hy]
   |t l=>obtain⟨b,_,rfl,_⟩:=hy;exact(eV hx).elim
   |s l=>obtain⟨b,_,rfl,_⟩:=hy;exact(eV hx).elim
 |succ d ih =>
  intro x y v hd hx hy;cases x with
  |k a =>
   cases y with
   |k b=>rw[og hx hy]
   |t l=>obtain⟨b,_,rfl,_⟩:=hy;exact(eV hx).elim
   |s l=>obtain⟨b,_,rfl,_⟩:=hy;exact(eV hx).elim
  |t l =>
   obtain⟨a,i,rfl,hi,hx⟩:=hx;cases y with
   |k b=>exact(eV hy).elim
   |t m =>
    obtain⟨a',j,e,hj,hy⟩:=hy;cases e;rw[rc hj hi]at hy;rw[key d (fun h1=>ih h1) l m i.toList (by have:DT.depths l+1<=d+1:=hd;omega) hx hy]
   |s m =>
    obtain⟨a',j,e,hj,hy⟩:=hy;cases e;exact(gh hj hi).elim
  |s l =>
   obtain⟨a,i,rfl,hi,hx⟩:=hx;cases y with
   |k b=>exact(eV hy).elim
   |s m =>
    obtain⟨a',j,e,hj,hy⟩:=hy;cases e;rw[sM hj hi]at hy;rw[key d (fun h1=>ih h1) l m i.toList (by have:DT.depths l+1<=d+1:=hd;omega) hx hy]
   |t m =>
    obtain⟨a',j,e,hj,hy⟩:=hy;cases e;exact(gh hi hj).elim
theorem dD{l m:List DT}(hl:l.length=m.length):((jA l.length).all fun j=>decide (l[j]?=m[j]?))=decide (l=m):=by
 by_cases e:l=m
 ·subst e;simp
 ·rw[zzr0 e];rw[List.all_eq_false];apply Classical.byContradiction;intro h;apply e;apply List.ext_getElem?;intro i;by_cases hi:i<l.length
  ·apply Classical.byContradiction;intro hne;exact h ⟨i,List.mem_range.mpr hi,by simpa using hne⟩
  ·rw[List.getElem?_eq_none (by omega),List.getElem?_eq_none (by omega)]
section
variable{s:Shared}
theorem yH:∀(d:Nat) {A:Around}{x y:DT}{u v:Value},x.depth<=d->y.depth<=d->A.units+d<cLine->lP s.heap x u->lP s.heap y v->aS A s u v (decide (x=y)):=by
 have leaves:∀{A:Around}{a b:cI}{u v:Value},bz a u=true->bz b v=true->aS A s u v (decide (DT.k a=DT.k b)):=by
  intro A a b u v h1 h2;have hd:decide (DT.k a=DT.k b)=decide (a=b):=by
   by_cases e:a=b
   ·subst e;simp
   ·have:¬(DT.k a=DT.k b):=fun z=>e (by injection z);rw[zzr0 this,zzr0 e]
  rw[hd];rcases ao h1 with⟨i,t,rfl,rfl⟩|⟨i,t,rfl,rfl⟩
  ·rcases ao h2 with⟨j,u,rfl,rfl⟩|⟨j,u,rfl,rfl⟩
   ·rw[pH];exact aS.int_int i t j u
   ·rw[pG];exact aS.int_str i t j u
  ·rcases ao h2 with⟨j,u,rfl,rfl⟩|⟨j,u,rfl,rfl⟩
   ·rw[pF];exact aS.str_int i t j u
   ·rw[pE];have:=aS.str_str (A:=A) (s:=s) i t j u;rwa[show(i==j)=decide (i=j)from by by_cases e:i=j<;>simp[e]]at this
 have kt:∀{A:Around}{a:cI}{u:Value}{b:Addr}{items:Array Value},A.units<cLine->bz a u=true->s.heap.IsTuple b items->aS A s u (.ref b) false/\aS A s (.ref b) u false:=by
  intro A a u b items hu h1 ht;rcases ao h1 with⟨i,t,rfl,rfl⟩|⟨i,t,rfl,rfl⟩
  ·exact⟨aS.int_tuple i t ht hu,aS.tuple_int i t ht hu⟩
  ·exact⟨aS.str_tuple i t ht hu,aS.tuple_str i t ht hu⟩
 have kl:∀{A:Around}{a:cI}{u:Value}{b:Addr}{items:Array Value},A.units<cLine->bz a u=true->s.heap.IsList b items->aS A s u (.ref b) false/\aS A s (.ref b) u false:=by
  intro A a u b items hu h1 ht;rcases ao h1 with⟨i,t,rfl,rfl⟩|⟨i,t,rfl,rfl⟩
  ·exact⟨aS.int_list i t ht hu,aS.list_int i t ht hu⟩
  ·exact⟨aS.str_list i t ht hu,aS.list_str i t ht hu⟩
 intro d
 induction d with
 |zero =>
  intro A x y u v hdx hdy hu hx hy;cases x with
  |t l=>exact absurd hdx (by show ¬(DT.depths l+1<=0);omega)
  |s l=>exact absurd hdx (by show ¬(DT.depths l+1<=0);omega)
  |k a =>
   cases y with
   |t l=>exact absurd hdy (by show ¬(DT.depths l+1<=0);omega)
   |s l=>exact absurd hdy (by show ¬(DT.depths l+1<=0);omega)
   |k b=>exact leaves hx hy
 |succ d ih =>
  intro A x y u v hdx hdy hu hx hy;have items:∀{l m:List DT}{i j:Array Value},DT.depths l<=d->DT.depths m<=d->DAts s.heap l i.toList->DAts s.heap m j.toList->∀n (h1:n<i.size) (h2:n<j.size),aS A.in1 s i[n] j[n] (decide (l[n]?=m[n]?)):=by
   intro l m i j hl hm hi hj n h1 h2;obtain⟨x,ex,hx⟩:=hi.get (i:=n) (v:=i[n]) (by simp[h1]);obtain⟨y,ey,hy⟩:=hj.get (i:=n) (v:=j[n]) (by simp[h2]);rw[ex,ey];have hd:decide ((some x:Option DT)=some y)=decide (x=y):=by
    by_cases e:x=y
    ·subst e;simp
    ·rw[zzr0 e,zzr0 fun z=>e (cT z)]
   rw[hd];exact ih (DT.depths_get hl ex) (DT.depths_get hm ey) (by show A.units+1+d<cLine;omega) hx hy
  cases x with
  |k a =>
   cases y with
   |k b=>exact leaves hx hy
   |t l =>
    obtain⟨b,i,rfl,hi,_⟩:=hy;rw[zzr0 (by intro z;cases z)];exact(kt (by omega) hx hi).1
   |s l =>
    obtain⟨b,i,rfl,hi,_⟩:=hy;rw[zzr0 (by intro z;cases z)];exact(kl (by omega) hx hi).1
  |t l =>
   have hl:DT.depths l<=d:=by have:DT.depths l+1<=d+1:=hdx;omega
   have hx0:=hx;obtain⟨a,i,rfl,hi,hx⟩:=hx;cases y with
   |k b =>
    rw[zzr0 (by intro z;cases z)];exact(kt (by omega) hy hi).2
   |s m =>
    obtain⟨b,j,rfl,hj,_⟩:=hy;rw[zzr0 (by intro z;cases z)];exact aS.tuple_list hi hj (by omega)
   |t m =>
    have hm:DT.depths m<=d:=by have:DT.depths m+1<=d+1:=hdy;omega
    have hy0:=hy;obtain⟨b,j,rfl,hj,hy⟩:=hy;by_cases hab:a=b
    ·subst hab;have e:DT.t l=DT.t m:=lP.inj _ (aE _) hx0 hy0;rw[zzr1 e];exact aS.same _
    ·have r:=SeqAt.RcAt.tuples (A:=A) hi hj (by omega) (items hl hm hx hy);have li:=hx.length;have lj:=hy.length;simp only[kN]at li lj;have q:((jA (min i.size j.size)).all (fun n=>decide (l[n]?=m[n]?)) && i.size==j.size)=decide (DT.t l=DT.t m):=by
      by_cases e:l.length=m.length
      ·have e1:i.size=j.size:=by omega
       rw[<-e1,Nat.min_self,<-li,dD e];by_cases e2:l=m
       ·subst e2;simp
       ·have:¬(DT.t l=DT.t m):=fun z=>e2 (by injection z);rw[zzr0 this,zzr0 e2];rfl
      ·have e1:(i.size==j.size)=false:=by simp;omega
       have:¬(DT.t l=DT.t m):=fun z=>e (by injection z with z;rw[z]);rw[e1,zzr0 this,Bool.and_false]
     rw[q]at r;exact .of_refs hab r
  |s l =>
   have hl:DT.depths l<=d:=by have:DT.depths l+1<=d+1:=hdx;omega
   have hx0:=hx;obtain⟨a,i,rfl,hi,hx⟩:=hx;cases y with
   |k b =>
    rw[zzr0 (by intro z;cases z)];exact(kl (by omega) hy hi).2
   |t m =>
    obtain⟨b,j,rfl,hj,_⟩:=hy;rw[zzr0 (by intro z;cases z)];exact aS.list_tuple hi hj (by omega)
   |s m =>
    have hm:DT.depths m<=d:=by have:DT.depths m+1<=d+1:=hdy;omega
    have hy0:=hy;obtain⟨b,j,rfl,hj,hy⟩:=hy;by_cases hab:a=b
    ·subst hab;have e:DT.s l=DT.s m:=lP.inj _ (aE _) hx0 hy0;rw[zzr1 e];exact aS.same _
    ·have li:=hx.length;have lj:=hy.length;simp only[kN]at li lj;by_cases e:l.length=m.length
     ·have r:=SeqAt.RcAt.lists (A:=A) hi hj (by omega) (by omega) (items hl hm hx hy);rw[<-li,dD e]at r;have q:decide (l=m)=decide (DT.s l=DT.s m):=by
       by_cases e2:l=m
       ·subst e2;simp
       ·have:¬(DT.s l=DT.s m):=fun z=>e2 (by injection z);rw[zzr0 this,zzr0 e2]
      rw[q]at r;exact .of_refs hab r
     ·have:¬(DT.s l=DT.s m):=fun z=>e (by injection z with z;rw[z]);rw[zzr0 this];exact .of_refs hab (SeqAt.RcAt.lists_lengths hi hj (by simp;omega) (by omega))
end
theorem uq(a b:cI):decide (DT.k a=DT.k b)=decide (a=b):=by
 by_cases e:a=b
 ·subst e;simp
 ·rw[zzr0 e,zzr0 fun z=>e (by injection z)]
theorem yJ(l m:List DT):decide (DT.t l=DT.t m)=decide (l=m):=by
 by_cases e:l=m
 ·subst e;simp
 ·rw[zzr0 e,zzr0 fun z=>e (by injection z)]
theorem yL(l m:List DT):decide (DT.s l=DT.s m)=decide (l=m):=by
 by_cases e:l=m
 ·subst e;simp
 ·rw[zzr0 e,zzr0 fun z=>e (by injection z)]
theorem wE(x y:DT):decide ((some x:Option DT)=some y)=decide (x=y):=by
 by_cases e:x=y
 ·subst e;simp
 ·rw[zzr0 e,zzr0 fun z=>e (cT z)]
section
variable{A:Around}{s:Shared}
theorem jT{d:Nat}(hu:A.units+1+d<cLine){l m:List DT}{i j:Array Value}(hl:DT.depths l<=d)(hm:DT.depths m<=d)(hi:DAts s.heap l i.toList)(hj:DAts s.heap m j.toList):
  ∀n (h1:n<i.size) (h2:n<j.size),aS A.in1 s i[n] j[n] (decide (l[n]?=m[n]?)):=by
 intro n h1 h2;obtain⟨x,ex,hx⟩:=hi.get (i:=n) (v:=i[n]) (by simp[h1]);obtain⟨y,ey,hy⟩:=hj.get (i:=n) (v:=j[n]) (by simp[h2]);rw[ex,ey,wE];exact yH d (DT.depths_get hl ex) (DT.depths_get hm ey) hu hx hy
theorem tR{l m:List DT}{i j:Array Value}(hi:DAts s.heap l i.toList)(hj:DAts s.heap m j.toList):((jA (min i.size j.size)).all (fun n=>decide (l[n]?=m[n]?)) && i.size==j.size)=decide (l=m):=by
 have li:=hi.length;have lj:=hj.length;simp only[kN]at li lj;by_cases e:l.length=m.length
 ·have e1:i.size=j.size:=by omega
  rw[<-e1,Nat.min_self,<-li,dD e];simp
 ·have e1:(i.size==j.size)=false:=by simp;omega
  rw[e1,zzr0 fun z=>e (by rw[z]),Bool.and_false]
theorem zU{x y:DT}{u v:Value}(dx:x.depth<=8)(dy:y.depth<=8)(hu:A.units+16<cLine)(hx:lP s.heap x u)(hy:lP s.heap y v):SeqAt.RcAt A s u v (decide (x=y)):=by
 cases x with
 |k a =>
  rcases ao (show bz a u=true from hx)with⟨i,t,rfl,rfl⟩|⟨i,t,rfl,rfl⟩
  ·cases y with
   |k b =>
    rw[uq];rcases ao (show bz b v=true from hy)with⟨j,t',rfl,rfl⟩|⟨j,t',rfl,rfl⟩
    ·rw[pH];exact SeqAt.RcAt.int_int i t j t'
    ·rw[pG];exact SeqAt.RcAt.int_str i t j t'
   |t m=>obtain⟨b,j,rfl,hj,_⟩:=hy;rw[zzr0 (by intro z;cases z)];exact SeqAt.RcAt.int_tuple i t hj (by omega)
   |s m=>obtain⟨b,j,rfl,hj,_⟩:=hy;rw[zzr0 (by intro z;cases z)];exact SeqAt.RcAt.int_list i t hj (by omega)
  ·cases y with
   |k b =>
    rw[uq];rcases ao (show bz b v=true from hy)with⟨j,t',rfl,rfl⟩|⟨j,t',rfl,rfl⟩
    ·rw[pF];exact SeqAt.RcAt.str_int i t j t'
    ·rw[pE];have:=SeqAt.RcAt.str_str (A:=A) (s:=s) i t j t';rwa[show(i==j)=decide (i=j)from by by_cases e:i=j<;>simp[e]]at this
   |t m=>obtain⟨b,j,rfl,hj,_⟩:=hy;rw[zzr0 (by intro z;cases z)];exact SeqAt.RcAt.str_tuple i t hj (by omega)
   |s m=>obtain⟨b,j,rfl,hj,_⟩:=hy;rw[zzr0 (by intro z;cases z)];exact SeqAt.RcAt.str_list i t hj (by omega)
 |t l =>
  obtain⟨a,i,rfl,hi,hx⟩:=hx;have dl:DT.depths l<=7:=by have:DT.depths l+1<=8:=dx;omega
  cases y with
  |k b =>
   rw[zzr0 (by intro z;cases z)];rcases ao (show bz b v=true from hy)with⟨j,t',rfl,rfl⟩|⟨j,t',rfl,rfl⟩
   ·exact SeqAt.RcAt.tuple_int j t' hi (by omega)
   ·exact SeqAt.RcAt.tuple_str j t' hi (by omega)
  |t m =>
   obtain⟨b,j,rfl,hj,hy⟩:=hy;have dm:DT.depths m<=7:=by have:DT.depths m+1<=8:=dy;omega
   have r:=SeqAt.RcAt.tuples (A:=A) hi hj (by omega) (jT (by omega) dl dm hx hy);rw[tR hx hy]at r;rw[yJ];exact r
  |s m=>obtain⟨b,j,rfl,hj,_⟩:=hy;rw[zzr0 (by intro z;cases z)];exact SeqAt.RcAt.tuple_list hi hj (by omega)
 |s l =>
  obtain⟨a,i,rfl,hi,hx⟩:=hx;have dl:DT.depths l<=7:=by have:DT.depths l+1<=8:=dx;omega
  cases y with
  |k b =>
   rw[zzr0 (by intro z;cases z)];rcases ao (show bz b v=true from hy)with⟨j,t',rfl,rfl⟩|⟨j,t',rfl,rfl⟩
   ·exact SeqAt.RcAt.list_int j t' hi (by omega)
   ·exact SeqAt.RcAt.list_str j t' hi (by omega)
  |t m=>obtain⟨b,j,rfl,hj,_⟩:=hy;rw[zzr0 (by intro z;cases z)];exact SeqAt.RcAt.list_tuple hi hj (by omega)
  |s m =>
   obtain⟨b,j,rfl,hj,hy⟩:=hy;have dm:DT.depths m<=7:=by have:DT.depths m+1<=8:=dy;omega
   have li:=hx.length;have lj:=hy.length;simp only[kN]at li lj;rw[yL];by_cases e:l.length=m.length
   ·have r:=SeqAt.RcAt.lists (A:=A) hi hj (by omega) (by omega) (jT (by omega) dl dm hx hy);rw[<-li,dD e]at r;exact r
   ·rw[zzr0 fun z=>e (by rw[z])];exact SeqAt.RcAt.lists_lengths hi hj (by simp;omega) (by omega)
theorem zV{x y:DT}{u v:Value}(dx:x.depth<=8)(dy:y.depth<=8)(hu:A.units+16<cLine)(hx:lP s.heap x u)(hy:lP s.heap y v):SeqAt.RcNeAt A s u v (!decide (x=y)):=by
 cases x with
 |k a =>
  rcases ao (show bz a u=true from hx)with⟨i,t,rfl,rfl⟩|⟨i,t,rfl,rfl⟩
  ·cases y with
   |k b =>
    rw[uq];rcases ao (show bz b v=true from hy)with⟨j,t',rfl,rfl⟩|⟨j,t',rfl,rfl⟩
    ·rw[pH];exact SeqAt.RcNeAt.int_int i t j t'
    ·rw[pG];exact SeqAt.RcNeAt.int_str i t j t'
   |t m=>obtain⟨b,j,rfl,hj,_⟩:=hy;rw[zzr0 (by intro z;cases z)];exact SeqAt.RcNeAt.int_tuple i t hj (by omega)
   |s m=>obtain⟨b,j,rfl,hj,_⟩:=hy;rw[zzr0 (by intro z;cases z)];exact SeqAt.RcNeAt.int_list i t hj (by omega)
  ·cases y with
   |k b =>
    rw[uq];rcases ao (show bz b v=true from hy)with⟨j,t',rfl,rfl⟩|⟨j,t',rfl,rfl⟩
    ·rw[pF];exact SeqAt.RcNeAt.str_int i t j t'
    ·rw[pE];have:=SeqAt.RcNeAt.str_str (A:=A) (s:=s) i t j t';rwa[show(i==j)=decide (i=j)from by by_cases e:i=j<;>simp[e]]at this
   |t m=>obtain⟨b,j,rfl,hj,_⟩:=hy;rw[zzr0 (by intro z;cases z)];exact SeqAt.RcNeAt.str_tuple i t hj (by omega)
   |s m=>obtain⟨b,j,rfl,hj,_⟩:=hy;rw[zzr0 (by intro z;cases z)];exact SeqAt.RcNeAt.str_list i t hj (by omega)
 |t l =>
  obtain⟨a,i,rfl,hi,hx⟩:=hx;have dl:DT.depths l<=7:=by have:DT.depths l+1<=8:=dx;omega
  cases y with
  |k b =>
   rw[zzr0 (by intro z;cases z)];rcases ao (show bz b v=true from hy)with⟨j,t',rfl,rfl⟩|⟨j,t',rfl,rfl⟩
   ·exact SeqAt.RcNeAt.tuple_int j t' hi (by omega)
   ·exact SeqAt.RcNeAt.tuple_str j t' hi (by omega)
  |t m =>
   obtain⟨b,j,rfl,hj,hy⟩:=hy;have dm:DT.depths m<=7:=by have:DT.depths m+1<=8:=dy;omega
   have r:=SeqAt.RcNeAt.tuples (A:=A) hi hj (by omega) (jT (by omega) dl dm hx hy);rw[tR hx hy]at r;rw[yJ];exact r
  |s m=>obtain⟨b,j,rfl,hj,_⟩:=hy;rw[zzr0 (by intro z;cases z)];exact SeqAt.RcNeAt.tuple_list hi hj (by omega)
 |s l =>
  obtain⟨a,i,rfl,hi,hx⟩:=hx;have dl:DT.depths l<=7:=by have:DT.depths l+1<=8:=dx;omega
  cases y with
  |k b =>
   rw[zzr0 (by intro z;cases z)];rcases ao (show bz b v=true from hy)with⟨j,t',rfl,rfl⟩|⟨j,t',rfl,rfl⟩
   ·exact SeqAt.RcNeAt.list_int j t' hi (by omega)
   ·exact SeqAt.RcNeAt.list_str j t' hi (by omega)
  |t m=>obtain⟨b,j,rfl,hj,_⟩:=hy;rw[zzr0 (by intro z;cases z)];exact SeqAt.RcNeAt.list_tuple hi hj (by omega)
  |s m =>
   obtain⟨b,j,rfl,hj,hy⟩:=hy;have dm:DT.depths m<=7:=by have:DT.depths m+1<=8:=dy;omega
   have li:=hx.length;have lj:=hy.length;simp only[kN]at li lj;rw[yL];by_cases e:l.length=m.length
   ·have r:=SeqAt.RcNeAt.lists (A:=A) hi hj (by omega) (by omega) (jT (by omega) dl dm hx hy);rw[<-li,dD e]at r;exact r
   ·rw[zzr0 fun z=>e (by rw[z])];exact SeqAt.RcNeAt.lists_lengths hi hj (by simp;omega) (by omega)
end
mutual
def fG(K:Za)(H:Hp):DT->V->Prop
 |.k a,v=>v=kV a
 |.t l,v=>∃b xs,v=.ref b/\bM K H b xs/\DIns K H l xs
 |.s l,v=>∃b xs,v=.ref b/\aB K H b xs/\DIns K H l xs
def DIns(K:Za)(H:Hp):List DT->List V->Prop
 |[],vs=>vs=[]
 |k::r,vs=>∃v us,vs=v::us/\fG K H k v/\DIns K H r us
end
section
variable{X:Cx}{J0:Zd}{σ:St}{H:Hp}{s:Shared}
theorem ky(I:Inv X J0 σ H s):∀(d:Nat) {k:DT}{v:V}{u:Value},k.depth<=d->fG X.K H k v->RelV v u->lP s.heap k u:=by
 have key:∀(d:Nat) (ih:∀{k:DT}{v:V}{u:Value},k.depth<=d->fG X.K H k v->RelV v u->lP s.heap k u) (ks:List DT) (vs:List V) (us:Zf),DT.depths ks<=d->DIns X.K H ks vs->aH vs us->DAts s.heap ks us:=by
  intro d ih ks
  induction ks with
  |nil =>
   intro vs us _ hx r;have e:vs=[]:=hx;subst e;cases r
   rfl
  |cons k ks ihl =>
   intro vs us hd hx r;obtain⟨v,vs',rfl,h1,h2⟩:=hx;cases r with
   |@cons _ u _ us' r1 r2 =>
    have hd':max k.depth (DT.depths ks)<=d:=hd;exact⟨u,us',rfl,ih (by omega) h1 r1,ihl vs' us' (by omega) h2 r2⟩
 intro d
 induction d with
 |zero =>
  intro k v u hd hx r;cases k with
  |t l=>exact absurd hd (by show ¬(DT.depths l+1<=0);omega)
  |s l=>exact absurd hd (by show ¬(DT.depths l+1<=0);omega)
  |k b =>
   have e:v=kV b:=hx;subst e;exact gX (P:=X.prog) (w:=X.w) r
 |succ d ih =>
  intro k v u hd hx r;cases k with
  |k b =>
   have e:v=kV b:=hx;subst e;exact gX (P:=X.prog) (w:=X.w) r
  |t l =>
   obtain⟨b,xs,rfl,hb,hi⟩:=hx;cases(show u=Value.ref b from r);obtain⟨its,rv,ht,_⟩:=I.tuple hb;exact⟨b,its.toArray,rfl,ht,by simpa using key d (fun h1=>ih h1) l xs its (by have:DT.depths l+1<=d+1:=hd;omega) hi rv⟩
  |s l =>
   obtain⟨b,xs,rfl,hb,hi⟩:=hx;cases(show u=Value.ref b from r);obtain⟨its,rv,ht,_⟩:=I.list hb;exact⟨b,its.toArray,rfl,ht.isList,by simpa using key d (fun h1=>ih h1) l xs its (by have:DT.depths l+1<=d+1:=hd;omega) hi rv⟩
theorem pQ(I:Inv X J0 σ H s):∀{ks:List DT}{vs:List V}{us:Zf},DT.depths ks<=8->DIns X.K H ks vs->aH vs us->DAts s.heap ks us
 |[],vs,us,_,hx,r=>by
  have e:vs=[]:=hx;subst e;cases r
  rfl
 |k::ks,vs,us,hd,hx,r=>by
  obtain⟨v,vs',rfl,h1,h2⟩:=hx;cases r with
  |@cons _ u _ us' r1 r2 =>
   have hd':max k.depth (DT.depths ks)<=8:=hd;exact⟨u,us',rfl,ky I 8 (by omega) h1 r1,pQ I (by omega) h2 r2⟩
end
def pc(K:Za):R2:=fun x y H Q=>∃d e:DT,fG K H d x/\fG K H e y/\d.depth<=8/\e.depth<=8/\Q (.bl (decide (d=e))) H
def yX(K:Za):R2:=fun x y H Q=>∃d e:DT,fG K H d x/\fG K H e y/\d.depth<=8/\e.depth<=8/\Q (.bl (!decide (d=e))) H
section
variable{X:Cx}
theorem fR(hu:X.A.units+16<cLine):jZ X (c8 .Eq) (pc X.K):=by
 intro J0 s σ H x y v u Q I rx ry h;obtain⟨d,e,hx,hy,dx,dy,q⟩:=h;exact zU dx dy hu (ky I 8 dx hx rx) (ky I 8 dy hy ry) X.prog X.w X.xe _ ⟨.bl _,H,I,rfl,q⟩
theorem v7(hu:X.A.units+16<cLine):jZ X (c8 .NotEq) (yX X.K):=by
 intro J0 s σ H x y v u Q I rx ry h;obtain⟨d,e,hx,hy,dx,dy,q⟩:=h;exact zV dx dy hu (ky I 8 dx hx rx) (ky I 8 dy hy ry) X.prog X.w X.xe _ ⟨.bl _,H,I,rfl,q⟩
def yZ(K:Za)(neg:Bool):R2:=fun x y H Q=>∃(d:DT) (ds:List DT) (p:Addr) (xs:List V),fG K H d x/\y=.ref p/\(aB K H p xs∨bM K H p xs)/\DIns K H ds xs/\d.depth<=8/\DT.depths ds<=8/\Q (.bl (if neg then !decide (d∈ds)else decide (d∈ds))) H
open Classical in
theorem pY{h:Heap}{d:DT}(d8:d.depth<=8):∀{ds:List DT}{us:Zf},DAts h ds us->DT.depths ds<=8->us.any (fun u=>@decide (lP h d u) (propDecidable _))=decide (d∈ds)
 |[],us,e,_=>by
  have e':us=[]:=e;subst e'
  rfl
 |x::ds,us,e,hd=>by
  obtain⟨u,us',rfl,h1,h2⟩:=e;have hd':max x.depth (DT.depths ds)<=8:=hd;rw[oO,pY d8 h2 (by omega)];by_cases q:d=x
  ·subst q;simp[h1]
  ·have n:¬lP h d u:=fun z=>q (lP.inj 8 d8 z h1);simp[n,q]
open Classical in
theorem sD{A:Around}{s:Shared}{d:DT}{v:Value}(d8:d.depth<=8)(hu:A.units+8<cLine)(hd:lP s.heap d v):∀{ds:List DT}{us:Zf},DAts s.heap ds us->DT.depths ds<=8->∀u∈us,aS A s u v (@decide (lP s.heap d u) (propDecidable _))
 |[],us,e,_,u,hm=>by
  have e':us=[]:=e;subst e';cases hm
 |x::ds,us,e,h8,u,hm=>by
  obtain⟨u',us',rfl,h1,h2⟩:=e;have h8':max x.depth (DT.depths ds)<=8:=h8;rcases bf.mp hm with rfl|hm
  ·have q:=yH 8 (A:=A) (by omega) d8 hu h1 hd;by_cases z:x=d
   ·subst z;rw[zzr1 h1];rwa[zzr1 rfl]at q
   ·have n:¬lP s.heap d u:=fun w=>z (lP.inj 8 d8 w h1).symm;rw[zzr0 n];rwa[zzr0 z]at q
  ·exact sD d8 hu hd h2 (by omega) u hm
theorem n6(hu:X.A.units+16<cLine):jZ X (c8 .NotIn) (yZ X.K true):=by
 intro J0 s σ H x y v u Q I rx ry h;obtain⟨d,ds,p,xs,hx,rfl,hq,hds,d8,ds8,q⟩:=h;cases ry;have hd:=ky I 8 d8 hx rx;have hu':X.A.in1.units+8<cLine:=by show X.A.units+1+8<cLine;omega
 rcases hq with hq|hq
 ·obtain⟨its,r,pl,hz⟩:=I.list hq;have hi:=pQ I ds8 hds r;refine SeqAt.notIn_listAt _ pl.isList (fun w hw=>sD d8 hu' hd hi ds8 w (by simpa using hw)) ⟨.bl _,H,I,rfl,?_⟩;rw[List.any_toArray,pY d8 hi ds8];exact q
 ·obtain⟨its,r,pl,hz⟩:=I.tuple hq;have hi:=pQ I ds8 hds r;refine SeqAt.notIn_tupleAt _ pl (fun w hw=>sD d8 hu' hd hi ds8 w (by simpa using hw)) ⟨.bl _,H,I,rfl,?_⟩;rw[List.any_toArray,pY d8 hi ds8];exact q
end
def mQ(z:Str)(lo hi:Option Int):Str:=⟨((z.cps.toList.drop (HT.sIx z.length 0 lo)).take (HT.sIx z.length z.length hi-HT.sIx z.length 0 lo)).toArray⟩
theorem sliceRange_one(a b:Nat):sliceRange (a:Int) (b:Int) 1=(jA (b-a)).map (fun k=>a+k):=by
 unfold sliceRange;simp only[show(1:Int) > 0 from by decide,if_true];by_cases h:(a:Int)<(b:Int)
 ·have e:(if(a:Int)<(b:Int)then((b:Int)-a+1-1) / 1 else 0).toNat=b-a:=by rw[if_pos h];omega
  rw[e];exact List.map_congr_left fun k _=>by omega
 ·have e:(if(a:Int)<(b:Int)then((b:Int)-a+1-1) / 1 else 0).toNat=b-a:=by rw[if_neg h];omega
  rw[e];exact List.map_congr_left fun k _=>by omega
theorem rB(v:Option Int)(n d:Nat):(match v with|none=>(d:Int)|some i=>max 0 (min (if i<0 then i+(n:Int)else i) (n:Int)))=((HT.sIx n d v:Nat):Int):=by
 cases v with
 |none=>rfl
 |some i =>
  rw[<-HT.clip_eq i n d];dsimp only;by_cases h:i<0
  ·rw[if_pos h,if_pos h];omega
  ·rw[if_neg h,if_neg h];omega
theorem jJ(lo hi:Option Int)(n:Nat):l5 lo hi 1 n=(jA (HT.sIx n n hi-HT.sIx n 0 lo)).map (fun k=>HT.sIx n 0 lo+k):=by
 have e1:=rB lo n 0;have e2:=rB hi n n;rw[<-sliceRange_one,<-e1,<-e2];unfold l5;simp only[show(1:Int) > 0 from by decide,if_true];cases lo<;>cases hi<;>rfl
theorem uR(z:Str)(lo hi:Option Int):Txt.slice z lo hi=mQ z lo hi:=by
 have ha:HT.sIx z.length 0 lo<=z.length:=HT.sIx_le _ _ (cj _) _;have hb:HT.sIx z.length z.length hi<=z.length:=HT.sIx_le _ _ (aE _) _;have hlen:z.cps.toList.length=z.length:=by simp[Str.length]
 have pick:(l5 lo hi 1 z.length).filterMap (z.cps[·]?)=(z.cps.toList.drop (HT.sIx z.length 0 lo)).take (HT.sIx z.length z.length hi-HT.sIx z.length 0 lo):=by
  rw[jJ];generalize HT.sIx z.length 0 lo=a at *;generalize HT.sIx z.length z.length hi=b at *;have h:=StrLaws.picks z.cps.toList (b-a) a (by omega);simpa using h
 unfold Txt.slice;by_cases h:((1:Int)==1 && (l5 lo hi 1 z.length).length==z.length)=true
 ·rw[if_pos h];have hl:(l5 lo hi 1 z.length).length=z.length:=by simpa using h
  rw[jJ,ap,List.length_range]at hl;unfold mQ;have a0:HT.sIx z.length 0 lo=0:=by omega
  have bn:HT.sIx z.length z.length hi-HT.sIx z.length 0 lo=z.cps.toList.length:=by omega
  rw[bn,a0,lZ,cY]
 ·rw[if_neg h];unfold mQ;rw[pick]
section
variable{X:Cx}
def xA:V->Option Int->Option Int->Hp->VK->Prop:=fun x lo hi H Q=>∃z,x=.str z/\z.length<=am/\Q (.str (mQ z lo hi)) H
theorem sk:SlR X xA:=by
 intro J0 s σ H x v vl vu lo hi sl Q I rx hs pl pu h;obtain⟨z,rfl,hz,q⟩:=h;obtain⟨t,rfl⟩:=rx;rw[<-uR]at q;refine⟨"str",_,F.slot_str_getitem.lookup,typeIs_str _ _ _,?_⟩;obtain⟨o,ho,hc,hd⟩:=hs;have fin:∀(l u:Option (Int×Tok)),vl=partValue l->vu=partValue u->lo=l.map (·.1)->hi=u.map (·.1)->wpAny (model X.prog X.w) X.A (i5 (.str z t) (.ref sl)) (EP X J0 σ Q) X.xe s:=by
  rintro l u rfl rfl rfl rfl;refine wpAny_getItem_str_slice (l:=l) (u:=u) (st:=none) ⟨o,ho,hc,hd⟩ rfl (post_val_or_str ⟨cn (Txt.slice_le z _ _) hz,fun t' k=>⟨.str _,H,I.tok _,⟨_,rfl⟩,q⟩⟩)
 cases pl with
 |none =>
  cases pu with
  |none=>exact fin none none rfl rfl rfl rfl
  |int j u=>exact fin none (some (j,u)) rfl rfl rfl rfl
 |int i t' =>
  cases pu with
  |none=>exact fin (some (i,t')) none rfl rfl rfl rfl
  |int j u=>exact fin (some (i,t')) (some (j,u)) rfl rfl rfl rfl
def yt(K:Za):V->List V->Hp->VK->Prop:=fun x vs H Q=>∃z p ys,x=.str z/\vs=[.ref p]/\aB K H p (ys.map V.str)/\(ys.map (·.length)).sum+ys.length * z.length<=16777216/\Q (.str (oB z ys)) H
theorem xk{ys:Zb}:∀{us:Zf},aH (ys.map V.str) us->StrsAre us ys:=by
 induction ys with
 |nil=>intro us r;cases r;exact .nil
 |cons y ys ih =>
  intro us r;cases r with
  |cons r1 r2 =>
   obtain⟨t,rfl⟩:=r1;exact .cons _ _ (ih r2)
theorem xM:z9 X "str.join" (yt X.K):=by
 intro J0 s σ H x vs v us Q I rx rv h;obtain⟨z,p,ys,rfl,rfl,hq,hz,q⟩:=h;obtain⟨t,rfl⟩:=rx;obtain⟨u,rfl,ru⟩:=rv.one;cases ru;obtain⟨its,r,pl,_⟩:=I.list hq;exact join_list pl.isList (by simpa using xk r) hz fun t' k=>⟨.str _,H,I.tok _,⟨_,rfl⟩,q⟩
end
section
variable{X:Cx}
def TyX(K:Za)(H:Hp)(x:V)(t:Value):Prop:=jl K H x t∨(∃a xs,x=.ref a/\t=.type "tuple"/\bM K H a xs)∨(∃a xs,x=.ref a/\t=.type "list"/\aB K H a xs)
theorem sL{J0:Zd}{σ:St}{H:Hp}{s:Shared}{A:Around}{E:Zc}{Q:Zc}{c:Value}{b:Bool}{x:V}{u t:Value}(I:Inv X J0 σ H s)(rx:RelV x u)(ty:TyX X.K H x t)(e:qj X.K t c=some b)(h:∀tk,Q (.bool b) { s with toks:=tk }):
  wpAny (model X.prog X.w) A (call (.builtin "isinstance") [u,c]) Q E s:=by
 rcases ty with ty|⟨a,xs,rfl,rfl,q⟩|⟨a,xs,rfl,rfl,q⟩
 ·exact u8 I rx ty e h
 ·cases(show u=Value.ref a from rx);obtain⟨its,rv,p,hz⟩:=I.tuple q;obtain⟨o,h1,h2,_⟩:=p;exact fU PySem.W.kitx_tuple I.kIn ⟨o,h1,h2⟩ e (fun z=>nomatch z) h
 ·cases(show u=Value.ref a from rx);obtain⟨its,rv,p,hz⟩:=I.list q;obtain⟨o,n,h1,h2,_⟩:=p;exact fU PySem.W.kitx_list I.kIn ⟨o,h1,h2⟩ e (fun z=>nomatch z) h
theorem az:eK X (.builtin "isinstance") (fun xs H Q=>∃x c t b,xs=[x,.ty c]/\TyX X.K H x t/\qj X.K t (.type c)=some b/\Q (.bl b) H):=by
 intro J0 s σ H xs us Q I r h;obtain⟨x,c,t,b,rfl,ty,hk,q⟩:=h;obtain⟨u,v,rfl,ru,rv⟩:=vals2 r;cases(show v=Value.type c from rv);exact sL I ru ty hk fun tk=>⟨.bl b,H,I.tok _,rfl,q⟩
theorem zr{bs:List Bool}{us:Zf}(r:aH (bs.map V.bl) us){i:Nat}{v:Value}(h:us[i]?=some v):v=.bool ((bs[i]?).getD false)/\i<bs.length:=by
 have hi:i<us.length:=(cB.mp h).1;have hl:=r.length;rw[ap]at hl;have hb:i<bs.length:=by omega
 obtain⟨u,hu,ru⟩:=r.get (i:=i) (x:=V.bl bs[i]) (by simp[hb]);rw[h]at hu;cases hu;refine⟨?_,hb⟩;rw[oA hb];exact ru
theorem pZ(bs:List Bool):((jA bs.length).all fun i=>(bs[i]?).getD false)=bs.all id:=by
 induction bs with
 |nil=>rfl
 |cons b bs ih =>
  rw[eZ,List.range_succ_eq_map,List.all_cons,List.all_map,List.all_cons,<-ih]
  rfl
theorem ef(hc:X.calm=true):eK X (.builtin "all") (fun xs H Q=>∃(p:Addr) (bs:List Bool),xs=[.ref p]/\aB X.K H p (bs.map V.bl)/\Q (.bl (bs.all id)) H):=by
 intro J0 s σ H xs us Q I r h;obtain⟨p,bs,rfl,hq,q⟩:=h;obtain⟨u,rfl,ru⟩:=vals1 r;cases ru;obtain⟨its,rv,pl,hz⟩:=I.list hq;obtain⟨o,n,ho,_⟩:=id pl;have hl:=rv.length;rw[ap]at hl;refine call_all_walk (tL pl.isList ?_);refine⟨s.heap.objs.size,_,_,_,_,_,fun i=>(bs[i]?).getD false,rfl,Walks.list (prog:=X.prog) (w:=X.w) (A:=X.A.in1) (I.ok.hd hc) s.heap.objs.size p (bS (aG ho)) its.toArray,⟨⟨_,cA _ rfl,rfl,rfl⟩,pl.isList.push _⟩,?_,?_⟩
 ·intro i v s' Q' E' hv hq';obtain⟨e,_⟩:=zr rv (i:=i) (v:=v) (by simpa using hv);rw[e];exact lY hq'
 ·intro h' tk hk;have I':Inv X J0 σ H { s with heap:=h',toks:=tk }:=I.kept fun b o e=>hk b o (by simp;exact bS (aG e)) (aO _ e);rw[bt,<-hl,pZ];exact⟨.bl _,H,I',rfl,q⟩
theorem sC:jZ X (c8 .In) (fun x y H Q=>∃c j,x=.str ⟨#[c]⟩/\y=.str j/\Q (.bl (decide (c∈j.cps.toList))) H):=by
 intro J0 s σ H x y v u Q I rx ry h;obtain⟨c,j,rfl,rfl,q⟩:=h;rw[<-StrLaws.found_one]at q;exact uZ J0 s σ H _ _ v u Q I rx ry ⟨_,_,rfl,rfl,q⟩
theorem mV(hc:X.calm=true):eK X (.type "list") (fun xs H Q=>∃(d:Addr) (kvs:List (cI×V)),xs=[.ref d]/\Rd H d (.dK kvs)/\∀l,H l=none->Q (.ref l) (upd H l (.lst (kvs.map fun kv=>kV kv.1)))):=by
 intro J0 s σ H xs us Q I r h;obtain⟨d,kvs,rfl,hd,q⟩:=h;obtain⟨u,rfl,ru⟩:=vals1 r;cases ru;obtain⟨z,hsys,vs,rel,dd⟩:=k6 I.hok hd;obtain⟨ep,hat⟩:=dd.dictAt;have hl:=rel.length;refine PySem.W.kdl_call (PySem.W.kdl_dict (knd:=bc X.prog X.w) (kvs:=vs) (ep:=ep) hsys) (I.ok.hd hc) hat (by rw[<-hl];exact z) fun h' tk acc c hk hD hacc=>?_;have hv:aH (kvs.map fun kv=>kV kv.1) acc.toList:=by
  obtain⟨hn,hP⟩:=hacc;have key:∀(a:Zf) (ks:List (cI×V)) (ws:List (cI×Value)),KV ks ws->a.length=ws.length->(∀(j:Nat) (v:Value),a[j]?=some v->∃k x,ws[j]?=some (k,x)/\(bc X.prog X.w).is k v=true)->aH (ks.map fun kv=>kV kv.1) a:=by
   intro a ks ws rl
   induction rl generalizing a with
   |nil=>intro ha _;cases a with
    |nil=>exact .nil
    |cons _ _=>cases ha
   |@cons p w' ps ws' hp _ ih =>
    intro ha hj;cases a with
    |nil=>cases ha
    |cons v a =>
     obtain⟨k,x,e,hk⟩:=hj 0 v rfl;have e':w'=(k,x):=by simpa using e
     refine .cons ?_ (ih a (by simpa using ha) fun j v hv=>by simpa using hj (j+1) v (by simpa using hv));have ek:p.1=k:=by rw[hp.1,e']
     show RelV (kV p.1) v;rw[ek];rcases ao (show bz k v=true from hk)with⟨i,t,rfl,rfl⟩|⟨i,t,rfl,rfl⟩
     ·exact⟨t,rfl⟩
     ·exact⟨t,rfl⟩
  exact key acc.toList kvs vs rel (by rw[kN];exact hn) fun j v hv=>hP j v (by rw[<-Array.getElem?_toList];exact hv)
 refine⟨.ref s.heap.objs.size,_,I.laid (o:=.lst (kvs.map fun kv=>kV kv.1)) hk (aE _) ⟨by rw[ap];exact z,acc.toList,c,hv,by rw[Array.toArray_toList];exact hD⟩,rfl,q _ I.fresh⟩
end
section
variable{prog:bh}{w:World}{K:Type}[DecidableEq K]{knd:HeapKind prog w K}{A:Around}{E:Zc}{s:Shared}
theorem ml{d a:Addr}{xs:List (K×Addr×Value)}{k:K}{v:Value}{Q:Zc}(hu:knd.room A)(hkey:knd.is s.heap k a)(hm:s.heap.DictOfH knd d xs)
  (there:∀p,atKey xs k=some p->Q p.2 { s with toks:=s.toks+knd.draws k })
  (new:atKey xs k=none->∀h',h'.DictOfH knd d (xs++[(k,a,v)])->fZ d s.heap h'->Q v { s with heap:=h',toks:=s.toks+knd.draws k })
  (hsz:xs.length<=am):wpAny (model prog w) A (dictSetDefault d (.ref a) v) Q E s:=by
 obtain⟨o,es,ep,ho,hc,hd,he,his,hn⟩:=hm;unfold dictSetDefault
 try with_reducible refine l_ ?_
 refine aq (knd.pyHash hu hkey ?_);refine aq (wpAny_dictFind_heap (s:={ s with toks:=s.toks+knd.draws k }) hu hkey ho hd he his hn ?_ ?_)
 ·intro hno;have hnot:k∉xs.map (·.1):=not_mem_keys_of_get hno;refine aq (qi (aq (wpAny_updateDictKeys (hz:=by have e:=size_of_entries he;omega) (s:={ s with toks:=s.toks+knd.draws k }) ho hd (aW (new (atKey_none_of_get hno) _ ⟨_,_,ep+1,Heap.get?_update_self _ ho (Obj.isFreed_of_dict (Obj.data_mapDictKeys hd _)),
   hc.mapDictKeys _,Obj.data_mapDictKeys hd _,?_,?_,?_⟩ (l7 ..))))))
  ·simp[he,entryOfKey]
  ·intro x hx;rcases bZ.mp hx with hx|hx
   ·exact knd.keeps (his x hx) ho hd (l7 ..)
   ·simp only[List.mem_singleton]at hx;subst hx;exact knd.keeps hkey ho hd (l7 ..)
  ·rw[aL,dI];refine⟨hn,by simp,?_⟩;intro x hx y hy;simp only[aN,List.map_nil,List.mem_singleton]at hy;subst hy;exact fun e=>hnot (e▸hx)
 ·intro j p hj;refine aq (wpAny_dictEntries (s:={ s with toks:=s.toks+knd.draws k }) ho hd ?_);rw[entry_at he j,hj];exact aq (qi (aW (there p (atKey_of_get hn hj))))
theorem jP(knd:HeapKind prog w K)(d a:Addr)(hd:(d==f_)=false)(dflt:Value):
  MeetsIn prog w (c9.«dict.setdefault» ⟨[.ref d,.ref a,dflt],[]⟩) (fun A R s=>knd.room A.in1/\∃k xs,knd.is s.heap k a/\s.heap.DictOfH knd d xs/\xs.length<=am /\
   (∀p,atKey xs k=some p->R (.ok (.ret p.2)) { s with toks:=s.toks+knd.draws k }) /\
   (atKey xs k=none->∀h',h'.DictOfH knd d (xs++[(k,a,dflt)])->fZ d s.heap h'->R (.ok (.ret dflt)) { s with heap:=h',toks:=s.toks+knd.draws k })) :=
 .of_wp fun A R s ⟨hu,k,xs,hkey,hm,hz,h1,h2⟩=>by
  unfold c9.«dict.setdefault»;refine aq ?_;unfold c9.Dict.keyAndDefault;refine aq (wpAny_notOrdered_dict hm.typeIs ?_);show wpAny _ _ (pure (d,Value.ref a,some dflt)) _ _ s;refine aW ?_;show wpAny _ _ (if(d==f_)=true then _ else(dictSetDefault d (.ref a) dflt >>= _)) _ _ s
  rw[if_neg (by rw[hd];exact fX)];exact aq (ml hu hkey hm (fun p hp=>aW ⟨p.2,rfl,h1 p hp⟩) (fun hn h' hm' hs'=>aW ⟨dflt,rfl,h2 hn h' hm' hs'⟩) hz)
end
section
variable{X:Cx}
def tX:V->List V->Hp->VK->Prop:=fun x vs H Q=>∃(d b:Addr) (kvs:List (TK×V)) (k:TK) (z:V),x=.ref d/\vs=[.ref b,z]/\H d=some (.dT kvs)/\fw H k (.ref b)/\k.depth<=8/\kvs.length<am /\
 (∀v,cw kvs k=some v->Q v H)/\(cw kvs k=none->Q z (upd H d (.dT (kvs++[(k,z)]))))
theorem u2(hu:X.A.units+16<cLine):z9 X "dict.setdefault" tX:=by
 intro J0 s σ H x vs v us Q I rx rv h;obtain⟨d,b,kvs,k,z,rfl,rfl,hd,hb,h8,hz,q1,q2⟩:=h;cases rx;obtain⟨u,v,rfl,ru,rz⟩:=rv.two;cases ru;obtain⟨_,hsys,xs,rel,dd⟩:=yG I.hok I.kIn hd;have hl:kvs.length=xs.length:=Paired.length rel;refine call_meetsIn PySem.F.slot_dict_setdefault dd.typeIs PySem.F.entry_dict_setdefault (PySem.F.args_dict_setdefault_3 _ _ _) (jP (de X.prog X.w) d b hsys v)
  ⟨eO hu,k,xs,sJ I.hok I.kIn (fw.c 8 h8 hb) h8,dd,by omega,fun p hp=>?_,fun hn h' dd' hs=>?_⟩
 ·have e:=rel.val k;rw[hp]at e;cases e2:cw kvs k with
  |none=>rw[e2]at e;exact e.elim
  |some y =>
   rw[e2]at e;exact⟨y,H,I.tok _,e,q1 y e2⟩
 ·have e:=rel.val k;rw[hn]at e;have e2:cw kvs k=none:=by
   cases e2:cw kvs k with
   |none=>rfl
   |some y=>rw[e2]at e;exact e.elim
  obtain⟨o,es,ep,hq,h2,h3,h4,_,h5⟩:=dd';refine⟨z,_,pO (ob:=.dT (kvs++[(k,z)])) I (by rw[hd];exact eW) hs ⟨o,hq⟩ ⟨by rw[bC,List.length_singleton];omega,hsys,_,KT.keeps (kvs:=kvs++[(k,z)]) (xs:=xs++[(k,b,v)]) (oN rel ⟨rfl,fw.c 8 h8 hb,h8,rz⟩) fun c ys ec=>?_,o,es,ep,hq,h2,h3,h4,h5⟩,rz,q2 e2⟩;rw[af (yC ec hd (fun z=>nomatch z))];exact ec
end
theorem iq:entryFor table "dict.update.loop"=some c9.«dict.update.loop»:=entryFor_of_fast (by kernel_rfl)
theorem dq:plainId "dict.update.loop"=true:=by decide +kernel
theorem pA:typeLookup (.type "list") "keys"=pure none:=am_miss_of_fast (by decide +kernel)
section
variable{prog:bh}{w:World}{A:Around}{E:Zc}{s:Shared}
theorem u3{a:Addr}{o:Obj}{xs:Array Value}{k:Nat}{Q:Option Value->Shared->Prop}(hx:s.heap.get? a=some o)(hc:o.cls=.type "list")(hdat:o.data=.seq xs k)(hd:o.dict=none)(hA:A.handled=none)
  (h:∀h' tk,(∀b ob,s.heap.get? b=some ob->h'.get? b=some ob)->Q none { s with heap:=h',toks:=tk }):wpAny (model prog w) A (getAttr? (.ref a) "keys") Q E s:=by
 obtain⟨c,dct,dat,sl⟩:=o;simp only at hc hdat hd;subst hc hdat hd;obtain⟨hp,g,d,tk,os⟩:=s;have hT:∀tk',(⟨hp,g,d,tk',os⟩:Shared).TypeIs (.ref a) "list":=fun _=>⟨_,hx,rfl⟩;have f1:=sub_AttributeError;have f3:=F.slot_list_getattribute.lookup;have f4:=F.slot_list_getattribute.bind (.ref a);have f5:=am_list_getattr_none;unfold getAttr? getAttrBy? getAttrBy
 repeat (any_goals (first|assumption|exact hT _|((with_reducible show wpAny _ _ (call (Value.builtin "list.__getattribute__") _ _) _ _ _);refine oQ F.slot_list_getattribute (hT _) am_entry_list_getattribute (F.args_list_getattribute_2 _ _) (meets_getattribute_miss_list a xs k sl "keys" _ pA (by decide +kernel) (by decide +kernel)) ⟨hx,hA,fun h' tk' e hx'=>?_⟩)|wp_step))
 obtain⟨t',u',he⟩:=hx'.there;show wpAny _ _ (getattributeRaised _ _ _ _ _ _ _) _ _ _;unfold getattributeRaised hookOrError attributeErrorLeaves
 repeat (any_goals (first|assumption|wp_step))
 all_goals first|exact h _ _ hx'.keeps|trace_state
def sX(h:Heap)(u:Value)(kv:cI×Value):Prop:=∃t ku,u=.ref t/\h.IsTuple t #[ku,kv.2]/\bz kv.1 ku=true
theorem si{κ:Type}[DecidableEq κ](kvs:List (κ×Value))(k:κ)(v:Value):(stored kvs k v).length<=kvs.length+1:=by
 unfold stored;split
 ·rw[ap];omega
 ·rw[bC,List.length_singleton];exact aE _
theorem vF{R:Result->Shared->Prop}(hh:A.handled=none){D it l:Addr}{items:Array Value}{ps:List (cI×Value)}(hDi:D≠it)(hli:l≠it)(hlD:l≠D)(hps:ps.length=items.size):
  ∀(n i:Nat) (s:Shared) (acc:List (cI×Value)),items.size-i=n->i<=items.size->acc.length+(items.size-i)<=am->s.heap.IsListIter it l i->s.heap.IsList l items->s.heap.DictOf (bc prog w) D acc ->
   (∀(j:Nat) (u:Value) (kv:cI×Value),items[j]?=some u->ps[j]?=some kv->sX s.heap u kv) ->
   (∀h' tk,h'.DictOf (bc prog w) D (merged acc (ps.drop i))->(∀b o,b≠D->b≠it->s.heap.get? b=some o->h'.get? b=some o)->R (.ok (.ret .none)) { s with heap:=h',toks:=tk }) ->
   zzl73 (model prog w) A (.builtin "dict.update.loop" ⟨[.ref D,.ref it,rawInt i,.none],[]⟩) R s:=by
 intro n
 induction n with
 |zero =>
  intro i s acc hn hi hz hit hl hD hp hR;have e:i=items.size:=by omega
  subst e;refine codeAny_builtin iq ?_;rw[Around.under_plainId dq _];show wpAny _ A.in1 (pyNext (.ref it) >>= _) _ _ s;refine aq (wpAny_pyNext_list_end hh hit hl (by simp) fun h' eb=>?_);show wpAny _ _ (c9.Dict.addKeywords D [] >>= _) _ _ _;refine aq (aW (aW ?_));have hD':h'.DictOf (bc prog w) D acc:=hD.extBut eb hDi;have q:=hR h' s.toks (by rw[oz (by omega)];exact hD') fun b o _ hb e=>eb b o hb e;exact q
 |succ n ih =>
  intro i s acc hn hi hz hit hl hD hp hR;have hlt:i<items.size:=by omega
  refine codeAny_builtin iq ?_;rw[Around.under_plainId dq _];show wpAny _ A.in1 (pyNext (.ref it) >>= _) _ _ s;have hu:items[i]?=some items[i]:=by simp[hlt]
  have hk:ps[i]?=some ps[i]:=oA (by omega);obtain⟨t,ku,eu,ht,hku⟩:=hp i _ _ hu hk;refine aq (wpAny_pyNext_list_item hit hl (x:=items[i]) hu fun h1 hit1 hs1=>?_);rw[eu];have hs1':fZ it s.heap h1:=hs1;have nt:t≠it:=by
   rintro rfl;obtain⟨o,ho,hc,_⟩:=ht;obtain⟨o',ho',hc',_⟩:=hit;rw[ho]at ho';cases ho';rw[hc]at hc';simp at hc'
  have ht1:h1.IsTuple t #[ku,ps[i].2]:=ht.extBut hs1'.extBut nt;have hT1:Shared.TypeIs { s with heap:=h1 } (.ref t) "tuple":=ht1.typeIs (s:={ s with heap:=h1 });obtain⟨ot,got,hct,nt',hdt⟩:=id ht1;refine aq (l_ ?_);refine aq (wpAny_tryCatch ?_);unfold c9.Dict.pairItems;refine aq (wpAny_typeOf hT1 ?_);rw[if_pos (by decide)];refine aq (iR got hdt (aW ?_));show wpAny _ _ (g8 [ku,ps[i].2] (dictSet D ku ps[i].2)) _ _ _;have hD1:h1.DictOf (bc prog w) D acc:=hD.extBut hs1'.extBut hDi;refine l_ (wpAny_dictSet_pairs (knd:=bc prog w) (k:=ps[i].1) hku hD1 (fun h2 hD2 hs2=>?_) (by omega));have hs2':fZ D h1 h2:=hs2;show wpAny _ _ (again _) _ _ _;refine aW ⟨plainId_quiet dq _,?_⟩;have hl1:h1.IsList l items:=hl.extBut hs1'.extBut hli;have kp:∀b o,b≠D->b≠it->s.heap.get? b=some o->h2.get? b=some o:=fun b o h1 h2 e=>hs2'.extBut b o h1 (hs1'.extBut b o h2 e);refine ih (i+1) _ (stored acc ps[i].1 ps[i].2) (by omega) hlt (by have:=si acc ps[i].1 ps[i].2;omega) (hit1.extBut hs2'.extBut (e_ hDi)) (hl1.extBut hs2'.extBut hlD) hD2 (fun j u kv h1 h2=>?_) fun h' tk hD' kp'=>?_
  ·obtain⟨t2,ku2,e2,ht2,hk2⟩:=hp j u kv h1 h2;have n1:t2≠it:=by
    rintro rfl;obtain⟨o,ho,hc,_⟩:=ht2;obtain⟨o',ho',hc',_⟩:=hit;rw[ho]at ho';cases ho';rw[hc]at hc';simp at hc'
   have n2:t2≠D:=by
    rintro rfl;obtain⟨o,ho,hc,_⟩:=ht2;obtain⟨o',_,_,ho',hc',_⟩:=hD;rw[ho]at ho';cases ho';have:=hc'.1;rw[hc]at this;simp at this
   obtain⟨o,ho,r⟩:=ht2;exact⟨t2,ku2,e2,⟨o,kp _ o n2 n1 ho,r⟩,hk2⟩
  ·refine hR h' tk ?_ fun b o h1 h2 e=>kp' b o h1 h2 (kp b o h1 h2 e);have ed:ps.drop i=ps[i]::ps.drop (i+1):=List.drop_eq_getElem_cons (by omega);rw[ed];exact hD'
theorem lA{l:Addr}{o:Obj}{items:Array Value}{n:Nat}{ps:List (cI×Value)}{Q:Zc}(hh:A.handled=none)(ho:s.heap.get? l=some o)(hc:o.cls=.type "list")(hdt:o.data=.seq items n)(hod:o.dict=none)
  (hps:ps.length=items.size) (hp:∀(j:Nat) (u:Value) (kv:cI×Value),items[j]?=some u->ps[j]?=some kv->sX s.heap u kv) (hz:items.size<=am)
  (h:∀h' tk,h'.DictOf (bc prog w) s.heap.objs.size (merged [] ps)->(∀b o,s.heap.get? b=some o->h'.get? b=some o)->Q (.ref s.heap.objs.size) { s with heap:=h',toks:=tk }) :
  wpAny (model prog w) A (call (.type "dict") [.ref l]) Q E s:=by
 refine callType_codes (Q₁:=fun obj s₁=>obj=.ref s.heap.objs.size/\s₁={ s with heap:=s.heap.push { cls:=.type "dict",data:=.dict #[] } }) F.kt_called_dict (F.kt_typeCall_dict_1 _) F.entry_dict_init (kt_code_dict_new _ ⟨rfl,rfl⟩) ?_;rintro obj s₁ ⟨rfl,rfl⟩;have hnew:(s.heap.push { cls:=.type "dict",data:=.dict #[] }).DictOf (bc prog w) s.heap.objs.size []:=Heap.DictOf.new s.heap;have ho1:(s.heap.push { cls:=.type "dict",data:=.dict #[] }).get? l=some o:=aO _ ho;have hlt:l<s.heap.objs.size:=aG ho;refine⟨hnew.typeIs,F.args_dict_init_2 _ _,?_⟩;unfold c9.«dict.__init__»;refine aq ?_;unfold c9.Dict.selfAndRest;refine aq (wpAny_notOrdered_dict hnew.typeIs ?_);show wpAny _ _ (pure (s.heap.objs.size,[Value.ref l])) _ _ _;refine aW ?_;show wpAny _ _ (c9.Dict.updateFrom "dict.__init__" s.heap.objs.size (.ref l) [] .none) _ _ _;unfold c9.Dict.updateFrom;have hTl:Shared.TypeIs { s with heap:=s.heap.push { cls:=.type "dict",data:=.dict #[] } } (.ref l) "list":=⟨o,ho1,hc⟩;refine aq (wpAny_typeOf hTl ?_);rw[if_pos (by decide)];refine aq (u3 ho1 hc hdt hod hh fun h1 tk1 k1=>?_);have k1':∀b ob,(s.heap.push { cls:=.type "dict",data:=.dict #[] }).get? b=some ob->h1.get? b=some ob:=k1;rw[if_pos (by rfl:(none:Option Value).isNone=true)];refine aq (qi ?_);have hl1:h1.IsList l items:=⟨o,k1' _ _ ho1,hc,n,hdt⟩;refine aq (tL (s:={ s with heap:=h1,toks:=tk1 }) hl1 ?_);have hD1:h1.DictOf (bc prog w) s.heap.objs.size []:=by
  obtain⟨od,es,ep,g,r⟩:=hnew;exact⟨od,es,ep,k1' _ _ g,r⟩
 have hDlt:s.heap.objs.size<h1.objs.size:=by
  obtain⟨od,es,ep,g,r⟩:=hD1;exact aG g
 refine aW ⟨plainId_quiet dq _,?_⟩;refine vF (A:=A.in1) (prog:=prog) (w:=w) hh (D:=s.heap.objs.size) (it:=h1.objs.size) (l:=l) (items:=items) (ps:=ps) (bS hDlt) (bS (Nat.lt_trans hlt hDlt)) (bS hlt) hps items.size 0 _ [] (Nat.sub_zero _) (cj _) (by rw[List.length_nil];omega)
  ⟨_,cA _ rfl,rfl,rfl⟩ (hl1.push _) (hD1.push _) (fun j u kv a b=>?_) fun h' tk hD' kp=>?_
 ·obtain⟨t,ku,e,ht,hk⟩:=hp j u kv a b;obtain⟨ot,g,r⟩:=ht;exact⟨t,ku,e,⟨ot,aO _ (k1' _ _ (aO _ g)),r⟩,hk⟩
 ·rw[lZ]at hD';refine⟨rfl,h h' tk hD' fun b ob e=>kp b ob (bS (aG e)) (bS (Nat.lt_trans (aG e) hDlt)) (aO _ (k1' _ _ (aO _ e)))⟩
end
section
variable{X:Cx}
theorem pV(hc:X.calm=true):eK X (.type "dict") (fun xs H Q=>∃(l:Addr) (ts:Ze) (kvs:List (cI×V)),xs=[.ref l]/\aB X.K H l (ts.map V.ref)/\ts.length=kvs.length /\
  (∀(j:Nat) (t:Addr) (kv:cI×V),ts[j]?=some t->kvs[j]?=some kv->H t=some (.tup [kV kv.1,kv.2]))/\∀p,H p=none->Q (.ref p) (upd H p (.dK (fS [] kvs)))):=by
 intro J0 s σ H xs us Q I r h;obtain⟨l,ts,kvs,rfl,hl,hlen,ht,q⟩:=h;obtain⟨u,rfl,ru⟩:=vals1 r;cases ru;obtain⟨its,rv,⟨o,n,ho,hcl,hod,hdt⟩,hz⟩:=I.list hl;have key:∀(ts:Ze) (kvs:List (cI×V)),ts.length=kvs.length->(∀(j:Nat) (t:Addr) (kv:cI×V),ts[j]?=some t->kvs[j]?=some kv->H t=some (.tup [kV kv.1,kv.2]))->∃ps:List (cI×Value),KV kvs ps/\∀(j:Nat) (t:Addr) (kv:cI×Value),ts[j]?=some t->ps[j]?=some kv->sX s.heap (.ref t) kv:=by
  intro ts
  induction ts with
  |nil =>
   intro kvs hl _;cases kvs with
   |nil=>exact⟨[],.nil,fun j t kv e=>by simp at e⟩
   |cons _ _=>cases hl
  |cons t ts ih =>
   intro kvs hl ht;cases kvs with
   |nil=>cases hl
   |cons kv kvs =>
    obtain⟨ps,r1,r2⟩:=ih kvs (by simpa using hl) fun j t' kv' a b=>ht (j+1) t' kv' (by simpa using a) (by simpa using b);obtain⟨_,itt,rt,p⟩:=(show bN X.prog X.w X.K H s.heap t (.tup [kV kv.1,kv.2])from I.hok t _ (ht 0 t kv rfl rfl));obtain⟨a,b,e,ra,rb⟩:=rt.two;subst e;refine⟨(kv.1,b)::ps,.cons ⟨rfl,rb⟩ r1,fun j t' kv' h1 h2=>?_⟩;cases j with
    |zero =>
     simp at h1 h2;subst h1 h2;exact⟨t,a,rfl,p,gX (P:=X.prog) (w:=X.w) ra⟩
    |succ j=>exact r2 j t' kv' (by simpa using h1) (by simpa using h2)
 obtain⟨ps,rel,pa⟩:=key ts kvs hlen ht;have hl1:=rv.length;rw[ap]at hl1;have hl2:=rel.length;refine lA (prog:=X.prog) (w:=X.w) (ps:=ps) (I.ok.hd hc) ho hcl hdt hod (by rw[bt];omega) (fun j u kv a b=>?_) (by rw[bt,<-hl1];rw[ap]at hz;exact hz) fun h' tk hD kp=>?_
 ·have a':its[j]?=some u:=by simpa using a
  have hj:j<ts.length:=by
   have:=(cB.mp a').1;omega
  obtain⟨u',e1,r1⟩:=rv.get (i:=j) (x:=V.ref ts[j]) (by simp[hj]);rw[a']at e1;cases e1;cases(show u=Value.ref ts[j]from r1);exact pa j ts[j] kv (by simp[hj]) b
 ·have hm:(fS [] kvs).length<=am:=by
   have h1:=iU kvs [];rw[List.length_nil]at h1;rw[ap]at hz;omega
  exact⟨.ref s.heap.objs.size,_,I.laid (o:=.dK (fS [] kvs)) kp (aE _) (wC hm (beq_eq_false_iff_ne.mpr (e_ (bS I.big))) (rel.merge .nil) hD),rfl,q _ I.fresh⟩
end
abbrev cU:R2:=vz fun i j=>.int (i+j)
abbrev ie:R2:=rI wV fun i j=>.int (i * j)
abbrev d7:R2:=rI (fun _ j=>0<j) fun i j=>.int (i % j)
abbrev vY:R2:=rI Ai fun i j=>.int (i / j)
abbrev yr:R2:=rI Ah fun i j=>.int (i ^ j.toNat)
abbrev zL:R2:=vz fun i j=>.bl (decide (i<j))
abbrev rLeI:R2:=vz fun i j=>.bl (decide (i<=j))
abbrev zM:R2:=vz fun i j=>.bl (decide (j<i))
abbrev rGeI:R2:=vz fun i j=>.bl (decide (j<=i))
abbrev yu:R2:=fun x y H Q=>∃i j,x=.str i/\y=.str j/\i.length+j.length<=am/\Q (.str (i++j)) H
abbrev rInS:R2:=fun x y H Q=>∃c j,x=.str ⟨#[c]⟩/\y=.str j/\Q (.bl (decide (c∈j.cps.toList))) H
abbrev fo(K:Za):List V->Hp->VK->Prop:=fun xs H Q=>∃x c t b,xs=[x,.ty c]/\TyX K H x t/\qj K t (.type c)=some b/\Q (.bl b) H
abbrev uX(K:Za):List V->Hp->VK->Prop:=fun xs H Q=>∃(p:Addr) (bs:List Bool),xs=[.ref p]/\aB K H p (bs.map V.bl)/\Q (.bl (bs.all id)) H
abbrev xC(K:Za):List V->Hp->VK->Prop:=fun xs H Q=>∃(l:Addr) (ts:Ze) (kvs:List (cI×V)),xs=[.ref l]/\aB K H l (ts.map V.ref)/\ts.length=kvs.length /\
  (∀(j:Nat) (t:Addr) (kv:cI×V),ts[j]?=some t->kvs[j]?=some kv->H t=some (.tup [kV kv.1,kv.2]))/\∀p,H p=none->Q (.ref p) (upd H p (.dK (fS [] kvs)))
abbrev cF(K:Za):List V->Hp->VK->Prop:=fun xs H Q =>
 (∃p ys,xs=[.ref p]/\(aB K H p ys∨bM K H p ys)/\∀l,H l=none->Q (.ref l) (upd H l (.lst ys))) ∨
 (∃(d:Addr) (kvs:List (cI×V)),xs=[.ref d]/\Rd H d (.dK kvs)/\∀l,H l=none->Q (.ref l) (upd H l (.lst (kvs.map fun kv=>kV kv.1))))
abbrev fE(K:Za):List V->Hp->VK->Prop:=fun xs H Q =>
 (∃p ys,xs=[.ref p]/\(aB K H p ys∨bM K H p ys)/\Q (.int ys.length) H)∨(∃z,xs=[.str z]/\z.length<=am/\Q (.int z.length) H)
theorem aA:fI "isinstance"=some (.builtin "isinstance"):=by decide +kernel
theorem mW:fI "list"=some (.type "list"):=by decide +kernel
theorem rD:fI "tuple"=some (.type "tuple"):=by decide +kernel
theorem sU:fI "dict"=some (.type "dict"):=by decide +kernel
theorem sV:fI "bool"=some (.type "bool"):=by decide +kernel
theorem vo:fI "int"=some (.type "int"):=by decide +kernel
theorem vn:fI "str"=some (.type "str"):=by decide +kernel
section
variable{X:Cx}{p pos:Pos}
theorem vk:eK X (.builtin "len") (fE X.K):=pU.or pT
theorem sT(hc:X.calm=true):eK X (.type "list") (cF X.K):=pS.or (mV hc)
theorem cb(hg:Gl X "bool")(hm:X.mg "bool"=none):PE X (.Name "bool" pos) (tC (.ty "bool")):=jN hg hm sV rfl
theorem eQ(hg:Gl X "int")(hm:X.mg "int"=none):PE X (.Name "int" pos) (tC (.ty "int")):=jN hg hm vo rfl
theorem eP(hg:Gl X "str")(hm:X.mg "str"=none):PE X (.Name "str" pos) (tC (.ty "str")):=jN hg hm vn rfl
theorem dP(hg:Gl X "list")(hm:X.mg "list"=none):PE X (.Name "list" pos) (tC (.ty "list")):=jN hg hm mW rfl
theorem c_(hg:Gl X "tuple")(hm:X.mg "tuple"=none):PE X (.Name "tuple" pos) (tC (.ty "tuple")):=jN hg hm rD rfl
end
def Gc(mg:Str->Option Value)(x:Str)(v:V):Prop:=∃u,mg x=some u/\RelV v u
theorem kR{X:Cx}{x:Str}{v:V}{pos:Pos}(hg:Gl X x)(h:Gc X.mg x v)(hd:(x==("__debug__":Str))=false:=by decide):PE X (.Name x pos) (tC v):=by
 obtain⟨u,hm,r⟩:=h;exact xG hg hm r hd
structure jX(P:bh)(w:World)(K:Za)(mg:Str->Option Value)(base:Heap)(x:Str)(ps:Zb)(k:Nat)(sp:Sp):Prop where
 ex:∃f fd,iz P w K mg base CX0 k f fd ps sp/\mg x=some (.ref f)/\eX K (.ref f)=true/\Binds K fd ps []
structure New(P:bh)(w:World)(K:Za)(mg:Str->Option Value)(base:Heap)(x:Str)(C:Addr)(ps:Zb)(k:Nat)(sp:Sp):Prop where
 ex:∃f fd,iz P w K mg base CX0 k f fd ps sp/\mg x=some (.ref C)/\Mk K C f/\Binds K fd ps []
structure wO(P:bh)(w:World)(K:Za)(mg:Str->Option Value)(base:Heap)(C:Addr)(m:Str)(ps:Zb)(k:Nat)(sp:Sp):Prop where
 ex:∃f fd,iz P w K mg base CX0 k f fd ps sp/\vw K C/\yi K C m f/\Binds K fd ps []
section
variable{X:Cx}{k:Nat}{ps:Zb}{sp:Sp}{x m:Str}{C:Addr}{p pos J2:Pos}{o e:Expr}{es:List Expr}{t:TA}{ta:TE}
theorem t8(D:jX X.prog X.w X.K X.mg X.base x ps k sp)(hr:cN k X.A)(hg:Gl X x)(ha:PA X (e::es) t)(hdb:(x==("__debug__":Str))=false:=by decide)
  (he:ax (e::es) X.env=(false,eval e X.env)::ax es X.env:=by rfl) (hpl:(backTo pos (ax es X.env)).any (·.1)=false:=by rfl) :
  PE X (.Call (.Name x p) (e::es) [] pos) (a_ sp t):=by
 obtain⟨f,fd,F,hm,hk,hb⟩:=D.ex;exact xI F hr hg hm hk hb .nil t_ ha hdb he hpl
theorem za(D:New X.prog X.w X.K X.mg X.base x C ps k sp)(hr:cN (k+1) X.A)(hg:Gl X x)(ha:PA X (e::es) t)(hdb:(x==("__debug__":Str))=false:=by decide)
  (he:ax (e::es) X.env=(false,eval e X.env)::ax es X.env:=by rfl) (hpl:(backTo pos (ax es X.env)).any (·.1)=false:=by rfl) :
  PE X (.Call (.Name x p) (e::es) [] pos) (vM C sp [] E0 t):=by
 obtain⟨f,fd,F,hm,M,hb⟩:=D.ex;exact xF M F hr hg hm hb .nil t_ ha hdb he hpl
theorem zb{pl:Sem Bool}(M:wO X.prog X.w X.K X.mg X.base C m ps k sp)(hr:cN k X.A)(he:PE X o ta)(ha:PA X (e::es) t)
  (hst:ax (e::es) X.env=(false,eval e X.env)::ax es X.env:=by rfl) (hpl:(backTo pos (ax es X.env)).any (·.1)=false:=by rfl)
  (ht:eval (.Call (.Attribute o m J2) (e::es) [] pos) X.env=(do
   let ov <- eval o X.env
   kO J2.atName
   let(f,first) <- g8 [ov] (kK ov m pl)
   nJ pos f first (backTo pos (ax (e::es) X.env)) (kI pos (kH [] X.env))):=by rfl) :
  PE X (.Call (.Attribute o m J2) (e::es) [] pos) (gd C m sp [] E0 ta t):=by
 obtain⟨f,fd,F,c,hm,hb⟩:=M.ex;exact xE he c hm F hr hb .nil t_ ha hst hpl ht
theorem xD{pl:Sem Bool}(M:wO X.prog X.w X.K X.mg X.base C m ps k sp)(hr:cN k X.A)(he:PE X o ta)
  (ht:eval (.Call (.Attribute o m J2) [] [] pos) X.env=(do
   let ov <- eval o X.env
   kO J2.atName
   let(f,first) <- g8 [ov] (kK ov m pl)
   nJ pos f first (backTo pos (ax [] X.env)) (kI pos (kH [] X.env))):=by rfl) :
  PE X (.Call (.Attribute o m J2) [] [] pos) (gd C m sp [] E0 ta bG):=by
 obtain⟨f,fd,F,c,hm,hb⟩:=M.ex;exact v5 he c hm F hr hb .nil t_ ht
end
def zS(K:Za)(tl:TE):TI:=fun σ H R=>tl σ H fun x H1=>∃a,x=.ref a/\(((∃xs,aB K H1 a xs)/\R (wR K a) H1)∨((∃xs,bM K H1 a xs)/\R (zz K a) H1))
theorem y9{X:Cx}{tg l:Expr}{tl:TE}(hl:PE X l tl):PI X tg l (zS X.K tl):=by
 intro J0 s σ H R I h;refine bL (hl J0 s σ H _ I h) fun v s1 ⟨x,H1,I1,r1,q1⟩=>?_;obtain⟨a,e,q⟩:=q1;subst e;cases r1;have fin:∀b∈[s1.heap.objs.size],js X J0 H1 b:=fun b hb=>by
  have e:b=s1.heap.objs.size:=by simpa using hb
  subst e;exact I1.fpOk (aE _) (I1.hok.fresh (aE _))
 rcases q with⟨⟨xs,hq⟩,q⟩|⟨⟨xs,hq⟩,q⟩
 ·obtain⟨its,rv,p,hz⟩:=I1.list hq;refine tL p.isList ?_;exact⟨s1.heap.objs.size,[s1.heap.objs.size],_,_,H1,rfl,I1.kept (t':=s1.toks) fun b o e=>aO _ e,nO a _,⟨_,cA _ rfl,rfl,rfl⟩,fin,q⟩
 ·obtain⟨its,rv,p,hz⟩:=I1.tuple hq;refine tK p ?_;exact⟨s1.heap.objs.size,[s1.heap.objs.size],_,_,H1,rfl,I1.kept (t':=s1.toks) fun b o e=>aO _ e,mo a _,⟨_,cA _ rfl,rfl,rfl⟩,fin,q⟩
theorem io{K:Za}{a:Addr}{xs:List V}{g:TG}{tb:TS}{D:jt}{σ:St}{H:Hp}(Pv:Nat->St->Hp->Prop)(h0:Pv 0 σ H)(hl:∀i σ H,i<=xs.length->Pv i σ H->aB K H a xs)
  (hs:∀i x σ H p,xs[i]?=some x->Pv i σ H->H p=none->g (.ref p) σ (upd H p (.tup [.int i,x])) fun σ2 H2=>tb { D with nx:=Pv (i+1),ct:=Pv (i+1),bk:=D.nx } σ2 H2) (hd:∀σ H,Pv xs.length σ H->D.nx σ H) :
  ∃W:Nat->Nat->St->Hp->Prop,(∃m,W 0 m σ H)/\∀i m σ H,W i m σ H ->
   ((Ac K a).stop i H/\D.nx σ H)∨((Ac K a).go i H/\∃N:St->Hp->Prop,(∀σ' H',N σ' H'->∃m',m'<m/\W (i+1) m' σ' H')/\∀x H',(Ac K a).yld i H x H'->g x σ H' fun σ2 H2=>tb { D with nx:=N,ct:=N,bk:=D.nx } σ2 H2):=by
 refine⟨fun i m σ H=>m=xs.length-i/\i<=xs.length/\Pv i σ H,⟨xs.length,by simp,cj _,h0⟩,?_⟩;rintro i m σ H ⟨rfl,hi,p⟩;have q:=hl i σ H hi p;by_cases hlt:i<xs.length
 ·refine .inr ⟨⟨xs,xs[i],q,by simp[hlt]⟩,Pv (i+1),fun σ' H' p'=>⟨xs.length-(i+1),by omega,rfl,hlt,p'⟩,fun x H' y=>?_⟩;obtain⟨t,v,rfl,hn,hv,rfl⟩:=y;exact hs i v σ H t (hv xs q) p hn
 ·have e:i=xs.length:=by omega
  subst e;exact .inl ⟨⟨xs,q,aE _⟩,hd σ H p⟩
def Wc(n:Nat)(Pv:Nat->List V->Hp->Prop):Nat->Nat->List V->Hp->Prop:=fun i m vs H=>m=n-i/\i<=n/\Pv i vs H
theorem qV{n i:Nat}{Pv:Nat->List V->Hp->Prop}{vs:List V}{H:Hp}(hi:i<n)(p:Pv (i+1) vs H):∃m',m'<n-i/\Wc n Pv (i+1) m' vs H:=⟨n-(i+1),by omega,rfl,hi,p⟩
abbrev gr(k:Nat)(fi:List Nat)(σ:St)(J:It)(g:TG)(tc:TT)(te:TE)(H1:Hp)(l:Addr)(Q:Hp->Prop):Prop :=
 ∃W:Nat->Nat->List V->Hp->Prop,(∃m,W 0 m [] (upd H1 l (.lst [])))/\∀i m vs H2,W i m vs H2->H2 l=some (.lst vs) /\
  ((J.stop i H2/\Q H2)∨(J.go i H2/\∀x H3,J.yld i H2 x H3->g x (cf k fi σ) H3 fun σ2 H4=>tc σ2 H4 fun b H5 =>
   if b=true then te σ2 H5 fun v H6=>H6 l=some (.lst vs)/\vs.length<am/\∃m',m'<m/\W (i+1) m' (vs++[v]) (upd H6 l (.lst (vs++[v])))else ∃m',m'<m/\W (i+1) m' vs H5))
theorem iw{k:Nat}{fi:List Nat}{J:It}{g:TG}{tc:TT}{te:TE}{σ:St}{H1:Hp}{Q:Hp->Prop}{l:Addr}(n:Nat)(Pv:Nat->List V->Hp->Prop)(h0:Pv 0 [] (upd H1 l (.lst [])))
  (hl:∀i vs H,i<=n->Pv i vs H->H l=some (.lst vs)) (hgo:∀i vs H,i<n->Pv i vs H->J.go i H) (hst:∀vs H,Pv n vs H->J.stop n H/\Q H)
  (hs:∀i vs H x H3,i<n->Pv i vs H->J.yld i H x H3->g x (cf k fi σ) H3 fun σ2 H4=>tc σ2 H4 fun b H5 =>
   if b=true then te σ2 H5 fun v H6=>H6 l=some (.lst vs)/\vs.length<am/\∃m',m'<n-i/\Wc n Pv (i+1) m' (vs++[v]) (upd H6 l (.lst (vs++[v])))else ∃m',m'<n-i/\Wc n Pv (i+1) m' vs H5) :
  gr k fi σ J g tc te H1 l Q:=by
 refine⟨Wc n Pv,⟨n,by simp[Wc],cj _,h0⟩,?_⟩;rintro i m vs H ⟨rfl,hi,p⟩;refine⟨hl i vs H hi p,?_⟩;by_cases hlt:i<n
 ·exact .inr ⟨hgo i vs H hlt p,fun x H3 y=>hs i vs H x H3 hlt p y⟩
 ·have e:i=n:=by omega
  subst e;exact .inl (hst vs H p)
section
variable{K:Za}{k:Nat}{fi:List Nat}{g:TG}{tc:TT}{te:TE}{σ:St}{H1:Hp}{Q:Hp->Prop}{l:Addr}
theorem db{a:Addr}{xs:List V}(Pv:Nat->List V->Hp->Prop)(h0:Pv 0 [] (upd H1 l (.lst [])))
  (hl:∀i vs H,i<=xs.length->Pv i vs H->H l=some (.lst vs)/\aB K H a xs) (hd:∀vs H,Pv xs.length vs H->Q H)
  (hs:∀i vs H x,xs[i]?=some x->i<xs.length->Pv i vs H->g x (cf k fi σ) H fun σ2 H4=>tc σ2 H4 fun b H5 =>
   if b=true then te σ2 H5 fun v H6=>H6 l=some (.lst vs)/\vs.length<am/\∃m',m'<xs.length-i/\Wc xs.length Pv (i+1) m' (vs++[v]) (upd H6 l (.lst (vs++[v])))else ∃m',m'<xs.length-i/\Wc xs.length Pv (i+1) m' vs H5) :
  gr k fi σ (wR K a) g tc te H1 l Q:=by
 refine iw xs.length Pv h0 (fun i vs H hi p=>(hl i vs H hi p).1) (fun i vs H hi p=>⟨xs,xs[i],(hl i vs H (f8 hi) p).2,by simp[hi]⟩) (fun vs H p=>⟨⟨xs,(hl _ vs H (aE _) p).2,aE _⟩,hd vs H p⟩) fun i vs H x H3 hi p y=>?_;obtain⟨rfl,y⟩:=y;exact hs i vs _ x (y xs (hl i vs _ (f8 hi) p).2) hi p
theorem wK{a:Addr}{xs:List V}(Pv:Nat->List V->Hp->Prop)(h0:Pv 0 [] (upd H1 l (.lst [])))
  (hl:∀i vs H,i<=xs.length->Pv i vs H->H l=some (.lst vs)/\bM K H a xs) (hd:∀vs H,Pv xs.length vs H->Q H)
  (hs:∀i vs H x,xs[i]?=some x->i<xs.length->Pv i vs H->g x (cf k fi σ) H fun σ2 H4=>tc σ2 H4 fun b H5 =>
   if b=true then te σ2 H5 fun v H6=>H6 l=some (.lst vs)/\vs.length<am/\∃m',m'<xs.length-i/\Wc xs.length Pv (i+1) m' (vs++[v]) (upd H6 l (.lst (vs++[v])))else ∃m',m'<xs.length-i/\Wc xs.length Pv (i+1) m' vs H5) :
  gr k fi σ (zz K a) g tc te H1 l Q:=by
 refine iw xs.length Pv h0 (fun i vs H hi p=>(hl i vs H hi p).1) (fun i vs H hi p=>⟨xs,xs[i],(hl i vs H (f8 hi) p).2,by simp[hi]⟩) (fun vs H p=>⟨⟨xs,(hl _ vs H (aE _) p).2,aE _⟩,hd vs H p⟩) fun i vs H x H3 hi p y=>?_;obtain⟨rfl,y⟩:=y;exact hs i vs _ x (y xs (hl i vs _ (f8 hi) p).2) hi p
theorem mR{lo:Int}{n:Nat}(Pv:Nat->List V->Hp->Prop)(h0:Pv 0 [] (upd H1 l (.lst [])))
  (hl:∀i vs H,i<=n->Pv i vs H->H l=some (.lst vs)) (hd:∀vs H,Pv n vs H->Q H)
  (hs:∀i vs H,i<n->Pv i vs H->g (.int (lo+i)) (cf k fi σ) H fun σ2 H4=>tc σ2 H4 fun b H5 =>
   if b=true then te σ2 H5 fun v H6=>H6 l=some (.lst vs)/\vs.length<am/\∃m',m'<n-i/\Wc n Pv (i+1) m' (vs++[v]) (upd H6 l (.lst (vs++[v])))else ∃m',m'<n-i/\Wc n Pv (i+1) m' vs H5) :
  gr k fi σ (zA lo n) g tc te H1 l Q:=by
 refine iw n Pv h0 hl (fun i vs H hi p=>hi) (fun vs H p=>⟨aE _,hd vs H p⟩) fun i vs H x H3 hi p y=>?_;obtain⟨rfl,rfl⟩:=y;exact hs i vs _ hi p
theorem wL{x:Str}(Pv:Nat->List V->Hp->Prop)(h0:Pv 0 [] (upd H1 l (.lst [])))
  (hl:∀i vs H,i<=x.cps.size->Pv i vs H->H l=some (.lst vs)) (hd:∀vs H,Pv x.cps.size vs H->Q H)
  (hs:∀i vs H c,x.cps[i]?=some c->i<x.cps.size->Pv i vs H->g (.str ⟨#[c]⟩) (cf k fi σ) H fun σ2 H4=>tc σ2 H4 fun b H5 =>
   if b=true then te σ2 H5 fun v H6=>H6 l=some (.lst vs)/\vs.length<am/\∃m',m'<x.cps.size-i/\Wc x.cps.size Pv (i+1) m' (vs++[v]) (upd H6 l (.lst (vs++[v])))else ∃m',m'<x.cps.size-i/\Wc x.cps.size Pv (i+1) m' vs H5) :
  gr k fi σ (Av x) g tc te H1 l Q:=by
 refine iw x.cps.size Pv h0 hl (fun i vs H hi p=>hi) (fun vs H p=>⟨aE _,hd vs H p⟩) fun i vs H y H3 hi p yl=>?_;obtain⟨rfl,c,hc,rfl⟩:=yl;exact hs i vs _ c hc hi p
end
theorem gN{j:Nat}{x:V}{σ:St}{H:Hp}{Q:St->Hp->Prop}(h:Q (σ.set j (some x)) H):b_ j x σ H Q:=h
theorem oT{σ:St}{H:Hp}{A B:Hp->Prop}(h:A H):fC σ H (fun b H5=>if b=true then A H5 else B H5):=by
 show(if(true:Bool)=true then A H else B H)
 exact h
abbrev mm:List Value:=[.type "ValueError",.type "Exception",.type "BaseException",.type "object"]
inductive p5:List Value->Prop
 |base:p5 mm
 |own {a:Addr}{r:Zf}:p5 r->p5 (.ref a::r)
structure XCls(K:Za)(C:Addr):Prop where
 obj:∃nm q N bs bm sn sub ab col dd k0 k1 k2 k3 k5,K.lookup C=some (oy nm q C N bs bm true sn sub ab col dd k0 k1 k2 k3 k5 "ValueError.__new__")/\p5 bm
 sa:bH K (.ref C) "__setattr__"=some (some (.builtin "object.__setattr__"))
 ga:bH K (.ref C) "__getattribute__"=some (some (.builtin "BaseException.__getattribute__"))
 gx:bH K (.ref C) "__getattr__"=some none
structure zZ(K:Za)(T:Addr):Prop where
 rd:PySem.W.readsIn K T (.type "type")=true
 fi:PySem.W.findCls K (.ref T) (.type "type") "__init__"=some (.val (.builtin "ValueError.__init__"))
 ga:tG K (.ref T) "__getattribute__"=some (some (.builtin "type.__getattribute__"))
end L2
namespace L2
open PySem PySem.W
theorem zg{K:Frag}{C D:Addr}{b:Bool}(h1:subIn K (.ref D) (.type "BaseException")=some true)(h2:isClsIn K D=true)(h3:typeIn K (.ref D)=some (.type "type"))(h4:subIn K (.ref C) (.ref D)=some b):exmOne K (.ref C) (.ref D)=some b:=by
 have h2':(clsIn K D).isSome=true:=h2;unfold exmOne;rw[h1,if_pos (by decide)];show(if((clsIn K D).isSome && typeIn K (.ref D)==some (.type "type"))=true then subIn K (.ref C) (.ref D)else none)=some b
 rw[if_pos (by rw[h2',h3];decide)];exact h4
end L2
end

section
set_option Elab.async false
set_option linter.all false
set_option maxRecDepth 100000
namespace L2
open PySem PySem.Spec PyProof.Rows PySem.W
structure XO(K:Frag)(C:Addr)(bm:Zf):Prop where
 ex:∃nm q N bs sn sub ab col dd k0 k1 k2 k3 k5,K.lookup C=some (oy nm q C N bs bm true sn sub ab col dd k0 k1 k2 k3 k5 "ValueError.__new__")
structure XG(K:Frag):Prop where
 hn:specialIn K (.builtin "object.__class__") "__get__"=some (some (.builtin "getset_descriptor.__get__"))
 htk:takesIn K (.builtin "object.__class__")=some true
structure XX(K:Frag)(mg:Str->Option Value)(x:Str)(C Ct:Addr):Prop where
 g:mg x=some (.ref C)
 o:XO K C (.ref Ct::mm)
 sa:findIn K (.ref C) "__setattr__"=some (some (.builtin "object.__setattr__"))
 ga:findIn K (.ref C) "__getattribute__"=some (some (.builtin "BaseException.__getattribute__"))
 gx:findIn K (.ref C) "__getattr__"=some none
 kp:keepIn K (.ref C)=true
 cl:findIn K (.ref C) "__class__"=some (some (.builtin "object.__class__"))
def yk:Expr->List Str
 |.Name x _=>[x]
 |.Tuple es _ _=>es.filterMap fun e=>match e with | .Name x _=>some x|_=>none
 |_=>[]
theorem bK{X:Cx}{b:List Stmt}{t:TS}{D:jt}{σ:St}{H:Hp}(r:t D σ H)(p:rN X b t):∃t,rN X b t/\t D σ H:=⟨t,p,r⟩
section
variable{X:Cx}{k k0:Nat}{ps:Zb}{sp:Sp}{x m:Str}{C:Addr}{p pos J2:Pos}{o e a b:Expr}{es:List Expr}{t:TA}{ta tb te:TE}
theorem qf(hr:cN k0 X.A)(D:jX X.prog X.w X.K X.mg X.base x ps k sp)(ha:PA X (e::es) t)(hk:k<=k0:=by decide)(hg:Gl X x:=by rfl)(hdb:(x==("__debug__":Str))=false:=by decide)
  (he:ax (e::es) X.env=(false,eval e X.env)::ax es X.env:=by rfl) (hpl:(backTo pos (ax es X.env)).any (·.1)=false:=by rfl) :
  PE X (.Call (.Name x p) (e::es) [] pos) (a_ sp t):=t8 D (hr.mono hk) hg ha hdb he hpl
theorem qm{pl:Sem Bool}(hr:cN k0 X.A)(M:wO X.prog X.w X.K X.mg X.base C m ps k sp)(he:PE X o ta)(ha:PA X (e::es) t)(hk:k<=k0:=by decide)
  (hst:ax (e::es) X.env=(false,eval e X.env)::ax es X.env:=by rfl) (hpl:(backTo pos (ax es X.env)).any (·.1)=false:=by rfl)
  (ht:eval (.Call (.Attribute o m J2) (e::es) [] pos) X.env=(do
   let ov <- eval o X.env
   kO J2.atName
   let(f,first) <- g8 [ov] (kK ov m pl)
   nJ pos f first (backTo pos (ax (e::es) X.env)) (kI pos (kH [] X.env))):=by rfl) :
  PE X (.Call (.Attribute o m J2) (e::es) [] pos) (gd C m sp [] E0 ta t):=zb (pl:=pl) M (hr.mono hk) he ha hst hpl ht
theorem Aq{pl:Sem Bool}(hr:cN k0 X.A)(M:wO X.prog X.w X.K X.mg X.base C m ps k sp)(he:PE X o ta)(hk:k<=k0:=by decide)
  (ht:eval (.Call (.Attribute o m J2) [] [] pos) X.env=(do
   let ov <- eval o X.env
   kO J2.atName
   let(f,first) <- g8 [ov] (kK ov m pl)
   nJ pos f first (backTo pos (ax [] X.env)) (kI pos (kH [] X.env))):=by rfl) :
  PE X (.Call (.Attribute o m J2) [] [] pos) (gd C m sp [] E0 ta bG):=xD (pl:=pl) M (hr.mono hk) he ht
theorem xl(ha:PE X a ta)(hb:PE X b tb)(hs:vp b:=by exact fun _ _=>rfl):PE X (.Subscript a b pos) (aI (cK X.K) ta tb):=t7 ue ha hb hs
theorem xt(ha:PE X a ta)(hb:PE X b tb)(hs:vp b:=by exact fun _ _=>rfl):PE X (.Subscript a b pos) (aI (xB X.K) ta tb):=t7 wk ha hb hs
theorem xq(ha:PE X a ta)(hb:PE X b tb)(hs:vp b:=by exact fun _ _=>rfl):PE X (.Subscript a b pos) (aI (sw X.K) ta tb):=t7 ze ha hb hs
theorem xs'(ha:PE X a ta)(hb:PE X b tb)(hs:vp b:=by exact fun _ _=>rfl):PE X (.Subscript a b pos) (aI vX ta tb):=t7 wl ha hb hs
theorem m9{op:CmpOp}{r:R2}(ho:jZ X (c8 op) r)(ha:PE X a ta)(hb:PE X b tb)(hm:gS op b=false:=by exact wb _):PT X (.Compare a [op] [b] pos) (bV (aI r ta tb)):=tZ ho ha hb hm
theorem vd{op:CmpOp}{r:R2}(ho:jZ X (c8 op) r)(ha:PE X a ta)(hb:PE X b tb)(hm:gS op b=false:=by exact wb _):PE X (.Compare a [op] [b] pos) (aI r ta tb):=t9 ho ha hb hm
theorem tci{op:CmpOp}{r:R2}(ho:jZ X (c8 op) r)(ha:PE X a ta)(hb:PE X b tb)(hm:gS op b=false:=by with_unfolding_all rfl):PT X (.Compare a [op] [b] pos) (bV (aI r ta tb)):=tZ ho ha hb hm
theorem eci{op:CmpOp}{r:R2}(ho:jZ X (c8 op) r)(ha:PE X a ta)(hb:PE X b tb)(hm:gS op b=false:=by with_unfolding_all rfl):PE X (.Compare a [op] [b] pos) (aI r ta tb):=t9 ho ha hb hm
theorem qB{id:String}{r:List V->Hp->VK->Prop}(hc:eK X (.builtin id) r)(hm:X.mg x=none)(hv:fI x=some (.builtin id))(ha:PA X (e::es) t)(hg:Gl X x:=by rfl)(hn:x≠"__name__":=by decide)(hdb:(x==("__debug__":Str))=false:=by decide)
  (he:ax (e::es) X.env=(false,eval e X.env)::ax es X.env:=by rfl) (hpl:(backTo pos (ax es X.env)).any (·.1)=false:=by rfl):PE X (.Call (.Name x p) (e::es) [] pos) (cJ r t):=qS hc hg hm hv ha hn hdb he hpl
theorem qL(hc:X.calm=true)(hm:X.mg "list"=none)(ha:PA X (e::es) t)(hg:Gl X "list":=by rfl)
  (he:ax (e::es) X.env=(false,eval e X.env)::ax es X.env:=by rfl) (hpl:(backTo pos (ax es X.env)).any (·.1)=false:=by rfl):PE X (.Call (.Name "list" p) (e::es) [] pos) (cJ (cF X.K) t):=nY (sT hc) hg hm mW ha (by decide) (by decide) he hpl
theorem ql(hm:X.mg "len"=none)(ha:PA X (e::es) t)(hg:Gl X "len":=by rfl)
  (he:ax (e::es) X.env=(false,eval e X.env)::ax es X.env:=by rfl) (hpl:(backTo pos (ax es X.env)).any (·.1)=false:=by rfl):PE X (.Call (.Name "len" p) (e::es) [] pos) (cJ (fE X.K) t):=qS vk hg hm PySem.boot_len ha (by decide) (by decide) he hpl
theorem qs(i:Nat){pos':Pos}(hN:X.N.Nodup)(he:PE X e te)(hi:X.N[i]?=some x:=by rfl)(hx:Loc X.env.scope x:=by first|exact Or.inl rfl|exact Or.inr rfl)(hs:lS e (some (.Name x pos')) pos.line X.env=pure false:=by rfl)(hf:X.fn x=true∨X.env.scope.names.lookup x=some .local:=by first|exact .inl rfl|exact .inr rfl|assumption):
  PS X (.Assign [.Name x pos'] e pos) (aM te (b_ i)):=y6 hN hi hx he hs hf
theorem gn(i:Nat)(hN:X.N.Nodup)(hi:X.N[i]?=some x:=by rfl)(hx:Loc X.env.scope x:=by first|exact Or.inl rfl|exact Or.inr rfl)(hf:X.fn x=true∨X.env.scope.names.lookup x=some .local:=by first|exact .inl rfl|exact .inr rfl|assumption):PG X (.Name x pos) (b_ i):=t6 hN hi hx hf
theorem gc(i:Nat)(hN:X.N.Nodup:=by exact of_decide_eq_true (by with_unfolding_all rfl))(hi:X.N[i]?=some x:=by rfl)(hx:Loc X.env.scope x:=by exact Or.inl rfl)(hf:X.fn x=true∨X.env.scope.names.lookup x=some .local:=by first|exact .inl rfl|exact .inr rfl|assumption):PG X (.Name x pos) (b_ i):=t6 hN hi hx hf
theorem a1(ha:PE X a ta)(hs:ax [a] X.env=(false,eval a X.env)::ax [] X.env:=by rfl):PA X [a] (ay ta bG):=bw ha eo hs
theorem a2(ha:PE X a ta)(hb:PE X b tb)(hs:ax [a,b] X.env=(false,eval a X.env)::ax [b] X.env:=by rfl)(hs2:ax [b] X.env=(false,eval b X.env)::ax [] X.env:=by rfl):PA X [a,b] (ay ta (ay tb bG)):=bw ha (bw hb eo hs2) hs
theorem a3{c:Expr}{tc:TE}(ha:PE X a ta)(hb:PE X b tb)(hc:PE X c tc)(hs:ax [a,b,c] X.env=(false,eval a X.env)::ax [b,c] X.env:=by rfl)(hs1:ax [b,c] X.env=(false,eval b X.env)::ax [c] X.env:=by rfl)(hs2:ax [c] X.env=(false,eval c X.env)::ax [] X.env:=by rfl):PA X [a,b,c] (ay ta (ay tb (ay tc bG))):=bw ha (a2 hb hc hs1 hs2) hs
variable{elt iter tg:Expr}{ifs:List Expr}{scope:Scope}{fi:List Nat}{wi:TI}{g:TG}{tc:TT}
theorem qc(hi:PI X tg iter wi)(ho:rE k g)
  (h:∀C cl s₀ H₀ ex pn,PG (cg X (yk tg++fi.map fun i=>X.N.getD i "") scope C cl s₀ H₀ ex pn) tg g/\yP (cg X (yk tg++fi.map fun i=>X.N.getD i "") scope C cl s₀ H₀ ex pn) ifs tc/\PE (cg X (yk tg++fi.map fun i=>X.N.getD i "") scope C cl s₀ H₀ ex pn) elt te)
  (hS:iI X.env.scope scope k (yk tg++fi.map fun i=>X.N.getD i "") X.N fi=true:=by with_unfolding_all rfl) (hc:X.calm=true:=by rfl)
  (hs:∀x,qr iter X.env x=pure x:=by intro _;rfl):PE X (.ListComp elt [⟨tg,iter,ifs,0⟩] scope pos) (b9 k fi wi g tc te) :=
 xH hS hc hi (fun _ _ _ _ _ _=>(h _ _ _ _ _ _).1) ho (fun _ _ _ _ _ _=>(h _ _ _ _ _ _).2.1) (fun _ _ _ _ _ _=>(h _ _ _ _ _ _).2.2) hs
theorem Ap(j:Nat){y:Str}{spos py:Pos}(hN:X.N.Nodup)(hi:PI X tg iter wi)(ho:rE k g)
  (h:∀C cl s₀ H₀ ex pn,PG (cg X (yk tg++fi.map fun i=>X.N.getD i "") scope C cl s₀ H₀ ex pn) tg g/\yP (cg X (yk tg++fi.map fun i=>X.N.getD i "") scope C cl s₀ H₀ ex pn) ifs tc/\PE (cg X (yk tg++fi.map fun i=>X.N.getD i "") scope C cl s₀ H₀ ex pn) elt te)
  (hj:X.N[j]?=some y:=by rfl) (hy:Loc X.env.scope y:=by first|exact Or.inl rfl|exact Or.inr rfl)
  (hS:iI X.env.scope scope k (yk tg++fi.map fun i=>X.N.getD i "") X.N fi=true:=by with_unfolding_all rfl) (hc:X.calm=true:=by rfl)
  (hsw:lS (.ListComp elt [⟨tg,iter,ifs,0⟩] scope pos) (some (.Name y py)) spos.line X.env=pure true:=by rfl)
  (hs:∀x,qr iter X.env x=pure x:=by intro _;rfl) (hf:X.fn y=true∨X.env.scope.names.lookup y=some .local:=by first|exact .inl rfl|exact .inr rfl|assumption) :
  PS X (.Assign [.Name y py] (.ListComp elt [⟨tg,iter,ifs,0⟩] scope pos) spos) (aM (b9 k fi wi g tc te) (b_ j)) :=
 sA hN hj hy hS hc hi (fun _ _ _ _ _ _=>(h _ _ _ _ _ _).1) ho (fun _ _ _ _ _ _=>(h _ _ _ _ _ _).2.1) (fun _ _ _ _ _ _=>(h _ _ _ _ _ _).2.2) hsw hs hf
end
end L2
end

section
set_option Elab.async false
set_option linter.all false
set_option maxRecDepth 100000
namespace L2
open PySem PySem.Spec PyProof.Rows
end L2
end
section
namespace L2
open PySem PySem.Spec PyProof.Rows
open Sem (wp)
end L2
end
set_option Elab.async false
set_option linter.all false
set_option maxRecDepth 100000
set_option maxHeartbeats 4000000
namespace Mum
open PySem PySem.Spec PyProof.Rows L2
def oW(K:Za):TS :=
 au (bX (bV (aI rGeI V0 (aI yr (tC (.int 10)) (tC (.int 18))))) (ba V0) (bp))
 (au (aM (aI d7 (aI cU (aI cU (aI ie (aI d7 V0 (tC (.int 1000000007))) (tC (.int 69069))) (aI ie V1 (tC (.int 40503)))) (tC (.int 977))) (tC (.int 2147483629))) U2)
 (au (aM (aI d7 (aI cU (aI cU (aI ie V2 V2) (aI ie V1 (tC (.int 7919)))) (aI d7 V0 (tC (.int 65537)))) (tC (.int 2147483587))) U3)
 (au (aM (aI d7 (aI cU (aI cU (aI ie V3 V3) (aI ie V2 (tC (.int 31)))) (tC (.int 5))) (tC (.int 2147483563))) U4)
 (ba (aI cU (aI ie (aI cU (aI ie V2 (tC (.int 2147483659))) V3) (tC (.int 2147483693))) V4)))))
def p7:List Str:=["cell","at","one","two","three"]
def rW(K:Za):TS :=
 au (aM (cJ (cF K) (aJ (wW (sv K) V0 (fJ) (gU (tC (.int 12)))))) U1)
 (au (fD (oj K (aJ (wW (sv K) V0 (gU (tC (.int 12))) (gU (tC (.int 63)))))) (kq K 2 (cu U2 (cu U3 (jS)))) (aM (aI cU (aI (cK K) V1 (aI d7 V2 (tC (.int 12)))) V3) (mK V1 (aI d7 V2 (tC (.int 12))) ic)))
 (ba (gw (hW V1 (tC (.int 0)) (tC (.int 0))))))
def s_:List Str:=["script","cells","k","cell"]
def rX(K:Za):TS :=
 au (aM (tC (.int 0)) (mK V0 (tC (.int 2)) ic))
 (ba V0)
def tf:List Str:=["pen"]
def rV(K:Za)(sp_law_spread:Sp):TS :=
 au (bX (bV (aI zL (aI (cK K) V0 (tC (.int 2))) V1)) (au (aM (aI (cK K) V0 (tC (.int 1))) U2)
 (au (aM (tC (.int 0)) U3)
 (au (bX (bV (aI zL V2 (cJ (fE K) (aJ (aI (cK K) V0 (tC (.int 0))))))) (aM (aI (cK K) (aI (cK K) V0 (tC (.int 0))) V2) U3) (bX (bV (aI zM (cJ (fE K) (aJ (aI (cK K) V0 (tC (.int 0))))) (tC (.int 0)))) (aM (aI d7 (aI (cK K) (aI (cK K) V0 (tC (.int 0))) (aI d7 (aI cU (aI ie V2 (tC (.int 5))) (tC (.int 3))) (cJ (fE K) (aJ (aI (cK K) V0 (tC (.int 0))))))) (aI cU (aI yr (tC (.int 10)) (tC (.int 17))) V2)) U3) (bp)))
 (au (aM (aI cU V2 (tC (.int 1))) (mK V0 (tC (.int 1)) ic))
 (aM (a_ sp_law_spread (aK V3 V2)) (mK V0 (tC (.int 2)) ic)))))) (bp))
 (au (aM (aI d7 (aI (cK K) V0 (tC (.int 2))) V1) U4)
 (au (aM (aI vY (aI (cK K) V0 (tC (.int 2))) V1) (mK V0 (tC (.int 2)) ic))
 (ba V4)))
def sZ:List Str:=["pen","many","at","cell","found"]
def qE(K:Za)(sp_law_take:Sp):TS :=
 au (aM (tC (.str "abcdefghijklmnopqrstuvwxyz")) U2)
 (au (aM (uQ K "str" (yt K) (tC (.str "")) (ay (b9 1 [2,0] (kW (aJ (tC (.int 7)))) U0 (fC) (aI vX V1 (a_ sp_law_take (aK V2 (tC (.int 26)))))) bG)) U3)
 (au (aM (a_ sp_law_take (aK V0 (tC (.int 3)))) U4)
 (au (aM (a_ sp_law_take (aK V0 (tC (.int 26)))) U5)
 (au (aM (a_ sp_law_take (aK V0 (tC (.int 8)))) U6)
 (au (aM (gw (bG)) U7)
 (au (fD (kW (aJ V1)) U8 (au (aM (aI vX V2 (aI d7 (aI cU V5 (aI ie (tC (.int 3)) V8)) (tC (.int 26)))) U9)
 (au (aM (wW xA V3 (fJ) (gU (aI d7 (aI cU V6 (aI ie V8 (aI d7 V4 (tC (.int 2))))) (tC (.int 8))))) U10)
 (au (aM (aI (cK K) (gw (hW (tC (.int 0)) (cJ (fE K) (aJ yO)) (aI vY (cJ (fE K) (aJ yO)) (tC (.int 2))))) V4) U11)
 (b0 (uQ K "list" dh V7 (aJ (aI yu (aI yu (wW xA yO (fJ) (gU z0)) V9) (wW xA yO (gU z0) (fJ))))))))))
 (ba V7)))))))
def rH:List Str:=["pen","many","letters","base","way","turn","size","found","k","sign","part","at"]
def uM(K:Za):TS :=
 bX (bV (aI (yZ K true) V1 V0)) (b0 (uQ K "list" dh V0 (aJ V1))) (bp)
def vq:List Str:=["doors","door"]
def j_(K:Za)(sp_law_take:Sp)(sp_law_put:Sp):TS :=
 au (aM (gw (bG)) U5)
 (au (aM (a_ sp_law_take (aK V0 (tC (.int 2)))) U6)
 (au (fD (oj K (aJ V3)) (kq K 2 (cu U7 (cu U8 (jS)))) (au (fD (kW (ay (aI (cK K) (gw (ay (tC (.int 0)) (hW (tC (.int 1)) (tC (.int 1)) (tC (.int 2))))) (a_ sp_law_take (aK V0 (tC (.int 4))))) bG)) U9 (au (aM (gb (ay (tC (.str "say")) (ay (aI (cK K) V2 (a_ sp_law_take (aK V0 (cJ (fE K) (aJ V2))))) bG))) U10)
 (b0 (a_ sp_law_put (ay V5 (ay (gb (ay V8 (ay yO (ay (aI (cK K) V3 (a_ sp_law_take (aK V0 (cJ (fE K) (aJ V3))))) bG)))) bG))))))
 (au (fD (cV K V1) U11 (fD (kW (ay (aI (cK K) (gw (ay V4 (hW (tC (.int 1)) (tC (.int 1)) (tC (.int 2))))) (a_ sp_law_take (aK V0 (tC (.int 4))))) bG)) U9 (b0 (a_ sp_law_put (ay V5 (ay (gb (ay V8 (ay (gb (aK (tC (.str "ask")) z0)) (ay (aI (cK K) V3 (a_ sp_law_take (aK V0 (cJ (fE K) (aJ V3))))) bG)))) bG))))))
 (au (aM (aI (cK K) (gw (ay (wW (sv K) V3 (gU (aI cU V7 (tC (.int 1)))) (fJ)) (aJ (wW (sv K) V3 (fJ) (gU V7))))) V6) U12)
 (bX (sh (bV (aI (yX K) At (gw (bG)))) (bV (aI vA (a_ sp_law_take (aK V0 (tC (.int 3)))) (tC (.int 0))))) (b0 (a_ sp_law_put (ay V5 (ay (gb (ay V8 (ay (gb (aJ (tC (.str "still")))) (ay (aI (sw K) At (a_ sp_law_take (aK V0 (cJ (fE K) (aJ At))))) bG)))) bG)))) (bp))))))
 (ba V5)))
def kA:List Str:=["pen","asks","says","rooms","full","doors","down","k","room","turn","sign","ask","later"]
def qF(K:Za)(sp_law_draw_doors:Sp)(sp_law_names:Sp)(sp_law_take:Sp)(sp_law_anew:Sp):TS :=
 au (b0 (a_ sp_law_anew (aJ V0)))
 (au (aM (a_ sp_law_names (aK V0 (tC (.int 8)))) U3)
 (au (aM (wW (sv K) V3 (fJ) (gU (aI cU (tC (.int 1)) (aI (cK K) (gw (ay (tC (.int 0)) (ay (tC (.int 1)) (ay (tC (.int 1)) (hW (tC (.int 2)) (tC (.int 2)) (tC (.int 3))))))) (a_ sp_law_take (aK V0 (tC (.int 6)))))))) U4)
 (au (aM (wW (sv K) V3 (gU (tC (.int 4))) (gU (aI cU (tC (.int 5)) (aI (cK K) (gw (ay (tC (.int 0)) (ay (tC (.int 1)) (ay (tC (.int 1)) (hW (tC (.int 2)) (tC (.int 2)) (tC (.int 3))))))) (a_ sp_law_take (aK V0 (tC (.int 6)))))))) U5)
 (au (aM (a_ sp_law_names (aK V0 (aI cU (tC (.int 1)) (a_ sp_law_take (ay V0 (aJ V1)))))) U6)
 (au (aM (a_ sp_law_draw_doors (ay V0 (ay V4 (hW V5 V6 V2)))) U7)
 (ba (gb (ay V4 (hW V5 V6 V7)))))))))
def rJ:List Str:=["pen","most","full","words","asks","says","rooms","doors"]
def uN(K:Za):TS :=
 ba (gV (aI yY V0 (tC (.str ""))) (gV (aI rLeI (cJ (fE K) (aJ V0)) (tC (.int 8))) (cJ (uX K) (aJ (b9 1 [] (zR V0) U0 (fC) (aI rInS V0 (tC (.str "abcdefghijklmnopqrstuvwxyz"))))))))
def vt:List Str:=["text"]
def uO(K:Za):TS :=
 au (aM (o6) U1)
 (au (fD (cV K V0) U2 (nW V1 V2 (tC (.bl true))))
 (ba V1))
def vv:List Str:=["things","keys","thing"]
def i7(K:Za)(sp_is_name:Sp)(sp_as_keys:Sp):TS :=
 au (bX (bV (aI vA (cJ (fE K) (aJ V0)) (tC (.int 0)))) (ba (tC (.int 0))) (bp))
 (au (aM (a_ sp_as_keys (aJ V2)) U3)
 (au (fD (oj K (aJ V0)) (kq K 2 (cu U4 (cu U5 (jS)))) (au (bX (ym (bV (aI vA V4 V1)) (ym (tB (vN K V5 V3)) (ke (tB (a_ sp_is_name (aJ V5)))))) (ba V4) (bp))
 (nW V3 V5 (tC (.bl true)))))
 (ba (tC .non))))
def jo:List Str:=["names","most","taken","ahead","number","name"]
def oX(K:Za)(a_STILL:Addr):TS :=
 ba (aI y4 (aI y4 (b9 1 [] (cV K V0) U0 (fC) (gb (aK (tC (.str "ask")) V0))) (b9 1 [] (cV K V1) U0 (fC) (gb (aK (tC (.str "say")) V0)))) (gw (aJ (tC (.ref a_STILL)))))
def p8:List Str:=["asks","says"]
def i8(K:Za)(sp_as_keys:Sp):TS :=
 au (aM (a_ sp_as_keys (aJ V1)) U3)
 (au (aM (r_) U4)
 (au (fD (oj K (aJ V0)) (kq K 2 (cu U5 (cu U6 (jS)))) (au (bX (ym (bV (aI vA V5 (tC (.int 2000)))) (tB (vN K V6 V4))) (ba V5) (bp))
 (au (bX (ym (tB (lF K (aI (sw K) V6 (tC (.int 0))) V3)) (ym (bV (aI (yZ K true) (aI (sw K) V6 (tC (.int 1))) V2)) (tB (lF K (aI (sw K) V6 (tC (.int 2))) V3)))) (ba V5) (bp))
 (nW V4 V6 (tC (.bl true))))))
 (ba (tC .non))))
def jp:List Str:=["doors","rooms","signs","own_rooms","ahead","number","door"]
def fB(K:Za):TS :=
 au (aM (r_) U1)
 (au (fD (cV K V0) (kq K 3 (cu U2 (cu U3 (cu U4 (jS))))) (b0 (uQ K "list" dh (uQ K "dict" tX V1 (aK (gb (ay V2 (aJ V3))) (gw (bG)))) (aJ V4))))
 (ba V1))
def fF:List Str:=["doors","goals","start","sign","goal"]
def mq(K:Za)(a_STILL:Addr):TS :=
 au (aM (o6) U2)
 (au (aM (gw (aJ V1)) U3)
 (au (vK (bV (aI zM (cJ (fE K) (aJ V3)) (tC (.int 0)))) (au (aM (sf K "list" zK V3) U4)
 (fD (zS K (se K V0 (gb (aK V4 (tC (.ref a_STILL)))) (gb (bG)))) U5 (bX (tB (lF K V5 V2)) (au (nW V2 V5 (tC (.bl true)))
 (b0 (uQ K "list" dh V3 (aJ V5)))) (bp)))))
 (ba V2)))
def mY:List Str:=["goals","room","led","waiting","here","goal"]
def jC(K:Za):TS :=
 au (fD (oj K (aJ V0)) (kq K 2 (cu U2 (cu U3 (jS)))) (bX (tB (vN K V3 (tV K V1 V3))) (ba V2) (bp)))
 (ba (tC .non))
def jW:List Str:=["rooms","led","number","room"]
def qz(K:Za):TS :=
 bX (tB (yn V1)) (vL) (bp)
def rF:List Str:=["part","number"]
def oU(K:Za)(sp_need_none:Sp)(sp_first_wrong_door:Sp)(sp_door_signs:Sp)(sp_first_wrong_name:Sp):TS :=
 au (b0 (a_ sp_need_none (aK (tC (.str "asks")) (a_ sp_first_wrong_name (hW V0 (tC (.int 4)) (gw (bG)))))))
 (au (b0 (a_ sp_need_none (aK (tC (.str "says")) (a_ sp_first_wrong_name (hW V1 (tC (.int 4)) V0)))))
 (au (b0 (a_ sp_need_none (aK (tC (.str "rooms")) (a_ sp_first_wrong_name (hW V2 (tC (.int 150)) (gw (bG)))))))
 (b0 (a_ sp_need_none (ay (tC (.str "doors")) (aJ (a_ sp_first_wrong_door (hW V3 V2 (a_ sp_door_signs (aK V0 V1))))))))))
def p6:List Str:=["asks","says","rooms","doors"]
def kb(K:Za):TS :=
 au (aM (o6) U2)
 (au (fD (cV K V0) U3 (nW V2 V3 (gw (bG))))
 (au (fD (cV K V1) U4 (b0 (uQ K "list" dh (tV K V2 (aI (sw K) V4 (tC (.int 0)))) (aJ V4))))
 (ba V2)))
def kC:List Str:=["rooms","doors","leaving","room","door"]
def ka(K:Za):TS :=
 ba (cJ (uX K) (ay (b9 1 [] (cV K V0) U0 (fC) (aI vA (aI (sw K) (aI (sw K) V0 (tC (.int 1))) (tC (.int 0))) (tC (.str "ask")))) bG))
def kB:List Str:=["doors"]
def i_(K:Za)(sp_need_none:Sp)(sp_first_led_round:Sp)(sp_led_by_still:Sp)(sp_goals_by_start_and_sign:Sp)(sp_as_keys:Sp)(sp_has_asks_alone:Sp)(sp_doors_by_start:Sp)(sp_need_parts:Sp):TS :=
 au (b0 (a_ sp_need_parts (ay V1 (hW V2 V3 V4))))
 (au (o_ K V0 (cJ (cF K) (aJ V1)) "own_asks")
 (au (o_ K V0 (cJ (cF K) (aJ V2)) "own_says")
 (au (o_ K V0 (cJ (cF K) (aJ V3)) "own_rooms")
 (au (o_ K V0 (cJ (cF K) (aJ V4)) "own_doors")
 (au (o_ K V0 (a_ sp_doors_by_start (aK V3 V4)) "leaving")
 (au (o_ K V0 (a_ sp_as_keys (ay (b9 1 [0] (cV K V3) U0 (tB (a_ sp_has_asks_alone (aJ (tV K (nc K V1 "leaving") V0)))) V0) bG)) "quiet")
 (au (o_ K V0 (a_ sp_goals_by_start_and_sign (aJ V4)) "sign_goals")
 (au (o_ K V0 (cJ (xC K) (ay (b9 1 [0] (cV K V3) U0 (fC) (gb (aK V0 (a_ sp_led_by_still (ay (nc K V1 "sign_goals") (aJ V0)))))) bG)) "still_led")
 (b0 (a_ sp_need_none (aK (tC (.str "still")) (a_ sp_first_led_round (ay V3 (aJ (nc K V0 "still_led")))))))))))))))
def jr:List Str:=["self","asks","says","rooms","doors"]
def i9(K:Za):TS :=
 ba (vN K V1 (nc K V0 "quiet"))
def jq:List Str:=["self","room"]
def cv(p:Addr)(H H':Hp):Prop:=∀b o,H b=some o->b≠p->H' b=some o
theorem cv.refl(p:Addr)(H:Hp):cv p H H:=fun _ _ h _=>h
theorem cv.trans{p:Addr}{H H1 H2:Hp}(a:cv p H H1)(b:cv p H1 H2):cv p H H2:=fun c o h n=>b c o (a c o h n) n
theorem aj.exB{p:Addr}{H H':Hp}(a:aj H H'):cv p H H':=fun b o h _=>a b o h
theorem cv.upd(p:Addr)(H:Hp)(o:HO):cv p H (upd H p o):=fun b u h n=>by rw[af n];exact h
theorem aj.new{H:Hp}{a:Addr}{o:HO}(h:H a=none):aj H (upd H a o):=fun b u e=>by rw[af (ai e h)];exact e
theorem cv.free{p:Addr}{H H':Hp}(e:cv p H H'){u:HO}(hp:H' p=some u){l:Addr}(h:H' l=none):H l=none:=by
 cases q:H l with
 |none=>rfl
 |some o =>
  by_cases z:l=p
  ·subst z;rw[hp]at h;cases h
  ·rw[e l o q z]at h;cases h
theorem kp{H:Hp}{a b:Addr}{o x:HO}(h:H b=some o)(n:H a=none):upd H a x b=some o:=by rw[af (ai h n)];exact h
structure uC(H:Hp)(p c:Addr)(at_ rest:Int)(ns:List Int):Prop where
 pen:H p=some (.lst [.ref c,.int at_,.int rest])
 cells:H c=some (.lst (ns.map V.int))
 at0:0<=at_
 rest0:0<=rest
theorem uC.ne{H:Hp}{p c:Addr}{a r:Int}{ns:List Int}(h:uC H p c a r ns):c≠p:=by
 intro e;have h1:=h.pen;have h2:=h.cells;rw[e,h1]at h2;injection h2 with h2;injection h2 with h2;cases ns with
 |nil=>cases h2
 |cons n ns=>injection h2 with h2;cases h2
def eg(H:Hp)(p c:Addr):Prop:=∃a r ns,uC H p c a r ns
theorem eg.ex{H H':Hp}{p c:Addr}(h:eg H p c)(e:aj H H'):eg H' p c:=by
 obtain⟨a,r,ns,h1,h2,h3,h4⟩:=h;exact⟨a,r,ns,e _ _ h1,e _ _ h2,h3,h4⟩
theorem eg.pen{H:Hp}{p c:Addr}(h:eg H p c):∃o,H p=some o:=by
 obtain⟨a,r,ns,h1,_⟩:=h;exact⟨_,h1⟩
theorem eg.cell{H:Hp}{p c:Addr}(h:eg H p c):∃o,H c=some o:=by
 obtain⟨a,r,ns,_,h1,_⟩:=h;exact⟨_,h1⟩
theorem eg.upd{H:Hp}{p c l:Addr}{o:HO}(h:eg H p c)(h1:p≠l)(h2:c≠l):eg (upd H l o) p c:=by
 obtain⟨a,r,ns,g1,g2,g3,g4⟩:=h;exact⟨a,r,ns,by rw[af h1];exact g1,by rw[af h2];exact g2,g3,g4⟩
theorem eg.nep{H:Hp}{p c l:Addr}(h:eg H p c)(hl:H l=none):p≠l:=let⟨_,e⟩:=h.pen;ai e hl
theorem eg.nec{H:Hp}{p c l:Addr}(h:eg H p c)(hl:H l=none):c≠l:=let⟨_,e⟩:=h.cell;ai e hl
theorem cv.new{p:Addr}{H:Hp}{a:Addr}{o:HO}(h:H a=none):cv p H (L2.upd H a o):=fun b u e _=>by rw[af (ai e h)];exact e
inductive iB (vs:List V)(H:Hp)(Q:VK)(E:XK):Prop
 |mk (c a:Int):(vs=[.int c,.int a])->(0<=a)->(∀r:Int,0<=r->Q (.int r) H)->iB  vs H Q E
theorem jV{i j:Int}(h1:-(2 ^ 64)<j)(h2:j<2 ^ 64):wV i j:=.inr ⟨h1,h2⟩
theorem uS{K:Za}{vs:List V}{H:Hp}{Q:VK}{E:XK}(h:iB vs H Q E):oW K (cp Q) (start p7 vs) H:=by
 obtain⟨c,a,rfl,ha,k⟩:=h;refine⟨_,rfl,_,_,rfl,rfl,⟨by decide,by decide,by decide⟩,_,_,rfl,rfl,_,rfl,?_⟩;refine mI (fun h=>?_) (fun _=>?_)
 ·refine⟨_,rfl,k _ ?_⟩;have:=of_decide_eq_true h;have e:((10:Int) ^ (18:Int).toNat)=1000000000000000000:=by decide
  omega
 ·have one:∀z:Int,0<=z % 2147483629/\z % 2147483629<2147483629:=fun z=>⟨j4 _ (by decide),j3 _ (by decide)⟩;have two:∀z:Int,0<=z % 2147483587/\z % 2147483587<2147483587:=fun z=>⟨j4 _ (by decide),j3 _ (by decide)⟩;have three:∀z:Int,0<=z % 2147483563/\z % 2147483563<2147483563:=fun z=>⟨j4 _ (by decide),j3 _ (by decide)⟩;refine⟨_,rfl,_,_,rfl,rfl,(by show(0:Int)<1000000007;decide),_,_,rfl,rfl,jV (by decide) (by decide),_,rfl,_,_,rfl,rfl,jV (by decide) (by decide),_,_,rfl,rfl,_,_,rfl,rfl,_,_,rfl,rfl,(by show(0:Int)<2147483629;decide),?_⟩;generalize hz1:(c % 1000000007 * 69069+a * 40503+977)=z1;obtain⟨o1,o2⟩:=one z1;generalize z1 % 2147483629=o at o1 o2 ⊢;refine⟨_,rfl,_,rfl,_,_,rfl,rfl,jV (by omega) (by omega),_,rfl,_,_,rfl,rfl,jV (by decide) (by decide),_,_,rfl,rfl,_,rfl,_,_,rfl,rfl,(by show(0:Int)<65537;decide),_,_,rfl,rfl,_,_,rfl,rfl,(by show(0:Int)<2147483587;decide),?_⟩;generalize hz2:(o * o+a * 7919+c % 65537)=z2;obtain⟨p1,p2⟩:=two z2;generalize z2 % 2147483587=q at p1 p2 ⊢;refine⟨_,rfl,_,rfl,_,_,rfl,rfl,jV (by omega) (by omega),_,rfl,_,_,rfl,rfl,jV (by decide) (by decide),_,_,rfl,rfl,_,_,rfl,rfl,_,_,rfl,rfl,(by show(0:Int)<2147483563;decide),?_⟩;generalize hz3:(q * q+o * 31+5)=z3;obtain⟨r1,r2⟩:=three z3;generalize z3 % 2147483563=r at r1 r2 ⊢;refine⟨_,rfl,_,_,rfl,rfl,jV (by decide) (by decide),_,rfl,_,_,rfl,rfl,_,_,rfl,rfl,jV (by decide) (by decide),_,rfl,_,_,rfl,rfl,k _ ?_⟩;omega
def o8:Sp:=fun vs H Q _=>∃p c,vs=[.ref p]/\eg H p c/\∀H',eg H' p c->cv p H H'->Q (.ref p) H'
theorem xz{K:Za}{vs:List V}{H:Hp}{Q:VK}{E:XK}(h:o8 vs H Q E):rX K (cp Q) (start tf vs) H:=by
 obtain⟨p,c,rfl,⟨a,r,ns,h⟩,k⟩:=h;refine⟨_,rfl,p,_,_,_,rfl,rfl,h.pen,rfl,_,rfl,k _ ⟨a,0,ns,aa,?_,h.at0,Int.le_refl 0⟩ (cv.upd _ _ _)⟩;rw[af h.ne];exact h.cells
theorem uy{ns:List Int}{a:Int}(h0:0<=a)(h1:a<ns.length):∃z,uz (ns.map V.int) a=some (.int z):=by
 obtain⟨n,rfl⟩:=hE h0;have hn:n<ns.length:=by omega
 exact⟨ns[n],dC (by simp[hn])⟩
inductive eL (vs:List V)(H:Hp)(Q:VK)(E:XK):Prop
 |mk (p c:Addr) (m:Int):(vs=[.ref p,.int m])->(eg H p c)->(0<m)->(m<1073741824)->(∀(r:Int) (H':Hp),0<=r->r<m->eg H' p c->cv p H H'->Q (.int r) H')->eL  vs H Q E
theorem dL{H:Hp}{Q:VK}{E:XK}{p c:Addr}{m:Int}(hp:eg H p c)(m0:0<m)(m1:m<1073741824)(k:∀(r:Int) (H':Hp),0<=r->r<m->eg H' p c->cv p H H'->Q (.int r) H'):eL [.ref p,.int m] H Q E:=by
 exact⟨p,c,m,rfl,hp,m0,m1,k⟩
theorem xu{K:Za}{vs:List V}{H:Hp}{Q:VK}{E:XK}(h:eL vs H Q E):rV K iB (cp Q) (start sZ vs) H:=by
 obtain⟨p,c,m,rfl,⟨a,r,ns,h⟩,hm,hm2,k⟩:=h;have fin:∀(H':Hp) (a' r':Int) (x y:Option V),uC H' p c a' r' ns->cv p H H' ->
   (au (aM (aI d7 (aI (cK K) V0 (tC (.int 2))) V1) U4) (au (aM (aI vY (aI (cK K) V0 (tC (.int 2))) V1) (mK V0 (tC (.int 2)) ic)) (ba V4)))
    (cp Q) [some (.ref p),some (.int m),x,y,none] H':=by
  intro H' a' r' x y h' ex;refine⟨_,rfl,p,_,2,_,rfl,rfl,aB.of h'.pen,rfl,_,rfl,_,_,rfl,rfl,hm,?_⟩;refine⟨_,rfl,p,_,2,_,rfl,rfl,aB.of h'.pen,rfl,_,rfl,_,_,rfl,rfl,⟨hm,hm2⟩,_,rfl,p,_,_,_,rfl,rfl,h'.pen,rfl,?_⟩;refine⟨_,rfl,k _ _ (j4 _ (by omega)) (j3 _ hm) ⟨a',_,ns,aa,?_,h'.at0,Int.ediv_nonneg h'.rest0 (by omega)⟩ (ex.trans (cv.upd _ _ _))⟩;rw[af h'.ne];exact h'.cells
 refine⟨_,rfl,p,_,2,_,rfl,rfl,aB.of h.pen,rfl,_,rfl,_,_,rfl,rfl,_,rfl,?_⟩;refine mI (fun h1=>?_) (fun h1=>?_)
 ·-- at=pen[1];cell=0;if at<len(pen[0])
  refine⟨_,rfl,p,_,1,_,rfl,rfl,aB.of h.pen,rfl,?_⟩;have la:(V.int ((ns.map V.int).length:Nat))=V.int (ns.length:Nat):=by rw[ap]
  refine⟨_,rfl,_,rfl,p,_,0,_,rfl,rfl,aB.of h.pen,rfl,.inl ⟨c,_,rfl,.inl (aB.of h.cells),_,_,rfl,la,_,rfl,?_⟩⟩;refine mI (fun h2=>?_) (fun h2=>?_)
  ·obtain⟨z,hz⟩:=uy (ns:=ns) h.at0 (of_decide_eq_true h2);refine⟨_,rfl,p,_,0,_,rfl,rfl,aB.of h.pen,rfl,_,rfl,c,_,_,_,rfl,rfl,aB.of h.cells,hz,?_⟩;refine⟨_,rfl,_,_,rfl,rfl,_,rfl,p,_,_,_,rfl,rfl,h.pen,rfl,?_⟩;refine⟨_,rfl,_,rfl,_,_,rfl,h.at0,fun q hq=>⟨_,rfl,p,_,_,_,rfl,rfl,aa,rfl,?_⟩⟩;rw[lE];refine fin _ (a+1) q _ _ ⟨aa,by rw[af h.ne];exact h.cells,by have:=h.at0;omega,hq⟩ (cv.upd _ _ _)
  ·refine⟨_,rfl,p,_,0,_,rfl,rfl,aB.of h.pen,rfl,.inl ⟨c,_,rfl,.inl (aB.of h.cells),_,_,la,rfl,_,rfl,?_⟩⟩;refine mI (fun h3=>?_) (fun h3=>?_)
   ·have hl:(0:Int)<ns.length:=of_decide_eq_true h3;obtain⟨z,hz⟩:=uy (ns:=ns) (a:=(a * 5+3) % (ns.length:Int)) (j4 _ (by omega)) (j3 _ hl);refine⟨_,rfl,p,_,0,_,rfl,rfl,aB.of h.pen,rfl,_,rfl,_,_,rfl,rfl,jV (by decide) (by decide),_,_,rfl,rfl,_,rfl,p,_,0,_,rfl,rfl,aB.of h.pen,rfl,.inl ⟨c,_,rfl,.inl (aB.of h.cells),_,_,rfl,la,hl,c,_,_,_,rfl,rfl,aB.of h.cells,hz,?_⟩⟩;refine⟨_,_,rfl,rfl,⟨by decide,by decide,by decide⟩,_,rfl,_,_,rfl,rfl,_,_,rfl,rfl,?_,?_⟩
    ·have e:((10:Int) ^ (17:Int).toNat)=100000000000000000:=by decide
     have:=h.at0;show(0:Int)<10 ^ (17:Int).toNat+a;omega
    refine⟨_,rfl,_,_,rfl,rfl,_,rfl,p,_,_,_,rfl,rfl,h.pen,rfl,?_⟩;refine⟨_,rfl,_,rfl,_,_,rfl,h.at0,fun q hq=>⟨_,rfl,p,_,_,_,rfl,rfl,aa,rfl,?_⟩⟩;rw[lE];refine fin _ (a+1) q _ _ ⟨aa,by rw[af h.ne];exact h.cells,by have:=h.at0;omega,hq⟩ (cv.upd _ _ _)
   ·refine⟨_,rfl,_,_,rfl,rfl,_,rfl,p,_,_,_,rfl,rfl,h.pen,rfl,?_⟩;refine⟨_,rfl,_,rfl,_,_,rfl,h.at0,fun q hq=>⟨_,rfl,p,_,_,_,rfl,rfl,aa,rfl,?_⟩⟩;rw[lE];refine fin _ (a+1) q _ _ ⟨aa,by rw[af h.ne];exact h.cells,by have:=h.at0;omega,hq⟩ (cv.upd _ _ _)
 ·exact fin H a r _ _ h (cv.refl _ _)
inductive lH(K:Za)(vs:List V)(H:Hp)(Q:VK)(E:XK):Prop
 |mk (a:Addr) (ns:List Int):(vs=[.ref a])->(aB K H a (ns.map V.int))->(ns.length<=63)->(∀(p c:Addr) (H':Hp),H p=none->eg H' p c->aj H H'->Q (.ref p) H')->lH K vs H Q E
theorem ol(ns:List Int)(lo hi:Option Int):∃ms:List Int,gq (ns.map V.int) lo hi=ms.map V.int/\ms.length=(gq (ns.map V.int) lo hi).length:=by
 refine⟨(ns.drop (HT.sIx (ns.map V.int).length 0 lo)).take (HT.sIx (ns.map V.int).length (ns.map V.int).length hi-HT.sIx (ns.map V.int).length 0 lo),?_,?_⟩
 ·unfold gq;rw[List.map_take,List.map_drop]
 ·unfold gq;rw[be,be,ff,ff,ap]
theorem xx{K:Za}{vs:List V}{H:Hp}{Q:VK}{E:XK}(h:lH K vs H Q E):rW K (cp Q) (start s_ vs) H:=by
 obtain⟨a,ns,rfl,hs,hn,k⟩:=h;obtain⟨c0,e0,l0⟩:=ol ns none (some 12);obtain⟨c1,e1,l1⟩:=ol ns (some 12) (some 63);have hlen:c1≠[]->c0.length=12:=by
  intro hne;have hc1:0<c1.length:=by cases c1 with|nil=>exact absurd rfl hne|cons _ _=>simp
  rw[l1]at hc1;rw[l0];unfold gq at hc1 ⊢;rw[be,ff,ap]at hc1;rw[be,ff,ap];have s1:HT.sIx ns.length 0 (some 12)=min 12 ns.length:=HT.sIx_nat _ _ 12;have s2:HT.sIx ns.length ns.length (some 12)=min 12 ns.length:=HT.sIx_nat _ _ 12;rw[HT.sIx_none,s2];rw[s1]at hc1;omega
 refine⟨_,rfl,_,rfl,a,_,rfl,hs,fun q hq=>.inl ⟨q,_,rfl,.inl (aB.of aa),fun c hc=>?_⟩⟩;rw[e0]at hc ⊢;have hcH:H c=none:=by
  have:c≠q:=fun z=>by subst z;rw[aa]at hc;cases hc
  rw[af this]at hc;exact hc
 have hS:aj H (upd (upd H q (.lst (c0.map V.int))) c (.lst (c0.map V.int))):=(aj.new hq).trans (aj.new hc);refine⟨_,rfl,_,rfl,_,rfl,a,_,rfl,hS.seq hs,fun r hr=>⟨r,rfl,⟨_,aB.of aa⟩,?_⟩⟩;rw[e1];have hcr:c≠r:=ai aa hr;refine io (xs:=c1.map V.int) (fun i σ H'=>∃(ms:List Int) (x y:Option V),σ=[some (.ref a),some (.ref c),x,y]/\H' c=some (.lst (ms.map V.int))/\ms.length=c0.length/\H' r=some (.lst (c1.map V.int))/\aj H H')
  ⟨c0,none,none,rfl,kp aa hr,rfl,aa,hS.trans (aj.new hr)⟩ (fun i σ H' _ ⟨ms,x,y,_,_,_,h,_⟩=>aB.of h) ?_ ?_
 ·rintro i x σ H' t hi ⟨ms,u,v,rfl,hcell,hml,hr',hS'⟩ ht;have hi':i<c1.length:=by
   have:=(cB.mp hi).1;rwa[ap]at this
  have h12:=hlen (fun z=>by rw[z]at hi';simp at hi');obtain⟨z,rfl⟩:∃z,x=V.int z:=by
   rw[cD,oA hi']at hi;exact⟨_,(cT hi).symm⟩
  have hcell1:upd H' t (.tup [.int i,.int z]) c=some (.lst (ms.map V.int)):=kp hcell ht;have hidx:(i:Int) % 12=((i % 12:Nat):Int):=by omega
  have hlt:i % 12<ms.length:=by omega
  refine⟨t,_,rfl,bM.of aa,rfl,_,_,rfl,_,_,rfl,rfl,?_⟩;have hat:uz (ms.map V.int) ((i:Int) % 12)=some (.int ms[i % 12]):=by rw[hidx];exact dC (by simp[hlt])
  refine⟨_,rfl,_,rfl,_,_,rfl,rfl,(by show(0:Int)<12;decide),c,_,_,_,rfl,rfl,aB.of hcell1,hat,_,rfl,_,_,rfl,rfl,_,rfl,_,rfl,_,_,rfl,rfl,(by show(0:Int)<12;decide),c,_,_,i % 12,rfl,rfl,hcell1,?_,?_⟩
  ·rw[hidx];unfold yF;rw[if_pos (by omega),if_pos (by rw[ap];omega)];rw[j8]
  ·refine⟨ms.set (i % 12) (ms[i % 12]+z),_,_,rfl,?_,by rw[mh];exact hml,?_,?_⟩
   ·rw[aa,List.map_set]
   ·rw[af hcr.symm];exact kp hr' ht
   ·intro b o e;rw[af (ai e hcH)];exact kp (hS' b o e) ht
 ·rintro σ H' ⟨ms,x,y,rfl,hcell,hml,hr',hS'⟩;refine⟨_,rfl,(by show 3<=am;decide),fun p hp=>k p c _ (hS'.free hp) ⟨0,0,ms,aa,kp hcell hp,Int.le_refl _,Int.le_refl _⟩ (hS'.trans (aj.new hp))⟩
def pC(c:Nat):Prop:=97<=c/\c<=122
structure kD(w:Str):Prop where
 lo:1<=w.length
 hi:w.length<=8
 al:∀c∈w.cps.toList,pC c
theorem uB:∀n:Nat,n<26->(("abcdefghijklmnopqrstuvwxyz":Str).cps.toList)[n]?=some (97+n):=by decide +kernel
theorem uA:("abcdefghijklmnopqrstuvwxyz":Str).length<=am:=by decide +kernel
theorem wN{r:Int}(h0:0<=r)(h1:r<26):uz (("abcdefghijklmnopqrstuvwxyz":Str).cps.toList) r=some (97+r.toNat):=by
 obtain⟨n,rfl⟩:=hE h0;rw[j8];exact dC (uB n (by omega))
theorem nC(cs:List Nat):∀acc:Array Nat,((cs.map fun c=>(⟨#[c]⟩:Str)).foldl (fun acc p=>acc++("":Str).cps++p.cps) acc).toList=acc.toList++cs:=by
 have e:("":Str).cps=#[]:=by decide +kernel
 induction cs with
 |nil=>intro acc;simp
 |cons c cs ih =>
  intro acc;rw[aN,List.foldl_cons,ih,e];simp
theorem sK(cs:List Nat):(oB "" (cs.map fun c=>(⟨#[c]⟩:Str))).cps.toList=cs:=by
 unfold oB c9.Str.glued;cases cs with
 |nil=>rfl
 |cons c cs =>
  rw[aN];show((cs.map fun c=>(⟨#[c]⟩:Str)).foldl (fun acc p=>acc++("":Str).cps++p.cps) #[c]).toList=_;rw[nC]
  rfl
theorem xm{a b:Str}(h:a.cps.toList=b.cps.toList):a=b:=by
 cases a with|mk x=>cases b with|mk y=>exact congrArg Str.mk (Array.toList_inj.mp h)
theorem cW(a:Str):a.length=a.cps.toList.length:=by simp[Str.length]
theorem pX(a b:Str):(a++b).cps.toList=a.cps.toList++b.cps.toList:=by
 show(a.cps++b.cps).toList=_;simp
theorem wH(z:Str)(m:Nat):(mQ z none (some (m:Int))).cps.toList=z.cps.toList.take m:=by
 unfold mQ;rw[HT.sIx_none,HT.sIx_nat,lZ,Nat.sub_zero,cW];show List.take _ _=_;rw[List.take_eq_take_iff];omega
theorem wI(z:Str)(m:Nat):(mQ z (some (m:Int)) none).cps.toList=z.cps.toList.drop m:=by
 unfold mQ;rw[HT.sIx_none,HT.sIx_nat,cW];show List.take _ _=_;rw[List.take_of_length_le (by rw[ff];omega)];by_cases h:m<=z.cps.toList.length
 ·rw[Nat.min_eq_left h]
 ·rw[Nat.min_eq_right (by omega),List.drop_length,oz (by omega)]
def cO(way size k:Nat):Nat:=(size+k * (way % 2)) % 8
def rL(way m:Nat):Nat:=if way=0 then 0 else if way=1 then m else m / 2
def iS(b:List Nat)(way turn size k:Nat):List Nat :=
 (b.take (cO way size k)).take (rL way (cO way size k))++[97+(turn+3 * k) % 26]++(b.take (cO way size k)).drop (rL way (cO way size k))
def qw(b:List Nat)(way turn size k:Nat):Str:=⟨(iS b way turn size k).toArray⟩
theorem j9{b:List Nat}(hb:b.length=7)(way turn size k:Nat):(iS b way turn size k).length=cO way size k+1:=by
 have h8:cO way size k<8:=lX _ (by decide);unfold iS;rw[bC,bC,be,ff,be,hb];have:rL way (cO way size k)<=cO way size k:=by unfold rL;split;omega;split;omega;omega
 simp;omega
theorem w8{b:List Nat}(hb:b.length=7)(hl:∀c∈b,pC c)(way turn size k:Nat):kD (qw b way turn size k):=by
 have h8:cO way size k<8:=lX _ (by decide);have hlen:=j9 hb way turn size k;have e:(qw b way turn size k).cps.toList=iS b way turn size k:=by simp[qw]
 refine⟨?_,?_,?_⟩
 ·rw[cW,e];omega
 ·rw[cW,e];omega
 ·rw[e];intro c hc;unfold iS at hc;rcases bZ.mp hc with hc|hc
  ·rcases bZ.mp hc with hc|hc
   ·exact hl c (hC (hC hc))
   ·have:c=97+(turn+3 * k) % 26:=by simpa using hc
    subst this;have:(turn+3 * k) % 26<26:=lX _ (by decide);exact⟨by omega,by omega⟩
  ·exact hl c (hC (List.mem_of_mem_drop hc))
theorem vE{b:List Nat}(hb:b.length=7){way turn size:Nat}(hw:way<3){j k:Nat}(hj:j<26)(hk:k<26)(h:qw b way turn size j=qw b way turn size k):j=k:=by
 have h8:∀i,cO way size i<8:=fun i=>lX _ (by decide);have e:iS b way turn size j=iS b way turn size k:=by
  have:=congrArg (fun s=>Str.cps s |>.toList) h;simpa[qw]using this
 have el:cO way size j=cO way size k:=by
  have:=congrArg List.length e;rw[j9 hb,j9 hb]at this;omega
 have key:97+(turn+3 * j) % 26=97+(turn+3 * k) % 26:=by
  have hat:∀i,rL way (cO way size i)<=cO way size i:=fun i=>by unfold rL;split;omega;split;omega;omega
  have get:∀i,(iS b way turn size i)[rL way (cO way size i)]?=some (97+(turn+3 * i) % 26):=by
   intro i;unfold iS;have hl:((b.take (cO way size i)).take (rL way (cO way size i))).length=rL way (cO way size i):=by
    rw[be,be,hb];have:=h8 i;have:=hat i;omega
   rw[lW,nI (by omega),hl,Nat.sub_self]
   rfl
  have g1:=get j;have g2:=get k;rw[e,el]at g1;rw[g1]at g2;exact cT g2
 omega
def dZ(ws:Zb):Prop:=ws.Nodup/\∀w∈ws,kD w
def gv(b:List Nat)(way turn size n:Nat):List Str:=(jA n).map (qw b way turn size)
theorem rP{b:List Nat}(hb:b.length=7)(hl:∀c∈b,pC c){way turn size n:Nat}(hw:way<3)(hn:n<=26):dZ (gv b way turn size n):=by
 refine⟨?_,fun w hm=>?_⟩
 ·unfold gv;rw[List.nodup_iff_pairwise_ne,List.pairwise_map];refine(List.nodup_range (n:=n)).imp_of_mem ?_;intro j k hj hk hne h;exact hne (vE hb hw (by have:=List.mem_range.mp hj;omega) (by have:=List.mem_range.mp hk;omega) h)
 ·obtain⟨k,_,rfl⟩:=bB.mp hm;exact w8 hb hl _ _ _ _
inductive jH (vs:List V)(H:Hp)(Q:VK)(E:XK):Prop
 |mk (p c:Addr) (n:Nat):(vs=[.ref p,.int n])->(eg H p c)->(n<=26)->(∀(l:Addr) (ws:Zb) (H':Hp),dZ ws->ws.length=n->H l=none->H' l=some (.lst (ws.map V.str))->eg H' p c->cv p H H'->Q (.ref l) H')->jH  vs H Q E
theorem vS{K:Za}{vs:List V}{H:Hp}{Q:VK}{E:XK}(h:jH vs H Q E):qE K eL (cp Q) (start rH vs) H:=by
 obtain⟨p,c,n,rfl,hp,hn,k⟩:=h;refine⟨rfl,7,rfl,by decide,by decide,fun l hl=>?_⟩;refine mR (lo:=0) (n:=Int.toNat 7) (fun i vs H'=>∃cs:List Nat,vs=cs.map (fun c=>V.str ⟨#[c]⟩)/\cs.length=i/\(∀c∈cs,pC c)/\eg H' p c/\cv p H H'/\H' l=some (.lst vs))
  ⟨[],rfl,rfl,(fun _ h=>nomatch h),hp.ex (aj.new hl),cv.new hl,aa⟩ (fun i vs H' _ ⟨_,_,_,_,_,_,h⟩=>h) ?_ ?_
 rotate_left
 ·rintro i vs H' hi ⟨cs,rfl,hlen,hlet,hp',hex,hl'⟩;have hlp:=hp.nep hl;have hlc:=hp.nec hl;refine gN (oT ?_);refine⟨_,rfl,_,rfl,dL hp' (by decide) (by decide) fun r H2 h0 h1 hp2 hex2=>⟨_,r,_,rfl,rfl,uA,wN h0 h1,?_⟩⟩;have hl2:=hex2 l _ hl' hlp.symm;refine⟨hl2,by rw[ap,hlen];exact aY (by omega),qV hi ⟨cs++[97+r.toNat],by rw[aL];rfl,by rw[bC,hlen];rfl,?_,hp2.upd hlp hlc,?_,aa⟩⟩
  ·intro x hc;rcases bZ.mp hc with hc|hc
   ·exact hlet x hc
   ·have:x=97+r.toNat:=by simpa using hc
    subst this;exact⟨by omega,by omega⟩
  ·intro b o' e nb;rw[af (ai e hl)];exact hex2 b o' (hex b o' e nb) nb
 ·rintro vs H1 ⟨cs,rfl,hlen,hlet,hp1,hex1,hl1⟩;refine⟨"",l,cs.map fun c=>(⟨#[c]⟩:Str),rfl,rfl,aB.of (by rw[hl1,j1];rfl),?_,?_⟩
  ·have e0:("":Str).length=0:=by decide +kernel
   rw[e0,Nat.mul_zero,j1];have:∀cs:List Nat,(cs.map ((fun x=>Str.length x) ∘ fun c=>(⟨#[c]⟩:Str))).sum=cs.length:=by
    intro cs
    induction cs with
    |nil=>rfl
    |cons c cs ih=>rw[aN,List.sum_cons,ih,eZ];show 1+_=_;omega
   rw[this,hlen];decide
  refine⟨_,rfl,dL hp1 (by decide) (by decide) fun way H2 w0 w1 hp2 hex2=>?_⟩;refine⟨_,rfl,dL hp2 (by decide) (by decide) fun turn H3 t0 t1 hp3 hex3=>?_⟩;refine⟨_,rfl,dL hp3 (by decide) (by decide) fun size H4 s0 s1 hp4 hex4=>?_⟩;have ex4:cv p H H4:=((hex1.trans hex2).trans hex3).trans hex4;obtain⟨wy,rfl⟩:=hE w0;obtain⟨tn,rfl⟩:=hE t0;obtain⟨sz,rfl⟩:=hE s0;have hb:=sK cs;generalize oB "" (cs.map fun c=>(⟨#[c]⟩:Str))=base at hb ⊢;refine⟨(by show 0<=am;decide),fun f hf=>?_⟩;obtain⟨op,hop⟩:=hp4.pen;have hfH:H f=none:=ex4.free hop hf;have hfp:=hp.nep hfH;have hfc:=hp.nec hfH;refine⟨_,rfl,n,rfl,by omega,by omega,gj (lo:=0) (n:=((n:Int)).toNat) (fun i σ H'=>∃(a b c' d:Option V),σ=[some (.ref p),some (.int n),some (.str "abcdefghijklmnopqrstuvwxyz"),some (.str base),some (.int wy),some (.int tn),some (.int sz),some (.ref f),a,b,c',d] /\
   eg H' p c/\cv p H H'/\H' f=some (.lst ((gv cs wy tn sz i).map V.str)))
   ⟨_,_,_,_,rfl,hp4.upd hfp hfc,ex4.trans (cv.new hf),aa⟩ ?_ ?_⟩
  ·rintro i σ H' hi ⟨a,b,c',d,rfl,hp',hex',hf'⟩;have hi':i<n:=by omega
   have hwy:wy<3:=by omega
   have e26:((tn:Int)+3 * (0+(i:Int))) % 26=(((tn+3 * i) % 26:Nat):Int):=by omega
   refine⟨_,rfl,_,rfl,_,rfl,_,_,rfl,rfl,.inl ⟨by decide,by decide⟩,_,_,rfl,rfl,_,_,rfl,rfl,(by show(0:Int)<26;decide),_,_,_,rfl,rfl,uA,wN (j4 _ (by decide)) (j3 _ (by decide)),?_⟩;have blen:base.length<=am:=by rw[cW,hb,hlen];decide
   have e8:((sz:Int)+(0+(i:Int)) * ((wy:Int) % 2)) % 8=((cO wy sz i:Nat):Int):=by
    unfold cO;have:wy=0∨wy=1∨wy=2:=by omega
    rcases this with rfl|rfl|rfl<;>simp<;>omega
   refine⟨_,rfl,_,rfl,_,rfl,_,rfl,_,_,rfl,rfl,(by show(0:Int)<2;decide),_,_,rfl,rfl,.inr ⟨by omega,by omega⟩,_,_,rfl,rfl,_,_,rfl,rfl,(by show(0:Int)<8;decide),_,rfl,base,rfl,blen,?_⟩;rw[e8];have hpart:=wH base (cO wy sz i);rw[hb]at hpart;generalize mQ base none (some ((cO wy sz i:Nat):Int))=part at hpart ⊢;have h8:cO wy sz i<8:=lX _ (by decide);have plen:part.length=cO wy sz i:=by rw[cW,hpart,be,hlen];omega
   have pz:part.length<=am:=by rw[plen];exact f8 (aY (by omega))
   refine⟨_,rfl,.inr ⟨part,rfl,pz,_,rfl,.inr ⟨part,rfl,pz,_,_,rfl,rfl,⟨by decide,by decide⟩,(by show 3<=am;decide),fun q hq=>?_⟩⟩⟩;have hqH:H q=none:=by
    obtain⟨op',hop'⟩:=hp'.pen;exact hex'.free hop' hq
   have hat:uz [V.int 0,V.int (part.length:Nat),V.int ((part.length:Int) / 2)] (wy:Int)=some (.int (rL wy (cO wy sz i):Nat)):=by
    rw[plen];have:wy=0∨wy=1∨wy=2:=by omega
    rcases this with rfl|rfl|rfl
    ·rfl
    ·rfl
    ·show some (V.int (((cO 2 sz i:Nat):Int) / 2))=some (V.int ((rL 2 (cO 2 sz i):Nat):Int));have:rL 2 (cO 2 sz i)=cO 2 sz i / 2:=rfl;rw[this];congr 2
   refine⟨_,rfl,q,_,_,_,rfl,rfl,aB.of aa,hat,?_⟩;have hf2:upd H' q (.lst [V.int 0,V.int (part.length:Nat),V.int ((part.length:Int) / 2)]) f=some (.lst ((gv cs wy tn sz i).map V.str)):=kp hf' hq;have c1:=wH part (rL wy (cO wy sz i));have c2:=wI part (rL wy (cO wy sz i));have l1:(mQ part none (some ((rL wy (cO wy sz i):Nat):Int))).length<=8:=by rw[cW,c1,be,hpart,be,hlen];omega
   have l2:(mQ part (some ((rL wy (cO wy sz i):Nat):Int)) none).length<=8:=by rw[cW,c2,ff,hpart,be,hlen];omega
   refine⟨_,rfl,.inl ⟨rfl,_,aB.of hf2⟩,_,rfl,_,rfl,_,rfl,part,rfl,pz,_,rfl,_,_,rfl,rfl,?_,_,rfl,_,rfl,_,rfl,part,rfl,pz,_,_,rfl,rfl,?_,f,_,_,rfl,rfl,hf2,?_,?_⟩
   ·have:Str.length ⟨#[97+(((tn:Int)+3 * (0+(i:Int))) % 26).toNat]⟩=1:=rfl;rw[this];exact f8 (aY (by omega))
   ·rw[cW,pX,bC,<-cW,<-cW];have:Str.length ⟨#[97+(((tn:Int)+3 * (0+(i:Int))) % 26).toNat]⟩=1:=rfl;rw[this];exact f8 (aY (by omega))
   ·rw[ap];unfold gv;rw[ap,List.length_range];exact aY (by omega)
   ·refine⟨_,_,_,_,rfl,(hp'.upd (hp.nep hqH) (hp.nec hqH)).upd hfp hfc,?_,?_⟩
    ·intro b' o' e nb;rw[af (ai e hfH)];exact kp (hex' b' o' e nb) hq
    ·rw[aa];unfold gv;rw[List.range_succ,aL,aL];congr 3;show[V.str _]=[V.str _];congr 2;refine xm ?_;rw[pX,pX,c1,c2,hpart,e26,j8];simp[qw,iS]
  ·rintro σ H' ⟨a,b,c',d,rfl,hp',hex',hf'⟩;have en:((n:Int)).toNat=n:=by omega
   rw[en]at hf';exact⟨_,rfl,k f _ H' (rP hlen hlet (by omega) hn) (by unfold gv;rw[ap,List.length_range]) hfH hf' hp' hex'⟩
structure av where
 a:Str
 sg:List Str
 b:Str
deriving DecidableEq
def SignAt(H:Hp)(s:Addr)(sg:Zb):Prop:=H s=some (.tup (sg.map V.str))
def eB(H:Hp)(t:Addr)(d:av):Prop:=∃s,H t=some (.tup [.str d.a,.ref s,.str d.b])/\SignAt H s d.sg
def p_(H H':Hp):Prop:=∀b xs,H b=some (.tup xs)->H' b=some (.tup xs)
theorem eB.kt{H H':Hp}{t:Addr}{d:av}(k:p_ H H')(h:eB H t d):eB H' t d:=by
 obtain⟨s,h1,h2⟩:=h;exact⟨s,k _ _ h1,k _ _ h2⟩
theorem cv.kt{p:Addr}{H H':Hp}{xs:List V}(e:cv p H H')(hp:H p=some (.lst xs)):p_ H H':=fun b ys h=>e b _ h (fun z=>by rw[z,hp]at h;cases h)
theorem aj.kt{H H':Hp}(e:aj H H'):p_ H H':=fun b ys h=>e b _ h
theorem p_.trans{H H1 H2:Hp}(a:p_ H H1)(b:p_ H1 H2):p_ H H2:=fun x xs h=>b x xs (a x xs h)
theorem fu{H:Hp}{l:Addr}{xs:List V}{o:HO}(h:H l=some (.lst xs)):p_ H (upd H l o):=fun b ys e=>by
 rw[af (fun z=>by rw[z,h]at e;cases e)];exact e
abbrev bF(H:Hp)(ts:Ze)(ds:List av):Prop:=Paired (eB H) ts ds
theorem Paired.get{α β:Type}{R:α->β->Prop}:∀{xs:List α}{ys:List β}{i:Nat}{y:β},Paired R xs ys->ys[i]?=some y->∃x,xs[i]?=some x/\R x y
 |_,_,i,y,.nil,h=>by simp at h
 |_,_,0,y,.cons r t,h=>by simp at h;subst h;exact⟨_,rfl,r⟩
 |_,_,i+1,y,.cons r t,h=>by
  simp at h;obtain⟨x,h1,h2⟩:=Paired.get t h;exact⟨x,by simpa using h1,h2⟩
theorem Paired.getL{α β:Type}{R:α->β->Prop}:∀{xs:List α}{ys:List β}{i:Nat}{x:α},Paired R xs ys->xs[i]?=some x->∃y,ys[i]?=some y/\R x y
 |_,_,i,y,.nil,h=>by simp at h
 |_,_,0,y,.cons r t,h=>by simp at h;subst h;exact⟨_,rfl,r⟩
 |_,_,i+1,y,.cons r t,h=>by
  simp at h;obtain⟨x,h1,h2⟩:=Paired.getL t h;exact⟨x,by simpa using h1,h2⟩
theorem bF.kt{H H':Hp}{ts:Ze}{ds:List av}(k:p_ H H')(h:bF H ts ds):bF H' ts ds:=Paired.mapP h fun _ _ r=>r.kt k
theorem yQ{H:Hp}{a:Addr}{o:HO}(h:H a=some o):upd H a o=H:=by
 funext b;by_cases e:b=a
 ·subst e;rw[aa,h]
 ·rw[af e]
def dF(x:Str):DT:=.k (.inr x)
def iu(d:av):DT:=.t [dF d.a,.t (d.sg.map dF),dF d.b]
theorem lK{x y:Str}(h:dF x=dF y):x=y:=by
 unfold dF at h;injection h with h;injection h
theorem fL:∀{x y:Zb},x.map dF=y.map dF->x=y
 |[],[],_=>rfl
 |[],_::_,h=>by cases h
 |_::_,[],h=>by cases h
 |a::x,b::y,h=>by
  rw[aN,aN]at h;injection h with h1 h2;rw[lK h1,fL h2]
theorem yb{x y:av}(h:iu x=iu y):x=y:=by
 unfold iu at h;injection h with h;injection h with h1 h;injection h with h2 h;injection h with h3 h;injection h2 with h2;cases x;cases y;simp only at *;rw[lK h1,fL h2,lK h3]
theorem gp(xs:Zb):DT.depths (xs.map dF)=0:=by
 induction xs with
 |nil=>rfl
 |cons x xs ih=>rw[aN];show max (DT.depth (dF x)) (DT.depths _)=0;rw[ih];rfl
theorem lO(d:av):(iu d).depth=2:=by
 show DT.depths [dF d.a,.t (d.sg.map dF),dF d.b]+1=2;show max (DT.depth (dF d.a)) (max (DT.depths (d.sg.map dF)+1) (max (DT.depth (dF d.b)) 0))+1=2;rw[gp]
 rfl
theorem vf(ds:List av):DT.depths (ds.map iu)<=8:=by
 induction ds with
 |nil=>exact cj _
 |cons x xs ih=>rw[aN];show max (DT.depth (iu x)) (DT.depths _)<=8;rw[lO];omega
theorem kr{K:Za}{H:Hp}:∀xs:List Str,DIns K H (xs.map dF) (xs.map V.str)
 |[]=>by show DIns K H [] [];unfold DIns;rfl
 |x::xs=>by
  rw[aN,aN];unfold DIns;refine⟨_,_,rfl,?_,kr xs⟩;unfold dF fG
  rfl
theorem uw{K:Za}{H:Hp}(x:Str):fG K H (dF x) (.str x):=by unfold dF fG;rfl
theorem mP{K:Za}{H:Hp}{s:Addr}{sg:Zb}(h:bM K H s (sg.map V.str)):fG K H (.t (sg.map dF)) (.ref s):=by
 unfold fG;exact⟨s,_,rfl,h,kr _⟩
theorem eB.dIn{K:Za}{H:Hp}{t:Addr}{d:av}(h:eB H t d):fG K H (iu d) (.ref t):=by
 obtain⟨s,h1,h2⟩:=h;unfold iu;unfold fG;refine⟨t,_,rfl,bM.of h1,?_⟩;unfold DIns;refine⟨_,_,rfl,uw _,?_⟩;unfold DIns;refine⟨_,_,rfl,mP (bM.of h2),?_⟩;unfold DIns;refine⟨_,_,rfl,uw _,?_⟩;unfold DIns
 rfl
theorem bF.dIns{K:Za}{H:Hp}:∀{ts:Ze}{ds:List av},bF H ts ds->DIns K H (ds.map iu) (ts.map V.ref)
 |_,_,.nil=>by show DIns K H [] [];unfold DIns;rfl
 |_,_,.cons r t=>by
  rw[aN,aN];unfold DIns;exact⟨_,_,rfl,r.dIn,bF.dIns t⟩
theorem ud{d:av}{ds:List av}:iu d∈ds.map iu↔d∈ds:=by
 constructor
 ·intro h;obtain⟨x,hx,e⟩:=bB.mp h;rw[<-yb e];exact hx
 ·exact List.mem_map_of_mem
def sy(ds:List av)(d:av):List av:=if d∈ds then ds else ds++[d]
inductive my (vs:List V)(H:Hp)(Q:VK)(E:XK):Prop
 |mk (l t:Addr) (ts:Ze) (ds:List av) (d:av):(vs=[.ref l,.ref t])->(H l=some (.lst (ts.map V.ref)))->(bF H ts ds)->(eB H t d)->(ds.length<=1000)->(∀ts':List Addr,bF H ts' (sy ds d)->Q .non (upd H l (.lst (ts'.map V.ref))))->my  vs H Q E
theorem yW{K:Za}{vs:List V}{H:Hp}{Q:VK}{E:XK}(h:my vs H Q E):uM K (cp Q) (start vq vs) H:=by
 obtain⟨l,t,ts,ds,d,rfl,hl,hd,ht,hz,k⟩:=h;refine⟨_,rfl,_,rfl,iu d,ds.map iu,l,_,ht.dIn,rfl,.inl (aB.of hl),hd.dIns,by rw[lO];decide,vf ds,_,rfl,?_⟩;by_cases hm:d∈ds
 ·rw[if_pos rfl,zzr1 (ud.mpr hm)];refine bj ?_;have:=k ts (by unfold sy;rw[if_pos hm];exact hd);rw[yQ hl]at this;exact this
 ·rw[if_pos rfl,zzr0 (fun z=>hm (ud.mp z))];refine bY ?_;refine⟨_,rfl,.inl ⟨rfl,_,aB.of hl⟩,_,rfl,l,_,_,rfl,rfl,hl,?_,?_⟩
  ·rw[ap,Paired.length hd];exact aY hz
  ·have:=k (ts++[t]) (by unfold sy;rw[if_neg hm];exact oN hd ht);rw[aL]at this;exact this
structure DI(R:av->Prop)(H0:Hp)(p c l:Addr)(m:Nat)(H:Hp):Prop where
 pen:eg H p c
 ds:∃ts ds,H l=some (.lst (ts.map V.ref))/\bF H ts ds/\ds.Nodup/\(∀d∈ds,R d)/\ds.length<=m
 ex:cv p H0 H
 fr:H0 l=none
 pl:p≠l
 cl:c≠l
section
variable{R:av->Prop}{H0 H H':Hp}{p c l:Addr}{m:Nat}
theorem eg.lst{H:Hp}{p c:Addr}(h:eg H p c):∃xs,H p=some (.lst xs):=by
 obtain⟨a,r,ns,h1,_⟩:=h;exact⟨_,h1⟩
theorem DI.took(h:DI R H0 p c l m H)(hp:eg H' p c)(e:cv p H H'):DI R H0 p c l m H':=by
 obtain⟨ts,ds,h1,h2,h3⟩:=h.ds;obtain⟨xs,hx⟩:=h.pen.lst;exact⟨hp,⟨ts,ds,e _ _ h1 h.pl.symm,h2.kt (e.kt hx),h3⟩,h.ex.trans e,h.fr,h.pl,h.cl⟩
theorem DI.new(h:DI R H0 p c l m H){q:Addr}{o:HO}(hq:H q=none):DI R H0 p c l m (upd H q o) :=
 h.took (h.pen.ex (aj.new hq)) (cv.new hq)
theorem DI.up(h:DI R H0 p c l m H){n:Nat}(hn:m<=n):DI R H0 p c l n H:=by
 obtain⟨ts,ds,h1,h2,h3,h4,h5⟩:=h.ds;exact⟨h.pen,⟨ts,ds,h1,h2,h3,h4,cn h5 hn⟩,h.ex,h.fr,h.pl,h.cl⟩
theorem DI.put(h:DI R H0 p c l m H){t:Addr}{d:av}{Q:VK}{E:XK}(ht:eB H t d)(hR:R d)(hm:m<=1000)(k:∀H',DI R H0 p c l (m+1) H'->Q .non H'):my [.ref l,.ref t] H Q E:=by
 obtain⟨ts,ds,h1,h2,h3,h4,h5⟩:=h.ds;refine⟨l,t,ts,ds,d,rfl,h1,h2,ht,cn h5 hm,fun ts' h'=>k _ ⟨h.pen.upd h.pl h.cl,⟨ts',sy ds d,aa,h'.kt (fu h1),?_,?_,?_⟩,?_,h.fr,h.pl,h.cl⟩⟩
 ·unfold sy;split
  ·exact h3
  ·next hn =>
   rw[dI];refine⟨h3,by simp,?_⟩;intro a ha b hb e;have:b=d:=by simpa using hb
   subst this;exact hn (e▸ha)
 ·intro x hx;unfold sy at hx;split at hx
  ·exact h4 x hx
  ·rcases bZ.mp hx with hx|hx
   ·exact h4 x hx
   ·have:x=d:=by simpa using hx
    rw[this];exact hR
 ·unfold sy;split
  ·omega
  ·rw[bC];show ds.length+1<=m+1;omega
 ·intro b o e n;rw[af (ai e h.fr)];exact h.ex b o e n
end
theorem eg.ne_strs{H:Hp}{p c a:Addr}{ws:Zb}(hp:eg H p c)(ha:H a=some (.lst (ws.map V.str))):a≠p:=by
 intro e;obtain⟨x,y,ns,h1,_⟩:=hp;rw[e,h1]at ha;injection ha with ha;injection ha with ha;cases ws with
 |nil=>cases ha
 |cons w ws=>injection ha with ha;cases ha
theorem lL{K:Za}{r:R2}(hr:∀x y H Q,cK K x y H Q->r x y H Q){σ:L2.St}{H:Hp}{Q:VK}{p c a:Addr}{j:Nat}{ws:Zb}(h0:σ[0]?=some (some (.ref p)))(hj:σ[j]?=some (some (.ref a)))(hp:eg H p c)
  (ha:H a=some (.lst (ws.map V.str))) (hne:ws≠[]) (hlen:ws.length<=1000) (k:∀w∈ws,∀H',eg H' p c->cv p H H'->Q (.str w) H') :
  ∃v,σ[j]?=some (some v)/\∃v0,σ[0]?=some (some v0)/\∃v1,σ[j]?=some (some v1)/\fE K [v1] H fun y H1=>eL [v0,y] H1 (fun y H2=>r v y H2 Q) E0:=by
 have hl:0<ws.length:=by cases ws with|nil=>exact absurd rfl hne|cons _ _=>simp
 have la:(V.int ((ws.map V.str).length:Nat))=V.int (ws.length:Nat):=by rw[ap]
 have hpa:=hp.ne_strs ha;have fin:∀(x:Int) (H':Hp),0<=x->x<(ws.length:Int)->eg H' p c->cv p H H'->cK K (.ref a) (.int x) H' Q:=by
  intro x H' x0 x1 hp' ex;obtain⟨n,rfl⟩:=hE x0;have hn:n<ws.length:=by omega
  exact⟨a,_,(n:Int),.str ws[n],rfl,rfl,aB.of (ex _ _ ha hpa),dC (by simp[hn]),k _ (List.getElem_mem hn) H' hp' ex⟩
 exact⟨_,hj,_,h0,_,hj,.inl ⟨a,_,rfl,.inl (aB.of ha),by rw[la];exact dL hp (by omega) (by omega) fun x H' x0 x1 hp' ex=>hr _ _ _ _ (fin x H' x0 x1 hp' ex)⟩⟩
def Up(up:Bool)(rooms:Zb)(a b:Str):Prop:=∃i j:Nat,rooms[i]?=some a/\rooms[j]?=some b/\(if up=true then i<j else j<i)
structure iy(asks says rooms:Zb)(up:Bool)(d:av):Prop where
 a:d.a∈rooms
 b:d.b∈rooms
 sg:(∃w∈asks,d.sg=[("ask":Str),w])∨(∃w∈says,d.sg=[("say":Str),w])∨(d.sg=[("still":Str)]/\Up up rooms d.a d.b)
def bb:List Str:=[("still":Str)]
structure wU(asks says rooms:Zb)(d:av):Prop where
 a:d.a∈rooms
 b:d.b∈rooms
 sg:(∃w∈asks,d.sg=[("ask":Str),w])∨(∃w∈says,d.sg=[("say":Str),w])∨d.sg=bb
theorem iy.d{asks says rooms:Zb}{up:Bool}{d:av}(h:iy asks says rooms up d):wU asks says rooms d:=⟨h.a,h.b,h.sg.imp id (Or.imp id And.left)⟩
inductive Reach(ds:List av)(a:Str):Str->Prop
 |one {b:Str}(h:(⟨a,bb,b⟩:av)∈ds):Reach ds a b
 |step {b c:Str}(r:Reach ds a b) (h:(⟨b,bb,c⟩:av)∈ds):Reach ds a c
theorem ui{rooms:Zb}(nd:rooms.Nodup){i j:Nat}{a:Str}(hi:rooms[i]?=some a)(hj:rooms[j]?=some a):i=j:=by
 obtain⟨h1,e1⟩:=cB.mp hi;obtain⟨h2,e2⟩:=cB.mp hj;have pw:=List.pairwise_iff_getElem.mp nd;rcases Nat.lt_trichotomy i j with h|h|h
 ·exact absurd (e1.trans e2.symm) (pw i j h1 h2 h)
 ·exact h
 ·exact absurd (e2.trans e1.symm) (pw j i h2 h1 h)
theorem Up.trans{up:Bool}{rooms:Zb}(nd:rooms.Nodup){a b c:Str}(h1:Up up rooms a b)(h2:Up up rooms b c):Up up rooms a c:=by
 obtain⟨i,j,e1,e2,h⟩:=h1;obtain⟨j',k,e3,e4,h'⟩:=h2;have:=ui nd e2 e3;subst this;refine⟨i,k,e1,e4,?_⟩;cases up
 ·simp at h h' ⊢;omega
 ·simp at h h' ⊢;omega
theorem Up.irr{up:Bool}{rooms:Zb}(nd:rooms.Nodup){a:Str}(h:Up up rooms a a):False:=by
 obtain⟨i,j,e1,e2,h⟩:=h;have:=ui nd e1 e2;subst this;cases up
 ·simp at h
 ·simp at h
theorem vG{asks says rooms:Zb}{ds:List av}{up:Bool}(nd:rooms.Nodup)(m:∀d∈ds,iy asks says rooms up d){a b:Str}(h:Reach ds a b):Up up rooms a b:=by
 have edge:∀{a b:Str},(⟨a,bb,b⟩:av)∈ds->Up up rooms a b:=by
  intro a b h;rcases(m _ h).sg with⟨w,_,e⟩|⟨w,_,e⟩|⟨_,e⟩
  ·cases e
  ·cases e
  ·exact e
 induction h with
 |one h=>exact edge h
 |step r h ih=>exact ih.trans nd (edge h)
inductive dW (vs:List V)(H:Hp)(Q:VK)(E:XK):Prop
 |mk (p c l1 l2 l3:Addr) (asks says rooms:Zb) (full:Int):(vs=[.ref p,.ref l1,.ref l2,.ref l3,.int full])->(eg H p c)->(H l1=some (.lst (asks.map V.str)))->(H l2=some (.lst (says.map V.str)))->(H l3=some (.lst (rooms.map V.str)))->(asks.length<=4)->(says≠[])->(says.length<=4)->(rooms≠[])->(rooms.length<=26)->(0<=full)->(full<=2)->(∀(l:Addr) (ts:Ze) (ds:List av) (up:Bool) (H':Hp),H l=none->H' l=some (.lst (ts.map V.ref))->bF H' ts ds->ds.Nodup->(∀d∈ds,iy asks says rooms up d)->ds.length<=600->eg H' p c->cv p H H'->Q (.ref l) H')->dW  vs H Q E
theorem As{x r:Int}(x0:0<=x)(x2:x<=2)(r0:0<=r)(r4:r<4):∃j:Int,uz [V.int x,.int 1,.int 1,.int 2] r=some (.int j)/\0<=j/\j<=2:=by
 have:r=0∨r=1∨r=2∨r=3:=by omega
 rcases this with rfl|rfl|rfl|rfl
 ·exact⟨x,rfl,x0,x2⟩
 ·exact⟨1,rfl,by decide,by decide⟩
 ·exact⟨1,rfl,by decide,by decide⟩
 ·exact⟨2,rfl,by decide,by decide⟩
theorem vi(ws:Zb)(k:Nat):gq (ws.map V.str) (some (k:Int)) none=(ws.drop k).map V.str:=by
 unfold gq;rw[HT.sIx_none,HT.sIx_nat,ap,List.take_of_length_le (by rw[ff,ap];omega),List.map_drop];by_cases h:k<=ws.length
 ·rw[Nat.min_eq_left h]
 ·rw[Nat.min_eq_right (by omega),oz (by simp),oz (by rw[ap];omega)]
theorem ux(ws:Zb)(k:Nat):gq (ws.map V.str) none (some (k:Int))=(ws.take k).map V.str:=by
 unfold gq;rw[HT.sIx_none,HT.sIx_nat,ap,lZ,Nat.sub_zero,List.map_take,List.take_eq_take_iff,ap];omega
theorem wG{K:Za}{H:Hp}{a:Addr}{ws:Zb}(h:aB K H a (ws.map V.str)):fG K H (.s (ws.map dF)) (.ref a):=by
 unfold fG;exact⟨a,_,rfl,h,kr _⟩
theorem ya{K:Za}{H:Hp}{a:Addr}(h:aB K H a []):fG K H (.s []) (.ref a):=by
 unfold fG;refine⟨a,_,rfl,h,?_⟩;unfold DIns
 rfl
theorem nq{K:Za}{vs:List V}{H:Hp}{Q:VK}{E:XK}(h:dW vs H Q E):j_ K eL my (cp Q) (start kA vs) H:=by
 obtain⟨p,c,l1,l2,l3,asks,says,rooms,full,rfl,hp,h1,h2,h3,ha,hs0,hs,hr0,hr,f0,f2,k⟩:=h;have n1:=hp.ne_strs h1;have n2:=hp.ne_strs h2;have n3:=hp.ne_strs h3;refine⟨(by show 0<=am;decide),fun l hl=>?_⟩;have hpl:=hp.nep hl;have hcl:=hp.nec hl;refine⟨_,rfl,dL (hp.ex (aj.new hl)) (by decide) (by decide) fun dn H1 d0 d1 hp1 ex1=>?_⟩;generalize hG:iy asks says rooms (decide (dn=0))=G;have base:DI G H p c l 0 H1:=⟨hp1,⟨[],[],ex1 _ _ aa hpl.symm,.nil,md,by simp,cj _⟩,(cv.new hl).trans ex1,hl,hpl,hcl⟩;refine⟨_,rfl,l3,rfl,⟨_,aB.of (base.ex _ _ h3 n3)⟩,?_⟩;refine io (xs:=rooms.map V.str) (fun i σ H'=>∃a7 a8 a9 a10 a11 a12:Option V,σ=[some (.ref p),some (.ref l1),some (.ref l2),some (.ref l3),some (.int full),some (.ref l),some (.int dn),a7,a8,a9,a10,a11,a12]/\DI G H p c l (11 * i) H')
  ⟨_,_,_,_,_,_,rfl,base⟩ (fun i σ H' _ ⟨_,_,_,_,_,_,_,D⟩=>aB.of (D.ex _ _ h3 n3)) ?_ ?_
 ·rintro i x σ H' t hi ⟨a7,a8,a9,a10,a11,a12,rfl,D⟩ ht;obtain⟨room,hroom,rfl⟩:∃room,rooms[i]?=some room/\x=V.str room:=by
   rw[cD]at hi;cases q:rooms[i]? with
   |none=>rw[q]at hi;cases hi
   |some r=>rw[q]at hi;exact⟨r,rfl,(cT hi).symm⟩
  have hiL:i<rooms.length:=(cB.mp hroom).1;have hmem:room∈rooms:=bT hroom;refine⟨t,_,rfl,bM.of aa,rfl,_,_,rfl,_,_,rfl,rfl,?_⟩;have D1:=D.new ht (o:=.tup [.int i,.str room]);refine⟨(by show 4<=am;decide),fun q hq=>⟨_,rfl,dL (D1.new hq).pen (by decide) (by decide) fun r H2 r0 r1 hp2 ex2=>?_⟩⟩;obtain⟨j,hj,j0,j2⟩:=As (x:=0) (by decide) (by decide) r0 r1;have D2:=(D1.new hq).took hp2 ex2;refine⟨q,_,_,_,rfl,rfl,aB.of (ex2 q _ aa (D1.pen.nep hq).symm),hj,j,rfl,by omega,by omega,?_⟩;refine gj (lo:=0) (n:=j.toNat) (fun i' σ H''=>∃a9 a10:Option V,σ=[some (.ref p),some (.ref l1),some (.ref l2),some (.ref l3),some (.int full),some (.ref l),some (.int dn),some (.int i),some (.str room),a9,a10,a11,a12]/\DI G H p c l (11 * i+i') H'')
   ⟨_,_,rfl,D2⟩ ?_ ?_
  ·rintro i' σ H3 hi' ⟨a9,a10,rfl,D3⟩;refine lL (fun _ _ _ _ h=>h) rfl rfl D3.pen (D3.ex _ _ h2 n2) hs0 (by omega) fun w hw H4 hp4 ex4=>?_;have D4:=D3.took hp4 ex4;refine⟨(by show 2<=am;decide),fun sg hsg=>?_⟩;have D5:=D4.new hsg (o:=.tup [.str "say",.str w]);refine⟨_,rfl,_,rfl,_,rfl,lL (fun _ _ _ _ h=>h) rfl rfl D5.pen (D5.ex _ _ h3 n3) hr0 (by omega) fun w2 hw2 H6 hp6 ex6=>?_⟩;have D6:=D5.took hp6 ex6;refine⟨(by show 3<=am;decide),fun dr hdr=>?_⟩;have D7:=D6.new hdr (o:=.tup [.str room,.ref sg,.str w2]);have hsg6:H6 sg=some (.tup [.str "say",.str w]):=ex6 _ _ aa (D4.pen.nep hsg).symm;refine D7.put (d:=⟨room,["say",w],w2⟩) ⟨sg,aa,kp hsg6 hdr⟩ ?_ (by omega) fun H8 D8=>⟨_,_,rfl,D8⟩;rw[<-hG];exact⟨hmem,hw2,.inr (.inl ⟨w,hw,rfl⟩)⟩
  rintro σ H3 ⟨a9,a10,rfl,D3'⟩;have D3:DI G H p c l (11 * i+2) H3:=D3'.up (by omega);clear D3';refine⟨_,rfl,l1,rfl,⟨_,aB.of (D3.ex _ _ h1 n1)⟩,?_⟩;refine dA (xs:=asks.map V.str) (fun i' σ H''=>∃a9 a11:Option V,σ=[some (.ref p),some (.ref l1),some (.ref l2),some (.ref l3),some (.int full),some (.ref l),some (.int dn),some (.int i),some (.str room),a9,a10,a11,a12]/\DI G H p c l (11 * i+2+2 * i') H'')
   ⟨_,_,rfl,D3⟩ (fun i σ H' _ ⟨_,_,_,D⟩=>aB.of (D.ex _ _ h1 n1)) ?_ ?_
  ·rintro i' x σ H4 hi' ⟨a9,a11,rfl,D4⟩;obtain⟨ask,hask,rfl⟩:∃ask,asks[i']?=some ask/\x=V.str ask:=by
    rw[cD]at hi';cases q:asks[i']? with
    |none=>rw[q]at hi';cases hi'
    |some r=>rw[q]at hi';exact⟨r,rfl,(cT hi').symm⟩
   have hi2:i'<asks.length:=(cB.mp hask).1;have hm2:ask∈asks:=bT hask;refine⟨_,rfl,(by show 4<=am;decide),fun q hq=>⟨_,rfl,dL (D4.new hq).pen (by decide) (by decide) fun r H5 r0 r1 hp5 ex5=>?_⟩⟩;obtain⟨j,hj,j0,j2⟩:=As f0 f2 r0 r1;have D5:=(D4.new hq).took hp5 ex5;refine⟨q,_,_,_,rfl,rfl,aB.of (ex5 q _ aa (D4.pen.nep hq).symm),hj,j,rfl,by omega,by omega,?_⟩;refine gj (lo:=0) (n:=j.toNat) (fun i'' σ H''=>∃a9:Option V,σ=[some (.ref p),some (.ref l1),some (.ref l2),some (.ref l3),some (.int full),some (.ref l),some (.int dn),some (.int i),some (.str room),a9,a10,some (.str ask),a12]/\DI G H p c l (11 * i+2+2 * i'+i'') H'')
    ⟨_,rfl,D5⟩ ?_ ?_
   ·rintro i'' σ H6 hi'' ⟨a9,rfl,D6⟩;refine⟨_,rfl,_,rfl,_,rfl,(by show 2<=am;decide),fun sg hsg=>?_⟩;have D7:=D6.new hsg (o:=.tup [.str "ask",.str ask]);refine lL (fun _ _ _ _ h=>h) rfl rfl D7.pen (D7.ex _ _ h3 n3) hr0 (by omega) fun w2 hw2 H8 hp8 ex8=>?_;have D8:=D7.took hp8 ex8;refine⟨(by show 3<=am;decide),fun dr hdr=>?_⟩;have D9:=D8.new hdr (o:=.tup [.str room,.ref sg,.str w2]);have hsg8:H8 sg=some (.tup [.str "ask",.str ask]):=ex8 _ _ aa (D6.pen.nep hsg).symm;refine D9.put (d:=⟨room,["ask",ask],w2⟩) ⟨sg,aa,kp hsg8 hdr⟩ ?_ (by omega) fun H8 D8=>⟨_,rfl,D8⟩;rw[<-hG];exact⟨hmem,hw2,.inl ⟨ask,hm2,rfl⟩⟩
   ·rintro σ H6 ⟨a9,rfl,D6⟩;exact⟨_,_,rfl,D6.up (by omega)⟩
  rintro σ H4 ⟨a9,a11,rfl,D4'⟩;have D4:DI G H p c l (11 * i+10) H4:=D4'.up (by rw[ap];omega);clear D4';have hnext:∀(H9:Hp) (a12:Option V),DI G H p c l (11 * i+11) H9->∃a7 a8 a9' a10' a11' a12':Option V,[some (.ref p),some (.ref l1),some (.ref l2),some (.ref l3),some (.int full),some (.ref l),some (.int dn),some (.int i),some (.str room),a9,a10,a11,a12] =
    [some (.ref p),some (.ref l1),some (.ref l2),some (.ref l3),some (.int full),some (.ref l),some (.int dn),a7,a8,a9',a10',a11',a12']/\DI G H p c l (11 * (i+1)) H9:=fun H9 a12 D9=>⟨_,_,_,_,_,_,rfl,D9.up (by omega)⟩
  refine⟨_,rfl,_,rfl,_,_,rfl,rfl,_,rfl,l3,_,rfl,aB.of (D4.ex _ _ h3 n3),fun q1 hq1=>?_⟩;have D5:=D4.new hq1 (o:=.lst (gq (rooms.map V.str) (some ((i:Int)+1)) none));refine⟨_,rfl,_,rfl,_,rfl,l3,_,rfl,aB.of (D5.ex _ _ h3 n3),fun q2 hq2=>?_⟩;have e1:gq (rooms.map V.str) (some ((i:Int)+1)) none=(rooms.drop (i+1)).map V.str:=vi rooms (i+1);rw[ux];have D6:=D5.new hq2 (o:=.lst ((rooms.take i).map V.str));refine⟨(by show 2<=am;decide),fun q3 hq3=>?_⟩;have D7:=D6.new hq3 (o:=.lst [.ref q1,.ref q2]);obtain⟨lt,q,hq,hlt,hgood⟩:∃(lt:Zb) (q:Addr),uz [V.ref q1,.ref q2] dn=some (.ref q) /\
    upd (upd (upd H4 q1 (.lst (gq (rooms.map V.str) (some ((i:Int)+1)) none))) q2 (.lst ((rooms.take i).map V.str))) q3 (.lst [.ref q1,.ref q2]) q=some (.lst (lt.map V.str))/\lt.length<=26 /\
    ∀w∈lt,w∈rooms/\Up (decide (dn=0)) rooms room w:=by
   have:dn=0∨dn=1:=by omega
   rcases this with rfl|rfl
   ·refine⟨rooms.drop (i+1),q1,rfl,?_,by rw[ff];omega,fun w hw=>⟨List.mem_of_mem_drop hw,?_⟩⟩
    ·refine(kp (kp aa hq2) hq3).trans ?_;rw[e1]
    ·obtain⟨n,hn⟩:=List.getElem?_of_mem hw;rw[List.getElem?_drop]at hn;exact⟨i,i+1+n,hroom,hn,by rw[if_pos (by decide)];omega⟩
   ·refine⟨rooms.take i,q2,rfl,?_,by rw[be];omega,fun w hw=>⟨hC hw,?_⟩⟩
    ·exact kp aa hq3
    ·obtain⟨n,hn⟩:=List.getElem?_of_mem hw;have hnl:n<i:=by
      have:=(cB.mp hn).1;rw[be]at this;omega
     rw[List.getElem?_take_of_lt hnl]at hn;exact⟨i,n,hroom,hn,by rw[if_neg (by decide)];omega⟩
  refine⟨_,rfl,q3,_,_,_,rfl,rfl,aB.of aa,hq,?_⟩;generalize upd (upd (upd H4 q1 (.lst (gq (rooms.map V.str) (some ((i:Int)+1)) none))) q2 (.lst ((rooms.take i).map V.str))) q3 (.lst [.ref q1,.ref q2])=H7 at D7 hlt ⊢;refine⟨_,rfl,(by show 0<=am;decide),fun e he=>⟨.s (lt.map dF),.s [],wG (aB.of (kp hlt he)),ya (aB.of aa),?_,by decide,_,rfl,?_⟩⟩
  ·show DT.depths (lt.map dF)+1<=8;rw[gp];decide
  have D8:=D7.new he (o:=.lst []);by_cases hz:lt=[]
  ·have ez:(!decide (DT.s (lt.map dF)=DT.s []))=false:=by rw[hz,zzr1 (by rfl)];rfl
   rw[ez];exact bj (bj (hnext _ _ (D8.up (by omega))))
  ·have ez:(!decide (DT.s (lt.map dF)=DT.s []))=true:=by
    rw[zzr0 (fun z=>hz (fL (y:=[]) (by injection z)))];rfl
   rw[ez];refine bY ?_;refine⟨_,rfl,dL D8.pen (by decide) (by decide) fun r H9 r0 r1 hp9 ex9=>⟨rfl,_,rfl,?_⟩⟩;have D9:=D8.took hp9 ex9;refine mI (fun _=>?_) (fun _=>hnext _ _ (D9.up (by omega)));refine⟨_,rfl,_,rfl,(by show 1<=am;decide),fun sg hsg=>?_⟩;have D10:=D9.new hsg (o:=.tup [.str "still"]);have hlt10:upd H9 sg (.tup [.str "still"]) q=some (.lst (lt.map V.str)):=kp (ex9 _ _ (kp hlt he) (D8.pen.ne_strs (kp hlt he))) hsg;refine lL (fun _ _ _ _ h=>.inl h) rfl rfl D10.pen hlt10 hz (by omega) fun w2 hw2 H11 hp11 ex11=>?_;have D11:=D10.took hp11 ex11;refine⟨(by show 3<=am;decide),fun dr hdr=>?_⟩;have D12:=D11.new hdr (o:=.tup [.str room,.ref sg,.str w2]);have hsg11:H11 sg=some (.tup [.str "still"]):=ex11 _ _ aa (D9.pen.nep hsg).symm;refine D12.put (d:=⟨room,[("still":Str)],w2⟩) ⟨sg,aa,kp hsg11 hdr⟩ ?_ (by omega) fun H13 D13=>hnext _ _ D13;rw[<-hG];exact⟨hmem,(hgood.2 w2 hw2).1,.inr (.inr ⟨rfl,(hgood.2 w2 hw2).2⟩)⟩
 ·rintro σ H' ⟨a7,a8,a9,a10,a11,a12,rfl,D⟩;obtain⟨ts,ds,g1,g2,g3,g4,g5⟩:=D.ds;rw[ap]at g5;rw[<-hG]at g4;exact⟨_,rfl,k l ts ds _ H' hl g1 g2 g3 g4 (by omega) D.pen D.ex⟩
structure bO(asks says rooms:Zb)(ds:List av):Prop where
 okA:dZ asks
 okS:dZ says
 apart:∀w∈says,w∉asks
 okR:dZ rooms
 asks0:asks≠[]
 says0:says≠[]
 rooms0:rooms≠[]
 asks4:asks.length<=4
 says4:says.length<=4
 rooms26:rooms.length<=150
 nodup:ds.Nodup
 good:∀d∈ds,wU asks says rooms d
 few:ds.length<=1000
 noround:∀r,¬Reach ds r r
structure nE(H:Hp)(t l1 l2 l3 l4:Addr)(ts:Ze)(asks says rooms:Zb)(ds:List av):Prop where
 t:H t=some (.tup [.ref l1,.ref l2,.ref l3,.ref l4])
 a1:H l1=some (.lst (asks.map V.str))
 a2:H l2=some (.lst (says.map V.str))
 a3:H l3=some (.lst (rooms.map V.str))
 a4:H l4=some (.lst (ts.map V.ref))
 ds:bF H ts ds
theorem eg.ne_refs{H:Hp}{p c a:Addr}{ts:Ze}(hp:eg H p c)(ha:H a=some (.lst (ts.map V.ref))):a≠p:=by
 intro e;obtain⟨x,y,ns,h1,_⟩:=hp;rw[e,h1]at ha;injection ha with ha;injection ha with ha;cases ts with
 |nil=>cases ha
 |cons w ws =>
  injection ha with _ ha;cases ws with
  |nil=>cases ha
  |cons w ws=>injection ha with ha;cases ha
theorem nE.ex{H H':Hp}{p c t l1 l2 l3 l4:Addr}{ts:Ze}{asks says rooms:Zb}{ds:List av}(h:nE H t l1 l2 l3 l4 ts asks says rooms ds)(hp:eg H p c)(e:cv p H H'):nE H' t l1 l2 l3 l4 ts asks says rooms ds:=by
 obtain⟨xs,hx⟩:=hp.lst;exact⟨e.kt hx _ _ h.t,e _ _ h.a1 (hp.ne_strs h.a1),e _ _ h.a2 (hp.ne_strs h.a2),e _ _ h.a3 (hp.ne_strs h.a3),e _ _ h.a4 (hp.ne_refs h.a4),h.ds.kt (e.kt hx)⟩
theorem nE.same{H H':Hp}{t l1 l2 l3 l4:Addr}{ts:Ze}{asks says rooms:Zb}{ds:List av}(h:nE H t l1 l2 l3 l4 ts asks says rooms ds)(e:aj H H'):nE H' t l1 l2 l3 l4 ts asks says rooms ds :=
 ⟨e _ _ h.t,e _ _ h.a1,e _ _ h.a2,e _ _ h.a3,e _ _ h.a4,h.ds.kt (aj.kt e)⟩
theorem at6{r:Int}(r0:0<=r)(r6:r<6):∃n:Nat,uz [V.int 0,.int 1,.int 1,.int 2,.int 2,.int 3] r=some (.int n)/\n<=3:=by
 have:r=0∨r=1∨r=2∨r=3∨r=4∨r=5:=by omega
 rcases this with rfl|rfl|rfl|rfl|rfl|rfl
 ·exact⟨0,rfl,by decide⟩
 ·exact⟨1,rfl,by decide⟩
 ·exact⟨1,rfl,by decide⟩
 ·exact⟨2,rfl,by decide⟩
 ·exact⟨2,rfl,by decide⟩
 ·exact⟨3,rfl,by decide⟩
theorem wJ{ws:Zb}(hw:ws.length=8){n:Nat}(hn:n<=3):gq (ws.map V.str) (some 4) (some (5+(n:Int)))=((ws.drop 4).take (1+n)).map V.str:=by
 unfold gq;have s1:HT.sIx (ws.map V.str).length 0 (some 4)=min 4 (ws.map V.str).length:=HT.sIx_nat _ _ 4;have s2:HT.sIx (ws.map V.str).length (ws.map V.str).length (some (5+(n:Int)))=min (5+n) (ws.map V.str).length:=HT.sIx_nat _ _ (5+n);rw[s1,s2,ap,hw,List.map_take,List.map_drop];have e1:min 4 8=4:=by decide
 have e2:min (5+n) 8-4=1+n:=by omega
 rw[e1,e2]
theorem df{ws:Zb}{i:Nat}{x:V}(h:(ws.map V.str)[i]?=some x):∃w,ws[i]?=some w/\x=.str w:=by
 rw[cD]at h;cases q:ws[i]? with
 |none=>rw[q]at h;cases h
 |some r=>rw[q]at h;exact⟨r,rfl,(cT h).symm⟩
theorem take_snoc{α:Type}{ws:List α}{i:Nat}{w:α}(h:ws[i]?=some w):ws.take (i+1)=ws.take i++[w]:=by
 obtain⟨hi,rfl⟩:=cB.mp h;rw[List.take_succ_eq_append_getElem hi]
def jO(w:Str):Bool:=!decide (w=("":Str)) && (decide (w.length<=8) && w.cps.toList.all fun c=>decide (c∈("abcdefghijklmnopqrstuvwxyz":Str).cps.toList))
theorem kD.b{w:Str}(h:kD w):jO w=true:=by
 unfold jO;have h1:¬(w=("":Str)):=fun e=>by
  have:=h.lo;rw[e]at this;exact absurd this (by decide +kernel)
 rw[zzr0 h1,zzr1 h.hi,Bool.not_false,lV,lV,List.all_eq_true];intro c hc;obtain⟨c1,c2⟩:=h.al c hc;refine zzr1 ?_;have:=uB (c-97) (by omega);have e:97+(c-97)=c:=by omega
 rw[e]at this;exact bT this
inductive sp_is_name (vs:List V)(H:Hp)(Q:VK)(E:XK):Prop
 |mk (w:Str):(vs=[.str w])->(w.length<=1000)->(∀H',aj H H'->Q (.bl (jO w)) H')->sp_is_name  vs H Q E
theorem ss{K:Za}{vs:List V}{H:Hp}{Q:VK}{E:XK}(h:sp_is_name vs H Q E):uN K (cp Q) (start vt vs) H:=by
 obtain⟨w,rfl,hz,k⟩:=h;refine⟨_,rfl,rfl,_,rfl,?_⟩;have ed:(!decide (V.str w=V.str ("":Str)))=!decide (w=("":Str)):=by
  congr 1;by_cases e:w=("":Str)
  ·rw[zzr1 e,zzr1 (by rw[e])]
  ·rw[zzr0 e,zzr0 (fun z=>e (by injection z))]
 rw[ed];refine mI (fun h1=>?_) (fun h1=>?_)
 ·refine⟨_,rfl,.inr ⟨w,rfl,f8 (aY hz),_,_,rfl,rfl,_,rfl,?_⟩⟩;refine mI (fun h2=>?_) (fun h2=>?_)
  ·refine⟨_,rfl,w,rfl,fun l hl=>?_⟩;refine wL (fun i vs H'=>vs=((w.cps.toList.take i).map fun c=>V.bl (decide (c∈("abcdefghijklmnopqrstuvwxyz":Str).cps.toList)))/\aj H H'/\H' l=some (.lst vs))
    ⟨rfl,aj.new hl,aa⟩ (fun i vs H' _ h=>h.2.2) ?_ ?_
   ·rintro vs H' ⟨rfl,hS,hl'⟩;refine⟨l,w.cps.toList.map fun c=>decide (c∈("abcdefghijklmnopqrstuvwxyz":Str).cps.toList),rfl,aB.of ?_,?_⟩
    ·rw[hl',j1];have:w.cps.toList.take w.cps.size=w.cps.toList:=by
      rw[List.take_of_length_le];simp
     rw[this]
     rfl
    ·have:=k H' hS;have h2':decide (w.length<=8)=true:=zzr1 (by have:=of_decide_eq_true h2;omega);unfold jO at this;rw[h1,h2',lV,lV]at this;rw[List.all_map];exact this
   ·rintro i vs H' c hc hi ⟨rfl,hS,hl'⟩;refine gN (oT ?_);refine⟨_,rfl,c,_,rfl,rfl,hl',?_,qV hi ⟨?_,?_,aa⟩⟩
    ·rw[ap,be];have:w.length=w.cps.toList.length:=cW w;exact aY (by omega)
    ·rw[take_snoc (by rw[<-hc];simp),aL]
     rfl
    ·intro b o e;rw[af (ai e hl)];exact hS b o e
  ·have:=k H (aj.refl H);have h2':decide (w.length<=8)=false:=zzr0 (fun z=>h2 (zzr1 (by omega)));unfold jO at this;rw[h1,h2',lV,Bool.false_and]at this;exact this
 ·have:=k H (aj.refl H);unfold jO at this;rw[Bool.eq_false_iff.mpr h1,Bool.false_and]at this;exact this
def aZ(ws:Zb):List (cI×V):=ws.foldl (fun acc w=>d9 acc (.inr w) (.bl true)) []
theorem ee(ws:Zb)(w:Str):aZ (ws++[w])=d9 (aZ ws) (.inr w) (.bl true):=by
 unfold aZ;rw[List.foldl_append]
 rfl
theorem qP{κ:Type}[DecidableEq κ](kvs:List (κ×V))(k:κ)(v:V):(d9 kvs k v).length<=kvs.length+1:=by
 unfold d9;split
 ·rw[ap];omega
 ·rw[bC];exact aE _
theorem jB{α:Type}(P:List α->Prop)(h0:P [])(hs:∀ws w,P ws->P (ws++[w]))(ws:List α):P ws:=by
 have:∀n (ws:List α),ws.length=n->P ws:=by
  intro n
  induction n with
  |zero=>intro ws h;rw[List.length_eq_zero_iff.mp h];exact h0
  |succ n ih =>
   intro ws h;have hne:ws≠[]:=fun z=>by rw[z]at h;cases h
   rw[<-List.dropLast_concat_getLast hne];exact hs _ _ (ih _ (by rw[List.length_dropLast,h];rfl))
 exact this _ ws rfl
theorem ji(ws:Zb):(aZ ws).length<=ws.length:=by
 refine jB (fun ws=>(aZ ws).length<=ws.length) (aE _) (fun ws w h=>?_) ws;show(aZ (ws++[w])).length<=(ws++[w]).length;rw[ee,bC];have:=qP (aZ ws) (.inr w) (.bl true);show _<=ws.length+1;omega
theorem sI(ws:Zb)(x:Str):cw (aZ ws) (.inr x)=if x∈ws then some (.bl true)else none:=by
 refine jB (fun ws=>cw (aZ ws) (.inr x)=if x∈ws then some (.bl true)else none) rfl (fun ws w h=>?_) ws
 show cw (aZ (ws++[w])) (.inr x)=_;rw[ee,qx,h];by_cases e:x=w
 ·subst e;rw[if_pos rfl,if_pos (by simp)]
 ·have e1:¬((Sum.inr x:cI)=.inr w):=fun z=>e (by injection z);rw[if_neg e1];by_cases m:x∈ws
  ·rw[if_pos m,if_pos (fH _ m)]
  ·rw[if_neg m,if_neg (fun z=>by rcases bZ.mp z with z|z;exact m z;exact e (by simpa using z))]
theorem eU(ws:Zb)(x:Str):(cw (aZ ws) (.inr x)).isSome=decide (x∈ws):=by
 rw[sI];by_cases m:x∈ws
 ·rw[if_pos m,zzr1 m];rfl
 ·rw[if_neg m,zzr0 m];rfl
inductive sp_as_keys(K:Za)(vs:List V)(H:Hp)(Q:VK)(E:XK):Prop
 |mk (l:Addr) (ws:Zb):(vs=[.ref l])->(aB K H l (ws.map V.str))->(ws.length<=1000)->(∀d,H d=none->Q (.ref d) (upd H d (.dK (aZ ws))))->sp_as_keys K vs H Q E
theorem su{K:Za}{vs:List V}{H:Hp}{Q:VK}{E:XK}(h:sp_as_keys K vs H Q E):uO K (cp Q) (start vv vs) H:=by
 obtain⟨l,ws,rfl,hl,hz,k⟩:=h;refine fun d hd=>?_;have key:∀kvs,aB K (upd H d (.dK kvs)) l (ws.map V.str):=fun kvs=>(aj.new hd).seq hl;refine⟨_,rfl,l,rfl,⟨_,key _⟩,?_⟩;refine dA (xs:=ws.map V.str) (fun i σ H'=>∃x,σ=[some (.ref l),some (.ref d),x]/\H'=upd H d (.dK (aZ (ws.take i)))) ⟨_,rfl,rfl⟩ (fun i σ H' _ ⟨_,_,e⟩=>by rw[e];exact key _) ?_ ?_
 ·rintro i x σ H' hi ⟨y,rfl,rfl⟩;obtain⟨w,hw,rfl⟩:=df hi;have hlen:(aZ (ws.take i)).length<am:=aY (cn (ji _) (by rw[be];omega));refine⟨_,rfl,_,rfl,d,_,rfl,.inl ⟨_,.inr w,aa,rfl,hlen,rfl⟩,_,rfl,?_⟩;rw[lE,take_snoc hw,ee]
 ·rintro σ H' ⟨x,rfl,rfl⟩;rw[ap,cY];exact⟨_,rfl,k d hd⟩
def wt(most:Nat):Nat->List Str->List Str->Option Nat
 |_,_,[]=>none
 |i,ahead,n::ns=>if i=most∨n∈ahead∨jO n=false then some i else wt most (i+1) (ahead++[n]) ns
def bE(names:Zb)(most:Nat)(taken:Zb):Option Nat:=if names=[]then some 0 else wt most 0 taken names
def oV:Option Nat->V
 |none=>.non
 |some i=>.int i
inductive sp_first_wrong_name(K:Za)(vs:List V)(H:Hp)(Q:VK)(E:XK):Prop
 |mk (l t:Addr) (names taken:Zb) (most:Nat):(vs=[.ref l,.int most,.ref t])->(aB K H l (names.map V.str))->(aB K H t (taken.map V.str))->(names.length+taken.length<=1000)->((∀w∈names,w.length<=1000))->(∀H',aj H H'->Q (oV (bE names most taken)) H')->sp_first_wrong_name K vs H Q E
theorem kz{K:Za}{H:Hp}{Q:VK}{E:XK}{l:Addr}{ws:Zb}(hl:aB K H l (ws.map V.str))(hz:ws.length<=1000)(k:∀d,H d=none->Q (.ref d) (upd H d (.dK (aZ ws)))):sp_as_keys K [.ref l] H Q E:=by
 exact⟨l,ws,rfl,hl,hz,k⟩
theorem u9{H:Hp}{Q:VK}{E:XK}{w:Str}(hz:w.length<=1000)(k:∀H',aj H H'->Q (.bl (jO w)) H'):sp_is_name [.str w] H Q E:=by
 exact⟨w,rfl,hz,k⟩
theorem iO{K:Za}{vs:List V}{H:Hp}{Q:VK}{E:XK}(h:sp_first_wrong_name K vs H Q E):i7 K sp_is_name (sp_as_keys K) (cp Q) (start jo vs) H:=by
 obtain⟨l,t,names,taken,most,rfl,hl,ht,hz,hw,k⟩:=h;refine⟨_,rfl,.inl ⟨l,_,rfl,.inl hl,rfl,_,rfl,?_⟩⟩;by_cases h0:names=[]
 ·subst h0;refine bY ?_;have:=k H (aj.refl H);exact this
 have e0:decide (V.int ((names.map V.str).length:Nat)=V.int 0)=false:=zzr0 (fun z=>h0 (by
  injection z with z;rw[ap]at z;exact List.length_eq_zero_iff.mp (by omega)))
 rw[e0];refine bj ?_;have hk:∀H',aj H H'->Q (oV (wt most 0 taken names)) H':=by
  unfold bE at k;rw[if_neg h0]at k;exact k
 refine⟨_,rfl,kz ht (by omega) fun d hd=>?_⟩;refine⟨_,rfl,l,rfl,⟨_,(aj.new hd).seq hl⟩,?_⟩;refine io (xs:=names.map V.str) (fun i σ H'=>∃x y,σ=[some (.ref l),some (.int most),some (.ref t),some (.ref d),x,y]/\aj H H'/\H' d=some (.dK (aZ (taken++names.take i)))/\wt most i (taken++names.take i) (names.drop i)=wt most 0 taken names)
  ⟨_,_,rfl,aj.new hd,by rw[List.take_zero,iX];exact aa,by rw[List.take_zero,iX,lZ]⟩ (fun i σ H' _ ⟨_,_,_,hS,_⟩=>hS.seq hl) ?_ ?_
 ·rintro i x σ H' q hi ⟨x4,x5,rfl,hS,hd',hf⟩ hq;obtain⟨w,hw',rfl⟩:=df hi;have hil:i<names.length:=(cB.mp hw').1;have ed:names.drop i=w::names.drop (i+1):=by
   rw[List.drop_eq_getElem_cons hil];congr 1;exact(cB.mp hw').2
  rw[ed]at hf;have hd2:upd H' q (.tup [.int i,.str w]) d=some (.dK (aZ (taken++names.take i))):=kp hd' hq;have hS2:aj H (upd H' q (.tup [.int i,.str w])):=hS.trans (aj.new hq);have hww:w.length<=1000:=hw w (bT hw');refine⟨q,_,rfl,bM.of aa,rfl,_,_,rfl,_,_,rfl,rfl,?_⟩;generalize upd H' q (.tup [.int i,.str w])=H2 at hd2 hS2 ⊢;refine⟨_,rfl,_,rfl,rfl,_,rfl,?_⟩;by_cases c1:i=most
  ·have e1:decide (V.int (i:Nat)=V.int (most:Nat))=true:=zzr1 (by rw[c1]);rw[e1];refine bY (bY ?_);refine⟨_,rfl,?_⟩;have:=hk H2 hS2;rw[<-hf]at this;unfold wt at this;rw[if_pos (.inl c1)]at this;exact this
  have e1:decide (V.int (i:Nat)=V.int (most:Nat))=false:=zzr0 (fun z=>c1 (by injection z with z;omega));rw[e1];refine bj ?_;refine⟨_,rfl,_,rfl,d,_,rfl,.inl ⟨_,.inr w,.inl hd2,rfl,rfl⟩,_,rfl,?_⟩;rw[eU];by_cases c2:w∈taken++names.take i
  ·rw[zzr1 c2];refine bY (bY ?_);refine⟨_,rfl,?_⟩;have:=hk H2 hS2;rw[<-hf]at this;unfold wt at this;rw[if_pos (.inr (.inl c2))]at this;exact this
  rw[zzr0 c2];refine bj ?_;refine⟨_,rfl,u9 hww fun H3 hS3=>⟨_,rfl,?_⟩⟩;have hd3:=hS3 _ _ hd2;cases c3:jO w with
  |false =>
   refine bY ?_;refine⟨_,rfl,?_⟩;have:=hk H3 (hS2.trans hS3);rw[<-hf]at this;unfold wt at this;rw[if_pos (.inr (.inr c3))]at this;exact this
  |true =>
   refine bj ?_;have hlen:(aZ (taken++names.take i)).length<am:=aY (cn (ji _) (by rw[bC,be];omega));refine⟨_,rfl,_,rfl,d,_,rfl,.inl ⟨_,.inr w,hd3,rfl,hlen,rfl⟩,_,_,rfl,?_,?_,?_⟩
   ·intro b o e;rw[af (ai e hd)];exact hS3 _ _ (hS2 _ _ e)
   ·rw[aa,take_snoc hw',<-lW,ee]
   ·rw[<-hf,take_snoc hw',<-lW]
    conv=>rhs;unfold wt
    rw[if_neg];rintro(z|z|z)
    ·exact c1 z
    ·exact c2 z
    ·rw[c3]at z;cases z
 ·rintro σ H' ⟨x,y,rfl,hS,_,hf⟩;rw[ap,List.drop_length]at hf;have:=hk H' hS;rw[<-hf]at this;exact this
theorem rg{most:Nat}:∀(ns ahead:Zb) (i:Nat),i+ns.length<=most->(ahead++ns).Nodup->(∀w∈ns,kD w)->wt most i ahead ns=none
 |[],_,_,_,_,_=>rfl
 |n::ns,ahead,i,h1,h2,h3=>by
  rw[eZ]at h1;unfold wt;rw[if_neg]
  ·refine rg ns (ahead++[n]) (i+1) (by omega) (by rw[lW];exact h2) fun w hw=>h3 w (cC _ hw)
  ·rintro(z|z|z)
   ·omega
   ·rw[dI]at h2;exact h2.2.2 n z n (eG) rfl
   ·rw[(h3 n eG).b]at z;cases z
theorem eA{most:Nat}{ns taken:Zb}(h0:ns≠[])(h1:ns.length<=most)(h2:(taken++ns).Nodup)(h3:∀w∈ns,kD w):bE ns most taken=none:=by
 unfold bE;rw[if_neg h0];exact rg ns taken 0 (by omega) h2 h3
theorem br{n:Nat}(h:n<=9000):n<am:=oM h (by decide)
def m8(x:Str):TK:=.k (.inr x)
def wq(sg:Zb):TK:=.t (sg.map m8)
def uu(d:av):TK:=.t [m8 d.a,wq d.sg,m8 d.b]
theorem lJ{x y:Str}(h:m8 x=m8 y):x=y:=by
 unfold m8 at h;injection h with h;injection h
theorem kT:∀{x y:Zb},x.map m8=y.map m8->x=y
 |[],[],_=>rfl
 |[],_::_,h=>by cases h
 |_::_,[],h=>by cases h
 |a::x,b::y,h=>by
  rw[aN,aN]at h;injection h with h1 h2;rw[lJ h1,kT h2]
theorem uj{x y:Zb}(h:wq x=wq y):x=y:=by
 unfold wq at h;injection h with h;exact kT h
theorem x_{x y:av}(h:uu x=uu y):x=y:=by
 unfold uu at h;injection h with h;injection h with h1 h;injection h with h2 h;injection h with h3 h;cases x;cases y;simp only at *;rw[lJ h1,uj h2,lJ h3]
theorem rT(xs:Zb):TK.depths (xs.map m8)=0:=by
 induction xs with
 |nil=>rfl
 |cons x xs ih=>rw[aN];show max (TK.depth (m8 x)) (TK.depths _)=0;rw[ih];rfl
theorem nQ(sg:Zb):(wq sg).depth=1:=by
 show TK.depths (sg.map m8)+1=1;rw[rT]
theorem nR(d:av):(uu d).depth=2:=by
 show max (TK.depth (m8 d.a)) (max (TK.depth (wq d.sg)) (max (TK.depth (m8 d.b)) 0))+1=2;rw[nQ]
 rfl
theorem tT{H:Hp}:∀xs:List Str,TKAts H (xs.map m8) (xs.map V.str)
 |[]=>by show TKAts H [] [];unfold TKAts;rfl
 |x::xs=>by
  rw[aN,aN];unfold TKAts;refine⟨_,_,rfl,?_,tT xs⟩;unfold m8 fw
  rfl
theorem rU{H:Hp}(x:Str):fw H (m8 x) (.str x):=by unfold m8 fw;rfl
theorem SignAt.tk{H:Hp}{s:Addr}{sg:Zb}(h:SignAt H s sg):fw H (wq sg) (.ref s):=by
 unfold wq fw;exact⟨s,_,rfl,h,tT _⟩
theorem eB.tk{H:Hp}{t:Addr}{d:av}(h:eB H t d):fw H (uu d) (.ref t):=by
 obtain⟨s,h1,h2⟩:=h;unfold uu fw;refine⟨t,_,rfl,h1,?_⟩;unfold TKAts;refine⟨_,_,rfl,rU _,?_⟩;unfold TKAts;refine⟨_,_,rfl,SignAt.tk h2,?_⟩;unfold TKAts;refine⟨_,_,rfl,rU _,?_⟩;unfold TKAts
 rfl
section
variable{κ:Type}[DecidableEq κ]
def gW(ks:List κ):List (κ×V):=ks.foldl (fun acc k=>d9 acc k (.bl true)) []
theorem jj(ws:List κ)(w:κ):gW (ws++[w])=d9 (gW ws) w (.bl true):=by
 unfold gW;rw[List.foldl_append]
 rfl
theorem u5(ws:List κ):(gW ws).length<=ws.length:=by
 refine jB (fun ws=>(gW ws).length<=ws.length) (aE _) (fun ws w h=>?_) ws;show(gW (ws++[w])).length<=(ws++[w]).length;rw[jj,bC];have:=qP (gW ws) w (.bl true);show _<=ws.length+1;omega
theorem wj(ws:List κ)(x:κ):(cw (gW ws) x).isSome=decide (x∈ws):=by
 refine jB (fun ws=>(cw (gW ws) x).isSome=decide (x∈ws)) rfl (fun ws w h=>?_) ws;show(cw (gW (ws++[w])) x).isSome=_;rw[jj,qx];by_cases e:x=w
 ·subst e;rw[if_pos rfl,zzr1 (by simp)]
  rfl
 ·rw[if_neg e,h];by_cases m:x∈ws
  ·rw[zzr1 m,zzr1 (fH _ m)]
  ·rw[zzr0 m,zzr0 (fun z=>by rcases bZ.mp z with z|z;exact m z;exact e (by simpa using z))]
end
theorem uc{d:av}{ds:List av}:uu d∈ds.map uu↔d∈ds:=by
 constructor
 ·intro h;obtain⟨x,hx,e⟩:=bB.mp h;rw[<-x_ e];exact hx
 ·exact List.mem_map_of_mem
def jm(K:Za)(H:Hp)(v:V)(sg:Zb):Prop:=∃s,v=.ref s/\bM K H s (sg.map V.str)
theorem aj.sqT{K:Za}{H H':Hp}{a:Addr}{xs:List V}(e:aj H H')(h:bM K H a xs):bM K H' a xs:=by
 rcases h with(h|⟨o,h⟩)|h
 ·exact .inl (.inl (e _ _ h))
 ·exact .inl (.inr ⟨o,e _ _ h⟩)
 ·exact .inr h
theorem Signs.same{K:Za}{H H':Hp}(e:aj H H'){xs:List V}{sgs:List (List Str)}(h:Paired (jm K H) xs sgs):Paired (jm K H') xs sgs :=
 Paired.mapP h fun _ _ ⟨s,h1,h2⟩=>⟨s,h1,aj.sqT e h2⟩
def vc(sg:Zb):DT:=.t (sg.map dF)
theorem xO{x y:Zb}(h:vc x=vc y):x=y:=by
 unfold vc at h;injection h with h;exact fL h
theorem um(sg:Zb):(vc sg).depth=1:=by
 show DT.depths (sg.map dF)+1=1;rw[gp]
theorem ve(sgs:List (List Str)):DT.depths (sgs.map vc)<=8:=by
 induction sgs with
 |nil=>exact cj _
 |cons x xs ih=>rw[aN];show max (DT.depth (vc x)) (DT.depths _)<=8;rw[um];omega
theorem Signs.dIns{K:Za}{H:Hp}:∀{xs:List V}{sgs:List (List Str)},Paired (jm K H) xs sgs->DIns K H (sgs.map vc) xs
 |_,_,.nil=>by show DIns K H [] [];unfold DIns;rfl
 |_,_,.cons ⟨s,e,r⟩ t=>by
  rw[aN];unfold DIns;refine⟨_,_,rfl,?_,Signs.dIns t⟩;rw[e];exact mP r
theorem ub{d:Zb}{ds:List (List Str)}:vc d∈ds.map vc↔d∈ds:=by
 constructor
 ·intro h;obtain⟨x,hx,e⟩:=bB.mp h;rw[<-xO e];exact hx
 ·exact List.mem_map_of_mem
theorem Paired.app{α β:Type}{R:α->β->Prop}:∀{a:List α}{b:List β}{c:List α}{d:List β},Paired R a b->Paired R c d->Paired R (a++c) (b++d)
 |_,_,_,_,.nil,h=>h
 |_,_,_,_,.cons r t,h=>.cons r (Paired.app t h)
def zY(w:Str):List Str:=[("ask":Str),w]
def zJ(w:Str):List Str:=[("say":Str),w]
def gk(asks says:Zb):List (List Str):=asks.map zY++says.map zJ++[bb]
theorem mB{K:Za}{kw:Str}{σ:L2.St}{H:Hp}{a l:Addr}{ws:Zb}{Q:Hp->Prop}(ha:H a=some (.lst (ws.map V.str)))(hl:H l=none)(hz:ws.length<=1000)
  (k:∀(xs:List V) (H':Hp),Paired (jm K H') xs (ws.map fun w=>[kw,w])->aj H H'->H' l=some (.lst xs)->Q H') :
  gr 1 [] σ (wR K a) U0 fC (gb (aK (tC (.str kw)) V0)) H l Q:=by
 refine db (xs:=ws.map V.str) (fun i vs H'=>Paired (jm K H') vs ((ws.take i).map fun w=>[kw,w])/\aj H H'/\H' l=some (.lst vs))
  ⟨.nil,aj.new hl,aa⟩ (fun i vs H' _ ⟨_,hS,h'⟩=>⟨h',aB.of (hS _ _ ha)⟩) ?_ ?_
 ·rintro vs H' ⟨h1,h2,h3⟩;rw[ap,cY]at h1;exact k vs H' h1 h2 h3
 ·rintro i vs H' x hx hi ⟨h1,h2,h3⟩;obtain⟨w,hw,rfl⟩:=df hx;refine gN (oT ?_);refine⟨_,rfl,(by show 2<=am;decide),fun t ht=>⟨kp h3 ht,?_,qV hi ⟨?_,?_,aa⟩⟩⟩
  ·rw[Paired.length h1,ap,be];exact aY (by omega)
  ·rw[take_snoc hw,aL];have hS2:p_ (upd H' t (.tup [.str kw,.str w])) (upd (upd H' t (.tup [.str kw,.str w])) l (.lst (vs++[.ref t]))):=fu (kp h3 ht);have hS3:p_ H' (upd (upd H' t (.tup [.str kw,.str w])) l (.lst (vs++[.ref t]))):=(aj.kt (aj.new ht)).trans hS2;refine Paired.app (Paired.mapP h1 fun v sg ⟨s,e1,e2⟩=>⟨s,e1,?_⟩) (.cons ⟨t,rfl,bM.of (hS2 _ _ aa)⟩ .nil);rcases e2 with(e2|⟨o,e2⟩)|e2
   ·exact .inl (.inl (hS3 _ _ e2))
   ·refine .inl (.inr ⟨o,?_⟩);rw[af (fun z=>by rw[z,h3]at e2;cases e2)];exact kp e2 ht
   ·exact .inr e2
  ·intro b o e;rw[af (ai e hl)];exact kp (h2 _ _ e) ht
inductive sp_door_signs(K:Za)(vs:List V)(H:Hp)(Q:VK)(E:XK):Prop
 |mk (l1 l2:Addr) (asks says:Zb):(vs=[.ref l1,.ref l2])->(H l1=some (.lst (asks.map V.str)))->(H l2=some (.lst (says.map V.str)))->(asks.length<=100)->(says.length<=100)->(∀(l:Addr) (xs:List V) (H':Hp),Paired (jm K H') xs (gk asks says)->aj H H'->H' l=some (.lst xs)->Q (.ref l) H')->sp_door_signs K vs H Q E
theorem nA{K:Za}{st:Addr}(hst:∀H,bM K H st (bb.map V.str)){vs:List V}{H:Hp}{Q:VK}{E:XK}(h:sp_door_signs K vs H Q E):oX K st (cp Q) (start p8 vs) H:=by
 obtain⟨l1,l2,asks,says,rfl,h1,h2,z1,z2,k⟩:=h;refine⟨_,rfl,l1,rfl,⟨_,aB.of h1⟩,fun a ha=>?_⟩;refine mB h1 ha (by omega) fun xs1 H1 p1 s1 g1=>?_;refine⟨_,rfl,l2,rfl,⟨_,aB.of (s1 _ _ h2)⟩,fun b hb=>?_⟩;refine mB (s1 _ _ h2) hb (by omega) fun xs2 H2 p2 s2 g2=>?_;have len1:xs1.length<=100:=by rw[Paired.length p1,ap];exact z1
 have len2:xs2.length<=100:=by rw[Paired.length p2,ap];exact z2
 refine⟨a,b,xs1,xs2,rfl,rfl,s2 _ _ g1,g2,f8 (aY (by omega)),fun c hc=>?_⟩;refine⟨(by show 1<=am;decide),fun d hd=>?_⟩;refine⟨c,d,_,_,rfl,rfl,kp aa hd,aa,?_,fun e he=>k e _ _ ?_ ?_ aa⟩
 ·rw[bC];show _+1<=am;exact f8 (aY (by omega))
 ·have sx:aj H2 (upd (upd (upd H2 c (.lst (xs1++xs2))) d (.lst [.ref st])) e (.lst (xs1++xs2++[.ref st]))):=((aj.new hc).trans (aj.new hd)).trans (aj.new he);exact Paired.app (Paired.app (Signs.same (s2.trans sx) p1) (Signs.same sx p2)) (.cons ⟨st,rfl,hst _⟩ .nil)
 ·exact(((s1.trans s2).trans (aj.new hc)).trans (aj.new hd)).trans (aj.new he)
def xP(rooms:Zb)(sgs:List (List Str)):Nat->List av->List av->Option Nat
 |_,_,[]=>none
 |i,ahead,d::ds=>if i=2000∨d∈ahead∨d.a∉rooms∨d.sg∉sgs∨d.b∉rooms then some i else xP rooms sgs (i+1) (ahead++[d]) ds
inductive sp_first_wrong_door(K:Za)(vs:List V)(H:Hp)(Q:VK)(E:XK):Prop
 |mk (l l3 sl:Addr) (ts:Ze) (ds:List av) (rooms:Zb) (xs:List V) (sgs:List (List Str)):(vs=[.ref l,.ref l3,.ref sl])->(H l=some (.lst (ts.map V.ref)))->(bF H ts ds)->(H l3=some (.lst (rooms.map V.str)))->(rooms.length<=1000)->(H sl=some (.lst xs))->(Paired (jm K H) xs sgs)->(ds.length<=9000)->(∀H',aj H H'->Q (oV (xP rooms sgs 0 [] ds)) H')->sp_first_wrong_door K vs H Q E
theorem d5{ws:Ze}{i:Nat}{x:V}(h:(ws.map V.ref)[i]?=some x):∃w,ws[i]?=some w/\x=.ref w:=by
 rw[cD]at h;cases q:ws[i]? with
 |none=>rw[q]at h;cases h
 |some r=>rw[q]at h;exact⟨r,rfl,(cT h).symm⟩
theorem iP{K:Za}{vs:List V}{H:Hp}{Q:VK}{E:XK}(h:sp_first_wrong_door K vs H Q E):i8 K (sp_as_keys K) (cp Q) (start jp vs) H:=by
 obtain⟨l,l3,sl,ts,ds,rooms,xs,sgs,rfl,hl,hds,h3,hr,hsl,hsg,hz,k⟩:=h;refine⟨_,rfl,kz (aB.of h3) hr fun d hd=>?_⟩;refine fun e he=>?_;have hS0:aj H (upd (upd H d (.dK (aZ rooms))) e (.dT [])):=(aj.new hd).trans (aj.new he);have heH:H e=none:=(aj.new hd).free he;refine⟨_,rfl,l,rfl,⟨_,aB.of (hS0 _ _ hl)⟩,?_⟩;refine io (xs:=ts.map V.ref) (fun i σ H'=>∃x y,σ=[some (.ref l),some (.ref l3),some (.ref sl),some (.ref d),some (.ref e),x,y]/\aj H H'/\H' d=some (.dK (aZ rooms))/\H' e=some (.dT (gW ((ds.take i).map uu)))/\xP rooms sgs i (ds.take i) (ds.drop i)=xP rooms sgs 0 [] ds)
  ⟨_,_,rfl,hS0,kp aa he,aa,rfl⟩ (fun i σ H' _ ⟨_,_,_,hS,_⟩=>aB.of (hS _ _ hl)) ?_ ?_
 ·rintro i x σ H' q hi ⟨x5,x6,rfl,hS,hd',he',hf⟩ hq;obtain⟨t,ht,rfl⟩:=d5 hi;obtain⟨dr,hdr,hat⟩:=Paired.getL hds ht;have hil:i<ds.length:=(cB.mp hdr).1;have ed:ds.drop i=dr::ds.drop (i+1):=by
   rw[List.drop_eq_getElem_cons hil];congr 1;exact(cB.mp hdr).2
  rw[ed]at hf;have hS2:aj H (upd H' q (.tup [.int i,.ref t])):=hS.trans (aj.new hq);have hd2:upd H' q (.tup [.int i,.ref t]) d=_:=kp hd' hq;have he2:upd H' q (.tup [.int i,.ref t]) e=_:=kp he' hq;refine⟨q,_,rfl,bM.of aa,rfl,_,_,rfl,_,_,rfl,rfl,?_⟩;generalize upd H' q (.tup [.int i,.ref t])=H2 at hd2 he2 hS2 ⊢;have hat2:=hat.kt (aj.kt hS2);have hin:lB K H2 (uu dr) (.ref t):=fw.isIn 8 (by rw[nR];decide) hat2.tk;have hd8:(uu dr).depth<=8:=by rw[nR];decide
  obtain⟨s,ht2,hs2⟩:=hat2;have bad:(i=2000∨dr∈ds.take i∨dr.a∉rooms∨dr.sg∉sgs∨dr.b∉rooms)->Q (.int i) H2:=by
   intro c;have:=k H2 hS2;rw[<-hf]at this;unfold xP at this;rw[if_pos c]at this;exact this
  refine⟨_,rfl,rfl,_,rfl,?_⟩;by_cases c1:i=2000
  ·have e1:decide (V.int (i:Nat)=V.int 2000)=true:=zzr1 (by rw[c1];rfl);rw[e1];exact bY (bY ⟨_,rfl,bad (.inl c1)⟩)
  have e1:decide (V.int (i:Nat)=V.int 2000)=false:=zzr0 (fun z=>c1 (by injection z with z;omega));rw[e1];refine bj ?_;refine⟨_,rfl,_,rfl,e,_,rfl,.inr ⟨_,uu dr,t,.inl he2,rfl,hin,hd8,rfl⟩,_,rfl,?_⟩;rw[wj];by_cases c2:dr∈ds.take i
  ·rw[zzr1 (uc.mpr c2)];exact bY ⟨_,rfl,bad (.inr (.inl c2))⟩
  rw[zzr0 (fun z=>c2 (uc.mp z))];refine bj ?_;refine⟨_,rfl,.inr (.inl ⟨t,_,0,_,rfl,rfl,bM.of ht2,rfl,_,rfl,d,_,rfl,.inl ⟨_,.inr dr.a,.inl hd2,rfl,rfl⟩,_,rfl,?_⟩)⟩;rw[eU];by_cases c3:dr.a∈rooms;rotate_left
  ·rw[zzr0 c3];exact bY (bY ⟨_,rfl,bad (.inr (.inr (.inl c3)))⟩)
  rw[zzr1 c3];refine bj ?_;refine⟨_,rfl,.inr (.inl ⟨t,_,1,_,rfl,rfl,bM.of ht2,rfl,_,rfl,vc dr.sg,sgs.map vc,sl,xs,mP (bM.of hs2),rfl,.inl (aB.of (hS2 _ _ hsl)),Signs.dIns (Signs.same hS2 hsg),by rw[um];decide,ve _,_,rfl,?_⟩)⟩;rw[if_pos rfl];by_cases c4:dr.sg∈sgs;rotate_left
  ·rw[zzr0 (fun z=>c4 (ub.mp z))];exact bY (bY ⟨_,rfl,bad (.inr (.inr (.inr (.inl c4))))⟩)
  rw[zzr1 (ub.mpr c4)];refine bj ?_;refine⟨_,rfl,.inr (.inl ⟨t,_,2,_,rfl,rfl,bM.of ht2,rfl,_,rfl,d,_,rfl,.inl ⟨_,.inr dr.b,.inl hd2,rfl,rfl⟩,_,rfl,?_⟩)⟩;rw[eU];by_cases c5:dr.b∈rooms;rotate_left
  ·rw[zzr0 c5];exact bY ⟨_,rfl,bad (.inr (.inr (.inr (.inr c5))))⟩
  rw[zzr1 c5];refine bj ?_;have hlen:(gW ((ds.take i).map uu)).length<am:=br (cn (u5 _) (by rw[ap,be];omega));refine⟨_,rfl,_,rfl,e,_,rfl,.inr ⟨_,uu dr,t,he2,rfl,eB.tk ⟨s,ht2,hs2⟩,hd8,hlen,rfl⟩,_,_,rfl,?_,?_,?_,?_⟩
  ·intro b o q;rw[af (ai q heH)];exact hS2 _ _ q
  ·rw[af (fun z=>by rw[z,he2]at hd2;cases hd2)];exact hd2
  ·rw[aa,take_snoc hdr,aL];exact congrArg (fun z=>some (HO.dT z)) (jj _ _).symm
  ·rw[<-hf,take_snoc hdr]
   conv=>rhs;unfold xP
   rw[if_neg];rintro(z|z|z|z|z)
   ·exact c1 z
   ·exact c2 z
   ·exact z c3
   ·exact z c4
   ·exact z c5
 ·rintro σ H' ⟨x,y,rfl,hS,_,_,hf⟩;have:=k H' hS;rw[<-hf,ap,Paired.length hds,List.drop_length]at this;exact this
theorem rh{rooms:Zb}{sgs:List (List Str)}:∀(ds ahead:List av) (i:Nat),i+ds.length<=2000->(ahead++ds).Nodup->(∀d∈ds,d.a∈rooms/\d.sg∈sgs/\d.b∈rooms)->xP rooms sgs i ahead ds=none
 |[],_,_,_,_,_=>rfl
 |n::ns,ahead,i,h1,h2,h3=>by
  rw[eZ]at h1;unfold xP;rw[if_neg]
  ·refine rh ns (ahead++[n]) (i+1) (by omega) (by rw[lW];exact h2) fun w hw=>h3 w (cC _ hw)
  ·have:=h3 n eG;rintro(z|z|z|z|z)
   ·omega
   ·rw[dI]at h2;exact h2.2.2 n z n (eG) rfl
   ·exact z this.1
   ·exact z this.2.1
   ·exact z this.2.2
inductive sp_need_none (vs:List V)(H:Hp)(Q:VK)(E:XK):Prop
 |mk (x:V):(vs=[x,.non])->(Q .non H)->sp_need_none  vs H Q E
theorem pb{K:Za}{vs:List V}{H:Hp}{Q:VK}{E:XK}(h:sp_need_none vs H Q E):qz K (cp Q) (start rF vs) H:=by
 obtain⟨x,rfl,k⟩:=h;refine⟨_,rfl,_,rfl,?_⟩;have e:(!decide (V.non=V.non))=false:=by rw[zzr1 rfl];rfl
 rw[e];exact bj k
structure Lists(H:Hp)(l1 l2 l3 l4:Addr)(ts:Ze)(asks says rooms:Zb)(ds:List av):Prop where
 a1:H l1=some (.lst (asks.map V.str))
 a2:H l2=some (.lst (says.map V.str))
 a3:H l3=some (.lst (rooms.map V.str))
 a4:H l4=some (.lst (ts.map V.ref))
 ds:bF H ts ds
theorem Lists.same{H H':Hp}{l1 l2 l3 l4:Addr}{ts:Ze}{asks says rooms:Zb}{ds:List av}(h:Lists H l1 l2 l3 l4 ts asks says rooms ds)(e:aj H H'):Lists H' l1 l2 l3 l4 ts asks says rooms ds :=
 ⟨e _ _ h.a1,e _ _ h.a2,e _ _ h.a3,e _ _ h.a4,h.ds.kt (aj.kt e)⟩
inductive sp_need_parts (vs:List V)(H:Hp)(Q:VK)(E:XK):Prop
 |mk (l1 l2 l3 l4:Addr) (ts:Ze) (asks says rooms:Zb) (ds:List av):(vs=[.ref l1,.ref l2,.ref l3,.ref l4])->(Lists H l1 l2 l3 l4 ts asks says rooms ds)->(bO asks says rooms ds)->(∀H',aj H H'->Q .non H')->sp_need_parts  vs H Q E
theorem bO.signs{asks says rooms:Zb}{ds:List av}(m:bO asks says rooms ds):∀d∈ds,d.a∈rooms/\d.sg∈gk asks says/\d.b∈rooms:=by
 intro d hd;have g:=m.good d hd;refine⟨g.a,?_,g.b⟩;unfold gk;rcases g.sg with⟨w,hw,e⟩|⟨w,hw,e⟩|e
 ·rw[e];exact fH _ (fH _ (bB.mpr ⟨w,hw,rfl⟩))
 ·rw[e];exact fH _ (eE _ (bB.mpr ⟨w,hw,rfl⟩))
 ·rw[e];exact eE _ (by simp[bb])
theorem eS{ws:Zb}(h:dZ ws):∀w∈ws,w.length<=1000:=fun w hw=>cn (h.2 w hw).hi (by decide)
theorem np{K:Za}{vs:List V}{H:Hp}{Q:VK}{E:XK}(h:sp_need_parts vs H Q E):oU K sp_need_none (sp_first_wrong_door K) (sp_door_signs K) (sp_first_wrong_name K) (cp Q) (start p6 vs) H:=by
 obtain⟨l1,l2,l3,l4,ts,asks,says,rooms,ds,rfl,L,m,k⟩:=h;have w1:bE asks 4 []=none:=eA m.asks0 m.asks4 m.okA.1 m.okA.2;have w2:bE says 4 asks=none:=eA m.says0 m.says4 (by
  rw[dI];exact⟨m.okA.1,m.okS.1,fun a ha b hb e=>m.apart b hb (e▸ha)⟩) m.okS.2
 have w3:bE rooms 150 []=none:=eA m.rooms0 (by have:=m.rooms26;omega) m.okR.1 m.okR.2;have w4:xP rooms (gk asks says) 0 [] ds=none:=rh ds [] 0 (by have:=m.few;omega) m.nodup m.signs;have z1:=m.asks4;have z2:=m.says4;have z3:=m.rooms26;have z4:=m.few;refine⟨_,rfl,(by show 0<=am;decide),fun e he=>⟨l1,e,asks,[],4,rfl,aB.of (kp L.a1 he),aB.of aa,by simp;omega,eS m.okA,fun H1 s1=>?_⟩⟩;rw[w1];refine⟨_,rfl,?_⟩;have S1:=(aj.new he).trans s1;refine⟨_,rfl,_,rfl,l2,l1,says,asks,4,rfl,aB.of (S1 _ _ L.a2),aB.of (S1 _ _ L.a1),by omega,eS m.okS,fun H2 s2=>?_⟩;rw[w2];refine⟨_,rfl,?_⟩;have S2:=S1.trans s2;refine⟨_,rfl,(by show 0<=am;decide),fun e he=>⟨l3,e,rooms,[],150,rfl,aB.of (kp (S2 _ _ L.a3) he),aB.of aa,by simp;omega,eS m.okR,fun H3 s3=>?_⟩⟩;rw[w3];refine⟨_,rfl,?_⟩;have S3:=(S2.trans (aj.new he)).trans s3;refine⟨_,rfl,_,rfl,_,rfl,_,rfl,l1,l2,asks,says,rfl,S3 _ _ L.a1,S3 _ _ L.a2,by omega,by omega,fun sl xs H4 hx s4 hsl=>?_⟩;have S4:=S3.trans s4;have L4:=L.same S4;refine⟨l4,l3,sl,ts,ds,rooms,xs,gk asks says,rfl,L4.a4,L4.ds,L4.a3,by omega,hsl,hx,by omega,fun H5 s5=>?_⟩;rw[w4];exact⟨_,rfl,k H5 (S4.trans s5)⟩
section
variable{κ ι:Type}[DecidableEq κ]{e:ι->κ}
def cr(e:ι->κ)(ps:List (ι×Addr)):List (κ×V):=ps.map fun x=>(e x.1,V.ref x.2)
theorem jR(inj:∀x y,e x=e y->x=y){i:ι}:∀{ps:List (ι×Addr)},i∉ps.map (·.1)->cw (cr e ps) (e i)=none
 |[],_=>rfl
 |x::ps,h=>by
  rw[aN,bf]at h;show cw ((e x.1,V.ref x.2)::cr e ps) (e i)=none;rw[bU (fun z=>h (.inl (inj _ _ z).symm))];exact jR inj (fun z=>h (.inr z))
theorem cX(inj:∀x y,e x=e y->x=y){i:ι}{a:Addr}:∀{ps:List (ι×Addr)},(ps.map (·.1)).Nodup->(i,a)∈ps->cw (cr e ps) (e i)=some (.ref a)
 |[],_,h=>by cases h
 |x::ps,nd,h=>by
  rw[aN,kG]at nd;show cw ((e x.1,V.ref x.2)::cr e ps) (e i)=_;rcases bf.mp h with h|h
  ·rw[<-h];exact cq rfl
  ·rw[bU (fun z=>nd.1 (by rw[inj _ _ z];exact bB.mpr ⟨_,h,rfl⟩))];exact cX inj nd.2 h
theorem n_(ps:List (ι×Addr))(i:ι)(a:Addr):cr e (ps++[(i,a)])=cr e ps++[(e i,.ref a)]:=by
 unfold cr;rw[aL]
 rfl
end
structure DL{ι:Type}(H0 H:Hp)(d:Addr)(ps:List (ι×Addr)):Prop where
 nd:(ps.map (·.1)).Nodup
 na:(ps.map (·.2)).Nodup
 fr:∀x∈ps,H0 x.2=none
 frd:H0 d=none
 ned:∀x∈ps,x.2≠d
 same:aj H0 H
theorem DL.snoc{ι:Type}{H0 H H':Hp}{d:Addr}{ps:List (ι×Addr)}{i:ι}{a:Addr}(h:DL H0 H d ps)(hi:i∉ps.map (·.1))(ha:∀x∈ps,x.2≠a)(fr:H0 a=none)(nd:a≠d)(s:aj H0 H'):DL H0 H' d (ps++[(i,a)]):=by
 refine⟨?_,?_,?_,h.frd,?_,s⟩
 ·rw[aL,dI];refine⟨h.nd,by simp,fun x hx y hy e=>?_⟩;have:y=i:=by simpa using hy
  exact hi (by rw[<-this,<-e];exact hx)
 ·rw[aL,dI];refine⟨h.na,by simp,fun x hx y hy e=>?_⟩;have:y=a:=by simpa using hy
  obtain⟨z,hz,rfl⟩:=bB.mp hx;exact ha z hz (e.trans this)
 ·intro x hx;rcases bZ.mp hx with hx|hx
  ·exact h.fr x hx
  ·have:x=(i,a):=by simpa using hx
   rw[this];exact fr
 ·intro x hx;rcases bZ.mp hx with hx|hx
  ·exact h.ned x hx
  ·have:x=(i,a):=by simpa using hx
   rw[this];exact nd
theorem wd{ι:Type}:∀{ps:List (ι×Addr)},(ps.map (·.2)).Nodup->∀{x y:ι×Addr},x∈ps->y∈ps->x.2=y.2->x=y
 |[],_,x,_,h,_,_=>by cases h
 |p::ps,nd,x,y,hx,hy,e=>by
  rw[aN,kG]at nd;rcases bf.mp hx with hx'|hx'<;>rcases bf.mp hy with hy'|hy'
  ·rw[hx',hy']
  ·exact absurd (bB.mpr ⟨y,hy',by rw[<-e,hx']⟩) nd.1
  ·exact absurd (bB.mpr ⟨x,hx',by rw[e,hy']⟩) nd.1
  ·exact wd nd.2 hx' hy' e
theorem fM:∀x y:Str,(Sum.inr x:cI)=Sum.inr y->x=y:=fun x y h=>by injection h
def aw(ds:List av)(r:Str):List av:=ds.filter fun d=>decide (d.a=r)
inductive sp_doors_by_start (vs:List V)(H:Hp)(Q:VK)(E:XK):Prop
 |mk (l3 l4:Addr) (ts:Ze) (rooms:Zb) (ds:List av):(vs=[.ref l3,.ref l4])->(H l3=some (.lst (rooms.map V.str)))->(H l4=some (.lst (ts.map V.ref)))->(bF H ts ds)->(rooms.Nodup)->(rooms.length<=1000)->(ds.length<=9000)->((∀d∈ds,d.a∈rooms))->(∀(d:Addr) (ps:List (Str×Addr)) (H':Hp),ps.map (·.1)=rooms->H' d=some (.dK (cr Sum.inr ps))->(∀x∈ps,∃us,H' x.2=some (.lst (us.map V.ref))/\bF H' us (aw ds x.1))->aj H H'->Q (.ref d) H')->sp_doors_by_start  vs H Q E
def eJ(d:av):Bool:=match d.sg with
 |s::_=>decide (s=("ask":Str))
 |[]=>false
inductive sp_has_asks_alone (vs:List V)(H:Hp)(Q:VK)(E:XK):Prop
 |mk (a:Addr) (us:Ze) (ds:List av):(vs=[.ref a])->(H a=some (.lst (us.map V.ref)))->(bF H us ds)->(ds.length<=9000)->((∀d∈ds,d.sg≠[]))->(∀H',aj H H'->Q (.bl (ds.all eJ)) H')->sp_has_asks_alone  vs H Q E
theorem jK{K:Za}{vs:List V}{H:Hp}{Q:VK}{E:XK}(h:sp_has_asks_alone vs H Q E):ka K (cp Q) (start kB vs) H:=by
 obtain⟨a,us,ds,rfl,ha,hds,hz,hne,k⟩:=h;refine⟨_,rfl,a,rfl,⟨_,aB.of ha⟩,fun l hl=>?_⟩;refine db (xs:=us.map V.ref) (fun i vs H'=>vs=(ds.take i).map (fun d=>V.bl (eJ d))/\aj H H'/\H' l=some (.lst vs))
  ⟨rfl,aj.new hl,aa⟩ (fun i vs H' _ ⟨_,hS,h'⟩=>⟨h',aB.of (hS _ _ ha)⟩) ?_ ?_
 ·rintro vs H' ⟨rfl,hS,h'⟩;rw[ap,Paired.length hds,cY]at h';refine⟨l,ds.map eJ,rfl,aB.of (by rw[h',j1];rfl),?_⟩;rw[List.all_map];exact k H' hS
 ·rintro i vs H' x hx hi ⟨rfl,hS,h'⟩;obtain⟨t,ht,rfl⟩:=d5 hx;obtain⟨dr,hdr,hat⟩:=Paired.getL hds ht;obtain⟨s,ht2,hs2⟩:=hat.kt (aj.kt hS);have hmem:=bT hdr;obtain⟨s0,rest,hsg⟩:∃s0 rest,dr.sg=s0::rest:=by
   cases q:dr.sg with
   |nil=>exact absurd q (hne dr hmem)
   |cons x y=>exact⟨x,y,rfl⟩
  unfold SignAt at hs2;rw[hsg]at hs2;refine gN (oT ?_);refine⟨_,rfl,.inr (.inl ⟨t,_,1,_,rfl,rfl,bM.of ht2,rfl,.inr (.inl ⟨s,_,0,.str s0,rfl,rfl,bM.of hs2,dC (j:=0) rfl,rfl,h',?_,qV hi ⟨?_,?_,aa⟩⟩)⟩)⟩
  ·rw[ap,be];exact br (by omega)
  ·rw[take_snoc hdr,aL];congr 1;show[V.bl _]=[V.bl _];congr 2;unfold eJ;rw[hsg];show decide (V.str s0=V.str _)=decide (s0=_);by_cases c:s0=("ask":Str)
   ·rw[zzr1 c,zzr1 (by rw[c])]
   ·rw[zzr0 c,zzr0 (fun z=>c (by injection z))]
  ·intro b o e;rw[af (ai e hl)];exact hS _ _ e
def qe(x:Str×List Str):TK:=.t [m8 x.1,wq x.2]
theorem gy:∀x y:Str×List Str,qe x=qe y->x=y:=by
 intro x y h;unfold qe at h;injection h with h;injection h with h1 h;injection h with h2 h;cases x;cases y;simp only at *;rw[lJ h1,uj h2]
theorem nT(x:Str×List Str):(qe x).depth<=8:=by
 show max (TK.depth (m8 x.1)) (max (TK.depth (wq x.2)) 0)+1<=8;rw[nQ];show max 0 (max 1 0)+1<=8
 decide
def bx(ds:List av)(x:Str×List Str):List Str:=(ds.filter fun d=>decide (d.a=x.1/\d.sg=x.2)).map (·.b)
theorem pK(ds:List av)(d:av)(x:Str×List Str):bx (ds++[d]) x=bx ds x++(if(d.a,d.sg)=x then[d.b]else[]):=by
 unfold bx;rw[lU,aL];congr 1;by_cases c:(d.a,d.sg)=x
 ·subst c;simp
 ·rw[if_neg c];have:¬(d.a=x.1/\d.sg=x.2):=fun z=>c (by cases x;simp only at z;rw[z.1,z.2]);simp[List.filter_cons];intro h1 h2;exact this ⟨h1,h2⟩
theorem kY{ds:List av}{x:Str×List Str}(h:∀d∈ds,(d.a,d.sg)≠x):bx ds x=[]:=by
 unfold bx;rw[List.map_eq_nil_iff,List.filter_eq_nil_iff];intro d hd;have:¬(d.a=x.1/\d.sg=x.2):=fun z=>h d hd (by cases x;simp only at z;rw[z.1,z.2]);simp;intro h1 h2;exact this ⟨h1,h2⟩
theorem ik{ds:List av}{x:Str×List Str}{b:Str}:b∈bx ds x↔(⟨x.1,x.2,b⟩:av)∈ds:=by
 unfold bx;rw[bB];constructor
 ·rintro⟨d,hd,rfl⟩;rw[jz]at hd;obtain⟨h1,h2⟩:=hd;obtain⟨h3,h4⟩:=of_decide_eq_true h2;cases d;simp only at h3 h4;rw[<-h3,<-h4];exact h1
 ·intro h;exact⟨_,jz.mpr ⟨h,zzr1 ⟨rfl,rfl⟩⟩,rfl⟩
structure gK(H:Hp)(g:Addr)(ps:List ((Str×List Str)×Addr))(ds:List av):Prop where
 nd:(ps.map (·.1)).Nodup
 g:H g=some (.dT (cr qe ps))
 ls:∀x∈ps,H x.2=some (.lst ((bx ds x.1).map V.str))
 all:∀d∈ds,(d.a,d.sg)∈ps.map (·.1)
theorem gK.same{H H':Hp}{g:Addr}{ps:List ((Str×List Str)×Addr)}{ds:List av}(h:gK H g ps ds)(s:aj H H'):gK H' g ps ds:=⟨h.nd,s _ _ h.g,fun x hx=>s _ _ (h.ls x hx),h.all⟩
theorem qW:∀{L R:Zb},L.Nodup->(∀y∈L,y∈R)->L.length<=R.length
 |[],_,_,_=>cj _
 |x::L,R,nd,h=>by
  rw[kG]at nd;have hx:=h x eG;have:=qW (L:=L) (R:=R.erase x) nd.2 fun y hy=>(List.mem_erase_of_ne (fun e:y=x=>nd.1 (by rw[<-e];exact hy))).mpr (h y (cC _ hy));rw[List.length_erase_of_mem hx]at this;have:0<R.length:=List.length_pos_of_mem hx;rw[eZ];omega
theorem Reach.in_{ds:List av}{a b:Str}{rooms:Zb}(hr:∀d∈ds,d.b∈rooms)(h:Reach ds a b):b∈rooms:=by
 cases h with
 |one h=>exact hr _ h
 |step r h=>exact hr _ h
inductive o7 (vs:List V)(H:Hp)(Q:VK)(E:XK):Prop
 |mk (g:Addr) (room:Str) (ps:List ((Str×List Str)×Addr)) (ds:List av) (rooms:Zb):(vs=[.ref g,.str room])->(gK H g ps ds)->((∀d∈ds,d.b∈rooms))->(rooms.length<=1000)->(∀(d:Addr) (L:Zb) (H':Hp),H' d=some (.dK (aZ L))->L.Nodup->(∀w,w∈L↔Reach ds room w)->H d=none->aj H H'->Q (.ref d) H')->o7  vs H Q E
structure zD(H0 H:Hp)(ds:List av)(room:Str)(d w:Addr)(L W:Zb)(open_:Str->Prop):Prop where
 d:H d=some (.dK (aZ L))
 w:H w=some (.lst (W.map V.str))
 same:aj H0 H
 nd:L.Nodup
 sound:∀y∈L,Reach ds room y
 wait:∀y∈W,y=room∨y∈L
 closed:∀y,(y=room∨y∈L)->y∉W->¬open_ y->∀c∈bx ds (y,bb),c∈L
theorem lz{K:Za}{st:Addr}(hst:∀H,bM K H st (bb.map V.str)){vs:List V}{H:Hp}{Q:VK}{E:XK}(h:o7 vs H Q E):mq K st (cp Q) (start mY vs) H:=by
 obtain⟨g,room,ps,ds,rooms,rfl,G,hin,hz,k⟩:=h;refine fun d hd=>?_;refine⟨_,rfl,(by show 1<=am;decide),fun w hw=>?_⟩;have hwH:H w=none:=(aj.new hd).free hw;have hdw:d≠w:=ai aa hw;refine⟨fun m σ H'=>∃(L W:Zb) (x y:Option V),σ=[some (.ref g),some (.str room),some (.ref d),some (.ref w),x,y]/\zD H H' ds room d w L W (fun _=>False)/\m=2 * (rooms.length-L.length)+W.length/\m<=2 * rooms.length+1,
  ⟨_,[],[room],_,_,rfl,⟨kp aa hw,aa,(aj.new hd).trans (aj.new hw),md,by simp,by simp,?_⟩,rfl,aE _⟩,?_⟩
 ·intro y hy hn;rcases hy with rfl|hy
  ·simp at hn
  ·cases hy
 rintro m σ H1 ⟨L,W,x4,x5,rfl,D,rfl,hbound⟩;have lenL:∀{L':Zb},L'.Nodup->(∀y∈L',Reach ds room y)->L'.length<=rooms.length:=fun nd sd=>qW nd fun y hy=>(sd y hy).in_ hin;refine⟨_,rfl,.inl ⟨w,_,rfl,.inl (aB.of D.w),_,_,rfl,rfl,_,rfl,?_⟩⟩;refine mI (fun hpos=>?_) (fun hpos=>?_)
 ·have hne:W≠[]:=by
   intro z;rw[z]at hpos;exact absurd (of_decide_eq_true hpos) (by decide)
  obtain⟨W',here,rfl⟩:∃W' here,W=W'++[here]:=⟨W.dropLast,W.getLast hne,(List.dropLast_concat_getLast hne).symm⟩;have hhere:here=room∨here∈L:=D.wait here (by simp);refine⟨fun σ' H'=>∃(L' W2:Zb) (x y:Option V),σ'=[some (.ref g),some (.str room),some (.ref d),some (.ref w),x,y]/\zD H H' ds room d w L' W2 (fun _=>False)/\2 * (rooms.length-L'.length)+W2.length<2 * (rooms.length-L.length)+(W'++[here]).length,
   fun σ' H' ⟨L',W2,x,y,e,D',hm⟩=>⟨_,hm,L',W2,x,y,e,D',rfl,by omega⟩,?_⟩
  have hlast:((W'++[here]).map V.str)[((W'++[here]).map V.str).length-1]?=some (.str here):=by simp
  have hdrop:((W'++[here]).map V.str).dropLast=W'.map V.str:=by rw[aL];simp
  refine⟨_,rfl,.inl ⟨rfl,_,aB.of D.w⟩,w,_,_,rfl,rfl,D.w,hlast,?_⟩;rw[hdrop];have hd1:upd H1 w (.lst (W'.map V.str)) d=some (.dK (aZ L)):=by rw[af hdw];exact D.d
  have hw1:upd H1 w (.lst (W'.map V.str)) w=some (.lst (W'.map V.str)):=aa;have S1:aj H (upd H1 w (.lst (W'.map V.str))):=fun b o q=>by rw[af (ai q hwH)];exact D.same _ _ q
  generalize upd H1 w (.lst (W'.map V.str))=H2 at hd1 hw1 S1 ⊢;have G2:=G.same S1;refine⟨_,rfl,g,rfl,.inr ⟨_,.inl G2.g⟩,_,rfl,(by show 2<=am;decide),fun kt hkt=>⟨(by show 0<=am;decide),fun et het=>⟨cw (cr qe ps) (qe (here,bb)),.inr ⟨_,qe (here,bb),kt,.inl ?_,rfl,?_,nT _,rfl⟩,?_⟩⟩⟩
  ·exact kp (kp G2.g hkt) het
  ·unfold qe lB;refine⟨kt,_,rfl,bM.of (kp aa het),?_⟩;unfold TKIns;refine⟨_,_,rfl,?_,?_⟩
   ·unfold m8 lB;rfl
   unfold TKIns;refine⟨_,_,rfl,?_,?_⟩
   ·unfold wq lB;refine⟨st,_,rfl,hst _,?_⟩;unfold bb;show TKIns K _ [m8 _] [V.str _];unfold TKIns;refine⟨_,_,rfl,?_,?_⟩
    ·unfold m8 lB;rfl
    unfold TKIns;rfl
   unfold TKIns;rfl
  have S3:aj H2 (upd (upd H2 kt (.tup [.str here,.ref st])) et (.tup [])):=(aj.new hkt).trans (aj.new het);have het3:upd (upd H2 kt (.tup [.str here,.ref st])) et (.tup []) et=some (.tup []):=aa;generalize upd (upd H2 kt (.tup [.str here,.ref st])) et (.tup [])=H3 at S3 het3 ⊢;have D3:zD H H3 ds room d w L W' (fun y=>y=here):=⟨S3 _ _ hd1,S3 _ _ hw1,S1.trans S3,D.nd,D.sound,fun y hy=>D.wait y (fH _ hy),fun y hy hn ho=>D.closed y hy (fun z=>by rcases bZ.mp z with z|z;exact hn z;exact ho (by simpa using z)) (fun z=>z)⟩;have hm3:2 * (rooms.length-L.length)+W'.length<2 * (rooms.length-L.length)+(W'++[here]).length:=by rw[bC];show _<_+(_+1);omega
  have fin:∀(H4:Hp) (L' W2:Zb) (x y:Option V),zD H H4 ds room d w L' W2 (fun y=>y=here)->(∀c∈bx ds (here,bb),c∈L')->2 * (rooms.length-L'.length)+W2.length<2 * (rooms.length-L.length)+(W'++[here]).length ->
    ∃(L' W2:Zb) (x' y':Option V),[some (V.ref g),some (.str room),some (.ref d),some (.ref w),x,y]=[some (.ref g),some (.str room),some (.ref d),some (.ref w),x',y']/\zD H H4 ds room d w L' W2 (fun _=>False)/\2 * (rooms.length-L'.length)+W2.length<2 * (rooms.length-L.length)+(W'++[here]).length:=by
   intro H4 L' W2 x y D4 hc hm;refine⟨L',W2,x,y,rfl,⟨D4.d,D4.w,D4.same,D4.nd,D4.sound,D4.wait,fun y hy hn _=>?_⟩,hm⟩;by_cases e:y=here
   ·rw[e];exact hc
   ·exact D4.closed y hy hn e
  by_cases hmem:(here,bb)∈ps.map (·.1)
  ·obtain⟨⟨r,a⟩,hra,er⟩:=bB.mp hmem;obtain rfl:r=(here,bb):=er;rw[cX gy G.nd hra];have hla:=G.ls _ hra;refine⟨a,rfl,.inl ⟨⟨_,aB.of ((S1.trans S3) _ _ hla)⟩,?_⟩⟩;refine dA (xs:=(bx ds (here,bb)).map V.str) (fun j σ H'=>∃(L' W2:Zb) (y:Option V),σ=[some (.ref g),some (.str room),some (.ref d),some (.ref w),some (.str here),y]/\zD H H' ds room d w L' W2 (fun y=>y=here)/\(here=room∨here∈L')/\(∀c∈(bx ds (here,bb)).take j,c∈L') /\
     2 * (rooms.length-L'.length)+W2.length<2 * (rooms.length-L.length)+(W'++[here]).length)
    ⟨L,W',_,rfl,D3,hhere,by simp,hm3⟩ (fun j σ H' _ ⟨_,_,_,_,D',_⟩=>aB.of (D'.same _ _ hla)) ?_ ?_
   ·rintro j x σ H4 hj ⟨L',W2,y,rfl,D4,hh,hc,hm⟩;obtain⟨goal,hgoal,rfl⟩:=df hj;have hedge:(⟨here,bb,goal⟩:av)∈ds:=ik.mp (bT hgoal);have hreach:Reach ds room goal:=by
     rcases hh with hh|hh
     ·rw[hh]at hedge;exact .one hedge
     ·exact .step (D4.sound _ hh) hedge
    have hlen':=lenL D4.nd D4.sound;refine⟨_,rfl,_,rfl,d,_,rfl,.inl ⟨_,.inr goal,.inl D4.d,rfl,rfl⟩,_,rfl,?_⟩;rw[eU];by_cases c:goal∈L'
    ·rw[zzr1 c];refine bj ⟨L',W2,_,rfl,D4,hh,?_,hm⟩;intro c' hc';rw[take_snoc hgoal]at hc';rcases bZ.mp hc' with h|h
     ·exact hc c' h
     ·have:c'=goal:=by simpa using h
      rw[this];exact c
    ·rw[zzr0 c];refine bY ?_;have nd':(L'++[goal]).Nodup:=by
      rw[dI];refine⟨D4.nd,by simp,fun a ha b hb e=>?_⟩;have:b=goal:=by simpa using hb
      exact c (by rw[<-this,<-e];exact ha)
     have sd':∀y∈L'++[goal],Reach ds room y:=by
      intro y hy;rcases bZ.mp hy with hy|hy
      ·exact D4.sound y hy
      ·have:y=goal:=by simpa using hy
       rw[this];exact hreach
     have hlen2:=lenL nd' sd';rw[bC]at hlen2;have hlen3:L'.length+1<=rooms.length:=hlen2;have hWl:W2.length<=9000:=by omega
     refine⟨_,rfl,_,rfl,d,_,rfl,.inl ⟨_,.inr goal,D4.d,rfl,aY (cn (ji _) (by omega)),rfl⟩,?_⟩;have hw5:upd H4 d (.dK (d9 (aZ L') (.inr goal) (.bl true))) w=some (.lst (W2.map V.str)):=by rw[af hdw.symm];exact D4.w
     refine⟨_,rfl,.inl ⟨rfl,_,aB.of hw5⟩,_,rfl,w,_,_,rfl,rfl,hw5,by rw[ap];exact br hWl,L'++[goal],W2++[goal],_,rfl,⟨?_,?_,?_,nd',sd',?_,?_⟩,?_,?_,?_⟩
     ·rw[af hdw,aa,ee]
     ·rw[aa,aL];rfl
     ·intro b o q;rw[af (ai q hwH),af (ai q hd)];exact D4.same _ _ q
     ·intro y hy;rcases bZ.mp hy with hy|hy
      ·rcases D4.wait y hy with h|h
       ·exact .inl h
       ·exact .inr (fH _ h)
      ·exact .inr (eE _ hy)
     ·intro y hy hn ho c' hc';have hn1:y∉W2:=fun z=>hn (fH _ z);have hyg:y≠goal:=fun z=>hn (eE _ (by simp[z]));refine fH _ (D4.closed y ?_ hn1 ho c' hc');rcases hy with hy|hy
      ·exact .inl hy
      ·rcases bZ.mp hy with hy|hy
       ·exact .inr hy
       ·exact absurd (by simpa using hy) hyg
     ·rcases hh with h|h
      ·exact .inl h
      ·exact .inr (fH _ h)
     ·intro c' hc';rw[take_snoc hgoal]at hc';rcases bZ.mp hc' with h|h
      ·exact fH _ (hc c' h)
      ·exact eE _ h
     ·rw[bC,bC];show 2 * (rooms.length-(L'.length+1))+(W2.length+1)<_;omega
   ·rintro σ H4 ⟨L',W2,y,rfl,D4,hh,hc,hm⟩;rw[ap,cY]at hc;exact fin H4 L' W2 _ _ D4 hc hm
  ·rw[jR gy hmem];refine⟨et,rfl,.inr ⟨⟨_,bM.of het3⟩,?_⟩⟩;have hnil:bx ds (here,bb)=[]:=kY fun x hx z=>hmem (by rw[<-z];exact G.all x hx);refine xR (xs:=[]) (fun j σ H'=>σ=[some (.ref g),some (.str room),some (.ref d),some (.ref w),some (.str here),x5]/\H'=H3) ⟨rfl,rfl⟩ (fun j σ H' _ ⟨_,e⟩=>by rw[e];exact bM.of het3) (fun j x σ H' hj=>by cases hj) ?_;rintro σ H' ⟨rfl,rfl⟩;exact fin _ L W' _ _ D3 (by rw[hnil];simp) hm3
 ·have hnil:W=[]:=by
   cases W with
   |nil=>rfl
   |cons a W=>exact absurd (zzr1 (by rw[ap,eZ];omega)) hpos
  subst hnil;refine⟨_,rfl,k d L H1 D.d D.nd (fun w=>⟨D.sound w,fun hr=>?_⟩) hd D.same⟩
  induction hr with
  |one h=>exact D.closed room (.inl rfl) (by simp) (fun z=>z) _ (ik.mpr h)
  |step r h ih=>exact D.closed _ (.inr ih) (by simp) (fun z=>z) _ (ik.mpr h)
inductive sp_first_led_round (vs:List V)(H:Hp)(Q:VK)(E:XK):Prop
 |mk (l3 d:Addr) (rooms:Zb) (ps:List (Str×Addr)):(vs=[.ref l3,.ref d])->(H l3=some (.lst (rooms.map V.str)))->(H d=some (.dK (cr Sum.inr ps)))->(ps.map (·.1)=rooms)->(rooms.Nodup)->((∀x∈ps,∃L,H x.2=some (.dK (aZ L))/\x.1∉L))->(∀H',aj H H'->Q .non H')->sp_first_led_round  vs H Q E
theorem jb{K:Za}{vs:List V}{H:Hp}{Q:VK}{E:XK}(h:sp_first_led_round vs H Q E):jC K (cp Q) (start jW vs) H:=by
 obtain⟨l3,d,rooms,ps,rfl,h3,hd,hps,nod,hL,k⟩:=h;refine⟨_,rfl,l3,rfl,⟨_,aB.of h3⟩,?_⟩;refine io (xs:=rooms.map V.str) (fun i σ H'=>∃x y,σ=[some (.ref l3),some (.ref d),x,y]/\aj H H') ⟨_,_,rfl,aj.refl H⟩ (fun i σ H' _ ⟨_,_,_,S⟩=>aB.of (S _ _ h3)) ?_ ?_
 ·rintro i x σ H' t hi ⟨x2,x3,rfl,S⟩ ht;obtain⟨w,hw,rfl⟩:=df hi;refine⟨t,_,rfl,bM.of aa,rfl,_,_,rfl,_,_,rfl,rfl,?_⟩;have S2:aj H (upd H' t (.tup [.int i,.str w])):=S.trans (aj.new ht);generalize upd H' t (.tup [.int i,.str w])=H2 at S2 ⊢;have hmem:w∈ps.map (·.1):=by rw[hps];exact bT hw
  obtain⟨⟨r,a⟩,hra,er⟩:=bB.mp hmem;obtain rfl:r=w:=er;obtain⟨L,hLa,hn⟩:=hL _ hra;refine⟨_,rfl,_,rfl,_,rfl,d,.ref a,rfl,.inl ⟨_,.inr r,.inl (S2 _ _ hd),rfl,(cX fM (by rw[hps];exact nod) hra).symm⟩,a,_,rfl,.inl ⟨_,.inr r,.inl (S2 _ _ hLa),rfl,rfl⟩,_,rfl,?_⟩;rw[eU,zzr0 hn];exact bj ⟨_,_,rfl,S2⟩
 ·rintro σ H' ⟨x,y,rfl,S⟩;exact k H' S
abbrev lk(f:Str)(fs:List (Str×V)):Option V:=fs.lookup f
def cx(ds:List av)(r:Str):Bool:=(aw ds r).all eJ
structure cG(C:Addr)(H:Hp)(x:Addr)(asks says rooms:Zb)(ds:List av):Prop where
 at_:∃(dx:Addr) (fs:List (Str×V)) (o1 o2 o3 o4 lv qu sg sl:Addr) (ts:Ze) (lps:List (Str×Addr)) (gps:List ((Str×List Str)×Addr)) (sps:List (Str×Addr)),
  H x=some (.ins C dx fs)/\lk "is_quiet" fs=none/\lk "goals" fs=none/\lk "led_from" fs=none/\lk "rooms" fs=none /\
  lk "own_asks" fs=some (.ref o1)/\lk "own_says" fs=some (.ref o2)/\lk "own_rooms" fs=some (.ref o3)/\lk "own_doors" fs=some (.ref o4) /\
  lk "leaving" fs=some (.ref lv)/\lk "quiet" fs=some (.ref qu)/\lk "sign_goals" fs=some (.ref sg)/\lk "still_led" fs=some (.ref sl) /\
  Lists H o1 o2 o3 o4 ts asks says rooms ds /\
  lps.map (·.1)=rooms/\H lv=some (.dK (cr Sum.inr lps))/\(∀x∈lps,∃us,H x.2=some (.lst (us.map V.ref))/\bF H us (aw ds x.1)) /\
  H qu=some (.dK (aZ (rooms.filter (cx ds))))/\gK H sg gps ds /\
  sps.map (·.1)=rooms/\H sl=some (.dK (cr Sum.inr sps))/\(∀x∈sps,∃L,H x.2=some (.dK (aZ L))/\L.Nodup/\∀w,w∈L↔Reach ds x.1 w)
 ok:bO asks says rooms ds
 more:∃(dx:Addr) (fs:List (Str×V)),H x=some (.ins C dx fs)/\lk "asks" fs=none/\lk "says" fs=none/\lk "doors" fs=none/\lk "doors_from" fs=none
theorem d_(f:Str)(v:V):∀fs:List (Str×V),(bR f v fs).length<=fs.length+1
 |[]=>aE _
 | (g,x)::r=>by
  unfold bR;split
  ·exact Nat.le_succ _
  ·rw[eZ,eZ];have:=d_ f v r;omega
theorem mH:∀(ps qs:List (Str×Addr)),((qs++ps).map (·.1)).Nodup->fS (cr Sum.inr qs) (cr Sum.inr ps)=cr Sum.inr (qs++ps)
 |[],qs,_=>by rw[iX];rfl
 |p::ps,qs,nd=>by
  show fS (d9 (cr Sum.inr qs) (Sum.inr p.1) (.ref p.2)) (cr Sum.inr ps)=_;have e:qs++p::ps=(qs++[p])++ps:=by simp
  rw[e]at nd ⊢;have hnew:p.1∉qs.map (·.1):=by
   rw[aL,aL,dI]at nd;have:=nd.1;rw[dI]at this;intro z;exact this.2.2 _ z _ (by simp) rfl
  rw[qO _ (jR fM hnew)];have:=mH ps (qs++[p]) nd;rw[<-this];have e2:cr (Sum.inr:Str->cI) (qs++[p])=cr Sum.inr qs++[(Sum.inr p.1,V.ref p.2)]:=by
   unfold cr;rw[aL];rfl
  rw[e2]
theorem Lists.exI{H H':Hp}{x C dx:Addr}{fs:List (Str×V)}{l1 l2 l3 l4:Addr}{ts:Ze}{asks says rooms:Zb}{ds:List av}(h:Lists H l1 l2 l3 l4 ts asks says rooms ds)(hx:H x=some (.ins C dx fs))(e:cv x H H'):Lists H' l1 l2 l3 l4 ts asks says rooms ds:=by
 have ne:∀{b:Addr}{xs:List V},H b=some (.lst xs)->b≠x:=fun hb z=>by rw[z,hx]at hb;cases hb
 exact⟨e _ _ h.a1 (ne h.a1),e _ _ h.a2 (ne h.a2),e _ _ h.a3 (ne h.a3),e _ _ h.a4 (ne h.a4),h.ds.kt fun b xs hb=>e _ _ hb fun z=>by rw[z,hx]at hb;cases hb⟩
theorem cv.ktI{H H':Hp}{x C dx:Addr}{fs:List (Str×V)}(e:cv x H H')(hx:H x=some (.ins C dx fs)):p_ H H':=fun b xs hb=>e _ _ hb fun z=>by rw[z,hx]at hb;cases hb
theorem cv.neI{H:Hp}{x C dx:Addr}{fs:List (Str×V)}(hx:H x=some (.ins C dx fs)){b:Addr}{xs:List V}(hb:H b=some (.lst xs)):b≠x:=fun z=>by rw[z,hx]at hb;cases hb
theorem wc{H:Hp}{x C dx:Addr}{fs:List (Str×V)}(hx:H x=some (.ins C dx fs)){b:Addr}{kvs:List (cI×V)}(hb:H b=some (.dK kvs)):b≠x:=fun z=>by rw[z,hx]at hb;cases hb
theorem yD{H:Hp}{x C dx:Addr}{fs:List (Str×V)}(hx:H x=some (.ins C dx fs)){b:Addr}{kvs:List (TK×V)}(hb:H b=some (.dT kvs)):b≠x:=fun z=>by rw[z,hx]at hb;cases hb
structure MC(K:Za)(C:Addr):Prop where
 cls:vw K C
 a1:cR K C "own_asks"
 a2:cR K C "own_says"
 a3:cR K C "own_rooms"
 a4:cR K C "own_doors"
 a5:cR K C "leaving"
 a6:cR K C "quiet"
 a7:cR K C "sign_goals"
 a8:cR K C "still_led"
theorem rj{H:Hp}{x C dx:Addr}{fs:List (Str×V)}(f:Str)(y:V)(hx:H x=some (.ins C dx fs)):∃H',H'=upd H x (.ins C dx (bR f y fs))/\H' x=some (.ins C dx (bR f y fs))/\cv x H H' :=
 ⟨_,rfl,aa,cv.upd _ _ _⟩
theorem kZ{p:Str->Bool}{ws:Zb}{i:Nat}{w:Str}(h:ws[i]?=some w):(ws.take (i+1)).filter p=(ws.take i).filter p++(if p w=true then[w]else[]):=by
 rw[take_snoc h,lU];congr 1;by_cases c:p w=true
 ·rw[if_pos c];simp[c]
 ·rw[if_neg c];simp[c]
theorem jh(ds:List av)(r:Str):(aw ds r).length<=ds.length:=iY _ _
theorem bO.sg0{asks says rooms:Zb}{ds:List av}(m:bO asks says rooms ds){r:Str}:∀d∈aw ds r,d.sg≠[]:=by
 intro d hd;have:=m.good d (jz.mp hd).1;rcases this.sg with⟨w,_,e⟩|⟨w,_,e⟩|e<;>rw[e]<;>exact List.cons_ne_nil _ _
theorem x8(a b:Str):decide (dF a=dF b)=decide (a=b):=by
 by_cases e:a=b
 ·rw[zzr1 e,zzr1 (by rw[e])]
 ·rw[zzr0 e,zzr0 (fun z=>e (lK z))]
theorem cG.by{C:Addr}{H H':Hp}{x:Addr}{asks says rooms:Zb}{ds:List av}(h:cG C H x asks says rooms ds)
  (hs:∀b ws,H b=some (.lst (List.map V.str ws))->H' b=some (.lst (List.map V.str ws))) (hr:∀b ts,H b=some (.lst (List.map V.ref ts))->H' b=some (.lst (List.map V.ref ts))) (ht:p_ H H')
  (hd:∀b kvs,H b=some (.dK kvs)->H' b=some (.dK kvs)) (hT:∀b kvs,H b=some (.dT kvs)->H' b=some (.dT kvs)) (hi:∀b C dx fs,H b=some (.ins C dx fs)->H' b=some (.ins C dx fs)):cG C H' x asks says rooms ds:=by
 obtain⟨dx,fs,o1,o2,o3,o4,lv,qu,sg,sl,ts,lps,gps,sps,g1,a1,a2,a3,a4,b1,b2,b3,b4,b5,b6,b7,b8,L,c1,c2,c3,c4,G,d1,d2,d3⟩:=h.at_;refine⟨⟨dx,fs,o1,o2,o3,o4,lv,qu,sg,sl,ts,lps,gps,sps,hi _ _ _ _ g1,a1,a2,a3,a4,b1,b2,b3,b4,b5,b6,b7,b8,⟨hs _ _ L.a1,hs _ _ L.a2,hs _ _ L.a3,hr _ _ L.a4,L.ds.kt ht⟩,c1,hd _ _ c2,fun y hy=>?_,hd _ _ c4,⟨G.nd,hT _ _ G.g,fun y hy=>hs _ _ (G.ls y hy),G.all⟩,d1,hd _ _ d2,fun y hy=>?_⟩,h.ok,by obtain⟨dx,fs,g,r⟩:=h.more;exact⟨dx,fs,hi _ _ _ _ g,r⟩⟩
 ·obtain⟨us,e1,e2⟩:=c3 y hy;exact⟨us,hr _ _ e1,e2.kt ht⟩
 ·obtain⟨L0,e1,e2⟩:=d3 y hy;exact⟨L0,hd _ _ e1,e2⟩
theorem cG.same{C:Addr}{H H':Hp}{x:Addr}{asks says rooms:Zb}{ds:List av}(h:cG C H x asks says rooms ds)(S:aj H H'):cG C H' x asks says rooms ds :=
 h.by (fun _ _ e=>S _ _ e) (fun _ _ e=>S _ _ e) (aj.kt S) (fun _ _ e=>S _ _ e) (fun _ _ e=>S _ _ e) (fun _ _ _ _ e=>S _ _ e)
inductive fK(C:Addr)(vs:List V)(H:Hp)(Q:VK)(E:XK):Prop
 |mk (x:Addr) (w:Str) (asks says rooms:Zb) (ds:List av):(vs=[.ref x,.str w])->(cG C H x asks says rooms ds)->(Q (.bl (decide (w∈rooms.filter (cx ds)))) H)->fK C vs H Q E
theorem qN{K:Za}{C:Addr}(M:MC K C){vs:List V}{H:Hp}{Q:VK}{E:XK}(h:fK C vs H Q E):i9 K (cp Q) (start jq vs) H:=by
 obtain⟨x,w,asks,says,rooms,ds,rfl,h,k⟩:=h;obtain⟨dx,fs,o1,o2,o3,o4,lv,qu,sg,sl,ts,lps,gps,sps,g1,a1,a2,a3,a4,b1,b2,b3,b4,b5,b6,b7,b8,L,c1,c2,c3,c4,_⟩:=h.at_;refine⟨_,rfl,_,rfl,x,C,dx,fs,.ref qu,rfl,g1,M.cls,M.a6,b6,qu,_,rfl,.inl ⟨_,.inr w,.inl c4,rfl,rfl⟩,?_⟩;rw[eU];exact k
def ll(K:Za):TS :=
 ba (cJ (cF K) (aJ (nc K V0 "own_rooms")))
def lC:List Str:=["self"]
inductive jG(C:Addr)(vs:List V)(H:Hp)(Q:VK)(E:XK):Prop
 |mk (x:Addr) (asks says rooms:Zb) (ds:List av):(vs=[.ref x])->(cG C H x asks says rooms ds)->(∀l,H l=none->Q (.ref l) (upd H l (.lst (rooms.map V.str))))->jG C vs H Q E
theorem vR{K:Za}{C:Addr}(M:MC K C){vs:List V}{H:Hp}{Q:VK}{E:XK}(h:jG C vs H Q E):ll K (cp Q) (start lC vs) H:=by
 obtain⟨x,asks,says,rooms,ds,rfl,h,k⟩:=h;obtain⟨dx,fs,o1,o2,o3,o4,lv,qu,sg,sl,ts,lps,gps,sps,g1,a1,a2,a3,a4,b1,b2,b3,b4,b5,b6,b7,b8,L,_⟩:=h.at_;exact⟨_,rfl,x,C,dx,fs,.ref o3,rfl,g1,M.cls,M.a3,b3,.inl ⟨o3,_,rfl,.inl (aB.of L.a3),k⟩⟩
theorem eM{ds:List av}{i:Nat}{d:av}{p:av->Bool}(h:ds[i]?=some d):(ds.take (i+1)).filter p=(ds.take i).filter p++(if p d=true then[d]else[]):=by
 rw[take_snoc h,lU];congr 1;by_cases c:p d=true
 ·rw[if_pos c];simp[c]
 ·rw[if_neg c];simp[c]
theorem wv{K:Za}{a b:Addr}{xs ys:List V}{g:TG}{tb:TS}{D:jt}{σ:L2.St}{H:Hp}(hxy:xs.length=ys.length)(Pv:Nat->L2.St->Hp->Prop)(h0:Pv 0 σ H)(hl:∀i σ H,i<=xs.length->Pv i σ H->aB K H a xs/\aB K H b ys)
  (hs:∀i x y σ H p,xs[i]?=some x->ys[i]?=some y->Pv i σ H->H p=none->g (.ref p) σ (upd H p (.tup [x,y])) fun σ2 H2=>tb { D with nx:=Pv (i+1),ct:=Pv (i+1),bk:=D.nx } σ2 H2) (hd:∀σ H,Pv xs.length σ H->D.nx σ H) :
  ∃W:Nat->Nat->L2.St->Hp->Prop,(∃m,W 0 m σ H)/\∀i m σ H,W i m σ H ->
   ((Ab K a b).stop i H/\D.nx σ H)∨((Ab K a b).go i H/\∃N:L2.St->Hp->Prop,(∀σ' H',N σ' H'->∃m',m'<m/\W (i+1) m' σ' H')/\∀x H',(Ab K a b).yld i H x H'->g x σ H' fun σ2 H2=>tb { D with nx:=N,ct:=N,bk:=D.nx } σ2 H2):=by
 refine⟨fun i m σ H=>m=xs.length-i/\i<=xs.length/\Pv i σ H,⟨xs.length,by simp,cj _,h0⟩,?_⟩;rintro i m σ H ⟨rfl,hi,p⟩;obtain⟨q1,q2⟩:=hl i σ H hi p;by_cases hlt:i<xs.length
 ·have hlt2:i<ys.length:=by omega
  refine .inr ⟨⟨xs,ys,xs[i],ys[i],q1,q2,by simp[hlt],by simp[hlt2]⟩,Pv (i+1),fun σ' H' p'=>⟨xs.length-(i+1),by omega,rfl,hlt,p'⟩,fun x H' y=>?_⟩;obtain⟨t,u,v,rfl,hn,hu,hv,rfl⟩:=y;exact hs i u v σ H t (hu xs q1) (hv ys q2) p hn
 ·have e:i=xs.length:=by omega
  subst e;exact .inl ⟨⟨xs,ys,q1,q2,.inl (aE _)⟩,hd σ H p⟩
theorem bM.same{K:Za}{H H':Hp}{a:Addr}{xs:List V}(S:aj H H')(h:bM K H a xs):bM K H' a xs:=by
 rcases h with(h|⟨o,h⟩)|h
 ·exact .inl (.inl (S _ _ h))
 ·exact .inl (.inr ⟨o,S _ _ h⟩)
 ·exact .inr h
theorem aB.same{K:Za}{H H':Hp}{a:Addr}{xs:List V}(S:aj H H')(h:aB K H a xs):aB K H' a xs:=by
 rcases h with(h|⟨o,h⟩)|h
 ·exact .inl (.inl (S _ _ h))
 ·exact .inl (.inr ⟨o,S _ _ h⟩)
 ·exact .inr h
mutual
theorem fG.same{K:Za}{H H':Hp}(S:aj H H'):∀{d:DT}{v:V},fG K H d v->fG K H' d v
 |.k a,v,h=>by unfold fG at h ⊢;exact h
 |.t l,v,h=>by
  unfold fG at h ⊢;obtain⟨b,xs,e,q,r⟩:=h;exact⟨b,xs,e,bM.same S q,DIns.same S r⟩
 |.s l,v,h=>by
  unfold fG at h ⊢;obtain⟨b,xs,e,q,r⟩:=h;exact⟨b,xs,e,aB.same S q,DIns.same S r⟩
theorem DIns.same{K:Za}{H H':Hp}(S:aj H H'):∀{ds:List DT}{vs:List V},DIns K H ds vs->DIns K H' ds vs
 |[],vs,h=>by unfold DIns at h ⊢;exact h
 |d::ds,vs,h=>by
  unfold DIns at h ⊢;obtain⟨v,us,e,q,r⟩:=h;exact⟨v,us,e,fG.same S q,DIns.same S r⟩
end
theorem mM{n:Nat}:∀{ds:List DT}{i:Nat}{d:DT},DT.depths ds<=n->ds[i]?=some d->d.depth<=n
 |[],i,d,_,e=>by simp at e
 |x::ds,i,d,h,e=>by
  have h':max (DT.depth x) (DT.depths ds)<=n:=h;cases i with
  |zero=>simp at e;subst e;omega
  |succ i=>simp at e;exact mM (by omega) e
open Classical in
theorem mN(ds:List av):DT.depths (ds.map iu)<=2:=by
 induction ds with
 |nil=>exact cj _
 |cons x xs ih=>rw[aN];show max (DT.depth (iu x)) (DT.depths _)<=2;rw[lO];omega
def mw(K:Za):TS :=
 ba (cJ (cF K) (aJ (nc K V0 "own_asks")))
def m5:List Str:=["self"]
def mr(K:Za):TS :=
 ba (cJ (cF K) (aJ (nc K V0 "own_says")))
def mZ:List Str:=["self"]
def h9(K:Za):TS :=
 ba (cJ (cF K) (aJ (se K (nc K V0 "leaving") V1 (gb (bG)))))
def ix:List Str:=["self","room"]
theorem sj{C x:Addr}{H:Hp}{asks says rooms:Zb}{ds:List av}(h:cG C H x asks says rooms ds):∃(dx:Addr) (fs:List (Str×V)) (o1 o2 lv:Addr) (lps:List (Str×Addr)),H x=some (.ins C dx fs)/\lk "asks" fs=none/\lk "says" fs=none/\lk "doors_from" fs=none/\lk "is_quiet" fs=none/\lk "own_asks" fs=some (.ref o1)/\lk "own_says" fs=some (.ref o2)/\lk "leaving" fs=some (.ref lv) /\
  H o1=some (.lst (asks.map V.str))/\H o2=some (.lst (says.map V.str))/\lps.map (·.1)=rooms/\H lv=some (.dK (cr Sum.inr lps))/\(∀x∈lps,∃us,H x.2=some (.lst (us.map V.ref))/\bF H us (aw ds x.1)):=by
 obtain⟨dx,fs,o1,o2,o3,o4,lv,qu,sg,sl,ts,lps,gps,sps,g1,a1,a2,a3,a4,b1,b2,b3,b4,b5,b6,b7,b8,L,c1,c2,c3,c4,G,d1,d2,d3⟩:=h.at_;obtain⟨dx',fs',g1',e1,e2,e3,e4⟩:=h.more;rw[g1]at g1';cases g1';exact⟨dx,fs,o1,o2,lv,lps,g1,e1,e2,e4,a1,b1,b2,b5,L.a1,L.a2,c1,c2,c3⟩
inductive lI(C:Addr)(vs:List V)(H:Hp)(Q:VK)(E:XK):Prop
 |mk (x:Addr) (asks says rooms:Zb) (ds:List av):(vs=[.ref x])->(cG C H x asks says rooms ds)->(∀l,H l=none->Q (.ref l) (upd H l (.lst (asks.map V.str))))->lI C vs H Q E
theorem xy{K:Za}{C:Addr}(M:MC K C){vs:List V}{H:Hp}{Q:VK}{E:XK}(h:lI C vs H Q E):mw K (cp Q) (start m5 vs) H:=by
 obtain⟨x,asks,says,rooms,ds,rfl,h,k⟩:=h;obtain⟨dx,fs,o1,o2,lv,lps,g1,a1,a2,a3,a4,b1,b2,b3,c1,c2,_⟩:=sj h;exact⟨_,rfl,x,C,dx,fs,.ref o1,rfl,g1,M.cls,M.a1,b1,.inl ⟨o1,_,rfl,.inl (aB.of c1),k⟩⟩
inductive lG(C:Addr)(vs:List V)(H:Hp)(Q:VK)(E:XK):Prop
 |mk (x:Addr) (asks says rooms:Zb) (ds:List av):(vs=[.ref x])->(cG C H x asks says rooms ds)->(∀l,H l=none->Q (.ref l) (upd H l (.lst (says.map V.str))))->lG C vs H Q E
theorem xw{K:Za}{C:Addr}(M:MC K C){vs:List V}{H:Hp}{Q:VK}{E:XK}(h:lG C vs H Q E):mr K (cp Q) (start mZ vs) H:=by
 obtain⟨x,asks,says,rooms,ds,rfl,h,k⟩:=h;obtain⟨dx,fs,o1,o2,lv,lps,g1,a1,a2,a3,a4,b1,b2,b3,c1,c2,_⟩:=sj h;exact⟨_,rfl,x,C,dx,fs,.ref o2,rfl,g1,M.cls,M.a2,b2,.inl ⟨o2,_,rfl,.inl (aB.of c2),k⟩⟩
inductive dX(C:Addr)(vs:List V)(H:Hp)(Q:VK)(E:XK):Prop
 |mk (x:Addr) (r:Str) (asks says rooms:Zb) (ds:List av):(vs=[.ref x,.str r])->(cG C H x asks says rooms ds)->(r∈rooms)->(∀(l:Addr) (us:Ze) (H':Hp),H' l=some (.lst (us.map V.ref))->bF H' us (aw ds r)->H l=none->aj H H'->Q (.ref l) H')->dX C vs H Q E
theorem nr{K:Za}{C:Addr}(M:MC K C){vs:List V}{H:Hp}{Q:VK}{E:XK}(h:dX C vs H Q E):h9 K (cp Q) (start ix vs) H:=by
 obtain⟨x,r,asks,says,rooms,ds,rfl,h,hr,k⟩:=h;obtain⟨dx,fs,o1,o2,lv,lps,g1,a1,a2,a3,a4,b1,b2,b3,c1,c2,c3,c4,c5⟩:=sj h;have nod:=h.ok.okR.1;obtain⟨⟨r',a⟩,hra,er⟩:=bB.mp (show r∈lps.map (·.1) by rw[c3];exact hr);obtain rfl:r'=r:=er;obtain⟨us,e1,e2⟩:=c5 _ hra;refine⟨_,rfl,x,C,dx,fs,.ref lv,rfl,g1,M.cls,M.a5,b3,lv,rfl,.inl ⟨_,.inl c4⟩,_,rfl,(by show 0<=am;decide),fun et het=>⟨_,.inl ⟨_,.inr r',.inl (kp c4 het),rfl,rfl⟩,?_⟩⟩;rw[cX fM (by rw[c3];exact nod) hra];have S1:aj H (upd H et (.tup [])):=aj.new het;refine .inl ⟨a,_,rfl,.inl (aB.of (S1 _ _ e1)),fun l hl=>k l us _ aa ?_ (S1.free hl) (S1.trans (aj.new hl))⟩;exact e2.kt (aj.kt (S1.trans (aj.new hl)))
inductive iE (vs:List V)(H:Hp)(Q:VK)(E:XK):Prop
 |mk (p c:Addr) (most full:Int):(vs=[.ref p,.int most,.int full])->(eg H p c)->(0<most)->(most<=25)->(0<=full)->(full<=2)->(∀(t l1 l2 l3 l4:Addr) (ts:Ze) (asks says rooms:Zb) (ds:List av) (H':Hp),nE H' t l1 l2 l3 l4 ts asks says rooms ds->bO asks says rooms ds->rooms.length<=most.toNat->ds.length<=600->eg H' p c->cv p H H'->H l4=none->Q (.ref t) H')->iE  vs H Q E
theorem uV{K:Za}{vs:List V}{H:Hp}{Q:VK}{E:XK}(h:iE vs H Q E):qF K dW jH eL o8 (cp Q) (start rJ vs) H:=by
 obtain⟨p,c,most,full,rfl,hp,m0,m1,f0,f2,k⟩:=h;refine⟨_,rfl,p,c,rfl,hp,fun H1 hp1 ex1=>?_⟩;refine⟨_,rfl,p,c,8,rfl,hp1,by decide,fun lw ws H2 ok len fr hl hp2 ex2=>?_⟩;have e2:=ex1.trans ex2;have nw:=hp2.ne_strs hl;refine⟨_,rfl,(by show 6<=am;decide),fun q hq=>⟨_,rfl,dL (hp2.ex (aj.new hq)) (by decide) (by decide) fun r H3 r0 r1 hp3 ex3=>?_⟩⟩;obtain⟨n,hn,n3⟩:=at6 r0 r1;have hl3:H3 lw=some (.lst (ws.map V.str)):=ex3 _ _ (kp hl hq) nw;refine⟨q,_,_,_,rfl,rfl,aB.of (ex3 _ _ aa (hp2.nep hq).symm),hn,_,_,rfl,rfl,_,rfl,lw,_,rfl,aB.of hl3,fun l1 hl1=>?_⟩;have ea:gq (ws.map V.str) none (some (1+(n:Int)))=(ws.take (1+n)).map V.str:=ux ws (1+n);rw[ea];have e3:cv p H H3:=e2.trans ((cv.new hq).trans ex3);have hp4:eg (upd H3 l1 (.lst ((ws.take (1+n)).map V.str))) p c:=hp3.ex (aj.new hl1);have e4:cv p H (upd H3 l1 (.lst ((ws.take (1+n)).map V.str))):=e3.trans (cv.new hl1);have hl4:upd H3 l1 (.lst ((ws.take (1+n)).map V.str)) lw=some (.lst (ws.map V.str)):=kp hl3 hl1;have ha4:upd H3 l1 (.lst ((ws.take (1+n)).map V.str)) l1=some (.lst ((ws.take (1+n)).map V.str)):=aa;generalize upd H3 l1 (.lst ((ws.take (1+n)).map V.str))=H4 at hp4 e4 hl4 ha4 ⊢;refine⟨_,rfl,_,rfl,(by show 6<=am;decide),fun q hq=>⟨_,rfl,dL (hp4.ex (aj.new hq)) (by decide) (by decide) fun r H5 r0 r1 hp5 ex5=>?_⟩⟩;obtain⟨m,hm,m3⟩:=at6 r0 r1;have hl5:H5 lw=some (.lst (ws.map V.str)):=ex5 _ _ (kp hl4 hq) nw;have ha5:H5 l1=some (.lst ((ws.take (1+n)).map V.str)):=ex5 _ _ (kp ha4 hq) (hp4.ne_strs ha4);refine⟨q,_,_,_,rfl,rfl,aB.of (ex5 _ _ aa (hp4.nep hq).symm),hm,_,_,rfl,rfl,_,rfl,lw,_,rfl,aB.of hl5,fun l2 hl2=>?_⟩;rw[wJ len m3];have e5:cv p H H5:=e4.trans ((cv.new hq).trans ex5);have hp6:eg (upd H5 l2 (.lst (((ws.drop 4).take (1+m)).map V.str))) p c:=hp5.ex (aj.new hl2);have e6:cv p H (upd H5 l2 (.lst (((ws.drop 4).take (1+m)).map V.str))):=e5.trans (cv.new hl2);have ha6:upd H5 l2 (.lst (((ws.drop 4).take (1+m)).map V.str)) l1=some (.lst ((ws.take (1+n)).map V.str)):=kp ha5 hl2;have hb6:upd H5 l2 (.lst (((ws.drop 4).take (1+m)).map V.str)) l2=some (.lst (((ws.drop 4).take (1+m)).map V.str)):=aa;generalize upd H5 l2 (.lst (((ws.drop 4).take (1+m)).map V.str))=H6 at hp6 e6 ha6 hb6 ⊢;refine⟨_,rfl,_,rfl,_,rfl,dL hp6 m0 (by omega) fun r H7 r0 r1 hp7 ex7=>?_⟩;obtain⟨rn,rfl⟩:=hE r0;have ha7:=ex7 _ _ ha6 (hp6.ne_strs ha6);have hb7:=ex7 _ _ hb6 (hp6.ne_strs hb6);refine⟨_,_,rfl,rfl,p,c,1+rn,rfl,hp7,by omega,fun l3 rooms H8 okr lenr fr3 hl3' hp8 ex8=>?_⟩;have ha8:=ex8 _ _ ha7 (hp7.ne_strs ha7);have hb8:=ex8 _ _ hb7 (hp7.ne_strs hb7);have hs0:(ws.drop 4).take (1+m)≠[]:=by
  intro z;have:=congrArg List.length z;rw[be,ff,len]at this;simp at this
 have ha0:ws.take (1+n)≠[]:=by
  intro z;have:=congrArg List.length z;rw[be,len]at this;simp at this
 have hr0:rooms≠[]:=by
  intro z;rw[z]at lenr;simp at lenr;omega
 refine⟨_,rfl,_,rfl,_,rfl,_,rfl,_,rfl,p,c,l1,l2,l3,_,_,rooms,full,rfl,hp8,ha8,hb8,hl3',by rw[be];omega,hs0,by rw[be];omega,hr0,by omega,f0,f2,fun l4 ts ds up H9 fr4 hl4' hds nod good few hp9 ex9=>?_⟩;have ha9:=ex9 _ _ ha8 (hp8.ne_strs ha8);have hb9:=ex9 _ _ hb8 (hp8.ne_strs hb8);have hc9:=ex9 _ _ hl3' (hp8.ne_strs hl3');refine⟨_,rfl,_,rfl,_,rfl,_,rfl,(by show 4<=am;decide),fun t ht=>k t l1 l2 l3 l4 ts _ _ rooms ds _ ⟨aa,kp ha9 ht,kp hb9 ht,kp hc9 ht,kp hl4' ht,hds.kt (aj.kt (aj.new ht))⟩ ?_ ?_ few (hp9.ex (aj.new ht)) ?_ ?_⟩
 ·refine⟨⟨?_,fun w h=>ok.2 w (hC h)⟩,⟨?_,fun w h=>ok.2 w (List.mem_of_mem_drop (hC h))⟩,?_,okr,ha0,hs0,hr0,by rw[be];omega,by rw[be];omega,by omega,nod,fun d hd=>(good d hd).d,by omega,fun r z=>(vG okr.1 good z).irr okr.1⟩
  ·exact ok.1.sublist (List.take_sublist _ _)
  ·exact ok.1.sublist ((List.take_sublist _ _).trans (List.drop_sublist _ _))
  ·intro w h1 h2;have h3:w∈ws.drop 4:=hC h1;have h4:w∈ws.take 4:=by
    have:ws.take (1+n)=(ws.take 4).take (1+n):=by rw[List.take_take];congr 1;omega
    rw[this]at h2;exact hC h2
   have:=ok.1;rw[<-List.take_append_drop 4 ws,dI]at this;exact this.2.2 w h4 w h3 rfl
 ·omega
 ·exact(((e6.trans ex7).trans ex8).trans ex9).trans (cv.new ht)
 ·cases q:H l4 with
  |none=>rfl
  |some o=>rw[((e6.trans ex7).trans ex8) _ _ q (hp8.nep fr4).symm]at fr4;cases fr4
inductive ca (vs:List V)(H:Hp)(Q:VK)(E:XK):Prop
 |mk (l3 l4:Addr) (ts:Ze) (rooms:Zb) (ds:List av):(vs=[.ref l3,.ref l4])->(H l3=some (.lst (rooms.map V.str)))->(H l4=some (.lst (ts.map V.ref)))->(bF H ts ds)->(rooms.Nodup)->(rooms.length<=1000)->(ds.length<=9000)->((∀d∈ds,d.a∈rooms))->(∀(d:Addr) (ps:List (Str×Addr)) (H':Hp),ps.map (·.1)=rooms->H' d=some (.dK (cr Sum.inr ps))->(∀x∈ps,∃us,H' x.2=some (.lst (us.map V.ref))/\bF H' us (aw ds x.1))->aj H H'->(∀x∈ps,H x.2=none)->Q (.ref d) H')->ca  vs H Q E
theorem jc{K:Za}{vs:List V}{H:Hp}{Q:VK}{E:XK}(h:ca vs H Q E):kb K (cp Q) (start kC vs) H:=by
 obtain⟨l3,l4,ts,rooms,ds,rfl,h3,h4,hds,nod,hz,hz2,hin,k⟩:=h;refine fun d hd=>?_;refine⟨_,rfl,l3,rfl,⟨_,aB.of (kp h3 hd)⟩,?_⟩;refine dA (xs:=rooms.map V.str) (fun i σ H'=>∃x y,σ=[some (.ref l3),some (.ref l4),some (.ref d),x,y]/\∃ps:List (Str×Addr),ps.map (·.1)=rooms.take i/\H' d=some (.dK (cr Sum.inr ps))/\DL H H' d ps/\∀x∈ps,H' x.2=some (.lst []))
  ⟨_,_,rfl,[],rfl,aa,⟨by simp,by simp,by simp,hd,by simp,aj.new hd⟩,by simp⟩ (fun i σ H' _ ⟨_,_,_,_,_,_,D,_⟩=>aB.of (D.same _ _ h3)) ?_ ?_
 ·rintro i x σ H' hi ⟨x3,x4,rfl,ps,hps,hd',D,hls⟩;obtain⟨w,hw,rfl⟩:=df hi;have hnew:w∉ps.map (·.1):=by
   rw[hps];intro z;have:=nod;rw[<-List.take_append_drop (i+1) rooms,take_snoc hw,dI]at this;have:=this.1;rw[dI]at this;exact this.2.2 w z w (by simp) rfl
  refine⟨(by show 0<=am;decide),fun a ha=>?_⟩;have hlen:(cr (Sum.inr:Str->cI) ps).length<am:=aY (by
   unfold cr;rw[ap,<-ap (f:=(·.1)) (as:=ps),hps,be];omega)
  have haH:H a=none:=D.same.free ha;have nda:a≠d:=(ai hd' ha).symm;have hneA:∀x∈ps,x.2≠a:=fun x hx=>ai (hls x hx) ha;refine⟨_,rfl,_,rfl,d,_,rfl,.inl ⟨_,.inr w,kp hd' ha,rfl,hlen,rfl⟩,_,_,rfl,ps++[(w,a)],?_,?_,?_,?_⟩
  ·rw[aL,hps,take_snoc hw];rfl
  ·rw[aa,qO _ (jR fM hnew),n_]
  ·refine D.snoc hnew hneA haH nda ?_;intro b o q;rw[af (ai q hd)];exact kp (D.same _ _ q) ha
  ·intro x hx;rcases bZ.mp hx with hx|hx
   ·rw[af (D.ned x hx)];exact kp (hls x hx) ha
   ·have:x=(w,a):=by simpa using hx
    rw[this,af nda];exact aa
 ·rintro σ H1 ⟨x3,x4,rfl,ps,hps,hd1,D1,hls⟩;rw[ap,cY]at hps;refine⟨_,rfl,l4,rfl,⟨_,aB.of (D1.same _ _ h4)⟩,?_⟩;refine dA (xs:=ts.map V.ref) (fun i σ H'=>∃x4,σ=[some (.ref l3),some (.ref l4),some (.ref d),x3,x4]/\H' d=some (.dK (cr Sum.inr ps))/\DL H H' d ps/\∀x∈ps,∃us,H' x.2=some (.lst (us.map V.ref))/\bF H' us (aw (ds.take i) x.1))
   ⟨_,rfl,hd1,D1,fun x hx=>⟨[],hls x hx,.nil⟩⟩ (fun i σ H' _ ⟨_,_,_,D,_⟩=>aB.of (D.same _ _ h4)) ?_ ?_
  ·rintro i x σ H' hi ⟨x4,rfl,hd',D,hls⟩;obtain⟨t,ht,rfl⟩:=d5 hi;obtain⟨dr,hdr,hat⟩:=Paired.getL hds ht;have hat':=hat.kt (aj.kt D.same);have hat2:=hat';obtain⟨s,ht2,hs2⟩:=hat';have hmem:dr.a∈ps.map (·.1):=by rw[hps];exact hin dr (bT hdr)
   obtain⟨⟨r,a⟩,hra,er⟩:=bB.mp hmem;obtain rfl:r=dr.a:=er;obtain⟨us,hus,hdo⟩:=hls _ hra;have hil:i<ds.length:=(cB.mp hdr).1;have hlu:us.length<=9000:=by
    rw[Paired.length hdo];refine cn (iY _ _) ?_;rw[be];omega
   have KT:p_ H' (upd H' a (.lst (us.map V.ref++[.ref t]))):=fu hus;refine⟨_,rfl,_,rfl,.inr (.inl ⟨t,_,0,_,rfl,rfl,bM.of ht2,rfl,d,.ref a,rfl,.inl ⟨_,.inr dr.a,.inl hd',rfl,(cX fM D.nd hra).symm⟩,.inl ⟨rfl,_,aB.of hus⟩,_,rfl,a,_,_,rfl,rfl,hus,?_,_,rfl,?_,?_,?_⟩)⟩
   ·rw[ap];exact br hlu
   ·rw[af (D.ned _ hra).symm];exact hd'
   ·refine⟨D.nd,D.na,D.fr,D.frd,D.ned,fun b o q=>?_⟩;rw[af (ai q (D.fr _ hra))];exact D.same _ _ q
   ·intro x hx;have hfl:∀r',aw (ds.take (i+1)) r'=aw (ds.take i) r'++(if dr.a=r' then[dr]else[]):=by
     intro r';unfold aw;rw[take_snoc hdr,lU];congr 1;by_cases c:dr.a=r'
     ·rw[if_pos c];simp[c]
     ·rw[if_neg c];simp[c]
    by_cases c:x.2=a
    ·have ex:=wd D.na hx hra c;subst ex;refine⟨us++[t],?_,?_⟩
     ·show upd H' a _ a=_;rw[aa,aL];rfl
     ·rw[hfl];show bF _ _ (aw (ds.take i) dr.a++(if dr.a=dr.a then[dr]else[]))
      rw[if_pos rfl];exact Paired.app (hdo.kt KT) (.cons (hat2.kt KT) .nil)
    ·obtain⟨us',h1,h2⟩:=hls x hx;have hne:¬(dr.a=x.1):=fun z=>by
      have e1:=cX (e:=(Sum.inr:Str->cI)) fM D.nd hra;have e2:=cX (e:=(Sum.inr:Str->cI)) (i:=x.1) (a:=x.2) fM D.nd hx;rw[<-z,e1]at e2;injection e2 with e2;injection e2 with e2;exact c e2.symm
     refine⟨us',by rw[af c];exact h1,?_⟩;rw[hfl,if_neg hne,iX];exact h2.kt KT
  ·rintro σ H' ⟨x4,rfl,hd',D,hls⟩;rw[ap,Paired.length hds,cY]at hls;exact⟨_,rfl,k d ps H' hps hd' hls D.same D.fr⟩
inductive iF (vs:List V)(H:Hp)(Q:VK)(E:XK):Prop
 |mk (l4:Addr) (ts:Ze) (ds:List av):(vs=[.ref l4])->(H l4=some (.lst (ts.map V.ref)))->(bF H ts ds)->(ds.length<=9000)->(∀(g:Addr) (ps:List ((Str×List Str)×Addr)) (H':Hp),gK H' g ps ds->aj H H'->(∀x∈ps,H x.2=none)->Q (.ref g) H')->iF  vs H Q E
theorem uW{K:Za}{vs:List V}{H:Hp}{Q:VK}{E:XK}(h:iF vs H Q E):fB K (cp Q) (start fF vs) H:=by
 obtain⟨l4,ts,ds,rfl,h4,hds,hz,k⟩:=h;refine fun g hg=>?_;refine⟨_,rfl,l4,rfl,⟨_,aB.of (kp h4 hg)⟩,?_⟩;refine dA (xs:=ts.map V.ref) (fun i σ H'=>∃x y z,σ=[some (.ref l4),some (.ref g),x,y,z]/\∃ps:List ((Str×List Str)×Addr),DL H H' g ps/\H' g=some (.dT (cr qe ps))/\ps.length<=i/\(∀x∈ps,H' x.2=some (.lst ((bx (ds.take i) x.1).map V.str)))/\∀d∈ds.take i,(d.a,d.sg)∈ps.map (·.1))
  ⟨_,_,_,rfl,[],⟨by simp,by simp,by simp,hg,by simp,aj.new hg⟩,aa,by simp,by simp,by simp⟩ (fun i σ H' _ ⟨_,_,_,_,_,D,_⟩=>aB.of (D.same _ _ h4)) ?_ ?_
 ·rintro i x σ H' hi ⟨x2,x3,x4,rfl,ps,D,hg',hlen,hls,hall⟩;obtain⟨t,ht,rfl⟩:=d5 hi;obtain⟨dr,hdr,hat⟩:=Paired.getL hds ht;have hil:i<ds.length:=(cB.mp hdr).1;obtain⟨s,ht2,hs2⟩:=hat.kt (aj.kt D.same);refine⟨t,_,rfl,bM.of ht2,rfl,_,_,rfl,_,_,rfl,_,_,rfl,rfl,?_⟩;refine⟨_,rfl,.inr (.inr (.inl ⟨rfl,.inr ⟨_,hg'⟩⟩)),_,rfl,_,rfl,(by show 2<=am;decide),fun kt hkt=>⟨(by show 0<=am;decide),fun nl hnl=>?_⟩⟩;have S2:aj H' (upd (upd H' kt (.tup [.str dr.a,.ref s])) nl (.lst [])):=(aj.new hkt).trans (aj.new hnl);have hkt2:upd (upd H' kt (.tup [.str dr.a,.ref s])) nl (.lst []) kt=some (.tup [.str dr.a,.ref s]):=kp aa hnl;have hnl2:upd (upd H' kt (.tup [.str dr.a,.ref s])) nl (.lst []) nl=some (.lst []):=aa;have hnlH':H' nl=none:=(aj.new hkt).free hnl;generalize upd (upd H' kt (.tup [.str dr.a,.ref s])) nl (.lst [])=H2 at S2 hkt2 hnl2 ⊢;have htk:fw H2 (qe (dr.a,dr.sg)) (.ref kt):=by
   unfold qe fw;refine⟨kt,_,rfl,hkt2,?_⟩;unfold TKAts;refine⟨_,_,rfl,rU _,?_⟩;unfold TKAts;refine⟨_,_,rfl,SignAt.tk (S2 _ _ hs2),?_⟩;unfold TKAts
   rfl
  have hlk:(cr qe ps).length<am:=br (by unfold cr;rw[ap];omega);have hgo:∀x,bx (ds.take (i+1)) x=bx (ds.take i) x++(if(dr.a,dr.sg)=x then[dr.b]else[]):=fun x=>by rw[take_snoc hdr,pK]
  have hgl:∀x,(bx (ds.take i) x).length<=9000:=fun x=>by
   unfold bx;rw[ap];refine cn (iY _ _) ?_;rw[be];omega
  refine⟨g,kt,_,qe (dr.a,dr.sg),.ref nl,rfl,rfl,S2 _ _ hg',htk,nT _,hlk,fun v hv=>?_,fun hv=>?_⟩
  ·-- there already
   have hmem:(dr.a,dr.sg)∈ps.map (·.1):=by
    refine Classical.byContradiction fun z=>?_;rw[jR gy z]at hv;cases hv
   obtain⟨⟨r,a⟩,hra,er⟩:=bB.mp hmem;obtain rfl:r=(dr.a,dr.sg):=er;rw[cX gy D.nd hra]at hv;injection hv with hv;subst hv;have hla:=S2 _ _ (hls _ hra);refine⟨.inl ⟨rfl,_,aB.of hla⟩,_,rfl,a,_,_,rfl,rfl,hla,by rw[ap];exact br (hgl _),_,_,_,rfl,ps,⟨D.nd,D.na,D.fr,D.frd,D.ned,fun b o q=>?_⟩,?_,by omega,?_,?_⟩
   ·rw[af (ai q (D.fr _ hra))];exact S2 _ _ (D.same _ _ q)
   ·rw[af (D.ned _ hra).symm];exact S2 _ _ hg'
   ·intro x hx;by_cases c:x.2=a
    ·have ex:=wd D.na hx hra c;subst ex;show upd H2 a _ a=_;rw[aa,hgo,if_pos rfl,aL];rfl
    ·have hne:¬((dr.a,dr.sg)=x.1):=fun z=>by
      have e1:=cX (e:=qe) gy D.nd hra;have e2:=cX (e:=qe) (i:=x.1) (a:=x.2) gy D.nd hx;rw[<-z,e1]at e2;injection e2 with e2;injection e2 with e2;exact c e2.symm
     rw[af c,hgo,if_neg hne,iX];exact S2 _ _ (hls x hx)
   ·intro d hd;rw[take_snoc hdr]at hd;rcases bZ.mp hd with hd|hd
    ·exact hall d hd
    ·have:d=dr:=by simpa using hd
     rw[this];exact hmem
  ·-- a new list
   have hnew:(dr.a,dr.sg)∉ps.map (·.1):=by
    intro z;obtain⟨⟨r,a⟩,hra,er⟩:=bB.mp z;obtain rfl:r=(dr.a,dr.sg):=er;rw[cX gy D.nd hra]at hv;cases hv
   have hgne:nl≠g:=(ai hg' hnlH').symm;have hnl3:upd H2 g (.dT (cr qe ps++[(qe (dr.a,dr.sg),.ref nl)])) nl=some (.lst []):=by rw[af hgne];exact hnl2
   refine⟨.inl ⟨rfl,_,aB.of hnl3⟩,_,rfl,nl,_,_,rfl,rfl,hnl3,(by show 0<am;decide),_,_,_,rfl,ps++[((dr.a,dr.sg),nl)],?_,?_,?_,?_,?_⟩
   ·refine D.snoc hnew (fun x hx=>ai (hls x hx) hnlH') (D.same.free hnlH') hgne ?_;intro b o q;rw[af (ai q (D.same.free hnlH')),af (ai q hg)];exact S2 _ _ (D.same _ _ q)
   ·rw[af hgne.symm,aa,n_]
   ·rw[bC];show _+1<=_;omega
   ·intro x hx;rcases bZ.mp hx with hx|hx
    ·have hne:¬((dr.a,dr.sg)=x.1):=fun z=>hnew (by rw[z];exact bB.mpr ⟨x,hx,rfl⟩);rw[af (ai (hls x hx) hnlH'),af (D.ned x hx),hgo,if_neg hne,iX];exact S2 _ _ (hls x hx)
    ·have:x=((dr.a,dr.sg),nl):=by simpa using hx
     subst this;have hnil:bx (ds.take i) (dr.a,dr.sg)=[]:=kY fun d hd z=>hnew (by rw[<-z];exact hall d hd);show upd _ nl _ nl=_;rw[aa,hgo,if_pos rfl,hnil]
     rfl
   ·intro d hd;rw[aL];rw[take_snoc hdr]at hd;rcases bZ.mp hd with hd|hd
    ·exact fH _ (hall d hd)
    ·have:d=dr:=by simpa using hd
     rw[this];exact eE _ (by simp)
 ·rintro σ H' ⟨x2,x3,x4,rfl,ps,D,hg',hlen,hls,hall⟩;rw[ap,Paired.length hds,cY]at hls hall;exact⟨_,rfl,k g ps H' ⟨D.nd,hg',hls,hall⟩ D.same D.fr⟩
inductive jI(C:Addr)(vs:List V)(H:Hp)(Q:VK)(E:XK):Prop
 |mk (x dx l1 l2 l3 l4:Addr) (ts:Ze) (asks says rooms:Zb) (ds:List av):(vs=[.ref x,.ref l1,.ref l2,.ref l3,.ref l4])->(H x=some (.ins C dx []))->(Lists H l1 l2 l3 l4 ts asks says rooms ds)->(bO asks says rooms ds)->(∀H',(∀J,(∀b o,H' b=some o->(H b=none∨∀xs,o≠.lst xs)->J b=some o)->cG C J x asks says rooms ds)->cv x H H'->Q .non H')->jI C vs H Q E
theorem vU{K:Za}{C:Addr}(M:MC K C){vs:List V}{H:Hp}{Q:VK}{E:XK}(h:jI C vs H Q E):
  i_ K sp_need_none sp_first_led_round o7 iF (sp_as_keys K) sp_has_asks_alone ca sp_need_parts (cp Q) (start jr vs) H:=by
 obtain⟨x,dx,l1,l2,l3,l4,ts,asks,says,rooms,ds,rfl,hx,L,m,k⟩:=h;have z3:=m.rooms26;have z4:=m.few;refine⟨_,rfl,_,rfl,_,rfl,_,rfl,l1,l2,l3,l4,ts,asks,says,rooms,ds,rfl,L,m,fun H1 S1=>?_⟩;have hx1:=S1 _ _ hx;have L1:=L.same S1;have E1:cv x H H1:=aj.exB S1;refine⟨_,rfl,.inl ⟨l1,_,rfl,.inl (aB.of L1.a1),fun o1 ho1=>⟨_,rfl,x,C,dx,_,rfl,kp hx1 ho1,M.cls,M.a1,(by show 0<1000;decide),?_⟩⟩⟩;obtain⟨H2,e2,hx2,F2⟩:=rj "own_asks" (.ref o1) (kp (x:=.lst (asks.map V.str)) hx1 ho1);rw[<-e2];have n1:o1≠x:=(ai hx1 ho1).symm;have f1:=F2 _ _ aa n1;have E2:cv x H1 H2:=(cv.new ho1).trans F2;have L2':=L1.exI hx1 E2;have len2:(bR ("own_asks":Str) (.ref o1) []).length<=1:=d_ _ _ _;clear e2 F2;refine⟨_,rfl,.inl ⟨l2,_,rfl,.inl (aB.of L2'.a2),fun o2 ho2=>⟨_,rfl,x,C,dx,_,rfl,kp hx2 ho2,M.cls,M.a2,by omega,?_⟩⟩⟩;obtain⟨H3,e3,hx3,F3⟩:=rj "own_says" (.ref o2) (kp (x:=.lst (says.map V.str)) hx2 ho2);rw[<-e3];have n2:o2≠x:=(ai hx2 ho2).symm;have f2:=F3 _ _ aa n2;have E3:cv x H2 H3:=(cv.new ho2).trans F3;have L3:=L2'.exI hx2 E3;have len3:=d_ ("own_says":Str) (.ref o2) (bR ("own_asks":Str) (.ref o1) []);clear e3 F3;refine⟨_,rfl,.inl ⟨l3,_,rfl,.inl (aB.of L3.a3),fun o3 ho3=>⟨_,rfl,x,C,dx,_,rfl,kp hx3 ho3,M.cls,M.a3,by omega,?_⟩⟩⟩;obtain⟨H4,e4,hx4,F4⟩:=rj "own_rooms" (.ref o3) (kp (x:=.lst (rooms.map V.str)) hx3 ho3);rw[<-e4];have n3:o3≠x:=(ai hx3 ho3).symm;have f3:=F4 _ _ aa n3;have E4:cv x H3 H4:=(cv.new ho3).trans F4;have L4:=L3.exI hx3 E4;have len4:=d_ ("own_rooms":Str) (.ref o3) (bR ("own_says":Str) (.ref o2) (bR ("own_asks":Str) (.ref o1) []));clear e4 F4;refine⟨_,rfl,.inl ⟨l4,_,rfl,.inl (aB.of L4.a4),fun o4 ho4=>⟨_,rfl,x,C,dx,_,rfl,kp hx4 ho4,M.cls,M.a4,by omega,?_⟩⟩⟩;obtain⟨H5,e5,hx5,F5⟩:=rj "own_doors" (.ref o4) (kp (x:=.lst (ts.map V.ref)) hx4 ho4);rw[<-e5];have n4:o4≠x:=(ai hx4 ho4).symm;have f4:=F5 _ _ aa n4;have E5:cv x H4 H5:=(cv.new ho4).trans F5;have L5:=L4.exI hx4 E5;generalize hfs4:bR ("own_doors":Str) (.ref o4) (bR ("own_rooms":Str) (.ref o3) (bR ("own_says":Str) (.ref o2) (bR ("own_asks":Str) (.ref o1) [])))=fs4 at hx5;have len5:fs4.length<=4:=by
  rw[<-hfs4];have:=d_ ("own_doors":Str) (.ref o4) (bR ("own_rooms":Str) (.ref o3) (bR ("own_says":Str) (.ref o2) (bR ("own_asks":Str) (.ref o1) [])));omega
 clear e5 F5;refine⟨_,rfl,_,rfl,l3,l4,ts,rooms,ds,rfl,L5.a3,L5.a4,L5.ds,m.okR.1,by omega,by omega,fun d hd=>(m.good d hd).a,fun lv lps H6' hlps flv' hlv' S6 nlv=>⟨_,rfl,x,C,dx,fs4,rfl,S6 _ _ hx5,M.cls,M.a5,by omega,?_⟩⟩;obtain⟨H6,e6,hx6,F6⟩:=rj "leaving" (.ref lv) (S6 _ _ hx5);rw[<-e6];have E6:cv x H5 H6:=(aj.exB S6).trans F6;have L6:=L5.exI hx5 E6;have flv:=F6 _ _ flv' (wc (S6 _ _ hx5) flv');have hlv:∀y∈lps,∃us,H6 y.2=some (.lst (us.map V.ref))/\bF H6 us (aw ds y.1):=fun y hy=>by
  obtain⟨us,g1,g2⟩:=hlv' y hy;exact⟨us,F6 _ _ g1 (cv.neI (S6 _ _ hx5) g1),g2.kt (F6.ktI (S6 _ _ hx5))⟩
 have ndl:(lps.map (·.1)).Nodup:=by rw[hlps];exact m.okR.1
 have len6:=d_ ("leaving":Str) (.ref lv) fs4;have lk5:lk "leaving" (bR ("leaving":Str) (.ref lv) fs4)=some (.ref lv):=by
  show g7 _ _=_;rw[da,if_pos rfl]
 clear e6 F6 flv' hlv';refine⟨_,rfl,l3,rfl,⟨_,aB.of L6.a3⟩,fun f hf=>?_⟩;refine db (xs:=rooms.map V.str) (fun i vs H'=>vs=((rooms.take i).filter (cx ds)).map V.str/\aj H6 H'/\H' f=some (.lst vs)) ⟨rfl,aj.new hf,aa⟩ (fun i vs H' _ ⟨_,S,h'⟩=>⟨h',aB.of (S _ _ L6.a3)⟩) ?_ ?_;rotate_left
 ·rintro i vs H' x' hx' hi ⟨rfl,S,f'⟩;obtain⟨r,hr,rfl⟩:=df hx';obtain⟨⟨r',a⟩,hra,er⟩:=bB.mp (show r∈lps.map (·.1) by rw[hlps];exact bT hr);obtain rfl:r'=r:=er;obtain⟨us,hus,hdo⟩:=hlv _ hra;refine gN ?_;refine⟨_,rfl,x,C,dx,_,.ref lv,rfl,S _ _ hx6,M.cls,M.a5,lk5,_,rfl,lv,.ref a,rfl,.inl ⟨_,.inr r',.inl (S _ _ flv),rfl,(cX fM ndl hra).symm⟩,a,us,aw ds r',rfl,S _ _ hus,hdo.kt (aj.kt S),cn (jh _ _) (by omega),m.sg0,fun H'' S''=>⟨_,rfl,?_⟩⟩;have hlen:(((rooms.take i).filter (cx ds)).map V.str).length<am:=by
   rw[ap];refine aY (cn (iY _ _) ?_);rw[be];omega
  refine mI (fun hq=>?_) (fun hq=>?_)
  ·refine⟨_,rfl,S'' _ _ f',hlen,qV hi ⟨?_,?_,aa⟩⟩
   ·rw[kZ hr,if_pos (show cx ds r'=true from hq),aL];rfl
   ·intro b o q;rw[af (ai q hf)];exact S'' _ _ (S _ _ q)
  ·refine qV hi ⟨?_,S.trans S'',?_⟩
   ·rw[kZ hr,if_neg (show ¬cx ds r'=true from hq),iX]
   ·exact S'' _ _ f'
 rintro vs H7' ⟨rfl,S7,f7⟩;rw[ap,cY]at f7;refine kz (ws:=rooms.filter (cx ds)) (aB.of f7) (cn (iY _ _) (by omega)) fun qu hqu=>⟨_,rfl,x,C,dx,_,rfl,kp (S7 _ _ hx6) hqu,M.cls,M.a6,by omega,?_⟩;obtain⟨H7,e7,hx7,F7⟩:=rj "quiet" (.ref qu) (kp (x:=.dK (aZ (rooms.filter (cx ds)))) (S7 _ _ hx6) hqu);rw[<-e7];have n7:qu≠x:=(ai (S7 _ _ hx6) hqu).symm;have fqu:=F7 _ _ aa n7;have E7:cv x H6 H7:=((aj.exB S7).trans (cv.new hqu)).trans F7;have L7:=L6.exI hx6 E7;have len7:=d_ ("quiet":Str) (.ref qu) (bR ("leaving":Str) (.ref lv) fs4);clear e7 F7;refine⟨_,rfl,l4,ts,ds,rfl,L7.a4,L7.ds,by omega,fun sg gps H8' G' S8 ngp=>⟨_,rfl,x,C,dx,_,rfl,S8 _ _ hx7,M.cls,M.a7,by omega,?_⟩⟩;obtain⟨H8,e8,hx8,F8⟩:=rj "sign_goals" (.ref sg) (S8 _ _ hx7);rw[<-e8];have E8:cv x H7 H8:=(aj.exB S8).trans F8;have L8:=L7.exI hx7 E8;have G8:gK H8 sg gps ds:=⟨G'.nd,F8 _ _ G'.g (yD (S8 _ _ hx7) G'.g),fun y hy=>F8 _ _ (G'.ls y hy) (cv.neI (S8 _ _ hx7) (G'.ls y hy)),G'.all⟩;have len8:=d_ ("sign_goals":Str) (.ref sg) (bR ("quiet":Str) (.ref qu) (bR ("leaving":Str) (.ref lv) fs4));have lk7:lk "sign_goals" (bR ("sign_goals":Str) (.ref sg) (bR ("quiet":Str) (.ref qu) (bR ("leaving":Str) (.ref lv) fs4)))=some (.ref sg):=by
  show g7 _ _=_;rw[da,if_pos rfl]
 clear e8 F8 G';refine⟨_,rfl,l3,rfl,⟨_,aB.of L8.a3⟩,fun f2' hf2=>?_⟩;refine db (xs:=rooms.map V.str) (fun i vs H'=>∃(us:Ze) (pl:List (Str×Addr)),vs=us.map V.ref/\Paired (fun t (p:Str×Addr)=>H' t=some (.tup [.str p.1,.ref p.2])) us pl/\pl.map (·.1)=rooms.take i/\(∀p∈pl,∃L,H' p.2=some (.dK (aZ L))/\L.Nodup/\∀w,w∈L↔Reach ds p.1 w)/\aj H8 H'/\H' f2'=some (.lst vs))
  ⟨[],[],rfl,.nil,rfl,by simp,aj.new hf2,aa⟩ (fun i vs H' _ ⟨_,_,_,_,_,_,S,h'⟩=>⟨h',aB.of (S _ _ L8.a3)⟩) ?_ ?_
 rotate_left
 ·rintro i vs H' x' hx' hi ⟨us,pl,rfl,hpa,hpl,hle,S,f'⟩;obtain⟨r,hr,rfl⟩:=df hx';have hilen:us.length<=150:=by
   rw[Paired.length hpa,<-ap (f:=(·.1)) (as:=pl),hpl,be];omega
  refine gN (oT ?_);refine⟨_,rfl,_,rfl,x,C,dx,_,.ref sg,rfl,S _ _ hx8,M.cls,M.a7,lk7,_,rfl,sg,r,gps,ds,rooms,rfl,G8.same S,fun d hd=>(m.good d hd).b,by omega,fun ld Lr H'' hld nd hLr hfr S''=>⟨(by show 2<=am;decide),fun t ht=>⟨?_,?_,qV hi ⟨us++[t],pl++[(r,ld)],?_,?_,?_,?_,?_,aa⟩⟩⟩⟩
  ·exact kp (S'' _ _ f') ht
  ·rw[ap];exact aY (by omega)
  ·rw[aL];rfl
  ·have KT:p_ (upd H'' t (.tup [.str r,.ref ld])) (upd (upd H'' t (.tup [.str r,.ref ld])) f2' (.lst (us.map V.ref++[.ref t]))):=fu (kp (S'' _ _ f') ht);exact Paired.app (Paired.mapP hpa fun t' p' e=>KT _ _ (kp (S'' _ _ e) ht)) (.cons (KT _ _ aa) .nil)
  ·rw[aL,hpl,take_snoc hr];rfl
  ·have ned:∀{b:Addr}{kvs:List (cI×V)},upd H'' t (.tup [.str r,.ref ld]) b=some (.dK kvs)->b≠f2':=fun hb z=>by rw[z,kp (S'' _ _ f') ht]at hb;cases hb
   intro p hp;rcases bZ.mp hp with hp|hp
   ·obtain⟨L0,g1,g2⟩:=hle p hp;refine⟨L0,?_,g2⟩;have:=kp (x:=.tup [.str r,.ref ld]) (S'' _ _ g1) ht;rw[af (ned this)];exact this
   ·have:p=(r,ld):=by simpa using hp
    subst this;refine⟨Lr,?_,nd,hLr⟩;have:=kp (x:=.tup [.str r,.ref ld]) hld ht;rw[af (ned this)];exact this
  ·intro b o q;rw[af (ai q hf2)];exact kp (S'' _ _ (S _ _ q)) ht
 rintro vs H9' ⟨us,sps,rfl,hpa,hsps,hled,S9,f9⟩;rw[ap,cY]at hsps;have nds:(sps.map (·.1)).Nodup:=by rw[hsps];exact m.okR.1
 refine⟨f2',us,cr Sum.inr sps,rfl,aB.of f9,?_,?_,fun sl hsl=>⟨_,rfl,x,C,dx,_,rfl,kp (S9 _ _ hx8) hsl,M.cls,M.a8,by omega,?_⟩⟩
 ·rw[Paired.length hpa];unfold cr;rw[ap]
 ·intro j t kv hj hkv;obtain⟨p,hp,e⟩:=Paired.getL hpa hj;unfold cr at hkv;rw[cD,hp]at hkv;have:=cT hkv;rw[<-this];exact e
 have emerge:fS [] (cr Sum.inr sps)=cr Sum.inr sps:=mH sps [] nds;rw[emerge];obtain⟨H9,e9,hx9,F9⟩:=rj "still_led" (.ref sl) (kp (x:=.dK (cr Sum.inr sps)) (S9 _ _ hx8) hsl);rw[<-e9];have n9:sl≠x:=(ai (S9 _ _ hx8) hsl).symm;have fsl:=F9 _ _ aa n9;have E9:cv x H8 H9:=((aj.exB S9).trans (cv.new hsl)).trans F9;have L9:=L8.exI hx8 E9;have hled9:∀p∈sps,∃L,H9 p.2=some (.dK (aZ L))/\L.Nodup/\∀w,w∈L↔Reach ds p.1 w:=fun p hp=>by
  obtain⟨L0,g1,g2⟩:=hled p hp;have g3:=kp (x:=.dK (cr Sum.inr sps)) g1 hsl;exact⟨L0,F9 _ _ g3 (wc (kp (S9 _ _ hx8) hsl) g3),g2⟩
 clear e9 F9;have lk8:lk "still_led" (bR ("still_led":Str) (.ref sl) (bR ("sign_goals":Str) (.ref sg) (bR ("quiet":Str) (.ref qu) (bR ("leaving":Str) (.ref lv) fs4))))=some (.ref sl):=by
  show g7 _ _=_;rw[da,if_pos rfl]
 refine⟨_,rfl,_,rfl,x,C,dx,_,.ref sl,rfl,hx9,M.cls,M.a8,lk8,l3,sl,rooms,sps,rfl,L9.a3,fsl,hsps,m.okR.1,fun p hp=>?_,fun H10 S10=>⟨_,rfl,k H10 ?_ ?_⟩⟩
 ·obtain⟨L0,g1,g2,g3⟩:=hled9 p hp;exact⟨L0,g1,fun z=>m.noround _ ((g3 _).mp z)⟩
 ·intro J off;have X69:cv x H6 H9:=(E7.trans E8).trans E9;have X59:=((E6.trans E7).trans E8).trans E9;have fr:∀{b:Addr}{J:Hp},cv x H J->b≠x->J b=none->H b=none:=fun{b J} e n h=>by
   cases q:H b with
   |none=>rfl
   |some o=>rw[e _ _ q n]at h;cases h
  have W:∀{b:Addr}{o:HO},H10 b=some o->H b=none->J b=some o:=fun h q=>off _ _ h (.inl q);have Z:∀{b:Addr}{o:HO},H10 b=some o->(∀xs,o≠.lst xs)->J b=some o:=fun h n=>off _ _ h (.inr n);have Y:∀{b:Addr}{o:HO},H9 b=some o->(∀xs,o≠.lst xs)->J b=some o:=fun h n=>Z (S10 _ _ h) n;have kt:p_ H10 J:=fun b xs h=>Z h (by intro _ z;cases z);have LL:Lists H5 o1 o2 o3 o4 ts asks says rooms ds:=⟨(E3.trans (E4.trans E5)) _ _ f1 n1,(E4.trans E5) _ _ f2 n2,E5 _ _ f3 n3,f4,L5.ds⟩;have LM:=(LL.exI hx5 X59).same S10;have r1:H o1=none:=S1.free ho1;have r2:H o2=none:=fr (E1.trans E2) n2 ho2;have r3:H o3=none:=fr ((E1.trans E2).trans E3) n3 ho3;have r4:H o4=none:=fr (((E1.trans E2).trans E3).trans E4) n4 ho4;have X05:=(((E1.trans E2).trans E3).trans E4).trans E5;have X07:=(X05.trans E6).trans E7;refine⟨⟨dx,_,o1,o2,o3,o4,lv,qu,sg,sl,ts,lps,gps,sps,Y hx9 (by intro _ z;cases z),?_,?_,?_,?_,?_,?_,?_,?_,?_,?_,?_,lk8,⟨W LM.a1 r1,W LM.a2 r2,W LM.a3 r3,W LM.a4 r4,LM.ds.kt kt⟩,hlps,?_,?_,?_,?_,hsps,Y fsl (by intro _ z;cases z),fun p hp=>?_⟩,m,⟨dx,_,Y hx9 (by intro _ z;cases z),?_,?_,?_,?_⟩⟩
  rotate_right 9
  ·exact Y (X69 _ _ flv (wc hx6 flv)) (by intro _ z;cases z)
  ·intro y hy;obtain⟨us',g1,g2⟩:=hlv y hy;have ny:y.2≠x:=cv.neI hx6 g1;exact⟨us',W (S10 _ _ (X69 _ _ g1 ny)) (fr X05 ny (nlv y hy)),((g2.kt (X69.ktI hx6)).kt (aj.kt S10)).kt kt⟩
  ·exact Y ((E8.trans E9) _ _ fqu n7) (by intro _ z;cases z)
  ·refine⟨G8.nd,Y (E9 _ _ G8.g (yD hx8 G8.g)) (by intro _ z;cases z),fun y hy=>?_,G8.all⟩;have ny:y.2≠x:=cv.neI hx8 (G8.ls y hy);exact W (S10 _ _ (E9 _ _ (G8.ls y hy) ny)) (fr X07 ny (ngp y hy))
  ·obtain⟨L0,g1,g2⟩:=hled9 p hp;exact⟨L0,Y g1 (by intro _ z;cases z),g2⟩
  all_goals(show g7 _ _=_;subst hfs4;repeat (rw[da];first|rw[if_pos rfl] | rw[if_neg (by decide +kernel)]))
  all_goals rfl
 ·exact((((((((E1.trans E2).trans E3).trans E4).trans E5).trans E6).trans E7).trans E8).trans E9).trans (aj.exB S10)
mutual
def DR(K:Za)(G:Hp):DT->V->Prop
 |.k a,v=>v=kV a
 |.t l,v=>∃b xs,v=.ref b/\bM K G b xs/\DRs K G l xs
 |.s l,v=>∃b xs,v=.ref b/\G b=some (.lst xs)/\DRs K G l xs
def DRs(K:Za)(G:Hp):List DT->List V->Prop
 |[],vs=>vs=[]
 |k::r,vs=>∃v us,vs=v::us/\DR K G k v/\DRs K G r us
end
mutual
theorem DR.same{K:Za}{H H':Hp}(S:aj H H'):∀{d:DT}{v:V},DR K H d v->DR K H' d v
 |.k a,v,h=>by unfold DR at h ⊢;exact h
 |.t l,v,h=>by
  unfold DR at h ⊢;obtain⟨b,xs,e,q,r⟩:=h;exact⟨b,xs,e,bM.same S q,DRs.same S r⟩
 |.s l,v,h=>by
  unfold DR at h ⊢;obtain⟨b,xs,e,q,r⟩:=h;exact⟨b,xs,e,S _ _ q,DRs.same S r⟩
theorem DRs.same{K:Za}{H H':Hp}(S:aj H H'):∀{ds:List DT}{vs:List V},DRs K H ds vs->DRs K H' ds vs
 |[],vs,h=>by unfold DRs at h ⊢;exact h
 |d::ds,vs,h=>by
  unfold DRs at h ⊢;obtain⟨v,us,e,q,r⟩:=h;exact⟨v,us,e,DR.same S q,DRs.same S r⟩
end
mutual
theorem DR.dIn{K:Za}{H:Hp}:∀{d:DT}{v:V},DR K H d v->fG K H d v
 |.k a,v,h=>by unfold DR at h;unfold fG;exact h
 |.t l,v,h=>by
  unfold DR at h;unfold fG;obtain⟨b,xs,e,q,r⟩:=h;exact⟨b,xs,e,q,DRs.dIns r⟩
 |.s l,v,h=>by
  unfold DR at h;unfold fG;obtain⟨b,xs,e,q,r⟩:=h;exact⟨b,xs,e,aB.of q,DRs.dIns r⟩
theorem DRs.dIns{K:Za}{H:Hp}:∀{ds:List DT}{vs:List V},DRs K H ds vs->DIns K H ds vs
 |[],vs,h=>by unfold DRs at h;unfold DIns;exact h
 |d::ds,vs,h=>by
  unfold DRs at h;unfold DIns;obtain⟨v,us,e,q,r⟩:=h;exact⟨v,us,e,DR.dIn q,DRs.dIns r⟩
end
theorem DRs.paired{K:Za}{G:Hp}:∀{ds:List DT}{vs:List V},DRs K G ds vs->Paired (fun v d=>DR K G d v) vs ds
 |[],vs,h=>by unfold DRs at h;subst h;exact .nil
 |d::ds,vs,h=>by
  unfold DRs at h;obtain⟨v,us,rfl,q,r⟩:=h;exact .cons q (DRs.paired r)
theorem DRs.len{K:Za}{G:Hp}{ds:List DT}{vs:List V}(h:DRs K G ds vs):vs.length=ds.length:=Paired.length h.paired
theorem DRs.getL{K:Za}{G:Hp}{ds:List DT}{vs:List V}{i:Nat}{v:V}(h:DRs K G ds vs)(e:vs[i]?=some v):∃d,ds[i]?=some d/\DR K G d v:=Paired.getL h.paired e
structure AV where
 p:Hp->V->Prop
 mono:∀{G G':Hp}{v:V},aj G G'->p G v->p G' v
def dv(K:Za)(d:DT):AV:=⟨fun G v=>DR K G d v,fun S h=>DR.same S h⟩
def bv(b:Bool):AV:=⟨fun _ v=>v=.bl b,fun _ h=>h⟩
def nv:AV:=⟨fun _ v=>v=.non,fun _ h=>h⟩
abbrev zC(n:Int):DT:=.k (.inl n)
section
variable{K:Za}
def RV(v:V)(z:AV):Prop:=∀G,z.p G v
theorem yV{n:Int}:RV (.int n) (dv K (zC n)):=fun G=>by show DR K G _ _;unfold DR;rfl
theorem sq{w:Str}:RV (.str w) (dv K (dF w)):=fun G=>by show DR K G _ _;unfold dF DR;rfl
theorem ir{G:Hp}:∀ws:List Str,DRs K G (ws.map dF) (ws.map V.str)
 |[]=>by unfold DRs;rfl
 |w::ws=>by
  rw[aN,aN];unfold DRs;exact⟨_,_,rfl,sq (K:=K) G,ir ws⟩
theorem xY{G:Hp}{s:Addr}{sg:Zb}(h:bM K G s (sg.map V.str)):DR K G (vc sg) (.ref s):=by
 unfold vc DR;exact⟨s,_,rfl,h,ir sg⟩
theorem xZ{G:Hp}{t:Addr}{d:av}(h:eB G t d):DR K G (iu d) (.ref t):=by
 obtain⟨s,h1,h2⟩:=h;unfold iu DR;refine⟨t,_,rfl,bM.of h1,?_⟩;unfold DRs;refine⟨_,_,rfl,sq (K:=K) G,?_⟩;unfold DRs;refine⟨_,_,rfl,xY (bM.of h2),?_⟩;unfold DRs;refine⟨_,_,rfl,sq (K:=K) G,?_⟩;unfold DRs
 rfl
theorem iH{G:Hp}:∀{ts:Ze}{ds:List av},bF G ts ds->DRs K G (ds.map iu) (ts.map V.ref)
 |_,_,.nil=>by unfold DRs;rfl
 |_,_,.cons h r=>by
  rw[aN,aN];unfold DRs;exact⟨_,_,rfl,xZ h,iH r⟩
end
inductive Sl where
 |no
 |im (a:AV)
 |lc (n:Nat)
 |pn
inductive Ce where
 |lst (xs:List Sl)
 |dk (kvs:List (cI×Sl))
 |dt (kvs:List (TK×Sl))
 |ins (C:Addr) (fs:List (Str×Sl))
 |fk (o:Obj) (l:List (cI×V)) (kvs:List (cI×Sl))
abbrev SH:=List (Nat×Ce)
structure Mp where
 G:Hp
 H:Hp
 ad:Nat->Addr
 P:Addr->Prop
def Ok(m:Mp)(h:SH):Sl->V->Prop
 |.no,_=>True
 |.im a,v=>a.p m.G v
 |.lc n,v=>(∃c,(n,c)∈h)/\v=.ref (m.ad n)
 |.pn,v=>∃p c o,v=.ref p/\m.P p/\m.G c=some o/\eg m.H p c
abbrev nF(m:Mp)(h:SH):List V->List Sl->Prop:=Paired fun v x=>Ok m h x v
def tu(m:Mp)(h:SH)(a:Addr):Ce->Prop
 |.lst xs=>∃vs,m.H a=some (.lst vs)/\nF m h vs xs
 |.dk kvs=>∃vs,m.H a=some (.dK ((kvs.map (·.1)).zip vs))/\nF m h vs (kvs.map (·.2))
 |.dt kvs=>∃vs,m.H a=some (.dT ((kvs.map (·.1)).zip vs))/\nF m h vs (kvs.map (·.2))
 |.ins C fs=>∃dx vs,m.H a=some (.ins C dx ((fs.map (·.1)).zip vs))/\nF m h vs (fs.map (·.2))
 |.fk o l kvs=>m.H a=some (.frz o (.dK l))/\Paired (fun(p:cI×V) (q:cI×Sl)=>p.1=q.1/\Ok m h q.2 p.2) l kvs
structure Wf(m:Mp)(h:SH):Prop where
 s:aj m.G m.H
 p:∀a,m.P a->m.G a=none/\m.H a≠none
 c:∀n c,(n,c)∈h->m.G (m.ad n)=none/\¬m.P (m.ad n)/\tu m h (m.ad n) c
 i:∀n c n' c',(n,c)∈h->(n',c')∈h->m.ad n=m.ad n'->n=n'
 u:(h.map (·.1)).Nodup
structure Bs where
 G:Hp
 H:Hp
 P:Addr->Prop
 M:Addr->Prop
 R:Addr->Prop
 N:List (Nat×Addr)
structure Fr(B:Bs)(m:Mp)(h:SH):Prop where
 gg:aj B.G m.G
 hh:∀a o,B.H a=some o->¬B.P a->¬B.M a->m.H a=some o
 al:∀a,B.H a≠none->m.H a≠none
 fr:∀a,m.G a≠none->B.G a≠none∨B.H a=none
 pe:∀p c o,B.P p->B.G c=some o->eg B.H p c->eg m.H p c
 pp:∀a,B.P a↔m.P a
 ow:∀n c,(n,c)∈h->B.H (m.ad n)=none∨B.M (m.ad n)∨B.R (m.ad n)
 nd:∀n a,(n,a)∈B.N->1000<=n/\m.ad n=a/\∃c,(n,c)∈h
structure Rw(B:Bs)(s:List Sl)(h:SH)(T:List Sl)(σ:L2.St)(vs:List V)(m:Mp):Prop where
 fr:Fr B m h
 wf:Wf m h
 len:s.length=σ.length
 sl:∀(i:Nat) (x:Sl),s[i]?=some x->x=.no∨∃v,σ[i]?=some (some v)/\Ok m h x v
 tm:nF m h vs T
def A(B:Bs)(s:List Sl)(h:SH)(T:List Sl)(σ:L2.St)(vs:List V)(H:Hp):Prop:=∃m,m.H=H/\Rw B s h T σ vs m
theorem tu.some{m:Mp}{h:SH}{a:Addr}{c:Ce}(x:tu m h a c):∃o,m.H a=some o:=by
 cases c with
 |lst xs=>obtain⟨vs,e,_⟩:=x;exact⟨_,e⟩
 |dk xs=>obtain⟨vs,e,_⟩:=x;exact⟨_,e⟩
 |dt xs=>obtain⟨vs,e,_⟩:=x;exact⟨_,e⟩
 |ins C fs=>obtain⟨dx,vs,e,_⟩:=x;exact⟨_,e⟩
 |fk o l xs=>exact⟨_,x.1⟩
structure Mv(m:Mp)(h:SH)(m':Mp)(h':SH):Prop where
 gg:aj m.G m'.G
 s:aj m'.G m'.H
 hh:∀a o,m.H a=some o->¬m.P a->m'.H a=some o
 al:∀a,m.H a≠none->m'.H a≠none
 fr:∀a,m'.G a≠none->m.G a≠none∨m.H a=none
 pe:∀p c o,m.P p->m.G c=some o->eg m.H p c->eg m'.H p c
 pp:m'.P=m.P
 ad:∀n c,(n,c)∈h->m'.ad n=m.ad n
 nm:∀n c,(n,c)∈h->∃c',(n,c')∈h'
theorem Ok.mv{m m':Mp}{h h':SH}(M:Mv m h m' h'):∀{x:Sl}{v:V},Ok m h x v->Ok m' h' x v
 |.no,_,_=>eW
 |.im a,_,q=>a.mono M.gg q
 |.lc n,v,⟨⟨c,hc⟩,e⟩=>⟨M.nm n c hc,by rw[M.ad n c hc];exact e⟩
 |.pn,v,⟨p,c,o,h1,h2,h3,h4⟩=>⟨p,c,o,h1,by rw[M.pp];exact h2,M.gg _ _ h3,M.pe p c o h2 h3 h4⟩
theorem tu.mv{m m':Mp}{h h':SH}{a:Addr}{c:Ce}(M:Mv m h m' h')(ha:¬m.P a)(x:tu m h a c):tu m' h' a c:=by
 cases c with
 |lst xs=>obtain⟨vs,e,r⟩:=x;exact⟨vs,M.hh _ _ e ha,Paired.mapP r fun v x q=>Ok.mv M q⟩
 |dk xs=>obtain⟨vs,e,r⟩:=x;exact⟨vs,M.hh _ _ e ha,Paired.mapP r fun v x q=>Ok.mv M q⟩
 |dt xs=>obtain⟨vs,e,r⟩:=x;exact⟨vs,M.hh _ _ e ha,Paired.mapP r fun v x q=>Ok.mv M q⟩
 |ins C fs=>obtain⟨dx,vs,e,r⟩:=x;exact⟨dx,vs,M.hh _ _ e ha,Paired.mapP r fun v x q=>Ok.mv M q⟩
 |fk o l xs=>exact⟨M.hh _ _ x.1 ha,Paired.mapP x.2 fun v x q=>⟨q.1,Ok.mv M q.2⟩⟩
theorem Mv.trans{m m1 m2:Mp}{h h1 h2:SH}(a:Mv m h m1 h1)(b:Mv m1 h1 m2 h2):Mv m h m2 h2 :=
 ⟨a.gg.trans b.gg,b.s,fun x o e n=>b.hh x o (a.hh x o e n) (by rw[a.pp];exact n),fun x e=>b.al x (a.al x e),fun x e=>by
  rcases b.fr x e with e|e
  ·exact a.fr x e
  ·refine .inr ?_;cases q:m.H x with
   |none=>rfl
   |some u=>exact absurd e (a.al x (by rw[q];exact nofun)),fun p c o hp hc e=>b.pe p c o (by rw[a.pp];exact hp) (a.gg _ _ hc) (a.pe p c o hp hc e),b.pp.trans a.pp,fun n c e=>by
  obtain⟨c',e'⟩:=a.nm n c e;rw[b.ad n c' e',a.ad n c e],fun n c e=>by
  obtain⟨c',e'⟩:=a.nm n c e;exact b.nm n c' e'⟩
theorem Rw.mv{B:Bs}{s:List Sl}{h:SH}{T:List Sl}{σ:L2.St}{vs:List V}{m m':Mp}(R:Rw B s h T σ vs m)(M:Mv m h m' h):Rw B s h T σ vs m':=by
 refine⟨⟨R.fr.gg.trans M.gg,fun a o e n1 n2=>M.hh a o (R.fr.hh a o e n1 n2) (fun z=>n1 ((R.fr.pp a).mpr z)),fun a e=>M.al a (R.fr.al a e),fun a e=>?_,fun p c o hp hc e=>M.pe p c o ((R.fr.pp p).mp hp) (R.fr.gg _ _ hc) (R.fr.pe p c o hp hc e),fun a=>by rw[M.pp];exact R.fr.pp a,fun n c e=>by rw[M.ad n c e];exact R.fr.ow n c e,fun n a e=>by
   obtain⟨h1,h2,c,h3⟩:=R.fr.nd n a e;exact⟨h1,by rw[M.ad n c h3];exact h2,c,h3⟩⟩,
  ⟨M.s,fun a e=>?_,fun n c e=>?_,fun n c n' c' e e' z=>?_,R.wf.u⟩,R.len,fun i x e=>(R.sl i x e).imp id fun⟨v,e,q⟩=>⟨v,e,Ok.mv M q⟩,Paired.mapP R.tm fun v x q=>Ok.mv M q⟩
 ·rcases M.fr a e with e|e
  ·exact R.fr.fr a e
  ·refine .inr ?_;cases q:B.H a with
   |none=>rfl
   |some u=>exact absurd e (R.fr.al a (by rw[q];exact nofun))
 ·rw[M.pp]at e;obtain⟨h1,h2⟩:=R.wf.p a e;refine⟨?_,M.al a h2⟩;cases q:m'.G a with
  |none=>rfl
  |some u=>rcases M.fr a (by rw[q];exact nofun)with z|z;exact absurd h1 z;exact absurd z h2
 ·obtain⟨h1,h2,h3⟩:=R.wf.c n c e;rw[M.ad n c e];refine⟨?_,by rw[M.pp];exact h2,h3.mv M h2⟩;cases q:m'.G (m.ad n)with
  |none=>rfl
  |some u =>
   obtain⟨o,ho⟩:=h3.some;rcases M.fr _ (by rw[q];exact nofun)with z|z
   ·exact absurd h1 z
   ·rw[ho]at z;cases z
 ·rw[M.ad n c e,M.ad n' c' e']at z;exact R.wf.i n c n' c' e e' z
section
variable{B:Bs}{s:List Sl}{h:SH}{T:List Sl}{σ:L2.St}{vs:List V}{m:Mp}
theorem Rw.push(R:Rw B s h T σ vs m){x:Sl}{v:V}(q:Ok m h x v):A B s h (x::T) σ (v::vs) m.H:=⟨m,rfl,R.fr,R.wf,R.len,R.sl,.cons q R.tm⟩
theorem Rw.drop{x:Sl}{v:V}(R:Rw B s h (x::T) σ (v::vs) m):Rw B s h T σ vs m:=⟨R.fr,R.wf,R.len,R.sl,by cases R.tm with|cons _ r=>exact r⟩
theorem Rw.top{x:Sl}{v:V}(R:Rw B s h (x::T) σ (v::vs) m):Ok m h x v:=by cases R.tm with|cons q _=>exact q
theorem Rw.fresh(R:Rw B s h T σ vs m){l:Addr}(hl:m.H l=none):B.H l=none/\m.G l=none/\¬m.P l/\∀n c,(n,c)∈h->m.ad n≠l:=by
 refine⟨?_,R.wf.s.free hl,fun z=>(R.wf.p l z).2 hl,fun n c e z=>?_⟩
 ·cases q:B.H l with
  |none=>rfl
  |some u=>exact absurd hl (R.fr.al l (by rw[q];exact nofun))
 ·obtain⟨o,ho⟩:=(R.wf.c n c e).2.2.some;rw[z,hl]at ho;cases ho
theorem Mv.new{l:Addr}{o:HO}(S:aj m.G m.H)(hl:m.H l=none):Mv m h { m with G:=upd m.G l o,H:=upd m.H l o } h:=by
 have gl:m.G l=none:=S.free hl;refine⟨aj.new gl,fun b u e=>?_,fun a u e _=>kp e hl,fun a e=>?_,fun a e=>?_,fun p c _ _ _ e=>e.ex (aj.new hl),rfl,fun _ _ _=>rfl,fun n c e=>⟨c,e⟩⟩
 ·by_cases z:b=l
  ·subst z;have e':upd m.G b o b=some u:=e;rw[aa]at e';show upd m.H b o b=some u;rw[aa];exact e'
  ·have e':upd m.G l o b=some u:=e;rw[af z]at e';show upd m.H l o b=some u;rw[af z];exact S _ _ e'
 ·show upd m.H l o a≠none;by_cases z:a=l
  ·subst z;rw[aa];exact nofun
  ·rw[af z];exact e
 ·by_cases z:a=l
  ·subst z;exact .inr hl
  ·have e':upd m.G l o a≠none:=e;rw[af z]at e';exact .inl e'
def free(h:SH)(n:Nat):Prop:=n<1000/\∀c,(n,c)∉h
theorem xQ{h:SH}{n:Nat}(l:n<1000)(e:(h.map (·.1)).contains n=false):free h n:=⟨l,fun c z=>by
 have:n∈h.map (·.1):=bB.mpr ⟨(n,c),z,rfl⟩;have:=List.contains_iff_mem.mpr this;rw[e]at this;cases this⟩
theorem Rw.cell{l:Addr}{n:Nat}{c:Ce}{m':Mp}(R:Rw B s h T σ vs m)(M:Mv m h m' h)(fn:free h n)(hl:m.H l=none)(gl:m'.G l=none)(hc:tu { m' with ad:=fun k=>if k=n then l else m'.ad k } ((n,c)::h) l c):
  ∃m2:Mp,m2.H=m'.H/\m2.ad n=l/\Rw B s ((n,c)::h) T σ vs m2:=by
 have R1:=R.mv M;obtain⟨f1,f2,f3,f4⟩:=R.fresh hl
 let m2:Mp:={ m' with ad:=fun k=>if k=n then l else m'.ad k }
 have an:m2.ad n=l:=if_pos rfl;have ne:∀k ck,(k,ck)∈h->k≠n:=fun k ck e z=>fn.2 ck (by rw[<-z];exact e);have ak:∀k ck,(k,ck)∈h->m2.ad k=m'.ad k:=fun k ck e=>if_neg (ne k ck e);have M2:Mv m' h m2 ((n,c)::h):=⟨.refl _,R1.wf.s,fun _ _ e _=>e,fun _ e=>e,fun _ e=>.inl e,fun _ _ _ _ _ e=>e,rfl,ak,fun k ck e=>⟨ck,cC _ e⟩⟩;have pl:¬m'.P l:=by rw[M.pp];exact f3
 refine⟨m2,rfl,an,⟨R1.fr.gg,R1.fr.hh,R1.fr.al,R1.fr.fr,R1.fr.pe,R1.fr.pp,fun k ck e=>?_,fun k a e=>?_⟩,⟨R1.wf.s,R1.wf.p,fun k ck e=>?_,fun k ck k' ck' e e' z=>?_,?_⟩,R1.len,fun i x e=>(R1.sl i x e).imp id fun⟨v,e,q⟩=>⟨v,e,Ok.mv M2 q⟩,Paired.mapP R1.tm fun v x q=>Ok.mv M2 q⟩
 ·rcases bf.mp e with e|e
  ·cases e;rw[an];exact .inl f1
  ·rw[ak k ck e];exact R1.fr.ow k ck e
 ·obtain⟨h1,h2,ck,h3⟩:=R1.fr.nd k a e;exact⟨h1,by rw[ak k ck h3];exact h2,ck,cC _ h3⟩
 ·rcases bf.mp e with e|e
  ·cases e;rw[an];exact⟨gl,pl,hc⟩
  ·obtain⟨h1,h2,h3⟩:=R1.wf.c k ck e;rw[ak k ck e];exact⟨h1,h2,h3.mv M2 h2⟩
 ·rcases bf.mp e with e|e
  ·cases e;rcases bf.mp e' with e'|e'
   ·cases e';rfl
   ·rw[an,ak k' ck' e',M.ad k' ck' e']at z;exact absurd z.symm (f4 k' ck' e')
  ·rcases bf.mp e' with e'|e'
   ·cases e';rw[an,ak k ck e,M.ad k ck e]at z;exact absurd z (f4 k ck e)
   ·rw[ak k ck e,ak k' ck' e']at z;exact R1.wf.i k ck k' ck' e e' z
 ·rw[aN,kG];refine⟨fun z=>?_,R1.wf.u⟩;obtain⟨⟨k,ck⟩,e,ek⟩:=bB.mp z;exact ne k ck e ek
end
theorem jQ{h:SH}{n:Nat}{c:Ce}(e:h.lookup n=some c):(n,c)∈h:=by
 induction h with
 |nil=>cases e
 |cons p h ih =>
  obtain⟨k,ck⟩:=p;rw[em]at e;by_cases z:n==k
  ·rw[z]at e;cases e;have:n=k:=by simpa using z
   subst this;exact eG
  ·have z':(n==k)=false:=by simpa using z
   rw[z']at e;exact cC _ (ih e)
def EV(s:List Sl)(h:SH)(t:TE)(φ:Sl->SH->Prop):Prop:=∀B T σ vs H Q,A B s h T σ vs H->(∀x v h' H',φ x h'->A B s h' (x::T) σ (v::vs) H'->Q v H')->t σ H Q
def ET(s:List Sl)(h:SH)(t:TT)(ψ:Bool->SH->Prop):Prop:=∀B T σ vs H Q,A B s h T σ vs H->(∀b h' H',ψ b h'->A B s h' T σ vs H'->Q b H')->t σ H Q
def EA(s:List Sl)(h:SH)(t:TA)(Φ:List Sl->SH->Prop):Prop:=∀B T σ vs H Q,A B s h T σ vs H->(∀xs us h' H',Φ xs h'->us.length=xs.length->A B s h' (xs++T) σ (us++vs) H'->Q us H')->t σ H Q
abbrev jY(K:Za)(d:DT):Sl:=.im (dv K d)
def lv(as:List AV):AV:=⟨fun G v=>∃a vs,v=.ref a/\G a=some (.lst vs)/\Paired (fun v (x:AV)=>x.p G v) vs as,fun S ⟨a,vs,e,h,r⟩=>⟨a,vs,e,S _ _ h,Paired.mapP r fun v x q=>x.mono S q⟩⟩
def tv(as:List AV):AV:=⟨fun G v=>∃a vs,v=.ref a/\G a=some (.tup vs)/\Paired (fun v (x:AV)=>x.p G v) vs as,fun S ⟨a,vs,e,h,r⟩=>⟨a,vs,e,S _ _ h,Paired.mapP r fun v x q=>x.mono S q⟩⟩
inductive wS(K:Za)(h:SH):Sl->Bool->List Sl->Prop
 |s {ds:List DT}:wS K h (jY K (.s ds)) true (ds.map (jY K))
 |t {ds:List DT}:wS K h (jY K (.t ds)) false (ds.map (jY K))
 |v {as:List AV}:wS K h (.im (lv as)) true (as.map .im)
 |w {as:List AV}:wS K h (.im (tv as)) false (as.map .im)
 |c {n:Nat}{xs:List Sl}(e:h.lookup n=some (.lst xs)):wS K h (.lc n) true xs
inductive tp(K:Za)(h:SH):Sl->DT->Prop
 |d {d:DT}:tp K h (jY K d) d
 |c {n:Nat}{xs:List Sl}{ds:List DT}(e:h.lookup n=some (.lst xs)) (r:Paired (tp K h) xs ds):tp K h (.lc n) (.s ds)
inductive vy(K:Za):List Sl->List DT->Prop
 |nil:vy K [] []
 |cons {d:DT}{xs:List Sl}{ds:List DT}:vy K xs ds->vy K (jY K d::xs) (d::ds)
inductive vx:List Sl->List AV->Prop
 |nil:vx [] []
 |cons {a:AV}{xs:List Sl}{as:List AV}:vx xs as->vx (.im a::xs) (a::as)
section
variable{K:Za}{m:Mp}{h:SH}
theorem yB{ds:List DT}:∀{us:List V},DRs K m.G ds us->nF m h us (ds.map (jY K)):=by
 induction ds with
 |nil=>intro us q;unfold DRs at q;subst q;exact .nil
 |cons d ds ih=>intro us q;unfold DRs at q;obtain⟨v,us,rfl,q1,q2⟩:=q;exact .cons q1 (ih q2)
theorem v9:∀{as:List AV}{us:List V},Paired (fun v (x:AV)=>x.p m.G v) us as->nF m h us (as.map .im)
 |_,_,.nil=>.nil
 |_,_,.cons q r=>.cons q (v9 r)
theorem wS.view{x:Sl}{b:Bool}{xs:List Sl}{v:V}(q:wS K h x b xs)(W:Wf m h)(o:Ok m h x v):∃a us,v=.ref a/\nF m h us xs/\(b=true->m.H a=some (.lst us))/\(b=false->bM K m.H a us):=by
 cases q with
 |@s ds =>
  have o':DR K m.G (.s ds) v:=o;unfold DR at o';obtain⟨a,us,e,h1,h2⟩:=o';exact⟨a,us,e,yB h2,fun _=>W.s _ _ h1,nofun⟩
 |@t ds =>
  have o':DR K m.G (.t ds) v:=o;unfold DR at o';obtain⟨a,us,e,h1,h2⟩:=o';exact⟨a,us,e,yB h2,nofun,fun _=>bM.same W.s h1⟩
 |v=>obtain⟨a,us,e,h1,h2⟩:=o;exact⟨a,us,e,v9 h2,fun _=>W.s _ _ h1,nofun⟩
 |w=>obtain⟨a,us,e,h1,h2⟩:=o;exact⟨a,us,e,v9 h2,nofun,fun _=>bM.of (W.s _ _ h1)⟩
 |c e =>
  obtain⟨_,rfl⟩:=o;obtain⟨_,_,us,h1,h2⟩:=W.c _ _ (jQ e);exact⟨_,us,rfl,h2,fun _=>h1,nofun⟩
theorem ug{x:Sl}{d:DT}(q:tp K h x d)(W:Wf m h):∀{v:V},Ok m h x v->fG K m.H d v:=by
 have key:∀(n:Nat) {x:Sl}{d:DT},d.depth<=n->tp K h x d->∀{v:V},Ok m h x v->fG K m.H d v:=by
  intro n
  induction n with
  |zero =>
   intro x d hd q v o;cases q with
   |d=>exact fG.same W.s (DR.dIn o)
   |c e r=>exact absurd hd (by show ¬(DT.depths _+1<=0);omega)
  |succ n ih =>
   intro x d hd q v o;cases q with
   |d=>exact fG.same W.s (DR.dIn o)
   |@c k xs ds e r =>
    obtain⟨_,rfl⟩:=o;obtain⟨_,_,us,h1,h2⟩:=W.c _ _ (jQ e);have hd':DT.depths ds<=n:=by have:DT.depths ds+1<=n+1:=hd;omega
    unfold fG;refine⟨_,us,rfl,aB.of h1,?_⟩;clear e h1 hd
    induction r generalizing us with
    |nil=>cases h2;unfold DIns;rfl
    |@cons y d' ys ds' q1 q2 ihr =>
     cases h2 with
     |cons o1 o2 =>
      have hd2:max (DT.depth d') (DT.depths ds')<=n:=hd';unfold DIns;exact⟨_,_,rfl,ih (by omega) q1 o1,ihr _ o2 (by omega)⟩
 exact fun{v} o=>key _ (aE _) q o
theorem vy.view{xs:List Sl}{ds:List DT}(q:vy K xs ds):∀{us:List V},nF m h us xs->DRs K m.G ds us:=by
 induction q with
 |nil=>intro us h;cases h;unfold DRs;rfl
 |cons _ ih=>intro us h;cases h with|cons h1 h2=>unfold DRs;exact⟨_,_,rfl,h1,ih h2⟩
theorem vx.view{xs:List Sl}{as:List AV}(q:vx xs as):∀{us:List V},nF m h us xs->Paired (fun v (x:AV)=>x.p m.G v) us as:=by
 induction q with
 |nil=>intro us h;cases h;exact .nil
 |cons _ ih=>intro us h;cases h with|cons h1 h2=>exact .cons h1 (ih h2)
end
theorem Paired.cut{R:V->Sl->Prop}:∀{us:List V}{xs:List Sl}{vs:List V}{T:List Sl},us.length=xs.length->Paired R (us++vs) (xs++T)->Paired R us xs/\Paired R vs T
 |[],[],_,_,_,h=>⟨.nil,h⟩
 |[],_::_,_,_,e,_=>by cases e
 |_::_,[],_,_,e,_=>by cases e
 |u::us,x::xs,_,_,e,h=>by
  cases h with
  |cons h1 h2=>obtain⟨g1,g2⟩:=Paired.cut (by simpa using e) h2;exact⟨.cons h1 g1,g2⟩
theorem Rw.args{B:Bs}{s:List Sl}{h:SH}{T:List Sl}{σ:L2.St}{vs:List V}{m:Mp}{xs:List Sl}{us:List V}(R:Rw B s h (xs++T) σ (us++vs) m)(e:us.length=xs.length):nF m h us xs/\Rw B s h T σ vs m:=by
 obtain⟨h1,h2⟩:=Paired.cut e R.tm;exact⟨h1,R.fr,R.wf,R.len,R.sl,h2⟩
def z_(K:Za)(h:SH)(φ:Sl->SH->Prop)(xs:List Sl):Prop:=(∃ds,vy K xs ds/\φ (jY K (.s ds)) h)∨(∃as,vx xs as/\φ (.im (lv as)) h)∨∃n,(n<1000/\(h.map (·.1)).contains n=false)/\φ (.lc n) ((n,.lst xs)::h)
section
variable{B:Bs}{s:List Sl}{h:SH}{T:List Sl}{σ:L2.St}{vs:List V}{m m':Mp}
theorem Rw.adopt{K:Za}{φ:Sl->SH->Prop}{xs:List Sl}{us:List V}{l:Addr}(R:Rw B s h T σ vs m)(M:Mv m h m' h)(hl:m.H l=none)(gl:m'.G l=none)(e:m'.H l=some (.lst us))(hd:nF m' h us xs)(q:z_ K h φ xs):∃x h',φ x h'/\A B s h' (x::T) σ (.ref l::vs) m'.H:=by
 have M':Mv m h { m' with G:=upd m'.G l (.lst us) } h:=⟨M.gg.trans (aj.new gl),fun b u q=>by
   have q':upd m'.G l (.lst us) b=some u:=q;by_cases z:b=l
   ·subst z;rw[aa]at q';rw[<-q'];exact e
   ·rw[af z]at q';exact M.s _ _ q',M.hh,M.al,fun b q=>by
   have q':upd m'.G l (.lst us) b≠none:=q;by_cases z:b=l
   ·subst z;exact .inr hl
   ·rw[af z]at q';exact M.fr b q',M.pe,M.pp,M.ad,M.nm⟩
 rcases q with⟨ds,a,q⟩|⟨as,a,q⟩|⟨n,fn,q⟩
 ·refine⟨_,_,q,(R.mv M').push ?_⟩;show DR K (upd m'.G l (.lst us)) (.s ds) (.ref l);unfold DR;exact⟨l,us,rfl,aa,DRs.same (aj.new gl) (a.view hd)⟩
 ·refine⟨_,_,q,(R.mv M').push ?_⟩;exact⟨l,us,rfl,aa,Paired.mapP (a.view hd) fun v x r=>x.mono (aj.new gl) r⟩
 ·have fr:=xQ fn.1 fn.2;obtain⟨f1,f2,f3,f4⟩:=R.fresh hl;have M2:Mv m' h { m' with ad:=fun k=>if k=n then l else m'.ad k } ((n,.lst xs)::h):=⟨.refl _,M.s,fun _ _ e _=>e,fun _ e=>e,fun _ e=>.inl e,fun _ _ _ _ _ e=>e,rfl,fun k ck z=>if_neg (fun y=>fr.2 ck (by rw[<-y];exact z)),fun k ck z=>⟨ck,cC _ z⟩⟩
  obtain⟨m2,e2,a2,R2⟩:=R.cell (c:=.lst xs) M fr hl gl ⟨us,e,Paired.mapP hd fun v x r=>Ok.mv M2 r⟩;refine⟨_,_,q,?_⟩;rw[<-e2];exact R2.push ⟨⟨_,eG⟩,by rw[a2]⟩
theorem Mv.newO{l:Addr}{o:HO}(S:aj m.G m.H)(hl:m.H l=none):Mv m h { m with H:=upd m.H l o } h:=by
 refine⟨.refl _,S.trans (aj.new hl),fun a u e _=>kp e hl,fun a e=>?_,fun a e=>.inl e,fun p c _ _ _ e=>e.ex (aj.new hl),rfl,fun _ _ _=>rfl,fun n c e=>⟨c,e⟩⟩;show upd m.H l o a≠none;by_cases z:a=l
 ·subst z;rw[aa];exact nofun
 ·rw[af z];exact e
theorem A.pushI{H:Hp}(a:A B s h T σ vs H){x:AV}{v:V}(q:∀G,x.p G v):A B s h (.im x::T) σ (v::vs) H:=let⟨m,e,R⟩:=a;⟨m,e,R.fr,R.wf,R.len,R.sl,.cons (q m.G) R.tm⟩
end
section
variable{K:Za}{s:List Sl}{h:SH}{φ:Sl->SH->Prop}{ψ:Bool->SH->Prop}{Φ:List Sl->SH->Prop}{ta tb te:TE}{i:Nat}
theorem aV{x:Sl}(e:s[i]?=some x)(q:φ x h)(hx:x≠.no:=by exact nofun):EV s h (iK i) φ:=by
 intro B T σ vs H Q a k;obtain⟨m,rfl,R⟩:=a;rcases R.sl i x e with z|⟨v,e2,o⟩
 ·exact absurd z hx
 ·exact⟨v,e2,k x v h _ q (R.push o)⟩
theorem rk{b:Bool}(q:φ (.im (bv b)) h):EV s h (tC (.bl b)) φ:=fun B T σ vs H Q a k=>k _ _ _ _ q (a.pushI fun G=>rfl)
theorem zn(q:Φ [] h):EA s h bG Φ:=fun B T σ vs H Q a k=>k [] [] h H q rfl a
theorem ul{tr:TA}(q:EV s h ta fun x h1=>EA s h1 tr fun xs h2=>Φ (x::xs) h2):EA s h (ay ta tr) Φ:=by
 intro B T σ vs H Q a k;refine q B T σ vs H _ a fun x v h1 H1 q1 a1=>q1 B _ σ _ H1 _ a1 fun xs us h2 H2 q2 hl a2=>k (x::xs) (v::us) h2 H2 q2 (by simp[hl]) ?_;obtain⟨m,e,R⟩:=a2;refine⟨m,e,R.fr,R.wf,R.len,R.sl,?_⟩;have sp:∀(xs:List Sl) (us:List V),us.length=xs.length->nF m h2 (us++v::vs) (xs++x::T)->nF m h2 (v::us++vs) (x::xs++T):=by
  intro xs
  induction xs with
  |nil=>intro us hl h;cases us with|nil=>exact h|cons _ _=>cases hl
  |cons y xs ih =>
   intro us hl h;cases us with
   |nil=>cases hl
   |cons u us =>
    cases h with
    |cons h1 h2 =>
     have:=ih us (by simpa using hl) h2;cases this with
     |cons g1 g2=>exact .cons g1 (.cons h1 g2)
 exact sp xs us hl R.tm
theorem rS{B:Bs}{T:List Sl}{σ:L2.St}{vs:List V}{H:Hp}{b:Bool}{v:V}(a:A B s h (.im (bv b)::T) σ (v::vs) H):v=.bl b/\A B s h T σ vs H:=by
 obtain⟨m,e,R⟩:=a;exact⟨R.top,m,e,R.drop⟩
theorem tS{B:Bs}{T:List Sl}{σ:L2.St}{vs:List V}{H:Hp}{n:Int}{v:V}(a:A B s h (jY K (zC n)::T) σ (v::vs) H):v=.int n/\A B s h T σ vs H:=by
 obtain⟨m,e,R⟩:=a;have:DR K m.G (zC n) v:=R.top;unfold DR at this;exact⟨this,m,e,R.drop⟩
theorem gJ(q:EV s h te fun x h1=>∃b,x=.im (bv b)/\ψ b h1):ET s h (tB te) ψ:=by
 intro B T σ vs H Q a k;refine q B T σ vs H _ a fun x v h1 H1 ⟨b,e,q1⟩ a1=>?_;subst e;obtain⟨e,a2⟩:=rS a1;exact⟨b,e,k b h1 H1 q1 a2⟩
theorem xV(q:EV s h te fun x h1=>∃b,x=.im (bv b)/\ψ b h1):ET s h (bV te) ψ:=gJ q
theorem wA{t:TT}(q:ET s h t fun b h1=>ψ (!b) h1):ET s h (ke t) ψ:=fun B T σ vs H Q a k=>q B T σ vs H _ a fun b h1 H1 q1 a1=>k (!b) h1 H1 q1 a1
theorem pM{t u:TT}(q:ET s h t fun b h1=>if b=true then ET s h1 u ψ else ψ false h1):ET s h (sh t u) ψ:=by
 intro B T σ vs H Q a k;refine q B T σ vs H _ a fun b h1 H1 q1 a1=>?_;cases b with
 |true=>exact bY ((if_pos rfl).mp q1 B T σ vs H1 Q a1 k)
 |false=>exact bj (k false h1 H1 ((if_neg nofun).mp q1) a1)
theorem zk(q:ψ true h):ET s h fC ψ:=fun B T σ vs H Q a k=>k true h H q a
theorem pL(q:EV s h ta fun x h1=>∃b,x=.im (bv b)/\if b=true then EV s h1 tb φ else φ (.im (bv false)) h1):EV s h (gV ta tb) φ:=by
 intro B T σ vs H Q a k;refine q B T σ vs H _ a fun x u h1 H1 ⟨b,e,q1⟩ a1=>?_;subst e;obtain⟨e,a2⟩:=rS a1;refine⟨b,e,?_⟩;cases b with
 |true=>exact bY ((if_pos rfl).mp q1 B T σ vs H1 Q a2 k)
 |false=>exact bj (k _ _ h1 H1 ((if_neg nofun).mp q1) (a2.pushI fun G=>rfl))
theorem xS(q:EV s h ta fun x h1=>∃b,x=.im (bv b)/\φ (.im (bv (!b))) h1):EV s h (tU ta) φ:=by
 intro B T σ vs H Q a k;refine q B T σ vs H _ a fun x u h1 H1 ⟨b,e,q1⟩ a1=>?_;subst e;obtain⟨e,a2⟩:=rS a1;exact⟨b,e,k _ _ h1 H1 q1 (a2.pushI fun G=>rfl)⟩
inductive qa:Sl->Bool->Prop
 |n:qa (.im nv) true
 |b {b:Bool}:qa (.im (bv b)) false
 |c {n:Nat}:qa (.lc n) false
 |d {K:Za}{d:DT}:qa (jY K d) false
 |l {as:List AV}:qa (.im (lv as)) false
 |t {as:List AV}:qa (.im (tv as)) false
theorem qa.view{x:Sl}{b:Bool}(q:qa x b){m:Mp}{v:V}(o:Ok m h x v):decide (v=.non)=b:=by
 cases q with
 |n=>exact zzr1 o
 |b=>have o':v=.bl _:=o;subst o';rfl
 |c=>obtain⟨_,rfl⟩:=o;rfl
 |@d K d =>
  have o':DR K m.G d v:=o;cases d with
  |k a=>unfold DR at o';subst o';cases a<;>rfl
  |t l=>unfold DR at o';obtain⟨_,_,rfl,_⟩:=o';rfl
  |s l=>unfold DR at o';obtain⟨_,_,rfl,_⟩:=o';rfl
 |l=>obtain⟨_,_,rfl,_⟩:=o;rfl
 |t=>obtain⟨_,_,rfl,_⟩:=o;rfl
theorem zi(q:EV s h ta fun x h1=>∃b,qa x b/\φ (.im (bv b)) h1):EV s h (uP ta) φ:=by
 intro B T σ vs H Q a k;refine q B T σ vs H _ a fun x u h1 H1 ⟨b,e,q1⟩ a1=>?_;obtain⟨m,rfl,R⟩:=a1;rw[e.view R.top];exact k _ _ h1 _ q1 (R.drop.push rfl)
theorem wz(q:EV s h ta fun x h1=>EV s h1 tb fun y h2=>∃d e,tp K h2 x d/\tp K h2 y e/\d.depth<=8/\e.depth<=8/\φ (.im (bv (decide (d=e)))) h2):EV s h (aI (pc K) ta tb) φ:=by
 intro B T σ vs H Q a k;refine q B T σ vs H _ a fun x u h1 H1 q1 a1=>q1 B _ σ _ H1 _ a1 fun y v h2 H2 q2 a2=>?_;obtain⟨d,e,i1,i2,z1,z2,c⟩:=q2;obtain⟨m,rfl,R⟩:=a2;exact⟨d,e,ug i1 R.wf R.drop.top,ug i2 R.wf R.top,z1,z2,k _ _ h2 _ c (R.drop.drop.push rfl)⟩
theorem zo(i j:Int):decide (V.int i=V.int j)=decide (i=j):=by
 rw[kL,decide_eq_true_iff,decide_eq_true_iff];exact⟨fun z=>by injection z,fun z=>by rw[z]⟩
theorem zh(q:EV s h ta fun x h1=>EV s h1 tb fun y h2=>∃i j:Int,x=jY K (zC i)/\y=jY K (zC j)/\φ (.im (bv (!decide (i=j)))) h2):EV s h (aI yY ta tb) φ:=by
 intro B T σ vs H Q a k;refine q B T σ vs H _ a fun x u h1 H1 q1 a1=>q1 B _ σ _ H1 _ a1 fun y v h2 H2 q2 a2=>?_;obtain⟨i,j,rfl,rfl,c⟩:=q2;obtain⟨rfl,a3⟩:=tS a2;obtain⟨rfl,a4⟩:=tS a3;refine⟨rfl,?_⟩;rw[zo];exact k _ _ h2 _ c (a4.pushI fun G=>rfl)
theorem wx{t:TE}(q:EV s h t fun x h1=>∃b xs,wS K h1 x b xs/\φ (jY K (zC xs.length)) h1):EV s h (cJ (fE K) (ay t bG)) φ:=by
 intro B T σ vs H Q a k;refine q B T σ vs H _ a fun x v h1 H1 ⟨b,xs,iv,c⟩ a1=>?_;obtain⟨m,rfl,R⟩:=a1;obtain⟨p,us,rfl,hd,g1,g2⟩:=iv.view R.wf R.top;refine .inl ⟨p,us,rfl,?_,?_⟩
 ·cases b with
  |true=>exact .inl (aB.of (g1 rfl))
  |false=>exact .inr (g2 rfl)
 ·rw[Paired.length hd];exact k _ _ h1 _ c (R.drop.push (yV (K:=K) m.G))
end
abbrev bas(m:Mp)(h:SH)(N:List (Nat×Addr)):Bs:=⟨m.G,m.H,m.P,fun a=>∃n c,(n,c)∈h/\m.ad n=a,fun _=>False,N⟩
def Fin(m:Mp)(h:SH)(Q:VK)(φ:Sl->SH->Prop):Prop:=∀r v h' m',φ r h'->Fr (bas m h (h.map fun p=>(p.1,m.ad p.1))) m' h'->Wf m' h'->Ok m' h' r v->Q v m'.H
def Cn(sp:Sp)(xs:List Sl)(h:SH)(φ:Sl->SH->Prop):Prop:=∀us m Q E,(∀n c,(n,c)∈h->1000<=n)->Wf m h->nF m h us xs->Fin m h Q φ->sp us m.H Q E
theorem Cn.imp{sp:Sp}{xs:List Sl}{h:SH}{φ φ':Sl->SH->Prop}(c:Cn sp xs h φ)(q:∀r h',φ r h'->φ' r h'):Cn sp xs h φ':=fun us m Q E hn W o f=>c us m Q E hn W o fun r v h' m' hr=>f r v h' m' (q r h' hr)
def plain:Sl->Prop
 |.im _=>True
 |.pn=>True
 |_=>False
def Res(K:Za)(h:SH)(φ:Sl->SH->Prop)(r:Sl)(h':SH):Prop:=(∃a,r=.im a/\φ r h)∨∃n xs,r=.lc n/\h'.lookup n=some (.lst xs)/\(∀x∈xs,plain x)/\z_ K h φ xs
theorem v_{m m':Mp}{h h':SH}{x:Sl}{v:V}(hx:plain x)(hG:m'.G=m.G)(hH:m'.H=m.H)(hP:m'.P=m.P)(o:Ok m h x v):Ok m' h' x v:=by
 cases x with
 |no=>exact eW
 |im a=>show a.p m'.G v;rw[hG];exact o
 |lc n=>exact hx.elim
 |pn=>obtain⟨p,c,o,h1,h2,h3,h4⟩:=o;exact⟨p,c,o,h1,by rw[hP];exact h2,by rw[hG];exact h3,by rw[hH];exact h4⟩
theorem Wf.nil{m:Mp}{h:SH}(W:Wf m h):Wf m []:=⟨W.s,W.p,(fun _ _ e=>nomatch e),(fun _ _ _ _ e=>nomatch e),md⟩
theorem kj{m m':Mp}{h h':SH}(hG:m'.G=m.G)(hH:m'.H=m.H)(hP:m'.P=m.P):∀{us:List V}{xs:List Sl},(∀x∈xs,plain x)->nF m h us xs->nF m' h' us xs
 |_,_,_,.nil=>.nil
 |_,_,hx,.cons o r=>.cons (v_ (hx _ eG) hG hH hP o) (kj hG hH hP (fun x hx'=>hx x (cC _ hx')) r)
section
variable{K:Za}{B:Bs}{s:List Sl}{h:SH}{T:List Sl}{σ:L2.St}{vs:List V}{φ:Sl->SH->Prop}
theorem Fr.mv0{m m':Mp}{h h' h0:SH}{N:List (Nat×Addr)}{M:Addr->Prop}{R:Addr->Prop}(F:Fr ⟨m.G,m.H,m.P,M,R,N⟩ m' h')(W:Wf m' h')(hM:∀a,¬M a):Mv m h { m' with ad:=m.ad } h :=
 ⟨F.gg,W.s,fun a o e n=>F.hh a o e n (hM a),F.al,F.fr,F.pe,by funext a;exact propext (F.pp a).symm,fun _ _ _=>rfl,fun n c e=>⟨c,e⟩⟩
theorem vm{sp:Sp}{H:Hp}{Q:VK}{E:XK}{xs:List Sl}{us:List V}(hp:∀x∈xs,plain x)(c:Cn sp xs [] (Res K h φ))(hl:us.length=xs.length)(a:A B s h (xs++T) σ (us++vs) H)
  (k:∀x v h' H',φ x h'->A B s h' (x::T) σ (v::vs) H'->Q v H'):sp us H Q E:=by
 obtain⟨m,rfl,R⟩:=a;obtain⟨g1,R1⟩:=R.args hl;refine c us m Q E (fun _ _ e=>nomatch e) R1.wf.nil (kj rfl rfl rfl hp g1) fun r v h' m' q F W o=>?_;have nM:∀a,¬∃n c,(n,c)∈([]:SH)/\m.ad n=a:=fun a ⟨_,_,e,_⟩=>nomatch e;have M:Mv m h { m' with ad:=m.ad } h:=Fr.mv0 (h0:=[]) F W nM;rcases q with⟨x,rfl,q⟩|⟨n,ys,rfl,lk,hy,q⟩
 ·exact k _ _ h _ q ((R1.mv M).push o)
 ·obtain⟨_,rfl⟩:=o;obtain⟨gn,_,ws,e,os⟩:=W.c _ _ (jQ lk);have fr:m.H (m'.ad n)=none:=by
   rcases F.ow _ _ (jQ lk)with z|z|z
   ·exact z
   ·exact absurd z (nM _)
   ·exact z.elim
  obtain⟨x,h2,hx,a2⟩:=R1.adopt M fr gn e (kj (m:=m') (m':={ m' with ad:=m.ad }) rfl rfl rfl hy os) q;exact k x _ h2 _ hx a2
theorem xU{sp:Sp}{t:TA}(q:EA s h t fun xs h1=>(∀x∈xs,plain x)/\Cn sp xs [] (Res K h1 φ)):EV s h (a_ sp t) φ:=by
 intro B T σ vs H Q a k;refine q B T σ vs H _ a fun xs us h1 H1 ⟨hp,c⟩ hl a1=>?_;rw[iX];exact vm hp c hl a1 k
end
def EG(s:List Sl)(h:SH)(x:Sl)(g:TG)(Ψ:List Sl->SH->Prop):Prop:=∀B T σ vs v H Q,A B s h (x::T) σ (v::vs) H->(∀s' σ' h' H',Ψ s' h'->A B s' h' T σ' vs H'->Q σ' H')->g v σ H Q
def Aw(s:List Sl)(h:SH)(xs:List Sl)(g:sW)(Ψ:List Sl->SH->Prop):Prop:=∀B T σ vs us H Q,A B s h (xs++T) σ (us++vs) H->us.length=xs.length->(∀s' σ' h' H',Ψ s' h'->A B s' h' T σ' vs H'->Q σ' H')->g us σ H Q
section
variable{K:Za}{s:List Sl}{h:SH}{Ψ:List Sl->SH->Prop}
theorem uk{x:Sl}{i:Nat}(q:Ψ (s.set i x) h):EG s h x (b_ i) Ψ:=by
 intro B T σ vs v H Q a k;obtain⟨m,e,R⟩:=a;refine k _ _ h H q ⟨m,e,R.drop.fr,R.drop.wf,by rw[mh,mh];exact R.len,fun j y hj=>?_,R.drop.tm⟩;rw[List.getElem?_set]at hj;by_cases z:i=j
 ·subst z;rw[if_pos rfl]at hj;by_cases l:i<s.length
  ·rw[if_pos l]at hj;cases hj;refine .inr ⟨v,?_,R.top⟩;rw[List.getElem?_set,if_pos rfl,if_pos (by rw[<-R.len];exact l)]
  ·rw[if_neg l]at hj;cases hj
 ·rw[if_neg z]at hj;refine(R.sl j y hj).imp id fun⟨w,e,o⟩=>⟨w,?_,o⟩;rw[List.getElem?_set,if_neg z];exact e
theorem xW(q:Ψ s h):Aw s h [] jS Ψ:=by
 intro B T σ vs us H Q a hl k;cases us with
 |nil=>exact⟨rfl,k s σ h H q a⟩
 |cons _ _=>cases hl
theorem rp{x:Sl}{xs:List Sl}{g:TG}{gs:sW}(q:EG s h x g fun s' h'=>Aw s' h' xs gs Ψ):Aw s h (x::xs) (cu g gs) Ψ:=by
 intro B T σ vs us H Q a hl k;cases us with
 |nil=>cases hl
 |cons u us=>exact⟨u,us,rfl,q B _ σ _ u H _ a fun s' σ' h' H' q' a'=>q' B T σ' vs us H' Q a' (by simpa using hl) k⟩
theorem xX{x:Sl}{xs:List Sl}{n:Nat}{gs:sW}(iv:wS K h x false xs)(hn:xs.length=n)(q:Aw s h xs gs Ψ):EG s h x (kq K n gs) Ψ:=by
 intro B T σ vs v H Q a k;obtain⟨m,rfl,R⟩:=a;obtain⟨b,us,rfl,hd,_,g2⟩:=iv.view R.wf R.top;exact⟨b,us,rfl,g2 rfl,by rw[Paired.length hd];exact hn,q B T σ vs us _ Q ⟨m,rfl,R.fr,R.wf,R.len,R.sl,Paired.app hd R.drop.tm⟩ (Paired.length hd) k⟩
end
structure Src(G:Hp)(J:It)(n:Nat)(el:Nat->AV):Prop where
 go:∀i G2 H2,i<n->aj G G2->aj G2 H2->J.go i H2
 st:∀G2 H2,aj G G2->aj G2 H2->J.stop n H2
 yl:∀i (m:Mp) (h:SH) x H3,i<n->aj G m.G->aj m.G m.H->J.yld i m.H x H3->∃m3:Mp,m3.H=H3/\Mv m h m3 h/\(el i).p m3.G x
def EI(s:List Sl)(h:SH)(wi:L2.TI)(Θ:Nat->(Nat->AV)->SH->Prop):Prop:=∀B T σ vs H R,A B s h T σ vs H->(∀n el J h1 m,Θ n el h1->Rw B s h1 T σ vs m->Src m.G J n el->R J m.H)->wi σ H R
def zl(as:List AV)(i:Nat):AV:=as.getD i nv
section
variable{K:Za}{s:List Sl}{h:SH}{φ:Sl->SH->Prop}{Θ:Nat->(Nat->AV)->SH->Prop}{te:TE}
inductive zE(K:Za):AV->Bool->List AV->Prop
 |s {ds:List DT}:zE K (dv K (.s ds)) true (ds.map (dv K))
 |t {ds:List DT}:zE K (dv K (.t ds)) false (ds.map (dv K))
 |v {as:List AV}:zE K (lv as) true as
 |w {as:List AV}:zE K (tv as) false as
theorem yI{G:Hp}{ds:List DT}{us:List V}(q:DRs K G ds us):Paired (fun v (x:AV)=>x.p G v) us (ds.map (dv K)):=by
 induction ds generalizing us with
 |nil=>unfold DRs at q;subst q;exact .nil
 |cons d ds ih=>unfold DRs at q;obtain⟨v,us,rfl,q1,q2⟩:=q;exact .cons q1 (ih q2)
theorem zE.view{a:AV}{b:Bool}{as:List AV}(q:zE K a b as){G:Hp}{v:V}(o:a.p G v):∃p us,v=.ref p/\Paired (fun v (x:AV)=>x.p G v) us as/\(b=true->G p=some (.lst us))/\(b=false->bM K G p us):=by
 cases q with
 |@s ds =>
  have o':DR K G (.s ds) v:=o;unfold DR at o';obtain⟨a,us,e,h1,h2⟩:=o';exact⟨a,us,e,yI h2,fun _=>h1,nofun⟩
 |@t ds =>
  have o':DR K G (.t ds) v:=o;unfold DR at o';obtain⟨a,us,e,h1,h2⟩:=o';exact⟨a,us,e,yI h2,nofun,fun _=>h1⟩
 |v=>obtain⟨a,us,e,h1,h2⟩:=o;exact⟨a,us,e,h2,fun _=>h1,nofun⟩
 |w=>obtain⟨a,us,e,h1,h2⟩:=o;exact⟨a,us,e,h2,nofun,fun _=>bM.of h1⟩
end
def cS(k:Nat)(fi:List Nat)(s:List Sl):List Sl:=tD k .no++fi.map fun i=>s.getD i .no
theorem lend{B:Bs}{s:List Sl}{h:SH}{T:List Sl}{σ:L2.St}{vs:List V}{m:Mp}(R:Rw B s h T σ vs m)(k:Nat)(fi:List Nat):Rw ⟨m.G,m.H,m.P,fun _=>False,fun a=>∃n c,(n,c)∈h/\m.ad n=a,[]⟩ (cS k fi s) h [] (cf k fi σ) [] m:=by
 refine⟨⟨.refl _,fun _ _ e _ _=>e,fun _ e=>e,fun _ e=>.inl e,fun _ _ _ _ _ e=>e,fun _=>Iff.rfl,fun n c e=>.inr (.inr ⟨n,c,e,rfl⟩),fun _ _ e=>nomatch e⟩,R.wf,by unfold cS cf;simp,fun i x e=>?_,.nil⟩;unfold cS at e;by_cases z:i<k
 ·rw[mj (by simpa using z)]at e;exact .inl (List.eq_of_mem_replicate (bT e))
 ·rw[nI (by simpa using z),oS,cD]at e;cases q:fi[i-k]? with
  |none=>rw[q]at e;cases e
  |some j =>
   rw[q]at e;have e1:s.getD j .no=x:=cT e;rw[List.getD_eq_getElem?_getD]at e1;cases q2:s[j]? with
   |none=>rw[q2]at e1;exact .inl e1.symm
   |some y =>
    rw[q2]at e1;have e':y=x:=e1;subst e';refine(R.sl j y q2).imp id fun⟨v,e,o⟩=>⟨v,?_,o⟩;unfold cf;rw[nI (by simpa using z),oS,cD,q];show some ((σ[j]?).join)=_;rw[e];rfl
theorem yU{n:Nat}(h:n<=1000000):n<am:=oM h (by decide)
theorem Mv.put{m m':Mp}{h:SH}(M:Mv m h m' h){l:Addr}{o:HO}(hl:m.H l=none)(gl:m'.G l=none)(hp:∀a,m.P a->m.H a≠none):Mv m h { m' with H:=upd m'.H l o } h :=
 ⟨M.gg,fun b u e=>by show upd m'.H l o b=some u;rw[af (fun z=>by rw[z,gl]at e;cases e)];exact M.s _ _ e,fun a u e n=>by show upd m'.H l o a=some u;rw[af (ai e hl)];exact M.hh a u e n,fun a e=>by
  show upd m'.H l o a≠none;rw[af (fun z=>e (by rw[z];exact hl))];exact M.al a e,M.fr,fun p c o' hp' hc e=>by
  show eg (upd m'.H l o) p c;exact(M.pe p c o' hp' hc e).upd (fun z=>hp p hp' (by rw[z];exact hl)) (fun z=>by have:=M.gg _ _ hc;rw[z,gl]at this;cases this),M.pp,M.ad,M.nm⟩
section
variable{K:Za}{s:List Sl}{h:SH}{φ:Sl->SH->Prop}{ψ:Bool->SH->Prop}{te:TE}
theorem xT{k:Nat}{fi:List Nat}{wi:L2.TI}{g:TG}{tc:TT}(q:EI s h wi fun n el h1=>n<=1000000/\∃I:Nat->List AV->Prop,I 0 [] /\
  (∀i acc,i<n->I i acc->EG (cS k fi s) h1 (.im (el i)) g fun sc h2=>ET sc h2 tc fun b h3=>if b=true then EV sc h3 te fun y _=>∃a,y=.im a/\I (i+1) (acc++[a])else I (i+1) acc)/\(∀acc,I n acc->z_ K h1 φ (acc.map .im))):EV s h (b9 k fi wi g tc te) φ:=by
 intro B T σ vs H Q a kk;refine q B T σ vs H _ a fun n el J h1 m ⟨hz,I,i0,st,fin⟩ R S l hl=>?_;obtain⟨f1,f2,f3,f4⟩:=R.fresh hl;refine iw (Q:=fun H2=>Q (.ref l) H2) n (fun i ws H2=>∃m2 acc,m2.H=H2/\I i acc/\acc.length<=i/\Mv m h1 m2 h1/\m2.G l=none/\H2 l=some (.lst ws)/\nF m2 h1 ws (acc.map .im))
  ⟨_,[],rfl,i0,aE _,Mv.newO (o:=.lst []) R.wf.s hl,f2,aa,.nil⟩ (fun i ws H2 _ ⟨_,_,_,_,_,_,_,e,_⟩=>e) (fun i ws H2 hi ⟨m2,_,e,_,_,M,_⟩=>by rw[<-e];exact S.go i m2.G m2.H hi M.gg M.s) (fun ws H2 ⟨m2,acc,e0,hI,_,M,g,e,hd⟩=>?_) ?_
 ·subst e0;refine⟨S.st m2.G m2.H M.gg M.s,?_⟩;obtain⟨x,h2,hx,a2⟩:=R.adopt M hl g e hd (fin acc hI);exact kk x _ h2 _ hx a2
 ·rintro i ws H2 x H3 hi ⟨m2,acc,rfl,hI,hlen,M,gl,e,hd⟩ y;obtain⟨m3,rfl,M3,hx⟩:=S.yl i m2 h1 x H3 hi M.gg M.s y;have M03:=M.trans M3;have R3:=R.mv M03;have nP:¬m2.P l:=by rw[M.pp];exact f3
  have nP3:¬m3.P l:=by rw[M3.pp];exact nP
  have e3:m3.H l=some (.lst ws):=M3.hh l _ e nP;have gl3:m3.G l=none:=by
   cases q:m3.G l with
   |none=>rfl
   |some u =>
    rcases M3.fr l (by rw[q];exact nofun)with z|z
    ·exact absurd gl z
    ·rw[e]at z;cases z
  have hd3:nF m3 h1 ws (acc.map .im):=Paired.mapP hd fun v x r=>Ok.mv M3 r;refine st i acc hi hI _ [] _ [] x _ _ ((lend R3 k fi).push hx) fun sc σ2 h2 H4 h4 a4=>h4 _ [] σ2 [] H4 _ a4 fun b h3 H5 h5 a5=>?_;have step:∀{m6:Mp}{h6:SH},Fr ⟨m3.G,m3.H,m3.P,fun _=>False,fun a=>∃n c,(n,c)∈h1/\m3.ad n=a,[]⟩ m6 h6->Wf m6 h6->Mv m h1 { m6 with ad:=m3.ad } h1/\m6.G l=none/\m6.H l=some (.lst ws)/\nF { m6 with ad:=m3.ad } h1 ws (acc.map .im):=by
   intro m6 h6 F W;have M6:Mv m3 h1 { m6 with ad:=m3.ad } h1:=Fr.mv0 (h0:=[]) F W (fun _ z=>z);refine⟨M03.trans M6,?_,M6.hh l _ e3 nP3,Paired.mapP hd3 fun v x r=>Ok.mv M6 r⟩;cases q:m6.G l with
   |none=>rfl
   |some u =>
    rcases M6.fr l (by show m6.G l≠none;rw[q];exact nofun)with z|z
    ·exact absurd gl3 z
    ·rw[e3]at z;cases z
  have hpP:∀a,m.P a->m.H a≠none:=fun a z=>(R.wf.p a z).2;cases b with
  |true =>
   refine bY ?_;refine(if_pos rfl).mp h5 _ [] σ2 [] H5 _ a5 fun y v h7 H6 ⟨ea,ey,hI'⟩ a6=>?_;subst ey;obtain⟨m6,rfl,R6⟩:=a6;obtain⟨M6,g6,e6,d6⟩:=step R6.fr R6.wf;have l6:=Paired.length d6;rw[ap]at l6;refine⟨e6,by rw[l6];exact yU (by omega),qV hi ⟨_,acc++[ea],rfl,hI',by simp;omega,M6.put (o:=.lst (ws++[v])) hl g6 hpP,g6,aa,?_⟩⟩;rw[aL];exact Paired.app (Paired.mapP d6 fun v x r=>by
    cases x with
    |im a=>exact r
    |no=>exact eW
    |lc n=>exact r
    |pn =>
     obtain⟨p,c,o,z1,z2,z3,z4⟩:=r;refine⟨p,c,o,z1,z2,z3,?_⟩;have z2':m6.P p:=z2;have z3':m6.G c=some o:=z3;exact(show eg m6.H p c from z4).upd (fun z=>by rw[z]at z2';exact nP3 ((R6.fr.pp l).mpr z2')) (fun z=>by rw[z,g6]at z3';cases z3')) (.cons R6.top .nil)
  |false =>
   refine bj ?_;obtain⟨m6,rfl,R6⟩:=a5;obtain⟨M6,g6,e6,d6⟩:=step R6.fr R6.wf;exact qV hi ⟨{ m6 with ad:=m3.ad },acc,rfl,(if_neg nofun).mp h5,by omega,M6,g6,e6,d6⟩
end
structure AE where
 nx:List Sl->SH->Prop
 rt:Sl->SH->Prop
 bk:List Sl->SH->Prop:=fun _ _=>False
 ct:List Sl->SH->Prop:=fun _ _=>False
structure Le(De:jt)(D:AE)(B:Bs)(T:List AV)(vs:List V):Prop where
 nx:∀s h σ H,D.nx s h->A B s h (T.map .im) σ vs H->De.nx σ H
 rt:∀x h v H,D.rt x h->A B [] h [x] [] [v] H->De.rt v H
 bk:∀s h σ H,D.bk s h->A B s h (T.map .im) σ vs H->De.bk σ H
 ct:∀s h σ H,D.ct s h->A B s h (T.map .im) σ vs H->De.ct σ H
def SS(s:List Sl)(h:SH)(t:TS)(D:AE):Prop:=∀B (T:List AV) σ vs H De,(∀a,¬B.R a)->A B s h (T.map .im) σ vs H->Le De D B T vs->t De σ H
theorem A.only{B:Bs}{s:List Sl}{h:SH}{T:List Sl}{σ:L2.St}{vs:List V}{H:Hp}{x:Sl}{v:V}(a:A B s h (x::T) σ (v::vs) H):A B [] h [x] [] [v] H:=by
 obtain⟨m,e,R⟩:=a;exact⟨m,e,R.fr,R.wf,rfl,fun i x h=>by simp at h,.cons R.top .nil⟩
section
variable{K:Za}{s:List Sl}{h:SH}{D:AE}{te:TE}{t u:TS}
theorem cE(q:SS s h t { D with nx:=fun s' h'=>SS s' h' u D }):SS s h (au t u) D:=fun B T σ vs H De r a l=>q B T σ vs H _ r a ⟨fun s' h' σ' H' q' a'=>q' B T σ' vs H' De r a' l,l.rt,l.bk,l.ct⟩
theorem fj(q:D.nx s h):SS s h bp D:=fun B T σ vs H De r a l=>l.nx s h σ H q a
theorem h_(q:EV s h te D.rt):SS s h (ba te) D:=fun B T σ vs H De r a l=>q B _ σ vs H _ a fun x v h1 H1 q1 a1=>l.rt x h1 v H1 q1 a1.only
theorem d4{c:TT}(q:ET s h c fun b h1=>if b=true then SS s h1 t D else SS s h1 u D):SS s h (bX c t u) D:=by
 intro B T σ vs H De r a l;refine q B _ σ vs H _ a fun b h1 H1 q1 a1=>?_;cases b with
 |true=>exact bY ((if_pos rfl).mp q1 B T σ vs H1 De r a1 l)
 |false=>exact bj ((if_neg nofun).mp q1 B T σ vs H1 De r a1 l)
end
def Ao(n:Nat)(PRE:List Sl->SH->(Sl->SH->Prop)->Prop):Sp:=fun vs H Q _=>∃xs h φ m,xs.length=n/\m.H=H/\(∀n c,(n,c)∈h->1000<=n)/\Wf m h/\nF m h vs xs/\PRE xs h φ/\Fin m h Q φ
theorem cn_h{n:Nat}{PRE:List Sl->SH->(Sl->SH->Prop)->Prop}{xs:List Sl}{h:SH}{φ:Sl->SH->Prop}(q:PRE xs h φ)(hn:xs.length=n:=by rfl):Cn (Ao n PRE) xs h φ:=fun us m Q E h1 W o f=>⟨xs,h,φ,m,hn,rfl,h1,W,o,q,f⟩
theorem yE{n:Nat}{PRE:List Sl->SH->(Sl->SH->Prop)->Prop}{vs:List V}{H:Hp}{Q:VK}{E:XK}(q:Ao n PRE vs H Q E):vs.length=n:=by
 obtain⟨xs,h,φ,m,hn,_,_,_,hx,_⟩:=q;rw[Paired.length hx,hn]
theorem body{n:Nat}{PRE:List Sl->SH->(Sl->SH->Prop)->Prop}{vs:List V}{H:Hp}{Q:VK}{E:XK}{t:TS}{N:Zb}(q:Ao n PRE vs H Q E)(hb:∀xs h φ,PRE xs h φ->SS (xs++tD (N.length-xs.length) .no) h t ⟨fun _ h'=>φ (.im nv) h',φ,fun _ _=>False,fun _ _=>False⟩):
  t (cp Q) (start N vs) H:=by
 obtain⟨xs,h,φ,m,_,rfl,h1,W,hx,hpre,f⟩:=q;have hl:vs.length=xs.length:=Paired.length hx;refine hb xs h φ hpre (bas m h (h.map fun p=>(p.1,m.ad p.1))) [] (start N vs) [] _ _ (fun _ z=>z) ⟨m,rfl,⟨.refl _,fun _ _ e _ _=>e,fun _ e=>e,fun _ e=>.inl e,fun _ _ _ _ _ e=>e,fun _=>Iff.rfl,fun n c e=>.inr (.inl ⟨n,c,e,rfl⟩),fun n a e=>?_⟩,W,by unfold L2.start;simp[hl],fun i x e=>?_,.nil⟩ ⟨?_,?_,fun _ _ _ _ z=>z.elim,fun _ _ _ _ z=>z.elim⟩
 ·obtain⟨⟨k,c⟩,e1,e2⟩:=bB.mp e;cases e2;exact⟨h1 k c e1,rfl,c,e1⟩
 ·by_cases z:i<xs.length
  ·rw[mj z]at e;obtain⟨v,hv,hk⟩:=Paired.get (R:=fun v x=>Ok m h x v) hx e;refine .inr ⟨v,?_,hk⟩;unfold L2.start;rw[mj (by simpa[hl]using z),cD,hv];rfl
  ·rw[nI (by omega)]at e;exact .inl (List.eq_of_mem_replicate (bT e))
 ·rintro s h' σ H' q ⟨m',rfl,R⟩;exact f (.im nv) .non h' m' q R.fr R.wf rfl
 ·rintro x h' v H' q ⟨m',rfl,R⟩;exact f x v h' m' q R.fr R.wf R.top
theorem ifB{b:Bool}{X Y:Prop}(h1:b=true->X)(h2:b=false->Y):if b=true then X else Y:=by
 cases b with
 |true=>exact bY (h1 rfl)
 |false=>exact bj (h2 rfl)
section
variable{K:Za}{s:List Sl}{h:SH}{φ φ':Sl->SH->Prop}{ψ ψ':Bool->SH->Prop}{ta tb te tl:TE}{g:TG}{tc:TT}{k:Nat}{fi:List Nat}
theorem k4{α β:Type}{xs:List α}{i:Nat}{a:α}(h:xs[i]?=some a)(p:α->Bool)(f:α->β):((xs.take (i+1)).filter p).map f=((xs.take i).filter p).map f++(if p a=true then[f a]else[]):=by
 rw[take_snoc h,lU,aL];by_cases c:p a=true
 ·rw[if_pos c];simp[List.filter,c]
 ·rw[if_neg c];simp[List.filter,c]
def Ag(K:Za)(s:List Sl)(h:SH)(φ:Sl->SH->Prop)(k:Nat)(fi:List Nat)(g:TG)(tc:TT)(te:TE)(α:Type)(xs:List α)(enc:α->AV)(p:α->Bool)(f:α->AV):Prop :=
 xs.length<=1000000/\(∀a∈xs,EG (cS k fi s) h (.im (enc a)) g fun sc h2=>ET sc h2 tc fun b h3=>b=p a/\(p a=true->EV sc h3 te fun y _=>y=.im (f a)))/\z_ K h φ (((xs.filter p).map f).map .im)
theorem sS{α:Type}{xs:List α}{enc:α->AV}{p:α->Bool}{f:α->AV}(q:Ag K s h φ k fi g tc te α xs enc p f):(xs.map enc).length<=1000000/\∃I:Nat->List AV->Prop,I 0 [] /\
  (∀i acc,i<(xs.map enc).length->I i acc->EG (cS k fi s) h (.im (zl (xs.map enc) i)) g fun sc h2=>ET sc h2 tc fun b h3=>if b=true then EV sc h3 te fun y _=>∃a,y=.im a/\I (i+1) (acc++[a])else I (i+1) acc)/\(∀acc,I (xs.map enc).length acc->z_ K h φ (acc.map .im)):=by
 obtain⟨hz,st,fin⟩:=q;refine⟨by rw[ap];exact hz,fun i acc=>acc=((xs.take i).filter p).map f,by simp,fun i acc hi e=>?_,fun acc e=>?_⟩
 ·rw[ap]at hi;have ha:xs[i]?=some xs[i]:=by simp[hi]
  have el:zl (xs.map enc) i=enc xs[i]:=by unfold zl;rw[List.getD_eq_getElem?_getD,cD,ha];rfl
  rw[el];have:=st xs[i] (List.getElem_mem hi);intro B T σ vs v H Q a k;refine this B T σ vs v H Q a fun sc σ' h2 H' q' a'=>k sc σ' h2 H' (fun B T σ vs H Q a k=>q' B T σ vs H Q a fun b h3 H1 ⟨e1,e2⟩ a1=>k b h3 H1 ?_ a1) a';subst e1;by_cases c:p xs[i]=true
  ·rw[if_pos c];intro B T σ vs H Q a k;refine e2 c B T σ vs H Q a fun y v h4 H1 ey a1=>k y v h4 H1 ⟨f xs[i],ey,?_⟩ a1;show acc++[f xs[i]]=((xs.take (i+1)).filter p).map f;rw[e,k4 ha,if_pos c]
  ·rw[if_neg c];show acc=((xs.take (i+1)).filter p).map f;rw[e,k4 ha,if_neg c,iX]
 ·have e':acc=((xs.take (xs.map enc).length).filter p).map f:=e;rw[ap,cY]at e';rw[e'];exact fin
end
def ln(K:Za):TS :=
 ba (cJ (cF K) (aJ (nc K V0 "own_doors")))
def lD:List Str:=["self"]
def qC(K:Za)(sp_law_same:Sp):TS :=
 au (bX (tB (uP V1)) (ba (uP V0)) (bp))
 (au (bX (tB (cJ (fo K) (aK V1 (tC (.ty "bool"))))) (ba (gV (cJ (fo K) (aK V0 (tC (.ty "bool")))) (aI (pc K) V0 V1))) (bp))
 (au (bX (tB (cJ (fo K) (aK V1 (tC (.ty "str"))))) (ba (gV (cJ (fo K) (aK V0 (tC (.ty "str")))) (aI (pc K) V0 V1))) (bp))
 (au (bX (tB (cJ (fo K) (aK V1 (tC (.ty "int"))))) (ba (gV (cJ (fo K) (aK V0 (tC (.ty "int")))) (gV (tU (cJ (fo K) (aK V0 (tC (.ty "bool"))))) (aI (pc K) V0 V1)))) (bp))
 (au (bX (sh (tB (cJ (fo K) (aK V1 (tC (.ty "tuple"))))) (ke (tB (cJ (fo K) (aK V0 (tC (.ty "tuple"))))))) (ba (tC (.bl false))) (bp))
 (au (bX (sh (tB (cJ (fo K) (aK V1 (tC (.ty "list"))))) (ke (tB (cJ (fo K) (aK V0 (tC (.ty "list"))))))) (ba (tC (.bl false))) (bp))
 (au (bX (bV (aI yY (cJ (fE K) (aJ V0)) (cJ (fE K) (aJ V1)))) (ba (tC (.bl false))) (bp))
 (ba (cJ (uX K) (ay (b9 2 [] (oh K (aK V0 V1)) (kq K 2 (cu U0 (cu U1 (jS)))) (fC) (a_ sp_law_same (aK V0 V1))) bG)))))))))
def k9:List Str:=["found","due"]
theorem zq{G:Hp}{bs:List Bool}:∀{us:List V},Paired (fun v (x:AV)=>x.p G v) us (bs.map bv)->us=bs.map V.bl:=by
 induction bs with
 |nil=>intro us r;cases r;rfl
 |cons b bs ih =>
  intro us r;cases r with
  |cons r1 r2 =>
   have r1':_=V.bl b:=r1;rw[r1',ih r2];rfl
section
variable{K:Za}{s:List Sl}{h:SH}{φ:Sl->SH->Prop}{ta tb te:TE}
def tyD:DT->String
 |.k (.inl _)=>"int"
 |.k (.inr _)=>"str"
 |.t _=>"tuple"
 |.s _=>"list"
theorem bW{c:String}(q:EV s h te fun x h1=>∃d b,x=jY K d/\qj K (.type (tyD d)) (.type c)=some b/\φ (.im (bv b)) h1):EV s h (cJ (fo K) (ay te (aJ (tC (.ty c))))) φ:=by
 intro B T σ vs H Q a k;refine q B T σ vs H _ a fun x u h1 H1 ⟨d,b,e,hb,q1⟩ a1=>?_;subst e;obtain⟨m,rfl,R⟩:=a1;have o:DR K m.G d u:=R.top;refine⟨u,c,.type (tyD d),b,rfl,?_,hb,k _ _ h1 _ q1 (R.drop.push rfl)⟩;cases d with
 |k a =>
  unfold DR at o;subst o;cases a with
  |inl i=>exact .inl (jl.int i)
  |inr i=>exact .inl (jl.str i)
 |t l=>unfold DR at o;obtain⟨a,us,rfl,g,_⟩:=o;exact .inr (.inl ⟨a,us,rfl,rfl,bM.same R.wf.s g⟩)
 |s l=>unfold DR at o;obtain⟨a,us,rfl,g,_⟩:=o;exact .inr (.inr ⟨a,us,rfl,rfl,aB.of (R.wf.s _ _ g)⟩)
theorem zj(q:EV s h te fun x h1=>∃bs:List Bool,x=.im (lv (bs.map bv))/\φ (.im (bv (bs.all id))) h1):EV s h (cJ (uX K) (ay te bG)) φ:=by
 intro B T σ vs H Q a k;refine q B T σ vs H _ a fun x u h1 H1 ⟨bs,e,c⟩ a1=>?_;subst e;obtain⟨m,rfl,R⟩:=a1;obtain⟨p,us,rfl,g,r⟩:=(show(lv (bs.map bv)).p m.G u from R.top);have:=zq r;subst this;exact⟨p,bs,rfl,aB.of (R.wf.s _ _ g),k _ _ h1 _ c (R.drop.push rfl)⟩
def nZ(K:Za)(x:DT×DT):AV:=tv [dv K x.1,dv K x.2]
theorem zm{Θ:Nat->(Nat->AV)->SH->Prop}(q:EV s h ta fun x h1=>EV s h1 tb fun y h2=>∃ds es:List DT,((x=jY K (.s ds)/\y=jY K (.s es))∨(x=jY K (.t ds)/\y=jY K (.t es)))/\ds.length=es.length/\Θ ((ds.zip es).map (nZ K)).length (zl ((ds.zip es).map (nZ K))) h2):EI s h (oh K (ay ta (ay tb bG))) Θ:=by
 intro B T σ vs H R a k;refine q B T σ vs H _ a fun x u h1 H1 q1 a1=>q1 B _ σ _ H1 _ a1 fun y v h2 H2 ⟨ds,es,hxy,hl,c⟩ a2=>?_;obtain⟨m,rfl,R2⟩:=a2;have R3:=R2.drop.drop;have nz:((ds.zip es).map (nZ K)).length=ds.length:=by rw[ap,List.length_zip,<-hl,Nat.min_self]
 have elat:∀{i:Nat}{d e:DT},ds[i]?=some d->es[i]?=some e->zl ((ds.zip es).map (nZ K)) i=nZ K (d,e):=fun{i d e} h1 h2=>by
  unfold zl;rw[List.getD_eq_getElem?_getD,cD,(List.getElem?_zip_eq_some (z:=(d,e))).mpr ⟨h1,h2⟩];rfl
 have yl:∀{us ws:List V},DRs K m.G ds us->DRs K m.G es ws->∀(i:Nat) (m2:Mp) (hh:SH) (p:Addr) (a b:V),i<ds.length->aj m.G m2.G->aj m2.G m2.H->m2.H p=none->us[i]?=some a->ws[i]?=some b->∃m3:Mp,m3.H=upd m2.H p (.tup [a,b])/\Mv m2 hh m3 hh/\(zl ((ds.zip es).map (nZ K)) i).p m3.G (.ref p):=by
  intro us ws q1 q2 i m2 hh p a b hi s1 s2 hp ha hb;obtain⟨d,hd,o1⟩:=q1.getL ha;obtain⟨e,he,o2⟩:=q2.getL hb;rw[elat hd he];refine⟨_,rfl,Mv.new (o:=.tup [a,b]) s2 hp,p,[a,b],rfl,aa,?_⟩;have S:=s1.trans (aj.new (o:=.tup [a,b]) (s2.free hp));exact .cons (DR.same S o1) (.cons (DR.same S o2) .nil)
 rcases hxy with⟨rfl,rfl⟩|⟨rfl,rfl⟩
 ·have o1:DR K m.G (.s ds) u:=R2.drop.top;have o2:DR K m.G (.s es) v:=R2.top;unfold DR at o1 o2;obtain⟨b1,us,rfl,g1,q1⟩:=o1;obtain⟨b2,ws,rfl,g2,q2⟩:=o2;have l1:=q1.len;have l2:=q2.len;refine⟨b1,b2,rfl,.inl ⟨⟨us,aB.of (R3.wf.s _ _ g1)⟩,⟨ws,aB.of (R3.wf.s _ _ g2)⟩,k _ _ _ h2 m c R3 ⟨fun i G2 H2 hi s1 s2=>?_,fun G2 H2 s1 s2=>?_,fun i m2 hh x H3 hi s1 s2 y=>?_⟩⟩⟩
  ·rw[nz]at hi;exact⟨us,ws,us[i],ws[i],aB.of (s2 _ _ (s1 _ _ g1)),aB.of (s2 _ _ (s1 _ _ g2)),by simp[l1,hi],by simp[l2,<-hl,hi]⟩
  ·exact⟨us,ws,aB.of (s2 _ _ (s1 _ _ g1)),aB.of (s2 _ _ (s1 _ _ g2)),.inl (by rw[nz];omega)⟩
  ·obtain⟨p,a,b,rfl,hp,ha,hb,rfl⟩:=y;rw[nz]at hi;exact yl q1 q2 i m2 hh p a b hi s1 s2 hp (ha us (aB.of (s2 _ _ (s1 _ _ g1)))) (hb ws (aB.of (s2 _ _ (s1 _ _ g2))))
 ·have o1:DR K m.G (.t ds) u:=R2.drop.top;have o2:DR K m.G (.t es) v:=R2.top;unfold DR at o1 o2;obtain⟨b1,us,rfl,g1,q1⟩:=o1;obtain⟨b2,ws,rfl,g2,q2⟩:=o2;have l1:=q1.len;have l2:=q2.len;refine⟨b1,b2,rfl,.inr ⟨⟨us,bM.same R3.wf.s g1⟩,⟨ws,bM.same R3.wf.s g2⟩,k _ _ _ h2 m c R3 ⟨fun i G2 H2 hi s1 s2=>?_,fun G2 H2 s1 s2=>?_,fun i m2 hh x H3 hi s1 s2 y=>?_⟩⟩⟩
  ·rw[nz]at hi;exact⟨us,ws,us[i],ws[i],bM.same (s1.trans s2) g1,bM.same (s1.trans s2) g2,by simp[l1,hi],by simp[l2,<-hl,hi]⟩
  ·exact⟨us,ws,bM.same (s1.trans s2) g1,bM.same (s1.trans s2) g2,.inl (by rw[nz];omega)⟩
  ·obtain⟨p,a,b,rfl,hp,ha,hb,rfl⟩:=y;rw[nz]at hi;exact yl q1 q2 i m2 hh p a b hi s1 s2 hp (ha us (bM.same (s1.trans s2) g1)) (hb ws (bM.same (s1.trans s2) g2))
end
mutual
def DT.sm:DT->Bool
 |.k _=>true
 |.t l=>decide (l.length<=1000000) && DT.sms l
 |.s l=>decide (l.length<=1000000) && DT.sms l
def DT.sms:List DT->Bool
 |[]=>true
 |a::r=>DT.sm a && DT.sms r
end
theorem tW:∀{l:List DT}{d:DT},DT.sms l=true->d∈l->DT.sm d=true
 |a::r,d,h,e=>by
  have h':(DT.sm a && DT.sms r)=true:=h;rw[iZ]at h';rcases bf.mp e with e|e
  ·rw[e];exact h'.1
  ·exact tW h'.2 e
def fm(K:Za)(n:Nat):Sp:=Ao 2 fun xs h φ=>h=[]/\∃d e,xs=[jY K d,jY K e]/\d.depth<=n/\e.depth<=n/\n<=8/\DT.sm d=true/\φ (.im (bv (decide (d=e)))) []
theorem tQ:∀{ds es:List DT},ds.length=es.length->((ds.zip es).map fun x=>decide (x.1=x.2)).all id=decide (ds=es)
 |[],[],_=>rfl
 |[],_::_,e=>by cases e
 |_::_,[],e=>by cases e
 |d::ds,e::es,hl=>by
  rw[List.zip_cons_cons,aN,List.all_cons,tQ (by simpa using hl)];rw[kL,iZ];show(decide (d=e)=true/\_)↔_;rw[decide_eq_true_iff,decide_eq_true_iff,decide_eq_true_iff];exact⟨fun⟨a,b⟩=>by rw[a,b],fun z=>by injection z with a b;exact⟨a,b⟩⟩
theorem k7{n:Nat}{l:List DT}{d:DT}(h:DT.depths l<=n)(e:d∈l):d.depth<=n:=by
 obtain⟨i,hi,rfl⟩:=List.getElem_of_mem e;exact mM h (oA hi)
theorem nU{K:Za}{n:Nat}{sp:Sp}(hsp:∀m,n=m+1->sp=fm K m){φ:Sl->SH->Prop}{ds es:List DT}{d e:DT}(hde:(d=.s ds/\e=.s es)∨(d=.t ds/\e=.t es))(h1:DT.depths ds+1<=n)(h2:DT.depths es+1<=n)(h8:n<=8)(hs:ds.length<=1000000/\DT.sms ds=true)(c:φ (.im (bv (decide (ds=es)))) []):
  SS [jY K d,jY K e] [] (au (bX (bV (aI yY (cJ (fE K) (aJ V0)) (cJ (fE K) (aJ V1)))) (ba (tC (.bl false))) (bp)) (ba (cJ (uX K) (ay (b9 2 [] (oh K (aK V0 V1)) (kq K 2 (cu U0 (cu U1 (jS)))) (fC) (a_ sp (aK V0 V1))) bG)))) ⟨fun _ h'=>φ (.im nv) h',φ,fun _ _=>False,fun _ _=>False⟩:=by
 have iv:∃b,wS K [] (jY K d) b (ds.map (jY K))/\wS K [] (jY K e) b (es.map (jY K)):=by
  rcases hde with⟨rfl,rfl⟩|⟨rfl,rfl⟩
  ·exact⟨true,.s,.s⟩
  ·exact⟨false,.t,.t⟩
 obtain⟨b,i1,i2⟩:=iv;obtain⟨k,rfl⟩:∃k,n=k+1:=⟨n-1,by omega⟩;have e1:=hsp k rfl;subst e1;refine cE <| d4 <| xV <| zh (K:=K) <| wx <| aV rfl ⟨_,_,i1,wx <| aV rfl ⟨_,_,i2,_,_,rfl,rfl,_,rfl,?_⟩⟩;rw[ap,ap];refine ifB (fun z=>?_) (fun z=>?_)
 ·refine h_ <| rk ?_;have:decide (ds=es)=false:=zzr0 fun y=>by rw[y]at z;simp at z
  rw[this]at c;exact c
 ·have hl':(ds.length:Int)=es.length:=by simpa using z
  have hl:ds.length=es.length:=by omega
  refine fj <| h_ <| zj <| xT (K:=K) <| zm (K:=K) <| aV rfl <| aV rfl ⟨ds,es,?_,hl,sS (xs:=ds.zip es) (p:=fun _=>true) (f:=fun x=>bv (decide (x.1=x.2))) ⟨?_,fun x hx=>?_,.inr (.inl ⟨(ds.zip es).map fun x=>bv (decide (x.1=x.2)),?_,(ds.zip es).map fun x=>decide (x.1=x.2),?_,?_⟩)⟩⟩
  ·rcases hde with⟨rfl,rfl⟩|⟨rfl,rfl⟩
   ·exact .inl ⟨rfl,rfl⟩
   ·exact .inr ⟨rfl,rfl⟩
  ·rw[List.length_zip];omega
  ·obtain⟨x1,x2⟩:=x;have m1:=(qh hx).1;have m2:=(qh hx).2;refine xX (K:=K) .w rfl <| rp <| uk <| rp <| uk <| xW <| zk ⟨rfl,fun _=>?_⟩;refine xU (K:=K) <| ul <| aV rfl <| ul <| aV rfl <| zn ⟨by simp[plain],Cn.imp (cn_h (φ:=fun r _=>r=.im (bv (decide (x1=x2)))) ⟨rfl,x1,x2,rfl,k7 (by omega) m1,k7 (by omega) m2,by omega,tW hs.2 m1,rfl⟩) fun r h' e=>.inl ⟨_,e,e⟩⟩
  ·have fl:(ds.zip es).filter (fun _=>true)=ds.zip es:=List.filter_eq_self.mpr fun _ _=>rfl;rw[fl];generalize(ds.zip es).map (fun x=>bv (decide (x.1=x.2)))=L
   induction L with
   |nil=>exact .nil
   |cons a L ih=>exact .cons ih
  ·rw[j1];rfl
  ·rw[tQ hl];exact c
theorem qM{K:Za}{n:Nat}{sp:Sp}(hsp:∀m,n=m+1->sp=fm K m){vs:List V}{H:Hp}{Q:VK}{E:XK}(q:fm K n vs H Q E):qC K sp (cp Q) (start k9 vs) H:=by
 refine body q ?_;rintro _ _ φ ⟨rfl,d,e,rfl,h1,h2,h8,hs,c⟩;refine cE <| d4 <| gJ <| zi <| aV rfl ⟨_,.d,_,rfl,bj <| fj ?_⟩;have no:¬d=e->φ (.im (bv false)) []:=fun z=>by rw[zzr0 z]at c;exact c
 cases e with
 |k a =>
  cases a with
  |inl i =>
   refine cE <| d4 <| gJ <| bW <| aV rfl ⟨_,false,rfl,rfl,_,rfl,bj <| fj ?_⟩;refine cE <| d4 <| gJ <| bW <| aV rfl ⟨_,false,rfl,rfl,_,rfl,bj <| fj ?_⟩;refine cE <| d4 <| gJ <| bW <| aV rfl ⟨_,true,rfl,rfl,_,rfl,bY <| h_ <| pL <| bW <| aV rfl ?_⟩;cases d with
   |k b =>
    cases b with
    |inl j=>exact⟨_,true,rfl,rfl,_,rfl,bY <| pL <| xS <| bW <| aV rfl ⟨_,false,rfl,rfl,_,rfl,_,rfl,bY <| wz <| aV rfl <| aV rfl ⟨_,_,.d,.d,cj _,cj _,c⟩⟩⟩
    |inr j=>exact⟨_,false,rfl,rfl,_,rfl,bj <| no nofun⟩
   |t l=>exact⟨_,false,rfl,rfl,_,rfl,bj <| no nofun⟩
   |s l=>exact⟨_,false,rfl,rfl,_,rfl,bj <| no nofun⟩
  |inr i =>
   refine cE <| d4 <| gJ <| bW <| aV rfl ⟨_,false,rfl,rfl,_,rfl,bj <| fj ?_⟩;refine cE <| d4 <| gJ <| bW <| aV rfl ⟨_,true,rfl,rfl,_,rfl,bY <| h_ <| pL <| bW <| aV rfl ?_⟩;cases d with
   |k b =>
    cases b with
    |inl j=>exact⟨_,false,rfl,rfl,_,rfl,bj <| no nofun⟩
    |inr j=>exact⟨_,true,rfl,rfl,_,rfl,bY <| wz <| aV rfl <| aV rfl ⟨_,_,.d,.d,cj _,cj _,c⟩⟩
   |t l=>exact⟨_,false,rfl,rfl,_,rfl,bj <| no nofun⟩
   |s l=>exact⟨_,false,rfl,rfl,_,rfl,bj <| no nofun⟩
 |t le =>
  refine cE <| d4 <| gJ <| bW <| aV rfl ⟨_,false,rfl,rfl,_,rfl,bj <| fj ?_⟩;refine cE <| d4 <| gJ <| bW <| aV rfl ⟨_,false,rfl,rfl,_,rfl,bj <| fj ?_⟩;refine cE <| d4 <| gJ <| bW <| aV rfl ⟨_,false,rfl,rfl,_,rfl,bj <| fj ?_⟩;refine cE <| d4 <| pM <| gJ <| bW <| aV rfl ⟨_,true,rfl,rfl,_,rfl,bY <| wA <| gJ <| bW <| aV rfl ?_⟩;cases d with
  |k b=>cases b<;>exact⟨_,false,rfl,rfl,_,rfl,bY <| h_ <| rk <| no nofun⟩
  |s l=>exact⟨_,false,rfl,rfl,_,rfl,bY <| h_ <| rk <| no nofun⟩
  |t ld =>
   refine⟨_,true,rfl,rfl,_,rfl,bj <| fj <| cE <| d4 <| pM <| gJ <| bW <| aV rfl ⟨_,false,rfl,rfl,_,rfl,bj <| bj <| fj ?_⟩⟩;have r:=nU (K:=K) (φ:=φ) (ds:=ld) (es:=le) hsp (.inr ⟨rfl,rfl⟩) h1 h2 h8 ?_ ?_
   ·exact r
   ·have:(decide (ld.length<=1000000) && DT.sms ld)=true:=hs;rw[iZ]at this;exact⟨of_decide_eq_true this.1,this.2⟩
   ·have:decide (DT.t ld=DT.t le)=decide (ld=le):=by
     rw[kL,decide_eq_true_iff,decide_eq_true_iff];exact⟨fun z=>by injection z,fun z=>by rw[z]⟩
    rw[this]at c;exact c
 |s le =>
  refine cE <| d4 <| gJ <| bW <| aV rfl ⟨_,false,rfl,rfl,_,rfl,bj <| fj ?_⟩;refine cE <| d4 <| gJ <| bW <| aV rfl ⟨_,false,rfl,rfl,_,rfl,bj <| fj ?_⟩;refine cE <| d4 <| gJ <| bW <| aV rfl ⟨_,false,rfl,rfl,_,rfl,bj <| fj ?_⟩;refine cE <| d4 <| pM <| gJ <| bW <| aV rfl ⟨_,false,rfl,rfl,_,rfl,bj <| bj <| fj ?_⟩;refine cE <| d4 <| pM <| gJ <| bW <| aV rfl ⟨_,true,rfl,rfl,_,rfl,bY <| wA <| gJ <| bW <| aV rfl ?_⟩;cases d with
  |k b=>cases b<;>exact⟨_,false,rfl,rfl,_,rfl,bY <| h_ <| rk <| no nofun⟩
  |t l=>exact⟨_,false,rfl,rfl,_,rfl,bY <| h_ <| rk <| no nofun⟩
  |s ld =>
   refine⟨_,true,rfl,rfl,_,rfl,bj <| fj ?_⟩;have r:=nU (K:=K) (φ:=φ) (ds:=ld) (es:=le) hsp (.inl ⟨rfl,rfl⟩) h1 h2 h8 ?_ ?_
   ·exact r
   ·have:(decide (ld.length<=1000000) && DT.sms ld)=true:=hs;rw[iZ]at this;exact⟨of_decide_eq_true this.1,this.2⟩
   ·have:decide (DT.s ld=DT.s le)=decide (ld=le):=by
     rw[kL,decide_eq_true_iff,decide_eq_true_iff];exact⟨fun z=>by injection z,fun z=>by rw[z]⟩
    rw[this]at c;exact c
def z7(r:Zb):Prop:=r.length<=151/\∀w∈r,w.length<=8
def pN(d:av):List Str:=d.a::d.sg++[d.b]
section
variable{asks says rooms:Zb}{ds:List av}
theorem bO.door(m:bO asks says rooms ds){d:av}(hd:d∈ds):z7 (pN d):=by
 obtain⟨a,b,sg⟩:=m.good d hd;have nm:∀{w ws},dZ ws->w∈ws->w.length<=8:=fun h e=>(h.2 _ e).hi;have h1:=nm m.okR a;have h2:=nm m.okR b;unfold pN;rcases sg with⟨w,hw,e⟩|⟨w,hw,e⟩|e
 ·rw[e];have h3:=nm m.okA hw;refine⟨by simp,fun x hx=>?_⟩;have hx':x=d.a∨x=("ask":Str)∨x=w∨x=d.b:=by simpa using hx
  rcases hx' with rfl|rfl|rfl|rfl
  ·exact h1
  ·decide +kernel
  ·exact h3
  ·exact h2
 ·rw[e];have h3:=nm m.okS hw;refine⟨by simp,fun x hx=>?_⟩;have hx':x=d.a∨x=("say":Str)∨x=w∨x=d.b:=by simpa using hx
  rcases hx' with rfl|rfl|rfl|rfl
  ·exact h1
  ·decide +kernel
  ·exact h3
  ·exact h2
 ·rw[e];refine⟨by unfold bb;simp,fun x hx=>?_⟩;have hx':x=d.a∨x=("still":Str)∨x=d.b:=by unfold bb at hx;simpa using hx
  rcases hx' with rfl|rfl|rfl
  ·exact h1
  ·decide +kernel
  ·exact h2
end
def mz(C:Addr):Sp:=fun vs H Q _=>∃(x dx o4:Addr) (fs:List (Str×V)) (ts:Ze),vs=[.ref x]/\H x=some (.ins C dx fs)/\lk "own_doors" fs=some (.ref o4)/\H o4=some (.lst (ts.map V.ref))/\∀l,H l=none->Q (.ref l) (upd H l (.lst (ts.map V.ref)))
theorem vV{K:Za}{C:Addr}(M:MC K C){vs:List V}{H:Hp}{Q:VK}{E:XK}(h:mz C vs H Q E):ln K (cp Q) (start lD vs) H:=by
 obtain⟨x,dx,o4,fs,ts,rfl,g1,b4,a4,k⟩:=h;exact⟨_,rfl,x,C,dx,fs,.ref o4,rfl,g1,M.cls,M.a4,b4,.inl ⟨o4,_,rfl,.inl (aB.of a4),k⟩⟩
structure XC(K:Za)(Cx:Addr):Prop where
 cls:XCls K Cx
 p:cR K Cx "part"
 n:cR K Cx "number"
 self:PySem.W.exmOne K (.ref Cx) (.ref Cx)=some true
structure Few(asks says rooms:Zb)(ds:List av):Prop where
 a:asks.length<=100
 s:says.length<=100
 r:rooms.length<=900
 d:ds.length<=9000
 wa:∀w∈asks,w.length<=1000
 ws:∀w∈says,w.length<=1000
 wr:∀w∈rooms,w.length<=1000
theorem bO.few'{asks says rooms:Zb}{ds:List av}(m:bO asks says rooms ds):Few asks says rooms ds :=
 ⟨by have:=m.asks4;omega,by have:=m.says4;omega,by have:=m.rooms26;omega,by have:=m.few;omega,eS m.okA,eS m.okS,eS m.okR⟩
def dQ(asks says rooms:Zb)(ds:List av):List DT:=[.s (asks.map dF),.s (says.map dF),.s (rooms.map dF),.s (ds.map iu)]
theorem jU(asks says rooms:Zb)(ds:List av):DT.depths (dQ asks says rooms ds)<=3:=by
 have h:DT.depths (ds.map iu)<=2:=by
  induction ds with
  |nil=>exact cj _
  |cons x xs ih=>rw[aN];show max (DT.depth (iu x)) (DT.depths _)<=2;rw[lO];omega
 unfold dQ;show max (DT.depths (asks.map dF)+1) (max (DT.depths (says.map dF)+1) (max (DT.depths (rooms.map dF)+1) (max (DT.depths (ds.map iu)+1) 0)))<=3;rw[gp,gp,gp];omega
theorem Lists.dIns{K:Za}{H:Hp}{l1 l2 l3 l4:Addr}{ts:Ze}{asks says rooms:Zb}{ds:List av}(L:Lists H l1 l2 l3 l4 ts asks says rooms ds):DIns K H (dQ asks says rooms ds) [.ref l1,.ref l2,.ref l3,.ref l4]:=by
 unfold dQ;unfold DIns;refine⟨_,_,rfl,by unfold fG;exact⟨l1,_,rfl,aB.of L.a1,kr _⟩,?_⟩;unfold DIns;refine⟨_,_,rfl,by unfold fG;exact⟨l2,_,rfl,aB.of L.a2,kr _⟩,?_⟩;unfold DIns;refine⟨_,_,rfl,by unfold fG;exact⟨l3,_,rfl,aB.of L.a3,kr _⟩,?_⟩;unfold DIns;refine⟨_,_,rfl,by unfold fG;exact⟨l4,_,rfl,aB.of L.a4,L.ds.dIns⟩,?_⟩;unfold DIns
 rfl
theorem Lists.dIn{K:Za}{H:Hp}{r l1 l2 l3 l4:Addr}{ts:Ze}{asks says rooms:Zb}{ds:List av}(L:Lists H l1 l2 l3 l4 ts asks says rooms ds)(h:H r=some (.lst [.ref l1,.ref l2,.ref l3,.ref l4])):fG K H (.s (dQ asks says rooms ds)) (.ref r):=by
 unfold fG;exact⟨r,_,rfl,aB.of h,L.dIns⟩
theorem Lists.dr{K:Za}{H:Hp}{r l1 l2 l3 l4:Addr}{ts:Ze}{asks says rooms:Zb}{ds:List av}(L:Lists H l1 l2 l3 l4 ts asks says rooms ds)(h:H r=some (.lst [.ref l1,.ref l2,.ref l3,.ref l4])):DR K H (.s (dQ asks says rooms ds)) (.ref r):=by
 unfold DR;refine⟨r,_,rfl,h,?_⟩;unfold dQ;unfold DRs;refine⟨_,_,rfl,by unfold DR;exact⟨l1,_,rfl,L.a1,ir _⟩,?_⟩;unfold DRs;refine⟨_,_,rfl,by unfold DR;exact⟨l2,_,rfl,L.a2,ir _⟩,?_⟩;unfold DRs;refine⟨_,_,rfl,by unfold DR;exact⟨l3,_,rfl,L.a3,ir _⟩,?_⟩;unfold DRs;refine⟨_,_,rfl,by unfold DR;exact⟨l4,_,rfl,L.a4,iH L.ds⟩,?_⟩;unfold DRs
 rfl
theorem yS:∀ws:List Str,DT.sms (ws.map dF)=true
 |[]=>rfl
 |w::ws=>by
  rw[aN];show(DT.sm (dF w) && DT.sms (ws.map dF))=true;rw[yS ws];rfl
theorem smS{ws:Zb}(h:ws.length<=1000000):DT.sm (.s (ws.map dF))=true:=by
 show(decide ((ws.map dF).length<=1000000) && DT.sms (ws.map dF))=true;rw[yS,ap,zzr1 h];rfl
theorem smG{ws:Zb}(h:ws.length<=1000000):DT.sm (.t (ws.map dF))=true:=by
 show(decide ((ws.map dF).length<=1000000) && DT.sms (ws.map dF))=true;rw[yS,ap,zzr1 h];rfl
theorem yT:∀{ds:List av},(∀d∈ds,d.sg.length<=1000000)->DT.sms (ds.map iu)=true
 |[],_=>rfl
 |d::ds,h=>by
  rw[aN];show(DT.sm (iu d) && DT.sms (ds.map iu))=true;rw[yT fun x hx=>h x (cC _ hx)];have:DT.sm (iu d)=true:=by
   show(decide (3<=1000000) && (DT.sm (dF d.a) && (DT.sm (.t (d.sg.map dF)) && (DT.sm (dF d.b) && true))))=true;rw[smG (h d eG)];rfl
  rw[this];rfl
theorem vO{asks says rooms:Zb}{ds:List av}(F:Few asks says rooms ds)(g:∀d∈ds,d.sg.length<=1000000):DT.sm (.s (dQ asks says rooms ds))=true:=by
 have h1:=F.a;have h2:=F.s;have h3:=F.r;have h4:=F.d;show(decide (4<=1000000) && (DT.sm (.s (asks.map dF)) && (DT.sm (.s (says.map dF)) && (DT.sm (.s (rooms.map dF)) && (DT.sm (.s (ds.map iu)) && true)))))=true;rw[smS (by omega),smS (by omega),smS (by omega)];have:DT.sm (.s (ds.map iu))=true:=by
  show(decide ((ds.map iu).length<=1000000) && DT.sms (ds.map iu))=true;rw[yT g,ap,zzr1 (by omega)];rfl
 rw[this];rfl
structure tj(asks says rooms:Zb)(ds:List av):Prop where
 okA:dZ asks
 okS:dZ says
 apart:∀w∈says,w∉asks
 okR:dZ rooms
 asks0:asks≠[]
 says0:says≠[]
 rooms0:rooms≠[]
 asks4:asks.length<=4
 says4:says.length<=4
 rooms26:rooms.length<=150
 nodup:ds.Nodup
 good:∀d∈ds,wU asks says rooms d
 few:ds.length<=2000
theorem tj.sg0{asks says rooms:Zb}{ds:List av}(m:tj asks says rooms ds){r:Str}:∀d∈aw ds r,d.sg≠[]:=by
 intro d hd;have:=m.good d (jz.mp hd).1;rcases this.sg with⟨w,_,e⟩|⟨w,_,e⟩|e<;>rw[e]<;>exact List.cons_ne_nil _ _
def zv(ds:List av):Prop:=∀d∈ds,d.sg.length=1∨d.sg.length=2
theorem zv.le{ds:List av}(G:zv ds):∀d∈ds,d.sg.length<=1000000:=fun d hd=>by rcases G d hd with z|z<;>rw[z]<;>decide
theorem bO.sg12{asks says rooms:Zb}{ds:List av}(m:bO asks says rooms ds):zv ds:=fun d hd=>by
 rcases(m.good d hd).sg with⟨w,_,e⟩|⟨w,_,e⟩|e<;>rw[e]
 ·exact .inr rfl
 ·exact .inr rfl
 ·exact .inl rfl
def qA(K:Za)(sp_law_same:Sp):TS :=
 au (bX (tB (uP V1)) (ba (uP V0)) (bp))
 (au (bX (tB (cJ (fo K) (aK V1 (tC (.ty "bool"))))) (ba (gV (cJ (fo K) (aK V0 (tC (.ty "bool")))) (aI vA V0 V1))) (bp))
 (au (bX (tB (cJ (fo K) (aK V1 (tC (.ty "str"))))) (ba (gV (cJ (fo K) (aK V0 (tC (.ty "str")))) (aI (pc K) V0 V1))) (bp))
 (au (bX (tB (cJ (fo K) (aK V1 (tC (.ty "int"))))) (ba (gV (cJ (fo K) (aK V0 (tC (.ty "int")))) (gV (tU (cJ (fo K) (aK V0 (tC (.ty "bool"))))) (aI (pc K) V0 V1)))) (bp))
 (au (bX (sh (tB (cJ (fo K) (aK V1 (tC (.ty "tuple"))))) (ke (tB (cJ (fo K) (aK V0 (tC (.ty "tuple"))))))) (ba (tC (.bl false))) (bp))
 (au (bX (sh (tB (cJ (fo K) (aK V1 (tC (.ty "list"))))) (ke (tB (cJ (fo K) (aK V0 (tC (.ty "list"))))))) (ba (tC (.bl false))) (bp))
 (au (bX (bV (aI yY (cJ (fE K) (aJ V0)) (cJ (fE K) (aJ V1)))) (ba (tC (.bl false))) (bp))
 (ba (cJ (uX K) (ay (b9 2 [] (oh K (aK V0 V1)) (kq K 2 (cu U0 (cu U1 (jS)))) (fC) (a_ sp_law_same (aK V0 V1))) bG)))))))))
def ib(K:Za):Sp:=fun vs H Q E=>fm K 4 vs H Q E∨∃b c:Bool,vs=[.bl b,.bl c]/\Q (.bl (decide (V.bl b=V.bl c))) H
theorem vQ{K:Za}{sp:Sp}{vs:List V}{H:Hp}{Q:VK}{b c:Bool}(h:vs=[.bl b,.bl c]/\Q (.bl (decide (V.bl b=V.bl c))) H):qA K sp (cp Q) (start k9 vs) H:=by
 obtain⟨rfl,k⟩:=h;refine⟨_,rfl,_,rfl,?_⟩;rw[zzr0 (show ¬V.bl c=V.non from fun z=>by cases z)];refine bj ⟨_,rfl,_,"bool",.type "bool",true,rfl,.inl (.bl c),rfl,_,rfl,bY ?_⟩;exact⟨_,rfl,_,"bool",.type "bool",true,rfl,.inl (.bl b),rfl,_,rfl,bY ⟨_,rfl,_,rfl,rfl,k⟩⟩
theorem nV{K:Za}{n:Nat}{x y:V}{H:Hp}{Q:VK}{E:XK}{d:DT}(h1:DR K H d x)(h2:DR K H d y)(hd:d.depth<=n)(n8:n<=8)(sm:DT.sm d=true)(k:∀H',aj H H'->Q (.bl true) H'):fm K n [x,y] H Q E:=by
 refine⟨[jY K d,jY K d],[],fun r _=>r=.im (bv true),⟨H,H,fun _=>0,fun _=>False⟩,rfl,rfl,(fun _ _ e=>nomatch e),⟨aj.refl _,(fun _ e=>e.elim),(fun _ _ e=>nomatch e),(fun _ _ _ _ e=>nomatch e),md⟩,.cons h1 (.cons h2 .nil),⟨rfl,d,d,rfl,hd,hd,n8,sm,?_⟩,?_⟩
 ·rw[zzr1 rfl]
 ·intro r v h' m' e w f o;subst e;rw[show v=.bl true from o];exact k _ fun a o q=>w.hh a o q (fun z=>z) (fun z=>by simp[bas]at z)
theorem bO.w{asks says rooms:Zb}{ds:List av}(m:bO asks says rooms ds):tj asks says rooms ds :=
 ⟨m.okA,m.okS,m.apart,m.okR,m.asks0,m.says0,m.rooms0,m.asks4,m.says4,m.rooms26,m.nodup,m.good,by have:=m.few;omega⟩
theorem uY{ds:List av}{r:Str}:cx ds r=decide ((aw ds r).filter (fun d=>!eJ d)=[]):=by
 unfold cx;generalize aw ds r=es;by_cases h:es.filter (fun d=>!eJ d)=[]
 ·rw[zzr1 h,List.all_eq_true];intro d hd;have:=List.filter_eq_nil_iff.mp h d hd;cases q:eJ d with
  |true=>rfl
  |false=>rw[q]at this;exact absurd rfl this
 ·rw[zzr0 h,Bool.eq_false_iff];intro z;refine h (List.filter_eq_nil_iff.mpr fun d hd=>?_);rw[List.all_eq_true.mp z d hd]
  decide
structure P4(H:Hp)(p c f l1 l2 l3 l4:Addr)(ts:Ze)(asks says rooms:Zb)(ds:List av):Prop where
 f:H f=some (.lst [.ref l1,.ref l2,.ref l3,.ref l4])
 L:Lists H l1 l2 l3 l4 ts asks says rooms ds
 pen:eg H p c

open Classical in
def qD(K:Za)(C_Machine:Addr)(sp_Machine_asks:Sp)(sp_Machine_says:Sp)(sp_Machine_rooms:Sp)(sp_Machine_doors:Sp):TS :=
 au (aM (gw (ay (tC .non) (hW (tC .non) (tC .non) (tC .non)))) U2)
 (au (fD (kW (aJ (tC (.int 4)))) U3 (au (aM (aI d7 (aI cU V1 V3) (tC (.int 4))) U4)
 (bX (bV (aI vA V4 (tC (.int 0)))) (aM (gd C_Machine "asks" sp_Machine_asks [] E0 V0 bG) (mK V2 (tC (.int 0)) ic)) (bX (bV (aI vA V4 (tC (.int 1)))) (aM (gd C_Machine "says" sp_Machine_says [] E0 V0 bG) (mK V2 (tC (.int 1)) ic)) (bX (bV (aI vA V4 (tC (.int 2)))) (aM (gd C_Machine "rooms" sp_Machine_rooms [] E0 V0 bG) (mK V2 (tC (.int 2)) ic)) (aM (gd C_Machine "doors" sp_Machine_doors [] E0 V0 bG) (mK V2 (tC (.int 3)) ic)))))))
 (ba V2))
def rG:List Str:=["machine","turn","found","k","at"]
def m_(K:Za)(sp_law_same:Sp)(C_Machine:Addr)(sp_Machine_is_quiet:Sp)(sp_Machine_doors_from:Sp):TS :=
 au (aM (b9 1 [2] (cV K (aI (sw K) V1 (tC (.int 3)))) U0 (bV (aI (pc K) (aI (sw K) V0 (tC (.int 0))) V1)) V0) U4)
 (au (aM (aI (pc K) (b9 1 [] (cV K V4) U0 (bV (aI yY (aI (sw K) (aI (sw K) V0 (tC (.int 1))) (tC (.int 0))) (tC (.str "ask")))) V0) (gw (bG))) U5)
 (au (aM (tC .non) U6)
 (au (bX (bV (aI vA (aI d7 V3 (tC (.int 2))) (tC (.int 0)))) (aM (gd C_Machine "is_quiet" sp_Machine_is_quiet [] E0 V0 (aJ V2)) U6) (bp))
 (au (aM (gd C_Machine "doors_from" sp_Machine_doors_from [] E0 V0 (aJ V2)) U7)
 (au (bX (bV (aI vA (aI d7 V3 (tC (.int 2))) (tC (.int 1)))) (aM (gd C_Machine "is_quiet" sp_Machine_is_quiet [] E0 V0 (aJ V2)) U6) (bp))
 (au (bX (ym (ke (tB (a_ sp_law_same (aK V7 V4)))) (ke (tB (a_ sp_law_same (aK V6 V5))))) (ba (tC (.bl false))) (bp))
 (au (b0 (sf K "list" gf V7))
 (au (b0 (uQ K "list" dh V7 (ay (gb (ay V2 (ay (gb (aK (tC (.str "say")) (aI (cK K) (aI (sw K) V1 (tC (.int 1))) (tC (.int 0))))) (aJ V2)))) bG)))
 (ba (tC (.bl true)))))))))))
def nG:List Str:=["machine","told","room","turn","doors","quiet","first","some"]
def xi(K:Za)(sp_law_room_is:Sp)(sp_law_same:Sp)(sp_law_parts:Sp)(C_Machine:Addr)(sp_Machine_init:Sp)(sp_law_model:Sp)(sp_law_take:Sp)(sp_law_open:Sp):TS :=
 au (aM (a_ sp_law_open (aJ V0)) U1)
 (au (aM (a_ sp_law_take (aK V1 (tC (.int 4)))) U2)
 (au (aM (b9 1 [1] (kW (aJ (tC (.int 2)))) U0 (fC) (a_ sp_law_model (hW V1 (tC (.int 9)) V0))) U3)
 (au (aM (b9 1 [] (cV K V3) U0 (fC) (b9 1 [] (wm K V0) U0 (fC) (cJ (cF K) (aJ V0)))) U4)
 (au (aM (b9 1 [] (cV K V4) U0 (fC) (vM C_Machine sp_Machine_init [] E0 (ay (aI (cK K) V0 (tC (.int 0))) (hW (aI (cK K) V0 (tC (.int 1))) (aI (cK K) V0 (tC (.int 2))) (aI (cK K) V0 (tC (.int 3))))))) U5)
 (au (bX (bV (aI (yX K) V4 (b9 1 [] (cV K V3) U0 (fC) (b9 1 [] (wm K V0) U0 (fC) (cJ (cF K) (aJ V0)))))) (ba (tC (.bl false))) (bp))
 (au (fD (cV K V4) U6 (fD (cV K V6) U7 (au (b0 (sf K "list" gf V7))
 (b0 (uQ K "list" dh V7 (aJ (tC (.str "none"))))))))
 (au (fD (kW (aJ (tC (.int 3)))) U8 (fD (oh K (aK V5 V3)) (kq K 2 (cu U9 (cu U10 (jS)))) (au (aM (a_ sp_law_parts (aK V9 (aI cU V2 V8))) U11)
 (au (bX (ke (tB (a_ sp_law_same (aK z0 (cJ (cF K) (aJ yO)))))) (ba (tC (.bl false))) (bp))
 (au (fD (cV K z0) U7 (au (b0 (sf K "list" gf V7))
 (b0 (uQ K "list" dh V7 (aJ (tC (.str "none")))))))
 (fD (cV K (aI (xB K) yO (tC (.int 2)))) U12 (bX (ke (tB (a_ sp_law_room_is (ay V9 (hW yO At (aI cU V2 V8)))))) (ba (tC (.bl false))) (bp))))))))
 (ba (tC (.bl true))))))))))
def uE:List Str:=["script","pen","start","models","handed","machines","some","part","turn","machine","told","found","room"]
def v3:List Str:=["script"]
inductive iC(C:Addr)(vs:List V)(H:Hp)(Q:VK)(E:XK):Prop
 |mk (x tt l1 l2 l3 l4:Addr) (ts:Ze) (r:Str) (n:Int) (asks says rooms:Zb) (ds:List av):(vs=[.ref x,.ref tt,.str r,.int n])->(cG C H x asks says rooms ds)->(nE H tt l1 l2 l3 l4 ts asks says rooms ds)->(r∈rooms)->(∀H',aj H H'->Q (.bl true) H')->iC C vs H Q E
theorem uT{K:Za}{C:Addr}{vs:List V}{H8:Hp}{Q:VK}{E:XK}(h:iC C vs H8 Q E):m_ K (ib K) C (fK C) (dX C) (cp Q) (start nG vs) H8:=by
 obtain⟨x,tt,l1,l2,l3,l4,ts,r,n,asks,says,rooms,ds,rfl,MA,T,rin,k⟩:=h;have m:=MA.ok;have z4:=m.few;have L8:Lists H8 l1 l2 l3 l4 ts asks says rooms ds:=⟨T.a1,T.a2,T.a3,T.a4,T.ds⟩;refine⟨_,rfl,.inr (.inl ⟨tt,_,3,_,rfl,rfl,bM.of T.t,rfl,l4,rfl,⟨_,aB.of L8.a4⟩,fun f hf=>?_⟩)⟩;refine db (xs:=ts.map V.ref) (fun i vs H'=>∃us:List Addr,vs=us.map V.ref/\bF H' us ((ds.take i).filter fun d=>decide (d.a=r))/\aj H8 H'/\H' f=some (.lst vs)) ⟨[],rfl,.nil,aj.new hf,aa⟩ (fun i vs H' _ ⟨_,_,_,S,h'⟩=>⟨h',aB.of (S _ _ L8.a4)⟩) ?_ ?_;rotate_left
 ·rintro i vs H' x hx hi ⟨us,rfl,D,S,f'⟩;obtain⟨t,ht,rfl⟩:=d5 hx;obtain⟨dr,hdr,hat⟩:=Paired.getL L8.ds ht;obtain⟨s,ht2,hs2⟩:=hat.kt (aj.kt S);refine gN ⟨_,rfl,.inr (.inl ⟨t,_,0,_,rfl,rfl,bM.of ht2,rfl,_,rfl,dF dr.a,dF r,uw _,uw _,cj _,cj _,_,rfl,?_⟩)⟩;rw[x8];refine mI (fun c=>?_) (fun c=>?_)
  ·refine⟨_,rfl,f',?_,qV hi ⟨us++[t],by rw[aL];rfl,?_,?_,aa⟩⟩
   ·rw[ap,Paired.length D];refine br (cn (iY _ _) ?_);rw[be];omega
   ·rw[eM hdr,if_pos c];exact Paired.app (D.kt (fu f')) (.cons ((hat.kt (aj.kt S)).kt (fu f')) .nil)
   ·intro b o q;rw[af (ai q hf)];exact S _ _ q
  ·refine qV hi ⟨us,rfl,?_,S,f'⟩;rw[eM hdr,if_neg c,iX];exact D
 rintro vs H9 ⟨us,rfl,D9,S9,f9⟩;rw[ap,Paired.length L8.ds,cY]at D9;have D9:bF H9 us (aw ds r):=D9;have lus:us.length=(aw ds r).length:=Paired.length D9;have lle:=jh ds r;refine⟨_,rfl,f,rfl,⟨_,aB.of f9⟩,fun g hg=>?_⟩;refine db (xs:=us.map V.ref) (fun i vs H'=>∃ws:List Addr,vs=ws.map V.ref/\bF H' ws (((aw ds r).take i).filter fun d=>!eJ d)/\aj H9 H'/\H' g=some (.lst vs)) ⟨[],rfl,.nil,aj.new hg,aa⟩ (fun i vs H' _ ⟨_,_,_,S,h'⟩=>⟨h',aB.of (S _ _ f9)⟩) ?_ ?_;rotate_left
 ·rintro i vs H' x hx hi ⟨ws,rfl,D,S,g'⟩;obtain⟨t,ht,rfl⟩:=d5 hx;obtain⟨dr,hdr,hat⟩:=Paired.getL D9 ht;obtain⟨s,ht2,hs2⟩:=hat.kt (aj.kt S);have sg0:=m.w.sg0 dr (bT hdr);obtain⟨s0,rest,esg⟩:∃a b,dr.sg=a::b:=by
   cases q:dr.sg with
   |nil=>exact absurd q sg0
   |cons a b=>exact⟨a,b,rfl⟩
  have hs2:H' s=some (.tup ((dr.sg).map V.str)):=hs2;have ia:eJ dr=decide (s0=("ask":Str)):=by unfold eJ;rw[esg]
  refine gN ⟨_,rfl,.inr (.inl ⟨t,_,1,_,rfl,rfl,bM.of ht2,rfl,.inr (.inl ⟨s,_,0,.str s0,rfl,rfl,bM.of hs2,by rw[esg];exact dC (j:=0) rfl,rfl,_,rfl,?_⟩)⟩)⟩;have eb:(!decide (V.str s0=V.str "ask"))=!eJ dr:=by
   rw[ia];by_cases c:s0=("ask":Str)
   ·rw[zzr1 c,zzr1 (by rw[c])]
   ·rw[zzr0 c,zzr0 (fun z=>c (by injection z))]
  rw[eb];refine mI (fun c=>?_) (fun c=>?_)
  ·refine⟨_,rfl,g',?_,qV hi ⟨ws++[t],by rw[aL];rfl,?_,?_,aa⟩⟩
   ·rw[ap,Paired.length D];refine br (cn (iY _ _) ?_);rw[be];omega
   ·rw[eM hdr,if_pos c];exact Paired.app (D.kt (fu g')) (.cons ((hat.kt (aj.kt S)).kt (fu g')) .nil)
   ·intro b o q;rw[af (ai q hg)];exact S _ _ q
  ·refine qV hi ⟨ws,rfl,?_,S,g'⟩;rw[eM hdr,if_neg c,iX];exact D
 rintro vs H10 ⟨ws,rfl,D10,S10,g10⟩;rw[ap,lus,cY]at D10;refine⟨(by show 0<=am;decide),fun q hq=>?_⟩;have S11:aj H10 (upd H10 q (.lst [])):=aj.new hq;have q11:upd H10 q (.lst []) q=some (.lst []):=aa;generalize upd H10 q (.lst [])=H11 at S11 q11 ⊢;have S911:=S10.trans S11;have D11:=D10.kt (aj.kt S11);refine⟨.s (((aw ds r).filter fun d=>!eJ d).map iu),.s [],(by unfold fG;exact⟨g,_,rfl,aB.of (S11 _ _ g10),D11.dIns⟩),(by unfold fG;exact⟨q,_,rfl,aB.of q11,by unfold DIns;rfl⟩),(by show DT.depths _+1<=8;have:=mN ((aw ds r).filter fun d=>!eJ d);omega),(by decide),?_⟩;have eq:decide (DT.s (((aw ds r).filter fun d=>!eJ d).map iu)=DT.s [])=cx ds r:=by
  rw[uY];by_cases c:(aw ds r).filter (fun d=>!eJ d)=[]
  ·rw[zzr1 c,c];rfl
  ·rw[zzr0 c,zzr0 fun z=>c (by injection z with z;exact List.map_eq_nil_iff.mp z)]
 rw[eq];have S711:aj H8 H11:=S9.trans S911;have MA11:=MA.same S711;have f11:=S911 _ _ f9;have D911:=D9.kt (aj.kt S911);obtain⟨dx',fs',g1,e1,e2,e3,e4⟩:=MA11.more;obtain⟨dx'',fs'',_,_,_,_,_,_,_,_,_,_,_,_,g1',a1,a2,a3,a4,_⟩:=MA11.at_;rw[g1]at g1';cases g1';have qv:decide (r∈rooms.filter (cx ds))=cx ds r:=by
  by_cases c:cx ds r=true
  ·rw[c,zzr1 (jz.mpr ⟨rin,c⟩)]
  ·rw[zzr0 fun z=>c (jz.mp z).2,Bool.eq_false_iff.mpr c]
 have T11:=T.same S711;have fin:∀(l:Addr) (us':Ze) (H12:Hp),H12 l=some (.lst (us'.map V.ref))->bF H12 us' (aw ds r)->H11 l=none->aj H11 H12 ->
   (au (bX (ym (ke (tB (a_ (ib K) (aK V7 V4)))) (ke (tB (a_ (ib K) (aK V6 V5))))) (ba (tC (.bl false))) (bp))
   (au (b0 (sf K "list" gf V7))
   (au (b0 (uQ K "list" dh V7 (ay (gb (ay V2 (ay (gb (aK (tC (.str "say")) (aI (cK K) (aI (sw K) V1 (tC (.int 1))) (tC (.int 0))))) (aJ V2)))) bG)))
   (ba (tC (.bl true)))))) (cp Q) [some (.ref x),some (.ref tt),some (.str r),some (.int n),some (.ref f),some (.bl (cx ds r)),some (.bl (decide (r∈rooms.filter (cx ds)))),some (.ref l)] H12:=by
  intro l us' H12 hl hdd fr S12;refine⟨_,rfl,_,rfl,.inl (nV (d:=.s ((aw ds r).map iu)) (by unfold DR;exact⟨l,_,rfl,hl,iH hdd⟩) (by unfold DR;exact⟨f,_,rfl,S12 _ _ f11,iH (D911.kt (aj.kt S12))⟩) (by show DT.depths _+1<=4;have:=mN (aw ds r);omega) (by decide) ?_ fun H13 S13=>⟨_,rfl,bj ?_⟩)⟩
  ·show(decide (((aw ds r).map iu).length<=1000000) && DT.sms ((aw ds r).map iu))=true;rw[yT (ds:=aw ds r) (fun d hd=>m.sg12.le d (jz.mp hd).1),ap,zzr1 (by omega)];rfl
  have S1113:=S12.trans S13;refine⟨_,rfl,_,rfl,.inr ⟨decide (r∈rooms.filter (cx ds)),cx ds r,rfl,_,rfl,?_⟩⟩;rw[qv,zzr1 rfl];refine bj ?_;have hl13:=S13 _ _ hl;refine⟨_,rfl,.inl ⟨rfl,_,aB.of hl13⟩,l,_,rfl,rfl,hl13,?_⟩;have S14:aj H8 (upd H13 l (.lst (us'.map V.ref).reverse)):=fun b o e=>by
   rw[af (ai (S711 _ _ e) fr)];exact S1113 _ _ (S711 _ _ e)
  have hl14:upd H13 l (.lst (us'.map V.ref).reverse) l=some (.lst (us'.map V.ref).reverse):=aa;generalize upd H13 l (.lst (us'.map V.ref).reverse)=H14 at S14 hl14 ⊢;have T14:=T.same S14;obtain⟨w,ws,ew⟩:∃w ws,says=w::ws:=by
   cases q:says with
   |nil=>exact absurd q m.says0
   |cons w ws=>exact⟨w,ws,rfl⟩
  refine⟨_,rfl,.inl ⟨rfl,_,aB.of hl14⟩,_,rfl,_,rfl,.inr (.inl ⟨tt,_,1,_,rfl,rfl,bM.of T14.t,rfl,l2,_,0,.str w,rfl,rfl,aB.of T14.a2,by rw[ew];exact dC (j:=0) rfl,(by show 2<=am;decide),fun s hs=>?_⟩)⟩;refine⟨_,rfl,(by show 3<=am;decide),fun d hd=>?_⟩;have hl15:=kp (x:=.tup [.str r,.ref s,.str r]) (kp (x:=.tup [.str "say",.str w]) hl14 hs) hd;refine⟨l,_,_,rfl,rfl,hl15,?_,k _ fun b o e=>?_⟩
  ·rw[oP,ap,Paired.length hdd];exact br (by have:=jh ds r;omega)
  ·rw[af (ai (S711 _ _ e) fr)];exact kp (kp (S14 _ _ e) hs) hd
 have n2:n % 2=0∨n % 2=1:=by omega
 rcases n2 with n2|n2
 ·refine⟨_,rfl,n,2,rfl,rfl,(by show(0:Int)<2;decide),rfl,true,(by show V.bl (decide (V.int (n % 2)=V.int 0))=_;rw[n2];rfl),bY ?_⟩;refine⟨_,rfl,x,dx',fs',rfl,g1,a1,_,rfl,x,r,asks,says,rooms,ds,rfl,MA11,?_⟩;refine⟨_,rfl,x,dx',fs',rfl,g1,e4,_,rfl,x,r,asks,says,rooms,ds,rfl,MA11,rin,fun l us' H12 hl hd fr S12=>?_⟩;refine⟨_,rfl,n,2,rfl,rfl,(by show(0:Int)<2;decide),rfl,false,(by show V.bl (decide (V.int (n % 2)=V.int 1))=_;rw[n2];rfl),bj ?_⟩;exact fin l us' H12 hl hd fr S12
 ·refine⟨_,rfl,n,2,rfl,rfl,(by show(0:Int)<2;decide),rfl,false,(by show V.bl (decide (V.int (n % 2)=V.int 0))=_;rw[n2];rfl),bj ?_⟩;refine⟨_,rfl,x,dx',fs',rfl,g1,e4,_,rfl,x,r,asks,says,rooms,ds,rfl,MA11,rin,fun l us' H12 hl hd fr S12=>?_⟩;refine⟨_,rfl,n,2,rfl,rfl,(by show(0:Int)<2;decide),rfl,true,(by show V.bl (decide (V.int (n % 2)=V.int 1))=_;rw[n2];rfl),bY ?_⟩;exact⟨_,rfl,x,dx',fs',rfl,S12 _ _ g1,a1,_,rfl,x,r,asks,says,rooms,ds,rfl,MA11.same S12,fin l us' H12 hl hd fr S12⟩
def wT(H:Hp)(asks says rooms:Zb)(ds:List av)(xs:List V):Nat->Prop
 |0=>xs=asks.map V.str
 |1=>xs=says.map V.str
 |2=>xs=rooms.map V.str
 |3=>∃us,xs=us.map V.ref/\bF H us ds
 |_=>False
structure zw(H0 H:Hp)(r:Addr)(asks says rooms:Zb)(ds:List av)(j:Nat)(v:V):Prop where
 at_:∃a xs,v=.ref a/\H0 a=none/\a≠r/\H a=some (.lst xs)/\wT H asks says rooms ds xs j
theorem wT.kt{H H':Hp}{asks says rooms:Zb}{ds:List av}{xs:List V}{j:Nat}(h:wT H asks says rooms ds xs j)(k:p_ H H'):wT H' asks says rooms ds xs j:=by
 match j,h with
 |0,h=>exact h
 |1,h=>exact h
 |2,h=>exact h
 |3,⟨us,e,d⟩=>exact⟨us,e,d.kt k⟩
inductive iD(C:Addr)(vs:List V)(H:Hp)(Q:VK)(E:XK):Prop
 |mk (x:Addr) (n:Int) (asks says rooms:Zb) (ds:List av):(vs=[.ref x,.int n])->(0<=n)->(cG C H x asks says rooms ds)->(∀(r r1 r2 r3 r4:Addr) (us:Ze) (H':Hp),H' r=some (.lst [.ref r1,.ref r2,.ref r3,.ref r4])->Lists H' r1 r2 r3 r4 us asks says rooms ds->(∀b∈[r,r1,r2,r3,r4],H b=none)->(∀b∈[r1,r2,r3,r4],b≠r)->aj H H'->Q (.ref r) H')->iD C vs H Q E
theorem uU{K:Za}{C:Addr}{vs:List V}{H:Hp}{Q:VK}{E:XK}(h:iD C vs H Q E):qD K C (lI C) (lG C) (jG C) (mz C) (cp Q) (start rG vs) H:=by
 obtain⟨x,n,asks,says,rooms,ds,rfl,n0,M,k⟩:=h;obtain⟨n,rfl⟩:=hE n0;refine⟨(by show 4<=am;decide),fun r hr=>?_⟩;have S1:aj H (upd H r (.lst [.non,.non,.non,.non])):=aj.new hr;have r1:upd H r (.lst [.non,.non,.non,.non]) r=some (.lst [.non,.non,.non,.non]):=aa;generalize upd H r (.lst [.non,.non,.non,.non])=H1 at S1 r1 ⊢;refine⟨4,rfl,by decide,by decide,?_⟩;refine gj (lo:=0) (n:=4) (fun i σ H'=>∃u v ws,σ=[some (.ref x),some (.int n),some (.ref r),u,v]/\aj H H'/\H' r=some (.lst ws)/\ws.length=4/\∀j<4,(∃q<i,(n+q) % 4=j)->∃w,ws[j]?=some w/\zw H H' r asks says rooms ds j w)
  ⟨_,_,_,rfl,S1,r1,rfl,fun j _ ⟨q,hq,_⟩=>absurd hq (Nat.not_lt_zero _)⟩ ?_ ?_
 ·rintro i σ H' hi ⟨u,v,ws,rfl,S,hr',hl,P⟩;have M':=M.same S;obtain⟨dx,fs,o1,o2,o3,o4,lv,qu,sgA,sl,ts,lps,gps,sps,g1,a1,a2,a3,a4,b1,b2,b3,b4,b5,b6,b7,b8,LL,_⟩:=id M'.at_;obtain⟨dx',fs',g1',e1,e2,e3,_⟩:=id M'.more;rw[g1]at g1';cases g1';have step:∀(j:Nat) (l:Addr) (xs:List V),j<4->(n+i) % 4=j->H' l=none->wT (upd H' l (.lst xs)) asks says rooms ds xs j->∀(uv:Option V),∃(u v:Option V) (ws':List V),([some (V.ref x),some (V.int n),some (V.ref r),some (V.int (0+(i:Int))),uv]:L2.St)=[some (.ref x),some (.int n),some (.ref r),u,v]/\aj H (upd (upd H' l (.lst xs)) r (.lst (ws.set j (.ref l))))/\upd (upd H' l (.lst xs)) r (.lst (ws.set j (.ref l))) r=some (.lst ws')/\ws'.length=4/\∀j'<4,(∃q<i+1,(n+q) % 4=j')->∃w,ws'[j']?=some w/\zw H (upd (upd H' l (.lst xs)) r (.lst (ws.set j (.ref l)))) r asks says rooms ds j' w:=by
   intro j l xs hj hm hln ip uv;have nlr:l≠r:=(ai hr' hln).symm;have kt:p_ (upd H' l (.lst xs)) (upd (upd H' l (.lst xs)) r (.lst (ws.set j (.ref l)))):=fu (kp hr' hln);refine⟨_,_,ws.set j (.ref l),rfl,fun b o e=>?_,aa,by rw[mh,hl],fun j' hj' hq=>?_⟩
   ·rw[af (ai e hr)];exact kp (S _ _ e) hln
   ·by_cases c:j'=j
    ·subst c;refine⟨.ref l,by rw[List.getElem?_set_self (by omega)],⟨l,xs,rfl,S.free hln,nlr,by rw[af nlr];exact aa,ip.kt kt⟩⟩
    ·obtain⟨q,hq,eq⟩:=hq;have:q≠i:=fun z=>c (by rw[<-eq,z,hm]);obtain⟨w,hw,⟨a,ys,rfl,q1,q2,q3,q4⟩⟩:=P j' hj' ⟨q,by omega,eq⟩;refine⟨.ref a,by rw[tO (fun z=>c z.symm)];exact hw,⟨a,ys,rfl,q1,q2,by rw[af q2];exact kp q3 hln,(q4.kt (aj.kt (aj.new hln))).kt kt⟩⟩
  have As:(((n:Int)+(0+(i:Int))) % 4=0/\(n+i) % 4=0)∨(((n:Int)+(0+(i:Int))) % 4=1/\(n+i) % 4=1)∨(((n:Int)+(0+(i:Int))) % 4=2/\(n+i) % 4=2)∨(((n:Int)+(0+(i:Int))) % 4=3/\(n+i) % 4=3):=by omega
  refine⟨_,rfl,_,rfl,_,_,rfl,rfl,_,_,rfl,rfl,(by show(0:Int)<4;decide),?_⟩;rcases As with⟨z1,z2⟩|⟨z1,z2⟩|⟨z1,z2⟩|⟨z1,z2⟩
  ·refine⟨_,rfl,rfl,true,(by show V.bl (decide (V.int (((n:Int)+(0+(i:Int))) % 4)=V.int 0))=_;rw[z1];rfl),bY ⟨_,rfl,x,dx,fs,rfl,g1,e1,x,asks,says,rooms,ds,rfl,M',fun l hln=>?_⟩⟩;exact⟨_,rfl,r,ws,0,0,rfl,rfl,kp hr' hln,by rw[hl];rfl,step 0 l _ (by decide) z2 hln rfl _⟩
  ·refine⟨_,rfl,rfl,false,(by show V.bl (decide (V.int (((n:Int)+(0+(i:Int))) % 4)=V.int 0))=_;rw[z1];rfl),bj ⟨_,rfl,rfl,true,(by show V.bl (decide (V.int (((n:Int)+(0+(i:Int))) % 4)=V.int 1))=_;rw[z1];rfl),bY ⟨_,rfl,x,dx,fs,rfl,g1,e2,x,asks,says,rooms,ds,rfl,M',fun l hln=>?_⟩⟩⟩;exact⟨_,rfl,r,ws,1,1,rfl,rfl,kp hr' hln,by rw[hl];rfl,step 1 l _ (by decide) z2 hln rfl _⟩
  ·refine⟨_,rfl,rfl,false,(by show V.bl (decide (V.int (((n:Int)+(0+(i:Int))) % 4)=V.int 0))=_;rw[z1];rfl),bj ⟨_,rfl,rfl,false,(by show V.bl (decide (V.int (((n:Int)+(0+(i:Int))) % 4)=V.int 1))=_;rw[z1];rfl),bj ⟨_,rfl,rfl,true,(by show V.bl (decide (V.int (((n:Int)+(0+(i:Int))) % 4)=V.int 2))=_;rw[z1];rfl),bY ⟨_,rfl,x,dx,fs,rfl,g1,a4,x,asks,says,rooms,ds,rfl,M',fun l hln=>?_⟩⟩⟩⟩;exact⟨_,rfl,r,ws,2,2,rfl,rfl,kp hr' hln,by rw[hl];rfl,step 2 l _ (by decide) z2 hln rfl _⟩
  ·refine⟨_,rfl,rfl,false,(by show V.bl (decide (V.int (((n:Int)+(0+(i:Int))) % 4)=V.int 0))=_;rw[z1];rfl),bj ⟨_,rfl,rfl,false,(by show V.bl (decide (V.int (((n:Int)+(0+(i:Int))) % 4)=V.int 1))=_;rw[z1];rfl),bj ⟨_,rfl,rfl,false,(by show V.bl (decide (V.int (((n:Int)+(0+(i:Int))) % 4)=V.int 2))=_;rw[z1];rfl),bj ⟨_,rfl,x,dx,fs,rfl,g1,e3,x,dx,o4,fs,ts,rfl,g1,b4,LL.a4,fun l hln=>?_⟩⟩⟩⟩;exact⟨_,rfl,r,ws,3,3,rfl,rfl,kp hr' hln,by rw[hl];rfl,step 3 l _ (by decide) z2 hln ⟨ts,rfl,LL.ds.kt (aj.kt (aj.new hln))⟩ _⟩
 ·rintro σ H' ⟨u,v,ws,rfl,S,hr',hl,P⟩;have all:∀j<4,∃w,ws[j]?=some w/\zw H H' r asks says rooms ds j w:=fun j hj=>P j hj ⟨(j+4-n % 4) % 4,by omega,by omega⟩
  match ws,hl with
  |[w0,w1,w2,w3],_ =>
   obtain⟨_,e0,⟨c0,y0,p0,p1,p2,p3,p4⟩⟩:=all 0 (by decide);obtain⟨_,e1,⟨c1,y1,q0,q1,q2,q3,q4⟩⟩:=all 1 (by decide);obtain⟨_,e2,⟨c2,y2,s0,s1,s2,s3,s4⟩⟩:=all 2 (by decide);obtain⟨_,e3,⟨c3,y3,t0,t1,t2,t3,us,t4,t5⟩⟩:=all 3 (by decide);cases e0;cases e1;cases e2;cases e3;subst p0 q0 s0 t0;have p4:y0=asks.map V.str:=p4;have q4:y1=says.map V.str:=q4;have s4:y2=rooms.map V.str:=s4;subst p4 q4 s4 t4;refine⟨_,rfl,k r c0 c1 c2 c3 us H' hr' ⟨p3,q3,s3,t3,t5⟩ (fun b hb=>?_) (fun b hb=>?_) S⟩
   ·simp only[bf,dJ,or_false]at hb;rcases hb with rfl|rfl|rfl|rfl|rfl
    ·exact hr
    ·exact p1
    ·exact q1
    ·exact s1
    ·exact t1
   ·simp only[bf,dJ,or_false]at hb;rcases hb with rfl|rfl|rfl|rfl
    ·exact p2
    ·exact q2
    ·exact s2
    ·exact t2
theorem mE{α β:Type}{R:α->β->Prop}:∀{xs:List α}{ys:List β},Paired R xs ys->Paired (fun x y=>x∈xs/\R x y) xs ys
 |_,_,.nil=>.nil
 |_,_,.cons r t=>.cons ⟨eG,r⟩ (Paired.mapP (mE t) fun _ _ e=>⟨cC _ e.1,e.2⟩)
abbrev CpF(g:Addr)(H0 H:Hp)(ms:Ze)(L:List (List V)):Prop:=Paired (fun m xs=>(m≠g/\H0 m=none)/\H m=some (.lst xs)) ms L
theorem zX{K:Za}{σ:L2.St}{H:Hp}{Q:VK}{t l1 l2 l3 l4:Addr}{ts:Ze}{asks says rooms:Zb}{ds:List av}(T:nE H t l1 l2 l3 l4 ts asks says rooms ds)(hσ:σ[0]?=some (some (.ref t)))
  (k:∀g m1 m2 m3 m4 H',H' g=some (.lst [.ref m1,.ref m2,.ref m3,.ref m4])->Lists H' m1 m2 m3 m4 ts asks says rooms ds->(∀b∈[g,m1,m2,m3,m4],H b=none)->(∀b∈[m1,m2,m3,m4],b≠g)->aj H H'->Q (.ref g) H') :
  b9 1 [] (wm K V0) U0 (fC) (cJ (cF K) (aJ V0)) σ H Q:=by
 refine⟨_,hσ,t,rfl,⟨_,bM.of T.t⟩,fun g hg=>?_⟩;have LL:∀(i:Nat) (x:V),([.ref l1,.ref l2,.ref l3,.ref l4]:List V)[i]?=some x->∃l xs,x=.ref l/\([asks.map V.str,says.map V.str,rooms.map V.str,ts.map V.ref]:List (List V))[i]?=some xs/\H l=some (.lst xs):=fun i x h=>by
  have hi:i<4:=(cB.mp h).1;have:i=0∨i=1∨i=2∨i=3:=by omega
  rcases this with rfl|rfl|rfl|rfl<;>cases h
  ·exact⟨l1,_,rfl,rfl,T.a1⟩
  ·exact⟨l2,_,rfl,rfl,T.a2⟩
  ·exact⟨l3,_,rfl,rfl,T.a3⟩
  ·exact⟨l4,_,rfl,rfl,T.a4⟩
 refine wK (xs:=[.ref l1,.ref l2,.ref l3,.ref l4]) (fun i vs H'=>∃ms:List Addr,vs=ms.map V.ref/\CpF g H H' ms (([asks.map V.str,says.map V.str,rooms.map V.str,ts.map V.ref]:List (List V)).take i)/\aj H H'/\H' g=some (.lst vs)) ⟨[],rfl,.nil,aj.new hg,aa⟩ (fun i vs H' _ ⟨_,_,_,S,h'⟩=>⟨h',bM.of (S _ _ T.t)⟩) ?_ ?_
 ·rintro vs H' ⟨ms,rfl,R,S,g'⟩
  match ms,R with
  |_,.cons a (.cons b (.cons c (.cons d .nil))) =>
   rename_i m1 m2 m3 m4;refine k g m1 m2 m3 m4 H' g' ⟨a.2,b.2,c.2,d.2,T.ds.kt (aj.kt S)⟩ (fun x hx=>?_) (fun x hx=>?_) S
   ·simp only[bf,dJ,or_false]at hx;rcases hx with rfl|rfl|rfl|rfl|rfl
    ·exact hg
    ·exact a.1.2
    ·exact b.1.2
    ·exact c.1.2
    ·exact d.1.2
   ·simp only[bf,dJ,or_false]at hx;rcases hx with rfl|rfl|rfl|rfl
    ·exact a.1.1
    ·exact b.1.1
    ·exact c.1.1
    ·exact d.1.1
 ·rintro i vs H' x hx hi ⟨ms,rfl,R,S,g'⟩;obtain⟨l,xs,rfl,hxs,hl⟩:=LL i x hx;refine gN (oT ⟨_,rfl,.inl ⟨l,_,rfl,.inl (aB.of (S _ _ hl)),fun u hu=>?_⟩⟩);have nu:u≠g:=fun z=>by rw[z,g']at hu;cases hu
  refine⟨kp g' hu,?_,qV hi ⟨ms++[u],by rw[aL];rfl,?_,?_,aa⟩⟩
  ·rw[ap,Paired.length R,be];exact br (by have:i<4:=hi;omega)
  ·rw[take_snoc hxs];exact Paired.app (Paired.mapP R fun _ _ e=>⟨e.1,by rw[af e.1.1];exact kp e.2 hu⟩) (.cons ⟨⟨nu,S.free hu⟩,by rw[af nu];exact aa⟩ .nil)
  ·intro b o e;rw[af (ai e hg)];exact kp (S _ _ e) hu
structure uF where
 (u l1 l2 l3 l4:Addr) (ts:Ze) (asks says rooms:Zb) (ds:List av)
structure nH(H:Hp)(d:uF):Prop where
 t:nE H d.u d.l1 d.l2 d.l3 d.l4 d.ts d.asks d.says d.rooms d.ds
 ok:bO d.asks d.says d.rooms d.ds
theorem nH.same{H H':Hp}{d:uF}(h:nH H d)(S:aj H H'):nH H' d:=⟨h.t.same S,h.ok⟩
structure wX where
 (g m1 m2 m3 m4:Addr)
abbrev wX.ms(h:wX):List Addr:=[h.m1,h.m2,h.m3,h.m4]
structure rK(H:Hp)(d:uF)(h:wX):Prop where
 g:H h.g=some (.lst [.ref h.m1,.ref h.m2,.ref h.m3,.ref h.m4])
 L:Lists H h.m1 h.m2 h.m3 h.m4 d.ts d.asks d.says d.rooms d.ds
theorem rK.same{H H':Hp}{d:uF}{h:wX}(q:rK H d h)(S:aj H H'):rK H' d h:=⟨S _ _ q.g,q.L.same S⟩
structure Ad(H0 H:Hp)(f:Addr)(ms:List uF)(hs:List wX):Prop where
 pr:Paired (fun h d=>rK H d h) hs ms
 new:∀h∈hs,∀b∈h.g::h.ms,H0 b=none/\b≠f
 gm:∀h∈hs,∀h'∈hs,∀b∈h'.ms,h.g≠b
theorem re{K:Za}{σ:L2.St}{H:Hp}{Q:VK}{f0:Addr}{ms:List uF}(hσ:σ[3]?=some (some (.ref f0)))(h0:H f0=some (.lst (ms.map fun d=>.ref d.u)))(hm:∀d∈ms,nH H d)(hz:ms.length<=2)
  (k:∀f hs H',H' f=some (.lst (hs.map fun h=>.ref h.g))->Ad H H' f ms hs->H f=none->aj H H'->Q (.ref f) H') :
  b9 1 [] (cV K V3) U0 (fC) (b9 1 [] (wm K V0) U0 (fC) (cJ (cF K) (aJ V0))) σ H Q:=by
 refine⟨_,hσ,f0,rfl,⟨_,aB.of h0⟩,fun f hf=>?_⟩;refine db (xs:=ms.map fun d=>.ref d.u) (fun i vs H'=>∃hs:List wX,vs=hs.map (fun h=>.ref h.g)/\Ad H H' f (ms.take i) hs/\aj H H'/\H' f=some (.lst vs)) ⟨[],rfl,⟨.nil,by simp,by simp⟩,aj.new hf,aa⟩ (fun i vs H' _ ⟨_,_,_,S,h'⟩=>⟨h',aB.of (S _ _ h0)⟩) ?_ ?_
 ·rintro vs H' ⟨hs,rfl,P,S,f'⟩;rw[ap,cY]at P;exact k f hs H' f' P hf S
 ·rintro i vs H' x hx hi ⟨hs,rfl,P,S,f'⟩;rw[cD]at hx;obtain⟨d,hd,rfl⟩:=me.mp hx;have dm:=bT hd;have T:=((hm d dm).same S).t;refine gN (oT (zX T rfl fun g m1 m2 m3 m4 H2 hg L2 fr ng S2=>?_));have fb:∀b∈[g,m1,m2,m3,m4],b≠f:=fun b hb z=>by have:=fr b hb;rw[z,f']at this;cases this
  have old:∀h∈hs,∀b∈h.g::h.ms,∀c∈[g,m1,m2,m3,m4],b≠c:=fun h hh b hb c hc z=>by
   obtain⟨d',_,q⟩:=Paired.getL P.pr (List.mem_iff_getElem?.mp hh |>.choose_spec);have e:=fr c hc;rw[<-z]at e;simp only[bf,dJ,or_false]at hb;rcases hb with rfl|rfl|rfl|rfl|rfl
   ·rw[q.g]at e;cases e
   ·rw[q.L.a1]at e;cases e
   ·rw[q.L.a2]at e;cases e
   ·rw[q.L.a3]at e;cases e
   ·rw[q.L.a4]at e;cases e
  refine⟨S2 _ _ f',by rw[ap,Paired.length P.pr,be];exact br (by omega),qV hi ⟨hs++[⟨g,m1,m2,m3,m4⟩],by rw[aL];rfl,⟨?_,?_,?_⟩,?_,aa⟩⟩
  ·rw[take_snoc hd];have kt:p_ H2 (upd H2 f (.lst (hs.map (fun h=>V.ref h.g)++[.ref g]))):=fu (S2 _ _ f');have up:∀(d:uF) (h:wX),(∀b∈h.g::h.ms,b≠f)->rK H2 d h->rK (upd H2 f (.lst (hs.map (fun h=>V.ref h.g)++[.ref g]))) d h:=fun d h n q =>
    ⟨by rw[af (n _ (by simp))];exact q.g,by rw[af (n _ (by simp))];exact q.L.a1,by rw[af (n _ (by simp))];exact q.L.a2,by rw[af (n _ (by simp))];exact q.L.a3,by rw[af (n _ (by simp))];exact q.L.a4,q.L.ds.kt kt⟩
   have pr:Paired (fun h d=>h∈hs/\rK H' d h) hs (ms.take i):=mE P.pr;exact Paired.app (Paired.mapP pr fun h d q=>up d h (fun b hb=>(P.new h q.1 b hb).2) (q.2.same S2)) (.cons (up d ⟨g,m1,m2,m3,m4⟩ (fun b hb=>fb b hb) ⟨hg,L2⟩) .nil)
  ·intro h hh b hb;rcases bZ.mp hh with hh|hh
   ·exact P.new h hh b hb
   ·have:h=⟨g,m1,m2,m3,m4⟩:=by simpa using hh
    subst this;exact⟨S.free (fr b hb),fb b hb⟩
  ·intro h hh h' hh' b hb z;rcases bZ.mp hh with hh|hh<;>rcases bZ.mp hh' with hh'|hh'
   ·exact P.gm h hh h' hh' b hb z
   ·have:h'=⟨g,m1,m2,m3,m4⟩:=by simpa using hh'
    subst this;exact old h hh h.g (by simp) b (cC _ hb) z
   ·have:h=⟨g,m1,m2,m3,m4⟩:=by simpa using hh
    subst this;exact old h' hh' b (cC _ hb) g (by simp) z.symm
   ·have e1:h=⟨g,m1,m2,m3,m4⟩:=by simpa using hh
    have e2:h'=⟨g,m1,m2,m3,m4⟩:=by simpa using hh'
    subst e1 e2;exact ng b hb z.symm
  ·intro b o e;rw[af (ai e hf)];exact S2 _ _ (S _ _ e)
theorem nH.upd{f:Addr}{H:Hp}{us:Ze}{xs:List V}{d:uF}(h:nH H d)(n4:d.l4≠f)(hf:H f=some (.lst (us.map V.ref))):nH (L2.upd H f (.lst xs)) d:=by
 have T:=h.t;have m:=h.ok;have ne:∀{l:Addr}{ws:Zb},ws≠[]->H l=some (.lst (ws.map V.str))->l≠f:=fun{l ws} w0 hl z=>by
  rw[z,hf]at hl;cases ws with
  |nil=>exact w0 rfl
  |cons w ws=>cases us with
   |nil=>cases hl
   |cons a as=>cases hl
 have nt:d.u≠f:=fun z=>by have:=T.t;rw[z,hf]at this;cases this
 exact⟨⟨by rw[af nt];exact T.t,by rw[af (ne m.asks0 T.a1)];exact T.a1,by rw[af (ne m.says0 T.a2)];exact T.a2,by rw[af (ne m.rooms0 T.a3)];exact T.a3,by rw[af n4];exact T.a4,T.ds.kt (fu hf)⟩,m⟩
def Mn(C:Addr)(H0 H:Hp)(x:Addr)(d:uF):Prop:=∀J:Hp,(∀b o,H b=some o->(H0 b=none∨∀xs,o≠.lst xs)->J b=some o)->cG C J x d.asks d.says d.rooms d.ds
theorem Mn.mono{C x:Addr}{H0 H H':Hp}{d:uF}(h:Mn C H0 H x d)(k:∀b o,H b=some o->(H0 b=none∨∀xs,o≠.lst xs)->H' b=some o):Mn C H0 H' x d:=fun J q=>h J fun b o e c=>q b o (k b o e c) c
theorem pP{K:Za}{H:Hp}:∀{hs:List wX}{ms:List uF},Paired (fun h d=>rK H d h) hs ms->DIns K H (ms.map fun d=>.s (dQ d.asks d.says d.rooms d.ds)) (hs.map fun h=>.ref h.g)
 |_,_,.nil=>by unfold DIns;rfl
 |_,_,.cons q t=>by
  rw[aN,aN];unfold DIns;exact⟨_,_,rfl,q.L.dIn q.g,pP t⟩
theorem mO:∀ms:List uF,DT.depths (ms.map fun d=>.s (dQ d.asks d.says d.rooms d.ds))<=4
 |[]=>cj _
 |d::ms=>by
  have h1:=jU d.asks d.says d.rooms d.ds;have h2:=mO ms;show max (DT.depths _+1) (DT.depths _)<=4;omega
inductive sp_law06(K:Za)(vs:List V)(H:Hp)(Q:VK)(E:XK):Prop
 |mk (a:Addr) (ns:List Int):(vs=[.ref a])->(aB K H a (ns.map V.int))->(ns.length<=63)->(∀H',Q (.bl true) H')->sp_law06 K vs H Q E
theorem ou{K:Za}{D:jt}{r:Addr}{bs:Ze}{H:Hp}{σ:L2.St}{n:Nat}(Fr:L2.St->Prop)(Inv0:Hp->Prop)
  (hr:∀H',Inv0 H'->H' r=some (.lst (bs.map V.ref)))
  (step:∀H' b xs,b∈bs->H' b=some (.lst xs)->Inv0 H'->∀ys,Inv0 (upd H' b (.lst ys)))
  (σ0:Fr σ) (σ1:∀σ v,Fr σ->Fr (σ.set 7 (some v))/\(σ.set 7 (some v))[7]?=some (some v)) (h0:Inv0 H) (hl:∀b∈bs,∃xs,H b=some (.lst xs)/\xs.length<=n) (hn:n+bs.length<=9000)
  (k:∀σ H',Fr σ->Inv0 H'->(∀b∈bs,∃xs,H' b=some (.lst xs)/\xs.length<=n+bs.length)->D.nx σ H') :
  ∃W:Nat->Nat->L2.St->Hp->Prop,(∃m,W 0 m σ H)/\∀i m σ H,W i m σ H ->
   ((wR K r).stop i H/\D.nx σ H)∨((wR K r).go i H/\∃N:L2.St->Hp->Prop,(∀σ' H',N σ' H'->∃m',m'<m/\W (i+1) m' σ' H')/\∀x H',(wR K r).yld i H x H'->b_ 7 x σ H' fun σ2 H2=>(au (b0 (sf K "list" gf V7)) (b0 (uQ K "list" dh V7 (aJ (tC (.str "none")))))) { D with nx:=N,ct:=N,bk:=D.nx } σ2 H2):=by
 refine dA (xs:=bs.map V.ref) (fun i σ H'=>Fr σ/\Inv0 H'/\∀b∈bs,∃xs,H' b=some (.lst xs)/\xs.length<=n+i) ⟨σ0,h0,hl⟩ (fun i σ H' _ ⟨_,q,_⟩=>aB.of (hr H' q)) ?_ ?_
 ·rintro i v σ H' hi ⟨fs,q,ls⟩;obtain⟨b,hb,rfl⟩:=d5 hi;have bm:=bT hb;have hib:i<bs.length:=(cB.mp hb).1;obtain⟨xs,hx,lx⟩:=ls b bm;obtain⟨f1,f2⟩:=σ1 σ (.ref b) fs;refine gN ⟨_,f2,.inl ⟨rfl,_,aB.of hx⟩,b,xs,rfl,rfl,hx,?_⟩;have q1:=step H' b xs bm hx q xs.reverse;have e1:upd H' b (.lst xs.reverse) b=some (.lst xs.reverse):=aa;refine⟨_,f2,.inl ⟨rfl,_,aB.of e1⟩,b,_,_,rfl,rfl,e1,by rw[oP];exact br (by omega),f1,step _ b _ bm e1 q1 _,fun c hc=>?_⟩;by_cases e:c=b
  ·subst e;exact⟨_,aa,by rw[bC,oP];simp;omega⟩
  ·obtain⟨ys,hy,ly⟩:=ls c hc;exact⟨ys,by rw[af e,af e];exact hy,by omega⟩
 ·rintro σ H' ⟨fs,q,ls⟩;rw[ap]at ls;exact k σ H' fs q ls
theorem seqA{te:TE}{g:TG}{rest:TS}{D:jt}{σ:L2.St}{H:Hp}(h:te σ H fun x H1=>g x σ H1 fun σ' H'=>rest D σ' H'):au (aM te g) rest D σ H:=h
theorem vT{K:Za}{C:Addr}{vs:List V}{H:Hp}{Q:VK}{E:XK}(h:sp_law06 K vs H Q E):xi K (iC C) (ib K) (iD C) C (jI C) iE eL (lH K) (cp Q) (start uE vs) H:=by
 obtain⟨a,ns,rfl,hs,hn,k⟩:=h;refine⟨_,rfl,a,ns,rfl,hs,hn,fun p c H1 _ hp1 S1=>?_⟩;refine⟨_,rfl,dL hp1 (by decide) (by decide) fun st H2 st0 st1 hp2 ex2=>?_⟩;refine⟨2,rfl,by decide,by decide,fun f0 hf=>?_⟩;have fp:=hp2.nep hf;have fc:=hp2.nec hf;refine mR (lo:=0) (n:=2) (fun i vs H'=>∃ms:List uF,vs=ms.map (fun d=>.ref d.u)/\ms.length=i/\(∀d∈ms,d.l4≠f0/\nH H' d)/\eg H' p c/\H' f0=some (.lst vs)) ⟨[],rfl,rfl,by simp,hp2.ex (aj.new hf),aa⟩ (fun i vs H' _ ⟨_,_,_,_,_,h'⟩=>h') ?_ ?_;rotate_left
 ·rintro i vs H' hi ⟨ms,rfl,lu,M,hp,f'⟩;refine gN (oT ⟨_,rfl,_,rfl,p,c,9,_,rfl,hp,by decide,by decide,by omega,by omega,fun t l1 l2 l3 l4 ts asks says rooms ds H2 T m _ _ hp2 ex fr=>?_⟩);have f2:=ex _ _ f' fp.symm;have f2':H2 f0=some (.lst ((ms.map (·.u)).map V.ref)):=by rw[j1];exact f2
  have M2:∀d∈ms++[⟨t,l1,l2,l3,l4,ts,asks,says,rooms,ds⟩],d.l4≠f0/\nH H2 d:=fun d hd=>by
   rcases bZ.mp hd with hd|hd
   ·obtain⟨n4,q⟩:=M d hd;exact⟨n4,q.t.ex hp ex,q.ok⟩
   ·have:d=⟨t,l1,l2,l3,l4,ts,asks,says,rooms,ds⟩:=by simpa using hd
    subst this;exact⟨(fun z=>by have z:l4=f0:=z;rw[z,f']at fr;cases fr),T,m⟩
  refine⟨f2,by rw[ap,lu];exact br (by omega),qV hi ⟨ms++[⟨t,l1,l2,l3,l4,ts,asks,says,rooms,ds⟩],by rw[aL];rfl,by rw[bC,lu];rfl,fun d hd=>⟨(M2 d hd).1,(M2 d hd).2.upd (M2 d hd).1 f2'⟩,hp2.upd fp fc,aa⟩⟩
 rintro vs H3 ⟨ms,rfl,lm,M3,hp3,f3⟩;clear hp3 fp fc hf ex2 hp2 hp1;have M3:∀d∈ms,nH H3 d:=fun d hd=>(M3 d hd).2;refine gN ?_;dsimp only;refine seqA ?_;refine re (K:=K) (σ:=[some (.ref a),some (.ref p),some (.int st),some (.ref f0),none,none,none,none,none,none,none,none,none]) rfl f3 M3 (by omega) fun f1 hs4 H4 h4 P4 fr4 S4=>?_;have lh:hs4.length=2:=by rw[Paired.length P4.pr,lm]
 refine⟨_,rfl,f1,rfl,⟨_,aB.of h4⟩,fun f2 hf2=>?_⟩;have S40:aj H4 (upd H4 f2 (.lst [])):=aj.new hf2;have f20:upd H4 f2 (.lst []) f2=some (.lst []):=aa;refine db (xs:=hs4.map fun h=>.ref h.g) (fun i vs H'=>∃xs:List Addr,vs=xs.map V.ref/\Paired (fun x d=>Mn C (upd H4 f2 (.lst [])) H' x d) xs (ms.take i)/\aj H4 H'/\(∀b,H' b=none->upd H4 f2 (.lst []) b=none)/\H' f2=some (.lst vs)) ⟨[],rfl,.nil,S40,fun _ h=>h,f20⟩ (fun i vs H' _ ⟨_,_,_,S,_,h'⟩=>⟨h',aB.of (S _ _ h4)⟩) ?_ ?_;rotate_left
 ·rintro i vs H' x hx hi ⟨xs,rfl,R,S,nn,f'⟩;rw[cD]at hx;obtain⟨h,hh,rfl⟩:=me.mp hx;obtain⟨d,hd,q⟩:=Paired.getL P4.pr hh;have q:=q.same S;have dm:=bT hd;refine gN (oT ⟨_,rfl,h.g,_,0,_,rfl,rfl,aB.of q.g,dC (j:=0) rfl,_,rfl,h.g,_,1,_,rfl,rfl,aB.of q.g,dC (j:=1) rfl,_,rfl,h.g,_,2,_,rfl,rfl,aB.of q.g,dC (j:=2) rfl,_,rfl,h.g,_,3,_,rfl,rfl,aB.of q.g,dC (j:=3) rfl,fun x dx hx hdx hne=>?_⟩);have hxx:upd H' dx (.own x) x=none:=by rw[af hne.symm];exact hx
  have S5:aj H' (upd (upd H' dx (.own x)) x (.ins C dx [])):=(aj.new hdx).trans (aj.new hxx);have c5:upd (upd H' dx (.own x)) x (.ins C dx []) x=some (.ins C dx []):=aa;have nx:∀b o,H' b=some o->b≠x:=fun b o e=>ai e hx;have n5:∀b,upd (upd H' dx (.own x)) x (.ins C dx []) b=none->H' b=none:=fun b e=>S5.free e;generalize upd (upd H' dx (.own x)) x (.ins C dx [])=H5 at S5 c5 n5 ⊢;refine⟨x,dx,h.m1,h.m2,h.m3,h.m4,d.ts,d.asks,d.says,d.rooms,d.ds,rfl,c5,q.L.same S5,(M3 d dm).ok,fun H6 mach ex=>⟨rfl,?_⟩⟩;have f6:H6 f2=some (.lst (xs.map V.ref)):=ex _ _ (S5 _ _ f') (nx _ _ f');have S6:aj H' H6:=fun b o e=>ex _ _ (S5 _ _ e) (nx _ _ e);have nf2:∀(J:Hp) b o,J f2=some (.lst (xs.map V.ref))->J b=some o->(upd H4 f2 (.lst []) b=none∨∀xs,o≠.lst xs)->b≠f2:=fun J b o jf e c z=>by
   subst z;rcases c with c|c
   ·rw[f20]at c;cases c
   ·rw[jf]at e;cases e;exact c _ rfl
  refine⟨f6,by rw[ap,Paired.length R,be];exact br (by omega),qV hi ⟨xs++[x],by rw[aL];rfl,?_,?_,?_,aa⟩⟩
  ·rw[take_snoc hd];refine Paired.app (Paired.mapP R fun y d' mn=>mn.mono fun b o e c=>?_) (.cons (fun J ag=>mach J fun b o e c=>?_) .nil)
   ·rw[af (nf2 H' b o f' e c)];exact S6 _ _ e
   ·have c':upd H4 f2 (.lst []) b=none∨∀xs,o≠.lst xs:=c.imp (fun z=>nn b (n5 b z)) id;exact ag b o (by rw[af (nf2 H6 b o f6 e c')];exact e) c'
  ·intro b o e;rw[af (ai e hf2)];exact S6 _ _ (S _ _ e)
  ·intro b e;have nb:b≠f2:=fun z=>by rw[z,aa]at e;cases e
   rw[af nb]at e;exact nn b (S6.free e)
 rintro vs H5 ⟨xs5,rfl,R5,S5,nn5,f5⟩;rw[ap,lh,<-lm,cY]at R5;refine⟨_,rfl,re (K:=K) (σ:=[some (.ref a),some (.ref p),some (.int st),some (.ref f0),some (.ref f1),some (.ref f2),none,none,none,none,none,none,none]) rfl ((S4.trans S5) _ _ f3) (fun d hd=>(M3 d hd).same (S4.trans S5)) (by omega) fun f6 hs6 H6 h6 P6 fr6 S6=>?_⟩;refine⟨.s (ms.map fun d=>.s (dQ d.asks d.says d.rooms d.ds)),.s (ms.map fun d=>.s (dQ d.asks d.says d.rooms d.ds)),(by unfold fG;exact⟨f1,_,rfl,aB.of ((S5.trans S6) _ _ h4),pP (Paired.mapP P4.pr fun _ _ q=>q.same (S5.trans S6))⟩),(by unfold fG;exact⟨f6,_,rfl,aB.of h6,pP P6.pr⟩),(by show DT.depths _+1<=8;have:=mO ms;omega),(by show DT.depths _+1<=8;have:=mO ms;omega),_,rfl,?_⟩;rw[zzr1 rfl];refine bj ?_;have S46:=S5.trans S6;have Ms:∀h∈hs4,∀b∈h.ms,∃xs,H6 b=some (.lst xs)/\xs.length<=1000:=fun h hh b hb=>by
  obtain⟨d,hd,q⟩:=Paired.getL P4.pr (List.mem_iff_getElem?.mp hh).choose_spec;have q:=q.same S46;have ok:=(M3 d (bT hd)).ok;have z1:=ok.asks4;have z2:=ok.says4;have z3:=ok.rooms26;have z4:=ok.few;simp only[wX.ms,bf,dJ,or_false]at hb;rcases hb with rfl|rfl|rfl|rfl
  ·exact⟨_,q.L.a1,by rw[ap];omega⟩
  ·exact⟨_,q.L.a2,by rw[ap];omega⟩
  ·exact⟨_,q.L.a3,by rw[ap];omega⟩
  ·exact⟨_,q.L.a4,by rw[ap,Paired.length q.L.ds];omega⟩
 refine⟨_,rfl,f1,rfl,⟨_,aB.of (S46 _ _ h4)⟩,?_⟩;have new4:∀h∈hs4,∀b∈h.ms,H3 b=none/\b≠f1:=fun h hh b hb=>P4.new h hh b (cC _ hb);refine dA (xs:=hs4.map fun h=>.ref h.g) (fun i σ H'=>∃u v,σ=[some (.ref a),some (.ref p),some (.int st),some (.ref f0),some (.ref f1),some (.ref f2),u,v,none,none,none,none,none]/\(∀b o,H6 b=some o->(∀h∈hs4,b∉h.ms)->H' b=some o)/\∀h∈hs4,∀b∈h.ms,∃xs,H' b=some (.lst xs)/\xs.length<=1000+4 * i)
  ⟨_,_,rfl,fun _ _ e _=>e,Ms⟩ (fun i σ H' _ ⟨_,_,_,ag,_⟩=>aB.of (ag _ _ (S46 _ _ h4) fun h hh hb=>(new4 h hh _ hb).2 rfl)) ?_ ?_
 ·rintro i v σ H' hi ⟨u,v',rfl,ag,ls⟩;rw[cD]at hi;obtain⟨h,hh,rfl⟩:=me.mp hi;have hm:=bT hh;have hi2:i<2:=by rw[<-lh];exact(cB.mp hh).1
  obtain⟨d,hd,q⟩:=Paired.getL P4.pr hh;have g6:=S46 _ _ q.g;have gn:∀h'∈hs4,h.g∉h'.ms:=fun h' hh' hb=>P4.gm h hm h' hh' _ hb rfl;refine gN ⟨_,rfl,h.g,rfl,⟨_,aB.of (ag _ _ g6 gn)⟩,?_⟩;refine ou (bs:=h.ms) (n:=1000+4 * i) (fun σ=>∃v,σ=[some (.ref a),some (.ref p),some (.int st),some (.ref f0),some (.ref f1),some (.ref f2),some (.ref h.g),v,none,none,none,none,none]) (fun H'=>(∀b o,H6 b=some o->(∀h∈hs4,b∉h.ms)->H' b=some o)/\∀h'∈hs4,∀b∈h'.ms,b∉h.ms->∃xs,H' b=some (.lst xs)/\xs.length<=1000+4 * i) (fun H' ag=>ag.1 _ _ g6 gn) (fun H' b xs hb hx q ys=>⟨fun b' o e n=>?_,fun h' hh' b' hb' nb=>?_⟩) ⟨_,rfl⟩ (fun σ v ⟨w,e⟩=>by subst e;exact⟨⟨_,rfl⟩,rfl⟩) ⟨ag,fun h' hh' b hb _=>ls h' hh' b hb⟩ (ls h hm) (by show _+4<=_;omega) fun σ H' ⟨w,e⟩ q lb=>?_
  ·rw[af (fun z=>n h hm (by rw[z];exact hb))];exact q.1 _ _ e n
  ·rw[af (fun z=>nb (by rw[z];exact hb))];exact q.2 h' hh' b' hb' nb
  ·subst e;refine⟨_,_,rfl,q.1,fun h' hh' b hb=>?_⟩;by_cases c:b∈h.ms
   ·obtain⟨xs,e,l⟩:=lb b c;exact⟨xs,e,by have:h.ms.length=4:=rfl;omega⟩
   ·obtain⟨xs,e,l⟩:=q.2 h' hh' b hb c;exact⟨xs,e,by omega⟩
 rintro σ H7 ⟨u,v,rfl,ag7,_⟩;have S37:aj H3 H7:=fun b o e=>ag7 _ _ ((S4.trans S46) _ _ e) fun h hh hb=>by have:=(new4 h hh b hb).1;rw[e]at this;cases this
 have lst4:∀h∈hs4,∀b∈h.ms,∃xs,H4 b=some (.lst xs):=fun h hh b hb=>by
  obtain⟨d,hd,q⟩:=Paired.getL P4.pr (List.mem_iff_getElem?.mp hh).choose_spec;simp only[wX.ms,bf,dJ,or_false]at hb;rcases hb with rfl|rfl|rfl|rfl
  ·exact⟨_,q.L.a1⟩
  ·exact⟨_,q.L.a2⟩
  ·exact⟨_,q.L.a3⟩
  ·exact⟨_,q.L.a4⟩
 have f27:H7 f2=some (.lst (xs5.map V.ref)):=ag7 _ _ (S6 _ _ f5) fun h hh hb=>by
  obtain⟨xs,e⟩:=lst4 h hh f2 hb;rw[hf2]at e;cases e
 have R7:Paired (fun x (d:uF)=>cG C H7 x d.asks d.says d.rooms d.ds) xs5 ms:=Paired.mapP R5 fun x d mn=>mn H7 fun b o e cc=>ag7 _ _ (S6 _ _ e) fun h hh hb=>by
  obtain⟨xs,e4⟩:=lst4 h hh b hb;rcases cc with cc|cc
  ·rw[S40 _ _ e4]at cc;cases cc
  ·rw[S5 _ _ e4]at e;cases e;exact cc _ rfl
 have f07:=S37 _ _ f3;clear ag7 R5 nn5 Ms P6 P4 new4 lst4 S46 S40 f20 S5 S6 S4 h4 h6;refine⟨3,rfl,by decide,by decide,gj (lo:=0) (n:=3) (fun i σ H'=>∃u v w x y z r,σ=[some (.ref a),some (.ref p),some (.int st),some (.ref f0),some (.ref f1),some (.ref f2),u,v,w,x,y,z,r]/\aj H7 H') ⟨_,_,_,_,_,_,_,rfl,aj.refl _⟩ ?_ ?_⟩;rotate_left
 ·rintro σ H' ⟨_,_,_,_,_,_,_,rfl,_⟩;exact k H'
 rintro i σ H8 hi ⟨u,v,w,x,y,z,r,rfl,S8⟩;refine gN ⟨_,rfl,_,rfl,f2,f0,rfl,.inl ⟨⟨_,aB.of (S8 _ _ f27)⟩,⟨_,aB.of (S8 _ _ f07)⟩,?_⟩⟩;refine wv (xs:=xs5.map V.ref) (ys:=ms.map fun d=>.ref d.u) (by rw[ap,ap,Paired.length R7]) (fun j σ H'=>∃u v x y z r,σ=[some (.ref a),some (.ref p),some (.int st),some (.ref f0),some (.ref f1),some (.ref f2),u,v,some (.int (0+(i:Int))),x,y,z,r]/\aj H7 H') ⟨_,_,_,_,_,_,rfl,S8⟩ (fun j σ H' _ ⟨_,_,_,_,_,_,_,S⟩=>⟨aB.of (S _ _ f27),aB.of (S _ _ f07)⟩) ?_ ?_;rotate_left
 ·rintro σ H' ⟨_,_,_,_,_,_,rfl,S⟩;exact⟨_,_,_,_,_,_,_,rfl,S⟩
 rintro j xv yv σ H9 q hx hy ⟨u,v,x',y',z',r',rfl,S9⟩ hq;obtain⟨x,hx2,rfl⟩:=d5 hx;rw[cD]at hy;obtain⟨d,hd,rfl⟩:=me.mp hy;obtain⟨d',hd',mach⟩:=Paired.getL R7 hx2;rw[hd]at hd';cases hd';have dm:=bT hd;have S10:aj H7 (upd H9 q (.tup [.ref x,.ref d.u])):=S9.trans (aj.new hq);refine⟨q,_,rfl,bM.of aa,rfl,_,_,rfl,_,_,rfl,rfl,?_⟩;generalize upd H9 q (.tup [.ref x,.ref d.u])=H10 at S10 ⊢;have M10:=mach.same S10;have D10:=(M3 d dm).same (S37.trans S10);have ok:=D10.ok;have z1:=ok.asks4;have z2:=ok.says4;have z3:=ok.rooms26;have z4:=ok.few;refine⟨_,rfl,_,rfl,_,rfl,_,_,rfl,rfl,x,_,d.asks,d.says,d.rooms,d.ds,rfl,by omega,M10,fun t r1 r2 r3 r4 us H11 ht L11 fr ng S11=>?_⟩;have D11:=D10.same S11;refine⟨_,rfl,_,rfl,.inl ⟨d.u,_,rfl,.inr (bM.of D11.t.t),fun e he=>?_⟩⟩;have S12:aj H11 (upd H11 e (.lst [.ref d.l1,.ref d.l2,.ref d.l3,.ref d.l4])):=aj.new he;have e12:upd H11 e (.lst [.ref d.l1,.ref d.l2,.ref d.l3,.ref d.l4]) e=some (.lst [.ref d.l1,.ref d.l2,.ref d.l3,.ref d.l4]):=aa;generalize upd H11 e (.lst [.ref d.l1,.ref d.l2,.ref d.l3,.ref d.l4])=H12 at S12 e12 ⊢;have T12:=(D11.same S12).t;have L12:Lists H12 d.l1 d.l2 d.l3 d.l4 d.ts d.asks d.says d.rooms d.ds:=⟨T12.a1,T12.a2,T12.a3,T12.a4,T12.ds⟩;have sg:∀b∈d.ds,b.sg.length<=1000000:=fun b hb=>by have:=(ok.door hb).1;unfold pN at this;simp at this;omega
 refine .inl (nV (d:=.s (dQ d.asks d.says d.rooms d.ds)) ((L11.same S12).dr (S12 _ _ ht)) (L12.dr e12) (by show DT.depths _+1<=4;have:=jU d.asks d.says d.rooms d.ds;omega) (by decide) (vO ok.few' sg) fun H13 S13=>⟨_,rfl,bj ?_⟩);have L13:=(L11.same S12).same S13;have t13:=S13 _ _ (S12 _ _ ht);have S1013:=(S11.trans S12).trans S13;refine⟨_,rfl,t,rfl,⟨_,aB.of t13⟩,?_⟩;refine ou (bs:=[r1,r2,r3,r4]) (n:=1000) (fun σ=>∃v,σ=[some (.ref a),some (.ref p),some (.int st),some (.ref f0),some (.ref f1),some (.ref f2),u,v,some (.int (0+(i:Int))),some (.ref x),some (.ref d.u),some (.ref t),r']) (fun H'=>aj H10 H'/\H' t=some (.lst ([r1,r2,r3,r4].map V.ref))) (fun H' q=>q.2) (fun H' b xs hb hx q ys=>⟨fun b' o e=>?_,?_⟩) ⟨_,rfl⟩ (fun σ v ⟨w,e⟩=>by subst e;exact⟨⟨_,rfl⟩,rfl⟩) ⟨S1013,t13⟩ (fun b hb=>?_) (by show _+4<=_;omega) fun σ H14 ⟨w,e⟩ q14 _=>?_
 ·rw[af (ai e (fr b (cC _ hb)))];exact q.1 _ _ e
 ·rw[af (ng b hb).symm];exact q.2
 ·simp only[bf,dJ,or_false]at hb;rcases hb with rfl|rfl|rfl|rfl
  ·exact⟨_,L13.a1,by rw[ap];omega⟩
  ·exact⟨_,L13.a2,by rw[ap];omega⟩
  ·exact⟨_,L13.a3,by rw[ap];omega⟩
  ·exact⟨_,L13.a4,by rw[ap,Paired.length L13.ds];omega⟩
 subst e;have D14:=D10.same q14.1;have S14:=S10.trans q14.1;refine⟨_,rfl,d.u,_,2,_,rfl,rfl,bM.of D14.t.t,rfl,d.l3,rfl,⟨_,aB.of D14.t.a3⟩,?_⟩;refine dA (xs:=d.rooms.map V.str) (fun i' σ H'=>∃r,σ=[some (.ref a),some (.ref p),some (.int st),some (.ref f0),some (.ref f1),some (.ref f2),u,w,some (.int (0+(i:Int))),some (.ref x),some (.ref d.u),some (.ref t),r]/\aj H14 H') ⟨_,rfl,aj.refl _⟩ (fun i' σ H' _ ⟨_,_,S⟩=>aB.of (S _ _ D14.t.a3)) ?_ ?_;rotate_left
 ·rintro σ H' ⟨r,rfl,S⟩;exact⟨_,_,_,_,_,_,rfl,S14.trans S⟩
 rintro i' rv σ H15 hi' ⟨r,rfl,S15⟩;obtain⟨rm,hrm,rfl⟩:=df hi';refine gN ⟨_,rfl,_,rfl,_,rfl,_,rfl,_,rfl,_,_,rfl,rfl,x,d.u,d.l1,d.l2,d.l3,d.l4,d.ts,rm,_,d.asks,d.says,d.rooms,d.ds,rfl,mach.same (S14.trans S15),(D14.same S15).t,bT hrm,fun H16 S16=>⟨_,rfl,bj ⟨_,rfl,S15.trans S16⟩⟩⟩
def iJ(i:Nat):Stmt:=PySem.Challenge.pw_mumtrial_k06_what_is_told.main.body.getD i (.Pass ⟨0,0,0,0⟩)
local macro_rules | `(tactic| walk_at "s")=>`(tactic| exact⟨rfl,rfl,rfl,by decide +kernel,rfl,by decide +kernel,by decide +kernel⟩)
local macro_rules | `(tactic| walk_at "l")=>`(tactic| (intro _ _ _ _ h;first|exact yE h|exact len_g h|(cases h;subst_vars;rfl)|(obtain⟨_,_,h,_⟩:=h;subst h;rfl)|((repeat obtain⟨_,h⟩:=h);subst_vars;rfl)))
theorem zzlS{us:List Value}{n:Nat}(h:us.length=n+1):∃ a t,us=a::t∧t.length=n:=by
  cases us with
  |nil=>cases h
  |cons a t=>exact⟨a,t,rfl,Nat.succ.inj h⟩
local macro_rules | `(tactic| walk_at "b")=>`(tactic| (intro _ _ _ _ _ _ us hl;(repeat (have h:=zzlS hl;clear hl;obtain⟨_,_,e,hl⟩:=h;subst e));cases List.eq_nil_of_length_eq_zero hl;rfl))
def Ae(K:Za)(x qual:Str)(st:Stmt)(f:Addr):Prop:=∃(oc:Value) (od an:Option Addr) (sl:Array (Option Value)) (kV dc pm cd ct:Value),
 K.lookup f=some ⟨oc,od,.func (fg x qual (eN st) (dB st) (bd st) .none kV dc pm an cd ct),sl⟩/\i6 K cd qual=true/\eX K (.ref f)=true
theorem ww{K:Za}{x qual:Str}{st:Stmt}{f:Addr}{oc:Value}{od an:Option Addr}{sl:Array (Option Value)}{kV dc pm cd ct:Value}(l:K.lookup f=some ⟨oc,od,.func (fg x qual (eN st) (dB st) (bd st) .none kV dc pm an cd ct),sl⟩)
  (c:i6 K cd qual=true) (k:eX K (.ref f)=true):Ae K x qual st f:=⟨oc,od,an,sl,kV,dc,pm,cd,ct,l,c,k⟩
def k_(K:Za)(x:Str)(st:Stmt):Prop:=∃f,bA K bg x=some (some (.ref f))/\Ae K x x st f
theorem fnG_mk{K:Za}{x:Str}{st:Stmt}{f:Addr}{oc:Value}{od an:Option Addr}{sl:Array (Option Value)}{kV dc pm cd ct:Value}(a:bA K bg x=some (some (.ref f)))(l:K.lookup f=some ⟨oc,od,.func (fg x x (eN st) (dB st) (bd st) .none kV dc pm an cd ct),sl⟩)
  (c:i6 K cd x=true) (k:eX K (.ref f)=true):k_ K x st:=⟨f,a,ww l c k⟩
def wY(K:Za)(C:Addr)(m qual:Str)(st:Stmt):Prop:=∃f,bH K (.ref C) m=some (some (.ref f))/\qp K (.ref f)=true/\Ae K m qual st f
theorem fnM_mk{K:Za}{C:Addr}{m qual:Str}{st:Stmt}{f:Addr}{oc:Value}{od an:Option Addr}{sl:Array (Option Value)}{kV dc pm cd ct:Value}(a:bH K (.ref C) m=some (some (.ref f)))(i:qp K (.ref f)=true)
  (l:K.lookup f=some ⟨oc,od,.func (fg m qual (eN st) (dB st) (bd st) .none kV dc pm an cd ct),sl⟩) (c:i6 K cd qual=true) (k:eX K (.ref f)=true):wY K C m qual st:=⟨f,a,i,ww l c k⟩
theorem Ae.fun_{K:Za}{x qual:Str}{st:Stmt}{f:Addr}(T:Ae K x qual st f):∃fd,zF K x qual st f fd:=by
 obtain⟨oc,od,an,sl,kV,dc,pm,cd,ct,l,c,k⟩:=T;exact⟨_,wu (st:=st) l c k⟩
def zH:Sp:=fun _ _ _ _=>False
theorem zP{P:bh}{w:World}{K:Za}{mg:Str->Option Value}{base:Heap}{k:Nat}{f:Addr}{fd:gR}{ps:Zb}:iz P w K mg base CX0 k f fd ps zH:=⟨fun _ _ _ _ h=>h.elim,fun _ _ _ _ _ _ _ _ _ _ _ _ _ h=>h.elim⟩
def z5(K:Za)(a:Addr)(ws:Zb):Prop:=∀H,bM K H a (ws.map V.str)
theorem xa{K:Za}{a:Addr}{ws:Zb}{o:Obj}{its:Array Value}{n:Nat}(l:K.lookup a=some o)(c:o.cls=.type "tuple")(d:o.data=.seq its n)(z:its.size<=am)(v:aH (ws.map V.str) its.toList):z5 K a ws :=
 fun _=>.inr ⟨o,its,n,l,c,d,z,v⟩
section
variable{P:bh}{w:World}{K:Za}{mg:Str->Option Value}{base h:Heap}{C:Addr}{x qual:Str}{st:Stmt}{N ps:Zb}{k:Nat}{sp:Sp}
abbrev wQ(ps:Zb)(sp:Sp):Prop:=∀vs H Q E,sp vs H Q E->vs.length=ps.length
abbrev BodyOk(CX:vC)(P:bh)(w:World)(K:Za)(mg:Str->Option Value)(base:Heap)(qual:Str)(st:Stmt)(N:Zb)(k:Nat)(sp:Sp)(nox:Cx->Cx):Prop:=N.Nodup->∀(f:Addr) (cdv:Value) (A:Around) (outer:List Env) (s:Shared) (H:Hp) (vs:List V) (Q:VK) (E:XK),cN k (A.deeper (envOfC qual (bd st) s.heap.objs.size f cdv))->(A.deeper (envOfC qual (bd st) s.heap.objs.size f cdv)).units+16<cLine->sp vs H Q E ->
 ∃t,rN (nox (sQ CX P w K mg base N qual (bd st) f cdv A outer s H E)) (dB st) t/\t (cp Q) (start N vs) H
abbrev tw(x qual:Str)(st:Stmt)(ps:Zb):Prop:=∀(kV doc pm:Value) (an:Option Addr) (cdv ct:Value) (us:Zf),us.length=ps.length->bindArgs (fg x qual (eN st) (dB st) (bd st) .none kV doc pm an cdv ct) ⟨us,[]⟩=pure (ps.zip us)
theorem dG(X:K.In h)(G:h.Ns bg mg)(T:k_ K x st)(b:BodyOk CX0 P w K mg base x st N k sp Cx.nox)(bi:tw x x st ps)(S:gL N ps (bd st):=by walk_at "s")(l:wQ ps sp:=by walk_at "l"):jX P w K mg base x ps (k+1) sp:=by
 obtain⟨f,a,t⟩:=T;obtain⟨fd,F⟩:=t.fun_;exact⟨f,fd,F.ok S l fun cdv A outer s H vs Q E hr h=>b S.nd f cdv A outer s H vs Q E hr (uh hr) h,dH X G a,F.kp,F.binds bi⟩
theorem dM(cl:vw K C)(T:wY K C x qual st)(b:BodyOk CX0 P w K mg base qual st N k sp Cx.nox)(bi:tw x qual st ps)(S:gL N ps (bd st):=by walk_at "s")(l:wQ ps sp:=by walk_at "l"):wO P w K mg base C x ps (k+1) sp:=by
 obtain⟨f,a,i,t⟩:=T;obtain⟨fd,F⟩:=t.fun_;exact⟨f,fd,F.ok S l fun cdv A outer s H vs Q E hr h=>b S.nd f cdv A outer s H vs Q E hr (uh hr) h,cl,⟨a,i,F.kp⟩,F.binds bi⟩
theorem dN{y:Str}(cm:mg y=some (.ref C))(mk:qo K C=true)(kc:eX K (.ref C)=true)(T:wY K C "__init__" qual st)(b:BodyOk CX0 P w K mg base qual st N k sp Cx.nox)(bi:tw "__init__" qual st ps)(S:gL N ps (bd st):=by walk_at "s")(l:wQ ps sp:=by walk_at "l"):New P w K mg base y C ps (k+1) sp:=by
 obtain⟨f,a,i,t⟩:=T;obtain⟨fd,F⟩:=t.fun_;exact⟨f,fd,F.ok S l fun cdv A outer s H vs Q E hr h=>b S.nd f cdv A outer s H vs Q E hr (uh hr) h,cm,⟨mk,a,i,kc⟩,F.binds bi⟩
end
structure Zs(mg:Str->Option Value):Prop where
 all:mg "all"=none
 bool:mg "bool"=none
 dict:mg "dict"=none
 enumerate:mg "enumerate"=none
 int:mg "int"=none
 isinstance:mg "isinstance"=none
 len:mg "len"=none
 list:mg "list"=none
 range:mg "range"=none
 str:mg "str"=none
 tuple:mg "tuple"=none
 zip:mg "zip"=none
structure Cs(K:Za)(mg:Str->Option Value)(C Cx Ct a_STILL :Addr):Prop where
 LETTERS:Gc mg "LETTERS" (.str "abcdefghijklmnopqrstuvwxyz")
 LONGEST_NAME:Gc mg "LONGEST_NAME" (.int 8)
 MOST_WORDS:Gc mg "MOST_WORDS" (.int 4)
 MOST_ROOMS:Gc mg "MOST_ROOMS" (.int 150)
 MOST_DOORS:Gc mg "MOST_DOORS" (.int 2000)
 STILL:Gc mg "STILL" (.ref a_STILL)
 still:z5 K a_STILL bb
 mc:MC K C
 cm:mg "Machine"=some (.ref C)
 makes:qo K C=true
 kc:eX K (.ref C)=true
 xc:XC K Cx
 xb:zZ K Ct
 NoMachine:mg "NoMachine"=some (.ref Cx)
 TrialError:mg "TrialError"=some (.ref Ct)
 kx:eX K (.ref Cx)=true
 xt:XO K Ct mm
 xg:XG K
 x_NoMachine:XX K mg "NoMachine" Cx Ct
 nd:[Ct,Cx].Nodup
structure Ts(K:Za)(C Cx :Addr):Prop where
 f_law_spread:k_ K "_law_spread" (iJ 25)
 f_law_open:k_ K "_law_open" (iJ 26)
 f_law_anew:k_ K "_law_anew" (iJ 27)
 f_law_take:k_ K "_law_take" (iJ 28)
 f_law_names:k_ K "_law_names" (iJ 29)
 f_law_put:k_ K "_law_put" (iJ 31)
 f_law_draw_doors:k_ K "_law_draw_doors" (iJ 32)
 f_law_model:k_ K "_law_model" (iJ 33)
 f_is_name:k_ K "is_name" (iJ 11)
 f_as_keys:k_ K "as_keys" (iJ 12)
 f_first_wrong_name:k_ K "first_wrong_name" (iJ 13)
 f_door_signs:k_ K "door_signs" (iJ 14)
 f_first_wrong_door:k_ K "first_wrong_door" (iJ 15)
 f_goals_by_start_and_sign:k_ K "goals_by_start_and_sign" (iJ 16)
 f_led_by_still:k_ K "led_by_still" (iJ 17)
 f_first_led_round:k_ K "first_led_round" (iJ 18)
 f_need_none:k_ K "need_none" (iJ 19)
 f_need_parts:k_ K "need_parts" (iJ 20)
 f_doors_by_start:k_ K "doors_by_start" (iJ 21)
 f_has_asks_alone:k_ K "has_asks_alone" (iJ 22)
 f_Machine___init__:wY K C "__init__" "Machine.__init__" (gH (iJ 23) 0)
 f_Machine_asks:wY K C "asks" "Machine.asks" (gH (iJ 23) 1)
 f_Machine_says:wY K C "says" "Machine.says" (gH (iJ 23) 2)
 f_Machine_rooms:wY K C "rooms" "Machine.rooms" (gH (iJ 23) 3)
 f_Machine_doors:wY K C "doors" "Machine.doors" (gH (iJ 23) 4)
 f_Machine_doors_from:wY K C "doors_from" "Machine.doors_from" (gH (iJ 23) 6)
 f_Machine_is_quiet:wY K C "is_quiet" "Machine.is_quiet" (gH (iJ 23) 5)
 f_law_same:k_ K "_law_same" (iJ 34)
 f_law_parts:k_ K "_law_parts" (iJ 35)
 f_law_room_is:k_ K "_law_room_is" (iJ 36)
 f_law06:k_ K "law" (iJ 37)
section
variable{P:bh}{w:World}{K:Za}{mg:Str->Option Value}{base h:Heap}{C Cx Ct a_STILL :Addr}
section
variable(P:bh)(w:World)(K:Za)(mg:Str->Option Value)(C Cx Ct :Addr)
abbrev gP:Prop:=∀base,jX P w K mg base "_law_spread" ["cell","at"] 1 iB
abbrev m7:Prop:=∀base,jX P w K mg base "_law_open" ["script"] 1 (lH K)
abbrev jw:Prop:=∀base,jX P w K mg base "_law_anew" ["pen"] 1 o8
abbrev fy:Prop:=∀base,jX P w K mg base "_law_take" ["pen","many"] 2 eL
abbrev iA:Prop:=∀base,jX P w K mg base "_law_names" ["pen","many"] 3 jH
abbrev kE:Prop:=∀base,jX P w K mg base "_law_put" ["doors","door"] 1 my
abbrev dR:Prop:=∀base,jX P w K mg base "_law_draw_doors" ["pen","asks","says","rooms","full"] 3 dW
abbrev lg:Prop:=∀base,jX P w K mg base "_law_model" ["pen","most","full"] 4 iE
abbrev kF:Prop:=∀base,jX P w K mg base "is_name" ["text"] 1 sp_is_name
abbrev gu:Prop:=∀base,jX P w K mg base "as_keys" ["things"] 1 (sp_as_keys K)
abbrev cZ:Prop:=∀base,jX P w K mg base "first_wrong_name" ["names","most","taken"] 2 (sp_first_wrong_name K)
abbrev gQ:Prop:=∀base,jX P w K mg base "door_signs" ["asks","says"] 1 (sp_door_signs K)
abbrev c6:Prop:=∀base,jX P w K mg base "first_wrong_door" ["doors","rooms","signs"] 2 (sp_first_wrong_door K)
abbrev bJ:Prop:=∀base,jX P w K mg base "goals_by_start_and_sign" ["doors"] 1 iF
abbrev fx:Prop:=∀base,jX P w K mg base "led_by_still" ["goals","room"] 1 o7
abbrev dE:Prop:=∀base,jX P w K mg base "first_led_round" ["rooms","led"] 1 sp_first_led_round
abbrev fN:Prop:=∀base,jX P w K mg base "need_none" ["part","number"] 1 sp_need_none
abbrev gM:Prop:=∀base,jX P w K mg base "need_parts" ["asks","says","rooms","doors"] 3 sp_need_parts
abbrev dU:Prop:=∀base,jX P w K mg base "doors_by_start" ["rooms","doors"] 1 ca
abbrev dS:Prop:=∀base,jX P w K mg base "has_asks_alone" ["doors"] 1 sp_has_asks_alone
abbrev ox:Prop:=∀base,New P w K mg base "Machine" C ["self","asks","says","rooms","doors"] 4 (jI C)
abbrev fA:Prop:=∀base,wO P w K mg base C "asks" ["self"] 1 (lI C)
abbrev fz:Prop:=∀base,wO P w K mg base C "says" ["self"] 1 (lG C)
abbrev eC:Prop:=∀base,wO P w K mg base C "rooms" ["self"] 1 (jG C)
abbrev eD:Prop:=∀base,wO P w K mg base C "doors" ["self"] 1 (mz C)
abbrev cH:Prop:=∀base,wO P w K mg base C "doors_from" ["self","room"] 1 (dX C)
abbrev c7:Prop:=∀base,wO P w K mg base C "is_quiet" ["self","room"] 1 (fK C)
abbrev jv:Prop:=∀base,jX P w K mg base "_law_same" ["found","due"] 5 (ib K)
abbrev lf:Prop:=∀base,jX P w K mg base "_law_parts" ["machine","turn"] 2 (iD C)
abbrev iW:Prop:=∀base,jX P w K mg base "_law_room_is" ["machine","told","room","turn"] 6 (iC C)
end
section
variable(X:K.In h)(G:h.Ns bg mg)(z:Zs mg)(c:Cs K mg C Cx Ct a_STILL )(T:Ts K C Cx )
include X G z c T
theorem ni:gP P w K mg:=fun base=>dG X G T.f_law_spread (fun S _ _ _ _ _ _ _ _ _ hr hu h=>bK (uS (K:=K) h) (ac (aP (m9 zO (pv 0) (aF v6 ah ah)) (ae (ar (pv 0))) aD) (ac (qs 2 S (aF cQ (aF bQ (aF bQ (aF ft (aF cQ (pv 0) ah) ah) (aF ft (pv 1) ah)) ah) ah)) (ac (qs 3 S (aF cQ (aF bQ (aF bQ (aF ft (pv 2) (pv 2)) (aF ft (pv 1) ah)) (aF cQ (pv 0) ah)) ah)) (ac (qs 4 S (aF cQ (aF bQ (aF bQ (aF ft (pv 3) (pv 3)) (aF ft (pv 2) ah)) ah) ah)) (ae (ar (aF bQ (aF ft (aF bQ (aF ft (pv 2) ah) (pv 3)) ah) (pv 4))))))))) (by walk_at "b")
theorem qI:m7 P w K mg:=fun base=>dG X G T.f_law_open (fun S _ _ _ _ _ _ _ _ _ hr hu h=>bK (xx h) (ac (qs 1 S (qL rfl z.list (a1 (du iG (pv 0) gC (dj ah))))) (ac (bP bI rfl (jM rfl z.enumerate (a1 (du iG (pv 0) (dj ah) (dj ah)))) (fP rfl (aQ (gn 2 S) (aQ (gn 3 S) dY))) (ae (gB (aF bQ (xl (pv 1) (aF cQ (pv 2) ah)) (pv 3)) (gD (pv 1) (aF cQ (pv 2) ah) dg)))) (ae (ar (cz (a3 (pv 1) ah ah))))))) (by walk_at "b")
theorem qJ:jw P w K mg:=fun base=>dG X G T.f_law_anew (fun S _ _ _ _ _ _ _ _ _ hr hu h=>bK (xz (K:=K) h) (ac (gB ah (gD (pv 0) ah dg)) (ae (ar (pv 0))))) (by walk_at "b")
theorem qG(D_law_spread:gP P w K mg):fy P w K mg:=fun base=>dG X G T.f_law_take (fun S _ _ _ _ _ _ _ _ _ hr hu h=>bK (xu h) (ac (aP (m9 yy (xl (pv 0) ah) (pv 1)) (ac (qs 2 S (xl (pv 0) ah)) (ac (qs 3 S ah) (ac (aP (m9 yy (pv 2) (ql z.len (a1 (xl (pv 0) ah)))) (ae (qs 3 S (xl (xl (pv 0) ah) (pv 2)))) (ae (aP (m9 yz (ql z.len (a1 (xl (pv 0) ah))) ah) (ae (qs 3 S (aF cQ (xl (xl (pv 0) ah) (aF cQ (aF bQ (aF ft (pv 2) ah) ah) (ql z.len (a1 (xl (pv 0) ah))))) (aF bQ (aF v6 ah ah) (pv 2))))) aD))) (ac (gB (aF bQ (pv 2) ah) (gD (pv 0) ah dg)) (ae (gB (qf hr (D_law_spread base) (a2 (pv 3) (pv 2))) (gD (pv 0) ah dg))))))) aD) (ac (qs 4 S (aF cQ (xl (pv 0) ah) (pv 1))) (ac (gB (aF ua (xl (pv 0) ah) (pv 1)) (gD (pv 0) ah dg)) (ae (ar (pv 4))))))) (by walk_at "b")
theorem o0(D_law_take:fy P w K mg):iA P w K mg:=fun base=>dG X G T.f_law_names (fun S _ _ _ _ _ _ _ _ _ hr hu h=>bK (vS h) (ac (qs 2 S cy) (ac (qs 3 S (iT PySem.F.plainAttrs_str PySem.F.slot_str_join PySem.F.type_str_join xM cy (a1 (qc (dO rfl z.range (a1 ah)) (aR (by decide)) fun _ _ _ _ _ _=>⟨gc 0,bD,xs' (pv 1) (qf hr (D_law_take base) (a2 (pv 2) ah))⟩)))) (ac (qs 4 S (qf hr (D_law_take base) (a2 (pv 0) ah))) (ac (qs 5 S (qf hr (D_law_take base) (a2 (pv 0) ah))) (ac (qs 6 S (qf hr (D_law_take base) (a2 (pv 0) ah))) (ac (qs 7 S (cz eo)) (ac (bP bI rfl (dO rfl z.range (a1 (pv 1))) (gn 8 S) (ac (qs 9 S (xs' (pv 2) (aF cQ (aF bQ (pv 5) (aF ft ah (pv 8))) ah))) (ac (qs 10 S (du sk (pv 3) gC (dj (aF cQ (aF bQ (pv 6) (aF ft (pv 8) (aF cQ (pv 4) ah))) ah)))) (ac (qs 11 S (xl (cz (a3 ah (ql z.len (a1 (pv 10))) (aF ua (ql z.len (a1 (pv 10))) ah))) (pv 4))) (ae (bq (iT ei g_ g9 cL (pv 7) (a1 (aF mG (aF mG (du sk (pv 10) gC (dj (pv 11))) (pv 9)) (du sk (pv 10) (dj (pv 11)) gC)))))))))) (ae (ar (pv 7))))))))))) (by walk_at "b")
theorem rY:kE P w K mg:=fun base=>dG X G T.f_law_put (fun S _ _ _ _ _ _ _ _ _ hr hu h=>bK (yW h) (ae (aP (tci (n6 hu) (pv 1) (pv 0)) (ae (bq (iT ei g_ g9 cL (pv 0) (a1 (pv 1))))) aD))) (by walk_at "b")
theorem jD(D_law_take:fy P w K mg)(D_law_put:kE P w K mg):dR P w K mg:=fun base=>dG X G T.f_law_draw_doors (fun S _ _ _ _ _ _ _ _ _ hr hu h=>bK (nq h) (ac (qs 5 S (cz eo)) (ac (qs 6 S (qf hr (D_law_take base) (a2 (pv 0) ah))) (ac (bP bI rfl (jM rfl z.enumerate (a1 (pv 3))) (fP rfl (aQ (gn 7 S) (aQ (gn 8 S) dY))) (ac (bP bI rfl (dO rfl z.range (a1 (xl (cz (bw ah (a3 ah ah ah))) (qf hr (D_law_take base) (a2 (pv 0) ah))))) (gn 9 S) (ac (qs 10 S (cP (a2 cy (xl (pv 2) (qf hr (D_law_take base) (a2 (pv 0) (ql z.len (a1 (pv 2))))))))) (ae (bq (qf hr (D_law_put base) (a2 (pv 5) (cP (a3 (pv 8) (pv 10) (xl (pv 3) (qf hr (D_law_take base) (a2 (pv 0) (ql z.len (a1 (pv 3)))))))))))))) (ac (bP bI rfl (bu (pv 1)) (gn 11 S) (ae (bP bI rfl (dO rfl z.range (a1 (xl (cz (bw (pv 4) (a3 ah ah ah))) (qf hr (D_law_take base) (a2 (pv 0) ah))))) (gn 9 S) (ae (bq (qf hr (D_law_put base) (a2 (pv 5) (cP (a3 (pv 8) (cP (a2 cy (pv 11))) (xl (pv 3) (qf hr (D_law_take base) (a2 (pv 0) (ql z.len (a1 (pv 3))))))))))))))) (ac (qs 12 S (xl (cz (a2 (du iG (pv 3) (dj (aF bQ (pv 7) ah)) gC) (du iG (pv 3) gC (dj (pv 7))))) (pv 6))) (ae (aP (PW.pt (jd (m9 (v7 hu) (pv 12) (cz eo)) (gA (m9 ij (qf hr (D_law_take base) (a2 (pv 0) ah)) ah)))) (ae (bq (qf hr (D_law_put base) (a2 (pv 5) (cP (a3 (pv 8) (cP (a1 cy)) (xq (pv 12) (qf hr (D_law_take base) (a2 (pv 0) (ql z.len (a1 (pv 12)))))))))))) aD)))))) (ae (ar (pv 5))))))) (by walk_at "b")
theorem o5(D_law_anew:jw P w K mg)(D_law_take:fy P w K mg)(D_law_names:iA P w K mg)(D_law_draw_doors:dR P w K mg):lg P w K mg:=fun base=>dG X G T.f_law_model (fun S _ _ _ _ _ _ _ _ _ hr hu h=>bK (uV h) (ac (bq (qf hr (D_law_anew base) (a1 (pv 0)))) (ac (qs 3 S (qf hr (D_law_names base) (a2 (pv 0) ah))) (ac (qs 4 S (du iG (pv 3) gC (dj (aF bQ ah (xl (cz (bw ah (bw ah (bw ah (a3 ah ah ah))))) (qf hr (D_law_take base) (a2 (pv 0) ah))))))) (ac (qs 5 S (du iG (pv 3) (dj ah) (dj (aF bQ ah (xl (cz (bw ah (bw ah (bw ah (a3 ah ah ah))))) (qf hr (D_law_take base) (a2 (pv 0) ah))))))) (ac (qs 6 S (qf hr (D_law_names base) (a2 (pv 0) (aF bQ ah (qf hr (D_law_take base) (a2 (pv 0) (pv 1))))))) (ac (qs 7 S (qf hr (D_law_draw_doors base) (bw (pv 0) (bw (pv 4) (a3 (pv 5) (pv 6) (pv 2)))))) (ae (ar (cP (bw (pv 4) (a3 (pv 5) (pv 6) (pv 7))))))))))))) (by walk_at "b")
theorem rZ:kF P w K mg:=fun base=>dG X G T.f_is_name (fun S _ _ _ _ _ _ _ _ _ hr hu h=>bK (ss h) (ae (ar (dz (vd qU (pv 0) cy) (dz (vd zN (ql z.len (a1 (pv 0))) (kR rfl c.LONGEST_NAME)) (fQ (qB (ef rfl) z.all lT (a1 (qc (y8 (pv 0)) (aR (by decide)) fun _ _ _ _ _ _=>⟨gc 0,bD,eci sC (pv 0) (kR rfl c.LETTERS)⟩))))))))) (by walk_at "b")
theorem r8:gu P w K mg:=fun base=>dG X G T.f_as_keys (fun S _ _ _ _ _ _ _ _ _ hr hu h=>bK (su h) (ac (qs 1 S mD) (ac (bP bI rfl (bu (pv 0)) (gn 2 S) (ae (jL hu (pv 1) (pv 2) dw rfl))) (ae (ar (pv 1)))))) (by walk_at "b")
theorem iM(D_is_name:kF P w K mg)(D_as_keys:gu P w K mg):cZ P w K mg:=fun base=>dG X G T.f_first_wrong_name (fun S _ _ _ _ _ _ _ _ _ hr hu h=>bK (iO h) (ac (aP (m9 ij (ql z.len (a1 (pv 0))) ah) (ae (ar ah)) aD) (ac (qs 3 S (qf hr (D_as_keys base) (a1 (pv 2)))) (ac (bP bI rfl (jM rfl z.enumerate (a1 (pv 0))) (fP rfl (aQ (gn 4 S) (aQ (gn 5 S) dY))) (ac (aP (PW.pt (nX (m9 ij (pv 4) (pv 1)) (nX (fO (pk hu (pv 5) (pv 3))) (pd (fq (bo (qf hr (D_is_name base) (a1 (pv 5))))))))) (ae (ar (pv 4))) aD) (ae (jL hu (pv 3) (pv 5) dw rfl)))) (ae (ar ii)))))) (by walk_at "b")
theorem nj:gQ P w K mg:=fun base=>dG X G T.f_door_signs (fun S _ _ _ _ _ _ _ _ _ hr hu h=>bK (nA c.still h) (ae (ar (aF v8 (aF v8 (qc (bu (pv 0)) (aR (by decide)) fun _ _ _ _ _ _=>⟨gc 0,bD,cP (a2 cy (pv 0))⟩) (qc (bu (pv 1)) (aR (by decide)) fun _ _ _ _ _ _=>⟨gc 0,bD,cP (a2 cy (pv 0))⟩)) (cz (a1 (kR rfl c.STILL))))))) (by walk_at "b")
theorem iN(D_as_keys:gu P w K mg):c6 P w K mg:=fun base=>dG X G T.f_first_wrong_door (fun S _ _ _ _ _ _ _ _ _ hr hu h=>bK (iP h) (ac (qs 3 S (qf hr (D_as_keys base) (a1 (pv 1)))) (ac (qs 4 S qQ) (ac (bP bI rfl (jM rfl z.enumerate (a1 (pv 0))) (fP rfl (aQ (gn 5 S) (aQ (gn 6 S) dY))) (ac (aP (PW.pt (nX (m9 ij (pv 5) (kR rfl c.MOST_DOORS)) (pd (fO (pk hu (pv 6) (pv 4)))))) (ae (ar (pv 5))) aD) (ac (aP (PW.pt (nX (fO (ki hu (xq (pv 6) ah) (pv 3))) (nX (tci (n6 hu) (xq (pv 6) ah) (pv 2)) (pd (fO (ki hu (xq (pv 6) ah) (pv 3))))))) (ae (ar (pv 5))) aD) (ae (jL hu (pv 4) (pv 6) dw rfl))))) (ae (ar ii)))))) (by walk_at "b")
theorem fh:bJ P w K mg:=fun base=>dG X G T.f_goals_by_start_and_sign (fun S _ _ _ _ _ _ _ _ _ hr hu h=>bK (uW h) (ac (qs 1 S qQ) (ac (bP bI rfl (bu (pv 0)) (fP rfl (aQ (gn 2 S) (aQ (gn 3 S) (aQ (gn 4 S) dY)))) (ae (bq (iT ei g_ g9 cL (iT PySem.F.plainAttrs_dict PySem.F.slot_dict_setdefault PySem.F.type_dict_setdefault (u2 hu) (pv 1) (a2 (cP (a2 (pv 2) (pv 3))) (cz eo))) (a1 (pv 4)))))) (ae (ar (pv 1)))))) (by walk_at "b")
theorem lr:fx P w K mg:=fun base=>dG X G T.f_led_by_still (fun S _ _ _ _ _ _ _ _ _ hr hu h=>bK (lz c.still h) (ac (qs 2 S mD) (ac (qs 3 S (cz (a1 (pv 1)))) (ac (vZ bI (m9 yz (ql z.len (a1 (pv 3))) ah) (ac (qs 4 S (pj ei PySem.F.slot_list_pop PySem.F.type_list_pop zc (pv 3))) (ae (bP bI rfl (y9 (qR hu (pv 0) (cP (a2 (pv 4) (kR rfl c.STILL))) (cP eo) ⟨rfl,rfl,rfl,rfl⟩)) (gn 5 S) (ae (aP (fO (ki hu (pv 5) (pv 2))) (ac (jL hu (pv 2) (pv 5) dw rfl) (ae (bq (iT ei g_ g9 cL (pv 3) (a1 (pv 5)))))) aD)))))) (ae (ar (pv 2))))))) (by walk_at "b")
theorem ja:dE P w K mg:=fun base=>dG X G T.f_first_led_round (fun S _ _ _ _ _ _ _ _ _ hr hu h=>bK (jb h) (ac (bP bI rfl (jM rfl z.enumerate (a1 (pv 0))) (fP rfl (aQ (gn 2 S) (aQ (gn 3 S) dY))) (ae (aP (fO (pk hu (pv 3) (ph hu (pv 1) (pv 3) (fun _ _=>rfl)))) (ae (ar (pv 2))) aD))) (ae (ar ii)))) (by walk_at "b")
theorem oY:fN P w K mg:=fun base=>dG X G T.f_need_none (fun S _ _ _ _ _ _ _ _ _ hr hu h=>bK (pb (K:=K) h) (ae (aP (fO (xJ (pv 1))) (ae (v2)) aD))) (by walk_at "b")
theorem nh(D_first_wrong_name:cZ P w K mg)(D_door_signs:gQ P w K mg)(D_first_wrong_door:c6 P w K mg)(D_need_none:fN P w K mg):gM P w K mg:=fun base=>dG X G T.f_need_parts (fun S _ _ _ _ _ _ _ _ _ hr hu h=>bK (np (K:=K) h) (ac (bq (qf hr (D_need_none base) (a2 cy (qf hr (D_first_wrong_name base) (a3 (pv 0) (kR rfl c.MOST_WORDS) (cz eo)))))) (ac (bq (qf hr (D_need_none base) (a2 cy (qf hr (D_first_wrong_name base) (a3 (pv 1) (kR rfl c.MOST_WORDS) (pv 0)))))) (ac (bq (qf hr (D_need_none base) (a2 cy (qf hr (D_first_wrong_name base) (a3 (pv 2) (kR rfl c.MOST_ROOMS) (cz eo)))))) (ae (bq (qf hr (D_need_none base) (a2 cy (qf hr (D_first_wrong_door base) (a3 (pv 3) (pv 2) (qf hr (D_door_signs base) (a2 (pv 0) (pv 1))))))))))))) (by walk_at "b")
theorem jF:dU P w K mg:=fun base=>dG X G T.f_doors_by_start (fun S _ _ _ _ _ _ _ _ _ hr hu h=>bK (jc h) (ac (qs 2 S mD) (ac (bP bI rfl (bu (pv 0)) (gn 3 S) (ae (jL hu (pv 2) (pv 3) (cz eo) rfl))) (ac (bP bI rfl (bu (pv 1)) (gn 4 S) (ae (bq (iT ei g_ g9 cL (ph hu (pv 2) (xq (pv 4) ah) (fun _ _=>rfl)) (a1 (pv 4)))))) (ae (ar (pv 2))))))) (by walk_at "b")
theorem jE:dS P w K mg:=fun base=>dG X G T.f_has_asks_alone (fun S _ _ _ _ _ _ _ _ _ hr hu h=>bK (jK h) (ae (ar (qB (ef rfl) z.all lT (a1 (qc (bu (pv 0)) (aR (by decide)) fun _ _ _ _ _ _=>⟨gc 0,bD,vd ij (xq (xq (pv 0) ah) ah) cy⟩)))))) (by walk_at "b")
theorem r9(D_as_keys:gu P w K mg)(D_goals_by_start_and_sign:bJ P w K mg)(D_led_by_still:fx P w K mg)(D_first_led_round:dE P w K mg)(D_need_none:fN P w K mg)(D_need_parts:gM P w K mg)(D_doors_by_start:dU P w K mg)(D_has_asks_alone:dS P w K mg):ox P w K mg C:=fun base=>dN c.cm c.makes c.kc T.f_Machine___init__ (fun S _ _ _ _ _ _ _ _ _ hr hu h=>bK (vU c.mc h) (ac (bq (qf hr (D_need_parts base) (bw (pv 1) (a3 (pv 2) (pv 3) (pv 4))))) (ac (ig (pv 0) (qL rfl z.list (a1 (pv 1))) rfl) (ac (ig (pv 0) (qL rfl z.list (a1 (pv 2))) rfl) (ac (ig (pv 0) (qL rfl z.list (a1 (pv 3))) rfl) (ac (ig (pv 0) (qL rfl z.list (a1 (pv 4))) rfl) (ac (ig (pv 0) (qf hr (D_doors_by_start base) (a2 (pv 3) (pv 4))) rfl) (ac (ig (pv 0) (qf hr (D_as_keys base) (a1 (qc (bu (pv 3)) (aR (by decide)) fun _ _ _ _ _ _=>⟨gc 0,pf (bo (qf hr (D_has_asks_alone base) (a1 (ph hu (gE (pv 1) rfl) (pv 0) (fun _ _=>rfl))))),pv 0⟩))) rfl) (ac (ig (pv 0) (qf hr (D_goals_by_start_and_sign base) (a1 (pv 4))) rfl) (ac (ig (pv 0) (nY (pV rfl) rfl z.dict sU (a1 (qc (bu (pv 3)) (aR (by decide)) fun _ _ _ _ _ _=>⟨gc 0,bD,cP (a2 (pv 0) (qf hr (D_led_by_still base) (a2 (gE (pv 1) rfl) (pv 0))))⟩))) rfl) (ae (bq (qf hr (D_need_none base) (a2 cy (qf hr (D_first_led_round base) (a2 (pv 3) (gE (pv 0) rfl))))))))))))))))) (by walk_at "b")
theorem lq:fA P w K mg C:=fun base=>dM c.mc.cls T.f_Machine_asks (fun S _ _ _ _ _ _ _ _ _ hr hu h=>bK (xy c.mc h) (ae (ar (qL rfl z.list (a1 (gE (pv 0) rfl)))))) (by walk_at "b")
theorem lp:fz P w K mg C:=fun base=>dM c.mc.cls T.f_Machine_says (fun S _ _ _ _ _ _ _ _ _ hr hu h=>bK (xw c.mc h) (ae (ar (qL rfl z.list (a1 (gE (pv 0) rfl)))))) (by walk_at "b")
theorem kf:eC P w K mg C:=fun base=>dM c.mc.cls T.f_Machine_rooms (fun S _ _ _ _ _ _ _ _ _ hr hu h=>bK (vR c.mc h) (ae (ar (qL rfl z.list (a1 (gE (pv 0) rfl)))))) (by walk_at "b")
theorem kg:eD P w K mg C:=fun base=>dM c.mc.cls T.f_Machine_doors (fun S _ _ _ _ _ _ _ _ _ hr hu h=>bK (vV c.mc h) (ae (ar (qL rfl z.list (a1 (gE (pv 0) rfl)))))) (by walk_at "b")
theorem gZ:cH P w K mg C:=fun base=>dM c.mc.cls T.f_Machine_doors_from (fun S _ _ _ _ _ _ _ _ _ hr hu h=>bK (nr c.mc h) (ae (ar (qL rfl z.list (a1 (qR hu (gE (pv 0) rfl) (pv 1) (cP eo) ⟨rfl,rfl,rfl,rfl⟩)))))) (by walk_at "b")
theorem iL:c7 P w K mg C:=fun base=>dM c.mc.cls T.f_Machine_is_quiet (fun S _ _ _ _ _ _ _ _ _ hr hu h=>bK (qN c.mc h) (ae (ar (pi (pk hu (pv 1) (gE (pv 0) rfl)))))) (by walk_at "b")
theorem qH:jv P w K mg:=fun base=>by
  have E0:jX P w K mg base "_law_same" ["found","due"] 0 zH:=by
   obtain⟨f,a,t⟩:=T.f_law_same;obtain⟨fd,F⟩:=t.fun_;exact⟨f,fd,zP,dH X G a,F.kp,F.binds (ps:=["found","due"]) (by walk_at "b")⟩
  have st:∀(j:Nat) (sp:Sp),j<=8->(∀m,j=m+1->sp=(fm K m))->jX P w K mg base "_law_same" ["found","due"] j sp->jX P w K mg base "_law_same" ["found","due"] (j+1) (fm K j):=fun j sp hj hsp Ds=>dG X G T.f_law_same (fun S _ _ _ _ _ _ _ _ _ hr hu h=>bK (qM hsp h) (ac (aP (fO (kh (pv 1))) (ae (ar (pi (kh (pv 0))))) aD) (ac (aP (bo (qB az z.isinstance aA (a2 (pv 1) (cb rfl z.bool)))) (ae (ar (dz (qB az z.isinstance aA (a2 (pv 0) (cb rfl z.bool))) (fQ (vd (fR hu) (pv 0) (pv 1)))))) aD) (ac (aP (bo (qB az z.isinstance aA (a2 (pv 1) (eP rfl z.str)))) (ae (ar (dz (qB az z.isinstance aA (a2 (pv 0) (eP rfl z.str))) (fQ (vd (fR hu) (pv 0) (pv 1)))))) aD) (ac (aP (bo (qB az z.isinstance aA (a2 (pv 1) (eQ rfl z.int)))) (ae (ar (dz (qB az z.isinstance aA (a2 (pv 0) (eQ rfl z.int))) (dz (sB (qB az z.isinstance aA (a2 (pv 0) (cb rfl z.bool)))) (fQ (vd (fR hu) (pv 0) (pv 1))))))) aD) (ac (aP (PW.pt (jd (bo (qB az z.isinstance aA (a2 (pv 1) (c_ rfl z.tuple)))) (gA (fq (bo (qB az z.isinstance aA (a2 (pv 0) (c_ rfl z.tuple)))))))) (ae (ar dw)) aD) (ac (aP (PW.pt (jd (bo (qB az z.isinstance aA (a2 (pv 1) (dP rfl z.list)))) (gA (fq (bo (qB az z.isinstance aA (a2 (pv 0) (dP rfl z.list)))))))) (ae (ar dw)) aD) (ac (aP (m9 qU (ql z.len (a1 (pv 0))) (ql z.len (a1 (pv 1)))) (ae (ar dw)) aD) (ae (ar (qB (ef rfl) z.all lT (a1 (qc (lM rfl z.zip (a2 (pv 0) (pv 1))) (pq (eR (aR (by decide)) cM (eR (aR (by decide)) cM (mF) (eT)) (jg cM (eT)))) fun _ _ _ _ _ _=>⟨fP rfl (aQ (gc 0) (aQ (gc 1) dY)),bD,t8 Ds hr rfl (a2 (pv 0) (pv 1))⟩))))))))))))) (by walk_at "b");have E1:=st 0 _ (by decide) (fun m e=>by cases e) E0;have E2:=st 1 _ (by decide) (fun m e=>by cases e;rfl) E1;have E3:=st 2 _ (by decide) (fun m e=>by cases e;rfl) E2;have E4:=st 3 _ (by decide) (fun m e=>by cases e;rfl) E3;exact dG X G T.f_law_same (fun S _ _ _ _ _ _ _ _ _ hr hu h=>by rcases h with h|⟨_,_,h⟩;(exact bK (qM (fun m e=>by cases e;rfl) h) (ac (aP (fO (kh (pv 1))) (ae (ar (pi (kh (pv 0))))) aD) (ac (aP (bo (qB az z.isinstance aA (a2 (pv 1) (cb rfl z.bool)))) (ae (ar (dz (qB az z.isinstance aA (a2 (pv 0) (cb rfl z.bool))) (fQ (vd (fR hu) (pv 0) (pv 1)))))) aD) (ac (aP (bo (qB az z.isinstance aA (a2 (pv 1) (eP rfl z.str)))) (ae (ar (dz (qB az z.isinstance aA (a2 (pv 0) (eP rfl z.str))) (fQ (vd (fR hu) (pv 0) (pv 1)))))) aD) (ac (aP (bo (qB az z.isinstance aA (a2 (pv 1) (eQ rfl z.int)))) (ae (ar (dz (qB az z.isinstance aA (a2 (pv 0) (eQ rfl z.int))) (dz (sB (qB az z.isinstance aA (a2 (pv 0) (cb rfl z.bool)))) (fQ (vd (fR hu) (pv 0) (pv 1))))))) aD) (ac (aP (PW.pt (jd (bo (qB az z.isinstance aA (a2 (pv 1) (c_ rfl z.tuple)))) (gA (fq (bo (qB az z.isinstance aA (a2 (pv 0) (c_ rfl z.tuple)))))))) (ae (ar dw)) aD) (ac (aP (PW.pt (jd (bo (qB az z.isinstance aA (a2 (pv 1) (dP rfl z.list)))) (gA (fq (bo (qB az z.isinstance aA (a2 (pv 0) (dP rfl z.list)))))))) (ae (ar dw)) aD) (ac (aP (m9 qU (ql z.len (a1 (pv 0))) (ql z.len (a1 (pv 1)))) (ae (ar dw)) aD) (ae (ar (qB (ef rfl) z.all lT (a1 (qc (lM rfl z.zip (a2 (pv 0) (pv 1))) (pq (eR (aR (by decide)) cM (eR (aR (by decide)) cM (mF) (eT)) (jg cM (eT)))) fun _ _ _ _ _ _=>⟨fP rfl (aQ (gc 0) (aQ (gc 1) dY)),bD,t8 E4 hr rfl (a2 (pv 0) (pv 1))⟩)))))))))))));(exact bK (vQ h) (ac (aP (fO (kh (pv 1))) (ae (ar (pi (kh (pv 0))))) aD) (ac (aP (bo (qB az z.isinstance aA (a2 (pv 1) (cb rfl z.bool)))) (ae (ar (dz (qB az z.isinstance aA (a2 (pv 0) (cb rfl z.bool))) (fQ (vd ij (pv 0) (pv 1)))))) aD) (ac (aP (bo (qB az z.isinstance aA (a2 (pv 1) (eP rfl z.str)))) (ae (ar (dz (qB az z.isinstance aA (a2 (pv 0) (eP rfl z.str))) (fQ (vd (fR hu) (pv 0) (pv 1)))))) aD) (ac (aP (bo (qB az z.isinstance aA (a2 (pv 1) (eQ rfl z.int)))) (ae (ar (dz (qB az z.isinstance aA (a2 (pv 0) (eQ rfl z.int))) (dz (sB (qB az z.isinstance aA (a2 (pv 0) (cb rfl z.bool)))) (fQ (vd (fR hu) (pv 0) (pv 1))))))) aD) (ac (aP (PW.pt (jd (bo (qB az z.isinstance aA (a2 (pv 1) (c_ rfl z.tuple)))) (gA (fq (bo (qB az z.isinstance aA (a2 (pv 0) (c_ rfl z.tuple)))))))) (ae (ar dw)) aD) (ac (aP (PW.pt (jd (bo (qB az z.isinstance aA (a2 (pv 1) (dP rfl z.list)))) (gA (fq (bo (qB az z.isinstance aA (a2 (pv 0) (dP rfl z.list)))))))) (ae (ar dw)) aD) (ac (aP (m9 qU (ql z.len (a1 (pv 0))) (ql z.len (a1 (pv 1)))) (ae (ar dw)) aD) (ae (ar (qB (ef rfl) z.all lT (a1 (qc (lM rfl z.zip (a2 (pv 0) (pv 1))) (pq (eR (aR (by decide)) cM (eR (aR (by decide)) cM (mF) (eT)) (jg cM (eT)))) fun _ _ _ _ _ _=>⟨fP rfl (aQ (gc 0) (aQ (gc 1) dY)),bD,t8 E4 hr rfl (a2 (pv 0) (pv 1))⟩)))))))))))))) (by walk_at "b") (l:=fun vs H Q E h=>by rcases h with h|h;(exact yE h);(obtain⟨_,_,h,_⟩:=h;subst h;rfl))
theorem oZ(M_Machine_asks:fA P w K mg C)(M_Machine_says:fz P w K mg C)(M_Machine_rooms:eC P w K mg C)(M_Machine_doors:eD P w K mg C):lf P w K mg C:=fun base=>dG X G T.f_law_parts (fun S _ _ _ _ _ _ _ _ _ hr hu h=>bK (uU (K:=K) h) (ac (qs 2 S (cz (bw ii (a3 ii ii ii)))) (ac (bP bI rfl (dO rfl z.range (a1 ah)) (gn 3 S) (ac (qs 4 S (aF cQ (aF bQ (pv 1) (pv 3)) ah)) (ae (aP (m9 ij (pv 4) ah) (ae (gB (Aq hr (M_Machine_asks base) (pv 0)) (gD (pv 2) ah dg))) (ae (aP (m9 ij (pv 4) ah) (ae (gB (Aq hr (M_Machine_says base) (pv 0)) (gD (pv 2) ah dg))) (ae (aP (m9 ij (pv 4) ah) (ae (gB (Aq hr (M_Machine_rooms base) (pv 0)) (gD (pv 2) ah dg))) (ae (gB (Aq hr (M_Machine_doors base) (pv 0)) (gD (pv 2) ah dg))))))))))) (ae (ar (pv 2)))))) (by walk_at "b")
theorem mx(M_Machine_doors_from:cH P w K mg C)(M_Machine_is_quiet:c7 P w K mg C)(D_law_same:jv P w K mg):iW P w K mg C:=fun base=>dG X G T.f_law_room_is (fun S _ _ _ _ _ _ _ _ _ hr hu h=>bK (uT h) (ac (Ap 4 S (bu (xq (pv 1) ah)) (aR (by decide)) fun _ _ _ _ _ _=>⟨gc 0,pf (m9 (fR hu) (xq (pv 0) ah) (pv 1)),pv 0⟩) (ac (qs 5 S (vd (fR hu) (qc (bu (pv 4)) (aR (by decide)) fun _ _ _ _ _ _=>⟨gc 0,pf (m9 qU (xq (xq (pv 0) ah) ah) cy),pv 0⟩) (cz eo))) (ac (qs 6 S ii) (ac (aP (m9 ij (aF cQ (pv 3) ah) ah) (ae (qs 6 S (qm hr (M_Machine_is_quiet base) (pv 0) (a1 (pv 2))))) aD) (ac (qs 7 S (qm hr (M_Machine_doors_from base) (pv 0) (a1 (pv 2)))) (ac (aP (m9 ij (aF cQ (pv 3) ah) ah) (ae (qs 6 S (qm hr (M_Machine_is_quiet base) (pv 0) (a1 (pv 2))))) aD) (ac (aP (PW.pt (nX (fq (bo (qf hr (D_law_same base) (a2 (pv 7) (pv 4))))) (pd (fq (bo (qf hr (D_law_same base) (a2 (pv 6) (pv 5)))))))) (ae (ar dw)) aD) (ac (bq (pj ei PySem.F.slot_list_reverse PySem.F.type_list_reverse je (pv 7))) (ac (bq (iT ei g_ g9 cL (pv 7) (a1 (cP (a3 (pv 2) (cP (a2 cy (xl (xq (pv 1) ah) ah))) (pv 2)))))) (ae (ar dw)))))))))))) (by walk_at "b")
end
theorem zd(X:K.In h)(G:h.Ns bg mg)(z:Zs mg)(c:Cs K mg C Cx Ct a_STILL )(T:Ts K C Cx ):∃f fd,mg "law"=some (.ref f)/\(∀(s:Shared) (v:Value),lQ s fd ⟨[v],[]⟩ [("script",v)])/\∀base:Heap,iz P w K mg base CX0 7 f fd ["script"] (sp_law06 K):=by
 have D_law_spread:gP P w K mg:=ni X G z c T;have D_law_open:m7 P w K mg:=qI X G z c T;have D_law_anew:jw P w K mg:=qJ X G z c T;have D_law_take:fy P w K mg:=qG X G z c T D_law_spread;have D_law_names:iA P w K mg:=o0 X G z c T D_law_take;have D_law_put:kE P w K mg:=rY X G z c T;have D_law_draw_doors:dR P w K mg:=jD X G z c T D_law_take D_law_put;have D_law_model:lg P w K mg:=o5 X G z c T D_law_anew D_law_take D_law_names D_law_draw_doors;have D_is_name:kF P w K mg:=rZ X G z c T;have D_as_keys:gu P w K mg:=r8 X G z c T;have D_first_wrong_name:cZ P w K mg:=iM X G z c T D_is_name D_as_keys;have D_door_signs:gQ P w K mg:=nj X G z c T;have D_first_wrong_door:c6 P w K mg:=iN X G z c T D_as_keys;have D_goals_by_start_and_sign:bJ P w K mg:=fh X G z c T;have D_led_by_still:fx P w K mg:=lr X G z c T;have D_first_led_round:dE P w K mg:=ja X G z c T;have D_need_none:fN P w K mg:=oY X G z c T;have D_need_parts:gM P w K mg:=nh X G z c T D_first_wrong_name D_door_signs D_first_wrong_door D_need_none;have D_doors_by_start:dU P w K mg:=jF X G z c T;have D_has_asks_alone:dS P w K mg:=jE X G z c T;have D_Machine:ox P w K mg C:=r9 X G z c T D_as_keys D_goals_by_start_and_sign D_led_by_still D_first_led_round D_need_none D_need_parts D_doors_by_start D_has_asks_alone;have M_Machine_asks:fA P w K mg C:=lq X G z c T;have M_Machine_says:fz P w K mg C:=lp X G z c T;have M_Machine_rooms:eC P w K mg C:=kf X G z c T;have M_Machine_doors:eD P w K mg C:=kg X G z c T;have M_Machine_doors_from:cH P w K mg C:=gZ X G z c T;have M_Machine_is_quiet:c7 P w K mg C:=iL X G z c T;have D_law_same:jv P w K mg:=qH X G z c T;have D_law_parts:lf P w K mg C:=oZ X G z c T M_Machine_asks M_Machine_says M_Machine_rooms M_Machine_doors;have D_law_room_is:iW P w K mg C:=mx X G z c T M_Machine_doors_from M_Machine_is_quiet D_law_same;obtain⟨f,a,t⟩:=T.f_law06;obtain⟨oc,od,an,sl,kV,dc,pm,cd,ct,l,c1,k1⟩:=t;have F:=wu (st:=(iJ 37)) l c1 k1;have sc:gL uE v3 (bd (iJ 37)):=by walk_at "s"
 have S:=sc.nd;exact⟨f,_,dH X G a,fun s v=>.of_eq rfl,fun base=>F.ok (k:=6) sc (by walk_at "l") (fun _ _ _ _ _ _ _ _ hr h=>by have hu:=uh hr;exact bK (vT (C:=C) h) (ac (qs 1 S (qf hr (D_law_open base) (a1 (pv 0)))) (ac (qs 2 S (qf hr (D_law_take base) (a2 (pv 1) ah))) (ac (Ap 3 S (dO rfl z.range (a1 ah)) (aR (by decide)) fun _ _ _ _ _ _=>⟨gc 0,bD,qf hr (D_law_model base) (a3 (pv 1) ah (pv 0))⟩) (ac (Ap 4 S (bu (pv 3)) (aR (by decide)) fun _ _ _ _ _ _=>⟨gc 0,bD,qc (v4 (pv 0)) (aR (by decide)) fun _ _ _ _ _ _=>⟨gc 0,bD,qL rfl z.list (a1 (pv 0))⟩⟩) (ac (Ap 5 S (bu (pv 4)) (aR (by decide)) fun _ _ _ _ _ _=>⟨gc 0,bD,za (D_Machine base) (hr.mono (by decide)) rfl (bw (xl (pv 0) ah) (a3 (xl (pv 0) ah) (xl (pv 0) ah) (xl (pv 0) ah)))⟩) (ac (aP (m9 (v7 hu) (pv 4) (qc (bu (pv 3)) (aR (by decide)) fun _ _ _ _ _ _=>⟨gc 0,bD,qc (v4 (pv 0)) (aR (by decide)) fun _ _ _ _ _ _=>⟨gc 0,bD,qL rfl z.list (a1 (pv 0))⟩⟩)) (ae (ar dw)) aD) (ac (bP bI rfl (bu (pv 4)) (gn 6 S) (ae (bP bI rfl (bu (pv 6)) (gn 7 S) (ac (bq (pj ei PySem.F.slot_list_reverse PySem.F.type_list_reverse je (pv 7))) (ae (bq (iT ei g_ g9 cL (pv 7) (a1 cy)))))))) (ac (bP bI rfl (dO rfl z.range (a1 ah)) (gn 8 S) (ae (bP bI rfl (lM rfl z.zip (a2 (pv 5) (pv 3))) (fP rfl (aQ (gn 9 S) (aQ (gn 10 S) dY))) (ac (qs 11 S (qf hr (D_law_parts base) (a2 (pv 9) (aF bQ (pv 2) (pv 8))))) (ac (aP (fq (bo (qf hr (D_law_same base) (a2 (pv 11) (qL rfl z.list (a1 (pv 10))))))) (ae (ar dw)) aD) (ac (bP bI rfl (bu (pv 11)) (gn 7 S) (ac (bq (pj ei PySem.F.slot_list_reverse PySem.F.type_list_reverse je (pv 7))) (ae (bq (iT ei g_ g9 cL (pv 7) (a1 cy)))))) (ae (bP bI rfl (bu (xt (pv 10) ah)) (gn 12 S) (ae (aP (fq (bo (qf hr (D_law_room_is base) (bw (pv 9) (a3 (pv 10) (pv 12) (aF bQ (pv 2) (pv 8))))))) (ae (ar dw)) aD)))))))))) (ae (ar dw)))))))))))⟩
theorem all_mk{l:PySem.W.OpenLaw}{fa:Addr}{nmX qX:Str}{NX:Addr}{bsX subX:Zf}{snX:Zb}{abX:Bool}{colX:Option Bool}{ddX:Option Addr}{k0X k1X k2X k3X k5X:Option Value}{nmT qT:Str}{NT:Addr}{bsT subT:Zf}{snT:Zb}{abT:Bool}{colT:Option Bool}{ddT:Option Addr}{k0T k1T k2T k3T k5T:Option Value}{u_LETTERS:Value}{u_LONGEST_NAME:Value}{u_MOST_WORDS:Value}{u_MOST_ROOMS:Value}{u_MOST_DOORS:Value}{o_STILL:Obj}{i_STILL:Array Value}{n_STILL:Nat}(X:K.In h)(G:h.Ns bg mg)(hfa:mg "law"=some (.ref fa))
  (aC:bA K bg "Machine"=some (some (.ref C)))
  (pg:qq K C Str.empty=true)
  (hd:tH K C=true)
  (po:PySem.W.plainOver K C=true)
  (sa:bH K (.ref C) "__setattr__"=some (some (.builtin "object.__setattr__")))
  (mk:qo K C=true)
  (kc:eX K (.ref C)=true)
  (na1:bH K (.ref C) "own_asks"=some none)
  (na2:bH K (.ref C) "own_says"=some none)
  (na3:bH K (.ref C) "own_rooms"=some none)
  (na4:bH K (.ref C) "own_doors"=some none)
  (na5:bH K (.ref C) "leaving"=some none)
  (na6:bH K (.ref C) "quiet"=some none)
  (na7:bH K (.ref C) "sign_goals"=some none)
  (na8:bH K (.ref C) "still_led"=some none)
  (aX:bA K bg "NoMachine"=some (some (.ref Cx)))
  (aT:bA K bg "TrialError"=some (some (.ref Ct)))
  (xo:K.lookup Cx=some (oy nmX qX Cx NX bsX (.ref Ct::mm) true snX subX abX colX ddX k0X k1X k2X k3X k5X "ValueError.__new__"))
  (xsa:bH K (.ref Cx) "__setattr__"=some (some (.builtin "object.__setattr__")))
  (xga:bH K (.ref Cx) "__getattribute__"=some (some (.builtin "BaseException.__getattribute__")))
  (xgx:bH K (.ref Cx) "__getattr__"=some none)
  (xp:bH K (.ref Cx) "part"=some none)
  (xn:bH K (.ref Cx) "number"=some none)
  (xs1:PySem.W.subIn K (.ref Cx) (.type "BaseException")=some true)
  (xs2:PySem.W.isClsIn K Cx=true)
  (xs3:PySem.W.typeIn K (.ref Cx)=some (.type "type"))
  (xs4:PySem.W.subIn K (.ref Cx) (.ref Cx)=some true)
  (xrd:PySem.W.readsIn K Ct (.type "type")=true)
  (xfi:PySem.W.findCls K (.ref Ct) (.type "type") "__init__"=some (.val (.builtin "ValueError.__init__")))
  (xgt:tG K (.ref Ct) "__getattribute__"=some (some (.builtin "type.__getattribute__")))
  (kx:eX K (.ref Cx)=true)
  (xcl:bH K (.ref Cx) "__class__"=some (some (.builtin "object.__class__")))
  (xgn:tG K (.builtin "object.__class__") "__get__"=some (some (.builtin "getset_descriptor.__get__")))
  (xgk:PySem.W.takesIn K (.builtin "object.__class__")=some true)
  (xoT:K.lookup Ct=some (oy nmT qT Ct NT bsT mm true snT subT abT colT ddT k0T k1T k2T k3T k5T "ValueError.__new__"))
  (nd:[Ct,Cx].Nodup)
  (z_all:bA K bg "all"=some none)
  (z_bool:bA K bg "bool"=some none)
  (z_dict:bA K bg "dict"=some none)
  (z_enumerate:bA K bg "enumerate"=some none)
  (z_int:bA K bg "int"=some none)
  (z_isinstance:bA K bg "isinstance"=some none)
  (z_len:bA K bg "len"=some none)
  (z_list:bA K bg "list"=some none)
  (z_range:bA K bg "range"=some none)
  (z_str:bA K bg "str"=some none)
  (z_tuple:bA K bg "tuple"=some none)
  (z_zip:bA K bg "zip"=some none)
  (g_LETTERS:bA K bg "LETTERS"=some (some u_LETTERS))
  (r_LETTERS:RelV (.str "abcdefghijklmnopqrstuvwxyz") u_LETTERS)
  (g_LONGEST_NAME:bA K bg "LONGEST_NAME"=some (some u_LONGEST_NAME))
  (r_LONGEST_NAME:RelV (.int 8) u_LONGEST_NAME)
  (g_MOST_WORDS:bA K bg "MOST_WORDS"=some (some u_MOST_WORDS))
  (r_MOST_WORDS:RelV (.int 4) u_MOST_WORDS)
  (g_MOST_ROOMS:bA K bg "MOST_ROOMS"=some (some u_MOST_ROOMS))
  (r_MOST_ROOMS:RelV (.int 150) u_MOST_ROOMS)
  (g_MOST_DOORS:bA K bg "MOST_DOORS"=some (some u_MOST_DOORS))
  (r_MOST_DOORS:RelV (.int 2000) u_MOST_DOORS)
  (g_STILL:bA K bg "STILL"=some (some (.ref a_STILL)))
  (l_STILL:K.lookup a_STILL=some o_STILL)
  (c_STILL:o_STILL.cls=.type "tuple")
  (d_STILL:o_STILL.data=.seq i_STILL n_STILL)
  (s_STILL:i_STILL.size<=am)
  (v_STILL:aH (bb.map V.str) i_STILL.toList)
  (T:Ts K C Cx )
 :∃fd:gR,(∀(s:Shared) (v:Value),lQ s fd ⟨[v],[]⟩ [("script",v)])/\∀base:Heap,K.In base->base.Ns bg mg->iz l.prog w K mg base CX0 7 fa fd ["script"] (sp_law06 K):=by
 have z:Zs mg:=⟨eh X G z_all,eh X G z_bool,eh X G z_dict,eh X G z_enumerate,eh X G z_int,eh X G z_isinstance,eh X G z_len,eh X G z_list,eh X G z_range,eh X G z_str,eh X G z_tuple,eh X G z_zip⟩;have c:Cs K mg C Cx Ct a_STILL :=⟨⟨_,dH X G g_LETTERS,r_LETTERS⟩,⟨_,dH X G g_LONGEST_NAME,r_LONGEST_NAME⟩,⟨_,dH X G g_MOST_WORDS,r_MOST_WORDS⟩,⟨_,dH X G g_MOST_ROOMS,r_MOST_ROOMS⟩,⟨_,dH X G g_MOST_DOORS,r_MOST_DOORS⟩,⟨_,dH X G g_STILL,rfl⟩,xa l_STILL c_STILL d_STILL s_STILL v_STILL,⟨⟨pg,hd,po,sa⟩,na1,na2,na3,na4,na5,na6,na7,na8⟩,dH X G aC,mk,kc,⟨⟨⟨_,_,_,_,_,_,_,_,_,_,_,_,_,_,_,xo,.own .base⟩,xsa,xga,xgx⟩,xp,xn,zg xs1 xs2 xs3 xs4⟩,⟨xrd,xfi,xgt⟩,dH X G aX,dH X G aT,kx,⟨⟨_,_,_,_,_,_,_,_,_,_,_,_,_,_,xoT⟩⟩,⟨xgn,xgk⟩,⟨dH X G aX,⟨⟨_,_,_,_,_,_,_,_,_,_,_,_,_,_,xo⟩⟩,xsa,xga,xgx,kx,xcl⟩,nd⟩;obtain⟨f,fd,e,b,k⟩:=zd (P:=l.prog) (w:=w) X G z c T;have e0:=hfa.symm.trans e;cases e0;exact⟨fd,b,fun base _ _=>k base⟩
end
end Mum
namespace PySem.W.Fast
def tw3963486654323193632:=0
def tw5707553492975834265:=0
def tw12766779743745517157:=0
def tw10542307510788916648:=0
def tw10403123586405125330:=0
def tw3754634744631776186:=0
def tw9739860568471193739:=0
def tw10766893524125445541:=0
def tw18168135628566028873:=0
def tw2966633844911254148:=0
def tw18082348242524441206:=0
def tw12111084914004229985:=0
def tw16007072899572390729:=0
def tw18085714937820483913:=0
def tw7843547449047265868:=0
def tw10590999551160013844:=0
def tw11384447395660014232:=0
def tw11593477518563819337:=0
def tw11849504877968694310:=0
def tw16593341637929053900:=0
def tw13982614492464655395:=0
def tw5825069845540433539:=0
def tw2895455170437282031:=0
def tw10415684039811747568:=0
def tw2720350115631003902:=0
def tw8290880479797930672:=0
def tw11662110415694179585:=0
def tw14968420806383209083:=0
def tw5712161528216399373:=0
def tw12025461653528855684:=0
def tw879191180065559467:=0
def tw5517235459279636847:=0
def tw7856492306448746933:=0
def tw12624629511770031531:=0
def tw1814387317135111644:=0
def tw6297613901348331164:=0
def tw18039411700220511427:=0
def tw4945250731737453437:=0
def tw2144793747459915199:=0
def tw6531520181758972878:=0
def tw7409518643688195620:=0
def tw8436430524840234957:=0
def tw7554320559944014719:=0
def tw3114353274737221037:=0
def tw9931202833752659490:=0
def tw6342106340408904100:=0
def tw7798518131567162523:=0
def tw13325566618057848850:=0
def tw8357124890093453076:=0
def tw7264065932524874668:=0
def tw3783018847228727145:=0
def tw7203758454190269745:=0
def tw1556663755217677245:=0
def tw17263357316625751942:=0
def tw16756777738063221830:=0
def tw9943740222833030411:=0
def tw16003409123887151361:=0
def tw1210679025898627686:=0
def tw13716507623188010535:=0
def tw9646186203208041796:=0
def tw14887944829196079834:=0
def tw1086658307873689246:=0
def tw11578343659435961300:=0
def tw9621080916771257387:=0
def tw12673278692022011384:=0
def tw15389591066217175589:=0
def tw7720102315132959885:=0
def tw10019694940995374822:=0
def tw3124054530280892336:=0
def tw3759382022736333747:=0
def tw745323922495787408:=0
def tw13108110804264122192:=0
def tw6199675905378644569:=0
def tw8630449004190075631:=0
def tw9892887593242512178:=0
def tw12232259227097624484:=0
def tw1182982893412450307:=0
def tw5504224109742653565:=0
def tw2678282227297479431:=0
def tw10528453573099665602:=0
def tw10710396096784422784:=0
def tw11165814074448638637:=0
def tw8764875279147350523:=0
def tw7278660403840888665:=0
def tw2939350456594790104:=0
def tw1482170613284759636:=0
def tw12751563913039509090:=0
def tw13546566065403455511:=0
def tw4535068489882589193:=0
def tw3034999783679339013:=0
def tw215802093946287878:=0
def tw6983449572829586663:=0
def tw10818287426447246891:=0
def tw12810844208021687646:=0
def tw623047657906601587:=0
def tw5845493029195464040:=0
def tw3961551116286897411:=0
def tw8916968871287049804:=0
def tw9219881055192866741:=0
def tw3773724146610188860:=0
def tw6030444693021528013:=0
def tw9801974426200203636:=0
def tw4668573217160718748:=0
def tw9381809691247515954:=0
def tw4185081218228660884:=0
def tw180763517384218197:=0
def tw10108339101722523564:=0
def tw11403969838862039405:=0
def tw8107665805023098903:=0
def tw16045516229972277399:=0
def tw1270891423955723642:=0
def tw560792684565259987:=0
def tw11692822860173429300:=0
def tw3263162453636892798:=0
def tw10144527329322295409:=0
def tw16845192917161465371:=0
def tw13978220462786177780:=0
def tw12566772622854750287:=0
def tw1413102044361980969:=0
def tw6121724492599581735:=0
def tw18359785977756719626:=0
def tw11210981406313534320:=0
def tw14963349873824179038:=0
def tw13775918661685912597:=0
def tw17726971487574193400:=0
def tw8707683457629155188:=0
def tw5943526131869625640:=0
def tw4065229576127717806:=0
def tw13178832734567380763:=0
def tw7299896747381071541:=0
def tw5584705372762442689:=0
def tw15516221802303139398:=0
def tw202153559068887442:=0
def tw9872427990837584040:=0
def tw7338264541204368949:=0
def tw9891947707021714440:=0
def tw4092905170525839107:=0
def tw2857480601684544803:=0
def tw15608832182026936093:=0
def tw9500538635778079882:=0
def tw9153006692129909611:=0
def tw2486392948774136086:=0
def tw2604386613409152162:=0
def tw17668831780342242564:=0
def tw5073001488406843786:=0
def tw10821713976825188832:=0
def tw14161619299254059520:=0
def tw7142280458504114669:=0
def tw11054051946493205687:=0
def tw1355954771831953091:=0
def tw15088740444223503695:=0
def tw15864597305966516407:=0
def tw15155586555608832090:=0
def tw3603415874304489127:=0
def tw1799614743110901814:=0
def tw10666711765423034246:=0
def tw3586058399913738417:=0
def tw2881352177466250044:=0
def tw1133897689616614920:=0
def tw2029541670390517006:=0
def tw7909621428937760580:=0
def tw14039028565220649094:=0
def tw7968412329304818049:=0
def tw13025572777081558104:=0
def tw1703605106531627106:=0
def tw14733766666421895042:=0
def tw8824250764718186741:=0
def tw728648934884314453:=0
def tw1354504634704015324:=0
def tw14740533683002358595:=0
def tw2118040568871067334:=0
def tw13207556882020123061:=0
def tw5411620341055898405:=0
def tw3525208735428266282:=0
def tw100585652707969877:=0
def tw2211550184384149087:=0
def tw17173515420386945312:=0
def tw12779052532630722154:=0
def tw3628217321820950036:=0
def tw4798775140962891672:=0
def tw357998719722367967:=0
def tw14925375143817087104:=0
def tw15423042193629231239:=0
def tw6838900498221216556:=0
def tw16243879134549887476:=0
def tw15256757983549543846:=0
def tw3498412848666201885:=0
def tw5810716319131136451:=0
def tw15748329271930392912:=0
def tw17767466122306486518:=0
def tw18037206189438903230:=0
def tw7378897242838183404:=0
def tw6665274186645022112:=0
def tw17411951684147074637:=0
def tw12383743924327562170:=0
def tw5662240953251558614:=0
def tw14183801536801604316:=0
def tw11714403007597030652:=0
def tw3580327446595818165:=0
def tw4613315666754712513:=0
def tw1877688174287632880:=0
def tw17924056120937067294:=0
def tw2524440553679440720:=0
def tw6534430332917644254:=0
def tw2051337886858993680:=0
def tw3410684359866999262:=0
def tw7683640255428978927:=0
def tw14599423616895183470:=0
def tw1961300161371141021:=0
def tw3647844838366702242:=0
def tw188788988439825481:=0
def tw6106337168594045760:=0
def tw380283318650521424:=0
def tw7729117296814539924:=0
def tw13002717533277812750:=0
def tw4948039210650858461:=0
def tw9484870628668544808:=0
def tw13933654302422005771:=0
def tw5249926064976952367:=0
def tw5234687667265243690:=0
def tw17597213426331624075:=0
def tw17809895679215079765:=0
def tw7389001919891371742:=0
def tw15641093869565796743:=0
def tw11947824610855054048:=0
def tw494761720748412563:=0
def tw6635634470424513579:=0
def tw3363147667102660828:=0
def tw549071439863313146:=0
def tw4510093685339889281:=0
def tw188855201420258199:=0
def tw11909927886179101052:=0
def tw18103394576328174711:=0
def tw17140285343778586901:=0
def tw14624243972341709164:=0
def tw539738826846643413:=0
def tw11284419368299345082:=0
def tw5123417587269074241:=0
def tw4462402775000679695:=0
def tw15667389961121616332:=0
def tw11251031570690074589:=0
def tw5914271526324296732:=0
def tw5417982251324546458:=0
def tw9969499906299404217:=0
def tw12264555966270123427:=0
def tw8780834766744462291:=0
def tw13394587361026504458:=0
def tw10127841701591216708:=0
def tw3508324257706273065:=0
def tw4913365313057223497:=0
def tw8811099383242425011:=0
def tw5343804379727042965:=0
def tw4071688429504118356:=0
def tw12785730870741423180:=0
def tw12595704606622546824:=0
def tw13524118524800498295:=0
def tw6521470474278197591:=0
def tw14970532861895066974:=0
def tw7775414880129302628:=0
def tw13184545997901657449:=0
def tw561668847446245758:=0
def tw17068791226746837593:=0
def tw16760607659950453310:=0
def tw18210102491179319909:=0
def tw10252104802666555075:=0
def tw2613170766181518659:=0
def tw3038642684147628185:=0
end PySem.W.Fast
open PySem PySem.W PyProof.Rows
set_option maxRecDepth 100000 in
set_option maxHeartbeats 0 in
theorem PySem.Challenge.cw_mumtrial_k06_what_is_told_holds : PySem.Challenge.rw_mumtrial_k06_what_is_told.Holds := by
 w_on;o_law;k_head;(case hw=>w_witness2)
 k_fill
 refine L2.walk_ofK (l:=PySem.Challenge.rw_mumtrial_k06_what_is_told) (n:=63) (k:=7) (x:="script") (CX:=L2.CX0) (sp:=Mum.sp_law06) rfl (by decide) rfl ⟨rfl,by decide,by decide⟩ (fun w h Y=>PySem.W.kIn_of Y) ?F (fun _ _ a ns hl _ hS=>⟨a,ns,rfl,hS,hl,fun _=>rfl⟩) (fun _ _ _ _ z=>z)
 case F =>
  intro w mg fa h KX G hmg;refine' Mum.all_mk KX G hmg ?aC ?pg ?hd ?po ?sa ?mk ?kc ?na1 ?na2 ?na3 ?na4 ?na5 ?na6 ?na7 ?na8 ?aX ?aT ?xo ?xsa ?xga ?xgx ?xp ?xn ?xs1 ?xs2 ?xs3 ?xs4 ?xrd ?xfi ?xgt ?kx ?xcl ?xgn ?xgk ?xoT ?nd ?z_all ?z_bool ?z_dict ?z_enumerate ?z_int ?z_isinstance ?z_len ?z_list ?z_range ?z_str ?z_tuple ?z_zip ?g_LETTERS ?r_LETTERS ?g_LONGEST_NAME ?r_LONGEST_NAME ?g_MOST_WORDS ?r_MOST_WORDS ?g_MOST_ROOMS ?r_MOST_ROOMS ?g_MOST_DOORS ?r_MOST_DOORS ?g_STILL ?l_STILL ?c_STILL ?d_STILL ?s_STILL ?v_STILL ?T
  (case aC|pg|hd|po|sa|mk|kc|na1|na2|na3|na4|na5|na6|na7|na8|aX|aT|xo|xsa|xga|xgx|xp|xn|xs1|xs2|xs3|xs4|xrd|xfi|xgt|kx|xcl|xgn|xgk|xoT=>k_is)
  (case nd=>decide)
  (case z_all|z_bool|z_dict|z_enumerate|z_int|z_isinstance|z_len|z_list|z_range|z_str|z_tuple|z_zip|g_LETTERS=>k_is)
  (case r_LETTERS=>exact⟨_,rfl⟩)
  (case g_LONGEST_NAME=>k_is)
  (case r_LONGEST_NAME=>exact⟨_,rfl⟩)
  (case g_MOST_WORDS=>k_is)
  (case r_MOST_WORDS=>exact⟨_,rfl⟩)
  (case g_MOST_ROOMS=>k_is)
  (case r_MOST_ROOMS=>exact⟨_,rfl⟩)
  (case g_MOST_DOORS=>k_is)
  (case r_MOST_DOORS=>exact⟨_,rfl⟩)
  (case g_STILL|l_STILL=>k_is)
  (case c_STILL|d_STILL=>rfl)
  (case s_STILL=>decide)
  (case v_STILL=>exact .cons ⟨_,rfl⟩ .nil)
  (case T=>constructor<;>first|(refine' Mum.fnG_mk ?a ?l ?c ?k;(case a=>k_is);(case l=>k_is);(case c=>k_is);(case k=>k_is))|(refine' Mum.fnM_mk ?a ?i ?l ?c ?k;(case a=>k_is);(case i=>k_is);(case l=>k_is);(case c=>k_is);(case k=>k_is)))
