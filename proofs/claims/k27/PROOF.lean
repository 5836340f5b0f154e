
import PyProof.Rows.All
import Wide.All
import OpenK.AllK
import Wide.FinOn
import Lean
import PyProof.EqAt
import PyProof.EqKinds
import PyProof.TupleCall
import PyProof.NeKinds
import PyProof.DictIter
import PyProof.DictWalks
import PyProof.RaisesMany
import PyProof.RulesAs
import PyProof.NsDelKeeps
import PyProof.InstStoreFacts
import PyProof.ExcClass3
import PyProof.ExcInit
import KE.KTryMore
import PyProof.AutoSeq1
import PyProof.WalkInts
import PyProof.DictItems
import PyProof.DictItemsLoops
import KE.KPairComp
import PyProof.DictValues
import PyProof.SumAny
import PySem.Challenge.RW_mumtrial_k27_two_under_one_door
noncomputable section
open PySem renaming Program->ck,wpAny_bind->ak,wpAny_specialOf->GJ,wpAny_call_entry->pH,wpAny_pure->aH,wpAny_rule->yD,Builtin->bZ,wpAny_isInstance->yI,wpAny_holding->lh,wpAny_truthy_bool->qU,wpAny_seqItems->mU,sizeLine->aj,sysModules->gG,mainGlobals->bV,bootBuiltins->i9,starEach->aL,wpAny_mono->jC,compareOp->em,behindInMarks->kN,standAt->qR,holding->kW,wpAny_execs_nil->Ck,swapsWith->qQ,assignEach->vj,wpAny_standAt->Cj,wpAny_passesOwn->sm,letOwnedTupleGo->Ci,wpAny_pyIter_list->yH,wpAny_pyIter_tuple->Cg,foldedSetIterable->yG,binaryOp->qP,sizeLine_eq->kM,getMethod->qO,codeAny->zzl77,attributeBase->sj,FuncData->kK,BindsTo->si,codeAny_mono->Ca,wpAny_Call_Name_kw->B_,callWith->vf,backToKw->oy,keywordEach->ox,NameKind->jz,mem_of_lookup->sR,getItem->nC,seqIndex?->wU,subscripted->wT,sliceBounds->nB,Keyword->pW,call_meets->nA,valueAt->nv,call_meetsIn->sL,callerA->lp,DictEntry->pT,wpAny_newObj_type->jo,ZipApart->pR,wpAny_pyIter_zip->wL,wpAny_callSpecial?_slot->k_,wpAny_field->e_,wpAny_setField->sJ,firstArgMember->pQ,wpAny_setField_rec->iN,wpAny_onRaise->wH,wpAny_letGo->wG,wpAny_attempt->pP,wpAny_dictEntries->nq,wpAny_notOrdered_dict->wC,codeAny_builtin->wB,plainId_quiet->wx,IsItemIter->iM,wpAny_dictEpoch->pO,wpAny_typeNameOfWhole_itemiter->wu,wpAny_typeNameOf_itemiter->wt,wpAny_fieldsOf->wr,setField->wq,wpAny_typeNameOfWhole_keyiter->wo,wpAny_typeNameOf_keyiter->wn,wpAny_loadPart'->h9
open PySem.Builtin.Tuple renaming tupleHashOf->Au
open Bool renaming false_ne_true->gK,not_true->Cn,false_eq_true->lr,false_and->Ch,eq_iff_iff->vi,and_false->wQ,and_eq_true->wM,true_and->sw
open Nat renaming add_assoc->EE,le_refl->aG,lt_of_lt_of_le->iL,lt_irrefl->qS,ne_of_lt->c6,le_trans->bL,le_of_lt->eo,ne_of_gt->gF,zero_le->df,le_succ->mS,sub_zero->ww,lt_or_ge->d6,min_eq_left->wk,mod_lt->sB,lt_trichotomy->wj,succ_mul->su,mul_le_mul->jk,pow_le_pow_right->wf,eq_zero_or_pos->sr,zero_add->we,le_succ_of_le->pI,mul_le_mul_left->sn
open List renaming append_nil->gJ,range->jD,mem_filter->be,mem_cons_self->cb,mem_cons_of_mem->cT,mem_cons->bM,mem_append->aX,mem_append_left->cB,getElem?_eq_some_iff->bO,mem_append_right->cS,length_cons->cZ,lookup->kL,map_cons->bb,length_map->ai,nodup_cons->kJ,length_take->aM,getElem?_append_right->lB,getElem?_append_left->c9,getElem?_map->bw,mem_of_getElem?->aR,length_append->az,map_nil->sQ,length_drop->fN,size_toArray->bC,reverse_cons->wR,length_singleton->nz,find?_cons->lA,any_cons->ny,cons_append->sM,length_nil->wP,nodup_nil->pV,lookup_cons->iO,forIn_cons->pS,mem_map->ap,not_mem_nil->sK,getElem?_eq_none->fx,any_toArray->wE,length_range->sG,drop_zero->jn,take_length->bt,getElem?_eq_getElem->aV,mem_singleton->bo,map_append->ay,nodup_append->cA,drop_of_length_le->wz,drop_eq_getElem_cons->sF,map_take->nj,map_drop->wm,foldl_cons->gP,mem_of_mem_take->fu,append_assoc->cU,nodup_iff_pairwise_ne->pL,map_map->sA,mem_map_of_mem->k5,getElem_mem->eI,getElem?_of_mem->eZ,take_append_drop->sy,foldl_append->j5,take_zero->pK,length_filter_le->h7,filter_append->sv,flatMap_append->wg,mem_flatMap->k4,getElem_idxOf->kZ,getD_eq_getElem?_getD->gM,getElem_of_mem->so,flatMap_cons->pJ,length_pos_iff->nh,idxOf_lt_length_iff->fM,ne_nil_of_mem->wc
open Option.some renaming inj->eA
open PySem.W renaming instObj->qT,lookIn->Cd,plainGet->vh,hasDictIn->yF,findIn->dw,isFn->yE,plainOver->Cc,makesIn->sk,emptyDict->oA,keepIn->iK,kitOne->vg,kia_one->jA,fnOf->iP,codeIn->nD,nsIn->cr,mg_of->gL,mg_none_of->fL
open PySem.Heap renaming lt_size->aY,SameBut->fD,get?_push_of_some->bj,get?_push_size->cK,size_push->oz,get?_update_self->wS
open PyProof.Rows renaming AllBare->oB,callWith_type1->Ce,IntsAre->fO
open Ne renaming symm->dA
open Array renaming length_toList->mT
open False renaming elim->jB
open True renaming intro->i8
open PySem.Calls renaming spliced_cons->Cb,callWith_builtin->sO
open Option renaming isSome_iff_exists->B1,map_some->sN,map_eq_some_iff->kY
open PySem.SeqAt renaming EqAt->bG
open Int renaming toNat_natCast->jp,emod_nonneg->pN,emod_lt_of_pos->pM,eq_ofNat_of_zero_le->jm
open PySem.Obj renaming mapSeq->sP,data_mapFields->wJ
open PySem.Paired renaming snoc->cG
open PySem.F renaming slot_dict_get->pU,entry_dict_get->wO,slot_tuple_iterator_next->wK,slot_zip_next->wF,slot_dict_itemiterator_next->sD,slot_dict_keyiterator_next->sC,plainAttrs_list->cF,slot_list_append->eX,type_list_append->eW
open ForInStep renaming yield->wN
open PySem.NameKind renaming free->lg
open PySem.Builtin.SmallTypes renaming nextOf->lc,ownedTupleIsFree->wI
open PySem.Str renaming ofString->k9
open PySem.Heap.SameBut renaming update->k7
open Classical renaming byContradiction->sI
open PySem.Builtin.Str renaming strSliceIndices->sH
open PySem.Txt renaming join->wD
open PySem.Around renaming under_plainId->wA
open PySem.Builtin.Dict renaming showsAll->wv
open PySem.Builtin.Dict_items renaming ownsTuple->sE
open PySem.PassesOwn renaming never->bh
theorem Q0:0<=PySem.sizeLine:=by decide
theorem Q1:1<=PySem.sizeLine:=by decide
theorem Q2:2<=PySem.sizeLine:=by decide
theorem Q3:3<=PySem.sizeLine:=by decide
theorem Q4:4<=PySem.sizeLine:=by decide
theorem Q6:6<=PySem.sizeLine:=by decide
theorem zzr0{p:Prop}[Decidable p](h:¬p):decide p=false:=decide_eq_false h
theorem zzr1{p:Prop}[Decidable p](h:p):decide p=true:=decide_eq_true h
abbrev Za:=PySem.W.Frag
abbrev Zb:=List PySem.Str
abbrev Zc:=PySem.Value->PySem.Shared->Prop
abbrev Zd:=List (PySem.Addr×PySem.Obj)
abbrev Ze:=List PySem.Addr
abbrev Zf:=List PySem.Value
section
set_option Elab.async false
set_option linter.all false
set_option maxRecDepth 100000
set_option maxHeartbeats 4000000
namespace L2
open PySem PySem.Spec PyProof.Rows
open Sem (wp)
abbrev eS:=Sum Int Str
def cL:eS->Value->Bool
 |.inl k,v=>Value.isInt k v
 |.inr x,v=>Value.isStrOf x v
def Jm(w:World):eS->Int
 |.inl k=>hashInt k
 |.inr x=>hashStr w x
theorem aw:∀{k:eS}{v:Value},cL k v=true->(∃i t,k=Sum.inl i/\v=Value.int i t)∨(∃x t,k=Sum.inr x/\v=Value.str x t)
 |.inl i,v,h=>by
  obtain⟨t,e⟩:=Value.isInt_shape (k:=i) (v:=v) h;exact .inl ⟨i,t,rfl,e⟩
 |.inr x,v,h=>by
  obtain⟨t,e⟩:=Value.isStrOf_shape (x:=x) (v:=v) h;exact .inr ⟨x,t,rfl,e⟩
theorem DV(i:Int)(t:Tok):cL (.inl i) (.int i t)=true:=by simp[cL,Value.isInt]
theorem DU(x:Str)(t:Tok):cL (.inr x) (.str x t)=true:=by simp[cL,Value.isStrOf]
theorem xO(a b:Int):decide ((Sum.inl a:eS)=Sum.inl b)=(a==b):=by
 by_cases e:a=b
 ·subst e;simp
 ·have h:¬(Sum.inl a:eS)=Sum.inl b:=fun q=>e (Sum.inl.inj q);rw[zzr0 h];exact(beq_eq_false_iff_ne.mpr e).symm
theorem xL(a b:Str):decide ((Sum.inr a:eS)=Sum.inr b)=decide (a=b):=by
 by_cases e:a=b
 ·subst e;simp
 ·have h:¬(Sum.inr a:eS)=Sum.inr b:=fun q=>e (Sum.inr.inj q);rw[zzr0 h,zzr0 e]
theorem xN(a:Int)(b:Str):decide ((Sum.inl a:eS)=Sum.inr b)=false:=zzr0 (fun q=>nomatch q)
theorem xM(a:Str)(b:Int):decide ((Sum.inr a:eS)=Sum.inl b)=false:=zzr0 (fun q=>nomatch q)
def bS(prog:ck)(w:World):PySem.KeyKind prog w eS where
 is:=cL
 hash:=Jm w
 inj:=fun v a b ha hb=>by
  rcases aw ha with⟨i,t,rfl,rfl⟩|⟨x,t,rfl,rfl⟩
  ·rcases aw hb with⟨j,u,rfl,e⟩|⟨y,u,rfl,e⟩
   ·injection e with e1 _;rw[e1]
   ·exact nomatch e
  ·rcases aw hb with⟨j,u,rfl,e⟩|⟨y,u,rfl,e⟩
   ·exact nomatch e
   ·injection e with e1 _;rw[e1]
 byValue:=fun k v h=>by
  rcases aw h with⟨i,t,rfl,rfl⟩|⟨x,t,rfl,rfl⟩<;>rfl
 pyHash:=fun hv h=>by
  rcases aw hv with⟨i,t,rfl,rfl⟩|⟨x,t,rfl,rfl⟩
  ·exact wpAny_pyHash_int h
  ·exact wpAny_pyHash_str h
 eqBool:=fun hu hv h=>by
  rcases aw hu with⟨i,t,rfl,rfl⟩|⟨x,t,rfl,rfl⟩
  ·rcases aw hv with⟨j,u,rfl,rfl⟩|⟨y,u,rfl,rfl⟩
   ·rw[xO]at h;exact wpAny_eqBool_int h
   ·rw[xN]at h;exact bG.int_str i t y u _ _ _ _ h
  ·rcases aw hv with⟨j,u,rfl,rfl⟩|⟨y,u,rfl,rfl⟩
   ·rw[xM]at h;exact bG.str_int x t j u _ _ _ _ h
   ·rw[xL]at h;exact wpAny_eqBool_str h
 «strs»:=fun k x t v h=>by
  rcases aw h with⟨i,u,rfl,e⟩|⟨y,u,rfl,e⟩
  ·exact nomatch e
  ·injection e with e1 _;subst e1;cases v<;>rfl
theorem zN(prog:ck)(w:World)(i:Int)(t:Tok):(bS prog w).is (.inl i) (.int i t)=true:=DV i t
theorem zM(prog:ck)(w:World)(x:Str)(t:Tok):(bS prog w).is (.inr x) (.str x t)=true:=DU x t
end L2
namespace L2
open PySem PySem.Spec PyProof.Rows
open Sem (wp)
inductive TK where
 |k (a:eS)
 |t (l:List TK)
mutual
def Ij:(x y:TK)->Decidable (x=y)
 |.k a,.k b=>if h:a=b then Decidable.isTrue (by rw[h])else Decidable.isFalse fun e=>h (by injection e)
 |.t l,.t m=>match decTKs l m with
  |Decidable.isTrue h=>Decidable.isTrue (by rw[h])
  |Decidable.isFalse h=>Decidable.isFalse fun e=>h (by injection e)
 |.k _,.t _=>Decidable.isFalse nofun
 |.t _,.k _=>Decidable.isFalse nofun
def decTKs:(x y:List TK)->Decidable (x=y)
 |[],[]=>Decidable.isTrue rfl
 |[],_::_=>Decidable.isFalse nofun
 |_::_,[]=>Decidable.isFalse nofun
 |a::l,b::m=>match Ij a b with
  |Decidable.isTrue h=>match decTKs l m with
   |Decidable.isTrue h'=>Decidable.isTrue (by rw[h,h'])
   |Decidable.isFalse h'=>Decidable.isFalse fun e=>h' (by injection e)
  |Decidable.isFalse h=>Decidable.isFalse fun e=>h (by injection e)
end
instance:DecidableEq TK:=Ij
mutual
def TK.depth:TK->Nat
 |.k _=>0
 |.t l=>TK.depths l+1
def TK.depths:List TK->Nat
 |[]=>0
 |a::r=>max (TK.depth a) (TK.depths r)
end
mutual
def TK.hash(w:World):TK->Int
 |.k a=>Jm w a
 |.t l=>reduceHash (Au (TK.hashs w l))
def TK.hashs(w:World):List TK->List Int
 |[]=>[]
 |a::r=>TK.hash w a::TK.hashs w r
end
mutual
def TK.draws:TK->Nat
 |.k _=>1
 |.t l=>TK.drawss l+1
def TK.drawss:List TK->Nat
 |[]=>0
 |a::r=>TK.draws a+TK.drawss r
end
mutual
def mO(h:Heap):TK->Value->Prop
 |.k a,v=>cL a v=true
 |.t l,v=>∃a o items n,v=.ref a/\h.get? a=some o/\o.cls=.type "tuple"/\o.data=.seq items n/\TAts h l items.toList
def TAts(h:Heap):List TK->List Value->Prop
 |[],vs=>vs=[]
 |k::r,vs=>∃v us,vs=v::us/\mO h k v/\TAts h r us
end
theorem mO.inj{h:Heap}:∀(d:Nat) {x y:TK}{v:Value},x.depth<=d->mO h x v->mO h y v->x=y:=by
 have key:∀(d:Nat) (ih:∀{x y:TK}{v:Value},x.depth<=d->mO h x v->mO h y v->x=y) (xs ys:List TK) (vs:Zf),TK.depths xs<=d->TAts h xs vs->TAts h ys vs->xs=ys:=by
  intro d ih xs
  induction xs with
  |nil =>
   intro ys vs _ hx hy;have hx':vs=[]:=hx;subst hx';cases ys with
   |nil=>rfl
   |cons y ys=>obtain⟨_,_,e,_⟩:=hy;cases e
  |cons x xs ihl =>
   intro ys vs hd hx hy;obtain⟨v,us,rfl,hx1,hx2⟩:=hx;cases ys with
   |nil=>have hy':v::us=[]:=hy;cases hy'
   |cons y ys =>
    obtain⟨v',us',e,hy1,hy2⟩:=hy;cases e;have hd':max x.depth (TK.depths xs)<=d:=hd;rw[ih (by omega) hx1 hy1,ihl ys us (by omega) hx2 hy2]
 have leaf:∀(a:eS) (l:List TK) (v:Value),mO h (.k a) v->mO h (.t l) v->False:=by
  intro a l v h1 h2;obtain⟨b,o,items,n,rfl,_⟩:=h2;rcases aw (show cL a (.ref b)=true from h1)with⟨_,_,_,e⟩|⟨_,_,_,e⟩<;>cases e
 have kk:∀(a b:eS) (v:Value),cL a v=true->cL b v=true->a=b:=by
  intro a b v h1 h2;rcases aw h1 with⟨i,t,rfl,rfl⟩|⟨i,t,rfl,rfl⟩
  ·rcases aw h2 with⟨j,u,rfl,e⟩|⟨j,u,rfl,e⟩
   ·cases e;rfl
   ·cases e
  ·rcases aw h2 with⟨j,u,rfl,e⟩|⟨j,u,rfl,e⟩
   ·cases e
   ·cases e;rfl
 intro d
 induction d with
 |zero =>
  intro x y v hd hx hy;cases x with
  |t l=>exact absurd hd (by show ¬(TK.depths l+1<=0);omega)
  |k a =>
   cases y with
   |k b=>rw[kk a b v hx hy]
   |t l=>exact(leaf a l v hx hy).elim
 |succ d ih =>
  intro x y v hd hx hy;cases x with
  |k a =>
   cases y with
   |k b=>rw[kk a b v hx hy]
   |t l=>exact(leaf a l v hx hy).elim
  |t l =>
   cases y with
   |k b=>exact(leaf b l v hy hx).elim
   |t l' =>
    obtain⟨a,o,items,n,rfl,ho,hc,hdt,hi⟩:=hx;obtain⟨a',o',items',n',e,ho',hc',hdt',hi'⟩:=hy;cases e;rw[ho]at ho';cases ho';rw[hdt]at hdt';injection hdt' with e1 _;subst e1;rw[key d (fun h1=>ih h1) l l' items.toList (by have:TK.depths l+1<=d+1:=hd;omega) hi hi']
theorem mO.mono{h h':Heap}(k:∀a o items n,h.get? a=some o->o.cls=.type "tuple"->o.data=.seq items n->h'.get? a=some o):∀(d:Nat) {x:TK}{v:Value},x.depth<=d->mO h x v->mO h' x v:=by
 have key:∀(d:Nat) (ih:∀{x:TK}{v:Value},x.depth<=d->mO h x v->mO h' x v) (xs:List TK) (vs:Zf),TK.depths xs<=d->TAts h xs vs->TAts h' xs vs:=by
  intro d ih xs
  induction xs with
  |nil=>intro vs _ hx;exact hx
  |cons x xs ihl =>
   intro vs hd hx;obtain⟨v,us,rfl,hx1,hx2⟩:=hx;have hd':max x.depth (TK.depths xs)<=d:=hd;exact⟨v,us,rfl,ih (by omega) hx1,ihl us (by omega) hx2⟩
 intro d
 induction d with
 |zero =>
  intro x v hd hx;cases x with
  |t l=>exact absurd hd (by show ¬(TK.depths l+1<=0);omega)
  |k a=>exact hx
 |succ d ih =>
  intro x v hd hx;cases x with
  |k a=>exact hx
  |t l =>
   obtain⟨a,o,items,n,rfl,ho,hc,hdt,hi⟩:=hx;exact⟨a,o,items,n,rfl,k a o items n ho hc hdt,hc,hdt,key d (fun h1=>ih h1) l _ (by have:TK.depths l+1<=d+1:=hd;omega) hi⟩
section
variable{prog:ck}{w:World}
theorem GO:∀(d:Nat) {A:Around}{E:Zc}{s:Shared}{k:TK}{v:Value}{Q:Int->Shared->Prop},k.depth<=d->A.units+d<cLine->mO s.heap k v->Q (k.hash w) { s with toks:=s.toks+k.draws } ->
  wpAny (model prog w) A (pyHash v) Q E s:=by
 intro d
 induction d with
 |zero =>
  intro A E s k v Q hd hu hk h;cases k with
  |t l=>exact absurd hd (by show ¬(TK.depths l+1<=0);omega)
  |k a=>exact(bS prog w).pyHash (k:=a) hk h
 |succ d ih =>
  intro A E s k v Q hd hu hk h;cases k with
  |k a=>exact(bS prog w).pyHash (k:=a) hk h
  |t l =>
   obtain⟨a,o,items,n,rfl,ho,hc,hdt,hi⟩:=hk;have hT:s.TypeIs (.ref a) "tuple":=⟨o,ho,hc⟩;have hdl:TK.depths l<=d:=by have:TK.depths l+1<=d+1:=hd;omega
   unfold pyHash
   first|unfold pyHashByItsType|skip
   first|refine ak (wpAny_cRoomFor_or (.inr (by omega)) ?_)|skip
   refine ak (GJ hT F.slot_tuple_hash.lookup ?_);show wpAny _ _ (if(some (Value.builtin "tuple.__hash__")==some Value.none)=true then _ else _) Q E s
   rw[if_neg (by rw[beq_builtin_none];exact gK)];refine ak (GJ hT F.slot_tuple_hash.lookup ?_);show wpAny _ _ (callSpecialIfBoundUnlessNone? (.ref a) "__hash__" _ >>= _) Q E s;refine ak (wpAny_callSpecialIfBoundUnlessNone?_slot hT F.slot_tuple_hash (pH F.slot_tuple_hash hT F.entry_tuple_hash ?_ (F.args_tuple_hash_1 _)));show wpAny _ _ (bZ.Tuple.tupleItemsOf (.ref a) >>= _) _ _ s;refine ak (wpAny_tupleItemsOf ho hdt ?_);refine ak ?_;rw[<-Array.forIn_toList];refine wpAny_forIn_list _
    (fun rest (b:Array Int) s'=>∃done left,l=done++left/\TAts s.heap left rest/\b.toList=TK.hashs w done/\s'={ s with toks:=s.toks+TK.drawss done })
    _ ?_ ?_ _ _ ⟨[],l,rfl,hi,rfl,rfl⟩
   ·rintro x rest b s' ⟨done,left,e,hl,hb,rfl⟩;cases left with
    |nil=>have hl':x::rest=[]:=hl;cases hl'
    |cons k' left =>
     obtain⟨x',rest',e',h1,h2⟩:=hl;cases e';have hdk:k'.depth<=d:=by
      have gen:∀(p:List TK),TK.depths (p++k'::left)<=d->k'.depth<=d:=by
       intro p
       induction p with
       |nil=>intro hp;have hp':max k'.depth (TK.depths left)<=d:=hp;omega
       |cons q p ihp=>intro hp;have hp':max q.depth (TK.depths (p++k'::left))<=d:=hp;exact ihp (by omega)
      exact gen done (by rw[<-e];exact hdl)
     have hs:TK.hashs w (done++[k'])=TK.hashs w done++[k'.hash w]:=by
      clear e hb
      induction done with
      |nil=>rfl
      |cons q p ihp=>show _::TK.hashs w (p++[k'])=_;rw[ihp];rfl
     have hdr:TK.drawss (done++[k'])=TK.drawss done+k'.draws:=by
      clear e hb hs
      induction done with
      |nil=>show k'.draws+0=0+k'.draws;omega
      |cons q p ihp=>show q.draws+TK.drawss (p++[k'])=q.draws+TK.drawss p+k'.draws;rw[ihp];omega
     refine ak (ih (k:=k') hdk (by show A.units+1+d<cLine;omega) h1 ?_)
     first
      |exact aH ⟨done++[k'],left,by rw[e];simp,h2,by rw[hs];simp[hb],by rw[hdr];simp[EE]⟩
      |exact ak (aH (aH ⟨done++[k'],left,by rw[e];simp,h2,by rw[hs];simp[hb],by rw[hdr];simp[EE]⟩))
   ·rintro b s' ⟨done,left,e,hl,hb,rfl⟩;cases left with
    |cons k' left=>obtain⟨_,_,e',_⟩:=hl;cases e'
    |nil =>
     rw[gJ]at e;subst e;show wpAny _ _ (retInt (Au b.toList)) _ _ _;rw[hb];refine wpAny_ret_mkInt ?_;have h':Q (reduceHash (Au (TK.hashs w l))) { s with toks:=s.toks+(TK.drawss l+1) }:=h;show wpAny _ _ (if(decide (-(2:Int) ^ 63<=Au (TK.hashs w l)) && decide (Au (TK.hashs w l)<2 ^ 63))=true then _ else _) Q E _
     unfold reduceHash at h';by_cases hr:(decide (-(2:Int) ^ 63<=Au (TK.hashs w l)) && decide (Au (TK.hashs w l)<2 ^ 63))=true
     ·rw[if_pos hr];rw[if_pos hr]at h';exact aH (by simpa[EE]using h')
     ·rw[if_neg hr];rw[if_neg hr]at h';exact ak (yD (aH (by simpa[EE]using h')))
theorem Dm(d:Nat)(ih:∀{A:Around}{E:Zc}{s:Shared}{x y:TK}{u v:Value}{Q:Bool->Shared->Prop},x.depth<=d->y.depth<=d->A.units+d<cLine->mO s.heap x u->mO s.heap y v->Q (decide (x=y)) s->wpAny (model prog w) A (eqBool u v) Q E s)
  {A:Around}{E:Zc}{s:Shared}{x y:List TK}{a b:Addr}{P:Fin->Shared->Prop}{oa ob:Obj}{xs ys:Array Value}{na nb:Nat}(hx:TK.depths x<=d) (hy:TK.depths y<=d) (hu:A.units+d<cLine)
  (hoa:s.heap.get? a=some oa) (hda:oa.data=.seq xs na) (hia:TAts s.heap x xs.toList) (hob:s.heap.get? b=some ob) (hcb:ob.cls=.type "tuple") (hdb:ob.data=.seq ys nb) (hib:TAts s.heap y ys.toList)
  (h:P (.done (.ret (.bool (decide (x=y))))) s):wpAny (model prog w) A (bZ.«tuple.__eq__» ⟨[.ref a,.ref b],[]⟩) P E s:=by
 have hTb:s.TypeIs (.ref b) "tuple":=⟨ob,hob,hcb⟩;show wpAny _ _ (isInstance (.ref b) (.type "tuple") >>= _) _ _ s;refine ak (yI hTb isSubtype_tuple_tuple ?_);simp only[Cn,lr,if_false];refine ak (wpAny_tupleItemsOf hoa hda ?_);refine ak (wpAny_tupleItemsOf hob hdb ?_);refine ak ?_;refine wpAny_forIn_list _
  (fun rest r s'=>r.1=none/\s'=s/\∃x' y' xs' ys',rest=List.zip xs' ys'/\TAts s.heap x' xs'/\TAts s.heap y' ys'/\TK.depths x'<=d/\TK.depths y'<=d/\decide (x'=y')=decide (x=y)/\(xs'.length==ys'.length)=(xs.size==ys.size))
  _ ?_ ?_ _ _ ⟨rfl,rfl,x,y,xs.toList,ys.toList,rfl,hia,hib,hx,hy,rfl,by simp⟩
 ·rintro⟨u,v⟩ rest r s' ⟨hr,rfl,x',y',xs',ys',hz,hx',hy',dx,dy,hdec,hlen⟩;cases x' with
  |nil =>
   have e:xs'=[]:=hx';subst e;simp at hz
  |cons k1 x'' =>
   obtain⟨u',xs'',rfl,h1,hx''⟩:=hx';cases y' with
   |nil =>
    have e:ys'=[]:=hy';subst e;simp at hz
   |cons k2 y'' =>
    obtain⟨v',ys'',rfl,h2,hy''⟩:=hy';simp only[List.zip_cons_cons,List.cons.injEq,Prod.mk.injEq]at hz;obtain⟨⟨rfl,rfl⟩,rfl⟩:=hz;have dx':max k1.depth (TK.depths x'')<=d:=dx;have dy':max k2.depth (TK.depths y'')<=d:=dy;refine ak (ih (x:=k1) (y:=k2) (by omega) (by omega) hu h1 h2 ?_);by_cases hk:k1=k2
    ·subst hk;rw[zzr1 rfl];simp only[Cn,lr,if_false];refine aH ⟨rfl,rfl,x'',y'',xs'',ys'',rfl,hx'',hy'',by omega,by omega,?_,by simpa using hlen⟩;rw[<-hdec];by_cases hxy:x''=y''
     ·simp[hxy]
     ·simp[hxy]
    ·rw[zzr0 hk];simp only[Bool.not_false,if_true];have hf:decide (x=y)=false:=by rw[<-hdec];simp[hk]
     rw[hf]at h;exact ak (aH (aH (aH h)))
 ·rintro⟨r1,r2⟩ s' ⟨hr,rfl,x',y',xs',ys',hz,hx',hy',dx,dy,hdec,hlen⟩;simp only at hr;subst hr;refine aH ?_;have hfin:(xs.size==ys.size)=decide (x=y):=by
   rw[<-hdec,<-hlen];cases x' with
   |nil =>
    have e:xs'=[]:=hx';subst e;cases y' with
    |nil=>have e:ys'=[]:=hy';subst e;simp
    |cons _ _=>obtain⟨_,_,rfl,_⟩:=hy';simp
   |cons _ _ =>
    obtain⟨_,_,rfl,_⟩:=hx';cases y' with
    |nil=>have e:ys'=[]:=hy';subst e;simp
    |cons _ _=>obtain⟨_,_,rfl,_⟩:=hy';simp at hz
  show P (.done (.ret (.bool (xs.size==ys.size)))) s';rw[hfin];exact h
theorem Jb:∀(d:Nat) {A:Around}{E:Zc}{s:Shared}{x y:TK}{u v:Value}{Q:Bool->Shared->Prop},x.depth<=d->y.depth<=d->A.units+d<cLine->mO s.heap x u->mO s.heap y v->Q (decide (x=y)) s ->
  wpAny (model prog w) A (eqBool u v) Q E s:=by
 have mixed1:∀{A:Around}{E:Zc}{s:Shared}{a:eS}{l:List TK}{u v:Value}{Q:Bool->Shared->Prop},A.units<cLine->mO s.heap (.k a) u->mO s.heap (.t l) v->Q false s->wpAny (model prog w) A (eqBool u v) Q E s:=by
  intro A E s a l u v Q hu hx hy h;obtain⟨b,o,items,n,rfl,ho,hc,hdt,hi⟩:=hy;have ht:s.heap.IsTuple b items:=⟨o,ho,hc,n,hdt⟩;rcases aw (show cL a u=true from hx)with⟨i,t,rfl,rfl⟩|⟨i,t,rfl,rfl⟩
  ·exact bG.int_tuple i t ht hu prog w E Q h
  ·exact bG.str_tuple i t ht hu prog w E Q h
 have mixed2:∀{A:Around}{E:Zc}{s:Shared}{a:eS}{l:List TK}{u v:Value}{Q:Bool->Shared->Prop},A.units<cLine->mO s.heap (.t l) u->mO s.heap (.k a) v->Q false s->wpAny (model prog w) A (eqBool u v) Q E s:=by
  intro A E s a l u v Q hu hx hy h;obtain⟨b,o,items,n,rfl,ho,hc,hdt,hi⟩:=hx;have ht:s.heap.IsTuple b items:=⟨o,ho,hc,n,hdt⟩;rcases aw (show cL a v=true from hy)with⟨i,t,rfl,rfl⟩|⟨i,t,rfl,rfl⟩
  ·exact bG.tuple_int i t ht hu prog w E Q h
  ·exact bG.tuple_str i t ht hu prog w E Q h
 have leaves:∀{A:Around}{E:Zc}{s:Shared}{a b:eS}{u v:Value}{Q:Bool->Shared->Prop},mO s.heap (.k a) u->mO s.heap (.k b) v->Q (decide (TK.k a=TK.k b)) s->wpAny (model prog w) A (eqBool u v) Q E s:=by
  intro A E s a b u v Q hx hy h;refine(bS prog w).eqBool (a:=a) (b:=b) hx hy ?_;by_cases e:a=b
  ·subst e;simpa using h
  ·have:¬(TK.k a=TK.k b):=fun z=>e (by injection z);rw[zzr0 this]at h;rw[zzr0 e];exact h
 intro d
 induction d with
 |zero =>
  intro A E s x y u v Q hdx hdy hu hx hy h;cases x with
  |t l=>exact absurd hdx (by show ¬(TK.depths l+1<=0);omega)
  |k a =>
   cases y with
   |t l=>exact absurd hdy (by show ¬(TK.depths l+1<=0);omega)
   |k b=>exact leaves hx hy h
 |succ d ih =>
  intro A E s x y u v Q hdx hdy hu hx hy h;cases x with
  |k a =>
   cases y with
   |k b=>exact leaves hx hy h
   |t l =>
    rw[zzr0 (by intro z;cases z)]at h;exact mixed1 (by omega) hx hy h
  |t l =>
   cases y with
   |k b =>
    rw[zzr0 (by intro z;cases z)]at h;exact mixed2 (by omega) hx hy h
   |t m =>
    have hl:TK.depths l<=d:=by have:TK.depths l+1<=d+1:=hdx;omega
    have hm:TK.depths m<=d:=by have:TK.depths m+1<=d+1:=hdy;omega
    have hx0:=hx;have hy0:=hy;obtain⟨a,oa,xs,na,rfl,hoa,hca,hda,hia⟩:=hx;obtain⟨b,ob,ys,nb,rfl,hob,hcb,hdb,hib⟩:=hy;have hTa:s.TypeIs (.ref a) "tuple":=⟨oa,hoa,hca⟩;have hTb:s.TypeIs (.ref b) "tuple":=⟨ob,hob,hcb⟩;have hd':decide (TK.t l=TK.t m)=decide (l=m):=by
     by_cases e:l=m
     ·subst e;simp
     ·have:¬(TK.t l=TK.t m):=fun z=>e (by injection z);rw[zzr0 this,zzr0 e]
    unfold eqBool
    try with_reducible refine lh ?_
    show wpAny _ _ (if(Value.ref a==Value.ref b)=true then _ else _) Q E s
    by_cases hab:(Value.ref a==Value.ref b)=true
    ·rw[if_pos hab];have e:a=b:=by have:=eq_of_beq hab;injection this
     subst e;have e2:TK.t l=TK.t m:=mO.inj _ (aG _) hx0 hy0;rw[zzr1 e2]at h;exact ak (yD (aH h))
    ·rw[if_neg hab];rw[hd']at h;exact ak (wpAny_richCompare_same_room (op:=.Eq) hTa hTb F.slot_tuple_eq
      (pH F.slot_tuple_eq hTa F.entry_tuple_eq (Dm d (fun h1 h2 h3 h4 h5 h6=>ih h1 h2 h3 h4 h5 h6) hl hm (by show A.units+1+d<cLine;omega) hoa hda hia hob hcb hdb hib ⟨_,rfl,(fun e=>nomatch e),qU h⟩) (F.args_tuple_eq_2 _ _)) (by omega))
theorem EM:∀(d:Nat) {A:Around}{E:Zc}{s:Shared}{k:TK}{v:Value}{Q:Bool->Shared->Prop},k.depth<=d->mO s.heap k v->Q true s->wpAny (model prog w) A (eqIsQuiet d v) Q E s:=by
 intro d
 induction d with
 |zero =>
  intro A E s k v Q hd hk h;cases k with
  |t l=>exact absurd hd (by show ¬(TK.depths l+1<=0);omega)
  |k a=>rw[eqIsQuiet_byValue _ ((bS prog w).byValue a v hk)];exact aH h
 |succ d ih =>
  intro A E s k v Q hd hk h;cases k with
  |k a=>rw[eqIsQuiet_byValue _ ((bS prog w).byValue a v hk)];exact aH h
  |t l =>
   have hl:TK.depths l<=d:=by have:TK.depths l+1<=d+1:=hd;omega
   obtain⟨a,o,items,n,rfl,ho,hc,hdt,hi⟩:=hk;have hT:s.TypeIs (.ref a) "tuple":=⟨o,ho,hc⟩;unfold eqIsQuiet;refine ak (GJ hT F.slot_tuple_eq.lookup ?_);show wpAny _ _ (isInstance (.ref a) (.type "tuple") >>= _) _ _ s;refine ak (yI hT isSubtype_tuple_tuple ?_);simp only[Cn,lr,if_false];refine ak (mU ho hdt ?_);refine ak ?_;show wpAny _ _ (forIn items _ _) _ _ s;rw[<-Array.forIn_toList];refine wpAny_forIn_list _ (fun rest r s'=>r.1=none/\s'=s/\∃left,TAts s.heap left rest/\TK.depths left<=d) _ ?_ ?_ _ _ ⟨rfl,rfl,l,hi,hl⟩
   ·rintro v rest r s' ⟨hr,rfl,left,hall,hdl⟩;cases left with
    |nil=>have e:v::rest=[]:=hall;cases e
    |cons k' left =>
     obtain⟨v',rest',e,h1,h2⟩:=hall;cases e;have hdl':max k'.depth (TK.depths left)<=d:=hdl;refine ak (ih (k:=k') (by omega) h1 ?_);simp only[Cn,lr,if_false];exact aH ⟨rfl,rfl,left,h2,by omega⟩
   ·rintro⟨r1,r2⟩ s' ⟨hr,rfl,_⟩;simp only at hr;subst hr;exact aH h
def dU(prog:ck)(w:World):HeapKind prog w TK where
 is:=fun h k a=>mO h k (.ref a)/\k.depth<=8
 hash:=TK.hash w
 draws:=TK.draws
 room:=fun A=>A.units+8<cLine
 inj:=fun hx hy=>mO.inj 8 hx.2 hx.1 hy.1
 keeps:=fun{h h' k a d o es ep} x ho hd hs=>⟨mO.mono (fun b ob items n hb _ hdb=>(hs.2 b fun e=>by
  subst e;rw[ho]at hb;cases hb;rw[hd]at hdb;cases hdb).trans hb) 8 x.2 x.1,x.2⟩
 pyHash:=fun hu hk h=>GO 8 hk.2 hu hk.1 h
 eqBool:=fun hu hx hy h=>Jb 8 hx.2 hy.2 hu hx.1 hy.1 h
 quiet:=fun hk h=>EM 8 hk.2 hk.1 h
end
end L2
namespace L2
open PySem PySem.Spec PyProof.Rows
inductive V where
 |non|bl (b:Bool)|int (i:Int)|str (x:Str)|byt (b:Array UInt8)|flt (b:UInt64)|ref (a:Addr)|ty (n:String)
 deriving DecidableEq
def RelV:V->Value->Prop
 |.non,u=>u=Value.none
 |.bl b,u=>u=Value.bool b
 |.int i,u=>∃t,u=Value.int i t
 |.str x,u=>∃t,u=Value.str x t
 |.byt b,u=>∃t,u=Value.bytes b t
 |.flt b,u=>∃t,u=Value.float b t
 |.ref a,u=>u=Value.ref a
 |.ty n,u=>u=Value.type n
abbrev aZ:List V->List Value->Prop:=Paired RelV
theorem aZ.length{xs:List V}{us:Zf}(r:aZ xs us):xs.length=us.length:=Paired.length r
theorem aZ.get:∀{xs:List V}{us:Zf}{i:Nat}{x:V},aZ xs us->xs[i]?=some x->∃u,us[i]?=some u/\RelV x u
 |_,_,_,_,.nil,e=>by simp at e
 |_,_,0,_,.cons r _,e=>by simp at e;subst e;exact⟨_,rfl,r⟩
 |_,_,i+1,x,.cons _ t,e=>by
  obtain⟨u,h1,h2⟩:=aZ.get (i:=i) (x:=x) t (by simpa using e);exact⟨u,by simpa using h1,h2⟩
theorem aZ.set{x:V}{u:Value}(r:RelV x u):∀{xs:List V}{us:Zf}(i:Nat),aZ xs us->aZ (xs.set i x) (us.set i u)
 |_,_,_,.nil=>.nil
 |_,_,0,.cons _ t=>.cons r t
 |_,_,i+1,.cons q t=>.cons q (aZ.set r i t)
theorem aZ.append:∀{xs ys:List V}{us ws:Zf},aZ xs us->aZ ys ws->aZ (xs++ys) (us++ws)
 |_,_,_,_,.nil,s=>s
 |_,_,_,_,.cons r t,s=>.cons r (aZ.append t s)
theorem aZ.take:∀{xs:List V}{us:Zf}(n:Nat),aZ xs us->aZ (xs.take n) (us.take n)
 |_,_,0,_=>.nil
 |_,_,_+1,.nil=>.nil
 |_,_,n+1,.cons r t=>.cons r (aZ.take n t)
theorem aZ.drop:∀{xs:List V}{us:Zf}(n:Nat),aZ xs us->aZ (xs.drop n) (us.drop n)
 |_,_,0,r=>r
 |_,_,_+1,.nil=>.nil
 |_,_,n+1,.cons _ t=>aZ.drop n t
def kT:Option V->Option Value->Prop
 |some v,some u=>RelV v u
 |none,none=>True
 |_,_=>False
def KV{κ:Type}:List (κ×V)->List (κ×Value)->Prop:=Paired fun(p:κ×V) (q:κ×Value)=>p.1=q.1/\RelV p.2 q.2
def kV:eS->V
 |.inl i=>.int i
 |.inr x=>.str x
inductive HO where
 |lst (xs:List V)
 |tup (xs:List V)
 |dK (kvs:List (eS×V))|dT (kvs:List (TK×V))
 |set (S:Int->Bool) (n:Nat)
 |ins (C dx:Addr) (fs:List (Str×V))
 |own (x:Addr)
 |xd (fs:List (Str×V))
 |met (f x:Addr)
 |rng (lo hi:Int)
 |frz (o:Obj) (u:HO)
 |tbl (ps:Array Value)
 |ext (φ:Heap->Prop)
abbrev Hp:=Addr->Option HO
mutual
def da(H:Hp):TK->V->Prop
 |.k a,v=>v=kV a
 |.t l,v=>∃b xs,v=.ref b/\H b=some (.tup xs)/\TKAts H l xs
def TKAts(H:Hp):List TK->List V->Prop
 |[],vs=>vs=[]
 |k::r,vs=>∃v us,vs=v::us/\da H k v/\TKAts H r us
end
def bB(K:Za)(H:Hp)(a:Addr)(xs:List V):Prop :=
 H a=some (.tup xs)∨∃(o:Obj) (its:Array Value) (n:Nat),K.lookup a=some o/\o.cls=.type "tuple"/\o.data=.seq its n/\its.size<=aj/\aZ xs its.toList
theorem bB.keeps{K:Za}{H H':Hp}{a:Addr}{xs:List V}(h:bB K H a xs)(ht:∀b xs,H b=some (.tup xs)->H' b=some (.tup xs)):bB K H' a xs:=h.imp (ht a xs) id
mutual
def nV(K:Za)(H:Hp):TK->V->Prop
 |.k a,v=>v=kV a
 |.t l,v=>∃b xs,v=.ref b/\bB K H b xs/\TKCs K H l xs
def TKCs(K:Za)(H:Hp):List TK->List V->Prop
 |[],vs=>vs=[]
 |k::r,vs=>∃v us,vs=v::us/\nV K H k v/\TKCs K H r us
end
theorem nV.keeps{K:Za}{H H':Hp}(ht:∀b xs,H b=some (.tup xs)->H' b=some (.tup xs)):∀(d:Nat) {k:TK}{v:V},k.depth<=d->nV K H k v->nV K H' k v:=by
 have key:∀(d:Nat) (ih:∀{k:TK}{v:V},k.depth<=d->nV K H k v->nV K H' k v) (xs:List TK) (vs:List V),TK.depths xs<=d->TKCs K H xs vs->TKCs K H' xs vs:=by
  intro d ih xs
  induction xs with
  |nil=>intro vs _ hx;exact hx
  |cons x xs ihl =>
   intro vs hd hx;obtain⟨v,us,rfl,hx1,hx2⟩:=hx;have hd':max x.depth (TK.depths xs)<=d:=hd;exact⟨v,us,rfl,ih (by omega) hx1,ihl us (by omega) hx2⟩
 intro d
 induction d with
 |zero =>
  intro k v hd hx;cases k with
  |t l=>exact absurd hd (by show ¬(TK.depths l+1<=0);omega)
  |k a=>exact hx
 |succ d ih =>
  intro k v hd hx;cases k with
  |k a=>exact hx
  |t l =>
   obtain⟨b,xs,rfl,hb,hi⟩:=hx;exact⟨b,xs,rfl,hb.keeps ht,key d (fun h1=>ih h1) l xs (by have:TK.depths l+1<=d+1:=hd;omega) hi⟩
theorem da.c{K:Za}{H:Hp}:∀(d:Nat) {k:TK}{v:V},k.depth<=d->da H k v->nV K H k v:=by
 have key:∀(d:Nat) (ih:∀{k:TK}{v:V},k.depth<=d->da H k v->nV K H k v) (xs:List TK) (vs:List V),TK.depths xs<=d->TKAts H xs vs->TKCs K H xs vs:=by
  intro d ih xs
  induction xs with
  |nil=>intro vs _ hx;exact hx
  |cons x xs ihl =>
   intro vs hd hx;obtain⟨v,us,rfl,hx1,hx2⟩:=hx;have hd':max x.depth (TK.depths xs)<=d:=hd;exact⟨v,us,rfl,ih (by omega) hx1,ihl us (by omega) hx2⟩
 intro d
 induction d with
 |zero =>
  intro k v hd hx;cases k with
  |t l=>exact absurd hd (by show ¬(TK.depths l+1<=0);omega)
  |k a=>exact hx
 |succ d ih =>
  intro k v hd hx;cases k with
  |k a=>exact hx
  |t l =>
   obtain⟨b,xs,rfl,hb,hi⟩:=hx;exact⟨b,xs,rfl,.inl hb,key d (fun h1=>ih h1) l xs (by have:TK.depths l+1<=d+1:=hd;omega) hi⟩
def upd(H:Hp)(a:Addr)(o:HO):Hp:=fun b=>if b=a then some o else H b
theorem aa{H:Hp}{a:Addr}{o:HO}:upd H a o a=some o:=by unfold upd;rw[if_pos rfl]
theorem ag{H:Hp}{a b:Addr}{o:HO}(h:b≠a):upd H a o b=H b:=by unfold upd;rw[if_neg h]
theorem rS{H:Hp}{a:Addr}{o u:HO}:upd (upd H a o) a u=upd H a u:=by
 funext b;unfold upd;split<;>rfl
theorem CO{H:Hp}{a b:Addr}{o u:HO}(h:H a=some o)(h':H b=some u)(d:o≠u):a≠b:=by
 intro e;subst e;rw[h]at h';exact d (eA h')
theorem ae{H:Hp}{a b:Addr}{o:HO}(h:H a=some o)(h':H b=none):a≠b:=by
 intro e;subst e;rw[h]at h';cases h'
section
variable(P:ck)(w:World)(K:Za)
def bW(H:Hp)(h:Heap)(a:Addr):HO->Prop
 |.lst xs=>xs.length<=aj/\∃(its:Zf) (n:Nat),aZ xs its/\h.get? a=some { cls:=.type "list",data:=.seq its.toArray n }
 |.tup xs=>xs.length<=aj/\∃its:List Value,aZ xs its/\IsTup h a its.toArray
 |.dK kvs=>kvs.length<=aj/\(a==gG)=false/\∃vs,KV kvs vs/\h.DictOf (bS P w) a vs
 |.dT kvs=>kvs.length<=aj/\(a==gG)=false/\∃xs:List (TK×Addr×Value),
   Paired (fun(p:TK×V) (q:TK×Addr×Value)=>p.1=q.1/\nV K H p.1 (.ref q.2.1)/\p.1.depth<=8/\RelV p.2 q.2.2) kvs xs /\
   ∃o es ep,h.get? a=some o/\o.ExactDict/\o.data=.dict es ep/\es.toList=xs.map (entryOfKey (dU P w))/\(xs.map (·.1)).Nodup
 |.set S n=>h.SetOf (intKind P w) a S n
 |.ins C dx fs=>H dx=some (.own a)/\fs.length<=1000/\dx≠a/\h.get? a=some (qT C dx) /\
   ∃mA,h.Ns1 dx mA/\(∀f,kT (fs.lookup f) (mA f))/\PySem.Within mA (fs.map (·.1))
 |.own _=>∃o,h.get? a=some o
 |.xd fs=>∃mA,h.Ns1 a mA/\∀f,kT (fs.lookup f) (mA f)
 |.rng lo hi=>∃t u v,h.get? a=some { cls:=.type "range",data:=.fields #[.int lo t,.int hi u,.int 1 v] }
 |.frz o u=>h.get? a=some o/\bW H h a u
 |.tbl ps=>h.get? a=some { cls:=.none,data:=.fields ps }
 |.met f x=>h.get? a=some (PySem.W.methodObj (.ref f) (.ref x))
 |.ext φ=>φ h/\(∃o,h.get? a=some o)/\∀h1 h2:Heap,φ h1->(∀o,h1.get? a=some o->h2.get? a=some o)->φ h2
def mF(H:Hp)(h:Heap):Prop:=∀a o,H a=some o->bW P w K H h a o
end
section
variable{P:ck}{w:World}{K:Za}{H H':Hp}{h h':Heap}{a:Addr}{o:HO}
theorem bW.lt(x:bW P w K H h a o):a<h.objs.size:=by
 cases o with
 |lst xs=>obtain⟨_,_,_,_,e⟩:=x;exact aY e
 |tup xs=>obtain⟨_,_,_,p⟩:=x;exact p.lt
 |dK kvs=>obtain⟨_,_,_,_,o,_,_,e,_⟩:=x;exact aY e
 |dT kvs=>obtain⟨_,_,_,_,o,_,_,e,_⟩:=x;exact aY e
 |set S n=>obtain⟨o,_,_,_,e,_⟩:=x;exact aY e
 |ins C dx fs=>obtain⟨_,_,_,e,_⟩:=x;exact aY e
 |own y=>obtain⟨_,e⟩:=x;exact aY e
 |xd fs=>obtain⟨_,⟨_,_,_,e,_⟩,_⟩:=x;exact aY e
 |rng lo hi=>obtain⟨_,_,_,e⟩:=x;exact aY e
 |frz ob u=>obtain⟨e,_⟩:=x;exact aY e
 |tbl ps=>exact aY (show h.get? a=some _ from x)
 |met f y=>exact aY (show h.get? a=some _ from x)
 |ext φ=>obtain⟨_,⟨_,e⟩,_⟩:=x;exact aY e
theorem Paired.mapP{α β:Type}{F G:α->β->Prop}:∀{l₁:List α}{l₂:List β},Paired F l₁ l₂->(∀a b,F a b->G a b)->Paired G l₁ l₂
 |_,_,.nil,_=>.nil
 |_,_,.cons r t,f=>.cons (f _ _ r) (Paired.mapP t f)
theorem bW.stay(x:bW P w K H h a o)(k:∀b u,(b=a∨H b=some (.own a))->h.get? b=some u->h'.get? b=some u)
  (ho:∀b,H b=some (.own a)->H' b=some (.own a)) (ht:∀b xs,H b=some (.tup xs)->H' b=some (.tup xs)):bW P w K H' h' a o:=by
 induction o with
 |lst xs=>obtain⟨z,its,n,r,e⟩:=x;exact⟨z,its,n,r,k _ _ (.inl rfl) e⟩
 |tup xs=>obtain⟨z,its,r,ob,e,c⟩:=x;exact⟨z,its,r,ob,k _ _ (.inl rfl) e,c⟩
 |dK kvs=>obtain⟨z,y,vs,r,ob,es,ep,e,c⟩:=x;exact⟨z,y,vs,r,ob,es,ep,k _ _ (.inl rfl) e,c⟩
 |dT kvs =>
  obtain⟨z,y,xs,r,ob,es,ep,e,c⟩:=x;exact⟨z,y,xs,Paired.mapP r fun p q z=>⟨z.1,nV.keeps ht 8 z.2.2.1 z.2.1,z.2.2⟩,ob,es,ep,k _ _ (.inl rfl) e,c⟩
 |set S n=>obtain⟨ob,es,ep,t,e,c⟩:=x;exact⟨ob,es,ep,t,k _ _ (.inl rfl) e,c⟩
 |ins C dx fs =>
  obtain⟨d,z,ne,e,mA,⟨od,es,ep,e2,c⟩,r⟩:=x;exact⟨ho _ d,z,ne,k _ _ (.inl rfl) e,mA,⟨od,es,ep,k _ _ (.inr d) e2,c⟩,r⟩
 |own y=>obtain⟨ob,e⟩:=x;exact⟨ob,k _ _ (.inl rfl) e⟩
 |xd fs=>obtain⟨mA,⟨od,es,ep,e,c⟩,r⟩:=x;exact⟨mA,⟨od,es,ep,k _ _ (.inl rfl) e,c⟩,r⟩
 |rng lo hi=>obtain⟨t,u,v,e⟩:=x;exact⟨t,u,v,k _ _ (.inl rfl) e⟩
 |frz ob u ih=>obtain⟨e,q⟩:=x;exact⟨k _ _ (.inl rfl) e,ih q⟩
 |tbl ps =>
  have e:h.get? a=some { cls:=.none,data:=.fields ps }:=x;show h'.get? a=some { cls:=.none,data:=.fields ps };exact k a _ (.inl rfl) e
 |met f y =>
  have e:h.get? a=some (PySem.W.methodObj (.ref f) (.ref y)):=x;show h'.get? a=some (PySem.W.methodObj (.ref f) (.ref y));exact k a _ (.inl rfl) e
 |ext φ=>obtain⟨p,⟨o,e⟩,st⟩:=x;exact⟨st _ _ p fun o q=>k _ _ (.inl rfl) q,⟨o,k _ _ (.inl rfl) e⟩,st⟩
theorem mF.lt(x:mF P w K H h)(e:H a=some o):a<h.objs.size:=(x a o e).lt
theorem mF.fresh(x:mF P w K H h)(e:h.objs.size<=a):H a=none:=by
 cases q:H a with
 |none=>rfl
 |some u=>exact absurd (iL (x.lt q) e) (qS _)
theorem mF.kept(x:mF P w K H h)(k:∀b u,h.get? b=some u->h'.get? b=some u):mF P w K H h':=fun a o e =>
 (x a o e).stay (fun b u _ q=>k b u q) (fun _ q=>q) fun _ _ q=>q
theorem mF.laid(x:mF P w K H h)(k:∀b u,h.get? b=some u->h'.get? b=some u)(hp:h.objs.size<=a)(new:bW P w K (upd H a o) h' a o):mF P w K (upd H a o) h':=fun b u e=>by
 have hn:=x.fresh hp;by_cases hb:b=a
 ·subst hb;rw[aa]at e;cases e;exact new
 ·rw[ag hb]at e;exact(x b u e).stay (fun c v _ q=>k c v q) (fun c q=>by rw[ag (ae q hn)];exact q) fun c xs q=>by rw[ag (ae q hn)];exact q
end
def Rd(H:Hp)(a:Addr)(u:HO):Prop:=H a=some u∨∃o,H a=some (.frz o u)
theorem Rd.ok{P:ck}{w:World}{K:Za}{H:Hp}{h:Heap}{a:Addr}{u:HO}(r:Rd H a u)(x:mF P w K H h):bW P w K H h a u:=by
 rcases r with r|⟨o,r⟩
 ·exact x a u r
 ·obtain⟨_,q⟩:=x a _ r;exact q
def Jw:Option HO->Prop
 |some (.lst _)=>True
 |some (.dK _)=>True
 |some (.dT _)=>True
 |some (.set _ _)=>True
 |some (.ins _ _ _)=>True
 |some (.ext _)=>True
 |_=>False
section
variable{P:ck}{w:World}{K:Za}{H:Hp}{h h':Heap}{x e:Addr}{o':HO}
theorem mF.write(ok:mF P w K H h)(mu:Jw (H x))(he:e=x∨H e=some (.own x))(k:∀b u,b≠e->h.get? b=some u->h'.get? b=some u)(heo:∃u,h'.get? e=some u)
  (new:bW P w K (upd H x o') h' x o'):mF P w K (upd H x o') h':=fun b u q=>by
 have nown:∀c y,H c=some (.own y)->c≠x:=fun c y r z=>by subst z;rw[r]at mu;exact mu
 have ntup:∀c xs,H c=some (.tup xs)->c≠x:=fun c xs r z=>by subst z;rw[r]at mu;exact mu
 by_cases hb:b=x
 ·subst hb;rw[aa]at q;cases q;exact new
 ·rw[ag hb]at q;by_cases hbe:b=e
  ·have q':H b=some (.own x):=by
    rcases he with z|z
    ·exact absurd (hbe.trans z) hb
    ·rw[hbe];exact z
   rw[q]at q';cases q';obtain⟨v,hv⟩:=heo;exact⟨v,by rw[hbe];exact hv⟩
  ·refine(ok b u q).stay (fun c v hc r=>k c v ?_ r) (fun c r=>by rw[ag (nown c b r)];exact r) fun c xs r=>by rw[ag (ntup c xs r)];exact r
   rcases hc with rfl|hc
   ·exact hbe
   ·rintro rfl;rcases he with z|z
    ·exact nown c b hc z
    ·rw[hc]at z;cases z;exact hb rfl
end
structure Un(fs ex:Ze)(H H':Hp)(h h':Heap):Prop where
 keep:∀b o,h.get? b=some o->H b=none->b∉fs->b∉ex->h'.get? b=some o
 slot:∀b o,h.get? b=some o->H b=none->b∈fs->b∉ex->∃sl,h'.get? b=some { o with slots:=sl }
 free:∀b o,h.get? b=some o->H b=none->b∉ex->H' b=none
 there:∀b o,h.get? b=some o->b∉ex->∃o',h'.get? b=some o'
 tups:∀b xs,H b=some (.tup xs)->H' b=some (.tup xs)
 frzs:∀b o u,H b=some (.frz o u)->H' b=some (.frz o u)
 tbls:∀b ps,H b=some (.tbl ps)->∃more,H' b=some (.tbl (ps++more))
section
variable{fs fs' ex ex':Ze}{H H1 H2:Hp}{h h1 h2 h':Heap}{a x e:Addr}{o:HO}
theorem Un.any(u:Un fs ex H H1 h h1){b:Addr}{ob:Obj}(q:h.get? b=some ob)(n:H b=none)(hx:b∉ex):∃sl,h1.get? b=some { ob with slots:=sl }:=by
 by_cases hb:b∈fs
 ·exact u.slot b ob q n hb hx
 ·exact⟨ob.slots,u.keep b ob q n hb hx⟩
theorem Un.kept(k:∀b u,h.get? b=some u->h'.get? b=some u):Un fs ex H H h h' :=
 ⟨fun b ob q _ _ _=>k b ob q,fun b ob q _ _ _=>⟨ob.slots,k b ob q⟩,fun _ _ _ n _=>n,fun b ob q _=>⟨ob,k b ob q⟩,fun _ _ q=>q,fun _ _ _ q=>q,fun _ ps q=>⟨#[],by rw[q];simp⟩⟩
theorem Un.refl:Un fs ex H H h h:=Un.kept fun _ _ q=>q
theorem Un.laid(k:∀b u,h.get? b=some u->h'.get? b=some u)(hp:h.objs.size<=a)(hn:H a=none):Un fs ex H (upd H a o) h h' where
 keep:=fun b u q _ _ _=>k b u q
 slot:=fun b u q _ _ _=>⟨u.slots,k b u q⟩
 free:=fun b u q n _=>by rw[ag (c6 (iL (aY q) hp))];exact n
 there:=fun b u q _=>⟨u,k b u q⟩
 tups:=fun b xs q=>by rw[ag (ae q hn)];exact q
 frzs:=fun b u xs q=>by rw[ag (ae q hn)];exact q
 tbls:=fun b ps q=>⟨#[],by rw[ag (ae q hn),q];simp⟩
theorem Un.write(mu:Jw (H x))(he:e=x∨H e=some (.own x))(k:∀b u,b≠e->h.get? b=some u->h'.get? b=some u)(heo:∃u,h'.get? e=some u):Un fs ex H (upd H x o) h h':=by
 have hx:∀b,H b=none->b≠x:=fun b n z=>by subst z;rw[n]at mu;exact mu
 have hb:∀b,H b=none->b≠e:=fun b n z=>by
  subst z;rcases he with r|r
  ·exact hx b n r
  ·rw[n]at r;cases r
 have hm:∀b u,H b=some u->¬Jw (some u)->b≠x:=fun b u q nm z=>by subst z;rw[q]at mu;exact nm mu
 refine⟨fun b u q n _ _=>k b u (hb b n) q,fun b u q n _ _=>⟨u.slots,k b u (hb b n) q⟩,fun b u q n _=>by rw[ag (hx b n)];exact n,fun b u q _=>?_,
  fun b xs q=>by rw[ag (hm b _ q fun z=>z)];exact q,fun b u xs q=>by rw[ag (hm b _ q fun z=>z)];exact q,fun b ps q=>⟨#[],by rw[ag (hm b _ q fun z=>z),q];simp⟩⟩
 by_cases hbe:b=e
 ·subst hbe;exact heo
 ·exact⟨u,k b u hbe q⟩
end
def JL(h:Heap)(H:Hp):List Addr:=(jD h.objs.size).filter fun a=>(H a).isSome
def xV(h:Heap)(H:Hp):Heap:=PySem.W.hideAll h (JL h H)
theorem D_(h:Heap)(H:Hp):(xV h H).objs.size=h.objs.size:=PySem.W.hideAll_size _ _
theorem FX{h:Heap}{H:Hp}{b:Addr}{o:Obj}(e:h.get? b=some o)(n:H b=none):(xV h H).get? b=some o :=
 PySem.W.hideAll_get _ e fun hm=>by
  have q:(H b).isSome=true:=(be.mp hm).2;rw[n]at q;simp at q
theorem Hm{h:Heap}{H:Hp}{b:Addr}{o:Obj}(e:(xV h H).get? b=some o):h.get? b=some o/\H b=none:=by
 have e':h.get? b=some o:=PySem.W.of_hideAll (JL h H) e;refine⟨e',?_⟩;cases q:H b with
 |none=>rfl
 |some x =>
  have hm:b∈JL h H:=be.mpr ⟨List.mem_range.mpr (aY e'),by simp[q]⟩;have z:(xV h H).get? b=none:=PySem.W.hideAll_none (JL h H) hm;rw[z]at e;cases e
end L2
namespace L2
open PySem PySem.Spec PyProof.Rows
structure Mod(K:Za)(mg:Str->Option Value)(base:Heap):Prop where
 kin:K.In base
 glob:base.Ns bV mg
 blt:∃mb,base.Ns builtinsNs mb/\∀x:Str,x≠"__name__"->mb x=i9 x
 nolimit:base.NoLimit
structure Cx where
 prog:ck
 w:World
 K:Za
 mg:Str->Option Value
 base:Heap
 A:Around
 N:List Str
 s₀:Shared
 H₀:Hp
 env:Env
 outer:List Env
 stack:List Env
 ex:List Addr
 fn:Str->Bool
 calm:Bool
 pn:List (Addr×Obj)
 xe:Value->Shared->Prop
def EC(l:List Env):List Addr:=l.filterMap (·.frame)
abbrev Cx.fs(X:Cx):List Addr:=EC X.outer
def JN(sc:Scope)(x:Str):Prop:=sc.names.lookup x=some .local∨sc.names.lookup x=some .cell∨sc.names.lookup x=some .free
def Loc(sc:Scope)(x:Str):Prop:=sc.names.lookup x=some .local∨sc.names.lookup x=some .cell
def Look(env:Env)(h:Heap)(m:Str->Option Value)(x:Str)(u:Value):Prop :=
 (env.kindOf x=some .local/\m x=some u)∨((env.kindOf x=some .cell∨env.kindOf x=some .free)/\∃c,env.cells.lookup x=some c/\h.IsCell c (some u))
structure Cx.Ok(X:Cx):Prop where
 mod:Mod X.K X.mg X.base
 kind:X.env.scope.kind=.function
 glob:X.env.globals=bV
 blt:X.env.builtins=builtinsNs
 above:X.s₀.heap.objs.size<=X.env.locals
 inj:∀x y c,X.env.cells.lookup x=some c->X.env.cells.lookup y=some c->x=y
 has:∀x,(X.env.kindOf x=some .cell∨X.env.kindOf x=some .free)->∃c,X.env.cells.lookup x=some c
 cab:∀x c,X.fn x=true->X.env.cells.lookup x=some c->X.s₀.heap.objs.size<=c
 hd:X.calm=true->X.A.handled=none
 frames:X.A.frames=some X.stack
 stk:X.stack=X.outer∨(X.stack=X.env::X.outer/\X.env.frame=some X.env.locals)
 exf:∀b∈X.ex,b≠X.env.locals/\∀x c,X.env.cells.lookup x=some c->c≠b
 bs:∀b o,X.base.get? b=some o->X.s₀.heap.get? b=some o/\X.H₀ b=none
 bsz:X.base.objs.size<=X.s₀.heap.objs.size
 noex:∀b o,X.base.get? b=some o->b∉X.ex
 exfs:∀b∈X.ex,b∉X.fs
 funs:X.s₀.heap.FunFrames X.base X.outer
 frf:∀b∈X.fs,X.H₀ b=none
structure Inv(X:Cx)(J3:Zd)(σ:List (Option V))(H:Hp)(s:Shared):Prop where
 ok:X.Ok
 os:s.os=X.s₀.os
 bare:oB s.gens
 base:Un X.fs X.ex X.H₀ H X.s₀.heap s.heap
 loc:∃m,s.heap.Ns X.env.locals m/\∀(i:Nat) (x:Str) (v:V),X.N[i]?=some x->σ[i]?=some (some v)->JN X.env.scope x->∃u,RelV v u/\Look X.env s.heap m x u
 cell:∀x c,X.env.cells.lookup x=some c->∃v,s.heap.IsCell c v
 free:H X.env.locals=none
 freeC:∀x c,X.env.cells.lookup x=some c->H c=none
 pin:∀p∈X.pn++J3,s.heap.get? p.1=some p.2/\H p.1=none/\p.1≠X.env.locals/\p.1∉X.fs/\∀v,p.2.data≠.cell v
 hok:mF X.prog X.w X.K H s.heap
 len:σ.length=X.N.length
section
variable{X:Cx}{J3:Zd}{σ:List (Option V)}{H H':Hp}{s:Shared}{h':Heap}
theorem Cx.Ok.nofr(ok:X.Ok){b:Addr}{o:Obj}(e:X.base.get? b=some o):b∉X.fs:=fun hb=>by
 have:=(ok.funs.mem hb).1;rw[e]at this;cases this
theorem Inv.bs(I:Inv X J3 σ H s):∀b o,X.base.get? b=some o->s.heap.get? b=some o/\H b=none:=fun b o e =>
 ⟨I.base.keep b o (I.ok.bs b o e).1 (I.ok.bs b o e).2 (I.ok.nofr e) (I.ok.noex b o e),I.base.free b o (I.ok.bs b o e).1 (I.ok.bs b o e).2 (I.ok.noex b o e)⟩
theorem Inv.bk(I:Inv X J3 σ H s):∀b o,X.base.get? b=some o->s.heap.get? b=some o:=fun b o e=>(I.bs b o e).1
theorem Inv.mod(I:Inv X J3 σ H s):Mod X.K X.mg X.base:=I.ok.mod
theorem Inv.kIn(I:Inv X J3 σ H s):X.K.In s.heap:=I.ok.mod.kin.keeps I.bk
theorem Inv.fr(I:Inv X J3 σ H s):∃m,Fr X.base X.env.locals s.heap m :=
 let⟨m,hn,_⟩:=I.loc
 ⟨m,hn,I.bk,bL I.ok.bsz I.ok.above⟩
theorem Inv.lt(I:Inv X J3 σ H s):X.env.locals<s.heap.objs.size:=let⟨_,hn,_⟩:=I.loc;hn.lt
theorem Inv.sz(I:Inv X J3 σ H s):X.s₀.heap.objs.size<=s.heap.objs.size:=bL I.ok.above (eo I.lt)
theorem Inv.nofs(I:Inv X J3 σ H s){a:Addr}(h:s.heap.objs.size<=a):a∉X.fs:=fun hb=>by
 obtain⟨_,o,ho,_⟩:=I.ok.funs.mem hb;exact absurd (iL (aY ho) (bL I.sz h)) (qS _)
theorem Inv.cne(I:Inv X J3 σ H s):∀x c,X.env.cells.lookup x=some c->c≠X.env.locals:=fun x c e z=>by
 obtain⟨v,o,ho,hd⟩:=I.cell x c e;obtain⟨m,⟨o',es,ep,ho',hd',_⟩,_⟩:=I.loc;rw[z,ho']at ho;cases ho;rw[hd']at hd;cases hd
theorem Inv.funs(I:Inv X J3 σ H s):s.heap.FunFrames X.base X.outer:=by
 have all:∀(l:List Env),(∀b∈EC l,b∈X.fs)->X.s₀.heap.FunFrames X.base l->s.heap.FunFrames X.base l:=by
  intro l
  induction l with
  |nil=>intro _ _;trivial
  |cons env r ih =>
   intro hs hl;obtain⟨hk,⟨L,o,hf,hn,ho,hd⟩,hr⟩:=hl;have hL:L∈X.fs:=hs L (by unfold EC;rw[List.filterMap_cons,hf];exact cb);obtain⟨sl,e⟩:=I.base.slot L o ho (I.ok.frf L hL) hL fun z=>I.ok.exfs L z hL;exact⟨hk,⟨L,_,hf,hn,e,hd⟩,ih (fun b hb=>hs b (by unfold EC;rw[List.filterMap_cons,hf];exact cT _ hb)) hr⟩
 exact all X.outer (fun _ hb=>hb) I.ok.funs
theorem Inv.stack(I:Inv X J3 σ H s):s.heap.FunFrames X.base X.stack:=by
 rcases I.ok.stk with e|⟨e,hf⟩
 ·rw[e];exact I.funs
 ·rw[e];obtain⟨m,hn,_⟩:=I.loc;refine .cons (by rw[I.ok.kind];decide) hf hn ?_ I.funs;exact Heap.get?_none_of_le (bL I.ok.bsz I.ok.above)
theorem Inv.stkSub(I:Inv X J3 σ H s):∀b∈EC X.stack,b∈X.env.locals::X.fs:=fun b hb=>by
 rcases I.ok.stk with e|⟨e,hf⟩
 ·rw[e]at hb;exact cT _ hb
 ·rw[e]at hb;unfold EC at hb;rw[List.filterMap_cons,hf]at hb;exact hb
theorem Inv.stkFree(I:Inv X J3 σ H s):∀b∈EC X.stack,H b=none:=fun b hb=>by
 rcases bM.mp (I.stkSub b hb)with e|hb
 ·rw[e];exact I.free
 ·obtain⟨_,o,ho,_⟩:=I.ok.funs.mem hb;exact I.base.free b o ho (I.ok.frf b hb) fun z=>I.ok.exfs b z hb
theorem Inv.step{g':Array GenState}{t':Nat}{d':Drawn}{ch:Ze}(I:Inv X J3 σ H s)
  (hch:∀b∈ch,(b∈X.ex∨X.s₀.heap.objs.size<=b)/\b≠X.env.locals/\(∀x c,X.env.cells.lookup x=some c->c≠b)/\∀p∈X.pn++J3,p.1≠b)
  (keep:∀b o,b≠X.env.locals->b∉X.fs->b∉ch->s.heap.get? b=some o->H b=none->h'.get? b=some o)
  (slot:∀b o,b≠X.env.locals->b∈X.fs->b∉ch->s.heap.get? b=some o->H b=none->∃sl,h'.get? b=some { o with slots:=sl }) (free:∀b o,b∉ch->s.heap.get? b=some o->H b=none->H' b=none)
  (there:∀b o,b∉ch->s.heap.get? b=some o->∃o',h'.get? b=some o')
  (tups:∀b xs,H b=some (.tup xs)->H' b=some (.tup xs)) (frzs:∀b o u,H b=some (.frz o u)->H' b=some (.frz o u)) (tbls:∀b ps,H b=some (.tbl ps)->∃more,H' b=some (.tbl (ps++more)))
  (ns:∀m,s.heap.Ns X.env.locals m->h'.Ns X.env.locals m) (hok:mF X.prog X.w X.K H' h') (hg:oB g') :
  Inv X J3 σ H' { s with heap:=h',gens:=g',drawn:=d',toks:=t' }:=by
 have neL:∀b o,X.s₀.heap.get? b=some o->b≠X.env.locals:=fun b o e=>c6 (iL (aY e) I.ok.above);have neC:∀b o,X.s₀.heap.get? b=some o->b∉X.ex->b∉ch:=fun b o e hx hb=>by
  rcases(hch b hb).1 with z|z
  ·exact hx z
  ·exact absurd (iL (aY e) z) (qS _)
 have cellK:∀x c,X.env.cells.lookup x=some c->∀v,s.heap.IsCell c v->h'.IsCell c v:=fun x c e v ⟨o,ho,hd⟩=>by
  have nch:c∉ch:=fun z=>(hch c z).2.2.1 x c e rfl;by_cases hc:c∈X.fs
  ·obtain⟨sl,q⟩:=slot c o (I.cne x c e) hc nch ho (I.freeC x c e);exact⟨_,q,hd⟩
  ·exact⟨o,keep c o (I.cne x c e) hc nch ho (I.freeC x c e),hd⟩
 refine⟨I.ok,I.os,hg,⟨fun b o e n hb hx=>?_,fun b o e n hb hx=>?_,fun b o e n hx=>?_,fun b o e hx=>?_,fun b xs e=>tups b xs (I.base.tups b xs e),fun b o xs e=>frzs b o xs (I.base.frzs b o xs e),fun b ps e=>?_⟩,?_,fun x c e=>?_,?_,fun x c e=>?_,fun p hp=>?_,hok,I.len⟩
 ·exact keep b o (neL b o e) hb (neC b o e hx) (I.base.keep b o e n hb hx) (I.base.free b o e n hx)
 ·obtain⟨sl,e1⟩:=I.base.slot b o e n hb hx;obtain⟨sl',e2⟩:=slot b _ (neL b o e) hb (neC b o e hx) e1 (I.base.free b o e n hx);exact⟨sl',e2⟩
 ·obtain⟨o',e1⟩:=I.base.there b o e hx;exact free b o' (neC b o e hx) e1 (I.base.free b o e n hx)
 ·obtain⟨o',e1⟩:=I.base.there b o e hx;exact there b o' (neC b o e hx) e1
 ·obtain⟨m1,e1⟩:=I.base.tbls b ps e;obtain⟨m2,e2⟩:=tbls b _ e1;exact⟨m1++m2,by rw[e2,Array.append_assoc]⟩
 ·obtain⟨m,hn,hl⟩:=I.loc;refine⟨m,ns m hn,fun i x v e1 e2 e3=>?_⟩;obtain⟨u,r,l⟩:=hl i x v e1 e2 e3;refine⟨u,r,?_⟩;rcases l with l|⟨k,c,e,z⟩
  ·exact .inl l
  ·exact .inr ⟨k,c,e,cellK x c e _ z⟩
 ·obtain⟨v,z⟩:=I.cell x c e;exact⟨v,cellK x c e v z⟩
 ·obtain⟨m,⟨o,_,_,ho,_⟩,_⟩:=I.loc;exact free _ o (fun z=>(hch _ z).2.1 rfl) ho I.free
 ·obtain⟨v,o,ho,hd⟩:=I.cell x c e;exact free c o (fun z=>(hch c z).2.2.1 x c e rfl) ho (I.freeC x c e)
 ·obtain⟨e,n,ne,nf,d⟩:=I.pin p hp;have nch:p.1∉ch:=fun z=>(hch p.1 z).2.2.2 p hp rfl;exact⟨keep p.1 p.2 ne nf nch e n,free p.1 p.2 nch e n,ne,nf,d⟩
theorem Inv.un{t':Nat}(I:Inv X J3 σ H s)(u:Un X.fs [] H H' s.heap h')(hok:mF X.prog X.w X.K H' h'):Inv X J3 σ H' { s with heap:=h',toks:=t' }:=by
 obtain⟨m,⟨o,es,ep,ho,r⟩,_⟩:=id I.loc;obtain⟨sl,hL⟩:=u.any ho I.free (by simp);exact I.step (g':=s.gens) (d':=s.drawn) (ch:=[]) (fun _ z=>nomatch z) (fun b o _ hb _ e n=>u.keep b o e n hb (by simp)) (fun b o _ hb _ e n=>u.slot b o e n hb (by simp)) (fun b o _ e n=>u.free b o e n (by simp)) (fun b o _ e=>u.there b o e (by simp)) u.tups u.frzs u.tbls (fun m' hm=>by
  obtain⟨o',es',ep',ho',r'⟩:=hm;rw[ho]at ho';cases ho';exact⟨_,es',ep',hL,r'⟩) hok I.bare
theorem Inv.call{g':Array GenState}{t':Nat}{d':Drawn}{ch:Ze}(I:Inv X J3 σ H s)(u:Un (EC X.stack) ch H H' s.heap h')(hok:mF X.prog X.w X.K H' h')(hg:oB g')
  (hch:∀b∈ch,(b∈X.ex∨X.s₀.heap.objs.size<=b)/\b≠X.env.locals/\(∀x c,X.env.cells.lookup x=some c->c≠b)/\∀p∈X.pn++J3,p.1≠b) :
  Inv X J3 σ H' { s with heap:=h',gens:=g',drawn:=d',toks:=t' }:=by
 obtain⟨m,⟨o,es,ep,ho,r⟩,_⟩:=id I.loc;obtain⟨sl,hL⟩:=u.any ho I.free fun z=>(hch _ z).2.1 rfl;exact I.step (ch:=ch) hch (fun b o hL hb hc e n=>u.keep b o e n (fun z=>(bM.mp (I.stkSub b z)).elim hL hb) hc) (fun b o _ _ hc e n=>u.any e n hc) (fun b o hc e n=>u.free b o e n hc) (fun b o hc e=>u.there b o e hc) u.tups u.frzs u.tbls (fun m' hm=>by
  obtain⟨o',es',ep',ho',r'⟩:=hm;rw[ho]at ho';cases ho';exact⟨_,es',ep',hL,r'⟩) hok hg
theorem Inv.turned{t':Nat}{it:Addr}(I:Inv X J3 σ H s)(k:∀b o,b≠it->s.heap.get? b=some o->h'.get? b=some o)(hn:H it=none)(hL:it≠X.env.locals)
  (h1:it∈X.ex∨X.s₀.heap.objs.size<=it) (h2:∀x c,X.env.cells.lookup x=some c->c≠it) (h3:∀p∈X.pn++J3,p.1≠it):Inv X J3 σ H { s with heap:=h',toks:=t' }:=by
 have nit:∀b u,H b=some u->b≠it:=fun b u e z=>by rw[z,hn]at e;cases e
 refine I.step (g':=s.gens) (d':=s.drawn) (ch:=[it]) (fun b hb=>?_) (fun b o _ _ hc e _=>k b o (fun z=>hc (by simp[z])) e) (fun b o _ _ hc e _=>⟨o.slots,k b o (fun z=>hc (by simp[z])) e⟩) (fun _ _ _ _ n=>n)
  (fun b o hc e=>⟨o,k b o (fun z=>hc (by simp[z])) e⟩) (fun _ _ e=>e) (fun _ _ _ e=>e) (fun b ps e=>⟨#[],by rw[e];simp⟩) (fun m hm=>?_) (fun b u e=>?_) I.bare
 ·have e:b=it:=by simpa using hb
  subst e;exact⟨h1,hL,h2,h3⟩
 ·obtain⟨o,es,ep,ho,r⟩:=hm;exact⟨o,es,ep,k _ o (dA hL) ho,r⟩
 ·refine(I.hok b u e).stay (fun c v hc q=>k c v ?_ q) (fun _ q=>q) fun _ _ q=>q;rcases hc with z|z
  ·rw[z];exact nit b u e
  ·exact nit c _ z
theorem Inv.tok(I:Inv X J3 σ H s)(t:Nat):Inv X J3 σ H { s with toks:=t }:=I.un (h':=s.heap) (t':=t) Un.refl I.hok
theorem Inv.kept{t':Nat}(I:Inv X J3 σ H s)(k:∀b u,s.heap.get? b=some u->h'.get? b=some u):Inv X J3 σ H { s with heap:=h',toks:=t' }:=I.un (Un.kept k) (I.hok.kept k)
theorem Inv.laid{a:Addr}{o:HO}{t':Nat}(I:Inv X J3 σ H s)(k:∀b u,s.heap.get? b=some u->h'.get? b=some u)(hp:s.heap.objs.size<=a)(new:bW X.prog X.w X.K (upd H a o) h' a o):
  Inv X J3 σ (upd H a o) { s with heap:=h',toks:=t' }:=I.un (Un.laid k hp (I.hok.fresh hp)) (I.hok.laid k hp new)
theorem Inv.write{x e:Addr}{o:HO}{t':Nat}(I:Inv X J3 σ H s)(mu:Jw (H x))(he:e=x∨H e=some (.own x))(k:∀b u,b≠e->s.heap.get? b=some u->h'.get? b=some u)(heo:∃u,h'.get? e=some u)
  (new:bW X.prog X.w X.K (upd H x o) h' x o):Inv X J3 σ (upd H x o) { s with heap:=h',toks:=t' }:=I.un (Un.write mu he k heo) (I.hok.write mu he k heo new)
theorem Inv.weak{σ':List (Option V)}(I:Inv X J3 σ H s)(hl:σ'.length=σ.length)(w:∀(i:Nat) v,σ'[i]?=some (some v)->σ[i]?=some (some v)):Inv X J3 σ' H s :=
 ⟨I.ok,I.os,I.bare,I.base,let⟨m,hn,hl'⟩:=I.loc;⟨m,hn,fun i x v e1 e2 e3=>hl' i x v e1 (w i v e2) e3⟩,I.cell,I.free,I.freeC,I.pin,I.hok,hl.trans I.len⟩
theorem Inv.pins_of{pins':Zd}(I:Inv X J3 σ H s)(h:∀p∈pins',s.heap.get? p.1=some p.2/\H p.1=none/\p.1≠X.env.locals/\p.1∉X.fs/\∀v,p.2.data≠.cell v):Inv X pins' σ H s :=
 ⟨I.ok,I.os,I.bare,I.base,I.loc,I.cell,I.free,I.freeC,fun p hp=>(aX.mp hp).elim (fun z=>I.pin p (cB _ z)) (h p),I.hok,I.len⟩
theorem zI{N:Zb}(hN:N.Nodup){i j:Nat}{x:Str}(a:N[i]?=some x)(b:N[j]?=some x):i=j:=by
 obtain⟨h1,e1⟩:=bO.mp a;obtain⟨h2,e2⟩:=bO.mp b;exact(List.getElem_inj hN).mp (e1.trans e2.symm)
theorem vx{M:Model}{A:Around}{E:Zc}{i:Nat}{x:Str}{v:V}{u:Value}{Q:Unit->Shared->Prop}(I:Inv X J3 σ H s)(hN:X.N.Nodup)(hi:X.N[i]?=some x)(hx:Loc X.env.scope x)(r:RelV v u)
  (h:∀s',Inv X J3 (σ.set i (some v)) H s'->(∃a,fD a s.heap s'.heap/\(a=X.env.locals∨X.env.cells.lookup x=some a))->Q () s') (hf:X.fn x=true∨X.env.scope.names.lookup x=some .local:=by first|exact .inl rfl|exact .inr rfl|assumption):wpAny M A (storeName X.env x u) Q E s:=by
 obtain⟨m,hn,hl⟩:=id I.loc;have hcls:(X.env.scope.kind==.class || (X.env.scope.kind==.module && X.env.locals != X.env.globals))=false:=by rw[I.ok.kind];rfl
 have hiσ:i<σ.length:=by rw[I.len];exact(bO.mp hi).1
 have cne:=I.cne;have tracked:∀{a:Addr}{h':Heap},(∃o,s.heap.get? a=some o/\H a=none)->fD a s.heap h'->mF X.prog X.w X.K H h':=fun{a h'} ha hs b ob e=>by
  obtain⟨_,_,hfree⟩:=ha;refine(I.hok b ob e).stay (fun c w' hc q=>(hs.2 c ?_).trans q) (fun _ q=>q) fun _ _ q=>q;rintro rfl;rcases hc with rfl|hc
  ·rw[hfree]at e;cases e
  ·rw[hfree]at hc;cases hc
 rcases hx with hk|hk
 ·refine wpAny_storeName_local hk hn (fun h' hn' hs=>?_) hcls;obtain⟨oL,_,_,hoL,_⟩:=id hn;refine h _ ⟨I.ok,I.os,I.bare,⟨fun b o e n hb hx=>?_,fun b o e n hb hx=>?_,I.base.free,fun b o e hx=>?_,I.base.tups,I.base.frzs,I.base.tbls⟩,⟨_,hn',fun j y v' e1 e2 e3=>?_⟩,fun y c e=>?_,I.free,I.freeC,fun p hp=>?_,tracked ⟨oL,hoL,I.free⟩ hs,by simpa using I.len⟩ ⟨_,hs,.inl rfl⟩
  ·exact(hs.2 b (c6 (iL (aY e) I.ok.above))).trans (I.base.keep b o e n hb hx)
  ·obtain⟨sl,e1⟩:=I.base.slot b o e n hb hx;exact⟨sl,(hs.2 b (c6 (iL (aY e) I.ok.above))).trans e1⟩
  ·obtain⟨o',e1⟩:=I.base.there b o e hx;exact⟨o',(hs.2 b (c6 (iL (aY e) I.ok.above))).trans e1⟩
  ·by_cases hj:j=i
   ·subst hj;rw[hi]at e1;cases e1;rw[List.getElem?_set_self hiσ]at e2;cases e2;exact⟨u,r,.inl ⟨hk,by simp⟩⟩
   ·rw[List.getElem?_set_ne (dA hj)]at e2;obtain⟨u',r',q⟩:=hl j y v' e1 e2 e3;refine⟨u',r',?_⟩;rcases q with⟨k,e⟩|⟨k,c,e,z⟩
    ·refine .inl ⟨k,?_⟩;have:y≠x:=fun e=>hj (zI hN e1 (e▸hi));simp[this,e]
    ·exact .inr ⟨k,c,e,z.sameBut hs (cne y c e)⟩
  ·obtain⟨w',z⟩:=I.cell y c e;exact⟨w',z.sameBut hs (cne y c e)⟩
  ·obtain⟨e,n,ne,nf,d⟩:=I.pin p hp;exact⟨(hs.2 p.1 ne).trans e,n,ne,nf,d⟩
 ·have hfn:X.fn x=true:=by
   rcases hf with z|z
   ·exact z
   ·rw[z]at hk;cases hk
  obtain⟨c,hc⟩:=I.ok.has x (.inl hk);obtain⟨w',z⟩:=I.cell x c hc;refine wpAny_storeName_cell I.ok.kind hk hc z (fun h' hc' hs=>?_);obtain⟨oc,hoc,hocd⟩:=id z;refine h { s with heap:=h' } ⟨I.ok,I.os,I.bare,⟨fun b o e n hb hx=>?_,fun b o e n hb hx=>?_,I.base.free,fun b o e hx=>?_,I.base.tups,I.base.frzs,I.base.tbls⟩,⟨m,hn.sameBut hs (dA (cne x c hc)),fun j y v' e1 e2 e3=>?_⟩,fun y c' e=>?_,I.free,I.freeC,fun p hp=>?_,tracked ⟨oc,hoc,I.freeC x c hc⟩ hs,by simpa using I.len⟩ ⟨c,hs,.inr hc⟩
  ·exact(hs.2 b (c6 (iL (aY e) (I.ok.cab x c hfn hc)))).trans (I.base.keep b o e n hb hx)
  ·obtain⟨sl,e1⟩:=I.base.slot b o e n hb hx;exact⟨sl,(hs.2 b (c6 (iL (aY e) (I.ok.cab x c hfn hc)))).trans e1⟩
  ·obtain⟨o',e1⟩:=I.base.there b o e hx;exact⟨o',(hs.2 b (c6 (iL (aY e) (I.ok.cab x c hfn hc)))).trans e1⟩
  ·by_cases hj:j=i
   ·subst hj;rw[hi]at e1;cases e1;rw[List.getElem?_set_self hiσ]at e2;cases e2;exact⟨u,r,.inr ⟨.inl hk,c,hc,hc'⟩⟩
   ·rw[List.getElem?_set_ne (dA hj)]at e2;obtain⟨u',r',q⟩:=hl j y v' e1 e2 e3;refine⟨u',r',?_⟩;rcases q with q|⟨k,c',e,z'⟩
    ·exact .inl q
    ·refine .inr ⟨k,c',e,z'.sameBut hs ?_⟩;rintro rfl;exact hj (zI hN e1 (I.ok.inj _ _ _ e hc▸hi))
  ·by_cases hcc:c'=c
   ·subst hcc;exact⟨_,hc'⟩
   ·obtain⟨w2,z2⟩:=I.cell y c' e;exact⟨w2,z2.sameBut hs hcc⟩
  ·obtain⟨e,n,ne,nf,d⟩:=I.pin p hp;refine⟨(hs.2 p.1 ?_).trans e,n,ne,nf,d⟩;intro q;rw[q,hoc]at e;have q':oc=p.2:=eA e;exact d w' (by rw[<-q'];exact hocd)
theorem tD{M:Model}{A:Around}{E:Zc}{i:Nat}{x:Str}{v:V}{u:Value}{Q:Unit->Shared->Prop}(I:Inv X J3 σ H s)(hN:X.N.Nodup)(hi:X.N[i]?=some x)(hx:Loc X.env.scope x)(r:RelV v u)
  (h:∀s',Inv X J3 (σ.set i (some v)) H s'->Q () s') (hf:X.fn x=true∨X.env.scope.names.lookup x=some .local:=by first|exact .inl rfl|exact .inr rfl|assumption):wpAny M A (storeName X.env x u) Q E s :=
 vx I hN hi hx r (fun s' I' _=>h s' I') hf
theorem Inv.call'{s':Shared}{ch:Ze}(I:Inv X J3 σ H s)(ho:s'.os=s.os)(u:Un (EC X.stack) ch H H' s.heap s'.heap)(hok:mF X.prog X.w X.K H' s'.heap)(hg:oB s'.gens)
  (hch:∀b∈ch,(b∈X.ex∨X.s₀.heap.objs.size<=b)/\b≠X.env.locals/\(∀x c,X.env.cells.lookup x=some c->c≠b)/\∀p∈X.pn++J3,p.1≠b):Inv X J3 σ H' s':=by
 obtain⟨h',g',d',t',o'⟩:=s';have e:o'=s.os:=ho;subst e;exact I.call (g':=g') (t':=t') (d':=d') u hok hg hch
end
abbrev XK:=Value->Option Addr->Hp->Prop
abbrev St:=List (Option V)
abbrev VK:=V->Hp->Prop
abbrev TE:=St->Hp->VK->Prop
abbrev TT:=St->Hp->(Bool->Hp->Prop)->Prop
abbrev TA:=St->Hp->(List V->Hp->Prop)->Prop
structure kU where
 nx:St->Hp->Prop
 rt:VK
 bk:St->Hp->Prop:=fun _ _=>False
 ct:St->Hp->Prop:=fun _ _=>False
abbrev bH(Q:VK):kU:={ nx:=fun _ H=>Q .non H,rt:=Q }
abbrev TS:=kU->St->Hp->Prop
def EP(X:Cx)(J3:Zd)(σ:St)(Q:VK)(u:Value)(s':Shared):Prop:=∃v H',Inv X J3 σ H' s'/\RelV v u/\Q v H'
def TP(X:Cx)(J3:Zd)(σ:St)(Q:Bool->Hp->Prop)(b:Bool)(s':Shared):Prop:=∃H',Inv X J3 σ H' s'/\Q b H'
def AP(X:Cx)(J3:Zd)(σ:St)(Q:List V->Hp->Prop)(us:Zf)(s':Shared):Prop:=∃vs H',Inv X J3 σ H' s'/\aZ vs us/\Q vs H'
def SP(X:Cx)(J3:Zd)(D:kU)(f:Flow)(s':Shared):Prop :=
 match f with
 |.next=>∃σ' H',Inv X J3 σ' H' s'/\D.nx σ' H'
 |.brk=>∃σ' H',Inv X J3 σ' H' s'/\D.bk σ' H'
 |.cont=>∃σ' H',Inv X J3 σ' H' s'/\D.ct σ' H'
 |.ret u=>∃v σ' H',Inv X J3 σ' H' s'/\RelV v u/\D.rt v H'
def PE(X:Cx)(e:Expr)(t:TE):Prop :=
 ∀(J3:Zd) (s:Shared) (σ:St) (H:Hp) (Q:VK),Inv X J3 σ H s->t σ H Q->wpAny (model X.prog X.w) X.A (eval e X.env) (EP X J3 σ Q) X.xe s
def PT(X:Cx)(e:Expr)(t:TT):Prop :=
 ∀(J3:Zd) (s:Shared) (σ:St) (H:Hp) (Q:Bool->Hp->Prop),Inv X J3 σ H s->t σ H Q->wpAny (model X.prog X.w) X.A (isTrue e X.env (eval e X.env)) (TP X J3 σ Q) X.xe s
def PW(X:Cx)(e:Expr)(t:TT):Prop :=
 ∀(whole:Sem Value) (J3:Zd) (s:Shared) (σ:St) (H:Hp) (Q:Bool->Hp->Prop),Inv X J3 σ H s->t σ H Q->wpAny (model X.prog X.w) X.A (isTrue e X.env whole) (TP X J3 σ Q) X.xe s
theorem PW.pt{X:Cx}{e:Expr}{t:TT}(h:PW X e t):PT X e t:=h _
def PA(X:Cx)(es:List Expr)(t:TA):Prop :=
 ∀(pos:Pos) (J3:Zd) (s:Shared) (σ:St) (H:Hp) (Q:List V->Hp->Prop),Inv X J3 σ H s->t σ H Q->wpAny (model X.prog X.w) X.A (spliced (backTo pos (aL es X.env))) (AP X J3 σ Q) X.xe s
def PS(X:Cx)(st:Stmt)(t:TS):Prop :=
 ∀(J3:Zd) (s:Shared) (σ:St) (H:Hp) (D:kU),Inv X J3 σ H s->t D σ H->wpAny (model X.prog X.w) X.A (exec st X.env) (SP X J3 D) X.xe s
def At(X:Cx)(st:List Stmt)(t:TS):Prop :=
 ∀(J3:Zd) (s:Shared) (σ:St) (H:Hp) (D:kU),Inv X J3 σ H s->t D σ H->wpAny (model X.prog X.w) X.A (execs st X.env) (SP X J3 D) X.xe s
theorem cD{α:Type}{t:Sem α}{Q Q':α->Shared->Prop}{M:Model}{A:Around}{E:Zc}{s:Shared}(h:wpAny M A t Q E s)(hQ:∀a s,Q a s->Q' a s):wpAny M A t Q' E s:=jC h hQ fun _ _ x=>x
end L2
namespace L2
open PySem PySem.Spec PyProof.Rows
section
variable{X:Cx}
def nL(i:Nat):TE:=fun σ H Q=>∃v,σ[i]?=some (some v)/\Q v H
abbrev V0:TE:=nL 0
abbrev V1:TE:=nL 1
abbrev V2:TE:=nL 2
abbrev V3:TE:=nL 3
abbrev V4:TE:=nL 4
abbrev V5:TE:=nL 5
abbrev V6:TE:=nL 6
abbrev V7:TE:=nL 7
abbrev V8:TE:=nL 8
abbrev V9:TE:=nL 9
abbrev Es:TE:=nL 10
abbrev Ju:TE:=nL 11
abbrev V12:TE:=nL 12
def tC(v:V):TE:=fun _ H Q=>Q v H
theorem IC{i:Nat}{x:Str}{pos:Pos}(hN:X.N[i]?=some x)(hv:JN X.env.scope x)(hd:(x==("__debug__":Str))=false:=by decide)(hcd:(x==("__classdict__":Str))=false:=by decide):PE X (.Name x pos) (nL i):=by
 intro J3 s σ H Q I h;obtain⟨v,e,h⟩:=h;obtain⟨m,hn,hl⟩:=I.loc;obtain⟨u,r,l⟩:=hl i x v hN e hv;have fin:EP X J3 σ Q u s:=⟨v,H,I,r,h⟩;rcases l with⟨hk,hm⟩|⟨hk,c,hc,hcell⟩
 ·exact wpAny_Name (wpAny_loadName_local I.ok.kind hk hn hm fin) hd
 ·rcases hk with hk|hk
  ·exact wpAny_Name (wpAny_loadName_cell I.ok.kind hk hc hcell fin) hd
  ·exact wpAny_Name (wpAny_loadName_free I.ok.kind hk hc hcell fin hcd) hd
theorem ah{i j pos}:PE X (.Constant (.int i) j pos) (tC (.int i)):=fun _ _ _ H _ I h=>wpAny_Constant_int ⟨.int i,H,I.tok _,⟨_,rfl⟩,h⟩
theorem im{b j pos}:PE X (.Constant (.bool b) j pos) (tC (.bl b)):=fun _ _ _ H _ I h=>Constant_bool ⟨.bl b,H,I,rfl,h⟩
theorem qi{j pos}:PE X (.Constant .none j pos) (tC .non):=fun _ _ _ H _ I h=>Constant_none ⟨.non,H,I,rfl,h⟩
theorem bz{x j pos}:PE X (.Constant (.str x) j pos) (tC (.str x)):=fun _ _ _ H _ I h=>Calls.Constant_str ⟨.str x,H,I.tok _,⟨_,rfl⟩,h⟩
def Gl(X:Cx)(x:Str):Prop:=X.env.kindOf x=some .globalImplicit
theorem xJ{E:Zc}{J3:Zd}{s:Shared}{σ:St}{H:Hp}{x:Str}{u:Value}{pos:Pos}{Q:Zc}(I:Inv X J3 σ H s)(hg:Gl X x)(hm:X.mg x=some u)(h:Q u s)
  (hd:(x==("__debug__":Str))=false:=by decide):wpAny (model X.prog X.w) X.A (eval (.Name x pos) X.env) Q E s :=
 Calls.Name_function_global I.ok.kind hg (Calls.loadGlobal_global (by rw[I.ok.glob];exact I.mod.glob.keeps I.bk) hm h) hd
theorem qw{E:Zc}{J3:Zd}{s:Shared}{σ:St}{H:Hp}{x:Str}{u:Value}{pos:Pos}{Q:Zc}(I:Inv X J3 σ H s)(hg:Gl X x)(hm:X.mg x=none)(hv:i9 x=some u)(h:Q u s)
  (hn:x≠"__name__":=by decide) (hd:(x==("__debug__":Str))=false:=by decide):wpAny (model X.prog X.w) X.A (eval (.Name x pos) X.env) Q E s:=by
 obtain⟨mb,h1,h2⟩:=I.mod.blt;exact Calls.Name_function_global I.ok.kind hg (Calls.loadGlobal_builtin (by rw[I.ok.glob];exact I.mod.glob.keeps I.bk) hm (by rw[I.ok.blt];exact h1.keeps I.bk) ((h2 x hn).trans hv) h) hd
theorem Hi{x:Str}{v:V}{u:Value}{pos:Pos}(hg:Gl X x)(hm:X.mg x=some u)(r:RelV v u)(hd:(x==("__debug__":Str))=false:=by decide):PE X (.Name x pos) (tC v) :=
 fun _ _ _ H _ I h=>xJ I hg hm ⟨v,H,I,r,h⟩ hd
theorem o7{x:Str}{v:V}{u:Value}{pos:Pos}(hg:Gl X x)(hm:X.mg x=none)(hv:i9 x=some u)(r:RelV v u)(hn:x≠"__name__":=by decide)(hd:(x==("__debug__":Str))=false:=by decide):PE X (.Name x pos) (tC v) :=
 fun _ _ _ H _ I h=>qw I hg hm hv ⟨v,H,I,r,h⟩ hn hd
variable{a b:Expr}{ta tb:TE}{pos:Pos}
def PC(X:Cx)(op:CmpOp)(a b:Expr)(t:TE):Prop :=
 ∀(J3:Zd) (s:Shared) (σ:St) (H:Hp) (Q:VK),Inv X J3 σ H s->t σ H Q ->
  wpAny (model X.prog X.w) X.A (eval a X.env) (fun v s₁=>wpAny (model X.prog X.w) X.A (eval b X.env) (fun u s₂=>wpAny (model X.prog X.w) X.A (em op v u) (EP X J3 σ Q) X.xe s₂) X.xe s₁) X.xe s
theorem zJ(b:Expr){op:CmpOp}(h:op≠.In)(h2:op≠.NotIn):kN op b=false:=by
 have e1:(op==CmpOp.In)=false:=by cases op<;>first|rfl|exact absurd rfl h
 have e2:(op==CmpOp.NotIn)=false:=by cases op<;>first|rfl|exact absurd rfl h2
 cases b<;>simp[kN,e1,e2]
def Du(ta:TE):TE:=fun σ H Q=>ta σ H fun x H1=>Q (.bl (decide (x=.non))) H1
def EO(ta:TE):TE:=fun σ H Q=>ta σ H fun x H1=>Q (.bl (!decide (x=.non))) H1
theorem RelV.none_iff{x:V}{v:Value}(r:RelV x v):(v==Value.none)=decide (x=.non):=by
 cases x with
 |non=>cases r;rfl
 |bl _=>cases r;rfl
 |int _=>obtain⟨t,rfl⟩:=r;rfl
 |str _=>obtain⟨t,rfl⟩:=r;rfl
 |byt _=>obtain⟨t,rfl⟩:=r;rfl
 |flt _=>obtain⟨t,rfl⟩:=r;rfl
 |ref _=>cases r;rfl
 |ty _=>cases r;rfl
theorem tR{j pos'}(ha:PE X a ta):PC X .Is a (.Constant .none j pos') (Du ta):=by
 intro J3 s σ H Q I h;refine cD (ha J3 s σ H _ I h) fun v s1 ⟨x,H1,I1,r1,q1⟩=>?_;exact Constant_none (is_none_gen ⟨.bl _,H1,I1,by rw[r1.none_iff];rfl,q1⟩)
theorem CG{j pos'}(ha:PE X a ta):PC X .IsNot a (.Constant .none j pos') (EO ta):=by
 intro J3 s σ H Q I h;refine cD (ha J3 s σ H _ I h) fun v s1 ⟨x,H1,I1,r1,q1⟩=>?_;exact Constant_none (isnot_none_gen ⟨.bl _,H1,I1,by rw[r1.none_iff];rfl,q1⟩)
def tB(t:TE):TT:=fun σ H Q=>t σ H fun x H1=>∃c,x=.bl c/\Q c H1
theorem Fv{op:CmpOp}{t:TE}(h:PC X op a b t)(h1:kN op b=false:=by first|exact zJ _ (by decide) (by decide)|rfl):PE X (.Compare a [op] [b] pos) t:=fun J3 s σ H Q I hw=>wpAny_Compare1 (h J3 s σ H Q I hw) h1
theorem dI{op:CmpOp}{t:TE}(h:PC X op a b t)(h1:kN op b=false:=by first|exact zJ _ (by decide) (by decide)|rfl):PT X (.Compare a [op] [b] pos) (tB t):=by
 intro J3 s σ H Q I hw;refine wpAny_isTrue_Compare1 (cD (h J3 s σ H _ I hw) fun v s1 h1=>cD h1 fun u s2 h2=>cD h2 fun c s3 ⟨x,H1,I1,r1,q1⟩=>?_) h1;obtain⟨d,rfl,q⟩:=q1;cases r1;exact qU ⟨H1,I1,q⟩
theorem lJ{e:Expr}{t:TE}(h:PE X e t)(he:∀whole,isTrue e X.env whole=(do let v <- whole;qR e.pos;kW [v] (truthy v)):=by intro _;rfl):PT X e (tB t):=by
 intro J3 s σ H Q I hw;refine isTrue_plain (cD (h J3 s σ H _ I hw) fun v s1 ⟨x,H1,I1,r1,q1⟩=>?_) (he _);obtain⟨d,rfl,q⟩:=q1;cases r1;exact qU ⟨H1,I1,q⟩
variable{tA tB':TT}{rest:List Expr}
def uR(t u:TT):TT:=fun σ H Q=>t σ H fun c H1=>if c=true then u σ H1 Q else Q false H1
def EN(t u:TT):TT:=fun σ H Q=>t σ H fun c H1=>if c=true then Q true H1 else u σ H1 Q
def EQ(t:TT):TT:=fun σ H Q=>t σ H fun c H1=>Q (!c) H1
theorem oZ(ha:PT X a tA):PW X (.BoolOp .And [a] pos) tA:=by
 intro wh J3 s σ H Q I h;refine isTrue_and (cD (ha J3 s σ H Q I h) fun c s1 e=>?_);cases c with
 |true=>exact isTrue_and_nil e
 |false=>exact e
theorem nP(ha:PT X a tA):PW X (.BoolOp .Or [a] pos) tA:=by
 intro wh J3 s σ H Q I h;refine isTrue_or (cD (ha J3 s σ H Q I h) fun c s1 e=>?_);cases c with
 |false=>exact isTrue_or_nil e
 |true=>exact e
theorem nQ(ha:PT X a tA)(hb:PW X (.BoolOp .And (b::rest) pos) tB'):PW X (.BoolOp .And (a::b::rest) pos) (uR tA tB'):=by
 intro wh J3 s σ H Q I h;refine isTrue_and (cD (ha J3 s σ H _ I h) fun c s1 ⟨H1,I1,q1⟩=>?_);cases c with
 |true=>exact hb wh J3 s1 σ H1 Q I1 q1
 |false=>exact⟨H1,I1,q1⟩
theorem oY(ha:PT X a tA)(hb:PW X (.BoolOp .Or (b::rest) pos) tB'):PW X (.BoolOp .Or (a::b::rest) pos) (EN tA tB'):=by
 intro wh J3 s σ H Q I h;refine isTrue_or (cD (ha J3 s σ H _ I h) fun c s1 ⟨H1,I1,q1⟩=>?_);cases c with
 |true=>exact⟨H1,I1,q1⟩
 |false=>exact hb wh J3 s1 σ H1 Q I1 q1
theorem A_(ha:PT X a tA):PT X (.UnaryOp .Not a pos) (EQ tA):=by
 intro J3 s σ H Q I h;exact isTrue_not (ha J3 s σ H (fun c H1=>Q (!c) H1) I h)
def tz(ta tb:TE):TE:=fun σ H Q=>ta σ H fun x H1=>∃c,x=.bl c/\if c=true then tb σ H1 Q else Q (.bl false) H1
def HW(ta:TE):TE:=fun σ H Q=>ta σ H fun x H1=>∃c,x=.bl c/\Q (.bl (!c)) H1
theorem xC{op}{t:TE}(h:PE X a t):PE X (.BoolOp op [a] pos) t:=fun J3 s σ H Q I hw=>BoolOp_one (h J3 s σ H Q I hw)
theorem qj(ha:PE X a ta)(hb:PE X (.BoolOp .And (b::rest) pos) tb):PE X (.BoolOp .And (a::b::rest) pos) (tz ta tb):=by
 intro J3 s σ H Q I h;refine BoolOp_and (cD (ha J3 s σ H _ I h) fun v s1 ⟨x,H1,I1,r1,q1⟩=>?_);obtain⟨c,rfl,q1⟩:=q1;cases r1;refine qU ?_;cases c with
 |true=>exact hb J3 s1 σ H1 Q I1 q1
 |false=>exact⟨.bl false,H1,I1,rfl,q1⟩
theorem ID(ha:PE X a ta):PE X (.UnaryOp .Not a pos) (HW ta):=by
 intro J3 s σ H Q I h;refine UnaryOp_ (cD (ha J3 s σ H _ I h) fun v s1 ⟨x,H1,I1,r1,q1⟩=>?_);obtain⟨c,rfl,q1⟩:=q1;cases r1;exact not_of (qU ⟨.bl (!c),H1,I1,rfl,q1⟩)
end
end L2
namespace L2
open PySem PySem.Spec PyProof.Rows
def aA(K:Za)(H:Hp)(a:Addr)(xs:List V):Prop :=
 Rd H a (.lst xs) ∨
  ∃(o:Obj) (its:Array Value) (n:Nat),K.lookup a=some o/\o.cls=.type "list"/\o.dict=none/\o.data=.seq its n/\its.size<=aj/\aZ xs its.toList
def bD(K:Za)(H:Hp)(a:Addr)(xs:List V):Prop :=
 Rd H a (.tup xs) ∨
  ∃(o:Obj) (its:Array Value) (n:Nat),K.lookup a=some o/\o.cls=.type "tuple"/\o.data=.seq its n/\its.size<=aj/\aZ xs its.toList
def absV:Value->Option V
 |.none=>some .non
 |.bool b=>some (.bl b)
 |.int i _=>some (.int i)
 |.str x _=>some (.str x)
 |.bytes b _=>some (.byt b)
 |.float b _=>some (.flt b)
 |.ref a=>some (.ref a)
 |.type n=>some (.ty n)
 |_=>none
theorem RelV.abs{x:V}{u:Value}(r:RelV x u):absV u=some x:=by
 cases x with
 |non=>cases r;rfl
 |bl _=>cases r;rfl
 |int _=>obtain⟨t,rfl⟩:=r;rfl
 |str _=>obtain⟨t,rfl⟩:=r;rfl
 |byt _=>obtain⟨t,rfl⟩:=r;rfl
 |flt _=>obtain⟨t,rfl⟩:=r;rfl
 |ref _=>cases r;rfl
 |ty _=>cases r;rfl
theorem RelV.inj{x y:V}{u:Value}(r:RelV x u)(q:RelV y u):x=y:=eA (r.abs.symm.trans q.abs)
theorem aZ.inj:∀{xs ys:List V}{us:Zf},aZ xs us->aZ ys us->xs=ys
 |_,_,_,.nil,.nil=>rfl
 |_,_,_,.cons r t,.cons r' t'=>by rw[r.inj r',aZ.inj t t']
section
variable{X:Cx}{J3:Zd}{σ:St}{H:Hp}{s:Shared}{a:Addr}{xs ys:List V}
theorem aA.of{K:Za}(h:H a=some (.lst xs)):aA K H a xs:=.inl (.inl h)
theorem bD.of{K:Za}(h:H a=some (.tup xs)):bD K H a xs:=.inl (.inl h)
theorem Inv.list(I:Inv X J3 σ H s)(h:aA X.K H a xs):∃its:List Value,aZ xs its/\PlainL s.heap a its.toArray/\xs.length<=aj:=by
 rcases h with h|⟨o,its,n,hk,hc,hd,hs,hz,r⟩
 ·obtain⟨z,its,n,r,e⟩:=h.ok I.hok;exact⟨its,r,⟨_,n,e,rfl,rfl,rfl⟩,z⟩
 ·refine⟨its.toList,r,⟨o,n,I.kIn a o hk,hc,hd,by simpa using hs⟩,?_⟩;have e:=r.length;simp only[mT]at e;omega
theorem Inv.tuple(I:Inv X J3 σ H s)(h:bD X.K H a xs):∃its:List Value,aZ xs its/\IsTup s.heap a its.toArray/\xs.length<=aj:=by
 rcases h with h|⟨o,its,n,hk,hc,hs,hz,r⟩
 ·obtain⟨z,its,r,p⟩:=h.ok I.hok;exact⟨its,r,p,z⟩
 ·refine⟨its.toList,r,⟨o,I.kIn a o hk,hc,n,by simpa using hs⟩,?_⟩;have e:=r.length;simp only[mT]at e;omega
theorem Inv.list_inj(I:Inv X J3 σ H s)(h:aA X.K H a xs)(h':aA X.K H a ys):xs=ys:=by
 obtain⟨its,r,⟨o,n,e,_,_,d⟩,_⟩:=I.list h;obtain⟨its',r',⟨o',n',e',_,_,d'⟩,_⟩:=I.list h';rw[e]at e';cases e';rw[d]at d';injection d' with d1 _;have:its=its':=by simpa using congrArg Array.toList d1
 subst this;exact r.inj r'
theorem Inv.tuple_inj(I:Inv X J3 σ H s)(h:bD X.K H a xs)(h':bD X.K H a ys):xs=ys:=by
 obtain⟨its,r,⟨o,e,_,n,d⟩,_⟩:=I.tuple h;obtain⟨its',r',⟨o',e',_,n',d'⟩,_⟩:=I.tuple h';rw[e]at e';cases e';rw[d]at d';injection d' with d1 _;have:its=its':=by simpa using congrArg Array.toList d1
 subst this;exact r.inj r'
end
abbrev Cx.wish(X:Cx)(E:Zc):Cx:={ X with xe:=E }
abbrev Cx.nox(X:Cx):Cx:=X.wish fun _ _=>False
theorem Cx.Ok.wish{X:Cx}(ok:X.Ok)(E:Zc):(X.wish E).Ok :=
 ⟨ok.mod,ok.kind,ok.glob,ok.blt,ok.above,ok.inj,ok.has,ok.cab,ok.hd,ok.frames,ok.stk,ok.exf,ok.bs,ok.bsz,ok.noex,ok.exfs,ok.funs,ok.frf⟩
theorem Cx.Ok.unwish{X:Cx}{E:Zc}(ok:(X.wish E).Ok):X.Ok :=
 ⟨ok.mod,ok.kind,ok.glob,ok.blt,ok.above,ok.inj,ok.has,ok.cab,ok.hd,ok.frames,ok.stk,ok.exf,ok.bs,ok.bsz,ok.noex,ok.exfs,ok.funs,ok.frf⟩
section
variable{X:Cx}{J3:Zd}{σ:St}{H:Hp}{s:Shared}{E:Zc}
theorem Inv.wish(I:Inv X J3 σ H s)(E:Zc):Inv (X.wish E) J3 σ H s:=⟨I.ok.wish E,I.os,I.bare,I.base,I.loc,I.cell,I.free,I.freeC,I.pin,I.hok,I.len⟩
theorem Inv.unwish(I:Inv (X.wish E) J3 σ H s):Inv X J3 σ H s:=⟨I.ok.unwish,I.os,I.bare,I.base,I.loc,I.cell,I.free,I.freeC,I.pin,I.hok,I.len⟩
theorem SP.unwish{D:kU}{f:Flow}{s':Shared}(h:SP (X.wish E) J3 D f s'):SP X J3 D f s':=by
 cases f with
 |next=>obtain⟨σ',H',I,q⟩:=h;exact⟨σ',H',I.unwish,q⟩
 |brk=>obtain⟨σ',H',I,q⟩:=h;exact⟨σ',H',I.unwish,q⟩
 |cont=>obtain⟨σ',H',I,q⟩:=h;exact⟨σ',H',I.unwish,q⟩
 |ret u=>obtain⟨v,σ',H',I,r,q⟩:=h;exact⟨v,σ',H',I.unwish,r,q⟩
theorem At.nox{st:List Stmt}{t:TS}(h:At X.nox st t):At X st t:=fun J3 s σ H D I hw =>
 jC (h J3 s σ H D (I.wish _) hw) (fun _ _ q=>q.unwish) fun _ _ z=>jB z
end
section
variable{X:Cx}{st:Stmt}{rest:List Stmt}{t u:TS}{e:Expr}{te:TE}{pos:Pos}
def bv:TS:=fun D σ H=>D.nx σ H
def aq(t u:TS):TS:=fun D σ H=>t { D with nx:=u D } σ H
theorem aP:At X [] bv:=fun _ _ σ H _ I h=>Ck ⟨σ,H,I,h⟩
theorem ab(h1:PS X st t)(h2:At X rest u):At X (st::rest) (aq t u):=by
 intro J3 s σ H D I h;refine wpAny_execs_cons (cD (h1 J3 s σ H { D with nx:=u D } I h) fun f s1 q=>?_);cases f with
 |next =>
  obtain⟨σ',H',I',q⟩:=q;exact h2 J3 s1 σ' H' D I' q
 |ret v=>exact q
 |brk=>exact q
 |cont=>exact q
theorem af(h1:PS X st t):At X [st] t:=by
 intro J3 s σ H D I h;refine wpAny_execs_cons (cD (h1 J3 s σ H D I h) fun f s1 q=>?_);cases f with
 |next=>exact Ck q
 |ret v=>exact q
 |brk=>exact q
 |cont=>exact q
theorem Inv.quiet{J3:Zd}{σ:St}{H:Hp}{s:Shared}(I:Inv X J3 σ H s):interactive X.env=false:=by simp[interactive,I.ok.kind]
def bJ(te:TE):TS:=fun D σ H=>te σ H fun _ H1=>D.nx σ H1
theorem aU(he:PE X e te)(hs:qQ e none pos.line X.env=pure false:=by rfl):PS X (.Expr e pos) (bJ te):=by
 intro J3 s σ H D I h;exact wpAny_Expr_any (cD (he J3 s σ H _ I h) fun v s1 ⟨x,H1,I1,r1,q1⟩=>⟨σ,H1,I1,q1⟩) I.quiet hs
def bq(te:TE):TS:=fun D σ H=>te σ H D.rt
theorem aE(he:PE X e te):PS X (.Return (some e) pos) (bq te):=by
 intro J3 s σ H D I h;exact wpAny_Return_some (cD (he J3 s σ H _ I h) fun v s1 ⟨x,H1,I1,r1,q1⟩=>⟨x,σ,H1,I1,r1,q1⟩)
def cn(c:TT)(t u:TS):TS:=fun D σ H=>c σ H fun b H1=>if b=true then t D σ H1 else u D σ H1
theorem bx{c:Expr}{a b:List Stmt}{tc:TT}(hc:PT X c tc)(ha:At X a t)(hb:At X b u):PS X (.If c a b pos) (cn tc t u):=by
 intro J3 s σ H D I h;refine wpAny_If (cD (hc J3 s σ H _ I h) fun d s1 ⟨H1,I1,q1⟩=>?_);cases d with
 |true=>exact ha J3 s1 σ H1 D I1 q1
 |false=>exact hb J3 s1 σ H1 D I1 q1
def sZ:TS:=fun _ _ _=>False
theorem o0:PS X st sZ:=fun _ _ _ _ _ _ h=>h.elim
end
abbrev TG:=V->St->Hp->(St->Hp->Prop)->Prop
abbrev HJ:=List V->St->Hp->(St->Hp->Prop)->Prop
def PG(X:Cx)(target:Expr)(t:TG):Prop :=
 ∀(J3:Zd) (s:Shared) (σ:St) (H:Hp) (v:V) (u:Value) (Q:St->Hp->Prop),Inv X J3 σ H s->RelV v u->t v σ H Q ->
  wpAny (model X.prog X.w) X.A (assign target X.env u) (fun _ s'=>∃σ' H',Inv X J3 σ' H' s'/\Q σ' H') X.xe s
def JR(X:Cx)(ts:List Expr)(t:HJ):Prop :=
 ∀(J3:Zd) (s:Shared) (σ:St) (H:Hp) (vs:List V) (us:Zf) (Q:St->Hp->Prop),Inv X J3 σ H s->aZ vs us->t vs σ H Q ->
  wpAny (model X.prog X.w) X.A (assignInOrder ((vj ts X.env).map (·.2)) us) (fun _ s'=>∃σ' H',Inv X J3 σ' H' s'/\Q σ' H') X.xe s
abbrev IU:=V->V->V->Hp->(Hp->Prop)->Prop
def Jv(X:Cx)(t:IU):Prop :=
 ∀(J3:Zd) (s:Shared) (σ:St) (H:Hp) (o i v:V) (ov iv u:Value) (Q:Hp->Prop),Inv X J3 σ H s->RelV o ov->RelV i iv->RelV v u->t o i v H Q ->
  wpAny (model X.prog X.w) X.A (setItem ov iv u) (fun _ s'=>∃H',Inv X J3 σ H' s'/\Q H') X.xe s
abbrev JP:=V->V->Hp->VK->Prop
def PIp(X:Cx)(op:Operator)(t:JP):Prop :=
 ∀(J3:Zd) (s:Shared) (σ:St) (H:Hp) (x y:V) (v u:Value) (Q:VK),Inv X J3 σ H s->RelV x v->RelV y u->t x y H Q ->
  wpAny (model X.prog X.w) X.A (inplaceOp op v u) (EP X J3 σ Q) X.xe s
section
variable{X:Cx}{pos:Pos}
def eE(i:Nat):TG:=fun v σ H Q=>Q (σ.set i (some v)) H
abbrev U0:TG:=eE 0
abbrev U1:TG:=eE 1
abbrev U2:TG:=eE 2
abbrev U3:TG:=eE 3
abbrev U4:TG:=eE 4
abbrev U5:TG:=eE 5
abbrev U6:TG:=eE 6
abbrev U7:TG:=eE 7
abbrev U8:TG:=eE 8
abbrev U9:TG:=eE 9
abbrev IS:TG:=eE 10
abbrev JO:TG:=eE 11
abbrev U12:TG:=eE 12
theorem CC{i:Nat}{x:Str}(hN:X.N.Nodup)(hi:X.N[i]?=some x)(hx:Loc X.env.scope x)(hf:X.fn x=true∨X.env.scope.names.lookup x=some .local:=by first|exact .inl rfl|exact .inr rfl|assumption):PG X (.Name x pos) (eE i):=by
 intro J3 s σ H v u Q I r h;exact wpAny_assign_Name (tD I hN hi hx r (fun s' I'=>⟨_,H,I',h⟩) hf)
def fZ:HJ:=fun vs σ H Q=>vs=[]/\Q σ H
def aT(t:TG)(u:HJ):HJ:=fun vs σ H Q=>∃v r,vs=v::r/\t v σ H fun σ' H'=>u r σ' H' Q
theorem b9:JR X [] fZ:=by
 intro J3 s σ H vs us Q I r h;obtain⟨e,h⟩:=h;subst e;cases r;exact assignInOrder_nil ⟨σ,H,I,h⟩
theorem au{e:Expr}{es:List Expr}{t:TG}{u:HJ}(h1:PG X e t)(h2:JR X es u)
  (hs:(vj (e::es) X.env).map (·.2)=assign e X.env::(vj es X.env).map (·.2):=by rfl):JR X (e::es) (aT t u):=by
 intro J3 s σ H vs us Q I r h;obtain⟨v,vr,e1,h⟩:=h;subst e1;cases r with
 |cons r rr =>
  rw[hs];refine assignInOrder_cons (cD (h1 J3 s σ H _ _ _ I r h) fun _ s1 ⟨σ1,H1,I1,q1⟩=>?_);exact h2 J3 s1 σ1 H1 _ _ Q I1 rr q1
def gE(K:Za)(n:Nat)(t:HJ):TG:=fun v σ H Q=>∃a xs,v=.ref a/\bD K H a xs/\xs.length=n/\t xs σ H Q
theorem cV{es:List Expr}{k:Nat}{t:HJ}{n:Nat}(hc:X.calm=true)(h:JR X es t)
  (hn:(vj es X.env).length=n:=by rfl) (hst:(vj es X.env).findIdx? (·.1)=none:=by rfl):PG X (.Tuple es k pos) (gE X.K n t):=by
 intro J3 s σ H v u Q I r hw;obtain⟨a,xs,e1,hq,hl,hw⟩:=hw;subst e1;cases r;obtain⟨its,rv,ht,hz⟩:=I.tuple hq;refine assign_Tuple_tuple (I.ok.hd hc) ht (by simp[hn,<-hl,rv.length]) hst fun h' hx=>?_;have I1:Inv X J3 σ H { s with heap:=h' }:=I.kept (t':=s.toks) fun b o e=>hx b o (c6 (aY e)) e;exact h J3 _ σ H xs _ Q I1 (by simpa using rv) hw
def By(to ti:TE)(t:IU):TG:=fun v σ H Q=>to σ H fun o H1=>ti σ H1 fun i H2=>t o i v H2 fun H3=>Q σ H3
theorem tP{o i:Expr}{to ti:TE}{t:IU}(ho:PE X o to)(hi:PE X i ti)(hs:Jv X t)
  (ha:∀v,assign (.Subscript o i pos) X.env v=(do
   let ov <- kW [v] (eval o X.env)
   let iv <- kW [v,ov] (eval i X.env)
   qR pos
   kW [v,ov,iv] (setItem ov iv v)
   release [v,ov,iv] []):=by intro _;rfl):PG X (.Subscript o i pos) (By to ti t):=by
 intro J3 s σ H v u Q I r h;rw[ha];refine ak (lh (cD (ho J3 s σ H _ I h) fun ov s1 ⟨x,H1,I1,r1,q1⟩=>?_));refine ak (lh (cD (hi J3 s1 σ H1 _ I1 q1) fun iv s2 ⟨y,H2,I2,r2,q2⟩=>?_));refine ak (Cj (ak (lh (cD (hs J3 s2 σ H2 x y v ov iv u _ I2 r1 r2 r q2) fun _ s3 ⟨H3,I3,q3⟩=>?_))));exact wpAny_release ⟨σ,H3,I3,q3⟩
def aO(te:TE)(g:TG):TS:=fun D σ H=>te σ H fun x H1=>g x σ H1 D.nx
theorem iU{tg e:Expr}{te:TE}{g:TG}(he:PE X e te)(hg:PG X tg g)(hs:swapsWithSole [tg] e pos.line X.env=pure false:=by rfl)(hw:swappedStores [tg] e X.env=pure none:=by rfl)
  (h1:(vj [tg] X.env).map (·.2)=[assign tg X.env]:=by rfl):PS X (.Assign [tg] e pos) (aO te g):=by
 intro J3 s σ H D I h;refine wpAny_Assign_stores (cD (he J3 s σ H _ I h) fun v s1 ⟨x,H1,I1,r1,q1⟩=>?_) hs hw;rw[h1];exact cD (hg J3 s1 σ H1 x v _ I1 r1 q1) fun _ s2 q=>q
theorem Iy{i:Nat}{x:Str}{e:Expr}{te:TE}{pos':Pos}(hN:X.N.Nodup)(hi:X.N[i]?=some x)(hx:Loc X.env.scope x)(he:PE X e te)(hs:qQ e (some (.Name x pos')) pos.line X.env=pure false:=by rfl)(hf:X.fn x=true∨X.env.scope.names.lookup x=some .local:=by first|exact .inl rfl|exact .inr rfl|assumption):
  PS X (.Assign [.Name x pos'] e pos) (aO te (eE i)):=by
 intro J3 s σ H D I h;refine wpAny_Assign_Name (cD (he J3 s σ H _ I h) fun v s1 ⟨y,H1,I1,r1,q1⟩=>?_) hs;exact tD I1 hN hi hx r1 (fun s2 I2=>⟨_,H1,I2,q1⟩) hf
def Jd(i:Nat)(te:TE)(ti:JP):TS:=fun D σ H=>∃x,σ[i]?=some (some x)/\te σ H fun y H1=>ti x y H1 fun z H2=>D.nx (σ.set i (some z)) H2
theorem Iz{i:Nat}{x:Str}{e:Expr}{te:TE}{op:Operator}{ti:JP}{pos':Pos}(hN:X.N.Nodup)(hi:X.N[i]?=some x)(hx:Loc X.env.scope x)(he:PE X e te)(ho:PIp X op ti)(hf:X.fn x=true∨X.env.scope.names.lookup x=some .local:=by first|exact .inl rfl|exact .inr rfl|assumption):
  PS X (.AugAssign (.Name x pos') op e pos) (Jd i te ti):=by
 intro J3 s σ H D I h;obtain⟨v,e1,h⟩:=h;obtain⟨m,hn,hl⟩:=I.loc;have vis:JN X.env.scope x:=by rcases hx with k|k;exact .inl k;exact .inr (.inl k)
 obtain⟨u,r,l⟩:=hl i x v hi e1 vis;refine wpAny_AugAssign_Name ?_;have go:wpAny (model X.prog X.w) X.A (eval e X.env) (fun w s₂=>wpAny (model X.prog X.w) X.A (inplaceOp op u w) (fun r s₃=>wpAny (model X.prog X.w) X.A (storeName X.env x r) (fun _=>SP X J3 D .next) X.xe s₃) X.xe s₂) X.xe s:=by
  refine cD (he J3 s σ H _ I h) fun w s1 ⟨y,H1,I1,r1,q1⟩=>?_;refine cD (ho J3 s1 σ H1 v y u w _ I1 r r1 q1) fun z s2 ⟨zv,H2,I2,r2,q2⟩=>?_;exact tD I2 hN hi hx r2 (fun s3 I3=>⟨_,H2,I3,q2⟩) hf
 rcases l with⟨hk,hm⟩|⟨hk,c,hc,hcell⟩
 ·exact wpAny_loadName_local I.ok.kind hk hn hm go
 ·rcases hk with hk|hk
  ·exact wpAny_loadName_cell I.ok.kind hk hc hcell go
  ·rcases hx with k|k
   ·have:X.env.scope.names.lookup x=some .free:=hk;rw[k]at this;cases this
   ·have:X.env.scope.names.lookup x=some .free:=hk;rw[k]at this;cases this
def ipI(f:Int->Int->Int):JP:=fun x y H Q=>∃i j,x=.int i/\y=.int j/\Q (.int (f i j)) H
theorem IL:PIp X .Add (ipI fun i j=>i+j):=by
 intro J3 s σ H x y v u Q I r1 r2 h;obtain⟨i,j,e1,e2,q⟩:=h;subst e1;subst e2;obtain⟨t,rfl⟩:=r1;obtain⟨t',rfl⟩:=r2;exact iadd_int ⟨.int _,H,I.tok _,⟨_,rfl⟩,q⟩
end
section
variable{X:Cx}{pos:Pos}
def nK(c:TT)(tb:TS):TS:=fun D σ H=>∃W:Nat->St->Hp->Prop,(∃m,W m σ H)/\∀m σ H,W m σ H ->
 c σ H fun b H1=>if b=true then ∃N:St->Hp->Prop,(∀σ' H',N σ' H'->∃m',m'<m/\W m' σ' H')/\tb { D with nx:=N,ct:=N,bk:=D.nx } σ H1 else D.nx σ H1
theorem jN{c:Expr}{body:List Stmt}{tc:TT}{tb:TS}(hp:PassesOwn (model X.prog X.w) X.A X.env X.xe)(hc:PT X c tc)(hb:At X body tb):PS X (.While c body [] pos) (nK tc tb):=by
 intro J3 s σ H D I h;obtain⟨W,⟨m0,w0⟩,turn⟩:=h;refine wpAny_While (codeAny_whileLoop (fun n s'=>∃σ' H',Inv X J3 σ' H' s'/\W n σ' H') ?_ m0 ⟨σ,H,I,w0⟩);rintro n s1 ⟨σ1,H1,I1,w1⟩;refine sm hp (cD (hc J3 s1 σ1 H1 _ I1 (turn n σ1 H1 w1)) fun b s2 ⟨H2,I2,q2⟩=>?_);cases b with
 |true =>
  obtain⟨N,hN,q2⟩:=q2;rw[if_pos rfl];refine sm hp (cD (hb J3 s2 σ1 H2 _ I2 q2) fun f s3 q3=>?_);cases f with
  |next =>
   obtain⟨σ3,H3,I3,n3⟩:=q3;obtain⟨m',hm,w3⟩:=hN σ3 H3 n3;exact⟨m',hm,σ3,H3,I3,w3⟩
  |cont =>
   obtain⟨σ3,H3,I3,n3⟩:=q3;obtain⟨m',hm,w3⟩:=hN σ3 H3 n3;exact⟨m',hm,σ3,H3,I3,w3⟩
  |brk=>exact q3
  |ret v=>exact q3
 |false =>
  rw[if_neg gK];exact Ck ⟨σ1,H2,I2,q2⟩
end
structure It where
 go:Nat->Hp->Prop
 yld:Nat->Hp->V->Hp->Prop
 stop:Nat->Hp->Prop
def oh(X:Cx)(J3:Zd)(H:Hp)(b:Addr):Prop :=
 H b=none/\b≠X.env.locals/\b∉X.fs/\(b∈X.ex∨X.s₀.heap.objs.size<=b)/\(∀x c,X.env.cells.lookup x=some c->c≠b)/\∀p∈X.pn++J3,p.1≠b
theorem Inv.fpOk{X:Cx}{J3:Zd}{σ:St}{H H':Hp}{s:Shared}{b:Addr}(I:Inv X J3 σ H s)(hb:s.heap.objs.size<=b)(hn:H' b=none):oh X J3 H' b:=by
 refine⟨hn,gF (iL I.lt hb),I.nofs hb,.inr (bL I.sz hb),fun x c e z=>?_,fun p hp z=>?_⟩
 ·obtain⟨v,q⟩:=I.cell x c e;exact absurd (iL q.lt (by rw[z];exact hb)) (qS _)
 ·exact absurd (iL (aY (I.pin p hp).1) (by rw[z];exact hb)) (qS _)
structure rO(P:ck)(w:World)(K:Za)(tg:Expr)(J:It)(fp:Ze)(it:Addr)(tn:Nat->Heap->Prop):Prop where
 mem:it∈fp
 obj:∀i h,tn i h->∀b∈fp,∃o,h.get? b=some o/\∀v,o.data≠.cell v
 keep:∀i h h',tn i h->(∀b∈fp,∀o,h.get? b=some o->h'.get? b=some o)->tn i h'
 item:∀(X:Cx),X.prog=P->X.w=w->X.K=K->X.calm=true->∀(i:Nat) (J3:Zd) (s:Shared) (σ:St) (H:Hp) (E:Zc),Inv X J3 σ H s->(∀b∈fp,oh X J3 H b)->tn i s.heap->J.go i H ->
  wpAny (model P w) X.A (pyNext (.ref it)) (fun r s1=>∃u,r=some u /\
   wpAny (model P w) X.A (Ci tg (.ref it) u) (fun _ s2=>∃x H',Inv X J3 σ H' s2/\RelV x u/\J.yld i H x H'/\tn (i+1) s2.heap/\∀b∈fp,H' b=none) E s1) E s
 done:∀(X:Cx),X.prog=P->X.w=w->X.K=K->X.calm=true->∀(i:Nat) (J3:Zd) (s:Shared) (σ:St) (H:Hp) (E:Zc),Inv X J3 σ H s->(∀b∈fp,oh X J3 H b)->tn i s.heap->J.stop i H ->
  wpAny (model P w) X.A (pyNext (.ref it)) (fun r s1=>r=none/\Inv X J3 σ H s1) E s
 self:∀(A:Around) (i:Nat) (s:Shared) (Q:Zc) (E:Zc),tn i s.heap->Q (.ref it) s->wpAny (model P w) A (pyIter (.ref it)) Q E s
abbrev TI:=St->Hp->(It->Hp->Prop)->Prop
def JQ(X:Cx)(J3:Zd)(σ:St)(tg:Expr)(R:It->Hp->Prop)(itv:Value)(s2:Shared):Prop :=
 ∃(it:Addr) (fp:Ze) (tn:Nat->Heap->Prop) (J:It) (H':Hp),itv=.ref it/\Inv X J3 σ H' s2/\rO X.prog X.w X.K tg J fp it tn/\tn 0 s2.heap/\(∀b∈fp,oh X J3 H' b)/\R J H'
def PI(X:Cx)(tg iter:Expr)(wi:TI):Prop :=
 ∀(J3:Zd) (s:Shared) (σ:St) (H:Hp) (R:It->Hp->Prop),Inv X J3 σ H s->wi σ H R ->
  wpAny (model X.prog X.w) X.A (eval iter X.env) (fun v s1=>wpAny (model X.prog X.w) X.A (pyIter v) (JQ X J3 σ tg R) X.xe s1) X.xe s
theorem vZ{M:Model}{A:Around}{E:Zc}{s:Shared}{tg:Expr}{it:Addr}{u:Value}{o:Obj}{n:String}{vs:Array Value}{Q:Unit->Shared->Prop}(ho:s.heap.get? it=some o)(hc:o.cls=.type n)(hd:o.data=.fields vs)
    (hn:["enumerate","zip","dict_itemiterator","dict_reverseitemiterator","odict_iterator","itertools.zip_longest","itertools.pairwise"].contains n=false) (hQ:Q () s):wpAny M A (Ci tg (.ref it) u) Q E s:=by
  unfold Ci;cases tg<;>first
    |exact aH hQ
    | (cases u<;>first
        |exact aH hQ
        | (refine ak (wpAny_load ho ?_)
           rw[hc,hd];show wpAny M A (if(["enumerate","zip","dict_itemiterator","dict_reverseitemiterator","odict_iterator","itertools.zip_longest","itertools.pairwise"].contains n && vs[0]?==some (rawInt _))=true then _ else _) Q E s
           rw[if_neg (by intro h;rw[hn,Ch]at h;cases h)];exact aH hQ))
def GI(K:Za)(a:Addr):It :=
 ⟨fun i H=>∃xs x,aA K H a xs/\xs[i]?=some x,fun i H x H'=>H'=H/\∀xs,aA K H a xs->xs[i]?=some x,fun i H=>∃xs,aA K H a xs/\xs.length<=i⟩
def IV(K:Za)(a:Addr):It :=
 ⟨fun i H=>∃xs x,bD K H a xs/\xs[i]?=some x,fun i H x H'=>H'=H/\∀xs,bD K H a xs->xs[i]?=some x,fun i H=>∃xs,bD K H a xs/\xs.length<=i⟩
def IW(lo:Int)(n:Nat):It:=⟨fun i _=>i<n,fun i H x H'=>H'=H/\x=.int (lo+i),fun i _=>n<=i⟩
theorem vo{P:ck}{w:World}{K:Za}{tg:Expr}(a it:Addr):rO P w K tg (GI K a) [it] it (fun i h=>h.IsListIter it a i) where
 mem:=by simp
 obj:=fun i h st b hb=>by
  have e:b=it:=by simpa using hb
  subst e;obtain⟨o,e,c,d⟩:=st;exact⟨o,e,fun v z=>by rw[d]at z;cases z⟩
 keep:=fun i h h' st k=>st.at fun o e=>k it (by simp) o e
 item:=by
  intro X hP hw hK hc i J3 s σ H E I hf st hg;subst hP hw hK;obtain⟨xs,x,hq,hx⟩:=hg;obtain⟨its,rv,p,hz⟩:=I.list hq;obtain⟨u,hu,ru⟩:=rv.get hx;obtain⟨f0,f1,f2,f3,f4,f5⟩:=hf it (by simp);refine wpAny_pyNext_list_item st p.isList (x:=u) (by simpa using hu) fun h' st' sb=>?_;have I1:Inv X J3 σ H { s with heap:=h' }:=I.turned (t':=s.toks) (fun b o hb e=>(sb.2 b hb).trans e) f0 f1 f3 f4 f5;obtain⟨o,e,c,d⟩:=id st';exact⟨u,rfl,vZ (s:={ s with heap:=h' }) e c d (by decide) ⟨x,H,I1,ru,⟨rfl,fun ys hy=>by rw[I.list_inj hy hq];exact hx⟩,st',fun b hb=>(hf b hb).1⟩⟩
 done:=by
  intro X hP hw hK hc i J3 s σ H E I hf st hg;subst hP hw hK;obtain⟨xs,hq,hx⟩:=hg;obtain⟨its,rv,p,hz⟩:=I.list hq;obtain⟨f0,f1,f2,f3,f4,f5⟩:=hf it (by simp);have hl:=rv.length;exact wpAny_pyNext_list_end (I.ok.hd hc) st p.isList (by simp;omega) fun h' eb=>⟨rfl,I.turned (t':=s.toks) (fun b o hb e=>eb b o hb e) f0 f1 f3 f4 f5⟩
 self:=fun _ _ _ _ _ st h=>wpAny_pyIter_listiter st h
theorem sT{P:ck}{w:World}{K:Za}{tg:Expr}(a it:Addr):rO P w K tg (IV K a) [it] it (fun i h=>h.IsTupleIter it a i) where
 mem:=by simp
 obj:=fun i h st b hb=>by
  have e:b=it:=by simpa using hb
  subst e;obtain⟨o,e,c,d⟩:=st;exact⟨o,e,fun v z=>by rw[d]at z;cases z⟩
 keep:=fun i h h' st k=>st.at fun o e=>k it (by simp) o e
 item:=by
  intro X hP hw hK hc i J3 s σ H E I hf st hg;subst hP hw hK;obtain⟨xs,x,hq,hx⟩:=hg;obtain⟨its,rv,p,hz⟩:=I.tuple hq;obtain⟨u,hu,ru⟩:=rv.get hx;obtain⟨f0,f1,f2,f3,f4,f5⟩:=hf it (by simp);refine wpAny_pyNext_tuple_item st (show s.heap.IsTuple a its.toArray from p) (x:=u) (by simpa using hu) fun h' st' sb=>?_;have I1:Inv X J3 σ H { s with heap:=h' }:=I.turned (t':=s.toks) (fun b o hb e=>(sb.2 b hb).trans e) f0 f1 f3 f4 f5;obtain⟨o,e,c,d⟩:=id st';exact⟨u,rfl,vZ (s:={ s with heap:=h' }) e c d (by decide) ⟨x,H,I1,ru,⟨rfl,fun ys hy=>by rw[I.tuple_inj hy hq];exact hx⟩,st',fun b hb=>(hf b hb).1⟩⟩
 done:=by
  intro X hP hw hK hc i J3 s σ H E I hf st hg;subst hP hw hK;obtain⟨xs,hq,hx⟩:=hg;obtain⟨its,rv,p,hz⟩:=I.tuple hq;obtain⟨f0,f1,f2,f3,f4,f5⟩:=hf it (by simp);have hl:=rv.length;exact wpAny_pyNext_tuple_end (I.ok.hd hc) st (show s.heap.IsTuple a its.toArray from p) (by simp;omega) fun h' eb=>⟨rfl,I.turned (t':=s.toks) (fun b o hb e=>eb b o hb e) f0 f1 f3 f4 f5⟩
 self:=fun _ _ _ _ _ st h=>wpAny_pyIter_tupleiter st h
theorem Aw{P:ck}{w:World}{K:Za}{tg:Expr}(it:Addr)(lo:Int)(n:Nat):rO P w K tg (IW lo n) [it] it (fun i h=>IsRangeIter h it (lo+(i:Nat) * 1) ((n:Int)-(i:Nat)) 1) where
 mem:=by simp
 obj:=fun i h st b hb=>by
  have e:b=it:=by simpa using hb
  subst e;exact⟨_,st,fun v z=>by
   have z':Data.fields _=Data.cell v:=z;cases z'⟩
 keep:=fun i h h' st k=>k it (by simp) _ st
 item:=by
  intro X hP hw hK hc i J3 s σ H E I hf st hg;subst hP hw hK;obtain⟨f0,f1,f2,f3,f4,f5⟩:=hf it (by simp);have W:=Walks.range (prog:=X.prog) (w:=X.w) (I.ok.hd hc) it lo 1 n;refine W.item i s _ _ hg st fun v h' tk hv st' kk=>?_;obtain⟨t,rfl⟩:=hv;have I1:Inv X J3 σ H { s with heap:=h',toks:=tk }:=I.turned (fun b o hb e=>kk b o (by simpa using hb) e) f0 f1 f3 f4 f5;refine⟨_,rfl,vZ (s:={ s with heap:=h',toks:=tk }) (n:="range_iterator") st' rfl rfl (by decide) ⟨.int (lo+i),H,I1,⟨t,?_⟩,⟨rfl,rfl⟩,st',fun b hb=>(hf b hb).1⟩⟩;rw[Int.mul_one]
 done:=by
  intro X hP hw hK hc i J3 s σ H E I hf st hg;subst hP hw hK;obtain⟨f0,f1,f2,f3,f4,f5⟩:=hf it (by simp);exact wpAny_pyNext_range_end (I.ok.hd hc) st (by have:n<=i:=hg;omega) fun h' eb=>⟨rfl,I.turned (t':=s.toks) (fun b o hb e=>eb b o hb e) f0 f1 f3 f4 f5⟩
 self:=fun _ _ _ _ _ st h=>wpAny_pyIter_rangeiter st h
end L2
namespace L2
open PySem PySem.Spec PyProof.Rows
section
variable{X:Cx}{tg:Expr}
def cx(K:Za)(tl:TE):TI:=fun σ H R=>tl σ H fun x H1=>∃a,x=.ref a/\(∃xs,aA K H1 a xs)/\R (GI K a) H1
def IN(K:Za)(tl:TE):TI:=fun σ H R=>tl σ H fun x H1=>∃a,x=.ref a/\(∃xs,bD K H1 a xs)/\R (IV K a) H1
theorem ba{l:Expr}{tl:TE}(hl:PE X l tl):PI X tg l (cx X.K tl):=by
 intro J3 s σ H R I h;refine cD (hl J3 s σ H _ I h) fun v s1 ⟨x,H1,I1,r1,q1⟩=>?_;obtain⟨a,e,⟨xs,hq⟩,q⟩:=q1;subst e;cases r1;obtain⟨its,rv,p,hz⟩:=I1.list hq;refine yH p.isList ?_;refine⟨s1.heap.objs.size,[s1.heap.objs.size],_,_,H1,rfl,I1.kept (t':=s1.toks) fun b o e=>bj _ e,vo a _,⟨_,cK _ rfl,rfl,rfl⟩,fun b hb=>?_,q⟩;have e:b=s1.heap.objs.size:=by simpa using hb
 subst e;exact I1.fpOk (aG _) (I1.hok.fresh (aG _))
theorem Fs{l:Expr}{tl:TE}(hl:PE X l tl):PI X tg l (IN X.K tl):=by
 intro J3 s σ H R I h;refine cD (hl J3 s σ H _ I h) fun v s1 ⟨x,H1,I1,r1,q1⟩=>?_;obtain⟨a,e,⟨xs,hq⟩,q⟩:=q1;subst e;cases r1;obtain⟨its,rv,p,hz⟩:=I1.tuple hq;refine Cg (show s1.heap.IsTuple a its.toArray from p) ?_;refine⟨s1.heap.objs.size,[s1.heap.objs.size],_,_,H1,rfl,I1.kept (t':=s1.toks) fun b o e=>bj _ e,sT a _,⟨_,cK _ rfl,rfl,rfl⟩,fun b hb=>?_,q⟩;have e:b=s1.heap.objs.size:=by simpa using hb
 subst e;exact I1.fpOk (aG _) (I1.hok.fresh (aG _))
theorem Fh{J3:Zd}{σ:St}{H:Hp}{s:Shared}{R:It->Hp->Prop}{E:Zc}{lo hi:Int}{t u v:Tok}{tk:Nat}(I:Inv X J3 σ H s)(h1:-(2 ^ 62)<=lo)(h2:lo<2 ^ 62)(h3:-(2 ^ 62)<=hi)(h4:hi<2 ^ 62)
  (q:R (IW lo (hi-lo).toNat) H):wpAny (model X.prog X.w) X.A (pyIter (.ref s.heap.objs.size)) (JQ X J3 σ tg R) E { s with heap:=s.heap.push { cls:=.type "range",data:=.fields #[.int lo t,.int hi u,.int 1 v] },toks:=tk }:=by
 refine wpAny_pyIter_range (IsRange.new ..) (small_one h1 h2 h3 h4) ?_;have I1:Inv X J3 σ H { s with heap:=s.heap.push { cls:=.type "range",data:=.fields #[.int lo t,.int hi u,.int 1 v] },toks:=tk }:=I.kept fun b o e=>bj _ e;refine⟨(s.heap.push { cls:=.type "range",data:=.fields #[.int lo t,.int hi u,.int 1 v] }).objs.size,[(s.heap.push { cls:=.type "range",data:=.fields #[.int lo t,.int hi u,.int 1 v] }).objs.size],_,_,H,rfl,
  I1.kept (t':=tk) fun b o e=>bj _ e,Aw _ lo (hi-lo).toNat,?_,fun b hb=>?_,q⟩
 ·have e1:lo+((0:Nat):Int) * 1=lo:=by simp
  have e2:(((hi-lo).toNat:Nat):Int)-((0:Nat):Int)=bZ.Range.rangeSize lo hi 1:=by rw[rangeSize_one];split<;>omega
  show IsRangeIter _ _ (lo+((0:Nat):Int) * 1) ((((hi-lo).toNat:Nat):Int)-((0:Nat):Int)) 1;rw[e1,e2];exact cK _ rfl
 ·have e:b=(s.heap.push { cls:=.type "range",data:=.fields #[.int lo t,.int hi u,.int 1 v] }).objs.size:=by simpa using hb
  subst e;exact I1.fpOk (aG _) (I1.hok.fresh (aG _))
def vY(ta:TA):TI:=fun σ H R=>ta σ H fun vs H1=>∃j:Int,vs=[.int j]/\-(2 ^ 62)<=j/\j<2 ^ 62/\R (IW 0 j.toNat) H1
theorem jO{a:Expr}{ta:TA}{p pos:Pos}(hg:Gl X "range")(hm:X.mg "range"=none)(ha:PA X [a] ta)(hs:aL [a] X.env=[(false,eval a X.env)]:=by rfl):PI X tg (.Call (.Name "range" p) [a] [] pos) (vY ta):=by
 intro J3 s σ H R I h;refine Call_ (qw I hg hm boot_range (Ce (cD (ha pos J3 s σ H _ I h) fun us s1 ⟨vs,H1,I1,r1,q1⟩=>?_) hs rfl));obtain⟨j,e,q1,q2,q⟩:=q1;subst e;cases r1 with
 |cons r rr =>
  cases rr;obtain⟨t,rfl⟩:=r;exact call_range_1 (Fh I1 (by omega) (by omega) q1 q2 (by simpa using q))
def eG(wi:TI)(g:TG)(tb:TS):TS:=fun D σ H=>wi σ H fun J H1=>∃W:Nat->Nat->St->Hp->Prop,(∃m,W 0 m σ H1)/\∀i m σ H,W i m σ H ->
 (J.stop i H/\D.nx σ H)∨(J.go i H/\∃N:St->Hp->Prop,(∀σ' H',N σ' H'->∃m',m'<m/\W (i+1) m' σ' H')/\∀x H',J.yld i H x H'->g x σ H' fun σ2 H2=>tb { D with nx:=N,ct:=N,bk:=D.nx } σ2 H2)
def tO(fp:Ze)(h:Heap):List (Addr×Obj):=fp.filterMap fun b=>(h.get? b).map fun o=>(b,o)
theorem ki{fp:Ze}{h:Heap}{b:Addr}{o:Obj}(hb:b∈fp)(e:h.get? b=some o):(b,o)∈tO fp h:=List.mem_filterMap.mpr ⟨b,hb,by rw[e];rfl⟩
theorem DK{fp:Ze}{h:Heap}{p:Addr×Obj}(hp:p∈tO fp h):p.1∈fp/\h.get? p.1=some p.2:=by
 obtain⟨b,hb,e⟩:=List.mem_filterMap.mp hp;cases q:h.get? b with
 |none=>rw[q]at e;cases e
 |some o =>
  rw[q]at e;have e':(b,o)=p:=eA e;subst e';exact⟨hb,q⟩
theorem Inv.pinned{J3:Zd}{σ:St}{H:Hp}{s:Shared}{fp:Ze}(I:Inv X J3 σ H s)(hf:∀b∈fp,oh X J3 H b)(ho:∀b∈fp,∃o,s.heap.get? b=some o/\∀v,o.data≠.cell v):Inv X (J3++tO fp s.heap) σ H s :=
 I.pins_of fun p hp=>(aX.mp hp).elim (fun z=>I.pin p (cS _ z)) fun z=>by
  obtain⟨hb,e⟩:=DK z;obtain⟨f0,f1,f2,_⟩:=hf p.1 hb;obtain⟨o,e',d⟩:=ho p.1 hb;rw[e]at e';cases e';exact⟨e,f0,f1,f2,d⟩
theorem Inv.unpinned{J3 pl:Zd}{σ:St}{H:Hp}{s:Shared}(I:Inv X (J3++pl) σ H s):Inv X J3 σ H s:=I.pins_of fun p hp=>I.pin p (cS _ (cB _ hp))
theorem bI{iter:Expr}{body:List Stmt}{wi:TI}{g:TG}{tb:TS}{pos:Pos}(hp:PassesOwn (model X.prog X.w) X.A X.env X.xe)(hc:X.calm=true)(hi:PI X tg iter wi)(hg:PG X tg g)(hb:At X body tb)
  (hs:∀x,yG iter X.env x=pure x:=by intro _;rfl):PS X (.For tg iter body [] pos) (eG wi g tb):=by
 intro J3 s σ H D I h;refine wpAny_For (cD (hi J3 s σ H _ I h) fun v s1 h1=>cD h1 fun itv s2 h2=>?_) hs;obtain⟨it,fp,tn,J,H2,e,I2,T,st2,f2,W,⟨m0,w0⟩,turn⟩:=h2;subst e;have stat:∀{H':Hp},(∀b∈fp,H' b=none)->∀b∈fp,oh X J3 H' b:=fun hn b hb=>⟨hn b hb,(f2 b hb).2⟩;refine codeAny_forLoop_any (fun n s'=>∃i σ' H',Inv X J3 σ' H' s'/\tn i s'.heap/\(∀b∈fp,H' b=none)/\W i n σ' H') ?_ m0 ⟨0,σ,H2,I2,st2,fun b hb=>(f2 b hb).1,w0⟩;rintro n s3 ⟨i,σ3,H3,I3,st3,fr3,w3⟩;rcases turn i n σ3 H3 w3 with⟨stop,qn⟩|⟨go,N,hN,step⟩
 ·refine sm hp (cD (T.done X rfl rfl rfl hc i J3 s3 σ3 H3 X.xe I3 (stat fr3) st3 stop) fun r s4 ⟨hr,I4⟩=>?_);subst hr;exact Ck ⟨σ3,H3,I4,qn⟩
 ·refine sm hp (cD (T.item X rfl rfl rfl hc i J3 s3 σ3 H3 X.xe I3 (stat fr3) st3 go) fun r s4 ⟨u,hr,h4⟩=>?_);subst hr;refine sm hp (cD h4 fun _ s5 ⟨x,H5,I5,r5,y5,st5,fr5⟩=>?_);have I5':=I5.pinned (stat fr5) (T.obj _ _ st5);refine sm hp (cD (hg _ s5 σ3 H5 x u _ I5' r5 (step x H5 y5)) fun _ s6 ⟨σ6,H6,I6,q6⟩=>?_);refine sm hp (cD (hb _ s6 σ6 H6 _ I6 q6) fun f s7 q7=>?_);have again:∀{σ7:St}{H7:Hp},Inv X (J3++tO fp s5.heap) σ7 H7 s7->N σ7 H7->∃m,m<n/\∃i σ' H',Inv X J3 σ' H' s7/\tn i s7.heap/\(∀b∈fp,H' b=none)/\W i m σ' H':=fun{σ7 H7} I7 n7=>by
   obtain⟨m',hm,w7⟩:=hN σ7 H7 n7;refine⟨m',hm,i+1,σ7,H7,I7.unpinned,T.keep _ _ _ st5 fun b hb o e=>(I7.pin (b,o) (cS _ (cS _ (ki hb e)))).1,fun b hb=>?_,w7⟩;obtain⟨o,e,d⟩:=T.obj _ _ st5 b hb;exact(I7.pin (b,o) (cS _ (cS _ (ki hb e)))).2.1
  cases f with
  |next=>obtain⟨σ7,H7,I7,n7⟩:=q7;exact again I7 n7
  |cont=>obtain⟨σ7,H7,I7,n7⟩:=q7;exact again I7 n7
  |brk=>obtain⟨σ7,H7,I7,q7⟩:=q7;exact⟨σ7,H7,I7.unpinned,q7⟩
  |ret v=>obtain⟨x7,σ7,H7,I7,r7,q7⟩:=q7;exact⟨x7,σ7,H7,I7.unpinned,r7,q7⟩
end
theorem cg{K:Za}{a:Addr}{xs:List V}{g:TG}{tb:TS}{D:kU}{σ:St}{H:Hp}(Pv:Nat->St->Hp->Prop)(h0:Pv 0 σ H)(hl:∀i σ H,i<=xs.length->Pv i σ H->aA K H a xs)
  (hs:∀i x σ H,xs[i]?=some x->Pv i σ H->g x σ H fun σ2 H2=>tb { D with nx:=Pv (i+1),ct:=Pv (i+1),bk:=D.nx } σ2 H2) (hd:∀σ H,Pv xs.length σ H->D.nx σ H) :
  ∃W:Nat->Nat->St->Hp->Prop,(∃m,W 0 m σ H)/\∀i m σ H,W i m σ H ->
   ((GI K a).stop i H/\D.nx σ H)∨((GI K a).go i H/\∃N:St->Hp->Prop,(∀σ' H',N σ' H'->∃m',m'<m/\W (i+1) m' σ' H')/\∀x H',(GI K a).yld i H x H'->g x σ H' fun σ2 H2=>tb { D with nx:=N,ct:=N,bk:=D.nx } σ2 H2):=by
 refine⟨fun i m σ H=>m=xs.length-i/\i<=xs.length/\Pv i σ H,⟨xs.length,by simp,df _,h0⟩,?_⟩;rintro i m σ H ⟨rfl,hi,p⟩;have q:=hl i σ H hi p;by_cases hlt:i<xs.length
 ·refine .inr ⟨⟨xs,xs[i],q,by simp[hlt]⟩,Pv (i+1),fun σ' H' p'=>⟨xs.length-(i+1),by omega,rfl,hlt,p'⟩,fun x H' y=>?_⟩;obtain⟨e,y⟩:=y;subst e;exact hs i x σ _ (y xs q) p
 ·have e:i=xs.length:=by omega
  subst e;exact .inl ⟨⟨xs,q,aG _⟩,hd σ H p⟩
theorem CY{K:Za}{a:Addr}{xs:List V}{g:TG}{tb:TS}{D:kU}{σ:St}{H:Hp}(Pv:Nat->St->Hp->Prop)(h0:Pv 0 σ H)(hl:∀i σ H,i<=xs.length->Pv i σ H->bD K H a xs)
  (hs:∀i x σ H,xs[i]?=some x->Pv i σ H->g x σ H fun σ2 H2=>tb { D with nx:=Pv (i+1),ct:=Pv (i+1),bk:=D.nx } σ2 H2) (hd:∀σ H,Pv xs.length σ H->D.nx σ H) :
  ∃W:Nat->Nat->St->Hp->Prop,(∃m,W 0 m σ H)/\∀i m σ H,W i m σ H ->
   ((IV K a).stop i H/\D.nx σ H)∨((IV K a).go i H/\∃N:St->Hp->Prop,(∀σ' H',N σ' H'->∃m',m'<m/\W (i+1) m' σ' H')/\∀x H',(IV K a).yld i H x H'->g x σ H' fun σ2 H2=>tb { D with nx:=N,ct:=N,bk:=D.nx } σ2 H2):=by
 refine⟨fun i m σ H=>m=xs.length-i/\i<=xs.length/\Pv i σ H,⟨xs.length,by simp,df _,h0⟩,?_⟩;rintro i m σ H ⟨rfl,hi,p⟩;have q:=hl i σ H hi p;by_cases hlt:i<xs.length
 ·refine .inr ⟨⟨xs,xs[i],q,by simp[hlt]⟩,Pv (i+1),fun σ' H' p'=>⟨xs.length-(i+1),by omega,rfl,hlt,p'⟩,fun x H' y=>?_⟩;obtain⟨e,y⟩:=y;subst e;exact hs i x σ _ (y xs q) p
 ·have e:i=xs.length:=by omega
  subst e;exact .inl ⟨⟨xs,q,aG _⟩,hd σ H p⟩
theorem mB{lo:Int}{n:Nat}{g:TG}{tb:TS}{D:kU}{σ:St}{H:Hp}(Pv:Nat->St->Hp->Prop)(h0:Pv 0 σ H)
  (hs:∀i σ H,i<n->Pv i σ H->g (.int (lo+i)) σ H fun σ2 H2=>tb { D with nx:=Pv (i+1),ct:=Pv (i+1),bk:=D.nx } σ2 H2) (hd:∀σ H,Pv n σ H->D.nx σ H) :
  ∃W:Nat->Nat->St->Hp->Prop,(∃m,W 0 m σ H)/\∀i m σ H,W i m σ H ->
   ((IW lo n).stop i H/\D.nx σ H)∨((IW lo n).go i H/\∃N:St->Hp->Prop,(∀σ' H',N σ' H'->∃m',m'<m/\W (i+1) m' σ' H')/\∀x H',(IW lo n).yld i H x H'->g x σ H' fun σ2 H2=>tb { D with nx:=N,ct:=N,bk:=D.nx } σ2 H2):=by
 refine⟨fun i m σ H=>m=n-i/\i<=n/\Pv i σ H,⟨n,by simp,df _,h0⟩,?_⟩;rintro i m σ H ⟨rfl,hi,p⟩;by_cases hlt:i<n
 ·refine .inr ⟨hlt,Pv (i+1),fun σ' H' p'=>⟨n-(i+1),by omega,rfl,hlt,p'⟩,fun x H' y=>?_⟩;obtain⟨e,y⟩:=y;subst e y;exact hs i σ _ hlt p
 ·have e:i=n:=by omega
  subst e;exact .inl ⟨aG _,hd σ H p⟩
end L2
namespace L2
open PySem PySem.Spec PyProof.Rows
abbrev R2:=V->V->Hp->VK->Prop
def nY(X:Cx)(f:Value->Value->Sem Value)(r:R2):Prop :=
 ∀(J3:Zd) (s:Shared) (σ:St) (H:Hp) (x y:V) (v u:Value) (Q:VK),Inv X J3 σ H s->RelV x v->RelV y u->r x y H Q ->
  wpAny (model X.prog X.w) X.A (f v u) (EP X J3 σ Q) X.xe s
def gv(X:Cx)(f:Value)(r:List V->Hp->VK->Prop):Prop :=
 ∀(J3:Zd) (s:Shared) (σ:St) (H:Hp) (xs:List V) (us:Zf) (Q:VK),Inv X J3 σ H s->aZ xs us->r xs H Q ->
  wpAny (model X.prog X.w) X.A (call f us) (EP X J3 σ Q) X.xe s
def aI(r:R2)(ta tb:TE):TE:=fun σ H Q=>ta σ H fun x H1=>tb σ H1 fun y H2=>r x y H2 Q
def rI(C:Int->Int->Prop)(g:Int->Int->V):R2:=fun x y H Q=>∃i j,x=.int i/\y=.int j/\C i j/\Q (g i j) H
def Ez(g:Int->Int->V):R2:=fun x y H Q=>∃i j,x=.int i/\y=.int j/\Q (g i j) H
section
variable{X:Cx}{a b c:Expr}{ta tb tc:TE}{pos:Pos}
theorem IR(ha:PE X a ta)(hb:PE X b tb){J3:Zd}{s:Shared}{σ:St}{H:Hp}{R:V->V->Hp->Prop}(I:Inv X J3 σ H s)
  (h:ta σ H fun x H1=>tb σ H1 fun y H2=>R x y H2) {Q:Zc}{f:Value->Value->Sem Value}
  (hf:∀v u s2 x y H2,Inv X J3 σ H2 s2->RelV x v->RelV y u->R x y H2->wpAny (model X.prog X.w) X.A (f v u) Q X.xe s2) :
  wpAny (model X.prog X.w) X.A (eval a X.env) (fun v s₁=>wpAny (model X.prog X.w) X.A (eval b X.env) (fun u s₂=>wpAny (model X.prog X.w) X.A (f v u) Q X.xe s₂) X.xe s₁) X.xe s:=by
 refine cD (ha J3 s σ H _ I h) fun v s1 ⟨x,H1,I1,r1,q1⟩=>?_;refine cD (hb J3 s1 σ H1 _ I1 q1) fun u s2 ⟨y,H2,I2,r2,q2⟩=>?_;exact hf v u s2 x y H2 I2 r1 r2 q2
theorem aQ{op:Operator}{r:R2}(ho:nY X (qP op) r)(ha:PE X a ta)(hb:PE X b tb):PE X (.BinOp a op b pos) (aI r ta tb):=by
 intro J3 s σ H Q I h;exact wpAny_BinOp (IR ha hb I h fun v u s2 x y H2 I2 rx ry q=>ho J3 s2 σ H2 x y v u Q I2 rx ry q)
theorem JM{f:Value->Value->Sem Value}{C:Int->Int->Prop}{g:Int->Int->Int}
  (rule:∀(i j:Int) (t u:Tok) (s:Shared) (Q:Zc) (E:Zc),C i j->Q (.int (g i j) s.toks) { s with toks:=s.toks+1 }->wpAny (model X.prog X.w) X.A (f (.int i t) (.int j u)) Q E s) :
  nY X f (rI C fun i j=>.int (g i j)):=by
 intro J3 s σ H x y v u Q I rx ry h;obtain⟨i,j,rfl,rfl,hc,q⟩:=h;obtain⟨t,rfl⟩:=rx;obtain⟨t',rfl⟩:=ry;exact rule i j t t' s _ _ hc ⟨.int (g i j),H,I.tok _,⟨_,rfl⟩,q⟩
theorem opI0{f:Value->Value->Sem Value}{g:Int->Int->Int}
  (rule:∀(i j:Int) (t u:Tok) (s:Shared) (Q:Zc) (E:Zc),Q (.int (g i j) s.toks) { s with toks:=s.toks+1 }->wpAny (model X.prog X.w) X.A (f (.int i t) (.int j u)) Q E s) :
  nY X f (Ez fun i j=>.int (g i j)):=by
 intro J3 s σ H x y v u Q I rx ry h;obtain⟨i,j,rfl,rfl,q⟩:=h;obtain⟨t,rfl⟩:=rx;obtain⟨t',rfl⟩:=ry;exact rule i j t t' s _ _ ⟨.int (g i j),H,I.tok _,⟨_,rfl⟩,q⟩
theorem Hl{f:Value->Value->Sem Value}{g:Int->Int->Bool}
  (rule:∀(i j:Int) (t u:Tok) (s:Shared) (Q:Zc) (E:Zc),Q (.bool (g i j)) s->wpAny (model X.prog X.w) X.A (f (.int i t) (.int j u)) Q E s) :
  nY X f (Ez fun i j=>.bl (g i j)):=by
 intro J3 s σ H x y v u Q I rx ry h;obtain⟨i,j,rfl,rfl,q⟩:=h;obtain⟨t,rfl⟩:=rx;obtain⟨t',rfl⟩:=ry;exact rule i j t t' s _ _ ⟨.bl (g i j),H,I,rfl,q⟩
def JG(i j:Int):Prop:=0<j/\j<1073741824
def JF(i j:Int):Prop:=0<=j/\j<=1000000/\i.natAbs<2 ^ 64
def GG(i j:Int):Prop:=(-(2 ^ 64)<i/\i<2 ^ 64)∨(-(2 ^ 64)<j/\j<2 ^ 64)
theorem GG.ok{i j:Int}(h:GG i j):IntMulOk i j:=by
 rcases h with⟨h1,h2⟩|⟨h1,h2⟩
 ·exact .of_left (intBits_le_64 h1 h2)
 ·exact .of_right (intBits_le_64 h1 h2)
theorem cw:nY X (qP .Add) (Ez fun i j=>.int (i+j)):=opI0 fun _ _ _ _ _ _ _ q=>add_int q
theorem iV:nY X (qP .Mult) (rI GG fun i j=>.int (i * j)):=JM fun _ _ _ _ _ _ _ hc q=>mul_int q hc.ok
theorem CK:nY X (qP .FloorDiv) (rI JG fun i j=>.int (i / j)):=JM fun i j _ _ _ _ _ hc q=>by
 have h1:(0:Int)<j:=hc.1;have h2:j<1073741824:=hc.2;exact floordiv_int (by omega) (by rw[Int.fdiv_eq_ediv_of_nonneg i (by omega)];exact q) (.inl (PyProof.noPylong_small (by omega)))
theorem gU:nY X (qP .Mod) (rI (fun _ j=>0<j) fun i j=>.int (i % j)):=JM fun i j _ _ _ _ _ hc q=>by
 have h1:(0:Int)<j:=hc;exact mod_int' (by omega) (by rw[Int.fmod_eq_emod_of_nonneg i (by omega)];exact q)
theorem Fw:nY X (qP .Pow) (rI JF fun i j=>.int (i ^ j.toNat)):=JM fun _ _ _ _ _ _ _ hc q=>pow_int_small hc.1 hc.2.1 hc.2.2 q
end
def Jf:V->V->Bool
 |.non,.non=>true | .non,.int _=>true | .int _,.non=>true | .non,.bl _=>true | .bl _,.non=>true | .non,.str _=>true | .str _,.non=>true
 |.int _,.int _=>true | .bl _,.bl _=>true | .str _,.str _=>true | .byt _,.byt _=>true
 |.int _,.str _=>true | .str _,.int _=>true | .bl _,.str _=>true | .str _,.bl _=>true
 |_,_=>false
def Ar:R2:=fun x y H Q=>Jf x y=true/\Q (.bl (decide (x=y))) H
def Fj:R2:=fun x y H Q=>Jf x y=true/\Q (.bl (!decide (x=y))) H
theorem C3{i j:Int}:decide (V.int i=V.int j)=(i==j):=by
 rw[vi];simp
theorem Gn{i j:Bool}:decide (V.bl i=V.bl j)=(i==j):=by
 rw[vi];simp
theorem C1{i j:Str}:decide (V.str i=V.str j)=(i==j):=by
 rw[vi];simp
theorem C4{i j:Array UInt8}:decide (V.byt i=V.byt j)=(i.toList==j.toList):=by
 rw[vi];cases i;cases j;simp
section
variable{X:Cx}{a b c:Expr}{ta tb tc:TE}{pos:Pos}
theorem bN{J3:Zd}{σ:St}{H:Hp}{s:Shared}{Q:VK}{k k':Bool}(I:Inv X J3 σ H s)(q:Q (.bl k) H)(e:k=k'):EP X J3 σ Q (.bool k') s:=by
 subst e;exact⟨.bl k,H,I,rfl,q⟩
theorem je:nY X (em .Eq) Ar:=by
 intro J3 s σ H x y v u Q I rx ry h;obtain⟨hs,q⟩:=h;cases x with
 |non =>
  cases rx;cases y with
  |non=>cases ry;exact PySem.EqNone.eq_none_none (bN I q (by simp))
  |bl j=>cases ry;exact PySem.EqNone.eq_none_bool (bN I q (by simp))
  |int j=>obtain⟨t',rfl⟩:=ry;exact PySem.EqNone.eq_none_int (bN I q (by simp))
  |str j=>obtain⟨t',rfl⟩:=ry;exact PySem.EqNone.eq_none_str (bN I q (by simp))
  |_=>exact absurd (show false=true from hs) gK
 |bl i =>
  cases rx;cases y with
  |non=>cases ry;exact PySem.EqNone.eq_bool_none (bN I q (by simp))
  |bl j=>cases ry;exact eq_bool (bN I q Gn)
  |str j=>obtain⟨t',rfl⟩:=ry;exact PySem.EqMixed.eq_bool_str (bN I q (by simp))
  |_=>exact absurd (show false=true from hs) gK
 |int i =>
  obtain⟨t,rfl⟩:=rx;cases y with
  |non=>cases ry;exact PySem.EqNone.eq_int_none (bN I q (by simp))
  |int j=>obtain⟨t',rfl⟩:=ry;exact eq_int (bN I q C3)
  |str j=>obtain⟨t',rfl⟩:=ry;exact PySem.EqMixed.eq_int_str (bN I q (by simp))
  |_=>exact absurd (show false=true from hs) gK
 |str i =>
  obtain⟨t,rfl⟩:=rx;cases y with
  |non=>cases ry;exact PySem.EqNone.eq_str_none (bN I q (by simp))
  |bl j=>cases ry;exact PySem.EqMixed.eq_str_bool (bN I q (by simp))
  |int j=>obtain⟨t',rfl⟩:=ry;exact PySem.EqMixed.eq_str_int (bN I q (by simp))
  |str j=>obtain⟨t',rfl⟩:=ry;exact eq_str (bN I q C1)
  |_=>exact absurd (show false=true from hs) gK
 |byt i =>
  obtain⟨t,rfl⟩:=rx;cases y with
  |byt j=>obtain⟨t',rfl⟩:=ry;exact PySem.W.eq_bytes (bN I q C4)
  |_=>exact absurd (show false=true from hs) gK
 |_=>cases y<;>exact absurd (show false=true from hs) gK
theorem vJ:nY X (em .NotEq) Fj:=by
 intro J3 s σ H x y v u Q I rx ry h;obtain⟨hs,q⟩:=h;cases x with
 |non =>
  cases rx;cases y with
  |non=>cases ry;exact PySem.EqNone.ne_none_none (bN I q (by simp))
  |bl j=>cases ry;exact PySem.EqNone.ne_none_bool (bN I q (by simp))
  |int j=>obtain⟨t',rfl⟩:=ry;exact PySem.EqNone.ne_none_int (bN I q (by simp))
  |str j=>obtain⟨t',rfl⟩:=ry;exact PySem.EqNone.ne_none_str (bN I q (by simp))
  |_=>exact absurd (show false=true from hs) gK
 |bl i =>
  cases rx;cases y with
  |non=>cases ry;exact PySem.EqNone.ne_bool_none (bN I q (by simp))
  |bl j=>cases ry;exact ne_bool (bN I q (congrArg not Gn))
  |str j=>obtain⟨t',rfl⟩:=ry;exact PySem.EqMixed.ne_bool_str (bN I q (by simp))
  |_=>exact absurd (show false=true from hs) gK
 |int i =>
  obtain⟨t,rfl⟩:=rx;cases y with
  |non=>cases ry;exact PySem.EqNone.ne_int_none (bN I q (by simp))
  |int j=>obtain⟨t',rfl⟩:=ry;exact ne_int (bN I q (congrArg not C3))
  |str j=>obtain⟨t',rfl⟩:=ry;exact PySem.EqMixed.ne_int_str (bN I q (by simp))
  |_=>exact absurd (show false=true from hs) gK
 |str i =>
  obtain⟨t,rfl⟩:=rx;cases y with
  |non=>cases ry;exact PySem.EqNone.ne_str_none (bN I q (by simp))
  |bl j=>cases ry;exact PySem.EqMixed.ne_str_bool (bN I q (by simp))
  |int j=>obtain⟨t',rfl⟩:=ry;exact PySem.EqMixed.ne_str_int (bN I q (by simp))
  |str j=>obtain⟨t',rfl⟩:=ry;exact ne_str (bN I q (congrArg not C1))
  |_=>exact absurd (show false=true from hs) gK
 |byt i =>
  obtain⟨t,rfl⟩:=rx;cases y with
  |byt j=>obtain⟨t',rfl⟩:=ry;exact PySem.W.ne_bytes (bN I q (congrArg not C4))
  |_=>exact absurd (show false=true from hs) gK
 |_=>cases y<;>exact absurd (show false=true from hs) gK
theorem vK:nY X (em .Lt) (Ez fun i j=>.bl (decide (i<j))):=Hl fun _ _ _ _ _ _ _ q=>lt_int q
theorem Jj:nY X (em .LtE) (Ez fun i j=>.bl (decide (i<=j))):=Hl fun _ _ _ _ _ _ _ q=>le_int q
theorem zG:nY X (em .Gt) (Ez fun i j=>.bl (decide (j<i))):=Hl fun _ _ _ _ _ _ _ q=>gt_int q
theorem Jk:nY X (em .GtE) (Ez fun i j=>.bl (decide (j<=i))):=Hl fun _ _ _ _ _ _ _ q=>ge_int q
theorem DJ:nY X (em .In) (fun x y H Q=>∃i j,x=.str i/\y=.str j/\Q (.bl (!(bZ.Str.occurrences j i 0 j.length 1).isEmpty)) H):=by
 intro J3 s σ H x y v u Q I rx ry h;obtain⟨i,j,rfl,rfl,q⟩:=h;obtain⟨t,rfl⟩:=rx;obtain⟨t',rfl⟩:=ry;exact in_str (bN I q rfl)
theorem Fz(b:Expr){op:CmpOp}(h:op≠.In:=by decide)(h2:op≠.NotIn:=by decide):kN op b=false:=by
 have e1:(op==CmpOp.In)=false:=by cases op<;>first|rfl|exact absurd rfl h
 have e2:(op==CmpOp.NotIn)=false:=by cases op<;>first|rfl|exact absurd rfl h2
 cases b<;>simp[kN,e1,e2]
theorem CF{op:CmpOp}{r:R2}(ho:nY X (em op) r)(ha:PE X a ta)(hb:PE X b tb)(hm:kN op b=false):PE X (.Compare a [op] [b] pos) (aI r ta tb):=by
 intro J3 s σ H Q I h;exact wpAny_Compare1 (IR ha hb I h fun v u s2 x y H2 I2 rx ry q=>ho J3 s2 σ H2 x y v u Q I2 rx ry q) hm
def a_(t:TE):TT:=fun σ H Q=>t σ H fun x H'=>∃k,x=.bl k/\Q k H'
theorem CA{op:CmpOp}{r:R2}(ho:nY X (em op) r)(ha:PE X a ta)(hb:PE X b tb)(hm:kN op b=false):PT X (.Compare a [op] [b] pos) (a_ (aI r ta tb)):=by
 intro J3 s σ H Q I h;refine wpAny_isTrue_Compare1 (cD (ha J3 s σ H _ I h) fun v s1 ⟨x,H1,I1,r1,q1⟩=>cD (hb J3 s1 σ H1 _ I1 q1) fun u s2 ⟨y,H2,I2,r2,q2⟩ =>
  cD (ho J3 s2 σ H2 x y v u _ I2 r1 r2 q2) fun c s3 ⟨z,H3,I3,r3,k,e,q3⟩=>?_) hm
 subst e;cases r3;exact qU ⟨H3,I3,q3⟩
theorem qv:(aj:Nat)<2 ^ 63:=by rw[kM];decide
theorem tS:nY X (qP .Add) (fun x y H Q=>∃i j,x=.str i/\y=.str j/\i.length+j.length<=aj/\Q (.str (i++j)) H):=by
 intro J3 s σ H x y v u Q I rx ry h;obtain⟨i,j,rfl,rfl,hz,q⟩:=h;obtain⟨t,rfl⟩:=rx;obtain⟨t',rfl⟩:=ry;exact add_str (fun t' tk=>⟨.str (i++j),H,I.tok _,⟨_,rfl⟩,q⟩) hz
theorem vals1{x:V}{us:Zf}(r:aZ [x] us):∃u,us=[u]/\RelV x u:=by
 cases r with
 |cons r1 r2=>cases r2;exact⟨_,rfl,r1⟩
theorem vals2{x y:V}{us:Zf}(r:aZ [x,y] us):∃u w',us=[u,w']/\RelV x u/\RelV y w':=by
 cases r with
 |cons r1 r2 =>
  cases r2 with
  |cons r3 r4=>cases r4;exact⟨_,_,rfl,r1,r3⟩
theorem Em(hc:X.calm=true):gv X (.builtin "max") (fun xs H Q=>∃i j,xs=[.int i,.int j]/\Q (.int (if j > i then j else i)) H):=by
 intro J3 s σ H xs us Q I r h;obtain⟨i,j,rfl,q⟩:=h;obtain⟨u,w',rfl,⟨t,rfl⟩,⟨t',rfl⟩⟩:=vals2 r;refine max_two_ints (I.ok.hd hc) fun h' tk k=>⟨_,H,I.kept k,?_,q⟩;by_cases hj:j > i
 ·rw[if_pos hj,if_pos hj];exact⟨_,rfl⟩
 ·rw[if_neg hj,if_neg hj];exact⟨_,rfl⟩
end
end L2
namespace L2
open PySem PySem.Spec PyProof.Rows
structure BO(h:Heap)(x dx C:Addr)(mA:Str->Option Value):Prop where
 obj:h.get? x=some (qT C dx)
 ns:h.Ns1 dx mA
 ne:dx≠x
theorem DR{h:Heap}{dx:Addr}{mA:Str->Option Value}(n:h.Ns1 dx mA):∃od,h.get? dx=some od/\∀name,Cd name od=some (mA name):=by
 obtain⟨o,es,ep,ho,hd,hk,_,hm⟩:=n;refine⟨o,ho,fun name=>?_⟩;have e:=hm name;unfold nsFind findBy at e;rw[<-Array.find?_toList]at e;unfold Cd;rw[hd];dsimp only;split
 ·rename_i y q;rw[q]at e;exact congrArg some e
 ·rename_i q;rw[q]at e;have a:es.toList.any (·.refKey)=false:=by
   rw[List.any_eq_false];intro y hy;obtain⟨z,t,hkey⟩:=hk y (Array.mem_toList_iff.mp hy);simp[pT.refKey,hkey]
  have a':¬es.toList.any (·.refKey)=true:=by rw[a];exact gK
  rw[if_neg a'];exact congrArg some e
theorem BO.look{h:Heap}{x dx C:Addr}{mA:Str->Option Value}(I:BO h x dx C mA):∃od,PySem.W.InstAt h x (qT C dx) C (some od)/\∀name,Cd name od=some (mA name) :=
 let⟨od,ho,hl⟩:=DR I.ns
 ⟨od,⟨I.obj,rfl,rfl,ho⟩,hl⟩
section
variable{prog:ck}{w:World}{A:Around}{E:Zc}{s:Shared}{K:Za}{x dx C f:Addr}{mA:Str->Option Value}{name:Str}{v:Value}
theorem Ht{expr:Bool}{Q:Zc}(X:K.In s.heap)(I:BO s.heap x dx C mA)(hg:vh K C name=true)(hh:yF K C=true)
  (ha:dw K (.ref C) name=some none) (hv:mA name=some v) (hv':PySem.W.handedIn v=true) (h:Q v { s with toks:=s.toks+1 }) :
  wpAny (model prog w) A (getAttr (.ref x) name expr) Q E s:=by
 obtain⟨od,J,hl⟩:=I.look;exact PySem.W.get_value X J (PySem.W.plainGet_of hg).1 (PySem.W.findObj_own hh ha rfl (by rw[hl,hv])) hv' h
theorem FZ{pl:Sem Bool}{Q:Value×List Value->Shared->Prop}(X:K.In s.heap)(I:BO s.heap x dx C mA)(hg:vh K C name=true)
  (hf:dw K (.ref C) name=some (some (.ref f))) (ht:yE K (.ref f)=true) (hv:mA name=none) (h:Q (.ref f,[.ref x]) s) :
  wpAny (model prog w) A (qO (.ref x) name pl) Q E s:=by
 obtain⟨od,J,hl⟩:=I.look;exact PySem.W.method_fn X J (PySem.W.plainGet_of hg).1 (PySem.W.plainGet_of hg).2 hf (beq_iff_eq.mp ht) (by show(Cd name od).map (·.isSome)=some false;rw[hl,hv];rfl) h
theorem GZ{ns:Zb}{Q:Unit->Shared->Prop}(X:K.In s.heap)(I:BO s.heap x dx C mA)
  (hs:dw K (.ref C) "__setattr__"=some (some (.builtin "object.__setattr__"))) (hp:Cc K C=true) (ht:PySem.W.takerIn K C name=some none) (hh:yF K C=true)
  (hw:PySem.Within mA ns) (hsz:ns.length<=aj)
  (h:∀h',BO h' x dx C (fun y=>if y=name then some v else mA y)->fD dx s.heap h'->Q () { s with heap:=h',toks:=s.toks+2 }) :
  wpAny (model prog w) A (setAttr (.ref x) name v) Q E s:=by
 obtain⟨od,J,hl⟩:=I.look;refine PySem.W.set_plain X J hs (PySem.W.osa_open (s:={ s with toks:=s.toks+1 }) (r:=none) X J hp ht fun b=>?_);obtain⟨cd,hc,hd'⟩:=PySem.W.any_some hh;have hx:s.heap.get? x=some ⟨.ref C,some dx,.plain,#[]⟩:=I.obj;refine ak (aH (ak (ak (wpAny_loadPart hx (ak (PySem.W.Looks.here (s:={ s with toks:=s.toks+1 }) (PySem.W.looks_clsIn X hc) ?_))))));rw[hd'];refine aH (a:=some dx) (ak (aH (ak ?_)));refine wpAny_nsSet1 (s:={ s with toks:=s.toks+1 }) I.ns fun h' hn2 hs2=>?_;obtain⟨oD,esD,epD,hoD,hdD,hcD⟩:=hn2.count (PySem.Within.cons name v hw);refine ak (wpAny_lookBehind hoD (by rw[hdD];exact pastItsLine_dict (bL hcD (by rw[cZ];omega))) ?_);exact aH (h _ ⟨(hs2.2 _ (dA I.ne)).trans I.obj,hn2,I.ne⟩ hs2)
theorem FI{R:Result->Shared->Prop}{vs:Zf}{kw:List (Str×Value)}(X:K.In s.heap)(hm:sk K C=true)
  (hi:dw K (.ref C) "__init__"=some (some (.ref f))) (hf:PySem.W.typeIn K (.ref f)=some (.type "function"))
  (h:zzl77 (model prog w) (A.under (.builtin "type.__call__" ⟨.ref C::vs,kw⟩)) (.call (.ref f) ⟨.ref (s.heap.objs.size+1)::vs,kw⟩) (PySem.W.InitBack (s.heap.objs.size+1) R)
   { s with heap:=(s.heap.push oA).push (qT C s.heap.objs.size) }) :
  zzl77 (model prog w) A (.call (.ref C) ⟨vs,kw⟩) R s:=by
 obtain⟨hh,g,d,t,os⟩:=s;exact PySem.W.make_core (PySem.W.makes_of X hm) (PySem.W.looks_findIn X hi) (fun self=>PySem.W.bind_fn X self hf) (.inl rfl) h
end
def cH(f:Str)(v:V):List (Str×V)->List (Str×V)
 |[]=>[(f,v)]
 | (g,x)::r=>if g=f then(g,v)::r else(g,x)::cH f v r
theorem eN(f g:Str)(v:V):∀fs:List (Str×V),(cH f v fs).lookup g=if g=f then some v else fs.lookup g
 |[]=>by
  show kL g [(f,v)]=_;by_cases h:g=f
  ·have hb:(g==f)=true:=beq_iff_eq.mpr h;simp only[kL,hb,if_pos h]
  ·have hb:(g==f)=false:=beq_eq_false_iff_ne.mpr h;simp only[kL,hb,if_neg h]
 | (k,x)::r=>by
  have ih:=eN f g v r;rw[show cH f v ((k,x)::r)=(if k=f then(k,v)::r else(k,x)::cH f v r)from rfl]
  by_cases hk:k=f
  ·rw[if_pos hk];by_cases h:g=k
   ·have hb:(g==k)=true:=beq_iff_eq.mpr h;simp only[kL,hb,if_pos (h.trans hk)]
   ·have hb:(g==k)=false:=beq_eq_false_iff_ne.mpr h;simp only[kL,hb,if_neg (fun e:g=f=>h (e.trans hk.symm))]
  ·rw[if_neg hk];by_cases h:g=k
   ·have hb:(g==k)=true:=beq_iff_eq.mpr h;simp only[kL,hb,if_neg (fun e:g=f=>hk (h.symm.trans e))]
   ·have hb:(g==k)=false:=beq_eq_false_iff_ne.mpr h;simp only[kL,hb];exact ih
theorem qx(f:Str)(v:V):∀fs:List (Str×V),f∈(cH f v fs).map (·.1)/\∀g,g∈fs.map (·.1)->g∈(cH f v fs).map (·.1)
 |[]=>⟨by simp[cH],fun g h=>by simp at h⟩
 | (k,x)::r=>by
  obtain⟨i1,i2⟩:=qx f v r;rw[show cH f v ((k,x)::r)=(if k=f then(k,v)::r else(k,x)::cH f v r)from rfl]
  by_cases hk:k=f
  ·rw[if_pos hk];subst hk;exact⟨by simp,fun g h=>by simpa using h⟩
  ·rw[if_neg hk];refine⟨?_,fun g h=>?_⟩
   ·rw[bb];exact cT _ i1
   ·rw[bb]at h ⊢;rcases bM.mp h with e|e
    ·exact bM.mpr (.inl e)
    ·exact cT _ (i2 g e)
theorem rf(f:Str)(v:V):∀fs:List (Str×V),(cH f v fs).length<=fs.length+1
 |[]=>by simp[cH]
 | (k,x)::r=>by
  have ih:=rf f v r;rw[show cH f v ((k,x)::r)=(if k=f then(k,v)::r else(k,x)::cH f v r)from rfl]
  by_cases hk:k=f
  ·rw[if_pos hk,cZ,cZ];omega
  ·rw[if_neg hk,cZ,cZ];omega
theorem kT.some_of{v:V}{o:Option Value}(r:kT (some v) o):∃u,o=some u/\RelV v u:=by
 cases o with
 |none=>exact(show False from r).elim
 |some u=>exact⟨u,rfl,r⟩
theorem kT.none_of{o:Option Value}(r:kT none o):o=none:=by
 cases o with
 |none=>rfl
 |some u=>exact(show False from r).elim
theorem Ea{v:V}{u:Value}(r:RelV v u):PySem.W.handedIn u=true:=by
 cases v with
 |non=>cases(show u=Value.none from r);rfl
 |bl b=>cases(show u=Value.bool b from r);rfl
 |int i=>obtain⟨t,e⟩:=(show ∃t,u=Value.int i t from r);cases e;rfl
 |str x=>obtain⟨t,e⟩:=(show ∃t,u=Value.str x t from r);cases e;rfl
 |byt b=>obtain⟨t,e⟩:=(show ∃t,u=Value.bytes b t from r);cases e;rfl
 |flt b=>obtain⟨t,e⟩:=(show ∃t,u=Value.float b t from r);cases e;rfl
 |ref a=>cases(show u=Value.ref a from r);rfl
 |ty n=>cases(show u=Value.type n from r);rfl
section
variable{P:ck}{w:World}{H H':Hp}{h h':Heap}{a C dx:Addr}{fs fs':List (Str×V)}
theorem r9{K:Za}(hok:mF P w K H h)(e:H a=some (.ins C dx fs)):∃mA,BO h a dx C mA/\(∀f,kT (fs.lookup f) (mA f))/\PySem.Within mA (fs.map (·.1))/\fs.length<=1000/\H dx=some (.own a):=by
 obtain⟨d,z,ne,ob,mA,n,r,q⟩:=(show bW P w K H h a (.ins C dx fs)from hok a _ e);exact⟨mA,⟨ob,n,ne⟩,r,q,z,d⟩
end
structure Df(K:Za)(C:Addr):Prop where
 pg:vh K C Str.empty=true
 hd:yF K C=true
 po:Cc K C=true
 sa:dw K (.ref C) "__setattr__"=some (some (.builtin "object.__setattr__"))
theorem Df.get{K:Za}{C:Addr}(c:Df K C)(f:Str):vh K C f=true:=c.pg
def dP(K:Za)(C:Addr)(f:Str):Prop:=dw K (.ref C) f=some none
theorem dP.taker{K:Za}{C:Addr}{f:Str}(n:dP K C f):PySem.W.takerIn K C f=some none:=by
 unfold PySem.W.takerIn;rw[show dw K (.ref C) f=some none from n]
 rfl
structure HQ(K:Za)(C:Addr)(m:Str)(f:Addr):Prop where
 at_:dw K (.ref C) m=some (some (.ref f))
 fn:yE K (.ref f)=true
 kp:iK K (.ref f)=true
section
variable{X:Cx}{J3:Zd}{σ:St}{H:Hp}{s:Shared}{a C dx:Addr}{fs:List (Str×V)}{f:Str}{v:V}{A:Around}{E:Zc}
theorem Bx{b:Bool}{Q:Zc}(I:Inv X J3 σ H s)(e:H a=some (.ins C dx fs))(c:Df X.K C)(n:dP X.K C f)(l:fs.lookup f=some v)
  (h:∀u s',Inv X J3 σ H s'->RelV v u->Q u s'):wpAny (model X.prog X.w) A (getAttr (.ref a) f b) Q E s:=by
 obtain⟨mA,O,r,_,_,_⟩:=r9 I.hok e;obtain⟨u,hu,ru⟩:=kT.some_of (v:=v) (o:=mA f) (by rw[<-l];exact r f);exact Ht I.kIn O (c.get f) c.hd n hu (Ea ru) (h u _ (I.tok _) ru)
theorem t8{m:Str}{g:Addr}{pl:Sem Bool}{Q:Value×List Value->Shared->Prop}(I:Inv X J3 σ H s)(e:H a=some (.ins C dx fs))(c:Df X.K C)(k:HQ X.K C m g)(l:fs.lookup m=none)
  (h:Q (.ref g,[.ref a]) s):wpAny (model X.prog X.w) A (qO (.ref a) m pl) Q E s:=by
 obtain⟨mA,O,r,_,_,_⟩:=r9 I.hok e;have hn:mA m=none:=kT.none_of (by rw[<-l];exact r m);exact FZ I.kIn O (c.get m) k.at_ k.fn hn h
theorem AT{y:V}{u:Value}{Q:Unit->Shared->Prop}(I:Inv X J3 σ H s)(e:H a=some (.ins C dx fs))(c:Df X.K C)(n:dP X.K C f)(hl:fs.length<1000)(ry:RelV y u)
  (h:∀s',Inv X J3 σ (upd H a (.ins C dx (cH f y fs))) s'->Q () s'):wpAny (model X.prog X.w) A (setAttr (.ref a) f u) Q E s:=by
 obtain⟨mA,O,r,wi,_,ho⟩:=r9 I.hok e;have hz:(fs.map (·.1)).length<=aj:=by rw[ai,kM];omega
 refine GZ I.kIn O c.sa c.po n.taker c.hd wi hz fun h' O' sb=>h _ ?_;have hd:∃o,h'.get? dx=some o:=let⟨o,_,_,e',_⟩:=O'.ns;⟨o,e'⟩;refine I.write (x:=a) (e:=dx) (by rw[e];exact i8) (.inr ho) (fun b q hb z=>(sb.2 b hb).trans z) hd ?_;refine⟨by rw[ag O.ne];exact ho,?_,O.ne,O'.obj,_,O'.ns,fun g=>?_,fun g hg=>?_⟩
 ·have:=rf f y fs;omega
 ·show kT ((cH f y fs).lookup g) (if g=f then some u else mA g)
  rw[eN];by_cases q:g=f
  ·rw[if_pos q,if_pos q];exact ry
  ·rw[if_neg q,if_neg q];exact r g
 ·by_cases q:g=f
  ·rw[q];exact(qx f y fs).1
  ·refine(qx f y fs).2 g (wi g fun z=>hg ?_);show(if g=f then some u else mA g)=none
   rw[if_neg q];exact z
theorem Inv.made(I:Inv X J3 σ H s):Inv X J3 σ (upd (upd H s.heap.objs.size (.own (s.heap.objs.size+1))) (s.heap.objs.size+1) (.ins C s.heap.objs.size []))
  { s with heap:=(s.heap.push oA).push (qT C s.heap.objs.size) }:=by
 have e1:(s.heap.push oA).get? s.heap.objs.size=some oA:=cK s.heap rfl;have e2:((s.heap.push oA).push (qT C s.heap.objs.size)).get? (s.heap.objs.size+1)=some (qT C s.heap.objs.size):=by
  have:=cK (s.heap.push oA) (o:=qT C s.heap.objs.size) rfl;rwa[oz]at this
 have e3:(s.heap.push oA).Ns s.heap.objs.size (fun _=>none):=⟨oA,#[],_,e1,rfl,(fun e he=>absurd he (by simp)),fun _=>rfl⟩;have I1:=I.laid (a:=s.heap.objs.size) (o:=.own (s.heap.objs.size+1)) (h':=s.heap.push oA) (t':=s.toks) (fun b u q=>bj _ q) (aG _) ⟨_,e1⟩;refine I1.laid (a:=s.heap.objs.size+1) (o:=.ins C s.heap.objs.size []) (t':=s.toks) (fun b u q=>bj _ q) (Nat.le_of_eq (oz _ _)) ?_;have ne:s.heap.objs.size≠s.heap.objs.size+1:=c6 (Nat.lt_succ_self _);refine⟨by rw[ag ne,aa],df _,ne,e2,fun _=>none,(Heap.Ns1.of_empty e3).at fun o q=>bj _ q,fun _=>i8,fun y hy=>absurd rfl hy⟩
theorem HH{prog:ck}{w:World}{env:Env}{e:Expr}{f:Str}{pos:Pos}{s:Shared}{Q:Zc}(hb:sj e f env (eval e env)=eval e env)
  (h:wpAny (model prog w) A (eval e env) (fun o s₁=>wpAny (model prog w) A (getAttr o f true) Q E s₁) E s):wpAny (model prog w) A (eval (.Attribute e f pos) env) Q E s :=
 Attribute_any_ h (by rw[arm_eval_Attribute,hb])
end
def fP(K:Za)(ta:TE)(f:Str):TE:=fun σ H Q=>ta σ H fun x H1=>∃a C dx fs v,x=.ref a/\H1 a=some (.ins C dx fs)/\Df K C/\dP K C f/\fs.lookup f=some v/\Q v H1
def oT(K:Za)(ta tv:TE)(f:Str):TS:=fun D σ H=>tv σ H fun y H1=>ta σ H1 fun x H2=>∃a C dx fs,x=.ref a/\H2 a=some (.ins C dx fs)/\Df K C/\dP K C f/\fs.length<1000 /\
 D.nx σ (upd H2 a (.ins C dx (cH f y fs)))
section
variable{X:Cx}{o e value:Expr}{f:Str}{pos pos' J7:Pos}{ta tv:TE}
theorem b0(he:PE X e ta)(hb:sj e f X.env (eval e X.env)=eval e X.env):PE X (.Attribute e f pos) (fP X.K ta f):=by
 intro J3 s σ H Q I h;refine HH hb (cD (he J3 s σ H _ I h) fun u s1 ⟨x,H1,I1,rx,a,C,dx,fs,v,ex,ea,c,n,l,q⟩=>?_);subst ex;obtain rfl:u=Value.ref a:=rx;exact Bx I1 ea c n l fun u' s2 I2 ru=>⟨v,H1,I2,ru,q⟩
theorem gS(ha:PE X o ta)(hv:PE X value tv)(hs:qQ value (some (.Attribute o f pos')) pos.line X.env=pure false):PS X (.Assign [.Attribute o f pos'] value pos) (oT X.K ta tv f):=by
 intro J3 s σ H D I h;refine plainObj_wpAny_Assign_Attribute (cD (hv J3 s σ H _ I h) fun u s1 ⟨y,H1,I1,ry,q⟩=>cD (ha J3 s1 σ H1 _ I1 q) fun ov s2 ⟨x,H2,I2,rx,a,C,dx,fs,ex,ea,c,n,l,q2⟩=>?_) hs;subst ex;obtain rfl:ov=Value.ref a:=rx;exact AT I2 ea c n l ry fun s3 I3=>⟨σ,_,I3,q2⟩
end
section
variable{X:Cx}{J3:Zd}{σ:St}{H:Hp}{s:Shared}{A:Around}{E:Zc}{Q:Zc}{c:Value}{b:Bool}
inductive kr(K:Za)(H:Hp):V->Value->Prop where
 |non:kr K H .non (.type "NoneType")
 |bl (x:Bool):kr K H (.bl x) (.type "bool")
 |int (i:Int):kr K H (.int i) (.type "int")
 |str (x:Str):kr K H (.str x) (.type "str")
 |flt (x:UInt64):kr K H (.flt x) (.type "float")
 |lst {a:Addr}{xs:List V}(e:H a=some (.lst xs)):kr K H (.ref a) (.type "list")
 |frz {a:Addr}{o:Obj}{xs:List V}(e:H a=some (.frz o (.lst xs))):kr K H (.ref a) (.type "list")
 |tup {a:Addr}{xs:List V}(e:H a=some (.tup xs)):kr K H (.ref a) (.type "tuple")
 |dK {a:Addr}{kvs:List (eS×V)}(e:H a=some (.dK kvs)):kr K H (.ref a) (.type "dict")
 |dT {a:Addr}{kvs:List (TK×V)}(e:H a=some (.dT kvs)):kr K H (.ref a) (.type "dict")
 |ins {a C dx:Addr}{fs:List (Str×V)}(e:H a=some (.ins C dx fs)) (cl:Df K C) (ha:dw K (.ref C) "__class__"=some (some (.builtin "object.__class__")))
   (hn:PySem.W.specialIn K (.builtin "object.__class__") "__get__"=some (some (.builtin "getset_descriptor.__get__"))) (htk:PySem.W.takesIn K (.builtin "object.__class__")=some true)
   (hm:PySem.W.mroIn K C (.type "object")=some true):kr K H (.ref a) (.ref C)
theorem DX{x:V}{u t:Value}(I:Inv X J3 σ H s)(rx:RelV x u)(ty:kr X.K H x t)(e:vg X.K t c=some b)(h:∀tk,Q (.bool b) { s with toks:=tk }):
  wpAny (model X.prog X.w) A (call (.builtin "isinstance") [u,c]) Q E s:=by
 cases ty with
 |non=>cases(show u=Value.none from rx);exact jA PySem.W.kitx_none I.kIn i8 e (fun z=>nomatch z) h
 |bl y=>cases(show u=Value.bool y from rx);exact jA PySem.W.kitx_bool I.kIn i8 e (fun z=>nomatch z) h
 |int i=>obtain⟨t,q⟩:=(show ∃t,u=Value.int i t from rx);cases q;exact jA PySem.W.kitx_int I.kIn i8 e (fun z=>nomatch z) h
 |str y=>obtain⟨t,q⟩:=(show ∃t,u=Value.str y t from rx);cases q;exact jA PySem.W.kitx_str I.kIn i8 e (fun z=>nomatch z) h
 |flt y=>obtain⟨t,q⟩:=(show ∃t,u=Value.float y t from rx);cases q;exact jA PySem.W.kitx_float I.kIn i8 e (fun z=>nomatch z) h
 |@lst a xs ea =>
  cases(show u=Value.ref a from rx);obtain⟨_,_,n,_,h1⟩:=(show bW X.prog X.w X.K H s.heap a (.lst xs)from I.hok a _ ea);exact jA PySem.W.kitx_list I.kIn ⟨_,h1,rfl⟩ e (fun z=>nomatch z) h
 |@frz a ob xs ea =>
  cases(show u=Value.ref a from rx);obtain⟨_,_,_,n,_,h1⟩:=(show bW X.prog X.w X.K H s.heap a (.frz ob (.lst xs))from I.hok a _ ea);exact jA PySem.W.kitx_list I.kIn ⟨_,h1,rfl⟩ e (fun z=>nomatch z) h
 |@tup a xs ea =>
  cases(show u=Value.ref a from rx);obtain⟨_,_,_,p⟩:=(show bW X.prog X.w X.K H s.heap a (.tup xs)from I.hok a _ ea);obtain⟨o,h1,h2,_⟩:=p;exact jA PySem.W.kitx_tuple I.kIn ⟨o,h1,h2⟩ e (fun z=>nomatch z) h
 |@dK a kvs ea =>
  cases(show u=Value.ref a from rx);obtain⟨_,_,vs,_,p⟩:=(show bW X.prog X.w X.K H s.heap a (.dK kvs)from I.hok a _ ea);obtain⟨o,es,ep,h1,h2,_⟩:=p;exact jA PySem.W.kitx_dict I.kIn ⟨o,h1,h2.1⟩ e (fun z=>nomatch z) h
 |@dT a kvs ea =>
  cases(show u=Value.ref a from rx);obtain⟨_,_,xs,_,o,es,ep,h1,h2,_⟩:=(show bW X.prog X.w X.K H s.heap a (.dT kvs)from I.hok a _ ea);exact jA PySem.W.kitx_dict I.kIn ⟨o,h1,h2.1⟩ e (fun z=>nomatch z) h
 |@ins a C dx fs ea cl ha hn htk hm =>
  cases(show u=Value.ref a from rx);obtain⟨mA,O,_⟩:=r9 I.hok ea;obtain⟨od,J,_⟩:=O.look;exact jA (PySem.W.kitx_own (cl.get _) cl.hd ha hn htk hm) I.kIn J e (fun z=>nomatch z) h
end
end L2
namespace L2
open PySem PySem.Spec PyProof.Rows
structure eV(k:Nat)(A:Around):Prop where
 hd:A.handled=none
 dp:A.depth+3 * k+5<recursionLimit
 un:A.units+16 * k+200<cLine
theorem eV.mono{j k:Nat}{A:Around}(r:eV k A)(h:j<=k):eV j A:=⟨r.hd,by have:=r.dp;omega,by have:=r.un;omega⟩
theorem eV.deeper{k:Nat}{A:Around}(r:eV (k+1) A)(env:Env):eV k (A.deeper env) :=
 ⟨r.hd,by have:=r.dp;show A.depth+1+3 * k+5<_;omega,by have:=r.un;show A.units+3+16 * k+200<_;omega⟩
theorem Bj{A:Around}{C:Addr}{us:Zf}{kw:List (Str×Value)}:(A.under (.builtin "type.__call__" ⟨.ref C::us,kw⟩)).depth=A.depth+1:=by
 first|rfl|simp[Around.under,Code.weight,Code.isCreation,Code.isGuard,Code.isCaller,Code.frames,Code.isFrame,guardIds]
theorem Bi{A:Around}{C:Addr}{us:Zf}{kw:List (Str×Value)}:(A.under (.builtin "type.__call__" ⟨.ref C::us,kw⟩)).units=A.units+1:=by
 first|rfl|simp[Around.under,Code.cUnits,Code.frames,Code.isFrame]
theorem eV.make{k:Nat}{A:Around}(r:eV (k+1) A)(C:Addr)(us:Zf)(kw:List (Str×Value)):eV k (A.under (.builtin "type.__call__" ⟨.ref C::us,kw⟩)) :=
 ⟨r.hd,by have:=r.dp;rw[Bj];omega,by have:=r.un;rw[Bi];omega⟩
theorem eV.depth{k:Nat}{A:Around}(r:eV k A):A.depth<recursionLimit:=by have:=r.dp;omega
theorem eV.units{k:Nat}{A:Around}(r:eV k A):A.units+64<cLine:=by have:=r.un;omega
def bm:TA:=fun _ H Q=>Q [] H
def ar(ta:TE)(tr:TA):TA:=fun σ H Q=>ta σ H fun x H1=>tr σ H1 fun xs H2=>Q (x::xs) H2
abbrev aB(a:TE):TA:=ar a bm
abbrev aN(a b:TE):TA:=ar a (ar b bm)
abbrev eJ(a b c:TE):TA:=ar a (ar b (ar c bm))
section
variable{X:Cx}{e:Expr}{es:List Expr}{te:TE}{t:TA}{pos:Pos}
theorem cM:PA X [] bm:=fun _ _ _ _ H Q I h=>Calls.spliced_nil ⟨[],H,I,.nil,h⟩
theorem b_(ha:PE X e te)(hr:PA X es t)(hs:aL (e::es) X.env=(false,eval e X.env)::aL es X.env:=by rfl):PA X (e::es) (ar te t):=by
 intro pos J3 s σ H Q I h;rw[hs];show wpAny _ _ (spliced ((false,eval e X.env)::backTo pos (aL es X.env))) _ _ s;refine Cb (cD (ha J3 s σ H _ I h) fun u s1 ⟨x,H1,I1,r1,q1⟩=>?_);exact cD (hr pos J3 s1 σ H1 _ I1 q1) fun us s2 ⟨xs,H2,I2,r2,q2⟩=>⟨x::xs,H2,I2,.cons r1 r2,q2⟩
def bu(t:TA):TE:=fun σ H Q=>t σ H fun xs H1=>xs.length<=aj/\∀p,H1 p=none->Q (.ref p) (upd H1 p (.tup xs))
def c_(t:TA):TE:=fun σ H Q=>t σ H fun xs H1=>xs.length<=aj/\∀p,H1 p=none->Q (.ref p) (upd H1 p (.lst xs))
theorem aK{x1}(h:PA X es t):PE X (.Tuple es x1 pos) (bu t):=by
 intro J3 s σ H Q I hq;refine wpAny_Tuple_spliced (cD (h pos J3 s σ H _ I hq) fun us s1 ⟨xs,H1,I1,r,z,q⟩=>⟨by rw[<-r.length];exact z,?_⟩);have hf:H1 s1.heap.objs.size=none:=I1.hok.fresh (aG _);refine⟨.ref s1.heap.objs.size,upd H1 s1.heap.objs.size (.tup xs),I1.laid (t':=s1.toks) (fun b u e=>bj _ e) (aG _) ?_,rfl,q _ hf⟩;exact⟨z,us,r,⟨_,cK _ rfl,rfl,_,rfl⟩⟩
theorem bc(h:PA X es t):PE X (.List es pos) (c_ t):=by
 intro J3 s σ H Q I hq;refine wpAny_List_spliced (cD (h pos J3 s σ H _ I hq) fun us s1 ⟨xs,H1,I1,r,z,q⟩=>⟨by rw[<-r.length];exact z,?_⟩);have hf:H1 s1.heap.objs.size=none:=I1.hok.fresh (aG _);refine⟨.ref s1.heap.objs.size,upd H1 s1.heap.objs.size (.lst xs),I1.laid (t':=s1.toks) (fun b u e=>bj _ e) (aG _) ?_,rfl,q _ hf⟩;exact⟨z,us,0,r,cK _ rfl⟩
end
abbrev Sp:=List V->Hp->VK->XK->Prop
abbrev ED:=List Env->Hp->Shared->XK->Value->Shared->Prop
structure BY(P:ck)(w:World)(K:Za)(mg:Str->Option Value)(base:Heap)(A:Around)(outer:List Env)(s:Shared)(H:Hp):Prop where
 frames:A.frames=some outer
 mod:Mod K mg base
 bs:∀b o,base.get? b=some o->s.heap.get? b=some o/\H b=none
 bsz:base.objs.size<=s.heap.objs.size
 funs:s.heap.FunFrames base outer
 frf:∀b∈EC outer,H b=none
 hok:mF P w K H s.heap
 bare:oB s.gens
def CE(outer:List Env)(P:ck)(w:World)(K:Za)(H:Hp)(s:Shared)(Q:VK)(u:Value)(s':Shared):Prop :=
 ∃v H',s'.os=s.os/\oB s'.gens/\Un (EC outer) [] H H' s.heap s'.heap/\mF P w K H' s'.heap/\RelV v u/\Q v H'
def CR(CX:ED)(outer:List Env)(P:ck)(w:World)(K:Za)(H:Hp)(s:Shared)(Q:VK)(E:XK)(r:Result)(s':Shared):Prop :=
 match r with
 |.ok (.ret u)=>CE outer P w K H s Q u s'
 |.ok _=>False
 |.error e=>CX outer H s E e s'
structure l9(P:ck)(w:World)(K:Za)(mg:Str->Option Value)(base:Heap)(CX:ED)(k:Nat)(f:Addr)(fd:kK)(ps:Zb)(sp:Sp):Prop where
 len:∀vs H Q E,sp vs H Q E->vs.length=ps.length
 run:∀(A:Around) (outer:List Env) (s:Shared) (H:Hp) (args:Args) (us:Zf) (vs:List V) (Q:VK) (E:XK),eV k A->BY P w K mg base A outer s H->si s fd args (ps.zip us)->aZ vs us->sp vs H Q E ->
  zzl77 (model P w) A (.call (.ref f) args) (CR CX outer P w K H s Q E) s
theorem BY.make{P:ck}{w:World}{K:Za}{mg:Str->Option Value}{base:Heap}{A:Around}{outer:List Env}{s:Shared}{H:Hp}(e:BY P w K mg base A outer s H)(C:Addr)(us:Zf)(kw:List (Str×Value)):
  BY P w K mg base (A.under (.builtin "type.__call__" ⟨.ref C::us,kw⟩)) outer s H:=⟨by first|exact e.frames|(simpa[Around.under,Code.envs,Code.isFrame,pushEnvs]using e.frames),e.mod,e.bs,e.bsz,e.funs,e.frf,e.hok,e.bare⟩
section
variable{X:Cx}{J3:Zd}{σ:St}{H:Hp}{s s':Shared}
theorem Inv.env0(I:Inv X J3 σ H s):BY X.prog X.w X.K X.mg X.base X.A X.stack s H :=
 ⟨I.ok.frames,I.ok.mod,I.bs,bL I.ok.bsz I.sz,I.stack,I.stkFree,I.hok,I.bare⟩
theorem Inv.after{Q:VK}{u:Value}(I:Inv X J3 σ H s)(h:CE X.stack X.prog X.w X.K H s Q u s'):EP X J3 σ Q u s':=by
 obtain⟨v,H',os,bare,un,hok,r,q⟩:=h;obtain⟨hh,g,d,t,os'⟩:=s';obtain rfl:os'=s.os:=os;exact⟨v,H',I.call (h':=hh) (g':=g) (d':=d) (t':=t) (ch:=[]) un hok bare (fun b z=>absurd z (by simp)),r,q⟩
end
def HX(sp:Sp)(dvs:List V)(E:XK)(t:TA):TE:=fun σ H Q=>t σ H fun vs H1=>sp (vs++dvs) H1 Q E
def dB(C:Addr)(m:Str)(sp:Sp)(dvs:List V)(E:XK)(ta:TE)(t:TA):TE:=fun σ H Q=>ta σ H fun x H1=>∃a dx fs,x=.ref a/\H1 a=some (.ins C dx fs)/\fs.lookup m=none /\
 t σ H1 fun vs H2=>sp (x::(vs++dvs)) H2 Q E
def yU(C:Addr)(sp:Sp)(dvs:List V)(E:XK)(t:TA):TE:=fun σ H Q=>t σ H fun vs H1=>∀x dx,H1 x=none->H1 dx=none->dx≠x ->
 sp (.ref x::(vs++dvs)) (upd (upd H1 dx (.own x)) x (.ins C dx [])) (fun v H2=>v=.non/\Q (.ref x) H2) E
def Binds(K:Za)(fd:kK)(ps:Zb)(ds:Zf):Prop :=
 ∀(s:Shared) (us:Zf),K.In s.heap->(us++ds).length=ps.length->si s fd ⟨us,[]⟩ (ps.zip (us++ds))
theorem Binds.all{K:Za}{fd:kK}{ps:Zb}(h:∀us:List Value,us.length=ps.length->bindArgs fd ⟨us,[]⟩=pure (ps.zip us)):Binds K fd ps []:=fun s us _ hl=>by
 rw[gJ]at hl ⊢;exact .of_eq (h us hl)
def nX(CX:ED)(X:Cx)(E:XK):Prop:=∀(J3:Zd) (σ:St) (H:Hp) (s:Shared) (e:Value) (s':Shared),Inv X J3 σ H s->CX X.stack H s E e s'->X.xe e s'
section
variable{X:Cx}{CX:ED}{k:Nat}{f C:Addr}{fd:kK}{ps:Zb}{sp:Sp}{dvs:List V}{ds:Zf}{E:XK}{x m:Str}{p pos J5:Pos}{e o:Expr}{es:List Expr}{ta:TE}{t:TA}
theorem AU{J3:Zd}{σ:St}{H:Hp}{s:Shared}{Q:VK}{us:Zf}{vs:List V}(F:l9 X.prog X.w X.K X.mg X.base CX k f fd ps sp)(hr:eV k X.A)(hb:Binds X.K fd ps ds)(hd:aZ dvs ds)(hx:nX CX X E)
  (I:Inv X J3 σ H s) (r:aZ vs us) (h:sp (vs++dvs) H Q E):wpAny (model X.prog X.w) X.A (call (.ref f) us) (EP X J3 σ Q) X.xe s:=by
 have r2:aZ (vs++dvs) (us++ds):=r.append hd;have hl:(us++ds).length=ps.length:=by rw[<-r2.length];exact F.len _ _ _ _ h
 refine wpAny_call (Ca (F.run X.A X.stack s H ⟨us,[]⟩ (us++ds) (vs++dvs) Q E hr I.env0 (hb s us I.kIn hl) r2 h) fun r s' hq=>?_);cases r with
 |error e=>exact hx J3 σ H s e s' I hq
 |ok fl =>
  cases fl with
  |ret u=>exact I.after hq
  |next=>exact jB hq
  |brk=>exact jB hq
  |cont=>exact jB hq
theorem Hk(F:l9 X.prog X.w X.K X.mg X.base CX k f fd ps sp)(hr:eV k X.A)(hg:Gl X x)(hm:X.mg x=some (.ref f))(hk:iK X.K (.ref f)=true)(hb:Binds X.K fd ps ds)(hd:aZ dvs ds)(hx:nX CX X E)
  (ha:PA X (e::es) t) (hdb:(x==("__debug__":Str))=false:=by decide) (he:aL (e::es) X.env=(false,eval e X.env)::aL es X.env:=by rfl) (hpl:(backTo pos (aL es X.env)).any (·.1)=false:=by rfl) :
  PE X (.Call (.Name x p) (e::es) [] pos) (HX sp dvs E t):=by
 intro J3 s σ H Q I h;refine B_ (xJ I hg hm ?_ hdb);refine PySem.W.callWith_K (h₀:=X.base) I.ok.mod.kin hk (cD (ha pos J3 s σ H _ I h) fun us s1 ⟨vs,H1,I1,r,q⟩=>⟨I1.kIn,?_⟩) he hpl;exact AU F hr hb hd hx I1 r q
theorem Hg{pl:Sem Bool}(he:PE X o ta)(c:Df X.K C)(hm:HQ X.K C m f)(F:l9 X.prog X.w X.K X.mg X.base CX k f fd ps sp)(hr:eV k X.A)(hb:Binds X.K fd ps ds)(hd:aZ dvs ds)(hx:nX CX X E)(ha:PA X (e::es) t)
  (hst:aL (e::es) X.env=(false,eval e X.env)::aL es X.env:=by rfl) (hpl:(backTo pos (aL es X.env)).any (·.1)=false:=by rfl)
  (ht:eval (.Call (.Attribute o m J5) (e::es) [] pos) X.env=(do
   let ov <- eval o X.env
   qR J5.atName
   let(f,first) <- kW [ov] (qO ov m pl)
   vf pos f first (backTo pos (aL (e::es) X.env)) (oy pos (ox [] X.env))):=by rfl) :
  PE X (.Call (.Attribute o m J5) (e::es) [] pos) (dB C m sp dvs E ta t):=by
 intro J3 s σ H Q I h;refine PySem.W.methodCall_KW (pl:=pl) (cD (he J3 s σ H _ I h) fun u s1 ⟨x,H1,I1,rx,a,dx,fs,ex,ea,l,q⟩=>?_) ht;subst ex;obtain rfl:u=Value.ref a:=rx;refine t8 I1 ea c hm l ?_;refine PySem.W.callWith_K (first:=[.ref a]) (h₀:=X.base) I.ok.mod.kin hm.kp (cD (ha pos J3 s1 σ H1 _ I1 q) fun us s2 ⟨vs,H2,I2,r,q2⟩=>⟨I2.kIn,?_⟩) hst hpl
 exact AU (us:=.ref a::us) (vs:=.ref a::vs) F hr hb hd hx I2 (.cons rfl r) q2
theorem Fu{pl:Sem Bool}(he:PE X o ta)(c:Df X.K C)(hm:HQ X.K C m f)(F:l9 X.prog X.w X.K X.mg X.base CX k f fd ps sp)(hr:eV k X.A)(hb:Binds X.K fd ps ds)(hd:aZ dvs ds)(hx:nX CX X E)
  (ht:eval (.Call (.Attribute o m J5) [] [] pos) X.env=(do
   let ov <- eval o X.env
   qR J5.atName
   let(f,first) <- kW [ov] (qO ov m pl)
   vf pos f first (backTo pos (aL [] X.env)) (oy pos (ox [] X.env))):=by rfl) :
  PE X (.Call (.Attribute o m J5) [] [] pos) (dB C m sp dvs E ta bm):=by
 intro J3 s σ H Q I h;refine PySem.W.methodCall_KW (pl:=pl) (cD (he J3 s σ H _ I h) fun u s1 ⟨x,H1,I1,rx,a,dx,fs,ex,ea,l,q⟩=>?_) ht;subst ex;obtain rfl:u=Value.ref a:=rx;refine t8 I1 ea c hm l ?_;exact PySem.W.callWith_K0 (first:=[.ref a]) I1.kIn hm.kp (AU (us:=[.ref a]) (vs:=[.ref a]) F hr hb hd hx I1 (.cons rfl .nil) q)
structure Mk(K:Za)(C f:Addr):Prop where
 makes:sk K C=true
 init:dw K (.ref C) "__init__"=some (some (.ref f))
 fn:yE K (.ref f)=true
 kp:iK K (.ref C)=true
theorem EV{J3:Zd}{σ:St}{H:Hp}{s:Shared}{Q:VK}{us:Zf}{vs:List V}(M:Mk X.K C f)(F:l9 X.prog X.w X.K X.mg X.base CX k f fd ps sp)(hr:eV (k+1) X.A)(hb:Binds X.K fd ps ds)(hd:aZ dvs ds)
  (hx:nX CX X E) (I:Inv X J3 σ H s) (r:aZ vs us)
  (h:∀x dx,H x=none->H dx=none->dx≠x->sp (.ref x::(vs++dvs)) (upd (upd H dx (.own x)) x (.ins C dx [])) (fun v H2=>v=.non/\Q (.ref x) H2) E) :
  wpAny (model X.prog X.w) X.A (call (.ref C) us) (EP X J3 σ Q) X.xe s:=by
 have hq:=h (s.heap.objs.size+1) s.heap.objs.size (I.hok.fresh (mS _)) (I.hok.fresh (aG _)) (c6 (Nat.lt_succ_self _));have I2:=Inv.made (C:=C) I;have r2:aZ (V.ref (s.heap.objs.size+1)::(vs++dvs)) (Value.ref (s.heap.objs.size+1)::(us++ds)):=.cons rfl (r.append hd);have hl:(Value.ref (s.heap.objs.size+1)::us++ds).length=ps.length:=by
  have e:=r2.length;rw[F.len _ _ _ _ hq]at e;exact e.symm
 refine wpAny_call (FI (f:=f) I.kIn M.makes M.init (beq_iff_eq.mp M.fn) (Ca (F.run _ X.stack _ _ ⟨Value.ref (s.heap.objs.size+1)::us,[]⟩ (Value.ref (s.heap.objs.size+1)::(us++ds)) _ _ E (hr.make C us [])
  (I2.env0.make C us []) (hb _ (Value.ref (s.heap.objs.size+1)::us) I2.kIn hl) r2 hq) fun r s' hq'=>?_))
 cases r with
 |error e=>exact hx J3 σ _ _ e s' I2 hq'
 |ok fl =>
  cases fl with
  |ret u =>
   obtain⟨v,H',I3,rv,ev,q3⟩:=I2.after hq';subst ev;exact⟨rv,⟨V.ref (s.heap.objs.size+1),H',I3,rfl,q3⟩⟩
  |next=>exact jB hq'
  |brk=>exact jB hq'
  |cont=>exact jB hq'
theorem Hh(M:Mk X.K C f)(F:l9 X.prog X.w X.K X.mg X.base CX k f fd ps sp)(hr:eV (k+1) X.A)(hg:Gl X x)(hm:X.mg x=some (.ref C))(hb:Binds X.K fd ps ds)(hd:aZ dvs ds)(hx:nX CX X E)
  (ha:PA X (e::es) t) (hdb:(x==("__debug__":Str))=false:=by decide) (he:aL (e::es) X.env=(false,eval e X.env)::aL es X.env:=by rfl) (hpl:(backTo pos (aL es X.env)).any (·.1)=false:=by rfl) :
  PE X (.Call (.Name x p) (e::es) [] pos) (yU C sp dvs E t):=by
 intro J3 s σ H Q I h;refine B_ (xJ I hg hm ?_ hdb);refine PySem.W.callWith_K (h₀:=X.base) I.ok.mod.kin M.kp (cD (ha pos J3 s σ H _ I h) fun us s1 ⟨vs,H1,I1,r,q⟩=>⟨I1.kIn,?_⟩) he hpl;exact EV M F hr hb hd hx I1 r q
end
structure kA(N P:Zb)(sc:Scope):Prop where
 kind:sc.kind=.function
 co:sc.isCoroutine=false
 gen:sc.isGenerator=false
 nd:N.Nodup
 pre:N.take P.length=P
 par:∀x∈P,sc.names.lookup x=some .local∨sc.names.lookup x=some .cell
 nofree:∀y∈sc.names,y.2≠.free
theorem v6{kindOf:Str->Option jz}{x:Str}:∀{binds:List (Str×Value)}{m:Str->Option Value},(∀v,(x,v)∉binds)->bindL kindOf binds m x=m x
 |[],_,_=>rfl
 | (n,v)::r,m,h=>by
  unfold bindL;rw[v6 fun w hw=>h w (cT _ hw)];split
  ·have:x≠n:=by rintro rfl;exact h v cb
   simp[this]
  ·rfl
theorem v8{kindOf:Str->Option jz}{x:Str}:∀{binds:List (Str×Value)}{m:Str->Option Value},(∀v,(x,v)∉binds)->bindC kindOf binds m x=m x
 |[],_,_=>rfl
 | (n,v)::r,m,h=>by
  unfold bindC;rw[v8 fun w hw=>h w (cT _ hw)];split
  ·rfl
  ·have:x≠n:=by rintro rfl;exact h v cb
   simp[this]
theorem v7{kindOf:Str->Option jz}{x:Str}{v:Value}:∀{P:Zb}{vs:Zf}{i:Nat}{m:Str->Option Value},P.Nodup->P[i]?=some x->vs[i]?=some v->kindOf x=some .local ->
  bindL kindOf (P.zip vs) m x=some v
 |[],_,_,_,_,h,_,_=>by simp at h
 |_::_,[],_,_,_,_,h,_=>by simp at h
 |p::P,w::vs,0,m,nd,h1,h2,hk=>by
  simp at h1 h2;subst h1;subst h2;show bindL kindOf ((p,w)::P.zip vs) m p=_;unfold bindL;rw[v6 fun v hv=>(kJ.mp nd).1 (List.of_mem_zip hv).1,if_pos hk];simp
 |p::P,w::vs,i+1,m,nd,h1,h2,hk=>by
  show bindL kindOf ((p,w)::P.zip vs) m x=_;unfold bindL;exact v7 (i:=i) (kJ.mp nd).2 (by simpa using h1) (by simpa using h2) hk
theorem v9{kindOf:Str->Option jz}{x:Str}{v:Value}:∀{P:Zb}{vs:Zf}{i:Nat}{m:Str->Option Value},P.Nodup->P[i]?=some x->vs[i]?=some v->kindOf x≠some .local ->
  bindC kindOf (P.zip vs) m x=some v
 |[],_,_,_,_,h,_,_=>by simp at h
 |_::_,[],_,_,_,_,h,_=>by simp at h
 |p::P,w::vs,0,m,nd,h1,h2,hk=>by
  simp at h1 h2;subst h1;subst h2;show bindC kindOf ((p,w)::P.zip vs) m p=_;unfold bindC;rw[v8 fun v hv=>(kJ.mp nd).1 (List.of_mem_zip hv).1,if_neg hk];simp
 |p::P,w::vs,i+1,m,nd,h1,h2,hk=>by
  show bindC kindOf ((p,w)::P.zip vs) m x=_;unfold bindC;exact v9 (i:=i) (kJ.mp nd).2 (by simpa using h1) (by simpa using h2) hk
def start(N:Zb)(vs:List V):St:=vs.map some++List.replicate (N.length-vs.length) none
def BD(CX:ED)(P:ck)(w:World)(K:Za)(mg:Str->Option Value)(base:Heap)(N:Zb)(qual:Str)(scope:Scope)(f:Addr)(cd:Value)(A:Around)(outer:List Env)(s:Shared)(H:Hp)(E:XK):Cx where
 prog:=P
 w:=w
 K:=K
 mg:=mg
 base:=base
 A:=A.deeper (envOfC qual scope s.heap.objs.size f cd)
 N:=N
 s₀:=s
 H₀:=H
 env:=envOfC qual scope s.heap.objs.size f cd
 outer:=outer
 stack:=envOfC qual scope s.heap.objs.size f cd::outer
 ex:=[]
 calm:=true
 fn:=fun _=>true
 pn:=[]
 xe:=fun e s'=>wpAny (model P w) (A.deeper (envOfC qual scope s.heap.objs.size f cd)) (leaving (envOfC qual scope s.heap.objs.size f cd) e) (fun _ s''=>CX outer H s E e s'') (fun e' s''=>CX outer H s E e' s'') s'
theorem Af{sc:Scope}{n:Nat}{x:Str}(h:sc.names.lookup x=some .cell):∃c,(cellsFrom n sc.names []).lookup x=some c:=by
 have q:=PySem.W.cellsFrom_some sc.names n [] (.inl h);exact B1.mp q
theorem DZ{CX:ED}{P:ck}{w:World}{K:Za}{mg:Str->Option Value}{base:Heap}{N ps:Zb}{qual:Str}{scope:Scope}{f:Addr}{cd:Value}{A:Around}{outer:List Env}{s s1:Shared}{H:Hp}{E:XK}{us:Zf}{vs:List V}
  (S:kA N ps scope) (hd:A.handled=none) (e0:BY P w K mg base A outer s H) (hl:vs.length=ps.length) (r:aZ vs us)
  (x:InCallC s s.heap.objs.size (bindL (envOfC qual scope s.heap.objs.size f cd).kindOf (ps.zip us) fun _=>none) (cellsFrom (s.heap.objs.size+1) scope.names []) (bindC (envOfC qual scope s.heap.objs.size f cd).kindOf (ps.zip us) fun _=>none) s1) :
  Inv (BD CX P w K mg base N qual scope f cd A outer s H E) [] (start N vs) H s1:=by
 have hpl:ps.length<=N.length:=by have:=congrArg List.length S.pre;rw[aM]at this;omega
 obtain⟨h1,tk,rfl,hk⟩:=x.done;have noA:∀b:Addr,b∉(BD CX P w K mg base N qual scope f cd A outer s H E).ex:=fun b z=>absurd (show b∈([]:Ze)from z) (by simp);refine⟨⟨e0.mod,S.kind,rfl,rfl,aG _,fun y z c h1 h2=>?_,fun y hy=>?_,fun y c _ h=>?_,fun _=>hd,Around.frames_deeper e0.frames,.inr ⟨rfl,rfl⟩,fun b z=>absurd z (noA b),e0.bs,e0.bsz,fun b _ _=>noA b,fun b z=>absurd z (noA b),e0.funs,e0.frf⟩,
  rfl,e0.bare,Un.kept hk,⟨_,x.toInCall.ns,fun i y v h1 h2 h3=>?_⟩,fun y c h=>⟨_,x.cell y c h⟩,e0.hok.fresh (aG _),fun y c h=>?_,fun p hp=>absurd (show p∈([]:Zd)from hp) (by simp),e0.hok.kept hk,?_⟩
 ·exact name_of_addr x.apart (sR h1) (sR h2)
 ·have hy:scope.names.lookup y=some .cell∨scope.names.lookup y=some .free:=hy;rcases hy with hy|hy
  ·exact Af hy
  ·exact absurd rfl (S.nofree _ (sR hy))
 ·exact eo (x.above y c (sR h))
 ·have hi:i<vs.length:=by
   unfold start at h2;by_cases hi:i<vs.length
   ·exact hi
   ·rw[lB (by simpa using hi)]at h2;rw[List.getElem?_replicate]at h2;split at h2<;>cases h2
  have ha:vs[i]?=some v:=by
   unfold start at h2;rw[c9 (by simpa using hi),bw]at h2;cases e:vs[i]? with
   |none=>rw[e]at h2;cases h2
   |some a=>rw[e]at h2;cases h2;rfl
  obtain⟨u,hu,rv⟩:=r.get ha;have hp:ps[i]?=some y:=by
   rw[<-S.pre,List.getElem?_take_of_lt (by omega)];exact h1
  have ndP:ps.Nodup:=by rw[<-S.pre];exact S.nd.sublist (List.take_sublist _ _)
  refine⟨u,rv,?_⟩;rcases S.par y (aR hp)with k|k
  ·exact .inl ⟨k,v7 ndP hp hu k⟩
  ·obtain⟨c,e⟩:=Af (n:=s.heap.objs.size+1) k;refine .inr ⟨.inl k,c,e,?_⟩;have q:=x.cell y c e;rw[v9 ndP hp hu (by show scope.names.lookup y≠_;rw[k];decide)]at q;exact q
 ·exact e0.hok.fresh (eo (x.above y c (sR h)))
 ·unfold start;show _=N.length;rw[az,ai,List.length_replicate];omega
theorem Jp{CX:ED}{P:ck}{w:World}{K:Za}{mg:Str->Option Value}{base:Heap}{k:Nat}{f:Addr}{name qual:Str}{params:Arguments}{body:List Stmt}{scope:Scope}{dV kV doc pm cdv ct oc:Value}{an od:Option Addr}
  {osl:Array (Option Value)}{N ps:Zb}{sp:Sp}(lk:K.lookup f=some ⟨oc,od,.func (iP name qual params body scope dV kV doc pm an cdv ct),osl⟩) (hcd:nD K cdv qual=true) (S:kA N ps scope)
  (len:∀vs H Q E,sp vs H Q E->vs.length=ps.length)
  (hbody:∀(A:Around) (outer:List Env) (s:Shared) (H:Hp) (vs:List V) (Q:VK) (E:XK),eV k (A.deeper (envOfC qual scope s.heap.objs.size f cdv))->sp vs H Q E ->
   ∃t,At (BD CX P w K mg base N qual scope f cdv A outer s H E) body t/\t (bH Q) (start N vs) H) :
  l9 P w K mg base CX (k+1) f (iP name qual params body scope dV kV doc pm an cdv ct) ps sp:=by
 refine⟨len,fun A outer s H args us vs Q E hr e0 hb r hsp=>?_⟩;have hl:=len _ _ _ _ hsp;have KX:K.In s.heap:=e0.mod.kin.keeps fun b o e=>(e0.bs b o e).1;have lim:s.heap.NoLimit:=e0.mod.nolimit.keeps fun b o e=>(e0.bs b o e).1;have hkind:∀y∈ps.zip us,scope.names.lookup y.1=some .local∨(scope.names.lookup y.1=some .cell/\((cellsFrom (s.heap.objs.size+1) scope.names []).lookup y.1).isSome=true):=fun⟨n,v⟩ hy=>by
  rcases S.par n (List.of_mem_zip hy).1 with q|q
  ·exact .inl q
  ·exact .inr ⟨q,PySem.W.cellsFrom_some _ _ _ (.inl q)⟩
 refine codeAny_call_function hr.depth (KX _ _ lk) rfl S.co S.gen rfl (PySem.W.codeRec_of KX hcd) (hb _ _ _ _ ?_);refine wpAny_newFunctionEnv_cells S.kind hkind fun env he s1 x=>?_;subst he;refine⟨lim.keeps x.toInCall.keep,codeAny_func ?_⟩;obtain⟨t,ht,hq⟩:=hbody A outer s H vs Q E (hr.deeper _) hsp;have I:Inv (BD CX P w K mg base N qual scope f cdv A outer s H E) [] (start N vs) H s1:=DZ S hr.hd e0 hl r x;refine jC (ht [] s1 (start N vs) H _ I hq) (fun fl s' hs=>?_) fun e s' hs=>hs;have fin:∀{σ':St}{H':Hp}{v:V}{u:Value},Inv (BD CX P w K mg base N qual scope f cdv A outer s H E) [] σ' H' s'->RelV v u->Q v H'->CE outer P w K H s Q u s' :=
  fun{σ' H' v u} J rv q=>⟨v,H',J.os,J.bare,J.base,J.hok,rv,q⟩
 cases fl with
 |ret u =>
  obtain⟨v,σ',H',J,rv,q⟩:=hs;exact fin J rv q
 |next =>
  obtain⟨σ',H',J,q⟩:=hs;exact fin (v:=V.non) (u:=Value.none) J rfl q
 |brk =>
  obtain⟨_,_,_,q⟩:=hs;exact jB q
 |cont =>
  obtain⟨_,_,_,q⟩:=hs;exact jB q
end L2
namespace L2
open PySem PySem.Spec PyProof.Rows
section
variable{X:Cx}{x:Str}{p pos:Pos}{e:Expr}{es:List Expr}{t:TA}{id T:String}{r:List V->Hp->VK->Prop}
def dE(r:List V->Hp->VK->Prop)(t:TA):TE:=fun σ H Q=>t σ H fun vs H1=>r vs H1 Q
theorem zC(hc:gv X (.builtin id) r)(hg:Gl X x)(hm:X.mg x=none)(hv:i9 x=some (.builtin id))(ha:PA X (e::es) t)(hn:x≠"__name__":=by decide)(hdb:(x==("__debug__":Str))=false:=by decide)
  (he:aL (e::es) X.env=(false,eval e X.env)::aL es X.env:=by rfl) (hpl:(backTo pos (aL es X.env)).any (·.1)=false:=by rfl):PE X (.Call (.Name x p) (e::es) [] pos) (dE r t):=by
 intro J3 s σ H Q I h;refine B_ (qw I hg hm hv ?_ hn hdb);exact PyProof.Rows.callWith_builtin1 (cD (ha pos J3 s σ H _ I h) fun us s1 ⟨vs,H1,I1,r1,q1⟩=>hc J3 s1 σ H1 vs us Q I1 r1 q1) he hpl
theorem mq(hc:gv X (.type T) r)(hg:Gl X x)(hm:X.mg x=none)(hv:i9 x=some (.type T))(ha:PA X (e::es) t)(hn:x≠"__name__":=by decide)(hdb:(x==("__debug__":Str))=false:=by decide)
  (he:aL (e::es) X.env=(false,eval e X.env)::aL es X.env:=by rfl) (hpl:(backTo pos (aL es X.env)).any (·.1)=false:=by rfl):PE X (.Call (.Name x p) (e::es) [] pos) (dE r t):=by
 intro J3 s σ H Q I h;refine B_ (qw I hg hm hv ?_ hn hdb);exact Ce (cD (ha pos J3 s σ H _ I h) fun us s1 ⟨vs,H1,I1,r1,q1⟩=>hc J3 s1 σ H1 vs us Q I1 r1 q1) he hpl
end
end L2
namespace HT
open PySem PyProof.Rows
def lexLt:List Int->List Int->Bool
 |[],[]=>false
 |[],_::_=>true
 |_::_,[]=>false
 |x::xs,y::ys=>if x=y then lexLt xs ys else decide (x<y)
theorem lexLt_cons(x y:Int)(xs ys:List Int):lexLt (x::xs) (y::ys)=if x=y then lexLt xs ys else decide (x<y):=rfl
theorem eqAt_int(A:Around)(s:Shared)(a:Int)(t:Tok)(c:Int)(u:Tok):∃e,bG A s (.int a t) (.int c u) e/\(e=true↔a=c) :=
 ⟨(a==c),bG.int_int a t c u,by simp⟩
theorem rcLt_int(A:Around)(s:Shared)(a:Int)(t:Tok)(c:Int)(u:Tok)(prog:ck)(w:World)(E:Zc)(Q:Zc)(h:Q (.bool (decide (a<c))) s):
  wpAny (model prog w) A (richCompare .Lt (.int a t) (.int c u)) Q E s :=
 (PyProof.Rows.lt_int h:wpAny (model prog w) A (em .Lt (.int a t) (.int c u)) Q E s)
section
variable{prog:ck}{w:World}{A:Around}{E:Zc}{s:Shared}
def sIx(n d:Nat):Option Int->Nat
 |none=>d
 |some v=>if v<0 then(v+(n:Int)).toNat else min v.toNat n
theorem sIx_none(n d:Nat):sIx n d none=d:=rfl
theorem sIx_nat(n d k:Nat):sIx n d (some (k:Int))=min k n:=by
 show(if(k:Int)<0 then((k:Int)+(n:Int)).toNat else min (k:Int).toNat n)=min k n
 rw[if_neg (by omega),jp]
theorem sIx_le(n d:Nat)(hd:d<=n)(o:Option Int):sIx n d o<=n:=by
 cases o with
 |none=>exact hd
 |some v =>
  show(if v<0 then(v+(n:Int)).toNat else min v.toNat n)<=n
  by_cases hv:v<0
  ·rw[if_pos hv];omega
  ·rw[if_neg hv];exact Nat.min_le_right _ _
theorem clip_eq(v:Int)(n d:Nat):(if v<0 then max (v+(n:Int)) 0 else min v (n:Int))=((sIx n d (some v):Nat):Int):=by
 show(if v<0 then max (v+(n:Int)) 0 else min v (n:Int))=(((if v<0 then(v+(n:Int)).toNat else min v.toNat n):Nat):Int)
 by_cases hv:v<0
 ·simp only[if_pos hv];omega
 ·simp only[if_neg hv];omega
end
end HT
namespace L2
open PySem PySem.Spec PyProof.Rows
abbrev TO:=St->Hp->(Option Int->Hp->Prop)->Prop
def PO(X:Cx)(e:Option Expr)(t:TO):Prop :=
 ∀(J3:Zd) (s:Shared) (σ:St) (H:Hp) (Q:Option Int->Hp->Prop),Inv X J3 σ H s->t σ H Q ->
  wpAny (model X.prog X.w) X.A (evalPart e X.env) (fun u s'=>∃o H',Inv X J3 σ H' s'/\IsPart u o/\Q o H') X.xe s
def fg:TO:=fun _ H Q=>Q none H
def gH(t:TE):TO:=fun σ H Q=>t σ H fun x H1=>∃i,x=.int i/\Q (some i) H1
theorem intsAre_of{ns:List Int}:∀{us:Zf},aZ (ns.map V.int) us->fO us ns:=by
 induction ns with
 |nil=>intro us r;rw[sQ]at r;cases r;exact .nil
 |cons n ns ih =>
  intro us r;rw[bb]at r;cases r with
  |cons r1 r2 =>
   obtain⟨t,e⟩:=r1;subst e;exact .cons n t (ih r2)
section
variable{X:Cx}{e:Expr}{te:TE}{lo hi:Option Expr}{tl th:TO}{pos p2:Pos}
theorem fV:PO X none fg:=by
 intro J3 s σ H Q I h;rw[evalPart_none];exact aH ⟨none,H,I,.none,h⟩
theorem c7(h:PE X e te):PO X (some e) (gH te):=by
 intro J3 s σ H Q I hw;rw[evalPart_some];refine cD (h J3 s σ H _ I hw) fun u s1 ⟨x,H1,I1,r1,q1⟩=>?_;obtain⟨i,rfl,q⟩:=q1;obtain⟨t,rfl⟩:=r1;exact⟨some i,H1,I1,.int i t,q⟩
def SlR(X:Cx)(r:V->Option Int->Option Int->Hp->VK->Prop):Prop :=
 ∀(J3:Zd) (s:Shared) (σ:St) (H:Hp) (x:V) (v vl vu:Value) (lo hi:Option Int) (sl:Addr) (Q:VK),Inv X J3 σ H s->RelV x v->s.heap.IsSliceOf sl vl vu .none->IsPart vl lo->IsPart vu hi->r x lo hi H Q ->
  ∃T id,typeLookup (.type T) "__getitem__"=pure (some (.builtin id))/\s.TypeIs v T/\wpAny (model X.prog X.w) X.A (nC v (.ref sl)) (EP X J3 σ Q) X.xe s
def AI(r:V->Option Int->Option Int->Hp->VK->Prop)(te:TE)(tl th:TO):TE:=fun σ H Q=>te σ H fun x H1=>tl σ H1 fun l H2=>th σ H2 fun u H3=>r x l u H3 Q
theorem c8{r:V->Option Int->Option Int->Hp->VK->Prop}(hr:SlR X r)(he:PE X e te)(hl:PO X lo tl)(hu:PO X hi th):PE X (.Subscript e (.Slice lo hi none p2) pos) (AI r te tl th):=by
 intro J3 s σ H Q I h;refine Subscript_ (cD (he J3 s σ H _ I h) fun v s1 ⟨x,H1,I1,r1,q1⟩=>?_);refine wpAny_Slice (cD (hl J3 s1 σ H1 _ I1 q1) fun vl s2 ⟨l,H2,I2,pl,q2⟩=>cD (hu J3 s2 σ H2 _ I2 q2) fun vu s3 ⟨u,H3,I3,pu,q3⟩=>?_);rw[evalPart_none];refine aH ?_;have I4:Inv X J3 σ H3 { s3 with heap:=s3.heap.push { cls:=.type "slice",data:=.fields #[vl,vu,.none] } }:=I3.kept (t':=s3.toks) fun b ob q=>bj _ q;obtain⟨T,id,hT,ht,hg⟩:=hr J3 { s3 with heap:=s3.heap.push { cls:=.type "slice",data:=.fields #[vl,vu,.none] } } σ H3 x v vl vu l u s3.heap.objs.size Q I4 r1 (Heap.IsSliceOf.new ..) pl pu q3;show wpAny (model X.prog X.w) X.A (subscriptTail e (.Slice lo hi none p2) v (.ref s3.heap.objs.size)) (EP X J3 σ Q) X.xe { s3 with heap:=s3.heap.push { cls:=.type "slice",data:=.fields #[vl,vu,.none] } };exact tail_any (ops:=[.ref s3.heap.objs.size,v]) ht hT hg (by with_unfolding_all rfl)
def gg(xs:List V)(lo hi:Option Int):List V:=(xs.drop (HT.sIx xs.length 0 lo)).take (HT.sIx xs.length xs.length hi-HT.sIx xs.length 0 lo)
theorem Ac(xs:List V)(lo hi:Option Int):(gg xs lo hi).length<=xs.length:=by
 unfold gg;rw[aM,fN];omega
end
end L2
namespace L2
open PySem PySem.Spec PyProof.Rows
def GH(n:Nat)(i:Int):Option Nat:=if 0<=i then(if i<n then some i.toNat else none)else if -(n:Int)<=i then some (i+n).toNat else none
def qA{α:Type}(xs:List α)(i:Int):Option α:=(GH xs.length i).bind fun j=>xs[j]?
theorem xQ{n:Nat}{i:Int}{j:Nat}(h:GH n i=some j):wU i n=some j/\j<n/\-(n:Int)<=i/\i<n:=by
 unfold GH at h;by_cases h0:0<=i
 ·rw[if_pos h0]at h;by_cases h1:i<n
  ·rw[if_pos h1]at h;have e:i.toNat=j:=eA h;exact⟨by rw[seqIndex_of h0 h1,e],by omega,by omega,h1⟩
  ·rw[if_neg h1]at h;cases h
 ·rw[if_neg h0]at h;by_cases h1:-(n:Int)<=i
  ·rw[if_pos h1]at h;have e:(i+n).toNat=j:=eA h;exact⟨by rw[seqIndex_neg (by omega) h1,e],by omega,h1,by omega⟩
  ·rw[if_neg h1]at h;cases h
theorem yi{α:Type}{xs:List α}{i:Int}{v:α}(h:qA xs i=some v):∃j,wU i xs.length=some j/\xs[j]?=some v/\j<xs.length/\-(xs.length:Int)<=i/\i<xs.length:=by
 unfold qA at h;cases e:GH xs.length i with
 |none=>rw[e]at h;cases h
 |some j =>
  rw[e]at h;obtain⟨h1,h2,h3,h4⟩:=xQ e;exact⟨j,h1,h,h2,h3,h4⟩
theorem aJ{α:Type}{xs:List α}{j:Nat}{v:α}(h:xs[j]?=some v):qA xs (j:Int)=some v:=by
 have hj:j<xs.length:=(bO.mp h).1;have e:GH xs.length (j:Int)=some j:=by
  unfold GH;rw[if_pos (by omega),if_pos (by omega)];simp
 unfold qA;rw[e];exact h
def HL(b:Expr):Prop:=∀o i,wT b false o i=operate [o,i] (nC o i)
def HR(X:Cx)(r:R2):Prop :=
 ∀(value slice:Expr) (J3:Zd) (s:Shared) (σ:St) (H:Hp) (x y:V) (v u:Value) (Q:VK),Inv X J3 σ H s->RelV x v->RelV y u->r x y H Q ->
  wT slice false v u=operate [v,u] (nC v u)->wpAny (model X.prog X.w) X.A (subscriptTail value slice v u) (EP X J3 σ Q) X.xe s
def MtR(X:Cx)(id:String)(r:V->List V->Hp->VK->Prop):Prop :=
 ∀(J3:Zd) (s:Shared) (σ:St) (H:Hp) (x:V) (xs:List V) (v:Value) (us:Zf) (Q:VK),Inv X J3 σ H s->RelV x v->aZ xs us->r x xs H Q ->
  wpAny (model X.prog X.w) X.A (call (.builtin id) (v::us)) (EP X J3 σ Q) X.xe s
section
variable{X:Cx}{a b:Expr}{ta tb:TE}{pos:Pos}
theorem HR.or{r r':R2}(h:HR X r)(h':HR X r'):HR X (fun x y H Q=>r x y H Q∨r' x y H Q):=by
 intro value slice J3 s σ H x y v u Q I rx ry q hs;rcases q with q|q
 ·exact h value slice J3 s σ H x y v u Q I rx ry q hs
 ·exact h' value slice J3 s σ H x y v u Q I rx ry q hs
theorem CD{r:R2}(hr:HR X r)(ha:PE X a ta)(hb:PE X b tb)(hs:HL b):PE X (.Subscript a b pos) (aI r ta tb):=by
 intro J3 s σ H Q I h;exact Subscript_ (IR ha hb I h fun v u s2 x y H2 I2 rx ry q=>hr a b J3 s2 σ H2 x y v u Q I2 rx ry q (hs _ _))
def bX(K:Za):R2:=fun x y H Q=>∃p xs i v,x=.ref p/\y=.int i/\aA K H p xs/\qA xs i=some v/\Q v H
def gR(K:Za):R2:=fun x y H Q=>∃p xs i v,x=.ref p/\y=.int i/\bD K H p xs/\qA xs i=some v/\Q v H
def Fk:R2:=fun x y H Q=>∃z i c,x=.str z/\y=.int i/\z.length<=aj/\qA z.cps.toList i=some c/\Q (.str ⟨#[c]⟩) H
theorem CU:HR X (bX X.K):=by
 intro value slice J3 s σ H x y v u Q I rx ry h hs;obtain⟨p,xs,i,z,rfl,rfl,hq,he,q⟩:=h;cases rx;obtain⟨t,rfl⟩:=ry;obtain⟨its,r,pl,hz⟩:=I.list hq;obtain⟨j,h1,h2,h3,h4,h5⟩:=yi he;obtain⟨w,ew,rw'⟩:=r.get h2;have hl:=r.length;have hn:=qv;have fin:EP X J3 σ Q w s:=⟨z,H,I,rw',q⟩;by_cases h0:0<=i
 ·have hj:i.toNat=j:=by
   rw[seqIndex_of h0 h5]at h1;exact eA h1
  exact item_listR pl.isList h0 (by omega) (by rw[hj];simpa using ew) fin hs
 ·have hj:(i+(its.toArray.size:Int)).toNat=j:=by
   rw[seqIndex_neg (by omega) h4]at h1;rw[bC,<-hl];exact eA h1
  exact subscriptTail_builtinR (x:=w) pl.isList.typeIs slot_list_getitem.lookup
   (wpAny_getItem_list_neg (Q:=fun r s'=>r=w/\EP X J3 σ Q r s') pl.isList (by omega) (by rw[bC]<;>omega) (by omega) (by rw[hj];simpa using ew) ⟨rfl,fin⟩) hs
theorem FQ:HR X (gR X.K):=by
 intro value slice J3 s σ H x y v u Q I rx ry h hs;obtain⟨p,xs,i,z,rfl,rfl,hq,he,q⟩:=h;cases rx;obtain⟨t,rfl⟩:=ry;obtain⟨its,r,pl,hz⟩:=I.tuple hq;obtain⟨j,h1,h2,h3,h4,h5⟩:=yi he;obtain⟨w,ew,rw'⟩:=r.get h2;have hl:=r.length;have hn:=qv;have fin:EP X J3 σ Q w s:=⟨z,H,I,rw',q⟩;exact subscriptTail_builtinR (x:=w) pl.typeIs slot_tuple_getitem.lookup
  (getItem_tuple (j:=j) (Q:=fun r s'=>r=w/\EP X J3 σ Q r s') pl (by omega) (by omega) (by rw[bC,<-hl];exact h1) (by simpa using ew) ⟨rfl,fin⟩) hs
theorem FR:HR X Fk:=by
 intro value slice J3 s σ H x y v u Q I rx ry h hs;obtain⟨z,i,c,rfl,rfl,hz,he,q⟩:=h;obtain⟨t,rfl⟩:=rx;obtain⟨t',rfl⟩:=ry;obtain⟨j,h1,h2,h3,h4,h5⟩:=yi he;have hl:z.cps.toList.length=z.length:=by simp[Str.length]
 rw[hl]at h1 h4 h5;have hn:=qv;exact tail_any (typeIs_str s z t) slot_str_getitem.lookup (getItem_str (c:=c) (by
  have e1:decide (i < -(2 ^ 63:Int))=false:=zzr0 (by omega);have e2:decide (i ≥ 2 ^ 63)=false:=zzr0 (by omega);rw[e1,e2,Bool.or_false]) (by rw[h1];simpa using h2) ⟨.str ⟨#[c]⟩,H,I.tok _,⟨_,rfl⟩,q⟩) hs
def vD(K:Za):R2:=fun x y H Q=>bX K x y H Q∨gR K x y H Q∨Fk x y H Q
theorem IK:HR X (vD X.K):=CU.or (FQ.or FR)
theorem Bh(its:Zf)(n j:Nat)(u:Value):sP (·.setIfInBounds j u) { cls:=.type "list",data:=.seq its.toArray n }={ cls:=.type "list",data:=.seq (its.set j u).toArray n }:=by
 simp[sP]
theorem Inv.lst{J3:Zd}{σ:St}{H:Hp}{s:Shared}{p:Addr}{xs:List V}(I:Inv X J3 σ H s)(h:H p=some (.lst xs)):
  ∃(its:Zf) (n:Nat),aZ xs its/\s.heap.get? p=some { cls:=.type "list",data:=.seq its.toArray n }/\xs.length<=aj:=by
 obtain⟨z,its,n,r,e⟩:=I.hok p _ h;exact⟨its,n,r,e,z⟩
theorem Inv.lstUpd{J3:Zd}{σ:St}{H:Hp}{s:Shared}{p:Addr}{xs ys:List V}{its its':Zf}{n n':Nat}{f:Obj->Obj}(I:Inv X J3 σ H s)(h:H p=some (.lst xs))
  (ho:s.heap.get? p=some { cls:=.type "list",data:=.seq its.toArray n }) (hf:f { cls:=.type "list",data:=.seq its.toArray n }={ cls:=.type "list",data:=.seq its'.toArray n' }) (r:aZ ys its') (hz:ys.length<=aj) (t:Nat) :
  Inv X J3 σ (upd H p (.lst ys)) { s with heap:=s.heap.update p f,toks:=t }:=by
 have e:(s.heap.update p f).get? p=some { cls:=.type "list",data:=.seq its'.toArray n' }:=by
  rw[wS f ho (by rw[hf]<;>rfl),hf]
 refine I.write (x:=p) (e:=p) (by rw[h];trivial) (.inl rfl) (fun b u hb q=>(Heap.get?_update_other _ _ (dA hb)).trans q) ⟨_,e⟩ ?_;exact⟨hz,its',n',r,e⟩
def tK:V->V->V->Hp->(Hp->Prop)->Prop:=fun o i v H Q=>∃p xs k j,o=.ref p/\i=.int k/\H p=some (.lst xs)/\GH xs.length k=some j/\Q (upd H p (.lst (xs.set j v)))
theorem lG:Jv X tK:=by
 intro J3 s σ H o i v ov iv u Q I ro ri rv h;obtain⟨p,xs,k,j,rfl,rfl,hp,hj,q⟩:=h;cases ro;obtain⟨t,rfl⟩:=ri;obtain⟨its,n,r,ho,hz⟩:=I.lst hp;obtain⟨h1,h2,h3,h4⟩:=xQ hj;have hl:=r.length;have hn:=qv;have I':Inv X J3 σ (upd H p (.lst (xs.set j v))) { s with heap:=s.heap.update p (sP (·.setIfInBounds j u)) } :=
  I.lstUpd hp ho (Bh its n j u) (r.set rv j) (by rw[List.length_set];exact hz) s.toks
 by_cases h0:0<=k
 ·have hk:k.toNat=j:=by
   rw[seqIndex_of h0 h4]at h1;exact eA h1
  exact PySem.W.ki_setAt ho h0 (by omega) (by rw[bC,<-hl];exact h4) (by rw[hk];exact⟨_,I',q⟩)
 ·have hk:(k+(its.toArray.size:Int)).toNat=j:=by
   rw[seqIndex_neg (by omega) h3]at h1;rw[bC,<-hl];exact eA h1
  exact PySem.W.ki_setBack ho (by omega) (by rw[bC,<-hl];exact h3) (by omega) (by rw[hk];exact⟨_,I',q⟩)
theorem xw(lo hi:Option Int)(n:Nat):(nB lo hi none n).1=((HT.sIx n 0 lo:Nat):Int)/\(nB lo hi none n).2.1=((HT.sIx n n hi:Nat):Int)/\(nB lo hi none n).2.2=1:=by
 refine⟨?_,?_,rfl⟩
 ·cases lo with
  |none=>simp[nB,HT.sIx]
  |some i =>
   simp only[nB,HT.sIx,Option.getD_none,show(1:Int) > 0 by decide,if_true];by_cases h:i<0
   ·simp only[h,if_true]<;>omega
   ·simp only[h,if_false]<;>omega
 ·cases hi with
  |none=>simp[nB,HT.sIx]
  |some i =>
   simp only[nB,HT.sIx,Option.getD_none,show(1:Int) > 0 by decide,if_true];by_cases h:i<0
   ·simp only[h,if_true]<;>omega
   ·simp only[h,if_false]<;>omega
theorem uS(its:Zf)(lo hi:Option Int):slicePick its.toArray lo hi none=((its.drop (HT.sIx its.length 0 lo)).take (HT.sIx its.length its.length hi-HT.sIx its.length 0 lo)).toArray:=by
 obtain⟨h1,h2,h3⟩:=xw lo hi its.toArray.size;unfold slicePick;rw[h1,h2,h3];simp only[sliceRange_one,pick_run,bC]<;>rfl
def rL(K:Za):V->Option Int->Option Int->Hp->VK->Prop:=fun x lo hi H Q=>∃a xs,x=.ref a/\aA K H a xs/\∀p,H p=none->Q (.ref p) (upd H p (.lst (gg xs lo hi)))
theorem fT:SlR X (rL X.K):=by
 intro J3 s σ H x v vl vu lo hi sl Q I rx hs pl pu h;obtain⟨a,xs,rfl,hx,q⟩:=h;cases rx;obtain⟨its,r,ht,hz⟩:=I.list hx;have hlen:=r.length;refine⟨"list",_,slot_list_getitem.lookup,ht.isList.typeIs,?_⟩;refine wpAny_getItem_list_slice ht.isList hs pl pu .none (by simp) ?_ (by rw[bC]<;>omega);rw[uS,<-hlen];refine⟨.ref s.heap.objs.size,_,I.laid (t':=s.toks) (o:=.lst (gg xs lo hi)) (fun b ob q=>bj _ q) (aG _) ?_,rfl,q _ (I.hok.fresh (aG _))⟩;exact⟨bL (Ac xs lo hi) hz,_,0,(r.drop (HT.sIx xs.length 0 lo)).take (HT.sIx xs.length xs.length hi-HT.sIx xs.length 0 lo),cK _ rfl⟩
theorem yf:gv X (.builtin "len") (fun xs H Q=>∃p ys,xs=[.ref p]/\(aA X.K H p ys∨bD X.K H p ys)/\Q (.int ys.length) H):=by
 intro J3 s σ H xs us Q I r h;obtain⟨p,ys,rfl,hq,q⟩:=h;obtain⟨u,rfl,rx⟩:=vals1 r;cases rx;have hn:=qv;rcases hq with hq|hq
 ·obtain⟨its,r',pl,hz⟩:=I.list hq;have hlen:=r'.length;exact Calls.call_len_list pl.isList (by simp only[bC]<;>omega) ⟨.int ys.length,H,I.tok _,⟨s.toks+1,by rw[bC,hlen]⟩,q⟩
 ·obtain⟨its,r',pl,hz⟩:=I.tuple hq;have hlen:=r'.length;exact len_tuple pl (by simp only[bC]<;>omega) ⟨.int ys.length,H,I.tok _,⟨s.toks+1,by rw[bC,hlen]⟩,q⟩
theorem ye:gv X (.builtin "len") (fun xs H Q=>∃z,xs=[.str z]/\z.length<=aj/\Q (.int z.length) H):=by
 intro J3 s σ H xs us Q I r h;obtain⟨z,rfl,hz,q⟩:=h;obtain⟨u,rfl,t,rfl⟩:=vals1 r;have hn:=qv;exact len_str (by omega) ⟨.int z.length,H,I.tok _,⟨_,rfl⟩,q⟩
theorem gv.or{f:Value}{r r':List V->Hp->VK->Prop}(h:gv X f r)(h':gv X f r'):gv X f (fun xs H Q=>r xs H Q∨r' xs H Q):=by
 intro J3 s σ H xs us Q I rs q;rcases q with q|q
 ·exact h J3 s σ H xs us Q I rs q
 ·exact h' J3 s σ H xs us Q I rs q
theorem yd:gv X (.type "list") (fun xs H Q=>∃p ys,xs=[.ref p]/\(aA X.K H p ys∨bD X.K H p ys)/\∀l,H l=none->Q (.ref l) (upd H l (.lst ys))):=by
 intro J3 s σ H xs us Q I r h;obtain⟨p,ys,rfl,hq,q⟩:=h;obtain⟨u,rfl,rx⟩:=vals1 r;cases rx;have fin:∀(its:Zf),aZ ys its->ys.length<=aj->∀(h':Heap) (c':Nat),(∀b o',s.heap.get? b=some o'->h'.get? b=some o') ->
   h'.get? s.heap.objs.size=some { cls:=.type "list",dict:=none,data:=.seq its.toArray c',slots:=#[] }->EP X J3 σ Q (.ref s.heap.objs.size) { s with heap:=h' }:=fun its r' hz h' c' kp e =>
  ⟨.ref s.heap.objs.size,_,I.laid (t':=s.toks) kp (aG _) (show bW X.prog X.w X.K _ h' _ (.lst ys)from⟨hz,its,c',r',e⟩),rfl,q _ (I.hok.fresh (aG _))⟩
 rcases hq with hq|hq
 ·obtain⟨its,r',pl,hz⟩:=I.list hq;have hlen:=r'.length;obtain⟨o,ho,hc,n,hd⟩:=pl.isList;exact call_list_seq p (.inl rfl) ho hc hd (fun h' c' kp e=>fin its r' hz h' c' kp e) (by simp only[bC]<;>omega)
 ·obtain⟨its,r',pl,hz⟩:=I.tuple hq;have hlen:=r'.length;obtain⟨o,ho,hc,n,hd⟩:=pl;exact call_list_seq p (.inr rfl) ho hc hd (fun h' c' kp e=>fin its r' hz h' c' kp e) (by simp only[bC]<;>omega)
theorem m9:gv X (.type "tuple") (fun xs H Q=>∃p ys,xs=[.ref p]/\((aA X.K H p ys/\∀l,H l=none->Q (.ref l) (upd H l (.tup ys)))∨(bD X.K H p ys/\Q (.ref p) H))):=by
 intro J3 s σ H xs us Q I r h;obtain⟨p,ys,rfl,h⟩:=h;obtain⟨u,rfl,rx⟩:=vals1 r;cases rx;rcases h with⟨hq,q⟩|⟨hq,q⟩
 ·obtain⟨its,r',pl,hz⟩:=I.list hq;have hlen:=r'.length;refine call_tuple_list pl.isList (fun h' kp=>?_) (by simp only[bC]<;>omega);have I1:Inv X J3 σ H { s with heap:=h' }:=I.kept (t':=s.toks) kp;have I2:Inv X J3 σ (upd H h'.objs.size (.tup ys)) { s with heap:=h'.push { cls:=.type "tuple",data:=.seq its.toArray } } :=
   I1.laid (t':=s.toks) (fun b o e=>bj _ e) (aG _) (show bW X.prog X.w X.K _ _ _ (.tup ys)from⟨hz,its,r',IsTup.new _ _⟩)
  exact⟨.ref h'.objs.size,_,I2,rfl,q _ (I1.hok.fresh (aG _))⟩
 ·obtain⟨its,r',pl,hz⟩:=I.tuple hq;exact call_tuple_same pl ⟨.ref p,H,I,rfl,q⟩
def tyV(K:Za)(T:String)(x:V)(H:Hp):Prop:=match x with
 |.str _=>T="str"
 |.int _=>T="int"
 |.ref p=>(T="list"/\∃xs,aA K H p xs)∨(T="tuple"/\∃o,K.lookup p=some o/\o.cls=.type "tuple"/\o.dict=none) ∨
   (T="dict"/\((∃kvs,H p=some (.dK kvs))∨∃kvs,H p=some (.dT kvs)))∨(T="set"/\∃S n,H p=some (.set S n))
 |_=>False
theorem EK{J3:Zd}{σ:St}{H:Hp}{s:Shared}{T:String}{x:V}{v:Value}(I:Inv X J3 σ H s)(r:RelV x v)(ty:tyV X.K T x H):
  s.TypeIs v T/\∀a,v=.ref a->∃ob,s.heap.get? a=some ob/\ob.dict=none:=by
 cases x with
 |str z =>
  obtain⟨t,rfl⟩:=r;cases(show T="str" from ty);exact⟨typeIs_str s z t,fun _ e=>nomatch e⟩
 |int i =>
  obtain⟨t,rfl⟩:=r;cases(show T="int" from ty);exact⟨typeIs_int s i t,fun _ e=>nomatch e⟩
 |ref p =>
  cases r;rcases ty with⟨rfl,xs,hq⟩|⟨rfl,o,hk,hc,hd⟩|⟨rfl,hk⟩|⟨rfl,S,n,hk⟩
  ·obtain⟨its,_,pl,_⟩:=I.list hq;refine⟨pl.isList.typeIs,fun a e=>?_⟩;cases e;obtain⟨o,n,e,c,hd,_⟩:=pl;exact⟨o,e,hd⟩
  ·refine⟨⟨o,I.kIn p o hk,hc⟩,fun a e=>?_⟩;cases e;exact⟨o,I.kIn _ o hk,hd⟩
  ·have z:∃o,s.heap.get? p=some o/\o.ExactDict:=by
    rcases hk with⟨kvs,hk⟩|⟨kvs,hk⟩
    ·obtain⟨_,_,_,_,o,_,_,e,ex,_⟩:=I.hok p _ hk;exact⟨o,e,ex⟩
    ·obtain⟨_,_,_,_,o,_,_,e,ex,_⟩:=I.hok p _ hk;exact⟨o,e,ex⟩
   obtain⟨o,e,ex⟩:=z;refine⟨⟨o,e,ex.1⟩,fun a e2=>?_⟩;cases e2;exact⟨o,e,ex.2.1⟩
  ·obtain⟨o,_,_,_,e,ex,_⟩:=I.hok p _ hk;refine⟨⟨o,e,ex.1⟩,fun a e2=>?_⟩;cases e2;exact⟨o,e,ex.2.1⟩
 |_=>exact jB ty
def GU(K:Za)(T:String)(r:V->List V->Hp->VK->Prop)(to:TE):TE:=fun σ H Q=>to σ H fun x H1=>tyV K T x H1/\r x [] H1 Q
def oI(K:Za)(T:String)(r:V->List V->Hp->VK->Prop)(to:TE)(t:TA):TE:=fun σ H Q=>to σ H fun x H1=>tyV K T x H1/\t σ H1 fun xs H2=>r x xs H2 Q
variable{o e:Expr}{es:List Expr}{to:TE}{t:TA}{name:Str}{J5 J4:Pos}{T id:String}{r:V->List V->Hp->VK->Prop}
theorem Bd(pa:PlainAttrs T)(slot:Slot T name id)(hty:typeOf (.builtin id)=pure (.type "method_descriptor"))(hm:MtR X id r)(ho:PE X o to)
  (hbase:sj o name X.env (eval o X.env)=eval o X.env:=by rfl) (hline:(J5.endLine==J4.line)=true:=by rfl):PE X (.Call (.Attribute o name J5) [] [] J4) (GU X.K T r to):=by
 intro J3 s σ H Q I h;refine wpAny_Call_method0_late hbase hline (cD (ho J3 s σ H _ I h) fun v s1 ⟨x,H1,I1,r1,ty,q1⟩=>?_);obtain⟨h1,h2⟩:=EK I1 r1 ty;exact⟨T,id,pa,slot,hty,h1,h2,sO rfl (PySem.evalArgs_none (hm J3 s1 σ H1 x [] v [] Q I1 r1 .nil q1))⟩
theorem eK(pa:PlainAttrs T)(slot:Slot T name id)(hty:typeOf (.builtin id)=pure (.type "method_descriptor"))(hm:MtR X id r)(ho:PE X o to)(ha:PA X (e::es) t)
  (hbase:sj o name X.env (eval o X.env)=eval o X.env:=by rfl)
  (hfew:((backTo J4 (aL (e::es) X.env)).all (fun x=>!x.1) && (oy J4 (ox [] X.env)).all (fun x=>x.1.isSome)
   && decide ((e::es).length+([]:List pW).length+(if([]:List pW).isEmpty then 0 else 1)<30))=true:=by rfl)
  (hline:(J5.endLine==J4.line)=true:=by rfl) (hs:aL (e::es) X.env=(false,eval e X.env)::aL es X.env:=by rfl) (hplain:(backTo J4 (aL es X.env)).any (·.1)=false:=by rfl) :
  PE X (.Call (.Attribute o name J5) (e::es) [] J4) (oI X.K T r to t):=by
 intro J3 s σ H Q I h;refine wpAny_Call_method_late hbase hfew hline rfl (cD (ho J3 s σ H _ I h) fun v s1 ⟨x,H1,I1,r1,ty,q1⟩=>?_);obtain⟨h1,h2⟩:=EK I1 r1 ty;refine⟨T,id,pa,slot,hty,h1,h2,?_⟩;have hA:=ha J4 J3 s1 σ H1 _ I1 q1;rw[hs]at hA ⊢;refine sO (by show(false || (backTo J4 (aL es X.env)).any (·.1))=false;rw[hplain]<;>rfl) (Calls.evalArgs_plain ?_);exact cD hA fun us s2 ⟨vs,H2,I2,r2,q2⟩=>hm J3 s2 σ H2 x vs v us Q I2 r1 r2 q2
end
end L2
namespace L2
open PySem PySem.Spec PyProof.Rows
def Io(X:Cx)(id:String)(r:V->List V->Hp->VK->Prop):Prop :=
 ∀(J3:Zd) (s:Shared) (σ:St) (H:Hp) (x:V) (xs:List V) (v:Value) (us:Zf) (Q:VK),Inv X J3 σ H s->RelV x v->aZ xs us->r x xs H Q ->
  wpAny (model X.prog X.w) X.A (call (.builtin id) (v::us)) (EP X J3 σ Q) X.xe s
theorem aZ.one:∀{x:V}{us:Zf},aZ [x] us->∃u,us=[u]/\RelV x u
 |_,_,.cons r .nil=>⟨_,rfl,r⟩
theorem aZ.two:∀{x y:V}{us:Zf},aZ [x,y] us->∃u v,us=[u,v]/\RelV x u/\RelV y v
 |_,_,_,.cons r (.cons q .nil)=>⟨_,_,rfl,r,q⟩
theorem aZ.zero:∀{us:Zf},aZ [] us->us=[]
 |_,.nil=>rfl
theorem aZ.dropLast{xs:List V}{us:Zf}(h:aZ xs us):aZ xs.dropLast us.dropLast:=by
 induction h with
 |nil=>exact .nil
 |cons r t ih =>
  cases t with
  |nil=>exact .nil
  |cons q t'=>exact .cons r ih
theorem aZ.eraseIdx:∀{xs:List V}{us:Zf}(i:Nat),aZ xs us->aZ (xs.eraseIdx i) (us.eraseIdx i)
 |_,_,_,.nil=>.nil
 |_,_,0,.cons _ t=>t
 |_,_,i+1,.cons r t=>.cons r (aZ.eraseIdx i t)
theorem aZ.reverse{xs:List V}{us:Zf}(h:aZ xs us):aZ xs.reverse us.reverse:=by
 induction h with
 |nil=>exact .nil
 |cons r t ih=>rw[wR,wR];exact aZ.append ih (.cons r .nil)
theorem Bz{α:Type}(l:List α):l.eraseIdx (l.length-1)=l.dropLast:=by
 induction l with
 |nil=>rfl
 |cons a r ih =>
  cases r with
  |nil=>rfl
  |cons b r =>
   have e:(a::b::r).length-1=((b::r).length-1)+1:=by
    have h1:(a::b::r).length=r.length+2:=rfl;have h2:(b::r).length=r.length+1:=rfl;omega
   rw[e,List.eraseIdx_cons_succ,ih]
   all_goals rfl
theorem vT{α:Type}:∀(l:List α) (i:Nat),(l.eraseIdx i).length<=l.length
 |[],_=>aG _
 |_::_,0=>mS _
 |_::r,i+1=>Nat.succ_le_succ (vT r i)
section
variable{X:Cx}{J3:Zd}{σ:St}{H:Hp}{s:Shared}{l b:Addr}{xs ys zs:List V}
theorem Inv.lset{its its':Zf}{n:Nat}{f:Array Value->Array Value}{t':Nat}(I:Inv X J3 σ H s)(hH:H l=some (.lst xs))
  (e:s.heap.get? l=some { cls:=.type "list",data:=.seq its.toArray n }) (hf:f its.toArray=its'.toArray) (hv:aZ ys its') (hz:ys.length<=aj) :
  Inv X J3 σ (upd H l (.lst ys)) { s with heap:=s.heap.update l (sP f),toks:=t' }:=by
 have q:=PySem.IsL.update e f;rw[hf]at q;refine I.write (x:=l) (e:=l) (by rw[hH];exact trivial) (.inl rfl) (fun b' u hb hu=>(Heap.get?_update_other s.heap (sP f) (dA hb)).trans hu) ⟨_,q⟩ ?_;exact⟨hz,its',_,hv,q⟩
theorem Inv.lnew{its:Zf}{t':Nat}(I:Inv X J3 σ H s)(hv:aZ ys its)(hz:ys.length<=aj):
  Inv X J3 σ (upd H s.heap.objs.size (.lst ys)) { s with heap:=s.heap.push { cls:=.type "list",data:=.seq its.toArray },toks:=t' } :=
 I.laid (fun _ _ q=>bj _ q) (aG _) ⟨hz,its,0,hv,cK _ rfl⟩
theorem Inv.fresh(I:Inv X J3 σ H s):H s.heap.objs.size=none:=I.hok.fresh (aG _)
theorem Inv.lstM(I:Inv X J3 σ H s)(hH:H l=some (.lst xs)):xs.length<=aj/\∃(its:Zf) (n:Nat),aZ xs its/\xs.length=its.length/\s.heap.get? l=some { cls:=.type "list",data:=.seq its.toArray n }:=by
 obtain⟨z,its,n,r,e⟩:=I.hok l _ hH;exact⟨z,its,n,r,r.length,e⟩
theorem Fy{n:Nat}(h:n<=aj):bZ.List.listTooLong n=false:=by
 unfold bZ.List.listTooLong;exact zzr0 (by omega)
end
section
variable{X:Cx}
def cz:V->List V->Hp->VK->Prop:=fun x vs H Q=>∃l xs y,x=.ref l/\vs=[y]/\H l=some (.lst xs)/\xs.length<aj/\Q .non (upd H l (.lst (xs++[y])))
theorem bQ:Io X "list.append" cz:=by
 intro J3 s σ H x vs v us Q I rx rv h;obtain⟨l,xs,y,rfl,rfl,hH,hz,q⟩:=h;cases rx;obtain⟨u,rfl,ru⟩:=rv.one;obtain⟨z,its,n,r,hl,e⟩:=I.lstM hH;refine nA F.slot_list_append ⟨_,e,rfl⟩ F.entry_list_append (F.args_list_append_2 _ _) (PySem.list_append l its.toArray n u (by rw[bC];omega)) ⟨e,?_⟩;refine⟨.non,_,I.lset (its':=its++[u]) hH e (by simp) (r.append (.cons ru .nil)) ?_,rfl,q⟩;rw[az,nz];omega
def Cz:V->List V->Hp->VK->Prop:=fun x vs H Q=>∃l b xs zs,x=.ref l/\vs=[.ref b]/\H l=some (.lst xs)/\H b=some (.lst zs)/\xs.length+zs.length<=aj/\Q .non (upd H l (.lst (xs++zs)))
theorem DN:Io X "list.extend" Cz:=by
 intro J3 s σ H x vs v us Q I rx rv h;obtain⟨l,b,xs,zs,rfl,rfl,hH,hB,hz,q⟩:=h;cases rx;obtain⟨u,rfl,ru⟩:=rv.one;cases ru;obtain⟨z,its,n,r,hl,e⟩:=I.lstM hH;obtain⟨z2,its2,n2,r2,hl2,e2⟩:=I.lstM hB;have hsz:its.toArray.size+its2.toArray.size<=aj:=by rw[bC,bC];omega
 have hlong:¬(!its.toArray.isEmpty && bZ.List.listTooLong (its.toArray.size+its2.toArray.size))=true:=by
  rw[Fy hsz,wQ];exact gK
 refine nA F.slot_list_extend ⟨_,e,rfl⟩ F.entry_list_extend (F.args_list_extend_2 _ _)
  (AutoSeq1.list_extend_list_list_0 l its.toArray n b its2.toArray n2 hlong (by rw[bC];omega) (by omega)) ⟨e,e2,?_⟩
 refine⟨.non,_,I.lset (its':=its++its2) hH e (by simp) (r.append r2) ?_,rfl,q⟩;rw[az];omega
def Ix:V->List V->Hp->VK->Prop:=fun x vs H Q=>∃l xs y,x=.ref l/\vs=[]/\H l=some (.lst xs)/\xs[xs.length-1]?=some y/\Q y (upd H l (.lst xs.dropLast))
theorem FH:Io X "list.pop" Ix:=by
 intro J3 s σ H x vs v us Q I rx rv h;obtain⟨l,xs,y,rfl,rfl,hH,hy,q⟩:=h;cases rx;have hus:=rv.zero;subst hus;obtain⟨z,its,n,r,hl,e⟩:=I.lstM hH;obtain⟨u,hu,ru⟩:=r.get hy;have hy':its.toArray[its.toArray.size-1]?=some u:=by
  show its.toArray[its.length-1]?=some u;rw[<-Array.getElem?_toList,<-hl];exact hu
 refine nA F.slot_list_pop ⟨_,e,rfl⟩ F.entry_list_pop (F.args_list_pop_1 _) (MeetsSeq.list_pop_last l its.toArray n u hy' (by rw[bC];omega)) ⟨e,?_⟩;refine⟨y,_,I.lset (its':=its.dropLast) hH e ?_ r.dropLast ?_,ru,q⟩
 ·show its.toArray.eraseIdxIfInBounds (its.toArray.size-1)=its.dropLast.toArray;rw[bC,List.eraseIdxIfInBounds_toArray,Bz]
 ·rw[List.length_dropLast];omega
def Fi:V->List V->Hp->VK->Prop:=fun x vs H Q=>∃l xs i k y,x=.ref l/\vs=[.int i]/\H l=some (.lst xs)/\-(2 ^ 63)<=i/\i<2 ^ 63/\wU i xs.length=some k/\xs[k]?=some y/\Q y (upd H l (.lst (xs.eraseIdx k)))
theorem FG:Io X "list.pop" Fi:=by
 intro J3 s σ H x vs v us Q I rx rv h;obtain⟨l,xs,i,k,y,rfl,rfl,hH,h1,h2,hk,hy,q⟩:=h;cases rx;obtain⟨u,rfl,ru⟩:=rv.one;obtain⟨t,rfl⟩:=ru;obtain⟨z,its,n,r,hl,e⟩:=I.lstM hH;obtain⟨w,hw,rw'⟩:=r.get hy;refine nA F.slot_list_pop ⟨_,e,rfl⟩ F.entry_list_pop (F.args_list_pop_2 _ _)
  (MeetsSeq.list_pop_at l its.toArray n i t k w (fitsIndex_both h1 h2) (by rw[bC,<-hl];exact hk) (by rw[<-Array.getElem?_toList];exact hw) (by rw[bC];omega)) ⟨e,?_⟩
 refine⟨y,_,I.lset (its':=its.eraseIdx k) hH e ?_ (r.eraseIdx k) ?_,rw',q⟩
 ·show its.toArray.eraseIdxIfInBounds k=(its.eraseIdx k).toArray;rw[List.eraseIdxIfInBounds_toArray]
 ·have:=vT xs k;omega
def zq:V->List V->Hp->VK->Prop:=fun x vs H Q=>∃l xs,x=.ref l/\vs=[]/\H l=some (.lst xs)/\Q .non (upd H l (.lst xs.reverse))
theorem Bf:Io X "list.reverse" zq:=by
 intro J3 s σ H x vs v us Q I rx rv h;obtain⟨l,xs,rfl,rfl,hH,q⟩:=h;cases rx;have hus:=rv.zero;subst hus;obtain⟨z,its,n,r,hl,e⟩:=I.lstM hH;refine nA F.slot_list_reverse ⟨_,e,rfl⟩ F.entry_list_reverse (F.args_list_reverse_1 _) (AutoSeq1.list_reverse_list_0 l its.toArray n (by rw[bC];omega)) ⟨e,?_⟩;refine⟨.non,_,I.lset (its':=its.reverse) hH e (by simp) r.reverse ?_,rfl,q⟩;rw[List.length_reverse];omega
def qh:R2:=fun x y H Q=>∃l b xs zs,x=.ref l/\y=.ref b/\H l=some (.lst xs)/\H b=some (.lst zs)/\xs.length+zs.length<=aj/\∀p,H p=none->Q (.ref p) (upd H p (.lst (xs++zs)))
theorem h_:nY X (qP .Add) qh:=by
 intro J3 s σ H x y v u Q I rx ry h;obtain⟨l,b,xs,zs,rfl,rfl,hH,hB,hz,q⟩:=h;cases rx;cases ry;obtain⟨z,its,n,r,hl,e⟩:=I.lstM hH;obtain⟨z2,its2,n2,r2,hl2,e2⟩:=I.lstM hB;refine PySem.P.add_list e e2 ?_ (by rw[bC,bC];omega);have ea:its.toArray++its2.toArray=(its++its2).toArray:=by simp
 rw[ea];exact⟨.ref _,_,I.lnew (t':=s.toks) (r.append r2) (by rw[az];omega),rfl,q _ I.fresh⟩
end
end L2
namespace L2
open PySem PySem.Spec PyProof.Rows
section
variable{κ:Type}[DecidableEq κ]
def bP(kvs:List (κ×V))(k:κ):Option V:=(kvs.find? fun kv=>decide (kv.1=k)).map (·.2)
def cR(kvs:List (κ×V))(k:κ)(v:V):List (κ×V) :=
 if(kvs.any fun kv=>decide (kv.1=k))=true then kvs.map (fun kv=>if kv.1=k then(kv.1,v)else kv)else kvs++[(k,v)]
theorem cC{p:κ×V}{r:List (κ×V)}{k:κ}(e:p.1=k):bP (p::r) k=some p.2:=by simp[bP,lA,e]
theorem cu{p:κ×V}{r:List (κ×V)}{k:κ}(e:¬p.1=k):bP (p::r) k=bP r k:=by simp[bP,lA,e]
theorem jE(k:κ):∀kvs:List (κ×V),(kvs.any fun kv=>decide (kv.1=k))=(bP kvs k).isSome
 |[]=>rfl
 |p::r=>by
  rw[ny];by_cases e:p.1=k
  ·simp only[cC e,zzr1 e,Bool.true_or,Option.isSome_some]
  ·rw[cu e,zzr0 e,Bool.false_or];exact jE k r
theorem yM(k j:κ)(y:V):∀kvs:List (κ×V),bP (kvs.map fun kv=>if kv.1=k then(kv.1,y)else kv) j=(bP kvs j).map fun x=>if j=k then y else x
 |[]=>rfl
 |p::r=>by
  have ih:=yM k j y r;rw[bb];by_cases h:p.1=k
  ·rw[if_pos h];by_cases e:p.1=j
   ·rw[cC (p:=(p.1,y)) e,cC e,sN,if_pos (e.symm.trans h)]
   ·rw[cu (p:=(p.1,y)) e,cu e,ih]
  ·rw[if_neg h];by_cases e:p.1=j
   ·rw[cC (p:=p) e,cC e,sN,if_neg (fun z=>h (e.trans z))]
   ·rw[cu (p:=p) e,cu e,ih]
theorem vm(k j:κ)(y:V):∀kvs:List (κ×V),bP kvs k=none->bP (kvs++[(k,y)]) j=if j=k then some y else bP kvs j
 |[],_=>by
  by_cases e:k=j
  ·rw[if_pos e.symm];exact cC (p:=(k,y)) e
  ·rw[if_neg (fun z=>e z.symm)];exact cu (p:=(k,y)) e
 |p::r,hn=>by
  rw[sM];have hk:¬p.1=k:=fun z=>by rw[cC z]at hn;cases hn
  rw[cu hk]at hn;have ih:=vm k j y r hn;by_cases e:p.1=j
  ·rw[cC e,cC e,if_neg (fun z=>hk (e.trans z))]
  ·rw[cu e,cu e,ih]
theorem yL(kvs:List (κ×V))(k j:κ)(y:V):bP (cR kvs k y) j=if j=k then some y else bP kvs j:=by
 unfold cR;by_cases a:(kvs.any fun kv=>decide (kv.1=k))=true
 ·rw[if_pos a,yM];rw[jE]at a;by_cases e:j=k
  ·obtain⟨x,hx⟩:=B1.mp a;rw[if_pos e,e,hx,sN,if_pos rfl]
  ·rw[if_neg e];cases bP kvs j with
   |none=>rfl
   |some x=>rw[sN,if_neg e]
 ·rw[if_neg a];refine vm k j y kvs ?_;rw[jE]at a;cases q:bP kvs k with
  |none=>rfl
  |some x=>rw[q]at a;exact(a rfl).elim
theorem jf(kvs:List (κ×V))(k:κ)(v:V):(cR kvs k v).length<=kvs.length+1:=by
 unfold cR;split
 ·rw[ai];omega
 ·rw[az,cZ,wP];omega
theorem fU{kvs:List (κ×V)}{k:κ}(v:V)(h:bP kvs k=none):cR kvs k v=kvs++[(k,v)]:=by
 unfold cR;rw[jE,h];exact if_neg (by decide)
theorem kT.isSome_eq{o:Option V}{u:Option Value}(r:kT o u):o.isSome=u.isSome:=by
 cases o with
 |none=>cases u with
  |none=>rfl
  |some _=>exact(show False from r).elim
 |some _=>cases u with
  |none=>exact(show False from r).elim
  |some _=>rfl
theorem kT.getD{o:Option V}{u:Option Value}{d:V}{d':Value}(r:kT o u)(rd:RelV d d'):RelV (o.getD d) (u.getD d'):=by
 cases o with
 |none=>cases u with
  |none=>exact rd
  |some _=>exact(show False from r).elim
 |some _=>cases u with
  |none=>exact(show False from r).elim
  |some _=>exact r
theorem KV.val{kvs:List (κ×V)}{vs:List (κ×Value)}(r:KV kvs vs)(k:κ):kT (bP kvs k) (nv vs k):=by
 unfold KV at r
 induction r with
 |nil=>exact i8
 |@cons p q ps qs h t ih =>
  obtain⟨h1,h2⟩:=h;by_cases e:p.1=k
  ·have e':q.1=k:=h1.symm.trans e;have b:nv (q::qs) k=some q.2:=by simp[nv,lA,e']
   rw[cC e,b];exact h2
  ·have e':¬q.1=k:=fun z=>e (h1.trans z);have b:nv (q::qs) k=nv qs k:=by simp[nv,lA,e']
   rw[cu e,b];exact ih
theorem KV.any{kvs:List (κ×V)}{vs:List (κ×Value)}(r:KV kvs vs)(k:κ):(kvs.any fun kv=>decide (kv.1=k))=vs.any fun kv=>decide (kv.1=k):=by
 unfold KV at r
 induction r with
 |nil=>rfl
 |cons h t ih=>rw[ny,ny,ih,h.1]
theorem KV.repl{kvs:List (κ×V)}{vs:List (κ×Value)}(r:KV kvs vs)(k:κ){y:V}{u:Value}(ry:RelV y u):
  KV (kvs.map fun kv=>if kv.1=k then(kv.1,y)else kv) (vs.map fun kv=>if kv.1=k then(kv.1,u)else kv):=by
 unfold KV at r ⊢
 induction r with
 |nil=>exact .nil
 |@cons p q ps qs h t ih =>
  rw[bb,bb];refine .cons ?_ ih;obtain⟨h1,h2⟩:=h;by_cases e:p.1=k
  ·rw[if_pos e,if_pos (h1.symm.trans e)];exact⟨h1,ry⟩
  ·rw[if_neg e,if_neg (fun z=>e (h1.trans z))];exact⟨h1,h2⟩
theorem KV.put{kvs:List (κ×V)}{vs:List (κ×Value)}(r:KV kvs vs)(k:κ){y:V}{u:Value}(ry:RelV y u):KV (cR kvs k y) (stored vs k u):=by
 unfold cR stored;rw[r.any k];by_cases e:(vs.any fun kv=>decide (kv.1=k))=true
 ·rw[if_pos e,if_pos e];exact r.repl k ry
 ·rw[if_neg e,if_neg e];exact cG r ⟨rfl,ry⟩
theorem KV.length{kvs:List (κ×V)}{vs:List (κ×Value)}(r:KV kvs vs):kvs.length=vs.length:=Paired.length r
end
theorem jT{P:ck}{w:World}{k:eS}{u:Value}(r:RelV (kV k) u):(bS P w).is k u=true:=by
 cases k with
 |inl i=>obtain⟨t,e⟩:=(show ∃t,u=Value.int i t from r);subst e;exact zN P w i t
 |inr x=>obtain⟨t,e⟩:=(show ∃t,u=Value.str x t from r);subst e;exact zM P w x t
abbrev KT(K:Za)(H:Hp):List (TK×V)->List (TK×Addr×Value)->Prop:=Paired fun p q=>p.1=q.1/\nV K H p.1 (.ref q.2.1)/\p.1.depth<=8/\RelV p.2 q.2.2
theorem KT.val{K:Za}{H:Hp}{kvs:List (TK×V)}{xs:List (TK×Addr×Value)}(r:KT K H kvs xs)(k:TK):kT (bP kvs k) ((atKey xs k).map (·.2)):=by
 induction r with
 |nil=>exact i8
 |@cons p q ps qs h t ih =>
  obtain⟨h1,_,_,h2⟩:=h;by_cases e:p.1=k
  ·have e':q.1=k:=h1.symm.trans e;have b:atKey (q::qs) k=some q.2:=by simp[atKey,lA,e']
   rw[cC e,b];exact h2
  ·have e':¬q.1=k:=fun z=>e (h1.trans z);have b:atKey (q::qs) k=atKey qs k:=by simp[atKey,lA,e']
   rw[cu e,b];exact ih
theorem KT.repl{K:Za}{H:Hp}{kvs:List (TK×V)}{xs:List (TK×Addr×Value)}(r:KT K H kvs xs)(k:TK){y:V}{u:Value}(ry:RelV y u):
  KT K H (kvs.map fun kv=>if kv.1=k then(kv.1,y)else kv) (xs.map (putAt k u)):=by
 induction r with
 |nil=>exact .nil
 |@cons p q ps qs h t ih =>
  rw[bb,bb];refine .cons ?_ ih;obtain⟨h1,h2,h3⟩:=h;unfold putAt;by_cases e:p.1=k
  ·rw[if_pos e,if_pos (h1.symm.trans e)];exact⟨h1,h2,h3.1,ry⟩
  ·rw[if_neg e,if_neg (fun z=>e (h1.trans z))];exact⟨h1,h2,h3⟩
theorem KT.put{K:Za}{H:Hp}{kvs:List (TK×V)}{xs:List (TK×Addr×Value)}(r:KT K H kvs xs)(k:TK){b:Addr}{y:V}{u:Value}(hb:nV K H k (.ref b))(h8:k.depth<=8)(ry:RelV y u):
  KT K H (cR kvs k y) (storedH xs k b u):=by
 have e:(kvs.any fun kv=>decide (kv.1=k))=(atKey xs k).isSome:=by
  rw[jE,(r.val k).isSome_eq,Option.isSome_map]
 unfold cR storedH;rw[e];by_cases q:(atKey xs k).isSome=true
 ·rw[if_pos q,if_pos q];exact r.repl k ry
 ·rw[if_neg q,if_neg q];exact cG r ⟨rfl,hb,h8,ry⟩
theorem KT.keeps{K:Za}{H H':Hp}{kvs:List (TK×V)}{xs:List (TK×Addr×Value)}(r:KT K H kvs xs)(ht:∀b ys,H b=some (.tup ys)->H' b=some (.tup ys)):KT K H' kvs xs :=
 Paired.mapP r fun _ _ z=>⟨z.1,nV.keeps ht 8 z.2.2.1 z.2.1,z.2.2⟩
section
variable{P:ck}{w:World}{K:Za}{H:Hp}{h:Heap}{a:Addr}
theorem HY{u:HO}(ok:mF P w K H h)(e:Rd H a u):bW P w K H h a u:=e.ok ok
theorem pi{kvs:List (eS×V)}(ok:mF P w K H h)(e:Rd H a (.dK kvs)):kvs.length<=aj/\(a==gG)=false/\∃vs,KV kvs vs/\h.DictOf (bS P w) a vs :=
 show bW P w K H h a (.dK kvs)from HY ok e
theorem Js{kvs:List (eS×V)}(ok:mF P w K H h)(e:H a=some (.dK kvs)):kvs.length<=aj/\(a==gG)=false/\∃vs,KV kvs vs/\h.DictOf (bS P w) a vs:=pi ok (.inl e)
theorem Iq(ok:mF P w K H h)(kin:K.In h):∀(d:Nat) {k:TK}{v:V}{u:Value},k.depth<=d->nV K H k v->RelV v u->mO h k u:=by
 have key:∀(d:Nat) (ih:∀{k:TK}{v:V}{u:Value},k.depth<=d->nV K H k v->RelV v u->mO h k u) (ks:List TK) (vs:List V) (us:Zf),TK.depths ks<=d->TKCs K H ks vs->aZ vs us->TAts h ks us:=by
  intro d ih ks
  induction ks with
  |nil =>
   intro vs us _ hx r;have e:vs=[]:=hx;subst e;cases r
   rfl
  |cons k ks ihl =>
   intro vs us hd hx r;obtain⟨v,vs',rfl,h1,h2⟩:=hx;cases r with
   |@cons _ u _ us' r1 r2 =>
    have hd':max k.depth (TK.depths ks)<=d:=hd;exact⟨u,us',rfl,ih (by omega) h1 r1,ihl vs' us' (by omega) h2 r2⟩
 intro d
 induction d with
 |zero =>
  intro k v u hd hx r;cases k with
  |t l=>exact absurd hd (by show ¬(TK.depths l+1<=0);omega)
  |k b =>
   have e:v=kV b:=hx;subst e;exact jT (P:=P) (w:=w) r
 |succ d ih =>
  intro k v u hd hx r;cases k with
  |k b =>
   have e:v=kV b:=hx;subst e;exact jT (P:=P) (w:=w) r
  |t l =>
   obtain⟨b,xs,rfl,hb,hi⟩:=hx;cases(show u=Value.ref b from r);obtain⟨its,rv,ob,h1,h2,n,h3⟩:∃its:List Value,aZ xs its/\IsTup h b its.toArray:=by
    rcases hb with hb|⟨o,its,n,hk,hc,hs,hz,r⟩
    ·obtain⟨_,its,rv,p⟩:=(show bW P w K H h b (.tup xs)from ok b _ hb);exact⟨its,rv,p⟩
    ·exact⟨its.toList,r,o,kin b o hk,hc,n,by simpa using hs⟩
   exact⟨b,ob,its.toArray,n,rfl,h1,h2,h3,by simpa using key d (fun h1=>ih h1) l xs its (by have:TK.depths l+1<=d+1:=hd;omega) hi rv⟩
theorem tZ{k:TK}(ok:mF P w K H h)(kin:K.In h)(e:nV K H k (.ref a))(h8:k.depth<=8):(dU P w).is h k a:=⟨Iq ok kin 8 h8 e rfl,h8⟩
theorem rm{kvs:List (TK×V)}(ok:mF P w K H h)(kin:K.In h)(e:Rd H a (.dT kvs)):kvs.length<=aj/\(a==gG)=false /\
  ∃xs,KT K H kvs xs/\h.DictOfH (dU P w) a xs:=by
 obtain⟨z,y,xs,r,o,es,ep,h1,h2,h3,h4,h5⟩:=(show bW P w K H h a (.dT kvs)from HY ok e);refine⟨z,y,xs,r,o,es,ep,h1,h2,h3,h4,fun x hx=>?_,h5⟩;have all:∀{l:List (TK×V)}{m:List (TK×Addr×Value)},KT K H l m->∀x∈m,(dU P w).is h x.1 x.2.1:=by
  intro l m q
  induction q with
  |nil=>intro x hx;exact nomatch hx
  |@cons p q ps qs hq t ih =>
   intro x hx;rcases bM.mp hx with e|hx
   ·subst e;exact tZ ok kin (by rw[<-hq.1];exact hq.2.1) (by rw[<-hq.1];exact hq.2.2.1)
   ·exact ih x hx
 exact all r x hx
theorem C0{kvs:List (TK×V)}(ok:mF P w K H h)(kin:K.In h)(e:H a=some (.dT kvs)):kvs.length<=aj/\(a==gG)=false /\
  ∃xs,KT K H kvs xs/\h.DictOfH (dU P w) a xs:=rm ok kin (.inl e)
end
mutual
def lW(K:Za)(H:Hp):TK->V->Prop
 |.k a,v=>v=kV a
 |.t l,v=>∃b xs,v=.ref b/\bD K H b xs/\TKIns K H l xs
def TKIns(K:Za)(H:Hp):List TK->List V->Prop
 |[],vs=>vs=[]
 |k::r,vs=>∃v us,vs=v::us/\lW K H k v/\TKIns K H r us
end
theorem da.isIn{K:Za}{H:Hp}:∀(d:Nat) {k:TK}{v:V},k.depth<=d->da H k v->lW K H k v:=by
 have key:∀(d:Nat) (ih:∀{k:TK}{v:V},k.depth<=d->da H k v->lW K H k v) (xs:List TK) (vs:List V),TK.depths xs<=d->TKAts H xs vs->TKIns K H xs vs:=by
  intro d ih xs
  induction xs with
  |nil=>intro vs _ hx;exact hx
  |cons x xs ihl =>
   intro vs hd hx;obtain⟨v,us,rfl,hx1,hx2⟩:=hx;have hd':max x.depth (TK.depths xs)<=d:=hd;exact⟨v,us,rfl,ih (by omega) hx1,ihl us (by omega) hx2⟩
 intro d
 induction d with
 |zero =>
  intro k v hd hx;cases k with
  |t l=>exact absurd hd (by show ¬(TK.depths l+1<=0);omega)
  |k a=>exact hx
 |succ d ih =>
  intro k v hd hx;cases k with
  |k a=>exact hx
  |t l =>
   obtain⟨b,xs,rfl,hb,hi⟩:=hx;exact⟨b,xs,rfl,bD.of hb,key d (fun h1=>ih h1) l xs (by have:TK.depths l+1<=d+1:=hd;omega) hi⟩
theorem GP{X:Cx}{J3:Zd}{σ:St}{H:Hp}{s:Shared}(I:Inv X J3 σ H s):∀(d:Nat) {k:TK}{v:V}{u:Value},k.depth<=d->lW X.K H k v->RelV v u->mO s.heap k u:=by
 have key:∀(d:Nat) (ih:∀{k:TK}{v:V}{u:Value},k.depth<=d->lW X.K H k v->RelV v u->mO s.heap k u) (ks:List TK) (vs:List V) (us:Zf),TK.depths ks<=d->TKIns X.K H ks vs->aZ vs us->TAts s.heap ks us:=by
  intro d ih ks
  induction ks with
  |nil =>
   intro vs us _ hx r;have e:vs=[]:=hx;subst e;cases r
   rfl
  |cons k ks ihl =>
   intro vs us hd hx r;obtain⟨v,vs',rfl,h1,h2⟩:=hx;cases r with
   |@cons _ u _ us' r1 r2 =>
    have hd':max k.depth (TK.depths ks)<=d:=hd;exact⟨u,us',rfl,ih (by omega) h1 r1,ihl vs' us' (by omega) h2 r2⟩
 intro d
 induction d with
 |zero =>
  intro k v u hd hx r;cases k with
  |t l=>exact absurd hd (by show ¬(TK.depths l+1<=0);omega)
  |k b =>
   have e:v=kV b:=hx;subst e;exact jT (P:=X.prog) (w:=X.w) r
 |succ d ih =>
  intro k v u hd hx r;cases k with
  |k b =>
   have e:v=kV b:=hx;subst e;exact jT (P:=X.prog) (w:=X.w) r
  |t l =>
   obtain⟨b,xs,rfl,hb,hi⟩:=hx;cases(show u=Value.ref b from r);obtain⟨its,rv,⟨ob,h1,h2,n,h3⟩,_⟩:=I.tuple hb;exact⟨b,ob,its.toArray,n,rfl,h1,h2,h3,by simpa using key d (fun h1=>ih h1) l xs its (by have:TK.depths l+1<=d+1:=hd;omega) hi rv⟩
theorem t4{X:Cx}{J3:Zd}{σ:St}{H:Hp}{s:Shared}{k:TK}{b:Addr}(I:Inv X J3 σ H s)(e:lW X.K H k (.ref b))(h8:k.depth<=8):(dU X.prog X.w).is s.heap k b:=⟨GP I 8 h8 e rfl,h8⟩
theorem fE{P:ck}{w:World}{A:Around}(hu:A.units+16<cLine):(dU P w).room A.in1:=by
 show A.units+1+8<cLine;omega
def kB(K:Za)(H:Hp)(a:Addr)(y:V)(r:Option V):Prop :=
 (∃kvs k,Rd H a (.dK kvs)/\y=kV k/\r=bP kvs k)∨∃kvs k b,Rd H a (.dT kvs)/\y=.ref b/\lW K H k (.ref b)/\k.depth<=8/\r=bP kvs k
def JE(H:Hp)(a:Addr)(y v:V)(H':Hp):Prop :=
 (∃kvs k,H a=some (.dK kvs)/\y=kV k/\kvs.length<aj/\H'=upd H a (.dK (cR kvs k v))) ∨
 ∃kvs k b,H a=some (.dT kvs)/\y=.ref b/\da H k (.ref b)/\k.depth<=8/\kvs.length<aj/\H'=upd H a (.dT (cR kvs k v))
section
variable{X:Cx}{J3:Zd}{σ:St}{H:Hp}{s:Shared}{a:Addr}{y v:V}{u r:Value}{o:Option V}{A:Around}{E:Zc}
theorem Inv.big(I:Inv X J3 σ H s):gG<s.heap.objs.size:=by
 have h:bV<s.heap.objs.size:=(I.mod.glob.keeps I.bk).lt;exact Nat.lt_trans (by decide) h
theorem Eh{Q:Zc}(hu:A.units+16<cLine)(I:Inv X J3 σ H s)(g:kB X.K H a y (some v))(ry:RelV y u)(h:∀w' s',Inv X J3 σ H s'->RelV v w'->Q w' s'):
  wpAny (model X.prog X.w) A (nC (.ref a) u) Q E s:=by
 rcases g with⟨kvs,k,e,ey,l⟩|⟨kvs,k,b,e,ey,eb,e8,l⟩
 ·subst ey;obtain⟨z,hd,vs,rel,dd⟩:=pi I.hok e;obtain⟨w',hw,rw'⟩:=kT.some_of (v:=v) (o:=nv vs k) (by rw[l];exact rel.val k);exact wpAny_getItem_of (jT ry) dd.mapOf hw (h w' _ (I.tok _) rw')
 ·subst ey;cases(show u=Value.ref b from ry);obtain⟨z,hd,xs,rel,dd⟩:=rm I.hok I.kIn e;obtain⟨w',hw,rw'⟩:=kT.some_of (v:=v) (o:=(atKey xs k).map (·.2)) (by rw[l];exact rel.val k);obtain⟨p,hp,hp2⟩:=kY.mp hw;refine wpAny_getItem_heap (fE hu) (t4 I eb e8) dd hp ?_;rw[hp2];exact h w' _ (I.tok _) rw'
theorem d_in{Q:Zc}(hu:A.units+16<cLine)(I:Inv X J3 σ H s)(g:kB X.K H a y o)(ry:RelV y u)(h:∀s',Inv X J3 σ H s'->Q (.bool o.isSome) s'):
  wpAny (model X.prog X.w) A (em .In u (.ref a)) Q E s:=by
 rcases g with⟨kvs,k,e,ey,l⟩|⟨kvs,k,b,e,ey,eb,e8,l⟩
 ·subst ey;obtain⟨z,hd,vs,rel,dd⟩:=pi I.hok e;refine wpAny_in_of (jT ry) hd dd.mapOf ?_;rw[<-(rel.val k).isSome_eq,<-l];exact h _ (I.tok _)
 ·subst ey;cases(show u=Value.ref b from ry);obtain⟨z,hd,xs,rel,dd⟩:=rm I.hok I.kIn e;refine wpAny_in_heap (fE hu) (t4 I eb e8) hd dd ?_;have q:=(rel.val k).isSome_eq;rw[Option.isSome_map]at q;rw[<-q,<-l];exact h _ (I.tok _)
theorem HB{Q:Zc}(hu:A.units+16<cLine)(I:Inv X J3 σ H s)(g:kB X.K H a y o)(ry:RelV y u)(h:∀s',Inv X J3 σ H s'->Q (.bool (!o.isSome)) s'):
  wpAny (model X.prog X.w) A (em .NotIn u (.ref a)) Q E s:=by
 rcases g with⟨kvs,k,e,ey,l⟩|⟨kvs,k,b,e,ey,eb,e8,l⟩
 ·subst ey;obtain⟨z,hd,vs,rel,dd⟩:=pi I.hok e;refine wpAny_notIn_of (jT ry) hd dd.mapOf ?_;rw[<-(rel.val k).isSome_eq,<-l];exact h _ (I.tok _)
 ·subst ey;cases(show u=Value.ref b from ry);obtain⟨z,hd,xs,rel,dd⟩:=rm I.hok I.kIn e;refine wpAny_notIn_heap (fE hu) (t4 I eb e8) hd dd ?_;have q:=(rel.val k).isSome_eq;rw[Option.isSome_map]at q;rw[<-q,<-l];exact h _ (I.tok _)
theorem pj{h':Heap}{t':Nat}{ob:HO}(I:Inv X J3 σ H s)(mu:Jw (H a))(hs:fD a s.heap h')(he:∃q,h'.get? a=some q)(new:bW X.prog X.w X.K (upd H a ob) h' a ob):
  Inv X J3 σ (upd H a ob) { s with heap:=h',toks:=t' } :=
 I.write (x:=a) (e:=a) mu (.inl rfl) (fun b q hb z=>(hs.2 b hb).trans z) he new
theorem Gh{P:ck}{w:World}{K:Za}{H':Hp}{h':Heap}{kvs:List (eS×V)}{vs:List (eS×Value)}(z:kvs.length<=aj)(hd:(a==gG)=false)(rel:KV kvs vs)(dd:h'.DictOf (bS P w) a vs):
  bW P w K H' h' a (.dK kvs):=⟨z,hd,vs,rel,dd⟩
theorem Eg{H':Hp}{Q:Unit->Shared->Prop}(hu:A.units+16<cLine)(I:Inv X J3 σ H s)(g:JE H a y v H')(ry:RelV y u)(rv:RelV v r)(h:∀s',Inv X J3 σ H' s'->Q () s'):
  wpAny (model X.prog X.w) A (setItem (.ref a) u r) Q E s:=by
 rcases g with⟨kvs,k,e,ey,l,eH⟩|⟨kvs,k,b,e,ey,eb,e8,l,eH⟩
 ·subst ey eH;obtain⟨z,hd,vs,rel,dd⟩:=Js I.hok e;have hz:vs.length<=aj:=by rw[<-rel.length];exact z
  have hl:(cR kvs k v).length<=aj:=by have:=jf kvs k v;omega
  refine wpAny_setItem_pairs (hsz:=hz) (jT ry) dd fun h' dd' hs=>h _ ?_;have he:∃q,h'.get? a=some q:=let⟨q,_,_,hq,_⟩:=dd';⟨q,hq⟩;exact pj I (by rw[e];exact i8) hs he (Gh hl hd (rel.put k rv) dd')
 ·subst ey eH;cases(show u=Value.ref b from ry);obtain⟨z,hd,xs,rel,dd⟩:=C0 I.hok I.kIn e;have hz:xs.length<=aj:=by rw[<-Paired.length rel];exact z
  have hl:(cR kvs k v).length<=aj:=by have:=jf kvs k v;omega
  refine wpAny_setItem_heap (hsz:=hz) (fE hu) (tZ I.hok I.kIn (da.c 8 e8 eb) e8) dd fun h' dd' hs=>h _ ?_;obtain⟨q,es,ep,hq,h2,h3,h4,_,h5⟩:=dd';refine pj I (by rw[e];exact i8) hs ⟨q,hq⟩ ⟨hl,hd,_,(rel.put k (da.c 8 e8 eb) e8 rv).keeps fun c ys ec=>?_,q,es,ep,hq,h2,h3,h4,h5⟩;rw[ag (CO ec e (fun z=>nomatch z))];exact ec
theorem BC{b:Addr}{kvs:List (TK×V)}{k:TK}{Q:Unit->Shared->Prop}(hu:A.units+16<cLine)(I:Inv X J3 σ H s)(e:H a=some (.dT kvs))(eb:nV X.K H k (.ref b))(e8:k.depth<=8)(l:kvs.length<aj)(ry:RelV (.ref b) u)(rv:RelV v r)(h:∀s',Inv X J3 σ (upd H a (.dT (cR kvs k v))) s'->Q () s'):
  wpAny (model X.prog X.w) A (setItem (.ref a) u r) Q E s:=by
 cases(show u=Value.ref b from ry);obtain⟨z,hd,xs,rel,dd⟩:=C0 I.hok I.kIn e;have hz:xs.length<=aj:=by rw[<-Paired.length rel];exact z
 have hl:(cR kvs k v).length<=aj:=by have:=jf kvs k v;omega
 refine wpAny_setItem_heap (hsz:=hz) (fE hu) (tZ I.hok I.kIn (eb) e8) dd fun h' dd' hs=>h _ ?_;obtain⟨q,es,ep,hq,h2,h3,h4,_,h5⟩:=dd';refine pj I (by rw[e];exact i8) hs ⟨q,hq⟩ ⟨hl,hd,_,(rel.put k (eb) e8 rv).keeps fun c ys ec=>?_,q,es,ep,hq,h2,h3,h4,h5⟩;rw[ag (CO ec e (fun z=>nomatch z))];exact ec
end
def Et(i:Expr):Prop:=∀ov iv,wT i false ov iv=operate [ov,iv] (nC ov iv)
theorem GV{prog:ck}{w:World}{A:Around}{E:Zc}{s:Shared}{env:Env}{value slice:Expr}{pos:Pos}{T id:String}{Q:Zc}
  (hl:typeLookup (.type T) "__getitem__"=pure (some (.builtin id))) (hs:Et slice)
  (h:wpAny (model prog w) A (eval value env) (fun o s₁=>wpAny (model prog w) A (eval slice env) (fun i s₂=>s₂.TypeIs o T/\wpAny (model prog w) A (nC o i) Q E s₂) E s₁) E s) :
  wpAny (model prog w) A (eval (.Subscript value slice pos) env) Q E s:=by
 refine Subscript_ (jC h (fun o s₁ h₁=>jC h₁ (fun i s₂ h₂=>?_) fun _ _ x=>x) fun _ _ x=>x);obtain⟨hT,h₂⟩:=h₂;unfold subscriptTail;refine ak ?_;rw[getitemInPython_of_ne hT.not_modules];refine ak (GJ hT hl ?_);have fin:wpAny (model prog w) A (wT slice false o i) (fun r s₃=>wpAny (model prog w) A (letTemporaryGo value o r >>= fun _=>pure r) Q E s₃) E s₂:=by
  rw[hs o i];exact wpAny_operating (jC h₂ (fun r s₃ h₃=>ak (wpAny_letTemporaryGo (aH h₃))) fun _ _ x=>x)
 first
  |exact aH (ak fin)
  |exact ak (aH (ak fin))
  |exact ak fin
theorem Aa{X:Cx}{J3:Zd}{σ:St}{H:Hp}{s:Shared}{a:Addr}{y:V}{o:Option V}(I:Inv X J3 σ H s)(g:kB X.K H a y o):s.TypeIs (.ref a) "dict":=by
 rcases g with⟨kvs,k,e,_,_⟩|⟨kvs,k,b,e,_,_,_⟩
 ·obtain⟨_,_,vs,_,dd⟩:=pi I.hok e;exact dd.typeIs
 ·obtain⟨_,_,xs,_,dd⟩:=rm I.hok I.kIn e;exact dd.typeIs
def ik(K:Za)(td ty:TE):TE:=fun σ H Q=>td σ H fun x H1=>ty σ H1 fun y H2=>∃a v,x=.ref a/\kB K H2 a y (some v)/\Q v H2
def AQ(K:Za)(ty td:TE):TE:=fun σ H Q=>ty σ H fun y H1=>td σ H1 fun x H2=>∃a o,x=.ref a/\kB K H2 a y o/\Q (.bl o.isSome) H2
def fQ(K:Za)(ty td:TE):TE:=fun σ H Q=>ty σ H fun y H1=>td σ H1 fun x H2=>∃a o,x=.ref a/\kB K H2 a y o/\Q (.bl (!o.isSome)) H2
def mY(td ty tv:TE):TS:=fun D σ H=>tv σ H fun v H1=>td σ H1 fun x H2=>ty σ H2 fun y H3=>∃a H4,x=.ref a/\JE H3 a y v H4/\D.nx σ H4
section
variable{X:Cx}{o i e value:Expr}{pos pos' J7:Pos}{td ty tv:TE}
theorem fk(hu:X.A.units+16<cLine)(ho:PE X o td)(hi:PE X i ty)(hs:Et i):PE X (.Subscript o i pos) (ik X.K td ty):=by
 intro J3 s σ H Q I h;refine GV PySem.F.slot_dict_getitem.lookup hs (cD (ho J3 s σ H _ I h) fun u s1 ⟨x,H1,I1,rx,q1⟩=>cD (hi J3 s1 σ H1 _ I1 q1) fun iv s2 ⟨y,H2,I2,ry,a,v,ex,g,q2⟩=>?_);subst ex;obtain rfl:u=Value.ref a:=rx;exact⟨Aa I2 g,Eh hu I2 g ry fun w' s3 I3 rw'=>⟨v,H2,I3,rw',q2⟩⟩
theorem qk(hu:X.A.units+16<cLine)(hi:PE X i ty)(ho:PE X o td):PC X .In i o (AQ X.K ty td):=by
 intro J3 s σ H Q I h;refine cD (hi J3 s σ H _ I h) fun iv s1 ⟨y,H1,I1,ry,q1⟩=>cD (ho J3 s1 σ H1 _ I1 q1) fun u s2 ⟨x,H2,I2,rx,a,ov,ex,g,q2⟩=>?_;subst ex;obtain rfl:u=Value.ref a:=rx;exact d_in hu I2 g ry fun s3 I3=>⟨.bl ov.isSome,H2,I3,rfl,q2⟩
theorem fG(hu:X.A.units+16<cLine)(hi:PE X i ty)(ho:PE X o td):PC X .NotIn i o (fQ X.K ty td):=by
 intro J3 s σ H Q I h;refine cD (hi J3 s σ H _ I h) fun iv s1 ⟨y,H1,I1,ry,q1⟩=>cD (ho J3 s1 σ H1 _ I1 q1) fun u s2 ⟨x,H2,I2,rx,a,ov,ex,g,q2⟩=>?_;subst ex;obtain rfl:u=Value.ref a:=rx;exact HB hu I2 g ry fun s3 I3=>⟨.bl (!ov.isSome),H2,I3,rfl,q2⟩
theorem iy(hu:X.A.units+16<cLine)(ho:PE X o td)(hi:PE X i ty)(hv:PE X value tv)(hs:qQ value (some (.Subscript o i pos')) pos.line X.env=pure false):
  PS X (.Assign [.Subscript o i pos'] value pos) (mY td ty tv):=by
 intro J3 s σ H D I h;refine wpAny_Assign_Subscript (cD (hv J3 s σ H _ I h) fun r s1 ⟨v,H1,I1,rv,q1⟩=>cD (ho J3 s1 σ H1 _ I1 q1) fun u s2 ⟨x,H2,I2,rx,q2⟩=>cD (hi J3 s2 σ H2 _ I2 q2) fun iv s3 ⟨y,H3,I3,ry,a,H4,ex,g,q3⟩=>?_) hs;subst ex;obtain rfl:u=Value.ref a:=rx;exact Eg hu I3 g ry rv fun s4 I4=>⟨σ,H4,I4,q3⟩
end
theorem Gi{P:ck}{w:World}{K:Za}{H:Hp}(h:Heap)(hb:gG<h.objs.size):bW P w K H (h.push { cls:=.type "dict",data:=.dict #[] }) h.objs.size (.dK []) :=
 ⟨df _,beq_eq_false_iff_ne.mpr (dA (c6 hb)),[],.nil,Heap.DictOf.new h⟩
theorem z_{P:ck}{w:World}{K:Za}{H:Hp}(h:Heap)(hb:gG<h.objs.size):bW P w K H (h.push { cls:=.type "dict",data:=.dict #[] }) h.objs.size (.dT []) :=
 ⟨df _,beq_eq_false_iff_ne.mpr (dA (c6 hb)),[],.nil,_,#[],0,cK _ rfl,⟨rfl,rfl,rfl⟩,rfl,rfl,pV⟩
def p9:TE:=fun _ H Q=>∀p,H p=none->Q (.ref p) (upd H p (.dK []))
def p8:TE:=fun _ H Q=>∀p,H p=none->Q (.ref p) (upd H p (.dT []))
section
variable{X:Cx}{pos:Pos}
theorem lL:PE X (.Dict [] [] pos) p9:=fun J3 s σ H Q I h =>
 wpAny_Dict_empty ⟨.ref s.heap.objs.size,_,I.laid (a:=s.heap.objs.size) (o:=.dK []) (t':=s.toks) (fun _ _ q=>bj _ q) (aG _) (Gi s.heap I.big),rfl,h _ (I.hok.fresh (aG _))⟩
theorem lK:PE X (.Dict [] [] pos) p8:=fun J3 s σ H Q I h =>
 wpAny_Dict_empty ⟨.ref s.heap.objs.size,_,I.laid (a:=s.heap.objs.size) (o:=.dT []) (t':=s.toks) (fun _ _ q=>bj _ q) (aG _) (z_ s.heap I.big),rfl,h _ (I.hok.fresh (aG _))⟩
end
def jr(kvs more:List (eS×V)):List (eS×V):=more.foldl (fun acc kv=>cR acc kv.1 kv.2) kvs
theorem KV.merge:∀{more:List (eS×V)}{rs:List (eS×Value)}{kvs:List (eS×V)}{vs:List (eS×Value)},KV more rs->KV kvs vs->KV (jr kvs more) (merged vs rs):=by
 intro more rs kvs vs r;unfold KV at r
 induction r generalizing kvs vs with
 |nil=>intro q;exact q
 |@cons p q ps qs h t ih =>
  intro r0;have e:KV (cR kvs p.1 p.2) (stored vs q.1 q.2):=by
   have:=r0.put p.1 h.2;rw[<-h.1];exact this
  exact ih e
theorem mZ:∀(more kvs:List (eS×V)),(jr kvs more).length<=kvs.length+more.length
 |[],kvs=>by show kvs.length<=kvs.length+0;omega
 |p::r,kvs=>by
  have h1:=mZ r (cR kvs p.1 p.2);have h2:=jf kvs p.1 p.2;show(jr (cR kvs p.1 p.2) r).length<=_;rw[cZ];omega
structure M1(X:Cx)(o:Expr)(m:Str)(J5:Pos)(e:Expr)(J4:Pos):Prop where
 base:sj o m X.env (eval o X.env)=eval o X.env
 few:((backTo J4 (aL [e] X.env)).all (fun x=>!x.1) && (oy J4 (ox [] X.env)).all (fun x=>x.1.isSome)
  && decide (([e]:List Expr).length+([]:List pW).length+(if([]:List pW).isEmpty then 0 else 1)<30))=true
 line:(J5.endLine==J4.line)=true
 trees:backTo J4 (aL [e] X.env)=[(false,eval e X.env)]
structure M2(X:Cx)(o:Expr)(m:Str)(J5:Pos)(e f:Expr)(J4:Pos):Prop where
 base:sj o m X.env (eval o X.env)=eval o X.env
 few:((backTo J4 (aL [e,f] X.env)).all (fun x=>!x.1) && (oy J4 (ox [] X.env)).all (fun x=>x.1.isSome)
  && decide (([e,f]:List Expr).length+([]:List pW).length+(if([]:List pW).isEmpty then 0 else 1)<30))=true
 line:(J5.endLine==J4.line)=true
 trees:backTo J4 (aL [e,f] X.env)=[(false,eval e X.env),(false,eval f X.env)]
def JV(H:Hp)(a:Addr):Prop:=(∃kvs,Rd H a (.dK kvs))∨∃kvs,Rd H a (.dT kvs)
theorem FS{X:Cx}{J3:Zd}{σ:St}{H:Hp}{s:Shared}{a:Addr}(I:Inv X J3 σ H s)(d:JV H a):
  s.TypeIs (.ref a) "dict"/\(∀b,Value.ref a=.ref b->∃ob,s.heap.get? b=some ob/\ob.dict=none)/\(a==gG)=false:=by
 rcases d with⟨kvs,e⟩|⟨kvs,e⟩
 ·obtain⟨_,hd,vs,_,dd⟩:=pi I.hok e;refine⟨dd.typeIs,fun b q=>?_,hd⟩;cases q;obtain⟨ob,_,_,h1,h2,_⟩:=dd;exact⟨ob,h1,h2.2.1⟩
 ·obtain⟨_,hd,xs,_,dd⟩:=rm I.hok I.kIn e;refine⟨dd.typeIs,fun b q=>?_,hd⟩;cases q;obtain⟨ob,_,_,h1,h2,_⟩:=dd;exact⟨ob,h1,h2.2.1⟩
section
variable{X:Cx}{J3:Zd}{σ:St}{H:Hp}{s:Shared}{a:Addr}{y d:V}{u r:Value}{o:Option V}{A:Around}{E:Zc}
theorem IQ{Q:Zc}(hu:A.units+16<cLine)(I:Inv X J3 σ H s)(g:kB X.K H a y o)(ry:RelV y u)(h:∀w' s',Inv X J3 σ H s'->RelV (o.getD .non) w'->Q w' s'):
  wpAny (model X.prog X.w) A (call (.builtin "dict.get") [.ref a,u]) Q E s:=by
 rcases g with⟨kvs,k,e,ey,l⟩|⟨kvs,k,b,e,ey,eb,e8,l⟩
 ·subst ey;obtain⟨z,hd,vs,rel,dd⟩:=pi I.hok e;refine sL pU dd.typeIs wO (PySem.F.args_dict_get_2 _ _) (meets_dict_get (bS X.prog X.w) a (jT ry) hd) ⟨_,dd.mapOf,h _ _ (I.tok _) ?_⟩;rw[l];exact(rel.val k).getD rfl
 ·subst ey;cases(show u=Value.ref b from ry);obtain⟨z,hd,xs,rel,dd⟩:=rm I.hok I.kIn e;refine sL pU dd.typeIs wO (PySem.F.args_dict_get_2 _ _) (meetsH_dict_get (dU X.prog X.w) a b hd) ⟨fE hu,k,xs,t4 I eb e8,dd,h _ _ (I.tok _) ?_⟩;rw[l];exact(rel.val k).getD rfl
theorem IP{Q:Zc}(hu:A.units+16<cLine)(I:Inv X J3 σ H s)(g:kB X.K H a y o)(ry:RelV y u)(rd:RelV d r)(h:∀w' s',Inv X J3 σ H s'->RelV (o.getD d) w'->Q w' s'):
  wpAny (model X.prog X.w) A (call (.builtin "dict.get") [.ref a,u,r]) Q E s:=by
 rcases g with⟨kvs,k,e,ey,l⟩|⟨kvs,k,b,e,ey,eb,e8,l⟩
 ·subst ey;obtain⟨z,hd,vs,rel,dd⟩:=pi I.hok e;refine sL pU dd.typeIs wO (PySem.F.args_dict_get_3 _ _ _) (meets_dict_get_default (bS X.prog X.w) a (jT ry) hd r) ⟨_,dd.mapOf,h _ _ (I.tok _) ?_⟩;rw[l];exact(rel.val k).getD rd
 ·subst ey;cases(show u=Value.ref b from ry);obtain⟨z,hd,xs,rel,dd⟩:=rm I.hok I.kIn e;refine sL pU dd.typeIs wO (PySem.F.args_dict_get_3 _ _ _) (meetsH_dict_get_default (dU X.prog X.w) a b hd r) ⟨fE hu,k,xs,t4 I eb e8,dd,h _ _ (I.tok _) ?_⟩;rw[l];exact(rel.val k).getD rd
end
def xo(K:Za)(td ty:TE):TE:=fun σ H Q=>td σ H fun x H1=>∃a,x=.ref a/\JV H1 a/\ty σ H1 fun y H2=>∃o,kB K H2 a y o/\Q (o.getD .non) H2
def tw(K:Za)(td ty tx:TE):TE:=fun σ H Q=>td σ H fun x H1=>∃a,x=.ref a/\JV H1 a/\ty σ H1 fun y H2=>tx σ H2 fun z H3=>∃o,kB K H3 a y o/\Q (o.getD z) H3
section
variable{X:Cx}{o e f:Expr}{J5 J4:Pos}{td ty tx:TE}
theorem zB(hu:X.A.units+16<cLine)(ho:PE X o td)(he:PE X e ty)(m:M1 X o "get" J5 e J4):PE X (.Call (.Attribute o "get" J5) [e] [] J4) (xo X.K td ty):=by
 intro J3 s σ H Q I h;refine wpAny_Call_method m.base m.few m.line PySem.F.plainAttrs_dict pU PySem.F.type_dict_get (cD (ho J3 s σ H _ I h) fun u s1 ⟨x,H1,I1,rx,a,ex,d,q1⟩=>?_);subst ex;obtain rfl:u=Value.ref a:=rx;obtain⟨t1,t2,_⟩:=FS I1 d;refine⟨t1,t2,?_⟩;rw[m.trees];refine sO rfl (Calls.evalArgs_plain (Cb (cD (he J3 s1 σ H1 _ I1 q1) fun iv s2 ⟨y,H2,I2,ry,ov,g,q2⟩=>Calls.spliced_nil ?_)));exact IQ hu I2 g ry fun w' s3 I3 rw'=>⟨_,H2,I3,rw',q2⟩
theorem o6(hu:X.A.units+16<cLine)(ho:PE X o td)(he:PE X e ty)(hf:PE X f tx)(m:M2 X o "get" J5 e f J4):PE X (.Call (.Attribute o "get" J5) [e,f] [] J4) (tw X.K td ty tx):=by
 intro J3 s σ H Q I h;refine wpAny_Call_method m.base m.few m.line PySem.F.plainAttrs_dict pU PySem.F.type_dict_get (cD (ho J3 s σ H _ I h) fun u s1 ⟨x,H1,I1,rx,a,ex,d,q1⟩=>?_);subst ex;obtain rfl:u=Value.ref a:=rx;obtain⟨t1,t2,_⟩:=FS I1 d;refine⟨t1,t2,?_⟩;rw[m.trees];refine sO rfl (Calls.evalArgs_plain (Cb (cD (he J3 s1 σ H1 _ I1 q1) fun iv s2 ⟨y,H2,I2,ry,q2⟩ =>
  Cb (cD (hf J3 s2 σ H2 _ I2 q2) fun fv s3 ⟨z,H3,I3,rz,ov,g,q3⟩=>Calls.spliced_nil ?_))))
 exact IP hu I3 g ry rz fun w' s4 I4 rw'=>⟨_,H3,I4,rw',q3⟩
end
end L2
namespace Att
open PySem PySem.W PySem.Calls PyProof.Rows
theorem ints_of_wellAll{P:Params}{h:Heap}:∀(ns:List Int) (vs:Zf),WellAll P h vs (ns.map WData.int)->fO vs ns:=by
 intro ns
 induction ns with
 |nil =>
  intro vs w;rw[sQ]at w;cases w;exact .nil
 |cons n ns ih =>
  intro vs w;rw[bb]at w;cases w with
  |cons a b =>
   cases a;exact .cons _ _ (ih _ b)
theorem script_of{l:OpenLaw}{n:Nat}(hn:l.most=some n){P:Params}{h:Heap}{args:List WData}{vals:Zf}
  (hpre:l.row.toRowW.claim.pre args=true) (hwl:WellAll P h vals args) :
  ∃a vs ns,vals=[Value.ref a]/\args=[WData.list (ns.map WData.int)]/\h.get? a=some { cls:=.type "list",data:=.seq vs.toArray }/\fO vs ns/\ns.length<=n:=by
 have hsh:WShape.hasAll [] args [.list .int]=true:=(pre_splitW hpre).1;have hc:l.pre.holds [] { args:=args }=true:=(pre_splitW hpre).2;obtain⟨d,r,rfl,h1,h2⟩:=hasAllW_cons hsh;obtain rfl:=hasAllW_nil h2;obtain⟨xs,rfl,h3⟩:=hasW_list h1;obtain⟨ns,rfl⟩:=items_int h3;have hlen:ns.length<=n:=by
  unfold OpenLaw.pre at hc;have h4:(WTm.not (.lt (.lit (.int (n:Int))) (.len (.arg 0)))).holds [] { args:=[.list (ns.map .int)] }=true:=by
   have h4:=(holds_andW hc).1;rw[hn]at h4;exact h4
  have h5:=condW_of h4 (w_not (w_lt w_lit (w_len_list (w_arg rfl))));rw[ai]at h5;refine Nat.le_of_not_lt fun q=>?_;have q':(n:Int)<((ns.length:Nat):Int):=by omega
  first
   | (rw[zzr1 q']at h5;exact absurd h5 (by decide))
   | (simp at h5;omega)
 cases hwl with
 |cons w1 w2 =>
  cases w2;cases w1 with
  |list ho hall=>exact⟨_,_,ns,rfl,rfl,ho,ints_of_wellAll ns _ hall,hlen⟩
theorem post_true(l:OpenLaw)(args:List WData):l.row.toRowW.claim.post args (.bool true) args=true :=
 postW_of (r:=l.row.toRowW) (X:=(true==true))
  (show WShape.has [] (.bool true) .bool=true by first|rfl|decide|simp[WShape.has,WShape.arms,WShape.armsAll])
  (show(WTm.eq .res (.lit (.bool true))).value [] { args:=args,res:=some (.bool true),after:=args }=some (.bool (true==true))from w_eq_bool (w_res rfl) w_lit) rfl
theorem attach_call{l:OpenLaw}{n:Nat}{q:ck}{loose:Zb}{XP:(Str->Option Value)->Heap->Prop}{YP:World->Heap->Prop}{d:DefRec}
  (hn:l.most=some n) (hdf:d.params.defaults=[])
  (call:∀(w:World) (s₀ s₁:Shared) (mg mb:Str->Option Value) (fa:Addr) (o:Obj) (pm cd doc:Value) (a:Addr) (vs:Zf) (ns:List Int),
   Ground q loose [] XP w s₀ mg mb s₁.heap->YP w s₁.heap ->
   s₁.heap.get? fa=some o->o.data=.func (docDef d.name d.params d.body d.scope pm cd doc)->s₁.heap.CodeRec cd d.name->mg d.name=some (.ref fa) ->
   s₁.heap.get? a=some { cls:=.type "list",data:=.seq vs.toArray }->fO vs ns->ns.length<=n->s₁.gens=#[] ->
   zzl77 (model l.prog w) lp (.call (.ref fa) ⟨[.ref a],[]⟩) (fun r s'=>r=.ok (.ret (.bool true))/\OldK s₁.heap s'.heap/\s'.os=s₁.os/\oB s'.gens) s₁) :
  WalkO q loose XP YP l.row.toRowW d [] (fun f vs=>PySem.call f vs):=by
 intro w s₀ s₁ mg mb G Y fa o pm cd doc dV kV ho hd hcd hD hmg hg args vals as hpre hlay hrd hwl hlo;obtain rfl:dV=.none:=Dflts.none hD hdf;obtain rfl:kV=.none:=Dflts.noKw hD;obtain⟨a,vs,ns,rfl,rfl,hobj,hints,hlen⟩:=script_of hn hpre hwl;refine enter_call (Ca (call w s₀ s₁ mg mb fa o pm cd doc a vs ns G Y ho (fd_plain hd) hcd hmg hobj hints hlen hg) fun r s' hq=>?_);obtain⟨rfl,h2,h3,h4⟩:=hq;exact⟨.inl ⟨.bool true,.bool true,[],rfl,fun _=>rfl,.bool true,post_true l _,fun _=>⟨List.Pairwise.nil,fun _ hm=>(nomatch hm)⟩⟩,h2,h3,h4⟩
end Att
namespace L2
open PySem PySem.Spec PyProof.Rows
theorem vk:∀{vs:Zf}{ns:List Int},fO vs ns->aZ (ns.map V.int) vs
 |_,_,.nil=>.nil
 |_,_,.cons n t h=>.cons ⟨t,rfl⟩ (vk h)
def HM(H:Hp):Prop:=∀b,H b=none∨∃o xs,H b=some (.frz o (.lst xs))
theorem FM{P:ck}{w:World}{K:Za}{mg mb:Str->Option Value}{CX:ED}{k:Nat}{fa a:Addr}{fd:kK}{x:Str}{sp:Sp}{s₁:Shared}{vs:Zf}{ns:List Int}
  (KX:K.In s₁.heap) (hns:s₁.heap.Ns bV mg) (hb:s₁.heap.Ns builtinsNs mb) (hbb:∀x:Str,x≠"__name__"->mb x=i9 x) (hlim:s₁.heap.NoLimit) (hg:s₁.gens=#[])
  (ha:s₁.heap.get? a=some { cls:=.type "list",data:=.seq vs.toArray }) (hi:fO vs ns) (hl:ns.length<=aj) (hr:eV k lp)
  (F:∀base:Heap,K.In base->base.Ns bV mg->l9 P w K mg base CX k fa fd [x] sp) (hbind:∀(s:Shared) (u:Value),si s fd ⟨[u],[]⟩ [(x,u)])
  (hsp:∀H:Hp,HM H->aA K H a (ns.map V.int)->sp [.ref a] H (fun v _=>v=.bl true) fun _ _ _=>False)
  (hCX:∀H e s',CX [] H s₁ (fun _ _ _=>False) e s'->False) :
  zzl77 (model P w) lp (.call (.ref fa) ⟨[.ref a],[]⟩) (fun r s'=>r=.ok (.ret (.bool true))/\OldK s₁.heap s'.heap/\s'.os=s₁.os/\oB s'.gens) s₁:=by
 have rv:=vk hi;have lenV:=hi.length;have core:∀H:Hp,HM H->aA K H a (ns.map V.int)->mF P w K H s₁.heap->(∀b,H b≠none->b=a)->(H a≠none->K.lookup a=none) ->
   zzl77 (model P w) lp (.call (.ref fa) ⟨[.ref a],[]⟩) (fun r s'=>r=.ok (.ret (.bool true))/\OldK s₁.heap s'.heap/\s'.os=s₁.os/\oB s'.gens) s₁:=by
  intro H hO hS hok hA hK;have base_of:∀{b:Addr}{o:Obj},s₁.heap.get? b=some o->H b=none->(xV s₁.heap H).get? b=some o:=fun e n=>FX e n;have noA:∀{b:Addr}{o:Obj}{es:Array pT}{ep:Nat},s₁.heap.get? b=some o->o.data=.dict es ep->H b=none:=fun{b o es ep} e d=>by
   cases q:H b with
   |none=>rfl
   |some u =>
    have e':b=a:=hA b (by rw[q];simp);subst e';rw[ha]at e;cases e;have d':Data.seq vs.toArray _=Data.dict es ep:=d;cases d'
  have nsK:∀{b:Addr}{m:Str->Option Value},s₁.heap.Ns b m->(xV s₁.heap H).Ns b m:=fun{b m} ⟨o,es,ep,e,d,r⟩=>⟨o,es,ep,base_of e (noA e d),d,r⟩;have hKb:K.In (xV s₁.heap H):=fun b o e=>base_of (KX b o e) (by
   cases q:H b with
   |none=>rfl
   |some u =>
    have e':b=a:=hA b (by rw[q];simp);subst e';rw[hK (by rw[q];simp)]at e;cases e)
  have hM:Mod K mg (xV s₁.heap H):=⟨hKb,nsK hns,⟨mb,nsK hb,hbb⟩,let⟨mc,h1,h2⟩:=hlim;⟨mc,nsK h1,h2⟩⟩;have e0:BY P w K mg (xV s₁.heap H) lp [] s₁ H:=⟨rfl,hM,fun b o e=>Hm e,Nat.le_of_eq (D_ _ _),trivial,fun b hb=>absurd (show b∈([]:Ze)from hb) (by simp),hok,.of_eq hg⟩;refine Ca ((F _ hKb (nsK hns)).run lp [] s₁ H ⟨[.ref a],[]⟩ [.ref a] [.ref a] _ _ hr e0 (hbind s₁ (.ref a)) (.cons rfl .nil) (hsp H hO hS)) fun r s' h=>?_;cases r with
  |error e=>exact(hCX H e s' h).elim
  |ok fl =>
   cases fl with
   |next=>exact jB h
   |brk=>exact jB h
   |cont=>exact jB h
   |ret u =>
    obtain⟨v,H',os,bare,un,hok',r',q⟩:=h;have q':v=.bl true:=q;subst q';obtain rfl:u=Value.bool true:=r';refine⟨rfl,OldK.of_keep fun b o e=>?_,os,bare⟩;cases q:H b with
    |none=>exact un.keep b o e q (by intro z;exact absurd (show b∈([]:Ze)from z) (by simp)) (by simp)
    |some u =>
     rcases hO b with z|⟨ob,xs,z⟩
     ·rw[q]at z;cases z
     ·have z2:=un.frzs b ob _ z;obtain⟨e1,_⟩:=hok b _ z;obtain⟨e2,_⟩:=hok' b _ z2;rw[e]at e1;cases e1;exact e2
 cases hk:K.lookup a with
 |some o =>
  have e:=KX a o hk;rw[ha]at e;cases e;refine core (fun _=>none) (fun _=>.inl rfl) (.inr ⟨_,vs.toArray,_,hk,rfl,rfl,rfl,by rw[bC,lenV];exact hl,by simpa using rv⟩) (fun b u z=>by have z':(none:Option HO)=some u:=z;cases z') (fun b z=>absurd rfl z) fun z=>absurd rfl z
 |none =>
  refine core (fun b=>if b=a then some (.frz { cls:=.type "list",data:=.seq vs.toArray } (.lst (ns.map V.int)))else none) (fun b=>?_) (.inl (.inr ⟨{ cls:=.type "list",data:=.seq vs.toArray },if_pos rfl⟩)) (fun b u z=>?_) (fun b z=>?_) fun _=>hk
  ·by_cases hb:b=a
   ·exact .inr ⟨_,_,if_pos hb⟩
   ·exact .inl (if_neg hb)
  ·by_cases hb:b=a
   ·have z':=(if_pos hb).symm.trans z;cases z';subst hb;exact⟨ha,by rw[ai];exact hl,vs,_,rv,ha⟩
   ·have z':=(if_neg hb).symm.trans z;cases z'
  ·by_cases hb:b=a
   ·exact hb
   ·exact absurd (if_neg hb) z
end L2
namespace L2
open PySem PySem.Spec PyProof.Rows
theorem GL{l:PySem.W.OpenLaw}{n k:Nat}{q:ck}{loose:Zb}{XP:(Str->Option Value)->Heap->Prop}{YP:World->Heap->Prop}{d:DefRec}{K:Params->Za}{CX:World->ED}{sp:World->Sp}{x:Str}
  (hn:l.most=some n) (hn2:n<=aj) (hdf:d.params.defaults=[]) (hr:eV k lp)
  (hY:∀(w:World) (h:Heap),YP w h->(K w.params).In h)
  (F:∀(w:World) (mg:Str->Option Value) (fa:Addr) (h:Heap),(K w.params).In h->h.Ns bV mg->mg d.name=some (.ref fa) ->
   ∃fd:kK,(∀(s:Shared) (u:Value),si s fd ⟨[u],[]⟩ [(x,u)]) /\
    ∀base:Heap,(K w.params).In base->base.Ns bV mg->l9 l.prog w (K w.params) mg base (CX w) k fa fd [x] (sp w))
  (hsp:∀(w:World) (H:Hp) (a:Addr) (ns:List Int),ns.length<=n->HM H->aA (K w.params) H a (ns.map V.int)->sp w [.ref a] H (fun v _=>v=.bl true) fun _ _ _=>False)
  (hCX:∀(w:World) (H:Hp) (s:Shared) (e:Value) (s':Shared),CX w [] H s (fun _ _ _=>False) e s'->False) :
  PySem.W.WalkO q loose XP YP l.row.toRowW d [] (fun f vs=>PySem.call f vs):=by
 refine Att.attach_call hn hdf fun w s₀ s₁ mg mb fa o pm cd doc a vs ns G Y ho hd hcd hmg hobj hints hlen hg=>?_;have KX:=hY w _ Y;obtain⟨fd,hb,hF⟩:=F w mg fa _ KX G.T.g hmg;exact FM KX G.T.g G.T.b G.T.builtins G.T.nolimit hg hobj hints (bL hlen hn2) hr hF hb (fun H hO hS=>hsp w H a ns hlen hO hS) fun H e s'=>hCX w H s₁ e s'
theorem walk_ofK{l:PySem.W.OpenLaw}{n k:Nat}{q:ck}{loose:Zb}{XP:(Str->Option Value)->Heap->Prop}{YP:World->Heap->Prop}{d:DefRec}{K:Params->Za}{CX:ED}{sp:Za->Sp}{x:Str}
  (hn:l.most=some n) (hn2:n<=aj) (hdf:d.params.defaults=[]) (hr:eV k lp)
  (hY:∀(w:World) (h:Heap),YP w h->(K w.params).In h)
  (F:∀(w:World) (mg:Str->Option Value) (fa:Addr) (h:Heap),(K w.params).In h->h.Ns bV mg->mg d.name=some (.ref fa) ->
   ∃fd:kK,(∀(s:Shared) (u:Value),si s fd ⟨[u],[]⟩ [(x,u)]) /\
    ∀base:Heap,(K w.params).In base->base.Ns bV mg->l9 l.prog w (K w.params) mg base CX k fa fd [x] (sp (K w.params)))
  (hsp:∀(K:Za) (H:Hp) (a:Addr) (ns:List Int),ns.length<=n->HM H->aA K H a (ns.map V.int)->sp K [.ref a] H (fun v _=>v=.bl true) fun _ _ _=>False)
  (hCX:∀(H:Hp) (s:Shared) (e:Value) (s':Shared),CX [] H s (fun _ _ _=>False) e s'->False) :
  PySem.W.WalkO q loose XP YP l.row.toRowW d [] (fun f vs=>PySem.call f vs) :=
 GL (K:=K) (CX:=fun _=>CX) (sp:=fun w=>sp (K w.params)) hn hn2 hdf hr hY F (fun w H a ns h1 h2 h3=>hsp (K w.params) H a ns h1 h2 h3) fun _ H s e s'=>hCX H s e s'
end L2
namespace L2
open PySem PySem.Spec PyProof.Rows
def fX(s:Stmt)(j:Nat):Stmt:=match s with
 |.ClassDef _ _ _ body _ _ _ _ _ _ _=>body.getD j (.Pass ⟨0,0,0,0⟩)
 |_=>.Pass ⟨0,0,0,0⟩
def iA(s:Stmt):Arguments:=match s with
 |.FunctionDef _ a _ _ _ _ _ _ _ _=>a
 |_=>{ posonlyargs:=[],args:=[],vararg:=none,kwonlyargs:=[],kw_defaults:=[],kwarg:=none,defaults:=[] }
def gf(s:Stmt):List Stmt:=match s with
 |.FunctionDef _ _ b _ _ _ _ _ _ _=>b
 |_=>[]
def bY(s:Stmt):Scope:=match s with
 |.FunctionDef _ _ _ _ _ _ sc _ _ _=>sc
 |_=>{ kind:=.function,names:=[],isGenerator:=false,isCoroutine:=false }
abbrev CX0:ED:=fun _ _ _ _ _ _=>False
abbrev E0:XK:=fun _ _ _=>False
abbrev aS(sp:Sp)(a:TA):TE:=HX sp [] E0 a
theorem CH{X:Cx}:nX CX0 X E0:=fun _ _ _ _ _ _ _ h=>h.elim
structure Ja(K:Za)(x qual:Str)(st:Stmt)(f:Addr)(fd:kK):Prop where
 ex:∃(oc:Value) (od:Option Addr) (kV doc pm:Value) (an:Option Addr) (cdv ct:Value) (osl:Array (Option Value)),
  fd=iP x qual (iA st) (gf st) (bY st) .none kV doc pm an cdv ct/\K.lookup f=some ⟨oc,od,.func fd,osl⟩/\nD K cdv qual=true
 kp:iK K (.ref f)=true
section
variable{P:ck}{w:World}{K:Za}{mg:Str->Option Value}{base:Heap}
theorem Ja.ok{x qual:Str}{st:Stmt}{f:Addr}{fd:kK}{N ps:Zb}{k:Nat}{sp:Sp}(F:Ja K x qual st f fd)(S:kA N ps (bY st))(len:∀vs H Q E,sp vs H Q E->vs.length=ps.length)
  (hbody:∀(cdv:Value) (A:Around) (outer:List Env) (s:Shared) (H:Hp) (vs:List V) (Q:VK) (E:XK),eV k (A.deeper (envOfC qual (bY st) s.heap.objs.size f cdv))->sp vs H Q E ->
   ∃t,At (BD CX0 P w K mg base N qual (bY st) f cdv A outer s H E).nox (gf st) t/\t (bH Q) (start N vs) H):l9 P w K mg base CX0 (k+1) f fd ps sp:=by
 obtain⟨oc,od,kV,doc,pm,an,cdv,ct,osl,rfl,lk,hcd⟩:=F.ex;refine Jp lk hcd S len fun A outer s H vs Q E hr hsp=>?_;obtain⟨t,h,q⟩:=hbody cdv A outer s H vs Q E hr hsp;exact⟨t,h.nox,q⟩
theorem Ja.binds{x qual:Str}{st:Stmt}{f:Addr}{fd:kK}{ps:Zb}(F:Ja K x qual st f fd)
  (h:∀(kV doc pm:Value) (an:Option Addr) (cdv ct:Value) (us:Zf),us.length=ps.length->bindArgs (iP x qual (iA st) (gf st) (bY st) .none kV doc pm an cdv ct) ⟨us,[]⟩=pure (ps.zip us)):Binds K fd ps []:=by
 obtain⟨oc,od,kV,doc,pm,an,cdv,ct,osl,rfl,lk,hcd⟩:=F.ex;exact .all (h kV doc pm an cdv ct)
theorem Ga{x qual:Str}{st:Stmt}{f:Addr}{oc:Value}{od an:Option Addr}{osl:Array (Option Value)}{kV doc pm cdv ct:Value}(l:K.lookup f=some ⟨oc,od,.func (iP x qual (iA st) (gf st) (bY st) .none kV doc pm an cdv ct),osl⟩)
  (c:nD K cdv qual=true) (k:iK K (.ref f)=true):Ja K x qual st f (iP x qual (iA st) (gf st) (bY st) .none kV doc pm an cdv ct):=⟨⟨oc,od,kV,doc,pm,an,cdv,ct,osl,rfl,l,c⟩,k⟩
end
theorem CW{A:Around}{k:Nat}(hr:eV k A):A.units+16<cLine:=Nat.lt_of_le_of_lt (Nat.add_le_add_left (by decide:16<=64) _) hr.units
theorem ax{n:Nat}(h:n<=1000):n<aj:=Nat.lt_of_le_of_lt h (by decide)
section
variable{X:Cx}
theorem pv(i:Nat){x:Str}{pos:Pos}(hN:X.N[i]?=some x:=by rfl)(hv:JN X.env.scope x:=by first|exact Or.inl rfl|exact Or.inr (Or.inl rfl)|exact Or.inr (Or.inr rfl))(hd:(x==("__debug__":Str))=false:=by decide)
  (hcd:(x==("__classdict__":Str))=false:=by decide):PE X (.Name x pos) (nL i):=IC hN hv hd hcd
end
theorem bR{A B:Prop}(h:B):if false=true then A else B:=by
 rw[if_neg gK];exact h
theorem dk{A B:Prop}(h:A):if true=true then A else B:=by
 rw[if_pos rfl];exact h
theorem i6{c A B:Prop}[Decidable c](h1:c->A)(h2:¬c->B):if c then A else B:=by
 by_cases h:c
 ·rw[if_pos h];exact h1 h
 ·rw[if_neg h];exact h2 h
def ac(H H':Hp):Prop:=∀b o,H b=some o->H' b=some o
theorem ac.refl(H:Hp):ac H H:=fun _ _ h=>h
theorem ac.trans{H H1 H2:Hp}(a:ac H H1)(b:ac H1 H2):ac H H2:=fun c o h=>b c o (a c o h)
theorem ac.free{H H':Hp}(e:ac H H'){l:Addr}(h:H' l=Option.none):H l=Option.none:=by
 cases q:H l with
 |none=>rfl
 |some o =>
  rw[e l o q]at h;cases h
theorem ac.seq{K:Za}{H H':Hp}{a:Addr}{xs:List V}(e:ac H H')(h:aA K H a xs):aA K H' a xs:=by
 rcases h with(h|⟨o,h⟩)|h
 ·exact .inl (.inl (e _ _ h))
 ·exact .inl (.inr ⟨o,e _ _ h⟩)
 ·exact .inr h
section
variable{prog:ck}{w:World}{A:Around}{R:Result->Shared->Prop}{s:Shared}
abbrev XF:Value->Shared->Prop:=fun _ _=>False
abbrev Bv(ifs:List Expr)(env:Env):Sem Bool:=forIn ifs true fun c r=>if r=true then do let ok <- isTrue c env (eval c env);pure (wN ok)else pure (wN r)
theorem yb{iter:Expr}{scope:Scope}{pos:Pos}{acc:Value}(I:Nat->Shared->Prop)
  (turn:∀n s,I n s->wpAny (model prog w) A (pyNext it) (fun r s₁=>match r with
   |none=>R (.ok .next) s₁
   |some v=>wpAny (model prog w) A (Ci target it v) (fun _ s₁'=>wpAny (model prog w) A (assign target env v) (fun _ s₂ =>
     wpAny (model prog w) A (Bv ifs env) (fun ok s₃ =>
      if ok=true then wpAny (model prog w) A (eval elt env) (fun x s₄ =>
       wpAny (model prog w) A (call (.builtin "list.append") [acc,x]) (fun _ s₅=>∃m,m<n/\I m s₅) XF s₄) XF s₃
      else ∃m,m<n/\I m s₃) XF s₂) XF s₁') XF s₁) XF s)
  (n:Nat) (h:I n s):zzl77 (model prog w) A (.compLoop (.ListComp elt [⟨target,iter,ifs,0⟩] scope pos) 0 it acc env) R s:=by
 refine codeAny_loop rfl I (fun n s hI=>?_) n h;show wpAny _ A ((compTurn (.ListComp elt [⟨target,iter,ifs,0⟩] scope pos) 0 it acc env).onRaise (fun x=>do noteFrame x env;theTreesLotGoes x)) _ _ s
 refine wpAny_noted ?_;rw[compTurn_list];refine ak (Cj (ak (jC (turn n s hI) (fun r s₁ h₁=>?_) fun _ _ h'=>h'.elim)));cases r with
 |none=>exact aH h₁
 |some v =>
  refine ak (jC h₁ (fun _ s₁' h₁'=>?_) fun _ _ h'=>h'.elim);refine ak (jC h₁' (fun _ s₂ h₂=>ak (jC h₂ (fun ok s₃ h₃=>?_) fun _ _ h'=>h'.elim)) fun _ _ h'=>h'.elim);cases ok with
  |false=>exact aH ⟨rfl,h₃⟩
  |true =>
   exact ak (ak (jC h₃ (fun x s₄ h₄=>ak (jC h₄ (fun _ s₅ h₅=>aH (aH ⟨rfl,h₅⟩)) fun _ _ h'=>h'.elim)) fun _ _ h'=>h'.elim))
end
theorem nU{env:Env}:∀(names:List (Str×jz)) (cs0:List (Str×Addr)),(∀y∈names,y.2=.free->∃c,env.cells.lookup y.1=some c)->(∀x c,cs0.lookup x=some c->env.cells.lookup x=some c) ->
  ∃cs:List (Str×Addr),(forIn names cs0 fun(x:Str×jz) (r:List (Str×Addr))=>if(x.2==lg)=true then(cellOf env x.1 >>= fun c=>(pure (wN ((x.1,c)::r)):Sem (ForInStep (List (Str×Addr)))))else pure (wN r))=pure cs /\
   (∀x c,cs.lookup x=some c->env.cells.lookup x=some c)/\(∀x,(cs0.lookup x).isSome=true->(cs.lookup x).isSome=true)/\∀y∈names,y.2=.free->(cs.lookup y.1).isSome=true
 |[],cs0,_,h0=>⟨cs0,rfl,h0,fun _ h=>h,fun _ h=>nomatch h⟩
 | (n,k)::r,cs0,has,h0=>by
  have hr:∀y∈r,y.2=.free->∃c,env.cells.lookup y.1=some c:=fun y hy=>has y (cT _ hy);by_cases hk:k=.free
  ·subst hk;obtain⟨c,hc⟩:=has (n,.free) cb rfl;obtain⟨cs,e,p1,p2,p3⟩:=nU r ((n,c)::cs0) hr (fun x d hd=>by
    rw[iO]at hd;cases hx:x==n with
    |true =>
     rw[hx]at hd;have:x=n:=by simpa using hx
     subst this;cases hd;exact hc
    |false=>rw[hx]at hd;exact h0 x d hd)
   have hself:(((n,c)::cs0).lookup n).isSome=true:=by rw[iO,beq_self_eq_true];rfl
   have hmono:∀x,(cs0.lookup x).isSome=true->(((n,c)::cs0).lookup x).isSome=true:=fun x hx=>by
    rw[iO];cases x==n with
    |true=>rfl
    |false=>exact hx
   refine⟨cs,?_,p1,fun x hx=>p2 x (hmono x hx),fun y hy hf=>?_⟩
   ·rw[pS];have hcell:cellOf env n=pure c:=by unfold cellOf;rw[hc]
    simp only[beq_self_eq_true,if_true,hcell];exact e
   ·rcases bM.mp hy with rfl|hy
    ·exact p2 _ hself
    ·exact p3 y hy hf
  ·obtain⟨cs,e,p1,p2,p3⟩:=nU r cs0 hr h0;refine⟨cs,?_,p1,p2,fun y hy hf=>?_⟩
   ·rw[pS];have hb:(k==lg)=false:=by simpa using hk
    simp only[hb,lr,if_false];exact e
   ·rcases bM.mp hy with rfl|hy
    ·exact absurd hf hk
    ·exact p3 y hy hf
theorem uh{env:Env}{scope:Scope}(has:∀y∈scope.names,y.2=.free->∃c,env.cells.lookup y.1=some c):
  ∃cs:List (Str×Addr),closureFor scope env=pure cs/\(∀x c,cs.lookup x=some c->env.cells.lookup x=some c)/\∀y∈scope.names,y.2=.free->(cs.lookup y.1).isSome=true:=by
 obtain⟨cs,e,p1,_,p3⟩:=nU (env:=env) scope.names [] has (fun _ _ h=>nomatch h);refine⟨cs,?_,p1,p3⟩;unfold closureFor
 first
  |exact e
  | (simp only[bind_pure];exact e)
  | (rw[show(forIn scope.names [] _:Sem (List (Str×Addr)))=pure cs from e];rfl)
def dO(X:Cx)(N:Zb)(scope:Scope)(C:Addr)(cl:List (Str×Addr))(s₀:Shared)(H₀:Hp)(ex:Ze)(pn:Zd):Cx where
 prog:=X.prog
 w:=X.w
 K:=X.K
 mg:=X.mg
 base:=X.base
 A:=X.A
 N:=N
 s₀:=s₀
 H₀:=H₀
 env:=compEnvC scope cl C X.env
 outer:=X.stack
 stack:=X.stack
 ex:=ex
 fn:=fun _=>false
 calm:=X.calm
 pn:=pn
 xe:=XF
def mD(sc scope:Scope)(k:Nat)(N XN:Zb)(fi:List Nat):Bool :=
 decide (scope.kind=.function) &&
 (scope.names.all fun y=>decide (y.2≠.cell) && (decide (y.2≠.local) || decide (scope.names.lookup y.1=some .local)) && (decide (y.2≠.free) || decide (sc.names.lookup y.1=some .cell) || decide (sc.names.lookup y.1=some .free))) &&
 decide (N.length=k+fi.length) &&
 ((jD fi.length).all fun j=>match fi[j]? with
  |some i=>match N[k+j]?,XN[i]? with
   |some x,some y=>decide (x=y) && decide (scope.names.lookup x=some .free)
   |_,_=>false
  |none=>false)
structure ol(sc scope:Scope)(k:Nat)(N XN:Zb)(fi:List Nat):Prop where
 kind:scope.kind=.function
 cell:∀y∈scope.names,y.2≠.cell
 nm:∀y∈scope.names,y.2=.local->scope.names.lookup y.1=some .local
 fr:∀y∈scope.names,y.2=.free->sc.names.lookup y.1=some .cell∨sc.names.lookup y.1=some .free
 len:N.length=k+fi.length
 sl:∀j i,fi[j]?=some i->∃x,N[k+j]?=some x/\XN[i]?=some x/\scope.names.lookup x=some .free
theorem ol.of(h:mD sc scope k N XN fi=true):ol sc scope k N XN fi:=by
 unfold mD at h;simp only[wM,List.all_eq_true,Bool.or_eq_true,decide_eq_true_eq]at h;obtain⟨⟨⟨h1,h2⟩,h3⟩,h4⟩:=h;refine⟨h1,fun y hy=>(h2 y hy).1.1,fun y hy e=>((h2 y hy).1.2).resolve_left fun z=>z e,fun y hy e=>?_,h3,fun j i e=>?_⟩
 ·rcases(h2 y hy).2 with(z|z)|z
  ·exact absurd e z
  ·exact .inl z
  ·exact .inr z
 ·have hj:j<fi.length:=(bO.mp e).1;have q:=h4 j (List.mem_range.mpr hj);rw[e]at q;dsimp only at q;cases a:N[k+j]? with
  |none=>rw[a]at q;cases q
  |some x =>
   cases b:XN[i]? with
   |none=>rw[a,b]at q;cases q
   |some y =>
    rw[a,b]at q;simp only[wM,decide_eq_true_eq]at q;exact⟨x,rfl,by rw[q.1],q.2⟩
theorem io{env:Env}:∀{names:List (Str×jz)}{x:Str},names.lookup x=some .free ->
  (names.map fun(n,k)=>if(k==lg && env.scope.kind==.function && env.kindOf n==some .cell)then(n,jz.cell)else(n,k)).lookup x=some .cell ∨
  (names.map fun(n,k)=>if(k==lg && env.scope.kind==.function && env.kindOf n==some .cell)then(n,jz.cell)else(n,k)).lookup x=some .free
 |[],_,h=>by simp at h
 | (n,k)::r,x,h=>by
  have ih:=@io env r x;simp only[bb];cases hx:x==n with
  |true =>
   simp only[iO,hx]at h;cases h;by_cases hc:(lg==lg && env.scope.kind==.function && env.kindOf n==some .cell)=true
   ·left;rw[if_pos hc];simp[iO,hx]
   ·right;rw[if_neg hc];simp[iO,hx]
  |false =>
   simp only[iO,hx]at h;by_cases hc:(k==lg && env.scope.kind==.function && env.kindOf n==some .cell)=true
   ·rw[if_pos hc];simp only[iO,hx];exact ih h
   ·rw[if_neg hc];simp only[iO,hx];exact ih h
def dL(k:Nat)(fi:List Nat)(σ:St):St:=List.replicate k none++fi.map fun i=>(σ[i]?).join
theorem BF(k:Nat)(fi:List Nat)(σ:St):(dL k fi σ).length=k+fi.length:=by simp[dL]
theorem ug{i:Nat}{v:V}(h:(dL k fi σ)[i]?=some (some v)):∃j t,i=k+j/\fi[j]?=some t/\σ[t]?=some (some v):=by
 unfold dL at h;by_cases hi:i<k
 ·rw[c9 (by simpa using hi),List.getElem?_replicate_of_lt hi]at h;cases h
 ·rw[lB (by simp;omega),List.length_replicate,bw]at h;refine⟨i-k,?_⟩;cases e:fi[i-k]? with
  |none=>rw[e]at h;cases h
  |some t =>
   rw[e]at h;simp only[sN]at h;refine⟨t,by omega,rfl,?_⟩;have h':=eA h;cases e2:σ[t]? with
   |none=>rw[e2]at h';cases h'
   |some o=>rw[e2]at h';simp only[Option.join]at h';first|(rw[h'])|(subst h';rfl)|(simpa using h')
def Aj(k:Nat)(g:TG):Prop:=∀x σ H Q,g x σ H Q->g x σ H fun σ2 H2=>Q σ2 H2/\σ2.length=σ.length/\∀i,k<=i->σ2[i]?=σ[i]?
def Db(k:Nat)(g:HJ):Prop:=∀x σ H Q,g x σ H Q->g x σ H fun σ2 H2=>Q σ2 H2/\σ2.length=σ.length/\∀i,k<=i->σ2[i]?=σ[i]?
theorem bA{k i:Nat}(h:i<k):Aj k (eE i):=fun x σ H Q q=>⟨q,by simp,fun j hj=>by rw[List.getElem?_set_ne (by omega)]⟩
theorem zD:Db k fZ:=fun x σ H Q ⟨e,q⟩=>⟨e,q,rfl,fun _ _=>rfl⟩
def GB(g:TG):Prop:=∀x σ H Q Q',(∀σ2 H2,Q σ2 H2->Q' σ2 H2)->g x σ H Q->g x σ H Q'
def yv(g:HJ):Prop:=∀x σ H Q Q',(∀σ2 H2,Q σ2 H2->Q' σ2 H2)->g x σ H Q->g x σ H Q'
theorem eT:GB (eE i):=fun _ _ _ _ _ f q=>f _ _ q
theorem jS:yv fZ:=fun _ _ _ _ _ f ⟨e,q⟩=>⟨e,f _ _ q⟩
theorem kh(h1:GB g)(h2:yv u):yv (aT g u):=fun _ _ _ _ _ f ⟨v,r,e,q⟩=>⟨v,r,e,h1 _ _ _ _ _ (fun _ _ q=>h2 _ _ _ _ _ f q) q⟩
theorem jQ(h1:Aj k g)(m1:GB g)(h2:Db k u)(m2:yv u):Db k (aT g u):=fun x σ H Q ⟨v,r,e,q⟩ =>
 ⟨v,r,e,m1 _ _ _ _ _ (fun σ2 H2 ⟨q,l,s⟩=>m2 _ _ _ _ _ (fun σ3 H3 ⟨q',l',s'⟩=>⟨q',l'.trans l,fun i hi=>(s' i hi).trans (s i hi)⟩) (h2 _ _ _ _ q)) (h1 _ _ _ _ q)⟩
theorem CJ{K:Za}(h:Db k t):Aj k (gE K n t):=fun x σ H Q ⟨a,xs,e,hs,hl,q⟩=>⟨a,xs,e,hs,hl,h _ _ _ _ q⟩
def Im(X:Cx)(ifs:List Expr)(t:TT):Prop :=
 ∀(J3:Zd) (s:Shared) (σ:St) (H:Hp) (Q:Bool->Hp->Prop),Inv X J3 σ H s->t σ H Q->wpAny (model X.prog X.w) X.A (Bv ifs X.env) (TP X J3 σ Q) X.xe s
def jH:TT:=fun _ H Q=>Q true H
theorem cE:Im X [] jH:=fun J3 s σ H Q I h=>aH ⟨H,I,h⟩
theorem rZ(h:PT X c t):Im X [c] t:=by
 intro J3 s σ H Q I hw;unfold Bv;rw[pS];simp only[if_true];refine ak (ak (cD (h J3 s σ H Q I hw) fun b s1 q=>aH ?_));exact aH q
def eB(k:Nat)(fi:List Nat)(wi:TI)(g:TG)(tc:TT)(te:TE):TE:=fun σ H Q=>wi σ H fun J H1=>∀l,H1 l=none->∃W:Nat->Nat->List V->Hp->Prop,(∃m,W 0 m [] (upd H1 l (.lst [])))/\∀i m vs H2,W i m vs H2->H2 l=some (.lst vs) /\
 ((J.stop i H2/\Q (.ref l) H2)∨(J.go i H2/\∀x H3,J.yld i H2 x H3->g x (dL k fi σ) H3 fun σ2 H4=>tc σ2 H4 fun b H5 =>
  if b=true then te σ2 H5 fun v H6=>H6 l=some (.lst vs)/\vs.length<aj/\∃m',m'<m/\W (i+1) m' (vs++[v]) (upd H6 l (.lst (vs++[v])))else ∃m',m'<m/\W (i+1) m' vs H5))
section
variable{X:Cx}{J3:Zd}{σ:St}
theorem HF{cl:List (Str×Addr)}{fp:Ze}(S:ol X.env.scope scope k N X.N fi)(I:Inv X J3 σ H s)
  (hcl:∀x c,cl.lookup x=some c->X.env.cells.lookup x=some c) (hcf:∀y∈scope.names,y.2=.free->(cl.lookup y.1).isSome=true) (hf:∀b∈fp,oh X J3 H b) (hlt:∀b∈fp,b<s.heap.objs.size) :
  (dO X N scope s.heap.objs.size cl s H fp (X.pn++J3)).Ok where
 mod:=I.ok.mod
 kind:=S.kind
 glob:=I.ok.glob
 blt:=I.ok.blt
 above:=aG _
 inj:=fun x y c e1 e2=>I.ok.inj x y c (hcl x c e1) (hcl y c e2)
 has:=fun x h=>by
  have key:∃y∈scope.names,y.1=x/\y.2=.free:=by
   have h':(relabel scope X.env).names.lookup x=some .cell∨(relabel scope X.env).names.lookup x=some .free:=h;have mem:∀(l:List (Str×jz)) (kd:jz),l.lookup x=some kd->(x,kd)∈l:=by
    intro l
    induction l with
    |nil=>intro kd e;cases e
    |cons a r ih =>
     intro kd e;obtain⟨n,k'⟩:=a;rw[iO]at e;cases hx:x==n with
     |true =>
      rw[hx]at e;have:x=n:=by simpa using hx
      subst this;cases e;exact cb
     |false=>rw[hx]at e;exact cT _ (ih kd e)
   have back:∀kd,(x,kd)∈(relabel scope X.env).names->kd=.cell∨kd=.free->∃y∈scope.names,y.1=x/\y.2=.free:=by
    intro kd hm hk;obtain⟨⟨n,k'⟩,hy,e⟩:=ap.mp hm;dsimp only at e;by_cases hc:(k'==lg && X.env.scope.kind==.function && X.env.kindOf n==some .cell)=true
    ·have hk':k'=.free:=by
      simp only[wM]at hc;simpa using hc.1.1
     rw[if_pos hc]at e;cases e;exact⟨_,hy,rfl,hk'⟩
    ·rw[if_neg hc]at e;cases e;rcases hk with rfl|rfl
     ·exact absurd rfl (S.cell _ hy)
     ·exact⟨_,hy,rfl,rfl⟩
   rcases h' with h'|h'
   ·exact back _ (mem _ _ h') (.inl rfl)
   ·exact back _ (mem _ _ h') (.inr rfl)
  obtain⟨y,hy,rfl,hk⟩:=key;exact B1.mp (hcf y hy hk)
 cab:=fun x c h=>by cases h
 hd:=I.ok.hd
 frames:=I.ok.frames
 stk:=.inl rfl
 exf:=fun b hb=>⟨c6 (hlt b hb),fun x c e=>(hf b hb).2.2.2.2.1 x c (hcl x c e)⟩
 bs:=I.bs
 bsz:=bL I.ok.bsz I.sz
 noex:=fun b o e hb=>by
  rcases(hf b hb).2.2.2.1 with z|z
  ·exact I.ok.noex b o e z
  ·exact absurd (iL (aY (I.ok.bs b o e).1) z) (qS _)
 exfs:=fun b hb z=>by
  obtain⟨_,f1,f2,_⟩:=hf b hb;rcases bM.mp (I.stkSub b z)with q|q
  ·exact f1 q
  ·exact f2 q
 funs:=I.stack
 frf:=I.stkFree
theorem Gv{cl:List (Str×Addr)}{fp:Ze}{h₁:Heap}{t':Nat}(S:ol X.env.scope scope k N X.N fi)(I:Inv X J3 σ H s)
  (hcl:∀x c,cl.lookup x=some c->X.env.cells.lookup x=some c) (hcf:∀y∈scope.names,y.2=.free->(cl.lookup y.1).isSome=true) (hf:∀b∈fp,oh X J3 H b) (hlt:∀b∈fp,b<s.heap.objs.size)
  (hn:h₁.Ns s.heap.objs.size m) (old:∀b o,s.heap.get? b=some o->h₁.get? b=some o) :
  Inv (dO X N scope s.heap.objs.size cl s H fp (X.pn++J3)) [] (dL k fi σ) H { s with heap:=h₁,toks:=t' }:=by
 have memOf:∀(l:List (Str×jz)) (x:Str) (kd:jz),l.lookup x=some kd->(x,kd)∈l:=by
  intro l
  induction l with
  |nil=>intro x kd e;cases e
  |cons a r ih =>
   intro x kd e;obtain⟨n,k'⟩:=a;rw[iO]at e;cases hx:x==n with
   |true =>
    rw[hx]at e;have:x=n:=by simpa using hx
    subst this;cases e;exact cb
   |false=>rw[hx]at e;exact cT _ (ih x kd e)
 refine⟨HF S I hcl hcf hf hlt,rfl,I.bare,Un.kept old,⟨m,hn,fun i x v e1 e2 e3=>?_⟩,fun x c e=>?_,I.hok.fresh (aG _),fun x c e=>I.freeC x c (hcl x c e),fun p hp=>?_,I.hok.kept old,?_⟩
 ·obtain⟨j,t,rfl,ht,hv⟩:=ug e2;obtain⟨y,hy,hXN,hfr⟩:=S.sl j t ht;have e1':N[k+j]?=some x:=e1;rw[hy]at e1';cases e1';have hmem:=memOf _ _ _ hfr;obtain⟨c,hc⟩:=B1.mp (hcf _ hmem rfl);have hX:=hcl _ _ hc;obtain⟨mX,hnX,hlX⟩:=I.loc;have kX:=S.fr _ hmem rfl;obtain⟨u,ru,lk⟩:=hlX t x v hXN hv (by rcases kX with z|z;exact .inr (.inl z);exact .inr (.inr z));refine⟨u,ru,.inr ⟨?_,c,hc,?_⟩⟩
  ·exact io hfr
  ·rcases lk with⟨z,_⟩|⟨_,c',e',q⟩
   ·have z':X.env.scope.names.lookup x=some .local:=z;rcases kX with kX|kX<;>rw[z']at kX<;>cases kX
   ·rw[hX]at e';cases e';obtain⟨o,ho,hd⟩:=q;exact⟨o,old _ o ho,hd⟩
 ·obtain⟨v,o,ho,hd⟩:=I.cell x c (hcl x c e);exact⟨v,o,old _ o ho,hd⟩
 ·rw[gJ]at hp;obtain⟨e,n,ne,nf,d⟩:=I.pin p hp;refine⟨old _ _ e,n,c6 (aY e),fun z=>?_,d⟩;rcases bM.mp (I.stkSub _ z)with q|q
  ·exact ne q
  ·exact nf q
 ·rw[BF];exact S.len.symm
structure yz(X:Cx)(J3:Zd)(H:Hp)(C:Addr):Prop where
 free:H C=none
 loc:C≠X.env.locals
 young:X.s₀.heap.objs.size<=C
 cells:∀x c,X.env.cells.lookup x=some c->c≠C
 pin:∀p∈X.pn++J3,p.1≠C
theorem ue{iter:Expr}{pos:Pos}{cl:List (Str×Addr)}{Q:VK}
     {RR:Value->Addr->Result->Shared->Prop}
    (S:ol X.env.scope scope k N X.N fi) (hc:X.calm=true) (hcl:∀x c,cl.lookup x=some c->X.env.cells.lookup x=some c) (hcf:∀y∈scope.names,y.2=.free->(cl.lookup y.1).isSome=true)
    (hg:∀C cl s₀ H₀ ex pn,PG (dO X N scope C cl s₀ H₀ ex pn) tg g) (ho:Aj k g) (ht:∀C cl s₀ H₀ ex pn,Im (dO X N scope C cl s₀ H₀ ex pn) ifs tc) (he:∀C cl s₀ H₀ ex pn,PE (dO X N scope C cl s₀ H₀ ex pn) elt te)
    (I2:Inv X J3 σ H2 s2) (T:rO X.prog X.w X.K tg J fp it tn) (st2:tn 0 s2.heap) (f2:∀b∈fp,oh X J3 H2 b)
    (hw:∀l,H2 l=none->∃W:Nat->Nat->List V->Hp->Prop,(∃m,W 0 m [] (upd H2 l (.lst [])))/\∀i m vs H2,W i m vs H2->H2 l=some (.lst vs) /\
      ((J.stop i H2/\Q (.ref l) H2)∨(J.go i H2/\∀x H3,J.yld i H2 x H3->g x (dL k fi σ) H3 fun σ2 H4=>tc σ2 H4 fun b H5 =>
        if b=true then te σ2 H5 fun v H6=>H6 l=some (.lst vs)/\vs.length<aj/\∃m',m'<m/\W (i+1) m' (vs++[v]) (upd H6 l (.lst (vs++[v])))else ∃m',m'<m/\W (i+1) m' vs H5)))
    (hR:∀D C H' s' m',Inv X J3 σ H' s'->s'.heap.Ns C m'->yz X J3 H' C->Q (.ref D) H'->RR (.ref D) C (.ok .next) s') :
    wpAny (model X.prog X.w) X.A (newList []) (fun acc s₃=>wpAny (model X.prog X.w) X.A (newFunctionEnv scope X.env.globals cl [] X.env.qual none .none (some X.env)) (fun cenv s₄ =>
      zzl77 (model X.prog X.w) X.A (.compStart (.ListComp elt [⟨tg,iter,ifs,0⟩] scope pos) 0 (.ref it) acc { cenv with scope:=relabel scope X.env }) (RR acc cenv.locals) s₄) E s₃) E s2:=by
  have hfresh:H2 s2.heap.objs.size=none:=I2.fresh;obtain⟨W,⟨m0,w0⟩,turn⟩:=hw _ hfresh;refine jo (wpAny_newFunctionEnv S.cell (by intro y hy;simp at hy) (fun h₁ hns₁ hsb₁=>?_) S.kind);dsimp only at hns₁ hsb₁ ⊢;have I3:Inv X J3 σ (upd H2 s2.heap.objs.size (.lst [])) { s2 with heap:=s2.heap.push { cls:=.type "list",data:=.seq ([]:Zf).toArray },toks:=s2.toks }:=I2.lnew (ys:=[]) .nil (df _);generalize hs3:({ s2 with heap:=s2.heap.push { cls:=.type "list",data:=.seq ([]:Zf).toArray },toks:=s2.toks }:Shared)=s3 at I3;have hh3:s3.heap=s2.heap.push { cls:=.type "list",data:=.seq ([]:Zf).toArray }:=by rw[<-hs3]
  have hsz:s3.heap.objs.size=s2.heap.objs.size+1:=by rw[hh3,oz]
  have hlt:∀b∈fp,b<s2.heap.objs.size:=fun b hb=>by
    obtain⟨o,e,_⟩:=T.obj 0 _ st2 b hb;exact aY e
  have f3:∀b∈fp,oh X J3 (upd H2 s2.heap.objs.size (.lst [])) b:=fun b hb=>⟨by rw[ag (c6 (hlt b hb))];exact(f2 b hb).1,(f2 b hb).2⟩;have hlt3:∀b∈fp,b<s3.heap.objs.size:=fun b hb=>by rw[hsz];exact Nat.lt_succ_of_lt (hlt b hb)
  have old:∀b o,s3.heap.get? b=some o->h₁.get? b=some o:=fun b o e=>by
    have hb:b≠s3.heap.objs.size:=c6 (aY e);rw[hh3]at e hb;exact hsb₁.extBut b o hb (bj _ e)
  have hns:h₁.Ns s3.heap.objs.size (fun x=>([]:List (Str×Value)).reverse.lookup x):=by rw[hh3];exact hns₁
  have I4:Inv (dO X N scope s3.heap.objs.size cl s3 (upd H2 s2.heap.objs.size (.lst [])) fp (X.pn++J3)) [] (dL k fi σ) (upd H2 s2.heap.objs.size (.lst [])) { s3 with heap:=h₁,toks:=s2.toks+([]:List (Str×Value)).length } :=
    Gv S I3 hcl hcf f3 hlt3 hns old
  have st4:tn 0 h₁:=T.keep _ _ _ st2 fun b hb o e=>old b o (by rw[hh3];exact bj _ e);generalize hY:dO X N scope s3.heap.objs.size cl s3 (upd H2 s2.heap.objs.size (.lst [])) fp (X.pn++J3)=Y at I4;have yp:Y.prog=X.prog:=by rw[<-hY];rfl
  have yw:Y.w=X.w:=by rw[<-hY];rfl
  have yK:Y.K=X.K:=by rw[<-hY];rfl
  have yA:Y.A=X.A:=by rw[<-hY];rfl
  have yx:Y.xe=XF:=by rw[<-hY];rfl
  have yc:Y.calm=true:=by rw[<-hY];exact hc
  have gY:PG Y tg g:=by rw[<-hY];exact hg _ _ _ _ _ _
  have tY:Im Y ifs tc:=by rw[<-hY];exact ht _ _ _ _ _ _
  have eY:PE Y elt te:=by rw[<-hY];exact he _ _ _ _ _ _
  have yenv:Y.env=compEnvC scope cl s3.heap.objs.size X.env:=by rw[<-hY];rfl
  have fY:∀{H':Hp},(∀b∈fp,H' b=none)->∀b∈fp,oh Y [] H' b:=fun hn b hb=>by
    obtain⟨f0,f1,f2',f3',f4,f5⟩:=f3 b hb;rw[<-hY];refine⟨hn b hb,c6 (hlt3 b hb),fun z=>?_,.inl hb,fun x c e=>f4 x c (hcl x c e),fun p hp=>?_⟩
    · rcases bM.mp (I3.stkSub _ z)with q|q
      · exact f1 q
      · exact f2' q
    · rw[gJ]at hp
      exact f5 p hp
  have loop:∀s4:Shared,s4={ s3 with heap:=h₁,toks:=s2.toks+([]:List (Str×Value)).length } ->
      zzl77 (model X.prog X.w) X.A (.compLoop (.ListComp elt [⟨tg,iter,ifs,0⟩] scope pos) 0 (.ref it) (.ref s2.heap.objs.size) Y.env) (RR (.ref s2.heap.objs.size) s3.heap.objs.size) s4:=by
    rintro s4 rfl;refine yb (fun n s'=>∃i vs H',Inv Y [] (dL k fi σ) H' s'/\tn i s'.heap/\(∀b∈fp,H' b=none)/\W i n vs H') ?_ m0 ⟨0,[],_,I4,st4,fun b hb=>(f3 b hb).1,w0⟩;rintro n s5 ⟨i,vs,H5,I5,st5,fr5,w5⟩;obtain⟨hl5,hcase⟩:=turn i n vs H5 w5;rcases hcase with⟨stop,q⟩|⟨go,step⟩
    · have d:=T.done Y yp yw yK yc i [] s5 _ H5 XF I5 (fY fr5) st5 stop
      rw[yA]at d;refine cD d fun r s6 ⟨hr,I6⟩=>?_;subst hr;have hu:Un (EC X.stack) fp (upd H2 s2.heap.objs.size (.lst [])) H5 s3.heap s6.heap:=by have:=I6.base;rw[<-hY]at this;exact this
      have ho6:s6.os=s3.os:=by have:=I6.os;rw[<-hY]at this;exact this
      have hok6:mF X.prog X.w X.K H5 s6.heap:=by have:=I6.hok;rw[<-hY]at this;exact this
      have hC6:H5 s3.heap.objs.size=none:=by have:=I6.free;rw[<-hY]at this;exact this
      obtain⟨m6,hn6,_⟩:=I6.loc;have hn6':s6.heap.Ns s3.heap.objs.size m6:=by rw[<-hY]at hn6;exact hn6
      have IX:Inv X J3 σ H5 s6:=I3.call' ho6 hu hok6 I6.bare fun b hb=>by
        obtain⟨f0,f1,f2',f3',f4,f5⟩:=f3 b hb;exact⟨f3',f1,f4,f5⟩
      refine hR _ _ H5 s6 m6 IX hn6' ⟨hC6,gF I3.lt,I3.sz,fun x c e z=>?_,fun p hp z=>?_⟩ q
      · obtain⟨v,o,ho,_⟩:=I3.cell x c e
        exact absurd (aY ho) (by rw[z];exact qS _)
      · exact absurd (aY (I3.pin p hp).1) (by rw[z];exact qS _)
    · have d:=T.item Y yp yw yK yc i [] s5 _ H5 XF I5 (fY fr5) st5 go
      rw[yA]at d;refine cD d fun r s6 ⟨u,hr,h6⟩=>?_;subst hr;refine cD h6 fun _ s7 ⟨x,H7,I7,r7,y7,st7,fr7⟩=>?_;have I7':=I7.pinned (fY fr7) (T.obj _ _ st7);have a7:=gY _ s7 _ H7 x u _ I7' r7 (ho _ _ _ _ (step x H7 y7));rw[yp,yw,yA,yx]at a7;refine cD a7 fun _ s8 ⟨σ8,H8,I8,q8,l8,k8⟩=>?_;have a8:=tY _ s8 σ8 H8 _ I8 q8;rw[yp,yw,yA,yx]at a8;have again:∀{H9:Hp}{s9:Shared}{vs':List V}{m':Nat},Inv Y ([]++tO fp s7.heap) σ8 H9 s9->m'<n->W (i+1) m' vs' H9->∃m,m<n/\∃i vs H',Inv Y [] (dL k fi σ) H' s9/\tn i s9.heap/\(∀b∈fp,H' b=none)/\W i m vs H':=fun{H9 s9 vs' m'} I9 hm w9=>by
        refine⟨m',hm,i+1,vs',H9,(I9.unpinned).weak l8.symm (fun j v e=>?_),T.keep _ _ _ st7 fun b hb o e=>(I9.pin (b,o) (cS _ (cS _ (ki hb e)))).1,fun b hb=>?_,w9⟩
        · obtain⟨j',t,rfl,_,_⟩:=ug e
          rw[k8 _ (Nat.le_add_right _ _)];exact e
        · obtain⟨o,e,_⟩:=T.obj _ _ st7 b hb
          exact(I9.pin (b,o) (cS _ (cS _ (ki hb e)))).2.1
      refine cD a8 fun b s9 ⟨H9,I9,q9⟩=>?_;cases b with
      |false =>
        rw[if_neg gK]at q9 ⊢;obtain⟨m',hm,w9⟩:=q9;exact again I9 hm w9
      |true =>
        rw[if_pos rfl]at q9 ⊢;have a9:=eY _ s9 σ8 H9 _ I9 q9;rw[yp,yw,yA,yx]at a9;refine cD a9 fun y s10 ⟨v,H10,I10,r10,hl10,hsz10,m',hm,w10⟩=>?_;have a10:=bQ (X:=Y) _ s10 σ8 H10 (.ref s2.heap.objs.size) [v] (.ref s2.heap.objs.size) [y] (fun z H'=>z=.non/\H'=upd H10 s2.heap.objs.size (.lst (vs++[v]))) I10 rfl (.cons r10 .nil) ⟨_,vs,v,rfl,rfl,hl10,hsz10,rfl,rfl⟩;rw[yp,yw,yA,yx]at a10;refine cD a10 fun _ s11 ⟨_,H11,I11,_,_,e11⟩=>?_;subst e11;exact again I11 hm w10
  have hstart:=codeAny_compStart_list (prog:=X.prog) (w:=X.w) (A:=X.A) (elt:=elt) (target:=tg) (iter:=iter) (ifs:=ifs) (rest:=[]) (scope:=scope) (pos:=pos) (it:=.ref it) (acc:=.ref s2.heap.objs.size) (env:=Y.env) (loop _ rfl) (T.self _ 0 _ _ _ st4 (loop _ rfl));rw[yenv]at hstart;rw[<-hs3]at hstart;exact hstart
end
section
variable{X:Cx}
theorem yz.turned{h':Heap}(c:yz X J3 H C)(I:Inv X J3 σ H s)(hs:fD C s.heap h'):Inv X J3 σ H { s with heap:=h' } :=
 I.turned (t':=s.toks) (fun b o hb e=>hs.extBut b o hb e) c.free c.loc (.inr c.young) c.cells c.pin
theorem Hj{pos:Pos}(hS:mD X.env.scope scope k N X.N fi=true)(hc:X.calm=true)(hi:PI X tg iter wi)
  (hg:∀C cl s₀ H₀ ex pn,PG (dO X N scope C cl s₀ H₀ ex pn) tg g) (ho:Aj k g) (ht:∀C cl s₀ H₀ ex pn,Im (dO X N scope C cl s₀ H₀ ex pn) ifs tc) (he:∀C cl s₀ H₀ ex pn,PE (dO X N scope C cl s₀ H₀ ex pn) elt te)
  (hs:∀x,yG iter X.env x=pure x:=by intro _;rfl):PE X (.ListComp elt [⟨tg,iter,ifs,0⟩] scope pos) (eB k fi wi g tc te):=by
 intro J3 s σ H Q I h;have S:=ol.of hS;obtain⟨cl,hclos,hcl,hcf⟩:=uh (env:=X.env) (scope:=scope) fun y hy e=>I.ok.has y.1 (S.fr y hy e);rw[eval_ListComp];refine wpAny_comprehension_free (use:=none) rfl hs hclos S.kind S.nm (cD (hi J3 s σ H _ I h) fun v s1 h1=>cD h1 fun itv s2 h2=>?_);obtain⟨it,fp,tn,J,H2,e,I2,T,st2,f2,hw⟩:=h2;subst e;refine ue (RR:=fun acc C=>compPost (model X.prog X.w) X.A X.xe none (EP X J3 σ Q) acc C) S hc hcl hcf hg ho ht he I2 T st2 f2 hw ?_;intro D C H' s' m' I' hn ce q;exact⟨m',hn,fun h' hs'=>⟨.ref D,H',ce.turned I' hs',rfl,q⟩⟩
theorem Ba{pos spos py:Pos}{j:Nat}{y:Str}(hN:X.N.Nodup)(hj:X.N[j]?=some y)(hy:Loc X.env.scope y)(hS:mD X.env.scope scope k N X.N fi=true)(hc:X.calm=true)(hi:PI X tg iter wi)
  (hg:∀C cl s₀ H₀ ex pn,PG (dO X N scope C cl s₀ H₀ ex pn) tg g) (ho:Aj k g) (ht:∀C cl s₀ H₀ ex pn,Im (dO X N scope C cl s₀ H₀ ex pn) ifs tc) (he:∀C cl s₀ H₀ ex pn,PE (dO X N scope C cl s₀ H₀ ex pn) elt te)
  (hsw:qQ (.ListComp elt [⟨tg,iter,ifs,0⟩] scope pos) (some (.Name y py)) spos.line X.env=pure true:=by rfl)
  (hs:∀x,yG iter X.env x=pure x:=by intro _;rfl) (hf:X.fn y=true∨X.env.scope.names.lookup y=some .local:=by first|exact .inl rfl|exact .inr rfl|assumption) :
  PS X (.Assign [.Name y py] (.ListComp elt [⟨tg,iter,ifs,0⟩] scope pos) spos) (aO (eB k fi wi g tc te) (eE j)):=by
 intro J3 s σ H D I h;have S:=ol.of hS;obtain⟨cl,hclos,hcl,hcf⟩:=uh (env:=X.env) (scope:=scope) fun y hy e=>I.ok.has y.1 (S.fr y hy e);rw[exec_Assign_Name_used _ _ _ _ hsw];refine ak (Cj (ak ?_));show wpAny _ X.A (do let _ <- comprehension (.ListComp elt [⟨tg,iter,ifs,0⟩] scope pos) scope X.env _ (newList []) false (eval iter X.env) (some (assign (.Name y py) X.env))) _ _ s
 refine ak (jC (wpAny_comprehension_free (use:=some (assign (.Name y py) X.env)) (Q:=fun _ s'=>SP X J3 D .next s') rfl hs hclos S.kind S.nm
  (cD (hi J3 s σ H _ I h) fun v s1 h1=>cD h1 fun itv s2 h2=>?_)) (fun _ s' hq=>aH (aH hq)) fun _ _ e=>e)
 obtain⟨it,fp,tn,J,H2,e,I2,T,st2,f2,hw⟩:=h2;subst e;refine ue (RR:=fun acc C=>compPost (model X.prog X.w) X.A X.xe (some (assign (.Name y py) X.env)) (fun _ s'=>SP X J3 D .next s') acc C) (Q:=fun x H1=>eE j x σ H1 D.nx) S hc hcl hcf hg ho ht he I2 T st2 f2 hw ?_;intro A C H' s' m' I' hn ce q;show wpAny _ X.A (assign (.Name y py) X.env (.ref A)) _ _ _;refine wpAny_assign_Name (vx I' hN hj hy (v:=.ref A) rfl (fun s'' I'' hsb=>?_) hf);obtain⟨a,hsa,ha⟩:=hsb;have hCa:C≠a:=by
  rcases ha with z|z
  ·rw[z];exact ce.loc
  ·exact dA (ce.cells y a z)
 refine⟨m',hn.sameBut hsa hCa,fun h' hs'=>?_⟩;exact⟨_,H',ce.turned I'' hs',q⟩
end
theorem Inv.turnedNew{h2:Heap}{t':Nat}{ch:Ze}{o:HO}(I:Inv X J3 σ H s)(hf:∀b∈ch,oh X J3 H b)
  (k:∀b q,b∉ch->s.heap.get? b=some q->h2.get? b=some q) (hq:∃q,h2.get? s.heap.objs.size=some q) (hno:∀y,o≠.own y) (new:bW X.prog X.w X.K (upd H s.heap.objs.size o) h2 s.heap.objs.size o) :
  Inv X J3 σ (upd H s.heap.objs.size o) { s with heap:=h2,toks:=t' }:=by
 have hn0:H s.heap.objs.size=none:=I.fresh;have nsz:∀b q,s.heap.get? b=some q->b≠s.heap.objs.size:=fun b q e=>c6 (aY e);have tr:∀b u,H b=some u->b∉ch:=fun b u e z=>by rw[(hf b z).1]at e;cases e
 refine I.step (g':=s.gens) (d':=s.drawn) (ch:=ch) (fun b hb=>?_) (fun b q _ _ hc e _=>k b q hc e) (fun b q _ _ hc e _=>⟨q.slots,k b q hc e⟩) (fun b q _ e n=>by rw[ag (nsz b q e)];exact n) (fun b q hc e=>⟨q,k b q hc e⟩)
  (fun b xs e=>by rw[ag (ae e hn0)];exact e) (fun b q u e=>by rw[ag (ae e hn0)];exact e) (fun b ps e=>⟨#[],by rw[ag (ae e hn0),e];simp⟩) (fun m hm=>?_) (fun b u e=>?_) I.bare
 ·obtain⟨f0,f1,f2,f3,f4,f5⟩:=hf b hb;exact⟨f3,f1,f4,f5⟩
 ·obtain⟨q,es,ep,ho,r⟩:=hm;exact⟨q,es,ep,k _ q (fun z=>(hf _ z).2.1 rfl) ho,r⟩
 ·by_cases hb:b=s.heap.objs.size
  ·subst hb;rw[aa]at e;cases e;exact new
  ·rw[ag hb]at e;refine(I.hok b u e).stay (fun c v hc q=>k c v ?_ q) (fun c q=>by rw[ag (ae q hn0)];exact q) fun c xs q=>by rw[ag (ae q hn0)];exact q
   rcases hc with z|z
   ·subst z;exact tr _ _ e
   ·exact tr _ _ z
def Jz(K:Za)(a:Addr):It :=
 ⟨fun i H=>∃xs x,aA K H a xs/\xs[i]?=some x,fun i H x H'=>∃p v,x=.ref p/\H p=none/\(∀xs,aA K H a xs->xs[i]?=some v)/\H'=upd H p (.tup [.int i,v]),fun i H=>∃xs,aA K H a xs/\xs.length<=i⟩
theorem Dl{K:Za}{es:List Expr}{kx:Nat}{J7:Pos}(a e it:Addr)(hne:e≠it):
  rO P w K (.Tuple es kx J7) (Jz K a) [e,it] e (fun i h=>(∃old,IsEnum h e it i old)/\h.IsListIter it a i) where
 mem:=by simp
 obj:=fun i h st b hb=>by
  obtain⟨⟨old,he⟩,o,ho,hc,hd⟩:=st;rcases bM.mp hb with z|z
  ·subst z;exact⟨_,he,fun v z=>by cases z⟩
  ·have z':b=it:=by simpa using z
   subst z';exact⟨o,ho,fun v z=>by rw[hd]at z;cases z⟩
 keep:=fun i h h' st k=>⟨let⟨old,he⟩:=st.1;⟨old,k e (by simp) _ he⟩,st.2.at fun o e=>k it (by simp) o e⟩
 item:=by
  intro X hP hw hK hc i J3 s σ H E I hf st hg;subst hP hw hK;obtain⟨⟨old,he⟩,hit⟩:=st;obtain⟨xs,x,hq,hx⟩:=hg;obtain⟨its,rv,p,hz⟩:=I.list hq;obtain⟨u,hu,ru⟩:=rv.get hx;obtain⟨e0,e1,e2,e3,e4,e5⟩:=hf e (by simp);obtain⟨f0,f1,f2,f3,f4,f5⟩:=hf it (by simp);refine wpAny_pyNext_enum_item he hit p.isList (x:=u) (by simpa using hu) hne fun h' ho' hit' ht' hsz' hk'=>?_;refine⟨_,rfl,wpAny_letOwnedTupleGo_enum (s:={ s with heap:=h',toks:=s.toks+1 }) ho' fun h2 he2 hs2=>?_⟩;have hs2':fD e h' h2:=hs2;have hpe:s.heap.objs.size≠e:=gF (aY he);have ht2:h2.get? s.heap.objs.size=some { cls:=.type "tuple",data:=.seq #[.int i s.toks,u] }:=hs2'.extBut _ _ hpe ht';have hn0:H s.heap.objs.size=none:=I.fresh;have hue:upd H s.heap.objs.size (.tup [.int i,x]) e=none:=by rw[ag (dA hpe)];exact e0
  have hpi:s.heap.objs.size≠it:=by
   obtain⟨o,ho,_⟩:=hit;exact gF (aY ho)
  have hui:upd H s.heap.objs.size (.tup [.int i,x]) it=none:=by rw[ag (dA hpi)];exact f0
  have I2:Inv X J3 σ (upd H s.heap.objs.size (.tup [.int i,x])) { s with heap:=h2,toks:=s.toks+1 }:=by
   refine I.turnedNew (ch:=[e,it]) hf (fun b o hb q=>?_) ⟨_,ht2⟩ (fun _ z=>nomatch z) ⟨by show 2<=aj;decide,[.int i s.toks,u],.cons ⟨_,rfl⟩ (.cons ru .nil),⟨_,ht2,rfl,_,rfl⟩⟩;have nb1:b≠e:=fun z=>hb (by simp[z]);have nb2:b≠it:=fun z=>hb (by simp[z]);exact hs2'.extBut _ _ nb1 (hk' b o nb1 nb2 q)
  refine⟨.ref s.heap.objs.size,_,I2,rfl,⟨_,x,rfl,hn0,fun ys hy=>by rw[I.list_inj hy hq];exact hx,rfl⟩,⟨⟨u,by simpa using he2⟩,hit'.at fun o y=>(hs2'.2 it (dA hne)).trans y⟩,fun b hb=>?_⟩;rcases bM.mp hb with z|z
  ·subst z;exact hue
  ·have z':b=it:=by simpa using z
   subst z';exact hui
 done:=by
  intro X hP hw hK hc i J3 s σ H E I hf st hg;subst hP hw hK;obtain⟨⟨old,he⟩,hit⟩:=st;obtain⟨xs,hq,hx⟩:=hg;obtain⟨its,rv,p,hz⟩:=I.list hq;obtain⟨f0,f1,f2,f3,f4,f5⟩:=hf it (by simp);have hl:=rv.length;exact wpAny_pyNext_enum_end (I.ok.hd hc) he hit p.isList (by simp;omega) fun h' eb=>⟨rfl,I.turned (t':=s.toks) (fun b o hb e=>eb b o hb e) f0 f1 f3 f4 f5⟩
 self:=fun _ _ _ _ _ st h=>let⟨_,he⟩:=st.1;wpAny_pyIter_enum he h
section
variable{X:Cx}{p pos:Pos}{es:List Expr}{kx:Nat}{J7:Pos}
def t6(K:Za)(ta:TA):TI:=fun σ H R=>ta σ H fun vs H1=>∃a,vs=[.ref a]/\(∃xs,aA K H1 a xs)/\R (Jz K a) H1
theorem mn{a:Expr}(hg:Gl X "enumerate")(hm:X.mg "enumerate"=none)(ha:PA X [a] ta)(hs:aL [a] X.env=[(false,eval a X.env)]:=by rfl):PI X (.Tuple es kx J7) (.Call (.Name "enumerate" p) [a] [] pos) (t6 X.K ta):=by
 intro J3 s σ H R I h;refine Call_ (qw I hg hm boot_enumerate (Ce (cD (ha pos J3 s σ H _ I h) fun us s1 ⟨vs,H1,I1,r1,q1⟩=>?_) hs rfl));obtain⟨l,e,⟨xs,hq⟩,q⟩:=q1;subst e;obtain⟨u,rfl,ru⟩:=vals1 r1;cases ru;obtain⟨its,rv,pl,hz⟩:=I1.list hq;refine call_enumerate_list pl.isList fun h' he hit hsz hk=>?_;refine wpAny_pyIter_enum (s:={ s1 with heap:=h' }) he ?_;have hk':∀b o,s1.heap.get? b=some o->h'.get? b=some o:=hk;have I2:Inv X J3 σ H1 { s1 with heap:=h' }:=I1.kept (t':=s1.toks) hk';refine⟨_,[s1.heap.objs.size+1,s1.heap.objs.size],_,_,H1,rfl,I2,Dl l _ _ (Nat.succ_ne_self _),⟨⟨_,he⟩,hit⟩,fun b hb=>?_,q⟩;have hb':s1.heap.objs.size<=b:=by
  rcases bM.mp hb with z|z
  ·rw[z];exact mS _
  ·have z':b=s1.heap.objs.size:=by simpa using z
   rw[z'];exact aG _
 exact I1.fpOk hb' (I1.hok.fresh hb')
end
def JU(x:Str):It:=⟨fun i _=>i<x.cps.size,fun i H y H'=>H'=H/\∃c,x.cps[i]?=some c/\y=.str ⟨#[c]⟩,fun i _=>x.cps.size<=i⟩
theorem Ay{K:Za}(x:Str)(t:Tok)(it:Addr):rO P w K tg (JU x) [it] it (fun i h=>h.IsStrIter it "str_ascii_iterator" x t i) where
 mem:=by simp
 obj:=fun i h st b hb=>by
  have e:b=it:=by simpa using hb
  subst e;obtain⟨o,e,c,d⟩:=st;exact⟨o,e,fun v z=>by rw[d]at z;cases z⟩
 keep:=fun i h h' st k=>by
  obtain⟨o,e,c,d⟩:=st;exact⟨o,k it (by simp) o e,c,d⟩
 item:=by
  intro X hP hw hK hc i J3 s σ H E I hf st hg;subst hP hw hK;have hlt:i<x.cps.size:=hg;obtain⟨f0,f1,f2,f3,f4,f5⟩:=hf it (by simp);have hx:x.cps[i]?=some x.cps[i]:=by simp[hlt]
  refine wpAny_pyNext_ascii_item st hx fun h' st' sb=>?_;have I1:Inv X J3 σ H { s with heap:=h',toks:=s.toks+1 }:=I.turned (t':=s.toks+1) (fun b o hb e=>(sb.2 b hb).trans e) f0 f1 f3 f4 f5;obtain⟨o,e,c,d⟩:=id st';exact⟨_,rfl,vZ (s:={ s with heap:=h',toks:=s.toks+1 }) e c d (by decide) ⟨.str ⟨#[x.cps[i]]⟩,H,I1,⟨_,rfl⟩,⟨rfl,_,hx,rfl⟩,st',fun b hb=>(hf b hb).1⟩⟩
 done:=by
  intro X hP hw hK hc i J3 s σ H E I hf st hg;subst hP hw hK;have hge:x.cps.size<=i:=hg;obtain⟨f0,f1,f2,f3,f4,f5⟩:=hf it (by simp);exact wpAny_pyNext_ascii_end (I.ok.hd hc) st (by simp;omega) fun h' eb=>⟨rfl,I.turned (t':=s.toks) (fun b o hb e=>eb b o hb e) f0 f1 f3 f4 f5⟩
 self:=fun _ _ _ _ _ st h=>wpAny_pyIter_striter_ascii st h
theorem Dj{K:Za}(x:Str)(t:Tok)(it:Addr):rO P w K tg (JU x) [it] it (fun i h=>h.IsStrIter it "str_iterator" x t i) where
 mem:=by simp
 obj:=fun i h st b hb=>by
  have e:b=it:=by simpa using hb
  subst e;obtain⟨o,e,c,d⟩:=st;exact⟨o,e,fun v z=>by rw[d]at z;cases z⟩
 keep:=fun i h h' st k=>by
  obtain⟨o,e,c,d⟩:=st;exact⟨o,k it (by simp) o e,c,d⟩
 item:=by
  intro X hP hw hK hc i J3 s σ H E I hf st hg;subst hP hw hK;have hlt:i<x.cps.size:=hg;obtain⟨f0,f1,f2,f3,f4,f5⟩:=hf it (by simp);have hx:x.cps[i]?=some x.cps[i]:=by simp[hlt]
  refine wpAny_pyNext_wide_item st hx fun h' st' sb=>?_;have I1:Inv X J3 σ H { s with heap:=h',toks:=s.toks+1 }:=I.turned (t':=s.toks+1) (fun b o hb e=>(sb.2 b hb).trans e) f0 f1 f3 f4 f5;obtain⟨o,e,c,d⟩:=id st';exact⟨_,rfl,vZ (s:={ s with heap:=h',toks:=s.toks+1 }) e c d (by decide) ⟨.str ⟨#[x.cps[i]]⟩,H,I1,⟨_,rfl⟩,⟨rfl,_,hx,rfl⟩,st',fun b hb=>(hf b hb).1⟩⟩
 done:=by
  intro X hP hw hK hc i J3 s σ H E I hf st hg;subst hP hw hK;have hge:x.cps.size<=i:=hg;obtain⟨f0,f1,f2,f3,f4,f5⟩:=hf it (by simp);exact wpAny_pyNext_wide_end (I.ok.hd hc) st (by simp;omega) fun h' eb=>⟨rfl,I.turned (t':=s.toks) (fun b o hb e=>eb b o hb e) f0 f1 f3 f4 f5⟩
 self:=fun _ _ _ _ _ st h=>wpAny_pyIter_striter_wide st h
section
variable{X:Cx}{p pos:Pos}{tg:Expr}
def Jn(tl:TE):TI:=fun σ H R=>tl σ H fun v H1=>∃x,v=.str x/\R (JU x) H1
theorem IA(hl:PE X l tl):PI X tg l (Jn tl):=by
 intro J3 s σ H R I h;refine cD (hl J3 s σ H _ I h) fun v s1 ⟨y,H1,I1,r1,q1⟩=>?_;obtain⟨x,e,q⟩:=q1;subst e;obtain⟨t,rfl⟩:=r1;have fin:∀b∈[s1.heap.objs.size],oh X J3 H1 b:=fun b hb=>by
  have e:b=s1.heap.objs.size:=by simpa using hb
  subst e;exact I1.fpOk (aG _) (I1.hok.fresh (aG _))
 cases ha:x.cps.all (·<128)
 ·refine wpAny_pyIter_wide ha ?_;exact⟨s1.heap.objs.size,[s1.heap.objs.size],_,_,H1,rfl,I1.kept (t':=s1.toks) fun b o e=>bj _ e,Dj x t _,⟨_,cK _ rfl,rfl,rfl⟩,fin,q⟩
 ·refine wpAny_pyIter_ascii ha ?_;exact⟨s1.heap.objs.size,[s1.heap.objs.size],_,_,H1,rfl,I1.kept (t':=s1.toks) fun b o e=>bj _ e,Ay x t _,⟨_,cK _ rfl,rfl,rfl⟩,fin,q⟩
end
def Jx(K:Za)(a b:Addr):It :=
  ⟨fun i H=>∃xs ys x y,aA K H a xs/\aA K H b ys/\xs[i]?=some x/\ys[i]?=some y,
   fun i H x H'=>∃p u v,x=.ref p/\H p=none/\(∀xs,aA K H a xs->xs[i]?=some u)/\(∀ys,aA K H b ys->ys[i]?=some v)/\H'=upd H p (.tup [u,v]),
   fun i H=>∃xs ys,aA K H a xs/\aA K H b ys/\(xs.length<=i∨ys.length<=i)⟩
theorem EL{K:Za}{es:List Expr}{kx:Nat}{J7:Pos}(a b z TI TO i1 i2:Addr)(D:pR z TI TO i1 i2 a b):
  rO P w K (.Tuple es kx J7) (Jx K a b) [z,TI,TO,i1,i2] z (fun i h=>IsZip h z TI TO .none/\IsPair h TI (.ref i1) (.ref i2)/\(∃a b,IsPair h TO a b)/\h.IsListIter i1 a i/\h.IsListIter i2 b i) where
 mem:=by simp
 obj:=fun i h st c hc=>by
  obtain⟨hz,hTI,⟨u,v,hTO⟩,h1,h2⟩:=st;simp only[bM,sK,or_false]at hc;rcases hc with rfl|rfl|rfl|rfl|rfl
  ·exact⟨_,hz,fun v z=>by cases z⟩
  ·exact⟨_,hTI,fun v z=>by cases z⟩
  ·exact⟨_,hTO,fun v z=>by cases z⟩
  ·obtain⟨o,e,c,d⟩:=h1;exact⟨o,e,fun v z=>by rw[d]at z;cases z⟩
  ·obtain⟨o,e,c,d⟩:=h2;exact⟨o,e,fun v z=>by rw[d]at z;cases z⟩
 keep:=fun i h h' st k=>by
  obtain⟨hz,hTI,⟨u,v,hTO⟩,h1,h2⟩:=st;exact⟨k z (by simp) _ hz,k TI (by simp) _ hTI,⟨u,v,k TO (by simp) _ hTO⟩,h1.at fun o e=>k i1 (by simp) o e,h2.at fun o e=>k i2 (by simp) o e⟩
 item:=by
  intro X hP hw hK hc i J3 s σ H E I hf st hg;subst hP hw hK;obtain⟨hz,hTI,⟨u0,v0,hTO⟩,h1,h2⟩:=st;obtain⟨xs,ys,x,y,hqx,hqy,hx,hy⟩:=hg;obtain⟨its,rx,px,zx⟩:=I.list hqx;obtain⟨jts,ry,py,zy⟩:=I.list hqy;obtain⟨u,hu,ru⟩:=rx.get hx;obtain⟨v,hv,rv⟩:=ry.get hy;refine wpAny_pyNext_zip_item D hz hTI hTO h1 h2 px.isList py.isList (x:=u) (y:=v) (by simpa using hu) (by simpa using hv) fun h' a1 a2 a3 a4 a5 a6 hk=>?_;refine⟨_,rfl,wpAny_letOwnedTupleGo_zip (s:={ s with heap:=h' }) a1 fun h2' hz2 hs2=>?_⟩;have hs2':fD z h' h2':=hs2;have nsz:s.heap.objs.size≠z:=gF (aY hz);have nsTO:s.heap.objs.size≠TO:=gF (aY hTO);have nsTI:s.heap.objs.size≠TI:=gF (aY hTI);have nsi1:s.heap.objs.size≠i1:=by obtain⟨o,ho,_⟩:=h1;exact gF (aY ho)
  have nsi2:s.heap.objs.size≠i2:=by obtain⟨o,ho,_⟩:=h2;exact gF (aY ho)
  have ht2:IsPair h2' s.heap.objs.size u v:=hs2'.extBut _ _ nsz a5;have I2:Inv X J3 σ (upd H s.heap.objs.size (.tup [x,y])) { s with heap:=h2',toks:=s.toks }:=by
   refine I.turnedNew (ch:=[z,TI,TO,i1,i2]) hf (fun c o hc q=>?_) ⟨_,ht2⟩ (fun _ z=>nomatch z) ⟨by show 2<=aj;decide,[u,v],.cons ru (.cons rv .nil),⟨_,ht2,rfl,_,rfl⟩⟩;have n1:c≠z:=fun q=>hc (by simp[q]);exact hs2'.extBut _ _ n1 (hk c o n1 (fun q=>hc (by simp[q])) (fun q=>hc (by simp[q])) (fun q=>hc (by simp[q])) q)
  refine⟨.ref s.heap.objs.size,_,I2,rfl,⟨_,x,y,rfl,I.fresh,fun zs hz=>by rw[I.list_inj hz hqx];exact hx,fun zs hz=>by rw[I.list_inj hz hqy];exact hy,rfl⟩,⟨hz2,hs2'.extBut _ _ D.TIz (hk _ _ D.TIz D.TITO D.TIi1 D.TIi2 hTI),⟨_,_,hs2'.extBut _ _ D.TOz a2⟩,a3.at fun o e=>hs2'.extBut _ _ D.i1z e,a4.at fun o e=>hs2'.extBut _ _ D.i2z e⟩,fun c hc=>?_⟩;have hcn:=(hf c hc).1;simp only[bM,sK,or_false]at hc;have ne:c≠s.heap.objs.size:=by
   rcases hc with rfl|rfl|rfl|rfl|rfl
   ·exact nsz.symm
   ·exact nsTI.symm
   ·exact nsTO.symm
   ·exact nsi1.symm
   ·exact nsi2.symm
  rw[ag ne];exact hcn
 done:=by
  intro X hP hw hK hc i J3 s σ H E I hf st hg;subst hP hw hK;obtain⟨hz,hTI,⟨u0,v0,hTO⟩,h1,h2⟩:=st;obtain⟨xs,ys,hqx,hqy,hend⟩:=hg;obtain⟨its,rx,px,zx⟩:=I.list hqx;obtain⟨jts,ry,py,zy⟩:=I.list hqy;have lx:=rx.length;have ly:=ry.length;refine wpAny_pyNext_zip_end (I.ok.hd hc) D hz hTI hTO h1 h2 px.isList py.isList (by rcases hend with q|q;exact .inl (by simp;omega);exact .inr (by simp;omega)) fun h' hk=>⟨rfl,?_⟩;have tr:∀c q,H c=some q->c∉[z,TI,TO,i1,i2]:=fun c q e m=>by rw[(hf c m).1]at e;cases e
  have kk:∀c o,c∉[z,TI,TO,i1,i2]->s.heap.get? c=some o->h'.get? c=some o:=fun c o hc q=>hk c o (fun q=>hc (by simp[q])) (fun q=>hc (by simp[q])) (fun q=>hc (by simp[q])) (fun q=>hc (by simp[q])) q;refine I.step (g':=s.gens) (d':=s.drawn) (t':=s.toks) (ch:=[z,TI,TO,i1,i2]) (fun c hc=>?_) (fun c o _ _ hc e _=>kk c o hc e) (fun c o _ _ hc e _=>⟨o.slots,kk c o hc e⟩) (fun _ _ _ _ n=>n) (fun c o hc e=>⟨o,kk c o hc e⟩) (fun _ _ e=>e) (fun _ _ _ e=>e) (fun c ps e=>⟨#[],by rw[e];simp⟩) (fun m hm=>?_) (fun c q e=>?_) I.bare
  ·obtain⟨f0,f1,f2,f3,f4,f5⟩:=hf c hc;exact⟨f3,f1,f4,f5⟩
  ·obtain⟨q,es',ep,ho,r⟩:=hm;exact⟨q,es',ep,kk _ q (fun z=>(hf _ z).2.1 rfl) ho,r⟩
  ·refine(I.hok c q e).stay (fun d v hd q'=>kk d v ?_ q') (fun _ q=>q) fun _ _ q=>q;rcases hd with z|z
   ·subst z;exact tr _ _ e
   ·exact tr _ _ z
 self:=fun _ _ _ _ _ st h=>wL st.1 h
section
variable{prog:ck}{w:World}{A:Around}{E:Zc}{s:Shared}
theorem kg{it t:Addr}{i:Nat}{items:Array Value}{x:Value}{Q:Zc}(st:s.heap.IsTupleIter it t i)(tt:s.heap.IsTuple t items)(hx:items[i]?=some x)
  (k:∀h',h'.IsTupleIter it t (i+1)->fD it s.heap h'->Q x { s with heap:=h' }):wpAny (model prog w) A (lc (.ref it)) Q E s:=by
 obtain⟨oi,gi,ci,di⟩:=id st;obtain⟨ot,gt,_,nt,dt⟩:=tt;unfold lc;refine ak (k_ (name:=k9 "__next__") st.typeIs wK
  (pH wK st.typeIs F.entry_tuple_iterator_next ?_ (F.args_tuple_iterator_next_1 _)))
 show wpAny _ _ (field (.ref it) 0 >>= _) _ _ s;refine ak (e_ gi di (x:=.ref t) rfl ?_);show wpAny _ _ (if(Value.ref t==Value.none)=true then _ else _) _ _ s
 rw[if_neg (show ¬((Value.ref t==Value.none)=true)from gK)];show wpAny _ _ (field (.ref it) 1 >>= _) _ _ s;refine ak (e_ gi di (x:=.int i 0) rfl ?_);show wpAny _ _ (seqItems? (.ref t) >>= _) _ _ s;refine ak (mU gt dt ?_);simp only[jp,hx];refine ak (sJ gi di (by simp) (aH ⟨x,rfl,aH (k _ ?_ (k7 ..))⟩));exact⟨_,wS _ gi (Obj.isFreed_of_fields (wJ di _)),(Obj.cls_mapFields ..).trans ci,by
  rw[wJ di];simp[rawInt]⟩
theorem qX{it t:Addr}{i:Nat}{items:Array Value}(hh:A.handled=none)(st:s.heap.IsTupleIter it t i)(tt:s.heap.IsTuple t items)(hx:items[i]?=none)
  (k:∀h' e,Heap.ExtBut it s.heap h'->(∃o,h'.get? e=some o/\o.cls=.type "StopIteration")->E (.ref e) { s with heap:=h' }):wpAny (model prog w) A (lc (.ref it)) Q E s:=by
 obtain⟨oi,gi,ci,di⟩:=id st;obtain⟨ot,gt,_,nt,dt⟩:=tt;unfold lc;refine ak (k_ (name:=k9 "__next__") st.typeIs wK
  (pH wK st.typeIs F.entry_tuple_iterator_next ?_ (F.args_tuple_iterator_next_1 _)))
 show wpAny _ _ (field (.ref it) 0 >>= _) _ _ s;refine ak (e_ gi di (x:=.ref t) rfl ?_);show wpAny _ _ (if(Value.ref t==Value.none)=true then _ else _) _ _ s
 rw[if_neg (show ¬((Value.ref t==Value.none)=true)from gK)];show wpAny _ _ (field (.ref it) 1 >>= _) _ _ s;refine ak (e_ gi di (x:=.int i 0) rfl ?_);show wpAny _ _ (seqItems? (.ref t) >>= _) _ _ s;refine ak (mU gt dt ?_);simp only[jp,hx];refine ak (yD (ak (sJ gi di (by simp) ?_)));show wpAny _ _ (newExc (.type "StopIteration") [] >>= _) _ _ _;refine ak ?_;simp only[newExc,newTuple];refine ak (jo ?_ (by size_fits));refine ak (m:=pQ _ _) (wpAny_of_eq (a:=Value.none) (by first|rfl|(simp only[pQ];rfl)) ?_)
 refine jo ?_ (by size_fits);simp only[raiseNew];refine ak (wpAny_handled ?_)
 first|rw[show A.in1.handled=none from hh] | rw[hh]
 refine ak (aH (wpAny_throw ?_));exact k _ _ (((k7 ..).extBut.push _).push _) ⟨_,cK _ rfl,rfl⟩
theorem Dh{TI TO:Addr}{k1 k2:Nat}{xs ys:Array Value}{x y:Value}{Q:Zc}(D:pR z TI TO i1 i2 l1 l2)
  (gz:IsZip s.heap z TI TO .none) (gI:IsPair s.heap TI (.ref i1) (.ref i2)) (gO:IsPair s.heap TO a b)
  (g1:s.heap.IsTupleIter i1 l1 k1) (g2:s.heap.IsTupleIter i2 l2 k2) (t1:s.heap.IsTuple l1 xs) (t2:s.heap.IsTuple l2 ys) (hx:xs[k1]?=some x) (hy:ys[k2]?=some y)
  (k:∀h',IsZip h' z TI TO (rawInt s.heap.objs.size)->IsPair h' TO x y->h'.IsTupleIter i1 l1 (k1+1)->h'.IsTupleIter i2 l2 (k2+1)->IsPair h' s.heap.objs.size x y->h'.objs.size=s.heap.objs.size+1 ->
   (∀c o,c≠z->c≠TO->c≠i1->c≠i2->s.heap.get? c=some o->h'.get? c=some o)->Q (.ref s.heap.objs.size) { s with heap:=h' }) :
  wpAny (model prog w) A (bZ.«zip.__next__» ⟨[.ref z],[]⟩) (fun fin s'=>∃v,fin=.done (.ret v)/\Q v s') E s:=by
 show wpAny _ _ (field (.ref z) 2 >>= _) _ _ _;refine ak (e_ gz rfl (x:=.bool false) rfl ?_);show wpAny _ _ (field (.ref z) 3 >>= _) _ _ _;refine ak (e_ gz rfl (x:=.ref TI) rfl ?_);refine ak (mU gI rfl ?_);show wpAny _ _ (wI (.ref z) >>= _) _ _ _;refine ak ?_;unfold wI;refine ak (e_ gz rfl (x:=.none) rfl (aH ?_));simp only[if_true];refine ak (yD ?_);refine ak (e_ gz rfl (x:=.ref TO) rfl ?_);refine ak (iN gz (by simp) fun m₁ gz₁ u₁=>?_)
 replace gz₁:IsZip m₁ z TI TO .ellipsis:=gz₁
 refine ak ?_;simp only[List.zipIdx_cons,List.zipIdx_nil,pS,List.forIn_nil];refine ak (ak (wH ?_));show wpAny _ _ (lc (.ref i1) >>= _) _ _ _;refine ak (kg (g1.extBut u₁.extBut D.i1z) (t1.extBut u₁.extBut D.l1z) hx fun m₂ g1₂ u₂=>aH ?_);have gO₂:IsPair m₂ TO a b:=u₂.extBut _ _ D.TOi1 (u₁.extBut _ _ D.TOz gO);refine ak (mU gO₂ rfl ?_);refine ak (wpAny_updateSeq_pair gO₂ fun m₃ gO₃ u₃=>?_)
 replace gO₃:IsPair m₃ TO x b:=gO₃
 refine ak (wG (aH ?_));refine ak (ak (wH ?_));show wpAny _ _ (lc (.ref i2) >>= _) _ _ _;refine ak (kg (((g2.extBut u₁.extBut D.i2z).extBut u₂.extBut D.i12.symm).extBut u₃.extBut D.TOi2.symm)
  (((t2.extBut u₁.extBut D.l2z).extBut u₂.extBut D.l2i1).extBut u₃.extBut D.l2TO) hy fun m₄ g2₄ u₄=>aH ?_)
 have gO₄:IsPair m₄ TO x b:=u₄.extBut _ _ D.TOi2 gO₃;refine ak (mU gO₄ rfl ?_);refine ak (wpAny_updateSeq_pair gO₄ fun m₅ gO₅ u₅=>?_)
 replace gO₅:IsPair m₅ TO x y:=gO₅
 refine ak (wG (aH (aH ?_)));refine ak (mU gO₅ rfl ?_);refine ak (wpAny_newTuple ?_);have esz:m₅.objs.size=s.heap.objs.size:=by rw[u₅.1,u₄.1,u₃.1,u₂.1,u₁.1]
 have gz₅:IsZip m₅ z TI TO .ellipsis:=u₅.extBut _ _ D.TOz.symm (u₄.extBut _ _ D.i2z.symm (u₃.extBut _ _ D.TOz.symm (u₂.extBut _ _ D.i1z.symm gz₁)));have kp₅:∀c o,c≠z->c≠TO->c≠i1->c≠i2->s.heap.get? c=some o->m₅.get? c=some o:=fun c o c1 c2 c3 c4 e =>
  u₅.extBut _ _ c2 (u₄.extBut _ _ c4 (u₃.extBut _ _ c2 (u₂.extBut _ _ c3 (u₁.extBut _ _ c1 e))))
 have g1₅:m₅.IsTupleIter i1 l1 (k1+1):=((g1₂.extBut u₃.extBut D.TOi1.symm).extBut u₄.extBut D.i12).extBut u₅.extBut D.TOi1.symm;have g2₅:m₅.IsTupleIter i2 l2 (k2+1):=g2₄.extBut u₅.extBut D.TOi2.symm;have zlt:z<m₅.objs.size:=aY gz₅;show wpAny _ _ (bZ.SmallTypes.ownedTupleHandOut (.ref z) (.ref m₅.objs.size) >>= _) _ _ _;refine ak ?_;unfold bZ.SmallTypes.ownedTupleHandOut;have gz₆:IsZip (m₅.push { cls:=.type "tuple",data:=.seq #[x,y] }) z TI TO .ellipsis:=bj _ gz₅;refine ak (iN gz₆ (by simp) fun m₇ gz₇ u₇=>?_)
 replace gz₇:IsZip m₇ z TI TO (rawInt m₅.objs.size):=gz₇
 refine iN gz₇ (by simp) fun m₈ gz₈ u₈=>?_
 replace gz₈:IsZip m₈ z TI TO (rawInt m₅.objs.size):=gz₈
 have up:∀c o,c≠z->m₅.get? c=some o->m₈.get? c=some o:=fun c o c1 e=>u₈.extBut _ _ c1 (u₇.extBut _ _ c1 (bj _ e));have gT₈:IsPair m₈ m₅.objs.size x y:=u₈.extBut _ _ (gF zlt) (u₇.extBut _ _ (gF zlt) (cK _ rfl));have ez8:m₈.objs.size=m₅.objs.size+1:=by rw[u₈.1,u₇.1,oz]
 rw[esz]at gz₈ gT₈ ez8;refine aH ⟨_,rfl,?_⟩;show Q (.ref m₅.objs.size) _;rw[esz];refine k m₈ gz₈ (up _ _ D.TOz gO₅) ?_ ?_ gT₈ ez8 fun c o c1 c2 c3 c4 e=>up c o c1 (kp₅ c o c1 c2 c3 c4 e)
 ·obtain⟨o,e,r⟩:=g1₅;exact⟨o,up _ o D.i1z e,r⟩
 ·obtain⟨o,e,r⟩:=g2₅;exact⟨o,up _ o D.i2z e,r⟩
theorem EF{TI TO:Addr}{k1 k2:Nat}{xs ys:Array Value}(hh:A.handled=none)(D:pR z TI TO i1 i2 l1 l2)
  (gz:IsZip s.heap z TI TO .none) (gI:IsPair s.heap TI (.ref i1) (.ref i2)) (gO:IsPair s.heap TO a b)
  (g1:s.heap.IsTupleIter i1 l1 k1) (g2:s.heap.IsTupleIter i2 l2 k2) (t1:s.heap.IsTuple l1 xs) (t2:s.heap.IsTuple l2 ys) (fin:xs[k1]?=none∨ys[k2]?=none)
  (k:∀h' e,(∀c o,c≠z->c≠TO->c≠i1->c≠i2->s.heap.get? c=some o->h'.get? c=some o)->(∃o,h'.get? e=some o/\o.cls=.type "StopIteration")->E (.ref e) { s with heap:=h' }) :
  wpAny (model prog w) A (bZ.«zip.__next__» ⟨[.ref z],[]⟩) Q E s:=by
 show wpAny _ _ (field (.ref z) 2 >>= _) _ _ _;refine ak (e_ gz rfl (x:=.bool false) rfl ?_);show wpAny _ _ (field (.ref z) 3 >>= _) _ _ _;refine ak (e_ gz rfl (x:=.ref TI) rfl ?_);refine ak (mU gI rfl ?_);show wpAny _ _ (wI (.ref z) >>= _) _ _ _;refine ak ?_;unfold wI;refine ak (e_ gz rfl (x:=.none) rfl (aH ?_));simp only[if_true];refine ak (yD ?_);refine ak (e_ gz rfl (x:=.ref TO) rfl ?_);refine ak (iN gz (by simp) fun m₁ gz₁ u₁=>?_)
 replace gz₁:IsZip m₁ z TI TO .ellipsis:=gz₁
 refine ak ?_;simp only[List.zipIdx_cons,List.zipIdx_nil,pS,List.forIn_nil];refine ak (ak (wH ?_));show wpAny _ _ (lc (.ref i1) >>= _) _ _ _;cases hx:xs[k1]? with
 |none =>
  refine ak (qX hh (g1.extBut u₁.extBut D.i1z) (t1.extBut u₁.extBut D.l1z) hx fun m₂ e u₂ he=>?_);obtain⟨oe,ge,ce⟩:=he;have gz₂:IsZip m₂ z TI TO .ellipsis:=u₂ _ _ D.i1z.symm gz₁;have nez:e≠z:=fun q=>by subst q;rw[gz₂]at ge;cases ge;simp at ce
  refine iN gz₂ (by simp) fun m₃ _ u₃=>k m₃ e (fun c o c1 _ c3 _ q=>u₃.extBut _ _ c1 (u₂ _ _ c3 (u₁.extBut _ _ c1 q))) ⟨oe,u₃.extBut _ _ nez ge,ce⟩
 |some x =>
  have hy:ys[k2]?=none:=by rcases fin with q|q;rw[hx]at q;cases q;exact q
  refine ak (kg (g1.extBut u₁.extBut D.i1z) (t1.extBut u₁.extBut D.l1z) hx fun m₂ g1₂ u₂=>aH ?_);have gO₂:IsPair m₂ TO a b:=u₂.extBut _ _ D.TOi1 (u₁.extBut _ _ D.TOz gO);refine ak (mU gO₂ rfl ?_);refine ak (wpAny_updateSeq_pair gO₂ fun m₃ gO₃ u₃=>?_);refine ak (wG (aH ?_));refine ak (ak (wH ?_));show wpAny _ _ (lc (.ref i2) >>= _) _ _ _;refine ak (qX hh (((g2.extBut u₁.extBut D.i2z).extBut u₂.extBut D.i12.symm).extBut u₃.extBut D.TOi2.symm)
   (((t2.extBut u₁.extBut D.l2z).extBut u₂.extBut D.l2i1).extBut u₃.extBut D.l2TO) hy fun m₄ e u₄ he=>?_)
  obtain⟨oe,ge,ce⟩:=he;have gz₄:IsZip m₄ z TI TO .ellipsis:=u₄ _ _ D.i2z.symm (u₃.extBut _ _ D.TOz.symm (u₂.extBut _ _ D.i1z.symm gz₁));have nez:e≠z:=fun q=>by subst q;rw[gz₄]at ge;cases ge;simp at ce
  refine iN gz₄ (by simp) fun m₅ _ u₅=>k m₅ e (fun c o c1 c2 c3 c4 q=>u₅.extBut _ _ c1 (u₄ _ _ c4 (u₃.extBut _ _ c2 (u₂.extBut _ _ c3 (u₁.extBut _ _ c1 q))))) ⟨oe,u₅.extBut _ _ nez ge,ce⟩
theorem u4{TI TO:Addr}{k1 k2:Nat}{xs ys:Array Value}{x y:Value}{Q:Option Value->Shared->Prop}(D:pR z TI TO i1 i2 l1 l2)
  (gz:IsZip s.heap z TI TO .none) (gI:IsPair s.heap TI (.ref i1) (.ref i2)) (gO:IsPair s.heap TO a b)
  (g1:s.heap.IsTupleIter i1 l1 k1) (g2:s.heap.IsTupleIter i2 l2 k2) (t1:s.heap.IsTuple l1 xs) (t2:s.heap.IsTuple l2 ys) (hx:xs[k1]?=some x) (hy:ys[k2]?=some y)
  (k:∀h',IsZip h' z TI TO (rawInt s.heap.objs.size)->IsPair h' TO x y->h'.IsTupleIter i1 l1 (k1+1)->h'.IsTupleIter i2 l2 (k2+1)->IsPair h' s.heap.objs.size x y->h'.objs.size=s.heap.objs.size+1 ->
   (∀c o,c≠z->c≠TO->c≠i1->c≠i2->s.heap.get? c=some o->h'.get? c=some o)->Q (some (.ref s.heap.objs.size)) { s with heap:=h' }) :
  wpAny (model prog w) A (pyNext (.ref z)) Q E s:=by
 have hT:s.TypeIs (.ref z) "zip":=⟨_,gz,rfl⟩;unfold pyNext;exact ak (pP (k_ (name:=k9 "__next__") hT wF
  (pH wF hT F.entry_zip_next
   (Dh D gz gI gO g1 g2 t1 t2 hx hy fun h' a1 a2 a3 a4 a5 a6 a7=>aH (k h' a1 a2 a3 a4 a5 a6 a7)) (F.args_zip_next_1 _))))
theorem xH{TI TO:Addr}{k1 k2:Nat}{xs ys:Array Value}{Q:Option Value->Shared->Prop}(hh:A.handled=none)(D:pR z TI TO i1 i2 l1 l2)
  (gz:IsZip s.heap z TI TO .none) (gI:IsPair s.heap TI (.ref i1) (.ref i2)) (gO:IsPair s.heap TO a b)
  (g1:s.heap.IsTupleIter i1 l1 k1) (g2:s.heap.IsTupleIter i2 l2 k2) (t1:s.heap.IsTuple l1 xs) (t2:s.heap.IsTuple l2 ys) (fin:xs[k1]?=none∨ys[k2]?=none)
  (k:∀h',(∀c o,c≠z->c≠TO->c≠i1->c≠i2->s.heap.get? c=some o->h'.get? c=some o)->Q none { s with heap:=h' }):wpAny (model prog w) A (pyNext (.ref z)) Q E s:=by
 have hT:s.TypeIs (.ref z) "zip":=⟨_,gz,rfl⟩;unfold pyNext;refine ak (pP (k_ (name:=k9 "__next__") hT wF
  (pH wF hT F.entry_zip_next (EF hh D gz gI gO g1 g2 t1 t2 fin fun h' e kp he=>?_) (F.args_zip_next_1 _))))
 obtain⟨o,ho,hc⟩:=he;refine ak (yI (T:="StopIteration") (b:=true) ⟨o,ho,hc⟩ isSubtype_stop ?_);exact aH (k _ kp)
end
abbrev JK(h:Heap)(l1:Addr):Heap:=h.push { cls:=.type "tuple_iterator",data:=.fields #[.ref l1,.int 0 0] }
abbrev JJ(h:Heap)(l1 l2:Addr):Heap:=(JK h l1).push { cls:=.type "tuple_iterator",data:=.fields #[.ref l2,.int 0 0] }
abbrev JI(h:Heap)(l1 l2:Addr):Heap:=(JJ h l1 l2).push { cls:=.type "tuple",data:=.seq #[.ref h.objs.size,.ref (JK h l1).objs.size] }
abbrev JH(h:Heap)(l1 l2:Addr):Heap:=(JI h l1 l2).push { cls:=.type "tuple",data:=.seq #[.none,.none] }
abbrev IZ(h:Heap)(l1 l2:Addr):Heap:=(JH h l1 l2).push { cls:=.type "zip",data:=.fields #[.none,.bool false,.bool false,.ref (JJ h l1 l2).objs.size,.ref (JI h l1 l2).objs.size] }
theorem Bg(l1 l2:Addr)(xs ys:Array Value):
  Meets (bZ.«zip.__new__» ⟨[.type "zip",.ref l1,.ref l2],[]⟩) (fun _ R s=>s.heap.IsTuple l1 xs/\s.heap.IsTuple l2 ys /\
   R (.ok (.ret (.ref (JH s.heap l1 l2).objs.size))) { s with heap:=IZ s.heap l1 l2 }) :=
 .of_wp fun prog w A R s h=>by
  obtain⟨hp,g,d,tk,os⟩:=s;obtain⟨q1,q2,h⟩:=h;have hsub:=sub_zip;have T1:Heap.IsTuple (Shared.heap ⟨hp,g,d,tk,os⟩) l1 xs:=q1;have T2:Heap.IsTuple (Shared.heap ⟨hp.push { cls:=.type "tuple_iterator",data:=.fields #[.ref l1,.int 0 0] },g,d,tk,os⟩) l2 ys:=Heap.IsTuple.push q2 _
  wp_walk using Cg T1,Cg T2
  exact⟨_,rfl,h⟩
section
variable{prog:ck}{w:World}{A:Around}{E:Zc}{s:Shared}
theorem El{l1 l2:Addr}{xs ys:Array Value}{Q:Zc}(t1:s.heap.IsTuple l1 xs)(t2:s.heap.IsTuple l2 ys)
  (k:∀h',IsZip h' (s.heap.objs.size+4) (s.heap.objs.size+2) (s.heap.objs.size+3) .none->IsPair h' (s.heap.objs.size+2) (.ref s.heap.objs.size) (.ref (s.heap.objs.size+1)) ->
   IsPair h' (s.heap.objs.size+3) .none .none->h'.IsTupleIter s.heap.objs.size l1 0->h'.IsTupleIter (s.heap.objs.size+1) l2 0->(∀c o,s.heap.get? c=some o->h'.get? c=some o)->Q (.ref (s.heap.objs.size+4)) { s with heap:=h' }) :
  wpAny (model prog w) A (call (.type "zip") [.ref l1,.ref l2]) Q E s:=by
 refine callType_new F.called_zip (by decide) (F.typeCall_zip_2 _ _) (F.newCall_zip_2 _ _) (fun obj=>F.args_object_init_3 obj _ _) F.entry_zip_new
  (Bg l1 l2 xs ys) ⟨t1,t2,?_⟩
 have z1:(JK s.heap l1).objs.size=s.heap.objs.size+1:=oz ..;have z2:(JJ s.heap l1 l2).objs.size=s.heap.objs.size+2:=by rw[oz,z1]
 have z3:(JI s.heap l1 l2).objs.size=s.heap.objs.size+3:=by rw[oz,z2]
 have z4:(JH s.heap l1 l2).objs.size=s.heap.objs.size+4:=by rw[oz,z3]
 have g5:(IZ s.heap l1 l2).get? (JH s.heap l1 l2).objs.size=some _:=cK _ rfl;have g4:(IZ s.heap l1 l2).get? (JI s.heap l1 l2).objs.size=some _:=bj _ (cK _ rfl);have g3:(IZ s.heap l1 l2).get? (JJ s.heap l1 l2).objs.size=some _:=bj _ (bj _ (cK _ rfl));have g2:(IZ s.heap l1 l2).get? (JK s.heap l1).objs.size=some _:=bj _ (bj _ (bj _ (cK _ rfl)));have g1:(IZ s.heap l1 l2).get? s.heap.objs.size=some _:=bj _ (bj _ (bj _ (bj _ (cK _ rfl))));show _/\_;rw[z2,z3,z4]at g5;rw[z1,z2]at g3;rw[z3]at g4;rw[z1]at g2;rw[z4];exact⟨⟨_,g5,rfl⟩,k _ g5 g3 g4 ⟨_,g1,rfl,rfl⟩ ⟨_,g2,rfl,rfl⟩ fun c o x =>
  bj _ (bj _ (bj _ (bj _ (bj _ x))))⟩
end
def GD(K:Za)(a b:Addr):It :=
  ⟨fun i H=>∃xs ys x y,bD K H a xs/\bD K H b ys/\xs[i]?=some x/\ys[i]?=some y,
   fun i H x H'=>∃p u v,x=.ref p/\H p=none/\(∀xs,bD K H a xs->xs[i]?=some u)/\(∀ys,bD K H b ys->ys[i]?=some v)/\H'=upd H p (.tup [u,v]),
   fun i H=>∃xs ys,bD K H a xs/\bD K H b ys/\(xs.length<=i∨ys.length<=i)⟩
theorem Di{K:Za}{es:List Expr}{kx:Nat}{J7:Pos}(a b z TI TO i1 i2:Addr)(D:pR z TI TO i1 i2 a b):
  rO P w K (.Tuple es kx J7) (GD K a b) [z,TI,TO,i1,i2] z (fun i h=>IsZip h z TI TO .none/\IsPair h TI (.ref i1) (.ref i2)/\(∃a b,IsPair h TO a b)/\h.IsTupleIter i1 a i/\h.IsTupleIter i2 b i) where
 mem:=by simp
 obj:=fun i h st c hc=>by
  obtain⟨hz,hTI,⟨u,v,hTO⟩,h1,h2⟩:=st;simp only[bM,sK,or_false]at hc;rcases hc with rfl|rfl|rfl|rfl|rfl
  ·exact⟨_,hz,fun v z=>by cases z⟩
  ·exact⟨_,hTI,fun v z=>by cases z⟩
  ·exact⟨_,hTO,fun v z=>by cases z⟩
  ·obtain⟨o,e,c,d⟩:=h1;exact⟨o,e,fun v z=>by rw[d]at z;cases z⟩
  ·obtain⟨o,e,c,d⟩:=h2;exact⟨o,e,fun v z=>by rw[d]at z;cases z⟩
 keep:=fun i h h' st k=>by
  obtain⟨hz,hTI,⟨u,v,hTO⟩,⟨o1,e1,r1⟩,⟨o2,e2,r2⟩⟩:=st;exact⟨k z (by simp) _ hz,k TI (by simp) _ hTI,⟨u,v,k TO (by simp) _ hTO⟩,⟨o1,k i1 (by simp) o1 e1,r1⟩,⟨o2,k i2 (by simp) o2 e2,r2⟩⟩
 item:=by
  intro X hP hw hK hc i J3 s σ H E I hf st hg;subst hP hw hK;obtain⟨hz,hTI,⟨u0,v0,hTO⟩,h1,h2⟩:=st;obtain⟨xs,ys,x,y,hqx,hqy,hx,hy⟩:=hg;obtain⟨its,rx,px,zx⟩:=I.tuple hqx;obtain⟨jts,ry,py,zy⟩:=I.tuple hqy;obtain⟨u,hu,ru⟩:=rx.get hx;obtain⟨v,hv,rv⟩:=ry.get hy;refine u4 D hz hTI hTO h1 h2 (xs:=its.toArray) (ys:=jts.toArray) px py (x:=u) (y:=v) (by simpa using hu) (by simpa using hv) fun h' a1 a2 a3 a4 a5 a6 hk=>?_;refine⟨_,rfl,wpAny_letOwnedTupleGo_zip (s:={ s with heap:=h' }) a1 fun h2' hz2 hs2=>?_⟩;have hs2':fD z h' h2':=hs2;have nsz:s.heap.objs.size≠z:=gF (aY hz);have nsTO:s.heap.objs.size≠TO:=gF (aY hTO);have nsTI:s.heap.objs.size≠TI:=gF (aY hTI);have nsi1:s.heap.objs.size≠i1:=by obtain⟨o,ho,_⟩:=h1;exact gF (aY ho)
  have nsi2:s.heap.objs.size≠i2:=by obtain⟨o,ho,_⟩:=h2;exact gF (aY ho)
  have ht2:IsPair h2' s.heap.objs.size u v:=hs2'.extBut _ _ nsz a5;have I2:Inv X J3 σ (upd H s.heap.objs.size (.tup [x,y])) { s with heap:=h2',toks:=s.toks }:=by
   refine I.turnedNew (ch:=[z,TI,TO,i1,i2]) hf (fun c o hc q=>?_) ⟨_,ht2⟩ (fun _ z=>nomatch z) ⟨by show 2<=aj;decide,[u,v],.cons ru (.cons rv .nil),⟨_,ht2,rfl,_,rfl⟩⟩;have n1:c≠z:=fun q=>hc (by simp[q]);exact hs2'.extBut _ _ n1 (hk c o n1 (fun q=>hc (by simp[q])) (fun q=>hc (by simp[q])) (fun q=>hc (by simp[q])) q)
  have a3':h2'.IsTupleIter i1 a (i+1):=by obtain⟨o,e,r⟩:=a3;exact⟨o,hs2'.extBut _ _ D.i1z e,r⟩
  have a4':h2'.IsTupleIter i2 b (i+1):=by obtain⟨o,e,r⟩:=a4;exact⟨o,hs2'.extBut _ _ D.i2z e,r⟩
  refine⟨.ref s.heap.objs.size,_,I2,rfl,⟨_,x,y,rfl,I.fresh,fun zs hz=>by rw[I.tuple_inj hz hqx];exact hx,fun zs hz=>by rw[I.tuple_inj hz hqy];exact hy,rfl⟩,⟨hz2,hs2'.extBut _ _ D.TIz (hk _ _ D.TIz D.TITO D.TIi1 D.TIi2 hTI),⟨_,_,hs2'.extBut _ _ D.TOz a2⟩,a3',a4'⟩,fun c hc=>?_⟩;have hcn:=(hf c hc).1;simp only[bM,sK,or_false]at hc;have ne:c≠s.heap.objs.size:=by
   rcases hc with rfl|rfl|rfl|rfl|rfl
   ·exact nsz.symm
   ·exact nsTI.symm
   ·exact nsTO.symm
   ·exact nsi1.symm
   ·exact nsi2.symm
  rw[ag ne];exact hcn
 done:=by
  intro X hP hw hK hc i J3 s σ H E I hf st hg;subst hP hw hK;obtain⟨hz,hTI,⟨u0,v0,hTO⟩,h1,h2⟩:=st;obtain⟨xs,ys,hqx,hqy,hend⟩:=hg;obtain⟨its,rx,px,zx⟩:=I.tuple hqx;obtain⟨jts,ry,py,zy⟩:=I.tuple hqy;have lx:=rx.length;have ly:=ry.length;refine xH (I.ok.hd hc) D hz hTI hTO h1 h2 (xs:=its.toArray) (ys:=jts.toArray) px py (by rcases hend with q|q;exact .inl (by simp;omega);exact .inr (by simp;omega)) fun h' hk=>⟨rfl,?_⟩;have tr:∀c q,H c=some q->c∉[z,TI,TO,i1,i2]:=fun c q e m=>by rw[(hf c m).1]at e;cases e
  have kk:∀c o,c∉[z,TI,TO,i1,i2]->s.heap.get? c=some o->h'.get? c=some o:=fun c o hc q=>hk c o (fun q=>hc (by simp[q])) (fun q=>hc (by simp[q])) (fun q=>hc (by simp[q])) (fun q=>hc (by simp[q])) q;refine I.step (g':=s.gens) (d':=s.drawn) (t':=s.toks) (ch:=[z,TI,TO,i1,i2]) (fun c hc=>?_) (fun c o _ _ hc e _=>kk c o hc e) (fun c o _ _ hc e _=>⟨o.slots,kk c o hc e⟩) (fun _ _ _ _ n=>n) (fun c o hc e=>⟨o,kk c o hc e⟩) (fun _ _ e=>e) (fun _ _ _ e=>e) (fun c ps e=>⟨#[],by rw[e];simp⟩) (fun m hm=>?_) (fun c q e=>?_) I.bare
  ·obtain⟨f0,f1,f2,f3,f4,f5⟩:=hf c hc;exact⟨f3,f1,f4,f5⟩
  ·obtain⟨q,es',ep,ho,r⟩:=hm;exact⟨q,es',ep,kk _ q (fun z=>(hf _ z).2.1 rfl) ho,r⟩
  ·refine(I.hok c q e).stay (fun d v hd q'=>kk d v ?_ q') (fun _ q=>q) fun _ _ q=>q;rcases hd with z|z
   ·subst z;exact tr _ _ e
   ·exact tr _ _ z
 self:=fun _ _ _ _ _ st h=>wL st.1 h
section
variable{X:Cx}{p pos:Pos}{es:List Expr}{kx:Nat}{J7:Pos}
def CV(K:Za)(ta:TA):TI:=fun σ H R=>ta σ H fun vs H1=>∃a b,vs=[.ref a,.ref b]/\(((∃xs,aA K H1 a xs)/\(∃ys,aA K H1 b ys)/\R (Jx K a b) H1)∨((∃xs,bD K H1 a xs)/\(∃ys,bD K H1 b ys)/\R (GD K a b) H1))
theorem CB{a b:Expr}(hg:Gl X "zip")(hm:X.mg "zip"=none)(ha:PA X [a,b] ta)(hs:aL [a,b] X.env=[(false,eval a X.env),(false,eval b X.env)]:=by rfl)(hs2:aL [b] X.env=[(false,eval b X.env)]:=by rfl):
  PI X (.Tuple es kx J7) (.Call (.Name "zip" p) [a,b] [] pos) (CV X.K ta):=by
 intro J3 s σ H R I h;refine Call_ (qw I hg hm boot_zip (Ce (cD (ha pos J3 s σ H _ I h) fun us s1 ⟨vs,H1,I1,r1,q1⟩=>?_) (by rw[hs,hs2]) (by rw[hs2];rfl)));obtain⟨l1,l2,e,q⟩:=q1;subst e;obtain⟨u,v,rfl,ru,rv⟩:=vals2 r1;cases ru;cases rv;have fin:∀b∈[s1.heap.objs.size+4,s1.heap.objs.size+2,s1.heap.objs.size+3,s1.heap.objs.size,s1.heap.objs.size+1],oh X J3 H1 b:=fun b hb=>by
  have hb':s1.heap.objs.size<=b:=by
   simp only[bM,sK,or_false]at hb;rcases hb with rfl|rfl|rfl|rfl|rfl<;>omega
  exact I1.fpOk hb' (I1.hok.fresh hb')
 rcases q with⟨⟨xs,hx⟩,⟨ys,hy⟩,q⟩|⟨⟨xs,hx⟩,⟨ys,hy⟩,q⟩
 ·obtain⟨its,rx,px,zx⟩:=I1.list hx;obtain⟨jts,ry,py,zy⟩:=I1.list hy;obtain⟨o1,n1,e1,_⟩:=id px;obtain⟨o2,n2,e2,_⟩:=id py;refine call_zip_2 px.isList py.isList fun h' a1 a2 a3 a4 a5 a6 hk=>?_;refine wL (s:={ s1 with heap:=h' }) a1 ?_;have hk':∀b o,s1.heap.get? b=some o->h'.get? b=some o:=hk;have I2:Inv X J3 σ H1 { s1 with heap:=h' }:=I1.kept (t':=s1.toks) hk';exact⟨_,_,_,_,H1,rfl,I2,EL l1 l2 _ _ _ _ _ (zipApart_new (aY e1) (aY e2)),⟨a1,a2,⟨_,_,a3⟩,a4,a5⟩,fin,q⟩
 ·obtain⟨its,rx,px,zx⟩:=I1.tuple hx;obtain⟨jts,ry,py,zy⟩:=I1.tuple hy;obtain⟨o1,e1,_⟩:=id px;obtain⟨o2,e2,_⟩:=id py;refine El (xs:=its.toArray) (ys:=jts.toArray) px py fun h' a1 a2 a3 a4 a5 hk=>?_;refine wL (s:={ s1 with heap:=h' }) a1 ?_;have hk':∀b o,s1.heap.get? b=some o->h'.get? b=some o:=hk;have I2:Inv X J3 σ H1 { s1 with heap:=h' }:=I1.kept (t':=s1.toks) hk';exact⟨_,_,_,_,H1,rfl,I2,Di l1 l2 _ _ _ _ _ (zipApart_new (aY e1) (aY e2)),⟨a1,a2,⟨_,_,a3⟩,a4,a5⟩,fin,q⟩
end
inductive DT where
 |k (a:eS)
 |t (l:List DT)
 |s (l:List DT)
mutual
def Ik:(x y:DT)->Decidable (x=y)
 |.k a,.k b=>if h:a=b then Decidable.isTrue (by rw[h])else Decidable.isFalse fun e=>h (by injection e)
 |.t l,.t m=>match decDTs l m with
  |Decidable.isTrue h=>Decidable.isTrue (by rw[h])
  |Decidable.isFalse h=>Decidable.isFalse fun e=>h (by injection e)
 |.s l,.s m=>match decDTs l m with
  |Decidable.isTrue h=>Decidable.isTrue (by rw[h])
  |Decidable.isFalse h=>Decidable.isFalse fun e=>h (by injection e)
 |.k _,.t _=>Decidable.isFalse nofun
 |.k _,.s _=>Decidable.isFalse nofun
 |.t _,.k _=>Decidable.isFalse nofun
 |.t _,.s _=>Decidable.isFalse nofun
 |.s _,.k _=>Decidable.isFalse nofun
 |.s _,.t _=>Decidable.isFalse nofun
def decDTs:(x y:List DT)->Decidable (x=y)
 |[],[]=>Decidable.isTrue rfl
 |[],_::_=>Decidable.isFalse nofun
 |_::_,[]=>Decidable.isFalse nofun
 |a::l,b::m=>match Ik a b with
  |Decidable.isTrue h=>match decDTs l m with
   |Decidable.isTrue h'=>Decidable.isTrue (by rw[h,h'])
   |Decidable.isFalse h'=>Decidable.isFalse fun e=>h' (by injection e)
  |Decidable.isFalse h=>Decidable.isFalse fun e=>h (by injection e)
end
instance:DecidableEq DT:=Ik
mutual
def DT.depth:DT->Nat
 |.k _=>0
 |.t l=>DT.depths l+1
 |.s l=>DT.depths l+1
def DT.depths:List DT->Nat
 |[]=>0
 |a::r=>max (DT.depth a) (DT.depths r)
end
mutual
def pG(h:Heap):DT->Value->Prop
 |.k a,v=>cL a v=true
 |.t l,v=>∃a items,v=.ref a/\h.IsTuple a items/\DAts h l items.toList
 |.s l,v=>∃a items,v=.ref a/\h.IsList a items/\DAts h l items.toList
def DAts(h:Heap):List DT->List Value->Prop
 |[],vs=>vs=[]
 |k::r,vs=>∃v us,vs=v::us/\pG h k v/\DAts h r us
end
theorem DAts.length:∀{xs:List DT}{vs:Zf},DAts h xs vs->xs.length=vs.length
 |[],vs,e=>by have e':vs=[]:=e;rw[e'];rfl
 |x::xs,vs,e=>by
  obtain⟨v,us,rfl,_,h2⟩:=e;simp[DAts.length h2]
theorem DAts.get:∀{xs:List DT}{vs:Zf}{i:Nat}{v:Value},DAts h xs vs->vs[i]?=some v->∃x,xs[i]?=some x/\pG h x v
 |[],vs,i,v,e,q=>by have e':vs=[]:=e;subst e';simp at q
 |x::xs,vs,i,v,e,q=>by
  obtain⟨u,us,rfl,h1,h2⟩:=e;cases i with
  |zero =>
   simp at q;subst q;exact⟨x,rfl,h1⟩
  |succ i =>
   obtain⟨y,e1,e2⟩:=DAts.get h2 (i:=i) (v:=v) (by simpa using q);exact⟨y,by simpa using e1,e2⟩
theorem DT.depths_get{l:List DT}{x:DT}{i d:Nat}(h:DT.depths l<=d)(e:l[i]?=some x):x.depth<=d:=by
 induction l generalizing i with
 |nil=>simp at e
 |cons a r ih =>
  have h':max a.depth (DT.depths r)<=d:=h;cases i with
  |zero=>simp at e;subst e;omega
  |succ i=>exact ih (by omega) (by simpa using e)
theorem Bt{h:Heap}{a:Addr}{i j:Array Value}(x:h.IsList a i)(y:h.IsList a j):i=j:=by
 obtain⟨o,ho,_,n,hd⟩:=x;obtain⟨o',ho',_,n',hd'⟩:=y;rw[ho]at ho';cases ho';rw[hd]at hd';injection hd'
theorem zY{h:Heap}{a:Addr}{i j:Array Value}(x:h.IsTuple a i)(y:h.IsTuple a j):i=j:=by
 obtain⟨o,ho,_,n,hd⟩:=x;obtain⟨o',ho',_,n',hd'⟩:=y;rw[ho]at ho';cases ho';rw[hd]at hd';injection hd'
theorem jU{h:Heap}{a:Addr}{i j:Array Value}(x:h.IsList a i)(y:h.IsTuple a j):False:=by
 obtain⟨o,ho,hc,_⟩:=x;obtain⟨o',ho',hc',_⟩:=y;rw[ho]at ho';cases ho';rw[hc]at hc';simp at hc'
theorem vW(h1:cL a v=true)(h2:cL b v=true):a=b:=by
 rcases aw h1 with⟨i,t,rfl,rfl⟩|⟨i,t,rfl,rfl⟩
 ·rcases aw h2 with⟨j,u,rfl,e⟩|⟨j,u,rfl,e⟩
  ·cases e;rfl
  ·cases e
 ·rcases aw h2 with⟨j,u,rfl,e⟩|⟨j,u,rfl,e⟩
  ·cases e
  ·cases e;rfl
theorem iI{b:Addr}(h:cL a (.ref b)=true):False:=by
 rcases aw h with⟨_,_,_,e⟩|⟨_,_,_,e⟩<;>cases e
theorem pG.inj:∀(d:Nat) {x y:DT}{v:Value},x.depth<=d->pG h x v->pG h y v->x=y:=by
 have key:∀(d:Nat) (ih:∀{x y:DT}{v:Value},x.depth<=d->pG h x v->pG h y v->x=y) (xs ys:List DT) (vs:Zf),DT.depths xs<=d->DAts h xs vs->DAts h ys vs->xs=ys:=by
  intro d ih xs
  induction xs with
  |nil =>
   intro ys vs _ hx hy;have hx':vs=[]:=hx;subst hx';cases ys with
   |nil=>rfl
   |cons y ys=>obtain⟨_,_,e,_⟩:=hy;cases e
  |cons x xs ihl =>
   intro ys vs hd hx hy;obtain⟨v,us,rfl,hx1,hx2⟩:=hx;cases ys with
   |nil=>have hy':v::us=[]:=hy;cases hy'
   |cons y ys =>
    obtain⟨v',us',e,hy1,hy2⟩:=hy;cases e;have hd':max x.depth (DT.depths xs)<=d:=hd;rw[ih (by omega) hx1 hy1,ihl ys us (by omega) hx2 hy2]
 intro d
 induction d with
 |zero =>
  intro x y v hd hx hy;cases x with
  |t l=>exact absurd hd (by show ¬(DT.depths l+1<=0);omega)
  |s l=>exact absurd hd (by show ¬(DT.depths l+1<=0);omega)
  |k a =>
   cases y with
   |k b=>rw[vW hx hy]
   |t l=>obtain⟨b,_,rfl,_⟩:=hy;exact(iI hx).elim
   |s l=>obtain⟨b,_,rfl,_⟩:=hy;exact(iI hx).elim
 |succ d ih =>
  intro x y v hd hx hy;cases x with
  |k a =>
   cases y with
   |k b=>rw[vW hx hy]
   |t l=>obtain⟨b,_,rfl,_⟩:=hy;exact(iI hx).elim
   |s l=>obtain⟨b,_,rfl,_⟩:=hy;exact(iI hx).elim
  |t l =>
   obtain⟨a,i,rfl,hi,hx⟩:=hx;cases y with
   |k b=>exact(iI hy).elim
   |t m =>
    obtain⟨a',j,e,hj,hy⟩:=hy;cases e;rw[zY hj hi]at hy;rw[key d (fun h1=>ih h1) l m i.toList (by have:DT.depths l+1<=d+1:=hd;omega) hx hy]
   |s m =>
    obtain⟨a',j,e,hj,hy⟩:=hy;cases e;exact(jU hj hi).elim
  |s l =>
   obtain⟨a,i,rfl,hi,hx⟩:=hx;cases y with
   |k b=>exact(iI hy).elim
   |s m =>
    obtain⟨a',j,e,hj,hy⟩:=hy;cases e;rw[Bt hj hi]at hy;rw[key d (fun h1=>ih h1) l m i.toList (by have:DT.depths l+1<=d+1:=hd;omega) hx hy]
   |t m =>
    obtain⟨a',j,e,hj,hy⟩:=hy;cases e;exact(jU hi hj).elim
theorem gk{l m:List DT}(hl:l.length=m.length):((jD l.length).all fun j=>decide (l[j]?=m[j]?))=decide (l=m):=by
 by_cases e:l=m
 ·subst e;simp
 ·rw[zzr0 e];rw[List.all_eq_false];apply sI;intro h;apply e;apply List.ext_getElem?;intro i;by_cases hi:i<l.length
  ·apply sI;intro hne;exact h ⟨i,List.mem_range.mpr hi,by simpa using hne⟩
  ·rw[fx (by omega),fx (by omega)]
section
variable{s:Shared}
theorem Ig:∀(d:Nat) {A:Around}{x y:DT}{u v:Value},x.depth<=d->y.depth<=d->A.units+d<cLine->pG s.heap x u->pG s.heap y v->bG A s u v (decide (x=y)):=by
 have leaves:∀{A:Around}{a b:eS}{u v:Value},cL a u=true->cL b v=true->bG A s u v (decide (DT.k a=DT.k b)):=by
  intro A a b u v h1 h2;have hd:decide (DT.k a=DT.k b)=decide (a=b):=by
   by_cases e:a=b
   ·subst e;simp
   ·have:¬(DT.k a=DT.k b):=fun z=>e (by injection z);rw[zzr0 this,zzr0 e]
  rw[hd];rcases aw h1 with⟨i,t,rfl,rfl⟩|⟨i,t,rfl,rfl⟩
  ·rcases aw h2 with⟨j,u,rfl,rfl⟩|⟨j,u,rfl,rfl⟩
   ·rw[xO];exact bG.int_int i t j u
   ·rw[xN];exact bG.int_str i t j u
  ·rcases aw h2 with⟨j,u,rfl,rfl⟩|⟨j,u,rfl,rfl⟩
   ·rw[xM];exact bG.str_int i t j u
   ·rw[xL];have:=bG.str_str (A:=A) (s:=s) i t j u;rwa[show(i==j)=decide (i=j)from by by_cases e:i=j<;>simp[e]]at this
 have kt:∀{A:Around}{a:eS}{u:Value}{b:Addr}{items:Array Value},A.units<cLine->cL a u=true->s.heap.IsTuple b items->bG A s u (.ref b) false/\bG A s (.ref b) u false:=by
  intro A a u b items hu h1 ht;rcases aw h1 with⟨i,t,rfl,rfl⟩|⟨i,t,rfl,rfl⟩
  ·exact⟨bG.int_tuple i t ht hu,bG.tuple_int i t ht hu⟩
  ·exact⟨bG.str_tuple i t ht hu,bG.tuple_str i t ht hu⟩
 have kl:∀{A:Around}{a:eS}{u:Value}{b:Addr}{items:Array Value},A.units<cLine->cL a u=true->s.heap.IsList b items->bG A s u (.ref b) false/\bG A s (.ref b) u false:=by
  intro A a u b items hu h1 ht;rcases aw h1 with⟨i,t,rfl,rfl⟩|⟨i,t,rfl,rfl⟩
  ·exact⟨bG.int_list i t ht hu,bG.list_int i t ht hu⟩
  ·exact⟨bG.str_list i t ht hu,bG.list_str i t ht hu⟩
 intro d
 induction d with
 |zero =>
  intro A x y u v hdx hdy hu hx hy;cases x with
  |t l=>exact absurd hdx (by show ¬(DT.depths l+1<=0);omega)
  |s l=>exact absurd hdx (by show ¬(DT.depths l+1<=0);omega)
  |k a =>
   cases y with
   |t l=>exact absurd hdy (by show ¬(DT.depths l+1<=0);omega)
   |s l=>exact absurd hdy (by show ¬(DT.depths l+1<=0);omega)
   |k b=>exact leaves hx hy
 |succ d ih =>
  intro A x y u v hdx hdy hu hx hy;have items:∀{l m:List DT}{i j:Array Value},DT.depths l<=d->DT.depths m<=d->DAts s.heap l i.toList->DAts s.heap m j.toList->∀n (h1:n<i.size) (h2:n<j.size),bG A.in1 s i[n] j[n] (decide (l[n]?=m[n]?)):=by
   intro l m i j hl hm hi hj n h1 h2;obtain⟨x,ex,hx⟩:=hi.get (i:=n) (v:=i[n]) (by simp[h1]);obtain⟨y,ey,hy⟩:=hj.get (i:=n) (v:=j[n]) (by simp[h2]);rw[ex,ey];have hd:decide ((some x:Option DT)=some y)=decide (x=y):=by
    by_cases e:x=y
    ·subst e;simp
    ·rw[zzr0 e,zzr0 fun z=>e (eA z)]
   rw[hd];exact ih (DT.depths_get hl ex) (DT.depths_get hm ey) (by show A.units+1+d<cLine;omega) hx hy
  cases x with
  |k a =>
   cases y with
   |k b=>exact leaves hx hy
   |t l =>
    obtain⟨b,i,rfl,hi,_⟩:=hy;rw[zzr0 (by intro z;cases z)];exact(kt (by omega) hx hi).1
   |s l =>
    obtain⟨b,i,rfl,hi,_⟩:=hy;rw[zzr0 (by intro z;cases z)];exact(kl (by omega) hx hi).1
  |t l =>
   have hl:DT.depths l<=d:=by have:DT.depths l+1<=d+1:=hdx;omega
   have hx0:=hx;obtain⟨a,i,rfl,hi,hx⟩:=hx;cases y with
   |k b =>
    rw[zzr0 (by intro z;cases z)];exact(kt (by omega) hy hi).2
   |s m =>
    obtain⟨b,j,rfl,hj,_⟩:=hy;rw[zzr0 (by intro z;cases z)];exact bG.tuple_list hi hj (by omega)
   |t m =>
    have hm:DT.depths m<=d:=by have:DT.depths m+1<=d+1:=hdy;omega
    have hy0:=hy;obtain⟨b,j,rfl,hj,hy⟩:=hy;by_cases hab:a=b
    ·subst hab;have e:DT.t l=DT.t m:=pG.inj _ (aG _) hx0 hy0;rw[zzr1 e];exact bG.same _
    ·have r:=SeqAt.RcAt.tuples (A:=A) hi hj (by omega) (items hl hm hx hy);have li:=hx.length;have lj:=hy.length;simp only[mT]at li lj;have q:((jD (min i.size j.size)).all (fun n=>decide (l[n]?=m[n]?)) && i.size==j.size)=decide (DT.t l=DT.t m):=by
      by_cases e:l.length=m.length
      ·have e1:i.size=j.size:=by omega
       rw[<-e1,Nat.min_self,<-li,gk e];by_cases e2:l=m
       ·subst e2;simp
       ·have:¬(DT.t l=DT.t m):=fun z=>e2 (by injection z);rw[zzr0 this,zzr0 e2];rfl
      ·have e1:(i.size==j.size)=false:=by simp;omega
       have:¬(DT.t l=DT.t m):=fun z=>e (by injection z with z;rw[z]);rw[e1,zzr0 this,wQ]
     rw[q]at r;exact .of_refs hab r
  |s l =>
   have hl:DT.depths l<=d:=by have:DT.depths l+1<=d+1:=hdx;omega
   have hx0:=hx;obtain⟨a,i,rfl,hi,hx⟩:=hx;cases y with
   |k b =>
    rw[zzr0 (by intro z;cases z)];exact(kl (by omega) hy hi).2
   |t m =>
    obtain⟨b,j,rfl,hj,_⟩:=hy;rw[zzr0 (by intro z;cases z)];exact bG.list_tuple hi hj (by omega)
   |s m =>
    have hm:DT.depths m<=d:=by have:DT.depths m+1<=d+1:=hdy;omega
    have hy0:=hy;obtain⟨b,j,rfl,hj,hy⟩:=hy;by_cases hab:a=b
    ·subst hab;have e:DT.s l=DT.s m:=pG.inj _ (aG _) hx0 hy0;rw[zzr1 e];exact bG.same _
    ·have li:=hx.length;have lj:=hy.length;simp only[mT]at li lj;by_cases e:l.length=m.length
     ·have r:=SeqAt.RcAt.lists (A:=A) hi hj (by omega) (by omega) (items hl hm hx hy);rw[<-li,gk e]at r;have q:decide (l=m)=decide (DT.s l=DT.s m):=by
       by_cases e2:l=m
       ·subst e2;simp
       ·have:¬(DT.s l=DT.s m):=fun z=>e2 (by injection z);rw[zzr0 this,zzr0 e2]
      rw[q]at r;exact .of_refs hab r
     ·have:¬(DT.s l=DT.s m):=fun z=>e (by injection z with z;rw[z]);rw[zzr0 this];exact .of_refs hab (SeqAt.RcAt.lists_lengths hi hj (by simp;omega) (by omega))
end
theorem C2(a b:eS):decide (DT.k a=DT.k b)=decide (a=b):=by
 by_cases e:a=b
 ·subst e;simp
 ·rw[zzr0 e,zzr0 fun z=>e (by injection z)]
theorem Ih(l m:List DT):decide (DT.t l=DT.t m)=decide (l=m):=by
 by_cases e:l=m
 ·subst e;simp
 ·rw[zzr0 e,zzr0 fun z=>e (by injection z)]
theorem Ii(l m:List DT):decide (DT.s l=DT.s m)=decide (l=m):=by
 by_cases e:l=m
 ·subst e;simp
 ·rw[zzr0 e,zzr0 fun z=>e (by injection z)]
theorem Gm(x y:DT):decide ((some x:Option DT)=some y)=decide (x=y):=by
 by_cases e:x=y
 ·subst e;simp
 ·rw[zzr0 e,zzr0 fun z=>e (eA z)]
section
variable{A:Around}{s:Shared}
theorem ph{d:Nat}(hu:A.units+1+d<cLine){l m:List DT}{i j:Array Value}(hl:DT.depths l<=d)(hm:DT.depths m<=d)(hi:DAts s.heap l i.toList)(hj:DAts s.heap m j.toList):
  ∀n (h1:n<i.size) (h2:n<j.size),bG A.in1 s i[n] j[n] (decide (l[n]?=m[n]?)):=by
 intro n h1 h2;obtain⟨x,ex,hx⟩:=hi.get (i:=n) (v:=i[n]) (by simp[h1]);obtain⟨y,ey,hy⟩:=hj.get (i:=n) (v:=j[n]) (by simp[h2]);rw[ex,ey,Gm];exact Ig d (DT.depths_get hl ex) (DT.depths_get hm ey) hu hx hy
theorem Co{i j:Array Value}(hi:DAts s.heap l i.toList)(hj:DAts s.heap m j.toList):((jD (min i.size j.size)).all (fun n=>decide (l[n]?=m[n]?)) && i.size==j.size)=decide (l=m):=by
 have li:=hi.length;have lj:=hj.length;simp only[mT]at li lj;by_cases e:l.length=m.length
 ·have e1:i.size=j.size:=by omega
  rw[<-e1,Nat.min_self,<-li,gk e];simp
 ·have e1:(i.size==j.size)=false:=by simp;omega
  rw[e1,zzr0 fun z=>e (by rw[z]),wQ]
theorem Jq{x y:DT}(dx:x.depth<=8)(dy:y.depth<=8)(hu:A.units+16<cLine)(hx:pG s.heap x u)(hy:pG s.heap y v):SeqAt.RcAt A s u v (decide (x=y)):=by
 cases x with
 |k a =>
  rcases aw (show cL a u=true from hx)with⟨i,t,rfl,rfl⟩|⟨i,t,rfl,rfl⟩
  ·cases y with
   |k b =>
    rw[C2];rcases aw (show cL b v=true from hy)with⟨j,t',rfl,rfl⟩|⟨j,t',rfl,rfl⟩
    ·rw[xO];exact SeqAt.RcAt.int_int i t j t'
    ·rw[xN];exact SeqAt.RcAt.int_str i t j t'
   |t m=>obtain⟨b,j,rfl,hj,_⟩:=hy;rw[zzr0 (by intro z;cases z)];exact SeqAt.RcAt.int_tuple i t hj (by omega)
   |s m=>obtain⟨b,j,rfl,hj,_⟩:=hy;rw[zzr0 (by intro z;cases z)];exact SeqAt.RcAt.int_list i t hj (by omega)
  ·cases y with
   |k b =>
    rw[C2];rcases aw (show cL b v=true from hy)with⟨j,t',rfl,rfl⟩|⟨j,t',rfl,rfl⟩
    ·rw[xM];exact SeqAt.RcAt.str_int i t j t'
    ·rw[xL];have:=SeqAt.RcAt.str_str (A:=A) (s:=s) i t j t';rwa[show(i==j)=decide (i=j)from by by_cases e:i=j<;>simp[e]]at this
   |t m=>obtain⟨b,j,rfl,hj,_⟩:=hy;rw[zzr0 (by intro z;cases z)];exact SeqAt.RcAt.str_tuple i t hj (by omega)
   |s m=>obtain⟨b,j,rfl,hj,_⟩:=hy;rw[zzr0 (by intro z;cases z)];exact SeqAt.RcAt.str_list i t hj (by omega)
 |t l =>
  obtain⟨a,i,rfl,hi,hx⟩:=hx;have dl:DT.depths l<=7:=by have:DT.depths l+1<=8:=dx;omega
  cases y with
  |k b =>
   rw[zzr0 (by intro z;cases z)];rcases aw (show cL b v=true from hy)with⟨j,t',rfl,rfl⟩|⟨j,t',rfl,rfl⟩
   ·exact SeqAt.RcAt.tuple_int j t' hi (by omega)
   ·exact SeqAt.RcAt.tuple_str j t' hi (by omega)
  |t m =>
   obtain⟨b,j,rfl,hj,hy⟩:=hy;have dm:DT.depths m<=7:=by have:DT.depths m+1<=8:=dy;omega
   have r:=SeqAt.RcAt.tuples (A:=A) hi hj (by omega) (ph (by omega) dl dm hx hy);rw[Co hx hy]at r;rw[Ih];exact r
  |s m=>obtain⟨b,j,rfl,hj,_⟩:=hy;rw[zzr0 (by intro z;cases z)];exact SeqAt.RcAt.tuple_list hi hj (by omega)
 |s l =>
  obtain⟨a,i,rfl,hi,hx⟩:=hx;have dl:DT.depths l<=7:=by have:DT.depths l+1<=8:=dx;omega
  cases y with
  |k b =>
   rw[zzr0 (by intro z;cases z)];rcases aw (show cL b v=true from hy)with⟨j,t',rfl,rfl⟩|⟨j,t',rfl,rfl⟩
   ·exact SeqAt.RcAt.list_int j t' hi (by omega)
   ·exact SeqAt.RcAt.list_str j t' hi (by omega)
  |t m=>obtain⟨b,j,rfl,hj,_⟩:=hy;rw[zzr0 (by intro z;cases z)];exact SeqAt.RcAt.list_tuple hi hj (by omega)
  |s m =>
   obtain⟨b,j,rfl,hj,hy⟩:=hy;have dm:DT.depths m<=7:=by have:DT.depths m+1<=8:=dy;omega
   have li:=hx.length;have lj:=hy.length;simp only[mT]at li lj;rw[Ii];by_cases e:l.length=m.length
   ·have r:=SeqAt.RcAt.lists (A:=A) hi hj (by omega) (by omega) (ph (by omega) dl dm hx hy);rw[<-li,gk e]at r;exact r
   ·rw[zzr0 fun z=>e (by rw[z])];exact SeqAt.RcAt.lists_lengths hi hj (by simp;omega) (by omega)
theorem Jr{x y:DT}(dx:x.depth<=8)(dy:y.depth<=8)(hu:A.units+16<cLine)(hx:pG s.heap x u)(hy:pG s.heap y v):SeqAt.RcNeAt A s u v (!decide (x=y)):=by
 cases x with
 |k a =>
  rcases aw (show cL a u=true from hx)with⟨i,t,rfl,rfl⟩|⟨i,t,rfl,rfl⟩
  ·cases y with
   |k b =>
    rw[C2];rcases aw (show cL b v=true from hy)with⟨j,t',rfl,rfl⟩|⟨j,t',rfl,rfl⟩
    ·rw[xO];exact SeqAt.RcNeAt.int_int i t j t'
    ·rw[xN];exact SeqAt.RcNeAt.int_str i t j t'
   |t m=>obtain⟨b,j,rfl,hj,_⟩:=hy;rw[zzr0 (by intro z;cases z)];exact SeqAt.RcNeAt.int_tuple i t hj (by omega)
   |s m=>obtain⟨b,j,rfl,hj,_⟩:=hy;rw[zzr0 (by intro z;cases z)];exact SeqAt.RcNeAt.int_list i t hj (by omega)
  ·cases y with
   |k b =>
    rw[C2];rcases aw (show cL b v=true from hy)with⟨j,t',rfl,rfl⟩|⟨j,t',rfl,rfl⟩
    ·rw[xM];exact SeqAt.RcNeAt.str_int i t j t'
    ·rw[xL];have:=SeqAt.RcNeAt.str_str (A:=A) (s:=s) i t j t';rwa[show(i==j)=decide (i=j)from by by_cases e:i=j<;>simp[e]]at this
   |t m=>obtain⟨b,j,rfl,hj,_⟩:=hy;rw[zzr0 (by intro z;cases z)];exact SeqAt.RcNeAt.str_tuple i t hj (by omega)
   |s m=>obtain⟨b,j,rfl,hj,_⟩:=hy;rw[zzr0 (by intro z;cases z)];exact SeqAt.RcNeAt.str_list i t hj (by omega)
 |t l =>
  obtain⟨a,i,rfl,hi,hx⟩:=hx;have dl:DT.depths l<=7:=by have:DT.depths l+1<=8:=dx;omega
  cases y with
  |k b =>
   rw[zzr0 (by intro z;cases z)];rcases aw (show cL b v=true from hy)with⟨j,t',rfl,rfl⟩|⟨j,t',rfl,rfl⟩
   ·exact SeqAt.RcNeAt.tuple_int j t' hi (by omega)
   ·exact SeqAt.RcNeAt.tuple_str j t' hi (by omega)
  |t m =>
   obtain⟨b,j,rfl,hj,hy⟩:=hy;have dm:DT.depths m<=7:=by have:DT.depths m+1<=8:=dy;omega
   have r:=SeqAt.RcNeAt.tuples (A:=A) hi hj (by omega) (ph (by omega) dl dm hx hy);rw[Co hx hy]at r;rw[Ih];exact r
  |s m=>obtain⟨b,j,rfl,hj,_⟩:=hy;rw[zzr0 (by intro z;cases z)];exact SeqAt.RcNeAt.tuple_list hi hj (by omega)
 |s l =>
  obtain⟨a,i,rfl,hi,hx⟩:=hx;have dl:DT.depths l<=7:=by have:DT.depths l+1<=8:=dx;omega
  cases y with
  |k b =>
   rw[zzr0 (by intro z;cases z)];rcases aw (show cL b v=true from hy)with⟨j,t',rfl,rfl⟩|⟨j,t',rfl,rfl⟩
   ·exact SeqAt.RcNeAt.list_int j t' hi (by omega)
   ·exact SeqAt.RcNeAt.list_str j t' hi (by omega)
  |t m=>obtain⟨b,j,rfl,hj,_⟩:=hy;rw[zzr0 (by intro z;cases z)];exact SeqAt.RcNeAt.list_tuple hi hj (by omega)
  |s m =>
   obtain⟨b,j,rfl,hj,hy⟩:=hy;have dm:DT.depths m<=7:=by have:DT.depths m+1<=8:=dy;omega
   have li:=hx.length;have lj:=hy.length;simp only[mT]at li lj;rw[Ii];by_cases e:l.length=m.length
   ·have r:=SeqAt.RcNeAt.lists (A:=A) hi hj (by omega) (by omega) (ph (by omega) dl dm hx hy);rw[<-li,gk e]at r;exact r
   ·rw[zzr0 fun z=>e (by rw[z])];exact SeqAt.RcNeAt.lists_lengths hi hj (by simp;omega) (by omega)
end
mutual
def hE(K:Za)(H:Hp):DT->V->Prop
 |.k a,v=>v=kV a
 |.t l,v=>∃b xs,v=.ref b/\bD K H b xs/\DIns K H l xs
 |.s l,v=>∃b xs,v=.ref b/\aA K H b xs/\DIns K H l xs
def DIns(K:Za)(H:Hp):List DT->List V->Prop
 |[],vs=>vs=[]
 |k::r,vs=>∃v us,vs=v::us/\hE K H k v/\DIns K H r us
end
section
variable{X:Cx}{J3:Zd}{σ:St}{H:Hp}{s:Shared}
theorem lT(I:Inv X J3 σ H s):∀(d:Nat) {k:DT}{v:V}{u:Value},k.depth<=d->hE X.K H k v->RelV v u->pG s.heap k u:=by
 have key:∀(d:Nat) (ih:∀{k:DT}{v:V}{u:Value},k.depth<=d->hE X.K H k v->RelV v u->pG s.heap k u) (ks:List DT) (vs:List V) (us:Zf),DT.depths ks<=d->DIns X.K H ks vs->aZ vs us->DAts s.heap ks us:=by
  intro d ih ks
  induction ks with
  |nil =>
   intro vs us _ hx r;have e:vs=[]:=hx;subst e;cases r
   rfl
  |cons k ks ihl =>
   intro vs us hd hx r;obtain⟨v,vs',rfl,h1,h2⟩:=hx;cases r with
   |@cons _ u _ us' r1 r2 =>
    have hd':max k.depth (DT.depths ks)<=d:=hd;exact⟨u,us',rfl,ih (by omega) h1 r1,ihl vs' us' (by omega) h2 r2⟩
 intro d
 induction d with
 |zero =>
  intro k v u hd hx r;cases k with
  |t l=>exact absurd hd (by show ¬(DT.depths l+1<=0);omega)
  |s l=>exact absurd hd (by show ¬(DT.depths l+1<=0);omega)
  |k b =>
   have e:v=kV b:=hx;subst e;exact jT (P:=X.prog) (w:=X.w) r
 |succ d ih =>
  intro k v u hd hx r;cases k with
  |k b =>
   have e:v=kV b:=hx;subst e;exact jT (P:=X.prog) (w:=X.w) r
  |t l =>
   obtain⟨b,xs,rfl,hb,hi⟩:=hx;cases(show u=Value.ref b from r);obtain⟨its,rv,ht,_⟩:=I.tuple hb;exact⟨b,its.toArray,rfl,ht,by simpa using key d (fun h1=>ih h1) l xs its (by have:DT.depths l+1<=d+1:=hd;omega) hi rv⟩
  |s l =>
   obtain⟨b,xs,rfl,hb,hi⟩:=hx;cases(show u=Value.ref b from r);obtain⟨its,rv,ht,_⟩:=I.list hb;exact⟨b,its.toArray,rfl,ht.isList,by simpa using key d (fun h1=>ih h1) l xs its (by have:DT.depths l+1<=d+1:=hd;omega) hi rv⟩
theorem mC(I:Inv X J3 σ H s):∀{ks:List DT}{vs:List V}{us:Zf},DT.depths ks<=8->DIns X.K H ks vs->aZ vs us->DAts s.heap ks us
 |[],vs,us,_,hx,r=>by
  have e:vs=[]:=hx;subst e;cases r
  rfl
 |k::ks,vs,us,hd,hx,r=>by
  obtain⟨v,vs',rfl,h1,h2⟩:=hx;cases r with
  |@cons _ u _ us' r1 r2 =>
   have hd':max k.depth (DT.depths ks)<=8:=hd;exact⟨u,us',rfl,lT I 8 (by omega) h1 r1,mC I (by omega) h2 r2⟩
end
def tL(K:Za):R2:=fun x y H Q=>∃d e:DT,hE K H d x/\hE K H e y/\d.depth<=8/\e.depth<=8/\Q (.bl (decide (d=e))) H
def A9(K:Za):R2:=fun x y H Q=>∃d e:DT,hE K H d x/\hE K H e y/\d.depth<=8/\e.depth<=8/\Q (.bl (!decide (d=e))) H
section
variable{X:Cx}
theorem lM(hu:X.A.units+16<cLine):nY X (em .Eq) (tL X.K):=by
 intro J3 s σ H x y v u Q I rx ry h;obtain⟨d,e,hx,hy,dx,dy,q⟩:=h;exact Jq dx dy hu (lT I 8 dx hx rx) (lT I 8 dy hy ry) X.prog X.w X.xe _ ⟨.bl _,H,I,rfl,q⟩
theorem xD(hu:X.A.units+16<cLine):nY X (em .NotEq) (A9 X.K):=by
 intro J3 s σ H x y v u Q I rx ry h;obtain⟨d,e,hx,hy,dx,dy,q⟩:=h;exact Jr dx dy hu (lT I 8 dx hx rx) (lT I 8 dy hy ry) X.prog X.w X.xe _ ⟨.bl _,H,I,rfl,q⟩
def xB(K:Za)(neg:Bool):R2:=fun x y H Q=>∃(d:DT) (ds:List DT) (p:Addr) (xs:List V),hE K H d x/\y=.ref p/\(aA K H p xs∨bD K H p xs)/\DIns K H ds xs/\d.depth<=8/\DT.depths ds<=8/\Q (.bl (if neg then !decide (d∈ds)else decide (d∈ds))) H
open Classical in
theorem pB{d:DT}(d8:d.depth<=8):∀{ds:List DT}{us:Zf},DAts h ds us->DT.depths ds<=8->us.any (fun u=>@decide (pG h d u) (propDecidable _))=decide (d∈ds)
 |[],us,e,_=>by
  have e':us=[]:=e;subst e'
  rfl
 |x::ds,us,e,hd=>by
  obtain⟨u,us',rfl,h1,h2⟩:=e;have hd':max x.depth (DT.depths ds)<=8:=hd;rw[ny,pB d8 h2 (by omega)];by_cases q:d=x
  ·subst q;simp[h1]
  ·have n:¬pG h d u:=fun z=>q (pG.inj 8 d8 z h1);simp[n,q]
open Classical in
theorem qq{A:Around}{s:Shared}{d:DT}(d8:d.depth<=8)(hu:A.units+8<cLine)(hd:pG s.heap d v):∀{ds:List DT}{us:Zf},DAts s.heap ds us->DT.depths ds<=8->∀u∈us,bG A s u v (@decide (pG s.heap d u) (propDecidable _))
 |[],us,e,_,u,hm=>by
  have e':us=[]:=e;subst e';cases hm
 |x::ds,us,e,h8,u,hm=>by
  obtain⟨u',us',rfl,h1,h2⟩:=e;have h8':max x.depth (DT.depths ds)<=8:=h8;rcases bM.mp hm with rfl|hm
  ·have q:=Ig 8 (A:=A) (by omega) d8 hu h1 hd;by_cases z:x=d
   ·subst z;rw[zzr1 h1];rwa[zzr1 rfl]at q
   ·have n:¬pG s.heap d u:=fun w=>z (pG.inj 8 d8 w h1).symm;rw[zzr0 n];rwa[zzr0 z]at q
  ·exact qq d8 hu hd h2 (by omega) u hm
theorem IG(hu:X.A.units+16<cLine):nY X (em .In) (xB X.K false):=by
 intro J3 s σ H x y v u Q I rx ry h;obtain⟨d,ds,p,xs,hx,rfl,hq,hds,d8,ds8,q⟩:=h;cases ry;have hd:=lT I 8 d8 hx rx;have hu':X.A.in1.units+8<cLine:=by show X.A.units+1+8<cLine;omega
 rcases hq with hq|hq
 ·obtain⟨its,r,pl,hz⟩:=I.list hq;have hi:=mC I ds8 hds r;refine SeqAt.in_listAt _ pl.isList (fun w hw=>qq d8 hu' hd hi ds8 w (by simpa using hw)) ⟨.bl _,H,I,rfl,?_⟩;rw[wE,pB d8 hi ds8];exact q
 ·obtain⟨its,r,pl,hz⟩:=I.tuple hq;have hi:=mC I ds8 hds r;refine SeqAt.in_tupleAt _ pl (fun w hw=>qq d8 hu' hd hi ds8 w (by simpa using hw)) ⟨.bl _,H,I,rfl,?_⟩;rw[wE,pB d8 hi ds8];exact q
theorem mr(hu:X.A.units+16<cLine):nY X (em .NotIn) (xB X.K true):=by
 intro J3 s σ H x y v u Q I rx ry h;obtain⟨d,ds,p,xs,hx,rfl,hq,hds,d8,ds8,q⟩:=h;cases ry;have hd:=lT I 8 d8 hx rx;have hu':X.A.in1.units+8<cLine:=by show X.A.units+1+8<cLine;omega
 rcases hq with hq|hq
 ·obtain⟨its,r,pl,hz⟩:=I.list hq;have hi:=mC I ds8 hds r;refine SeqAt.notIn_listAt _ pl.isList (fun w hw=>qq d8 hu' hd hi ds8 w (by simpa using hw)) ⟨.bl _,H,I,rfl,?_⟩;rw[wE,pB d8 hi ds8];exact q
 ·obtain⟨its,r,pl,hz⟩:=I.tuple hq;have hi:=mC I ds8 hds r;refine SeqAt.notIn_tupleAt _ pl (fun w hw=>qq d8 hu' hd hi ds8 w (by simpa using hw)) ⟨.bl _,H,I,rfl,?_⟩;rw[wE,pB d8 hi ds8];exact q
end
def ud(z:Str)(lo hi:Option Int):Str:=⟨((z.cps.toList.drop (HT.sIx z.length 0 lo)).take (HT.sIx z.length z.length hi-HT.sIx z.length 0 lo)).toArray⟩
theorem sliceRange_one(a b:Nat):sliceRange (a:Int) (b:Int) 1=(jD (b-a)).map (fun k=>a+k):=by
 unfold sliceRange;simp only[show(1:Int) > 0 from by decide,if_true];by_cases h:(a:Int)<(b:Int)
 ·have e:(if(a:Int)<(b:Int)then((b:Int)-a+1-1) / 1 else 0).toNat=b-a:=by rw[if_pos h];omega
  rw[e];exact List.map_congr_left fun k _=>by omega
 ·have e:(if(a:Int)<(b:Int)then((b:Int)-a+1-1) / 1 else 0).toNat=b-a:=by rw[if_neg h];omega
  rw[e];exact List.map_congr_left fun k _=>by omega
theorem Ae(v:Option Int)(n d:Nat):(match v with|none=>(d:Int)|some i=>max 0 (min (if i<0 then i+(n:Int)else i) (n:Int)))=((HT.sIx n d v:Nat):Int):=by
 cases v with
 |none=>rfl
 |some i =>
  rw[<-HT.clip_eq i n d];dsimp only;by_cases h:i<0
  ·rw[if_pos h,if_pos h];omega
  ·rw[if_neg h,if_neg h];omega
theorem oR(lo hi:Option Int)(n:Nat):sH lo hi 1 n=(jD (HT.sIx n n hi-HT.sIx n 0 lo)).map (fun k=>HT.sIx n 0 lo+k):=by
 have e1:=Ae lo n 0;have e2:=Ae hi n n;rw[<-sliceRange_one,<-e1,<-e2];unfold sH;simp only[show(1:Int) > 0 from by decide,if_true];cases lo<;>cases hi<;>rfl
theorem Dv(z:Str)(lo hi:Option Int):Txt.slice z lo hi=ud z lo hi:=by
 have ha:HT.sIx z.length 0 lo<=z.length:=HT.sIx_le _ _ (df _) _;have hb:HT.sIx z.length z.length hi<=z.length:=HT.sIx_le _ _ (aG _) _;have hlen:z.cps.toList.length=z.length:=by simp[Str.length]
 have pick:(sH lo hi 1 z.length).filterMap (z.cps[·]?)=(z.cps.toList.drop (HT.sIx z.length 0 lo)).take (HT.sIx z.length z.length hi-HT.sIx z.length 0 lo):=by
  rw[oR];generalize HT.sIx z.length 0 lo=a at *;generalize HT.sIx z.length z.length hi=b at *;have h:=StrLaws.picks z.cps.toList (b-a) a (by omega);simpa using h
 unfold Txt.slice;by_cases h:((1:Int)==1 && (sH lo hi 1 z.length).length==z.length)=true
 ·rw[if_pos h];have hl:(sH lo hi 1 z.length).length=z.length:=by simpa using h
  rw[oR,ai,sG]at hl;unfold ud;have a0:HT.sIx z.length 0 lo=0:=by omega
  have bn:HT.sIx z.length z.length hi-HT.sIx z.length 0 lo=z.cps.toList.length:=by omega
  rw[bn,a0,jn,bt]
 ·rw[if_neg h];unfold ud;rw[pick]
section
variable{X:Cx}
def Hd:V->Option Int->Option Int->Hp->VK->Prop:=fun x lo hi H Q=>∃z,x=.str z/\z.length<=aj/\Q (.str (ud z lo hi)) H
theorem AS:SlR X Hd:=by
 intro J3 s σ H x v vl vu lo hi sl Q I rx hs pl pu h;obtain⟨z,rfl,hz,q⟩:=h;obtain⟨t,rfl⟩:=rx;rw[<-Dv]at q;refine⟨"str",_,F.slot_str_getitem.lookup,typeIs_str _ _ _,?_⟩;obtain⟨o,ho,hc,hd⟩:=hs;have fin:∀(l u:Option (Int×Tok)),vl=partValue l->vu=partValue u->lo=l.map (·.1)->hi=u.map (·.1)->wpAny (model X.prog X.w) X.A (nC (.str z t) (.ref sl)) (EP X J3 σ Q) X.xe s:=by
  rintro l u rfl rfl rfl rfl;refine wpAny_getItem_str_slice (l:=l) (u:=u) (st:=none) ⟨o,ho,hc,hd⟩ rfl (post_val_or_str ⟨bL (Txt.slice_le z _ _) hz,fun t' k=>⟨.str _,H,I.tok _,⟨_,rfl⟩,q⟩⟩)
 cases pl with
 |none =>
  cases pu with
  |none=>exact fin none none rfl rfl rfl rfl
  |int j u=>exact fin none (some (j,u)) rfl rfl rfl rfl
 |int i t' =>
  cases pu with
  |none=>exact fin (some (i,t')) none rfl rfl rfl rfl
  |int j u=>exact fin (some (i,t')) (some (j,u)) rfl rfl rfl rfl
def Ia(K:Za):V->List V->Hp->VK->Prop:=fun x vs H Q=>∃z p ys,x=.str z/\vs=[.ref p]/\aA K H p (ys.map V.str)/\(ys.map (·.length)).sum+ys.length * z.length<=16777216/\Q (.str (wD z ys)) H
theorem GW{ys:Zb}:∀{us:Zf},aZ (ys.map V.str) us->StrsAre us ys:=by
 induction ys with
 |nil=>intro us r;cases r;exact .nil
 |cons y ys ih =>
  intro us r;cases r with
  |cons r1 r2 =>
   obtain⟨t,rfl⟩:=r1;exact .cons _ _ (ih r2)
theorem Hn:Io X "str.join" (Ia X.K):=by
 intro J3 s σ H x vs v us Q I rx rv h;obtain⟨z,p,ys,rfl,rfl,hq,hz,q⟩:=h;obtain⟨t,rfl⟩:=rx;obtain⟨u,rfl,ru⟩:=rv.one;cases ru;obtain⟨its,r,pl,_⟩:=I.list hq;exact join_list pl.isList (by simpa using GW r) hz fun t' k=>⟨.str _,H,I.tok _,⟨_,rfl⟩,q⟩
end
section
variable{X:Cx}
def Il(K:Za)(H:Hp)(x:V)(t:Value):Prop:=kr K H x t∨(∃a xs,x=.ref a/\t=.type "tuple"/\bD K H a xs)∨(∃a xs,x=.ref a/\t=.type "list"/\aA K H a xs)
theorem Bs{A:Around}{Q:Zc}{c:Value}{b:Bool}(I:Inv X J3 σ H s)(rx:RelV x u)(ty:Il X.K H x t)(e:vg X.K t c=some b)(h:∀tk,Q (.bool b) { s with toks:=tk }):
  wpAny (model X.prog X.w) A (call (.builtin "isinstance") [u,c]) Q E s:=by
 rcases ty with ty|⟨a,xs,rfl,rfl,q⟩|⟨a,xs,rfl,rfl,q⟩
 ·exact DX I rx ty e h
 ·cases(show u=Value.ref a from rx);obtain⟨its,rv,p,hz⟩:=I.tuple q;obtain⟨o,h1,h2,_⟩:=p;exact jA PySem.W.kitx_tuple I.kIn ⟨o,h1,h2⟩ e (fun z=>nomatch z) h
 ·cases(show u=Value.ref a from rx);obtain⟨its,rv,p,hz⟩:=I.list q;obtain⟨o,n,h1,h2,_⟩:=p;exact jA PySem.W.kitx_list I.kIn ⟨o,h1,h2⟩ e (fun z=>nomatch z) h
theorem gh:gv X (.builtin "isinstance") (fun xs H Q=>∃x c t b,xs=[x,.ty c]/\Il X.K H x t/\vg X.K t (.type c)=some b/\Q (.bl b) H):=by
 intro J3 s σ H xs us Q I r h;obtain⟨x,c,t,b,rfl,ty,hk,q⟩:=h;obtain⟨u,v,rfl,ru,rv⟩:=vals2 r;cases(show v=Value.type c from rv);exact Bs I ru ty hk fun tk=>⟨.bl b,H,I.tok _,rfl,q⟩
theorem Gw{bs:List Bool}(r:aZ (bs.map V.bl) us){i:Nat}{v:Value}(h:us[i]?=some v):v=.bool ((bs[i]?).getD false)/\i<bs.length:=by
 have hi:i<us.length:=(bO.mp h).1;have hl:=r.length;rw[ai]at hl;have hb:i<bs.length:=by omega
 obtain⟨u,hu,ru⟩:=r.get (i:=i) (x:=V.bl bs[i]) (by simp[hb]);rw[h]at hu;cases hu;refine⟨?_,hb⟩;rw[aV hb];exact ru
theorem ym(bs:List Bool):((jD bs.length).all fun i=>(bs[i]?).getD false)=bs.all id:=by
 induction bs with
 |nil=>rfl
 |cons b bs ih =>
  rw[cZ,List.range_succ_eq_map,List.all_cons,List.all_map,List.all_cons,<-ih]
  rfl
theorem yk(bs:List Bool):((jD bs.length).any fun i=>(bs[i]?).getD false)=bs.any id:=by
 induction bs with
 |nil=>rfl
 |cons b bs ih =>
  rw[cZ,List.range_succ_eq_map,ny,List.any_map,ny,<-ih]
  rfl
theorem rq(hc:X.calm=true):gv X (.builtin "all") (fun xs H Q=>∃(p:Addr) (bs:List Bool),xs=[.ref p]/\aA X.K H p (bs.map V.bl)/\Q (.bl (bs.all id)) H):=by
 intro J3 s σ H xs us Q I r h;obtain⟨p,bs,rfl,hq,q⟩:=h;obtain⟨u,rfl,ru⟩:=vals1 r;cases ru;obtain⟨its,rv,pl,hz⟩:=I.list hq;obtain⟨o,n,ho,_⟩:=id pl;have hl:=rv.length;rw[ai]at hl;refine call_all_walk (yH pl.isList ?_);refine⟨s.heap.objs.size,_,_,_,_,_,fun i=>(bs[i]?).getD false,rfl,Walks.list (prog:=X.prog) (w:=X.w) (A:=X.A.in1) (I.ok.hd hc) s.heap.objs.size p (c6 (aY ho)) its.toArray,⟨⟨_,cK _ rfl,rfl,rfl⟩,pl.isList.push _⟩,?_,?_⟩
 ·intro i v s' Q' E' hv hq';obtain⟨e,_⟩:=Gw rv (i:=i) (v:=v) (by simpa using hv);rw[e];exact qU hq'
 ·intro h' tk hk;have I':Inv X J3 σ H { s with heap:=h',toks:=tk }:=I.kept fun b o e=>hk b o (by simp;exact c6 (aY e)) (bj _ e);rw[bC,<-hl,ym];exact⟨.bl _,H,I',rfl,q⟩
theorem Ag(hc:X.calm=true):gv X (.builtin "any") (fun xs H Q=>∃(p:Addr) (bs:List Bool),xs=[.ref p]/\aA X.K H p (bs.map V.bl)/\Q (.bl (bs.any id)) H):=by
 intro J3 s σ H xs us Q I r h;obtain⟨p,bs,rfl,hq,q⟩:=h;obtain⟨u,rfl,ru⟩:=vals1 r;cases ru;obtain⟨its,rv,pl,hz⟩:=I.list hq;obtain⟨o,n,ho,_⟩:=id pl;have hl:=rv.length;rw[ai]at hl;refine call_any_walk (yH pl.isList ?_);refine⟨s.heap.objs.size,_,_,_,_,_,fun i=>(bs[i]?).getD false,rfl,Walks.list (prog:=X.prog) (w:=X.w) (A:=X.A.in1) (I.ok.hd hc) s.heap.objs.size p (c6 (aY ho)) its.toArray,⟨⟨_,cK _ rfl,rfl,rfl⟩,pl.isList.push _⟩,?_,?_⟩
 ·intro i v s' Q' E' hv hq';obtain⟨e,_⟩:=Gw rv (i:=i) (v:=v) (by simpa using hv);rw[e];exact qU hq'
 ·intro h' tk hk;have I':Inv X J3 σ H { s with heap:=h',toks:=tk }:=I.kept fun b o e=>hk b o (by simp;exact c6 (aY e)) (bj _ e);rw[bC,<-hl,yk];exact⟨.bl _,H,I',rfl,q⟩
theorem Be:nY X (em .In) (fun x y H Q=>∃c j,x=.str ⟨#[c]⟩/\y=.str j/\Q (.bl (decide (c∈j.cps.toList))) H):=by
 intro J3 s σ H x y v u Q I rx ry h;obtain⟨c,j,rfl,rfl,q⟩:=h;rw[<-StrLaws.found_one]at q;exact DJ J3 s σ H _ _ v u Q I rx ry ⟨_,_,rfl,rfl,q⟩
theorem ui(hc:X.calm=true):gv X (.type "list") (fun xs H Q=>∃(d:Addr) (kvs:List (eS×V)),xs=[.ref d]/\Rd H d (.dK kvs)/\∀l,H l=none->Q (.ref l) (upd H l (.lst (kvs.map fun kv=>kV kv.1)))):=by
 intro J3 s σ H xs us Q I r h;obtain⟨d,kvs,rfl,hd,q⟩:=h;obtain⟨u,rfl,ru⟩:=vals1 r;cases ru;obtain⟨z,hsys,vs,rel,dd⟩:=pi I.hok hd;obtain⟨ep,hat⟩:=dd.dictAt;have hl:=rel.length;refine PySem.W.kdl_call (PySem.W.kdl_dict (knd:=bS X.prog X.w) (kvs:=vs) (ep:=ep) hsys) (I.ok.hd hc) hat (by rw[<-hl];exact z) fun h' tk acc c hk hD hacc=>?_;have hv:aZ (kvs.map fun kv=>kV kv.1) acc.toList:=by
  obtain⟨hn,hP⟩:=hacc;have key:∀(a:Zf) (ks:List (eS×V)) (ws:List (eS×Value)),KV ks ws->a.length=ws.length->(∀(j:Nat) (v:Value),a[j]?=some v->∃k x,ws[j]?=some (k,x)/\(bS X.prog X.w).is k v=true)->aZ (ks.map fun kv=>kV kv.1) a:=by
   intro a ks ws rl
   induction rl generalizing a with
   |nil=>intro ha _;cases a with
    |nil=>exact .nil
    |cons _ _=>cases ha
   |@cons p w' ps ws' hp _ ih =>
    intro ha hj;cases a with
    |nil=>cases ha
    |cons v a =>
     obtain⟨k,x,e,hk⟩:=hj 0 v rfl;have e':w'=(k,x):=by simpa using e
     refine .cons ?_ (ih a (by simpa using ha) fun j v hv=>by simpa using hj (j+1) v (by simpa using hv));have ek:p.1=k:=by rw[hp.1,e']
     show RelV (kV p.1) v;rw[ek];rcases aw (show cL k v=true from hk)with⟨i,t,rfl,rfl⟩|⟨i,t,rfl,rfl⟩
     ·exact⟨t,rfl⟩
     ·exact⟨t,rfl⟩
  exact key acc.toList kvs vs rel (by rw[mT];exact hn) fun j v hv=>hP j v (by rw[<-Array.getElem?_toList];exact hv)
 refine⟨.ref s.heap.objs.size,_,I.laid (o:=.lst (kvs.map fun kv=>kV kv.1)) hk (aG _) ⟨by rw[ai];exact z,acc.toList,c,hv,by rw[Array.toArray_toList];exact hD⟩,rfl,q _ I.fresh⟩
end
section
variable{prog:ck}{w:World}{K:Type}[DecidableEq K]{knd:HeapKind prog w K}{A:Around}{E:Zc}{s:Shared}
theorem sS{d a:Addr}{xs:List (K×Addr×Value)}{k:K}{v:Value}{Q:Zc}(hu:knd.room A)(hkey:knd.is s.heap k a)(hm:s.heap.DictOfH knd d xs)
  (there:∀p,atKey xs k=some p->Q p.2 { s with toks:=s.toks+knd.draws k })
  (new:atKey xs k=none->∀h',h'.DictOfH knd d (xs++[(k,a,v)])->fD d s.heap h'->Q v { s with heap:=h',toks:=s.toks+knd.draws k })
  (hsz:xs.length<=aj):wpAny (model prog w) A (dictSetDefault d (.ref a) v) Q E s:=by
 obtain⟨o,es,ep,ho,hc,hd,he,his,hn⟩:=hm;unfold dictSetDefault
 try with_reducible refine lh ?_
 refine ak (knd.pyHash hu hkey ?_);refine ak (wpAny_dictFind_heap (s:={ s with toks:=s.toks+knd.draws k }) hu hkey ho hd he his hn ?_ ?_)
 ·intro hno;have hnot:k∉xs.map (·.1):=not_mem_keys_of_get hno;refine ak (yD (ak (wpAny_updateDictKeys (hz:=by have e:=size_of_entries he;omega) (s:={ s with toks:=s.toks+knd.draws k }) ho hd (aH (new (atKey_none_of_get hno) _ ⟨_,_,ep+1,wS _ ho (Obj.isFreed_of_dict (Obj.data_mapDictKeys hd _)),
   hc.mapDictKeys _,Obj.data_mapDictKeys hd _,?_,?_,?_⟩ (k7 ..))))))
  ·simp[he,entryOfKey]
  ·intro x hx;rcases aX.mp hx with hx|hx
   ·exact knd.keeps (his x hx) ho hd (k7 ..)
   ·simp only[bo]at hx;subst hx;exact knd.keeps hkey ho hd (k7 ..)
  ·rw[ay,cA];refine⟨hn,by simp,?_⟩;intro x hx y hy;simp only[bb,sQ,bo]at hy;subst hy;exact fun e=>hnot (e▸hx)
 ·intro j p hj;refine ak (nq (s:={ s with toks:=s.toks+knd.draws k }) ho hd ?_);rw[entry_at he j,hj];exact ak (yD (aH (there p (atKey_of_get hn hj))))
theorem pb(knd:HeapKind prog w K)(d a:Addr)(hd:(d==gG)=false)(dflt:Value):
  MeetsIn prog w (bZ.«dict.setdefault» ⟨[.ref d,.ref a,dflt],[]⟩) (fun A R s=>knd.room A.in1/\∃k xs,knd.is s.heap k a/\s.heap.DictOfH knd d xs/\xs.length<=aj /\
   (∀p,atKey xs k=some p->R (.ok (.ret p.2)) { s with toks:=s.toks+knd.draws k }) /\
   (atKey xs k=none->∀h',h'.DictOfH knd d (xs++[(k,a,dflt)])->fD d s.heap h'->R (.ok (.ret dflt)) { s with heap:=h',toks:=s.toks+knd.draws k })) :=
 .of_wp fun A R s ⟨hu,k,xs,hkey,hm,hz,h1,h2⟩=>by
  unfold bZ.«dict.setdefault»;refine ak ?_;unfold bZ.Dict.keyAndDefault;refine ak (wC hm.typeIs ?_);show wpAny _ _ (pure (d,Value.ref a,some dflt)) _ _ s;refine aH ?_;show wpAny _ _ (if(d==gG)=true then _ else(dictSetDefault d (.ref a) dflt >>= _)) _ _ s
  rw[if_neg (by rw[hd];exact gK)];exact ak (sS hu hkey hm (fun p hp=>aH ⟨p.2,rfl,h1 p hp⟩) (fun hn h' hm' hs'=>aH ⟨dflt,rfl,h2 hn h' hm' hs'⟩) hz)
end
section
variable{X:Cx}
def Cy:V->List V->Hp->VK->Prop:=fun x vs H Q=>∃(d b:Addr) (kvs:List (TK×V)) (k:TK) (z:V),x=.ref d/\vs=[.ref b,z]/\H d=some (.dT kvs)/\da H k (.ref b)/\k.depth<=8/\kvs.length<aj /\
 (∀v,bP kvs k=some v->Q v H)/\(bP kvs k=none->Q z (upd H d (.dT (kvs++[(k,z)]))))
theorem DM(hu:X.A.units+16<cLine):Io X "dict.setdefault" Cy:=by
 intro J3 s σ H x vs v us Q I rx rv h;obtain⟨d,b,kvs,k,z,rfl,rfl,hd,hb,h8,hz,q1,q2⟩:=h;cases rx;obtain⟨u,v,rfl,ru,rz⟩:=rv.two;cases ru;obtain⟨_,hsys,xs,rel,dd⟩:=C0 I.hok I.kIn hd;have hl:kvs.length=xs.length:=Paired.length rel;refine sL PySem.F.slot_dict_setdefault dd.typeIs PySem.F.entry_dict_setdefault (PySem.F.args_dict_setdefault_3 _ _ _) (pb (dU X.prog X.w) d b hsys v)
  ⟨fE hu,k,xs,tZ I.hok I.kIn (da.c 8 h8 hb) h8,dd,by omega,fun p hp=>?_,fun hn h' dd' hs=>?_⟩
 ·have e:=rel.val k;rw[hp]at e;cases e2:bP kvs k with
  |none=>rw[e2]at e;exact e.elim
  |some y =>
   rw[e2]at e;exact⟨y,H,I.tok _,e,q1 y e2⟩
 ·have e:=rel.val k;rw[hn]at e;have e2:bP kvs k=none:=by
   cases e2:bP kvs k with
   |none=>rfl
   |some y=>rw[e2]at e;exact e.elim
  obtain⟨o,es,ep,hq,h2,h3,h4,_,h5⟩:=dd';refine⟨z,_,pj (ob:=.dT (kvs++[(k,z)])) I (by rw[hd];exact i8) hs ⟨o,hq⟩ ⟨by rw[az,nz];omega,hsys,_,KT.keeps (kvs:=kvs++[(k,z)]) (xs:=xs++[(k,b,v)]) (cG rel ⟨rfl,da.c 8 h8 hb,h8,rz⟩) fun c ys ec=>?_,o,es,ep,hq,h2,h3,h4,h5⟩,rz,q2 e2⟩;rw[ag (CO ec hd (fun z=>nomatch z))];exact ec
end
theorem lR:entryFor table "dict.update.loop"=some bZ.«dict.update.loop»:=entryFor_of_fast (by kernel_rfl)
theorem fW:plainId "dict.update.loop"=true:=by decide +kernel
theorem xG:typeLookup (.type "list") "keys"=pure none:=am_miss_of_fast (by decide +kernel)
section
variable{prog:ck}{w:World}{A:Around}{E:Zc}{s:Shared}
theorem DO{a:Addr}{o:Obj}{xs:Array Value}{k:Nat}{Q:Option Value->Shared->Prop}(hx:s.heap.get? a=some o)(hc:o.cls=.type "list")(hdat:o.data=.seq xs k)(hd:o.dict=none)(hA:A.handled=none)
  (h:∀h' tk,(∀b ob,s.heap.get? b=some ob->h'.get? b=some ob)->Q none { s with heap:=h',toks:=tk }):wpAny (model prog w) A (getAttr? (.ref a) "keys") Q E s:=by
 obtain⟨c,dct,dat,sl⟩:=o;simp only at hc hdat hd;subst hc hdat hd;obtain⟨hp,g,d,tk,os⟩:=s;have hT:∀tk',(⟨hp,g,d,tk',os⟩:Shared).TypeIs (.ref a) "list":=fun _=>⟨_,hx,rfl⟩;have f1:=sub_AttributeError;have f3:=F.slot_list_getattribute.lookup;have f4:=F.slot_list_getattribute.bind (.ref a);have f5:=am_list_getattr_none;unfold getAttr? getAttrBy? getAttrBy
 repeat (any_goals (first|assumption|exact hT _|((with_reducible show wpAny _ _ (call (Value.builtin "list.__getattribute__") _ _) _ _ _);refine nA F.slot_list_getattribute (hT _) am_entry_list_getattribute (F.args_list_getattribute_2 _ _) (meets_getattribute_miss_list a xs k sl "keys" _ xG (by decide +kernel) (by decide +kernel)) ⟨hx,hA,fun h' tk' e hx'=>?_⟩)|wp_step))
 obtain⟨t',u',he⟩:=hx'.there;show wpAny _ _ (getattributeRaised _ _ _ _ _ _ _) _ _ _;unfold getattributeRaised hookOrError attributeErrorLeaves
 repeat (any_goals (first|assumption|wp_step))
 all_goals first|exact h _ _ hx'.keeps|trace_state
def BN(h:Heap)(u:Value)(kv:eS×Value):Prop:=∃t ku,u=.ref t/\h.IsTuple t #[ku,kv.2]/\cL kv.1 ku=true
theorem AR{κ:Type}[DecidableEq κ](kvs:List (κ×Value))(k:κ)(v:Value):(stored kvs k v).length<=kvs.length+1:=by
 unfold stored;split
 ·rw[ai];omega
 ·rw[az,nz];exact aG _
theorem EI{R:Result->Shared->Prop}(hh:A.handled=none){D it l:Addr}{items:Array Value}{ps:List (eS×Value)}(hDi:D≠it)(hli:l≠it)(hlD:l≠D)(hps:ps.length=items.size):
  ∀(n i:Nat) (s:Shared) (acc:List (eS×Value)),items.size-i=n->i<=items.size->acc.length+(items.size-i)<=aj->s.heap.IsListIter it l i->s.heap.IsList l items->s.heap.DictOf (bS prog w) D acc ->
   (∀(j:Nat) (u:Value) (kv:eS×Value),items[j]?=some u->ps[j]?=some kv->BN s.heap u kv) ->
   (∀h' tk,h'.DictOf (bS prog w) D (merged acc (ps.drop i))->(∀b o,b≠D->b≠it->s.heap.get? b=some o->h'.get? b=some o)->R (.ok (.ret .none)) { s with heap:=h',toks:=tk }) ->
   zzl77 (model prog w) A (.builtin "dict.update.loop" ⟨[.ref D,.ref it,rawInt i,.none],[]⟩) R s:=by
 intro n
 induction n with
 |zero =>
  intro i s acc hn hi hz hit hl hD hp hR;have e:i=items.size:=by omega
  subst e;refine wB lR ?_;rw[wA fW _];show wpAny _ A.in1 (pyNext (.ref it) >>= _) _ _ s;refine ak (wpAny_pyNext_list_end hh hit hl (by simp) fun h' eb=>?_);show wpAny _ _ (bZ.Dict.addKeywords D [] >>= _) _ _ _;refine ak (aH (aH ?_));have hD':h'.DictOf (bS prog w) D acc:=hD.extBut eb hDi;have q:=hR h' s.toks (by rw[wz (by omega)];exact hD') fun b o _ hb e=>eb b o hb e;exact q
 |succ n ih =>
  intro i s acc hn hi hz hit hl hD hp hR;have hlt:i<items.size:=by omega
  refine wB lR ?_;rw[wA fW _];show wpAny _ A.in1 (pyNext (.ref it) >>= _) _ _ s;have hu:items[i]?=some items[i]:=by simp[hlt]
  have hk:ps[i]?=some ps[i]:=aV (by omega);obtain⟨t,ku,eu,ht,hku⟩:=hp i _ _ hu hk;refine ak (wpAny_pyNext_list_item hit hl (x:=items[i]) hu fun h1 hit1 hs1=>?_);rw[eu];have hs1':fD it s.heap h1:=hs1;have nt:t≠it:=by
   rintro rfl;obtain⟨o,ho,hc,_⟩:=ht;obtain⟨o',ho',hc',_⟩:=hit;rw[ho]at ho';cases ho';rw[hc]at hc';simp at hc'
  have ht1:h1.IsTuple t #[ku,ps[i].2]:=ht.extBut hs1'.extBut nt;have hT1:Shared.TypeIs { s with heap:=h1 } (.ref t) "tuple":=ht1.typeIs (s:={ s with heap:=h1 });obtain⟨ot,got,hct,nt',hdt⟩:=id ht1;refine ak (lh ?_);refine ak (wpAny_tryCatch ?_);unfold bZ.Dict.pairItems;refine ak (wpAny_typeOf hT1 ?_);rw[if_pos (by decide)];refine ak (mU got hdt (aH ?_));show wpAny _ _ (kW [ku,ps[i].2] (dictSet D ku ps[i].2)) _ _ _;have hD1:h1.DictOf (bS prog w) D acc:=hD.extBut hs1'.extBut hDi;refine lh (wpAny_dictSet_pairs (knd:=bS prog w) (k:=ps[i].1) hku hD1 (fun h2 hD2 hs2=>?_) (by omega));have hs2':fD D h1 h2:=hs2;show wpAny _ _ (again _) _ _ _;refine aH ⟨wx fW _,?_⟩;have hl1:h1.IsList l items:=hl.extBut hs1'.extBut hli;have kp:∀b o,b≠D->b≠it->s.heap.get? b=some o->h2.get? b=some o:=fun b o h1 h2 e=>hs2'.extBut b o h1 (hs1'.extBut b o h2 e);refine ih (i+1) _ (stored acc ps[i].1 ps[i].2) (by omega) hlt (by have:=AR acc ps[i].1 ps[i].2;omega) (hit1.extBut hs2'.extBut (dA hDi)) (hl1.extBut hs2'.extBut hlD) hD2 (fun j u kv h1 h2=>?_) fun h' tk hD' kp'=>?_
  ·obtain⟨t2,ku2,e2,ht2,hk2⟩:=hp j u kv h1 h2;have n1:t2≠it:=by
    rintro rfl;obtain⟨o,ho,hc,_⟩:=ht2;obtain⟨o',ho',hc',_⟩:=hit;rw[ho]at ho';cases ho';rw[hc]at hc';simp at hc'
   have n2:t2≠D:=by
    rintro rfl;obtain⟨o,ho,hc,_⟩:=ht2;obtain⟨o',_,_,ho',hc',_⟩:=hD;rw[ho]at ho';cases ho';have:=hc'.1;rw[hc]at this;simp at this
   obtain⟨o,ho,r⟩:=ht2;exact⟨t2,ku2,e2,⟨o,kp _ o n2 n1 ho,r⟩,hk2⟩
  ·refine hR h' tk ?_ fun b o h1 h2 e=>kp' b o h1 h2 (kp b o h1 h2 e);have ed:ps.drop i=ps[i]::ps.drop (i+1):=sF (by omega);rw[ed];exact hD'
theorem rM{l:Addr}{o:Obj}{items:Array Value}{n:Nat}{ps:List (eS×Value)}{Q:Zc}(hh:A.handled=none)(ho:s.heap.get? l=some o)(hc:o.cls=.type "list")(hdt:o.data=.seq items n)(hod:o.dict=none)
  (hps:ps.length=items.size) (hp:∀(j:Nat) (u:Value) (kv:eS×Value),items[j]?=some u->ps[j]?=some kv->BN s.heap u kv) (hz:items.size<=aj)
  (h:∀h' tk,h'.DictOf (bS prog w) s.heap.objs.size (merged [] ps)->(∀b o,s.heap.get? b=some o->h'.get? b=some o)->Q (.ref s.heap.objs.size) { s with heap:=h',toks:=tk }) :
  wpAny (model prog w) A (call (.type "dict") [.ref l]) Q E s:=by
 refine callType_codes (Q₁:=fun obj s₁=>obj=.ref s.heap.objs.size/\s₁={ s with heap:=s.heap.push { cls:=.type "dict",data:=.dict #[] } }) F.kt_called_dict (F.kt_typeCall_dict_1 _) F.entry_dict_init (kt_code_dict_new _ ⟨rfl,rfl⟩) ?_;rintro obj s₁ ⟨rfl,rfl⟩;have hnew:(s.heap.push { cls:=.type "dict",data:=.dict #[] }).DictOf (bS prog w) s.heap.objs.size []:=Heap.DictOf.new s.heap;have ho1:(s.heap.push { cls:=.type "dict",data:=.dict #[] }).get? l=some o:=bj _ ho;have hlt:l<s.heap.objs.size:=aY ho;refine⟨hnew.typeIs,F.args_dict_init_2 _ _,?_⟩;unfold bZ.«dict.__init__»;refine ak ?_;unfold bZ.Dict.selfAndRest;refine ak (wC hnew.typeIs ?_);show wpAny _ _ (pure (s.heap.objs.size,[Value.ref l])) _ _ _;refine aH ?_;show wpAny _ _ (bZ.Dict.updateFrom "dict.__init__" s.heap.objs.size (.ref l) [] .none) _ _ _;unfold bZ.Dict.updateFrom;have hTl:Shared.TypeIs { s with heap:=s.heap.push { cls:=.type "dict",data:=.dict #[] } } (.ref l) "list":=⟨o,ho1,hc⟩;refine ak (wpAny_typeOf hTl ?_);rw[if_pos (by decide)];refine ak (DO ho1 hc hdt hod hh fun h1 tk1 k1=>?_);have k1':∀b ob,(s.heap.push { cls:=.type "dict",data:=.dict #[] }).get? b=some ob->h1.get? b=some ob:=k1;rw[if_pos (by rfl:(none:Option Value).isNone=true)];refine ak (yD ?_);have hl1:h1.IsList l items:=⟨o,k1' _ _ ho1,hc,n,hdt⟩;refine ak (yH (s:={ s with heap:=h1,toks:=tk1 }) hl1 ?_);have hD1:h1.DictOf (bS prog w) s.heap.objs.size []:=by
  obtain⟨od,es,ep,g,r⟩:=hnew;exact⟨od,es,ep,k1' _ _ g,r⟩
 have hDlt:s.heap.objs.size<h1.objs.size:=by
  obtain⟨od,es,ep,g,r⟩:=hD1;exact aY g
 refine aH ⟨wx fW _,?_⟩;refine EI (A:=A.in1) (prog:=prog) (w:=w) hh (D:=s.heap.objs.size) (it:=h1.objs.size) (l:=l) (items:=items) (ps:=ps) (c6 hDlt) (c6 (Nat.lt_trans hlt hDlt)) (c6 hlt) hps items.size 0 _ [] (ww _) (df _) (by rw[wP];omega)
  ⟨_,cK _ rfl,rfl,rfl⟩ (hl1.push _) (hD1.push _) (fun j u kv a b=>?_) fun h' tk hD' kp=>?_
 ·obtain⟨t,ku,e,ht,hk⟩:=hp j u kv a b;obtain⟨ot,g,r⟩:=ht;exact⟨t,ku,e,⟨ot,bj _ (k1' _ _ (bj _ g)),r⟩,hk⟩
 ·rw[jn]at hD';refine⟨rfl,h h' tk hD' fun b ob e=>kp b ob (c6 (aY e)) (c6 (Nat.lt_trans (aY e) hDlt)) (bj _ (k1' _ _ (bj _ e)))⟩
end
section
variable{X:Cx}
theorem yg(hc:X.calm=true):gv X (.type "dict") (fun xs H Q=>∃(l:Addr) (ts:Ze) (kvs:List (eS×V)),xs=[.ref l]/\aA X.K H l (ts.map V.ref)/\ts.length=kvs.length /\
  (∀(j:Nat) (t:Addr) (kv:eS×V),ts[j]?=some t->kvs[j]?=some kv->H t=some (.tup [kV kv.1,kv.2]))/\∀p,H p=none->Q (.ref p) (upd H p (.dK (jr [] kvs)))):=by
 intro J3 s σ H xs us Q I r h;obtain⟨l,ts,kvs,rfl,hl,hlen,ht,q⟩:=h;obtain⟨u,rfl,ru⟩:=vals1 r;cases ru;obtain⟨its,rv,⟨o,n,ho,hcl,hod,hdt⟩,hz⟩:=I.list hl;have key:∀(ts:Ze) (kvs:List (eS×V)),ts.length=kvs.length->(∀(j:Nat) (t:Addr) (kv:eS×V),ts[j]?=some t->kvs[j]?=some kv->H t=some (.tup [kV kv.1,kv.2]))->∃ps:List (eS×Value),KV kvs ps/\∀(j:Nat) (t:Addr) (kv:eS×Value),ts[j]?=some t->ps[j]?=some kv->BN s.heap (.ref t) kv:=by
  intro ts
  induction ts with
  |nil =>
   intro kvs hl _;cases kvs with
   |nil=>exact⟨[],.nil,fun j t kv e=>by simp at e⟩
   |cons _ _=>cases hl
  |cons t ts ih =>
   intro kvs hl ht;cases kvs with
   |nil=>cases hl
   |cons kv kvs =>
    obtain⟨ps,r1,r2⟩:=ih kvs (by simpa using hl) fun j t' kv' a b=>ht (j+1) t' kv' (by simpa using a) (by simpa using b);obtain⟨_,itt,rt,p⟩:=(show bW X.prog X.w X.K H s.heap t (.tup [kV kv.1,kv.2])from I.hok t _ (ht 0 t kv rfl rfl));obtain⟨a,b,e,ra,rb⟩:=rt.two;subst e;refine⟨(kv.1,b)::ps,.cons ⟨rfl,rb⟩ r1,fun j t' kv' h1 h2=>?_⟩;cases j with
    |zero =>
     simp at h1 h2;subst h1 h2;exact⟨t,a,rfl,p,jT (P:=X.prog) (w:=X.w) ra⟩
    |succ j=>exact r2 j t' kv' (by simpa using h1) (by simpa using h2)
 obtain⟨ps,rel,pa⟩:=key ts kvs hlen ht;have hl1:=rv.length;rw[ai]at hl1;have hl2:=rel.length;refine rM (prog:=X.prog) (w:=X.w) (ps:=ps) (I.ok.hd hc) ho hcl hdt hod (by rw[bC];omega) (fun j u kv a b=>?_) (by rw[bC,<-hl1];rw[ai]at hz;exact hz) fun h' tk hD kp=>?_
 ·have a':its[j]?=some u:=by simpa using a
  have hj:j<ts.length:=by
   have:=(bO.mp a').1;omega
  obtain⟨u',e1,r1⟩:=rv.get (i:=j) (x:=V.ref ts[j]) (by simp[hj]);rw[a']at e1;cases e1;cases(show u=Value.ref ts[j]from r1);exact pa j ts[j] kv (by simp[hj]) b
 ·have hm:(jr [] kvs).length<=aj:=by
   have h1:=mZ kvs [];rw[wP]at h1;rw[ai]at hz;omega
  exact⟨.ref s.heap.objs.size,_,I.laid (o:=.dK (jr [] kvs)) kp (aG _) (Gh hm (beq_eq_false_iff_ne.mpr (dA (c6 I.big))) (rel.merge .nil) hD),rfl,q _ I.fresh⟩
end
abbrev dg:R2:=Ez fun i j=>.int (i+j)
abbrev lH:R2:=rI GG fun i j=>.int (i * j)
abbrev jd:R2:=rI (fun _ j=>0<j) fun i j=>.int (i % j)
abbrev Fn:R2:=rI JG fun i j=>.int (i / j)
abbrev H_:R2:=rI JF fun i j=>.int (i ^ j.toNat)
abbrev DG:R2:=Ez fun i j=>.bl (decide (i<j))
abbrev rLeI:R2:=Ez fun i j=>.bl (decide (i<=j))
abbrev Fm:R2:=Ez fun i j=>.bl (decide (j<i))
abbrev rGeI:R2:=Ez fun i j=>.bl (decide (j<=i))
abbrev Ib:R2:=fun x y H Q=>∃i j,x=.str i/\y=.str j/\i.length+j.length<=aj/\Q (.str (i++j)) H
abbrev rInS:R2:=fun x y H Q=>∃c j,x=.str ⟨#[c]⟩/\y=.str j/\Q (.bl (decide (c∈j.cps.toList))) H
abbrev Fl:R2:=fun x y H Q=>∃b,y=.bl b/\Q (.bl (decide (x=.bl b))) H
abbrev qg(K:Za):List V->Hp->VK->Prop:=fun xs H Q=>∃x c t b,xs=[x,.ty c]/\Il K H x t/\vg K t (.type c)=some b/\Q (.bl b) H
abbrev Ji(K:Za):List V->Hp->VK->Prop:=fun xs H Q=>∃(p:Addr) (bs:List Bool),xs=[.ref p]/\aA K H p (bs.map V.bl)/\Q (.bl (bs.all id)) H
abbrev rAny(K:Za):List V->Hp->VK->Prop:=fun xs H Q=>∃(p:Addr) (bs:List Bool),xs=[.ref p]/\aA K H p (bs.map V.bl)/\Q (.bl (bs.any id)) H
abbrev HZ(K:Za):List V->Hp->VK->Prop:=fun xs H Q=>∃p ys,xs=[.ref p]/\((aA K H p ys/\∀l,H l=none->Q (.ref l) (upd H l (.tup ys)))∨(bD K H p ys/\Q (.ref p) H))
abbrev He(K:Za):List V->Hp->VK->Prop:=fun xs H Q=>∃(l:Addr) (ts:Ze) (kvs:List (eS×V)),xs=[.ref l]/\aA K H l (ts.map V.ref)/\ts.length=kvs.length /\
  (∀(j:Nat) (t:Addr) (kv:eS×V),ts[j]?=some t->kvs[j]?=some kv->H t=some (.tup [kV kv.1,kv.2]))/\∀p,H p=none->Q (.ref p) (upd H p (.dK (jr [] kvs)))
abbrev dC(K:Za):List V->Hp->VK->Prop:=fun xs H Q =>
 (∃p ys,xs=[.ref p]/\(aA K H p ys∨bD K H p ys)/\∀l,H l=none->Q (.ref l) (upd H l (.lst ys))) ∨
 (∃(d:Addr) (kvs:List (eS×V)),xs=[.ref d]/\Rd H d (.dK kvs)/\∀l,H l=none->Q (.ref l) (upd H l (.lst (kvs.map fun kv=>kV kv.1))))
abbrev dh(K:Za):List V->Hp->VK->Prop:=fun xs H Q =>
 (∃p ys,xs=[.ref p]/\(aA K H p ys∨bD K H p ys)/\Q (.int ys.length) H)∨(∃z,xs=[.str z]/\z.length<=aj/\Q (.int z.length) H)
theorem gj:i9 "isinstance"=some (.builtin "isinstance"):=by decide +kernel
theorem uj:i9 "list"=some (.type "list"):=by decide +kernel
theorem lV:i9 "tuple"=some (.type "tuple"):=by decide +kernel
theorem BI:i9 "dict"=some (.type "dict"):=by decide +kernel
theorem BJ:i9 "bool"=some (.type "bool"):=by decide +kernel
theorem Er:i9 "int"=some (.type "int"):=by decide +kernel
theorem Ep:i9 "str"=some (.type "str"):=by decide +kernel
section
variable{X:Cx}{p pos:Pos}
theorem En:gv X (.builtin "len") (dh X.K):=yf.or ye
theorem BG(hc:X.calm=true):gv X (.type "list") (dC X.K):=yd.or (ui hc)
theorem xE:nY X (em .Is) Fl:=by
 intro J3 s σ H x y v u Q I rx ry h;obtain⟨b,rfl,q⟩:=h;cases(show u=Value.bool b from ry);have key:∀k:Bool,k=decide (x=.bl b)->EP X J3 σ Q (.bool k) s:=fun k e=>⟨.bl k,H,I,rfl,by rw[e];exact q⟩;cases x with
 |non=>cases(show v=Value.none from rx);exact aH (key _ rfl)
 |bl a =>
  cases(show v=Value.bool a from rx);refine aH (key _ ?_);cases a<;>cases b<;>rfl
 |int i=>obtain⟨t,rfl⟩:=rx;exact aH (key _ rfl)
 |str i=>obtain⟨t,rfl⟩:=rx;exact aH (key _ rfl)
 |byt i=>obtain⟨t,rfl⟩:=rx;exact aH (key _ rfl)
 |flt i=>obtain⟨t,rfl⟩:=rx;exact aH (key _ rfl)
 |ref a=>cases(show v=Value.ref a from rx);exact aH (key _ rfl)
 |ty n=>cases(show v=Value.type n from rx);exact aH (key _ rfl)
theorem Bb(hg:Gl X "bool")(hm:X.mg "bool"=none):PE X (.Name "bool" pos) (tC (.ty "bool")):=o7 hg hm BJ rfl
theorem vG(hg:Gl X "int")(hm:X.mg "int"=none):PE X (.Name "int" pos) (tC (.ty "int")):=o7 hg hm Er rfl
theorem vF(hg:Gl X "str")(hm:X.mg "str"=none):PE X (.Name "str" pos) (tC (.ty "str")):=o7 hg hm Ep rfl
theorem tQ(hg:Gl X "list")(hm:X.mg "list"=none):PE X (.Name "list" pos) (tC (.ty "list")):=o7 hg hm uj rfl
theorem qW(hg:Gl X "tuple")(hm:X.mg "tuple"=none):PE X (.Name "tuple" pos) (tC (.ty "tuple")):=o7 hg hm lV rfl
end
def Gc(mg:Str->Option Value)(x:Str)(v:V):Prop:=∃u,mg x=some u/\RelV v u
theorem jP{pos:Pos}(hg:Gl X x)(h:Gc X.mg x v)(hd:(x==("__debug__":Str))=false:=by decide):PE X (.Name x pos) (tC v):=by
 obtain⟨u,hm,r⟩:=h;exact Hi hg hm r hd
structure iq(P:ck)(w:World)(K:Za)(mg:Str->Option Value)(base:Heap)(x:Str)(ps:Zb)(k:Nat)(sp:Sp):Prop where
 ex:∃f fd,l9 P w K mg base CX0 k f fd ps sp/\mg x=some (.ref f)/\iK K (.ref f)=true/\Binds K fd ps []
structure JS(P:ck)(w:World)(K:Za)(mg:Str->Option Value)(base:Heap)(x:Str)(C:Addr)(ps:Zb)(k:Nat)(sp:Sp):Prop where
 ex:∃f fd,l9 P w K mg base CX0 k f fd ps sp/\mg x=some (.ref C)/\Mk K C f/\Binds K fd ps []
structure Dd(P:ck)(w:World)(K:Za)(mg:Str->Option Value)(base:Heap)(C:Addr)(m:Str)(ps:Zb)(k:Nat)(sp:Sp):Prop where
 ex:∃f fd,l9 P w K mg base CX0 k f fd ps sp/\Df K C/\HQ K C m f/\Binds K fd ps []
section
variable{X:Cx}{k:Nat}{ps:Zb}{sp:Sp}{x m:Str}{C:Addr}{p pos J5:Pos}{o e:Expr}{es:List Expr}{t:TA}{ta:TE}
theorem Ic(D:iq X.prog X.w X.K X.mg X.base x ps k sp)(hr:eV k X.A)(hg:Gl X x)(ha:PA X (e::es) t)(hdb:(x==("__debug__":Str))=false:=by decide)
  (he:aL (e::es) X.env=(false,eval e X.env)::aL es X.env:=by rfl) (hpl:(backTo pos (aL es X.env)).any (·.1)=false:=by rfl) :
  PE X (.Call (.Name x p) (e::es) [] pos) (aS sp t):=by
 obtain⟨f,fd,F,hm,hk,hb⟩:=D.ex;exact Hk F hr hg hm hk hb .nil CH ha hdb he hpl
theorem Bc(D:JS X.prog X.w X.K X.mg X.base x C ps k sp)(hr:eV (k+1) X.A)(hg:Gl X x)(ha:PA X (e::es) t)(hdb:(x==("__debug__":Str))=false:=by decide)
  (he:aL (e::es) X.env=(false,eval e X.env)::aL es X.env:=by rfl) (hpl:(backTo pos (aL es X.env)).any (·.1)=false:=by rfl) :
  PE X (.Call (.Name x p) (e::es) [] pos) (yU C sp [] E0 t):=by
 obtain⟨f,fd,F,hm,M,hb⟩:=D.ex;exact Hh M F hr hg hm hb .nil CH ha hdb he hpl
theorem IE(M:Dd X.prog X.w X.K X.mg X.base C m ps k sp)(hr:eV k X.A)(he:PE X o ta)(ha:PA X (e::es) t)
  (hst:aL (e::es) X.env=(false,eval e X.env)::aL es X.env:=by rfl) (hpl:(backTo pos (aL es X.env)).any (·.1)=false:=by rfl)
  (ht:eval (.Call (.Attribute o m J5) (e::es) [] pos) X.env=(do
   let ov <- eval o X.env
   qR J5.atName
   let(f,first) <- kW [ov] (qO ov m pl)
   vf pos f first (backTo pos (aL (e::es) X.env)) (oy pos (ox [] X.env))):=by rfl) :
  PE X (.Call (.Attribute o m J5) (e::es) [] pos) (dB C m sp [] E0 ta t):=by
 obtain⟨f,fd,F,c,hm,hb⟩:=M.ex;exact Hg he c hm F hr hb .nil CH ha hst hpl ht
theorem Hf(M:Dd X.prog X.w X.K X.mg X.base C m ps k sp)(hr:eV k X.A)(he:PE X o ta)
  (ht:eval (.Call (.Attribute o m J5) [] [] pos) X.env=(do
   let ov <- eval o X.env
   qR J5.atName
   let(f,first) <- kW [ov] (qO ov m pl)
   vf pos f first (backTo pos (aL [] X.env)) (oy pos (ox [] X.env))):=by rfl) :
  PE X (.Call (.Attribute o m J5) [] [] pos) (dB C m sp [] E0 ta bm):=by
 obtain⟨f,fd,F,c,hm,hb⟩:=M.ex;exact Fu he c hm F hr hb .nil CH ht
end
def Jo(K:Za)(tl:TE):TI:=fun σ H R=>tl σ H fun x H1=>∃a,x=.ref a/\(((∃xs,aA K H1 a xs)/\R (GI K a) H1)∨((∃xs,bD K H1 a xs)/\R (IV K a) H1))
theorem IB(hl:PE X l tl):PI X tg l (Jo X.K tl):=by
 intro J3 s σ H R I h;refine cD (hl J3 s σ H _ I h) fun v s1 ⟨x,H1,I1,r1,q1⟩=>?_;obtain⟨a,e,q⟩:=q1;subst e;cases r1;have fin:∀b∈[s1.heap.objs.size],oh X J3 H1 b:=fun b hb=>by
  have e:b=s1.heap.objs.size:=by simpa using hb
  subst e;exact I1.fpOk (aG _) (I1.hok.fresh (aG _))
 rcases q with⟨⟨xs,hq⟩,q⟩|⟨⟨xs,hq⟩,q⟩
 ·obtain⟨its,rv,p,hz⟩:=I1.list hq;refine yH p.isList ?_;exact⟨s1.heap.objs.size,[s1.heap.objs.size],_,_,H1,rfl,I1.kept (t':=s1.toks) fun b o e=>bj _ e,vo a _,⟨_,cK _ rfl,rfl,rfl⟩,fin,q⟩
 ·obtain⟨its,rv,p,hz⟩:=I1.tuple hq;refine Cg p ?_;exact⟨s1.heap.objs.size,[s1.heap.objs.size],_,_,H1,rfl,I1.kept (t':=s1.toks) fun b o e=>bj _ e,sT a _,⟨_,cK _ rfl,rfl,rfl⟩,fin,q⟩
theorem jX{K:Za}{xs:List V}{g:TG}{tb:TS}{D:kU}{σ:St}{H:Hp}(Pv:Nat->St->Hp->Prop)(h0:Pv 0 σ H)(hl:∀i σ H,i<=xs.length->Pv i σ H->aA K H a xs)
  (hs:∀i x σ H p,xs[i]?=some x->Pv i σ H->H p=none->g (.ref p) σ (upd H p (.tup [.int i,x])) fun σ2 H2=>tb { D with nx:=Pv (i+1),ct:=Pv (i+1),bk:=D.nx } σ2 H2) (hd:∀σ H,Pv xs.length σ H->D.nx σ H) :
  ∃W:Nat->Nat->St->Hp->Prop,(∃m,W 0 m σ H)/\∀i m σ H,W i m σ H ->
   ((Jz K a).stop i H/\D.nx σ H)∨((Jz K a).go i H/\∃N:St->Hp->Prop,(∀σ' H',N σ' H'->∃m',m'<m/\W (i+1) m' σ' H')/\∀x H',(Jz K a).yld i H x H'->g x σ H' fun σ2 H2=>tb { D with nx:=N,ct:=N,bk:=D.nx } σ2 H2):=by
 refine⟨fun i m σ H=>m=xs.length-i/\i<=xs.length/\Pv i σ H,⟨xs.length,by simp,df _,h0⟩,?_⟩;rintro i m σ H ⟨rfl,hi,p⟩;have q:=hl i σ H hi p;by_cases hlt:i<xs.length
 ·refine .inr ⟨⟨xs,xs[i],q,by simp[hlt]⟩,Pv (i+1),fun σ' H' p'=>⟨xs.length-(i+1),by omega,rfl,hlt,p'⟩,fun x H' y=>?_⟩;obtain⟨t,v,rfl,hn,hv,rfl⟩:=y;exact hs i v σ H t (hv xs q) p hn
 ·have e:i=xs.length:=by omega
  subst e;exact .inl ⟨⟨xs,q,aG _⟩,hd σ H p⟩
def Wc(n:Nat)(Pv:Nat->List V->Hp->Prop):Nat->Nat->List V->Hp->Prop:=fun i m vs H=>m=n-i/\i<=n/\Pv i vs H
theorem uB{n i:Nat}{Pv:Nat->List V->Hp->Prop}{vs:List V}{H:Hp}(hi:i<n)(p:Pv (i+1) vs H):∃m',m'<n-i/\Wc n Pv (i+1) m' vs H:=⟨n-(i+1),by omega,rfl,hi,p⟩
abbrev gu(k:Nat)(fi:List Nat)(σ:St)(J:It)(g:TG)(tc:TT)(te:TE)(H1:Hp)(l:Addr)(Q:Hp->Prop):Prop :=
 ∃W:Nat->Nat->List V->Hp->Prop,(∃m,W 0 m [] (upd H1 l (.lst [])))/\∀i m vs H2,W i m vs H2->H2 l=some (.lst vs) /\
  ((J.stop i H2/\Q H2)∨(J.go i H2/\∀x H3,J.yld i H2 x H3->g x (dL k fi σ) H3 fun σ2 H4=>tc σ2 H4 fun b H5 =>
   if b=true then te σ2 H5 fun v H6=>H6 l=some (.lst vs)/\vs.length<aj/\∃m',m'<m/\W (i+1) m' (vs++[v]) (upd H6 l (.lst (vs++[v])))else ∃m',m'<m/\W (i+1) m' vs H5))
theorem lU{J:It}{g:TG}{tc:TT}{H1:Hp}{Q:Hp->Prop}{l:Addr}(n:Nat)(Pv:Nat->List V->Hp->Prop)(h0:Pv 0 [] (upd H1 l (.lst [])))
  (hl:∀i vs H,i<=n->Pv i vs H->H l=some (.lst vs)) (hgo:∀i vs H,i<n->Pv i vs H->J.go i H) (hst:∀vs H,Pv n vs H->J.stop n H/\Q H)
  (hs:∀i vs H x H3,i<n->Pv i vs H->J.yld i H x H3->g x (dL k fi σ) H3 fun σ2 H4=>tc σ2 H4 fun b H5 =>
   if b=true then te σ2 H5 fun v H6=>H6 l=some (.lst vs)/\vs.length<aj/\∃m',m'<n-i/\Wc n Pv (i+1) m' (vs++[v]) (upd H6 l (.lst (vs++[v])))else ∃m',m'<n-i/\Wc n Pv (i+1) m' vs H5) :
  gu k fi σ J g tc te H1 l Q:=by
 refine⟨Wc n Pv,⟨n,by simp[Wc],df _,h0⟩,?_⟩;rintro i m vs H ⟨rfl,hi,p⟩;refine⟨hl i vs H hi p,?_⟩;by_cases hlt:i<n
 ·exact .inr ⟨hgo i vs H hlt p,fun x H3 y=>hs i vs H x H3 hlt p y⟩
 ·have e:i=n:=by omega
  subst e;exact .inl (hst vs H p)
section
variable{K:Za}{k:Nat}{fi:List Nat}{g:TG}{tc:TT}{te:TE}{σ:St}{H1:Hp}{Q:Hp->Prop}{l:Addr}
theorem cX{xs:List V}(Pv:Nat->List V->Hp->Prop)(h0:Pv 0 [] (upd H1 l (.lst [])))
  (hl:∀i vs H,i<=xs.length->Pv i vs H->H l=some (.lst vs)/\aA K H a xs) (hd:∀vs H,Pv xs.length vs H->Q H)
  (hs:∀i vs H x,xs[i]?=some x->i<xs.length->Pv i vs H->g x (dL k fi σ) H fun σ2 H4=>tc σ2 H4 fun b H5 =>
   if b=true then te σ2 H5 fun v H6=>H6 l=some (.lst vs)/\vs.length<aj/\∃m',m'<xs.length-i/\Wc xs.length Pv (i+1) m' (vs++[v]) (upd H6 l (.lst (vs++[v])))else ∃m',m'<xs.length-i/\Wc xs.length Pv (i+1) m' vs H5) :
  gu k fi σ (GI K a) g tc te H1 l Q:=by
 refine lU xs.length Pv h0 (fun i vs H hi p=>(hl i vs H hi p).1) (fun i vs H hi p=>⟨xs,xs[i],(hl i vs H (eo hi) p).2,by simp[hi]⟩) (fun vs H p=>⟨⟨xs,(hl _ vs H (aG _) p).2,aG _⟩,hd vs H p⟩) fun i vs H x H3 hi p y=>?_;obtain⟨rfl,y⟩:=y;exact hs i vs _ x (y xs (hl i vs _ (eo hi) p).2) hi p
theorem Gs{xs:List V}(Pv:Nat->List V->Hp->Prop)(h0:Pv 0 [] (upd H1 l (.lst [])))
  (hl:∀i vs H,i<=xs.length->Pv i vs H->H l=some (.lst vs)/\bD K H a xs) (hd:∀vs H,Pv xs.length vs H->Q H)
  (hs:∀i vs H x,xs[i]?=some x->i<xs.length->Pv i vs H->g x (dL k fi σ) H fun σ2 H4=>tc σ2 H4 fun b H5 =>
   if b=true then te σ2 H5 fun v H6=>H6 l=some (.lst vs)/\vs.length<aj/\∃m',m'<xs.length-i/\Wc xs.length Pv (i+1) m' (vs++[v]) (upd H6 l (.lst (vs++[v])))else ∃m',m'<xs.length-i/\Wc xs.length Pv (i+1) m' vs H5) :
  gu k fi σ (IV K a) g tc te H1 l Q:=by
 refine lU xs.length Pv h0 (fun i vs H hi p=>(hl i vs H hi p).1) (fun i vs H hi p=>⟨xs,xs[i],(hl i vs H (eo hi) p).2,by simp[hi]⟩) (fun vs H p=>⟨⟨xs,(hl _ vs H (aG _) p).2,aG _⟩,hd vs H p⟩) fun i vs H x H3 hi p y=>?_;obtain⟨rfl,y⟩:=y;exact hs i vs _ x (y xs (hl i vs _ (eo hi) p).2) hi p
theorem BE{lo:Int}{n:Nat}(Pv:Nat->List V->Hp->Prop)(h0:Pv 0 [] (upd H1 l (.lst [])))
  (hl:∀i vs H,i<=n->Pv i vs H->H l=some (.lst vs)) (hd:∀vs H,Pv n vs H->Q H)
  (hs:∀i vs H,i<n->Pv i vs H->g (.int (lo+i)) (dL k fi σ) H fun σ2 H4=>tc σ2 H4 fun b H5 =>
   if b=true then te σ2 H5 fun v H6=>H6 l=some (.lst vs)/\vs.length<aj/\∃m',m'<n-i/\Wc n Pv (i+1) m' (vs++[v]) (upd H6 l (.lst (vs++[v])))else ∃m',m'<n-i/\Wc n Pv (i+1) m' vs H5) :
  gu k fi σ (IW lo n) g tc te H1 l Q:=by
 refine lU n Pv h0 hl (fun i vs H hi p=>hi) (fun vs H p=>⟨aG _,hd vs H p⟩) fun i vs H x H3 hi p y=>?_;obtain⟨rfl,rfl⟩:=y;exact hs i vs _ hi p
theorem Gu{x:Str}(Pv:Nat->List V->Hp->Prop)(h0:Pv 0 [] (upd H1 l (.lst [])))
  (hl:∀i vs H,i<=x.cps.size->Pv i vs H->H l=some (.lst vs)) (hd:∀vs H,Pv x.cps.size vs H->Q H)
  (hs:∀i vs H c,x.cps[i]?=some c->i<x.cps.size->Pv i vs H->g (.str ⟨#[c]⟩) (dL k fi σ) H fun σ2 H4=>tc σ2 H4 fun b H5 =>
   if b=true then te σ2 H5 fun v H6=>H6 l=some (.lst vs)/\vs.length<aj/\∃m',m'<x.cps.size-i/\Wc x.cps.size Pv (i+1) m' (vs++[v]) (upd H6 l (.lst (vs++[v])))else ∃m',m'<x.cps.size-i/\Wc x.cps.size Pv (i+1) m' vs H5) :
  gu k fi σ (JU x) g tc te H1 l Q:=by
 refine lU x.cps.size Pv h0 hl (fun i vs H hi p=>hi) (fun vs H p=>⟨aG _,hd vs H p⟩) fun i vs H y H3 hi p yl=>?_;obtain⟨rfl,c,hc,rfl⟩:=yl;exact hs i vs _ c hc hi p
end
theorem gN{j:Nat}{x:V}{σ:St}{H:Hp}{Q:St->Hp->Prop}(h:Q (σ.set j (some x)) H):eE j x σ H Q:=h
theorem rC{σ:St}{H:Hp}{A B:Hp->Prop}(h:A H):jH σ H (fun b H5=>if b=true then A H5 else B H5):=by
 show(if(true:Bool)=true then A H else B H)
 exact h
theorem vI{α β:Type}{F:α->β->Prop}:∀{l₁:List α}{l₂:List β},Paired F l₁ l₂->∀{i:Nat}{a:α}{b:β},l₁[i]?=some a->l₂[i]?=some b->F a b
 |_,_,.nil,_,_,_,h,_=>by simp at h
 |_,_,.cons r t,0,_,_,h,h'=>by simp at h h';subst h h';exact r
 |_,_,.cons r t,i+1,_,_,h,h'=>by simp at h h';exact vI t h h'
end L2
namespace L2
open PySem PySem.W
def p_(K:Za)(td ty tv:TE):TS:=fun D σ H=>tv σ H fun v H1=>td σ H1 fun x H2=>ty σ H2 fun y H3 =>
 ∃(a b:Addr) (kvs:List (TK×V)) (k:TK),x=.ref a/\y=.ref b/\H3 a=some (.dT kvs)/\nV K H3 k (.ref b)/\k.depth<=8/\kvs.length<aj/\D.nx σ (upd H3 a (.dT (cR kvs k v)))
section
variable{X:Cx}{o i value:Expr}{pos pos':Pos}{td ty tv:TE}
theorem o5(hu:X.A.units+16<cLine)(ho:PE X o td)(hi:PE X i ty)(hv:PE X value tv)(hs:qQ value (some (.Subscript o i pos')) pos.line X.env=pure false):
  PS X (.Assign [.Subscript o i pos'] value pos) (p_ X.K td ty tv):=by
 intro J3 s σ H D I h;refine wpAny_Assign_Subscript (cD (hv J3 s σ H _ I h) fun r s1 ⟨v,H1,I1,rv,q1⟩=>cD (ho J3 s1 σ H1 _ I1 q1) fun u s2 ⟨x,H2,I2,rx,q2⟩=>cD (hi J3 s2 σ H2 _ I2 q2) fun iv s3 ⟨y,H3,I3,ry,a,b,kvs,k,ex,ey,e,eb,e8,l,q3⟩=>?_) hs;subst ex;subst ey;obtain rfl:u=Value.ref a:=rx;exact BC hu I3 e eb e8 l ry rv fun s4 I4=>⟨σ,_,I4,q3⟩
end
theorem vw{K:Za}:∀xs:List Str,TKCs K H (xs.map fun x=>TK.k (.inr x)) (xs.map V.str)
 |[]=>by show TKCs K H [] [];unfold TKCs;rfl
 |x::xs=>by
  rw[bb,bb];unfold TKCs;refine⟨_,_,rfl,?_,vw xs⟩;unfold nV
  rfl
theorem yP{K:Za}{xs:Zb}(h:bB K H a (xs.map V.str)):nV K H (.t (xs.map fun x=>TK.k (.inr x))) (.ref a):=by
 unfold nV;exact⟨a,_,rfl,h,vw xs⟩
end L2
end

section
set_option Elab.async false
set_option linter.all false
set_option maxRecDepth 100000
namespace L2
open PySem PySem.Spec PyProof.Rows PySem.W
def HV:Expr->List Str
 |.Name x _=>[x]
 |.Tuple es _ _=>es.filterMap fun e=>match e with | .Name x _=>some x|_=>none
 |_=>[]
theorem bK{t:TS}{D:kU}{σ:St}{H:Hp}(r:t D σ H)(p:At X b t):∃t,At X b t/\t D σ H:=⟨t,p,r⟩
section
variable{X:Cx}{k k0:Nat}{ps:Zb}{sp:Sp}{x m:Str}{C:Addr}{p pos J5:Pos}{o e a b:Expr}{es:List Expr}{t:TA}{ta tb te:TE}
theorem qf(hr:eV k0 X.A)(D:iq X.prog X.w X.K X.mg X.base x ps k sp)(ha:PA X (e::es) t)(hk:k<=k0:=by decide)(hg:Gl X x:=by rfl)(hdb:(x==("__debug__":Str))=false:=by decide)
  (he:aL (e::es) X.env=(false,eval e X.env)::aL es X.env:=by rfl) (hpl:(backTo pos (aL es X.env)).any (·.1)=false:=by rfl) :
  PE X (.Call (.Name x p) (e::es) [] pos) (aS sp t):=Ic D (hr.mono hk) hg ha hdb he hpl
theorem qm(hr:eV k0 X.A)(M:Dd X.prog X.w X.K X.mg X.base C m ps k sp)(he:PE X o ta)(ha:PA X (e::es) t)(hk:k<=k0:=by decide)
  (hst:aL (e::es) X.env=(false,eval e X.env)::aL es X.env:=by rfl) (hpl:(backTo pos (aL es X.env)).any (·.1)=false:=by rfl)
  (ht:eval (.Call (.Attribute o m J5) (e::es) [] pos) X.env=(do
   let ov <- eval o X.env
   qR J5.atName
   let(f,first) <- kW [ov] (qO ov m pl)
   vf pos f first (backTo pos (aL (e::es) X.env)) (oy pos (ox [] X.env))):=by rfl) :
  PE X (.Call (.Attribute o m J5) (e::es) [] pos) (dB C m sp [] E0 ta t):=IE (pl:=pl) M (hr.mono hk) he ha hst hpl ht
theorem Fp(hr:eV k0 X.A)(M:Dd X.prog X.w X.K X.mg X.base C m ps k sp)(he:PE X o ta)(hk:k<=k0:=by decide)
  (ht:eval (.Call (.Attribute o m J5) [] [] pos) X.env=(do
   let ov <- eval o X.env
   qR J5.atName
   let(f,first) <- kW [ov] (qO ov m pl)
   vf pos f first (backTo pos (aL [] X.env)) (oy pos (ox [] X.env))):=by rfl) :
  PE X (.Call (.Attribute o m J5) [] [] pos) (dB C m sp [] E0 ta bm):=Hf (pl:=pl) M (hr.mono hk) he ht
theorem xl(ha:PE X a ta)(hb:PE X b tb)(hs:Et b:=by exact fun _ _=>rfl):PE X (.Subscript a b pos) (aI (bX X.K) ta tb):=CD CU ha hb hs
theorem xt(ha:PE X a ta)(hb:PE X b tb)(hs:Et b:=by exact fun _ _=>rfl):PE X (.Subscript a b pos) (aI (gR X.K) ta tb):=CD FQ ha hb hs
theorem xq(ha:PE X a ta)(hb:PE X b tb)(hs:Et b:=by exact fun _ _=>rfl):PE X (.Subscript a b pos) (aI (vD X.K) ta tb):=CD IK ha hb hs
theorem xs'(ha:PE X a ta)(hb:PE X b tb)(hs:Et b:=by exact fun _ _=>rfl):PE X (.Subscript a b pos) (aI Fk ta tb):=CD FR ha hb hs
theorem jF(ho:nY X (em op) r)(ha:PE X a ta)(hb:PE X b tb)(hm:kN op b=false:=by exact Fz _):PT X (.Compare a [op] [b] pos) (a_ (aI r ta tb)):=CA ho ha hb hm
theorem Hw(ho:nY X (em op) r)(ha:PE X a ta)(hb:PE X b tb)(hm:kN op b=false:=by exact Fz _):PE X (.Compare a [op] [b] pos) (aI r ta tb):=CF ho ha hb hm
theorem Jc(ho:nY X (em op) r)(ha:PE X a ta)(hb:PE X b tb)(hm:kN op b=false:=by with_unfolding_all rfl):PT X (.Compare a [op] [b] pos) (a_ (aI r ta tb)):=CA ho ha hb hm
theorem eci(ho:nY X (em op) r)(ha:PE X a ta)(hb:PE X b tb)(hm:kN op b=false:=by with_unfolding_all rfl):PE X (.Compare a [op] [b] pos) (aI r ta tb):=CF ho ha hb hm
theorem qB{id:String}(hc:gv X (.builtin id) r)(hm:X.mg x=none)(hv:i9 x=some (.builtin id))(ha:PA X (e::es) t)(hg:Gl X x:=by rfl)(hn:x≠"__name__":=by decide)(hdb:(x==("__debug__":Str))=false:=by decide)
  (he:aL (e::es) X.env=(false,eval e X.env)::aL es X.env:=by rfl) (hpl:(backTo pos (aL es X.env)).any (·.1)=false:=by rfl):PE X (.Call (.Name x p) (e::es) [] pos) (dE r t):=zC hc hg hm hv ha hn hdb he hpl
theorem qL(hc:X.calm=true)(hm:X.mg "list"=none)(ha:PA X (e::es) t)(hg:Gl X "list":=by rfl)
  (he:aL (e::es) X.env=(false,eval e X.env)::aL es X.env:=by rfl) (hpl:(backTo pos (aL es X.env)).any (·.1)=false:=by rfl):PE X (.Call (.Name "list" p) (e::es) [] pos) (dE (dC X.K) t):=mq (BG hc) hg hm uj ha (by decide) (by decide) he hpl
theorem ql(hm:X.mg "len"=none)(ha:PA X (e::es) t)(hg:Gl X "len":=by rfl)
  (he:aL (e::es) X.env=(false,eval e X.env)::aL es X.env:=by rfl) (hpl:(backTo pos (aL es X.env)).any (·.1)=false:=by rfl):PE X (.Call (.Name "len" p) (e::es) [] pos) (dE (dh X.K) t):=zC En hg hm PySem.boot_len ha (by decide) (by decide) he hpl
theorem qs(i:Nat){pos':Pos}(hN:X.N.Nodup)(he:PE X e te)(hi:X.N[i]?=some x:=by rfl)(hx:Loc X.env.scope x:=by first|exact Or.inl rfl|exact Or.inr rfl)(hs:qQ e (some (.Name x pos')) pos.line X.env=pure false:=by rfl)(hf:X.fn x=true∨X.env.scope.names.lookup x=some .local:=by first|exact .inl rfl|exact .inr rfl|assumption):
  PS X (.Assign [.Name x pos'] e pos) (aO te (eE i)):=Iy hN hi hx he hs hf
theorem gn(i:Nat)(hN:X.N.Nodup)(hi:X.N[i]?=some x:=by rfl)(hx:Loc X.env.scope x:=by first|exact Or.inl rfl|exact Or.inr rfl)(hf:X.fn x=true∨X.env.scope.names.lookup x=some .local:=by first|exact .inl rfl|exact .inr rfl|assumption):PG X (.Name x pos) (eE i):=CC hN hi hx hf
theorem gc(i:Nat)(hN:X.N.Nodup:=by exact of_decide_eq_true (by with_unfolding_all rfl))(hi:X.N[i]?=some x:=by rfl)(hx:Loc X.env.scope x:=by exact Or.inl rfl)(hf:X.fn x=true∨X.env.scope.names.lookup x=some .local:=by first|exact .inl rfl|exact .inr rfl|assumption):PG X (.Name x pos) (eE i):=CC hN hi hx hf
theorem a1(ha:PE X a ta)(hs:aL [a] X.env=(false,eval a X.env)::aL [] X.env:=by rfl):PA X [a] (ar ta bm):=b_ ha cM hs
theorem a2(ha:PE X a ta)(hb:PE X b tb)(hs:aL [a,b] X.env=(false,eval a X.env)::aL [b] X.env:=by rfl)(hs2:aL [b] X.env=(false,eval b X.env)::aL [] X.env:=by rfl):PA X [a,b] (ar ta (ar tb bm)):=b_ ha (b_ hb cM hs2) hs
theorem a3(ha:PE X a ta)(hb:PE X b tb)(hc:PE X c tc)(hs:aL [a,b,c] X.env=(false,eval a X.env)::aL [b,c] X.env:=by rfl)(hs1:aL [b,c] X.env=(false,eval b X.env)::aL [c] X.env:=by rfl)(hs2:aL [c] X.env=(false,eval c X.env)::aL [] X.env:=by rfl):PA X [a,b,c] (ar ta (ar tb (ar tc bm))):=b_ ha (a2 hb hc hs1 hs2) hs
variable{elt iter tg:Expr}{ifs:List Expr}{scope:Scope}{fi:List Nat}{wi:TI}{g:TG}{tc:TT}
theorem qc(hi:PI X tg iter wi)(ho:Aj k g)
  (h:∀C cl s₀ H₀ ex pn,PG (dO X (HV tg++fi.map fun i=>X.N.getD i "") scope C cl s₀ H₀ ex pn) tg g/\Im (dO X (HV tg++fi.map fun i=>X.N.getD i "") scope C cl s₀ H₀ ex pn) ifs tc/\PE (dO X (HV tg++fi.map fun i=>X.N.getD i "") scope C cl s₀ H₀ ex pn) elt te)
  (hS:mD X.env.scope scope k (HV tg++fi.map fun i=>X.N.getD i "") X.N fi=true:=by with_unfolding_all rfl) (hc:X.calm=true:=by rfl)
  (hs:∀x,yG iter X.env x=pure x:=by intro _;rfl):PE X (.ListComp elt [⟨tg,iter,ifs,0⟩] scope pos) (eB k fi wi g tc te) :=
 Hj hS hc hi (fun _ _ _ _ _ _=>(h _ _ _ _ _ _).1) ho (fun _ _ _ _ _ _=>(h _ _ _ _ _ _).2.1) (fun _ _ _ _ _ _=>(h _ _ _ _ _ _).2.2) hs
theorem qsc(j:Nat){y:Str}{spos py:Pos}(hN:X.N.Nodup)(hi:PI X tg iter wi)(ho:Aj k g)
  (h:∀C cl s₀ H₀ ex pn,PG (dO X (HV tg++fi.map fun i=>X.N.getD i "") scope C cl s₀ H₀ ex pn) tg g/\Im (dO X (HV tg++fi.map fun i=>X.N.getD i "") scope C cl s₀ H₀ ex pn) ifs tc/\PE (dO X (HV tg++fi.map fun i=>X.N.getD i "") scope C cl s₀ H₀ ex pn) elt te)
  (hj:X.N[j]?=some y:=by rfl) (hy:Loc X.env.scope y:=by first|exact Or.inl rfl|exact Or.inr rfl)
  (hS:mD X.env.scope scope k (HV tg++fi.map fun i=>X.N.getD i "") X.N fi=true:=by with_unfolding_all rfl) (hc:X.calm=true:=by rfl)
  (hsw:qQ (.ListComp elt [⟨tg,iter,ifs,0⟩] scope pos) (some (.Name y py)) spos.line X.env=pure true:=by rfl)
  (hs:∀x,yG iter X.env x=pure x:=by intro _;rfl) (hf:X.fn y=true∨X.env.scope.names.lookup y=some .local:=by first|exact .inl rfl|exact .inr rfl|assumption) :
  PS X (.Assign [.Name y py] (.ListComp elt [⟨tg,iter,ifs,0⟩] scope pos) spos) (aO (eB k fi wi g tc te) (eE j)) :=
 Ba hN hj hy hS hc hi (fun _ _ _ _ _ _=>(h _ _ _ _ _ _).1) ho (fun _ _ _ _ _ _=>(h _ _ _ _ _ _).2.1) (fun _ _ _ _ _ _=>(h _ _ _ _ _ _).2.2) hsw hs hf
end
end L2
end

section
set_option Elab.async false
set_option linter.all false
set_option maxRecDepth 100000
namespace L2
open PySem PySem.Spec PyProof.Rows
structure u7(h:Heap)(d:Addr)(es:Array pT)(ep:Nat):Prop where
 ex:∃o,h.get? d=some o/\o.ExactDict/\o.data=.dict es ep
section
variable{prog:ck}{w:World}{A:Around}{E:Zc}{s:Shared}{d v it:Addr}{es:Array pT}{ep i:Nat}
theorem u7.ty(h:u7 s.heap d es ep):s.TypeIs (.ref d) "dict":=let⟨o,ho,e,_⟩:=h.ex;⟨o,ho,e.1⟩
theorem DF{Q:Zc}(h:u7 s.heap d es ep)(hd:(d==gG)=false)(q:Q (.ref s.heap.objs.size) { s with heap:=s.heap.push { cls:=.type "dict_items",data:=.fields #[.ref d] } }):
  wpAny (model prog w) A (call (.builtin "dict.items") [.ref d]) Q E s:=by
 refine pH F.slot_dict_items h.ty F.entry_dict_items ?_ (F.args_dict_items_1 _);unfold bZ.«dict.items» bZ.Dict.noArgs;refine ak <| ak <| wC h.ty <| ?_;refine aH (show wpAny _ _ (wv d >>= _) _ _ s from ?_);unfold wv;rw[if_neg (fun z=>by rw[hd]at z;cases z)];exact ak <| aH <| ak <| jo <| aH ⟨_,rfl,q⟩
theorem Fg{Q:Zc}(hv:s.heap.IsItemsView v d)(h:u7 s.heap d es ep)
  (q:∀h',iM h' s.heap.objs.size d 0 es.size ep .none .none->(∀b o,s.heap.get? b=some o->h'.get? b=some o)->Q (.ref s.heap.objs.size) { s with heap:=h' }):wpAny (model prog w) A (pyIter (.ref v)) Q E s:=by
 obtain⟨ov,hov,hcv,hdv⟩:=id hv;obtain⟨o,ho,hx,hdat⟩:=h.ex;refine wpAny_pyIter_slot hv.typeIs F.slot_dict_items_iter <| pH F.slot_dict_items_iter hv.typeIs F.entry_dict_items_iter ?_ (F.args_dict_items_iter_1 _);unfold bZ.«dict_items.__iter__» bZ.Dict_items.dictOf bZ.Dict_items.newIterator;refine ak <| aH <| ak <| ak <| e_ hov hdv (x:=.ref d) rfl <| aH <| ak <| ak <| nq ho hdat <| ak <| pO ho hdat ?_;simp only[show sE "dict_itemiterator"=true by decide,if_true];refine jo (aH ⟨_,rfl,"dict_itemiterator",_,⟨_,cK _ rfl,rfl⟩,sD.lookup,?_⟩) ?_
 ·refine q _ ?_ fun b o e=>bj _ e;simpa[rawInt,iM,bZ.Dict_items.ownedTupleFields]using cK s.heap (o:={ cls:=.type "dict_itemiterator",data:=.fields #[.none,.bool false,.ref d,.int 0 0,.int es.size 0,.int ep 0,.none,.none] }) rfl
 ·simp only[sizeOk,bZ.Dict_items.ownedTupleFields,bC,az,cZ,wP,kM];omega
theorem Fe{Q:Option Value->Shared->Prop}(hit:iM s.heap it d i es.size ep ok ov)(h:u7 s.heap d es ep)(hi:i<es.size)
  (q:∀h',IsItemIterOut h' it d (i+1) es.size ep es[i].key es[i].val s.heap.objs.size->h'.get? s.heap.objs.size=some { cls:=.type "tuple",data:=.seq #[es[i].key,es[i].val] } ->
   (∀b o,b≠it->s.heap.get? b=some o->h'.get? b=some o)->Q (some (.ref s.heap.objs.size)) { s with heap:=h' }):wpAny (model prog w) A (pyNext (.ref it)) Q E s:=by
 obtain⟨o,ho,hx,hdat⟩:=h.ex;obtain⟨hp,g,dr,tk,os⟩:=s;have ty:∀{h':Heap}{ok ov:Value}{j:Nat},iM h' it d j es.size ep ok ov->Shared.TypeIs ⟨h',g,dr,tk,os⟩ (.ref it) "dict_itemiterator":=fun x=>⟨_,x,rfl⟩;have hT:=ty hit;have own:sE "dict_itemiterator"=true:=by decide
 unfold pyNext;refine ak <| pP <| k_ (name:=k9 "__next__") hT sD <| pH sD hT F.entry_dict_itemiterator_next ?_ (F.args_dict_itemiterator_next_1 _);refine ak <| aH <| ak <| ak ?_
 first|refine ak <| wu hT <| aH ?_|refine ak <| wt hT <| aH ?_
 refine ak <| wr hit rfl ?_;simp only[own,if_true];show wpAny _ _ (if(Value.ref d==Value.none)=true then _ else _) _ _ _
 rw[if_neg (show ¬((Value.ref d==Value.none)=true)from gK)];refine ak <| aH <| ak <| nq ho hdat ?_;rw[if_neg (by simp)];refine ak <| aH <| ak <| pO ho hdat ?_;rw[if_neg (by simp)];refine aH ?_;simp only[show ¬((i:Int)<0)from by omega,if_false,jp,Array.getElem?_eq_getElem hi];refine ak ?_
 first|refine ak <| wu hT <| aH ?_|refine ak <| wt hT <| aH ?_
 refine ak <| wpAny_isOneOf_itemiter hT ?_;show wpAny _ _ (wq (.ref it) 3 (rawInt ((i:Int)+1)) >>= _) _ _ ⟨hp,g,dr,tk,os⟩;refine ak <| iN hit (by simp) fun h1 e1 s1=>?_;have s1:fD it hp h1:=s1;have e1:iM h1 it d (i+1) es.size ep ok ov:=by
  have z:((i+1:Nat):Int)=(i:Int)+1:=by omega
  unfold iM;rw[z];simpa[rawInt]using e1
 have T1:=ty e1;refine ak <| lh <| ak <| wpAny_isOneOf_itemiter T1 <| ak <| wpAny_isOneOf_itemiter T1 ?_;show wpAny _ _ (bZ.Dict_items.pairFromOwner (.ref it) 6 es[i].key es[i].val) _ _ ⟨h1,g,dr,tk,os⟩;unfold bZ.Dict_items.pairFromOwner;refine ak <| wpAny_newTuple ?_;have e2:iM (h1.push { cls:=.type "tuple",data:=.seq #[es[i].key,es[i].val] }) it d (i+1) es.size ep ok ov:=bj _ e1;have z1:h1.objs.size=hp.objs.size:=s1.1;have t2:(h1.push { cls:=.type "tuple",data:=.seq #[es[i].key,es[i].val] }).get? hp.objs.size=some { cls:=.type "tuple",data:=.seq #[es[i].key,es[i].val] }:=by rw[<-z1];exact cK _ rfl
 have k2:∀b o,b≠it->hp.get? b=some o->(h1.push { cls:=.type "tuple",data:=.seq #[es[i].key,es[i].val] }).get? b=some o:=fun b o hb e=>bj _ (s1.extBut b o hb e);rw[z1];generalize h1.push { cls:=.type "tuple",data:=.seq #[es[i].key,es[i].val] }=h2 at e2 t2 k2;show wpAny _ _ (bZ.Dict_items.ownedTupleIsFree (.ref it) >>= _) _ _ ⟨h2,g,dr,tk,os⟩;have lt:it<hp.objs.size:=aY hit;have ne:hp.objs.size≠it:=gF lt;refine ak ?_;unfold bZ.Dict_items.ownedTupleIsFree;refine ak <| e_ e2 rfl (x:=.none) rfl <| aH ?_;simp only[if_true];refine ak <| e_ e2 rfl (x:=ok) rfl <| ak <| e_ e2 rfl (x:=ov) rfl <| ak <| iN e2 (by simp) fun h3 e3 s3=>?_;have s3:fD it h2 h3:=s3;have e3:iM h3 it d (i+1) es.size ep es[i].key ov:=e3;refine ak <| iN e3 (by simp) fun h4 e4 s4=>?_;have s4:fD it h3 h4:=s4;have e4:iM h4 it d (i+1) es.size ep es[i].key es[i].val:=e4;refine ak <| iN e4 (by simp) fun h5 e5 s5=>?_;have s5:fD it h4 h5:=s5;have e5:IsItemIterOut h5 it d (i+1) es.size ep es[i].key es[i].val hp.objs.size:=e5;refine ak <| iN e5 (by simp) fun h6 e6 s6=>?_;have s6:fD it h5 h6:=s6;have e6:IsItemIterOut h6 it d (i+1) es.size ep es[i].key es[i].val hp.objs.size:=e6;have up:∀b o,b≠it->h2.get? b=some o->h6.get? b=some o:=fun b o hb e=>s6.extBut b o hb <| s5.extBut b o hb <| s4.extBut b o hb <| s3.extBut b o hb e;exact ak <| wG <| aH <| aH ⟨_,rfl,aH <| q h6 e6 (up _ _ ne t2) fun b o hb e=>up b o hb (k2 b o hb e)⟩
theorem Hb{Q:Option Value->Shared->Prop}(hh:A.handled=none)(hit:iM s.heap it d i es.size ep ok ov)(h:u7 s.heap d es ep)(hi:es.size<=i)
  (q:∀h',Heap.ExtBut it s.heap h'->Q none { s with heap:=h' }):wpAny (model prog w) A (pyNext (.ref it)) Q E s:=by
 obtain⟨o,ho,hx,hdat⟩:=h.ex;have hT:s.TypeIs (.ref it) "dict_itemiterator":=⟨_,hit,rfl⟩;have own:sE "dict_itemiterator"=true:=by decide
 unfold pyNext;refine ak <| pP <| k_ (name:=k9 "__next__") hT sD <| pH sD hT F.entry_dict_itemiterator_next ?_ (F.args_dict_itemiterator_next_1 _);refine ak <| aH <| ak <| ak ?_
 first|refine ak <| wu hT <| aH ?_|refine ak <| wt hT <| aH ?_
 refine ak <| wr hit rfl ?_;simp only[own,if_true];show wpAny _ _ (if(Value.ref d==Value.none)=true then _ else _) _ _ _
 rw[if_neg (show ¬((Value.ref d==Value.none)=true)from gK)];refine ak <| aH <| ak <| nq ho hdat ?_;rw[if_neg (by simp)];refine ak <| aH <| ak <| pO ho hdat ?_;rw[if_neg (by simp)];refine aH ?_;simp only[show ¬((i:Int)<0)from by omega,if_false,jp,Array.getElem?_eq_none hi];refine ak ?_
 first|refine ak <| wu hT <| aH ?_|refine ak <| wt hT <| aH ?_
 show wpAny _ _ (wq (.ref it) 2 .none >>= _) _ _ s;refine ak <| sJ hit rfl (by simp) ?_;show wpAny _ _ (newExc (.type "StopIteration") [] >>= _) _ _ _;refine ak ?_;simp only[newExc,newTuple];refine ak <| jo ?_ (by size_fits);refine ak (m:=pQ _ _) <| wpAny_of_eq (a:=Value.none) (by first|rfl|(simp only[pQ];rfl)) <| jo ?_ (by size_fits)
 simp only[raiseNew];refine ak <| wpAny_handled ?_;rw[show A.in1.handled=none from hh];refine ak <| aH <| wpAny_throw ?_;refine ak (yI (b:=true) (T:="StopIteration") ⟨_,cK _ rfl,rfl⟩ isSubtype_stop (aH (q _ (((k7 ..).extBut.push _).push _))))
end
def HS(d:Addr)(o:Obj)(u:HO)(n:Nat)(ent:Nat->Hp->V->V->Prop):It :=
 ⟨fun i H=>H d=some (.frz o u)/\i<n,fun i H x H'=>∃p a b,H p=none/\x=.ref p/\ent i H a b/\H'=upd H p (.tup [a,b]),fun i H=>H d=some (.frz o u)/\n<=i⟩
structure GF(P:ck)(w:World)(K:Za)(d:Addr)(o:Obj)(u:HO)(n:Nat)(ent:Nat->Hp->V->V->Prop)(es:Array pT)(ep:Nat):Prop where
 ex:o.ExactDict
 dat:o.data=.dict es ep
 sz:es.size=n
 get:∀{H:Hp}{h:Heap}{i:Nat}(hi:i<es.size),mF P w K H h->H d=some (.frz o u)->∃a b,ent i H a b/\RelV a es[i].key/\RelV b es[i].val
theorem Ax{K:Za}{xs:List Expr}{kx:Nat}{J7:Pos}{it:Addr}(X0:GF P w K d o u n ent es ep):
  rO P w K (.Tuple xs kx J7) (HS d o u n ent) [it] it (fun i h=>∃ok ov,iM h it d i n ep ok ov) where
 mem:=by simp
 obj:=fun i h ⟨ok,ov,st⟩ b hb=>by
  have e:b=it:=by simpa using hb
  subst e;exact⟨_,st,fun v z=>by cases z⟩
 keep:=fun i h h' ⟨ok,ov,st⟩ k=>⟨ok,ov,k it (by simp) _ st⟩
 item:=by
  intro X hP hw hK hc i J3 s σ H E I hf ⟨ok,ov,st⟩ hg;subst hP hw hK;obtain⟨hd,hi⟩:=hg;have hi':i<es.size:=by rw[X0.sz];exact hi
  obtain⟨g,ou⟩:=(show bW X.prog X.w X.K H s.heap d (.frz o u)from I.hok d _ hd);obtain⟨a,b,en,ra,rb⟩:=X0.get hi' I.hok hd;obtain⟨f0,f1,f2,f3,f4,f5⟩:=hf it (by simp);rw[<-X0.sz]at st;refine Fe st ⟨o,g,X0.ex,X0.dat⟩ hi' fun h' ho' ht' hk'=>?_;refine⟨_,rfl,wpAny_letOwnedTupleGo_items (s:={ s with heap:=h' }) ho' fun h2 he2 hs2=>?_⟩;have hs2':fD it h' h2:=hs2;have hpe:s.heap.objs.size≠it:=gF (aY st);have ht2:h2.get? s.heap.objs.size=some { cls:=.type "tuple",data:=.seq #[es[i].key,es[i].val] }:=hs2'.extBut _ _ hpe ht';have hn0:H s.heap.objs.size=none:=I.fresh;have I2:Inv X J3 σ (upd H s.heap.objs.size (.tup [a,b])) { s with heap:=h2,toks:=s.toks }:=by
   refine I.turnedNew (ch:=[it]) hf (fun c o hb q=>?_) ⟨_,ht2⟩ (fun _ z=>nomatch z) ⟨by show 2<=aj;decide,[es[i].key,es[i].val],.cons ra (.cons rb .nil),⟨_,ht2,rfl,_,rfl⟩⟩;have nb1:c≠it:=fun z=>hb (by simp[z]);exact hs2'.extBut _ _ nb1 (hk' c o nb1 q)
  refine⟨.ref s.heap.objs.size,_,I2,rfl,⟨_,a,b,hn0,rfl,en,rfl⟩,⟨_,_,by rw[<-X0.sz];exact he2⟩,fun c hb=>?_⟩;have e:c=it:=by simpa using hb
  subst e;rw[ag (dA hpe)];exact f0
 done:=by
  intro X hP hw hK hc i J3 s σ H E I hf ⟨ok,ov,st⟩ hg;subst hP hw hK;obtain⟨hd,hi⟩:=hg;obtain⟨g,ou⟩:=(show bW X.prog X.w X.K H s.heap d (.frz o u)from I.hok d _ hd);obtain⟨f0,f1,f2,f3,f4,f5⟩:=hf it (by simp);rw[<-X0.sz]at st;exact Hb (I.ok.hd hc) st ⟨o,g,X0.ex,X0.dat⟩ (by rw[X0.sz];exact hi) fun h' eb=>⟨rfl,I.turned (t':=s.toks) (fun b o hb e=>eb b o hb e) f0 f1 f3 f4 f5⟩
 self:=fun _ _ _ _ _ ⟨_,_,st⟩ h=>PySem.W.kcp_self st h
def BA(K:Za)(kvs:List (TK×V)):Nat->Hp->V->V->Prop:=fun i H a b=>∃k,kvs[i]?=some (k,b)/\nV K H k a
theorem mz{K:Za}{d:Addr}{o:Obj}{kvs:List (TK×V)}(hok:mF P w K H h)(e:H d=some (.frz o (.dT kvs))):
  (d==gG)=false/\∃es ep,GF P w K d o (.dT kvs) kvs.length (BA K kvs) es ep:=by
 obtain⟨g,z,hsys,xs,rel,o',es,ep,ho',ex,hd,hes,nd⟩:=(show bW P w K H h d (.frz o (.dT kvs))from hok d _ e);rw[g]at ho';cases ho';have hl:es.size=xs.length:=by rw[<-mT,hes,ai]
 refine⟨hsys,es,ep,ex,hd,by rw[hl,Paired.length rel],fun{H' h' i} hi hok' e'=>?_⟩;obtain⟨g',z',hsys',xs',rel',o'',es',ep',ho'',ex',hd',hes',nd'⟩:=(show bW P w K H' h' d (.frz o (.dT kvs))from hok' d _ e');rw[g']at ho'';cases ho'';rw[hd]at hd';cases hd';have hl':es.size=xs'.length:=by rw[<-mT,hes',ai]
 have hi':i<xs'.length:=by omega
 have hk:i<kvs.length:=by rw[Paired.length rel'];exact hi'
 have hp:=vI rel' (i:=i) (a:=kvs[i]) (b:=xs'[i]) (by simp[hk]) (by simp[hi']);have he:es[i]=entryOfKey (dU P w) xs'[i]:=by
  have:es.toList[i]?=some es[i]:=by simp[hi]
  rw[hes',bw,aV hi']at this;injection this with this;exact this.symm
 refine⟨.ref xs'[i].2.1,kvs[i].2,⟨kvs[i].1,by simp[hk],hp.2.1⟩,?_,?_⟩
 ·rw[he];exact rfl
 ·rw[he];exact hp.2.2.2
def xT(K:Za)(tl:TE):TI:=fun σ H R=>tl σ H fun x H1=>∃d kvs,x=.ref d /\
 ((H1 d=some (.dT kvs)/\∀o,R (HS d o (.dT kvs) kvs.length (BA K kvs)) (upd H1 d (.frz o (.dT kvs))))∨∃o,H1 d=some (.frz o (.dT kvs))/\R (HS d o (.dT kvs) kvs.length (BA K kvs)) H1)
section
variable{X:Cx}{J3:Zd}{σ:St}{l:Expr}{tl:TE}{J5 J4 J7:Pos}{xs:List Expr}{kx:Nat}
theorem t5{R:It->Hp->Prop}(X0:GF X.prog X.w X.K d o u n ent es ep)(hsys:(d==gG)=false)(I2:Inv X J3 σ H2 s1)(e:H2 d=some (.frz o u))(q:R (HS d o u n ent) H2):
  MethodOn X.prog X.w X.A "items" J4 (.ref d) [] (fun v s2=>wpAny (model X.prog X.w) X.A (pyIter v) (JQ X J3 σ (.Tuple xs kx J7) R) X.xe s2) X.xe s1:=by
 obtain⟨g,_⟩:=(show bW X.prog X.w X.K H2 s1.heap d (.frz o u)from I2.hok d _ e);have raw:u7 s1.heap d es ep:=⟨o,g,X0.ex,X0.dat⟩;refine⟨"dict","dict.items",F.plainAttrs_dict,F.slot_dict_items,F.type_dict_items,raw.ty,fun a z=>?_,sO rfl (PySem.evalArgs_none (DF raw hsys ?_))⟩
 ·cases z;exact⟨o,g,X0.ex.2.1⟩
 refine Fg (s:={ s1 with heap:=s1.heap.push { cls:=.type "dict_items",data:=.fields #[.ref d] } }) ⟨_,cK _ rfl,rfl,rfl⟩ ⟨o,bj _ g,X0.ex,X0.dat⟩ fun h' hit hk=>?_;have I3:Inv X J3 σ H2 { s1 with heap:=h',toks:=s1.toks }:=I2.kept (t':=s1.toks) fun b o e=>hk b o (bj _ e);refine⟨_,[_],_,_,H2,rfl,I3,Ax X0,⟨_,_,by rw[<-X0.sz];exact hit⟩,fun b hb=>?_,q⟩;have e:b=(s1.heap.push { cls:=.type "dict_items",data:=.fields #[.ref d] }).objs.size:=by simpa using hb
 subst e;have z:s1.heap.objs.size<=(s1.heap.push { cls:=.type "dict_items",data:=.fields #[.ref d] }).objs.size:=by rw[oz];exact mS _
 exact I2.fpOk z (I2.hok.fresh z)
theorem vE(hl:PE X l tl)(hbase:sj l "items" X.env (eval l X.env)=eval l X.env:=by rfl)(hline:(J5.endLine==J4.line)=true:=by rfl):PI X (.Tuple xs kx J7) (.Call (.Attribute l "items" J5) [] [] J4) (xT X.K tl):=by
 intro J3 s σ H R I h;refine wpAny_Call_method0_late hbase hline (cD (hl J3 s σ H _ I h) fun v s1 ⟨x,H1,I1,r1,d,kvs,ex,q⟩=>?_);subst ex;cases r1;rcases q with⟨e,q⟩|⟨o,e,q⟩
 ·obtain⟨z,hsys,xs',rel,o,es,ep,ho,r⟩:=id (show bW X.prog X.w X.K H1 s1.heap d (.dT kvs)from I1.hok d _ e);have I2:Inv X J3 σ (upd H1 d (.frz o (.dT kvs))) { s1 with heap:=s1.heap,toks:=s1.toks } :=
   I1.write (x:=d) (e:=d) (t':=s1.toks) (by rw[e];trivial) (.inl rfl) (fun _ _ _ q=>q) ⟨o,ho⟩ ⟨ho,z,hsys,xs',Paired.mapP rel (fun p q r=>⟨r.1,nV.keeps (fun b ys eb=>by rw[ag (fun z=>by rw[z,e]at eb;cases eb)];exact eb) 8 r.2.2.1 r.2.1,r.2.2⟩),o,es,ep,ho,r⟩
  obtain⟨hsys',es',ep',X0⟩:=mz I2.hok (aa (H:=H1) (a:=d));exact t5 X0 hsys' I2 aa (q o)
 ·obtain⟨hsys',es',ep',X0⟩:=mz I1.hok e;exact t5 X0 hsys' I1 e q
end
def xi(K:Za)(tk tv:TE):TE:=fun σ H Q=>∀p,H p=none->tk σ (upd H p (.dT [])) fun x H1=>tv σ H1 fun y H2=>H2 p=some (.dT [])/\∃b k,x=.ref b/\nV K H2 k (.ref b)/\k.depth<=8/\Q (.ref p) (upd H2 p (.dT [(k,y)]))
theorem vH{X:Cx}{pos:Pos}{tv:TE}(hu:X.A.units+16<cLine)(hk:PE X k tk)(hv:PE X v tv):PE X (.Dict [some k] [v] pos) (xi X.K tk tv):=by
 intro J3 s σ H Q I q;have hn:=I.hok.fresh (aG s.heap.objs.size);have I1:=I.laid (a:=s.heap.objs.size) (o:=.dT []) (h':=s.heap.push { cls:=.type "dict",data:=.dict #[] }) (t':=s.toks) (fun _ _ q=>bj _ q) (aG _) (z_ s.heap I.big);rw[arm_eval_Dict,zip_pairTrees [some k] [v] X.env pos rfl rfl,dictDisplay_pairs (pairTrees [some k] [v] X.env pos) (by unfold pairTrees;simp) (by show 1<17;decide)];refine ak (Cj (ak ?_));unfold subDict;refine ak (wpAny_alloc ?_);refine ak (lh ?_);rw[if_pos (show(pairTrees [some k] [v] X.env pos).length<=15 from by show 1<=15;decide)];refine ak (pairTrees_cons_walk (cD (hk J3 _ σ _ _ I1 (q _ hn)) fun u s1 ⟨x,H1,I1,rx,q1⟩=>cD (hv J3 s1 σ H1 _ I1 q1) fun r s2 ⟨y,H2,I2,ry,e,b,kk,ex,eb,e8,q2⟩=>pairTrees_nil_walk ?_));subst ex;cases rx;refine lh ?_;obtain⟨z,hd,xs,rel,dd⟩:=C0 I2.hok I2.kIn e;cases rel;rw[pS];refine ak (ak (ak (wpAny_dictSet_heap (hsz:=df _) (show(dU X.prog X.w).room X.A from by show X.A.units+8<cLine;omega) (tZ I2.hok I2.kIn eb e8) dd fun h' dd' hs=>aH ?_)));show wpAny _ _ (forIn [] PUnit.unit _) _ _ _;rw[List.forIn_nil];refine aH (aH (aH (aH ⟨.ref s.heap.objs.size,_,?_,rfl,q2⟩)));obtain⟨q,es,ep,hq,h2,h3,h4,_,h5⟩:=dd';refine pj I2 (by rw[e];exact i8) hs ⟨q,hq⟩ ⟨by show 1<=aj;decide,hd,_,((KT.put (kvs:=[]) .nil kk eb e8 ry)).keeps fun c ys ec=>?_,q,es,ep,hq,h2,h3,h4,h5⟩;rw[ag (CO ec e (fun z=>nomatch z))];exact ec
section
variable{prog:ck}{w:World}{A:Around}{E:Zc}{s:Shared}{d v it:Addr}{es:Array pT}{ep i:Nat}
theorem DE{Q:Zc}(hd:(d==gG)=false)(h:u7 s.heap d es ep)
  (q:∀h',h'.IsKeyIter s.heap.objs.size d 0 es.size ep->(∀b o,s.heap.get? b=some o->h'.get? b=some o)->Q (.ref s.heap.objs.size) { s with heap:=h' }):wpAny (model prog w) A (pyIter (.ref d)) Q E s:=by
 obtain⟨o,ho,hx,hdat⟩:=h.ex;refine wpAny_pyIter_slot h.ty F.slot_dict_iter <| pH F.slot_dict_iter h.ty F.entry_dict_iter ?_ (F.args_dict_iter_1 _);unfold bZ.«dict.__iter__»;refine ak ?_;unfold bZ.Dict.dictSlotNone;refine ak <| wC h.ty <| ?_;refine aH (show wpAny _ _ (wv d >>= _) _ _ s from ?_);unfold wv;rw[if_neg (fun z=>by rw[hd]at z;cases z)];refine ak <| aH <| ak <| nq ho hdat <| ak <| pO ho hdat ?_;refine ak (jo (aH ⟨_,rfl,"dict_keyiterator",_,⟨_,cK _ rfl,rfl⟩,sC.lookup,?_⟩));exact q _ ⟨_,cK _ rfl,rfl,by simp[rawInt]⟩ fun b o e=>bj _ e
theorem DD{Q:Option Value->Shared->Prop}(hit:s.heap.IsKeyIter it d i es.size ep)(h:u7 s.heap d es ep)(hi:i<es.size)
  (q:∀h',h'.IsKeyIter it d (i+1) es.size ep->fD it s.heap h'->Q (some es[i].key) { s with heap:=h' }):wpAny (model prog w) A (pyNext (.ref it)) Q E s:=by
 obtain⟨ov,hov,hcv,hdv⟩:=id hit;obtain⟨o,ho,hx,hdat⟩:=h.ex;have hT:=hit.typeIs;unfold pyNext;refine ak <| pP <| k_ (name:=k9 "__next__") hT sC <| pH sC hT F.entry_dict_keyiterator_next ?_ (F.args_dict_keyiterator_next_1 _);refine ak <| aH <| ak <| ak ?_
 first|refine ak <| wo hT <| aH ?_|refine ak <| wn hT <| aH ?_
 refine ak <| wr hov hdv ?_;simp only[show sE "dict_keyiterator"=false by decide,lr,if_false];show wpAny _ _ (if(Value.ref d==Value.none)=true then _ else _) _ _ _
 rw[if_neg (show ¬((Value.ref d==Value.none)=true)from gK)];refine ak <| aH <| ak <| nq ho hdat ?_;rw[if_neg (by simp)];refine ak <| aH <| ak <| pO ho hdat ?_;rw[if_neg (by simp)];refine aH ?_;simp only[show ¬((i:Int)<0)from by omega,if_false,jp,Array.getElem?_eq_getElem hi];refine ak ?_
 first|refine ak <| wo hT <| aH ?_|refine ak <| wn hT <| aH ?_
 refine ak <| wpAny_isOneOf_keyiter hT ?_;show wpAny _ _ (wq (.ref it) 1 (rawInt ((i:Int)+1)) >>= _) _ _ s;refine ak <| sJ hov hdv (by simp) ?_;have n1:(s.heap.update it (Obj.mapFields (·.setIfInBounds 1 (rawInt ((i:Int)+1))))).IsKeyIter it d (i+1) es.size ep:=⟨_,wS _ hov (Obj.isFreed_of_fields (wJ hdv _)),(Obj.cls_mapFields ..).trans hcv,by rw[wJ hdv];simp[rawInt]⟩;have T1:=Heap.IsKeyIter.typeIs (s:={ s with heap:=s.heap.update it (Obj.mapFields (·.setIfInBounds 1 (rawInt ((i:Int)+1)))) }) n1;refine ak <| lh <| ak <| wpAny_isOneOf_keyiter T1 ?_;show wpAny _ _ (pure es[i].key) _ _ _;exact aH <| aH ⟨_,rfl,aH <| q _ n1 (k7 ..)⟩
theorem Ff{Q:Option Value->Shared->Prop}(hh:A.handled=none)(hit:s.heap.IsKeyIter it d i es.size ep)(h:u7 s.heap d es ep)(hi:es.size<=i)
  (q:∀h',Heap.ExtBut it s.heap h'->Q none { s with heap:=h' }):wpAny (model prog w) A (pyNext (.ref it)) Q E s:=by
 obtain⟨ov,hov,hcv,hdv⟩:=id hit;obtain⟨o,ho,hx,hdat⟩:=h.ex;have hT:=hit.typeIs;unfold pyNext;refine ak <| pP <| k_ (name:=k9 "__next__") hT sC <| pH sC hT F.entry_dict_keyiterator_next ?_ (F.args_dict_keyiterator_next_1 _);refine ak <| aH <| ak <| ak ?_
 first|refine ak <| wo hT <| aH ?_|refine ak <| wn hT <| aH ?_
 refine ak <| wr hov hdv ?_;simp only[show sE "dict_keyiterator"=false by decide,lr,if_false];show wpAny _ _ (if(Value.ref d==Value.none)=true then _ else _) _ _ _
 rw[if_neg (show ¬((Value.ref d==Value.none)=true)from gK)];refine ak <| aH <| ak <| nq ho hdat ?_;rw[if_neg (by simp)];refine ak <| aH <| ak <| pO ho hdat ?_;rw[if_neg (by simp)];refine aH ?_;simp only[show ¬((i:Int)<0)from by omega,if_false,jp,Array.getElem?_eq_none hi];refine ak ?_
 first|refine ak <| wo hT <| aH ?_|refine ak <| wn hT <| aH ?_
 show wpAny _ _ (wq (.ref it) 0 .none >>= _) _ _ s;refine ak <| sJ hov hdv (by simp) ?_;show wpAny _ _ (newExc (.type "StopIteration") [] >>= _) _ _ _;refine ak ?_;simp only[newExc,newTuple];refine ak <| jo ?_ (by size_fits);refine ak (m:=pQ _ _) <| wpAny_of_eq (a:=Value.none) (by first|rfl|(simp only[pQ];rfl)) <| jo ?_ (by size_fits)
 simp only[raiseNew];refine ak <| wpAny_handled ?_;rw[show A.in1.handled=none from hh];refine ak <| aH <| wpAny_throw ?_;refine ak (yI (b:=true) (T:="StopIteration") ⟨_,cK _ rfl,rfl⟩ isSubtype_stop (aH (q _ (((k7 ..).extBut.push _).push _))))
end
def Jy(d:Addr)(o:Obj)(u:HO)(n:Nat)(ent:Nat->Hp->V->V->Prop):It :=
 ⟨fun i H=>H d=some (.frz o u)/\i<n,fun i H x H'=>H'=H/\∃b,ent i H x b,fun i H=>H d=some (.frz o u)/\n<=i⟩
theorem Dk{K:Za}{it:Addr}(X0:GF P w K d o u n ent es ep):
  rO P w K tg (Jy d o u n ent) [it] it (fun i h=>h.IsKeyIter it d i n ep) where
 mem:=by simp
 obj:=fun i h st b hb=>by
  have e:b=it:=by simpa using hb
  subst e;obtain⟨o,e,c,d⟩:=st;exact⟨o,e,fun v z=>by rw[d]at z;cases z⟩
 keep:=fun i h h' st k=>st.at fun o e=>k it (by simp) o e
 item:=by
  intro X hP hw hK hc i J3 s σ H E I hf st hg;subst hP hw hK;obtain⟨hd,hi⟩:=hg;have hi':i<es.size:=by rw[X0.sz];exact hi
  obtain⟨g,ou⟩:=(show bW X.prog X.w X.K H s.heap d (.frz o u)from I.hok d _ hd);obtain⟨a,b,en,ra,rb⟩:=X0.get hi' I.hok hd;obtain⟨f0,f1,f2,f3,f4,f5⟩:=hf it (by simp);rw[<-X0.sz]at st;refine DD st ⟨o,g,X0.ex,X0.dat⟩ hi' fun h' st' sb=>?_;have I1:Inv X J3 σ H { s with heap:=h' }:=I.turned (t':=s.toks) (fun b o hb e=>(sb.2 b hb).trans e) f0 f1 f3 f4 f5;obtain⟨oi,e,c,dd⟩:=id st';exact⟨_,rfl,vZ (s:={ s with heap:=h' }) e c dd (by decide) ⟨a,H,I1,ra,⟨rfl,b,en⟩,by rw[<-X0.sz];exact st',fun b hb=>(hf b hb).1⟩⟩
 done:=by
  intro X hP hw hK hc i J3 s σ H E I hf st hg;subst hP hw hK;obtain⟨hd,hi⟩:=hg;obtain⟨g,ou⟩:=(show bW X.prog X.w X.K H s.heap d (.frz o u)from I.hok d _ hd);obtain⟨f0,f1,f2,f3,f4,f5⟩:=hf it (by simp);rw[<-X0.sz]at st;exact Ff (I.ok.hd hc) st ⟨o,g,X0.ex,X0.dat⟩ (by rw[X0.sz];exact hi) fun h' eb=>⟨rfl,I.turned (t':=s.toks) (fun b o hb e=>eb b o hb e) f0 f1 f3 f4 f5⟩
 self:=fun _ _ _ _ _ st h=>wpAny_pyIter_keyiter st h
def FV(K:Za)(tl:TE):TI:=fun σ H R=>tl σ H fun x H1=>∃d kvs,x=.ref d /\
 ((H1 d=some (.dT kvs)/\∀o,R (Jy d o (.dT kvs) kvs.length (BA K kvs)) (upd H1 d (.frz o (.dT kvs))))∨∃o,H1 d=some (.frz o (.dT kvs))/\R (Jy d o (.dT kvs) kvs.length (BA K kvs)) H1)
section
variable{X:Cx}{J3:Zd}{σ:St}{l tg:Expr}{tl:TE}
theorem vV{R:It->Hp->Prop}(X0:GF X.prog X.w X.K d o u n ent es ep)(hsys:(d==gG)=false)(I2:Inv X J3 σ H2 s1)(e:H2 d=some (.frz o u))(q:R (Jy d o u n ent) H2):
  wpAny (model X.prog X.w) X.A (pyIter (.ref d)) (JQ X J3 σ tg R) X.xe s1:=by
 obtain⟨g,_⟩:=(show bW X.prog X.w X.K H2 s1.heap d (.frz o u)from I2.hok d _ e);refine DE hsys ⟨o,g,X0.ex,X0.dat⟩ fun h' hit hk=>?_;have I3:Inv X J3 σ H2 { s1 with heap:=h',toks:=s1.toks }:=I2.kept (t':=s1.toks) hk;refine⟨_,[_],_,_,H2,rfl,I3,Dk X0,by rw[<-X0.sz];exact hit,fun b hb=>?_,q⟩;have e:b=s1.heap.objs.size:=by simpa using hb
 subst e;exact I2.fpOk (aG _) (I2.hok.fresh (aG _))
theorem Ft(hl:PE X l tl):PI X tg l (FV X.K tl):=by
 intro J3 s σ H R I h;refine cD (hl J3 s σ H _ I h) fun v s1 ⟨x,H1,I1,r1,d,kvs,ex,q⟩=>?_;subst ex;cases r1;rcases q with⟨e,q⟩|⟨o,e,q⟩
 ·obtain⟨z,hsys,xs',rel,o,es,ep,ho,r⟩:=id (show bW X.prog X.w X.K H1 s1.heap d (.dT kvs)from I1.hok d _ e);have I2:Inv X J3 σ (upd H1 d (.frz o (.dT kvs))) { s1 with heap:=s1.heap,toks:=s1.toks } :=
   I1.write (x:=d) (e:=d) (t':=s1.toks) (by rw[e];trivial) (.inl rfl) (fun _ _ _ q=>q) ⟨o,ho⟩ ⟨ho,z,hsys,xs',Paired.mapP rel (fun p q r=>⟨r.1,nV.keeps (fun b ys eb=>by rw[ag (fun z=>by rw[z,e]at eb;cases eb)];exact eb) 8 r.2.2.1 r.2.1,r.2.2⟩),o,es,ep,ho,r⟩
  obtain⟨hsys',es',ep',X0⟩:=mz I2.hok (aa (H:=H1) (a:=d));exact vV X0 hsys' I2 aa (q o)
 ·obtain⟨hsys',es',ep',X0⟩:=mz I1.hok e;exact vV X0 hsys' I1 e q
end
end L2
end

section
set_option Elab.async false
set_option linter.all false
set_option maxRecDepth 100000
namespace HT
open PySem PySem.Spec PyProof.Rows
end HT
namespace L2
open PySem PySem.Spec PyProof.Rows
end L2
namespace HT
open PySem PySem.Spec PyProof.Rows
end HT
namespace L2
open PySem PySem.Spec PyProof.Rows
end L2
end

section
set_option Elab.async false
set_option linter.all false
set_option maxRecDepth 100000
namespace HT
open PySem PyProof.Rows
section
open PySem.SeqAt
open PySem.AutoSeq1 (wpAny_loadPart')
open PySem.MeetsSeq PySem.MeetsSeq2 PySem.MeetsSeq3
theorem ints_drop{its:Zf}{i:Nat}(h:fO (its.drop i) ns):(ns=[]/\its.length<=i)∨∃a t r,its[i]?=some (.int a t)/\ns=a::r/\fO (its.drop (i+1)) r:=by
 rcases d6 i its.length with z|z
 ·rw[sF z]at h;generalize e:its[i]=v at h;cases h with
  |cons a t h'=>exact .inr ⟨a,t,_,by rw[aV z,e],rfl,h'⟩
 ·rw[List.drop_eq_nil_of_le z]at h;cases h;exact .inl ⟨rfl,z⟩
theorem lt_loop(l b:Addr)(its its2:Zf)(n n2:Nat)(dd dd2:Option Addr)(sl sl2:Array (Option Value)):∀(ns ms:List Int) (i:Nat),fO (its.drop i) ns->fO (its2.drop i) ms->its.length+ms.length=its2.length+ns.length ->
  Meets (bZ.«list.__eq__.loop» ⟨[.ref l,.ref b,rawInt i,rawInt 0],[]⟩)
   (fun _ R s=>s.heap.get? l=some { cls:=.type "list",dict:=dd,data:=.seq its.toArray n,slots:=sl }/\s.heap.get? b=some { cls:=.type "list",dict:=dd2,data:=.seq its2.toArray n2,slots:=sl2 }/\R (.ok (.ret (.bool (lexLt ns ms)))) s):=by
 intro ns
 induction ns with
 |nil =>
  intro ms i h1 h2 hz prog w A R s h;obtain⟨hp,g,d,tk,os⟩:=s;obtain⟨hl,hb,h⟩:=h
  wp_walk using h9 hl,h9 hb
  rcases ints_drop h1 with⟨_,z⟩|⟨_,_,_,_,e,_⟩
  ·have e1:its.toArray[((i:Nat):Int).toNat]?=none:=by simp;omega
   rw[e1]
   wp_walk using h9 hl,h9 hb
   show R (.ok (.ret (.bool (decide (its.toArray.size<its2.toArray.size))))) _;have e2:decide (its.toArray.size<its2.toArray.size)=lexLt [] ms:=by
    simp only[bC];cases ms with
    |nil=>exact zzr0 (by simp at hz;omega)
    |cons m ms=>exact zzr1 (by simp at hz;omega)
   rw[e2];exact h
  ·cases e
 |cons a ns ih =>
  intro ms i h1 h2 hz prog w A R s h;obtain⟨hp,g,d,tk,os⟩:=s;obtain⟨hl,hb,h⟩:=h
  wp_walk using h9 hl,h9 hb
  rcases ints_drop h1 with⟨e,_⟩|⟨a',t,r,g1,e,h1'⟩
  ·cases e
  cases e;have e1:its.toArray[((i:Nat):Int).toNat]?=some (.int a t):=by simpa using g1
  rw[e1];rcases ints_drop h2 with⟨e,z⟩|⟨c,u,r2,g2,e,h2'⟩
  ·subst e;have e2:its2.toArray[((i:Nat):Int).toNat]?=none:=by simp;omega
   rw[e2]
   wp_walk using h9 hl,h9 hb
   show R (.ok (.ret (.bool (decide (its.toArray.size<its2.toArray.size))))) _;rw[zzr0 (by simp only[bC];simp at hz;omega)];exact h
  subst e;have e2:its2.toArray[((i:Nat):Int).toNat]?=some (.int c u):=by simpa using g2
  rw[e2];rw[lexLt_cons]at h;obtain⟨e,he,hiff⟩:=eqAt_int A.in1 ⟨hp,g,d,tk,os⟩ a t c u;refine ak (he prog w _ _ ?_);have hc:((i:Int)+1)=((i+1:Nat):Int):=by push_cast;rfl
  cases e with
  |true =>
   rw[if_pos (hiff.mp rfl)]at h
   wp_walk
   rw[hc];exact⟨wx plain_eq_loop _,wB entry_eq_loop (by
    rw[wA plain_eq_loop _];exact ih r2 (i+1) h1' h2' (by simp at hz;omega) prog w A R _ ⟨hl,hb,h⟩)⟩
  |false =>
   rw[if_neg (fun q=>absurd (hiff.mpr q) gK)]at h
   wp_walk using h9 hl,h9 hb
   rw[e1,e2];have hri:=rcLt_int A.in1 ⟨hp,g,d,tk,os⟩ a t c u prog w
   wp_walk using hri
   exact h
theorem list_lt_ints(l b:Addr)(its its2:Zf)(n n2:Nat)(dd dd2:Option Addr)(sl sl2:Array (Option Value))(ns ms:List Int)(h1:fO its ns)(h2:fO its2 ms):
  Meets (bZ.«list.__lt__» ⟨[.ref l,.ref b],[]⟩)
   (fun _ R s=>s.heap.get? l=some { cls:=.type "list",dict:=dd,data:=.seq its.toArray n,slots:=sl }/\s.heap.get? b=some { cls:=.type "list",dict:=dd2,data:=.seq its2.toArray n2,slots:=sl2 }/\R (.ok (.ret (.bool (lexLt ns ms)))) s):=by
 intro prog w A R s h;obtain⟨hp,g,d,tk,os⟩:=s;obtain⟨hl,hb,h⟩:=h;have f2:=AutoSeq1.sub_list_list
 wp_walk using h9 hl,h9 hb
 exact⟨wx plain_eq_loop _,wB entry_eq_loop (by
  rw[wA plain_eq_loop _];exact lt_loop l b its its2 n n2 dd dd2 sl sl2 ns ms 0 h1 h2 (by rw[<-h1.length,<-h2.length];omega) prog w A R _ ⟨hl,hb,h⟩)⟩
end
end HT
namespace L2
open PySem PySem.Spec PyProof.Rows
section
variable{X:Cx}
def Jh(K:Za):R2:=fun x y H Q=>∃a b ns ms,x=.ref a/\y=.ref b/\aA K H a (ns.map V.int)/\aA K H b (ms.map V.int)/\Q (.bl (HT.lexLt ns ms)) H
theorem IF(hu:X.A.units+16<cLine):nY X (em .Lt) (Jh X.K):=by
 intro J3 s σ H x y v u Q I rx ry h;obtain⟨a,b,ns,ms,rfl,rfl,ha,hb,q⟩:=h;cases rx;cases ry;obtain⟨its,r1,p1,_⟩:=I.list ha;obtain⟨its2,r2,p2,_⟩:=I.list hb;have i1:fO its ns:=intsAre_of r1;have i2:fO its2 ms:=intsAre_of r2;obtain⟨⟨cls,dd,data,sl⟩,n,ho,hc,hd,he⟩:=id p1;obtain⟨⟨cls2,dd2,data2,sl2⟩,n2,ho2,hc2,hd2,he2⟩:=id p2;simp only at hc hd hc2 hd2 he he2;subst hc hd hc2 hd2 he he2;exact richCompare_meets_room (op:=.Lt) ⟨_,ho,rfl⟩ ⟨_,ho2,rfl⟩ PySem.F.slot_list_lt PySem.F.entry_list_lt (PySem.F.args_list_lt_2 _ _) (HT.list_lt_ints a b its its2 n n2 none none sl sl2 ns ms i1 i2)
  ⟨ho,ho2,show Value.bool (HT.lexLt ns ms)≠Value.notImplemented/\_ from⟨(fun x=>nomatch x),.bl _,H,I,rfl,q⟩⟩ (by omega)
def ml(K:Za):V->List V->Hp->VK->Prop:=fun x vs H Q=>∃l y xs d ds j,x=.ref l/\vs=[y]/\H l=some (.lst xs)/\DIns K H ds xs/\hE K H d y/\d.depth<=8/\DT.depths ds<=8/\xs.length<=1000/\ds[j]?=some d/\(∀m,m<j->ds[m]?≠some d)/\Q (.int (j:Nat)) H
theorem Ab:∀{ks:List DT}{us:Zf}{i:Nat}{k:DT},DAts h ks us->ks[i]?=some k->∃u,us[i]?=some u/\pG h k u
 |[],_,_,_,_,e=>by cases e
 |k::ks,us,0,_,q,e=>by
  obtain⟨v,us',rfl,h1,_⟩:=q;cases e;exact⟨v,rfl,h1⟩
 |k::ks,us,i+1,_,q,e=>by
  obtain⟨v,us',rfl,_,h2⟩:=q;rw[List.getElem?_cons_succ]at e;obtain⟨u,h3,h4⟩:=Ab h2 e;exact⟨u,by rw[List.getElem?_cons_succ];exact h3,h4⟩
open Classical in
theorem qp(hu:X.A.units+16<cLine):Io X "list.index" (ml X.K):=by
 intro J3 s σ H x vs v us Q I rx rv h;obtain⟨l,y,xs,d,ds,j,rfl,rfl,hH,hds,hd,d8,ds8,hz,hj,hno,q⟩:=h;cases rx;obtain⟨u,rfl,ru⟩:=rv.one;obtain⟨z,its,n,r,hl,e⟩:=I.lstM hH;have hu':X.A.in1.units+8<cLine:=by show X.A.units+1+8<cLine;omega
 have dv:=lT I 8 d8 hd ru;have hi:=mC I ds8 hds r;have lz:ds.length=its.length:=DAts.length hi;have jl:j<its.length:=by rw[<-lz];exact(bO.1 hj).1
 have at_:∀m (hm:m<its.length),pG s.heap (ds[m]'(by omega)) its[m]:=fun m hm=>by
  obtain⟨w,hw,q⟩:=Ab hi (i:=m) (aV (by omega));rw[aV hm]at hw;injection hw with hw;rw[hw];exact q
 refine nA F.slot_list_index ⟨_,e,rfl⟩ F.entry_list_index (F.args_list_index_2 _ _)
  (SeqAt.list_indexAt l its.toArray n none #[] u (fun w=>@decide (pG s.heap d w) (propDecidable _)) j (by simpa using jl) (by omega) ?_ ?_) ⟨e,fun w hw=>qq d8 hu' dv hi ds8 w (by simpa using hw),?_⟩
 ·refine zzr1 ?_;have:=at_ j jl;rw[(bO.1 hj).2]at this;simpa using this
 ·intro m hm lt;have hm':m<its.length:=by simpa using hm
  refine zzr0 fun q=>hno m lt ?_;have e1:=pG.inj 8 d8 (by simpa using q) (at_ m hm');rw[aV (by omega),<-e1]
 ·exact⟨.int (j:Nat),H,I.tok _,⟨_,rfl⟩,q⟩
end
abbrev Jg:List V->Hp->VK->Prop:=fun xs H Q=>∃i j,xs=[.int i,.int j]/\Q (.int (if j > i then j else i)) H
end L2
end
set_option Elab.async false
set_option linter.all false
set_option maxRecDepth 100000
set_option maxHeartbeats 4000000
namespace Mum
open PySem PySem.Spec PyProof.Rows L2
def xf(K:Za):TS :=
 aq (cn (a_ (aI rGeI V0 (aI H_ (tC (.int 10)) (tC (.int 18))))) (bq V0) (bv))
 (aq (aO (aI jd (aI dg (aI dg (aI lH (aI jd V0 (tC (.int 1000000007))) (tC (.int 69069))) (aI lH V1 (tC (.int 40503)))) (tC (.int 977))) (tC (.int 2147483629))) U2)
 (aq (aO (aI jd (aI dg (aI dg (aI lH V2 V2) (aI lH V1 (tC (.int 7919)))) (aI jd V0 (tC (.int 65537)))) (tC (.int 2147483587))) U3)
 (aq (aO (aI jd (aI dg (aI dg (aI lH V3 V3) (aI lH V2 (tC (.int 31)))) (tC (.int 5))) (tC (.int 2147483563))) U4)
 (bq (aI dg (aI lH (aI dg (aI lH V2 (tC (.int 2147483659))) V3) (tC (.int 2147483693))) V4)))))
def yr:List Str:=["cell","at","one","two","three"]
def AE(K:Za):TS :=
 aq (aO (dE (dC K) (aB (AI (rL K) V0 (fg) (gH (tC (.int 12)))))) U1)
 (aq (eG (t6 K (aB (AI (rL K) V0 (gH (tC (.int 12))) (gH (tC (.int 63)))))) (gE K 2 (aT U2 (aT U3 (fZ)))) (aO (aI dg (aI (bX K) V1 (aI jd V2 (tC (.int 12)))) V3) (By V1 (aI jd V2 (tC (.int 12))) tK)))
 (bq (c_ (eJ V1 (tC (.int 0)) (tC (.int 0))))))
def BU:List Str:=["script","cells","k","cell"]
def AH(K:Za):TS :=
 aq (aO (tC (.int 0)) (By V0 (tC (.int 2)) tK))
 (bq V0)
def BX:List Str:=["pen"]
def AD(K:Za)(sp_law_spread:Sp):TS :=
 aq (cn (a_ (aI DG (aI (bX K) V0 (tC (.int 2))) V1)) (aq (aO (aI (bX K) V0 (tC (.int 1))) U2)
 (aq (aO (tC (.int 0)) U3)
 (aq (cn (a_ (aI DG V2 (dE (dh K) (aB (aI (bX K) V0 (tC (.int 0))))))) (aO (aI (bX K) (aI (bX K) V0 (tC (.int 0))) V2) U3) (cn (a_ (aI Fm (dE (dh K) (aB (aI (bX K) V0 (tC (.int 0))))) (tC (.int 0)))) (aO (aI jd (aI (bX K) (aI (bX K) V0 (tC (.int 0))) (aI jd (aI dg (aI lH V2 (tC (.int 5))) (tC (.int 3))) (dE (dh K) (aB (aI (bX K) V0 (tC (.int 0))))))) (aI dg (aI H_ (tC (.int 10)) (tC (.int 17))) V2)) U3) (bv)))
 (aq (aO (aI dg V2 (tC (.int 1))) (By V0 (tC (.int 1)) tK))
 (aO (aS sp_law_spread (aN V3 V2)) (By V0 (tC (.int 2)) tK)))))) (bv))
 (aq (aO (aI jd (aI (bX K) V0 (tC (.int 2))) V1) U4)
 (aq (aO (aI Fn (aI (bX K) V0 (tC (.int 2))) V1) (By V0 (tC (.int 2)) tK))
 (bq V4)))
def BS:List Str:=["pen","many","at","cell","found"]
def yS(K:Za)(sp_law_take:Sp):TS :=
 aq (aO (tC (.str "abcdefghijklmnopqrstuvwxyz")) U2)
 (aq (aO (oI K "str" (Ia K) (tC (.str "")) (ar (eB 1 [2,0] (vY (aB (tC (.int 7)))) U0 (jH) (aI Fk V1 (aS sp_law_take (aN V2 (tC (.int 26)))))) bm)) U3)
 (aq (aO (aS sp_law_take (aN V0 (tC (.int 3)))) U4)
 (aq (aO (aS sp_law_take (aN V0 (tC (.int 26)))) U5)
 (aq (aO (aS sp_law_take (aN V0 (tC (.int 8)))) U6)
 (aq (aO (c_ (bm)) U7)
 (aq (eG (vY (aB V1)) U8 (aq (aO (aI Fk V2 (aI jd (aI dg V5 (aI lH (tC (.int 3)) V8)) (tC (.int 26)))) U9)
 (aq (aO (AI Hd V3 (fg) (gH (aI jd (aI dg V6 (aI lH V8 (aI jd V4 (tC (.int 2))))) (tC (.int 8))))) IS)
 (aq (aO (aI (bX K) (c_ (eJ (tC (.int 0)) (dE (dh K) (aB Es)) (aI Fn (dE (dh K) (aB Es)) (tC (.int 2))))) V4) JO)
 (bJ (oI K "list" cz V7 (aB (aI Ib (aI Ib (AI Hd Es (fg) (gH Ju)) V9) (AI Hd Es (gH Ju) (fg))))))))))
 (bq V7)))))))
def Am:List Str:=["pen","many","letters","base","way","turn","size","found","k","sign","part","at"]
def Dp(K:Za):TS :=
 cn (a_ (aI (xB K true) V1 V0)) (bJ (oI K "list" cz V0 (aB V1))) (bv)
def Eu:List Str:=["doors","door"]
def pZ(K:Za)(sp_law_take:Sp)(sp_law_put:Sp):TS :=
 aq (aO (c_ (bm)) U5)
 (aq (aO (aS sp_law_take (aN V0 (tC (.int 2)))) U6)
 (aq (eG (t6 K (aB V3)) (gE K 2 (aT U7 (aT U8 (fZ)))) (aq (eG (vY (ar (aI (bX K) (c_ (ar (tC (.int 0)) (eJ (tC (.int 1)) (tC (.int 1)) (tC (.int 2))))) (aS sp_law_take (aN V0 (tC (.int 4))))) bm)) U9 (aq (aO (bu (ar (tC (.str "say")) (ar (aI (bX K) V2 (aS sp_law_take (aN V0 (dE (dh K) (aB V2))))) bm))) IS)
 (bJ (aS sp_law_put (ar V5 (ar (bu (ar V8 (ar Es (ar (aI (bX K) V3 (aS sp_law_take (aN V0 (dE (dh K) (aB V3))))) bm)))) bm))))))
 (aq (eG (cx K V1) JO (eG (vY (ar (aI (bX K) (c_ (ar V4 (eJ (tC (.int 1)) (tC (.int 1)) (tC (.int 2))))) (aS sp_law_take (aN V0 (tC (.int 4))))) bm)) U9 (bJ (aS sp_law_put (ar V5 (ar (bu (ar V8 (ar (bu (aN (tC (.str "ask")) Ju)) (ar (aI (bX K) V3 (aS sp_law_take (aN V0 (dE (dh K) (aB V3))))) bm)))) bm))))))
 (aq (aO (aI (bX K) (c_ (ar (AI (rL K) V3 (gH (aI dg V7 (tC (.int 1)))) (fg)) (aB (AI (rL K) V3 (fg) (gH V7))))) V6) U12)
 (cn (uR (a_ (aI (A9 K) V12 (c_ (bm)))) (a_ (aI Ar (aS sp_law_take (aN V0 (tC (.int 3)))) (tC (.int 0))))) (bJ (aS sp_law_put (ar V5 (ar (bu (ar V8 (ar (bu (aB (tC (.str "still")))) (ar (aI (vD K) V12 (aS sp_law_take (aN V0 (dE (dh K) (aB V12))))) bm)))) bm)))) (bv))))))
 (bq V5)))
def qE:List Str:=["pen","asks","says","rooms","full","doors","down","k","room","turn","sign","ask","later"]
def yT(K:Za)(sp_law_draw_doors:Sp)(sp_law_names:Sp)(sp_law_take:Sp)(sp_law_anew:Sp):TS :=
 aq (bJ (aS sp_law_anew (aB V0)))
 (aq (aO (aS sp_law_names (aN V0 (tC (.int 8)))) U3)
 (aq (aO (AI (rL K) V3 (fg) (gH (aI dg (tC (.int 1)) (aI (bX K) (c_ (ar (tC (.int 0)) (ar (tC (.int 1)) (ar (tC (.int 1)) (eJ (tC (.int 2)) (tC (.int 2)) (tC (.int 3))))))) (aS sp_law_take (aN V0 (tC (.int 6)))))))) U4)
 (aq (aO (AI (rL K) V3 (gH (tC (.int 4))) (gH (aI dg (tC (.int 5)) (aI (bX K) (c_ (ar (tC (.int 0)) (ar (tC (.int 1)) (ar (tC (.int 1)) (eJ (tC (.int 2)) (tC (.int 2)) (tC (.int 3))))))) (aS sp_law_take (aN V0 (tC (.int 6)))))))) U5)
 (aq (aO (aS sp_law_names (aN V0 (aI dg (tC (.int 1)) (aS sp_law_take (ar V0 (aB V1)))))) U6)
 (aq (aO (aS sp_law_draw_doors (ar V0 (ar V4 (eJ V5 V6 V2)))) U7)
 (bq (bu (ar V4 (eJ V5 V6 V7)))))))))
def An:List Str:=["pen","most","full","words","asks","says","rooms","doors"]
def uI(K:Za)(C_Machine:Addr)(sp_Machine_init:Sp):TS :=
 bq (yU C_Machine sp_Machine_init [] E0 (ar (dE (dC K) (aB (aI (vD K) V0 (tC (.int 0))))) (ar (dE (dC K) (aB (aI (vD K) V0 (tC (.int 1))))) (ar (dE (dC K) (aB (aI (vD K) V0 (tC (.int 2))))) (ar (dE (dC K) (aB (aI (vD K) V0 (tC (.int 3))))) bm)))))
def ve:List Str:=["told"]
def sW(K:Za)(sp_law_same:Sp):TS :=
 aq (cn (tB (Du V1)) (bq (Du V0)) (bv))
 (aq (cn (a_ (aI Fl V1 (tC (.bl true)))) (bq (aI Fl V0 (tC (.bl true)))) (bv))
 (aq (cn (a_ (aI Fl V1 (tC (.bl false)))) (bq (aI Fl V0 (tC (.bl false)))) (bv))
 (aq (cn (tB (dE (qg K) (aN V1 (tC (.ty "int"))))) (bq (tz (dE (qg K) (aN V0 (tC (.ty "int")))) (tz (HW (dE (qg K) (aN V0 (tC (.ty "bool"))))) (aI (tL K) V0 V1)))) (bv))
 (aq (cn (tB (dE (qg K) (aN V1 (tC (.ty "str"))))) (bq (tz (dE (qg K) (aN V0 (tC (.ty "str")))) (aI (tL K) V0 V1))) (bv))
 (aq (cn (EN (a_ (aI Fj (dE (qg K) (aN V1 (tC (.ty "tuple")))) (dE (qg K) (aN V0 (tC (.ty "tuple")))))) (a_ (aI Fj (dE (qg K) (aN V1 (tC (.ty "list")))) (dE (qg K) (aN V0 (tC (.ty "list"))))))) (bq (tC (.bl false))) (bv))
 (aq (cn (a_ (aI Fj (dE (dh K) (aB V0)) (dE (dh K) (aB V1)))) (bq (tC (.bl false))) (bv))
 (aq (eG (CV K (aN V0 V1)) (gE K 2 (aT U2 (aT U3 (fZ)))) (cn (EQ (tB (aS sp_law_same (aN V2 V3)))) (bq (tC (.bl false))) (bv)))
 (bq (tC (.bl true))))))))))
def BT:List Str:=["found","due","one","other"]
def Dr(K:Za):TS :=
 bq (tz (aI Fj V0 (tC (.str ""))) (tz (aI rLeI (dE (dh K) (aB V0)) (tC (.int 8))) (dE (Ji K) (aB (eB 1 [] (Jn V0) U0 (jH) (aI rInS V0 (tC (.str "abcdefghijklmnopqrstuvwxyz"))))))))
def Ew:List Str:=["text"]
def Dt(K:Za):TS :=
 aq (aO (p9) U1)
 (aq (eG (cx K V0) U2 (mY V1 V2 (tC (.bl true))))
 (bq V1))
def Ex:List Str:=["things","keys","thing"]
def nE(K:Za)(sp_is_name:Sp)(sp_as_keys:Sp):TS :=
 aq (cn (a_ (aI Ar (dE (dh K) (aB V0)) (tC (.int 0)))) (bq (tC (.int 0))) (bv))
 (aq (aO (aS sp_as_keys (aB V2)) U3)
 (aq (eG (t6 K (aB V0)) (gE K 2 (aT U4 (aT U5 (fZ)))) (aq (cn (EN (a_ (aI Ar V4 V1)) (EN (tB (AQ K V5 V3)) (EQ (tB (aS sp_is_name (aB V5)))))) (bq V4) (bv))
 (mY V3 V5 (tC (.bl true)))))
 (bq (tC .non))))
def nZ:List Str:=["names","most","taken","ahead","number","name"]
def xh(K:Za)(a_STILL:Addr):TS :=
 bq (aI qh (aI qh (eB 1 [] (cx K V0) U0 (jH) (bu (aN (tC (.str "ask")) V0))) (eB 1 [] (cx K V1) U0 (jH) (bu (aN (tC (.str "say")) V0)))) (c_ (aB (tC (.ref a_STILL)))))
def yu:List Str:=["asks","says"]
def nF(K:Za)(sp_as_keys:Sp):TS :=
 aq (aO (aS sp_as_keys (aB V1)) U3)
 (aq (aO (p8) U4)
 (aq (eG (t6 K (aB V0)) (gE K 2 (aT U5 (aT U6 (fZ)))) (aq (cn (EN (a_ (aI Ar V5 (tC (.int 2000)))) (tB (AQ K V6 V4))) (bq V5) (bv))
 (aq (cn (EN (tB (fQ K (aI (vD K) V6 (tC (.int 0))) V3)) (EN (a_ (aI (xB K true) (aI (vD K) V6 (tC (.int 1))) V2)) (tB (fQ K (aI (vD K) V6 (tC (.int 2))) V3)))) (bq V5) (bv))
 (mY V4 V6 (tC (.bl true))))))
 (bq (tC .non))))
def n5:List Str:=["doors","rooms","signs","own_rooms","ahead","number","door"]
def i4(K:Za):TS :=
 aq (aO (p8) U1)
 (aq (eG (cx K V0) (gE K 3 (aT U2 (aT U3 (aT U4 (fZ))))) (bJ (oI K "list" cz (oI K "dict" Cy V1 (aN (bu (ar V2 (aB V3))) (c_ (bm)))) (aB V4))))
 (bq V1))
def i7:List Str:=["doors","goals","start","sign","goal"]
def sU(K:Za)(a_STILL:Addr):TS :=
 aq (aO (p9) U2)
 (aq (aO (c_ (aB V1)) U3)
 (aq (nK (a_ (aI Fm (dE (dh K) (aB V3)) (tC (.int 0)))) (aq (aO (GU K "list" Ix V3) U4)
 (eG (Jo K (tw K V0 (bu (aN V4 (tC (.ref a_STILL)))) (bu (bm)))) U5 (cn (tB (fQ K V5 V2)) (aq (mY V2 V5 (tC (.bl true)))
 (bJ (oI K "list" cz V3 (aB V5)))) (bv)))))
 (bq V2)))
def uq:List Str:=["goals","room","led","waiting","here","goal"]
def oC(K:Za):TS :=
 aq (eG (t6 K (aB V0)) (gE K 2 (aT U2 (aT U3 (fZ)))) (cn (tB (AQ K V3 (ik K V1 V3))) (bq V2) (bv)))
 (bq (tC .non))
def pD:List Str:=["rooms","led","number","room"]
def yQ(K:Za):TS :=
 cn (tB (EO V1)) (sZ) (bv)
def Ak:List Str:=["part","number"]
def w_(K:Za)(sp_need_none:Sp)(sp_first_wrong_door:Sp)(sp_door_signs:Sp)(sp_first_wrong_name:Sp):TS :=
 aq (bJ (aS sp_need_none (aN (tC (.str "asks")) (aS sp_first_wrong_name (eJ V0 (tC (.int 4)) (c_ (bm)))))))
 (aq (bJ (aS sp_need_none (aN (tC (.str "says")) (aS sp_first_wrong_name (eJ V1 (tC (.int 4)) V0)))))
 (aq (bJ (aS sp_need_none (aN (tC (.str "rooms")) (aS sp_first_wrong_name (eJ V2 (tC (.int 150)) (c_ (bm)))))))
 (bJ (aS sp_need_none (ar (tC (.str "doors")) (aB (aS sp_first_wrong_door (eJ V3 V2 (aS sp_door_signs (aN V0 V1))))))))))
def yo:List Str:=["asks","says","rooms","doors"]
def p5(K:Za):TS :=
 aq (aO (p9) U2)
 (aq (eG (cx K V0) U3 (mY V2 V3 (c_ (bm))))
 (aq (eG (cx K V1) U4 (bJ (oI K "list" cz (ik K V2 (aI (vD K) V4 (tC (.int 0)))) (aB V4))))
 (bq V2)))
def qG:List Str:=["rooms","doors","leaving","room","door"]
def p4(K:Za):TS :=
 bq (dE (Ji K) (ar (eB 1 [] (cx K V0) U0 (jH) (aI Ar (aI (vD K) (aI (vD K) V0 (tC (.int 1))) (tC (.int 0))) (tC (.str "ask")))) bm))
def qF:List Str:=["doors"]
def nI(K:Za)(sp_need_none:Sp)(sp_first_led_round:Sp)(sp_led_by_still:Sp)(sp_goals_by_start_and_sign:Sp)(sp_as_keys:Sp)(sp_has_asks_alone:Sp)(sp_doors_by_start:Sp)(sp_need_parts:Sp):TS :=
 aq (bJ (aS sp_need_parts (ar V1 (eJ V2 V3 V4))))
 (aq (oT K V0 (dE (dC K) (aB V1)) "own_asks")
 (aq (oT K V0 (dE (dC K) (aB V2)) "own_says")
 (aq (oT K V0 (dE (dC K) (aB V3)) "own_rooms")
 (aq (oT K V0 (dE (dC K) (aB V4)) "own_doors")
 (aq (oT K V0 (aS sp_doors_by_start (aN V3 V4)) "leaving")
 (aq (oT K V0 (aS sp_as_keys (ar (eB 1 [0] (cx K V3) U0 (tB (aS sp_has_asks_alone (aB (ik K (fP K V1 "leaving") V0)))) V0) bm)) "quiet")
 (aq (oT K V0 (aS sp_goals_by_start_and_sign (aB V4)) "sign_goals")
 (aq (oT K V0 (dE (He K) (ar (eB 1 [0] (cx K V3) U0 (jH) (bu (aN V0 (aS sp_led_by_still (ar (fP K V1 "sign_goals") (aB V0)))))) bm)) "still_led")
 (bJ (aS sp_need_none (aN (tC (.str "still")) (aS sp_first_led_round (ar V3 (aB (fP K V0 "still_led")))))))))))))))
def n_:List Str:=["self","asks","says","rooms","doors"]
def nH(K:Za):TS :=
 bq (AQ K V1 (fP K V0 "quiet"))
def n8:List Str:=["self","room"]
def mW(K:Za)(sp_with_still:Sp)(C_Machine:Addr)(sp_Machine_goals:Sp)(a_HUSH:Addr)(sp_Machine_is_quiet:Sp):TS :=
 aq (cn (a_ (aI (tL K) V2 (tC (.ref a_HUSH)))) (bq (dE (HZ K) (aB (eB 1 [0] (IN K V1) U0 (tB (dB C_Machine "is_quiet" sp_Machine_is_quiet [] E0 V1 (aB V0))) V0)))) (bv))
 (aq (aO (c_ (bm)) U3)
 (aq (eG (IN K V1) U4 (bJ (oI K "list" Cz V3 (aB (dB C_Machine "goals" sp_Machine_goals [] E0 V0 (aN V4 V2))))))
 (bq (aS sp_with_still (aN V0 V3)))))
def m_:List Str:=["M","face","sign","goals","room"]
def cQ(p:Addr)(H H':Hp):Prop:=∀b o,H b=some o->b≠p->H' b=some o
theorem cQ.refl(p:Addr)(H:Hp):cQ p H H:=fun _ _ h _=>h
theorem cQ.trans(a:cQ p H H1)(b:cQ p H1 H2):cQ p H H2:=fun c o h n=>b c o (a c o h n) n
theorem ac.exB(a:ac H H'):cQ p H H':=fun b o h _=>a b o h
theorem cQ.upd(p:Addr)(H:Hp)(o:HO):cQ p H (upd H p o):=fun b u h n=>by rw[ag n];exact h
theorem ac.new{H:Hp}{a:Addr}{o:HO}(h:H a=none):ac H (upd H a o):=fun b u e=>by rw[ag (ae e h)];exact e
theorem cQ.free(e:cQ p H H'){u:HO}(hp:H' p=some u)(h:H' l=none):H l=none:=by
 cases q:H l with
 |none=>rfl
 |some o =>
  by_cases z:l=p
  ·subst z;rw[hp]at h;cases h
  ·rw[e l o q z]at h;cases h
theorem kp{H:Hp}{a b:Addr}{o x:HO}(h:H b=some o)(n:H a=none):upd H a x b=some o:=by rw[ag (ae h n)];exact h
structure C_(H:Hp)(p c:Addr)(at_ rest:Int)(ns:List Int):Prop where
 pen:H p=some (.lst [.ref c,.int at_,.int rest])
 cells:H c=some (.lst (ns.map V.int))
 at0:0<=at_
 rest0:0<=rest
theorem C_.ne(h:C_ H p c a r ns):c≠p:=by
 intro e;have h1:=h.pen;have h2:=h.cells;rw[e,h1]at h2;injection h2 with h2;injection h2 with h2;cases ns with
 |nil=>cases h2
 |cons n ns=>injection h2 with h2;cases h2
def gD(H:Hp)(p c:Addr):Prop:=∃a r ns,C_ H p c a r ns
theorem gD.ex(h:gD H p c)(e:ac H H'):gD H' p c:=by
 obtain⟨a,r,ns,h1,h2,h3,h4⟩:=h;exact⟨a,r,ns,e _ _ h1,e _ _ h2,h3,h4⟩
theorem gD.pen(h:gD H p c):∃o,H p=some o:=by
 obtain⟨a,r,ns,h1,_⟩:=h;exact⟨_,h1⟩
theorem gD.cell(h:gD H p c):∃o,H c=some o:=by
 obtain⟨a,r,ns,_,h1,_⟩:=h;exact⟨_,h1⟩
theorem gD.upd{l:Addr}{o:HO}(h:gD H p c)(h1:p≠l)(h2:c≠l):gD (upd H l o) p c:=by
 obtain⟨a,r,ns,g1,g2,g3,g4⟩:=h;exact⟨a,r,ns,by rw[ag h1];exact g1,by rw[ag h2];exact g2,g3,g4⟩
theorem gD.nep{l:Addr}(h:gD H p c)(hl:H l=none):p≠l:=let⟨_,e⟩:=h.pen;ae e hl
theorem gD.nec{l:Addr}(h:gD H p c)(hl:H l=none):c≠l:=let⟨_,e⟩:=h.cell;ae e hl
theorem cQ.new{H:Hp}{a:Addr}{o:HO}(h:H a=none):cQ p H (L2.upd H a o):=fun b u e _=>by rw[ag (ae e h)];exact e
inductive me (vs:List V)(H:Hp)(Q:VK)(E:XK):Prop
 |mk (c a:Int):(vs=[.int c,.int a])->(0<=a)->(∀r:Int,0<=r->Q (.int r) H)->me  vs H Q E
theorem pk{j:Int}(h1:-(2 ^ 64)<j)(h2:j<2 ^ 64):GG i j:=.inr ⟨h1,h2⟩
theorem Dz{K:Za}(h:me vs H Q E):xf K (bH Q) (start yr vs) H:=by
 obtain⟨c,a,rfl,ha,k⟩:=h;refine⟨_,rfl,_,_,rfl,rfl,⟨by decide,by decide,by decide⟩,_,_,rfl,rfl,_,rfl,?_⟩;refine i6 (fun h=>?_) (fun _=>?_)
 ·refine⟨_,rfl,k _ ?_⟩;have:=of_decide_eq_true h;have e:((10:Int) ^ (18:Int).toNat)=1000000000000000000:=by decide
  omega
 ·have one:∀z:Int,0<=z % 2147483629/\z % 2147483629<2147483629:=fun z=>⟨pN _ (by decide),pM _ (by decide)⟩;have two:∀z:Int,0<=z % 2147483587/\z % 2147483587<2147483587:=fun z=>⟨pN _ (by decide),pM _ (by decide)⟩;have three:∀z:Int,0<=z % 2147483563/\z % 2147483563<2147483563:=fun z=>⟨pN _ (by decide),pM _ (by decide)⟩;refine⟨_,rfl,_,_,rfl,rfl,(by show(0:Int)<1000000007;decide),_,_,rfl,rfl,pk (by decide) (by decide),_,rfl,_,_,rfl,rfl,pk (by decide) (by decide),_,_,rfl,rfl,_,_,rfl,rfl,_,_,rfl,rfl,(by show(0:Int)<2147483629;decide),?_⟩;generalize hz1:(c % 1000000007 * 69069+a * 40503+977)=z1;obtain⟨o1,o2⟩:=one z1;generalize z1 % 2147483629=o at o1 o2 ⊢;refine⟨_,rfl,_,rfl,_,_,rfl,rfl,pk (by omega) (by omega),_,rfl,_,_,rfl,rfl,pk (by decide) (by decide),_,_,rfl,rfl,_,rfl,_,_,rfl,rfl,(by show(0:Int)<65537;decide),_,_,rfl,rfl,_,_,rfl,rfl,(by show(0:Int)<2147483587;decide),?_⟩;generalize hz2:(o * o+a * 7919+c % 65537)=z2;obtain⟨p1,p2⟩:=two z2;generalize z2 % 2147483587=q at p1 p2 ⊢;refine⟨_,rfl,_,rfl,_,_,rfl,rfl,pk (by omega) (by omega),_,rfl,_,_,rfl,rfl,pk (by decide) (by decide),_,_,rfl,rfl,_,_,rfl,rfl,_,_,rfl,rfl,(by show(0:Int)<2147483563;decide),?_⟩;generalize hz3:(q * q+o * 31+5)=z3;obtain⟨r1,r2⟩:=three z3;generalize z3 % 2147483563=r at r1 r2 ⊢;refine⟨_,rfl,_,_,rfl,rfl,pk (by decide) (by decide),_,rfl,_,_,rfl,rfl,_,_,rfl,rfl,pk (by decide) (by decide),_,rfl,_,_,rfl,rfl,k _ ?_⟩;omega
def oQ:Sp:=fun vs H Q _=>∃p c,vs=[.ref p]/\gD H p c/\∀H',gD H' p c->cQ p H H'->Q (.ref p) H'
theorem Ha{K:Za}(h:oQ vs H Q E):AH K (bH Q) (start BX vs) H:=by
 obtain⟨p,c,rfl,⟨a,r,ns,h⟩,k⟩:=h;refine⟨_,rfl,p,_,_,_,rfl,rfl,h.pen,rfl,_,rfl,k _ ⟨a,0,ns,aa,?_,h.at0,Int.le_refl 0⟩ (cQ.upd _ _ _)⟩;rw[ag h.ne];exact h.cells
theorem C7{ns:List Int}{a:Int}(h0:0<=a)(h1:a<ns.length):∃z,qA (ns.map V.int) a=some (.int z):=by
 obtain⟨n,rfl⟩:=jm h0;have hn:n<ns.length:=by omega
 exact⟨ns[n],aJ (by simp[hn])⟩
inductive fj (vs:List V)(H:Hp)(Q:VK)(E:XK):Prop
 |mk (p c:Addr) (m:Int):(vs=[.ref p,.int m])->(gD H p c)->(0<m)->(m<1073741824)->(∀(r:Int) (H':Hp),0<=r->r<m->gD H' p c->cQ p H H'->Q (.int r) H')->fj  vs H Q E
theorem dH{Q:VK}{m:Int}(hp:gD H p c)(m0:0<m)(m1:m<1073741824)(k:∀(r:Int) (H':Hp),0<=r->r<m->gD H' p c->cQ p H H'->Q (.int r) H'):fj [.ref p,.int m] H Q E:=by
 exact⟨p,c,m,rfl,hp,m0,m1,k⟩
theorem G1{K:Za}(h:fj vs H Q E):AD K me (bH Q) (start BS vs) H:=by
 obtain⟨p,c,m,rfl,⟨a,r,ns,h⟩,hm,hm2,k⟩:=h;have fin:∀(H':Hp) (a' r':Int) (x y:Option V),C_ H' p c a' r' ns->cQ p H H' ->
   (aq (aO (aI jd (aI (bX K) V0 (tC (.int 2))) V1) U4) (aq (aO (aI Fn (aI (bX K) V0 (tC (.int 2))) V1) (By V0 (tC (.int 2)) tK)) (bq V4)))
    (bH Q) [some (.ref p),some (.int m),x,y,none] H':=by
  intro H' a' r' x y h' ex;refine⟨_,rfl,p,_,2,_,rfl,rfl,aA.of h'.pen,rfl,_,rfl,_,_,rfl,rfl,hm,?_⟩;refine⟨_,rfl,p,_,2,_,rfl,rfl,aA.of h'.pen,rfl,_,rfl,_,_,rfl,rfl,⟨hm,hm2⟩,_,rfl,p,_,_,_,rfl,rfl,h'.pen,rfl,?_⟩;refine⟨_,rfl,k _ _ (pN _ (by omega)) (pM _ hm) ⟨a',_,ns,aa,?_,h'.at0,Int.ediv_nonneg h'.rest0 (by omega)⟩ (ex.trans (cQ.upd _ _ _))⟩;rw[ag h'.ne];exact h'.cells
 refine⟨_,rfl,p,_,2,_,rfl,rfl,aA.of h.pen,rfl,_,rfl,_,_,rfl,rfl,_,rfl,?_⟩;refine i6 (fun h1=>?_) (fun h1=>?_)
 ·-- at=pen[1];cell=0;if at<len(pen[0])
  refine⟨_,rfl,p,_,1,_,rfl,rfl,aA.of h.pen,rfl,?_⟩;have la:(V.int ((ns.map V.int).length:Nat))=V.int (ns.length:Nat):=by rw[ai]
  refine⟨_,rfl,_,rfl,p,_,0,_,rfl,rfl,aA.of h.pen,rfl,.inl ⟨c,_,rfl,.inl (aA.of h.cells),_,_,rfl,la,_,rfl,?_⟩⟩;refine i6 (fun h2=>?_) (fun h2=>?_)
  ·obtain⟨z,hz⟩:=C7 (ns:=ns) h.at0 (of_decide_eq_true h2);refine⟨_,rfl,p,_,0,_,rfl,rfl,aA.of h.pen,rfl,_,rfl,c,_,_,_,rfl,rfl,aA.of h.cells,hz,?_⟩;refine⟨_,rfl,_,_,rfl,rfl,_,rfl,p,_,_,_,rfl,rfl,h.pen,rfl,?_⟩;refine⟨_,rfl,_,rfl,_,_,rfl,h.at0,fun q hq=>⟨_,rfl,p,_,_,_,rfl,rfl,aa,rfl,?_⟩⟩;rw[rS];refine fin _ (a+1) q _ _ ⟨aa,by rw[ag h.ne];exact h.cells,by have:=h.at0;omega,hq⟩ (cQ.upd _ _ _)
  ·refine⟨_,rfl,p,_,0,_,rfl,rfl,aA.of h.pen,rfl,.inl ⟨c,_,rfl,.inl (aA.of h.cells),_,_,la,rfl,_,rfl,?_⟩⟩;refine i6 (fun h3=>?_) (fun h3=>?_)
   ·have hl:(0:Int)<ns.length:=of_decide_eq_true h3;obtain⟨z,hz⟩:=C7 (ns:=ns) (a:=(a * 5+3) % (ns.length:Int)) (pN _ (by omega)) (pM _ hl);refine⟨_,rfl,p,_,0,_,rfl,rfl,aA.of h.pen,rfl,_,rfl,_,_,rfl,rfl,pk (by decide) (by decide),_,_,rfl,rfl,_,rfl,p,_,0,_,rfl,rfl,aA.of h.pen,rfl,.inl ⟨c,_,rfl,.inl (aA.of h.cells),_,_,rfl,la,hl,c,_,_,_,rfl,rfl,aA.of h.cells,hz,?_⟩⟩;refine⟨_,_,rfl,rfl,⟨by decide,by decide,by decide⟩,_,rfl,_,_,rfl,rfl,_,_,rfl,rfl,?_,?_⟩
    ·have e:((10:Int) ^ (17:Int).toNat)=100000000000000000:=by decide
     have:=h.at0;show(0:Int)<10 ^ (17:Int).toNat+a;omega
    refine⟨_,rfl,_,_,rfl,rfl,_,rfl,p,_,_,_,rfl,rfl,h.pen,rfl,?_⟩;refine⟨_,rfl,_,rfl,_,_,rfl,h.at0,fun q hq=>⟨_,rfl,p,_,_,_,rfl,rfl,aa,rfl,?_⟩⟩;rw[rS];refine fin _ (a+1) q _ _ ⟨aa,by rw[ag h.ne];exact h.cells,by have:=h.at0;omega,hq⟩ (cQ.upd _ _ _)
   ·refine⟨_,rfl,_,_,rfl,rfl,_,rfl,p,_,_,_,rfl,rfl,h.pen,rfl,?_⟩;refine⟨_,rfl,_,rfl,_,_,rfl,h.at0,fun q hq=>⟨_,rfl,p,_,_,_,rfl,rfl,aa,rfl,?_⟩⟩;rw[rS];refine fin _ (a+1) q _ _ ⟨aa,by rw[ag h.ne];exact h.cells,by have:=h.at0;omega,hq⟩ (cQ.upd _ _ _)
 ·exact fin H a r _ _ h (cQ.refl _ _)
inductive rT(K:Za)(vs:List V)(H:Hp)(Q:VK)(E:XK):Prop
 |mk (a:Addr) (ns:List Int):(vs=[.ref a])->(aA K H a (ns.map V.int))->(ns.length<=63)->(∀(p c:Addr) (H':Hp),H p=none->gD H' p c->ac H H'->Q (.ref p) H')->rT K vs H Q E
theorem v4(ns:List Int)(lo hi:Option Int):∃ms:List Int,gg (ns.map V.int) lo hi=ms.map V.int/\ms.length=(gg (ns.map V.int) lo hi).length:=by
 refine⟨(ns.drop (HT.sIx (ns.map V.int).length 0 lo)).take (HT.sIx (ns.map V.int).length (ns.map V.int).length hi-HT.sIx (ns.map V.int).length 0 lo),?_,?_⟩
 ·unfold gg;rw[nj,wm]
 ·unfold gg;rw[aM,aM,fN,fN,ai]
theorem G4{K:Za}(h:rT K vs H Q E):AE K (bH Q) (start BU vs) H:=by
 obtain⟨a,ns,rfl,hs,hn,k⟩:=h;obtain⟨c0,e0,l0⟩:=v4 ns none (some 12);obtain⟨c1,e1,l1⟩:=v4 ns (some 12) (some 63);have hlen:c1≠[]->c0.length=12:=by
  intro hne;have hc1:0<c1.length:=by cases c1 with|nil=>exact absurd rfl hne|cons _ _=>simp
  rw[l1]at hc1;rw[l0];unfold gg at hc1 ⊢;rw[aM,fN,ai]at hc1;rw[aM,fN,ai];have s1:HT.sIx ns.length 0 (some 12)=min 12 ns.length:=HT.sIx_nat _ _ 12;have s2:HT.sIx ns.length ns.length (some 12)=min 12 ns.length:=HT.sIx_nat _ _ 12;rw[HT.sIx_none,s2];rw[s1]at hc1;omega
 refine⟨_,rfl,_,rfl,a,_,rfl,hs,fun q hq=>.inl ⟨q,_,rfl,.inl (aA.of aa),fun c hc=>?_⟩⟩;rw[e0]at hc ⊢;have hcH:H c=none:=by
  have:c≠q:=fun z=>by subst z;rw[aa]at hc;cases hc
  rw[ag this]at hc;exact hc
 have hS:ac H (upd (upd H q (.lst (c0.map V.int))) c (.lst (c0.map V.int))):=(ac.new hq).trans (ac.new hc);refine⟨_,rfl,_,rfl,_,rfl,a,_,rfl,hS.seq hs,fun r hr=>⟨r,rfl,⟨_,aA.of aa⟩,?_⟩⟩;rw[e1];have hcr:c≠r:=ae aa hr;refine jX (xs:=c1.map V.int) (fun i σ H'=>∃(ms:List Int) (x y:Option V),σ=[some (.ref a),some (.ref c),x,y]/\H' c=some (.lst (ms.map V.int))/\ms.length=c0.length/\H' r=some (.lst (c1.map V.int))/\ac H H')
  ⟨c0,none,none,rfl,kp aa hr,rfl,aa,hS.trans (ac.new hr)⟩ (fun i σ H' _ ⟨ms,x,y,_,_,_,h,_⟩=>aA.of h) ?_ ?_
 ·rintro i x σ H' t hi ⟨ms,u,v,rfl,hcell,hml,hr',hS'⟩ ht;have hi':i<c1.length:=by
   have:=(bO.mp hi).1;rwa[ai]at this
  have h12:=hlen (fun z=>by rw[z]at hi';simp at hi');obtain⟨z,rfl⟩:∃z,x=V.int z:=by
   rw[bw,aV hi']at hi;exact⟨_,(eA hi).symm⟩
  have hcell1:upd H' t (.tup [.int i,.int z]) c=some (.lst (ms.map V.int)):=kp hcell ht;have hidx:(i:Int) % 12=((i % 12:Nat):Int):=by omega
  have hlt:i % 12<ms.length:=by omega
  refine⟨t,_,rfl,bD.of aa,rfl,_,_,rfl,_,_,rfl,rfl,?_⟩;have hat:qA (ms.map V.int) ((i:Int) % 12)=some (.int ms[i % 12]):=by rw[hidx];exact aJ (by simp[hlt])
  refine⟨_,rfl,_,rfl,_,_,rfl,rfl,(by show(0:Int)<12;decide),c,_,_,_,rfl,rfl,aA.of hcell1,hat,_,rfl,_,_,rfl,rfl,_,rfl,_,rfl,_,_,rfl,rfl,(by show(0:Int)<12;decide),c,_,_,i % 12,rfl,rfl,hcell1,?_,?_⟩
  ·rw[hidx];unfold GH;rw[if_pos (by omega),if_pos (by rw[ai];omega)];rw[jp]
  ·refine⟨ms.set (i % 12) (ms[i % 12]+z),_,_,rfl,?_,by rw[List.length_set];exact hml,?_,?_⟩
   ·rw[aa,List.map_set]
   ·rw[ag hcr.symm];exact kp hr' ht
   ·intro b o e;rw[ag (ae e hcH)];exact kp (hS' b o e) ht
 ·rintro σ H' ⟨ms,x,y,rfl,hcell,hml,hr',hS'⟩;refine⟨_,rfl,(by show 3<=aj;decide),fun p hp=>k p c _ (hS'.free hp) ⟨0,0,ms,aa,kp hcell hp,Int.le_refl _,Int.le_refl _⟩ (hS'.trans (ac.new hp))⟩
def xI(c:Nat):Prop:=97<=c/\c<=122
structure qH(w:Str):Prop where
 lo:1<=w.length
 hi:w.length<=8
 al:∀c∈w.cps.toList,xI c
theorem C9:∀n:Nat,n<26->(("abcdefghijklmnopqrstuvwxyz":Str).cps.toList)[n]?=some (97+n):=by decide +kernel
theorem C8:("abcdefghijklmnopqrstuvwxyz":Str).length<=aj:=by decide +kernel
theorem Gz{r:Int}(h0:0<=r)(h1:r<26):qA (("abcdefghijklmnopqrstuvwxyz":Str).cps.toList) r=some (97+r.toNat):=by
 obtain⟨n,rfl⟩:=jm h0;rw[jp];exact aJ (C9 n (by omega))
theorem u5(cs:List Nat):∀acc:Array Nat,((cs.map fun c=>(⟨#[c]⟩:Str)).foldl (fun acc p=>acc++("":Str).cps++p.cps) acc).toList=acc.toList++cs:=by
 have e:("":Str).cps=#[]:=by decide +kernel
 induction cs with
 |nil=>intro acc;simp
 |cons c cs ih =>
  intro acc;rw[bb,gP,ih,e];simp
theorem Br(cs:List Nat):(wD "" (cs.map fun c=>(⟨#[c]⟩:Str))).cps.toList=cs:=by
 unfold wD bZ.Str.glued;cases cs with
 |nil=>rfl
 |cons c cs =>
  rw[bb];show((cs.map fun c=>(⟨#[c]⟩:Str)).foldl (fun acc p=>acc++("":Str).cps++p.cps) #[c]).toList=_;rw[u5]
  rfl
theorem GX{a b:Str}(h:a.cps.toList=b.cps.toList):a=b:=by
 cases a with|mk x=>cases b with|mk y=>exact congrArg Str.mk (Array.toList_inj.mp h)
theorem fh(a:Str):a.length=a.cps.toList.length:=by simp[Str.length]
theorem yj(a b:Str):(a++b).cps.toList=a.cps.toList++b.cps.toList:=by
 show(a.cps++b.cps).toList=_;simp
theorem Go(z:Str)(m:Nat):(ud z none (some (m:Int))).cps.toList=z.cps.toList.take m:=by
 unfold ud;rw[HT.sIx_none,HT.sIx_nat,jn,ww,fh];show List.take _ _=_;rw[List.take_eq_take_iff];omega
theorem Gp(z:Str)(m:Nat):(ud z (some (m:Int)) none).cps.toList=z.cps.toList.drop m:=by
 unfold ud;rw[HT.sIx_none,HT.sIx_nat,fh];show List.take _ _=_;rw[List.take_of_length_le (by rw[fN];omega)];by_cases h:m<=z.cps.toList.length
 ·rw[wk h]
 ·rw[Nat.min_eq_right (by omega),List.drop_length,wz (by omega)]
def fe(way size k:Nat):Nat:=(size+k * (way % 2)) % 8
def Aq(way m:Nat):Nat:=if way=0 then 0 else if way=1 then m else m / 2
def mV(b:List Nat)(way turn size k:Nat):List Nat :=
 (b.take (fe way size k)).take (Aq way (fe way size k))++[97+(turn+3 * k) % 26]++(b.take (fe way size k)).drop (Aq way (fe way size k))
def yJ(b:List Nat)(way turn size k:Nat):Str:=⟨(mV b way turn size k).toArray⟩
theorem pX{b:List Nat}(hb:b.length=7)(way turn size k:Nat):(mV b way turn size k).length=fe way size k+1:=by
 have h8:fe way size k<8:=sB _ (by decide);unfold mV;rw[az,az,aM,fN,aM,hb];have:Aq way (fe way size k)<=fe way size k:=by unfold Aq;split;omega;split;omega;omega
 simp;omega
theorem GK{b:List Nat}(hb:b.length=7)(hl:∀c∈b,xI c)(way turn size k:Nat):qH (yJ b way turn size k):=by
 have h8:fe way size k<8:=sB _ (by decide);have hlen:=pX hb way turn size k;have e:(yJ b way turn size k).cps.toList=mV b way turn size k:=by simp[yJ]
 refine⟨?_,?_,?_⟩
 ·rw[fh,e];omega
 ·rw[fh,e];omega
 ·rw[e];intro c hc;unfold mV at hc;rcases aX.mp hc with hc|hc
  ·rcases aX.mp hc with hc|hc
   ·exact hl c (fu (fu hc))
   ·have:c=97+(turn+3 * k) % 26:=by simpa using hc
    subst this;have:(turn+3 * k) % 26<26:=sB _ (by decide);exact⟨by omega,by omega⟩
  ·exact hl c (fu (List.mem_of_mem_drop hc))
theorem EG{b:List Nat}(hb:b.length=7){way:Nat}(hw:way<3){j k:Nat}(hj:j<26)(hk:k<26)(h:yJ b way turn size j=yJ b way turn size k):j=k:=by
 have h8:∀i,fe way size i<8:=fun i=>sB _ (by decide);have e:mV b way turn size j=mV b way turn size k:=by
  have:=congrArg (fun s=>Str.cps s |>.toList) h;simpa[yJ]using this
 have el:fe way size j=fe way size k:=by
  have:=congrArg List.length e;rw[pX hb,pX hb]at this;omega
 have key:97+(turn+3 * j) % 26=97+(turn+3 * k) % 26:=by
  have hat:∀i,Aq way (fe way size i)<=fe way size i:=fun i=>by unfold Aq;split;omega;split;omega;omega
  have get:∀i,(mV b way turn size i)[Aq way (fe way size i)]?=some (97+(turn+3 * i) % 26):=by
   intro i;unfold mV;have hl:((b.take (fe way size i)).take (Aq way (fe way size i))).length=Aq way (fe way size i):=by
    rw[aM,aM,hb];have:=h8 i;have:=hat i;omega
   rw[cU,lB (by omega),hl,Nat.sub_self]
   rfl
  have g1:=get j;have g2:=get k;rw[e,el]at g1;rw[g1]at g2;exact eA g2
 omega
def iC(ws:Zb):Prop:=ws.Nodup/\∀w∈ws,qH w
def j6(b:List Nat)(way turn size n:Nat):List Str:=(jD n).map (yJ b way turn size)
theorem Av{b:List Nat}(hb:b.length=7)(hl:∀c∈b,xI c){way n:Nat}(hw:way<3)(hn:n<=26):iC (j6 b way turn size n):=by
 refine⟨?_,fun w hm=>?_⟩
 ·unfold j6;rw[pL,List.pairwise_map];refine(List.nodup_range (n:=n)).imp_of_mem ?_;intro j k hj hk hne h;exact hne (EG hb hw (by have:=List.mem_range.mp hj;omega) (by have:=List.mem_range.mp hk;omega) h)
 ·obtain⟨k,_,rfl⟩:=ap.mp hm;exact GK hb hl _ _ _ _
inductive jM (vs:List V)(H:Hp)(Q:VK)(E:XK):Prop
 |mk (p c:Addr) (n:Nat):(vs=[.ref p,.int n])->(gD H p c)->(n<=26)->(∀(l:Addr) (ws:Zb) (H':Hp),iC ws->ws.length=n->H l=none->H' l=some (.lst (ws.map V.str))->gD H' p c->cQ p H H'->Q (.ref l) H')->jM  vs H Q E
theorem Fb{K:Za}(h:jM vs H Q E):yS K fj (bH Q) (start Am vs) H:=by
 obtain⟨p,c,n,rfl,hp,hn,k⟩:=h;refine⟨rfl,7,rfl,by decide,by decide,fun l hl=>?_⟩;refine BE (lo:=0) (n:=Int.toNat 7) (fun i vs H'=>∃cs:List Nat,vs=cs.map (fun c=>V.str ⟨#[c]⟩)/\cs.length=i/\(∀c∈cs,xI c)/\gD H' p c/\cQ p H H'/\H' l=some (.lst vs))
  ⟨[],rfl,rfl,(fun _ h=>nomatch h),hp.ex (ac.new hl),cQ.new hl,aa⟩ (fun i vs H' _ ⟨_,_,_,_,_,_,h⟩=>h) ?_ ?_
 rotate_left
 ·rintro i vs H' hi ⟨cs,rfl,hlen,hlet,hp',hex,hl'⟩;have hlp:=hp.nep hl;have hlc:=hp.nec hl;refine gN (rC ?_);refine⟨_,rfl,_,rfl,dH hp' (by decide) (by decide) fun r H2 h0 h1 hp2 hex2=>⟨_,r,_,rfl,rfl,C8,Gz h0 h1,?_⟩⟩;have hl2:=hex2 l _ hl' hlp.symm;refine⟨hl2,by rw[ai,hlen];exact ax (by omega),uB hi ⟨cs++[97+r.toNat],by rw[ay];rfl,by rw[az,hlen];rfl,?_,hp2.upd hlp hlc,?_,aa⟩⟩
  ·intro x hc;rcases aX.mp hc with hc|hc
   ·exact hlet x hc
   ·have:x=97+r.toNat:=by simpa using hc
    subst this;exact⟨by omega,by omega⟩
  ·intro b o' e nb;rw[ag (ae e hl)];exact hex2 b o' (hex b o' e nb) nb
 ·rintro vs H1 ⟨cs,rfl,hlen,hlet,hp1,hex1,hl1⟩;refine⟨"",l,cs.map fun c=>(⟨#[c]⟩:Str),rfl,rfl,aA.of (by rw[hl1,sA];rfl),?_,?_⟩
  ·have e0:("":Str).length=0:=by decide +kernel
   rw[e0,Nat.mul_zero,sA];have:∀cs:List Nat,(cs.map ((fun x=>Str.length x) ∘ fun c=>(⟨#[c]⟩:Str))).sum=cs.length:=by
    intro cs
    induction cs with
    |nil=>rfl
    |cons c cs ih=>rw[bb,List.sum_cons,ih,cZ];show 1+_=_;omega
   rw[this,hlen];decide
  refine⟨_,rfl,dH hp1 (by decide) (by decide) fun way H2 w0 w1 hp2 hex2=>?_⟩;refine⟨_,rfl,dH hp2 (by decide) (by decide) fun turn H3 t0 t1 hp3 hex3=>?_⟩;refine⟨_,rfl,dH hp3 (by decide) (by decide) fun size H4 s0 s1 hp4 hex4=>?_⟩;have ex4:cQ p H H4:=((hex1.trans hex2).trans hex3).trans hex4;obtain⟨wy,rfl⟩:=jm w0;obtain⟨tn,rfl⟩:=jm t0;obtain⟨sz,rfl⟩:=jm s0;have hb:=Br cs;generalize wD "" (cs.map fun c=>(⟨#[c]⟩:Str))=base at hb ⊢;refine⟨(by show 0<=aj;decide),fun f hf=>?_⟩;obtain⟨op,hop⟩:=hp4.pen;have hfH:H f=none:=ex4.free hop hf;have hfp:=hp.nep hfH;have hfc:=hp.nec hfH;refine⟨_,rfl,n,rfl,by omega,by omega,mB (lo:=0) (n:=((n:Int)).toNat) (fun i σ H'=>∃(a b c' d:Option V),σ=[some (.ref p),some (.int n),some (.str "abcdefghijklmnopqrstuvwxyz"),some (.str base),some (.int wy),some (.int tn),some (.int sz),some (.ref f),a,b,c',d] /\
   gD H' p c/\cQ p H H'/\H' f=some (.lst ((j6 cs wy tn sz i).map V.str)))
   ⟨_,_,_,_,rfl,hp4.upd hfp hfc,ex4.trans (cQ.new hf),aa⟩ ?_ ?_⟩
  ·rintro i σ H' hi ⟨a,b,c',d,rfl,hp',hex',hf'⟩;have hi':i<n:=by omega
   have hwy:wy<3:=by omega
   have e26:((tn:Int)+3 * (0+(i:Int))) % 26=(((tn+3 * i) % 26:Nat):Int):=by omega
   refine⟨_,rfl,_,rfl,_,rfl,_,_,rfl,rfl,.inl ⟨by decide,by decide⟩,_,_,rfl,rfl,_,_,rfl,rfl,(by show(0:Int)<26;decide),_,_,_,rfl,rfl,C8,Gz (pN _ (by decide)) (pM _ (by decide)),?_⟩;have blen:base.length<=aj:=by rw[fh,hb,hlen];decide
   have e8:((sz:Int)+(0+(i:Int)) * ((wy:Int) % 2)) % 8=((fe wy sz i:Nat):Int):=by
    unfold fe;have:wy=0∨wy=1∨wy=2:=by omega
    rcases this with rfl|rfl|rfl<;>simp<;>omega
   refine⟨_,rfl,_,rfl,_,rfl,_,rfl,_,_,rfl,rfl,(by show(0:Int)<2;decide),_,_,rfl,rfl,.inr ⟨by omega,by omega⟩,_,_,rfl,rfl,_,_,rfl,rfl,(by show(0:Int)<8;decide),_,rfl,base,rfl,blen,?_⟩;rw[e8];have hpart:=Go base (fe wy sz i);rw[hb]at hpart;generalize ud base none (some ((fe wy sz i:Nat):Int))=part at hpart ⊢;have h8:fe wy sz i<8:=sB _ (by decide);have plen:part.length=fe wy sz i:=by rw[fh,hpart,aM,hlen];omega
   have pz:part.length<=aj:=by rw[plen];exact eo (ax (by omega))
   refine⟨_,rfl,.inr ⟨part,rfl,pz,_,rfl,.inr ⟨part,rfl,pz,_,_,rfl,rfl,⟨by decide,by decide⟩,(by show 3<=aj;decide),fun q hq=>?_⟩⟩⟩;have hqH:H q=none:=by
    obtain⟨op',hop'⟩:=hp'.pen;exact hex'.free hop' hq
   have hat:qA [V.int 0,V.int (part.length:Nat),V.int ((part.length:Int) / 2)] (wy:Int)=some (.int (Aq wy (fe wy sz i):Nat)):=by
    rw[plen];have:wy=0∨wy=1∨wy=2:=by omega
    rcases this with rfl|rfl|rfl
    ·rfl
    ·rfl
    ·show some (V.int (((fe 2 sz i:Nat):Int) / 2))=some (V.int ((Aq 2 (fe 2 sz i):Nat):Int));have:Aq 2 (fe 2 sz i)=fe 2 sz i / 2:=rfl;rw[this];congr 2
   refine⟨_,rfl,q,_,_,_,rfl,rfl,aA.of aa,hat,?_⟩;have hf2:upd H' q (.lst [V.int 0,V.int (part.length:Nat),V.int ((part.length:Int) / 2)]) f=some (.lst ((j6 cs wy tn sz i).map V.str)):=kp hf' hq;have c1:=Go part (Aq wy (fe wy sz i));have c2:=Gp part (Aq wy (fe wy sz i));have l1:(ud part none (some ((Aq wy (fe wy sz i):Nat):Int))).length<=8:=by rw[fh,c1,aM,hpart,aM,hlen];omega
   have l2:(ud part (some ((Aq wy (fe wy sz i):Nat):Int)) none).length<=8:=by rw[fh,c2,fN,hpart,aM,hlen];omega
   refine⟨_,rfl,.inl ⟨rfl,_,aA.of hf2⟩,_,rfl,_,rfl,_,rfl,part,rfl,pz,_,rfl,_,_,rfl,rfl,?_,_,rfl,_,rfl,_,rfl,part,rfl,pz,_,_,rfl,rfl,?_,f,_,_,rfl,rfl,hf2,?_,?_⟩
   ·have:Str.length ⟨#[97+(((tn:Int)+3 * (0+(i:Int))) % 26).toNat]⟩=1:=rfl;rw[this];exact eo (ax (by omega))
   ·rw[fh,yj,az,<-fh,<-fh];have:Str.length ⟨#[97+(((tn:Int)+3 * (0+(i:Int))) % 26).toNat]⟩=1:=rfl;rw[this];exact eo (ax (by omega))
   ·rw[ai];unfold j6;rw[ai,sG];exact ax (by omega)
   ·refine⟨_,_,_,_,rfl,(hp'.upd (hp.nep hqH) (hp.nec hqH)).upd hfp hfc,?_,?_⟩
    ·intro b' o' e nb;rw[ag (ae e hfH)];exact kp (hex' b' o' e nb) hq
    ·rw[aa];unfold j6;rw[List.range_succ,ay,ay];congr 3;show[V.str _]=[V.str _];congr 2;refine GX ?_;rw[yj,yj,c1,c2,hpart,e26,jp];simp[yJ,mV]
  ·rintro σ H' ⟨a,b,c',d,rfl,hp',hex',hf'⟩;have en:((n:Int)).toNat=n:=by omega
   rw[en]at hf';exact⟨_,rfl,k f _ H' (Av hlen hlet (by omega) hn) (by unfold j6;rw[ai,sG]) hfH hf' hp' hex'⟩
structure ao where
 a:Str
 sg:List Str
 b:Str
deriving DecidableEq
def SignAt(H:Hp)(s:Addr)(sg:Zb):Prop:=H s=some (.tup (sg.map V.str))
def gp(H:Hp)(t:Addr)(d:ao):Prop:=∃s,H t=some (.tup [.str d.a,.ref s,.str d.b])/\SignAt H s d.sg
def ii(H H':Hp):Prop:=∀b xs,H b=some (.tup xs)->H' b=some (.tup xs)
theorem gp.kt(k:ii H H')(h:gp H t d):gp H' t d:=by
 obtain⟨s,h1,h2⟩:=h;exact⟨s,k _ _ h1,k _ _ h2⟩
theorem cQ.kt{xs:List V}(e:cQ p H H')(hp:H p=some (.lst xs)):ii H H':=fun b ys h=>e b _ h (fun z=>by rw[z,hp]at h;cases h)
theorem ac.kt(e:ac H H'):ii H H':=fun b ys h=>e b _ h
theorem ii.trans(a:ii H H1)(b:ii H1 H2):ii H H2:=fun x xs h=>b x xs (a x xs h)
theorem cJ{H:Hp}{l:Addr}{xs:List V}{o:HO}(h:H l=some (.lst xs)):ii H (upd H l o):=fun b ys e=>by
 rw[ag (fun z=>by rw[z,h]at e;cases e)];exact e
abbrev cj(H:Hp)(ts:Ze)(ds:List ao):Prop:=Paired (gp H) ts ds
theorem Paired.get{α β:Type}{R:α->β->Prop}:∀{xs:List α}{ys:List β}{i:Nat}{y:β},Paired R xs ys->ys[i]?=some y->∃x,xs[i]?=some x/\R x y
 |_,_,i,y,.nil,h=>by simp at h
 |_,_,0,y,.cons r t,h=>by simp at h;subst h;exact⟨_,rfl,r⟩
 |_,_,i+1,y,.cons r t,h=>by
  simp at h;obtain⟨x,h1,h2⟩:=Paired.get t h;exact⟨x,by simpa using h1,h2⟩
theorem Paired.getL{α β:Type}{R:α->β->Prop}:∀{xs:List α}{ys:List β}{i:Nat}{x:α},Paired R xs ys->xs[i]?=some x->∃y,ys[i]?=some y/\R x y
 |_,_,i,y,.nil,h=>by simp at h
 |_,_,0,y,.cons r t,h=>by simp at h;subst h;exact⟨_,rfl,r⟩
 |_,_,i+1,y,.cons r t,h=>by
  simp at h;obtain⟨x,h1,h2⟩:=Paired.getL t h;exact⟨x,by simpa using h1,h2⟩
theorem cj.kt(k:ii H H')(h:cj H ts ds):cj H' ts ds:=Paired.mapP h fun _ _ r=>r.kt k
theorem Ip{H:Hp}{a:Addr}{o:HO}(h:H a=some o):upd H a o=H:=by
 funext b;by_cases e:b=a
 ·subst e;rw[aa,h]
 ·rw[ag e]
def fK(x:Str):DT:=.k (.inr x)
def ya(d:ao):DT:=.t [fK d.a,.t (d.sg.map fK),fK d.b]
theorem oU(h:fK x=fK y):x=y:=by
 unfold fK at h;injection h with h;injection h
theorem hV:∀{x y:Zb},x.map fK=y.map fK->x=y
 |[],[],_=>rfl
 |[],_::_,h=>by cases h
 |_::_,[],h=>by cases h
 |a::x,b::y,h=>by
  rw[bb,bb]at h;injection h with h1 h2;rw[oU h1,hV h2]
theorem HE(h:ya x=ya y):x=y:=by
 unfold ya at h;injection h with h;injection h with h1 h;injection h with h2 h;injection h with h3 h;injection h2 with h2;cases x;cases y;simp only at *;rw[oU h1,hV h2,oU h3]
theorem f_(xs:Zb):DT.depths (xs.map fK)=0:=by
 induction xs with
 |nil=>rfl
 |cons x xs ih=>rw[bb];show max (DT.depth (fK x)) (DT.depths _)=0;rw[ih];rfl
theorem x_(d:ao):(ya d).depth=2:=by
 show DT.depths [fK d.a,.t (d.sg.map fK),fK d.b]+1=2;show max (DT.depth (fK d.a)) (max (DT.depths (d.sg.map fK)+1) (max (DT.depth (fK d.b)) 0))+1=2;rw[f_]
 rfl
theorem Ee(ds:List ao):DT.depths (ds.map ya)<=8:=by
 induction ds with
 |nil=>exact df _
 |cons x xs ih=>rw[bb];show max (DT.depth (ya x)) (DT.depths _)<=8;rw[x_];omega
theorem nT{K:Za}:∀xs:List Str,DIns K H (xs.map fK) (xs.map V.str)
 |[]=>by show DIns K H [] [];unfold DIns;rfl
 |x::xs=>by
  rw[bb,bb];unfold DIns;refine⟨_,_,rfl,?_,nT xs⟩;unfold fK hE
  rfl
theorem lS{K:Za}(x:Str):hE K H (fK x) (.str x):=by unfold fK hE;rfl
theorem cy{K:Za}{sg:Zb}(h:bD K H s (sg.map V.str)):hE K H (.t (sg.map fK)) (.ref s):=by
 unfold hE;exact⟨s,_,rfl,h,nT _⟩
theorem gp.dIn{K:Za}(h:gp H t d):hE K H (ya d) (.ref t):=by
 obtain⟨s,h1,h2⟩:=h;unfold ya;unfold hE;refine⟨t,_,rfl,bD.of h1,?_⟩;unfold DIns;refine⟨_,_,rfl,lS _,?_⟩;unfold DIns;refine⟨_,_,rfl,cy (bD.of h2),?_⟩;unfold DIns;refine⟨_,_,rfl,lS _,?_⟩;unfold DIns
 rfl
theorem cj.dIns{K:Za}:∀{ts:Ze}{ds:List ao},cj H ts ds->DIns K H (ds.map ya) (ts.map V.ref)
 |_,_,.nil=>by show DIns K H [] [];unfold DIns;rfl
 |_,_,.cons r t=>by
  rw[bb,bb];unfold DIns;exact⟨_,_,rfl,r.dIn,cj.dIns t⟩
theorem CS{ds:List ao}:ya d∈ds.map ya↔d∈ds:=by
 constructor
 ·intro h;obtain⟨x,hx,e⟩:=ap.mp h;rw[<-HE e];exact hx
 ·exact k5
def lI(ds:List ao)(d:ao):List ao:=if d∈ds then ds else ds++[d]
inductive ka (vs:List V)(H:Hp)(Q:VK)(E:XK):Prop
 |mk (l t:Addr) (ts:Ze) (ds:List ao) (d:ao):(vs=[.ref l,.ref t])->(H l=some (.lst (ts.map V.ref)))->(cj H ts ds)->(gp H t d)->(ds.length<=1000)->(∀ts':List Addr,cj H ts' (lI ds d)->Q .non (upd H l (.lst (ts'.map V.ref))))->ka  vs H Q E
theorem Iv{K:Za}(h:ka vs H Q E):Dp K (bH Q) (start Eu vs) H:=by
 obtain⟨l,t,ts,ds,d,rfl,hl,hd,ht,hz,k⟩:=h;refine⟨_,rfl,_,rfl,ya d,ds.map ya,l,_,ht.dIn,rfl,.inl (aA.of hl),hd.dIns,by rw[x_];decide,Ee ds,_,rfl,?_⟩;by_cases hm:d∈ds
 ·rw[if_pos rfl,zzr1 (CS.mpr hm)];refine bR ?_;have:=k ts (by unfold lI;rw[if_pos hm];exact hd);rw[Ip hl]at this;exact this
 ·rw[if_pos rfl,zzr0 (fun z=>hm (CS.mp z))];refine dk ?_;refine⟨_,rfl,.inl ⟨rfl,_,aA.of hl⟩,_,rfl,l,_,_,rfl,rfl,hl,?_,?_⟩
  ·rw[ai,Paired.length hd];exact ax hz
  ·have:=k (ts++[t]) (by unfold lI;rw[if_neg hm];exact cG hd ht);rw[ay]at this;exact this
structure DI(R:ao->Prop)(H0:Hp)(p c l:Addr)(m:Nat)(H:Hp):Prop where
 pen:gD H p c
 ds:∃ts ds,H l=some (.lst (ts.map V.ref))/\cj H ts ds/\ds.Nodup/\(∀d∈ds,R d)/\ds.length<=m
 ex:cQ p H0 H
 fr:H0 l=none
 pl:p≠l
 cl:c≠l
section
variable{R:ao->Prop}{H0 H H':Hp}{p c l:Addr}{m:Nat}
theorem gD.lst(h:gD H p c):∃xs,H p=some (.lst xs):=by
 obtain⟨a,r,ns,h1,_⟩:=h;exact⟨_,h1⟩
theorem DI.took(h:DI R H0 p c l m H)(hp:gD H' p c)(e:cQ p H H'):DI R H0 p c l m H':=by
 obtain⟨ts,ds,h1,h2,h3⟩:=h.ds;obtain⟨xs,hx⟩:=h.pen.lst;exact⟨hp,⟨ts,ds,e _ _ h1 h.pl.symm,h2.kt (e.kt hx),h3⟩,h.ex.trans e,h.fr,h.pl,h.cl⟩
theorem DI.new(h:DI R H0 p c l m H){o:HO}(hq:H q=none):DI R H0 p c l m (upd H q o) :=
 h.took (h.pen.ex (ac.new hq)) (cQ.new hq)
theorem DI.up(h:DI R H0 p c l m H){n:Nat}(hn:m<=n):DI R H0 p c l n H:=by
 obtain⟨ts,ds,h1,h2,h3,h4,h5⟩:=h.ds;exact⟨h.pen,⟨ts,ds,h1,h2,h3,h4,bL h5 hn⟩,h.ex,h.fr,h.pl,h.cl⟩
theorem DI.put(h:DI R H0 p c l m H){Q:VK}(ht:gp H t d)(hR:R d)(hm:m<=1000)(k:∀H',DI R H0 p c l (m+1) H'->Q .non H'):ka [.ref l,.ref t] H Q E:=by
 obtain⟨ts,ds,h1,h2,h3,h4,h5⟩:=h.ds;refine⟨l,t,ts,ds,d,rfl,h1,h2,ht,bL h5 hm,fun ts' h'=>k _ ⟨h.pen.upd h.pl h.cl,⟨ts',lI ds d,aa,h'.kt (cJ h1),?_,?_,?_⟩,?_,h.fr,h.pl,h.cl⟩⟩
 ·unfold lI;split
  ·exact h3
  ·next hn =>
   rw[cA];refine⟨h3,by simp,?_⟩;intro a ha b hb e;have:b=d:=by simpa using hb
   subst this;exact hn (e▸ha)
 ·intro x hx;unfold lI at hx;split at hx
  ·exact h4 x hx
  ·rcases aX.mp hx with hx|hx
   ·exact h4 x hx
   ·have:x=d:=by simpa using hx
    rw[this];exact hR
 ·unfold lI;split
  ·omega
  ·rw[az];show ds.length+1<=m+1;omega
 ·intro b o e n;rw[ag (ae e h.fr)];exact h.ex b o e n
end
theorem gD.ne_strs{a:Addr}{ws:Zb}(hp:gD H p c)(ha:H a=some (.lst (ws.map V.str))):a≠p:=by
 intro e;obtain⟨x,y,ns,h1,_⟩:=hp;rw[e,h1]at ha;injection ha with ha;injection ha with ha;cases ws with
 |nil=>cases ha
 |cons w ws=>injection ha with ha;cases ha
theorem jc{K:Za}{r:R2}(hr:∀x y H Q,bX K x y H Q->r x y H Q){σ:L2.St}{Q:VK}{p a:Addr}{j:Nat}{ws:Zb}(h0:σ[0]?=some (some (.ref p)))(hj:σ[j]?=some (some (.ref a)))(hp:gD H p c)
  (ha:H a=some (.lst (ws.map V.str))) (hne:ws≠[]) (hlen:ws.length<=1000) (k:∀w∈ws,∀H',gD H' p c->cQ p H H'->Q (.str w) H') :
  ∃v,σ[j]?=some (some v)/\∃v0,σ[0]?=some (some v0)/\∃v1,σ[j]?=some (some v1)/\dh K [v1] H fun y H1=>fj [v0,y] H1 (fun y H2=>r v y H2 Q) E0:=by
 have hl:0<ws.length:=by cases ws with|nil=>exact absurd rfl hne|cons _ _=>simp
 have la:(V.int ((ws.map V.str).length:Nat))=V.int (ws.length:Nat):=by rw[ai]
 have hpa:=hp.ne_strs ha;have fin:∀(x:Int) (H':Hp),0<=x->x<(ws.length:Int)->gD H' p c->cQ p H H'->bX K (.ref a) (.int x) H' Q:=by
  intro x H' x0 x1 hp' ex;obtain⟨n,rfl⟩:=jm x0;have hn:n<ws.length:=by omega
  exact⟨a,_,(n:Int),.str ws[n],rfl,rfl,aA.of (ex _ _ ha hpa),aJ (by simp[hn]),k _ (eI hn) H' hp' ex⟩
 exact⟨_,hj,_,h0,_,hj,.inl ⟨a,_,rfl,.inl (aA.of ha),by rw[la];exact dH hp (by omega) (by omega) fun x H' x0 x1 hp' ex=>hr _ _ _ _ (fin x H' x0 x1 hp' ex)⟩⟩
def Up(up:Bool)(J2:Zb)(a b:Str):Prop:=∃i j:Nat,J2[i]?=some a/\J2[j]?=some b/\(if up=true then i<j else j<i)
structure lZ(J0 J1 J2:Zb)(up:Bool)(d:ao):Prop where
 a:d.a∈J2
 b:d.b∈J2
 sg:(∃w∈J0,d.sg=[("ask":Str),w])∨(∃w∈J1,d.sg=[("say":Str),w])∨(d.sg=[("still":Str)]/\Up up J2 d.a d.b)
def am:List Str:=[("still":Str)]
structure Ao(J0 J1 J2:Zb)(d:ao):Prop where
 a:d.a∈J2
 b:d.b∈J2
 sg:(∃w∈J0,d.sg=[("ask":Str),w])∨(∃w∈J1,d.sg=[("say":Str),w])∨d.sg=am
theorem lZ.d{J0 J1 J2:Zb}{up:Bool}{d:ao}(h:lZ J0 J1 J2 up d):Ao J0 J1 J2 d:=⟨h.a,h.b,h.sg.imp id (Or.imp id And.left)⟩
inductive Reach(ds:List ao)(a:Str):Str->Prop
 |one {b:Str}(h:(⟨a,am,b⟩:ao)∈ds):Reach ds a b
 |step {b c:Str}(r:Reach ds a b) (h:(⟨b,am,c⟩:ao)∈ds):Reach ds a c
theorem r_{J2:Zb}(nd:J2.Nodup){i j:Nat}{a:Str}(hi:J2[i]?=some a)(hj:J2[j]?=some a):i=j:=by
 obtain⟨h1,e1⟩:=bO.mp hi;obtain⟨h2,e2⟩:=bO.mp hj;have pw:=List.pairwise_iff_getElem.mp nd;rcases wj i j with h|h|h
 ·exact absurd (e1.trans e2.symm) (pw i j h1 h2 h)
 ·exact h
 ·exact absurd (e2.trans e1.symm) (pw j i h2 h1 h)
theorem Up.trans{J2:Zb}(nd:J2.Nodup)(h1:Up up J2 a b)(h2:Up up J2 b c):Up up J2 a c:=by
 obtain⟨i,j,e1,e2,h⟩:=h1;obtain⟨j',k,e3,e4,h'⟩:=h2;have:=r_ nd e2 e3;subst this;refine⟨i,k,e1,e4,?_⟩;cases up
 ·simp at h h' ⊢;omega
 ·simp at h h' ⊢;omega
theorem Up.irr{J2:Zb}(nd:J2.Nodup)(h:Up up J2 a a):False:=by
 obtain⟨i,j,e1,e2,h⟩:=h;have:=r_ nd e1 e2;subst this;cases up
 ·simp at h
 ·simp at h
theorem EJ{J2:Zb}{ds:List ao}(nd:J2.Nodup)(m:∀d∈ds,lZ J0 J1 J2 up d)(h:Reach ds a b):Up up J2 a b:=by
 have edge:∀{a b:Str},(⟨a,am,b⟩:ao)∈ds->Up up J2 a b:=by
  intro a b h;rcases(m _ h).sg with⟨w,_,e⟩|⟨w,_,e⟩|⟨_,e⟩
  ·cases e
  ·cases e
  ·exact e
 induction h with
 |one h=>exact edge h
 |step r h ih=>exact ih.trans nd (edge h)
inductive g_ (vs:List V)(H:Hp)(Q:VK)(E:XK):Prop
 |mk (p c l1 l2 l3:Addr) (J0 J1 J2:Zb) (full:Int):(vs=[.ref p,.ref l1,.ref l2,.ref l3,.int full])->(gD H p c)->(H l1=some (.lst (J0.map V.str)))->(H l2=some (.lst (J1.map V.str)))->(H l3=some (.lst (J2.map V.str)))->(J0.length<=4)->(J1≠[])->(J1.length<=4)->(J2≠[])->(J2.length<=26)->(0<=full)->(full<=2)->(∀(l:Addr) (ts:Ze) (ds:List ao) (up:Bool) (H':Hp),H l=none->H' l=some (.lst (ts.map V.ref))->cj H' ts ds->ds.Nodup->(∀d∈ds,lZ J0 J1 J2 up d)->ds.length<=600->gD H' p c->cQ p H H'->Q (.ref l) H')->g_  vs H Q E
theorem at4{x r:Int}(x0:0<=x)(x2:x<=2)(r0:0<=r)(r4:r<4):∃j:Int,qA [V.int x,.int 1,.int 1,.int 2] r=some (.int j)/\0<=j/\j<=2:=by
 have:r=0∨r=1∨r=2∨r=3:=by omega
 rcases this with rfl|rfl|rfl|rfl
 ·exact⟨x,rfl,x0,x2⟩
 ·exact⟨1,rfl,by decide,by decide⟩
 ·exact⟨1,rfl,by decide,by decide⟩
 ·exact⟨2,rfl,by decide,by decide⟩
theorem v5(ws:Zb)(k:Nat):gg (ws.map V.str) (some (k:Int)) none=(ws.drop k).map V.str:=by
 unfold gg;rw[HT.sIx_none,HT.sIx_nat,ai,List.take_of_length_le (by rw[fN,ai];omega),wm];by_cases h:k<=ws.length
 ·rw[wk h]
 ·rw[Nat.min_eq_right (by omega),wz (by simp),wz (by rw[ai];omega)]
theorem sf(ws:Zb)(k:Nat):gg (ws.map V.str) none (some (k:Int))=(ws.take k).map V.str:=by
 unfold gg;rw[HT.sIx_none,HT.sIx_nat,ai,jn,ww,nj,List.take_eq_take_iff,ai];omega
theorem uc{K:Za}{ws:Zb}(h:aA K H a (ws.map V.str)):hE K H (.s (ws.map fK)) (.ref a):=by
 unfold hE;exact⟨a,_,rfl,h,nT _⟩
theorem HD{K:Za}(h:aA K H a []):hE K H (.s []) (.ref a):=by
 unfold hE;refine⟨a,_,rfl,h,?_⟩;unfold DIns
 rfl
theorem uX{K:Za}(h:g_ vs H Q E):pZ K fj ka (bH Q) (start qE vs) H:=by
 obtain⟨p,c,l1,l2,l3,J0,J1,J2,full,rfl,hp,h1,h2,h3,ha,hs0,hs,hr0,hr,f0,f2,k⟩:=h;have n1:=hp.ne_strs h1;have n2:=hp.ne_strs h2;have n3:=hp.ne_strs h3;refine⟨(by show 0<=aj;decide),fun l hl=>?_⟩;have hpl:=hp.nep hl;have hcl:=hp.nec hl;refine⟨_,rfl,dH (hp.ex (ac.new hl)) (by decide) (by decide) fun dn H1 d0 d1 hp1 ex1=>?_⟩;generalize hG:lZ J0 J1 J2 (decide (dn=0))=G;have base:DI G H p c l 0 H1:=⟨hp1,⟨[],[],ex1 _ _ aa hpl.symm,.nil,pV,by simp,df _⟩,(cQ.new hl).trans ex1,hl,hpl,hcl⟩;refine⟨_,rfl,l3,rfl,⟨_,aA.of (base.ex _ _ h3 n3)⟩,?_⟩;refine jX (xs:=J2.map V.str) (fun i σ H'=>∃a7 a8 a9 a10 a11 a12:Option V,σ=[some (.ref p),some (.ref l1),some (.ref l2),some (.ref l3),some (.int full),some (.ref l),some (.int dn),a7,a8,a9,a10,a11,a12]/\DI G H p c l (11 * i) H')
  ⟨_,_,_,_,_,_,rfl,base⟩ (fun i σ H' _ ⟨_,_,_,_,_,_,_,D⟩=>aA.of (D.ex _ _ h3 n3)) ?_ ?_
 ·rintro i x σ H' t hi ⟨a7,a8,a9,a10,a11,a12,rfl,D⟩ ht;obtain⟨room,hroom,rfl⟩:∃room,J2[i]?=some room/\x=V.str room:=by
   rw[bw]at hi;cases q:J2[i]? with
   |none=>rw[q]at hi;cases hi
   |some r=>rw[q]at hi;exact⟨r,rfl,(eA hi).symm⟩
  have hiL:i<J2.length:=(bO.mp hroom).1;have hmem:room∈J2:=aR hroom;refine⟨t,_,rfl,bD.of aa,rfl,_,_,rfl,_,_,rfl,rfl,?_⟩;have D1:=D.new ht (o:=.tup [.int i,.str room]);refine⟨(by show 4<=aj;decide),fun q hq=>⟨_,rfl,dH (D1.new hq).pen (by decide) (by decide) fun r H2 r0 r1 hp2 ex2=>?_⟩⟩;obtain⟨j,hj,j0,j2⟩:=at4 (x:=0) (by decide) (by decide) r0 r1;have D2:=(D1.new hq).took hp2 ex2;refine⟨q,_,_,_,rfl,rfl,aA.of (ex2 q _ aa (D1.pen.nep hq).symm),hj,j,rfl,by omega,by omega,?_⟩;refine mB (lo:=0) (n:=j.toNat) (fun i' σ H''=>∃a9 a10:Option V,σ=[some (.ref p),some (.ref l1),some (.ref l2),some (.ref l3),some (.int full),some (.ref l),some (.int dn),some (.int i),some (.str room),a9,a10,a11,a12]/\DI G H p c l (11 * i+i') H'')
   ⟨_,_,rfl,D2⟩ ?_ ?_
  ·rintro i' σ H3 hi' ⟨a9,a10,rfl,D3⟩;refine jc (fun _ _ _ _ h=>h) rfl rfl D3.pen (D3.ex _ _ h2 n2) hs0 (by omega) fun w hw H4 hp4 ex4=>?_;have D4:=D3.took hp4 ex4;refine⟨(by show 2<=aj;decide),fun sg hsg=>?_⟩;have D5:=D4.new hsg (o:=.tup [.str "say",.str w]);refine⟨_,rfl,_,rfl,_,rfl,jc (fun _ _ _ _ h=>h) rfl rfl D5.pen (D5.ex _ _ h3 n3) hr0 (by omega) fun w2 hw2 H6 hp6 ex6=>?_⟩;have D6:=D5.took hp6 ex6;refine⟨(by show 3<=aj;decide),fun dr hdr=>?_⟩;have D7:=D6.new hdr (o:=.tup [.str room,.ref sg,.str w2]);have hsg6:H6 sg=some (.tup [.str "say",.str w]):=ex6 _ _ aa (D4.pen.nep hsg).symm;refine D7.put (d:=⟨room,["say",w],w2⟩) ⟨sg,aa,kp hsg6 hdr⟩ ?_ (by omega) fun H8 D8=>⟨_,_,rfl,D8⟩;rw[<-hG];exact⟨hmem,hw2,.inr (.inl ⟨w,hw,rfl⟩)⟩
  rintro σ H3 ⟨a9,a10,rfl,D3'⟩;have D3:DI G H p c l (11 * i+2) H3:=D3'.up (by omega);clear D3';refine⟨_,rfl,l1,rfl,⟨_,aA.of (D3.ex _ _ h1 n1)⟩,?_⟩;refine cg (xs:=J0.map V.str) (fun i' σ H''=>∃a9 a11:Option V,σ=[some (.ref p),some (.ref l1),some (.ref l2),some (.ref l3),some (.int full),some (.ref l),some (.int dn),some (.int i),some (.str room),a9,a10,a11,a12]/\DI G H p c l (11 * i+2+2 * i') H'')
   ⟨_,_,rfl,D3⟩ (fun i σ H' _ ⟨_,_,_,D⟩=>aA.of (D.ex _ _ h1 n1)) ?_ ?_
  ·rintro i' x σ H4 hi' ⟨a9,a11,rfl,D4⟩;obtain⟨ask,hask,rfl⟩:∃ask,J0[i']?=some ask/\x=V.str ask:=by
    rw[bw]at hi';cases q:J0[i']? with
    |none=>rw[q]at hi';cases hi'
    |some r=>rw[q]at hi';exact⟨r,rfl,(eA hi').symm⟩
   have hi2:i'<J0.length:=(bO.mp hask).1;have hm2:ask∈J0:=aR hask;refine⟨_,rfl,(by show 4<=aj;decide),fun q hq=>⟨_,rfl,dH (D4.new hq).pen (by decide) (by decide) fun r H5 r0 r1 hp5 ex5=>?_⟩⟩;obtain⟨j,hj,j0,j2⟩:=at4 f0 f2 r0 r1;have D5:=(D4.new hq).took hp5 ex5;refine⟨q,_,_,_,rfl,rfl,aA.of (ex5 q _ aa (D4.pen.nep hq).symm),hj,j,rfl,by omega,by omega,?_⟩;refine mB (lo:=0) (n:=j.toNat) (fun i'' σ H''=>∃a9:Option V,σ=[some (.ref p),some (.ref l1),some (.ref l2),some (.ref l3),some (.int full),some (.ref l),some (.int dn),some (.int i),some (.str room),a9,a10,some (.str ask),a12]/\DI G H p c l (11 * i+2+2 * i'+i'') H'')
    ⟨_,rfl,D5⟩ ?_ ?_
   ·rintro i'' σ H6 hi'' ⟨a9,rfl,D6⟩;refine⟨_,rfl,_,rfl,_,rfl,(by show 2<=aj;decide),fun sg hsg=>?_⟩;have D7:=D6.new hsg (o:=.tup [.str "ask",.str ask]);refine jc (fun _ _ _ _ h=>h) rfl rfl D7.pen (D7.ex _ _ h3 n3) hr0 (by omega) fun w2 hw2 H8 hp8 ex8=>?_;have D8:=D7.took hp8 ex8;refine⟨(by show 3<=aj;decide),fun dr hdr=>?_⟩;have D9:=D8.new hdr (o:=.tup [.str room,.ref sg,.str w2]);have hsg8:H8 sg=some (.tup [.str "ask",.str ask]):=ex8 _ _ aa (D6.pen.nep hsg).symm;refine D9.put (d:=⟨room,["ask",ask],w2⟩) ⟨sg,aa,kp hsg8 hdr⟩ ?_ (by omega) fun H8 D8=>⟨_,rfl,D8⟩;rw[<-hG];exact⟨hmem,hw2,.inl ⟨ask,hm2,rfl⟩⟩
   ·rintro σ H6 ⟨a9,rfl,D6⟩;exact⟨_,_,rfl,D6.up (by omega)⟩
  rintro σ H4 ⟨a9,a11,rfl,D4'⟩;have D4:DI G H p c l (11 * i+10) H4:=D4'.up (by rw[ai];omega);clear D4';have hnext:∀(H9:Hp) (a12:Option V),DI G H p c l (11 * i+11) H9->∃a7 a8 a9' a10' a11' a12':Option V,[some (.ref p),some (.ref l1),some (.ref l2),some (.ref l3),some (.int full),some (.ref l),some (.int dn),some (.int i),some (.str room),a9,a10,a11,a12] =
    [some (.ref p),some (.ref l1),some (.ref l2),some (.ref l3),some (.int full),some (.ref l),some (.int dn),a7,a8,a9',a10',a11',a12']/\DI G H p c l (11 * (i+1)) H9:=fun H9 a12 D9=>⟨_,_,_,_,_,_,rfl,D9.up (by omega)⟩
  refine⟨_,rfl,_,rfl,_,_,rfl,rfl,_,rfl,l3,_,rfl,aA.of (D4.ex _ _ h3 n3),fun q1 hq1=>?_⟩;have D5:=D4.new hq1 (o:=.lst (gg (J2.map V.str) (some ((i:Int)+1)) none));refine⟨_,rfl,_,rfl,_,rfl,l3,_,rfl,aA.of (D5.ex _ _ h3 n3),fun q2 hq2=>?_⟩;have e1:gg (J2.map V.str) (some ((i:Int)+1)) none=(J2.drop (i+1)).map V.str:=v5 J2 (i+1);rw[sf];have D6:=D5.new hq2 (o:=.lst ((J2.take i).map V.str));refine⟨(by show 2<=aj;decide),fun q3 hq3=>?_⟩;have D7:=D6.new hq3 (o:=.lst [.ref q1,.ref q2]);obtain⟨lt,q,hq,hlt,hgood⟩:∃(lt:Zb) (q:Addr),qA [V.ref q1,.ref q2] dn=some (.ref q) /\
    upd (upd (upd H4 q1 (.lst (gg (J2.map V.str) (some ((i:Int)+1)) none))) q2 (.lst ((J2.take i).map V.str))) q3 (.lst [.ref q1,.ref q2]) q=some (.lst (lt.map V.str))/\lt.length<=26 /\
    ∀w∈lt,w∈J2/\Up (decide (dn=0)) J2 room w:=by
   have:dn=0∨dn=1:=by omega
   rcases this with rfl|rfl
   ·refine⟨J2.drop (i+1),q1,rfl,?_,by rw[fN];omega,fun w hw=>⟨List.mem_of_mem_drop hw,?_⟩⟩
    ·refine(kp (kp aa hq2) hq3).trans ?_;rw[e1]
    ·obtain⟨n,hn⟩:=eZ hw;rw[List.getElem?_drop]at hn;exact⟨i,i+1+n,hroom,hn,by rw[if_pos (by decide)];omega⟩
   ·refine⟨J2.take i,q2,rfl,?_,by rw[aM];omega,fun w hw=>⟨fu hw,?_⟩⟩
    ·exact kp aa hq3
    ·obtain⟨n,hn⟩:=eZ hw;have hnl:n<i:=by
      have:=(bO.mp hn).1;rw[aM]at this;omega
     rw[List.getElem?_take_of_lt hnl]at hn;exact⟨i,n,hroom,hn,by rw[if_neg (by decide)];omega⟩
  refine⟨_,rfl,q3,_,_,_,rfl,rfl,aA.of aa,hq,?_⟩;generalize upd (upd (upd H4 q1 (.lst (gg (J2.map V.str) (some ((i:Int)+1)) none))) q2 (.lst ((J2.take i).map V.str))) q3 (.lst [.ref q1,.ref q2])=H7 at D7 hlt ⊢;refine⟨_,rfl,(by show 0<=aj;decide),fun e he=>⟨.s (lt.map fK),.s [],uc (aA.of (kp hlt he)),HD (aA.of aa),?_,by decide,_,rfl,?_⟩⟩
  ·show DT.depths (lt.map fK)+1<=8;rw[f_];decide
  have D8:=D7.new he (o:=.lst []);by_cases hz:lt=[]
  ·have ez:(!decide (DT.s (lt.map fK)=DT.s []))=false:=by rw[hz,zzr1 (by rfl)];rfl
   rw[ez];exact bR (bR (hnext _ _ (D8.up (by omega))))
  ·have ez:(!decide (DT.s (lt.map fK)=DT.s []))=true:=by
    rw[zzr0 (fun z=>hz (hV (y:=[]) (by injection z)))];rfl
   rw[ez];refine dk ?_;refine⟨_,rfl,dH D8.pen (by decide) (by decide) fun r H9 r0 r1 hp9 ex9=>⟨rfl,_,rfl,?_⟩⟩;have D9:=D8.took hp9 ex9;refine i6 (fun _=>?_) (fun _=>hnext _ _ (D9.up (by omega)));refine⟨_,rfl,_,rfl,(by show 1<=aj;decide),fun sg hsg=>?_⟩;have D10:=D9.new hsg (o:=.tup [.str "still"]);have hlt10:upd H9 sg (.tup [.str "still"]) q=some (.lst (lt.map V.str)):=kp (ex9 _ _ (kp hlt he) (D8.pen.ne_strs (kp hlt he))) hsg;refine jc (fun _ _ _ _ h=>.inl h) rfl rfl D10.pen hlt10 hz (by omega) fun w2 hw2 H11 hp11 ex11=>?_;have D11:=D10.took hp11 ex11;refine⟨(by show 3<=aj;decide),fun dr hdr=>?_⟩;have D12:=D11.new hdr (o:=.tup [.str room,.ref sg,.str w2]);have hsg11:H11 sg=some (.tup [.str "still"]):=ex11 _ _ aa (D9.pen.nep hsg).symm;refine D12.put (d:=⟨room,[("still":Str)],w2⟩) ⟨sg,aa,kp hsg11 hdr⟩ ?_ (by omega) fun H13 D13=>hnext _ _ D13;rw[<-hG];exact⟨hmem,(hgood.2 w2 hw2).1,.inr (.inr ⟨rfl,(hgood.2 w2 hw2).2⟩)⟩
 ·rintro σ H' ⟨a7,a8,a9,a10,a11,a12,rfl,D⟩;obtain⟨ts,ds,g1,g2,g3,g4,g5⟩:=D.ds;rw[ai]at g5;rw[<-hG]at g4;exact⟨_,rfl,k l ts ds _ H' hl g1 g2 g3 g4 (by omega) D.pen D.ex⟩
structure aD(J0 J1 J2:Zb)(ds:List ao):Prop where
 okA:iC J0
 okS:iC J1
 apart:∀w∈J1,w∉J0
 okR:iC J2
 asks0:J0≠[]
 says0:J1≠[]
 rooms0:J2≠[]
 asks4:J0.length<=4
 says4:J1.length<=4
 rooms26:J2.length<=150
 nodup:ds.Nodup
 good:∀d∈ds,Ao J0 J1 J2 d
 few:ds.length<=1000
 noround:∀r,¬Reach ds r r
structure iB(H:Hp)(t l1 l2 l3 l4:Addr)(ts:Ze)(J0 J1 J2:Zb)(ds:List ao):Prop where
 t:H t=some (.tup [.ref l1,.ref l2,.ref l3,.ref l4])
 a1:H l1=some (.lst (J0.map V.str))
 a2:H l2=some (.lst (J1.map V.str))
 a3:H l3=some (.lst (J2.map V.str))
 a4:H l4=some (.lst (ts.map V.ref))
 ds:cj H ts ds
theorem gD.ne_refs{a:Addr}{ts:Ze}(hp:gD H p c)(ha:H a=some (.lst (ts.map V.ref))):a≠p:=by
 intro e;obtain⟨x,y,ns,h1,_⟩:=hp;rw[e,h1]at ha;injection ha with ha;injection ha with ha;cases ts with
 |nil=>cases ha
 |cons w ws =>
  injection ha with _ ha;cases ws with
  |nil=>cases ha
  |cons w ws=>injection ha with ha;cases ha
theorem iB.ex{H H':Hp}{p c t l1 l2 l3 l4:Addr}{ts:Ze}{J0 J1 J2:Zb}{ds:List ao}(h:iB H t l1 l2 l3 l4 ts J0 J1 J2 ds)(hp:gD H p c)(e:cQ p H H'):iB H' t l1 l2 l3 l4 ts J0 J1 J2 ds:=by
 obtain⟨xs,hx⟩:=hp.lst;exact⟨e.kt hx _ _ h.t,e _ _ h.a1 (hp.ne_strs h.a1),e _ _ h.a2 (hp.ne_strs h.a2),e _ _ h.a3 (hp.ne_strs h.a3),e _ _ h.a4 (hp.ne_refs h.a4),h.ds.kt (e.kt hx)⟩
theorem iB.same{H H':Hp}{t l1 l2 l3 l4:Addr}{ts:Ze}{J0 J1 J2:Zb}{ds:List ao}(h:iB H t l1 l2 l3 l4 ts J0 J1 J2 ds)(e:ac H H'):iB H' t l1 l2 l3 l4 ts J0 J1 J2 ds :=
 ⟨e _ _ h.t,e _ _ h.a1,e _ _ h.a2,e _ _ h.a3,e _ _ h.a4,h.ds.kt (ac.kt e)⟩
inductive oN (vs:List V)(H:Hp)(Q:VK)(E:XK):Prop
 |mk (p c:Addr) (most full:Int):(vs=[.ref p,.int most,.int full])->(gD H p c)->(0<most)->(most<=25)->(0<=full)->(full<=2)->(∀(t l1 l2 l3 l4:Addr) (ts:Ze) (J0 J1 J2:Zb) (ds:List ao) (H':Hp),iB H' t l1 l2 l3 l4 ts J0 J1 J2 ds->aD J0 J1 J2 ds->J2.length<=most.toNat->ds.length<=600->gD H' p c->cQ p H H'->Q (.ref t) H')->oN  vs H Q E
theorem at6{r:Int}(r0:0<=r)(r6:r<6):∃n:Nat,qA [V.int 0,.int 1,.int 1,.int 2,.int 2,.int 3] r=some (.int n)/\n<=3:=by
 have:r=0∨r=1∨r=2∨r=3∨r=4∨r=5:=by omega
 rcases this with rfl|rfl|rfl|rfl|rfl|rfl
 ·exact⟨0,rfl,by decide⟩
 ·exact⟨1,rfl,by decide⟩
 ·exact⟨1,rfl,by decide⟩
 ·exact⟨2,rfl,by decide⟩
 ·exact⟨2,rfl,by decide⟩
 ·exact⟨3,rfl,by decide⟩
theorem Gr{ws:Zb}(hw:ws.length=8){n:Nat}(hn:n<=3):gg (ws.map V.str) (some 4) (some (5+(n:Int)))=((ws.drop 4).take (1+n)).map V.str:=by
 unfold gg;have s1:HT.sIx (ws.map V.str).length 0 (some 4)=min 4 (ws.map V.str).length:=HT.sIx_nat _ _ 4;have s2:HT.sIx (ws.map V.str).length (ws.map V.str).length (some (5+(n:Int)))=min (5+n) (ws.map V.str).length:=HT.sIx_nat _ _ (5+n);rw[s1,s2,ai,hw,nj,wm];have e1:min 4 8=4:=by decide
 have e2:min (5+n) 8-4=1+n:=by omega
 rw[e1,e2]
theorem Fc{K:Za}(h:oN vs H Q E):yT K g_ jM fj oQ (bH Q) (start An vs) H:=by
 obtain⟨p,c,most,full,rfl,hp,m0,m1,f0,f2,k⟩:=h;refine⟨_,rfl,p,c,rfl,hp,fun H1 hp1 ex1=>?_⟩;refine⟨_,rfl,p,c,8,rfl,hp1,by decide,fun lw ws H2 ok len fr hl hp2 ex2=>?_⟩;have e2:=ex1.trans ex2;have nw:=hp2.ne_strs hl;refine⟨_,rfl,(by show 6<=aj;decide),fun q hq=>⟨_,rfl,dH (hp2.ex (ac.new hq)) (by decide) (by decide) fun r H3 r0 r1 hp3 ex3=>?_⟩⟩;obtain⟨n,hn,n3⟩:=at6 r0 r1;have hl3:H3 lw=some (.lst (ws.map V.str)):=ex3 _ _ (kp hl hq) nw;refine⟨q,_,_,_,rfl,rfl,aA.of (ex3 _ _ aa (hp2.nep hq).symm),hn,_,_,rfl,rfl,_,rfl,lw,_,rfl,aA.of hl3,fun l1 hl1=>?_⟩;have ea:gg (ws.map V.str) none (some (1+(n:Int)))=(ws.take (1+n)).map V.str:=sf ws (1+n);rw[ea];have e3:cQ p H H3:=e2.trans ((cQ.new hq).trans ex3);have hp4:gD (upd H3 l1 (.lst ((ws.take (1+n)).map V.str))) p c:=hp3.ex (ac.new hl1);have e4:cQ p H (upd H3 l1 (.lst ((ws.take (1+n)).map V.str))):=e3.trans (cQ.new hl1);have hl4:upd H3 l1 (.lst ((ws.take (1+n)).map V.str)) lw=some (.lst (ws.map V.str)):=kp hl3 hl1;have ha4:upd H3 l1 (.lst ((ws.take (1+n)).map V.str)) l1=some (.lst ((ws.take (1+n)).map V.str)):=aa;generalize upd H3 l1 (.lst ((ws.take (1+n)).map V.str))=H4 at hp4 e4 hl4 ha4 ⊢;refine⟨_,rfl,_,rfl,(by show 6<=aj;decide),fun q hq=>⟨_,rfl,dH (hp4.ex (ac.new hq)) (by decide) (by decide) fun r H5 r0 r1 hp5 ex5=>?_⟩⟩;obtain⟨m,hm,m3⟩:=at6 r0 r1;have hl5:H5 lw=some (.lst (ws.map V.str)):=ex5 _ _ (kp hl4 hq) nw;have ha5:H5 l1=some (.lst ((ws.take (1+n)).map V.str)):=ex5 _ _ (kp ha4 hq) (hp4.ne_strs ha4);refine⟨q,_,_,_,rfl,rfl,aA.of (ex5 _ _ aa (hp4.nep hq).symm),hm,_,_,rfl,rfl,_,rfl,lw,_,rfl,aA.of hl5,fun l2 hl2=>?_⟩;rw[Gr len m3];have e5:cQ p H H5:=e4.trans ((cQ.new hq).trans ex5);have hp6:gD (upd H5 l2 (.lst (((ws.drop 4).take (1+m)).map V.str))) p c:=hp5.ex (ac.new hl2);have e6:cQ p H (upd H5 l2 (.lst (((ws.drop 4).take (1+m)).map V.str))):=e5.trans (cQ.new hl2);have ha6:upd H5 l2 (.lst (((ws.drop 4).take (1+m)).map V.str)) l1=some (.lst ((ws.take (1+n)).map V.str)):=kp ha5 hl2;have hb6:upd H5 l2 (.lst (((ws.drop 4).take (1+m)).map V.str)) l2=some (.lst (((ws.drop 4).take (1+m)).map V.str)):=aa;generalize upd H5 l2 (.lst (((ws.drop 4).take (1+m)).map V.str))=H6 at hp6 e6 ha6 hb6 ⊢;refine⟨_,rfl,_,rfl,_,rfl,dH hp6 m0 (by omega) fun r H7 r0 r1 hp7 ex7=>?_⟩;obtain⟨rn,rfl⟩:=jm r0;have ha7:=ex7 _ _ ha6 (hp6.ne_strs ha6);have hb7:=ex7 _ _ hb6 (hp6.ne_strs hb6);refine⟨_,_,rfl,rfl,p,c,1+rn,rfl,hp7,by omega,fun l3 J2 H8 okr lenr fr3 hl3' hp8 ex8=>?_⟩;have ha8:=ex8 _ _ ha7 (hp7.ne_strs ha7);have hb8:=ex8 _ _ hb7 (hp7.ne_strs hb7);have hs0:(ws.drop 4).take (1+m)≠[]:=by
  intro z;have:=congrArg List.length z;rw[aM,fN,len]at this;simp at this
 have ha0:ws.take (1+n)≠[]:=by
  intro z;have:=congrArg List.length z;rw[aM,len]at this;simp at this
 have hr0:J2≠[]:=by
  intro z;rw[z]at lenr;simp at lenr;omega
 refine⟨_,rfl,_,rfl,_,rfl,_,rfl,_,rfl,p,c,l1,l2,l3,_,_,J2,full,rfl,hp8,ha8,hb8,hl3',by rw[aM];omega,hs0,by rw[aM];omega,hr0,by omega,f0,f2,fun l4 ts ds up H9 fr4 hl4' hds nod good few hp9 ex9=>?_⟩;have ha9:=ex9 _ _ ha8 (hp8.ne_strs ha8);have hb9:=ex9 _ _ hb8 (hp8.ne_strs hb8);have hc9:=ex9 _ _ hl3' (hp8.ne_strs hl3');refine⟨_,rfl,_,rfl,_,rfl,_,rfl,(by show 4<=aj;decide),fun t ht=>k t l1 l2 l3 l4 ts _ _ J2 ds _ ⟨aa,kp ha9 ht,kp hb9 ht,kp hc9 ht,kp hl4' ht,hds.kt (ac.kt (ac.new ht))⟩ ?_ ?_ few (hp9.ex (ac.new ht)) ?_⟩
 ·refine⟨⟨?_,fun w h=>ok.2 w (fu h)⟩,⟨?_,fun w h=>ok.2 w (List.mem_of_mem_drop (fu h))⟩,?_,okr,ha0,hs0,hr0,by rw[aM];omega,by rw[aM];omega,by omega,nod,fun d hd=>(good d hd).d,by omega,fun r z=>(EJ okr.1 good z).irr okr.1⟩
  ·exact ok.1.sublist (List.take_sublist _ _)
  ·exact ok.1.sublist ((List.take_sublist _ _).trans (List.drop_sublist _ _))
  ·intro w h1 h2;have h3:w∈ws.drop 4:=fu h1;have h4:w∈ws.take 4:=by
    have:ws.take (1+n)=(ws.take 4).take (1+n):=by rw[List.take_take];congr 1;omega
    rw[this]at h2;exact fu h2
   have:=ok.1;rw[<-sy 4 ws,cA]at this;exact this.2.2 w h4 w h3 rfl
 ·omega
 ·exact(((e6.trans ex7).trans ex8).trans ex9).trans (cQ.new ht)
theorem bE{ws:Zb}{i:Nat}{x:V}(h:(ws.map V.str)[i]?=some x):∃w,ws[i]?=some w/\x=.str w:=by
 rw[bw]at h;cases q:ws[i]? with
 |none=>rw[q]at h;cases h
 |some r=>rw[q]at h;exact⟨r,rfl,(eA h).symm⟩
theorem take_snoc{α:Type}{ws:List α}{i:Nat}{w:α}(h:ws[i]?=some w):ws.take (i+1)=ws.take i++[w]:=by
 obtain⟨hi,rfl⟩:=bO.mp h;rw[List.take_succ_eq_append_getElem hi]
def o9(w:Str):Bool:=!decide (w=("":Str)) && (decide (w.length<=8) && w.cps.toList.all fun c=>decide (c∈("abcdefghijklmnopqrstuvwxyz":Str).cps.toList))
theorem qH.b(h:qH w):o9 w=true:=by
 unfold o9;have h1:¬(w=("":Str)):=fun e=>by
  have:=h.lo;rw[e]at this;exact absurd this (by decide +kernel)
 rw[zzr0 h1,zzr1 h.hi,Bool.not_false,sw,sw,List.all_eq_true];intro c hc;obtain⟨c1,c2⟩:=h.al c hc;refine zzr1 ?_;have:=C9 (c-97) (by omega);have e:97+(c-97)=c:=by omega
 rw[e]at this;exact aR this
inductive sp_is_name (vs:List V)(H:Hp)(Q:VK)(E:XK):Prop
 |mk (w:Str):(vs=[.str w])->(w.length<=1000)->(∀H',ac H H'->Q (.bl (o9 w)) H')->sp_is_name  vs H Q E
theorem A2{K:Za}(h:sp_is_name vs H Q E):Dr K (bH Q) (start Ew vs) H:=by
 obtain⟨w,rfl,hz,k⟩:=h;refine⟨_,rfl,rfl,_,rfl,?_⟩;have ed:(!decide (V.str w=V.str ("":Str)))=!decide (w=("":Str)):=by
  congr 1;by_cases e:w=("":Str)
  ·rw[zzr1 e,zzr1 (by rw[e])]
  ·rw[zzr0 e,zzr0 (fun z=>e (by injection z))]
 rw[ed];refine i6 (fun h1=>?_) (fun h1=>?_)
 ·refine⟨_,rfl,.inr ⟨w,rfl,eo (ax hz),_,_,rfl,rfl,_,rfl,?_⟩⟩;refine i6 (fun h2=>?_) (fun h2=>?_)
  ·refine⟨_,rfl,w,rfl,fun l hl=>?_⟩;refine Gu (fun i vs H'=>vs=((w.cps.toList.take i).map fun c=>V.bl (decide (c∈("abcdefghijklmnopqrstuvwxyz":Str).cps.toList)))/\ac H H'/\H' l=some (.lst vs))
    ⟨rfl,ac.new hl,aa⟩ (fun i vs H' _ h=>h.2.2) ?_ ?_
   ·rintro vs H' ⟨rfl,hS,hl'⟩;refine⟨l,w.cps.toList.map fun c=>decide (c∈("abcdefghijklmnopqrstuvwxyz":Str).cps.toList),rfl,aA.of ?_,?_⟩
    ·rw[hl',sA];have:w.cps.toList.take w.cps.size=w.cps.toList:=by
      rw[List.take_of_length_le];simp
     rw[this]
     rfl
    ·have:=k H' hS;have h2':decide (w.length<=8)=true:=zzr1 (by have:=of_decide_eq_true h2;omega);unfold o9 at this;rw[h1,h2',sw,sw]at this;rw[List.all_map];exact this
   ·rintro i vs H' c hc hi ⟨rfl,hS,hl'⟩;refine gN (rC ?_);refine⟨_,rfl,c,_,rfl,rfl,hl',?_,uB hi ⟨?_,?_,aa⟩⟩
    ·rw[ai,aM];have:w.length=w.cps.toList.length:=fh w;exact ax (by omega)
    ·rw[take_snoc (by rw[<-hc];simp),ay]
     rfl
    ·intro b o e;rw[ag (ae e hl)];exact hS b o e
  ·have:=k H (ac.refl H);have h2':decide (w.length<=8)=false:=zzr0 (fun z=>h2 (zzr1 (by omega)));unfold o9 at this;rw[h1,h2',sw,Ch]at this;exact this
 ·have:=k H (ac.refl H);unfold o9 at this;rw[Bool.eq_false_iff.mpr h1,Ch]at this;exact this
def aW(ws:Zb):List (eS×V):=ws.foldl (fun acc w=>cR acc (.inr w) (.bl true)) []
theorem dF(ws:Zb)(w:Str):aW (ws++[w])=cR (aW ws) (.inr w) (.bl true):=by
 unfold aW;rw[j5]
 rfl
theorem zA{κ:Type}[DecidableEq κ](kvs:List (κ×V))(k:κ)(v:V):(cR kvs k v).length<=kvs.length+1:=by
 unfold cR;split
 ·rw[ai];omega
 ·rw[az];exact aG _
theorem jG{α:Type}(P:List α->Prop)(h0:P [])(hs:∀ws w,P ws->P (ws++[w]))(ws:List α):P ws:=by
 have:∀n (ws:List α),ws.length=n->P ws:=by
  intro n
  induction n with
  |zero=>intro ws h;rw[List.length_eq_zero_iff.mp h];exact h0
  |succ n ih =>
   intro ws h;have hne:ws≠[]:=fun z=>by rw[z]at h;cases h
   rw[<-List.dropLast_concat_getLast hne];exact hs _ _ (ih _ (by rw[List.length_dropLast,h];rfl))
 exact this _ ws rfl
theorem km(ws:Zb):(aW ws).length<=ws.length:=by
 refine jG (fun ws=>(aW ws).length<=ws.length) (aG _) (fun ws w h=>?_) ws;show(aW (ws++[w])).length<=(ws++[w]).length;rw[dF,az];have:=zA (aW ws) (.inr w) (.bl true);show _<=ws.length+1;omega
theorem tW(ws:Zb)(x:Str):bP (aW ws) (.inr x)=if x∈ws then some (.bl true)else none:=by
 refine jG (fun ws=>bP (aW ws) (.inr x)=if x∈ws then some (.bl true)else none) rfl (fun ws w h=>?_) ws
 show bP (aW (ws++[w])) (.inr x)=_;rw[dF,yL,h];by_cases e:x=w
 ·subst e;rw[if_pos rfl,if_pos (by simp)]
 ·have e1:¬((Sum.inr x:eS)=.inr w):=fun z=>e (by injection z);rw[if_neg e1];by_cases m:x∈ws
  ·rw[if_pos m,if_pos (cB _ m)]
  ·rw[if_neg m,if_neg (fun z=>by rcases aX.mp z with z|z;exact m z;exact e (by simpa using z))]
theorem eU(ws:Zb)(x:Str):(bP (aW ws) (.inr x)).isSome=decide (x∈ws):=by
 rw[tW];by_cases m:x∈ws
 ·rw[if_pos m,zzr1 m];rfl
 ·rw[if_neg m,zzr0 m];rfl
inductive sp_as_keys(K:Za)(vs:List V)(H:Hp)(Q:VK)(E:XK):Prop
 |mk (l:Addr) (ws:Zb):(vs=[.ref l])->(aA K H l (ws.map V.str))->(ws.length<=1000)->(∀d,H d=none->Q (.ref d) (upd H d (.dK (aW ws))))->sp_as_keys K vs H Q E
theorem A6{K:Za}(h:sp_as_keys K vs H Q E):Dt K (bH Q) (start Ex vs) H:=by
 obtain⟨l,ws,rfl,hl,hz,k⟩:=h;refine fun d hd=>?_;have key:∀kvs,aA K (upd H d (.dK kvs)) l (ws.map V.str):=fun kvs=>(ac.new hd).seq hl;refine⟨_,rfl,l,rfl,⟨_,key _⟩,?_⟩;refine cg (xs:=ws.map V.str) (fun i σ H'=>∃x,σ=[some (.ref l),some (.ref d),x]/\H'=upd H d (.dK (aW (ws.take i)))) ⟨_,rfl,rfl⟩ (fun i σ H' _ ⟨_,_,e⟩=>by rw[e];exact key _) ?_ ?_
 ·rintro i x σ H' hi ⟨y,rfl,rfl⟩;obtain⟨w,hw,rfl⟩:=bE hi;have hlen:(aW (ws.take i)).length<aj:=ax (bL (km _) (by rw[aM];omega));refine⟨_,rfl,_,rfl,d,_,rfl,.inl ⟨_,.inr w,aa,rfl,hlen,rfl⟩,_,rfl,?_⟩;rw[rS,take_snoc hw,dF]
 ·rintro σ H' ⟨x,rfl,rfl⟩;rw[ai,bt];exact⟨_,rfl,k d hd⟩
def F_(most:Nat):Nat->List Str->List Str->Option Nat
 |_,_,[]=>none
 |i,ahead,n::ns=>if i=most∨n∈ahead∨o9 n=false then some i else F_ most (i+1) (ahead++[n]) ns
def cO(names:Zb)(most:Nat)(taken:Zb):Option Nat:=if names=[]then some 0 else F_ most 0 taken names
def oV:Option Nat->V
 |none=>.non
 |some i=>.int i
inductive sp_first_wrong_name(K:Za)(vs:List V)(H:Hp)(Q:VK)(E:XK):Prop
 |mk (l t:Addr) (names taken:Zb) (most:Nat):(vs=[.ref l,.int most,.ref t])->(aA K H l (names.map V.str))->(aA K H t (taken.map V.str))->(names.length+taken.length<=1000)->((∀w∈names,w.length<=1000))->(∀H',ac H H'->Q (oV (cO names most taken)) H')->sp_first_wrong_name K vs H Q E
theorem qC{K:Za}{Q:VK}{ws:Zb}(hl:aA K H l (ws.map V.str))(hz:ws.length<=1000)(k:∀d,H d=none->Q (.ref d) (upd H d (.dK (aW ws)))):sp_as_keys K [.ref l] H Q E:=by
 exact⟨l,ws,rfl,hl,hz,k⟩
theorem DY{Q:VK}{w:Str}(hz:w.length<=1000)(k:∀H',ac H H'->Q (.bl (o9 w)) H'):sp_is_name [.str w] H Q E:=by
 exact⟨w,rfl,hz,k⟩
theorem mL{K:Za}(h:sp_first_wrong_name K vs H Q E):nE K sp_is_name (sp_as_keys K) (bH Q) (start nZ vs) H:=by
 obtain⟨l,t,names,taken,most,rfl,hl,ht,hz,hw,k⟩:=h;refine⟨_,rfl,.inl ⟨l,_,rfl,.inl hl,rfl,_,rfl,?_⟩⟩;by_cases h0:names=[]
 ·subst h0;refine dk ?_;have:=k H (ac.refl H);exact this
 have e0:decide (V.int ((names.map V.str).length:Nat)=V.int 0)=false:=zzr0 (fun z=>h0 (by
  injection z with z;rw[ai]at z;exact List.length_eq_zero_iff.mp (by omega)))
 rw[e0];refine bR ?_;have hk:∀H',ac H H'->Q (oV (F_ most 0 taken names)) H':=by
  unfold cO at k;rw[if_neg h0]at k;exact k
 refine⟨_,rfl,qC ht (by omega) fun d hd=>?_⟩;refine⟨_,rfl,l,rfl,⟨_,(ac.new hd).seq hl⟩,?_⟩;refine jX (xs:=names.map V.str) (fun i σ H'=>∃x y,σ=[some (.ref l),some (.int most),some (.ref t),some (.ref d),x,y]/\ac H H'/\H' d=some (.dK (aW (taken++names.take i)))/\F_ most i (taken++names.take i) (names.drop i)=F_ most 0 taken names)
  ⟨_,_,rfl,ac.new hd,by rw[pK,gJ];exact aa,by rw[pK,gJ,jn]⟩ (fun i σ H' _ ⟨_,_,_,hS,_⟩=>hS.seq hl) ?_ ?_
 ·rintro i x σ H' q hi ⟨x4,x5,rfl,hS,hd',hf⟩ hq;obtain⟨w,hw',rfl⟩:=bE hi;have hil:i<names.length:=(bO.mp hw').1;have ed:names.drop i=w::names.drop (i+1):=by
   rw[sF hil];congr 1;exact(bO.mp hw').2
  rw[ed]at hf;have hd2:upd H' q (.tup [.int i,.str w]) d=some (.dK (aW (taken++names.take i))):=kp hd' hq;have hS2:ac H (upd H' q (.tup [.int i,.str w])):=hS.trans (ac.new hq);have hww:w.length<=1000:=hw w (aR hw');refine⟨q,_,rfl,bD.of aa,rfl,_,_,rfl,_,_,rfl,rfl,?_⟩;generalize upd H' q (.tup [.int i,.str w])=H2 at hd2 hS2 ⊢;refine⟨_,rfl,_,rfl,rfl,_,rfl,?_⟩;by_cases c1:i=most
  ·have e1:decide (V.int (i:Nat)=V.int (most:Nat))=true:=zzr1 (by rw[c1]);rw[e1];refine dk (dk ?_);refine⟨_,rfl,?_⟩;have:=hk H2 hS2;rw[<-hf]at this;unfold F_ at this;rw[if_pos (.inl c1)]at this;exact this
  have e1:decide (V.int (i:Nat)=V.int (most:Nat))=false:=zzr0 (fun z=>c1 (by injection z with z;omega));rw[e1];refine bR ?_;refine⟨_,rfl,_,rfl,d,_,rfl,.inl ⟨_,.inr w,.inl hd2,rfl,rfl⟩,_,rfl,?_⟩;rw[eU];by_cases c2:w∈taken++names.take i
  ·rw[zzr1 c2];refine dk (dk ?_);refine⟨_,rfl,?_⟩;have:=hk H2 hS2;rw[<-hf]at this;unfold F_ at this;rw[if_pos (.inr (.inl c2))]at this;exact this
  rw[zzr0 c2];refine bR ?_;refine⟨_,rfl,DY hww fun H3 hS3=>⟨_,rfl,?_⟩⟩;have hd3:=hS3 _ _ hd2;cases c3:o9 w with
  |false =>
   refine dk ?_;refine⟨_,rfl,?_⟩;have:=hk H3 (hS2.trans hS3);rw[<-hf]at this;unfold F_ at this;rw[if_pos (.inr (.inr c3))]at this;exact this
  |true =>
   refine bR ?_;have hlen:(aW (taken++names.take i)).length<aj:=ax (bL (km _) (by rw[az,aM];omega));refine⟨_,rfl,_,rfl,d,_,rfl,.inl ⟨_,.inr w,hd3,rfl,hlen,rfl⟩,_,_,rfl,?_,?_,?_⟩
   ·intro b o e;rw[ag (ae e hd)];exact hS3 _ _ (hS2 _ _ e)
   ·rw[aa,take_snoc hw',<-cU,dF]
   ·rw[<-hf,take_snoc hw',<-cU]
    conv=>rhs;unfold F_
    rw[if_neg];rintro(z|z|z)
    ·exact c1 z
    ·exact c2 z
    ·rw[c3]at z;cases z
 ·rintro σ H' ⟨x,y,rfl,hS,_,hf⟩;rw[ai,List.drop_length]at hf;have:=hk H' hS;rw[<-hf]at this;exact this
theorem z6{most:Nat}:∀(ns ahead:Zb) (i:Nat),i+ns.length<=most->(ahead++ns).Nodup->(∀w∈ns,qH w)->F_ most i ahead ns=none
 |[],_,_,_,_,_=>rfl
 |n::ns,ahead,i,h1,h2,h3=>by
  rw[cZ]at h1;unfold F_;rw[if_neg]
  ·refine z6 ns (ahead++[n]) (i+1) (by omega) (by rw[cU];exact h2) fun w hw=>h3 w (cT _ hw)
  ·rintro(z|z|z)
   ·omega
   ·rw[cA]at h2;exact h2.2.2 n z n (cb) rfl
   ·rw[(h3 n cb).b]at z;cases z
theorem ie{most:Nat}{ns taken:Zb}(h0:ns≠[])(h1:ns.length<=most)(h2:(taken++ns).Nodup)(h3:∀w∈ns,qH w):cO ns most taken=none:=by
 unfold cO;rw[if_neg h0];exact z6 ns taken 0 (by omega) h2 h3
theorem gQ{n:Nat}(h:n<=9000):n<aj:=Nat.lt_of_le_of_lt h (by decide)
def oS(x:Str):TK:=.k (.inr x)
def jW(sg:Zb):TK:=.t (sg.map oS)
def C5(d:ao):TK:=.t [oS d.a,jW d.sg,oS d.b]
theorem rY(h:oS x=oS y):x=y:=by
 unfold oS at h;injection h with h;injection h
theorem qY:∀{x y:Zb},x.map oS=y.map oS->x=y
 |[],[],_=>rfl
 |[],_::_,h=>by cases h
 |_::_,[],h=>by cases h
 |a::x,b::y,h=>by
  rw[bb,bb]at h;injection h with h1 h2;rw[rY h1,qY h2]
theorem my(h:jW x=jW y):x=y:=by
 unfold jW at h;injection h with h;exact qY h
theorem HC(h:C5 x=C5 y):x=y:=by
 unfold C5 at h;injection h with h;injection h with h1 h;injection h with h2 h;injection h with h3 h;cases x;cases y;simp only at *;rw[rY h1,my h2,rY h3]
theorem Az(xs:Zb):TK.depths (xs.map oS)=0:=by
 induction xs with
 |nil=>rfl
 |cons x xs ih=>rw[bb];show max (TK.depth (oS x)) (TK.depths _)=0;rw[ih];rfl
theorem vq(sg:Zb):(jW sg).depth=1:=by
 show TK.depths (sg.map oS)+1=1;rw[Az]
theorem vt(d:ao):(C5 d).depth=2:=by
 show max (TK.depth (oS d.a)) (max (TK.depth (jW d.sg)) (max (TK.depth (oS d.b)) 0))+1=2;rw[vq]
 rfl
theorem Ct:∀xs:List Str,TKAts H (xs.map oS) (xs.map V.str)
 |[]=>by show TKAts H [] [];unfold TKAts;rfl
 |x::xs=>by
  rw[bb,bb];unfold TKAts;refine⟨_,_,rfl,?_,Ct xs⟩;unfold oS da
  rfl
theorem wY(x:Str):da H (oS x) (.str x):=by unfold oS da;rfl
theorem SignAt.tk(h:SignAt H s sg):da H (jW sg) (.ref s):=by
 unfold jW da;exact⟨s,_,rfl,h,Ct _⟩
theorem gp.tk(h:gp H t d):da H (C5 d) (.ref t):=by
 obtain⟨s,h1,h2⟩:=h;unfold C5 da;refine⟨t,_,rfl,h1,?_⟩;unfold TKAts;refine⟨_,_,rfl,wY _,?_⟩;unfold TKAts;refine⟨_,_,rfl,SignAt.tk h2,?_⟩;unfold TKAts;refine⟨_,_,rfl,wY _,?_⟩;unfold TKAts
 rfl
section
variable{κ:Type}[DecidableEq κ]
def kP(ks:List κ):List (κ×V):=ks.foldl (fun acc k=>cR acc k (.bl true)) []
theorem nR(ws:List κ)(w:κ):kP (ws++[w])=cR (kP ws) w (.bl true):=by
 unfold kP;rw[j5]
 rfl
theorem DS(ws:List κ):(kP ws).length<=ws.length:=by
 refine jG (fun ws=>(kP ws).length<=ws.length) (aG _) (fun ws w h=>?_) ws;show(kP (ws++[w])).length<=(ws++[w]).length;rw[nR,az];have:=zA (kP ws) w (.bl true);show _<=ws.length+1;omega
theorem FN(ws:List κ)(x:κ):(bP (kP ws) x).isSome=decide (x∈ws):=by
 refine jG (fun ws=>(bP (kP ws) x).isSome=decide (x∈ws)) rfl (fun ws w h=>?_) ws;show(bP (kP (ws++[w])) x).isSome=_;rw[nR,yL];by_cases e:x=w
 ·subst e;rw[if_pos rfl,zzr1 (by simp)]
  rfl
 ·rw[if_neg e,h];by_cases m:x∈ws
  ·rw[zzr1 m,zzr1 (cB _ m)]
  ·rw[zzr0 m,zzr0 (fun z=>by rcases aX.mp z with z|z;exact m z;exact e (by simpa using z))]
end
theorem CQ{ds:List ao}:C5 d∈ds.map C5↔d∈ds:=by
 constructor
 ·intro h;obtain⟨x,hx,e⟩:=ap.mp h;rw[<-HC e];exact hx
 ·exact k5
def nW(K:Za)(H:Hp)(v:V)(sg:Zb):Prop:=∃s,v=.ref s/\bD K H s (sg.map V.str)
theorem ac.sqT{K:Za}(e:ac H H')(h:bD K H a xs):bD K H' a xs:=by
 rcases h with(h|⟨o,h⟩)|h
 ·exact .inl (.inl (e _ _ h))
 ·exact .inl (.inr ⟨o,e _ _ h⟩)
 ·exact .inr h
theorem Signs.same{K:Za}(e:ac H H'){xs:List V}{sgs:List (List Str)}(h:Paired (nW K H) xs sgs):Paired (nW K H') xs sgs :=
 Paired.mapP h fun _ _ ⟨s,h1,h2⟩=>⟨s,h1,ac.sqT e h2⟩
def mN(sg:Zb):DT:=.t (sg.map fK)
theorem xX(h:mN x=mN y):x=y:=by
 unfold mN at h;injection h with h;exact hV h
theorem dJ(sg:Zb):(mN sg).depth=1:=by
 show DT.depths (sg.map fK)+1=1;rw[f_]
theorem Ed(sgs:List (List Str)):DT.depths (sgs.map mN)<=8:=by
 induction sgs with
 |nil=>exact df _
 |cons x xs ih=>rw[bb];show max (DT.depth (mN x)) (DT.depths _)<=8;rw[dJ];omega
theorem Signs.dIns{K:Za}:∀{xs:List V}{sgs:List (List Str)},Paired (nW K H) xs sgs->DIns K H (sgs.map mN) xs
 |_,_,.nil=>by show DIns K H [] [];unfold DIns;rfl
 |_,_,.cons ⟨s,e,r⟩ t=>by
  rw[bb];unfold DIns;refine⟨_,_,rfl,?_,Signs.dIns t⟩;rw[e];exact cy r
theorem CP{ds:List (List Str)}:mN d∈ds.map mN↔d∈ds:=by
 constructor
 ·intro h;obtain⟨x,hx,e⟩:=ap.mp h;rw[<-xX e];exact hx
 ·exact k5
theorem Paired.app{α β:Type}{R:α->β->Prop}:∀{a:List α}{b:List β}{c:List α}{d:List β},Paired R a b->Paired R c d->Paired R (a++c) (b++d)
 |_,_,_,_,.nil,h=>h
 |_,_,_,_,.cons r t,h=>.cons r (Paired.app t h)
def cP(w:Str):List Str:=[("ask":Str),w]
def kO(w:Str):List Str:=[("say":Str),w]
def jY(J0 J1:Zb):List (List Str):=J0.map cP++J1.map kO++[am]
theorem tF{K:Za}{kw:Str}{H:Hp}{a l:Addr}{ws:Zb}{Q:Hp->Prop}(ha:H a=some (.lst (ws.map V.str)))(hl:H l=none)(hz:ws.length<=1000)
  (k:∀(xs:List V) (H':Hp),Paired (nW K H') xs (ws.map fun w=>[kw,w])->ac H H'->H' l=some (.lst xs)->Q H') :
  gu 1 [] σ (GI K a) U0 jH (bu (aN (tC (.str kw)) V0)) H l Q:=by
 refine cX (xs:=ws.map V.str) (fun i vs H'=>Paired (nW K H') vs ((ws.take i).map fun w=>[kw,w])/\ac H H'/\H' l=some (.lst vs))
  ⟨.nil,ac.new hl,aa⟩ (fun i vs H' _ ⟨_,hS,h'⟩=>⟨h',aA.of (hS _ _ ha)⟩) ?_ ?_
 ·rintro vs H' ⟨h1,h2,h3⟩;rw[ai,bt]at h1;exact k vs H' h1 h2 h3
 ·rintro i vs H' x hx hi ⟨h1,h2,h3⟩;obtain⟨w,hw,rfl⟩:=bE hx;refine gN (rC ?_);refine⟨_,rfl,(by show 2<=aj;decide),fun t ht=>⟨kp h3 ht,?_,uB hi ⟨?_,?_,aa⟩⟩⟩
  ·rw[Paired.length h1,ai,aM];exact ax (by omega)
  ·rw[take_snoc hw,ay];have hS2:ii (upd H' t (.tup [.str kw,.str w])) (upd (upd H' t (.tup [.str kw,.str w])) l (.lst (vs++[.ref t]))):=cJ (kp h3 ht);have hS3:ii H' (upd (upd H' t (.tup [.str kw,.str w])) l (.lst (vs++[.ref t]))):=(ac.kt (ac.new ht)).trans hS2;refine Paired.app (Paired.mapP h1 fun v sg ⟨s,e1,e2⟩=>⟨s,e1,?_⟩) (.cons ⟨t,rfl,bD.of (hS2 _ _ aa)⟩ .nil);rcases e2 with(e2|⟨o,e2⟩)|e2
   ·exact .inl (.inl (hS3 _ _ e2))
   ·refine .inl (.inr ⟨o,?_⟩);rw[ag (fun z=>by rw[z,h3]at e2;cases e2)];exact kp e2 ht
   ·exact .inr e2
  ·intro b o e;rw[ag (ae e hl)];exact kp (h2 _ _ e) ht
inductive sp_door_signs(K:Za)(vs:List V)(H:Hp)(Q:VK)(E:XK):Prop
 |mk (l1 l2:Addr) (J0 J1:Zb):(vs=[.ref l1,.ref l2])->(H l1=some (.lst (J0.map V.str)))->(H l2=some (.lst (J1.map V.str)))->(J0.length<=100)->(J1.length<=100)->(∀(l:Addr) (xs:List V) (H':Hp),Paired (nW K H') xs (jY J0 J1)->ac H H'->H' l=some (.lst xs)->Q (.ref l) H')->sp_door_signs K vs H Q E
theorem uZ{K:Za}{st:Addr}(hst:∀H,bD K H st (am.map V.str))(h:sp_door_signs K vs H Q E):xh K st (bH Q) (start yu vs) H:=by
 obtain⟨l1,l2,J0,J1,rfl,h1,h2,z1,z2,k⟩:=h;refine⟨_,rfl,l1,rfl,⟨_,aA.of h1⟩,fun a ha=>?_⟩;refine tF h1 ha (by omega) fun xs1 H1 p1 s1 g1=>?_;refine⟨_,rfl,l2,rfl,⟨_,aA.of (s1 _ _ h2)⟩,fun b hb=>?_⟩;refine tF (s1 _ _ h2) hb (by omega) fun xs2 H2 p2 s2 g2=>?_;have len1:xs1.length<=100:=by rw[Paired.length p1,ai];exact z1
 have len2:xs2.length<=100:=by rw[Paired.length p2,ai];exact z2
 refine⟨a,b,xs1,xs2,rfl,rfl,s2 _ _ g1,g2,eo (ax (by omega)),fun c hc=>?_⟩;refine⟨(by show 1<=aj;decide),fun d hd=>?_⟩;refine⟨c,d,_,_,rfl,rfl,kp aa hd,aa,?_,fun e he=>k e _ _ ?_ ?_ aa⟩
 ·rw[az];show _+1<=aj;exact eo (ax (by omega))
 ·have sx:ac H2 (upd (upd (upd H2 c (.lst (xs1++xs2))) d (.lst [.ref st])) e (.lst (xs1++xs2++[.ref st]))):=((ac.new hc).trans (ac.new hd)).trans (ac.new he);exact Paired.app (Paired.app (Signs.same (s2.trans sx) p1) (Signs.same sx p2)) (.cons ⟨st,rfl,hst _⟩ .nil)
 ·exact(((s1.trans s2).trans (ac.new hc)).trans (ac.new hd)).trans (ac.new he)
def Hu(J2:Zb)(sgs:List (List Str)):Nat->List ao->List ao->Option Nat
 |_,_,[]=>none
 |i,ahead,d::ds=>if i=2000∨d∈ahead∨d.a∉J2∨d.sg∉sgs∨d.b∉J2 then some i else Hu J2 sgs (i+1) (ahead++[d]) ds
inductive sp_first_wrong_door(K:Za)(vs:List V)(H:Hp)(Q:VK)(E:XK):Prop
 |mk (l l3 sl:Addr) (ts:Ze) (ds:List ao) (J2:Zb) (xs:List V) (sgs:List (List Str)):(vs=[.ref l,.ref l3,.ref sl])->(H l=some (.lst (ts.map V.ref)))->(cj H ts ds)->(H l3=some (.lst (J2.map V.str)))->(J2.length<=1000)->(H sl=some (.lst xs))->(Paired (nW K H) xs sgs)->(ds.length<=9000)->(∀H',ac H H'->Q (oV (Hu J2 sgs 0 [] ds)) H')->sp_first_wrong_door K vs H Q E
theorem dW{ws:Ze}{i:Nat}{x:V}(h:(ws.map V.ref)[i]?=some x):∃w,ws[i]?=some w/\x=.ref w:=by
 rw[bw]at h;cases q:ws[i]? with
 |none=>rw[q]at h;cases h
 |some r=>rw[q]at h;exact⟨r,rfl,(eA h).symm⟩
theorem mM{K:Za}(h:sp_first_wrong_door K vs H Q E):nF K (sp_as_keys K) (bH Q) (start n5 vs) H:=by
 obtain⟨l,l3,sl,ts,ds,J2,xs,sgs,rfl,hl,hds,h3,hr,hsl,hsg,hz,k⟩:=h;refine⟨_,rfl,qC (aA.of h3) hr fun d hd=>?_⟩;refine fun e he=>?_;have hS0:ac H (upd (upd H d (.dK (aW J2))) e (.dT [])):=(ac.new hd).trans (ac.new he);have heH:H e=none:=(ac.new hd).free he;refine⟨_,rfl,l,rfl,⟨_,aA.of (hS0 _ _ hl)⟩,?_⟩;refine jX (xs:=ts.map V.ref) (fun i σ H'=>∃x y,σ=[some (.ref l),some (.ref l3),some (.ref sl),some (.ref d),some (.ref e),x,y]/\ac H H'/\H' d=some (.dK (aW J2))/\H' e=some (.dT (kP ((ds.take i).map C5)))/\Hu J2 sgs i (ds.take i) (ds.drop i)=Hu J2 sgs 0 [] ds)
  ⟨_,_,rfl,hS0,kp aa he,aa,rfl⟩ (fun i σ H' _ ⟨_,_,_,hS,_⟩=>aA.of (hS _ _ hl)) ?_ ?_
 ·rintro i x σ H' q hi ⟨x5,x6,rfl,hS,hd',he',hf⟩ hq;obtain⟨t,ht,rfl⟩:=dW hi;obtain⟨dr,hdr,hat⟩:=Paired.getL hds ht;have hil:i<ds.length:=(bO.mp hdr).1;have ed:ds.drop i=dr::ds.drop (i+1):=by
   rw[sF hil];congr 1;exact(bO.mp hdr).2
  rw[ed]at hf;have hS2:ac H (upd H' q (.tup [.int i,.ref t])):=hS.trans (ac.new hq);have hd2:upd H' q (.tup [.int i,.ref t]) d=_:=kp hd' hq;have he2:upd H' q (.tup [.int i,.ref t]) e=_:=kp he' hq;refine⟨q,_,rfl,bD.of aa,rfl,_,_,rfl,_,_,rfl,rfl,?_⟩;generalize upd H' q (.tup [.int i,.ref t])=H2 at hd2 he2 hS2 ⊢;have hat2:=hat.kt (ac.kt hS2);have hin:lW K H2 (C5 dr) (.ref t):=da.isIn 8 (by rw[vt];decide) hat2.tk;have hd8:(C5 dr).depth<=8:=by rw[vt];decide
  obtain⟨s,ht2,hs2⟩:=hat2;have bad:(i=2000∨dr∈ds.take i∨dr.a∉J2∨dr.sg∉sgs∨dr.b∉J2)->Q (.int i) H2:=by
   intro c;have:=k H2 hS2;rw[<-hf]at this;unfold Hu at this;rw[if_pos c]at this;exact this
  refine⟨_,rfl,rfl,_,rfl,?_⟩;by_cases c1:i=2000
  ·have e1:decide (V.int (i:Nat)=V.int 2000)=true:=zzr1 (by rw[c1];rfl);rw[e1];exact dk (dk ⟨_,rfl,bad (.inl c1)⟩)
  have e1:decide (V.int (i:Nat)=V.int 2000)=false:=zzr0 (fun z=>c1 (by injection z with z;omega));rw[e1];refine bR ?_;refine⟨_,rfl,_,rfl,e,_,rfl,.inr ⟨_,C5 dr,t,.inl he2,rfl,hin,hd8,rfl⟩,_,rfl,?_⟩;rw[FN];by_cases c2:dr∈ds.take i
  ·rw[zzr1 (CQ.mpr c2)];exact dk ⟨_,rfl,bad (.inr (.inl c2))⟩
  rw[zzr0 (fun z=>c2 (CQ.mp z))];refine bR ?_;refine⟨_,rfl,.inr (.inl ⟨t,_,0,_,rfl,rfl,bD.of ht2,rfl,_,rfl,d,_,rfl,.inl ⟨_,.inr dr.a,.inl hd2,rfl,rfl⟩,_,rfl,?_⟩)⟩;rw[eU];by_cases c3:dr.a∈J2;rotate_left
  ·rw[zzr0 c3];exact dk (dk ⟨_,rfl,bad (.inr (.inr (.inl c3)))⟩)
  rw[zzr1 c3];refine bR ?_;refine⟨_,rfl,.inr (.inl ⟨t,_,1,_,rfl,rfl,bD.of ht2,rfl,_,rfl,mN dr.sg,sgs.map mN,sl,xs,cy (bD.of hs2),rfl,.inl (aA.of (hS2 _ _ hsl)),Signs.dIns (Signs.same hS2 hsg),by rw[dJ];decide,Ed _,_,rfl,?_⟩)⟩;rw[if_pos rfl];by_cases c4:dr.sg∈sgs;rotate_left
  ·rw[zzr0 (fun z=>c4 (CP.mp z))];exact dk (dk ⟨_,rfl,bad (.inr (.inr (.inr (.inl c4))))⟩)
  rw[zzr1 (CP.mpr c4)];refine bR ?_;refine⟨_,rfl,.inr (.inl ⟨t,_,2,_,rfl,rfl,bD.of ht2,rfl,_,rfl,d,_,rfl,.inl ⟨_,.inr dr.b,.inl hd2,rfl,rfl⟩,_,rfl,?_⟩)⟩;rw[eU];by_cases c5:dr.b∈J2;rotate_left
  ·rw[zzr0 c5];exact dk ⟨_,rfl,bad (.inr (.inr (.inr (.inr c5))))⟩
  rw[zzr1 c5];refine bR ?_;have hlen:(kP ((ds.take i).map C5)).length<aj:=gQ (bL (DS _) (by rw[ai,aM];omega));refine⟨_,rfl,_,rfl,e,_,rfl,.inr ⟨_,C5 dr,t,he2,rfl,gp.tk ⟨s,ht2,hs2⟩,hd8,hlen,rfl⟩,_,_,rfl,?_,?_,?_,?_⟩
  ·intro b o q;rw[ag (ae q heH)];exact hS2 _ _ q
  ·rw[ag (fun z=>by rw[z,he2]at hd2;cases hd2)];exact hd2
  ·rw[aa,take_snoc hdr,ay];exact congrArg (fun z=>some (HO.dT z)) (nR _ _).symm
  ·rw[<-hf,take_snoc hdr]
   conv=>rhs;unfold Hu
   rw[if_neg];rintro(z|z|z|z|z)
   ·exact c1 z
   ·exact c2 z
   ·exact z c3
   ·exact z c4
   ·exact z c5
 ·rintro σ H' ⟨x,y,rfl,hS,_,_,hf⟩;have:=k H' hS;rw[<-hf,ai,Paired.length hds,List.drop_length]at this;exact this
theorem z7{J2:Zb}{sgs:List (List Str)}:∀(ds ahead:List ao) (i:Nat),i+ds.length<=2000->(ahead++ds).Nodup->(∀d∈ds,d.a∈J2/\d.sg∈sgs/\d.b∈J2)->Hu J2 sgs i ahead ds=none
 |[],_,_,_,_,_=>rfl
 |n::ns,ahead,i,h1,h2,h3=>by
  rw[cZ]at h1;unfold Hu;rw[if_neg]
  ·refine z7 ns (ahead++[n]) (i+1) (by omega) (by rw[cU];exact h2) fun w hw=>h3 w (cT _ hw)
  ·have:=h3 n cb;rintro(z|z|z|z|z)
   ·omega
   ·rw[cA]at h2;exact h2.2.2 n z n (cb) rfl
   ·exact z this.1
   ·exact z this.2.1
   ·exact z this.2.2
inductive sp_need_none (vs:List V)(H:Hp)(Q:VK)(E:XK):Prop
 |mk (x:V):(vs=[x,.non])->(Q .non H)->sp_need_none  vs H Q E
theorem xy{K:Za}(h:sp_need_none vs H Q E):yQ K (bH Q) (start Ak vs) H:=by
 obtain⟨x,rfl,k⟩:=h;refine⟨_,rfl,_,rfl,?_⟩;have e:(!decide (V.non=V.non))=false:=by rw[zzr1 rfl];rfl
 rw[e];exact bR k
structure Lists(H:Hp)(l1 l2 l3 l4:Addr)(ts:Ze)(J0 J1 J2:Zb)(ds:List ao):Prop where
 a1:H l1=some (.lst (J0.map V.str))
 a2:H l2=some (.lst (J1.map V.str))
 a3:H l3=some (.lst (J2.map V.str))
 a4:H l4=some (.lst (ts.map V.ref))
 ds:cj H ts ds
theorem Lists.same{H H':Hp}{l1 l2 l3 l4:Addr}{ts:Ze}{J0 J1 J2:Zb}{ds:List ao}(h:Lists H l1 l2 l3 l4 ts J0 J1 J2 ds)(e:ac H H'):Lists H' l1 l2 l3 l4 ts J0 J1 J2 ds :=
 ⟨e _ _ h.a1,e _ _ h.a2,e _ _ h.a3,e _ _ h.a4,h.ds.kt (ac.kt e)⟩
inductive sp_need_parts (vs:List V)(H:Hp)(Q:VK)(E:XK):Prop
 |mk (l1 l2 l3 l4:Addr) (ts:Ze) (J0 J1 J2:Zb) (ds:List ao):(vs=[.ref l1,.ref l2,.ref l3,.ref l4])->(Lists H l1 l2 l3 l4 ts J0 J1 J2 ds)->(aD J0 J1 J2 ds)->(∀H',ac H H'->Q .non H')->sp_need_parts  vs H Q E
theorem aD.signs(m:aD J0 J1 J2 ds):∀d∈ds,d.a∈J2/\d.sg∈jY J0 J1/\d.b∈J2:=by
 intro d hd;have g:=m.good d hd;refine⟨g.a,?_,g.b⟩;unfold jY;rcases g.sg with⟨w,hw,e⟩|⟨w,hw,e⟩|e
 ·rw[e];exact cB _ (cB _ (ap.mpr ⟨w,hw,rfl⟩))
 ·rw[e];exact cB _ (cS _ (ap.mpr ⟨w,hw,rfl⟩))
 ·rw[e];exact cS _ (by simp[am])
theorem qo(h:iC ws):∀w∈ws,w.length<=1000:=fun w hw=>bL (h.2 w hw).hi (by decide)
theorem uU{K:Za}(h:sp_need_parts vs H Q E):w_ K sp_need_none (sp_first_wrong_door K) (sp_door_signs K) (sp_first_wrong_name K) (bH Q) (start yo vs) H:=by
 obtain⟨l1,l2,l3,l4,ts,J0,J1,J2,ds,rfl,L,m,k⟩:=h;have w1:cO J0 4 []=none:=ie m.asks0 m.asks4 m.okA.1 m.okA.2;have w2:cO J1 4 J0=none:=ie m.says0 m.says4 (by
  rw[cA];exact⟨m.okA.1,m.okS.1,fun a ha b hb e=>m.apart b hb (e▸ha)⟩) m.okS.2
 have w3:cO J2 150 []=none:=ie m.rooms0 (by have:=m.rooms26;omega) m.okR.1 m.okR.2;have w4:Hu J2 (jY J0 J1) 0 [] ds=none:=z7 ds [] 0 (by have:=m.few;omega) m.nodup m.signs;have z1:=m.asks4;have z2:=m.says4;have z3:=m.rooms26;have z4:=m.few;refine⟨_,rfl,(by show 0<=aj;decide),fun e he=>⟨l1,e,J0,[],4,rfl,aA.of (kp L.a1 he),aA.of aa,by simp;omega,qo m.okA,fun H1 s1=>?_⟩⟩;rw[w1];refine⟨_,rfl,?_⟩;have S1:=(ac.new he).trans s1;refine⟨_,rfl,_,rfl,l2,l1,J1,J0,4,rfl,aA.of (S1 _ _ L.a2),aA.of (S1 _ _ L.a1),by omega,qo m.okS,fun H2 s2=>?_⟩;rw[w2];refine⟨_,rfl,?_⟩;have S2:=S1.trans s2;refine⟨_,rfl,(by show 0<=aj;decide),fun e he=>⟨l3,e,J2,[],150,rfl,aA.of (kp (S2 _ _ L.a3) he),aA.of aa,by simp;omega,qo m.okR,fun H3 s3=>?_⟩⟩;rw[w3];refine⟨_,rfl,?_⟩;have S3:=(S2.trans (ac.new he)).trans s3;refine⟨_,rfl,_,rfl,_,rfl,_,rfl,l1,l2,J0,J1,rfl,S3 _ _ L.a1,S3 _ _ L.a2,by omega,by omega,fun sl xs H4 hx s4 hsl=>?_⟩;have S4:=S3.trans s4;have L4:=L.same S4;refine⟨l4,l3,sl,ts,ds,J2,xs,jY J0 J1,rfl,L4.a4,L4.ds,L4.a3,by omega,hsl,hx,by omega,fun H5 s5=>?_⟩;rw[w4];exact⟨_,rfl,k H5 (S4.trans s5)⟩
section
variable{κ ι:Type}[DecidableEq κ]{e:ι->κ}
def dY(e:ι->κ)(ps:List (ι×Addr)):List (κ×V):=ps.map fun x=>(e x.1,V.ref x.2)
theorem mx(inj:∀x y,e x=e y->x=y){i:ι}:∀{ps:List (ι×Addr)},i∉ps.map (·.1)->bP (dY e ps) (e i)=none
 |[],_=>rfl
 |x::ps,h=>by
  rw[bb,bM]at h;show bP ((e x.1,V.ref x.2)::dY e ps) (e i)=none;rw[cu (fun z=>h (.inl (inj _ _ z).symm))];exact mx inj (fun z=>h (.inr z))
theorem eC(inj:∀x y,e x=e y->x=y){i:ι}{a:Addr}:∀{ps:List (ι×Addr)},(ps.map (·.1)).Nodup->(i,a)∈ps->bP (dY e ps) (e i)=some (.ref a)
 |[],_,h=>by cases h
 |x::ps,nd,h=>by
  rw[bb,kJ]at nd;show bP ((e x.1,V.ref x.2)::dY e ps) (e i)=_;rcases bM.mp h with h|h
  ·rw[<-h];exact cC rfl
  ·rw[cu (fun z=>nd.1 (by rw[inj _ _ z];exact ap.mpr ⟨_,h,rfl⟩))];exact eC inj nd.2 h
theorem vU(ps:List (ι×Addr))(i:ι)(a:Addr):dY e (ps++[(i,a)])=dY e ps++[(e i,.ref a)]:=by
 unfold dY;rw[ay]
 rfl
end
structure DL{ι:Type}(H0 H:Hp)(d:Addr)(ps:List (ι×Addr)):Prop where
 nd:(ps.map (·.1)).Nodup
 na:(ps.map (·.2)).Nodup
 fr:∀x∈ps,H0 x.2=none
 frd:H0 d=none
 ned:∀x∈ps,x.2≠d
 same:ac H0 H
theorem DL.snoc{ι:Type}{H0 H H':Hp}{d:Addr}{ps:List (ι×Addr)}{i:ι}{a:Addr}(h:DL H0 H d ps)(hi:i∉ps.map (·.1))(ha:∀x∈ps,x.2≠a)(fr:H0 a=none)(nd:a≠d)(s:ac H0 H'):DL H0 H' d (ps++[(i,a)]):=by
 refine⟨?_,?_,?_,h.frd,?_,s⟩
 ·rw[ay,cA];refine⟨h.nd,by simp,fun x hx y hy e=>?_⟩;have:y=i:=by simpa using hy
  exact hi (by rw[<-this,<-e];exact hx)
 ·rw[ay,cA];refine⟨h.na,by simp,fun x hx y hy e=>?_⟩;have:y=a:=by simpa using hy
  obtain⟨z,hz,rfl⟩:=ap.mp hx;exact ha z hz (e.trans this)
 ·intro x hx;rcases aX.mp hx with hx|hx
  ·exact h.fr x hx
  ·have:x=(i,a):=by simpa using hx
   rw[this];exact fr
 ·intro x hx;rcases aX.mp hx with hx|hx
  ·exact h.ned x hx
  ·have:x=(i,a):=by simpa using hx
   rw[this];exact nd
theorem FE{ι:Type}:∀{ps:List (ι×Addr)},(ps.map (·.2)).Nodup->∀{x y:ι×Addr},x∈ps->y∈ps->x.2=y.2->x=y
 |[],_,x,_,h,_,_=>by cases h
 |p::ps,nd,x,y,hx,hy,e=>by
  rw[bb,kJ]at nd;rcases bM.mp hx with hx'|hx'<;>rcases bM.mp hy with hy'|hy'
  ·rw[hx',hy']
  ·exact absurd (ap.mpr ⟨y,hy',by rw[<-e,hx']⟩) nd.1
  ·exact absurd (ap.mpr ⟨x,hx',by rw[e,hy']⟩) nd.1
  ·exact FE nd.2 hx' hy' e
theorem iz:∀x y:Str,(Sum.inr x:eS)=Sum.inr y->x=y:=fun x y h=>by injection h
def br(ds:List ao)(r:Str):List ao:=ds.filter fun d=>decide (d.a=r)
inductive sp_doors_by_start (vs:List V)(H:Hp)(Q:VK)(E:XK):Prop
 |mk (l3 l4:Addr) (ts:Ze) (J2:Zb) (ds:List ao):(vs=[.ref l3,.ref l4])->(H l3=some (.lst (J2.map V.str)))->(H l4=some (.lst (ts.map V.ref)))->(cj H ts ds)->(J2.Nodup)->(J2.length<=1000)->(ds.length<=9000)->((∀d∈ds,d.a∈J2))->(∀(d:Addr) (ps:List (Str×Addr)) (H':Hp),ps.map (·.1)=J2->H' d=some (.dK (dY Sum.inr ps))->(∀x∈ps,∃us,H' x.2=some (.lst (us.map V.ref))/\cj H' us (br ds x.1))->ac H H'->Q (.ref d) H')->sp_doors_by_start  vs H Q E
theorem oX{K:Za}{vs:List V}{H:Hp}{Q:VK}{E:XK}(h:sp_doors_by_start vs H Q E):p5 K (bH Q) (start qG vs) H:=by
 obtain⟨l3,l4,ts,J2,ds,rfl,h3,h4,hds,nod,hz,hz2,hin,k⟩:=h;refine fun d hd=>?_;refine⟨_,rfl,l3,rfl,⟨_,aA.of (kp h3 hd)⟩,?_⟩;refine cg (xs:=J2.map V.str) (fun i σ H'=>∃x y,σ=[some (.ref l3),some (.ref l4),some (.ref d),x,y]/\∃ps:List (Str×Addr),ps.map (·.1)=J2.take i/\H' d=some (.dK (dY Sum.inr ps))/\DL H H' d ps/\∀x∈ps,H' x.2=some (.lst []))
  ⟨_,_,rfl,[],rfl,aa,⟨by simp,by simp,by simp,hd,by simp,ac.new hd⟩,by simp⟩ (fun i σ H' _ ⟨_,_,_,_,_,_,D,_⟩=>aA.of (D.same _ _ h3)) ?_ ?_
 ·rintro i x σ H' hi ⟨x3,x4,rfl,ps,hps,hd',D,hls⟩;obtain⟨w,hw,rfl⟩:=bE hi;have hnew:w∉ps.map (·.1):=by
   rw[hps];intro z;have:=nod;rw[<-sy (i+1) J2,take_snoc hw,cA]at this;have:=this.1;rw[cA]at this;exact this.2.2 w z w (by simp) rfl
  refine⟨(by show 0<=aj;decide),fun a ha=>?_⟩;have hlen:(dY (Sum.inr:Str->eS) ps).length<aj:=ax (by
   unfold dY;rw[ai,<-ai (f:=(·.1)) (as:=ps),hps,aM];omega)
  have haH:H a=none:=D.same.free ha;have nda:a≠d:=(ae hd' ha).symm;have hneA:∀x∈ps,x.2≠a:=fun x hx=>ae (hls x hx) ha;refine⟨_,rfl,_,rfl,d,_,rfl,.inl ⟨_,.inr w,kp hd' ha,rfl,hlen,rfl⟩,_,_,rfl,ps++[(w,a)],?_,?_,?_,?_⟩
  ·rw[ay,hps,take_snoc hw];rfl
  ·rw[aa,fU _ (mx iz hnew),vU]
  ·refine D.snoc hnew hneA haH nda ?_;intro b o q;rw[ag (ae q hd)];exact kp (D.same _ _ q) ha
  ·intro x hx;rcases aX.mp hx with hx|hx
   ·rw[ag (D.ned x hx)];exact kp (hls x hx) ha
   ·have:x=(w,a):=by simpa using hx
    rw[this,ag nda];exact aa
 ·rintro σ H1 ⟨x3,x4,rfl,ps,hps,hd1,D1,hls⟩;rw[ai,bt]at hps;refine⟨_,rfl,l4,rfl,⟨_,aA.of (D1.same _ _ h4)⟩,?_⟩;refine cg (xs:=ts.map V.ref) (fun i σ H'=>∃x4,σ=[some (.ref l3),some (.ref l4),some (.ref d),x3,x4]/\H' d=some (.dK (dY Sum.inr ps))/\DL H H' d ps/\∀x∈ps,∃us,H' x.2=some (.lst (us.map V.ref))/\cj H' us (br (ds.take i) x.1))
   ⟨_,rfl,hd1,D1,fun x hx=>⟨[],hls x hx,.nil⟩⟩ (fun i σ H' _ ⟨_,_,_,D,_⟩=>aA.of (D.same _ _ h4)) ?_ ?_
  ·rintro i x σ H' hi ⟨x4,rfl,hd',D,hls⟩;obtain⟨t,ht,rfl⟩:=dW hi;obtain⟨dr,hdr,hat⟩:=Paired.getL hds ht;have hat':=hat.kt (ac.kt D.same);have hat2:=hat';obtain⟨s,ht2,hs2⟩:=hat';have hmem:dr.a∈ps.map (·.1):=by rw[hps];exact hin dr (aR hdr)
   obtain⟨⟨r,a⟩,hra,er⟩:=ap.mp hmem;obtain rfl:r=dr.a:=er;obtain⟨us,hus,hdo⟩:=hls _ hra;have hil:i<ds.length:=(bO.mp hdr).1;have hlu:us.length<=9000:=by
    rw[Paired.length hdo];refine bL (h7 _ _) ?_;rw[aM];omega
   have KT:ii H' (upd H' a (.lst (us.map V.ref++[.ref t]))):=cJ hus;refine⟨_,rfl,_,rfl,.inr (.inl ⟨t,_,0,_,rfl,rfl,bD.of ht2,rfl,d,.ref a,rfl,.inl ⟨_,.inr dr.a,.inl hd',rfl,(eC iz D.nd hra).symm⟩,.inl ⟨rfl,_,aA.of hus⟩,_,rfl,a,_,_,rfl,rfl,hus,?_,_,rfl,?_,?_,?_⟩)⟩
   ·rw[ai];exact gQ hlu
   ·rw[ag (D.ned _ hra).symm];exact hd'
   ·refine⟨D.nd,D.na,D.fr,D.frd,D.ned,fun b o q=>?_⟩;rw[ag (ae q (D.fr _ hra))];exact D.same _ _ q
   ·intro x hx;have hfl:∀r',br (ds.take (i+1)) r'=br (ds.take i) r'++(if dr.a=r' then[dr]else[]):=by
     intro r';unfold br;rw[take_snoc hdr,sv];congr 1;by_cases c:dr.a=r'
     ·rw[if_pos c];simp[c]
     ·rw[if_neg c];simp[c]
    by_cases c:x.2=a
    ·have ex:=FE D.na hx hra c;subst ex;refine⟨us++[t],?_,?_⟩
     ·show upd H' a _ a=_;rw[aa,ay];rfl
     ·rw[hfl];show cj _ _ (br (ds.take i) dr.a++(if dr.a=dr.a then[dr]else[]))
      rw[if_pos rfl];exact Paired.app (hdo.kt KT) (.cons (hat2.kt KT) .nil)
    ·obtain⟨us',h1,h2⟩:=hls x hx;have hne:¬(dr.a=x.1):=fun z=>by
      have e1:=eC (e:=(Sum.inr:Str->eS)) iz D.nd hra;have e2:=eC (e:=(Sum.inr:Str->eS)) (i:=x.1) (a:=x.2) iz D.nd hx;rw[<-z,e1]at e2;injection e2 with e2;injection e2 with e2;exact c e2.symm
     refine⟨us',by rw[ag c];exact h1,?_⟩;rw[hfl,if_neg hne,gJ];exact h2.kt KT
  ·rintro σ H' ⟨x4,rfl,hd',D,hls⟩;rw[ai,Paired.length hds,bt]at hls;exact⟨_,rfl,k d ps H' hps hd' hls D.same⟩
def m8(d:ao):Bool:=match d.sg with
 |s::_=>decide (s=("ask":Str))
 |[]=>false
inductive sp_has_asks_alone (vs:List V)(H:Hp)(Q:VK)(E:XK):Prop
 |mk (a:Addr) (us:Ze) (ds:List ao):(vs=[.ref a])->(H a=some (.lst (us.map V.ref)))->(cj H us ds)->(ds.length<=9000)->((∀d∈ds,d.sg≠[]))->(∀H',ac H H'->Q (.bl (ds.all m8)) H')->sp_has_asks_alone  vs H Q E
theorem oW{K:Za}(h:sp_has_asks_alone vs H Q E):p4 K (bH Q) (start qF vs) H:=by
 obtain⟨a,us,ds,rfl,ha,hds,hz,hne,k⟩:=h;refine⟨_,rfl,a,rfl,⟨_,aA.of ha⟩,fun l hl=>?_⟩;refine cX (xs:=us.map V.ref) (fun i vs H'=>vs=(ds.take i).map (fun d=>V.bl (m8 d))/\ac H H'/\H' l=some (.lst vs))
  ⟨rfl,ac.new hl,aa⟩ (fun i vs H' _ ⟨_,hS,h'⟩=>⟨h',aA.of (hS _ _ ha)⟩) ?_ ?_
 ·rintro vs H' ⟨rfl,hS,h'⟩;rw[ai,Paired.length hds,bt]at h';refine⟨l,ds.map m8,rfl,aA.of (by rw[h',sA];rfl),?_⟩;rw[List.all_map];exact k H' hS
 ·rintro i vs H' x hx hi ⟨rfl,hS,h'⟩;obtain⟨t,ht,rfl⟩:=dW hx;obtain⟨dr,hdr,hat⟩:=Paired.getL hds ht;obtain⟨s,ht2,hs2⟩:=hat.kt (ac.kt hS);have hmem:=aR hdr;obtain⟨s0,rest,hsg⟩:∃s0 rest,dr.sg=s0::rest:=by
   cases q:dr.sg with
   |nil=>exact absurd q (hne dr hmem)
   |cons x y=>exact⟨x,y,rfl⟩
  unfold SignAt at hs2;rw[hsg]at hs2;refine gN (rC ?_);refine⟨_,rfl,.inr (.inl ⟨t,_,1,_,rfl,rfl,bD.of ht2,rfl,.inr (.inl ⟨s,_,0,.str s0,rfl,rfl,bD.of hs2,aJ (j:=0) rfl,rfl,h',?_,uB hi ⟨?_,?_,aa⟩⟩)⟩)⟩
  ·rw[ai,aM];exact gQ (by omega)
  ·rw[take_snoc hdr,ay];congr 1;show[V.bl _]=[V.bl _];congr 2;unfold m8;rw[hsg];show decide (V.str s0=V.str _)=decide (s0=_);by_cases c:s0=("ask":Str)
   ·rw[zzr1 c,zzr1 (by rw[c])]
   ·rw[zzr0 c,zzr0 (fun z=>c (by injection z))]
  ·intro b o e;rw[ag (ae e hl)];exact hS _ _ e
def uA(x:Str×List Str):TK:=.t [oS x.1,jW x.2]
theorem iw:∀x y:Str×List Str,uA x=uA y->x=y:=by
 intro x y h;unfold uA at h;injection h with h;injection h with h1 h;injection h with h2 h;cases x;cases y;simp only at *;rw[rY h1,my h2]
theorem mi(x:Str×List Str):(uA x).depth<=8:=by
 show max (TK.depth (oS x.1)) (max (TK.depth (jW x.2)) 0)+1<=8;rw[vq];show max 0 (max 1 0)+1<=8
 decide
def bg(ds:List ao)(x:Str×List Str):List Str:=(ds.filter fun d=>decide (d.a=x.1/\d.sg=x.2)).map (·.b)
theorem xW(ds:List ao)(d:ao)(x:Str×List Str):bg (ds++[d]) x=bg ds x++(if(d.a,d.sg)=x then[d.b]else[]):=by
 unfold bg;rw[sv,ay];congr 1;by_cases c:(d.a,d.sg)=x
 ·subst c;simp
 ·rw[if_neg c];have:¬(d.a=x.1/\d.sg=x.2):=fun z=>c (by cases x;simp only at z;rw[z.1,z.2]);simp[List.filter_cons];intro h1 h2;exact this ⟨h1,h2⟩
theorem lQ{ds:List ao}{x:Str×List Str}(h:∀d∈ds,(d.a,d.sg)≠x):bg ds x=[]:=by
 unfold bg;rw[List.map_eq_nil_iff,List.filter_eq_nil_iff];intro d hd;have:¬(d.a=x.1/\d.sg=x.2):=fun z=>h d hd (by cases x;simp only at z;rw[z.1,z.2]);simp;intro h1 h2;exact this ⟨h1,h2⟩
theorem eM{b:Str}:b∈bg ds x↔(⟨x.1,x.2,b⟩:ao)∈ds:=by
 unfold bg;rw[ap];constructor
 ·rintro⟨d,hd,rfl⟩;rw[be]at hd;obtain⟨h1,h2⟩:=hd;obtain⟨h3,h4⟩:=of_decide_eq_true h2;cases d;simp only at h3 h4;rw[<-h3,<-h4];exact h1
 ·intro h;exact⟨_,be.mpr ⟨h,zzr1 ⟨rfl,rfl⟩⟩,rfl⟩
structure ji(H:Hp)(g:Addr)(ps:List ((Str×List Str)×Addr))(ds:List ao):Prop where
 nd:(ps.map (·.1)).Nodup
 g:H g=some (.dT (dY uA ps))
 ls:∀x∈ps,H x.2=some (.lst ((bg ds x.1).map V.str))
 all:∀d∈ds,(d.a,d.sg)∈ps.map (·.1)
theorem ji.same{H H':Hp}{g:Addr}{ps:List ((Str×List Str)×Addr)}{ds:List ao}(h:ji H g ps ds)(s:ac H H'):ji H' g ps ds:=⟨h.nd,s _ _ h.g,fun x hx=>s _ _ (h.ls x hx),h.all⟩
inductive oO (vs:List V)(H:Hp)(Q:VK)(E:XK):Prop
 |mk (l4:Addr) (ts:Ze) (ds:List ao):(vs=[.ref l4])->(H l4=some (.lst (ts.map V.ref)))->(cj H ts ds)->(ds.length<=9000)->(∀(g:Addr) (ps:List ((Str×List Str)×Addr)) (H':Hp),ji H' g ps ds->ac H H'->Q (.ref g) H')->oO  vs H Q E
theorem iT{K:Za}(h:oO vs H Q E):i4 K (bH Q) (start i7 vs) H:=by
 obtain⟨l4,ts,ds,rfl,h4,hds,hz,k⟩:=h;refine fun g hg=>?_;refine⟨_,rfl,l4,rfl,⟨_,aA.of (kp h4 hg)⟩,?_⟩;refine cg (xs:=ts.map V.ref) (fun i σ H'=>∃x y z,σ=[some (.ref l4),some (.ref g),x,y,z]/\∃ps:List ((Str×List Str)×Addr),DL H H' g ps/\H' g=some (.dT (dY uA ps))/\ps.length<=i/\(∀x∈ps,H' x.2=some (.lst ((bg (ds.take i) x.1).map V.str)))/\∀d∈ds.take i,(d.a,d.sg)∈ps.map (·.1))
  ⟨_,_,_,rfl,[],⟨by simp,by simp,by simp,hg,by simp,ac.new hg⟩,aa,by simp,by simp,by simp⟩ (fun i σ H' _ ⟨_,_,_,_,_,D,_⟩=>aA.of (D.same _ _ h4)) ?_ ?_
 ·rintro i x σ H' hi ⟨x2,x3,x4,rfl,ps,D,hg',hlen,hls,hall⟩;obtain⟨t,ht,rfl⟩:=dW hi;obtain⟨dr,hdr,hat⟩:=Paired.getL hds ht;have hil:i<ds.length:=(bO.mp hdr).1;obtain⟨s,ht2,hs2⟩:=hat.kt (ac.kt D.same);refine⟨t,_,rfl,bD.of ht2,rfl,_,_,rfl,_,_,rfl,_,_,rfl,rfl,?_⟩;refine⟨_,rfl,.inr (.inr (.inl ⟨rfl,.inr ⟨_,hg'⟩⟩)),_,rfl,_,rfl,(by show 2<=aj;decide),fun kt hkt=>⟨(by show 0<=aj;decide),fun nl hnl=>?_⟩⟩;have S2:ac H' (upd (upd H' kt (.tup [.str dr.a,.ref s])) nl (.lst [])):=(ac.new hkt).trans (ac.new hnl);have hkt2:upd (upd H' kt (.tup [.str dr.a,.ref s])) nl (.lst []) kt=some (.tup [.str dr.a,.ref s]):=kp aa hnl;have hnl2:upd (upd H' kt (.tup [.str dr.a,.ref s])) nl (.lst []) nl=some (.lst []):=aa;have hnlH':H' nl=none:=(ac.new hkt).free hnl;generalize upd (upd H' kt (.tup [.str dr.a,.ref s])) nl (.lst [])=H2 at S2 hkt2 hnl2 ⊢;have htk:da H2 (uA (dr.a,dr.sg)) (.ref kt):=by
   unfold uA da;refine⟨kt,_,rfl,hkt2,?_⟩;unfold TKAts;refine⟨_,_,rfl,wY _,?_⟩;unfold TKAts;refine⟨_,_,rfl,SignAt.tk (S2 _ _ hs2),?_⟩;unfold TKAts
   rfl
  have hlk:(dY uA ps).length<aj:=gQ (by unfold dY;rw[ai];omega);have hgo:∀x,bg (ds.take (i+1)) x=bg (ds.take i) x++(if(dr.a,dr.sg)=x then[dr.b]else[]):=fun x=>by rw[take_snoc hdr,xW]
  have hgl:∀x,(bg (ds.take i) x).length<=9000:=fun x=>by
   unfold bg;rw[ai];refine bL (h7 _ _) ?_;rw[aM];omega
  refine⟨g,kt,_,uA (dr.a,dr.sg),.ref nl,rfl,rfl,S2 _ _ hg',htk,mi _,hlk,fun v hv=>?_,fun hv=>?_⟩
  ·-- there already
   have hmem:(dr.a,dr.sg)∈ps.map (·.1):=by
    refine sI fun z=>?_;rw[mx iw z]at hv;cases hv
   obtain⟨⟨r,a⟩,hra,er⟩:=ap.mp hmem;obtain rfl:r=(dr.a,dr.sg):=er;rw[eC iw D.nd hra]at hv;injection hv with hv;subst hv;have hla:=S2 _ _ (hls _ hra);refine⟨.inl ⟨rfl,_,aA.of hla⟩,_,rfl,a,_,_,rfl,rfl,hla,by rw[ai];exact gQ (hgl _),_,_,_,rfl,ps,⟨D.nd,D.na,D.fr,D.frd,D.ned,fun b o q=>?_⟩,?_,by omega,?_,?_⟩
   ·rw[ag (ae q (D.fr _ hra))];exact S2 _ _ (D.same _ _ q)
   ·rw[ag (D.ned _ hra).symm];exact S2 _ _ hg'
   ·intro x hx;by_cases c:x.2=a
    ·have ex:=FE D.na hx hra c;subst ex;show upd H2 a _ a=_;rw[aa,hgo,if_pos rfl,ay];rfl
    ·have hne:¬((dr.a,dr.sg)=x.1):=fun z=>by
      have e1:=eC (e:=uA) iw D.nd hra;have e2:=eC (e:=uA) (i:=x.1) (a:=x.2) iw D.nd hx;rw[<-z,e1]at e2;injection e2 with e2;injection e2 with e2;exact c e2.symm
     rw[ag c,hgo,if_neg hne,gJ];exact S2 _ _ (hls x hx)
   ·intro d hd;rw[take_snoc hdr]at hd;rcases aX.mp hd with hd|hd
    ·exact hall d hd
    ·have:d=dr:=by simpa using hd
     rw[this];exact hmem
  ·-- a new list
   have hnew:(dr.a,dr.sg)∉ps.map (·.1):=by
    intro z;obtain⟨⟨r,a⟩,hra,er⟩:=ap.mp z;obtain rfl:r=(dr.a,dr.sg):=er;rw[eC iw D.nd hra]at hv;cases hv
   have hgne:nl≠g:=(ae hg' hnlH').symm;have hnl3:upd H2 g (.dT (dY uA ps++[(uA (dr.a,dr.sg),.ref nl)])) nl=some (.lst []):=by rw[ag hgne];exact hnl2
   refine⟨.inl ⟨rfl,_,aA.of hnl3⟩,_,rfl,nl,_,_,rfl,rfl,hnl3,(by show 0<aj;decide),_,_,_,rfl,ps++[((dr.a,dr.sg),nl)],?_,?_,?_,?_,?_⟩
   ·refine D.snoc hnew (fun x hx=>ae (hls x hx) hnlH') (D.same.free hnlH') hgne ?_;intro b o q;rw[ag (ae q (D.same.free hnlH')),ag (ae q hg)];exact S2 _ _ (D.same _ _ q)
   ·rw[ag hgne.symm,aa,vU]
   ·rw[az];show _+1<=_;omega
   ·intro x hx;rcases aX.mp hx with hx|hx
    ·have hne:¬((dr.a,dr.sg)=x.1):=fun z=>hnew (by rw[z];exact ap.mpr ⟨x,hx,rfl⟩);rw[ag (ae (hls x hx) hnlH'),ag (D.ned x hx),hgo,if_neg hne,gJ];exact S2 _ _ (hls x hx)
    ·have:x=((dr.a,dr.sg),nl):=by simpa using hx
     subst this;have hnil:bg (ds.take i) (dr.a,dr.sg)=[]:=lQ fun d hd z=>hnew (by rw[<-z];exact hall d hd);show upd _ nl _ nl=_;rw[aa,hgo,if_pos rfl,hnil]
     rfl
   ·intro d hd;rw[ay];rw[take_snoc hdr]at hd;rcases aX.mp hd with hd|hd
    ·exact cB _ (hall d hd)
    ·have:d=dr:=by simpa using hd
     rw[this];exact cS _ (by simp)
 ·rintro σ H' ⟨x2,x3,x4,rfl,ps,D,hg',hlen,hls,hall⟩;rw[ai,Paired.length hds,bt]at hls hall;exact⟨_,rfl,k g ps H' ⟨D.nd,hg',hls,hall⟩ D.same⟩
theorem lO:∀{L R:Zb},L.Nodup->(∀y∈L,y∈R)->L.length<=R.length
 |[],_,_,_=>df _
 |x::L,R,nd,h=>by
  rw[kJ]at nd;have hx:=h x cb;have:=lO (L:=L) (R:=R.erase x) nd.2 fun y hy=>(List.mem_erase_of_ne (fun e:y=x=>nd.1 (by rw[<-e];exact hy))).mpr (h y (cT _ hy));rw[List.length_erase_of_mem hx]at this;have:0<R.length:=List.length_pos_of_mem hx;rw[cZ];omega
theorem Reach.in_{ds:List ao}{J2:Zb}(hr:∀d∈ds,d.b∈J2)(h:Reach ds a b):b∈J2:=by
 cases h with
 |one h=>exact hr _ h
 |step r h=>exact hr _ h
inductive xu (vs:List V)(H:Hp)(Q:VK)(E:XK):Prop
 |mk (g:Addr) (room:Str) (ps:List ((Str×List Str)×Addr)) (ds:List ao) (J2:Zb):(vs=[.ref g,.str room])->(ji H g ps ds)->((∀d∈ds,d.b∈J2))->(J2.length<=1000)->(∀(d:Addr) (L:Zb) (H':Hp),H' d=some (.dK (aW L))->L.Nodup->(∀w,w∈L↔Reach ds room w)->H d=none->ac H H'->Q (.ref d) H')->xu  vs H Q E
structure I_(H0 H:Hp)(ds:List ao)(room:Str)(d w:Addr)(L W:Zb)(open_:Str->Prop):Prop where
 d:H d=some (.dK (aW L))
 w:H w=some (.lst (W.map V.str))
 same:ac H0 H
 nd:L.Nodup
 sound:∀y∈L,Reach ds room y
 wait:∀y∈W,y=room∨y∈L
 closed:∀y,(y=room∨y∈L)->y∉W->¬open_ y->∀c∈bg ds (y,am),c∈L
theorem rK{K:Za}{st:Addr}(hst:∀H,bD K H st (am.map V.str))(h:xu vs H Q E):sU K st (bH Q) (start uq vs) H:=by
 obtain⟨g,room,ps,ds,J2,rfl,G,hin,hz,k⟩:=h;refine fun d hd=>?_;refine⟨_,rfl,(by show 1<=aj;decide),fun w hw=>?_⟩;have hwH:H w=none:=(ac.new hd).free hw;have hdw:d≠w:=ae aa hw;refine⟨fun m σ H'=>∃(L W:Zb) (x y:Option V),σ=[some (.ref g),some (.str room),some (.ref d),some (.ref w),x,y]/\I_ H H' ds room d w L W (fun _=>False)/\m=2 * (J2.length-L.length)+W.length/\m<=2 * J2.length+1,
  ⟨_,[],[room],_,_,rfl,⟨kp aa hw,aa,(ac.new hd).trans (ac.new hw),pV,by simp,by simp,?_⟩,rfl,aG _⟩,?_⟩
 ·intro y hy hn;rcases hy with rfl|hy
  ·simp at hn
  ·cases hy
 rintro m σ H1 ⟨L,W,x4,x5,rfl,D,rfl,hbound⟩;have lenL:∀{L':Zb},L'.Nodup->(∀y∈L',Reach ds room y)->L'.length<=J2.length:=fun nd sd=>lO nd fun y hy=>(sd y hy).in_ hin;refine⟨_,rfl,.inl ⟨w,_,rfl,.inl (aA.of D.w),_,_,rfl,rfl,_,rfl,?_⟩⟩;refine i6 (fun hpos=>?_) (fun hpos=>?_)
 ·have hne:W≠[]:=by
   intro z;rw[z]at hpos;exact absurd (of_decide_eq_true hpos) (by decide)
  obtain⟨W',here,rfl⟩:∃W' here,W=W'++[here]:=⟨W.dropLast,W.getLast hne,(List.dropLast_concat_getLast hne).symm⟩;have hhere:here=room∨here∈L:=D.wait here (by simp);refine⟨fun σ' H'=>∃(L' W2:Zb) (x y:Option V),σ'=[some (.ref g),some (.str room),some (.ref d),some (.ref w),x,y]/\I_ H H' ds room d w L' W2 (fun _=>False)/\2 * (J2.length-L'.length)+W2.length<2 * (J2.length-L.length)+(W'++[here]).length,
   fun σ' H' ⟨L',W2,x,y,e,D',hm⟩=>⟨_,hm,L',W2,x,y,e,D',rfl,by omega⟩,?_⟩
  have hlast:((W'++[here]).map V.str)[((W'++[here]).map V.str).length-1]?=some (.str here):=by simp
  have hdrop:((W'++[here]).map V.str).dropLast=W'.map V.str:=by rw[ay];simp
  refine⟨_,rfl,.inl ⟨rfl,_,aA.of D.w⟩,w,_,_,rfl,rfl,D.w,hlast,?_⟩;rw[hdrop];have hd1:upd H1 w (.lst (W'.map V.str)) d=some (.dK (aW L)):=by rw[ag hdw];exact D.d
  have hw1:upd H1 w (.lst (W'.map V.str)) w=some (.lst (W'.map V.str)):=aa;have S1:ac H (upd H1 w (.lst (W'.map V.str))):=fun b o q=>by rw[ag (ae q hwH)];exact D.same _ _ q
  generalize upd H1 w (.lst (W'.map V.str))=H2 at hd1 hw1 S1 ⊢;have G2:=G.same S1;refine⟨_,rfl,g,rfl,.inr ⟨_,.inl G2.g⟩,_,rfl,(by show 2<=aj;decide),fun kt hkt=>⟨(by show 0<=aj;decide),fun et het=>⟨bP (dY uA ps) (uA (here,am)),.inr ⟨_,uA (here,am),kt,.inl ?_,rfl,?_,mi _,rfl⟩,?_⟩⟩⟩
  ·exact kp (kp G2.g hkt) het
  ·unfold uA lW;refine⟨kt,_,rfl,bD.of (kp aa het),?_⟩;unfold TKIns;refine⟨_,_,rfl,?_,?_⟩
   ·unfold oS lW;rfl
   unfold TKIns;refine⟨_,_,rfl,?_,?_⟩
   ·unfold jW lW;refine⟨st,_,rfl,hst _,?_⟩;unfold am;show TKIns K _ [oS _] [V.str _];unfold TKIns;refine⟨_,_,rfl,?_,?_⟩
    ·unfold oS lW;rfl
    unfold TKIns;rfl
   unfold TKIns;rfl
  have S3:ac H2 (upd (upd H2 kt (.tup [.str here,.ref st])) et (.tup [])):=(ac.new hkt).trans (ac.new het);have het3:upd (upd H2 kt (.tup [.str here,.ref st])) et (.tup []) et=some (.tup []):=aa;generalize upd (upd H2 kt (.tup [.str here,.ref st])) et (.tup [])=H3 at S3 het3 ⊢;have D3:I_ H H3 ds room d w L W' (fun y=>y=here):=⟨S3 _ _ hd1,S3 _ _ hw1,S1.trans S3,D.nd,D.sound,fun y hy=>D.wait y (cB _ hy),fun y hy hn ho=>D.closed y hy (fun z=>by rcases aX.mp z with z|z;exact hn z;exact ho (by simpa using z)) (fun z=>z)⟩;have hm3:2 * (J2.length-L.length)+W'.length<2 * (J2.length-L.length)+(W'++[here]).length:=by rw[az];show _<_+(_+1);omega
  have fin:∀(H4:Hp) (L' W2:Zb) (x y:Option V),I_ H H4 ds room d w L' W2 (fun y=>y=here)->(∀c∈bg ds (here,am),c∈L')->2 * (J2.length-L'.length)+W2.length<2 * (J2.length-L.length)+(W'++[here]).length ->
    ∃(L' W2:Zb) (x' y':Option V),[some (V.ref g),some (.str room),some (.ref d),some (.ref w),x,y]=[some (.ref g),some (.str room),some (.ref d),some (.ref w),x',y']/\I_ H H4 ds room d w L' W2 (fun _=>False)/\2 * (J2.length-L'.length)+W2.length<2 * (J2.length-L.length)+(W'++[here]).length:=by
   intro H4 L' W2 x y D4 hc hm;refine⟨L',W2,x,y,rfl,⟨D4.d,D4.w,D4.same,D4.nd,D4.sound,D4.wait,fun y hy hn _=>?_⟩,hm⟩;by_cases e:y=here
   ·rw[e];exact hc
   ·exact D4.closed y hy hn e
  by_cases hmem:(here,am)∈ps.map (·.1)
  ·obtain⟨⟨r,a⟩,hra,er⟩:=ap.mp hmem;obtain rfl:r=(here,am):=er;rw[eC iw G.nd hra];have hla:=G.ls _ hra;refine⟨a,rfl,.inl ⟨⟨_,aA.of ((S1.trans S3) _ _ hla)⟩,?_⟩⟩;refine cg (xs:=(bg ds (here,am)).map V.str) (fun j σ H'=>∃(L' W2:Zb) (y:Option V),σ=[some (.ref g),some (.str room),some (.ref d),some (.ref w),some (.str here),y]/\I_ H H' ds room d w L' W2 (fun y=>y=here)/\(here=room∨here∈L')/\(∀c∈(bg ds (here,am)).take j,c∈L') /\
     2 * (J2.length-L'.length)+W2.length<2 * (J2.length-L.length)+(W'++[here]).length)
    ⟨L,W',_,rfl,D3,hhere,by simp,hm3⟩ (fun j σ H' _ ⟨_,_,_,_,D',_⟩=>aA.of (D'.same _ _ hla)) ?_ ?_
   ·rintro j x σ H4 hj ⟨L',W2,y,rfl,D4,hh,hc,hm⟩;obtain⟨goal,hgoal,rfl⟩:=bE hj;have hedge:(⟨here,am,goal⟩:ao)∈ds:=eM.mp (aR hgoal);have hreach:Reach ds room goal:=by
     rcases hh with hh|hh
     ·rw[hh]at hedge;exact .one hedge
     ·exact .step (D4.sound _ hh) hedge
    have hlen':=lenL D4.nd D4.sound;refine⟨_,rfl,_,rfl,d,_,rfl,.inl ⟨_,.inr goal,.inl D4.d,rfl,rfl⟩,_,rfl,?_⟩;rw[eU];by_cases c:goal∈L'
    ·rw[zzr1 c];refine bR ⟨L',W2,_,rfl,D4,hh,?_,hm⟩;intro c' hc';rw[take_snoc hgoal]at hc';rcases aX.mp hc' with h|h
     ·exact hc c' h
     ·have:c'=goal:=by simpa using h
      rw[this];exact c
    ·rw[zzr0 c];refine dk ?_;have nd':(L'++[goal]).Nodup:=by
      rw[cA];refine⟨D4.nd,by simp,fun a ha b hb e=>?_⟩;have:b=goal:=by simpa using hb
      exact c (by rw[<-this,<-e];exact ha)
     have sd':∀y∈L'++[goal],Reach ds room y:=by
      intro y hy;rcases aX.mp hy with hy|hy
      ·exact D4.sound y hy
      ·have:y=goal:=by simpa using hy
       rw[this];exact hreach
     have hlen2:=lenL nd' sd';rw[az]at hlen2;have hlen3:L'.length+1<=J2.length:=hlen2;have hWl:W2.length<=9000:=by omega
     refine⟨_,rfl,_,rfl,d,_,rfl,.inl ⟨_,.inr goal,D4.d,rfl,ax (bL (km _) (by omega)),rfl⟩,?_⟩;have hw5:upd H4 d (.dK (cR (aW L') (.inr goal) (.bl true))) w=some (.lst (W2.map V.str)):=by rw[ag hdw.symm];exact D4.w
     refine⟨_,rfl,.inl ⟨rfl,_,aA.of hw5⟩,_,rfl,w,_,_,rfl,rfl,hw5,by rw[ai];exact gQ hWl,L'++[goal],W2++[goal],_,rfl,⟨?_,?_,?_,nd',sd',?_,?_⟩,?_,?_,?_⟩
     ·rw[ag hdw,aa,dF]
     ·rw[aa,ay];rfl
     ·intro b o q;rw[ag (ae q hwH),ag (ae q hd)];exact D4.same _ _ q
     ·intro y hy;rcases aX.mp hy with hy|hy
      ·rcases D4.wait y hy with h|h
       ·exact .inl h
       ·exact .inr (cB _ h)
      ·exact .inr (cS _ hy)
     ·intro y hy hn ho c' hc';have hn1:y∉W2:=fun z=>hn (cB _ z);have hyg:y≠goal:=fun z=>hn (cS _ (by simp[z]));refine cB _ (D4.closed y ?_ hn1 ho c' hc');rcases hy with hy|hy
      ·exact .inl hy
      ·rcases aX.mp hy with hy|hy
       ·exact .inr hy
       ·exact absurd (by simpa using hy) hyg
     ·rcases hh with h|h
      ·exact .inl h
      ·exact .inr (cB _ h)
     ·intro c' hc';rw[take_snoc hgoal]at hc';rcases aX.mp hc' with h|h
      ·exact cB _ (hc c' h)
      ·exact cS _ h
     ·rw[az,az];show 2 * (J2.length-(L'.length+1))+(W2.length+1)<_;omega
   ·rintro σ H4 ⟨L',W2,y,rfl,D4,hh,hc,hm⟩;rw[ai,bt]at hc;exact fin H4 L' W2 _ _ D4 hc hm
  ·rw[mx iw hmem];refine⟨et,rfl,.inr ⟨⟨_,bD.of het3⟩,?_⟩⟩;have hnil:bg ds (here,am)=[]:=lQ fun x hx z=>hmem (by rw[<-z];exact G.all x hx);refine CY (xs:=[]) (fun j σ H'=>σ=[some (.ref g),some (.str room),some (.ref d),some (.ref w),some (.str here),x5]/\H'=H3) ⟨rfl,rfl⟩ (fun j σ H' _ ⟨_,e⟩=>by rw[e];exact bD.of het3) (fun j x σ H' hj=>by cases hj) ?_;rintro σ H' ⟨rfl,rfl⟩;exact fin _ L W' _ _ D3 (by rw[hnil];simp) hm3
 ·have hnil:W=[]:=by
   cases W with
   |nil=>rfl
   |cons a W=>exact absurd (zzr1 (by rw[ai,cZ];omega)) hpos
  subst hnil;refine⟨_,rfl,k d L H1 D.d D.nd (fun w=>⟨D.sound w,fun hr=>?_⟩) hd D.same⟩
  induction hr with
  |one h=>exact D.closed room (.inl rfl) (by simp) (fun z=>z) _ (eM.mpr h)
  |step r h ih=>exact D.closed _ (.inr ih) (by simp) (fun z=>z) _ (eM.mpr h)
inductive sp_first_led_round (vs:List V)(H:Hp)(Q:VK)(E:XK):Prop
 |mk (l3 d:Addr) (J2:Zb) (ps:List (Str×Addr)):(vs=[.ref l3,.ref d])->(H l3=some (.lst (J2.map V.str)))->(H d=some (.dK (dY Sum.inr ps)))->(ps.map (·.1)=J2)->(J2.Nodup)->((∀x∈ps,∃L,H x.2=some (.dK (aW L))/\x.1∉L))->(∀H',ac H H'->Q .non H')->sp_first_led_round  vs H Q E
theorem nO{K:Za}(h:sp_first_led_round vs H Q E):oC K (bH Q) (start pD vs) H:=by
 obtain⟨l3,d,J2,ps,rfl,h3,hd,hps,nod,hL,k⟩:=h;refine⟨_,rfl,l3,rfl,⟨_,aA.of h3⟩,?_⟩;refine jX (xs:=J2.map V.str) (fun i σ H'=>∃x y,σ=[some (.ref l3),some (.ref d),x,y]/\ac H H') ⟨_,_,rfl,ac.refl H⟩ (fun i σ H' _ ⟨_,_,_,S⟩=>aA.of (S _ _ h3)) ?_ ?_
 ·rintro i x σ H' t hi ⟨x2,x3,rfl,S⟩ ht;obtain⟨w,hw,rfl⟩:=bE hi;refine⟨t,_,rfl,bD.of aa,rfl,_,_,rfl,_,_,rfl,rfl,?_⟩;have S2:ac H (upd H' t (.tup [.int i,.str w])):=S.trans (ac.new ht);generalize upd H' t (.tup [.int i,.str w])=H2 at S2 ⊢;have hmem:w∈ps.map (·.1):=by rw[hps];exact aR hw
  obtain⟨⟨r,a⟩,hra,er⟩:=ap.mp hmem;obtain rfl:r=w:=er;obtain⟨L,hLa,hn⟩:=hL _ hra;refine⟨_,rfl,_,rfl,_,rfl,d,.ref a,rfl,.inl ⟨_,.inr r,.inl (S2 _ _ hd),rfl,(eC iz (by rw[hps];exact nod) hra).symm⟩,a,_,rfl,.inl ⟨_,.inr r,.inl (S2 _ _ hLa),rfl,rfl⟩,_,rfl,?_⟩;rw[eU,zzr0 hn];exact bR ⟨_,_,rfl,S2⟩
 ·rintro σ H' ⟨x,y,rfl,S⟩;exact k H' S
abbrev lk(f:Str)(fs:List (Str×V)):Option V:=fs.lookup f
def ff(ds:List ao)(r:Str):Bool:=(br ds r).all m8
structure bd(C:Addr)(H:Hp)(x:Addr)(J0 J1 J2:Zb)(ds:List ao):Prop where
 at_:∃(dx:Addr) (fs:List (Str×V)) (o1 o2 o3 o4 lv qu sg sl:Addr) (ts:Ze) (lps:List (Str×Addr)) (gps:List ((Str×List Str)×Addr)) (sps:List (Str×Addr)),
  H x=some (.ins C dx fs)/\lk "is_quiet" fs=none/\lk "goals" fs=none/\lk "led_from" fs=none/\lk "rooms" fs=none /\
  lk "own_asks" fs=some (.ref o1)/\lk "own_says" fs=some (.ref o2)/\lk "own_rooms" fs=some (.ref o3)/\lk "own_doors" fs=some (.ref o4) /\
  lk "leaving" fs=some (.ref lv)/\lk "quiet" fs=some (.ref qu)/\lk "sign_goals" fs=some (.ref sg)/\lk "still_led" fs=some (.ref sl) /\
  Lists H o1 o2 o3 o4 ts J0 J1 J2 ds /\
  lps.map (·.1)=J2/\H lv=some (.dK (dY Sum.inr lps))/\(∀x∈lps,∃us,H x.2=some (.lst (us.map V.ref))/\cj H us (br ds x.1)) /\
  H qu=some (.dK (aW (J2.filter (ff ds))))/\ji H sg gps ds /\
  sps.map (·.1)=J2/\H sl=some (.dK (dY Sum.inr sps))/\(∀x∈sps,∃L,H x.2=some (.dK (aW L))/\L.Nodup/\∀w,w∈L↔Reach ds x.1 w)
 ok:aD J0 J1 J2 ds
 more:∃(dx:Addr) (fs:List (Str×V)),H x=some (.ins C dx fs)/\lk "asks" fs=none/\lk "says" fs=none/\lk "doors" fs=none/\lk "doors_from" fs=none
theorem dX(f:Str)(v:V):∀fs:List (Str×V),(cH f v fs).length<=fs.length+1
 |[]=>aG _
 | (g,x)::r=>by
  unfold cH;split
  ·exact mS _
  ·rw[cZ,cZ];have:=dX f v r;omega
theorem tU:∀(ps qs:List (Str×Addr)),((qs++ps).map (·.1)).Nodup->jr (dY Sum.inr qs) (dY Sum.inr ps)=dY Sum.inr (qs++ps)
 |[],qs,_=>by rw[gJ];rfl
 |p::ps,qs,nd=>by
  show jr (cR (dY Sum.inr qs) (Sum.inr p.1) (.ref p.2)) (dY Sum.inr ps)=_;have e:qs++p::ps=(qs++[p])++ps:=by simp
  rw[e]at nd ⊢;have hnew:p.1∉qs.map (·.1):=by
   rw[ay,ay,cA]at nd;have:=nd.1;rw[cA]at this;intro z;exact this.2.2 _ z _ (by simp) rfl
  rw[fU _ (mx iz hnew)];have:=tU ps (qs++[p]) nd;rw[<-this];have e2:dY (Sum.inr:Str->eS) (qs++[p])=dY Sum.inr qs++[(Sum.inr p.1,V.ref p.2)]:=by
   unfold dY;rw[ay];rfl
  rw[e2]
inductive rV(C:Addr)(vs:List V)(H:Hp)(Q:VK)(E:XK):Prop
 |mk (x dx l1 l2 l3 l4:Addr) (ts:Ze) (J0 J1 J2:Zb) (ds:List ao):(vs=[.ref x,.ref l1,.ref l2,.ref l3,.ref l4])->(H x=some (.ins C dx []))->(Lists H l1 l2 l3 l4 ts J0 J1 J2 ds)->(aD J0 J1 J2 ds)->(∀H',bd C H' x J0 J1 J2 ds->cQ x H H'->Q .non H')->rV C vs H Q E
theorem Lists.exI{H H':Hp}{x C dx:Addr}{fs:List (Str×V)}{l1 l2 l3 l4:Addr}{ts:Ze}{J0 J1 J2:Zb}{ds:List ao}(h:Lists H l1 l2 l3 l4 ts J0 J1 J2 ds)(hx:H x=some (.ins C dx fs))(e:cQ x H H'):Lists H' l1 l2 l3 l4 ts J0 J1 J2 ds:=by
 have ne:∀{b:Addr}{xs:List V},H b=some (.lst xs)->b≠x:=fun hb z=>by rw[z,hx]at hb;cases hb
 exact⟨e _ _ h.a1 (ne h.a1),e _ _ h.a2 (ne h.a2),e _ _ h.a3 (ne h.a3),e _ _ h.a4 (ne h.a4),h.ds.kt fun b xs hb=>e _ _ hb fun z=>by rw[z,hx]at hb;cases hb⟩
theorem cQ.ktI{C dx:Addr}{fs:List (Str×V)}(e:cQ x H H')(hx:H x=some (.ins C dx fs)):ii H H':=fun b xs hb=>e _ _ hb fun z=>by rw[z,hx]at hb;cases hb
theorem cQ.neI{H:Hp}{x C dx:Addr}{fs:List (Str×V)}(hx:H x=some (.ins C dx fs)){b:Addr}{xs:List V}(hb:H b=some (.lst xs)):b≠x:=fun z=>by rw[z,hx]at hb;cases hb
theorem FD{H:Hp}{x C dx:Addr}{fs:List (Str×V)}(hx:H x=some (.ins C dx fs)){b:Addr}{kvs:List (eS×V)}(hb:H b=some (.dK kvs)):b≠x:=fun z=>by rw[z,hx]at hb;cases hb
theorem Ie{H:Hp}{x C dx:Addr}{fs:List (Str×V)}(hx:H x=some (.ins C dx fs)){b:Addr}{kvs:List (TK×V)}(hb:H b=some (.dT kvs)):b≠x:=fun z=>by rw[z,hx]at hb;cases hb
structure MC(K:Za)(C:Addr):Prop where
 cls:Df K C
 a1:dP K C "own_asks"
 a2:dP K C "own_says"
 a3:dP K C "own_rooms"
 a4:dP K C "own_doors"
 a5:dP K C "leaving"
 a6:dP K C "quiet"
 a7:dP K C "sign_goals"
 a8:dP K C "still_led"
theorem qz{H:Hp}{x C dx:Addr}{fs:List (Str×V)}(f:Str)(y:V)(hx:H x=some (.ins C dx fs)):∃H',H'=upd H x (.ins C dx (cH f y fs))/\H' x=some (.ins C dx (cH f y fs))/\cQ x H H' :=
 ⟨_,rfl,aa,cQ.upd _ _ _⟩
theorem fI{p:Str->Bool}{ws:Zb}{i:Nat}{w:Str}(h:ws[i]?=some w):(ws.take (i+1)).filter p=(ws.take i).filter p++(if p w=true then[w]else[]):=by
 rw[take_snoc h,sv];congr 1;by_cases c:p w=true
 ·rw[if_pos c];simp[c]
 ·rw[if_neg c];simp[c]
theorem Bn(ds:List ao)(r:Str):(br ds r).length<=ds.length:=h7 _ _
theorem aD.sg0(m:aD J0 J1 J2 ds):∀d∈br ds r,d.sg≠[]:=by
 intro d hd;have:=m.good d (be.mp hd).1;rcases this.sg with⟨w,_,e⟩|⟨w,_,e⟩|e<;>rw[e]<;>exact List.cons_ne_nil _ _
theorem G6{K:Za}(M:MC K C)(h:rV C vs H Q E):
  nI K sp_need_none sp_first_led_round xu oO (sp_as_keys K) sp_has_asks_alone sp_doors_by_start sp_need_parts (bH Q) (start n_ vs) H:=by
 obtain⟨x,dx,l1,l2,l3,l4,ts,J0,J1,J2,ds,rfl,hx,L,m,k⟩:=h;have z3:=m.rooms26;have z4:=m.few;refine⟨_,rfl,_,rfl,_,rfl,_,rfl,l1,l2,l3,l4,ts,J0,J1,J2,ds,rfl,L,m,fun H1 S1=>?_⟩;have hx1:=S1 _ _ hx;have L1:=L.same S1;have E1:cQ x H H1:=ac.exB S1;refine⟨_,rfl,.inl ⟨l1,_,rfl,.inl (aA.of L1.a1),fun o1 ho1=>⟨_,rfl,x,C,dx,_,rfl,kp hx1 ho1,M.cls,M.a1,(by show 0<1000;decide),?_⟩⟩⟩;obtain⟨H2,e2,hx2,F2⟩:=qz "own_asks" (.ref o1) (kp (x:=.lst (J0.map V.str)) hx1 ho1);rw[<-e2];have n1:o1≠x:=(ae hx1 ho1).symm;have f1:=F2 _ _ aa n1;have E2:cQ x H1 H2:=(cQ.new ho1).trans F2;have L2':=L1.exI hx1 E2;have len2:(cH ("own_asks":Str) (.ref o1) []).length<=1:=dX _ _ _;clear e2 F2;refine⟨_,rfl,.inl ⟨l2,_,rfl,.inl (aA.of L2'.a2),fun o2 ho2=>⟨_,rfl,x,C,dx,_,rfl,kp hx2 ho2,M.cls,M.a2,by omega,?_⟩⟩⟩;obtain⟨H3,e3,hx3,F3⟩:=qz "own_says" (.ref o2) (kp (x:=.lst (J1.map V.str)) hx2 ho2);rw[<-e3];have n2:o2≠x:=(ae hx2 ho2).symm;have f2:=F3 _ _ aa n2;have E3:cQ x H2 H3:=(cQ.new ho2).trans F3;have L3:=L2'.exI hx2 E3;have len3:=dX ("own_says":Str) (.ref o2) (cH ("own_asks":Str) (.ref o1) []);clear e3 F3;refine⟨_,rfl,.inl ⟨l3,_,rfl,.inl (aA.of L3.a3),fun o3 ho3=>⟨_,rfl,x,C,dx,_,rfl,kp hx3 ho3,M.cls,M.a3,by omega,?_⟩⟩⟩;obtain⟨H4,e4,hx4,F4⟩:=qz "own_rooms" (.ref o3) (kp (x:=.lst (J2.map V.str)) hx3 ho3);rw[<-e4];have n3:o3≠x:=(ae hx3 ho3).symm;have f3:=F4 _ _ aa n3;have E4:cQ x H3 H4:=(cQ.new ho3).trans F4;have L4:=L3.exI hx3 E4;have len4:=dX ("own_rooms":Str) (.ref o3) (cH ("own_says":Str) (.ref o2) (cH ("own_asks":Str) (.ref o1) []));clear e4 F4;refine⟨_,rfl,.inl ⟨l4,_,rfl,.inl (aA.of L4.a4),fun o4 ho4=>⟨_,rfl,x,C,dx,_,rfl,kp hx4 ho4,M.cls,M.a4,by omega,?_⟩⟩⟩;obtain⟨H5,e5,hx5,F5⟩:=qz "own_doors" (.ref o4) (kp (x:=.lst (ts.map V.ref)) hx4 ho4);rw[<-e5];have n4:o4≠x:=(ae hx4 ho4).symm;have f4:=F5 _ _ aa n4;have E5:cQ x H4 H5:=(cQ.new ho4).trans F5;have L5:=L4.exI hx4 E5;generalize hfs4:cH ("own_doors":Str) (.ref o4) (cH ("own_rooms":Str) (.ref o3) (cH ("own_says":Str) (.ref o2) (cH ("own_asks":Str) (.ref o1) [])))=fs4 at hx5;have len5:fs4.length<=4:=by
  rw[<-hfs4];have:=dX ("own_doors":Str) (.ref o4) (cH ("own_rooms":Str) (.ref o3) (cH ("own_says":Str) (.ref o2) (cH ("own_asks":Str) (.ref o1) [])));omega
 clear e5 F5;refine⟨_,rfl,_,rfl,l3,l4,ts,J2,ds,rfl,L5.a3,L5.a4,L5.ds,m.okR.1,by omega,by omega,fun d hd=>(m.good d hd).a,fun lv lps H6' hlps flv' hlv' S6=>⟨_,rfl,x,C,dx,fs4,rfl,S6 _ _ hx5,M.cls,M.a5,by omega,?_⟩⟩;obtain⟨H6,e6,hx6,F6⟩:=qz "leaving" (.ref lv) (S6 _ _ hx5);rw[<-e6];have E6:cQ x H5 H6:=(ac.exB S6).trans F6;have L6:=L5.exI hx5 E6;have flv:=F6 _ _ flv' (FD (S6 _ _ hx5) flv');have hlv:∀y∈lps,∃us,H6 y.2=some (.lst (us.map V.ref))/\cj H6 us (br ds y.1):=fun y hy=>by
  obtain⟨us,g1,g2⟩:=hlv' y hy;exact⟨us,F6 _ _ g1 (cQ.neI (S6 _ _ hx5) g1),g2.kt (F6.ktI (S6 _ _ hx5))⟩
 have ndl:(lps.map (·.1)).Nodup:=by rw[hlps];exact m.okR.1
 have len6:=dX ("leaving":Str) (.ref lv) fs4;have lk5:lk "leaving" (cH ("leaving":Str) (.ref lv) fs4)=some (.ref lv):=by
  show kL _ _=_;rw[eN,if_pos rfl]
 clear e6 F6 flv' hlv';refine⟨_,rfl,l3,rfl,⟨_,aA.of L6.a3⟩,fun f hf=>?_⟩;refine cX (xs:=J2.map V.str) (fun i vs H'=>vs=((J2.take i).filter (ff ds)).map V.str/\ac H6 H'/\H' f=some (.lst vs)) ⟨rfl,ac.new hf,aa⟩ (fun i vs H' _ ⟨_,S,h'⟩=>⟨h',aA.of (S _ _ L6.a3)⟩) ?_ ?_;rotate_left
 ·rintro i vs H' x' hx' hi ⟨rfl,S,f'⟩;obtain⟨r,hr,rfl⟩:=bE hx';obtain⟨⟨r',a⟩,hra,er⟩:=ap.mp (show r∈lps.map (·.1) by rw[hlps];exact aR hr);obtain rfl:r'=r:=er;obtain⟨us,hus,hdo⟩:=hlv _ hra;refine gN ?_;refine⟨_,rfl,x,C,dx,_,.ref lv,rfl,S _ _ hx6,M.cls,M.a5,lk5,_,rfl,lv,.ref a,rfl,.inl ⟨_,.inr r',.inl (S _ _ flv),rfl,(eC iz ndl hra).symm⟩,a,us,br ds r',rfl,S _ _ hus,hdo.kt (ac.kt S),bL (Bn _ _) (by omega),m.sg0,fun H'' S''=>⟨_,rfl,?_⟩⟩;have hlen:(((J2.take i).filter (ff ds)).map V.str).length<aj:=by
   rw[ai];refine ax (bL (h7 _ _) ?_);rw[aM];omega
  refine i6 (fun hq=>?_) (fun hq=>?_)
  ·refine⟨_,rfl,S'' _ _ f',hlen,uB hi ⟨?_,?_,aa⟩⟩
   ·rw[fI hr,if_pos (show ff ds r'=true from hq),ay];rfl
   ·intro b o q;rw[ag (ae q hf)];exact S'' _ _ (S _ _ q)
  ·refine uB hi ⟨?_,S.trans S'',?_⟩
   ·rw[fI hr,if_neg (show ¬ff ds r'=true from hq),gJ]
   ·exact S'' _ _ f'
 rintro vs H7' ⟨rfl,S7,f7⟩;rw[ai,bt]at f7;refine qC (ws:=J2.filter (ff ds)) (aA.of f7) (bL (h7 _ _) (by omega)) fun qu hqu=>⟨_,rfl,x,C,dx,_,rfl,kp (S7 _ _ hx6) hqu,M.cls,M.a6,by omega,?_⟩;obtain⟨H7,e7,hx7,F7⟩:=qz "quiet" (.ref qu) (kp (x:=.dK (aW (J2.filter (ff ds)))) (S7 _ _ hx6) hqu);rw[<-e7];have n7:qu≠x:=(ae (S7 _ _ hx6) hqu).symm;have fqu:=F7 _ _ aa n7;have E7:cQ x H6 H7:=((ac.exB S7).trans (cQ.new hqu)).trans F7;have L7:=L6.exI hx6 E7;have len7:=dX ("quiet":Str) (.ref qu) (cH ("leaving":Str) (.ref lv) fs4);clear e7 F7;refine⟨_,rfl,l4,ts,ds,rfl,L7.a4,L7.ds,by omega,fun sg gps H8' G' S8=>⟨_,rfl,x,C,dx,_,rfl,S8 _ _ hx7,M.cls,M.a7,by omega,?_⟩⟩;obtain⟨H8,e8,hx8,F8⟩:=qz "sign_goals" (.ref sg) (S8 _ _ hx7);rw[<-e8];have E8:cQ x H7 H8:=(ac.exB S8).trans F8;have L8:=L7.exI hx7 E8;have G8:ji H8 sg gps ds:=⟨G'.nd,F8 _ _ G'.g (Ie (S8 _ _ hx7) G'.g),fun y hy=>F8 _ _ (G'.ls y hy) (cQ.neI (S8 _ _ hx7) (G'.ls y hy)),G'.all⟩;have len8:=dX ("sign_goals":Str) (.ref sg) (cH ("quiet":Str) (.ref qu) (cH ("leaving":Str) (.ref lv) fs4));have lk7:lk "sign_goals" (cH ("sign_goals":Str) (.ref sg) (cH ("quiet":Str) (.ref qu) (cH ("leaving":Str) (.ref lv) fs4)))=some (.ref sg):=by
  show kL _ _=_;rw[eN,if_pos rfl]
 clear e8 F8 G';refine⟨_,rfl,l3,rfl,⟨_,aA.of L8.a3⟩,fun f2' hf2=>?_⟩;refine cX (xs:=J2.map V.str) (fun i vs H'=>∃(us:Ze) (pl:List (Str×Addr)),vs=us.map V.ref/\Paired (fun t (p:Str×Addr)=>H' t=some (.tup [.str p.1,.ref p.2])) us pl/\pl.map (·.1)=J2.take i/\(∀p∈pl,∃L,H' p.2=some (.dK (aW L))/\L.Nodup/\∀w,w∈L↔Reach ds p.1 w)/\ac H8 H'/\H' f2'=some (.lst vs))
  ⟨[],[],rfl,.nil,rfl,by simp,ac.new hf2,aa⟩ (fun i vs H' _ ⟨_,_,_,_,_,_,S,h'⟩=>⟨h',aA.of (S _ _ L8.a3)⟩) ?_ ?_
 rotate_left
 ·rintro i vs H' x' hx' hi ⟨us,pl,rfl,hpa,hpl,hle,S,f'⟩;obtain⟨r,hr,rfl⟩:=bE hx';have hilen:us.length<=150:=by
   rw[Paired.length hpa,<-ai (f:=(·.1)) (as:=pl),hpl,aM];omega
  refine gN (rC ?_);refine⟨_,rfl,_,rfl,x,C,dx,_,.ref sg,rfl,S _ _ hx8,M.cls,M.a7,lk7,_,rfl,sg,r,gps,ds,J2,rfl,G8.same S,fun d hd=>(m.good d hd).b,by omega,fun ld Lr H'' hld nd hLr hfr S''=>⟨(by show 2<=aj;decide),fun t ht=>⟨?_,?_,uB hi ⟨us++[t],pl++[(r,ld)],?_,?_,?_,?_,?_,aa⟩⟩⟩⟩
  ·exact kp (S'' _ _ f') ht
  ·rw[ai];exact ax (by omega)
  ·rw[ay];rfl
  ·have KT:ii (upd H'' t (.tup [.str r,.ref ld])) (upd (upd H'' t (.tup [.str r,.ref ld])) f2' (.lst (us.map V.ref++[.ref t]))):=cJ (kp (S'' _ _ f') ht);exact Paired.app (Paired.mapP hpa fun t' p' e=>KT _ _ (kp (S'' _ _ e) ht)) (.cons (KT _ _ aa) .nil)
  ·rw[ay,hpl,take_snoc hr];rfl
  ·have ned:∀{b:Addr}{kvs:List (eS×V)},upd H'' t (.tup [.str r,.ref ld]) b=some (.dK kvs)->b≠f2':=fun hb z=>by rw[z,kp (S'' _ _ f') ht]at hb;cases hb
   intro p hp;rcases aX.mp hp with hp|hp
   ·obtain⟨L0,g1,g2⟩:=hle p hp;refine⟨L0,?_,g2⟩;have:=kp (x:=.tup [.str r,.ref ld]) (S'' _ _ g1) ht;rw[ag (ned this)];exact this
   ·have:p=(r,ld):=by simpa using hp
    subst this;refine⟨Lr,?_,nd,hLr⟩;have:=kp (x:=.tup [.str r,.ref ld]) hld ht;rw[ag (ned this)];exact this
  ·intro b o q;rw[ag (ae q hf2)];exact kp (S'' _ _ (S _ _ q)) ht
 rintro vs H9' ⟨us,sps,rfl,hpa,hsps,hled,S9,f9⟩;rw[ai,bt]at hsps;have nds:(sps.map (·.1)).Nodup:=by rw[hsps];exact m.okR.1
 refine⟨f2',us,dY Sum.inr sps,rfl,aA.of f9,?_,?_,fun sl hsl=>⟨_,rfl,x,C,dx,_,rfl,kp (S9 _ _ hx8) hsl,M.cls,M.a8,by omega,?_⟩⟩
 ·rw[Paired.length hpa];unfold dY;rw[ai]
 ·intro j t kv hj hkv;obtain⟨p,hp,e⟩:=Paired.getL hpa hj;unfold dY at hkv;rw[bw,hp]at hkv;have:=eA hkv;rw[<-this];exact e
 have emerge:jr [] (dY Sum.inr sps)=dY Sum.inr sps:=tU sps [] nds;rw[emerge];obtain⟨H9,e9,hx9,F9⟩:=qz "still_led" (.ref sl) (kp (x:=.dK (dY Sum.inr sps)) (S9 _ _ hx8) hsl);rw[<-e9];have n9:sl≠x:=(ae (S9 _ _ hx8) hsl).symm;have fsl:=F9 _ _ aa n9;have E9:cQ x H8 H9:=((ac.exB S9).trans (cQ.new hsl)).trans F9;have L9:=L8.exI hx8 E9;have hled9:∀p∈sps,∃L,H9 p.2=some (.dK (aW L))/\L.Nodup/\∀w,w∈L↔Reach ds p.1 w:=fun p hp=>by
  obtain⟨L0,g1,g2⟩:=hled p hp;have g3:=kp (x:=.dK (dY Sum.inr sps)) g1 hsl;exact⟨L0,F9 _ _ g3 (FD (kp (S9 _ _ hx8) hsl) g3),g2⟩
 clear e9 F9;have lk8:lk "still_led" (cH ("still_led":Str) (.ref sl) (cH ("sign_goals":Str) (.ref sg) (cH ("quiet":Str) (.ref qu) (cH ("leaving":Str) (.ref lv) fs4))))=some (.ref sl):=by
  show kL _ _=_;rw[eN,if_pos rfl]
 refine⟨_,rfl,_,rfl,x,C,dx,_,.ref sl,rfl,hx9,M.cls,M.a8,lk8,l3,sl,J2,sps,rfl,L9.a3,fsl,hsps,m.okR.1,fun p hp=>?_,fun H10 S10=>⟨_,rfl,k H10 ?_ ?_⟩⟩
 ·obtain⟨L0,g1,g2,g3⟩:=hled9 p hp;exact⟨L0,g1,fun z=>m.noround _ ((g3 _).mp z)⟩
 ·have X69:cQ x H6 H9:=(E7.trans E8).trans E9;have X59:=((E6.trans E7).trans E8).trans E9;have Y:∀{b:Addr}{o:HO},H9 b=some o->H10 b=some o:=fun h=>S10 _ _ h;have LL:Lists H5 o1 o2 o3 o4 ts J0 J1 J2 ds:=⟨(E3.trans (E4.trans E5)) _ _ f1 n1,(E4.trans E5) _ _ f2 n2,E5 _ _ f3 n3,f4,L5.ds⟩;refine⟨⟨dx,_,o1,o2,o3,o4,lv,qu,sg,sl,ts,lps,gps,sps,Y hx9,?_,?_,?_,?_,?_,?_,?_,?_,?_,?_,?_,lk8,(LL.exI hx5 X59).same S10,hlps,?_,?_,?_,?_,hsps,Y fsl,fun p hp=>?_⟩,m,⟨dx,_,Y hx9,?_,?_,?_,?_⟩⟩
  rotate_right 9
  ·exact Y (X69 _ _ flv (FD hx6 flv))
  ·intro y hy;obtain⟨us',g1,g2⟩:=hlv y hy;exact⟨us',Y (X69 _ _ g1 (cQ.neI hx6 g1)),(g2.kt (X69.ktI hx6)).kt (ac.kt S10)⟩
  ·exact Y ((E8.trans E9) _ _ fqu n7)
  ·exact ji.same ⟨G8.nd,E9 _ _ G8.g (Ie hx8 G8.g),fun y hy=>E9 _ _ (G8.ls y hy) (cQ.neI hx8 (G8.ls y hy)),G8.all⟩ S10
  ·obtain⟨L0,g1,g2⟩:=hled9 p hp;exact⟨L0,Y g1,g2⟩
  all_goals(show kL _ _=_;subst hfs4;repeat (rw[eN];first|rw[if_pos rfl] | rw[if_neg (by decide +kernel)]))
  all_goals rfl
 ·exact((((((((E1.trans E2).trans E3).trans E4).trans E5).trans E6).trans E7).trans E8).trans E9).trans (ac.exB S10)
theorem Gb{K:Za}{xs ys:List V}{g:TG}{tb:TS}{D:kU}{σ:L2.St}{H:Hp}(hxy:xs.length=ys.length)(Pv:Nat->L2.St->Hp->Prop)(h0:Pv 0 σ H)(hl:∀i σ H,i<=xs.length->Pv i σ H->bD K H a xs/\bD K H b ys)
  (hs:∀i x y σ H p,xs[i]?=some x->ys[i]?=some y->Pv i σ H->H p=none->g (.ref p) σ (upd H p (.tup [x,y])) fun σ2 H2=>tb { D with nx:=Pv (i+1),ct:=Pv (i+1),bk:=D.nx } σ2 H2) (hd:∀σ H,Pv xs.length σ H->D.nx σ H) :
  ∃W:Nat->Nat->L2.St->Hp->Prop,(∃m,W 0 m σ H)/\∀i m σ H,W i m σ H ->
   ((GD K a b).stop i H/\D.nx σ H)∨((GD K a b).go i H/\∃N:L2.St->Hp->Prop,(∀σ' H',N σ' H'->∃m',m'<m/\W (i+1) m' σ' H')/\∀x H',(GD K a b).yld i H x H'->g x σ H' fun σ2 H2=>tb { D with nx:=N,ct:=N,bk:=D.nx } σ2 H2):=by
 refine⟨fun i m σ H=>m=xs.length-i/\i<=xs.length/\Pv i σ H,⟨xs.length,by simp,df _,h0⟩,?_⟩;rintro i m σ H ⟨rfl,hi,p⟩;obtain⟨q1,q2⟩:=hl i σ H hi p;by_cases hlt:i<xs.length
 ·have hlt2:i<ys.length:=by omega
  refine .inr ⟨⟨xs,ys,xs[i],ys[i],q1,q2,by simp[hlt],by simp[hlt2]⟩,Pv (i+1),fun σ' H' p'=>⟨xs.length-(i+1),by omega,rfl,hlt,p'⟩,fun x H' y=>?_⟩;obtain⟨t,u,v,rfl,hn,hu,hv,rfl⟩:=y;exact hs i u v σ H t (hu xs q1) (hv ys q2) p hn
 ·have e:i=xs.length:=by omega
  subst e;exact .inl ⟨⟨xs,ys,q1,q2,.inl (aG _)⟩,hd σ H p⟩
theorem Hz(a b:Str):decide (fK a=fK b)=decide (a=b):=by
 by_cases e:a=b
 ·rw[zzr1 e,zzr1 (by rw[e])]
 ·rw[zzr0 e,zzr0 (fun z=>e (oU z))]
theorem bd.by{H':Hp}(h:bd C H x J0 J1 J2 ds)
  (hs:∀b ws,H b=some (.lst (List.map V.str ws))->H' b=some (.lst (List.map V.str ws))) (hr:∀b ts,H b=some (.lst (List.map V.ref ts))->H' b=some (.lst (List.map V.ref ts))) (ht:ii H H')
  (hd:∀b kvs,H b=some (.dK kvs)->H' b=some (.dK kvs)) (hT:∀b kvs,H b=some (.dT kvs)->H' b=some (.dT kvs)) (hi:∀b C dx fs,H b=some (.ins C dx fs)->H' b=some (.ins C dx fs)):bd C H' x J0 J1 J2 ds:=by
 obtain⟨dx,fs,o1,o2,o3,o4,lv,qu,sg,sl,ts,lps,gps,sps,g1,a1,a2,a3,a4,b1,b2,b3,b4,b5,b6,b7,b8,L,c1,c2,c3,c4,G,d1,d2,d3⟩:=h.at_;refine⟨⟨dx,fs,o1,o2,o3,o4,lv,qu,sg,sl,ts,lps,gps,sps,hi _ _ _ _ g1,a1,a2,a3,a4,b1,b2,b3,b4,b5,b6,b7,b8,⟨hs _ _ L.a1,hs _ _ L.a2,hs _ _ L.a3,hr _ _ L.a4,L.ds.kt ht⟩,c1,hd _ _ c2,fun y hy=>?_,hd _ _ c4,⟨G.nd,hT _ _ G.g,fun y hy=>hs _ _ (G.ls y hy),G.all⟩,d1,hd _ _ d2,fun y hy=>?_⟩,h.ok,by obtain⟨dx,fs,g,r⟩:=h.more;exact⟨dx,fs,hi _ _ _ _ g,r⟩⟩
 ·obtain⟨us,e1,e2⟩:=c3 y hy;exact⟨us,hr _ _ e1,e2.kt ht⟩
 ·obtain⟨L0,e1,e2⟩:=d3 y hy;exact⟨L0,hd _ _ e1,e2⟩
theorem bd.same(h:bd C H x J0 J1 J2 ds)(S:ac H H'):bd C H' x J0 J1 J2 ds :=
 h.by (fun _ _ e=>S _ _ e) (fun _ _ e=>S _ _ e) (ac.kt S) (fun _ _ e=>S _ _ e) (fun _ _ e=>S _ _ e) (fun _ _ _ _ e=>S _ _ e)
theorem bd.ex(h:bd C H x J0 J1 J2 ds)(hp:gD H p c)(S:cQ p H H'):bd C H' x J0 J1 J2 ds:=by
 obtain⟨xs,hx⟩:=hp.lst;exact h.by (fun _ _ e=>S _ _ e (hp.ne_strs e)) (fun _ _ e=>S _ _ e (hp.ne_refs e)) (S.kt hx) (fun _ _ e=>S _ _ e (fun z=>by rw[z,hx]at e;cases e)) (fun _ _ e=>S _ _ e (fun z=>by rw[z,hx]at e;cases e)) (fun _ _ _ _ e=>S _ _ e (fun z=>by rw[z,hx]at e;cases e))
inductive hU(C:Addr)(vs:List V)(H:Hp)(Q:VK)(E:XK):Prop
 |mk (x:Addr) (w:Str) (J0 J1 J2:Zb) (ds:List ao):(vs=[.ref x,.str w])->(bd C H x J0 J1 J2 ds)->(Q (.bl (decide (w∈J2.filter (ff ds)))) H)->hU C vs H Q E
theorem zo{K:Za}(M:MC K C)(h:hU C vs H Q E):nH K (bH Q) (start n8 vs) H:=by
 obtain⟨x,w,J0,J1,J2,ds,rfl,h,k⟩:=h;obtain⟨dx,fs,o1,o2,o3,o4,lv,qu,sg,sl,ts,lps,gps,sps,g1,a1,a2,a3,a4,b1,b2,b3,b4,b5,b6,b7,b8,L,c1,c2,c3,c4,_⟩:=h.at_;refine⟨_,rfl,_,rfl,x,C,dx,fs,.ref qu,rfl,g1,M.cls,M.a6,b6,qu,_,rfl,.inl ⟨_,.inr w,.inl c4,rfl,rfl⟩,?_⟩;rw[eU];exact k
def bT:List Str:=[("hush":Str)]
inductive ke(C:Addr)(vs:List V)(H:Hp)(Q:VK)(E:XK):Prop
 |mk (t l1 l2 l3 l4:Addr) (ts:Ze) (J0 J1 J2:Zb) (ds:List ao):(vs=[.ref t])->(iB H t l1 l2 l3 l4 ts J0 J1 J2 ds)->(aD J0 J1 J2 ds)->(∀(x:Addr) (H':Hp),bd C H' x J0 J1 J2 ds->ac H H'->Q (.ref x) H')->ke C vs H Q E
theorem A0{K:Za}(h:ke C vs H Q E):uI K C (rV C) (bH Q) (start ve vs) H:=by
 obtain⟨t,l1,l2,l3,l4,ts,J0,J1,J2,ds,rfl,T,m,k⟩:=h;refine⟨_,rfl,.inr (.inl ⟨t,_,0,_,rfl,rfl,bD.of T.t,rfl,.inl ⟨l1,_,rfl,.inl (aA.of T.a1),fun m1 h1=>?_⟩⟩)⟩;have T1:=T.same (ac.new (o:=.lst (J0.map V.str)) h1);refine⟨_,rfl,.inr (.inl ⟨t,_,1,_,rfl,rfl,bD.of T1.t,rfl,.inl ⟨l2,_,rfl,.inl (aA.of T1.a2),fun m2 h2=>?_⟩⟩)⟩;have T2:=T1.same (ac.new (o:=.lst (J1.map V.str)) h2);refine⟨_,rfl,.inr (.inl ⟨t,_,2,_,rfl,rfl,bD.of T2.t,rfl,.inl ⟨l3,_,rfl,.inl (aA.of T2.a3),fun m3 h3=>?_⟩⟩)⟩;have T3:=T2.same (ac.new (o:=.lst (J2.map V.str)) h3);refine⟨_,rfl,.inr (.inl ⟨t,_,3,_,rfl,rfl,bD.of T3.t,rfl,.inl ⟨l4,_,rfl,.inl (aA.of T3.a4),fun m4 h4=>?_⟩⟩)⟩;have T4:=T3.same (ac.new (o:=.lst (ts.map V.ref)) h4);have S4:=(((ac.new (o:=.lst (J0.map V.str)) h1).trans (ac.new (o:=.lst (J1.map V.str)) h2)).trans (ac.new (o:=.lst (J2.map V.str)) h3)).trans (ac.new (o:=.lst (ts.map V.ref)) h4);refine fun x dx hx hdx hne=>?_;have S5:ac H (upd (upd (upd (upd (upd (upd H m1 (.lst (J0.map V.str))) m2 (.lst (J1.map V.str))) m3 (.lst (J2.map V.str))) m4 (.lst (ts.map V.ref))) dx (.own x)) x (.ins C dx [])) :=
  (S4.trans (ac.new hdx)).trans (ac.new (by rw[ag hne.symm];exact hx))
 have hxx:upd (upd (upd (upd (upd H m1 (.lst (J0.map V.str))) m2 (.lst (J1.map V.str))) m3 (.lst (J2.map V.str))) m4 (.lst (ts.map V.ref))) dx (.own x) x=none:=by rw[ag hne.symm];exact hx
 refine⟨x,dx,m1,m2,m3,m4,ts,J0,J1,J2,ds,rfl,aa,⟨?_,?_,?_,?_,T.ds.kt (ac.kt S5)⟩,m,fun H' M ex=>⟨rfl,k x H' M fun b o q=>?_⟩⟩
 ·exact kp (kp (kp (kp (kp aa h2) h3) h4) hdx) hxx
 ·exact kp (kp (kp (kp aa h3) h4) hdx) hxx
 ·exact kp (kp (kp aa h4) hdx) hxx
 ·exact kp (kp aa hdx) hxx
 ·have hq:=S5 _ _ q;exact ex _ _ hq (ae (S4.trans (ac.new hdx) _ _ q) hxx)
def kj(ds:List ao):List Str:=(ds.filter fun d=>!m8 d).map (·.a)
theorem tM(ds:List ao)(r:Str):ff ds r=decide (r∉kj ds):=by
 unfold ff kj br;rw[vi,List.all_eq_true,decide_eq_true_iff];constructor
 ·intro h z;obtain⟨d,hd,rfl⟩:=ap.mp z;rw[be]at hd;have:=h d (be.mpr ⟨hd.1,zzr1 rfl⟩);rw[this]at hd;exact absurd hd.2 (by decide)
 ·intro h d hd;rw[be]at hd;cases q:m8 d with
  |true=>rfl
  |false =>
   refine absurd (ap.mpr ⟨d,be.mpr ⟨hd.1,by rw[q];rfl⟩,?_⟩) h;exact of_decide_eq_true hd.2
theorem mv{ws:Zb}:fK w∈ws.map fK↔w∈ws:=by
 constructor
 ·intro h;obtain⟨x,hx,e⟩:=ap.mp h;rw[<-oU e];exact hx
 ·exact k5
def w8(K:Za)(C_Machine:Addr)(sp_Machine_rooms:Sp)(sp_Machine_led_from:Sp):TS :=
 aq (aO (p9) U2)
 (aq (eG (cx K V1) U3 (cn (tB (fQ K V3 V2)) (aq (mY V2 V3 (tC (.bl true)))
 (eG (cx K (dB C_Machine "led_from" sp_Machine_led_from [] E0 V0 (aB V3))) U4 (mY V2 V4 (tC (.bl true))))) (bv)))
 (bq (dE (HZ K) (aB (eB 1 [2] (cx K (dB C_Machine "rooms" sp_Machine_rooms [] E0 V0 bm)) U0 (tB (AQ K V0 V1)) V0)))))
def yn:List Str:=["M","rooms","found","room","led"]
def rD(K:Za):TS :=
 bq (dE (dC K) (aB (fP K V0 "own_rooms")))
def rQ:List Str:=["self"]
def nG(K:Za):TS :=
 bq (dE (dC K) (aB (tw K (fP K V0 "still_led") V1 (bu (bm)))))
def n6:List Str:=["self","room"]
def rE(K:Za):TS :=
 bq (dE (dC K) (aB (tw K (fP K V0 "sign_goals") (bu (aN V1 V2)) (bu (bm)))))
def rR:List Str:=["self","room","sign"]
def sV(K:Za):TS :=
 aq (aO (dE (dC K) (aB V1)) U2)
 (aq (aO (tC (.int 0)) U3)
 (aq (nK (a_ (aI DG V3 (dE (dh K) (aB V2)))) (aq (eG (cx K V0) (gE K 3 (aT U4 (aT U5 (aT U6 (fZ))))) (cn (uR (a_ (aI (tL K) V4 (aI (vD K) V2 V3))) (uR (a_ (aI (tL K) V5 (bu (aB (tC (.str "still")))))) (a_ (aI (xB K true) V6 V2)))) (bJ (oI K "list" cz V2 (aB V6))) (bv)))
 (aO (aI dg V3 (tC (.int 1))) U3)))
 (bq V2)))
def ur:List Str:=["doors","rooms","found","at","room","sign","other"]
inductive iS(C:Addr)(vs:List V)(H:Hp)(Q:VK)(E:XK):Prop
 |mk (x:Addr) (J0 J1 J2:Zb) (ds:List ao):(vs=[.ref x])->(bd C H x J0 J1 J2 ds)->(∀l,H l=none->Q (.ref l) (upd H l (.lst (J2.map V.str))))->iS C vs H Q E
theorem E_{K:Za}(M:MC K C)(h:iS C vs H Q E):rD K (bH Q) (start rQ vs) H:=by
 obtain⟨x,J0,J1,J2,ds,rfl,h,k⟩:=h;obtain⟨dx,fs,o1,o2,o3,o4,lv,qu,sg,sl,ts,lps,gps,sps,g1,a1,a2,a3,a4,b1,b2,b3,b4,b5,b6,b7,b8,L,_⟩:=h.at_;exact⟨_,rfl,x,C,dx,fs,.ref o3,rfl,g1,M.cls,M.a3,b3,.inl ⟨o3,_,rfl,.inl (aA.of L.a3),k⟩⟩
theorem zX:∀{L:Zb},L.Nodup->(aW L).map (fun kv=>kV kv.1)=L.map V.str:=by
 intro L;refine jG (fun L=>L.Nodup->(aW L).map (fun kv=>kV kv.1)=L.map V.str) (fun _=>rfl) (fun ws w ih nd=>?_) L;rw[cA]at nd;have hn:bP (aW ws) (.inr w)=none:=by
  rw[tW,if_neg (fun z=>nd.2.2 w z w (by simp) rfl)]
 show(aW (ws++[w])).map _=_;rw[dF,fU _ hn,ay,ih nd.1,ay]
 rfl
inductive hJ(C:Addr)(vs:List V)(H:Hp)(Q:VK)(E:XK):Prop
 |mk (x:Addr) (r:Str) (J0 J1 J2:Zb) (ds:List ao):(vs=[.ref x,.str r])->(bd C H x J0 J1 J2 ds)->(r∈J2)->(∀(l:Addr) (L:Zb) (H':Hp),H' l=some (.lst (L.map V.str))->L.Nodup->(∀w,w∈L↔Reach ds r w)->H l=none->ac H H'->Q (.ref l) H')->hJ C vs H Q E
theorem zm{K:Za}(M:MC K C)(h:hJ C vs H Q E):nG K (bH Q) (start n6 vs) H:=by
 obtain⟨x,r,J0,J1,J2,ds,rfl,h,hr,k⟩:=h;obtain⟨dx,fs,o1,o2,o3,o4,lv,qu,sg,sl,ts,lps,gps,sps,g1,a1,a2,a3,a4,b1,b2,b3,b4,b5,b6,b7,b8,L,c1,c2,c3,c4,G,d1,d2,d3⟩:=h.at_;have nod:=h.ok.okR.1;obtain⟨⟨r',a⟩,hra,er⟩:=ap.mp (show r∈sps.map (·.1) by rw[d1];exact hr);obtain rfl:r'=r:=er;obtain⟨L0,e1,e2,e3⟩:=d3 _ hra;refine⟨_,rfl,x,C,dx,fs,.ref sl,rfl,g1,M.cls,M.a8,b8,sl,rfl,.inl ⟨_,.inl d2⟩,_,rfl,(by show 0<=aj;decide),fun et het=>⟨_,.inl ⟨_,.inr r',.inl (kp d2 het),rfl,rfl⟩,?_⟩⟩;rw[eC iz (by rw[d1];exact nod) hra];refine .inr ⟨a,_,rfl,.inl (kp e1 het),fun l hl=>k l L0 _ ?_ e2 e3 ((ac.new het).free hl) ((ac.new het).trans (ac.new hl))⟩;rw[aa,zX e2]
inductive iG(C:Addr)(vs:List V)(H:Hp)(Q:VK)(E:XK):Prop
 |mk (x s:Addr) (r:Str) (sg J0 J1 J2:Zb) (ds:List ao):(vs=[.ref x,.str r,.ref s])->(bd C H x J0 J1 J2 ds)->(H s=some (.tup (sg.map V.str)))->(∀(l:Addr) (H':Hp),H' l=some (.lst ((bg ds (r,sg)).map V.str))->H l=none->ac H H'->Q (.ref l) H')->iG C vs H Q E
theorem DA{K:Za}(M:MC K C)(h:iG C vs H Q E):rE K (bH Q) (start rR vs) H:=by
 obtain⟨x,s,r,sgn,J0,J1,J2,ds,rfl,h,hs,k⟩:=h;obtain⟨dx,fs,o1,o2,o3,o4,lv,qu,sg,sl,ts,lps,gps,sps,g1,a1,a2,a3,a4,b1,b2,b3,b4,b5,b6,b7,b8,L,c1,c2,c3,c4,G,d1,d2,d3⟩:=h.at_;have nod:=h.ok.okR.1;refine⟨_,rfl,x,C,dx,fs,.ref sg,rfl,g1,M.cls,M.a7,b7,sg,rfl,.inr ⟨_,.inl G.g⟩,_,rfl,_,rfl,(by show 2<=aj;decide),fun kt hkt=>⟨(by show 0<=aj;decide),fun et het=>⟨bP (dY uA gps) (uA (r,sgn)),.inr ⟨_,uA (r,sgn),kt,.inl (kp (kp G.g hkt) het),rfl,?_,mi _,rfl⟩,?_⟩⟩⟩
 ·refine da.isIn 8 (mi _) ?_;unfold uA da;refine⟨kt,_,rfl,kp aa het,?_⟩;unfold TKAts;refine⟨_,_,rfl,wY _,?_⟩;unfold TKAts;refine⟨_,_,rfl,SignAt.tk (kp (kp hs hkt) het),?_⟩;unfold TKAts
  rfl
 have S2:ac H (upd (upd H kt (.tup [.str r,.ref s])) et (.tup [])):=(ac.new hkt).trans (ac.new het);by_cases hmem:(r,sgn)∈gps.map (·.1)
 ·obtain⟨⟨y,a⟩,hra,er⟩:=ap.mp hmem;obtain rfl:y=(r,sgn):=er;rw[eC iw G.nd hra];exact .inl ⟨a,_,rfl,.inl (aA.of (S2 _ _ (G.ls _ hra))),fun l hl=>k l _ aa (S2.free hl) (S2.trans (ac.new hl))⟩
 ·rw[mx iw hmem];have hnil:bg ds (r,sgn)=[]:=lQ fun y hy z=>hmem (by rw[<-z];exact G.all y hy);refine .inl ⟨et,[],rfl,.inr (bD.of aa),fun l hl=>k l _ ?_ (S2.free hl) (S2.trans (ac.new hl))⟩;rw[hnil];exact aa
theorem Reach.trans(h1:Reach ds a b)(h2:Reach ds b c):Reach ds a c:=by
 induction h2 with
 |one h=>exact .step h1 h
 |step r h ih=>exact .step ih h
def gl(ds:List ao)(gs:Zb)(w:Str):Prop:=∃g∈gs,w=g∨Reach ds g w
theorem gl.in_{ds:List ao}{gs J2:Zb}(hg:∀g∈gs,g∈J2)(hd:∀d∈ds,d.b∈J2)(h:gl ds gs w):w∈J2:=by
 obtain⟨g,h1,rfl|h2⟩:=h
 ·exact hg _ h1
 ·exact h2.in_ hd
def rN(F:Zb)(w:Str):List Str:=if w∈F then F else F++[w]
theorem zW(F:Zb):∀kv∈aW F,kv.2=.bl true:=by
 refine jG (fun F=>∀kv∈aW F,kv.2=.bl true) (by intro kv h;cases h) (fun ws w ih=>?_) F;intro kv hkv;rw[dF]at hkv;unfold cR at hkv;split at hkv
 ·obtain⟨x,hx,rfl⟩:=ap.mp hkv;split
  ·rfl
  ·exact ih x hx
 ·rcases aX.mp hkv with h|h
  ·exact ih kv h
  ·have:kv=(.inr w,.bl true):=by simpa using h
   rw[this]
theorem tX(F:Zb)(w:Str):cR (aW F) (.inr w) (.bl true)=aW (rN F w):=by
 unfold rN;by_cases c:w∈F
 ·rw[if_pos c];have h1:((aW F).any fun kv=>decide (kv.1=(.inr w:eS)))=true:=by
   rw[jE,eU,zzr1 c]
  unfold cR;rw[if_pos h1];have:∀l:List (eS×V),(∀kv∈l,kv.2=.bl true)->l.map (fun kv=>if kv.1=(.inr w:eS)then(kv.1,V.bl true)else kv)=l:=by
   intro l
   induction l with
   |nil=>intro _;rfl
   |cons x l ih =>
    intro h;rw[bb,ih fun kv hkv=>h kv (cT _ hkv)];congr 1;split
    ·rw[<-h x cb]
    ·rfl
  exact this _ (zW F)
 ·rw[if_neg c,dF]
theorem um{F:Zb}(h:F.Nodup)(w:Str):(rN F w).Nodup:=by
 unfold rN;split
 ·exact h
 ·next c =>
  rw[cA];refine⟨h,by simp,fun a ha b hb e=>?_⟩;have:b=w:=by simpa using hb
  exact c (by rw[<-this,<-e];exact ha)
theorem zO{y:Str}:y∈rN F w↔y∈F∨y=w:=by
 unfold rN;split
 ·next c=>exact⟨.inl,fun h=>h.elim id fun e=>by rw[e];exact c⟩
 ·rw[aX];simp
inductive sp_with_still(C:Addr)(vs:List V)(H:Hp)(Q:VK)(E:XK):Prop
 |mk (x l:Addr) (gs J0 J1 J2:Zb) (ds:List ao):(vs=[.ref x,.ref l])->(bd C H x J0 J1 J2 ds)->(H l=some (.lst (gs.map V.str)))->((∀g∈gs,g∈J2))->(∀(t:Addr) (F:Zb) (H':Hp),H' t=some (.tup ((J2.filter fun r=>decide (r∈F)).map V.str))->(∀w,w∈F↔gl ds gs w)->ac H H'->Q (.ref t) H')->sp_with_still C vs H Q E
theorem uT{K:Za}(h:sp_with_still C vs H Q E):w8 K C (iS C) (hJ C) (bH Q) (start yn vs) H:=by
 obtain⟨x,l,gs,J0,J1,J2,ds,rfl,M,hl,hg,k⟩:=h;have hdb:∀d∈ds,d.b∈J2:=fun d hd=>(M.ok.good d hd).b;have z3:=M.ok.rooms26;refine fun d hd=>?_;refine⟨_,rfl,l,rfl,⟨_,aA.of (kp hl hd)⟩,?_⟩;refine cg (xs:=gs.map V.str) (fun i σ H'=>∃(F:Zb) (x3 x4:Option V),σ=[some (.ref x),some (.ref l),some (.ref d),x3,x4]/\H' d=some (.dK (aW F))/\ac H H'/\F.Nodup/\∀w,w∈F↔gl ds (gs.take i) w)
  ⟨[],_,_,rfl,aa,ac.new hd,pV,fun w=>⟨fun h=>(by cases h),fun⟨g,h,_⟩=>(by cases h)⟩⟩ (fun i σ H' _ ⟨_,_,_,_,_,S,_⟩=>aA.of (S _ _ hl)) ?_ ?_
 ·rintro i y σ H1 hi ⟨F,x3,x4,rfl,hd1,S1,nd,hF⟩;obtain⟨r,hr,rfl⟩:=bE hi;have hrm:r∈J2:=hg r (aR hr);have hsub:∀w∈F,w∈J2:=fun w hw=>((hF w).mp hw).in_ (fun g hg'=>hg g (fu hg')) hdb;refine⟨_,rfl,_,rfl,d,_,rfl,.inl ⟨_,.inr r,.inl hd1,rfl,rfl⟩,_,rfl,?_⟩;rw[eU];have hstep:∀w,gl ds (gs.take (i+1)) w↔(gl ds (gs.take i) w∨w=r∨Reach ds r w):=by
   intro w;rw[take_snoc hr];constructor
   ·rintro⟨g,hg',h⟩;rcases aX.mp hg' with hg'|hg'
    ·exact .inl ⟨g,hg',h⟩
    ·have:g=r:=by simpa using hg'
     subst this;exact .inr h
   ·rintro(⟨g,hg',h⟩|h)
    ·exact⟨g,cB _ hg',h⟩
    ·exact⟨r,cS _ (by simp),h⟩
  by_cases c:r∈F
  ·rw[zzr1 c];refine bR ⟨F,_,_,rfl,hd1,S1,nd,fun w=>?_⟩;rw[hstep,hF];refine⟨.inl,fun h=>h.elim id fun h=>?_⟩;obtain⟨g,hg',hgr⟩:=(hF r).mp c;rcases h with h|h
   ·rw[h];exact⟨g,hg',hgr⟩
   ·refine⟨g,hg',.inr ?_⟩;rcases hgr with e|hgr
    ·rw[<-e];exact h
    ·exact hgr.trans h
  ·rw[zzr0 c];refine dk ?_;have hlen:∀{F:Zb},F.Nodup->(∀w∈F,w∈J2)->(aW F).length<aj:=fun nd hs=>ax (bL (km _) (bL (lO nd hs) (by omega)));refine⟨_,rfl,_,rfl,d,_,rfl,.inl ⟨_,.inr r,hd1,rfl,hlen nd hsub,rfl⟩,?_⟩;rw[tX];have S2:ac H (upd H1 d (.dK (aW (rN F r)))):=fun b o q=>by rw[ag (ae q hd)];exact S1 _ _ q
   have hd2:upd H1 d (.dK (aW (rN F r))) d=some (.dK (aW (rN F r))):=aa;generalize upd H1 d (.dK (aW (rN F r)))=H2 at S2 hd2 ⊢;have M2:=M.same S2;obtain⟨dx,fs,o1,o2,o3,o4,lv,qu,sg,sl,ts,lps,gps,sps,g1,a1,a2,a3,a4,_⟩:=M2.at_;refine⟨_,rfl,x,dx,fs,rfl,g1,a3,_,rfl,x,r,J0,J1,J2,ds,rfl,M2,hrm,fun ll L H3 hll ndL hL frl S3=>⟨ll,rfl,⟨_,aA.of hll⟩,?_⟩⟩;have hd3:=S3 _ _ hd2;have llH:H ll=none:=S2.free frl;have lld:ll≠d:=fun z=>by rw[z,hd2]at frl;cases frl
   refine cg (xs:=L.map V.str) (fun j σ H'=>∃(F':Zb) (x4:Option V),σ=[some (.ref x),some (.ref l),some (.ref d),some (.str r),x4]/\H' d=some (.dK (aW F'))/\H' ll=some (.lst (L.map V.str))/\ac H H'/\F'.Nodup/\∀w,w∈F'↔(gl ds (gs.take i) w∨w=r∨w∈L.take j))
    ⟨rN F r,_,rfl,hd3,hll,S2.trans S3,um nd r,fun w=>?_⟩ (fun j σ H' _ ⟨_,_,_,_,h,_⟩=>aA.of h) ?_ ?_
   ·rw[zO,hF];simp
   ·rintro j y σ H4 hj ⟨F',x4',rfl,hd4,hll4,S4,nd4,hF4⟩;obtain⟨v,hv,rfl⟩:=bE hj;have hsub4:∀w∈F',w∈J2:=by
     intro w hw;rcases(hF4 w).mp hw with h|h|h
     ·exact h.in_ (fun g hg'=>hg g (fu hg')) hdb
     ·rw[h];exact hrm
     ·exact((hL w).mp (fu h)).in_ hdb
    refine⟨_,rfl,_,rfl,d,_,rfl,.inl ⟨_,.inr v,hd4,rfl,hlen nd4 hsub4,rfl⟩,rN F' v,_,rfl,?_,?_,?_,um nd4 v,fun w=>?_⟩
    ·rw[aa,tX]
    ·rw[ag lld];exact hll4
    ·intro b o q;rw[ag (ae q hd)];exact S4 _ _ q
    ·rw[zO,hF4,take_snoc hv,aX];simp only[bo];constructor
     ·rintro((h|h|h)|h)
      ·exact .inl h
      ·exact .inr (.inl h)
      ·exact .inr (.inr (.inl h))
      ·exact .inr (.inr (.inr h))
     ·rintro(h|h|h|h)
      ·exact .inl (.inl h)
      ·exact .inl (.inr (.inl h))
      ·exact .inl (.inr (.inr h))
      ·exact .inr h
   ·rintro σ H4 ⟨F',x4',rfl,hd4,hll4,S4,nd4,hF4⟩;rw[ai,bt]at hF4;refine⟨F',_,_,rfl,hd4,S4,nd4,fun w=>?_⟩;rw[hstep,hF4,hL]
 ·rintro σ H1 ⟨F,x3,x4,rfl,hd1,S1,nd,hF⟩;rw[ai,bt]at hF;have M1:=M.same S1;obtain⟨dx,fs,o1,o2,o3,o4,lv,qu,sg,sl,ts,lps,gps,sps,g1,a1,a2,a3,a4,_⟩:=M1.at_;refine⟨_,rfl,x,dx,fs,rfl,g1,a4,x,J0,J1,J2,ds,rfl,M1,fun rl hrl=>⟨rl,rfl,⟨_,aA.of aa⟩,fun f hf=>?_⟩⟩;have S2:ac H (upd H1 rl (.lst (J2.map V.str))):=S1.trans (ac.new hrl);have hd2:upd H1 rl (.lst (J2.map V.str)) d=some (.dK (aW F)):=kp hd1 hrl;have hrl2:upd H1 rl (.lst (J2.map V.str)) rl=some (.lst (J2.map V.str)):=aa;generalize upd H1 rl (.lst (J2.map V.str))=H2 at S2 hd2 hrl2 hf ⊢;refine cX (xs:=J2.map V.str) (fun i vs H'=>vs=((J2.take i).filter fun r=>decide (r∈F)).map V.str/\ac H2 H'/\H' f=some (.lst vs)) ⟨rfl,ac.new hf,aa⟩ (fun i vs H' _ ⟨_,S,h'⟩=>⟨h',aA.of (S _ _ hrl2)⟩) ?_ ?_
  ·rintro vs H' ⟨rfl,S,f'⟩;rw[ai,bt]at f';exact⟨f,_,rfl,.inl ⟨aA.of f',fun t ht=>k t F _ aa hF (S2.trans (S.trans (ac.new ht)))⟩⟩
  ·rintro i vs H' x' hx' hi ⟨rfl,S,f'⟩;obtain⟨r,hr,rfl⟩:=bE hx';refine gN ?_;refine⟨_,rfl,_,rfl,d,_,rfl,.inl ⟨_,.inr r,.inl (S _ _ hd2),rfl,rfl⟩,_,rfl,?_⟩;rw[eU];have hlen:(((J2.take i).filter fun r=>decide (r∈F)).map V.str).length<aj:=by
    rw[ai];refine ax (bL (h7 _ _) ?_);rw[aM];omega
   refine i6 (fun hq=>?_) (fun hq=>?_)
   ·refine⟨_,rfl,f',hlen,uB hi ⟨?_,?_,aa⟩⟩
    ·rw[fI hr,if_pos hq,ay];rfl
    ·intro b o q;rw[ag (ae q hf)];exact S _ _ q
   ·refine uB hi ⟨?_,S,f'⟩;rw[fI hr,if_neg hq,gJ]
inductive fF(K:Za)(vs:List V)(H:Hp)(Q:VK)(E:XK):Prop
 |mk (l4 l:Addr) (ts:Ze) (ds:List ao) (gs J2:Zb):(vs=[.ref l4,.ref l])->(H l4=some (.lst (ts.map V.ref)))->(cj H ts ds)->(H l=some (.lst (gs.map V.str)))->((∀d∈ds,d.b∈J2))->(J2.length<=1000)->(gs.length<=1000)->(∀(f:Addr) (F:Zb) (H':Hp),H' f=some (.lst (F.map V.str))->(∀w,w∈F↔gl ds gs w)->F.length<=2000->H f=none->ac H H'->Q (.ref f) H')->fF K vs H Q E
structure SO(H0 H:Hp)(ds:List ao)(gs:Zb)(f:Addr)(X:Zb):Prop where
 f:H f=some (.lst ((gs++X).map V.str))
 same:ac H0 H
 nd:X.Nodup
 new:∀y∈X,y∉gs
 sound:∀y∈X,gl ds gs y
theorem gl.step{gs:Zb}{b:Str}(h:gl ds gs a)(e:(⟨a,am,b⟩:ao)∈ds):gl ds gs b:=by
 obtain⟨g,hg,rfl|h⟩:=h
 ·exact⟨_,hg,.inr (.one e)⟩
 ·exact⟨g,hg,.inr (.step h e)⟩
theorem se(a b:Zb):decide (mN a=mN b)=decide (a=b):=by
 by_cases e:a=b
 ·rw[zzr1 e,zzr1 (by rw[e])]
 ·rw[zzr0 e,zzr0 (fun z=>e (xX z))]
theorem zg{K:Za}(h:fF K vs H Q E):sV K (bH Q) (start ur vs) H:=by
 obtain⟨l4,l,ts,ds,gs,J2,rfl,h4,hds,hl,hin,hz,hz2,k⟩:=h;refine⟨_,rfl,.inl ⟨l,_,rfl,.inl (aA.of hl),fun f hf=>?_⟩⟩;have lenX:∀{X:Zb},X.Nodup->(∀y∈X,y∉gs)->(∀y∈X,gl ds gs y)->X.length<=J2.length:=fun nd nw sd=>lO nd fun y hy=>by
  obtain⟨g,hg,e|h⟩:=sd y hy
  ·exact absurd (by rw[e];exact hg) (nw y hy)
  ·exact h.in_ hin
 refine⟨fun m σ H'=>∃(X:Zb) (at_:Nat) (x y z:Option V),σ=[some (.ref l4),some (.ref l),some (.ref f),some (.int at_),x,y,z]/\SO H H' ds gs f X/\at_<=(gs++X).length/\(∀i y,i<at_->(gs++X)[i]?=some y->∀c,(⟨y,am,c⟩:ao)∈ds->c∈gs++X)/\m=gs.length+J2.length-at_,
  ⟨_,[],0,_,_,_,rfl,⟨by rw[gJ];exact aa,ac.new hf,pV,by simp,by simp⟩,df _,fun i y h=>by omega,rfl⟩,?_⟩
 rintro m σ H1 ⟨X,at_,x4,x5,x6,rfl,D,hat,hcl,rfl⟩;have hXl:=lenX D.nd D.new D.sound;refine⟨_,rfl,_,rfl,.inl ⟨f,_,rfl,.inl (aA.of D.f),_,_,rfl,rfl,_,rfl,?_⟩⟩;refine i6 (fun hlt=>?_) (fun hlt=>?_)
 ·have hlt':at_<(gs++X).length:=by
   have:=of_decide_eq_true hlt;rw[ai]at this;omega
  have hat0:at_<gs.length+J2.length:=by rw[az]at hlt';omega
  generalize hhere:(gs++X)[at_]=here;have hget:(gs++X)[at_]?=some here:=by rw[<-hhere];exact aV hlt'
  have hfrom:∀{Y:Zb}{y:Str},(∀y∈Y,gl ds gs y)->y∈gs++Y->gl ds gs y:=fun sd hy=>by
   rcases aX.mp hy with hy|hy
   ·exact⟨_,hy,.inl rfl⟩
   ·exact sd _ hy
  refine⟨fun σ' H'=>∃(X':Zb) (x y z:Option V),σ'=[some (.ref l4),some (.ref l),some (.ref f),some (.int ((at_+1:Nat):Int)),x,y,z]/\SO H H' ds gs f X'/\at_+1<=(gs++X').length/\(∀i y,i<at_+1->(gs++X')[i]?=some y->∀c,(⟨y,am,c⟩:ao)∈ds->c∈gs++X'),
   fun σ' H' ⟨X',x,y,z,e,D',h1,h2⟩=>⟨_,(by omega:gs.length+J2.length-(at_+1)<gs.length+J2.length-at_),X',at_+1,x,y,z,e,D',h1,h2,rfl⟩,?_⟩
  refine⟨_,rfl,l4,rfl,⟨_,aA.of (D.same _ _ h4)⟩,?_⟩;refine cg (xs:=ts.map V.ref) (fun j σ H'=>∃(X' Y:Zb) (x y z:Option V),σ=[some (.ref l4),some (.ref l),some (.ref f),some (.int at_),x,y,z]/\X'=X++Y/\SO H H' ds gs f X'/\∀d∈ds.take j,d.a=here->d.sg=am->d.b∈gs++X')
   ⟨X,[],_,_,_,rfl,by simp,D,by simp⟩ (fun j σ H' _ ⟨_,_,_,_,_,_,_,D',_⟩=>aA.of (D'.same _ _ h4)) ?_ ?_
  ·rintro j y σ H2 hj ⟨X',Y,x4',x5',x6',rfl,rfl,D2,hdone⟩;obtain⟨t,ht,rfl⟩:=dW hj;obtain⟨dr,hdr,hatd⟩:=Paired.getL hds ht;obtain⟨s,ht2,hs2⟩:=hatd.kt (ac.kt D2.same);have hmem:=aR hdr;have hXl2:=lenX D2.nd D2.new D2.sound;have hget2:(gs++(X++Y))[at_]?=some here:=by
    rw[<-cU,c9 hlt'];exact hget
   refine⟨t,_,rfl,bD.of ht2,rfl,_,_,rfl,_,_,rfl,_,_,rfl,rfl,?_⟩;have nextI:∀(H3:Hp) (X3 Y3:Zb) (q4 q5 q6:Option V),X3=X++Y3->SO H H3 ds gs f X3->(∀y∈X++Y,y∈X3)->(dr.a=here->dr.sg=am->dr.b∈gs++X3) ->
     ∃(X' Y:Zb) (x y z:Option V),[some (.ref l4),some (.ref l),some (.ref f),some (.int at_),q4,q5,q6]=[some (.ref l4),some (.ref l),some (.ref f),some (.int at_),x,y,z]/\X'=X++Y/\SO H H3 ds gs f X'/\∀d∈ds.take (j+1),d.a=here->d.sg=am->d.b∈gs++X':=by
    intro H3 X3 Y3 q4 q5 q6 e D3 hsub hnew;refine⟨X3,Y3,q4,q5,q6,rfl,e,D3,fun d hd e1 e2=>?_⟩;rw[take_snoc hdr]at hd;rcases aX.mp hd with hd|hd
    ·rcases aX.mp (hdone d hd e1 e2)with h|h
     ·exact cB _ h
     ·exact cS _ (hsub _ h)
    ·have:d=dr:=by simpa using hd
     subst this;exact hnew e1 e2
   refine⟨_,rfl,_,rfl,_,rfl,.inl ⟨f,_,_,_,rfl,rfl,aA.of D2.f,aJ (j:=at_) (by rw[bw,hget2];rfl),fK dr.a,fK here,lS _,lS _,(by show 0<=8;decide),(by show 0<=8;decide),_,rfl,?_⟩⟩;rw[Hz];by_cases c1:dr.a=here;rotate_left
   ·rw[zzr0 c1];exact bR (bR (nextI H2 _ _ _ _ _ rfl D2 (fun _ h=>h) fun e=>absurd e c1))
   rw[zzr1 c1];refine dk ?_;refine⟨_,rfl,(by show 1<=aj;decide),fun st hst=>⟨mN dr.sg,mN am,cy (bD.of (kp hs2 hst)),cy (bD.of aa),by rw[dJ];decide,by rw[dJ];decide,_,rfl,?_⟩⟩;rw[se];have D3:SO H (upd H2 st (.tup [.str "still"])) ds gs f (X++Y):=⟨kp D2.f hst,D2.same.trans (ac.new hst),D2.nd,D2.new,D2.sound⟩;have hstS:H st=none:=D2.same.free hst;generalize upd H2 st (.tup [.str "still"])=H3 at D3 ⊢;by_cases c2:dr.sg=am;rotate_left
   ·rw[zzr0 c2];exact bR (bR (nextI H3 _ _ _ _ _ rfl D3 (fun _ h=>h) fun _ e=>absurd e c2))
   rw[zzr1 c2];refine dk ?_;refine⟨_,rfl,_,rfl,fK dr.b,(gs++(X++Y)).map fK,f,_,lS _,rfl,.inl (aA.of D3.f),nT _,(by show 0<=8;decide),by rw[f_];decide,_,rfl,?_⟩;rw[if_pos rfl];by_cases c3:dr.b∈gs++(X++Y)
   ·rw[zzr1 (mv.mpr c3)];exact bR (nextI H3 _ _ _ _ _ rfl D3 (fun _ h=>h) fun _ _=>c3)
   rw[zzr0 (fun z=>c3 (mv.mp z))];refine dk ?_;refine⟨_,rfl,.inl ⟨rfl,_,aA.of D3.f⟩,_,rfl,f,_,_,rfl,rfl,D3.f,by rw[ai,az];exact gQ (by omega),?_⟩;have hedge:(⟨here,am,dr.b⟩:ao)∈ds:=by
    have:dr=⟨here,am,dr.b⟩:=by cases dr;simp only at c1 c2;rw[c1,c2]
    rw[<-this];exact hmem
   refine nextI _ (X++(Y++[dr.b])) _ _ _ _ rfl ⟨?_,?_,?_,?_,?_⟩ ?_ ?_
   ·rw[aa];have:gs++(X++(Y++[dr.b]))=gs++(X++Y)++[dr.b]:=by simp
    rw[this,ay (l₂:=[dr.b])]
    rfl
   ·intro b o q;rw[ag (ae q hf)];exact D3.same _ _ q
   ·rw[<-cU,cA];refine⟨D3.nd,by simp,fun a ha b hb e=>?_⟩;have:b=dr.b:=by simpa using hb
    exact c3 (cS _ (by rw[<-this,<-e];exact ha))
   ·intro y hy;rw[<-cU]at hy;rcases aX.mp hy with hy|hy
    ·exact D3.new y hy
    ·have:y=dr.b:=by simpa using hy
     rw[this];exact fun z=>c3 (cB _ z)
   ·intro y hy;rw[<-cU]at hy;rcases aX.mp hy with hy|hy
    ·exact D3.sound y hy
    ·have:y=dr.b:=by simpa using hy
     rw[this];exact(hfrom D.sound (aR hget)).step hedge
   ·intro y hy;rw[<-cU];exact cB _ hy
   ·intro _ _;exact cS _ (by simp)
  ·rintro σ H2 ⟨X',Y,x4',x5',x6',rfl,rfl,D2,hdone⟩;rw[ai,Paired.length hds,bt]at hdone;refine⟨_,rfl,_,_,rfl,rfl,X++Y,_,_,_,rfl,D2,?_,fun i y hi hy c hc=>?_⟩
   ·rw[<-cU,az];omega
   ·by_cases e:i=at_
    ·subst e;rw[<-cU,c9 hlt',hget]at hy;have:=eA hy;subst this;exact hdone _ hc rfl rfl
    ·have hi':i<at_:=by omega
     rw[<-cU,c9 (by omega)]at hy;have:=hcl i y hi' hy c hc;rw[<-cU];exact cB _ this
 ·have hend:at_=(gs++X).length:=by
   have:¬(at_<(gs++X).length):=fun z=>hlt (zzr1 (by rw[ai];omega));omega
  refine⟨_,rfl,k f (gs++X) H1 D.f (fun w=>⟨fun hw=>?_,fun hw=>?_⟩) (by rw[az];omega) hf D.same⟩
  ·rcases aX.mp hw with hw|hw
   ·exact⟨_,hw,.inl rfl⟩
   ·exact D.sound _ hw
  ·have closed:∀y∈gs++X,∀c,(⟨y,am,c⟩:ao)∈ds->c∈gs++X:=fun y hy c hc=>by
    obtain⟨n,hn⟩:=eZ hy;exact hcl n y (by rw[hend];exact(bO.mp hn).1) hn c hc
   obtain⟨g,hg,rfl|h⟩:=hw
   ·exact cB _ hg
   ·induction h with
    |one e=>exact closed _ (cB _ hg) _ e
    |step r e ih=>exact closed _ ih _ e

theorem AV{b:Str}(h:¬gl ds [b] a)(r:Reach (ds++[⟨a,am,b⟩]) x y):Reach ds x y∨((x=a∨Reach ds x a)/\(y=b∨Reach ds b y)):=by
 have edge:∀{u v:Str},(⟨u,am,v⟩:ao)∈ds++[⟨a,am,b⟩]->(⟨u,am,v⟩:ao)∈ds∨(u=a/\v=b):=by
  intro u v e;rcases aX.mp e with e|e
  ·exact .inl e
  ·have:(⟨u,am,v⟩:ao)=⟨a,am,b⟩:=by simpa using e
   injection this with h1 h2 h3;exact .inr ⟨h1,h3⟩
 induction r with
 |one e =>
  rcases edge e with e|⟨rfl,rfl⟩
  ·exact .inl (.one e)
  ·exact .inr ⟨.inl rfl,.inl rfl⟩
 |step r e0 ih =>
  rcases edge e0 with e|⟨rfl,rfl⟩
  ·rcases ih with ih|⟨h1,h2⟩
   ·exact .inl (.step ih e)
   ·refine .inr ⟨h1,.inr ?_⟩;rcases h2 with h2|h2
    ·exact .one (by rw[<-h2];exact e)
    ·exact .step h2 e
  ·rcases ih with ih|⟨h1,h2⟩
   ·exact .inr ⟨.inr ih,.inl rfl⟩
   ·exact absurd ⟨_,by simp,h2⟩ h
theorem xF{b:Str}(hn:∀r,¬Reach ds r r)(h:¬gl ds [b] a):∀r,¬Reach (ds++[⟨a,am,b⟩]) r r:=by
 intro r z;have no:¬(a=b∨Reach ds b a):=fun z=>h ⟨b,by simp,z⟩;rcases AV h z with z|⟨h1,h2⟩
 ·exact hn r z
 ·rcases h1 with rfl|h1
  ·exact no h2
  ·rcases h2 with rfl|h2
   ·exact no (.inr h1)
   ·exact no (.inr (h2.trans h1))
theorem aD.putStill{a b:Str}(m:aD J0 J1 J2 ds)(ha:a∈J2)(hb:b∈J2)(h:¬gl ds [b] a)(hf:ds.length<=699):aD J0 J1 J2 (lI ds ⟨a,am,b⟩):=by
 unfold lI;split
 ·exact m
 ·next hn =>
  refine{ m with nodup:=?_,good:=?_,few:=?_,noround:=xF m.noround h }
  ·rw[cA];refine⟨m.nodup,by simp,fun x hx y hy e=>?_⟩;have:y=⟨a,am,b⟩:=by simpa using hy
   subst this;exact hn (e▸hx)
  ·intro d hd;rcases aX.mp hd with hd|hd
   ·exact m.good d hd
   ·have:d=⟨a,am,b⟩:=by simpa using hd
    subst this;exact⟨ha,hb,.inr (.inr rfl)⟩
  ·rw[az];show ds.length+1<=1000;omega
theorem tN(ds:List ao)(d:ao):(lI ds d).length<=ds.length+1:=by
 unfold lI;split
 ·omega
 ·rw[az];exact aG _
def cf(ds:List ao)(sg:Zb)(J6:Zb):List Str:=J6.flatMap fun r=>bg ds (r,sg)
theorem u6{J6:Zb}{i:Nat}{r:Str}(h:J6[i]?=some r):cf ds sg (J6.take (i+1))=cf ds sg (J6.take i)++bg ds (r,sg):=by
 unfold cf;rw[take_snoc h,wg];simp
theorem rk(ds:List ao)(x:Str×List Str):(bg ds x).length<=ds.length:=by
 unfold bg;rw[ai];exact h7 _ _
theorem pf(ds:List ao)(sg:Zb):∀J6:List Str,(cf ds sg J6).length<=J6.length * ds.length
 |[]=>df _
 |r::J6=>by
  show((bg ds (r,sg))++cf ds sg J6).length<=(J6.length+1) * ds.length;rw[az,su];have h1:=rk ds (r,sg);have h2:=pf ds sg J6;omega
theorem cq{b:Str}:b∈cf ds sg J6↔∃r∈J6,(⟨r,sg,b⟩:ao)∈ds:=by
 unfold cf;rw[k4];constructor
 ·rintro⟨r,hr,h⟩;exact⟨r,hr,eM.mp h⟩
 ·rintro⟨r,hr,h⟩;exact⟨r,hr,eM.mpr h⟩
inductive oP(C:Addr)(vs:List V)(H:Hp)(Q:VK)(E:XK):Prop
 |mk (x t s:Addr) (J6 sg J0 J1 J2:Zb) (ds:List ao):(vs=[.ref x,.ref t,.ref s])->(bd C H x J0 J1 J2 ds)->(H t=some (.tup (J6.map V.str)))->(H s=some (.tup (sg.map V.str)))->(sg≠bT)->(J6.length<=1000)->(∀(t':Addr) (F:Zb) (H':Hp),H' t'=some (.tup ((J2.filter fun r=>decide (r∈F)).map V.str))->(∀w,w∈F↔gl ds (cf ds sg J6) w)->ac H H'->Q (.ref t') H')->oP C vs H Q E
theorem xA{K:Za}(hhu:∀H,bD K H hu (bT.map V.str))(h:oP C vs H Q E):
  mW K (sp_with_still C) C (iG C) hu sp2 (bH Q) (start m_ vs) H:=by
 obtain⟨x,t,s,J6,sg,J0,J1,J2,ds,rfl,M,ht,hs,hne,hz,k⟩:=h;have hdb:∀d∈ds,d.b∈J2:=fun d hd=>(M.ok.good d hd).b;have z4:=M.ok.few;refine⟨_,rfl,mN sg,mN bT,cy (bD.of hs),cy (hhu _),by rw[dJ];decide,by rw[dJ];decide,_,rfl,?_⟩;rw[se,zzr0 hne];refine bR ?_;refine⟨(by show 0<=aj;decide),fun g hg=>?_⟩;refine⟨_,rfl,t,rfl,⟨_,bD.of (kp ht hg)⟩,?_⟩;refine CY (xs:=J6.map V.str) (fun i σ H'=>∃x4:Option V,σ=[some (.ref x),some (.ref t),some (.ref s),some (.ref g),x4]/\H' g=some (.lst ((cf ds sg (J6.take i)).map V.str))/\ac H H')
  ⟨_,rfl,aa,ac.new hg⟩ (fun i σ H' _ ⟨_,_,_,S⟩=>bD.of (S _ _ ht)) ?_ ?_
 ·rintro i y σ H1 hi ⟨x4,rfl,hg1,S1⟩;obtain⟨r,hr,rfl⟩:=bE hi;have M1:=M.same S1;obtain⟨dx,fs,o1,o2,o3,o4,lv,qu,sgA,sl,ts,lps,gps,sps,g1,a1,a2,a3,a4,_⟩:=M1.at_;refine⟨_,rfl,.inl ⟨rfl,_,aA.of hg1⟩,_,rfl,x,dx,fs,rfl,g1,a2,_,rfl,_,rfl,x,s,r,sg,J0,J1,J2,ds,rfl,M1,S1 _ _ hs,fun l H2 hl fr S2=>?_⟩;have hg2:=S2 _ _ hg1;have hlen:((cf ds sg (J6.take i)).map V.str).length+((bg ds (r,sg)).map V.str).length<=aj:=by
   rw[ai,ai];have h1:=pf ds sg (J6.take i);have h2:=rk ds (r,sg);have h3:(J6.take i).length * ds.length<=1000 * 1000:=jk (by rw[aM];omega) z4;have:(1001000:Nat)<=aj:=by decide
   omega
  refine⟨g,l,_,_,rfl,rfl,hg2,hl,hlen,_,rfl,?_,?_⟩
  ·rw[aa,u6 hr,ay]
  ·intro b o q;rw[ag (ae q hg)];exact S2 _ _ (S1 _ _ q)
 ·rintro σ H1 ⟨x4,rfl,hg1,S1⟩;rw[ai,bt]at hg1;refine⟨_,rfl,_,rfl,x,g,cf ds sg J6,J0,J1,J2,ds,rfl,M.same S1,hg1,fun w hw=>?_,fun t' F H' h1 h2 S2=>k t' F H' h1 h2 (S1.trans S2)⟩;obtain⟨r,_,h⟩:=cq.mp hw;exact hdb _ h
theorem ko{ds:List ao}{i:Nat}{d:ao}{p:ao->Bool}(h:ds[i]?=some d):(ds.take (i+1)).filter p=(ds.take i).filter p++(if p d=true then[d]else[]):=by
 rw[take_snoc h,sv];congr 1;by_cases c:p d=true
 ·rw[if_pos c];simp[c]
 ·rw[if_neg c];simp[c]
def xg(K:Za)(sp_with_still:Sp)(C_Machine:Addr)(sp_Machine_rooms:Sp):TS :=
 bq (aS sp_with_still (aN V0 (AI (rL K) (dB C_Machine "rooms" sp_Machine_rooms [] E0 V0 bm) (fg) (gH (tC (.int 1))))))
def yt:List Str:=["M"]
def uH(K:Za)(sp_law_take:Sp)(sp_law_names:Sp):TS :=
 aq (aO V1 (gE K 4 (aT U2 (aT U3 (aT U4 (aT U5 (fZ)))))))
 (aq (aO (p9) U6)
 (aq (eG (CV K (ar V4 (aB (aS sp_law_names (aN V0 (dE (dh K) (aB V4))))))) (gE K 2 (aT U7 (aT U8 (fZ)))) (mY V6 V7 V8))
 (aq (aO (eB 1 [6] (cx K V4) U0 (jH) (ik K V1 V0)) U9)
 (aq (aO (aI dg (tC (.int 1)) (aS sp_law_take (aN V0 (dE (dh K) (aB V4))))) IS)
 (aq (aO (aI qh (aI qh (AI (rL K) V9 (fg) (gH (tC (.int 1)))) (AI (rL K) V9 (gH Es) (fg))) (AI (rL K) V9 (gH (tC (.int 1))) (gH Es))) U9)
 (aq (aO (eB 3 [6] (cx K V5) (gE K 3 (aT U0 (aT U1 (aT U2 (fZ))))) (jH) (bu (eJ (ik K V3 V0) V1 (ik K V3 V2)))) U5)
 (bq (bu (ar V2 (eJ V3 V9 V5))))))))))
def vd:List Str:=["pen","told","asks","says","rooms","doors","names","room","name","some","at"]
inductive dZ(C:Addr)(vs:List V)(H:Hp)(Q:VK)(E:XK):Prop
 |mk (x:Addr) (J0 J1 J2:Zb) (ds:List ao):(vs=[.ref x])->(bd C H x J0 J1 J2 ds)->(∀(t':Addr) (F:Zb) (H':Hp),H' t'=some (.tup ((J2.filter fun r=>decide (r∈F)).map V.str))->(∀w,w∈F↔gl ds (J2.take 1) w)->ac H H'->Q (.ref t') H')->dZ C vs H Q E
theorem uW{K:Za}(h:dZ C vs H Q E):xg K (sp_with_still C) C (iS C) (bH Q) (start yt vs) H:=by
 obtain⟨x,J0,J1,J2,ds,rfl,M,k⟩:=h;obtain⟨dx,fs,o1,o2,o3,o4,lv,qu,sgA,sl,ts,lps,gps,sps,g1,a1,a2,a3,a4,_⟩:=M.at_;have c1:gg (J2.map V.str) none (some 1)=(J2.take 1).map V.str:=sf J2 1;refine⟨_,rfl,_,rfl,x,dx,fs,rfl,g1,a4,x,J0,J1,J2,ds,rfl,M,fun rl hrl=>⟨_,rfl,rl,_,rfl,aA.of aa,fun l hl=>?_⟩⟩;rw[c1];have S:ac H (upd (upd H rl (.lst (J2.map V.str))) l (.lst ((J2.take 1).map V.str))):=(ac.new hrl).trans (ac.new hl);exact⟨x,l,J2.take 1,J0,J1,J2,ds,rfl,M.same S,aa,fun g hg=>fu hg,fun t' F H' h1 h2 S2=>k t' F H' h1 h2 (S.trans S2)⟩
theorem z9{K:Za}{xs ys:List V}{g:TG}{tb:TS}{D:kU}{σ:L2.St}{H:Hp}(hxy:xs.length=ys.length)(Pv:Nat->L2.St->Hp->Prop)(h0:Pv 0 σ H)(hl:∀i σ H,i<=xs.length->Pv i σ H->aA K H a xs/\aA K H b ys)
  (hs:∀i x y σ H p,xs[i]?=some x->ys[i]?=some y->Pv i σ H->H p=none->g (.ref p) σ (upd H p (.tup [x,y])) fun σ2 H2=>tb { D with nx:=Pv (i+1),ct:=Pv (i+1),bk:=D.nx } σ2 H2) (hd:∀σ H,Pv xs.length σ H->D.nx σ H) :
  ∃W:Nat->Nat->L2.St->Hp->Prop,(∃m,W 0 m σ H)/\∀i m σ H,W i m σ H ->
   ((Jx K a b).stop i H/\D.nx σ H)∨((Jx K a b).go i H/\∃N:L2.St->Hp->Prop,(∀σ' H',N σ' H'->∃m',m'<m/\W (i+1) m' σ' H')/\∀x H',(Jx K a b).yld i H x H'->g x σ H' fun σ2 H2=>tb { D with nx:=N,ct:=N,bk:=D.nx } σ2 H2):=by
 refine⟨fun i m σ H=>m=xs.length-i/\i<=xs.length/\Pv i σ H,⟨xs.length,by simp,df _,h0⟩,?_⟩;rintro i m σ H ⟨rfl,hi,p⟩;obtain⟨q1,q2⟩:=hl i σ H hi p;by_cases hlt:i<xs.length
 ·have hlt2:i<ys.length:=by omega
  refine .inr ⟨⟨xs,ys,xs[i],ys[i],q1,q2,by simp[hlt],by simp[hlt2]⟩,Pv (i+1),fun σ' H' p'=>⟨xs.length-(i+1),by omega,rfl,hlt,p'⟩,fun x H' y=>?_⟩;obtain⟨t,u,v,rfl,hn,hu,hv,rfl⟩:=y;exact hs i u v σ H t (hu xs q1) (hv ys q2) p hn
 ·have e:i=xs.length:=by omega
  subst e;exact .inl ⟨⟨xs,ys,q1,q2,.inl (aG _)⟩,hd σ H p⟩
def EA(ps:List (Str×Str)):List (eS×V):=ps.map fun x=>(.inr x.1,.str x.2)
def Dw:List (Str×Str)->Str->Str
 |[],r=>r
 | (a,b)::ps,r=>if a=r then b else Dw ps r
theorem CM{r:Str}:∀{ps:List (Str×Str)},r∈ps.map (·.1)->bP (EA ps) (.inr r:eS)=some (.str (Dw ps r))
 |[],h=>by cases h
 | (a,b)::ps,h=>by
  unfold EA bP Dw;rw[bb,lA];by_cases c:a=r
  ·rw[if_pos c,zzr1 (by rw[c])]
   rfl
  ·rw[if_neg c,zzr0 (fun z=>c (by injection z))];have:r∈ps.map (·.1):=by
    rcases bM.mp h with z|z
    ·exact absurd z.symm c
    ·exact z
   exact CM this
theorem zK{r:Str}:∀{ps:List (Str×Str)},r∉ps.map (·.1)->bP (EA ps) (.inr r:eS)=none
 |[],_=>rfl
 | (a,b)::ps,h=>by
  unfold EA bP;rw[bb,lA,zzr0 (fun z=>h (by injection z with z;rw[bb];exact bM.mpr (.inl z.symm)))];exact zK fun z=>h (by rw[bb];exact cT _ z)
theorem FA{ps:List (Str×Str)}{r w:Str}(h:r∉ps.map (·.1)):cR (EA ps) (.inr r) (.str w)=EA (ps++[(r,w)]):=by
 rw[fU _ (zK h)];unfold EA;rw[ay]
 rfl
theorem wV:∀{rs ws:Zb},ws.length=rs.length->(rs.zip ws).map (·.1)=rs
 |[],_,_=>by simp
 |_::_,[],h=>by cases h
 |r::rs,w::ws,h=>by
  rw[List.zip_cons_cons,bb,wV (by simpa using h)]
theorem Cw:∀{rs ws:Zb},rs.Nodup->ws.length=rs.length->rs.map (Dw (rs.zip ws))=ws
 |[],[],_,_=>rfl
 |[],_::_,_,h=>by cases h
 |_::_,[],_,h=>by cases h
 |r::rs,w::ws,nd,h=>by
  rw[List.zip_cons_cons,bb];have nd':=kJ.mp nd;have e1:Dw ((r,w)::rs.zip ws) r=w:=by unfold Dw;rw[if_pos rfl]
  have e2:rs.map (Dw ((r,w)::rs.zip ws))=rs.map (Dw (rs.zip ws)):=by
   refine List.map_congr_left fun x hx=>?_;show(if r=x then w else Dw (rs.zip ws) x)=_
   rw[if_neg (fun z=>nd'.1 (by rw[z];exact hx))]
  rw[e1,e2,Cw nd'.2 (by simpa using h)]
def d9(f:Str->Str)(d:ao):ao:=⟨f d.a,d.sg,f d.b⟩
theorem IM{J2 ws:Zb}{f:Str->Str}(hf:J2.map f=ws)(nd:ws.Nodup){a b:Str}(ha:a∈J2)(hb:b∈J2)(e:f a=f b):a=b:=by
 obtain⟨i,hi⟩:=eZ ha;obtain⟨j,hj⟩:=eZ hb;have h1:ws[i]?=some (f a):=by rw[<-hf,bw,hi];rfl
 have h2:ws[j]?=some (f a):=by rw[<-hf,bw,hj,e];rfl
 have:=r_ nd h1 h2;subst this;rw[hi]at hj;exact eA hj
theorem Dx{J2:Zb}{f:Str->Str}{ds:List ao}(inj:∀a∈J2,∀b∈J2,f a=f b->a=b)(hin:∀d∈ds,d.a∈J2/\d.b∈J2)(h:Reach (ds.map (d9 f)) x y):
  ∃a∈J2,∃b∈J2,x=f a/\y=f b/\Reach ds a b:=by
 have edge:∀{u v:Str},(⟨u,am,v⟩:ao)∈ds.map (d9 f)->∃a b,(⟨a,am,b⟩:ao)∈ds/\u=f a/\v=f b:=by
  intro u v e;obtain⟨⟨a,s,b⟩,hd,e⟩:=ap.mp e;unfold d9 at e;injection e with e1 e2 e3;simp only at e2;subst e2;exact⟨a,b,hd,e1.symm,e3.symm⟩
 induction h with
 |one e =>
  obtain⟨a,b,hd,rfl,rfl⟩:=edge e;exact⟨a,(hin _ hd).1,b,(hin _ hd).2,rfl,rfl,.one hd⟩
 |step r e ih =>
  obtain⟨a,ha,b,hb,e1,e2,hr⟩:=ih;obtain⟨a',b',hd,e3,rfl⟩:=edge e;have:b=a':=inj b hb a' (hin _ hd).1 (e2.symm.trans e3);subst this;exact⟨a,ha,b',(hin _ hd).2,e1,rfl,.step hr hd⟩
theorem aD.renamed{rooms':Zb}{f:Str->Str}(m:aD J0 J1 J2 ds)(okw:iC ws)(hf:J2.map f=ws)(hp:rooms'.Perm ws):aD J0 J1 rooms' (ds.map (d9 f)):=by
 have hlen:rooms'.length=J2.length:=by rw[hp.length_eq,<-hf,ai]
 have inj:∀a∈J2,∀b∈J2,f a=f b->a=b:=fun a ha b hb e=>IM hf okw.1 ha hb e;have hin:∀d∈ds,d.a∈J2/\d.b∈J2:=fun d hd=>⟨(m.good d hd).a,(m.good d hd).b⟩;have hmem:∀a∈J2,f a∈rooms':=fun a ha=>hp.mem_iff.mpr (by rw[<-hf];exact k5 ha);refine{ m with okR:=⟨hp.nodup_iff.mpr okw.1,fun w hw=>okw.2 w (hp.mem_iff.mp hw)⟩,rooms0:=?_,rooms26:=by rw[hlen];exact m.rooms26,nodup:=?_,good:=?_,few:=by rw[ai];exact m.few,noround:=?_ }
 ·intro z;rw[z]at hlen;exact m.rooms0 (List.eq_nil_of_length_eq_zero hlen.symm)
 ·refine List.Pairwise.map _ ?_ (List.Pairwise.and_mem.mp m.nodup);rintro⟨a,s,b⟩ ⟨a',s',b'⟩ ⟨h1,h2,hne⟩ e;unfold d9 at e;injection e with e1 e2 e3;simp only at e1 e2 e3;refine hne ?_;rw[inj a (hin _ h1).1 a' (hin _ h2).1 e1,e2,inj b (hin _ h1).2 b' (hin _ h2).2 e3]
 ·intro d hd;obtain⟨d0,hd0,rfl⟩:=ap.mp hd;exact⟨hmem _ (hin _ hd0).1,hmem _ (hin _ hd0).2,(m.good d0 hd0).sg⟩
 ·intro r z;obtain⟨a,ha,b,hb,e1,e2,hr⟩:=Dx inj hin z;have:=inj a ha b hb (e1.symm.trans e2);subst this;exact m.noround a hr
theorem Ei(ws:Zb){j k:Nat}(hj:j<=k)(hk:k<=ws.length):gg (ws.map V.str) (some (j:Int)) (some (k:Int))=((ws.drop j).take (k-j)).map V.str:=by
 unfold gg;rw[HT.sIx_nat,HT.sIx_nat,ai,wk hk,wk (bL hj hk),nj,wm]
theorem yN(ws:Zb)(n:Nat):(ws.take 1++ws.drop (1+n)++(ws.drop 1).take (1+n-1)).Perm ws:=by
 have e:ws.drop (1+n)=(ws.drop 1).drop n:=by rw[List.drop_drop]
 have e2:1+n-1=n:=by omega
 rw[e,e2,cU];have h:ws=ws.take 1++((ws.drop 1).take n++(ws.drop 1).drop n):=by rw[sy,sy]
 exact(List.Perm.append_left _ List.perm_append_comm).trans (by rw[<-h])
theorem HA(o:Str)(L:Zb):decide (fK o∈L.map fK)=decide (o∈L):=by
 by_cases c:o∈L
 ·rw[zzr1 (mv.mpr c),zzr1 c]
 ·rw[zzr0 (fun z=>c (mv.mp z)),zzr0 c]
theorem bD.same{K:Za}(S:ac H H')(h:bD K H a xs):bD K H' a xs:=by
 rcases h with(h|⟨o,h⟩)|h
 ·exact .inl (.inl (S _ _ h))
 ·exact .inl (.inr ⟨o,S _ _ h⟩)
 ·exact .inr h
theorem aA.same{K:Za}(S:ac H H')(h:aA K H a xs):aA K H' a xs:=by
 rcases h with(h|⟨o,h⟩)|h
 ·exact .inl (.inl (S _ _ h))
 ·exact .inl (.inr ⟨o,S _ _ h⟩)
 ·exact .inr h
mutual
theorem hE.same{K:Za}(S:ac H H'):∀{d:DT}{v:V},hE K H d v->hE K H' d v
 |.k a,v,h=>by unfold hE at h ⊢;exact h
 |.t l,v,h=>by
  unfold hE at h ⊢;obtain⟨b,xs,e,q,r⟩:=h;exact⟨b,xs,e,bD.same S q,DIns.same S r⟩
 |.s l,v,h=>by
  unfold hE at h ⊢;obtain⟨b,xs,e,q,r⟩:=h;exact⟨b,xs,e,aA.same S q,DIns.same S r⟩
theorem DIns.same{K:Za}(S:ac H H'):∀{ds:List DT}{vs:List V},DIns K H ds vs->DIns K H' ds vs
 |[],vs,h=>by unfold DIns at h ⊢;exact h
 |d::ds,vs,h=>by
  unfold DIns at h ⊢;obtain⟨v,us,e,q,r⟩:=h;exact⟨v,us,e,hE.same S q,DIns.same S r⟩
end
theorem DIns.get{K:Za}:∀{ds:List DT}{vs:List V}{i:Nat}{v:V},DIns K H ds vs->vs[i]?=some v->∃d,ds[i]?=some d/\hE K H d v
 |[],vs,i,v,h,e=>by unfold DIns at h;subst h;simp at e
 |d::ds,vs,i,v,h,e=>by
  unfold DIns at h;obtain⟨v',us,rfl,q,r⟩:=h;cases i with
  |zero=>simp at e;subst e;exact⟨d,rfl,q⟩
  |succ i =>
   simp at e;obtain⟨d',h1,h2⟩:=DIns.get r e;exact⟨d',by simpa using h1,h2⟩
theorem DIns.len{K:Za}:∀{ds:List DT}{vs:List V},DIns K H ds vs->vs.length=ds.length
 |[],vs,h=>by unfold DIns at h;subst h;rfl
 |d::ds,vs,h=>by
  unfold DIns at h;obtain⟨v',us,rfl,q,r⟩:=h;rw[cZ,cZ,DIns.len r]
theorem nS{n:Nat}:∀{ds:List DT}{i:Nat}{d:DT},DT.depths ds<=n->ds[i]?=some d->d.depth<=n
 |[],i,d,_,e=>by simp at e
 |x::ds,i,d,h,e=>by
  have h':max (DT.depth x) (DT.depths ds)<=n:=h;cases i with
  |zero=>simp at e;subst e;omega
  |succ i=>simp at e;exact nS (by omega) e
theorem Hx{l:List DT}{n:Nat}(h:(DT.t l).depth<=n+1):DT.depths l<=n:=by
 have:DT.depths l+1<=n+1:=h;omega
theorem Hy{l:List DT}{n:Nat}(h:(DT.s l).depth<=n+1):DT.depths l<=n:=by
 have:DT.depths l+1<=n+1:=h;omega
theorem Gj{l:List DT}{n:Nat}(h:(DT.t l).depth<=n):1<=n:=by
 have:DT.depths l+1<=n:=h;omega
theorem Gk{l:List DT}{n:Nat}(h:(DT.s l).depth<=n):1<=n:=by
 have:DT.depths l+1<=n:=h;omega
inductive Kd(K:Za)(H:Hp):DT->V->Prop
 |int (i:Int):Kd K H (.k (.inl i)) (.int i)
 |str (x:Str):Kd K H (.k (.inr x)) (.str x)
 |tup {a:Addr}{xs:List V}{l:List DT}(q:bD K H a xs) (r:DIns K H l xs):Kd K H (.t l) (.ref a)
 |lst {a:Addr}{xs:List V}{l:List DT}(q:aA K H a xs) (r:DIns K H l xs):Kd K H (.s l) (.ref a)
theorem hE.kd{K:Za}:∀{d:DT}{v:V},hE K H d v->Kd K H d v
 |.k (.inl i),v,h=>by unfold hE at h;subst h;exact .int i
 |.k (.inr x),v,h=>by unfold hE at h;subst h;exact .str x
 |.t l,v,h=>by
  unfold hE at h;obtain⟨b,xs,rfl,q,r⟩:=h;exact .tup q r
 |.s l,v,h=>by
  unfold hE at h;obtain⟨b,xs,rfl,q,r⟩:=h;exact .lst q r
theorem mE(c:Bool):(!decide (V.bl c=V.bl c))=false:=by rw[zzr1 rfl];rfl
theorem qV{K:Za}{Q:VK}{x:V}{b:Addr}(ty:Il K H (.ref b) t)(hi:vg K t (.type "int")=some false)(hs:vg K t (.type "str")=some false)
  (k:(aq (cn (EN (a_ (aI Fj (dE (qg K) (aN V1 (tC (.ty "tuple")))) (dE (qg K) (aN V0 (tC (.ty "tuple")))))) (a_ (aI Fj (dE (qg K) (aN V1 (tC (.ty "list")))) (dE (qg K) (aN V0 (tC (.ty "list"))))))) (bq (tC (.bl false))) (bv))
 (aq (cn (a_ (aI Fj (dE (dh K) (aB V0)) (dE (dh K) (aB V1)))) (bq (tC (.bl false))) (bv))
 (aq (eG (CV K (aN V0 V1)) (gE K 2 (aT U2 (aT U3 (fZ)))) (cn (EQ (tB (aS sp (aN V2 V3)))) (bq (tC (.bl false))) (bv)))
 (bq (tC (.bl true)))))) (bH Q) [some x,some (.ref b),none,none] H) :
  sW K sp (bH Q) [some x,some (.ref b),none,none] H:=by
 have e1:decide (V.ref b=V.non)=false:=zzr0 nofun;have e2:∀c,decide (V.ref b=V.bl c)=false:=fun c=>zzr0 nofun;refine⟨_,rfl,_,rfl,?_⟩;rw[e1];refine bR ?_;refine⟨_,rfl,_,rfl,_,rfl,?_⟩;rw[e2];refine bR ?_;refine⟨_,rfl,_,rfl,_,rfl,?_⟩;rw[e2];refine bR ?_;refine⟨_,rfl,.ref b,"int",t,false,rfl,ty,hi,_,rfl,bR ?_⟩;refine⟨_,rfl,.ref b,"str",t,false,rfl,ty,hs,_,rfl,bR ?_⟩;exact k
def yR(K:Za):TS :=
 bq (aI qh (aI qh (eB 1 [] (cx K (aI (vD K) V0 (tC (.int 0)))) U0 (jH) (bu (aN (tC (.str "ask")) V0))) (eB 1 [] (cx K (aI (vD K) V0 (tC (.int 1)))) U0 (jH) (bu (aN (tC (.str "say")) V0)))) (c_ (aB (bu (aB (tC (.str "hush")))))))
def Al:List Str:=["told"]
open Classical in
def closF(J2:Zb)(ds:List ao)(gs:Zb):List Str:=J2.filter fun r=>decide (gl ds gs r)
open Classical in
theorem Ad{J2 F gs:Zb}(hF:∀w,w∈F↔gl ds gs w):J2.filter (fun r=>decide (r∈F))=closF J2 ds gs:=by
 unfold closF;refine List.filter_congr fun r _=>?_;by_cases c:r∈F
 ·rw[zzr1 c,zzr1 ((hF r).mp c)]
 ·rw[zzr0 c,zzr0 fun z=>c ((hF r).mpr z)]
theorem jZ{gs:Zb}:∀r∈closF J2 ds gs,r∈J2:=fun r h=>(be.mp h).1
def behF(J2:Zb)(ds:List ao)(J6 sg:Zb):List Str:=if sg=bT then J6.filter (fun r=>decide (r∉kj ds))else closF J2 ds (cf ds sg J6)
theorem uk{J2 J6:Zb}(hf:∀r∈J6,r∈J2):∀r∈behF J2 ds J6 sg,r∈J2:=by
 intro r h;unfold behF at h;split at h
 ·exact hf r (be.mp h).1
 ·exact jZ r h
theorem Fo{J2:Zb}{fc:Zb}(hfc:∀r∈fc,r∈J2):(fc.filter fun r=>decide (r∈J2.filter (ff ds)))=fc.filter fun r=>decide (r∉kj ds):=by
 refine List.filter_congr fun r hr=>?_;rw[<-tM];cases q:ff ds r with
 |true=>exact zzr1 (be.mpr ⟨hfc r hr,q⟩)
 |false=>exact zzr0 (fun z=>by rw[(be.mp z).2]at q;cases q)
inductive rW(K:Za)(C:Addr)(vs:List V)(H:Hp)(Q:VK)(E:XK):Prop
 |mk (x t s:Addr) (J6 sg J0 J1 J2:Zb) (ds:List ao):(vs=[.ref x,.ref t,.ref s])->(bd C H x J0 J1 J2 ds)->(H t=some (.tup (J6.map V.str)))->(bD K H s (sg.map V.str))->((sg=bT∨H s=some (.tup (sg.map V.str))))->((∀r∈J6,r∈J2))->(J6.length<=1000)->(∀(t':Addr) (H':Hp),H' t'=some (.tup ((behF J2 ds J6 sg).map V.str))->ac H H'->Q (.ref t') H')->rW K C vs H Q E
theorem G7{K:Za}(hhu:∀H,bD K H hu (bT.map V.str))(h:rW K C vs H Q E):
  mW K (sp_with_still C) C (iG C) hu (hU C) (bH Q) (start m_ vs) H:=by
 obtain⟨x,t,s,J6,sg,J0,J1,J2,ds,rfl,M,ht,hs,hor,hsub,hz,k⟩:=h;by_cases hh:sg=bT;rotate_left
 ·refine xA (E:=E) hhu ⟨x,t,s,J6,sg,J0,J1,J2,ds,rfl,M,ht,hor.resolve_left hh,hh,hz,fun t' F H' h1 hF S=>k t' H' ?_ S⟩;rw[h1,Ad hF];unfold behF;rw[if_neg hh]
 subst hh;refine⟨_,rfl,mN bT,mN bT,cy hs,cy (hhu _),by rw[dJ];decide,by rw[dJ];decide,_,rfl,?_⟩;rw[zzr1 rfl];refine dk ?_;refine⟨_,rfl,t,rfl,⟨_,bD.of ht⟩,fun f hf=>?_⟩;refine Gs (xs:=J6.map V.str) (fun i vs H'=>vs=((J6.take i).filter fun r=>decide (r∈J2.filter (ff ds))).map V.str/\ac H H'/\H' f=some (.lst vs)) ⟨rfl,ac.new hf,aa⟩ (fun i vs H' _ ⟨_,S,h'⟩=>⟨h',bD.of (S _ _ ht)⟩) ?_ ?_
 ·rintro vs H' ⟨rfl,S,f'⟩;rw[ai,bt]at f';refine⟨f,_,rfl,.inl ⟨aA.of f',fun t' ht'=>k t' _ ?_ (S.trans (ac.new ht'))⟩⟩;rw[aa,Fo hsub];unfold behF;rw[if_pos rfl]
 ·rintro i vs H' x' hx' hi ⟨rfl,S,f'⟩;obtain⟨r,hr,rfl⟩:=bE hx';have M':=M.same S;obtain⟨dx,fs,o1,o2,o3,o4,lv,qu,sgA,sl,ts,lps,gps,sps,g1,a1,_⟩:=M'.at_;refine gN ?_;refine⟨_,rfl,x,dx,fs,rfl,g1,a1,_,rfl,x,r,J0,J1,J2,ds,rfl,M',_,rfl,?_⟩;have hlen:(((J6.take i).filter fun r=>decide (r∈J2.filter (ff ds))).map V.str).length<aj:=by
   rw[ai];refine ax (bL (h7 _ _) ?_);rw[aM];omega
  refine i6 (fun hq=>?_) (fun hq=>?_)
  ·refine⟨_,rfl,f',hlen,uB hi ⟨?_,?_,aa⟩⟩
   ·rw[fI hr,if_pos hq,ay];rfl
   ·intro b o q;rw[ag (ae q hf)];exact S _ _ q
  ·refine uB hi ⟨?_,S,f'⟩;rw[fI hr,if_neg hq,gJ]
theorem t_(ds:List ao):DT.depths (ds.map ya)<=2:=by
 induction ds with
 |nil=>exact df _
 |cons x xs ih=>rw[bb];show max (DT.depth (ya x)) (DT.depths _)<=2;rw[x_];omega
theorem vz(g:Ao J0 J1 J2 dr):∃s0 rest,dr.sg=s0::rest/\(!decide (V.str s0=V.str ("ask":Str)))=!m8 dr:=by
 obtain⟨s0,rest,hsg⟩:∃s0 rest,dr.sg=s0::rest:=by
  rcases g.sg with⟨w,_,e⟩|⟨w,_,e⟩|e<;>exact⟨_,_,e⟩
 refine⟨s0,rest,hsg,?_⟩;unfold m8;rw[hsg];congr 1;show _=decide (s0=("ask":Str));by_cases c:s0=("ask":Str)
 ·rw[zzr1 c,zzr1 (by rw[c])]
 ·rw[zzr0 c,zzr0 (fun z=>c (by injection z))]
abbrev mP(H:Hp)(us:Ze)(L:List (List Str)):Prop:=Paired (SignAt H) us L
theorem mP.kt(k:ii H H')(h:mP H us L):mP H' us L:=Paired.mapP h fun _ _ r=>k _ _ r
theorem mP.dIns{K:Za}:∀{us:Ze}{L:List (List Str)},mP H us L->DIns K H (L.map mN) (us.map V.ref)
 |_,_,.nil=>by show DIns K H [] [];unfold DIns;rfl
 |_,_,.cons r t=>by
  rw[bb,bb];unfold DIns;exact⟨_,_,rfl,cy (bD.of r),mP.dIns t⟩
theorem t9(L:List (List Str)):DT.depths (L.map mN)<=1:=by
 induction L with
 |nil=>exact df _
 |cons x xs ih=>rw[bb];show max (DT.depth (mN x)) (DT.depths _)<=1;rw[dJ];omega
def av(J0 J1:Zb):List (List Str):=J0.map cP++J1.map kO++[bT]
inductive oJ (vs:List V)(H:Hp)(Q:VK)(E:XK):Prop
 |mk (t l1 l2 l3 l4:Addr) (ts:Ze) (J0 J1 J2:Zb) (ds:List ao):(vs=[.ref t])->(iB H t l1 l2 l3 l4 ts J0 J1 J2 ds)->(aD J0 J1 J2 ds)->(∀(l:Addr) (us:Ze) (H':Hp),H' l=some (.lst (us.map V.ref))->mP H' us (av J0 J1)->H l=none->ac H H'->Q (.ref l) H')->oJ  vs H Q E
theorem kq{K:Za}{H:Hp}{a l:Addr}{ws:Zb}{kd:Str}{Q:Hp->Prop}(ha:H a=some (.lst (ws.map V.str)))(hz:ws.length<=1000)(hl:H l=none)
  (k:∀(us:Ze) (H':Hp),H' l=some (.lst (us.map V.ref))->mP H' us (ws.map fun w=>[kd,w])->ac H H'->Q H') :
  gu 1 [] σ (GI K a) U0 jH (bu (aN (tC (.str kd)) V0)) H l Q:=by
 refine cX (xs:=ws.map V.str) (fun i vs H'=>∃us:List Addr,vs=us.map V.ref/\ac H H'/\H' l=some (.lst vs)/\mP H' us ((ws.take i).map fun w=>[kd,w])) ⟨[],rfl,ac.new hl,aa,.nil⟩ (fun i vs H' _ ⟨_,_,S,h',_⟩=>⟨h',aA.of (S _ _ ha)⟩) ?_ ?_
 ·rintro vs H' ⟨us,rfl,S,h',hP⟩;rw[ai,bt]at hP;exact k us H' h' hP S
 ·rintro i vs H' x' hx' hi ⟨us,rfl,S,f',hP⟩;obtain⟨w,hw,rfl⟩:=bE hx';refine gN (rC ?_);refine⟨_,rfl,(by show 2<=aj;decide),fun u hu=>⟨kp f' hu,?_,uB hi ⟨us++[u],by rw[ay];rfl,?_,aa,?_⟩⟩⟩
  ·rw[ai,Paired.length hP,ai,aM];exact ax (by omega)
  ·intro b o q;rw[ag (ae q hl)];exact kp (S _ _ q) hu
  ·rw[take_snoc hw,ay];have hk:ii H' (upd (upd H' u (.tup [.str kd,.str w])) l (.lst (us.map V.ref++[.ref u]))):=(ac.kt (ac.new hu)).trans (cJ (kp f' hu));exact cG (mP.kt hk hP) ((cJ (kp f' hu)) _ _ aa)
theorem EX{K:Za}(h:oJ vs H Q E):yR K (bH Q) (start Al vs) H:=by
 obtain⟨t,l1,l2,l3,l4,ts,J0,J1,J2,ds,rfl,T,m,k⟩:=h;have z1:=m.asks4;have z2:=m.says4;refine⟨_,rfl,.inr (.inl ⟨t,_,0,_,rfl,rfl,bD.of T.t,rfl,l1,rfl,⟨_,aA.of T.a1⟩,fun la hla=>?_⟩)⟩;refine kq (kd:="ask") T.a1 (by omega) hla fun ua H1 h1 hP1 S1=>?_;have T1:=T.same S1;refine⟨_,rfl,.inr (.inl ⟨t,_,1,_,rfl,rfl,bD.of T1.t,rfl,l2,rfl,⟨_,aA.of T1.a2⟩,fun ls hls=>?_⟩)⟩;refine kq (kd:="say") T1.a2 (by omega) hls fun us H2 h2 hP2 S2=>?_;have h12:=S2 _ _ h1;have hP12:=mP.kt (ac.kt S2) hP1;refine⟨la,ls,_,_,rfl,rfl,h12,h2,?_,fun c1 hc1=>?_⟩
 ·rw[ai,ai,Paired.length hP1,Paired.length hP2,ai,ai];exact eo (ax (by omega))
 refine⟨(by show 1<=aj;decide),fun hh hhh=>⟨(by show 1<=aj;decide),fun hl hhl=>?_⟩⟩;refine⟨c1,hl,_,_,rfl,rfl,kp (kp aa hhh) hhl,aa,?_,fun r hr=>?_⟩
 ·rw[az,ai,ai,Paired.length hP1,Paired.length hP2,ai,ai];exact eo (ax (by show _+1<=1000;omega))
 have S3:=(((ac.new (o:=.lst (ua.map V.ref++us.map V.ref)) hc1).trans (ac.new (o:=.tup [.str "hush"]) hhh)).trans (ac.new (o:=.lst [.ref hh]) hhl)).trans (ac.new (o:=.lst (ua.map V.ref++us.map V.ref++[.ref hh])) hr);refine k r (ua++us++[hh]) _ ?_ ?_ ?_ ((S1.trans S2).trans S3)
 ·rw[aa,ay,ay];rfl
 ·refine Paired.app (Paired.app (mP.kt (ac.kt S3) hP12) (mP.kt (ac.kt S3) hP2)) (.cons ?_ .nil);exact kp (kp aa hhl) hr
 ·exact(((S1.trans S2).trans ((ac.new hc1).trans (ac.new hhh))).trans (ac.new hhl)).free hr
theorem Gq(xs:List V)(k:Nat):gg xs none (some (k:Int))=xs.take k:=by
 unfold gg;rw[HT.sIx_none,HT.sIx_nat,jn,ww,List.take_eq_take_iff];omega
theorem Paired.takeP{α β:Type}{R:α->β->Prop}:∀(n:Nat) {xs:List α}{ys:List β},Paired R xs ys->Paired R (xs.take n) (ys.take n)
 |0,_,_,_=>by rw[pK,pK];exact .nil
 |_+1,_,_,.nil=>.nil
 |n+1,_,_,.cons r t=>.cons r (Paired.takeP n t)
def sY(K:Za):TS :=
 bq (dE (dC K) (aB (fP K V0 "own_asks")))
def uu:List Str:=["self"]
def sX(K:Za):TS :=
 bq (dE (dC K) (aB (fP K V0 "own_says")))
def ut:List Str:=["self"]
def lD(K:Za):TS :=
 bq (dE (dC K) (aB (tw K (fP K V0 "leaving") V1 (bu (bm)))))
def lY:List Str:=["self","room"]
theorem nN(h:bd C H x J0 J1 J2 ds):∃(dx:Addr) (fs:List (Str×V)) (o1 o2 lv:Addr) (lps:List (Str×Addr)),H x=some (.ins C dx fs)/\lk "asks" fs=none/\lk "says" fs=none/\lk "doors_from" fs=none/\lk "is_quiet" fs=none/\lk "own_asks" fs=some (.ref o1)/\lk "own_says" fs=some (.ref o2)/\lk "leaving" fs=some (.ref lv) /\
  H o1=some (.lst (J0.map V.str))/\H o2=some (.lst (J1.map V.str))/\lps.map (·.1)=J2/\H lv=some (.dK (dY Sum.inr lps))/\(∀x∈lps,∃us,H x.2=some (.lst (us.map V.ref))/\cj H us (br ds x.1)):=by
 obtain⟨dx,fs,o1,o2,o3,o4,lv,qu,sg,sl,ts,lps,gps,sps,g1,a1,a2,a3,a4,b1,b2,b3,b4,b5,b6,b7,b8,L,c1,c2,c3,c4,G,d1,d2,d3⟩:=h.at_;obtain⟨dx',fs',g1',e1,e2,e3,e4⟩:=h.more;rw[g1]at g1';cases g1';exact⟨dx,fs,o1,o2,lv,lps,g1,e1,e2,e4,a1,b1,b2,b5,L.a1,L.a2,c1,c2,c3⟩
inductive mh(C:Addr)(vs:List V)(H:Hp)(Q:VK)(E:XK):Prop
 |mk (x:Addr) (J0 J1 J2:Zb) (ds:List ao):(vs=[.ref x])->(bd C H x J0 J1 J2 ds)->(∀l,H l=none->Q (.ref l) (upd H l (.lst (J0.map V.str))))->mh C vs H Q E
theorem G_{K:Za}(M:MC K C)(h:mh C vs H Q E):sY K (bH Q) (start uu vs) H:=by
 obtain⟨x,J0,J1,J2,ds,rfl,h,k⟩:=h;obtain⟨dx,fs,o1,o2,lv,lps,g1,a1,a2,a3,a4,b1,b2,b3,c1,c2,_⟩:=nN h;exact⟨_,rfl,x,C,dx,fs,.ref o1,rfl,g1,M.cls,M.a1,b1,.inl ⟨o1,_,rfl,.inl (aA.of c1),k⟩⟩
inductive oK(C:Addr)(vs:List V)(H:Hp)(Q:VK)(E:XK):Prop
 |mk (x:Addr) (J0 J1 J2:Zb) (ds:List ao):(vs=[.ref x])->(bd C H x J0 J1 J2 ds)->(∀l,H l=none->Q (.ref l) (upd H l (.lst (J1.map V.str))))->oK C vs H Q E
theorem G3{K:Za}(M:MC K C)(h:oK C vs H Q E):sX K (bH Q) (start ut vs) H:=by
 obtain⟨x,J0,J1,J2,ds,rfl,h,k⟩:=h;obtain⟨dx,fs,o1,o2,lv,lps,g1,a1,a2,a3,a4,b1,b2,b3,c1,c2,_⟩:=nN h;exact⟨_,rfl,x,C,dx,fs,.ref o2,rfl,g1,M.cls,M.a2,b2,.inl ⟨o2,_,rfl,.inl (aA.of c2),k⟩⟩
inductive hC(C:Addr)(vs:List V)(H:Hp)(Q:VK)(E:XK):Prop
 |mk (x:Addr) (r:Str) (J0 J1 J2:Zb) (ds:List ao):(vs=[.ref x,.str r])->(bd C H x J0 J1 J2 ds)->(r∈J2)->(∀(l:Addr) (us:Ze) (H':Hp),H' l=some (.lst (us.map V.ref))->cj H' us (br ds r)->H l=none->ac H H'->Q (.ref l) H')->hC C vs H Q E
theorem uY{K:Za}(M:MC K C)(h:hC C vs H Q E):lD K (bH Q) (start lY vs) H:=by
 obtain⟨x,r,J0,J1,J2,ds,rfl,h,hr,k⟩:=h;obtain⟨dx,fs,o1,o2,lv,lps,g1,a1,a2,a3,a4,b1,b2,b3,c1,c2,c3,c4,c5⟩:=nN h;have nod:=h.ok.okR.1;obtain⟨⟨r',a⟩,hra,er⟩:=ap.mp (show r∈lps.map (·.1) by rw[c3];exact hr);obtain rfl:r'=r:=er;obtain⟨us,e1,e2⟩:=c5 _ hra;refine⟨_,rfl,x,C,dx,fs,.ref lv,rfl,g1,M.cls,M.a5,b3,lv,rfl,.inl ⟨_,.inl c4⟩,_,rfl,(by show 0<=aj;decide),fun et het=>⟨_,.inl ⟨_,.inr r',.inl (kp c4 het),rfl,rfl⟩,?_⟩⟩;rw[eC iz (by rw[c3];exact nod) hra];have S1:ac H (upd H et (.tup [])):=ac.new het;refine .inl ⟨a,_,rfl,.inl (aA.of (S1 _ _ e1)),fun l hl=>k l us _ aa ?_ (S1.free hl) (S1.trans (ac.new hl))⟩;exact e2.kt (ac.kt (S1.trans (ac.new hl)))
inductive iR(K:Za)(n:Nat)(vs:List V)(H:Hp)(Q:VK)(E:XK):Prop
 |mk (x y:V) (d:DT):(vs=[x,y])->(hE K H d x)->(hE K H d y)->(d.depth<=n)->(∀H',ac H H'->Q (.bl true) H')->iR K n vs H Q E
theorem EY{K:Za}{n:Nat}(hn:n<=8){sp:Sp}(hsp:∀m,n=m+1->sp=iR K m)(h:iR K n vs H Q E):sW K sp (bH Q) (start BT vs) H:=by
 obtain⟨x,y,d,rfl,hd,he,zd,k⟩:=h;have k0:=k H (ac.refl H);have fin:∀{Q':VK},(decide (d=d)=true->Q' (.bl true) H)->Q' (.bl (decide (d=d))) H:=fun{Q'} h=>by rw[zzr1 rfl];exact h (zzr1 rfl)
 cases d with
 |k c =>
  have ey:=he;have ex:=hd;cases c with
  |inl i =>
   unfold hE at ex ey;subst ex ey;refine⟨_,rfl,_,rfl,?_⟩;rw[zzr0 nofun];refine bR ⟨_,rfl,_,rfl,_,rfl,?_⟩;rw[zzr0 nofun];refine bR ⟨_,rfl,_,rfl,_,rfl,?_⟩;rw[zzr0 nofun];refine bR ⟨_,rfl,.int i,"int",_,true,rfl,.inl (kr.int i),rfl,_,rfl,dk ?_⟩;refine⟨_,rfl,.int i,"int",_,true,rfl,.inl (kr.int i),rfl,_,rfl,dk ?_⟩;refine⟨_,rfl,.int i,"bool",_,false,rfl,.inl (kr.int i),rfl,_,rfl,_,rfl,dk ?_⟩;exact⟨_,rfl,_,rfl,_,_,hd,he,by omega,by omega,fin fun _=>k0⟩
  |inr b =>
   unfold hE at ex ey;subst ex ey;refine⟨_,rfl,_,rfl,?_⟩;rw[zzr0 nofun];refine bR ⟨_,rfl,_,rfl,_,rfl,?_⟩;rw[zzr0 nofun];refine bR ⟨_,rfl,_,rfl,_,rfl,?_⟩;rw[zzr0 nofun];refine bR ⟨_,rfl,.str b,"int",_,false,rfl,.inl (kr.str b),rfl,_,rfl,bR ?_⟩;refine⟨_,rfl,.str b,"str",_,true,rfl,.inl (kr.str b),rfl,_,rfl,dk ?_⟩;refine⟨_,rfl,.str b,"str",_,true,rfl,.inl (kr.str b),rfl,_,rfl,dk ?_⟩;exact⟨_,rfl,_,rfl,_,_,hd,he,by omega,by omega,fin fun _=>k0⟩
 |t l =>
  cases hE.kd he with
  |@tup b ys _ qe re =>
  cases hE.kd hd with
  |@tup f xs _ qd rd =>
  have ty:Il K H (.ref b) (.type "tuple"):=.inr (.inl ⟨_,_,rfl,rfl,qe⟩);have tyd:Il K H (.ref f) (.type "tuple"):=.inr (.inl ⟨_,_,rfl,rfl,qd⟩);have hl:xs.length=ys.length:=by rw[DIns.len rd,DIns.len re]
  refine qV ty rfl rfl ?_;refine⟨_,rfl,.ref b,"tuple",_,true,rfl,ty,rfl,_,rfl,.ref f,"tuple",_,true,rfl,tyd,rfl,rfl,_,rfl,?_⟩;rw[mE];refine bR ⟨_,rfl,.ref b,"list",_,false,rfl,ty,rfl,_,rfl,.ref f,"list",_,false,rfl,tyd,rfl,rfl,_,rfl,?_⟩;rw[mE];refine bR ⟨_,rfl,.inl ⟨f,_,rfl,.inr qd,_,rfl,.inl ⟨b,_,rfl,.inr qe,rfl,_,rfl,?_⟩⟩⟩;rw[show(!decide (V.int (xs.length:Nat)=V.int (ys.length:Nat)))=false by rw[hl,zzr1 rfl];rfl];refine bR ?_;obtain⟨m,rfl⟩:∃m,n=m+1:=⟨n-1,by have:=Gj zd;omega⟩;obtain rfl:=hsp m rfl;refine⟨_,rfl,_,rfl,f,b,rfl,.inr ⟨⟨_,qd⟩,⟨_,qe⟩,?_⟩⟩;refine Gb (xs:=xs) (ys:=ys) hl (fun i σ H'=>∃x y,σ=[some (.ref f),some (.ref b),x,y]/\ac H H')
   ⟨_,_,rfl,ac.refl H⟩ (fun i σ H' _ ⟨_,_,_,S⟩=>⟨bD.same S qd,bD.same S qe⟩) ?_ (fun σ H' ⟨x,y,e,S⟩=>by rw[e];exact k _ S)
  rintro i x y σ H' p hx hy ⟨x2,x3,rfl,S⟩ hp;obtain⟨du,hdu,du'⟩:=DIns.get rd hx;obtain⟨eu,heu,eu'⟩:=DIns.get re hy;obtain rfl:=eA (hdu.symm.trans heu);have S':=S.trans (ac.new (o:=.tup [x,y]) hp);refine⟨p,_,rfl,bD.of aa,rfl,_,_,rfl,_,_,rfl,rfl,?_⟩;exact⟨_,rfl,_,rfl,x,y,du,rfl,hE.same S' du',hE.same S' eu',nS (Hx zd) hdu,fun H'' S''=>⟨_,rfl,bR ⟨_,_,rfl,S'.trans S''⟩⟩⟩
 |s l =>
  cases hE.kd he with
  |@lst b ys _ qe re =>
  cases hE.kd hd with
  |@lst f xs _ qd rd =>
  have ty:Il K H (.ref b) (.type "list"):=.inr (.inr ⟨_,_,rfl,rfl,qe⟩);have tyd:Il K H (.ref f) (.type "list"):=.inr (.inr ⟨_,_,rfl,rfl,qd⟩);have hl:xs.length=ys.length:=by rw[DIns.len rd,DIns.len re]
  refine qV ty rfl rfl ?_;refine⟨_,rfl,.ref b,"tuple",_,false,rfl,ty,rfl,_,rfl,.ref f,"tuple",_,false,rfl,tyd,rfl,rfl,_,rfl,?_⟩;rw[mE];refine bR ⟨_,rfl,.ref b,"list",_,true,rfl,ty,rfl,_,rfl,.ref f,"list",_,true,rfl,tyd,rfl,rfl,_,rfl,?_⟩;rw[mE];refine bR ⟨_,rfl,.inl ⟨f,_,rfl,.inl qd,_,rfl,.inl ⟨b,_,rfl,.inl qe,rfl,_,rfl,?_⟩⟩⟩;rw[show(!decide (V.int (xs.length:Nat)=V.int (ys.length:Nat)))=false by rw[hl,zzr1 rfl];rfl];refine bR ?_;obtain⟨m,rfl⟩:∃m,n=m+1:=⟨n-1,by have:=Gk zd;omega⟩;obtain rfl:=hsp m rfl;refine⟨_,rfl,_,rfl,f,b,rfl,.inl ⟨⟨_,qd⟩,⟨_,qe⟩,?_⟩⟩;refine z9 (xs:=xs) (ys:=ys) hl (fun i σ H'=>∃x y,σ=[some (.ref f),some (.ref b),x,y]/\ac H H')
   ⟨_,_,rfl,ac.refl H⟩ (fun i σ H' _ ⟨_,_,_,S⟩=>⟨aA.same S qd,aA.same S qe⟩) ?_ (fun σ H' ⟨x,y,e,S⟩=>by rw[e];exact k _ S)
  rintro i x y σ H' p hx hy ⟨x2,x3,rfl,S⟩ hp;obtain⟨du,hdu,du'⟩:=DIns.get rd hx;obtain⟨eu,heu,eu'⟩:=DIns.get re hy;obtain rfl:=eA (hdu.symm.trans heu);have S':=S.trans (ac.new (o:=.tup [x,y]) hp);refine⟨p,_,rfl,bD.of aa,rfl,_,_,rfl,_,_,rfl,rfl,?_⟩;exact⟨_,rfl,_,rfl,x,y,du,rfl,hE.same S' du',hE.same S' eu',nS (Hy zd) hdu,fun H'' S''=>⟨_,rfl,bR ⟨_,_,rfl,S'.trans S''⟩⟩⟩

theorem Hr{n j:Nat}(h:j<n):GH n (j:Int)=some j:=by
 unfold GH;rw[if_pos (Int.natCast_nonneg j),if_pos (by omega)]
 rfl
theorem Reach.mono{ds ds':List ao}(h:∀a b,(⟨a,am,b⟩:ao)∈ds->(⟨a,am,b⟩:ao)∈ds'){a b:Str}(r:Reach ds a b):Reach ds' a b:=by
 induction r with
 |one e=>exact .one (h _ _ e)
 |step _ e ih=>exact .step ih (h _ _ e)
theorem FB{K:Za}{H:Hp}{l q:Addr}{ts:Ze}{ds:List ao}{Q:VK}(hl:H l=some (.lst (ts.map V.ref)))(hd:cj H ts ds)(hq:H q=some (.lst []))(h1:ds≠[]->Q (.bl true) H)(h2:ds=[]->Q (.bl false) H):A9 K (.ref l) (.ref q) H Q:=by
 refine⟨.s (ds.map ya),.s [],(by unfold hE;exact⟨l,_,rfl,aA.of hl,hd.dIns⟩),(by unfold hE;exact⟨q,_,rfl,aA.of hq,by unfold DIns;rfl⟩),?_,(by decide),?_⟩
 ·show DT.depths _+1<=8;have:=t_ ds;omega
 ·by_cases c:ds=[]
  ·subst c;rw[zzr1 (show DT.s (([]:List ao).map ya)=DT.s []from rfl)];exact h2 rfl
  ·rw[zzr0 (fun z=>c (by injection z with z;exact List.map_eq_nil_iff.mp z))];exact h1 c
def GQ(K:Za)(C_Machine:Addr)(sp_Machine_led_from:Sp)(sp_Machine_goals:Sp):TS :=
 bq (dE (rAny K) (ar (eB 1 [0,2] (cx K (aI qh (c_ (aB V1)) (dB C_Machine "led_from" sp_Machine_led_from [] E0 V0 (aB V1)))) U0 (jH) (aI Fm (dE (dh K) (ar (dB C_Machine "goals" sp_Machine_goals [] E0 V1 (aN V0 (bu (ar (tC (.str "ask")) (aB V2))))) bm)) (tC (.int 0)))) bm))
def HN:List Str:=["I","room","ask"]
def uG(K:Za)(sp_law_put:Sp)(sp_law_take:Sp)(sp_law_still_on:Sp):TS :=
 aq (aO V1 (gE K 4 (aT U2 (aT U3 (aT U4 (aT U5 (fZ)))))))
 (aq (aO (dE (dC K) (aB V5)) U5)
 (aq (eG (cx K V4) U6 (eG (cx K V2) U7 (aq (aO (aS sp_law_still_on (aN V5 (c_ (aB V6)))) U8)
 (cn (a_ (aI (tL K) (eB 1 [8,7] (cx K V5) U0 (uR (a_ (aI (xB K false) (aI (vD K) V0 (tC (.int 0))) V1)) (a_ (aI (tL K) (aI (vD K) V0 (tC (.int 1))) (bu (aN (tC (.str "ask")) V2))))) V0) (c_ (bm)))) (aq (aO (aI (bX K) (c_ (ar V6 (ar (aI (bX K) V4 (aS sp_law_take (aN V0 (dE (dh K) (aB V4))))) bm))) (aS sp_law_take (aN V0 (tC (.int 2))))) U9)
 (bJ (aS sp_law_put (ar V5 (ar (bu (eJ V6 (bu (aN (tC (.str "ask")) V7)) V9)) bm))))) (bv)))))
 (bq (bu (ar V2 (eJ V3 V4 V5))))))
def vc:List Str:=["pen","told","asks","says","rooms","doors","room","ask","there","other"]
def eF(ds:List ao)(r a:Str):Prop:=∃h,(h=r∨Reach ds r h)/\∃b,(⟨h,cP a,b⟩:ao)∈ds
open Classical in
def takesB(ds:List ao)(r a:Str):Bool:=decide (eF ds r a)
theorem lC:takesB ds r a=true↔eF ds r a:=by unfold takesB;exact @decide_eq_true_iff _ (Classical.propDecidable _)
theorem wZ:takesB ds r a=false↔¬eF ds r a:=by unfold takesB;exact @decide_eq_false_iff_not _ (Classical.propDecidable _)
theorem rh{h:Str}{sg:Zb}:0<(bg ds (h,sg)).length↔∃b,(⟨h,sg,b⟩:ao)∈ds:=by
 rw[List.length_pos_iff_exists_mem];constructor
 ·rintro⟨b,hb⟩;exact⟨b,eM.mp hb⟩
 ·rintro⟨b,hb⟩;exact⟨b,eM.mpr hb⟩
theorem Do{L:Zb}(hL:∀w,w∈L↔Reach ds r w):((r::L).map fun h=>decide ((0:Int)<(bg ds (h,cP a)).length)).any id=takesB ds r a:=by
 rw[vi,lC,List.any_eq_true];constructor
 ·rintro⟨b,hb,e⟩;obtain⟨h,hh,rfl⟩:=ap.mp hb;have:=of_decide_eq_true e;refine⟨h,?_,rh.mp (by omega)⟩;rcases bM.mp hh with e|e
  ·exact .inl e
  ·exact .inr ((hL h).mp e)
 ·rintro⟨h,hh,hb⟩;refine⟨true,ap.mpr ⟨h,?_,zzr1 (by have:=rh.mpr hb;omega)⟩,rfl⟩;rcases hh with e|e
  ·rw[e];exact cb
  ·exact cT _ ((hL h).mpr e)
inductive jL(C:Addr)(vs:List V)(H:Hp)(Q:VK)(E:XK):Prop
 |mk (x:Addr) (r a:Str) (J0 J1 J2:Zb) (ds:List ao):(vs=[.ref x,.str r,.str a])->(bd C H x J0 J1 J2 ds)->(r∈J2)->(∀H',ac H H'->Q (.bl (takesB ds r a)) H')->jL C vs H Q E
theorem EW{K:Za}(h:jL C vs H Q E):GQ K C (hJ C) (iG C) (bH Q) (start HN vs) H:=by
 obtain⟨x,r,a,J0,J1,J2,ds,rfl,M,hr,k⟩:=h;refine⟨_,rfl,(by show 1<=aj;decide),fun l1 hl1=>?_⟩;have S1:ac H (upd H l1 (.lst [.str r])):=ac.new hl1;have e1:upd H l1 (.lst [.str r]) l1=some (.lst [.str r]):=aa;generalize upd H l1 (.lst [.str r])=H1 at S1 e1 ⊢;have M1:=M.same S1;obtain⟨dx,fs,o1,o2,o3,o4,lv,qu,sgA,sl,ts,lps,gps,sps,g1,a1,a2,a3,a4,_⟩:=id M1.at_;refine⟨_,rfl,x,dx,fs,rfl,g1,a3,_,rfl,x,r,J0,J1,J2,ds,rfl,M1,hr,fun l2 L H2 e2 nd hL _ S2=>?_⟩;have hin:∀w∈L,w∈J2:=fun w hw=>((hL w).mp hw).in_ fun d hd=>(M.ok.good d hd).b;have zL:=lO nd hin;have z3:=M.ok.rooms26;refine⟨l1,l2,_,_,rfl,rfl,S2 _ _ e1,e2,by rw[ai];show 1+L.length<=aj;exact eo (ax (by omega)),fun l3 hl3=>?_⟩;have eq:([.str r]++L.map V.str:List V)=(r::L).map V.str:=rfl;rw[eq];have S3:ac H (upd H2 l3 (.lst ((r::L).map V.str))):=(S1.trans S2).trans (ac.new hl3);have e3:upd H2 l3 (.lst ((r::L).map V.str)) l3=some (.lst ((r::L).map V.str)):=aa;generalize upd H2 l3 (.lst ((r::L).map V.str))=H3 at S3 e3 ⊢;refine⟨l3,rfl,⟨_,aA.of e3⟩,fun q hq=>?_⟩;refine cX (xs:=(r::L).map V.str) (fun i vs H'=>vs=(((r::L).take i).map fun h=>decide ((0:Int)<(bg ds (h,cP a)).length)).map V.bl/\ac H3 H'/\H' q=some (.lst vs)) ⟨rfl,ac.new hq,aa⟩ (fun i vs H' _ ⟨_,S,h⟩=>⟨h,aA.of (S _ _ e3)⟩) ?_ ?_
 ·rintro vs H' ⟨rfl,S,h⟩;rw[ai,bt]at h;refine⟨q,_,rfl,aA.of h,?_⟩;rw[Do hL];exact k H' (S3.trans S)
 ·rintro i vs H' y hy hi ⟨rfl,S,h⟩;obtain⟨w,hw,rfl⟩:=bE hy;refine gN (rC ?_);have M':=M.same (S3.trans S);obtain⟨dx,fs,o1,o2,o3,o4,lv,qu,sgA,sl,ts,lps,gps,sps,g1,a1,a2,a3,a4,_⟩:=id M'.at_;refine⟨_,rfl,x,dx,fs,rfl,g1,a2,_,rfl,_,rfl,(by show 2<=aj;decide),fun s hs=>?_⟩;have S4:ac H' (upd H' s (.tup ((cP a).map V.str))):=ac.new hs;refine⟨x,s,w,cP a,J0,J1,J2,ds,rfl,M'.same S4,aa,fun g H5 hg _ S5=>?_⟩;have S45:=S4.trans S5;refine .inl ⟨g,_,rfl,.inl (aA.of hg),_,_,rfl,rfl,S45 _ _ h,?_,?_⟩
  ·rw[ai,ai,aM];exact ax (by rw[cZ];omega)
  refine uB hi ⟨?_,fun b o e=>?_,aa⟩
  ·rw[take_snoc hw,ay,ay];show _++[V.bl (decide ((0:Int)<(((bg ds (w,cP a)).map V.str).length:Nat)))]=_;rw[ai];rfl
  ·rw[ag (ae e hq)];exact S45 _ _ (S _ _ e)
theorem CN{K:Za}{H:Hp}{l m:Addr}{a b:Zb}{Q:VK}(hl:H l=some (.lst (a.map V.str)))(hm:H m=some (.lst (b.map V.str)))(k:Q (.bl (!decide (a=b))) H):A9 K (.ref l) (.ref m) H Q:=by
 refine⟨.s (a.map fK),.s (b.map fK),uc (aA.of hl),uc (aA.of hm),?_,?_,?_⟩
 ·show DT.depths _+1<=8;rw[f_];decide
 ·show DT.depths _+1<=8;rw[f_];decide
 ·rw[decide_eq_decide.mpr (show DT.s (a.map fK)=DT.s (b.map fK)↔a=b from⟨fun h=>hV (by injection h),fun h=>by rw[h]⟩)];exact k
def Ai(F:Zb)(a:Str)(d:ao):Bool:=decide (d.a∈F) && decide (d.sg=cP a)
theorem Ah{F:Zb}{r:Str}(hF:∀w,w∈F↔gl ds [r] w):ds.filter (Ai F a)=[]↔takesB ds r a=false:=by
 rw[wZ,List.filter_eq_nil_iff];constructor
 ·rintro h ⟨w,hw,b,hb⟩;refine h _ hb ?_;unfold Ai;rw[zzr1,zzr1]
  ·rfl
  ·rfl
  ·exact(hF w).mpr ⟨r,cb,hw⟩
 ·intro n d hd q;unfold Ai at q;rw[wM]at q;have q1:=of_decide_eq_true q.1;have q2:=of_decide_eq_true q.2;obtain⟨g,hg,e⟩:=(hF _).mp q1;have:g=r:=by simpa using hg
  subst this;obtain⟨x,sg,b⟩:=d;exact n ⟨x,e,b,by rw[<-q2];exact hd⟩
theorem Gy{K:Za}{σ:L2.St}{jt ja:Nat}{l4 f l:Addr}{ts:Ze}{F:Zb}{a:Str}{H1:Hp}{Q:Hp->Prop}(st:σ[jt]?=some (some (.ref f)))(sa:σ[ja]?=some (some (.str a)))
  (h4:H1 l4=some (.lst (ts.map V.ref))) (hd:cj H1 ts ds) (hf:H1 f=some (.lst (F.map V.str))) (z:ds.length<=1000) (hl:H1 l=none)
  (k:∀(us:Ze) (H':Hp),H' l=some (.lst (us.map V.ref))->cj H' us (ds.filter (Ai F a))->ac H1 H'->Q H') :
  gu 1 [jt,ja] σ (GI K l4) U0 (uR (a_ (aI (xB K false) (aI (vD K) V0 (tC (.int 0))) V1)) (a_ (aI (tL K) (aI (vD K) V0 (tC (.int 1))) (bu (aN (tC (.str "ask")) V2))))) V0 H1 l Q:=by
 have cs:dL 1 [jt,ja] σ=[none,some (.ref f),some (.str a)]:=by simp[dL,st,sa]
 refine cX (xs:=ts.map V.ref) (fun i vs H'=>∃us:List Addr,vs=us.map V.ref/\cj H' us ((ds.take i).filter (Ai F a))/\ac H1 H'/\H' l=some (.lst vs))
  ⟨[],rfl,.nil,ac.new hl,aa⟩ (fun i vs H' _ ⟨_,_,_,S,h'⟩=>⟨h',aA.of (S _ _ h4)⟩) ?_ ?_
 ·rintro vs H' ⟨us,rfl,D,S,h'⟩;rw[ai,Paired.length hd,bt]at D;exact k us H' h' D S
 ·rintro i vs H' y hy hi ⟨us,rfl,D,S,h'⟩;obtain⟨u,hu,rfl⟩:=dW hy;obtain⟨dr,hdr,hat⟩:=Paired.getL hd hu;obtain⟨sb,ht2,hs2⟩:=hat.kt (ac.kt S);have hi':i<ds.length:=(bO.mp hdr).1;have zu:us.length<=i:=by
   have:=Paired.length D;rw[this];refine bL (h7 _ _) ?_;rw[aM];omega
  rw[cs];refine gN ?_;refine⟨_,rfl,.inr (.inl ⟨u,_,0,_,rfl,rfl,bD.of ht2,rfl,_,rfl,fK dr.a,F.map fK,f,_,lS _,rfl,.inl (aA.of (S _ _ hf)),nT _,(by show 0<=8;decide),by rw[f_];decide,_,rfl,?_⟩)⟩;rw[if_neg gK,HA];by_cases c1:dr.a∈F;rotate_left
  ·rw[zzr0 c1];refine bR (bR (uB hi ⟨us,rfl,?_,S,h'⟩));rw[ko hdr,if_neg (by unfold Ai;rw[zzr0 c1,Ch];decide),gJ];exact D
  rw[zzr1 c1];refine dk ?_;refine⟨_,rfl,.inr (.inl ⟨u,_,1,_,rfl,rfl,bD.of ht2,rfl,_,rfl,(by show 2<=aj;decide),fun s hs=>?_⟩)⟩;have S2:ac H' (upd H' s (.tup ((cP a).map V.str))):=ac.new hs;have e2:upd H' s (.tup ((cP a).map V.str)) s=some (.tup ((cP a).map V.str)):=aa;have e2':(.tup [.str "ask",.str a]:HO)=.tup ((cP a).map V.str):=rfl;rw[e2'];generalize upd H' s (.tup ((cP a).map V.str))=H2 at S2 e2 ⊢;have D2:=D.kt (ac.kt S2);refine⟨mN dr.sg,mN (cP a),cy (bD.of (S2 _ _ hs2)),cy (bD.of e2),by rw[dJ];decide,by rw[dJ];decide,_,rfl,?_⟩;rw[se];by_cases c2:dr.sg=cP a;rotate_left
  ·rw[zzr0 c2];refine bR (uB hi ⟨us,rfl,?_,S.trans S2,S2 _ _ h'⟩);rw[ko hdr,if_neg (by unfold Ai;rw[zzr0 c2,wQ];decide),gJ];exact D2
  rw[zzr1 c2];refine dk ?_;have S3:ac H1 (upd H2 l (.lst (us.map V.ref++[.ref u]))):=fun b o q=>by
   rw[ag (ae q hl)];exact S2 _ _ (S _ _ q)
  have kt:ii H2 (upd H2 l (.lst (us.map V.ref++[.ref u]))):=fun b xs q=>by
   rw[ag (fun z=>by rw[z,S2 _ _ h']at q;cases q)];exact q
  refine⟨_,rfl,S2 _ _ h',by rw[ai];exact ax (by omega),uB hi ⟨us++[u],by rw[ay];rfl,?_,S3,aa⟩⟩;rw[ko hdr,if_pos (by unfold Ai;rw[zzr1 c1,zzr1 c2];rfl)];exact cG (D2.kt kt) ⟨sb,kt _ _ (S2 _ _ ht2),kt _ _ (S2 _ _ hs2)⟩
theorem Gg{K:Za}{H:Hp}{l q:Addr}{ts:Ze}{Q:VK}(hl:H l=some (.lst (ts.map V.ref)))(hd:cj H ts ds)(hq:H q=some (.lst []))(h:Q (.bl (decide (ds=[]))) H):tL K (.ref l) (.ref q) H Q:=by
 refine⟨.s (ds.map ya),.s [],(by unfold hE;exact⟨l,_,rfl,aA.of hl,hd.dIns⟩),(by unfold hE;exact⟨q,_,rfl,aA.of hq,by unfold DIns;rfl⟩),?_,(by decide),?_⟩
 ·show DT.depths _+1<=8;have:=t_ ds;omega
 ·rw[decide_eq_decide.mpr (show DT.s (ds.map ya)=DT.s []↔ds=[]from⟨fun z=>List.map_eq_nil_iff.mp (by injection z),fun z=>by rw[z];rfl⟩)];exact h
theorem Reach.unask{ds:List ao}{d:ao}(n:d.sg≠am)(r:Reach (ds++[d]) a b):Reach ds a b:=by
 have key:∀{x y:Str},(⟨x,am,y⟩:ao)∈ds++[d]->(⟨x,am,y⟩:ao)∈ds:=fun q=>by
  rcases aX.mp q with q|q
  ·exact q
  ·have e:=bo.mp q;exact absurd (by rw[<-e]) n
 induction r with
 |one q=>exact .one (key q)
 |step _ q ih=>exact .step ih (key q)
theorem eF.mono{ds es:List ao}(h:∀d∈ds,d∈es):eF ds r a->eF es r a:=fun⟨w,hw,b,hb⟩=>⟨w,hw.imp id (Reach.mono fun x y=>h _),b,h _ hb⟩
theorem mem_putD{x:ao}:x∈lI ds d↔x∈ds∨x=d:=by
 unfold lI;split
 ·rename_i h;exact⟨.inl,fun z=>z.elim id fun e=>by rw[e];exact h⟩
 ·simp
theorem aD.putOne(m:aD J0 J1 J2 ds)(g:Ao J0 J1 J2 d)(n:d.sg≠am)(z:ds.length+1<=1000):aD J0 J1 J2 (lI ds d):=by
 refine⟨m.okA,m.okS,m.apart,m.okR,m.asks0,m.says0,m.rooms0,m.asks4,m.says4,m.rooms26,?_,fun x hx=>?_,?_,fun r q=>?_⟩
 ·unfold lI;split
  ·exact m.nodup
  ·rename_i h;rw[cA];exact⟨m.nodup,by simp,fun a ha b hb e=>h (by rw[<-bo.1 hb,<-e];exact ha)⟩
 ·rcases mem_putD.mp hx with h|h
  ·exact m.good x h
  ·rw[h];exact g
 ·have:=tN ds d;omega
 ·refine m.noround r ?_;unfold lI at q;split at q
  ·exact q
  ·exact q.unask n
theorem v_(a:Str):cP a≠am:=by unfold cP am;intro h;injection h with _ h;cases h
structure TX(H0:Hp)(p c l:Addr)(R:List ao->Prop)(H:Hp):Prop where
 pen:gD H p c
 ds:∃ts ds,H l=some (.lst (ts.map V.ref))/\cj H ts ds/\R ds
 ex:cQ p H0 H
 fr:H0 l=none
 pl:p≠l
 cl:c≠l
section
variable{H0 H H':Hp}{p c l:Addr}{R R':List ao->Prop}
theorem TX.took(h:TX H0 p c l R H)(hp:gD H' p c)(e:cQ p H H'):TX H0 p c l R H':=by
 obtain⟨ts,ds,h1,h2,h3⟩:=h.ds;obtain⟨xs,hx⟩:=h.pen.lst;exact⟨hp,⟨ts,ds,e _ _ h1 h.pl.symm,h2.kt (e.kt hx),h3⟩,h.ex.trans e,h.fr,h.pl,h.cl⟩
theorem TX.same(h:TX H0 p c l R H)(S:ac H H'):TX H0 p c l R H':=h.took (h.pen.ex S) (ac.exB S)
theorem TX.imp(h:TX H0 p c l R H)(q:∀ds,R ds->R' ds):TX H0 p c l R' H:=by
 obtain⟨ts,ds,h1,h2,h3⟩:=h.ds;exact⟨h.pen,⟨ts,ds,h1,h2,q _ h3⟩,h.ex,h.fr,h.pl,h.cl⟩
theorem TX.put{ts:Ze}{ds:List ao}(h:TX H0 p c l R H)(hl:∃xs,H l=some (.lst xs))(hd:cj H ts ds)(r:R' ds):TX H0 p c l R' (upd H l (.lst (ts.map V.ref))):=by
 obtain⟨xs,hx⟩:=hl;refine⟨h.pen.upd h.pl h.cl,⟨ts,ds,aa,hd.kt fun b ys q=>?_,r⟩,fun b o q n=>?_,h.fr,h.pl,h.cl⟩
 ·rw[ag (fun z=>by rw[z,hx]at q;cases q)];exact q
 ·rw[ag (ae q h.fr)];exact h.ex _ _ q n
end
def WR(J0 J1 J2:Zb)(D:List (Str×Str))(n:Nat)(ds:List ao):Prop:=aD J0 J1 J2 ds/\ds.length<=n/\∀x∈D,eF ds x.1 x.2
theorem WR.up{n':Nat}(h:WR J0 J1 J2 D n ds)(z:n<=n'):WR J0 J1 J2 D n' ds:=⟨h.1,bL h.2.1 z,h.2.2⟩
inductive j9 (vs:List V)(H:Hp)(Q:VK)(E:XK):Prop
 |mk (p c t l1 l2 l3 l4:Addr) (ts:Ze) (J0 J1 J2:Zb) (ds:List ao):(vs=[.ref p,.ref t])->(gD H p c)->(iB H t l1 l2 l3 l4 ts J0 J1 J2 ds)->(aD J0 J1 J2 ds)->(J2.length<=26)->(ds.length<=800)->(∀(t' l4':Addr) (ts':Ze) (ds':List ao) (H':Hp),iB H' t' l1 l2 l3 l4' ts' J0 J1 J2 ds'->aD J0 J1 J2 ds'->(∀r∈J2,∀a∈J0,eF ds' r a)->ds'.length<=ds.length+4 * J2.length->gD H' p c->cQ p H H'->Q (.ref t') H')->j9  vs H Q E
theorem AW{K:Za}(h:j9 vs H Q E):uG K ka fj (fF K) (bH Q) (start vc vs) H:=by
 obtain⟨p,c,t,l1,l2,l3,l4,ts,J0,J1,J2,ds,rfl,hp,T,m,z26,z8,k⟩:=h;have a4:=m.asks4;refine⟨_,rfl,t,_,rfl,bD.of T.t,rfl,_,_,rfl,_,_,rfl,_,_,rfl,_,_,rfl,rfl,?_⟩;refine⟨_,rfl,.inl ⟨l4,_,rfl,.inl (aA.of T.a4),fun f hf=>?_⟩⟩;have B0:TX H p c f (WR J0 J1 J2 [] ds.length) (upd H f (.lst (ts.map V.ref))):=⟨hp.ex (ac.new hf),⟨ts,ds,aa,T.ds.kt (ac.kt (ac.new hf)),m,aG _,by simp⟩,cQ.new hf,hf,hp.nep hf,hp.nec hf⟩;generalize upd H f (.lst (ts.map V.ref))=H1 at B0 ⊢;have keep:∀{H':Hp}{R:List ao->Prop},TX H p c f R H'->H' l1=some (.lst (J0.map V.str))/\H' l2=some (.lst (J1.map V.str))/\H' l3=some (.lst (J2.map V.str)):=fun B =>
  ⟨B.ex _ _ T.a1 (hp.ne_strs T.a1),B.ex _ _ T.a2 (hp.ne_strs T.a2),B.ex _ _ T.a3 (hp.ne_strs T.a3)⟩
 refine⟨_,rfl,l3,rfl,⟨_,aA.of (keep B0).2.2⟩,?_⟩;refine cg (xs:=J2.map V.str) (fun i σ H'=>∃a6 a7 a8 a9:Option V,σ=[some (.ref p),some (.ref t),some (.ref l1),some (.ref l2),some (.ref l3),some (.ref f),a6,a7,a8,a9]/\TX H p c f (WR J0 J1 J2 ((J2.take i).flatMap fun r=>J0.map fun a=>(r,a)) (ds.length+4 * i)) H')
  ⟨_,_,_,_,rfl,B0⟩ (fun i σ H' _ ⟨_,_,_,_,_,B⟩=>aA.of (keep B).2.2) ?_ ?_
 ·rintro i v σ H2 hi ⟨a6,a7,a8,a9,rfl,B2⟩;obtain⟨r,hr,rfl⟩:=bE hi;have hir:i<J2.length:=(bO.mp hr).1;have hrm:=aR hr;refine⟨_,rfl,l1,rfl,⟨_,aA.of (keep B2).1⟩,?_⟩;refine cg (xs:=J0.map V.str) (fun j σ H'=>∃a7 a8 a9:Option V,σ=[some (.ref p),some (.ref t),some (.ref l1),some (.ref l2),some (.ref l3),some (.ref f),some (.str r),a7,a8,a9]/\TX H p c f (WR J0 J1 J2 ((J2.take i).flatMap (fun r=>J0.map fun a=>(r,a))++(J0.take j).map fun a=>(r,a)) (ds.length+4 * i+j)) H')
   ⟨_,_,_,rfl,B2.imp fun ds h=>by simpa using h⟩ (fun i σ H' _ ⟨_,_,_,_,B⟩=>aA.of (keep B).1) ?_ ?_
  ·rintro j v σ H3 hj ⟨a7,a8,a9,rfl,B3⟩;obtain⟨a,ha,rfl⟩:=bE hj;have hja:j<J0.length:=(bO.mp ha).1;have ham:=aR ha;have fin:∀es n,WR J0 J1 J2 ((J2.take i).flatMap (fun r=>J0.map fun a=>(r,a))++(J0.take j).map fun a=>(r,a)) n es->eF es r a->WR J0 J1 J2 ((J2.take i).flatMap (fun r=>J0.map fun a=>(r,a))++(J0.take (j+1)).map fun a=>(r,a)) n es:=fun es n w tk=>by
    refine⟨w.1,w.2.1,fun x hx=>?_⟩;rw[take_snoc ha,ay,<-cU]at hx;rcases aX.mp hx with h|h
    ·exact w.2.2 x h
    ·have:x=(r,a):=by simpa using h
     rw[this];exact tk
   refine⟨_,rfl,_,rfl,(by show 1<=aj;decide),fun q hq=>?_⟩;have B4:=B3.same (ac.new (o:=.lst [.str r]) hq);have q4:upd H3 q (.lst [.str r]) q=some (.lst [.str r]):=aa;generalize upd H3 q (.lst [.str r])=H4 at B4 q4 ⊢;obtain⟨us,es,g1,g2,g3⟩:=B4.ds;refine⟨f,q,us,es,[r],J2,rfl,g1,g2,q4,fun d hd=>(g3.1.good d hd).b,by omega,(by show 1<=1000;decide),fun th F H5 hth hF _ _ S5=>?_⟩;have B5:=B4.same S5;have f5:=S5 _ _ g1;have d5:=g2.kt (ac.kt S5);refine⟨_,rfl,f,rfl,⟨_,aA.of f5⟩,fun l hl=>?_⟩;refine Gy (K:=K) (jt:=8) (ja:=7) rfl rfl f5 d5 hth g3.1.few hl fun vs H6 h6 D6 S6=>⟨(by show 0<=aj;decide),fun e he=>?_⟩;refine Gg (kp h6 he) (D6.kt (ac.kt (ac.new he))) aa ⟨_,rfl,?_⟩;have S7:ac H5 (upd H6 e (.lst [])):=S6.trans (ac.new he);generalize upd H6 e (.lst [])=H7 at S7 ⊢;have f7:=S7 _ _ f5;have d7:=d5.kt (ac.kt S7);have B7:TX H p c f (fun ds'=>ds'=es) H7:=by
    have B:=B5.same S7;exact⟨B.pen,⟨us,es,f7,d7,rfl⟩,B.ex,B.fr,B.pl,B.cl⟩
   cases q:takesB es r a with
   |true =>
    rw[zzr0 (fun z=>by rw[Ah hF,q]at z;cases z)];exact bR ⟨_,_,_,rfl,B7.imp fun ds' e=>by rw[e];exact fin _ _ (g3.up (by omega)) (lC.mp q)⟩
   |false =>
    rw[zzr1 ((Ah hF).mpr q)];refine dk ?_;have l37:=(keep B7).2.2;refine⟨_,rfl,_,rfl,_,rfl,_,rfl,.inl ⟨l3,_,rfl,.inl (aA.of l37),?_⟩⟩;rw[ai];refine dH B7.pen (by omega) (by omega) fun x H8 x0 x1 hp8 ex8=>?_;obtain⟨n,rfl⟩:=jm x0;have B8:=B7.took hp8 ex8;obtain⟨w,hw⟩:∃w,J2[n]?=some w:=⟨_,aV (by omega)⟩;refine⟨l3,_,(n:Int),.str w,rfl,rfl,aA.of (keep B8).2.2,aJ (j:=n) (by rw[bw,hw];rfl),(by show 2<=aj;decide),fun u hu=>?_⟩;have B9:=B8.same (ac.new (o:=.lst [.str r,.str w]) hu);have u9:upd H8 u (.lst [.str r,.str w]) u=some (.lst ([r,w].map V.str)):=aa;generalize upd H8 u (.lst [.str r,.str w])=H9 at B9 u9 ⊢;refine⟨_,rfl,dH B9.pen (by decide) (by decide) fun y H10 y0 y1 hp10 ex10=>?_⟩;have B10:=B9.took hp10 ex10;obtain⟨g,hg,hgm⟩:∃g,qA ([r,w].map V.str) y=some (.str g)/\g∈J2:=by
     have:y=0∨y=1:=by omega
     rcases this with rfl|rfl
     ·exact⟨r,rfl,hrm⟩
     ·exact⟨w,rfl,aR hw⟩
    refine⟨u,_,y,.str g,rfl,rfl,aA.of (ex10 _ _ u9 (B9.pen.ne_strs u9)),hg,?_⟩;refine⟨_,rfl,_,rfl,_,rfl,(by show 2<=aj;decide),fun s hs=>⟨_,rfl,(by show 3<=aj;decide),fun d hd=>?_⟩⟩;have S12:ac H10 (upd (upd H10 s (.tup [.str "ask",.str a])) d (.tup [.str r,.ref s,.str g])):=(ac.new hs).trans (ac.new hd);have at12:gp (upd (upd H10 s (.tup [.str "ask",.str a])) d (.tup [.str r,.ref s,.str g])) d ⟨r,cP a,g⟩:=⟨s,aa,kp aa hd⟩;generalize upd (upd H10 s (.tup [.str "ask",.str a])) d (.tup [.str r,.ref s,.str g])=H12 at S12 at12 ⊢;have B12:=B10.same S12;obtain⟨us',es',k1,k2,rfl⟩:=id B12.ds;have zz:=g3.2.1;have good:Ao J0 J1 J2 ⟨r,cP a,g⟩:=⟨hrm,hgm,.inl ⟨a,ham,rfl⟩⟩;refine⟨f,d,us',_,⟨r,cP a,g⟩,rfl,k1,k2,at12,g3.1.few,fun us2 D2=>?_⟩;refine⟨_,_,_,rfl,B12.put ⟨_,k1⟩ D2 (fin _ _ ⟨g3.1.putOne good (v_ a) (by omega),?_,fun x hx=>(g3.2.2 x hx).mono fun y hy=>mem_putD.mpr (.inl hy)⟩ ⟨r,.inl rfl,g,mem_putD.mpr (.inr rfl)⟩)⟩;have:=tN es' ⟨r,cP a,g⟩;omega
  ·rintro σ H3 ⟨a7,a8,a9,rfl,B3⟩;refine⟨_,_,_,_,rfl,B3.imp fun es h=>?_⟩;rw[ai]at h;refine⟨h.1,by have:=h.2.1;omega,fun x hx=>h.2.2 x ?_⟩;rw[take_snoc hr,wg]at hx;rw[bt];simpa using hx
 ·rintro σ H2 ⟨a6,a7,a8,a9,rfl,B2⟩;rw[ai,bt]at B2;obtain⟨us,es,g1,g2,g3⟩:=B2.ds;obtain⟨q1,q2,q3⟩:=keep B2;refine⟨_,rfl,_,rfl,_,rfl,_,rfl,(by show 4<=aj;decide),fun t' ht'=>?_⟩;have S3:=ac.new (o:=.tup [.ref l1,.ref l2,.ref l3,.ref f]) ht';exact k t' f us es _ ⟨aa,S3 _ _ q1,S3 _ _ q2,S3 _ _ q3,S3 _ _ g1,g2.kt (ac.kt S3)⟩ g3.1 (fun r hr a ha=>g3.2.2 (r,a) (k4.mpr ⟨r,hr,ap.mpr ⟨a,ha,rfl⟩⟩)) g3.2.1 (B2.pen.ex S3) (B2.ex.trans (ac.exB S3))
def pY(K:Za)(C_Machine:Addr)(sp_Machine_asks:Sp)(sp_Machine_says:Sp)(a_HUSH:Addr):TS :=
 bq (aI qh (aI qh (eB 1 [] (cx K (dB C_Machine "asks" sp_Machine_asks [] E0 V0 bm)) U0 (jH) (bu (aN (tC (.str "ask")) V0))) (eB 1 [] (cx K (dB C_Machine "says" sp_Machine_says [] E0 V0 bm)) U0 (jH) (bu (aN (tC (.str "say")) V0)))) (c_ (aB (tC (.ref a_HUSH)))))
def qD:List Str:=["M"]
def AB(K:Za)(sp_signs_in_order:Sp)(sp_face_behind:Sp):TS :=
 aq (aO (p8) U2)
 (aq (eG (cx K (aS sp_signs_in_order (aB V0))) U3 (aq (aO (aS sp_face_behind (eJ V0 V1 V3)) U4)
 (cn (a_ (aI Fm (dE (dh K) (aB V4)) (tC (.int 0)))) (p_ K V2 V3 V4) (bv))))
 (bq V2))
def BQ:List Str:=["M","face","steps","sign","behind"]
def mG(K:Za):TS :=
 aq (cn (tB (fQ K V1 (fP K V0 "numbers"))) (aq (cn (a_ (aI Ar (dE (dh K) (aB (fP K V0 "faces"))) (tC (.int 400)))) (sZ) (bv))
 (aq (mY (fP K V0 "numbers") V1 (dE (dh K) (aB (fP K V0 "faces"))))
 (aq (bJ (oI K "list" cz (fP K V0 "faces") (aB V1)))
 (bJ (oI K "list" cz (fP K V0 "first_stories") (aB V2)))))) (bv))
 (bq (ik K (fP K V0 "numbers") V1))
def mQ:List Str:=["self","face","story"]
def jq(K:Za)(sp_steps_at:Sp)(C_FaceMap:Addr)(sp_FaceMap_number_at:Sp):TS :=
 aq (aO (p8) U2)
 (aq (eG (xT K (aS sp_steps_at (aN (fP K V0 "machine") (aI (bX K) (fP K V0 "faces") V1)))) (gE K 2 (aT U3 (aT U4 (fZ)))) (p_ K V2 V3 (dB C_FaceMap "number_at" sp_FaceMap_number_at [] E0 V0 (aN V4 (aI qh (aI (bX K) (fP K V0 "first_stories") V1) (c_ (aB V3)))))))
 (bq V2))
def js:List Str:=["self","number","steps","sign","face"]
def nJ(K:Za)(C_FaceMap:Addr)(sp_FaceMap_numbered_steps:Sp)(sp_FaceMap_number_at:Sp)(dZ:Sp):TS :=
 aq (oT K V0 V1 "machine")
 (aq (oT K V0 (c_ (bm)) "faces")
 (aq (oT K V0 (c_ (bm)) "first_stories")
 (aq (oT K V0 (p8) "numbers")
 (aq (oT K V0 (c_ (bm)) "steps")
 (aq (bJ (dB C_FaceMap "number_at" sp_FaceMap_number_at [] E0 V0 (aN (aS dZ (aB V1)) (c_ (bm)))))
 (nK (a_ (aI DG (dE (dh K) (aB (fP K V0 "steps"))) (dE (dh K) (aB (fP K V0 "faces"))))) (bJ (oI K "list" cz (fP K V0 "steps") (ar (dB C_FaceMap "numbered_steps" sp_FaceMap_numbered_steps [] E0 V0 (aB (dE (dh K) (aB (fP K V0 "steps"))))) bm)))))))))
def og:List Str:=["self","M"]
abbrev Sg:=List Str
def stepsF(J0 J1 J2:Zb)(ds:List ao)(J6:Zb):List (Sg×List Str):=((av J0 J1).map fun sg=>(sg,behF J2 ds J6 sg)).filter fun p=>decide (p.2≠[])
structure j1 where
 fs:List (List Str)
 ss:List (List Sg)
def j1.add(m:j1)(f:Zb)(s:List Sg):j1:=if f∈m.fs then m else⟨m.fs++[f],m.ss++[s]⟩
def CL(s:List Sg)(q:j1×List (Sg×Nat))(p:Sg×List Str):j1×List (Sg×Nat):=(q.1.add p.2 (s++[p.1]),q.2++[(p.1,(q.1.add p.2 (s++[p.1])).fs.idxOf p.2)])
def eL(s:List Sg)(m:j1)(L:List (Sg×List Str)):j1×List (Sg×Nat):=L.foldl (CL s) (m,[])
abbrev uv:=j1×List (List (Sg×Nat))
def initF(J2:Zb)(ds:List ao):uv:=((⟨[],[]⟩:j1).add (closF J2 ds (J2.take 1)) [],[])
def nextF(J0 J1 J2:Zb)(ds:List ao)(S:uv):uv :=
 ((eL (S.1.ss.getD S.2.length []) S.1 (stepsF J0 J1 J2 ds (S.1.fs.getD S.2.length []))).1,S.2++[(eL (S.1.ss.getD S.2.length []) S.1 (stepsF J0 J1 J2 ds (S.1.fs.getD S.2.length []))).2])
def itF(J0 J1 J2:Zb)(ds:List ao):Nat->uv
 |0=>initF J2 ds
 |k+1=>nextF J0 J1 J2 ds (itF J0 J1 J2 ds k)
def jK:List Str->List (List Str)
 |[]=>[[]]
 |r::rs=>(jK rs).map (r::·)++jK rs
theorem jJ:∀rs:List Str,(jK rs).length=2 ^ rs.length
 |[]=>rfl
 |r::rs=>by
  show((jK rs).map (r::·)++jK rs).length=2 ^ (rs.length+1);rw[az,ai,jJ rs,Nat.pow_succ];omega
theorem jI(p:Str->Bool):∀rs:List Str,rs.filter p∈jK rs
 |[]=>by show[]∈[[]];simp
 |r::rs=>by
  show(r::rs).filter p∈(jK rs).map (r::·)++jK rs;have ih:=jI p rs;rw[List.filter_cons];split
  ·exact cB _ (k5 ih)
  ·exact cS _ ih
theorem gV{α:Type}[DecidableEq α]:∀{L R:List α},L.Nodup->(∀y∈L,y∈R)->L.length<=R.length
 |[],_,_,_=>df _
 |x::L,R,h,hs=>by
  rw[kJ]at h;have hx:x∈R:=hs x cb;have h1:∀y∈L,y∈R.erase x:=fun y hy=>(List.mem_erase_of_ne (fun e=>h.1 (by rw[<-e];exact hy))).2 (hs y (cT _ hy));have h2:=gV h.2 h1;rw[List.length_erase_of_mem hx]at h2;have h3:0<R.length:=List.length_pos_of_mem hx;rw[cZ];omega
def kz(J2 f:Zb):Prop:=∃p:Str->Bool,f=J2.filter p
theorem xR(h:kz J2 f):kz J2 (behF J2 ds f sg):=by
 classical
 unfold behF;split
 ·obtain⟨p,rfl⟩:=h;rw[List.filter_filter];exact⟨_,rfl⟩
 ·unfold closF;exact⟨_,rfl⟩
theorem qy{gs:Zb}:kz J2 (closF J2 ds gs):=by
 classical
 unfold closF;exact⟨_,rfl⟩
theorem kz.sub(h:kz J2 f):∀r∈f,r∈J2:=by
 obtain⟨p,rfl⟩:=h;exact fun r hr=>(be.1 hr).1
theorem kz.len(h:kz J2 f):f.length<=J2.length:=by
 obtain⟨p,rfl⟩:=h;exact h7 _ _
structure Good(J2:Zb)(m:j1):Prop where
 nd:m.fs.Nodup
 len:m.ss.length=m.fs.length
 isF:∀f∈m.fs,kz J2 f
 sl:∀(i:Nat) (s:List Sg),m.ss[i]?=some s->s.length<=i
theorem Good.few(g:Good J2 m)(hr:J2.length<=8):m.fs.length<=256:=by
 have h:=gV g.nd (R:=jK J2) (fun f hf=>by obtain⟨p,rfl⟩:=g.isF f hf;exact jI p J2);rw[jJ]at h;have:2 ^ J2.length<=2 ^ 8:=wf (by decide) hr;omega
theorem j1.add_in{m:j1}{f:Zb}{s:List Sg}(h:f∈m.fs):m.add f s=m:=if_pos h
theorem j1.add_new{m:j1}{f:Zb}{s:List Sg}(h:¬f∈m.fs):m.add f s=⟨m.fs++[f],m.ss++[s]⟩:=if_neg h
theorem Good.add{s:List Sg}(g:Good J2 m)(h:kz J2 f)(hs:s.length<=m.fs.length):Good J2 (m.add f s):=by
 by_cases c:f∈m.fs
 ·rw[j1.add_in c];exact g
 ·rw[j1.add_new c];refine⟨?_,?_,?_,?_⟩;rotate_left 3
  ·intro i s' e
   change (m.ss++[s])[i]?=some s' at e
   rcases d6 i m.ss.length with z|z
   ·rw[c9 z]at e;exact g.sl i s' e
   ·rw[lB z]at e;have h0:i-m.ss.length=0:=by
     rcases sr (i-m.ss.length)with q|q
     ·exact q
     ·rw[fx (by show 1<=_;omega)]at e;cases e
    rw[h0]at e;injection e with e;rw[<-e];have:=g.len;omega
  ·rw[cA];exact⟨g.nd,by simp,fun x hx y hy e=>c (by rw[bo.1 hy]at e;rw[<-e];exact hx)⟩
  ·show(m.ss++[s]).length=(m.fs++[f]).length;rw[az,az,g.len];rfl
  ·intro x hx;rcases aX.1 hx with hx|hx
   ·exact g.isF x hx
   ·rw[bo.1 hx];exact h
theorem HI{m:j1}{f:Zb}{s:List Sg}:f∈(m.add f s).fs:=by
 by_cases c:f∈m.fs
 ·rw[j1.add_in c];exact c
 ·rw[j1.add_new c];simp
def pE(m m':j1):Prop:=(∃r,m'.fs=m.fs++r)/\∃r,m'.ss=m.ss++r
theorem pE.refl(m:j1):pE m m:=⟨⟨[],(gJ _).symm⟩,⟨[],(gJ _).symm⟩⟩
theorem pE.trans(h:pE a b)(k:pE b c):pE a c:=by
 obtain⟨⟨r,e⟩,⟨s,f⟩⟩:=h;obtain⟨⟨r',e'⟩,⟨s',f'⟩⟩:=k;exact⟨⟨r++r',by rw[e',e,cU]⟩,⟨s++s',by rw[f',f,cU]⟩⟩
theorem z0{f:Zb}{s:List Sg}:pE m (m.add f s):=by
 by_cases c:f∈m.fs
 ·rw[j1.add_in c];exact .refl _
 ·rw[j1.add_new c];exact⟨⟨[f],rfl⟩,⟨[s],rfl⟩⟩
theorem jR(s:List Sg)(m:j1)(L:List (Sg×List Str))(p:Sg×List Str):eL s m (L++[p])=CL s (eL s m L) p:=by
 unfold eL;rw[j5];rfl
theorem pE.at(h:pE m m'){i:Nat}{f:Zb}(e:m.fs[i]?=some f):m'.fs[i]?=some f:=by
 obtain⟨⟨r,q⟩,_⟩:=h;rw[q,c9 (by rcases d6 i m.fs.length with z|z;exact z;rw[fx z]at e;cases e),e]
theorem vM{s:List Sg}(g:Good J2 m)(hs:s.length<m.fs.length)(L:List (Sg×List Str))(hL:∀p∈L,kz J2 p.2):
  Good J2 (eL s m L).1/\pE m (eL s m L).1/\Paired (fun(a:Sg×Nat) (p:Sg×List Str)=>a.1=p.1/\(eL s m L).1.fs[a.2]?=some p.2) (eL s m L).2 L:=by
 have key:∀n,n<=L.length->Good J2 (eL s m (L.take n)).1/\pE m (eL s m (L.take n)).1/\Paired (fun(a:Sg×Nat) (p:Sg×List Str)=>a.1=p.1/\(eL s m (L.take n)).1.fs[a.2]?=some p.2) (eL s m (L.take n)).2 (L.take n):=by
  intro n
  induction n with
  |zero=>intro _;exact⟨g,.refl _,.nil⟩
  |succ n ih =>
   intro hn;obtain⟨h1,h2,h3⟩:=ih (by omega);have hp:L[n]?=some L[n]:=aV (by omega);rw[take_snoc hp,jR];have hf:=hL L[n] (eI _);have hl:m.fs.length<=(eL s m (L.take n)).1.fs.length:=by
    obtain⟨⟨r,q⟩,_⟩:=h2;rw[q,az];omega
   refine⟨h1.add hf (by rw[az];show _+1<=_;omega),h2.trans z0,?_⟩;refine cG (Paired.mapP h3 fun a p r=>⟨r.1,z0.at r.2⟩) ⟨rfl,?_⟩;show(j1.add _ _ _).fs[(j1.add _ _ _).fs.idxOf L[n].2]?=some L[n].2;have hm:=HI (m:=(eL s m (L.take n)).1) (f:=L[n].2) (s:=s++[L[n].1]);have hi:=List.idxOf_lt_length_of_mem hm;rw[aV hi,kZ]
 have:=key L.length (aG _);rw[bt]at this;exact this
structure qI(J0 J1 J2:Zb)(ds:List ao)(S:uv):Prop where
 good:Good J2 S.1
 le:S.2.length<=S.1.fs.length
 zero:S.1.fs[0]?=some (closF J2 ds (J2.take 1))
 st:∀(i:Nat) (l:List (Sg×Nat)),S.2[i]?=some l->∃f,S.1.fs[i]?=some f/\Paired (fun(a:Sg×Nat) (p:Sg×List Str)=>a.1=p.1/\S.1.fs[a.2]?=some p.2) l (stepsF J0 J1 J2 ds f)
theorem tE(h:kz J2 f):∀p∈stepsF J0 J1 J2 ds f,kz J2 p.2:=by
 intro p hp;obtain⟨sg,_,rfl⟩:=ap.1 (be.1 hp).1;exact xR h
theorem Ec:qI J0 J1 J2 ds (initF J2 ds):=by
 have e:(⟨[],[]⟩:j1).add (closF J2 ds (J2.take 1)) []=⟨[closF J2 ds (J2.take 1)],[[]]⟩:=j1.add_new (by simp);refine⟨?_,df _,?_,fun i l h=>?_⟩
 ·exact Good.add (m:=⟨[],[]⟩) ⟨pV,rfl,(fun f hf=>nomatch hf),(fun i s (e:([]:List (List Sg))[i]?=some s)=>by rw[List.getElem?_nil]at e;cases e)⟩ qy (df _)
 ·show((⟨[],[]⟩:j1).add _ _).fs[0]?=_;rw[e];rfl
 ·simp[initF]at h
theorem Eb(h:qI J0 J1 J2 ds S)(lt:S.2.length<S.1.fs.length):qI J0 J1 J2 ds (nextF J0 J1 J2 ds S):=by
 have e0:S.1.fs[S.2.length]?=some S.1.fs[S.2.length]:=by simp[lt]
 have hd:S.1.fs.getD S.2.length []=S.1.fs[S.2.length]:=by simp[lt]
 have hF:=h.good.isF S.1.fs[S.2.length] (eI _);obtain⟨g,gr,pr⟩:=vM (s:=S.1.ss.getD S.2.length []) h.good (by
  have l2:S.2.length<S.1.ss.length:=by rw[h.good.len];exact lt
  have e:S.1.ss[S.2.length]?=some (S.1.ss[S.2.length]'l2):=aV l2;have:=h.good.sl _ _ e;rw[gM,e];show(S.1.ss[S.2.length]'l2).length<_;omega) (stepsF J0 J1 J2 ds S.1.fs[S.2.length]) (tE hF)
 unfold nextF;rw[hd];generalize eL (S.1.ss.getD S.2.length []) S.1 (stepsF J0 J1 J2 ds S.1.fs[S.2.length])=q at g gr pr;refine⟨g,?_,gr.at h.zero,fun i l hl=>?_⟩
 ·obtain⟨⟨r,e⟩,_⟩:=gr;show(S.2++[q.2]).length<=q.1.fs.length;rw[e,az,az];show S.2.length+1<=_;omega
 ·change (S.2++[q.2])[i]?=some l at hl
  rcases wj i S.2.length with c|c|c
  ·rw[c9 c]at hl;obtain⟨f,e,p⟩:=h.st i l hl;exact⟨f,gr.at e,Paired.mapP p fun a p r=>⟨r.1,gr.at r.2⟩⟩
  ·subst c;rw[lB (aG _),Nat.sub_self]at hl;injection hl with hl;subst hl;exact⟨S.1.fs[S.2.length],gr.at e0,pr⟩
  ·rw[lB (eo c)]at hl;obtain⟨k,hk⟩:=Nat.exists_eq_succ_of_ne_zero (show i-S.2.length≠0 by omega);rw[hk]at hl;cases hl
def HK(hu:Addr)(H:Hp)(u:Addr)(sg:Zb):Prop:=H u=some (.tup (sg.map V.str))∨(u=hu/\sg=bT)
theorem HK.same(h:HK hu H u sg)(S:ac H H'):HK hu H' u sg:=h.imp (S _ _) id
theorem Cq{K:Za}(h:∀H,bD K H a xs)(H:Hp):bB K H a xs:=by
 rcases h (fun _=>none)with(h|⟨o,h⟩)|h
 ·cases h
 ·cases h
 ·exact .inr h
section
variable{K:Za}{hu:Addr}(hh:∀H,bD K H hu (bT.map V.str))
include hh
theorem HK.tup(h:HK hu H u sg):bB K H u (sg.map V.str):=by
 rcases h with h|⟨rfl,rfl⟩
 ·exact .inl h
 ·exact Cq hh H
theorem HK.sq(h:HK hu H u sg):bD K H u (sg.map V.str):=by
 rcases h with h|⟨rfl,rfl⟩
 ·exact bD.of h
 ·exact hh H
end
inductive xr(C hu:Addr)(vs:List V)(H:Hp)(Q:VK)(E:XK):Prop
 |mk (x:Addr) (J0 J1 J2:Zb) (ds:List ao):(vs=[.ref x])->(bd C H x J0 J1 J2 ds)->(∀(l:Addr) (us:Ze) (H':Hp),H' l=some (.lst (us.map V.ref))->Paired (HK hu H') us (av J0 J1)->ac H H'->Q (.ref l) H')->xr C hu vs H Q E
theorem Iu{K:Za}(h:xr C hu vs H Q E):pY K C (mh C) (oK C) hu (bH Q) (start qD vs) H:=by
 obtain⟨x,J0,J1,J2,ds,rfl,M,k⟩:=h;have z1:=M.ok.asks4;have z2:=M.ok.says4;obtain⟨dx,fs,o1,o2,lv,lps,g1,a1,a2,_⟩:=nN M;refine⟨_,rfl,x,dx,fs,rfl,g1,a1,x,J0,J1,J2,ds,rfl,M,fun w1 hw1=>⟨w1,rfl,⟨_,aA.of aa⟩,fun la hla=>?_⟩⟩;have S0:ac H (upd H w1 (.lst (J0.map V.str))):=ac.new hw1;refine kq (kd:="ask") (ws:=J0) aa (by omega) hla fun ua H1 h1 hP1 S1=>?_;have M1:=M.same (S0.trans S1);obtain⟨dx,fs,o1,o2,lv,lps,g1,a1,a2,_⟩:=nN M1;refine⟨_,rfl,x,dx,fs,rfl,g1,a2,x,J0,J1,J2,ds,rfl,M1,fun w2 hw2=>⟨w2,rfl,⟨_,aA.of aa⟩,fun ls hls=>?_⟩⟩;have S2:ac H1 (upd H1 w2 (.lst (J1.map V.str))):=ac.new hw2;refine kq (kd:="say") (ws:=J1) aa (by omega) hls fun us H2 h2 hP2 S3=>?_;have S23:=S2.trans S3;have h12:=S23 _ _ h1;have hP12:=mP.kt (ac.kt S23) hP1;refine⟨la,ls,_,_,rfl,rfl,h12,h2,?_,fun c1 hc1=>?_⟩
 ·rw[ai,ai,Paired.length hP1,Paired.length hP2,ai,ai];exact eo (ax (by omega))
 refine⟨(by show 1<=aj;decide),fun hl hhl=>?_⟩;refine⟨c1,hl,_,_,rfl,rfl,kp aa hhl,aa,?_,fun r hr=>?_⟩
 ·rw[az,ai,ai,Paired.length hP1,Paired.length hP2,ai,ai];exact eo (ax (by show _+1<=1000;omega))
 have S4:=((ac.new (o:=.lst (ua.map V.ref++us.map V.ref)) hc1).trans (ac.new (o:=.lst [.ref hu]) hhl)).trans (ac.new (o:=.lst (ua.map V.ref++us.map V.ref++[.ref hu])) hr);refine k r (ua++us++[hu]) _ ?_ ?_ (((S0.trans S1).trans S23).trans S4)
 ·rw[aa,ay,ay];rfl
 ·exact Paired.app (Paired.app (Paired.mapP (mP.kt (ac.kt S4) hP12) fun _ _ r=>.inl r) (Paired.mapP (mP.kt (ac.kt S4) hP2) fun _ _ r=>.inl r)) (.cons (.inr ⟨rfl,rfl⟩) .nil)
theorem eP(m:aD J0 J1 J2 ds):(av J0 J1).Nodup:=by
 unfold av;have i1:∀a b:Str,cP a=cP b->a=b:=fun a b h=>by unfold cP at h;injection h with _ h;injection h
 have i2:∀a b:Str,kO a=kO b->a=b:=fun a b h=>by unfold kO at h;injection h with _ h;injection h
 have nd:∀{f:Str->List Str}{l:Zb},(∀a b,f a=f b->a=b)->l.Nodup->(l.map f).Nodup:=by
  intro f l hf hl;rw[pL,List.pairwise_map];exact(pL.1 hl).imp fun h e=>h (hf _ _ e)
 rw[cA,cA];refine⟨⟨nd i1 m.okA.1,nd i2 m.okS.1,?_⟩,by simp,?_⟩
 ·intro x hx y hy e;obtain⟨a,_,rfl⟩:=ap.1 hx;obtain⟨b,_,rfl⟩:=ap.1 hy;unfold cP kO at e;injection e with e _;exact absurd e (by decide)
 ·intro x hx y hy e;rw[bo.1 hy]at e;rcases aX.1 hx with hx|hx
  ·obtain⟨a,_,rfl⟩:=ap.1 hx;unfold cP bT at e;injection e with _ e;cases e
  ·obtain⟨a,_,rfl⟩:=ap.1 hx;unfold kO bT at e;injection e with _ e;cases e
abbrev BL(H:Hp)(kvs:List (TK×V))(L:List (Sg×List Str)):Prop:=Paired (fun(kv:TK×V) (p:Sg×List Str)=>kv.1=jW p.1/\∃u,kv.2=.ref u/\H u=some (.tup (p.2.map V.str))) kvs L
theorem wW{κ:Type}[DecidableEq κ]{kvs:List (κ×V)}{k:κ}(h:∀kv∈kvs,kv.1≠k):bP kvs k=none:=by
 unfold bP;rw[List.find?_eq_none.2 fun kv hkv=>by simpa using h kv hkv]
 rfl
theorem d4(sg:Zb):(jW sg).depth<=8:=by
 have:∀l:List Str,TK.depths (l.map oS)=0:=by
  intro l
  induction l with
  |nil=>rfl
  |cons a l ih=>show max (TK.depth (oS a)) (TK.depths _)=0;rw[ih];rfl
 show TK.depths (sg.map oS)+1<=8;rw[this];decide
def stG(J2:Zb)(ds:List ao)(J6:Zb)(L:List (List Str)):List (Sg×List Str):=(L.map fun sg=>(sg,behF J2 ds J6 sg)).filter fun p=>decide (p.2≠[])
theorem ze(J2:Zb)(ds:List ao)(J6:Zb)(L:List (List Str))(sg:Zb):stG J2 ds J6 (L++[sg])=stG J2 ds J6 L++if behF J2 ds J6 sg=[]then[]else[(sg,behF J2 ds J6 sg)]:=by
 unfold stG;rw[ay,sv];congr 1;by_cases c:behF J2 ds J6 sg=[]
 ·rw[if_pos c];simp[c]
 ·rw[if_neg c];simp[c]
theorem GY{p:Sg×List Str}(h:p∈stG J2 ds J6 L):p.1∈L:=by
 obtain⟨sg,hs,rfl⟩:=ap.1 (be.1 h).1;exact hs
theorem Cu:(stG J2 ds J6 L).length<=L.length:=by
 unfold stG;exact bL (h7 _ _) (by rw[ai];exact aG _)
theorem BL.kt(k:ii H H')(h:BL H kvs L):BL H' kvs L:=Paired.mapP h fun _ _ ⟨e,u,e2,r⟩=>⟨e,u,e2,k _ _ r⟩
theorem BL.no(h:BL H kvs L){sg:Sg}(n:∀p∈L,p.1≠sg):bP kvs (jW sg)=none:=by
 refine wW ?_
 induction h with
 |nil=>intro kv hk;exact nomatch hk
 |@cons a b as bs r t ih =>
  intro kv hk;rcases bM.1 hk with rfl|hk
  ·rw[r.1];exact fun e=>n b cb (my e)
  ·exact ih (fun p hp=>n p (cT _ hp)) kv hk
theorem o_{α:Type}{L:List α}(nd:L.Nodup){i:Nat}{x:α}(e:L[i]?=some x):¬x∈L.take i:=by
 intro h;obtain⟨j,hj,ej⟩:=so h;rw[aM]at hj;have hi:i<L.length:=by rcases d6 i L.length with z|z;exact z;rw[fx z]at e;cases e
 rw[List.getElem_take]at ej;rw[aV hi]at e;injection e with e;exact List.pairwise_iff_getElem.1 (pL.1 nd) j i (by omega) hi (by omega) (ej.trans e.symm)
theorem EB{H:Hp}{d:Addr}{kvs:List (TK×V)}{o:HO}(h:H d=some (.dT kvs)):ii H (upd H d o):=fun b xs e=>by rw[ag (fun z=>by rw[z,h]at e;cases e)];exact e
theorem FT{b:Bool}{P X Y:Prop}(h:b=true↔P)(h1:P->X)(h2:¬P->Y):if b=true then X else Y:=by
 cases b with
 |true=>exact h1 (h.1 rfl)
 |false=>exact h2 fun z=>by cases h.2 z
inductive j_(C:Addr)(vs:List V)(H:Hp)(Q:VK)(E:XK):Prop
 |mk (x t:Addr) (J6 J0 J1 J2:Zb) (ds:List ao):(vs=[.ref x,.ref t])->(bd C H x J0 J1 J2 ds)->(H t=some (.tup (J6.map V.str)))->((∀r∈J6,r∈J2))->(J6.length<=1000)->(∀(d:Addr) (kvs:List (TK×V)) (H':Hp),H' d=some (.dT kvs)->BL H' kvs (stepsF J0 J1 J2 ds J6)->H d=none->ac H H'->Q (.ref d) H')->j_ C vs H Q E
theorem AY{K:Za}(hh:∀H,bD K H hu (bT.map V.str))(h:j_ C vs H Q E):AB K (xr C hu) (rW K C) (bH Q) (start BQ vs) H:=by
 obtain⟨x,t,J6,J0,J1,J2,ds,rfl,M,ht,hsub,hz,k⟩:=h;have z1:=M.ok.asks4;have z2:=M.ok.says4;have zl:(av J0 J1).length<=9:=by unfold av;rw[az,az,ai,ai];show _+1<=9;omega
 have nd:=eP M.ok;refine fun d hd=>?_;have S0:ac H (upd H d (.dT [])):=ac.new hd;refine⟨_,rfl,x,J0,J1,J2,ds,rfl,M.same S0,fun l us H1 hl hP S1=>⟨l,rfl,⟨_,aA.of hl⟩,?_⟩⟩;refine cg (xs:=us.map V.ref) (fun i σ H'=>∃(kvs:List (TK×V)) (x3 x4:Option V),σ=[some (.ref x),some (.ref t),some (.ref d),x3,x4]/\H' d=some (.dT kvs)/\ac H H'/\(∀b o,H1 b=some o->b≠d->H' b=some o)/\BL H' kvs (stG J2 ds J6 ((av J0 J1).take i)))
  ⟨[],_,_,rfl,S1 _ _ aa,S0.trans S1,fun _ _ e _=>e,.nil⟩ (fun i σ H' _ ⟨_,_,_,_,_,_,S,_⟩=>aA.of (S _ _ hl fun e=>by subst e;have:=S1 _ _ (aa (H:=H) (a:=l) (o:=.dT []));rw[hl]at this;cases this)) ?_ ?_
 ·rintro i y σ H2 hi ⟨kvs,x3,x4,rfl,h2,S2,S12,st⟩;obtain⟨u,hu',rfl⟩:=dW hi;obtain⟨sg,hsg,hat⟩:=Paired.getL hP hu';have hat2:HK hu H2 u sg:=hat.imp (fun e=>S12 _ _ e fun z=>by subst z;have:=S1 _ _ (aa (H:=H) (a:=u) (o:=.dT []));rw[e]at this;cases this) id;refine⟨_,rfl,_,rfl,_,rfl,x,t,u,J6,sg,J0,J1,J2,ds,rfl,M.same S2,S2 _ _ ht,hat2.sq hh,hat2.symm.imp (fun e=>e.2) id,hsub,hz,fun f H3 hf S3=>?_⟩;have h3:=S3 _ _ h2;refine⟨_,rfl,.inl ⟨f,_,rfl,.inr (bD.of hf),_,_,rfl,rfl,?_⟩⟩;refine⟨_,rfl,?_⟩;have hat3:=hat2.same S3;have S13:∀b o,H1 b=some o->b≠d->H3 b=some o:=fun b o e n=>S3 _ _ (S12 b o e n);have st3:=st.kt (ac.kt S3);refine FT (P:=behF J2 ds J6 sg≠[]) ?_ (fun c=>?_) (fun c=>?_)
  ·rw[ai];constructor
   ·intro h z;rw[z]at h;exact absurd h (by decide)
   ·intro h;exact zzr1 (by have:=nh.mpr h;omega)
  rotate_left
  ·have c:=Classical.not_not.1 c;refine⟨kvs,_,_,rfl,h3,S2.trans S3,S13,?_⟩;rw[take_snoc hsg,ze,if_pos c,gJ];exact st3
  ·have no:bP kvs (jW sg)=none:=st3.no fun p hp e=>by
    have h1:=GY hp;rw[e]at h1;exact o_ nd hsg h1
   have ll:kvs.length<aj:=by
    rw[Paired.length st];refine ax ?_;have h1:=Cu (J2:=J2) (ds:=ds) (J6:=J6) (L:=(av J0 J1).take i);rw[aM]at h1;omega
   refine⟨_,rfl,_,rfl,_,rfl,d,u,kvs,jW sg,rfl,rfl,h3,yP (hat3.tup hh),d4 sg,ll,_,_,_,rfl,aa,?_,?_,?_⟩
   ·intro b o e;rw[ag (ae e hd)];exact S3 _ _ (S2 _ _ e)
   ·intro b o e n;rw[ag n];exact S13 b o e n
   ·rw[fU _ no,take_snoc hsg,ze,if_neg c];have kt:ii H3 (upd H3 d (.dT (kvs++[(jW sg,.ref f)]))):=EB h3;exact cG (st3.kt kt) ⟨rfl,f,rfl,kt _ _ hf⟩
 ·rintro σ H2 ⟨kvs,x3,x4,rfl,h2,S2,_,st⟩;rw[ai,Paired.length hP,bt]at st;exact⟨_,rfl,k d kvs H2 h2 st hd S2⟩
def o8:Nat->List (List Str)->List (TK×V)
 |_,[]=>[]
 |n,f::r=>(jW f,.int (n:Nat))::o8 (n+1) r
theorem vN(f:Zb):∀(fs:List (List Str)) (n:Nat),o8 n (fs++[f])=o8 n fs++[(jW f,.int ((n+fs.length:Nat)))]
 |[],n=>rfl
 |x::r,n=>by
  show _::o8 (n+1) (r++[f])=_::(o8 (n+1) r++_);rw[vN f r (n+1),cZ,show n+1+r.length=n+(r.length+1) by omega]
theorem zH:∀(fs:List (List Str)) (n:Nat),(o8 n fs).length=fs.length
 |[],n=>rfl
 |x::r,n=>by show _+1=_+1;rw[zH r (n+1)]
theorem lN(f:Zb):∀(fs:List (List Str)) (n:Nat),bP (o8 n fs) (jW f)=if f∈fs then some (.int ((n+fs.idxOf f:Nat)))else none
 |[],n=>rfl
 |x::r,n=>by
  by_cases c:x=f
  ·subst c;rw[if_pos cb];show bP ((jW x,_)::_) _=_;rw[cC rfl];rw[List.idxOf_cons_self];rfl
  ·show bP ((jW x,_)::_) _=_;rw[cu (fun e=>c (my e)),lN f r (n+1)];by_cases d:f∈r
   ·rw[if_pos d,if_pos (cT _ d)];have e:(x::r).idxOf f=r.idxOf f+1:=by rw[List.idxOf_cons,show(x==f)=false from beq_false_of_ne c];rfl
    rw[e,show n+1+r.idxOf f=n+(r.idxOf f+1) by omega]
   ·rw[if_neg d,if_neg (by simp[dA c,d])]
abbrev jh(K:Za)(H:Hp)(w:Addr)(s:List Sg):Prop:=∃gs:List Addr,H w=some (.lst (gs.map V.ref))/\Paired (fun g (sg:Sg)=>bB K H g (sg.map V.str)) gs s
structure FC(K:Za)(C:Addr):Prop where
 cls:Df K C
 a1:dP K C "machine"
 a2:dP K C "faces"
 a3:dP K C "first_stories"
 a4:dP K C "numbers"
 a5:dP K C "steps"
def JD(C:Addr)(H:Hp)(x M fa sa na ta:Addr):Prop:=∃(dx:Addr) (fs:List (Str×V)),H x=some (.ins C dx fs)/\lk "machine" fs=some (.ref M)/\lk "faces" fs=some (.ref fa)/\lk "first_stories" fs=some (.ref sa)/\lk "numbers" fs=some (.ref na)/\lk "steps" fs=some (.ref ta)/\lk "number_at" fs=none/\lk "numbered_steps" fs=none
structure hW(K:Za)(C:Addr)(H:Hp)(x M fa sa na ta:Addr)(us ws:Ze)(m:j1):Prop where
 ob:JD C H x M fa sa na ta
 hfa:H fa=some (.lst (us.map V.ref))
 faces:Paired (fun u (f:Zb)=>H u=some (.tup (f.map V.str))) us m.fs
 hsa:H sa=some (.lst (ws.map V.ref))
 stories:Paired (fun w s=>(w≠fa/\w≠sa/\w≠ta)/\jh K H w s) ws m.ss
 hna:H na=some (.dT (o8 0 m.fs))
 ne:fa≠sa/\fa≠ta/\sa≠ta
theorem bB.kt{K:Za}(k:ii H H')(h:bB K H a xs):bB K H' a xs:=h.keeps k
theorem jh.kt{K:Za}{w:Addr}(k:ii H H')(e:∀o,H w=some o->H' w=some o)(h:jh K H w s):jh K H' w s:=by
 obtain⟨gs,h1,h2⟩:=h;exact⟨gs,e _ h1,Paired.mapP h2 fun _ _ r=>bB.kt k r⟩
def IY(fa sa na:Addr)(H H':Hp):Prop:=∀b o,H b=some o->b≠fa->b≠sa->b≠na->H' b=some o
theorem IY.refl(fa sa na:Addr)(H:Hp):IY fa sa na H H:=fun _ _ e _ _ _=>e
theorem hW.same{K:Za}(h:hW K C H x M fa sa na ta us ws m)(S:ac H H'):hW K C H' x M fa sa na ta us ws m:=by
 obtain⟨⟨dx,fs,g,r⟩,h1,h2,h3,h4,h5,h6⟩:=h;exact⟨⟨dx,fs,S _ _ g,r⟩,S _ _ h1,Paired.mapP h2 fun _ _ r=>S _ _ r,S _ _ h3,Paired.mapP h4 fun _ _ r=>⟨r.1,r.2.kt (ac.kt S) fun o e=>S _ _ e⟩,S _ _ h5,h6⟩
theorem hW.move{K:Za}{d:Addr}{o:HO}{kvs:List (TK×V)}(h:hW K C H x M fa sa na ta us ws m)(hd:H d=some (.dT kvs))(n:d≠na):hW K C (upd H d o) x M fa sa na ta us ws m:=by
 have k:ii H (upd H d o):=EB hd;obtain⟨⟨dx,fs,g,r⟩,h1,h2,h3,h4,h5,h6⟩:=h;refine⟨⟨dx,fs,by rw[ag (fun z=>by rw[z,hd]at g;cases g)];exact g,r⟩,by rw[ag (fun z=>by rw[z,hd]at h1;cases h1)];exact h1,Paired.mapP h2 fun _ _ r=>k _ _ r,by rw[ag (fun z=>by rw[z,hd]at h3;cases h3)];exact h3,Paired.mapP h4 fun w s r=>⟨r.1,?_⟩,by rw[ag n.symm];exact h5,h6⟩;obtain⟨gs,g1,g2⟩:=r.2;exact⟨gs,by rw[ag (fun z=>by rw[z,hd]at g1;cases g1)];exact g1,Paired.mapP g2 fun _ _ r=>bB.kt k r⟩
inductive lF(K:Za)(C:Addr)(vs:List V)(H:Hp)(Q:VK)(E:XK):Prop
 |mk (x M fa sa na ta u st:Addr) (us ws:Ze) (m:j1) (J6:Zb) (story:List Sg):(vs=[.ref x,.ref u,.ref st])->(hW K C H x M fa sa na ta us ws m)->(H u=some (.tup (J6.map V.str)))->(jh K H st story)->((st≠fa/\st≠sa/\st≠ta))->(m.fs.length<400)->(m.ss.length<400)->(∀(us' ws':Ze) (H':Hp),hW K C H' x M fa sa na ta us' ws' (m.add J6 story)->IY fa sa na H H'->Q (.int (((m.add J6 story).fs.idxOf J6:Nat))) H')->lF K C vs H Q E
theorem Fa{K:Za}(c:FC K C)(h:lF K C vs H Q E):mG K (bH Q) (start mQ vs) H:=by
 obtain⟨x,M,fa,sa,na,ta,u,st,us,ws,m,J6,story,rfl,F,hu,hst,ns,z1,z2,k⟩:=h;obtain⟨dx,fs,g,l1,l2,l3,l4,l5,l6,l7⟩:=F.ob;have tk:lW K H (jW J6) (.ref u):=da.isIn 8 (d4 J6) (SignAt.tk hu);have g1:kB K H na (.ref u) (bP (o8 0 m.fs) (jW J6)):=.inr ⟨_,_,_,.inl F.hna,rfl,tk,d4 J6,rfl⟩;refine⟨_,rfl,_,rfl,x,C,dx,fs,.ref na,rfl,g,c.cls,c.a4,l4,na,_,rfl,g1,_,rfl,?_⟩;rw[lN];refine FT (P:=¬J6∈m.fs) (by by_cases c:J6∈m.fs<;>simp[c]) (fun nin=>?_) (fun nin=>?_);rotate_left
 ·have hin:=Classical.not_not.1 nin;have e:=j1.add_in (s:=story) hin;refine⟨_,rfl,x,C,dx,fs,.ref na,rfl,g,c.cls,c.a4,l4,_,rfl,na,.int ((m.fs.idxOf J6:Nat)),rfl,?_,?_⟩
  ·rw[lN,if_pos hin,we]at g1;exact g1
  ·have:=k us ws H (by rw[e];exact F) (.refl _ _ _ _);rw[e]at this;exact this
 have e:=j1.add_new (s:=story) nin;have zl:(us.map V.ref).length=m.fs.length:=by rw[ai,Paired.length F.faces]
 have zs:(ws.map V.ref).length=m.ss.length:=by rw[ai,Paired.length F.stories]
 refine⟨_,rfl,x,C,dx,fs,.ref fa,rfl,g,c.cls,c.a2,l2,.inl ⟨fa,_,rfl,.inl (aA.of F.hfa),rfl,_,rfl,?_⟩⟩;refine FT (P:=False) (by rw[zl];simp;omega) (fun z=>z.elim) fun _=>?_;have tka:da H (jW J6) (.ref u):=SignAt.tk hu;refine⟨_,rfl,x,C,dx,fs,.ref fa,rfl,g,c.cls,c.a2,l2,.inl ⟨fa,_,rfl,.inl (aA.of F.hfa),_,rfl,x,C,dx,fs,.ref na,rfl,g,c.cls,c.a4,l4,_,rfl,na,_,rfl,.inr ⟨_,_,u,F.hna,rfl,tka,d4 J6,?_,rfl⟩,?_⟩⟩
 ·rw[zH];exact ax (by omega)
 rw[fU _ (by rw[lN,if_neg nin]),zl];have e1:o8 0 m.fs++[(jW J6,V.int (m.fs.length:Nat))]=o8 0 (m.fs++[J6]):=by rw[vN,we]
 rw[e1];have kna:ii H (upd H na (.dT (o8 0 (m.fs++[J6])))):=EB F.hna;generalize hH1:upd H na (.dT (o8 0 (m.fs++[J6])))=H1 at kna ⊢;have nx:x≠na:=fun z=>by rw[z,F.hna]at g;cases g
 have nxf:x≠fa:=fun z=>by rw[z,F.hfa]at g;cases g
 have nxs:x≠sa:=fun z=>by rw[z,F.hsa]at g;cases g
 have nfa:fa≠na:=fun z=>by have:=F.hfa;rw[z,F.hna]at this;cases this
 have nsa:sa≠na:=fun z=>by have:=F.hsa;rw[z,F.hna]at this;cases this
 have fa1:H1 fa=some (.lst (us.map V.ref)):=by rw[<-hH1,ag nfa];exact F.hfa
 have sa1:H1 sa=some (.lst (ws.map V.ref)):=by rw[<-hH1,ag nsa];exact F.hsa
 have g1':H1 x=some (.ins C dx fs):=by rw[<-hH1,ag nx];exact g
 refine⟨_,rfl,x,C,dx,fs,.ref fa,rfl,g1',c.cls,c.a2,l2,.inl ⟨rfl,_,aA.of fa1⟩,_,rfl,fa,_,.ref u,rfl,rfl,fa1,?_,?_⟩
 ·rw[zl];exact ax (by omega)
 generalize hH2:upd H1 fa (.lst (us.map V.ref++[.ref u]))=H2;have k2:ii H1 H2:=by rw[<-hH2];exact cJ fa1
 have sa2:H2 sa=some (.lst (ws.map V.ref)):=by rw[<-hH2,ag F.ne.1.symm];exact sa1
 have g2:H2 x=some (.ins C dx fs):=by rw[<-hH2,ag nxf];exact g1'
 refine⟨_,rfl,x,C,dx,fs,.ref sa,rfl,g2,c.cls,c.a3,l3,.inl ⟨rfl,_,aA.of sa2⟩,_,rfl,sa,_,.ref st,rfl,rfl,sa2,?_,?_⟩
 ·rw[zs];exact ax (by omega)
 generalize hH3:upd H2 sa (.lst (ws.map V.ref++[.ref st]))=H3;have k3:ii H2 H3:=by rw[<-hH3];exact cJ sa2
 have kt:ii H H3:=(kna.trans k2).trans k3;have ex:IY fa sa na H H3:=fun b o e n1 n2 n3=>by rw[<-hH3,ag n2,<-hH2,ag n1,<-hH1,ag n3];exact e
 have g3:H3 x=some (.ins C dx fs):=ex _ _ g nxf nxs nx;have na3:H3 na=some (.dT (o8 0 (m.fs++[J6]))):=by rw[<-hH3,ag nsa.symm,<-hH2,ag nfa.symm,<-hH1,aa]
 have fa3:H3 fa=some (.lst ((us++[u]).map V.ref)):=by rw[<-hH3,ag F.ne.1,<-hH2,aa,ay];rfl
 have sa3:H3 sa=some (.lst ((ws++[st]).map V.ref)):=by rw[<-hH3,aa,ay];rfl
 have sto:∀{w:Addr}{s:List Sg},(w≠fa/\w≠sa/\w≠ta)->jh K H w s->jh K H3 w s:=fun n r=>by
  obtain⟨gs,q1,q2⟩:=r;exact⟨gs,ex _ _ q1 n.1 n.2.1 (fun z=>by rw[z,F.hna]at q1;cases q1),Paired.mapP q2 fun _ _ r=>bB.kt kt r⟩
 have F3:hW K C H3 x M fa sa na ta (us++[u]) (ws++[st]) (m.add J6 story):=by
  rw[e];exact⟨⟨dx,fs,g3,l1,l2,l3,l4,l5,l6,l7⟩,fa3,cG (Paired.mapP F.faces fun _ _ r=>kt _ _ r) (kt _ _ hu),sa3,cG (Paired.mapP F.stories fun _ _ r=>⟨r.1,sto r.1 r.2⟩) ⟨ns,sto ns hst⟩,na3,F.ne⟩
 have tk3:lW K H3 (jW J6) (.ref u):=da.isIn 8 (d4 J6) (SignAt.tk (kt _ _ hu));have hin:J6∈m.fs++[J6]:=by simp
 have g5:kB K H3 na (.ref u) (some (.int ((m.add J6 story).fs.idxOf J6:Nat))):=by
  refine .inr ⟨_,jW J6,u,.inl na3,rfl,tk3,d4 J6,?_⟩;rw[lN,if_pos hin,we,e]
 exact⟨_,rfl,x,C,dx,fs,.ref na,rfl,g3,c.cls,c.a4,l4,_,rfl,na,_,rfl,g5,k _ _ H3 F3 ex⟩
theorem v2{d:Addr}{o:Obj}{u:HO}{n:Nat}{ent:Nat->Hp->V->V->Prop}{g:TG}{tb:TS}{D:kU}{σ:L2.St}{H:Hp}(Pv:Nat->L2.St->Hp->Prop)(h0:Pv 0 σ H)(hl:∀i σ H,i<=n->Pv i σ H->H d=some (.frz o u))
  (hs:∀i σ H p a b,i<n->Pv i σ H->H p=none->ent i H a b->g (.ref p) σ (upd H p (.tup [a,b])) fun σ2 H2=>tb { D with nx:=Pv (i+1),ct:=Pv (i+1),bk:=D.nx } σ2 H2) (hd:∀σ H,Pv n σ H->D.nx σ H) :
  ∃W:Nat->Nat->L2.St->Hp->Prop,(∃m,W 0 m σ H)/\∀i m σ H,W i m σ H ->
   ((HS d o u n ent).stop i H/\D.nx σ H)∨((HS d o u n ent).go i H/\∃N:L2.St->Hp->Prop,(∀σ' H',N σ' H'->∃m',m'<m/\W (i+1) m' σ' H')/\∀x H',(HS d o u n ent).yld i H x H'->g x σ H' fun σ2 H2=>tb { D with nx:=N,ct:=N,bk:=D.nx } σ2 H2):=by
 refine⟨fun i m σ H=>m=n-i/\i<=n/\Pv i σ H,⟨n,by simp,df _,h0⟩,?_⟩;rintro i m σ H ⟨rfl,hi,p⟩;have q:=hl i σ H hi p;by_cases lt:i<n
 ·refine .inr ⟨⟨q,lt⟩,Pv (i+1),fun σ' H' p'=>⟨n-(i+1),by omega,rfl,lt,p'⟩,fun x H' y=>?_⟩;obtain⟨t,a,b,hn,rfl,en,rfl⟩:=y;exact hs i σ H t a b lt p hn en
 ·have e:i=n:=by omega
  subst e;exact .inl ⟨⟨q,aG _⟩,hd σ H p⟩
def stK(l:List (Sg×Nat)):List (TK×V):=l.map fun a=>(jW a.1,.int (a.2:Nat))
def Ey(L:Ze)(H H':Hp):Prop:=∀b o,H b=some o->b∉L->H' b=some o
theorem Ey.refl(L:Ze)(H:Hp):Ey L H H:=fun _ _ e _=>e
theorem Ey.trans(a:Ey L H H1)(b:Ey L H1 H2):Ey L H H2:=fun c o e n=>b c o (a c o e n) n
theorem ac.exL(S:ac H H'):Ey L H H':=fun b o e _=>S b o e
theorem IY.exL{L:Ze}(a:IY fa sa na H H')(s:fa∈L/\sa∈L/\na∈L):Ey L H H':=fun b o e n=>a b o e (fun z=>n (z▸s.1)) (fun z=>n (z▸s.2.1)) (fun z=>n (z▸s.2.2))
theorem Ey.upd{L:Ze}{d:Addr}{o:HO}(h:d∈L):Ey L H (upd H d o):=fun b u e n=>by rw[ag (fun z:b=d=>n (by rw[z];exact h))];exact e
theorem Good.grow_len(g:Good J2 m)(hr:J2.length<=8):m.fs.length<400/\m.ss.length<400:=by
 have h1:=g.few hr;have h2:=g.len;omega
theorem vv{K:Za}:∀{sg:Zb}{xs:List V},TKCs K H (sg.map oS) xs->xs=sg.map V.str
 |[],xs,h=>by rw[sQ]at h;unfold TKCs at h;exact h
 |s::sg,xs,h=>by
  rw[bb]at h;unfold TKCs at h;obtain⟨v,us,rfl,h1,h2⟩:=h;unfold oS nV at h1;rw[h1,vv h2]
  rfl
theorem yO{K:Za}(h:nV K H (jW sg) a):∃b,a=.ref b/\bB K H b (sg.map V.str):=by
 unfold jW nV at h;obtain⟨b,xs,rfl,h1,h2⟩:=h;rw[vv h2]at h1;exact⟨b,rfl,h1⟩
theorem xp(m:aD J0 J1 J2 ds):((stepsF J0 J1 J2 ds J6).map (·.1)).Nodup:=by
 have nd:=eP m;unfold stepsF;refine List.Nodup.sublist (List.Sublist.map _ List.filter_sublist) ?_;rw[sA];have e:((fun p:Sg×List Str=>p.1) ∘ fun sg=>(sg,behF J2 ds J6 sg))=id:=rfl;rw[e,List.map_id];exact nd
theorem vL(s:List Sg)(m:j1)(L:List (Sg×List Str)):(eL s m L).2.map (·.1)=L.map (·.1):=by
 have key:∀n,n<=L.length->(eL s m (L.take n)).2.map (·.1)=(L.take n).map (·.1):=by
  intro n
  induction n with
  |zero=>intro _;rfl
  |succ n ih =>
   intro hn;have hp:L[n]?=some L[n]:=aV (by omega);rw[take_snoc hp,jR];show((eL s m (L.take n)).2++[(L[n].1,_)]).map (fun a:Sg×Nat=>a.1)=_;rw[ay,ay,ih (by omega)]
   rfl
 have:=key L.length (aG _);rw[bt]at this;exact this
theorem pE.atS(h:pE m m'){i:Nat}{f:List Sg}(e:m.ss[i]?=some f):m'.ss[i]?=some f:=by
 obtain⟨_,⟨r,q⟩⟩:=h;rw[q,c9 (by rcases d6 i m.ss.length with z|z;exact z;rw[fx z]at e;cases e),e]
theorem hW.ex3{K:Za}(h:hW K C H x M fa sa na ta us ws m)(e:IY fa sa na H H'):ii H H':=fun b xs q =>
 e b _ q (fun z=>by rw[z,h.hfa]at q;cases q) (fun z=>by rw[z,h.hsa]at q;cases q) (fun z=>by rw[z,h.hna]at q;cases q)
inductive jb(K:Za)(C Cm:Addr)(vs:List V)(H:Hp)(Q:VK)(E:XK):Prop
 |mk (x M fa sa na ta:Addr) (us ws:Ze) (m:j1) (n:Nat) (J0 J1 J2:Zb) (ds:List ao):(vs=[.ref x,.int (n:Nat)])->(hW K C H x M fa sa na ta us ws m)->(bd Cm H M J0 J1 J2 ds)->(Good J2 m)->(J2.length<=8)->(n<m.fs.length)->((∃vs,H ta=some (.lst vs)))->(∀(d:Addr) (us' ws':Ze) (H':Hp),hW K C H' x M fa sa na ta us' ws' (eL (m.ss.getD n []) m (stepsF J0 J1 J2 ds (m.fs.getD n []))).1->H' d=some (.dT (stK (eL (m.ss.getD n []) m (stepsF J0 J1 J2 ds (m.fs.getD n []))).2))->H d=none->Ey [fa,sa,na] H H'->Q (.ref d) H')->jb K C Cm vs H Q E
theorem zk{K:Za}(c:FC K C)(h:jb K C Cm vs H Q E):jq K (j_ Cm) C (lF K C) (bH Q) (start js vs) H:=by
 obtain⟨x,M,fa,sa,na,ta,us,ws,m,n,J0,J1,J2,ds,rfl,F,MA,gd,hr,hn,⟨tvs,hta⟩,k⟩:=h;have hfn:m.fs[n]?=some m.fs[n]:=aV hn;have hsn:n<m.ss.length:=by rw[gd.len];exact hn
 have hss:m.ss[n]?=some m.ss[n]:=aV hsn;have ef:m.fs.getD n []=m.fs[n]:=by simp[hn]
 have es:m.ss.getD n []=m.ss[n]:=by simp[hsn]
 rw[ef,es]at k;have hF:=gd.isF m.fs[n] (eI _);have hFl:=hF.len;obtain⟨u,hu,hut⟩:=Paired.get F.faces hfn;obtain⟨w,hw,hwn,hwt⟩:=Paired.get F.stories hss;have atw:qA (ws.map V.ref) n=some (.ref w):=aJ (by rw[bw,hw];rfl);have atu:qA (us.map V.ref) n=some (.ref u):=aJ (by rw[bw,hu];rfl);refine fun d hd=>?_;have S0:ac H (upd H d (.dT [])):=ac.new hd;have F0:=F.same S0;obtain⟨dx,fs,g,l1,l2,l3,l4,l5,l6,l7⟩:=F0.ob;refine⟨_,rfl,x,C,dx,fs,.ref M,rfl,g,c.cls,c.a1,l1,_,rfl,x,C,dx,fs,.ref fa,rfl,g,c.cls,c.a2,l2,_,rfl,fa,_,_,_,rfl,rfl,aA.of F0.hfa,atu,M,u,m.fs[n],J0,J1,J2,ds,rfl,MA.same S0,S0 _ _ hut,hF.sub,by omega,fun d0 kvs H1 hd0 st hd0' S1=>?_⟩;have F1:=F0.same S1;have nd0:d0≠d:=fun z=>by rw[z,aa]at hd0';cases hd0'
 have fr:∀{b:Addr}{o:HO},H b=some o->b≠d0:=fun e=>ae (S0 _ _ e) hd0';have frd:∀{b:Addr}{o:HO},H b=some o->b≠d:=fun e=>ae e hd;obtain⟨dx',fs',gx,_⟩:=F.ob;refine⟨d0,kvs,rfl,.inl ⟨hd0,fun o=>?_⟩⟩;have F2:=F1.move (o:=.frz o (.dT kvs)) hd0 (dA (fr F.hna));have kt12:ii H1 (upd H1 d0 (.frz o (.dT kvs))):=EB hd0;have d2:upd H1 d0 (.frz o (.dT kvs)) d=some (.dT []):=by rw[ag nd0.symm];exact S1 _ _ aa
 have ta2:upd H1 d0 (.frz o (.dT kvs)) ta=some (.lst tvs):=by rw[ag (fr hta)];exact S1 _ _ (S0 _ _ hta)
 have f2:upd H1 d0 (.frz o (.dT kvs)) d0=some (.frz o (.dT kvs)):=aa;have e02:∀b o',H b=some o'->upd H1 d0 (.frz o (.dT kvs)) b=some o':=fun b o' e=>by rw[ag (fr e)];exact S1 _ _ (S0 _ _ e)
 have st2:=st.kt kt12;generalize upd H1 d0 (.frz o (.dT kvs))=H2 at F2 kt12 d2 ta2 f2 st2 e02 ⊢;have hLF:∀p∈stepsF J0 J1 J2 ds m.fs[n],kz J2 p.2:=tE hF;have zL:(stepsF J0 J1 J2 ds m.fs[n]).length<=9:=by
  have z1:=MA.ok.asks4;have z2:=MA.ok.says4;refine bL (Cu (L:=av J0 J1)) ?_;unfold av;rw[az,az,ai,ai];show _+1<=9;omega
 have ndL:=xp (J6:=m.fs[n]) MA.ok;generalize stepsF J0 J1 J2 ds m.fs[n]=L at st st2 hLF ndL zL k ⊢;have gq:∀i,Good J2 (eL m.ss[n] m (L.take i)).1/\pE m (eL m.ss[n] m (L.take i)).1:=fun i=>by
  obtain⟨h1,h2,_⟩:=vM (s:=m.ss[n]) gd (by have:=gd.sl _ _ hss;omega) (L.take i) fun p hp=>hLF p (fu hp);exact⟨h1,h2⟩
 have nfd:fa≠d:=frd F.hfa;have nsd:sa≠d:=frd F.hsa;have nnd:na≠d:=frd F.hna;refine v2 (fun i σ H'=>∃(us' ws':Ze) (x3 x4:Option V),σ=[some (.ref x),some (.int (n:Nat)),some (.ref d),x3,x4]/\hW K C H' x M fa sa na ta us' ws' (eL m.ss[n] m (L.take i)).1/\H' d=some (.dT (stK (eL m.ss[n] m (L.take i)).2))/\Ey [fa,sa,na,d] H2 H'/\ii H2 H')
  ⟨us,ws,_,_,rfl,F2,d2,.refl _ _,fun _ _ e=>e⟩ ?_ ?_ ?_
 ·rintro i σ H' _ ⟨_,_,_,_,_,_,_,ex,_⟩;exact ex _ _ f2 (by simp[dA (fr F.hfa),dA (fr F.hsa),dA (fr F.hna),nd0])
 ·rintro i σ H3 p a b hi ⟨us',ws',x3,x4,rfl,F3,d3,ex3,kt3⟩ hp ⟨key,ek,tkc⟩;obtain⟨pr,hpr,rfl,uf,rfl,huf⟩:=Paired.getL st2 ek;obtain⟨sga,rfl,hsga⟩:=yO tkc;obtain⟨gd3,gr3⟩:=gq i;obtain⟨z1,z2⟩:=gd3.grow_len hr;obtain⟨w',hw',hwn',gs,hg1,hg2⟩:=Paired.get F3.stories (gr3.atS hss);have atw':qA (ws'.map V.ref) n=some (.ref w'):=aJ (by rw[bw,hw'];rfl);have Sp:ac H3 (upd H3 p (.tup [.ref sga,.ref uf])):=ac.new hp;have hp4:upd H3 p (.tup [.ref sga,.ref uf]) p=some (.tup [.ref sga,.ref uf]):=aa;generalize upd H3 p (.tup [.ref sga,.ref uf])=H4 at Sp hp4 ⊢;refine⟨p,_,rfl,bD.of hp4,rfl,_,_,rfl,_,_,rfl,rfl,?_⟩;have F4:=F3.same Sp;obtain⟨dx4,fs4,g4,m1,m2,m3,m4,m5,m6,m7⟩:=F4.ob;have hw4:=Sp _ _ hg1;refine⟨_,rfl,x,dx4,fs4,rfl,g4,m6,_,rfl,_,rfl,x,C,dx4,fs4,.ref sa,rfl,g4,c.cls,c.a3,m3,_,rfl,sa,_,_,_,rfl,rfl,aA.of F4.hsa,atw',_,rfl,(by show 1<=aj;decide),fun ll hll=>?_⟩;have Sl:ac H4 (upd H4 ll (.lst [.ref sga])):=ac.new hll;have hl5:upd H4 ll (.lst [.ref sga]) ll=some (.lst [.ref sga]):=aa;generalize upd H4 ll (.lst [.ref sga])=H5 at Sl hl5 ⊢;have zw:gs.length<=400:=by rw[Paired.length hg2];have:=gd.sl _ _ hss;have:=gd.few hr;omega
  refine⟨w',ll,_,_,rfl,rfl,Sl _ _ hw4,hl5,(by rw[ai];exact eo (ax (by show _+1<=1000;omega))),fun p2 hp2=>?_⟩;have S2:ac H5 (upd H5 p2 (.lst (gs.map V.ref++[.ref sga]))):=ac.new hp2;have hp6:upd H5 p2 (.lst (gs.map V.ref++[.ref sga])) p2=some (.lst ((gs++[sga]).map V.ref)):=by rw[aa,ay];rfl
  generalize upd H5 p2 (.lst (gs.map V.ref++[.ref sga]))=H6 at S2 hp6 ⊢;have S36:ac H3 H6:=(Sp.trans Sl).trans S2;have F6:=F3.same S36;have ta3:H3 ta=some (.lst tvs):=ex3 _ _ ta2 (by simp[F.ne.2.1.symm,F.ne.2.2.symm,frd hta];exact fun z=>by rw[z,F.hna]at hta;cases hta);have np:∀{b:Addr}{o:HO},H3 b=some o->p2≠b:=fun e=>dA (ae (Sl _ _ (Sp _ _ e)) hp2);have sto:jh K H6 p2 (m.ss[n]++[pr.1]):=⟨gs++[sga],hp6,cG (Paired.mapP hg2 fun _ _ r=>bB.kt (ac.kt S36) r) (bB.kt (ac.kt S36) hsga)⟩;refine⟨x,M,fa,sa,na,ta,uf,p2,us',ws',_,pr.2,m.ss[n]++[pr.1],rfl,F6,S36 _ _ (kt3 _ _ huf),sto,⟨np F3.hfa,np F3.hsa,np ta3⟩,z1,z2,fun us'' ws'' H7 F7 e7=>?_⟩;have k67:=F6.ex3 e7;have k37:ii H3 H7:=(ac.kt S36).trans k67;have d7:H7 d=some (.dT (stK (eL m.ss[n] m (L.take i)).2)):=e7 _ _ (S36 _ _ d3) nfd.symm nsd.symm nnd.symm;have ek7:bP (stK (eL m.ss[n] m (L.take i)).2) (jW pr.1)=none:=by
   refine wW fun kv hkv e=>?_;obtain⟨q,hq,rfl⟩:=ap.1 hkv;have h1:q.1∈(L.take i).map (·.1):=by rw[<-vL m.ss[n] m];exact k5 hq
   rw[my e,nj]at h1;exact o_ ndL (by rw[bw,hpr];rfl) h1
  have l7:(stK (eL m.ss[n] m (L.take i)).2).length<aj:=by
   have h1:=congrArg List.length (vL m.ss[n] m (L.take i));rw[ai,ai,aM]at h1;unfold stK;rw[ai,h1];exact ax (by omega)
  refine⟨_,rfl,_,rfl,d,sga,_,jW pr.1,rfl,rfl,d7,yP (bB.kt k37 hsga),d4 _,l7,us'',ws'',_,_,rfl,?_,?_,?_,?_⟩
  ·rw[take_snoc hpr,jR];exact F7.move d7 (dA nnd)
  ·rw[aa,fU _ ek7,take_snoc hpr,jR];show _=some (HO.dT (stK ((eL m.ss[n] m (L.take i)).2++[_])));unfold stK;rw[ay]
   rfl
  ·exact(ex3.trans (ac.exL S36)).trans ((e7.exL ⟨by simp,by simp,by simp⟩).trans (Ey.upd (by simp)))
  ·exact(kt3.trans k37).trans (EB d7)
 ·rintro σ H3 ⟨us',ws',x3,x4,rfl,F3,d3,ex3,kt3⟩;rw[Paired.length st,bt]at F3 d3;refine⟨_,rfl,k d us' ws' H3 F3 d3 hd fun b o' e nb=>ex3 _ _ (e02 _ _ e) ?_⟩;simp at nb ⊢;exact⟨nb.1,nb.2.1,nb.2.2,frd e⟩
abbrev pC(H0:Hp)(na:Addr)(H:Hp)(ts:Ze)(st:List (List (Sg×Nat))):Prop:=Paired (fun d l=>H0 d=none/\d≠na/\H d=some (.dT (stK l))) ts st
inductive mf(K:Za)(C Cm:Addr)(vs:List V)(H:Hp)(Q:VK)(E:XK):Prop
 |mk (H0:Hp) (x dx M:Addr) (J0 J1 J2:Zb) (ds:List ao):(vs=[.ref x,.ref M])->(H x=some (.ins C dx []))->(bd Cm H0 M J0 J1 J2 ds)->(H0 x=none)->(ac H0 H)->(J2.length<=8)->(∀(fa sa na ta:Addr) (us ws ts:Ze) (S:uv) (j:Nat) (H':Hp),hW K C H' x M fa sa na ta us ws S.1->H' ta=some (.lst (ts.map V.ref))->pC H0 na H' ts S.2->qI J0 J1 J2 ds S->S.2.length=S.1.fs.length->S=itF J0 J1 J2 ds j->ac H0 H'->Q .non H')->mf K C Cm vs H Q E
theorem hW.moveT{K:Za}{xs ys:List V}(h:hW K C H x M fa sa na ta us ws m)(ht:H ta=some (.lst xs)):hW K C (upd H ta (.lst ys)) x M fa sa na ta us ws m:=by
 have k:ii H (upd H ta (.lst ys)):=cJ ht;obtain⟨⟨dx,fs,g,r⟩,h1,h2,h3,h4,h5,h6⟩:=h;refine⟨⟨dx,fs,by rw[ag (fun z=>by rw[z,ht]at g;cases g)];exact g,r⟩,by rw[ag h6.2.1];exact h1,Paired.mapP h2 fun _ _ r=>k _ _ r,by rw[ag h6.2.2];exact h3,Paired.mapP h4 fun w s r=>⟨r.1,?_⟩,by rw[ag (fun z=>by rw[z,ht]at h5;cases h5)];exact h5,h6⟩;obtain⟨gs,g1,g2⟩:=r.2;exact⟨gs,by rw[ag r.1.2.2];exact g1,Paired.mapP g2 fun _ _ r=>bB.kt k r⟩
theorem DC{K:Za}(c:FC K C)(h:mf K C Cm vs H Q E):nJ K C (jb K C Cm) (lF K C) (dZ Cm) (bH Q) (start og vs) H:=by
 obtain⟨H0,x,dx,M,J0,J1,J2,ds,rfl,hx,MA,hx0,S0,hr,k⟩:=h;have up:∀{H1 H2:Hp}{o:HO},ac H0 H1->H2=upd H1 x o->ac H0 H2:=fun S e b o q=>by rw[e,ag (ae q hx0)];exact S _ _ q
 refine⟨_,rfl,_,rfl,x,C,dx,[],rfl,hx,c.cls,c.a1,(by decide),?_⟩;obtain⟨H1,e1,hx1,X1⟩:=qz "machine" (.ref M) hx;rw[<-e1];have S1:=up S0 e1;have len1:(cH ("machine":Str) (.ref M) []).length<=1:=dX _ _ _;refine⟨(by show 0<=aj;decide),fun fa hfa=>⟨_,rfl,x,C,dx,_,rfl,kp hx1 hfa,c.cls,c.a2,by omega,?_⟩⟩;obtain⟨H2,e2,hx2,X2⟩:=qz "faces" (.ref fa) (kp (x:=.lst []) hx1 hfa);rw[<-e2];have S2:=up (S1.trans (ac.new hfa)) e2;have nf:fa≠x:=(ae hx1 hfa).symm;have fa2:=X2 _ _ aa nf;have len2:=dX ("faces":Str) (.ref fa) (cH ("machine":Str) (.ref M) []);refine⟨(by show 0<=aj;decide),fun sa hsa=>⟨_,rfl,x,C,dx,_,rfl,kp hx2 hsa,c.cls,c.a3,by omega,?_⟩⟩;obtain⟨H3,e3,hx3,X3⟩:=qz "first_stories" (.ref sa) (kp (x:=.lst []) hx2 hsa);rw[<-e3];have S3:=up (S2.trans (ac.new hsa)) e3;have ns:sa≠x:=(ae hx2 hsa).symm;have sa3:=X3 _ _ aa ns;have fa3:=X3 _ _ (kp (x:=.lst []) fa2 hsa) nf;have nfs:fa≠sa:=ae fa2 hsa;have len3:=dX ("first_stories":Str) (.ref sa) (cH ("faces":Str) (.ref fa) (cH ("machine":Str) (.ref M) []));refine fun na hna=>⟨_,rfl,x,C,dx,_,rfl,kp hx3 hna,c.cls,c.a4,by omega,?_⟩;obtain⟨H4,e4,hx4,X4⟩:=qz "numbers" (.ref na) (kp (x:=.dT []) hx3 hna);rw[<-e4];have S4:=up (S3.trans (ac.new hna)) e4;have nn:na≠x:=(ae hx3 hna).symm;have na4:=X4 _ _ aa nn;have fa4:=X4 _ _ (kp (x:=.dT []) fa3 hna) nf;have sa4:=X4 _ _ (kp (x:=.dT []) sa3 hna) ns;have len4:=dX ("numbers":Str) (.ref na) (cH ("first_stories":Str) (.ref sa) (cH ("faces":Str) (.ref fa) (cH ("machine":Str) (.ref M) [])));refine⟨(by show 0<=aj;decide),fun ta hta=>⟨_,rfl,x,C,dx,_,rfl,kp hx4 hta,c.cls,c.a5,by omega,?_⟩⟩;obtain⟨H5,e5,hx5,X5⟩:=qz "steps" (.ref ta) (kp (x:=.lst []) hx4 hta);rw[<-e5];have S5:=up (S4.trans (ac.new hta)) e5;have nt:ta≠x:=(ae hx4 hta).symm;have ta5:=X5 _ _ aa nt;have fa5:=X5 _ _ (kp (x:=.lst []) fa4 hta) nf;have sa5:=X5 _ _ (kp (x:=.lst []) sa4 hta) ns;have na5:=X5 _ _ (kp (x:=.lst []) na4 hta) nn;have F5:hW K C H5 x M fa sa na ta [] [] ⟨[],[]⟩:=by
  refine⟨⟨dx,_,hx5,?_,?_,?_,?_,?_,?_,?_⟩,fa5,.nil,sa5,.nil,na5,nfs,ae fa4 hta,ae sa4 hta⟩
  all_goals(show kL _ _=_;repeat (rw[eN];first|rw[if_pos rfl] | rw[if_neg (by decide +kernel)]))
  all_goals rfl
 clear e1 hx1 X1 len1 e2 hx2 X2 fa2 len2 e3 hx3 X3 sa3 fa3 len3 e4 hx4 X4 na4 fa4 sa4 len4 e5 hx5 X5 up;obtain⟨dx5,fs5,g5,l1,l2,l3,l4,l5,l6,l7⟩:=id F5.ob;have M5:=MA.same S5;refine⟨_,rfl,x,dx5,fs5,rfl,g5,l6,_,rfl,M,J0,J1,J2,ds,rfl,M5,fun f0 FF H6 hf0 hF S6=>⟨(by show 0<=aj;decide),fun st hst=>?_⟩⟩;rw[Ad hF]at hf0;have S7:ac H6 (upd H6 st (.lst [])):=ac.new hst;have st7:upd H6 st (.lst []) st=some (.lst []):=aa;generalize upd H6 st (.lst [])=H7 at S7 st7 ⊢;have S57:ac H5 H7:=ac.trans S6 S7;have F7:=F5.same S57;have np:∀{b:Addr}{o:HO},H5 b=some o->st≠b:=fun e=>dA (ae (S6 _ _ e) hst);refine⟨x,M,fa,sa,na,ta,f0,st,[],[],⟨[],[]⟩,_,[],rfl,F7,S7 _ _ hf0,⟨[],st7,.nil⟩,⟨np fa5,np sa5,np ta5⟩,(by show 0<400;decide),(by show 0<400;decide),fun us ws H8 F8 e8=>?_⟩;have nta:ta≠na:=fun z=>by rw[z,na5]at ta5;cases ta5
 have ta8:H8 ta=some (.lst (([]:Ze).map V.ref)):=e8 _ _ (S57 _ _ ta5) F5.ne.2.1.symm F5.ne.2.2.symm nta;have in0:∀{b:Addr}{o:HO},H0 b=some o->b≠fa/\b≠sa/\b≠na:=fun e=>⟨ae (S1 _ _ e) hfa,ae (S2 _ _ e) hsa,ae (S3 _ _ e) hna⟩;have S08:ac H0 H8:=fun b o e=>by
  obtain⟨n1,n2,n3⟩:=in0 e;exact e8 _ _ (S57 _ _ (S5 _ _ e)) n1 n2 n3
 refine⟨fun m σ H'=>σ=[some (.ref x),some (.ref M)]/\∃(us ws ts:Ze) (j:Nat),m=300-j/\hW K C H' x M fa sa na ta us ws (itF J0 J1 J2 ds j).1/\H' ta=some (.lst (ts.map V.ref))/\pC H0 na H' ts (itF J0 J1 J2 ds j).2/\qI J0 J1 J2 ds (itF J0 J1 J2 ds j)/\(itF J0 J1 J2 ds j).2.length=j/\ac H0 H',⟨300,rfl,us,ws,[],0,rfl,F8,ta8,.nil,Ec,rfl,S08⟩,?_⟩;rintro m σ H9 ⟨rfl,us9,ws9,ts,j,rfl,F9,ta9,st9,ok9,lj,S09⟩;obtain⟨dx9,fs9,g9,m1,m2,m3,m4,m5,m6,m7⟩:=id F9.ob;refine⟨_,rfl,x,C,dx9,fs9,.ref ta,rfl,g9,c.cls,c.a5,m5,.inl ⟨ta,_,rfl,.inl (aA.of ta9),_,rfl,x,C,dx9,fs9,.ref fa,rfl,g9,c.cls,c.a2,m2,.inl ⟨fa,_,rfl,.inl (aA.of F9.hfa),_,_,rfl,rfl,_,rfl,?_⟩⟩⟩;have z1:(ts.map V.ref).length=j:=by rw[ai,Paired.length st9,lj]
 have z2:(us9.map V.ref).length=(itF J0 J1 J2 ds j).1.fs.length:=by rw[ai,Paired.length F9.faces]
 have z3:=ok9.good.few hr;refine FT (P:=j<(itF J0 J1 J2 ds j).1.fs.length) (by rw[z1,z2];simp) (fun lt=>?_) (fun ge=>?_)
 ·have uB:nextF J0 J1 J2 ds (itF J0 J1 J2 ds j)=itF J0 J1 J2 ds (j+1):=rfl;have ok10:qI J0 J1 J2 ds (itF J0 J1 J2 ds (j+1)):=Eb ok9 (by rw[lj];exact lt);have fr9:∀{b:Addr}{o:HO},H9 b=some o->∀{d:Addr},H9 d=none->d≠b:=fun e d h=>dA (ae e h);refine⟨fun σ' H'=>σ'=[some (.ref x),some (.ref M)]/\∃(us ws ts:Ze),hW K C H' x M fa sa na ta us ws (itF J0 J1 J2 ds (j+1)).1/\H' ta=some (.lst (ts.map V.ref))/\pC H0 na H' ts (itF J0 J1 J2 ds (j+1)).2/\ac H0 H',fun σ' H' ⟨e,us,ws,ts,q1,q2,q3,q4⟩=>⟨300-(j+1),by omega,e,us,ws,ts,j+1,rfl,q1,q2,q3,ok10,?_,q4⟩,?_⟩
  ·show(_++[_]).length=j+1;rw[az,lj];rfl
  refine⟨_,rfl,x,C,dx9,fs9,.ref ta,rfl,g9,c.cls,c.a5,m5,.inl ⟨rfl,_,aA.of ta9⟩,_,rfl,x,dx9,fs9,rfl,g9,m7,_,rfl,x,C,dx9,fs9,.ref ta,rfl,g9,c.cls,c.a5,m5,.inl ⟨ta,_,rfl,.inl (aA.of ta9),?_⟩⟩;refine⟨x,M,fa,sa,na,ta,us9,ws9,_,j,J0,J1,J2,ds,by rw[z1];rfl,F9,MA.same S09,ok9.good,hr,lt,⟨_,ta9⟩,fun d us' ws' H10 F10 hd hdn ex=>?_⟩;have nta9:ta∉[fa,sa,na]:=by simp[F9.ne.2.1.symm,F9.ne.2.2.symm,nta]
  have ta10:=ex _ _ ta9 nta9;have S010:ac H0 H10:=fun b o e=>by
   obtain⟨n1,n2,n3⟩:=in0 e;exact ex _ _ (S09 _ _ e) (by simp[n1,n2,n3])
  have st10:pC H0 na H10 ts (itF J0 J1 J2 ds j).2:=Paired.mapP st9 fun d l ⟨q1,q2,q3⟩=>⟨q1,q2,ex _ _ q3 (by
   simp[q2];exact⟨(fun z=>by rw[z,F9.hfa]at q3;cases q3),(fun z=>by rw[z,F9.hsa]at q3;cases q3)⟩)⟩
  have d0:H0 d=none:=S09.free hdn;have ndt:d≠ta:=fr9 ta9 hdn;refine⟨ta,_,.ref d,rfl,rfl,ta10,?_,rfl,us',ws',ts++[d],?_,?_,?_,?_⟩
  ·rw[z1];exact ax (by omega)
  ·have e:(itF J0 J1 J2 ds (j+1)).1=(eL ((itF J0 J1 J2 ds j).1.ss.getD j []) (itF J0 J1 J2 ds j).1 (stepsF J0 J1 J2 ds ((itF J0 J1 J2 ds j).1.fs.getD j []))).1:=by
    show(nextF J0 J1 J2 ds (itF J0 J1 J2 ds j)).1=_;unfold nextF;rw[lj]
   rw[e];exact F10.moveT ta10
  ·rw[aa,ay];rfl
  ·have e:(itF J0 J1 J2 ds (j+1)).2=(itF J0 J1 J2 ds j).2++[(eL ((itF J0 J1 J2 ds j).1.ss.getD j []) (itF J0 J1 J2 ds j).1 (stepsF J0 J1 J2 ds ((itF J0 J1 J2 ds j).1.fs.getD j []))).2]:=by
    show(nextF J0 J1 J2 ds (itF J0 J1 J2 ds j)).2=_;unfold nextF;rw[lj]
   rw[e];exact cG (Paired.mapP st10 fun d l ⟨q1,q2,q3⟩=>⟨q1,q2,by rw[ag (fun z=>by rw[z,ta10]at q3;cases q3)];exact q3⟩) ⟨d0,fr9 F9.hna hdn,by rw[ag ndt];exact hd⟩
  ·intro b o e;have h1:=S010 _ _ e;rw[ag (fun z=>?_)]
   ·exact h1
   ·have h4:=S4 _ _ e;rw[z,hta]at h4;cases h4
 ·have e:=ok9.le;exact k fa sa na ta us9 ws9 ts _ j H9 F9 ta9 st9 ok9 (by omega) rfl S09
abbrev As(H0 H:Hp)(ts:Ze)(st:List (List (Sg×Nat))):Prop:=Paired (fun d l=>H0 d=none/\Rd H d (.dT (stK l))) ts st
theorem Rd.same(S:ac H H')(h:Rd H a u):Rd H' a u:=by
 rcases h with h|⟨o,h⟩
 ·exact .inl (S _ _ h)
 ·exact .inr ⟨o,S _ _ h⟩
theorem Rd.frz{H:Hp}{d:Addr}{k kvs:List (TK×V)}{o:Obj}(hd:H d=some (.dT kvs))(h:Rd H a (.dT k)):Rd (upd H d (.frz o (.dT kvs))) a (.dT k):=by
 by_cases z:a=d
 ·subst z;rcases h with h|⟨q,h⟩
  ·rw[hd]at h;cases h;exact .inr ⟨o,aa⟩
  ·rw[hd]at h;cases h
 ·rcases h with h|⟨q,h⟩
  ·exact .inl (by rw[ag z];exact h)
  ·exact .inr ⟨q,by rw[ag z];exact h⟩
def JB(J:It)(g:TG)(tb:TS)(D:kU)(σ:L2.St)(H:Hp):Prop:=∃W:Nat->Nat->L2.St->Hp->Prop,(∃m,W 0 m σ H)/\∀i m σ H,W i m σ H ->
 (J.stop i H/\D.nx σ H)∨(J.go i H/\∃N:L2.St->Hp->Prop,(∀σ' H',N σ' H'->∃m',m'<m/\W (i+1) m' σ' H')/\∀x H',J.yld i H x H'->g x σ H' fun σ2 H2=>tb { D with nx:=N,ct:=N,bk:=D.nx } σ2 H2)
theorem Cr{K:Za}:∀xs:List Str,TKIns K H (xs.map oS) (xs.map V.str)
 |[]=>by show TKIns K H [] [];unfold TKIns;rfl
 |x::xs=>by
  rw[bb,bb];unfold TKIns;refine⟨_,_,rfl,?_,Cr xs⟩;unfold oS lW
  rfl
theorem bB.sq{K:Za}(h:bB K H a xs):bD K H a xs:=h.imp .inl id
theorem wX{K:Za}{f:Zb}(h:bB K H a (f.map V.str)):lW K H (jW f) (.ref a):=by
 unfold jW lW;exact⟨a,_,rfl,bB.sq h,Cr f⟩
def AA(K:Za):TS :=
 aq (aO (c_ (bm)) U2)
 (aq (nK (tB (EO (ik K V0 V1))) (aq (aO (ik K V0 V1) (gE K 2 (aT U1 (aT U3 (fZ)))))
 (bJ (oI K "list" cz V2 (aB V3)))))
 (aq (bJ (GU K "list" zq V2))
 (bq V2)))
def BP:List Str:=["came","place","story","sign"]
def uF(K:Za)(sp_story_to:Sp):TS :=
 aq (aO (xi K (bu (aN (tC (.int 0)) (tC (.int 0)))) (tC .non)) U2)
 (aq (aO (c_ (aB (bu (aN (tC (.int 0)) (tC (.int 0)))))) U3)
 (aq (aO (tC (.int 0)) U4)
 (aq (nK (a_ (aI DG V4 (dE (dh K) (aB V3)))) (aq (aO (aI (bX K) V3 V4) U5)
 (aq (Jd 4 (tC (.int 1)) (ipI fun i j=>i+j))
 (aq (aO (aI (bX K) V0 (aI (gR K) V5 (tC (.int 0)))) U6)
 (eG (xT K (aI (bX K) V1 (aI (gR K) V5 (tC (.int 1))))) (gE K 2 (aT U7 (aT U8 (fZ)))) (cn (tB (fQ K V7 V6)) (cn (a_ (aI Fj (aI (gR K) V7 (tC (.int 0))) (tC (.str "ask")))) (bq (bu (aN (aS sp_story_to (ar V2 (aB V5))) V7))) (bv)) (cn (tB (fQ K (bu (aN (ik K V6 V7) V8)) V2)) (aq (p_ K V2 (bu (aN (ik K V6 V7) V8)) (bu (aN V5 V7)))
 (bJ (oI K "list" cz V3 (aB (bu (aN (ik K V6 V7) V8)))))) (bv))))))))
 (bq (tC .non)))))
def vb:List Str:=["model_steps","machine_steps","came","pairs","looked","here","wanted","sign","goal"]
def uC(K:Za)(C_Machine:Addr)(sp_Machine_is_quiet:Sp)(a_HUSH:Addr)(sp_Machine_doors_from:Sp)(a_STILL:Addr):TS :=
 aq (aO (c_ (bm)) U4)
 (aq (eG (cx K (dB C_Machine "doors_from" sp_Machine_doors_from [] E0 V0 (aB V1))) (gE K 3 (aT U5 (aT U6 (aT U7 (fZ))))) (cn (a_ (aI (tL K) V6 (tC (.ref a_STILL)))) (bJ (oI K "list" cz V4 (aB (bu (aN V7 V2))))) (cn (EN (tB (AQ K V6 V3)) (a_ (aI Ar (aI (gR K) V6 (tC (.int 0))) (tC (.str "say"))))) (bJ (oI K "list" cz V4 (aB (bu (aN V7 (xo K V3 V6)))))) (bv))))
 (aq (cn (tB (dB C_Machine "is_quiet" sp_Machine_is_quiet [] E0 V0 (aB V1))) (bJ (oI K "list" cz V4 (ar (bu (aN V1 (xo K V3 (tC (.ref a_HUSH))))) bm))) (bv))
 (bq V4)))
def u8:List Str:=["I","room","face","steps","rows","start","sign","goal"]
def AC(K:Za)(sp_rows_needed:Sp)(C_Machine:Addr)(sp_Machine_rooms:Sp):TS :=
 aq (aO (bu (aN (aI (bX K) (dB C_Machine "rooms" sp_Machine_rooms [] E0 V1 bm) (tC (.int 0))) (tC (.int 0)))) U2)
 (aq (aO (xi K V2 (tC (.bl true))) U3)
 (aq (aO (c_ (aB V2)) U4)
 (aq (nK (a_ (aI Fm (dE (dh K) (aB V4)) (tC (.int 0)))) (aq (aO (GU K "list" Ix V4) (gE K 2 (aT U5 (aT U6 (fZ)))))
 (eG (cx K (aS sp_rows_needed (ar V1 (eJ V5 V6 (aI (bX K) (fP K V0 "steps") V6))))) U7 (cn (tB (fQ K V7 V3)) (aq (p_ K V3 V7 (tC (.bl true)))
 (bJ (oI K "list" cz V4 (aB V7)))) (bv)))))
 (bq (eB 2 [0] (FV K V3) (gE K 2 (aT U0 (aT U1 (fZ)))) (jH) (bu (aN V0 (aI (bX K) (fP K V2 "faces") V1))))))))
def BR:List Str:=["model","I","first","rows","waiting","room","number","row"]
def GS(K:Za)(sp_paper_of:Sp)(sp_least_fault:Sp)(C_FaceMap:Addr)(sp_FaceMap_init:Sp)(sp_need_taker:Sp):TS :=
 aq (bJ (aS sp_need_taker (aN V0 V1)))
 (aq (aO (yU C_FaceMap sp_FaceMap_init [] E0 (aB V0)) U2)
 (aq (aO (aS sp_least_fault (aN (fP K V2 "steps") (fP K (yU C_FaceMap sp_FaceMap_init [] E0 (aB V1)) "steps"))) U3)
 (aq (cn (tB (Du V3)) (bq (bu (aN (tC (.str "keeps")) (aS sp_paper_of (ar V2 (aB V1)))))) (bv))
 (aq (aO V3 (gE K 2 (aT U4 (aT U5 (fZ)))))
 (bq (bu (eJ (tC (.str "fault")) V4 V5)))))))
def HP:List Str:=["M","I","model","fault","story","sign"]
abbrev Pr:=Nat×Nat
structure bU where
 key:Pr
 from_:Option (Pr×Sg)
 story:List Sg
def iW(P:List bU)(k:Pr):Bool:=P.any fun c=>decide (c.key=k)
def bF(l:List (Sg×Nat))(sg:Sg):Option Nat:=(l.find? fun p=>decide (p.1=sg)).map (·.2)
def eO(wanted:List (Sg×Nat))(here:bU)(q:List bU×Option Sg)(p:Sg×Nat):List bU×Option Sg :=
 match q.2 with
 |some _=>q
 |none=>match bF wanted p.1 with
  |none=>if p.1.head?=some ("ask":Str)then q else(q.1,some p.1)
  |some w=>if iW q.1 (w,p.2)=true then q else(q.1++[⟨(w,p.2),some (here.key,p.1),here.story++[p.1]⟩],none)
def cp(wanted:List (Sg×Nat))(here:bU)(P:List bU)(l:List (Sg×Nat)):List bU×Option Sg:=l.foldl (eO wanted here) (P,none)
structure qJ(ms ws:List (List (Sg×Nat)))(P:List bU):Prop where
 zero:∃r,P=⟨(0,0),none,[]⟩::r
 nd:(P.map (·.key)).Nodup
 back:∀(i:Nat) (c:bU),P[i]?=some c->i=0∨∃(j:Nat) (b:bU) (sg:Sg),j<i/\P[j]?=some b/\c.from_=some (b.key,sg)/\c.story=b.story++[sg]/\bF (ws.getD b.key.1 []) sg=some c.key.1/\(sg,c.key.2)∈ms.getD b.key.2 []
theorem lP:iW P k=true↔k∈P.map (·.key):=by
 unfold iW;rw[List.any_eq_true,ap];exact⟨fun⟨c,h,e⟩=>⟨c,h,of_decide_eq_true e⟩,fun⟨c,h,e⟩=>⟨c,h,zzr1 e⟩⟩
theorem Ek(ms ws:List (List (Sg×Nat))):qJ ms ws [⟨(0,0),none,[]⟩]:=by
 refine⟨⟨[],rfl⟩,by simp,fun i c h=>?_⟩;rcases sr i with z|z
 ·exact .inl z
 ·rw[fx (by show 1<=i;exact z)]at h;cases h
theorem qJ.add(h:qJ ms ws P){j:Nat}{b:bU}{w g:Nat}(hj:P[j]?=some b)(hn:iW P (w,g)=false)(hw:bF (ws.getD b.key.1 []) sg=some w)(hg:(sg,g)∈ms.getD b.key.2 []):
  qJ ms ws (P++[⟨(w,g),some (b.key,sg),b.story++[sg]⟩]):=by
 have lt:j<P.length:=by
  rcases d6 j P.length with z|z
  ·exact z
  ·rw[fx z]at hj;cases hj
 obtain⟨r,e⟩:=h.zero;refine⟨⟨r++[⟨(w,g),some (b.key,sg),b.story++[sg]⟩],by rw[e];rfl⟩,?_,fun i c hc=>?_⟩
 ·rw[ay,cA];refine⟨h.nd,by simp,fun x hx y hy z=>?_⟩;have:iW P (w,g)=true:=lP.2 (by rw[<-show y=(w,g)from by simpa using hy,<-z];exact hx);rw[hn]at this;cases this
 ·rcases d6 i P.length with z|z
  ·rw[c9 z]at hc;rcases h.back i c hc with q|⟨j',b',sg',q1,q2,q3⟩
   ·exact .inl q
   ·exact .inr ⟨j',b',sg',q1,by rw[c9 (by omega)];exact q2,q3⟩
  ·rw[lB z]at hc;have h0:i-P.length=0:=by
    rcases sr (i-P.length)with q|q
    ·exact q
    ·rw[fx (by show 1<=_;exact q)]at hc;cases hc
   rw[h0]at hc;injection hc with hc;subst hc;exact .inr ⟨j,b,sg,by omega,by rw[c9 lt];exact hj,rfl,rfl,hw,hg⟩
theorem FL(h:qJ ms ws P){j:Nat}{b:bU}(hj:P[j]?=some b)(l:List (Sg×Nat))(hl:∀p∈l,p∈ms.getD b.key.2 []):
  (∃r,(cp (ws.getD b.key.1 []) b P l).1=P++r)/\qJ ms ws (cp (ws.getD b.key.1 []) b P l).1/\∀sg,(cp (ws.getD b.key.1 []) b P l).2=some sg->(∃g,(sg,g)∈l)/\bF (ws.getD b.key.1 []) sg=none/\sg.head?≠some ("ask":Str):=by
 have key:∀n,n<=l.length->(∃r,(cp (ws.getD b.key.1 []) b P (l.take n)).1=P++r)/\qJ ms ws (cp (ws.getD b.key.1 []) b P (l.take n)).1/\∀sg,(cp (ws.getD b.key.1 []) b P (l.take n)).2=some sg->(∃g,(sg,g)∈l)/\bF (ws.getD b.key.1 []) sg=none/\sg.head?≠some ("ask":Str):=by
  intro n
  induction n with
  |zero=>intro _;exact⟨⟨[],(gJ _).symm⟩,h,fun sg e=>by cases e⟩
  |succ n ih =>
   intro hn;obtain⟨⟨r,e1⟩,h2,h3⟩:=ih (by omega);have hp:l[n]?=some l[n]:=aV (by omega);have es:cp (ws.getD b.key.1 []) b P (l.take (n+1))=eO (ws.getD b.key.1 []) b (cp (ws.getD b.key.1 []) b P (l.take n)) l[n]:=by
    unfold cp;rw[take_snoc hp,j5];rfl
   rw[es];generalize cp (ws.getD b.key.1 []) b P (l.take n)=q at e1 h2 h3;have hm:l[n]∈l:=eI _;generalize l[n]=p at hm;unfold eO;cases e2:q.2 with
   |some s=>exact⟨⟨r,e1⟩,h2,fun sg e=>h3 sg e⟩
   |none =>
    cases e3:bF (ws.getD b.key.1 []) p.1 with
    |none =>
     by_cases c:p.1.head?=some ("ask":Str)
     ·simp only[c,if_true];exact⟨⟨r,e1⟩,h2,fun sg e=>h3 sg e⟩
     ·simp only[c,if_false];refine⟨⟨r,e1⟩,h2,fun sg e=>?_⟩;injection e with e;subst e;exact⟨⟨p.2,hm⟩,e3,c⟩
    |some w =>
     cases e4:iW q.1 (w,p.2)with
     |true =>
      simp only[e4,if_true];exact⟨⟨r,e1⟩,h2,fun sg e=>h3 sg e⟩
     |false =>
      simp only[e4,lr,if_false];refine⟨⟨r++[⟨(w,p.2),some (b.key,p.1),b.story++[p.1]⟩],by rw[e1,cU]⟩,h2.add (j:=j) (b:=b) ?_ e4 e3 (hl p hm),fun sg e=>by cases e⟩;rw[e1,c9 (by rcases d6 j P.length with z|z;exact z;rw[fx z]at hj;cases hj)];exact hj
 have:=key l.length (aG _);rw[bt]at this;exact this
def ow(k:Pr):TK:=.t [.k (.inl (k.1:Int)),.k (.inl (k.2:Int))]
theorem CI(h:ow a=ow b):a=b:=by
 unfold ow at h;injection h with h;injection h with h1 h2;injection h2 with h2 _;injection h1 with h1;injection h2 with h2;injection h1 with h1;injection h2 with h2;obtain⟨a1,a2⟩:=a;obtain⟨b1,b2⟩:=b;simp only at h1 h2;rw[show a1=b1 by omega,show a2=b2 by omega]
theorem fJ(k:Pr):(ow k).depth<=8:=by
 show max 0 (max 0 0)+1<=8
 decide
abbrev lX(H:Hp)(a:Addr)(k:Pr):Prop:=H a=some (.tup [.int (k.1:Nat),.int (k.2:Nat)])
theorem lX.tk(h:lX H a k):da H (ow k) (.ref a):=by
 unfold ow da;refine⟨a,_,rfl,h,?_⟩;unfold TKAts;refine⟨_,_,rfl,?_,?_⟩
 ·unfold da;rfl
 unfold TKAts;refine⟨_,_,rfl,?_,?_⟩
 ·unfold da;rfl
 unfold TKAts
 rfl
def pF(K:Za)(H:Hp)(c:bU)(v:V):Prop:=match c.from_ with
 |none=>v=.non
 |some (k,sg)=>∃t ha g,v=.ref t/\H t=some (.tup [.ref ha,.ref g])/\lX H ha k/\bB K H g (sg.map V.str)
theorem pF.kt{K:Za}(k:ii H H')(h:pF K H c v):pF K H' c v:=by
 unfold pF at h ⊢;cases e:c.from_ with
 |none=>rw[e]at h;exact h
 |some p =>
  rw[e]at h;obtain⟨t,ha,g,h1,h2,h3,h4⟩:=h;exact⟨t,ha,g,h1,k _ _ h2,k _ _ h3,bB.kt k h4⟩
abbrev ij(K:Za)(H:Hp)(kvs:List (TK×V))(P:List bU):Prop:=Paired (fun(kv:TK×V) (c:bU)=>kv.1=ow c.key/\pF K H c kv.2) kvs P
theorem ij.kt{K:Za}(k:ii H H')(h:ij K H kvs P):ij K H' kvs P:=Paired.mapP h fun _ _ r=>⟨r.1,r.2.kt k⟩
theorem ij.val{K:Za}:∀{kvs:List (TK×V)}{P:List bU},ij K H kvs P->(P.map (·.key)).Nodup->∀{i:Nat}{c:bU},P[i]?=some c->∃v,bP kvs (ow c.key)=some v/\pF K H c v
 |_,_,.nil,_,i,c,h=>by simp at h
 |_,_,.cons (a:=kv) (b:=b) r t,nd,0,c,h=>by
  injection h with h;subst h;exact⟨kv.2,cC r.1,r.2⟩
 |_,_,.cons (a:=kv) (b:=b) r t,nd,i+1,c,h=>by
  rw[bb,kJ]at nd;rw[List.getElem?_cons_succ]at h;obtain⟨v,h1,h2⟩:=ij.val t nd.2 (i:=i) h;refine⟨v,?_,h2⟩;rw[cu,h1];intro z;rw[r.1]at z;exact nd.1 (by rw[CI z];exact k5 (f:=(·.key)) (aR h))
theorem ij.none{K:Za}(h:ij K H kvs P)(n:iW P k=false):bP kvs (ow k)=.none:=by
 refine wW ?_
 induction h with
 |nil=>intro kv hk;exact nomatch hk
 |@cons a b as bs r t ih =>
  intro kv hk;have n':decide (b.key=k)=false/\iW bs k=false:=by
   unfold iW at n ⊢;rw[ny,Bool.or_eq_false_iff]at n;exact n
  rcases bM.1 hk with rfl|hk
  ·rw[r.1];exact fun e=>of_decide_eq_false n'.1 (CI e)
  ·exact ih n'.2 kv hk
theorem Paired.rev{α β:Type}{R:α->β->Prop}:∀{a:List α}{b:List β},Paired R a b->Paired R a.reverse b.reverse
 |_,_,.nil=>.nil
 |_,_,.cons r t=>by
  rw[wR,wR];exact Paired.app (Paired.rev t) (.cons r .nil)
inductive fy(K:Za)(vs:List V)(H:Hp)(Q:VK)(E:XK):Prop
 |mk (cd pa:Addr) (kvs:List (TK×V)) (ms ws:List (List (Sg×Nat))) (P:List bU) (i:Nat) (c:bU):(vs=[.ref cd,.ref pa])->(H cd=some (.dT kvs))->(ij K H kvs P)->(qJ ms ws P)->(P[i]?=some c)->(lX H pa c.key)->(P.length<=100000)->(∀(l:Addr) (gs:Ze) (H':Hp),H' l=some (.lst (gs.map V.ref))->Paired (fun g (sg:Sg)=>bB K H' g (sg.map V.str)) gs c.story->H l=none->ac H H'->Q (.ref l) H')->fy K vs H Q E
theorem AX{K:Za}(h:fy K vs H Q E):AA K (bH Q) (start BP vs) H:=by
 obtain⟨cd,pa,kvs,ms,ws,P,i,c,rfl,hcd,hP,ok,hc,hpa,hz,k⟩:=h;refine⟨(by show 0<=aj;decide),fun l hl=>?_⟩;have hi:i<P.length:=by
  rcases d6 i P.length with z|z
  ·exact z
  ·rw[fx z]at hc;cases hc
 refine⟨fun m σ H'=>∃(pa:Addr) (c':bU) (gs:Ze) (L:List Sg) (x3:Option V),σ=[some (.ref cd),some (.ref pa),some (.ref l),x3]/\P[m]?=some c'/\H' l=some (.lst (gs.map V.ref))/\Paired (fun g (sg:Sg)=>bB K H' g (sg.map V.str)) gs L/\c.story=c'.story++L.reverse/\lX H' pa c'.key/\L.length+m<=i/\ac H H',
  ⟨i,pa,c,[],[],_,rfl,hc,aa,.nil,(gJ _).symm,kp hpa hl,by simp,ac.new hl⟩,?_⟩
 rintro m σ H1 ⟨pa,c',gs,L,x3,rfl,hc',hl1,hg,es,hpa1,hlen,S1⟩;have P1:=hP.kt (ac.kt S1);have cd1:=S1 _ _ hcd;obtain⟨v,hv,cv⟩:=P1.val ok.nd hc';have g1:kB K H1 cd (.ref pa) (some v):=.inr ⟨_,ow c'.key,pa,.inl cd1,rfl,da.isIn 8 (fJ _) hpa1.tk,fJ _,hv.symm⟩;refine⟨_,rfl,_,rfl,cd,v,rfl,g1,_,rfl,?_⟩;unfold pF at cv;cases ef:c'.from_ with
 |none =>
  rw[ef]at cv;subst cv;refine bR ?_;have m0:m=0:=by
   rcases ok.back m c' hc' with q|⟨j,b,sg,_,_,q,_⟩
   ·exact q
   ·rw[ef]at q;cases q
  subst m0;obtain⟨r,er⟩:=ok.zero;rw[er]at hc';injection hc' with hc';have es':c.story=L.reverse:=by rw[es,<-hc'];rfl
  refine⟨_,rfl,.inl ⟨rfl,_,aA.of hl1⟩,l,_,rfl,rfl,hl1,?_⟩;have kt:ii H1 (upd H1 l (.lst (gs.map V.ref).reverse)):=cJ hl1;refine⟨_,rfl,k l gs.reverse _ (by rw[aa,List.map_reverse]) ?_ hl fun b o e=>by rw[ag (ae e hl)];exact S1 _ _ e⟩;rw[es'];exact Paired.rev (Paired.mapP hg fun _ _ r=>bB.kt kt r)
 |some kp' =>
  obtain⟨kk,sg⟩:=kp';rw[ef]at cv;obtain⟨t,ha,g,rfl,ht,hha,hgs⟩:=cv;refine dk ?_;have par:∃(j:Nat) (b:bU),j<m/\P[j]?=some b/\b.key=kk/\c'.story=b.story++[sg]:=by
   rcases ok.back m c' hc' with q|⟨j,b,sg',lt,hb,q,e,_⟩
   ·subst q;obtain⟨r,er⟩:=ok.zero;rw[er]at hc';injection hc' with hc';rw[<-hc']at ef;cases ef
   ·rw[ef]at q;injection q with q;injection q with q1 q2;subst q2;exact⟨j,b,lt,hb,q1.symm,e⟩
  obtain⟨j,b,lt,hb,rfl,eb⟩:=par;refine⟨fun σ' H'=>∃(pa:Addr) (gs:Ze) (x3:Option V),σ'=[some (.ref cd),some (.ref pa),some (.ref l),x3]/\H' l=some (.lst (gs.map V.ref))/\Paired (fun g (sg:Sg)=>bB K H' g (sg.map V.str)) gs (L++[sg])/\lX H' pa b.key/\ac H H',fun σ' H' ⟨pa,gs,x3,q1,q2,q3,q4,q5⟩=>⟨j,lt,pa,b,gs,L++[sg],x3,q1,hb,q2,q3,?_,q4,?_,q5⟩,?_⟩
  ·rw[es,eb,List.reverse_append,cU];rfl
  ·rw[az];show L.length+1+j<=i;omega
  refine⟨_,rfl,_,rfl,cd,_,rfl,g1,t,_,rfl,bD.of ht,rfl,_,_,rfl,_,_,rfl,rfl,?_⟩;refine⟨_,rfl,.inl ⟨rfl,_,aA.of hl1⟩,_,rfl,l,_,.ref g,rfl,rfl,hl1,?_,ha,gs++[g],_,rfl,?_,?_,?_,?_⟩
  ·rw[ai,Paired.length hg,kM];omega
  ·rw[aa,ay];rfl
  ·have kt:ii H1 (upd H1 l (.lst (gs.map V.ref++[.ref g]))):=cJ hl1;exact cG (Paired.mapP hg fun _ _ r=>bB.kt kt r) (bB.kt kt hgs)
  ·exact cJ hl1 _ _ hha
  ·intro b' o e;rw[ag (ae e hl)];exact S1 _ _ e
theorem DH{P:List Pr}{a b:Nat}(nd:P.Nodup)(h:∀p∈P,p.1<a/\p.2<b):P.length<=a * b:=by
 have h1:=gV (L:=P.map fun p=>p.1 * b+p.2) (R:=jD (a * b)) ?_ ?_
 ·rw[ai,sG]at h1;exact h1
 ·rw[pL,List.pairwise_map];refine List.Pairwise.imp_of_mem (fun{x y} hx hy hne e=>hne ?_) (pL.1 nd);obtain⟨x1,x2⟩:=x;obtain⟨y1,y2⟩:=y;have hx:=(h _ hx).2;have hy:=(h _ hy).2;simp only at hx hy e;have bp:0<b:=by omega
  have e1:x1=y1:=by
   have:=congrArg (· / b) e;simp only[Nat.add_comm (x1 * b),Nat.add_comm (y1 * b),Nat.add_mul_div_right _ _ bp,Nat.div_eq_of_lt hx,Nat.div_eq_of_lt hy,we]at this;exact this
  subst e1;rw[show x2=y2 by omega]
 ·intro x hx;obtain⟨p,hp,rfl⟩:=ap.1 hx;obtain⟨h2,h3⟩:=h p hp;rw[List.mem_range];have:(p.1+1) * b<=a * b:=Nat.mul_le_mul_right b h2;rw[su]at this;omega
def kQ(ms ws:List (List (Sg×Nat)))(P:List bU)(c:bU):Prop:=∀p∈ms.getD c.key.2 [],match bF (ws.getD c.key.1 []) p.1 with
 |none=>p.1.head?=some ("ask":Str)
 |some w=>iW P (w,p.2)=true
theorem zZ{r:List bU}(h:iW P k=true):iW (P++r) k=true:=by
 unfold iW at h ⊢;rw[List.any_append,h];rfl
theorem kQ.mono{r:List bU}(h:kQ ms ws P c):kQ ms ws (P++r) c:=fun p hp=>by
 have:=h p hp;cases e:bF (ws.getD c.key.1 []) p.1 with
 |none=>rw[e]at this;exact this
 |some w=>rw[e]at this;exact zZ this
theorem Bl{ws:List (List (Sg×Nat))}{b:bU}(l:List (Sg×Nat))(h:(cp (ws.getD b.key.1 []) b P l).2=none):∀p∈l,match bF (ws.getD b.key.1 []) p.1 with
 |none=>p.1.head?=some ("ask":Str)
 |some w=>iW (cp (ws.getD b.key.1 []) b P l).1 (w,p.2)=true:=by
 have key:∀n,n<=l.length->(cp (ws.getD b.key.1 []) b P (l.take n)).2=none->∀p∈l.take n,match bF (ws.getD b.key.1 []) p.1 with
  |none=>p.1.head?=some ("ask":Str)
  |some w=>iW (cp (ws.getD b.key.1 []) b P (l.take n)).1 (w,p.2)=true:=by
  intro n
  induction n with
  |zero=>intro _ _ p hp;rw[pK]at hp;exact nomatch hp
  |succ n ih =>
   intro hn;have hp:l[n]?=some l[n]:=aV (by omega);have es:cp (ws.getD b.key.1 []) b P (l.take (n+1))=eO (ws.getD b.key.1 []) b (cp (ws.getD b.key.1 []) b P (l.take n)) l[n]:=by
    unfold cp;rw[take_snoc hp,j5];rfl
   rw[es,take_snoc hp];have ih:=ih (by omega);generalize cp (ws.getD b.key.1 []) b P (l.take n)=q at ih;generalize l[n]=p at *;intro h0 x hx;have q0:q.2=none:=by
    unfold eO at h0;cases e:q.2 with
    |none=>rfl
    |some s=>rw[e]at h0;simp only at h0;rw[e]at h0;exact h0
   unfold eO at h0 ⊢;rw[q0]at h0 ⊢;rcases aX.1 hx with hx|hx
   ·have:=ih q0 x hx;cases e:bF (ws.getD b.key.1 []) x.1 with
    |none=>rw[e]at this;exact this
    |some w =>
     rw[e]at this;simp only at this ⊢;cases e3:bF (ws.getD b.key.1 []) p.1 with
     |none =>
      by_cases c:p.1.head?=some ("ask":Str)
      ·simp only[c,if_true];exact this
      ·simp only[c,if_false];exact this
     |some w' =>
      cases e4:iW q.1 (w',p.2)with
      |true=>simp only[e4,if_true];exact this
      |false=>simp only[e4,lr,if_false];exact zZ this
   ·have:x=p:=by simpa using hx
    subst this;cases e3:bF (ws.getD b.key.1 []) x.1 with
    |none =>
     rw[e3]at h0;by_cases c:x.1.head?=some ("ask":Str)
     ·exact c
     ·simp only[c,if_false]at h0;cases h0
    |some w =>
     simp only;cases e4:iW q.1 (w,x.2)with
     |true=>simp only[e4,if_true]
     |false =>
      simp only[e4,lr,if_false];exact lP.2 (by rw[ay];exact cS _ (by simp))
 have:=key l.length (aG _);rw[bt]at this;exact this h
theorem qt:bP (stK l) (jW sg)=(bF l sg).map fun n=>V.int (n:Nat):=by
 unfold bF stK
 induction l with
 |nil=>rfl
 |cons p l ih =>
  rw[bb];by_cases c:p.1=sg
  ·rw[cC (by show jW p.1=jW sg;rw[c]),List.find?_cons_of_pos (by simpa using c)];rfl
  ·rw[cu (fun z=>c (my z)),List.find?_cons_of_neg (by simpa using c),ih]
structure mR(H0 H:Hp)(a1 a2:Addr)(ts1 ts2:Ze)(ws ms:List (List (Sg×Nat))):Prop where
 h1:H a1=some (.lst (ts1.map V.ref))
 h2:H a2=some (.lst (ts2.map V.ref))
 r1:As H0 H ts1 ws
 r2:As H0 H ts2 ms
 S:ac H0 H
theorem mR.same{a1 a2:Addr}(h:mR H0 H a1 a2 ts1 ts2 ws ms)(S:ac H H'):mR H0 H' a1 a2 ts1 ts2 ws ms :=
 ⟨S _ _ h.h1,S _ _ h.h2,Paired.mapP h.r1 fun _ _ r=>⟨r.1,Rd.same S r.2⟩,Paired.mapP h.r2 fun _ _ r=>⟨r.1,Rd.same S r.2⟩,h.S.trans S⟩
theorem Rd.ne{a d:Addr}{k:List (TK×V)}{o:HO}(n:a≠d)(h:Rd H a (.dT k)):Rd (upd H d o) a (.dT k):=by
 rcases h with h|⟨q,h⟩
 ·exact .inl (by rw[ag n];exact h)
 ·exact .inr ⟨q,by rw[ag n];exact h⟩
theorem mR.own{a1 a2 d:Addr}{o:HO}(h:mR H0 H a1 a2 ts1 ts2 ws ms)(d0:H0 d=none)(n1:a1≠d)(n2:a2≠d)(m1:∀t∈ts1,t≠d)(m2:∀t∈ts2,t≠d):mR H0 (upd H d o) a1 a2 ts1 ts2 ws ms:=by
 have mem:∀{ts:Ze}{st:List (List (Sg×Nat))},As H0 H ts st->(∀t∈ts,t≠d)->As H0 (upd H d o) ts st:=by
  intro ts st r
  induction r with
  |nil=>intro _;exact .nil
  |@cons a b as bs q t ih=>intro m;exact .cons ⟨q.1,Rd.ne (m a cb) q.2⟩ (ih fun x hx=>m x (cT _ hx))
 exact⟨by rw[ag n1];exact h.h1,by rw[ag n2];exact h.h2,mem h.r1 m1,mem h.r2 m2,fun b q e=>by rw[ag (ae e d0)];exact h.S _ _ e⟩
theorem mR.frz{a1 a2 d:Addr}{o:Obj}{kvs:List (TK×V)}(h:mR H0 H a1 a2 ts1 ts2 ws ms)(d0:H0 d=none)(hd:H d=some (.dT kvs)):mR H0 (upd H d (.frz o (.dT kvs))) a1 a2 ts1 ts2 ws ms :=
 ⟨by rw[ag (fun z=>by have:=h.h1;rw[z,hd]at this;cases this)];exact h.h1,by rw[ag (fun z=>by have:=h.h2;rw[z,hd]at this;cases this)];exact h.h2,
  Paired.mapP h.r1 fun _ _ r=>⟨r.1,Rd.frz hd r.2⟩,Paired.mapP h.r2 fun _ _ r=>⟨r.1,Rd.frz hd r.2⟩,fun b q e=>by rw[ag (ae e d0)];exact h.S _ _ e⟩
theorem As.ne{st:List (List (Sg×Nat))}(h:As H0 H ts st)(n:∀k,¬Rd H d (.dT k)):∀t∈ts,t≠d:=by
 induction h with
 |nil=>intro t ht;exact nomatch ht
 |@cons a b as bs q t ih =>
  intro x hx;rcases bM.1 hx with rfl|hx
  ·intro z;subst z;exact n _ q.2
  ·exact ih x hx
structure iD(K:Za)(H0 H:Hp)(a1 a2 cd pl:Addr)(ts1 ts2 prs:Ze)(kvs:List (TK×V))(ws ms:List (List (Sg×Nat)))(P:List bU):Prop where
 i:mR H0 H a1 a2 ts1 ts2 ws ms
 hcd:H cd=some (.dT kvs)
 came:ij K H kvs P
 hpl:H pl=some (.lst (prs.map V.ref))
 hprs:Paired (fun a (c:bU)=>lX H a c.key) prs P
 ok:qJ ms ws P
 rg:∀c∈P,c.key.1<ts1.length/\c.key.2<ts2.length
 c0:H0 cd=none
 p0:H0 pl=none
 nc1:∀t∈ts1,t≠cd
 nc2:∀t∈ts2,t≠cd
 np1:a1≠pl
 np2:a2≠pl
theorem iD.same{K:Za}{a1 a2:Addr}(h:iD K H0 H a1 a2 cd pl ts1 ts2 prs kvs ws ms P)(S:ac H H'):iD K H0 H' a1 a2 cd pl ts1 ts2 prs kvs ws ms P :=
 ⟨h.i.same S,S _ _ h.hcd,h.came.kt (ac.kt S),S _ _ h.hpl,Paired.mapP h.hprs fun _ _ r=>S _ _ r,h.ok,h.rg,h.c0,h.p0,h.nc1,h.nc2,h.np1,h.np2⟩
theorem iD.few2{K:Za}{a1 a2:Addr}(h:iD K H0 H a1 a2 cd pl ts1 ts2 prs kvs ws ms P):P.length<=ts1.length * ts2.length:=by
 have:=DH (P:=P.map (·.key)) (a:=ts1.length) (b:=ts2.length) h.ok.nd fun p hp=>by
  obtain⟨c,hc,rfl⟩:=ap.1 hp;exact h.rg c hc
 rw[ai]at this;exact this
theorem iD.few{K:Za}{a1 a2:Addr}(h:iD K H0 H a1 a2 cd pl ts1 ts2 prs kvs ws ms P)(z1:ts1.length<=256)(z2:ts2.length<=256):P.length<=65536:=by
 have:=h.few2;have h2:ts1.length * ts2.length<=256 * 256:=jk z1 z2;omega
theorem iD.frz{K:Za}{a1 a2 d:Addr}{o:Obj}{kd:List (TK×V)}(h:iD K H0 H a1 a2 cd pl ts1 ts2 prs kvs ws ms P)(d0:H0 d=none)(hd:H d=some (.dT kd))(n:d≠cd):iD K H0 (upd H d (.frz o (.dT kd))) a1 a2 cd pl ts1 ts2 prs kvs ws ms P :=
 ⟨h.i.frz d0 hd,by rw[ag n.symm];exact h.hcd,h.came.kt (EB hd),by rw[ag (fun z=>by have:=h.hpl;rw[z,hd]at this;cases this)];exact h.hpl,Paired.mapP h.hprs fun _ _ r=>EB hd _ _ r,h.ok,h.rg,h.c0,h.p0,h.nc1,h.nc2,h.np1,h.np2⟩
theorem iD.add{K:Za}{a1 a2:Addr}(h:iD K H0 H a1 a2 cd pl ts1 ts2 prs kvs ws ms P){c:bU}(hn:iW P c.key=false)(hv:pF K H c v)(hpa:lX H pa c.key)(ok:qJ ms ws (P++[c]))(rg:c.key.1<ts1.length/\c.key.2<ts2.length):
  iD K H0 (upd (upd H cd (.dT (cR kvs (ow c.key) v))) pl (.lst (prs.map V.ref++[.ref pa]))) a1 a2 cd pl ts1 ts2 (prs++[pa]) (kvs++[(ow c.key,v)]) ws ms (P++[c]):=by
 have npc:pl≠cd:=fun z=>by have:=h.hpl;rw[z,h.hcd]at this;cases this
 have k1:ii H (upd H cd (.dT (cR kvs (ow c.key) v))):=EB h.hcd;have pl1:upd H cd (.dT (cR kvs (ow c.key) v)) pl=some (.lst (prs.map V.ref)):=by rw[ag npc];exact h.hpl
 have k2:ii H (upd (upd H cd (.dT (cR kvs (ow c.key) v))) pl (.lst (prs.map V.ref++[.ref pa]))):=k1.trans (cJ pl1);have na1:a1≠cd:=fun z=>by have:=h.i.h1;rw[z,h.hcd]at this;cases this
 have na2:a2≠cd:=fun z=>by have:=h.i.h2;rw[z,h.hcd]at this;cases this
 have i1:=h.i.own (o:=.dT (cR kvs (ow c.key) v)) h.c0 na1 na2 h.nc1 h.nc2;have nr:∀k,¬Rd (upd H cd (.dT (cR kvs (ow c.key) v))) pl (.dT k):=fun k r=>by
  rcases r with r|⟨o,r⟩
  ·rw[pl1]at r;cases r
  ·rw[pl1]at r;cases r
 refine⟨i1.own h.p0 h.np1 h.np2 (As.ne i1.r1 nr) (As.ne i1.r2 nr),?_,?_,?_,?_,ok,?_,h.c0,h.p0,h.nc1,h.nc2,h.np1,h.np2⟩
 ·rw[ag npc.symm,aa,fU _ (h.came.none hn)]
 ·exact cG (h.came.kt k2) ⟨rfl,hv.kt k2⟩
 ·rw[aa,ay];rfl
 ·exact cG (Paired.mapP h.hprs fun _ _ r=>k2 _ _ r) (k2 _ _ hpa)
 ·intro x hx;rcases aX.1 hx with hx|hx
  ·exact h.rg x hx
  ·rw[bo.1 hx];exact rg
structure JT(ts1 ts2:Ze)(ws ms:List (List (Sg×Nat))):Prop where
 z1:ts1.length<=256
 z2:ts2.length<=256
 c1:∀i,∀p∈ws.getD i [],p.2<ts1.length
 c2:∀i,∀p∈ms.getD i [],p.2<ts2.length
 ne:∀i,∀p∈ms.getD i [],p.1≠[]
theorem zT{w:Nat}(h:bF l sg=some w):(sg,w)∈l:=by
 unfold bF at h;obtain⟨p,hp,e⟩:=kY.1 h;have h1:=List.find?_some hp;have h2:=List.mem_of_find?_eq_some hp;obtain⟨a,b⟩:=p;have h1:a=sg:=of_decide_eq_true h1;subst h1;have e:b=w:=e;subst e;exact h2
theorem EH{H:Hp}{a b:Addr}{x y:HO}(n:a≠b):upd (upd H a x) b y=upd (upd H b y) a x:=by
 funext c;unfold upd;by_cases h1:c=b
 ·by_cases h2:c=a
  ·exact absurd (h2.symm.trans h1) n
  ·simp[h1,h2,n.symm]
 ·by_cases h2:c=a
  ·simp[h1,h2,n]
  ·simp[h1,h2]
theorem ij.has{K:Za}(h:ij K H kvs P)(nd:(P.map (·.key)).Nodup)(k:Pr):(bP kvs (ow k)).isSome=iW P k:=by
 cases e:iW P k with
 |false=>rw[h.none e];rfl
 |true =>
  obtain⟨c,hc,rfl⟩:=ap.1 (lP.1 e);obtain⟨i,hi,ei⟩:=so hc;obtain⟨v,h1,_⟩:=h.val nd (i:=i) (c:=c) (by rw[aV hi,ei]);rw[h1];rfl
def Bm(K:Za)(sp:Sp):TS :=
 cn (tB (fQ K V7 V6)) (cn (a_ (aI Fj (aI (gR K) V7 (tC (.int 0))) (tC (.str "ask")))) (bq (bu (aN (aS sp (ar V2 (aB V5))) V7))) (bv)) (cn (tB (fQ K (bu (aN (ik K V6 V7) V8)) V2)) (aq (p_ K V2 (bu (aN (ik K V6 V7) V8)) (bu (aN V5 V7)))
 (bJ (oI K "list" cz V3 (aB (bu (aN (ik K V6 V7) V8)))))) (bv))
section
variable{K:Za}{H0:Hp}{a1 a2 cd pl ha wd md:Addr}{ts1 ts2:Ze}{ws ms:List (List (Sg×Nat))}{n:Nat}{b:bU}{wl l:List (Sg×Nat)}{o:Obj}{D:kU}
theorem Ho(C:JT ts1 ts2 ws ms){H':Hp}{p:Sg×Nat}{pp:Addr}{x7 x8:Option V}(A:iD K H0 H a1 a2 cd pl ts1 ts2 prs kvs ws ms P)(hb:P[n]?=some b)(hha:lX H ha b.key)(hwd:Rd H wd (.dT (stK wl)))(ewl:wl=ws.getD b.key.1 [])(hp:p∈ms.getD b.key.2 [])(hsb:bB K H sb (p.1.map V.str))(nwc:wd≠cd)
  (fault:∀(t lst:Addr) (gs:Ze) (H2:Hp),bF wl p.1=none->p.1.head?≠some ("ask":Str)->H2 t=some (.tup [.ref lst,.ref sb])->H2 lst=some (.lst (gs.map V.ref))->Paired (fun g (sg:Sg)=>bB K H2 g (sg.map V.str)) gs b.story->bB K H2 sb (p.1.map V.str)->H0 t=none->H0 lst=none->mR H0 H2 a1 a2 ts1 ts2 ws ms->D.rt (.ref t) H2)
  (next:∀(prs':Ze) (kvs':List (TK×V)) (H2:Hp),(eO wl b (P,none) p).2=none->iD K H0 H2 a1 a2 cd pl ts1 ts2 prs' kvs' ws ms (eO wl b (P,none) p).1->(∀x u,H x=some u->x≠cd->x≠pl->H2 x=some u)->D.nx [some (.ref a1),some (.ref a2),some (.ref cd),some (.ref pl),some (.int ((n:Int)+1)),some (.ref ha),some (.ref wd),some (.ref sb),some (.int (p.2:Nat))] H2) :
  Bm K (fy K) D [some (.ref a1),some (.ref a2),some (.ref cd),some (.ref pl),some (.int ((n:Int)+1)),some (.ref ha),some (.ref wd),some (.ref sb),some (.int (p.2:Nat))] H:=by
 have few:=A.few C.z1 C.z2;have gw:∀{H:Hp},Rd H wd (.dT (stK wl))->bB K H sb (p.1.map V.str)->kB K H wd (.ref sb) ((bF wl p.1).map fun n=>V.int (n:Nat)):=fun hwd hsb=>.inr ⟨_,jW p.1,sb,hwd,rfl,wX hsb,d4 _,qt.symm⟩;refine⟨_,rfl,_,rfl,wd,_,rfl,gw hwd hsb,_,rfl,?_⟩;cases e:bF wl p.1 with
 |none =>
  refine dk ?_;obtain⟨s0,rest,es⟩:=List.exists_cons_of_ne_nil (C.ne _ p hp);have at0:qA (p.1.map V.str) 0=some (.str s0):=by rw[es];exact aJ (j:=0) rfl
  refine⟨_,rfl,sb,_,0,_,rfl,rfl,bB.sq hsb,at0,rfl,_,rfl,?_⟩;refine FT (P:=p.1.head?≠some ("ask":Str)) (by rw[es];simp) (fun c=>?_) (fun c=>?_)
  ·refine⟨_,rfl,_,rfl,cd,ha,kvs,ms,ws,P,n,b,rfl,A.hcd,A.came,A.ok,hb,hha,by omega,fun lst gs H2 hl hg hl0 S2=>⟨_,rfl,(by show 2<=aj;decide),fun t ht=>?_⟩⟩;have S3:ac H2 (upd H2 t (.tup [.ref lst,.ref sb])):=ac.new ht;exact fault t lst gs _ e c aa (S3 _ _ hl) (Paired.mapP hg fun _ _ r=>bB.kt (ac.kt S3) r) (bB.kt ((ac.kt S2).trans (ac.kt S3)) hsb) ((A.i.S.trans S2).free ht) (A.i.S.free hl0) (A.i.same (S2.trans S3))
  ·have c':=Classical.not_not.1 c;have e1:eO wl b (P,none) p=(P,none):=by unfold eO;simp only[e,c',if_true]
   exact next prs kvs H (by rw[e1]) (by rw[e1];exact A) fun x u q _ _=>q
 |some w =>
  refine bR ?_;have gw1:∀{H:Hp},Rd H wd (.dT (stK wl))->bB K H sb (p.1.map V.str)->kB K H wd (.ref sb) (some (.int (w:Nat))):=fun h1 h2=>by
   have:=gw h1 h2;rw[e]at this;exact this
  have hw:=zT e;rw[ewl]at hw;have rg:w<ts1.length/\p.2<ts2.length:=⟨C.c1 _ _ hw,C.c2 _ _ hp⟩;have l2:([V.int (w:Nat),V.int (p.2:Nat)]:List V).length<=aj:=by show 2<=aj;decide
  refine⟨_,rfl,_,rfl,wd,_,rfl,gw1 hwd hsb,_,rfl,l2,fun p1 hp1=>?_⟩;have S1:ac H (upd H p1 (.tup [.int (w:Nat),.int (p.2:Nat)])):=ac.new hp1;have pr1:lX (upd H p1 (.tup [.int (w:Nat),.int (p.2:Nat)])) p1 (w,p.2):=aa;generalize upd H p1 (.tup [.int (w:Nat),.int (p.2:Nat)])=H1 at S1 pr1 ⊢;have A1:=A.same S1;refine⟨_,rfl,cd,_,rfl,.inr ⟨_,ow (w,p.2),p1,.inl A1.hcd,rfl,da.isIn 8 (fJ _) pr1.tk,fJ _,rfl⟩,_,rfl,?_⟩;rw[A1.came.has A1.ok.nd];cases eh:iW P (w,p.2)with
  |true =>
   refine bR ?_;have e1:eO wl b (P,none) p=(P,none):=by unfold eO;simp only[e,eh,if_true]
   exact next prs kvs H1 (by rw[e1]) (by rw[e1];exact A1) fun x u q _ _=>S1 _ _ q
  |false =>
   refine dk ?_;have e1:eO wl b (P,none) p=(P++[⟨(w,p.2),some (b.key,p.1),b.story++[p.1]⟩],none):=by unfold eO;simp only[e,eh,lr,if_false]
   refine⟨_,rfl,_,rfl,(by show 2<=aj;decide),fun t ht=>⟨_,rfl,_,rfl,_,rfl,wd,_,rfl,gw1 (Rd.same (S1.trans (ac.new ht)) hwd) (bB.kt (ac.kt (S1.trans (ac.new ht))) hsb),_,rfl,l2,fun p2 hp2=>?_⟩⟩;have S2:ac H1 (upd H1 t (.tup [.ref ha,.ref sb])):=ac.new ht;have t2:upd H1 t (.tup [.ref ha,.ref sb]) t=some (.tup [.ref ha,.ref sb]):=aa;generalize upd H1 t (.tup [.ref ha,.ref sb])=H2 at S2 t2 hp2 ⊢;have S3:ac H2 (upd H2 p2 (.tup [.int (w:Nat),.int (p.2:Nat)])):=ac.new hp2;have pr3:lX (upd H2 p2 (.tup [.int (w:Nat),.int (p.2:Nat)])) p2 (w,p.2):=aa;generalize upd H2 p2 (.tup [.int (w:Nat),.int (p.2:Nat)])=H3 at S3 pr3 ⊢;have S03:=(S1.trans S2).trans S3;have A3:=A.same S03;have lk:kvs.length<aj:=by rw[Paired.length A.came,kM];omega
   refine⟨cd,p2,kvs,ow (w,p.2),rfl,rfl,A3.hcd,da.c 8 (fJ _) pr3.tk,fJ _,lk,?_⟩;have npc:pl≠cd:=fun z=>by have:=A.hpl;rw[z,A.hcd]at this;cases this
   have pl4:upd H3 cd (.dT (cR kvs (ow (w,p.2)) (.ref t))) pl=some (.lst (prs.map V.ref)):=by rw[ag npc];exact A3.hpl
   have wd4:Rd (upd H3 cd (.dT (cR kvs (ow (w,p.2)) (.ref t)))) wd (.dT (stK wl)):=Rd.ne nwc (Rd.same S03 hwd);refine⟨_,rfl,.inl ⟨rfl,_,aA.of pl4⟩,_,rfl,_,rfl,wd,_,rfl,gw1 wd4 (bB.kt ((ac.kt S03).trans (EB A3.hcd)) hsb),_,rfl,l2,fun p3 hp3=>?_⟩;have ncp:cd≠p3:=fun z=>by rw[<-z,aa]at hp3;cases hp3
   have hp3':H3 p3=none:=by rw[ag ncp.symm]at hp3;exact hp3
   rw[EH ncp];have S4:ac H3 (upd H3 p3 (.tup [.int (w:Nat),.int (p.2:Nat)])):=ac.new hp3';have pr4:lX (upd H3 p3 (.tup [.int (w:Nat),.int (p.2:Nat)])) p3 (w,p.2):=aa;generalize upd H3 p3 (.tup [.int (w:Nat),.int (p.2:Nat)])=H4 at S4 pr4 ⊢;have A4:=A3.same S4;have S04:=S03.trans S4;have pl5:upd H4 cd (.dT (cR kvs (ow (w,p.2)) (.ref t))) pl=some (.lst (prs.map V.ref)):=by rw[ag npc];exact A4.hpl
   refine⟨pl,_,.ref p3,rfl,rfl,pl5,?_,?_⟩
   ·rw[ai,Paired.length A.hprs,kM];omega
   have cv:pF K H4 ⟨(w,p.2),some (b.key,p.1),b.story++[p.1]⟩ (.ref t):=⟨t,ha,sb,rfl,S4 _ _ (S3 _ _ t2),S04 _ _ hha,bB.kt (ac.kt S04) hsb⟩;refine next (prs++[p3]) (kvs++[(ow (w,p.2),.ref t)]) _ (by rw[e1]) ?_ fun x u q n1 n2=>by rw[ag n2,ag n1];exact S04 _ _ q
   rw[e1];exact A4.add (c:=⟨(w,p.2),some (b.key,p.1),b.story++[p.1]⟩) eh cv pr4 (A.ok.add hb eh (by rw[<-ewl];exact e) hp) rg
end
def ic(ms ws:List (List (Sg×Nat))):Nat->List bU×Option (List Sg×Sg)
 |0=>([⟨(0,0),none,[]⟩],none)
 |n+1=>match (ic ms ws n).2 with
  |some _=>ic ms ws n
  |none=>match (ic ms ws n).1[n]? with
   |none=>ic ms ws n
   |some c=>((cp (ws.getD c.key.1 []) c (ic ms ws n).1 (ms.getD c.key.2 [])).1,(cp (ws.getD c.key.1 []) c (ic ms ws n).1 (ms.getD c.key.2 [])).2.map fun sg=>(c.story,sg))
theorem zV{P:List bU}{c:bU}(h:ic ms ws n=(P,none))(hc:P[n]?=some c):ic ms ws (n+1)=((cp (ws.getD c.key.1 []) c P (ms.getD c.key.2 [])).1,(cp (ws.getD c.key.1 []) c P (ms.getD c.key.2 [])).2.map fun sg=>(c.story,sg)):=by
 show(match (ic ms ws n).2 with|some _=>_|none=>_)=_
 rw[h];simp only[hc]
theorem rc(w:List (Sg×Nat))(b:bU):∀(l:List (Sg×Nat)) (q:List bU×Option Sg) (s:Sg),q.2=some s->(l.foldl (eO w b) q).2=some s
 |[],_,_,h=>h
 |p::l,q,s,h=>by
  rw[gP];have e:eO w b q p=q:=by unfold eO;rw[h]
  rw[e];exact rc w b l q s h
theorem zU{l:List (Sg×Nat)}{i:Nat}{p:Sg×Nat}(h:(cp w b P (l.take i)).2=none)(hp:l[i]?=some p)(h1:bF w p.1=none)(h2:p.1.head?≠some ("ask":Str)):(cp w b P l).2=some p.1:=by
 have e:l=l.take i++p::l.drop (i+1):=by
  obtain⟨hi,ei⟩:=bO.1 hp;rw[<-ei,List.getElem_cons_drop hi,sy]
 unfold cp at h ⊢;rw[e,j5,gP];refine rc w b _ _ _ ?_;generalize(l.take i).foldl (eO w b) (P,none)=q at h;unfold eO;simp only[h,h1,h2,if_false]
theorem As.rd{st:List (List (Sg×Nat))}(h:As H0 H ts st){i:Nat}{d:Addr}(e:ts[i]?=some d):H0 d=none/\Rd H d (.dT (stK (st.getD i []))):=by
 obtain⟨l,hl,h0,hr⟩:=Paired.getL h e;have:st.getD i []=l:=by rw[gM,hl];rfl
 rw[this];exact⟨h0,hr⟩
theorem II{K:Za}{a1 a2 wd md:Addr}{n:Nat}{b:bU}{o:Obj}{D:kU}(C:JT ts1 ts2 ws ms){x7 x8:Option V}(A:iD K H0 H a1 a2 cd pl ts1 ts2 prs kvs ws ms P)(hb:P[n]?=some b)(hha:lX H ha b.key)
  (ewd:ts1[b.key.1]?=some wd) (emd:ts2[b.key.2]?=some md) (hmd:H md=some (.frz o (.dT (stK (ms.getD b.key.2 [])))))
  (fault:∀(P':List bU) (p:Sg×Nat) (sb t lst:Addr) (gs:Ze) (H2:Hp),qJ ms ws P'->(∃r,P'=P++r)->(cp (ws.getD b.key.1 []) b P (ms.getD b.key.2 [])).2=some p.1->p∈ms.getD b.key.2 []->bF (ws.getD b.key.1 []) p.1=none->p.1.head?≠some ("ask":Str)->H2 t=some (.tup [.ref lst,.ref sb])->H2 lst=some (.lst (gs.map V.ref))->Paired (fun g (sg:Sg)=>bB K H2 g (sg.map V.str)) gs b.story->bB K H2 sb (p.1.map V.str)->H0 t=none->H0 lst=none->mR H0 H2 a1 a2 ts1 ts2 ws ms->D.rt (.ref t) H2)
  (next:∀(P':List bU) (prs':Ze) (kvs':List (TK×V)) (x7 x8:Option V) (H2:Hp),(∃r,P'=P++r)->cp (ws.getD b.key.1 []) b P (ms.getD b.key.2 [])=(P',none)->kQ ms ws P' b->iD K H0 H2 a1 a2 cd pl ts1 ts2 prs' kvs' ws ms P'->D.nx [some (.ref a1),some (.ref a2),some (.ref cd),some (.ref pl),some (.int ((n:Int)+1)),some (.ref ha),some (.ref wd),x7,x8] H2) :
  JB (HS md o (.dT (stK (ms.getD b.key.2 []))) (stK (ms.getD b.key.2 [])).length (BA K (stK (ms.getD b.key.2 [])))) (gE K 2 (aT U7 (aT U8 (fZ)))) (Bm K (fy K)) D [some (.ref a1),some (.ref a2),some (.ref cd),some (.ref pl),some (.int ((n:Int)+1)),some (.ref ha),some (.ref wd),x7,x8] H:=by
 have ell:(stK (ms.getD b.key.2 [])).length=(ms.getD b.key.2 []).length:=by unfold stK;rw[ai]
 have lfok:=fun i=>FL A.ok hb ((ms.getD b.key.2 []).take i) fun p hp=>fu hp;have lt:n<P.length:=by
  rcases d6 n P.length with z|z
  ·exact z
  ·rw[fx z]at hb;cases hb
 refine v2 (fun i σ H'=>∃(prs':Ze) (kvs':List (TK×V)) (x7 x8:Option V),σ=[some (.ref a1),some (.ref a2),some (.ref cd),some (.ref pl),some (.int ((n:Int)+1)),some (.ref ha),some (.ref wd),x7,x8]/\(cp (ws.getD b.key.1 []) b P ((ms.getD b.key.2 []).take i)).2=none/\iD K H0 H' a1 a2 cd pl ts1 ts2 prs' kvs' ws ms (cp (ws.getD b.key.1 []) b P ((ms.getD b.key.2 []).take i)).1/\H' md=some (.frz o (.dT (stK (ms.getD b.key.2 []))))/\lX H' ha b.key)
  ⟨prs,kvs,_,_,rfl,rfl,A,hmd,hha⟩ ?_ ?_ ?_
 ·rintro i σ H' _ ⟨_,_,_,_,_,_,_,h,_⟩;exact h
 ·rintro i σ H3 pp a v hi ⟨prs',kvs',x7,x8,rfl,q0,A3,md3,ha3⟩ hpp ⟨key,ek,tkc⟩;unfold stK at ek;rw[bw]at ek;obtain⟨p,hp,ep⟩:=kY.1 ek;cases ep;obtain⟨sb,rfl,hsb⟩:=yO tkc;have S:ac H3 (upd H3 pp (.tup [.ref sb,.int (p.2:Nat)])):=ac.new hpp;have hpp4:upd H3 pp (.tup [.ref sb,.int (p.2:Nat)]) pp=some (.tup [.ref sb,.int (p.2:Nat)]):=aa;generalize upd H3 pp (.tup [.ref sb,.int (p.2:Nat)])=H4 at S hpp4 ⊢;refine⟨pp,_,rfl,bD.of hpp4,rfl,_,_,rfl,_,_,rfl,rfl,?_⟩;have A4:=A3.same S;obtain⟨⟨r,er⟩,okr,_⟩:=lfok i;have es:cp (ws.getD b.key.1 []) b P ((ms.getD b.key.2 []).take (i+1))=eO (ws.getD b.key.1 []) b (cp (ws.getD b.key.1 []) b P ((ms.getD b.key.2 []).take i)) p:=by
   unfold cp;rw[take_snoc hp,j5];rfl
  have e2:cp (ws.getD b.key.1 []) b P ((ms.getD b.key.2 []).take i)=((cp (ws.getD b.key.1 []) b P ((ms.getD b.key.2 []).take i)).1,none):=by rw[<-q0]
  have hb4:(cp (ws.getD b.key.1 []) b P ((ms.getD b.key.2 []).take i)).1[n]?=some b:=by rw[er,c9 lt];exact hb
  obtain⟨w0,hwd⟩:=As.rd A4.i.r1 ewd;have ncm:md≠cd:=A.nc2 md (aR emd);have ncw:wd≠cd:=A.nc1 wd (aR ewd);refine Ho C (n:=n) (b:=b) (p:=p) (sb:=sb) (x7:=none) (x8:=none) (pp:=pp) (H':=H4) A4 hb4 (S _ _ ha3) hwd rfl (aR hp) (bB.kt (ac.kt S) hsb) ncw ?_ ?_
  ·intro t lst gs H2 f1 f2 f3 f4 f5 f6 f7 f8 f9;exact fault _ p sb t lst gs H2 okr ⟨r,er⟩ (zU q0 hp f1 f2) (aR hp) f1 f2 f3 f4 f5 f6 f7 f8 f9
  ·intro prs'' kvs'' H2 g1 g2 g3;rw[es,e2];refine⟨prs'',kvs'',_,_,rfl,g1,g2,?_,?_⟩
   ·refine g3 _ _ (S _ _ md3) ncm fun z=>?_;have:=A4.hpl;rw[<-z,S _ _ md3]at this;cases this
   ·refine g3 _ _ (S _ _ ha3) (fun z=>?_) fun z=>?_
    ·have:=A4.hcd;rw[<-z,S _ _ ha3]at this;cases this
    ·have:=A4.hpl;rw[<-z,S _ _ ha3]at this;cases this
 ·rintro σ H3 ⟨prs',kvs',x7,x8,rfl,q0,A3,md3,ha3⟩;rw[ell,bt]at q0 A3;obtain⟨⟨r,er⟩,_⟩:=lfok (ms.getD b.key.2 []).length;rw[bt]at er;exact next _ prs' kvs' x7 x8 H3 ⟨r,er⟩ (by rw[<-q0]) (fun p hp=>Bl _ q0 p hp) A3
inductive g8(K:Za)(vs:List V)(H:Hp)(Q:VK)(E:XK):Prop
 |mk (H0:Hp) (a1 a2:Addr) (ts1 ts2:Ze) (ws ms:List (List (Sg×Nat))):(vs=[.ref a1,.ref a2])->(mR H0 H a1 a2 ts1 ts2 ws ms)->(JT ts1 ts2 ws ms)->(0<ts1.length)->(0<ts2.length)->((∀(P:List bU) (H':Hp),qJ ms ws P->ic ms ws P.length=(P,none)->P.length<=ts1.length * ts2.length->(∀c∈P,kQ ms ws P c)->mR H0 H' a1 a2 ts1 ts2 ws ms->Q .non H'))->(∀(P:List bU) (i:Nat) (c:bU) (p:Sg×Nat) (sb t lst:Addr) (gs:Ze) (H':Hp),qJ ms ws P->(ic ms ws (i+1)).2=some (c.story,p.1)->i<ts1.length * ts2.length->P[i]?=some c->(∀(j:Nat) (c':bU),j<i->P[j]?=some c'->kQ ms ws P c')->p∈ms.getD c.key.2 []->bF (ws.getD c.key.1 []) p.1=none->p.1.head?≠some ("ask":Str)->H' t=some (.tup [.ref lst,.ref sb])->H' lst=some (.lst (gs.map V.ref))->Paired (fun g (sg:Sg)=>bB K H' g (sg.map V.str)) gs c.story->bB K H' sb (p.1.map V.str)->H0 t=none->H0 lst=none->mR H0 H' a1 a2 ts1 ts2 ws ms->Q (.ref t) H')->g8 K vs H Q E
theorem uV{K:Za}(h:g8 K vs H Q E):uF K (fy K) (bH Q) (start vb vs) H:=by
 obtain⟨H0,a1,a2,ts1,ts2,ws,ms,rfl,I,C,z1,z2,kn,kf⟩:=h;have l2:([V.int 0,V.int 0]:List V).length<=aj:=by show 2<=aj;decide
 refine fun cd hcd=>⟨l2,fun p0 hp0=>?_⟩;have S1:ac H (upd H cd (.dT [])):=ac.new hcd;have S2:ac (upd H cd (.dT [])) (upd (upd H cd (.dT [])) p0 (.tup [.int 0,.int 0])):=ac.new hp0;have cd2:=S2 _ _ (aa (H:=H) (a:=cd) (o:=.dT []));have pr2:lX (upd (upd H cd (.dT [])) p0 (.tup [.int 0,.int 0])) p0 (0,0):=aa;have I2:=I.same (S1.trans S2);have c0:H0 cd=none:=I.S.free hcd;have nc:∀{ts:Ze}{st:List (List (Sg×Nat))},As H0 H ts st->∀t∈ts,t≠cd:=fun r=>As.ne r fun k q=>by
  rcases q with q|⟨o,q⟩
  ·rw[hcd]at q;cases q
  ·rw[hcd]at q;cases q
 have nc1:=nc I.r1;have nc2:=nc I.r2;have na1:a1≠cd:=ae I.h1 hcd;have na2:a2≠cd:=ae I.h2 hcd;generalize upd (upd H cd (.dT [])) p0 (.tup [.int 0,.int 0])=H2 at cd2 pr2 I2 ⊢;refine⟨cd2,p0,ow (0,0),rfl,da.c 8 (fJ _) pr2.tk,fJ _,?_⟩;have I3:=I2.own (o:=.dT [(ow (0,0),.non)]) c0 na1 na2 nc1 nc2;have cd3:upd H2 cd (.dT [(ow (0,0),.non)]) cd=some (.dT [(ow (0,0),.non)]):=aa;generalize upd H2 cd (.dT [(ow (0,0),.non)])=H3 at I3 cd3 ⊢;refine⟨l2,fun p1 hp1=>⟨(by show 1<=aj;decide),fun pl hpl=>?_⟩⟩;have S4:ac H3 (upd H3 p1 (.tup [.int 0,.int 0])):=ac.new hp1;have pr4:lX (upd H3 p1 (.tup [.int 0,.int 0])) p1 (0,0):=aa;generalize upd H3 p1 (.tup [.int 0,.int 0])=H4 at S4 pr4 hpl ⊢;have S5:ac H4 (upd H4 pl (.lst [.ref p1])):=ac.new hpl;have pl5:upd H4 pl (.lst [.ref p1]) pl=some (.lst (([p1]:Ze).map V.ref)):=aa;have I5:=(I3.same S4).same S5;have A5:iD K H0 (upd H4 pl (.lst [.ref p1])) a1 a2 cd pl ts1 ts2 [p1] [(ow (0,0),.non)] ws ms [⟨(0,0),none,[]⟩]:=by
  refine⟨I5,S5 _ _ (S4 _ _ cd3),.cons ⟨rfl,rfl⟩ .nil,pl5,.cons (S5 _ _ pr4) .nil,Ek ms ws,fun c hc=>?_,c0,(I3.same S4).S.free hpl,nc1,nc2,ae (I3.same S4).h1 hpl,ae (I3.same S4).h2 hpl⟩;rw[bo.1 hc];exact⟨z1,z2⟩
 generalize upd H4 pl (.lst [.ref p1])=H5 at A5 ⊢;clear S1 S2 cd2 pr2 I2 I3 cd3 S4 pr4 S5 pl5 I5;refine⟨fun m σ H'=>∃(n:Nat) (P:List bU) (prs:Ze) (kvs:List (TK×V)) (x5 x6 x7 x8:Option V),m=70000-n/\n<=P.length/\σ=[some (.ref a1),some (.ref a2),some (.ref cd),some (.ref pl),some (.int (n:Int)),x5,x6,x7,x8]/\iD K H0 H' a1 a2 cd pl ts1 ts2 prs kvs ws ms P/\ic ms ws n=(P,none)/\∀(j:Nat) (c:bU),j<n->P[j]?=some c->kQ ms ws P c,
  ⟨70000,0,_,_,_,_,_,_,_,rfl,df _,rfl,A5,rfl,fun j c hj=>by omega⟩,?_⟩
 rintro m σ H6 ⟨n,P,prs,kvs,x5,x6,x7,x8,rfl,hn,rfl,A,eit,rows⟩;have few:=A.few C.z1 C.z2;have few2:=A.few2;refine⟨_,rfl,_,rfl,.inl ⟨pl,_,rfl,.inl (aA.of A.hpl),_,_,rfl,rfl,_,rfl,?_⟩⟩;have zp:(prs.map V.ref).length=P.length:=by rw[ai,Paired.length A.hprs]
 refine FT (P:=n<P.length) (by rw[zp];simp) (fun lt=>?_) (fun ge=>?_);rotate_left
 ·have e:n=P.length:=by omega
  refine kn P H6 A.ok (by rw[<-e];exact eit) few2 (fun c hc=>?_) A.i;obtain⟨j,hj,ej⟩:=so hc;exact rows j c (by omega) (by rw[aV hj,ej])
 have hb:P[n]?=some P[n]:=aV lt;obtain⟨ha,eha,hha⟩:=Paired.get A.hprs hb;have hrg:=A.rg P[n] (eI _);generalize P[n]=b at hb hha hrg;have ath:qA (prs.map V.ref) n=some (.ref ha):=aJ (by rw[bw,eha];rfl);have ewd:ts1[b.key.1]?=some ts1[b.key.1]:=aV hrg.1;have emd:ts2[b.key.2]?=some ts2[b.key.2]:=aV hrg.2;have atw:qA (ts1.map V.ref) (b.key.1:Nat)=some (.ref ts1[b.key.1]):=aJ (by rw[bw,ewd];rfl);have atm:qA (ts2.map V.ref) (b.key.2:Nat)=some (.ref ts2[b.key.2]):=aJ (by rw[bw,emd];rfl);generalize ts1[b.key.1]=wd at ewd atw;generalize ts2[b.key.2]=md at emd atm;have ncm:md≠cd:=A.nc2 md (aR emd);refine⟨fun σ' H'=>∃m',m'<70000-n/\∃(n:Nat) (P:List bU) (prs:Ze) (kvs:List (TK×V)) (x5 x6 x7 x8:Option V),m'=70000-n/\n<=P.length/\σ'=[some (.ref a1),some (.ref a2),some (.ref cd),some (.ref pl),some (.int (n:Int)),x5,x6,x7,x8]/\iD K H0 H' a1 a2 cd pl ts1 ts2 prs kvs ws ms P/\ic ms ws n=(P,none)/\∀(j:Nat) (c:bU),j<n->P[j]?=some c->kQ ms ws P c,fun σ' H' h=>h,?_⟩;refine⟨_,rfl,_,rfl,pl,_,_,_,rfl,rfl,aA.of A.hpl,ath,?_⟩;refine⟨_,rfl,_,_,rfl,rfl,?_⟩;refine⟨_,rfl,_,rfl,ha,_,0,_,rfl,rfl,bD.of hha,aJ (j:=0) rfl,a1,_,_,_,rfl,rfl,aA.of A.i.h1,atw,?_⟩;refine⟨_,rfl,_,rfl,ha,_,1,_,rfl,rfl,bD.of hha,aJ (j:=1) rfl,a2,_,_,_,rfl,rfl,aA.of A.i.h2,atm,md,stK (ms.getD b.key.2 []),rfl,?_⟩;obtain⟨md0,hmd⟩:=As.rd A.i.r2 emd;have up:∀{P':List bU},(∃r,P'=P++r)->(∀(j:Nat) (c:bU),j<n->P'[j]?=some c->kQ ms ws P' c)/\P'[n]?=some b/\n+1<=P'.length:=by
  rintro P' ⟨r,rfl⟩;refine⟨fun j c hj hc=>?_,by rw[c9 lt];exact hb,by rw[az];omega⟩;rw[c9 (by omega)]at hc;exact(rows j c hj hc).mono
 have fin:∀{H7:Hp}{o:Obj},iD K H0 H7 a1 a2 cd pl ts1 ts2 prs kvs ws ms P->lX H7 ha b.key->H7 md=some (.frz o (.dT (stK (ms.getD b.key.2 []))))->JB (HS md o (.dT (stK (ms.getD b.key.2 []))) (stK (ms.getD b.key.2 [])).length (BA K (stK (ms.getD b.key.2 [])))) (gE K 2 (aT U7 (aT U8 (fZ)))) (Bm K (fy K)) { nx:=fun σ' H'=>∃m',m'<70000-n/\∃(n:Nat) (P:List bU) (prs:Ze) (kvs:List (TK×V)) (x5 x6 x7 x8:Option V),m'=70000-n/\n<=P.length/\σ'=[some (.ref a1),some (.ref a2),some (.ref cd),some (.ref pl),some (.int (n:Int)),x5,x6,x7,x8]/\iD K H0 H' a1 a2 cd pl ts1 ts2 prs kvs ws ms P/\ic ms ws n=(P,none)/\∀(j:Nat) (c:bU),j<n->P[j]?=some c->kQ ms ws P c,rt:=Q,ct:=fun σ' H'=>∃m',m'<70000-n/\∃(n:Nat) (P:List bU) (prs:Ze) (kvs:List (TK×V)) (x5 x6 x7 x8:Option V),m'=70000-n/\n<=P.length/\σ'=[some (.ref a1),some (.ref a2),some (.ref cd),some (.ref pl),some (.int (n:Int)),x5,x6,x7,x8]/\iD K H0 H' a1 a2 cd pl ts1 ts2 prs kvs ws ms P/\ic ms ws n=(P,none)/\∀(j:Nat) (c:bU),j<n->P[j]?=some c->kQ ms ws P c,bk:=fun σ H'=>bq (tC .non) (bH Q) σ H' } [some (.ref a1),some (.ref a2),some (.ref cd),some (.ref pl),some (.int ((n:Int)+1)),some (.ref ha),some (.ref wd),x7,x8] H7:=by
  intro H7 o A7 ha7 md7;refine II C A7 hb ha7 ewd emd md7 ?_ ?_
  ·intro P' p sb t lst gs H2 ok' ex fr f0 f1 f2 f3 f4 f5 f6 f7 f8 f9;obtain⟨u1,u2,_⟩:=up ex;exact kf P' n b p sb t lst gs H2 ok' (by rw[zV eit hb,fr];rfl) (by omega) u2 u1 f0 f1 f2 f3 f4 f5 f6 f7 f8 f9
  ·intro P' prs' kvs' x7 x8 H2 ex fr ro A';obtain⟨u1,u2,u3⟩:=up ex;refine⟨70000-(n+1),by omega,n+1,P',prs',kvs',_,_,x7,x8,rfl,u3,by rw[show((n+1:Nat):Int)=(n:Int)+1 from by omega],A',by rw[zV eit hb,fr];rfl,fun j c hj hc=>?_⟩;rcases d6 j n with z|z
   ·exact u1 j c z hc
   ·have:j=n:=by omega
    subst this;rw[u2]at hc;injection hc with hc;subst hc;exact ro
 rcases hmd with e|⟨o,e⟩
 ·exact .inl ⟨e,fun o=>fin (A.frz md0 e ncm) (EB e _ _ hha) aa⟩
 ·exact .inr ⟨o,e,fin A hha e⟩
def zF:Option Nat->V
 |none=>.non
 |some n=>.int (n:Nat)
def dD(fc:Nat)(st:List (Sg×Nat))(d:ao):List (Str×Option Nat) :=
 if d.sg=am then[(d.b,some fc)]else if(bF st d.sg).isSome=true∨d.sg.head?=some ("say":Str)then[(d.b,bF st d.sg)]else[]
def tH(J2:Zb)(ds:List ao)(room:Str)(fc:Nat)(st:List (Sg×Nat)):List (Str×Option Nat) :=
 (br ds room).flatMap (dD fc st)++if room∈J2.filter (ff ds)then[(room,bF st bT)]else[]
abbrev iX(H:Hp)(us:Ze)(L:List (Str×Option Nat)):Prop:=Paired (fun u (r:Str×Option Nat)=>H u=some (.tup [.str r.1,zF r.2])) us L
theorem iX.kt(k:ii H H')(h:iX H us L):iX H' us L:=Paired.mapP h fun _ _ r=>k _ _ r
theorem xZ(fc:Nat)(st:List (Sg×Nat))(d:ao):(dD fc st d).length<=1:=by
 unfold dD;split
 ·exact aG _
 ·split
  ·exact aG _
  ·exact df _
theorem tG(fc:Nat)(st:List (Sg×Nat)):∀L:List ao,(L.flatMap (dD fc st)).length<=L.length
 |[]=>aG _
 |d::L=>by
  rw[pJ,az,cZ];have:=xZ fc st d;have:=tG fc st L;omega
inductive oM(K:Za)(C:Addr)(vs:List V)(H:Hp)(Q:VK)(E:XK):Prop
 |mk (x sd:Addr) (room:Str) (fc:Nat) (st:List (Sg×Nat)) (J0 J1 J2:Zb) (ds:List ao):(vs=[.ref x,.str room,.int (fc:Nat),.ref sd])->(bd C H x J0 J1 J2 ds)->(room∈J2)->(Rd H sd (.dT (stK st)))->(∀(l:Addr) (us:Ze) (H':Hp),H' l=some (.lst (us.map V.ref))->iX H' us (tH J2 ds room fc st)->H l=none->ac H H'->Q (.ref l) H')->oM K C vs H Q E
theorem zE:((bF l sg).map fun n=>V.int (n:Nat)).getD .non=zF (bF l sg):=by
 cases bF l sg<;>rfl
theorem EZ{K:Za}(hh:∀H,bD K H hu (bT.map V.str))(hs:∀H,bD K H sa (am.map V.str))(h:oM K C vs H Q E):uC K C (hU C) hu (hC C) sa (bH Q) (start u8 vs) H:=by
 obtain⟨x,sd,room,fc,st,J0,J1,J2,ds,rfl,M,hr,hsd,k⟩:=h;have z4:=M.ok.few;refine⟨(by show 0<=aj;decide),fun l hl=>?_⟩;have S0:ac H (upd H l (.lst [])):=ac.new hl;obtain⟨dx,fs,o1,o2,lv,lps,g1,a1,a2,a3,a4,_⟩:=nN (M.same S0);refine⟨_,rfl,x,dx,fs,rfl,g1,a3,_,rfl,x,room,J0,J1,J2,ds,rfl,M.same S0,hr,fun dl du H1 hdl hD hdl0 S1=>⟨dl,rfl,⟨_,aA.of hdl⟩,?_⟩⟩;have lz:(br ds room).length<=1000:=bL (h7 _ _) (by omega);have ndl:dl≠l:=fun z=>by rw[z,aa]at hdl0;cases hdl0
 refine cg (xs:=du.map V.ref) (fun i σ H'=>∃(us:Ze) (x5 x6 x7:Option V),σ=[some (.ref x),some (.str room),some (.int (fc:Nat)),some (.ref sd),some (.ref l),x5,x6,x7]/\H' l=some (.lst (us.map V.ref))/\iX H' us (((br ds room).take i).flatMap (dD fc st))/\ac H H'/\∀b o,H1 b=some o->b≠l->H' b=some o)
  ⟨[],_,_,_,rfl,S1 _ _ aa,.nil,S0.trans S1,fun _ _ e _=>e⟩ (fun i σ H' _ ⟨_,_,_,_,_,_,_,_,e⟩=>aA.of (e _ _ hdl ndl)) ?_ ?_
 ·rintro i y σ H2 hi ⟨us,x5,x6,x7,rfl,hl2,hR,S2,e2⟩;obtain⟨u,hu',rfl⟩:=dW hi;obtain⟨d,hd,hat⟩:=Paired.getL hD hu';have k12:ii H1 H2:=fun b xs e=>e2 _ _ e fun z=>by have:=S1 _ _ (aa (H:=H) (a:=l) (o:=.lst []));rw[<-z,e]at this;cases this
  obtain⟨sb,ht2,hs2⟩:=hat.kt k12;have hgood:=M.ok.good d (be.1 (aR hd)).1;obtain⟨s0,rest,hsg,_⟩:=vz hgood;have il:i<(br ds room).length:=(bO.mp hd).1;have ul:us.length<=1000:=by
   rw[Paired.length hR];refine bL (tG fc st _) ?_;rw[aM];omega
  have sd2:Rd H2 sd (.dT (stK st)):=Rd.same S2 hsd;have row:∀{H3:Hp}(r:Str×Option Nat) (p:Addr),ac H2 H3->H3 p=none->dD fc st d=[r]->∃(us':Ze) (x5 x6 x7:Option V),([some (.ref x),some (.str room),some (.int (fc:Nat)),some (.ref sd),some (.ref l),some (.str d.a),some (.ref sb),some (.str d.b)]:L2.St)=[some (.ref x),some (.str room),some (.int (fc:Nat)),some (.ref sd),some (.ref l),x5,x6,x7]/\upd (upd H3 p (.tup [.str r.1,zF r.2])) l (.lst (us.map V.ref++[.ref p])) l=some (.lst (us'.map V.ref))/\iX (upd (upd H3 p (.tup [.str r.1,zF r.2])) l (.lst (us.map V.ref++[.ref p]))) us' (((br ds room).take (i+1)).flatMap (dD fc st))/\ac H (upd (upd H3 p (.tup [.str r.1,zF r.2])) l (.lst (us.map V.ref++[.ref p])))/\∀b o,H1 b=some o->b≠l->upd (upd H3 p (.tup [.str r.1,zF r.2])) l (.lst (us.map V.ref++[.ref p])) b=some o:=by
   intro H3 r p S3 hp er;have hk:ii H2 (upd (upd H3 p (.tup [.str r.1,zF r.2])) l (.lst (us.map V.ref++[.ref p]))):=((ac.kt S3).trans (ac.kt (ac.new hp))).trans (cJ (kp (S3 _ _ hl2) hp));refine⟨us++[p],_,_,_,rfl,by rw[aa,ay];rfl,?_,fun b o e=>by rw[ag (ae e hl)];exact kp (S3 _ _ (S2 _ _ e)) hp,fun b o e nb=>by rw[ag nb];exact kp (S3 _ _ (e2 _ _ e nb)) hp⟩;rw[take_snoc hd,wg,pJ,er];refine cG (iX.kt hk hR) ?_;rw[ag (ae (S3 _ _ hl2) hp).symm];exact aa
  refine⟨u,_,rfl,bD.of ht2,rfl,_,_,rfl,_,_,rfl,_,_,rfl,rfl,?_⟩;refine⟨_,rfl,mN d.sg,mN am,cy (bD.of hs2),cy (hs H2),by rw[dJ];decide,by rw[dJ];decide,_,rfl,?_⟩;rw[se];refine FT (P:=d.sg=am) (by simp) (fun c=>?_) (fun c=>?_)
  ·refine⟨_,rfl,.inl ⟨rfl,_,aA.of hl2⟩,_,rfl,_,rfl,(by show 2<=aj;decide),fun p hp=>⟨l,_,.ref p,rfl,rfl,kp hl2 hp,by rw[ai];exact ax ul,?_⟩⟩;exact row (d.b,some fc) p (.refl _) hp (by unfold dD;rw[if_pos c])
  ·have gd:kB K H2 sd (.ref sb) ((bF st d.sg).map fun n=>V.int (n:Nat)):=.inr ⟨_,jW d.sg,sb,sd2,rfl,wX (.inl hs2),d4 _,qt.symm⟩;have isd:JV H2 sd:=.inr ⟨_,sd2⟩;have at0:qA (d.sg.map V.str) 0=some (.str s0):=by rw[hsg];exact aJ (j:=0) rfl
   have put:(bF st d.sg).isSome=true∨d.sg.head?=some ("say":Str)->bJ (oI K "list" cz V4 (aB (bu (aN V7 (xo K V3 V6))))) { nx:=fun σ H'=>∃(us:Ze) (x5 x6 x7:Option V),σ=[some (.ref x),some (.str room),some (.int (fc:Nat)),some (.ref sd),some (.ref l),x5,x6,x7]/\H' l=some (.lst (us.map V.ref))/\iX H' us (((br ds room).take (i+1)).flatMap (dD fc st))/\ac H H'/\∀b o,H1 b=some o->b≠l->H' b=some o,rt:=Q } [some (.ref x),some (.str room),some (.int (fc:Nat)),some (.ref sd),some (.ref l),some (.str d.a),some (.ref sb),some (.str d.b)] H2:=by
    intro cc;refine⟨_,rfl,.inl ⟨rfl,_,aA.of hl2⟩,_,rfl,_,rfl,sd,rfl,isd,_,rfl,_,gd,?_⟩;rw[zE];refine⟨(by show 2<=aj;decide),fun p hp=>⟨l,_,.ref p,rfl,rfl,kp hl2 hp,by rw[ai];exact ax ul,?_⟩⟩;exact row (d.b,bF st d.sg) p (.refl _) hp (by unfold dD;rw[if_neg c,if_pos cc])
   refine⟨_,rfl,_,rfl,sd,_,rfl,gd,_,rfl,?_⟩;cases hv:bF st d.sg with
   |some w=>exact dk (dk (put (.inl (by rw[hv];rfl))))
   |none =>
    refine bR ?_;refine⟨_,rfl,sb,_,0,_,rfl,rfl,bD.of hs2,at0,rfl,_,rfl,?_⟩;refine FT (P:=d.sg.head?=some ("say":Str)) (by rw[hsg];simp) (fun c2=>put (.inr c2)) (fun c2=>?_);refine⟨us,_,_,_,rfl,hl2,?_,S2,e2⟩;have er:dD fc st d=[]:=by
     unfold dD;rw[if_neg c,if_neg];rintro(z|z)
     ·rw[hv]at z;cases z
     ·exact c2 z
    rw[take_snoc hd,wg,pJ,er];simpa using hR
 ·rintro σ H2 ⟨us,x5,x6,x7,rfl,hl2,hR,S2,e2⟩;rw[ai,Paired.length hD,bt]at hR;have M2:=M.same S2;obtain⟨dx,fs,o1,o2,lv,lps,g1,a1,a2,a3,a4,_⟩:=nN M2;have ul:us.length<=1000:=by
   rw[Paired.length hR];exact bL (tG fc st _) lz
  have sd2:Rd H2 sd (.dT (stK st)):=Rd.same S2 hsd;refine⟨_,rfl,x,dx,fs,rfl,g1,a4,_,rfl,x,room,J0,J1,J2,ds,rfl,M2,_,rfl,?_⟩;refine FT (P:=room∈J2.filter (ff ds)) (by simp) (fun c=>?_) (fun c=>?_)
  ·have gd:kB K H2 sd (.ref hu) ((bF st bT).map fun n=>V.int (n:Nat)):=.inr ⟨_,jW bT,hu,sd2,rfl,wX (Cq hh H2),d4 _,qt.symm⟩;refine⟨_,rfl,.inl ⟨rfl,_,aA.of hl2⟩,_,rfl,_,rfl,sd,rfl,.inr ⟨_,sd2⟩,_,gd,?_⟩;rw[zE];refine⟨(by show 2<=aj;decide),fun p hp=>⟨l,_,.ref p,rfl,rfl,kp hl2 hp,by rw[ai];exact ax ul,?_⟩⟩;have hk:ii H2 (upd (upd H2 p (.tup [.str room,zF (bF st bT)])) l (.lst (us.map V.ref++[.ref p]))):=(ac.kt (ac.new hp)).trans (cJ (kp hl2 hp));refine⟨_,rfl,k l (us++[p]) _ (by rw[aa,ay];rfl) ?_ hl fun b o e=>by rw[ag (ae e hl)];exact kp (S2 _ _ e) hp⟩;unfold tH;rw[if_pos c];refine cG (iX.kt hk hR) ?_;rw[ag (ae hl2 hp).symm];exact aa
  ·refine⟨_,rfl,k l us H2 hl2 ?_ hl S2⟩;unfold tH;rw[if_neg c,gJ];exact hR
def GA(ds:List ao)(f:Zb):Prop:=∀d∈ds,d.sg=am->d.a∈f->d.b∈f
theorem vA{J2 gs:Zb}{ds:List ao}(hb:∀d∈ds,d.b∈J2):GA ds (closF J2 ds gs):=by
 classical
 intro d hd hs ha;unfold closF at ha ⊢;rw[be]at ha ⊢;obtain⟨a,sg,b⟩:=d;have hs:sg=am:=hs;subst hs;exact⟨hb _ hd,zzr1 (gl.step (of_decide_eq_true ha.2) hd)⟩
theorem EU{J2:Zb}{ds:List ao}(hb:∀d∈ds,d.b∈J2):GA ds (behF J2 ds f sg):=by
 unfold behF;split
 ·intro d hd hs ha;have h:=of_decide_eq_true (be.1 ha).2;refine absurd (ap.2 ⟨d,be.2 ⟨hd,?_⟩,rfl⟩) h;unfold m8;rw[hs]
  decide
 ·exact vA hb
theorem Fx(L:List (Sg×List Str)):∀f∈(eL s m L).1.fs,f∈m.fs∨∃p∈L,f=p.2:=by
 have key:∀n,n<=L.length->∀f∈(eL s m (L.take n)).1.fs,f∈m.fs∨∃p∈L,f=p.2:=by
  intro n
  induction n with
  |zero=>intro _ f hf;exact .inl hf
  |succ n ih =>
   intro hn f hf;have hp:L[n]?=some L[n]:=aV (by omega);rw[take_snoc hp,jR]at hf;have hf:f∈((eL s m (L.take n)).1.add L[n].2 (s++[L[n].1])).fs:=hf;by_cases c:L[n].2∈(eL s m (L.take n)).1.fs
   ·rw[j1.add_in c]at hf;exact ih (by omega) f hf
   ·rw[j1.add_new c]at hf;rcases aX.1 hf with hf|hf
    ·exact ih (by omega) f hf
    ·exact .inr ⟨L[n],eI _,bo.1 hf⟩
 have:=key L.length (aG _);rw[bt]at this;exact this
theorem Cv{J2:Zb}{ds:List ao}(hb:∀d∈ds,d.b∈J2):∀k,∀f∈(itF J0 J1 J2 ds k).1.fs,GA ds f
 |0,f,hf=>by
  have e:(⟨[],[]⟩:j1).add (closF J2 ds (J2.take 1)) []=⟨[closF J2 ds (J2.take 1)],[[]]⟩:=j1.add_new (fun z=>nomatch z);have hf:f∈((⟨[],[]⟩:j1).add (closF J2 ds (J2.take 1)) []).fs:=hf;rw[e]at hf;rw[bo.1 hf];exact vA hb
 |k+1,f,hf=>by
  rcases Fx _ f hf with h|⟨p,hp,rfl⟩
  ·exact Cv hb k f h
  ·obtain⟨sg,_,rfl⟩:=ap.1 (be.1 hp).1;exact EU hb
theorem FY{J2 f:Zb}{ds:List ao}{d:ao}(hd:d∈ds)(hr:d.b∈J2)(ha:d.a∈f)(hn:d.sg≠bT):d.b∈behF J2 ds f d.sg:=by
 classical
 unfold behF;rw[if_neg hn];unfold closF;refine be.2 ⟨hr,zzr1 ⟨d.b,?_,.inl rfl⟩⟩;unfold cf;rw[k4];refine⟨d.a,ha,?_⟩;unfold bg;exact ap.2 ⟨d,be.2 ⟨hd,zzr1 ⟨rfl,rfl⟩⟩,rfl⟩
def wa(P:List bU)(SI:uv)(room:Str)(num:Nat):Prop:=∃c∈P,c.key.1=num/\∃F,SI.1.fs[c.key.2]?=some F/\room∈F
section
variable{J0 J1 J2:Zb}{ds:List ao}{SI:uv}{ws:List (List (Sg×Nat))}{P:List bU}(m:aD J0 J1 J2 ds)(ok:qI J0 J1 J2 ds SI)(le:SI.2.length=SI.1.fs.length)(ro:∀c∈P,kQ SI.2 ws P c)
include m ok le ro
theorem zc{c:bU}(hc:c∈P){F:Zb}(hF:SI.1.fs[c.key.2]?=some F){sg:Sg}(hs:sg∈av J0 J1){r:Str}(hr:r∈behF J2 ds F sg):
  (bF (ws.getD c.key.1 []) sg=none->sg.head?=some ("ask":Str))/\∀w,bF (ws.getD c.key.1 []) sg=some w->wa P SI r w:=by
 have lt:c.key.2<SI.2.length:=by
  rw[le];rcases d6 c.key.2 SI.1.fs.length with z|z
  ·exact z
  ·rw[fx z]at hF;cases hF
 have hl:SI.2[c.key.2]?=some SI.2[c.key.2]:=aV lt;obtain⟨f,hf,pr⟩:=ok.st _ _ hl;rw[hF]at hf;injection hf with hf;subst hf;have hm:(sg,behF J2 ds F sg)∈stepsF J0 J1 J2 ds F:=be.2 ⟨ap.2 ⟨sg,hs,rfl⟩,zzr1 fun z=>by rw[show behF J2 ds F sg=[]from z]at hr;cases hr⟩;obtain⟨k,hk,ek⟩:=so hm;obtain⟨a,ha,e1,e2⟩:=Paired.get pr (i:=k) (y:=(sg,behF J2 ds F sg)) (by rw[aV hk,ek]);have hp:a∈SI.2.getD c.key.2 []:=by
  rw[gM,hl];exact aR ha
 have row:=ro c hc a hp;rw[e1]at row;constructor
 ·intro z;rw[show bF (ws.getD c.key.1 []) (sg,behF J2 ds F sg).1=none from z]at row;exact row
 ·intro w z;rw[show bF (ws.getD c.key.1 []) (sg,behF J2 ds F sg).1=some w from z]at row;obtain⟨c',hc',ec⟩:=ap.1 (lP.1 row);exact⟨c',hc',by rw[ec],behF J2 ds F sg,by rw[ec];exact e2,hr⟩
theorem G0(sh:∀f∈SI.1.fs,GA ds f)(h:wa P SI room num):∀r∈tH J2 ds room num (ws.getD num []),∃n',r.2=some n'/\wa P SI r.1 n':=by
 obtain⟨c,hc,rfl,F,hF,hroom⟩:=h;intro r hr;unfold tH at hr;rcases aX.1 hr with hr|hr
 ·obtain⟨d,hd,hrd⟩:=k4.1 hr;have hd1:d∈ds:=(be.1 hd).1;have hda:d.a=room:=of_decide_eq_true (be.1 hd).2;have good:=m.good d hd1;unfold dD at hrd;split at hrd
  ·rename_i c1;rw[bo.1 hrd];exact⟨_,rfl,c,hc,rfl,F,hF,sh F (aR hF) d hd1 c1 (by rw[hda];exact hroom)⟩
  ·rename_i c1;split at hrd
   ·rename_i c2;rw[bo.1 hrd];have hsg:d.sg∈av J0 J1/\d.sg≠bT:=by
     unfold av;rcases good.sg with⟨w,hw,e⟩|⟨w,hw,e⟩|e
     ·exact⟨cB _ (cB _ (ap.2 ⟨w,hw,e.symm⟩)),by rw[e];unfold bT;intro z;injection z with _ z;cases z⟩
     ·exact⟨cB _ (cS _ (ap.2 ⟨w,hw,e.symm⟩)),by rw[e];unfold bT;intro z;injection z with _ z;cases z⟩
     ·exact absurd e c1
    obtain⟨s1,s2⟩:=zc m ok le ro hc hF hsg.1 (FY hd1 good.b (by rw[hda];exact hroom) hsg.2);cases e:bF (ws.getD c.key.1 []) d.sg with
    |some w=>exact⟨w,rfl,s2 w e⟩
    |none =>
     have h1:=s1 e;rcases c2 with z|z
     ·rw[e]at z;cases z
     ·rw[h1]at z;exact absurd z (by decide)
   ·cases hrd
 ·split at hr
  ·rename_i q;rw[bo.1 hr];have hq:=(be.1 q).2;rw[tM]at hq;have hb:room∈behF J2 ds F bT:=by
    unfold behF;rw[if_pos rfl];exact be.2 ⟨hroom,hq⟩
   obtain⟨s1,s2⟩:=zc m ok le ro hc hF (sg:=bT) (by unfold av;exact cS _ cb) hb;cases e:bF (ws.getD c.key.1 []) bT with
   |some w=>exact⟨w,rfl,s2 w e⟩
   |none=>exact absurd (s1 e) (by decide)
  ·cases hr
end
theorem Ej{l:Addr}{o:Obj}{u:HO}{n:Nat}{ent:Nat->Hp->V->V->Prop}{g:TG}{tc:TT}{H1:Hp}{Q:Hp->Prop}(Pv:Nat->List V->Hp->Prop)(h0:Pv 0 [] (upd H1 l (.lst [])))
  (hl:∀i vs H,i<=n->Pv i vs H->H l=some (.lst vs)/\H d=some (.frz o u)) (hd:∀vs H,Pv n vs H->Q H)
  (hs:∀i vs H a b,i<n->Pv i vs H->ent i H a b->g a (dL k fi σ) H fun σ2 H4=>tc σ2 H4 fun b H5 =>
   if b=true then te σ2 H5 fun v H6=>H6 l=some (.lst vs)/\vs.length<aj/\∃m',m'<n-i/\Wc n Pv (i+1) m' (vs++[v]) (upd H6 l (.lst (vs++[v])))else ∃m',m'<n-i/\Wc n Pv (i+1) m' vs H5) :
  gu k fi σ (Jy d o u n ent) g tc te H1 l Q:=by
 refine lU n Pv h0 (fun i vs H hi p=>(hl i vs H hi p).1) (fun i vs H hi p=>⟨(hl i vs H (eo hi) p).2,hi⟩) (fun vs H p=>⟨⟨(hl n vs H (aG _) p).2,aG _⟩,hd vs H p⟩) fun i vs H x H3 hi p y=>?_;obtain⟨rfl,b,en⟩:=y;exact hs i vs _ x b hi p en
abbrev Row:=Str×Nat
def qb(r:Row):TK:=.t [.k (.inr r.1),.k (.inl (r.2:Int))]
theorem Hc(h:qb a=qb b):a=b:=by
 unfold qb at h;injection h with h;injection h with h1 h2;injection h2 with h2 _;injection h1 with h1;injection h2 with h2;injection h1 with h1;injection h2 with h2;obtain⟨a1,a2⟩:=a;obtain⟨b1,b2⟩:=b;simp only at h1 h2;rw[h1,show a2=b2 by omega]
theorem iJ(k:Row):(qb k).depth<=8:=by
 show max 0 (max 0 0)+1<=8
 decide
abbrev uo(H:Hp)(a:Addr)(k:Row):Prop:=H a=some (.tup [.str k.1,.int (k.2:Nat)])
theorem uo.tk(h:uo H a k):da H (qb k) (.ref a):=by
 unfold qb da;refine⟨a,_,rfl,h,?_⟩;unfold TKAts;refine⟨_,_,rfl,?_,?_⟩
 ·unfold da;rfl
 unfold TKAts;refine⟨_,_,rfl,?_,?_⟩
 ·unfold da;rfl
 unfold TKAts
 rfl
theorem GN{K:Za}(h:nV K H (qb k) a):∃b,a=.ref b/\bB K H b [.str k.1,.int (k.2:Nat)]:=by
 unfold qb nV at h;obtain⟨b,xs,rfl,h1,h2⟩:=h;unfold TKCs at h2;obtain⟨v,us,rfl,h3,h4⟩:=h2;unfold TKCs at h4;obtain⟨v',us',rfl,h5,h6⟩:=h4;unfold TKCs at h6;unfold nV at h3 h5;subst h3 h5 h6;exact⟨b,rfl,h1⟩
def tV(L:List Row):List (TK×V):=L.map fun r=>(qb r,.bl true)
theorem xK(r:Row):∀L:List Row,(bP (tV L) (qb r)).isSome=decide (r∈L)
 |[]=>rfl
 |x::L=>by
  show(bP ((qb x,V.bl true)::tV L) (qb r)).isSome=_;by_cases c:x=r
  ·rw[cC (by show qb x=qb r;rw[c])];simp[c]
  ·rw[cu (fun z=>c (Hc z)),xK r L];simp[dA c]
theorem zf{J2:Zb}{n:Nat}{L:List Row}(nd:L.Nodup)(h:∀r∈L,r.1∈J2/\r.2<n):L.length<=J2.length * n:=by
 have h1:=gV nd (R:=J2.flatMap fun x=>(jD n).map fun i=>(x,i)) fun r hr=>by
  obtain⟨h2,h3⟩:=h r hr;exact k4.2 ⟨r.1,h2,ap.2 ⟨r.2,List.mem_range.2 h3,rfl⟩⟩
 have:∀l:List Str,(l.flatMap fun x=>(jD n).map fun i=>(x,i)).length=l.length * n:=by
  intro l
  induction l with
  |nil=>simp
  |cons x l ih=>rw[pJ,az,ih,ai,sG,cZ,su];omega
 rw[this]at h1;exact h1
structure RowP(J2:Zb)(ds:List ao)(ws:List (List (Sg×Nat)))(n:Nat)(R:Row->Prop):Prop where
 rg:∀r,R r->r.1∈J2/\r.2<n
 next:∀r,R r->∀x∈tH J2 ds r.1 r.2 (ws.getD r.2 []),∃n',x.2=some n'/\R (x.1,n')
structure rP(H0 H:Hp)(rd wl:Addr)(ps:Ze)(L W:List Row)(R:Row->Prop):Prop where
 hrd:H rd=some (.dT (tV L))
 hwl:H wl=some (.lst (ps.map V.ref))
 hps:Paired (fun a r=>uo H a r) ps W
 nd:L.Nodup
 all:∀r∈L,R r
 sub:∀r∈W,r∈L
 S:ac H0 H
 r0:H0 rd=none
 w0:H0 wl=none
theorem rP.same(h:rP H0 H rd wl ps L W R)(S:ac H H'):rP H0 H' rd wl ps L W R :=
 ⟨S _ _ h.hrd,S _ _ h.hwl,Paired.mapP h.hps fun _ _ r=>S _ _ r,h.nd,h.all,h.sub,h.S.trans S,h.r0,h.w0⟩
theorem rP.add(h:rP H0 H rd wl ps L W R)(hu:uo H u r)(hn:¬r∈L)(hr:R r):
  rP H0 (upd (upd H rd (.dT (cR (tV L) (qb r) (.bl true)))) wl (.lst (ps.map V.ref++[.ref u]))) rd wl (ps++[u]) (L++[r]) (W++[r]) R:=by
 have nwr:wl≠rd:=fun z=>by have:=h.hwl;rw[z,h.hrd]at this;cases this
 have k1:ii H (upd H rd (.dT (cR (tV L) (qb r) (.bl true)))):=EB h.hrd;have wl1:upd H rd (.dT (cR (tV L) (qb r) (.bl true))) wl=some (.lst (ps.map V.ref)):=by rw[ag nwr];exact h.hwl
 have k2:=k1.trans (cJ (o:=.lst (ps.map V.ref++[.ref u])) wl1);have vn:bP (tV L) (qb r)=none:=by
  have:=xK r L;rw[zzr0 hn]at this;cases e:bP (tV L) (qb r)with
  |none=>rfl
  |some v=>rw[e]at this;cases this
 refine⟨?_,?_,cG (Paired.mapP h.hps fun _ _ q=>k2 _ _ q) (k2 _ _ hu),?_,?_,?_,?_,h.r0,h.w0⟩
 ·rw[ag nwr.symm,aa,fU _ vn];unfold tV;rw[ay];rfl
 ·rw[aa,ay];rfl
 ·rw[cA];exact⟨h.nd,by simp,fun a ha b hb e=>hn (by rw[<-bo.1 hb,<-e];exact ha)⟩
 ·intro x hx;rcases aX.1 hx with hx|hx
  ·exact h.all x hx
  ·rw[bo.1 hx];exact hr
 ·intro x hx;rcases aX.1 hx with hx|hx
  ·exact cB _ (h.sub x hx)
  ·exact cS _ hx
 ·intro b q e;rw[ag (ae e h.w0),ag (ae e h.r0)];exact h.S _ _ e
inductive kb(K:Za)(C Cm:Addr)(vs:List V)(H:Hp)(Q:VK)(E:XK):Prop
 |mk (H0:Hp) (mo I M fa sa na ta:Addr) (us ws' ts:Ze) (m:j1) (ws:List (List (Sg×Nat))) (J0 J1 J2:Zb) (ds:List ao) (R:Row->Prop) (f0:Str):(vs=[.ref mo,.ref I])->(hW K C H mo M fa sa na ta us ws' m)->(H ta=some (.lst (ts.map V.ref)))->(As H0 H ts ws)->(bd Cm H I J0 J1 J2 ds)->(RowP J2 ds ws ts.length R)->(ts.length=m.fs.length)->(ts.length<=256)->(J2[0]?=some f0)->(R (f0,0))->(∀(l:Addr) (ps:Ze) (L:List Row) (H':Hp),H' l=some (.lst (ps.map V.ref))->Paired (fun u (r:Row)=>∃ft f,H' u=some (.tup [.str r.1,.ref ft])/\m.fs[r.2]?=some f/\H' ft=some (.tup (f.map V.str))) ps L->L.Nodup->(∀r∈L,R r)->H l=none->ac H H'->Q (.ref l) H')->kb K C Cm vs H Q E
theorem AZ{K:Za}(c:FC K C)(h:kb K C Cm vs H Q E):AC K (oM K Cm) Cm (iS Cm) (bH Q) (start BR vs) H:=by
 obtain⟨H0,mo,I,M,fa,sa,na,ta,us,ws',ts,m,ws,J0,J1,J2,ds,R,f0,rfl,F,hta,st,MA,rp,zt,z256,hf0,hR0,k⟩:=h;have z3:=MA.ok.rooms26;obtain⟨dx,fs,o1,o2,o3,o4,lv,qu,sg,sl,tt,lps,gps,sps,g1,a1,a2,a3,a4,_⟩:=MA.at_;have at0:qA (J2.map V.str) 0=some (.str f0):=aJ (j:=0) (by rw[bw,hf0];rfl);have lt0:=(rp.rg _ hR0).2;refine⟨_,rfl,I,dx,fs,rfl,g1,a4,I,J0,J1,J2,ds,rfl,MA,fun rl hrl=>⟨rl,_,0,_,rfl,rfl,aA.of aa,at0,(by show 2<=aj;decide),fun p0 hp0=>?_⟩⟩;have S1:ac H (upd (upd H rl (.lst (J2.map V.str))) p0 (.tup [.str f0,.int 0])):=(ac.new hrl).trans (ac.new hp0);have r1:uo (upd (upd H rl (.lst (J2.map V.str))) p0 (.tup [.str f0,.int 0])) p0 (f0,0):=aa;generalize upd (upd H rl (.lst (J2.map V.str))) p0 (.tup [.str f0,.int 0])=H1 at S1 r1 ⊢;refine fun rd hrd=>⟨_,rfl,aa,p0,qb (f0,0),rfl,da.c 8 (iJ _) (uo.tk (kp r1 hrd)),iJ _,?_⟩;have S2:ac H1 (upd (upd H1 rd (.dT [])) rd (.dT [(qb (f0,0),.bl true)])):=fun b o e=>by rw[ag (ae e hrd)];exact kp e hrd
 have rd2:upd (upd H1 rd (.dT [])) rd (.dT [(qb (f0,0),.bl true)]) rd=some (.dT (tV [(f0,0)])):=aa;generalize upd (upd H1 rd (.dT [])) rd (.dT [(qb (f0,0),.bl true)])=H2 at S2 rd2 ⊢;refine⟨_,rfl,(by show 1<=aj;decide),fun wl hwl=>?_⟩;have S3:ac H2 (upd H2 wl (.lst [.ref p0])):=ac.new hwl;have A3:rP H (upd H2 wl (.lst [.ref p0])) rd wl [p0] [(f0,0)] [(f0,0)] R :=
  ⟨S3 _ _ rd2,aa,.cons (S3 _ _ (S2 _ _ r1)) .nil,by simp,fun r hr=>by rw[bo.1 hr];exact hR0,fun r hr=>hr,(S1.trans S2).trans S3,S1.free hrd,(S1.trans S2).free hwl⟩
 generalize upd H2 wl (.lst [.ref p0])=H3 at S3 A3 ⊢;have few:∀{H':Hp}{ps:Ze}{L W:List Row},rP H H' rd wl ps L W R->L.length<=40000:=fun A=>by
  have h1:=zf A.nd fun r hr=>rp.rg r (A.all r hr);have h2:J2.length * ts.length<=150 * 256:=jk z3 z256;omega
 refine⟨fun mm σ H'=>∃(ps:Ze) (L W:List Row) (x5 x6 x7:Option V),mm=2 * (40000-L.length)+W.length/\mm<=80000/\σ=[some (.ref mo),some (.ref I),some (.ref p0),some (.ref rd),some (.ref wl),x5,x6,x7]/\rP H H' rd wl ps L W R,⟨_,[p0],[(f0,0)],[(f0,0)],_,_,_,rfl,(by show 2 * (40000-1)+1<=80000;decide),rfl,A3⟩,?_⟩;rintro mm σ H4 ⟨ps,L,W,x5,x6,x7,rfl,hmm,rfl,A⟩;have fw:=few A;refine⟨_,rfl,.inl ⟨wl,_,rfl,.inl (aA.of A.hwl),_,_,rfl,rfl,_,rfl,?_⟩⟩;have zp:(ps.map V.ref).length=W.length:=by rw[ai,Paired.length A.hps]
 refine FT (P:=0<W.length) (by rw[zp];simp) (fun pos=>?_) (fun nil=>?_)
 ·have hr:W[W.length-1]?=some W[W.length-1]:=aV (by omega);obtain⟨a,ea,hat⟩:=Paired.get A.hps hr;have hrL:=A.sub W[W.length-1] (eI _);have hRr:=A.all _ hrL;have hrg:=rp.rg _ hRr;have hnext:=rp.next _ hRr;generalize W[W.length-1]=r at hr hat hrL hRr hrg hnext;have last:(ps.map V.ref)[(ps.map V.ref).length-1]?=some (.ref a):=by rw[zp,bw,ea];rfl
  have kt:ii H4 (upd H4 wl (.lst (ps.map V.ref).dropLast)):=cJ A.hwl;have nwr:wl≠rd:=fun z=>by have:=A.hwl;rw[z,A.hrd]at this;cases this
  have A5:rP H (upd H4 wl (.lst (ps.map V.ref).dropLast)) rd wl (ps.take (W.length-1)) L (W.take (W.length-1)) R:=by
   refine⟨by rw[ag nwr.symm];exact A.hrd,?_,Paired.mapP (Paired.takeP _ A.hps) fun _ _ q=>kt _ _ q,A.nd,A.all,fun x hx=>A.sub x (fu hx),fun b q e=>by rw[ag (ae e A.w0)];exact A.S _ _ e,A.r0,A.w0⟩;rw[aa,List.dropLast_eq_take,zp,nj]
  have hat5:=kt _ _ hat;have zw:(W.take (W.length-1)).length=W.length-1:=by rw[aM];omega
  refine⟨fun σ' H'=>∃m',m'<2 * (40000-L.length)+W.length/\∃(ps:Ze) (L W:List Row) (x5 x6 x7:Option V),m'=2 * (40000-L.length)+W.length/\m'<=80000/\σ'=[some (.ref mo),some (.ref I),some (.ref p0),some (.ref rd),some (.ref wl),x5,x6,x7]/\rP H H' rd wl ps L W R,fun σ' H' h=>h,?_⟩;refine⟨_,rfl,.inl ⟨rfl,_,aA.of A.hwl⟩,wl,_,.ref a,rfl,rfl,A.hwl,last,a,_,rfl,bD.of hat5,rfl,_,_,rfl,_,_,rfl,rfl,?_⟩;generalize upd H4 wl (.lst (ps.map V.ref).dropLast)=H5 at A5 hat5 kt ⊢;have F5:=F.same A5.S;obtain⟨dx5,fs5,g5,m1,m2,m3,m4,m5,_⟩:=F5.ob;have ed:ts[r.2]?=some (ts[r.2]'hrg.2):=aV hrg.2;have atd:qA (ts.map V.ref) (r.2:Nat)=some (.ref (ts[r.2]'hrg.2)):=aJ (by rw[bw,ed];rfl);obtain⟨_,hrd5⟩:=As.rd st ed;generalize ts[r.2]'hrg.2=sd at ed atd hrd5;refine⟨_,rfl,_,rfl,_,rfl,_,rfl,mo,C,dx5,fs5,.ref ta,rfl,g5,c.cls,c.a5,m5,_,rfl,ta,_,_,_,rfl,rfl,aA.of (A5.S _ _ hta),atd,I,sd,r.1,r.2,ws.getD r.2 [],J0,J1,J2,ds,rfl,MA.same A5.S,hrg.1,Rd.same A5.S hrd5,fun nl nu H6 hnl hR6 hnl0 S6=>⟨nl,rfl,⟨_,aA.of hnl⟩,?_⟩⟩;have nnw:nl≠wl:=dA (ae A5.hwl hnl0);refine cg (xs:=nu.map V.ref) (fun i σ H'=>∃(ps:Ze) (L' W':List Row) (x7:Option V),σ=[some (.ref mo),some (.ref I),some (.ref p0),some (.ref rd),some (.ref wl),some (.str r.1),some (.int (r.2:Nat)),x7]/\rP H H' rd wl ps L' W' R/\2 * (40000-L'.length)+W'.length<2 * (40000-L.length)+W.length/\H' nl=some (.lst (nu.map V.ref))/\iX H' nu (tH J2 ds r.1 r.2 (ws.getD r.2 [])))
   ⟨_,_,_,_,rfl,A5.same S6,by rw[zw];omega,hnl,hR6⟩ (fun i σ H' _ ⟨_,_,_,_,_,_,_,q,_⟩=>aA.of q) ?_ ?_
  ·rintro i y σ H7 hi ⟨ps7,L7,W7,x7,rfl,A7,lt7,nl7,R7⟩;obtain⟨u,hu,rfl⟩:=dW hi;obtain⟨row,hrow,hut⟩:=Paired.getL R7 hu;obtain⟨n',en,hRn⟩:=hnext row (aR hrow);have hu7:uo H7 u (row.1,n'):=by rw[en]at hut;exact hut
   have gd:kB K H7 rd (.ref u) (bP (tV L7) (qb (row.1,n'))):=.inr ⟨_,qb (row.1,n'),u,.inl A7.hrd,rfl,da.isIn 8 (iJ _) hu7.tk,iJ _,rfl⟩;refine⟨_,rfl,_,rfl,rd,_,rfl,gd,_,rfl,?_⟩;rw[xK];have fw7:=few A7;refine FT (P:=¬(row.1,n')∈L7) (by by_cases q:(row.1,n')∈L7<;>simp[q]) (fun new=>?_) (fun old=>⟨ps7,L7,W7,_,rfl,A7,lt7,nl7,R7⟩);have A8:=A7.add hu7 new hRn;have fw8:=few A8;rw[az]at fw8;have fw8:L7.length+1<=40000:=fw8;have nwr:wl≠rd:=fun z=>by have:=A7.hwl;rw[z,A7.hrd]at this;cases this
   refine⟨_,rfl,_,rfl,rd,u,tV L7,qb (row.1,n'),rfl,rfl,A7.hrd,da.c 8 (iJ _) hu7.tk,iJ _,by unfold tV;rw[ai,kM];omega,?_⟩;have wl8:upd H7 rd (.dT (cR (tV L7) (qb (row.1,n')) (.bl true))) wl=some (.lst (ps7.map V.ref)):=by rw[ag nwr];exact A7.hwl
   have w7:W7.length<=1000000:=by omega
   refine⟨_,rfl,.inl ⟨rfl,_,aA.of wl8⟩,_,rfl,wl,_,.ref u,rfl,rfl,wl8,by rw[ai,Paired.length A7.hps,kM];omega,?_⟩;refine⟨_,_,_,_,rfl,A8,?_,?_,?_⟩
   ·rw[az,az];show 2 * (40000-(L7.length+1))+(W7.length+1)<_;omega
   ·rw[ag nnw,ag (fun z=>by have:=A7.hrd;rw[<-z,nl7]at this;cases this)];exact nl7
   ·exact iX.kt ((EB A7.hrd).trans (cJ wl8)) R7
  ·rintro σ H7 ⟨ps7,L7,W7,x7,rfl,A7,lt7,_⟩;exact⟨_,lt7,ps7,L7,W7,_,_,_,rfl,by omega,rfl,A7⟩
 ·refine⟨_,rfl,rd,tV L,rfl,.inl ⟨A.hrd,fun o l hl=>?_⟩⟩;have S5:ac H (upd H4 rd (.frz o (.dT (tV L)))):=fun b q e=>by rw[ag (ae e A.r0)];exact A.S _ _ e
  have rd5:upd H4 rd (.frz o (.dT (tV L))) rd=some (.frz o (.dT (tV L))):=aa;generalize upd H4 rd (.frz o (.dT (tV L)))=H5 at S5 rd5 hl ⊢;have el:(tV L).length=L.length:=by unfold tV;rw[ai]
  have nrl:rd≠l:=ae rd5 hl;refine Ej (fun i vs H'=>∃qs:List Addr,vs=qs.map V.ref/\H' l=some (.lst vs)/\H' rd=some (.frz o (.dT (tV L)))/\Paired (fun u (r:Row)=>∃ft f,H' u=some (.tup [.str r.1,.ref ft])/\m.fs[r.2]?=some f/\H' ft=some (.tup (f.map V.str))) qs (L.take i)/\ac H H')
   ⟨[],rfl,aa,kp rd5 hl,.nil,S5.trans (ac.new hl)⟩ (fun i vs H' _ ⟨_,_,q1,q2,_⟩=>⟨q1,q2⟩) ?_ ?_
  ·rintro vs H' ⟨qs,rfl,q1,_,q3,q4⟩;rw[el,bt]at q3;exact k l qs L H' q1 q3 A.nd A.all (S5.free hl) q4
  ·rintro i vs H' x b hi ⟨qs,rfl,q1,q2,q3,q4⟩ ⟨key,ek,tkc⟩;unfold tV at ek;rw[bw]at ek;obtain⟨r,hr,er⟩:=kY.1 ek;cases er;obtain⟨rb,rfl,hrb⟩:=GN tkc;have hrg:=rp.rg r (A.all r (aR hr));have F':=F.same q4;obtain⟨dx',fs',g',m1,m2,_⟩:=F'.ob;have hfn:m.fs[r.2]?=some (m.fs[r.2]'(by omega)):=aV (by omega);obtain⟨u,eu,hut⟩:=Paired.get F'.faces hfn;have atu:qA (us.map V.ref) (r.2:Nat)=some (.ref u):=aJ (by rw[bw,eu];rfl);refine⟨rb,_,rfl,bB.sq hrb,rfl,_,_,rfl,_,_,rfl,rfl,rC ?_⟩;refine⟨_,rfl,_,rfl,mo,C,dx',fs',.ref fa,rfl,g',c.cls,c.a2,m2,_,rfl,fa,_,_,_,rfl,rfl,aA.of F'.hfa,atu,(by show 2<=aj;decide),fun v hv=>⟨kp q1 hv,?_,uB hi ⟨qs++[v],by rw[ay];rfl,aa,?_,?_,?_⟩⟩⟩
   ·rw[ai,Paired.length q3,aM,kM];omega
   ·rw[ag (fun z=>by rw[z,q1]at q2;cases q2)];exact kp q2 hv
   ·rw[take_snoc hr];have hk:ii H' (upd (upd H' v (.tup [.str r.1,.ref u])) l (.lst (qs.map V.ref++[.ref v]))):=(ac.kt (ac.new hv)).trans (cJ (kp q1 hv));refine cG (Paired.mapP q3 fun _ _ ⟨ft,f,w1,w2,w3⟩=>⟨ft,f,hk _ _ w1,w2,hk _ _ w3⟩) ⟨u,_,?_,hfn,hk _ _ hut⟩;rw[ag (ae q1 hv).symm];exact aa
   ·intro b q e;rw[ag (ae e (S5.free hl))];exact kp (q4 _ _ e) hv
def uE(K:Za)(C_Machine:Addr)(sp_Machine_says:Sp)(sp_Machine_asks:Sp):TS :=
 cn (EN (a_ (aI (A9 K) (dB C_Machine "asks" sp_Machine_asks [] E0 V0 bm) (dB C_Machine "asks" sp_Machine_asks [] E0 V1 bm))) (a_ (aI (A9 K) (dB C_Machine "says" sp_Machine_says [] E0 V0 bm) (dB C_Machine "says" sp_Machine_says [] E0 V1 bm)))) (sZ) (bv)
def va:List Str:=["M","I"]
def j7(K:Za)(C_Machine:Addr)(sp_Machine_rooms:Sp)(sp_Machine_asks:Sp)(jL:Sp):TS :=
 eG (cx K (dB C_Machine "rooms" sp_Machine_rooms [] E0 V0 bm)) U1 (eG (cx K (dB C_Machine "asks" sp_Machine_asks [] E0 V0 bm)) U2 (cn (EQ (tB (aS jL (eJ V0 V1 V2)))) (sZ) (bv)))
def ky:List Str:=["I","room","ask"]
def uD(K:Za)(sp_need_all_asks_taken:Sp)(sp_need_match:Sp):TS :=
 aq (bJ (aS sp_need_match (aN V0 V1)))
 (bJ (aS sp_need_all_asks_taken (aB V1)))
def u_:List Str:=["M","I"]
def xc(K:Za)(sp_law_put:Sp)(sp_law_take:Sp)(sp_law_still_on:Sp):TS :=
 aq (aO V1 (gE K 4 (aT U2 (aT U3 (aT U4 (aT U5 (fZ)))))))
 (aq (aO (dE (dC K) (aB V5)) U5)
 (aq (aO (aS sp_law_take (aN V0 (tC (.int 6)))) U6)
 (aq (aO (aS sp_law_take (ar V0 (aB (dE Jg (aN (tC (.int 1)) (dE (dh K) (aB V5))))))) U7)
 (aq (aO (aI (bX K) V4 (aS sp_law_take (aN V0 (dE (dh K) (aB V4))))) U8)
 (aq (aO (aI (bX K) V4 (aS sp_law_take (aN V0 (dE (dh K) (aB V4))))) U9)
 (aq (cn (a_ (aI Ar V6 (tC (.int 0)))) (bJ (aS sp_law_put (ar V5 (ar (bu (ar V8 (ar (bu (ar (tC (.str "say")) (ar (aI (bX K) V3 (aS sp_law_take (aN V0 (dE (dh K) (aB V3))))) bm))) (aB V9)))) bm)))) (cn (a_ (aI Ar V6 (tC (.int 1)))) (bJ (aS sp_law_put (ar V5 (ar (bu (ar V8 (ar (bu (ar (tC (.str "ask")) (ar (aI (bX K) V2 (aS sp_law_take (aN V0 (dE (dh K) (aB V2))))) bm))) (aB V9)))) bm)))) (cn (uR (a_ (aI DG V6 (tC (.int 4)))) (uR (a_ (aI (A9 K) V5 (c_ (bm)))) (a_ (aI Fj (aI (gR K) (aI (gR K) (aI (bX K) V5 V7) (tC (.int 1))) (tC (.int 0))) (tC (.str "still")))))) (aq (aO (oI K "list" Fi V5 (aB V7)) IS)
 (cn (a_ (aI Ar V6 (tC (.int 3)))) (bJ (aS sp_law_put (ar V5 (ar (bu (eJ (aI (gR K) Es (tC (.int 0))) (aI (gR K) Es (tC (.int 1))) V9)) bm)))) (bv))) (cn (uR (a_ (aI Ar V6 (tC (.int 4)))) (a_ (aI (xB K true) V8 (aS sp_law_still_on (aN V5 (c_ (aB V9))))))) (bJ (aS sp_law_put (ar V5 (ar (bu (eJ V8 (bu (aB (tC (.str "still")))) V9)) bm)))) (bv)))))
 (bq (bu (ar V2 (eJ V3 V4 V5))))))))))
def yq:List Str:=["pen","told","asks","says","rooms","doors","way","at","room","other","door"]
def AF(K:Za)(sp_law_take:Sp)(sp_law_renamed:Sp)(sp_law_willing:Sp)(sp_law_turned:Sp)(sp_law_anew:Sp):TS :=
 aq (bJ (aS sp_law_anew (aB V0)))
 (aq (eG (vY (ar (aS sp_law_take (aN V0 (aI dg V2 (tC (.int 1))))) bm)) U3 (aO (aS sp_law_turned (aN V0 V1)) U1))
 (aq (aO (aS sp_law_willing (aN V0 V1)) U1)
 (aq (cn (a_ (aI Ar (aS sp_law_take (aN V0 (tC (.int 2)))) (tC (.int 0)))) (aO (aS sp_law_renamed (aN V0 V1)) U1) (bv))
 (bq V1))))
def BV:List Str:=["pen","told","most","turn"]
inductive fS(C:Addr)(vs:List V)(H:Hp)(Q:VK)(E:XK):Prop
 |mk (x y:Addr) (J0 J1 J2 rooms':Zb) (ds ds':List ao):(vs=[.ref x,.ref y])->(bd C H x J0 J1 J2 ds)->(bd C H y J0 J1 rooms' ds')->(∀H',ac H H'->Q .non H')->fS C vs H Q E
theorem tJ{K:Za}(h:fS C vs H Q E):uE K C (oK C) (mh C) (bH Q) (start va vs) H:=by
 obtain⟨x,y,J0,J1,J2,rooms',ds,ds',rfl,M,N,k⟩:=h;obtain⟨dx,fs,g1,a1,a2,_⟩:=id M.more;obtain⟨dy,gs,g2,b1,b2,_⟩:=id N.more;refine⟨_,rfl,x,dx,fs,rfl,g1,a1,x,J0,J1,J2,ds,rfl,M,fun l1 h1=>?_⟩;have S1:ac H (upd H l1 (.lst (J0.map V.str))):=ac.new h1;have e1:upd H l1 (.lst (J0.map V.str)) l1=some (.lst (J0.map V.str)):=aa;generalize upd H l1 (.lst (J0.map V.str))=H1 at S1 e1 ⊢;refine⟨_,rfl,y,dy,gs,rfl,S1 _ _ g2,b1,y,J0,J1,rooms',ds',rfl,N.same S1,fun l2 h2=>?_⟩;have S2:ac H (upd H1 l2 (.lst (J0.map V.str))):=S1.trans (ac.new h2);refine CN (kp e1 h2) aa ⟨_,rfl,?_⟩;generalize upd H1 l2 (.lst (J0.map V.str))=H2 at S2 ⊢;rw[zzr1 rfl];refine bR ?_;refine⟨_,rfl,x,dx,fs,rfl,S2 _ _ g1,a2,x,J0,J1,J2,ds,rfl,M.same S2,fun l3 h3=>?_⟩;have S3:ac H (upd H2 l3 (.lst (J1.map V.str))):=S2.trans (ac.new h3);have e3:upd H2 l3 (.lst (J1.map V.str)) l3=some (.lst (J1.map V.str)):=aa;generalize upd H2 l3 (.lst (J1.map V.str))=H3 at S3 e3 ⊢;refine⟨_,rfl,y,dy,gs,rfl,S3 _ _ g2,b2,y,J0,J1,rooms',ds',rfl,N.same S3,fun l4 h4=>?_⟩;have S4:ac H (upd H3 l4 (.lst (J1.map V.str))):=S3.trans (ac.new h4);refine CN (kp e3 h4) aa ⟨_,rfl,?_⟩;rw[zzr1 rfl];exact bR (k _ S4)
inductive iu(C:Addr)(vs:List V)(H:Hp)(Q:VK)(E:XK):Prop
 |mk (x:Addr) (J0 J1 J2:Zb) (ds:List ao):(vs=[.ref x])->(bd C H x J0 J1 J2 ds)->((∀r∈J2,∀a∈J0,eF ds r a))->(∀H',ac H H'->Q .non H')->iu C vs H Q E
theorem xz{K:Za}(h:iu C vs H Q E):j7 K C (iS C) (mh C) (jL C) (bH Q) (start ky vs) H:=by
 obtain⟨x,J0,J1,J2,ds,rfl,M,tk,k⟩:=h;obtain⟨dx,fs,o1,o2,o3,o4,lv,qu,sgA,sl,ts,lps,gps,sps,g1,a1,a2,a3,a4,_⟩:=id M.at_;refine⟨_,rfl,x,dx,fs,rfl,g1,a4,x,J0,J1,J2,ds,rfl,M,fun l1 h1=>?_⟩;have S1:ac H (upd H l1 (.lst (J2.map V.str))):=ac.new h1;have e1:upd H l1 (.lst (J2.map V.str)) l1=some (.lst (J2.map V.str)):=aa;generalize upd H l1 (.lst (J2.map V.str))=H1 at S1 e1 ⊢;refine⟨l1,rfl,⟨_,aA.of e1⟩,?_⟩;refine cg (xs:=J2.map V.str) (fun i σ H'=>∃y z,σ=[some (.ref x),y,z]/\ac H1 H') ⟨_,_,rfl,ac.refl _⟩ (fun i σ H' _ ⟨_,_,_,S⟩=>aA.of (S _ _ e1)) ?_ ?_
 ·rintro i v σ H2 hi ⟨y,z,rfl,S2⟩;obtain⟨r,hr,rfl⟩:=bE hi;have M2:=M.same (S1.trans S2);obtain⟨dx,fs,g1,a1,_⟩:=id M2.more;refine⟨_,rfl,x,dx,fs,rfl,g1,a1,x,J0,J1,J2,ds,rfl,M2,fun l2 h2=>?_⟩;have S3:ac H1 (upd H2 l2 (.lst (J0.map V.str))):=S2.trans (ac.new h2);have e2:upd H2 l2 (.lst (J0.map V.str)) l2=some (.lst (J0.map V.str)):=aa;generalize upd H2 l2 (.lst (J0.map V.str))=H3 at S3 e2 ⊢;refine⟨l2,rfl,⟨_,aA.of e2⟩,?_⟩;refine cg (xs:=J0.map V.str) (fun j σ H'=>∃z,σ=[some (.ref x),some (.str r),z]/\ac H3 H') ⟨_,rfl,ac.refl _⟩ (fun i σ H' _ ⟨_,_,S⟩=>aA.of (S _ _ e2)) ?_ ?_
  ·rintro j v σ H4 hj ⟨z,rfl,S4⟩;obtain⟨a,ha,rfl⟩:=bE hj;refine⟨_,rfl,_,rfl,_,rfl,x,r,a,J0,J1,J2,ds,rfl,M.same ((S1.trans S3).trans S4),aR hr,fun H5 S5=>⟨_,rfl,?_⟩⟩;rw[lC.2 (tk r (aR hr) a (aR ha))];exact bR ⟨_,rfl,S4.trans S5⟩
  ·rintro σ H4 ⟨z,rfl,S4⟩;exact⟨_,_,rfl,S3.trans S4⟩
 ·rintro σ H2 ⟨y,z,rfl,S2⟩;exact k H2 (S1.trans S2)
inductive fR(C:Addr)(vs:List V)(H:Hp)(Q:VK)(E:XK):Prop
 |mk (x y:Addr) (J0 J1 J2 rooms':Zb) (ds ds':List ao):(vs=[.ref x,.ref y])->(bd C H x J0 J1 J2 ds)->(bd C H y J0 J1 rooms' ds')->((∀r∈rooms',∀a∈J0,eF ds' r a))->(∀H',ac H H'->Q .non H')->fR C vs H Q E
theorem tI{K:Za}(h:fR C vs H Q E):uD K (iu C) (fS C) (bH Q) (start u_ vs) H:=by
 obtain⟨x,y,J0,J1,J2,rooms',ds,ds',rfl,M,N,tk,k⟩:=h;exact⟨_,rfl,_,rfl,x,y,J0,J1,J2,rooms',ds,ds',rfl,M,N,fun H1 S1=>⟨_,rfl,y,J0,J1,rooms',ds',rfl,N.same S1,tk,fun H2 S2=>k H2 (S1.trans S2)⟩⟩
theorem aD.out(m:aD J0 J1 J2 ds)(k:Nat):aD J0 J1 J2 (ds.eraseIdx k):=by
 have sub:(ds.eraseIdx k).Sublist ds:=List.eraseIdx_sublist ds k;exact{ m with nodup:=m.nodup.sublist sub,good:=fun d hd=>m.good d (sub.mem hd),few:=bL sub.length_le m.few,noround:=fun r z=>m.noround r (z.mono fun x y h=>sub.mem h) }
theorem Paired.out{α β:Type}{R:α->β->Prop}:∀{as:List α}{bs:List β}(k:Nat),Paired R as bs->Paired R (as.eraseIdx k) (bs.eraseIdx k)
 |_,_,_,.nil=>.nil
 |_,_,0,.cons _ t=>t
 |_,_,k+1,.cons r t=>.cons r (Paired.out k t)
theorem v3{α β:Type}(f:α->β):∀(l:List α) (n:Nat),(l.map f).eraseIdx n=(l.eraseIdx n).map f
 |[],_=>rfl
 |_::_,0=>rfl
 |a::l,n+1=>by show f a::_=f a::_;rw[v3 f l n]
def TR(J0 J1 J2:Zb)(n:Nat)(ds:List ao):Prop:=aD J0 J1 J2 ds/\ds.length<=n
inductive ma (vs:List V)(H:Hp)(Q:VK)(E:XK):Prop
 |mk (p c t l1 l2 l3 l4:Addr) (ts:Ze) (J0 J1 J2:Zb) (ds:List ao):(vs=[.ref p,.ref t])->(gD H p c)->(iB H t l1 l2 l3 l4 ts J0 J1 J2 ds)->(aD J0 J1 J2 ds)->(ds.length<=690)->(∀(t' l4':Addr) (ts':Ze) (ds':List ao) (H':Hp),iB H' t' l1 l2 l3 l4' ts' J0 J1 J2 ds'->aD J0 J1 J2 ds'->ds'.length<=ds.length+1->gD H' p c->cQ p H H'->Q (.ref t') H')->ma  vs H Q E
theorem Dy{K:Za}(h:ma vs H Q E):xc K ka fj (fF K) (bH Q) (start yq vs) H:=by
 obtain⟨p,c,t,l1,l2,l3,l4,ts,J0,J1,J2,ds,rfl,hp,T,m,z8,k⟩:=h;have a4:=m.asks4;have s4:=m.says4;have r4:=m.rooms26;refine⟨_,rfl,t,_,rfl,bD.of T.t,rfl,_,_,rfl,_,_,rfl,_,_,rfl,_,_,rfl,rfl,?_⟩;refine⟨_,rfl,.inl ⟨l4,_,rfl,.inl (aA.of T.a4),fun f hf=>?_⟩⟩;have B0:TX H p c f (fun x=>x=ds) (upd H f (.lst (ts.map V.ref))):=⟨hp.ex (ac.new hf),⟨ts,ds,aa,T.ds.kt (ac.kt (ac.new hf)),rfl⟩,cQ.new hf,hf,hp.nep hf,hp.nec hf⟩;generalize upd H f (.lst (ts.map V.ref))=H1 at B0 ⊢;have keep:∀{H':Hp}{R:List ao->Prop},TX H p c f R H'->H' l1=some (.lst (J0.map V.str))/\H' l2=some (.lst (J1.map V.str))/\H' l3=some (.lst (J2.map V.str)):=fun B =>
  ⟨B.ex _ _ T.a1 (hp.ne_strs T.a1),B.ex _ _ T.a2 (hp.ne_strs T.a2),B.ex _ _ T.a3 (hp.ne_strs T.a3)⟩
 refine⟨_,rfl,dH B0.pen (by decide) (by decide) fun way H2 w0 w1 hp2 ex2=>?_⟩;have B2:=B0.took hp2 ex2;obtain⟨us,es,g1,g2,rfl⟩:=id B2.ds;refine⟨_,rfl,_,rfl,.inl ⟨f,_,rfl,.inl (aA.of g1),_,_,rfl,?_⟩⟩;have lu:us.length=es.length:=Paired.length g2;refine dH B2.pen (by split<;>omega) (by rw[ai,lu];split<;>omega) fun at_ H3 n0 n1 hp3 ex3=>?_;have B3:=B2.took hp3 ex3;rw[ai,lu]at n1;refine jc (fun _ _ _ _ h=>h) rfl rfl B3.pen (keep B3).2.2 m.rooms0 (by omega) fun room hroom H4 hp4 ex4=>?_;have B4:=B3.took hp4 ex4;refine jc (fun _ _ _ _ h=>h) rfl rfl B4.pen (keep B4).2.2 m.rooms0 (by omega) fun other hother H5 hp5 ex5=>?_;have B5:=B4.took hp5 ex5;clear B0 B2 B3 B4 hp2 hp3 hp4 hp5 ex2 ex3 ex4 ex5 g1 g2;have fin:∀{H6:Hp}(x10:Option V),TX H p c f (TR J0 J1 J2 (es.length+1)) H6->(bq (bu (ar V2 (eJ V3 V4 V5)))) (bH Q) [some (.ref p),some (.ref t),some (.ref l1),some (.ref l2),some (.ref l3),some (.ref f),some (.int way),some (.int at_),some (.str room),some (.str other),x10] H6:=fun x10 B=>by
  obtain⟨us,fs,g1,g2,g3⟩:=B.ds;obtain⟨q1,q2,q3⟩:=keep B;refine⟨_,rfl,_,rfl,_,rfl,_,rfl,(by show 4<=aj;decide),fun t' ht'=>?_⟩;have S3:=ac.new (o:=.tup [.ref l1,.ref l2,.ref l3,.ref f]) ht';exact k t' f us fs _ ⟨aa,S3 _ _ q1,S3 _ _ q2,S3 _ _ q3,S3 _ _ g1,g2.kt (ac.kt S3)⟩ g3.1 g3.2 (B.pen.ex S3) (B.ex.trans (ac.exB S3))
 have put:∀{H6:Hp}{fs:List ao}{d:Addr}{x:ao}(x10:Option V),TX H p c f (fun y=>y=fs) H6->fs.length<=es.length->gp H6 d x->aD J0 J1 J2 (lI fs x)->ka [.ref f,.ref d] H6 (fun _ H'=>(bq (bu (ar V2 (eJ V3 V4 V5)))) (bH Q) [some (.ref p),some (.ref t),some (.ref l1),some (.ref l2),some (.ref l3),some (.ref f),some (.int way),some (.int at_),some (.str room),some (.str other),x10] H') E0:=fun x10 B le hat ok=>by
  obtain⟨us',fs',k1,k2,rfl⟩:=id B.ds;refine⟨f,_,us',_,_,rfl,k1,k2,hat,by omega,fun us2 D2=>fin x10 (B.put ⟨_,k1⟩ D2 ⟨ok,?_⟩)⟩;exact bL (tN _ _) (by omega)
 refine⟨_,rfl,rfl,_,rfl,?_⟩;refine i6 (fun _=>?_) (fun _=>?_)
 ·refine⟨_,rfl,_,rfl,jc (fun _ _ _ _ h=>h) rfl rfl B5.pen (keep B5).2.1 m.says0 (by omega) fun w hw H6 hp6 ex6=>⟨(by show 2<=aj;decide),fun s hs=>⟨_,rfl,(by show 3<=aj;decide),fun d hd=>?_⟩⟩⟩;have B6:=B5.took hp6 ex6;have S:ac H6 (upd (upd H6 s (.tup [.str "say",.str w])) d (.tup [.str room,.ref s,.str other])):=(ac.new hs).trans (ac.new hd);exact put (x:=⟨room,kO w,other⟩) _ (B6.same S) (aG _) ⟨s,aa,kp aa hd⟩ (m.putOne ⟨hroom,hother,.inr (.inl ⟨w,hw,rfl⟩)⟩ (by unfold kO am;intro h;injection h with _ h;cases h) (by omega))
 refine⟨_,rfl,rfl,_,rfl,?_⟩;refine i6 (fun _=>?_) (fun _=>?_)
 ·refine⟨_,rfl,_,rfl,jc (fun _ _ _ _ h=>h) rfl rfl B5.pen (keep B5).1 m.asks0 (by omega) fun w hw H6 hp6 ex6=>⟨(by show 2<=aj;decide),fun s hs=>⟨_,rfl,(by show 3<=aj;decide),fun d hd=>?_⟩⟩⟩;have B6:=B5.took hp6 ex6;have S:ac H6 (upd (upd H6 s (.tup [.str "ask",.str w])) d (.tup [.str room,.ref s,.str other])):=(ac.new hs).trans (ac.new hd);exact put (x:=⟨room,cP w,other⟩) _ (B6.same S) (aG _) ⟨s,aa,kp aa hd⟩ (m.putOne ⟨hroom,hother,.inl ⟨w,hw,rfl⟩⟩ (v_ w) (by omega))
 have still:∀{H6:Hp},TX H p c f (fun y=>y=es) H6->(cn (uR (a_ (aI Ar V6 (tC (.int 4)))) (a_ (aI (xB K true) V8 (aS (fF K) (aN V5 (c_ (aB V9))))))) (bJ (aS ka (ar V5 (ar (bu (eJ V8 (bu (aB (tC (.str "still")))) V9)) bm)))) (bv)) { nx:=(bq (bu (ar V2 (eJ V3 V4 V5)))) (bH Q),rt:=Q } [some (.ref p),some (.ref t),some (.ref l1),some (.ref l2),some (.ref l3),some (.ref f),some (.int way),some (.int at_),some (.str room),some (.str other),none] H6:=fun{H6} B=>by
  have idle:TX H p c f (TR J0 J1 J2 (es.length+1)) H6:=B.imp fun y e=>by rw[e];exact⟨m,mS _⟩
  refine⟨_,rfl,rfl,_,rfl,?_⟩;refine i6 (fun _=>?_) (fun _=>bR (fin _ idle));refine⟨_,rfl,_,rfl,_,rfl,(by show 1<=aj;decide),fun bl hbl=>?_⟩;have B7:=B.same (ac.new (o:=.lst [.str other]) hbl);have e7:upd H6 bl (.lst [.str other]) bl=some (.lst [.str other]):=aa;generalize upd H6 bl (.lst [.str other])=H7 at B7 e7 ⊢;obtain⟨us,fs,g1,g2,rfl⟩:=id B7.ds;refine⟨f,bl,us,fs,[other],J2,rfl,g1,g2,e7,fun d hd=>(m.good d hd).b,by omega,(by show 1<=1000;decide),fun g F H8 hg hF _ _ S8=>?_⟩;have B8:=B7.same S8;refine⟨fK room,F.map fK,g,_,lS room,rfl,.inl (aA.of hg),nT _,(by show 0<=8;decide),by rw[f_];decide,_,rfl,?_⟩;rw[if_pos rfl];by_cases c1:room∈F
  ·rw[zzr1 (mv.mpr c1)];exact bR (fin _ (B8.imp fun y e=>by rw[e];exact⟨m,mS _⟩))
  rw[zzr0 (fun z=>c1 (mv.mp z))];refine dk ?_;refine⟨_,rfl,_,rfl,(by show 1<=aj;decide),fun s hs=>⟨_,rfl,(by show 3<=aj;decide),fun d hd=>?_⟩⟩;have S:ac H8 (upd (upd H8 s (.tup [.str "still"])) d (.tup [.str room,.ref s,.str other])):=(ac.new hs).trans (ac.new hd);exact put (x:=⟨room,am,other⟩) _ (B8.same S) (aG _) ⟨s,aa,kp aa hd⟩ (m.putStill hroom hother (fun z=>c1 ((hF room).mpr z)) (by omega))
 refine⟨_,rfl,_,_,rfl,rfl,_,rfl,?_⟩;refine i6 (fun _=>?_) (fun _=>bR (still B5));refine⟨_,rfl,(by show 0<=aj;decide),fun q hq=>?_⟩;have B6:=B5.same (ac.new (o:=.lst []) hq);have e6:upd H5 q (.lst []) q=some (.lst []):=aa;generalize upd H5 q (.lst [])=H6 at B6 e6 ⊢;obtain⟨us,fs,g1,g2,rfl⟩:=id B6.ds;refine FB g1 g2 e6 (fun c1=>⟨_,rfl,dk ?_⟩) (fun _=>⟨_,rfl,bR (bR (still B6))⟩);have fl:0<fs.length:=nh.2 c1;have n2:at_<fs.length:=by split at n1<;>omega
 obtain⟨n,rfl⟩:=jm n0;have n3:n<fs.length:=by omega
 have hdr:fs[n]?=some fs[n]:=aV n3;obtain⟨u,hu,hat⟩:=Paired.get g2 hdr;generalize fs[n]=dr at hdr hat;have hm:=aR hdr;obtain⟨sb,ht2,hs2⟩:=hat;obtain⟨s0,rest,hsg,_⟩:=vz (m.good dr hm);have at0:qA (dr.sg.map V.str) 0=some (.str s0):=by rw[hsg];exact aJ (j:=0) rfl
 have atu:(us.map V.ref)[n]?=some (.ref u):=by rw[bw,hu];rfl
 refine⟨_,rfl,_,rfl,f,_,_,_,rfl,rfl,aA.of g1,aJ atu,u,_,1,_,rfl,rfl,bD.of ht2,rfl,sb,_,0,_,rfl,rfl,bD.of hs2,at0,rfl,_,rfl,?_⟩;refine i6 (fun c2=>?_) (fun _=>still B6);have ns:dr.sg≠am:=fun z=>by
  rw[hsg]at z;injection z with z;rw[z]at c2;simp at c2
 have six:wU (n:Int) (us.map V.ref).length=some n:=(xQ (Hr (by rw[ai,Paired.length g2];exact n3))).1;refine⟨_,rfl,.inl ⟨rfl,_,aA.of g1⟩,_,rfl,f,_,_,n,.ref u,rfl,rfl,g1,by omega,by omega,six,atu,?_⟩;have ee:(us.map V.ref).eraseIdx n=(us.eraseIdx n).map V.ref:=v3 _ us n;rw[ee];have k6:ii H6 (upd H6 f (.lst ((us.eraseIdx n).map V.ref))):=cJ g1;have B7:TX H p c f (fun y=>y=fs.eraseIdx n) (upd H6 f (.lst ((us.eraseIdx n).map V.ref))):=B6.put ⟨_,g1⟩ (Paired.out n g2) rfl;have t7:=k6 _ _ ht2;have s7:=k6 _ _ hs2;generalize upd H6 f (.lst ((us.eraseIdx n).map V.ref))=H7 at B7 t7 s7 ⊢;have m7:=m.out n;have l7:(fs.eraseIdx n).length<=fs.length:=(List.eraseIdx_sublist fs n).length_le;refine⟨_,rfl,rfl,_,rfl,?_⟩;refine i6 (fun _=>?_) (fun _=>fin _ (B7.imp fun y e=>by rw[e];exact⟨m7,by omega⟩));refine⟨_,rfl,_,rfl,u,_,0,_,rfl,rfl,bD.of t7,rfl,_,rfl,u,_,1,_,rfl,rfl,bD.of t7,rfl,_,rfl,(by show 3<=aj;decide),fun d hd=>?_⟩;have S:ac H7 (upd H7 d (.tup [.str dr.a,.ref sb,.str other])):=ac.new hd;exact put (x:=⟨dr.a,dr.sg,other⟩) _ (B7.same S) l7 ⟨sb,aa,S _ _ s7⟩ (m7.putOne ⟨(m.good dr hm).a,hother,(m.good dr hm).sg⟩ ns (by omega))
theorem Reach.ren(h:Reach ds x y):Reach (ds.map (d9 f)) (f x) (f y):=by
 induction h with
 |one e=>exact .one (ap.2 ⟨_,e,rfl⟩)
 |step _ e ih=>exact .step ih (ap.2 ⟨_,e,rfl⟩)
theorem eF.ren:eF ds r a->eF (ds.map (d9 f)) (f r) a:=fun⟨w,hw,b,hb⟩ =>
 ⟨f w,hw.imp (fun e=>by rw[e]) Reach.ren,f b,ap.2 ⟨_,hb,rfl⟩⟩
inductive i_ (vs:List V)(H:Hp)(Q:VK)(E:XK):Prop
 |mk (p c t l1 l2 l3 l4:Addr) (ts:Ze) (J0 J1 J2:Zb) (ds:List ao):(vs=[.ref p,.ref t])->(gD H p c)->(iB H t l1 l2 l3 l4 ts J0 J1 J2 ds)->(aD J0 J1 J2 ds)->(J2.length<=26)->(∀(t' l3' l4':Addr) (ts':Ze) (rooms':Zb) (f:Str->Str) (H':Hp),iB H' t' l1 l2 l3' l4' ts' J0 J1 rooms' (ds.map (d9 f))->aD J0 J1 rooms' (ds.map (d9 f))->rooms'.Perm (J2.map f)->gD H' p c->cQ p H H'->Q (.ref t') H')->i_  vs H Q E
theorem zh{K:Za}(h:i_ vs H Q E):uH K fj jM (bH Q) (start vd vs) H:=by
 obtain⟨p,c,t,l1,l2,l3,l4,ts,J0,J1,J2,ds,rfl,hp,T,m,z3,k⟩:=h;have z4:=m.few;have hr0:0<J2.length:=by
  cases hq:J2 with
  |nil=>exact absurd hq m.rooms0
  |cons _ _=>simp
 refine⟨_,rfl,t,_,rfl,bD.of T.t,rfl,_,_,rfl,_,_,rfl,_,_,rfl,_,_,rfl,rfl,?_⟩;refine fun d hd=>?_;have dp:=hp.nep hd;have dc:=hp.nec hd;have T1:=T.same (ac.new (o:=.dK []) hd);have hp1:=hp.ex (ac.new (o:=.dK []) hd);have hd1:upd H d (.dK []) d=some (.dK (EA [])):=aa;have ex1:cQ p H (upd H d (.dK [])):=cQ.new hd;generalize upd H d (.dK [])=H1 at T1 hp1 hd1 ex1 ⊢;refine⟨_,rfl,_,rfl,_,rfl,.inl ⟨l3,_,rfl,.inl (aA.of T1.a3),p,c,(J2.map V.str).length,rfl,hp1,by rw[ai];exact z3,fun lw ws H2 okw lenw frw hlw hp2 ex2=>?_⟩⟩;rw[ai]at lenw;have T2:=T1.ex hp1 ex2;have hd2:=ex2 _ _ hd1 dp.symm;have lwd:lw≠d:=fun z=>by rw[z,hd1]at frw;cases frw
 have lwp:=hp2.ne_strs hlw;refine⟨l3,lw,rfl,.inl ⟨⟨_,aA.of T2.a3⟩,⟨_,aA.of hlw⟩,?_⟩⟩;have ez:(J2.zip ws).length=J2.length:=by rw[List.length_zip,lenw,Nat.min_self]
 refine z9 (xs:=J2.map V.str) (ys:=ws.map V.str) (by rw[ai,ai,lenw]) (fun i σ H'=>∃x7 x8:Option V,σ=[some (.ref p),some (.ref t),some (.ref l1),some (.ref l2),some (.ref l3),some (.ref l4),some (.ref d),x7,x8,none,none]/\H' d=some (.dK (EA ((J2.zip ws).take i)))/\H' lw=some (.lst (ws.map V.str))/\gD H' p c/\cQ p H H')
  ⟨_,_,rfl,hd2,hlw,hp2,ex1.trans ex2⟩ (fun i σ H' _ ⟨_,_,_,_,h1,_,ex⟩=>⟨aA.of (ex _ _ T.a3 (hp.ne_strs T.a3)),aA.of h1⟩) ?_ ?_
 ·rintro i x y σ H3 q hx hy ⟨x7,x8,rfl,hd3,hlw3,hp3,ex3⟩ hq;obtain⟨r,hr,rfl⟩:=bE hx;obtain⟨w,hw,rfl⟩:=bE hy;have hi:i<J2.length:=(bO.mp hr).1;refine⟨q,_,rfl,bD.of aa,rfl,_,_,rfl,_,_,rfl,rfl,?_⟩;have hlen:(EA ((J2.zip ws).take i)).length<aj:=by
   unfold EA;rw[ai,aM];exact ax (by omega)
  refine⟨_,rfl,_,rfl,_,rfl,d,_,rfl,.inl ⟨_,.inr r,kp hd3 hq,rfl,hlen,rfl⟩,_,_,rfl,?_,?_,?_,?_⟩
  ·have hz:(J2.zip ws)[i]?=some (r,w):=by
    rw[List.getElem?_zip_eq_some];exact⟨hr,hw⟩
   have hn:r∉((J2.zip ws).take i).map (·.1):=by
    rw[nj,wV lenw];intro z;obtain⟨j,hj⟩:=eZ z;have hjl:j<i:=by
     have:=(bO.mp hj).1;rw[aM]at this;omega
    rw[List.getElem?_take_of_lt hjl]at hj;have:=r_ m.okR.1 hj hr;omega
   rw[aa,FA hn,take_snoc hz]
  ·rw[ag lwd];exact kp hlw3 hq
  ·exact(hp3.ex (ac.new hq)).upd dp dc
  ·intro b o e n;rw[ag (ae e hd)];exact kp (ex3 _ _ e n) hq
 rintro σ H3 ⟨x7,x8,rfl,hd3,hlw3,hp3,ex3⟩;rw[ai,<-ez,bt]at hd3;have T3:=T.ex hp ex3;generalize hρ:Dw (J2.zip ws)=ρ;have hmap:J2.map ρ=ws:=by rw[<-hρ];exact Cw m.okR.1 lenw
 have hval:∀r∈J2,bP (EA (J2.zip ws)) (.inr r:eS)=some (.str (ρ r)):=fun r hr=>by
  rw[<-hρ];exact CM (by rw[wV lenw];exact hr)
 refine⟨_,rfl,l3,rfl,⟨_,aA.of T3.a3⟩,fun f hf=>?_⟩;refine cX (xs:=J2.map V.str) (fun i vs H'=>vs=((J2.take i).map ρ).map V.str/\ac H3 H'/\H' f=some (.lst vs)) ⟨rfl,ac.new hf,aa⟩ (fun i vs H' _ ⟨_,S,h'⟩=>⟨h',aA.of (S _ _ T3.a3)⟩) ?_ ?_;rotate_left
 ·rintro i vs H' x' hx' hi ⟨rfl,S,f'⟩;obtain⟨r,hr,rfl⟩:=bE hx';refine gN (rC ?_);refine⟨_,rfl,_,rfl,d,.str (ρ r),rfl,.inl ⟨_,.inr r,.inl (S _ _ hd3),rfl,(hval r (aR hr)).symm⟩,f',?_,uB hi ⟨?_,?_,aa⟩⟩
  ·rw[ai,ai,aM];exact ax (by omega)
  ·rw[take_snoc hr,ay,ay];rfl
  ·intro b o q;rw[ag (ae q hf)];exact S _ _ q
 rintro vs H4 ⟨rfl,S4,f4⟩;rw[ai,bt,hmap]at f4;have T4:=T3.same S4;have hp4:=hp3.ex S4;have hd4:=S4 _ _ hd3;refine⟨_,rfl,_,rfl,.inl ⟨l3,_,rfl,.inl (aA.of T4.a3),dH (m:=((J2.map V.str).length:Nat)) hp4 (by rw[ai];omega) (by rw[ai];omega) fun r H5 r0 r1 hp5 ex5=>⟨_,_,rfl,rfl,?_⟩⟩⟩;rw[ai]at r1;obtain⟨n,rfl⟩:=jm r0;have T5:=T4.ex hp4 ex5;have f5:=ex5 _ _ f4 (hp4.ne_strs f4);have hd5:=ex5 _ _ hd4 dp.symm;have exx5:cQ p H H5:=(ex3.trans (ac.exB S4)).trans ex5;have c1:gg (ws.map V.str) none (some 1)=(ws.take 1).map V.str:=sf ws 1;have c2:gg (ws.map V.str) (some (1+(n:Int))) none=(ws.drop (1+n)).map V.str:=v5 ws (1+n);have c3:gg (ws.map V.str) (some 1) (some (1+(n:Int)))=((ws.drop 1).take (1+n-1)).map V.str:=Ei ws (j:=1) (k:=1+n) (by omega) (by omega);refine⟨_,rfl,_,rfl,f,_,rfl,aA.of f5,fun q1 hq1=>⟨_,rfl,_,rfl,_,rfl,f,_,rfl,aA.of (kp f5 hq1),fun q2 hq2=>⟨q1,q2,_,_,rfl,rfl,kp aa hq2,aa,?_,fun q3 hq3=>⟨_,rfl,_,rfl,_,rfl,_,rfl,f,_,rfl,aA.of (kp (kp (kp f5 hq1) hq2) hq3),fun q4 hq4=>⟨q3,q4,_,_,rfl,rfl,kp aa hq4,aa,?_,fun q5 hq5=>?_⟩⟩⟩⟩⟩
 ·rw[c1,c2,ai,ai,aM,fN];exact eo (ax (by omega))
 ·rw[c1,c2,c3,az,ai,ai,ai,aM,fN,aM,fN];exact eo (ax (by omega))
 rw[c1,c2,c3]at hq5 ⊢;have m1:(ws.take 1).map V.str++(ws.drop (1+n)).map V.str=(ws.take 1++ws.drop (1+n)).map V.str:=ay.symm;have m2:(ws.take 1++ws.drop (1+n)).map V.str++((ws.drop 1).take (1+n-1)).map V.str=(ws.take 1++ws.drop (1+n)++(ws.drop 1).take (1+n-1)).map V.str:=ay.symm;rw[m1]at hq5 ⊢;rw[m2];have S6:=((((ac.new (o:=.lst ((ws.take 1).map V.str)) hq1).trans (ac.new (o:=.lst ((ws.drop (1+n)).map V.str)) (by rw[<-c1];exact hq2))).trans (ac.new (o:=.lst ((ws.take 1++ws.drop (1+n)).map V.str)) (by rw[<-c1,<-c2];exact hq3))).trans (ac.new (o:=.lst (((ws.drop 1).take (1+n-1)).map V.str)) (by rw[ay,<-c1,<-c2];exact hq4))).trans (ac.new (o:=.lst ((ws.take 1++ws.drop (1+n)++(ws.drop 1).take (1+n-1)).map V.str)) hq5);have hperm:=yN ws n;generalize ws.take 1++ws.drop (1+n)++(ws.drop 1).take (1+n-1)=rooms' at S6 hperm hq5 ⊢;have hr':(upd (upd (upd (upd (upd H5 q1 (.lst ((ws.take 1).map V.str))) q2 (.lst ((ws.drop (1+n)).map V.str))) q3 (.lst ((ws.take 1++ws.drop (1+n)).map V.str))) q4 (.lst (((ws.drop 1).take (1+n-1)).map V.str))) q5 (.lst (rooms'.map V.str))) q5=some (.lst (rooms'.map V.str)):=aa;generalize(upd (upd (upd (upd (upd H5 q1 (.lst ((ws.take 1).map V.str))) q2 (.lst ((ws.drop (1+n)).map V.str))) q3 (.lst ((ws.take 1++ws.drop (1+n)).map V.str))) q4 (.lst (((ws.drop 1).take (1+n-1)).map V.str))) q5 (.lst (rooms'.map V.str)))=H6 at S6 hr' ⊢;have T6:=T5.same S6;have hd6:=S6 _ _ hd5;refine⟨_,rfl,l4,rfl,⟨_,aA.of T6.a4⟩,fun g hg=>?_⟩;refine cX (xs:=ts.map V.ref) (fun i vs H'=>∃us:List Addr,vs=us.map V.ref/\ac H6 H'/\H' g=some (.lst vs)/\cj H' us ((ds.take i).map (d9 ρ))) ⟨[],rfl,ac.new hg,aa,.nil⟩ (fun i vs H' _ ⟨_,_,S,h',_⟩=>⟨h',aA.of (S _ _ T6.a4)⟩) ?_ ?_;rotate_left
 ·rintro i vs H' x' hx' hi ⟨us,rfl,S,g',hP⟩;obtain⟨u,hu,rfl⟩:=dW hx';obtain⟨dr,hdr,hatd⟩:=Paired.getL T6.ds hu;obtain⟨sb,ht2,hs2⟩:=hatd.kt (ac.kt S);have hmem:=aR hdr;have hda:=hval dr.a (m.good dr hmem).a;have hdb:=hval dr.b (m.good dr hmem).b;refine⟨u,_,rfl,bD.of ht2,rfl,_,_,rfl,_,_,rfl,_,_,rfl,rfl,?_⟩;refine rC ?_;refine⟨_,rfl,_,rfl,d,.str (ρ dr.a),rfl,.inl ⟨_,.inr dr.a,.inl (S _ _ hd6),rfl,hda.symm⟩,_,rfl,_,rfl,_,rfl,d,.str (ρ dr.b),rfl,.inl ⟨_,.inr dr.b,.inl (S _ _ hd6),rfl,hdb.symm⟩,(by show 3<=aj;decide),fun w hw=>⟨kp g' hw,?_,uB hi ⟨us++[w],by rw[ay];rfl,?_,aa,?_⟩⟩⟩
  ·rw[ai,Paired.length hP,ai,aM];exact ax (by omega)
  ·intro b o q;rw[ag (ae q hg)];exact kp (S _ _ q) hw
  ·rw[take_snoc hdr,ay];have hk:ii H' (upd (upd H' w (.tup [.str (ρ dr.a),.ref sb,.str (ρ dr.b)])) g (.lst (us.map V.ref++[.ref w]))):=(ac.kt (ac.new hw)).trans (cJ (kp g' hw));refine cG (hP.kt hk) ⟨sb,?_,hk _ _ hs2⟩;exact(cJ (kp g' hw)) _ _ aa
 rintro vs H7 ⟨us,rfl,S7,g7,hP⟩;rw[ai,Paired.length T.ds,bt]at hP;have T7:=T6.same S7;have hp7:=(hp5.ex S6).ex S7;have ex7:cQ p H H7:=exx5.trans (ac.exB (S6.trans S7));refine⟨_,rfl,_,rfl,_,rfl,_,rfl,(by show 4<=aj;decide),fun t' ht'=>k t' q5 g us rooms' ρ _ ⟨aa,kp T7.a1 ht',kp T7.a2 ht',kp (S7 _ _ hr') ht',kp g7 ht',hP.kt (ac.kt (ac.new ht'))⟩ (m.renamed okw hmap hperm) (by rw[hmap];exact hperm) (hp7.ex (ac.new ht')) (ex7.trans (cQ.new ht'))⟩
inductive rU (vs:List V)(H:Hp)(Q:VK)(E:XK):Prop
 |mk (p c t l1 l2 l3 l4:Addr) (ts:Ze) (J0 J1 J2:Zb) (ds:List ao) (n:Nat):(vs=[.ref p,.ref t,.int (n:Nat)])->(gD H p c)->(iB H t l1 l2 l3 l4 ts J0 J1 J2 ds)->(aD J0 J1 J2 ds)->(J2.length<=26)->(ds.length<=650)->(n<=8)->(∀(t' l3' l4':Addr) (ts':Ze) (rooms':Zb) (ds':List ao) (H':Hp),iB H' t' l1 l2 l3' l4' ts' J0 J1 rooms' ds'->aD J0 J1 rooms' ds'->(∀r∈rooms',∀a∈J0,eF ds' r a)->rooms'.length=J2.length->ds'.length<=ds.length+n+4 * J2.length->gD H' p c->cQ p H H'->Q (.ref t') H')->rU  vs H Q E
theorem G5{K:Za}(h:rU vs H Q E):AF K fj i_ j9 ma oQ (bH Q) (start BV vs) H:=by
 obtain⟨p,c,t,l1,l2,l3,l4,ts,J0,J1,J2,ds,n,rfl,hp,T,m,z3,z4,zn,k⟩:=h;refine⟨_,rfl,p,c,rfl,hp,fun H1 hp1 ex1=>?_⟩;have T1:=T.ex hp ex1;refine⟨_,rfl,_,rfl,_,_,rfl,rfl,dH hp1 (by omega) (by omega) fun x H2 x0 x1 hp2 ex2=>?_⟩;have T2:=T1.ex hp1 ex2;refine⟨x,rfl,by omega,by omega,?_⟩;refine mB (lo:=0) (n:=x.toNat) (fun i σ H'=>∃(t' l4':Addr) (ts':Ze) (ds':List ao) (x3:Option V),σ=[some (.ref p),some (.ref t'),some (.int (n:Nat)),x3]/\iB H' t' l1 l2 l3 l4' ts' J0 J1 J2 ds'/\aD J0 J1 J2 ds'/\ds'.length<=ds.length+i/\gD H' p c/\cQ p H H')
  ⟨t,l4,ts,ds,_,rfl,T2,m,aG _,hp2,ex1.trans ex2⟩ ?_ ?_
 ·rintro i σ H3 hi ⟨t',l4',ts',ds',x3,rfl,T3,m3,z,hp3,ex3⟩;refine⟨_,rfl,_,rfl,p,c,t',l1,l2,l3,l4',ts',J0,J1,J2,ds',rfl,hp3,T3,m3,by omega,fun t2 l42 ts2 ds2 H4 T4 m4 z4 hp4 ex4=>?_⟩;exact⟨t2,l42,ts2,ds2,_,rfl,T4,m4,by omega,hp4,ex3.trans ex4⟩
 ·rintro σ H3 ⟨t',l4',ts',ds',x3,rfl,T3,m3,z,hp3,ex3⟩;refine⟨_,rfl,_,rfl,p,c,t',l1,l2,l3,l4',ts',J0,J1,J2,ds',rfl,hp3,T3,m3,z3,by omega,fun t2 l42 ts2 ds2 H4 T4 m4 tk4 zw hp4 ex4=>?_⟩;refine⟨_,rfl,dH hp4 (by decide) (by decide) fun w H5 w0 w1 hp5 ex5=>⟨rfl,_,rfl,?_⟩⟩;have T5:=T4.ex hp4 ex5;refine i6 (fun _=>?_) (fun _=>?_)
  ·refine⟨_,rfl,_,rfl,p,c,t2,l1,l2,l3,l42,ts2,J0,J1,J2,ds2,rfl,hp5,T5,m4,z3,fun t3 l33 l43 ts3 rooms3 f H6 T6 m6 pr hp6 ex6=>⟨_,rfl,?_⟩⟩;refine k t3 l33 l43 ts3 rooms3 _ H6 T6 m6 (fun r hr a ha=>?_) (by rw[pr.length_eq,ai]) (by rw[ai];omega) hp6 (((ex3.trans ex4).trans ex5).trans ex6);obtain⟨r0,hr0,rfl⟩:=ap.1 (pr.mem_iff.1 hr);exact(tk4 r0 hr0 a ha).ren
  ·exact⟨_,rfl,k t2 l3 l42 ts2 J2 ds2 H5 T5 m4 tk4 rfl (by omega) hp5 ((ex3.trans ex4).trans ex5)⟩
abbrev LP:=(List Str×List Str)×List Sg
section
variable(A B:List Str->Sg->List Str)
def cN(here:LP)(q:List LP×Option Sg)(sg:Sg):List LP×Option Sg :=
 match q.2 with
 |some _=>q
 |none=>if sg.head?≠some ("ask":Str)/\A here.1.1 sg=[]/\B here.1.2 sg≠[]then(q.1,some sg)
  else if A here.1.1 sg≠[]/\B here.1.2 sg≠[]/\¬(A here.1.1 sg,B here.1.2 sg)∈q.1.map (·.1)then(q.1++[((A here.1.1 sg,B here.1.2 sg),here.2++[sg])],none)else q
def qZ(here:LP)(L:List LP)(ss:List Sg):List LP×Option Sg:=ss.foldl (cN A B here) (L,none)
def cI(ss:List Sg)(k:List Str×List Str):Nat->List LP×Option (List Sg×Sg)
 |0=>([(k,[])],none)
 |n+1=>match (cI ss k n).2 with
  |some _=>cI ss k n
  |none=>match (cI ss k n).1[n]? with
   |none=>cI ss k n
   |some c=>((qZ A B c (cI ss k n).1 ss).1,(qZ A B c (cI ss k n).1 ss).2.map fun sg=>(c.2,sg))
end
abbrev I0(fm fi:List (List Str))(P:List bU)(L:List LP):Prop:=Paired (fun(c:bU) (x:LP)=>fm[c.key.1]?=some x.1.1/\fi[c.key.2]?=some x.1.2/\c.story=x.2) P L
theorem z5{l:List (List Str)}(nd:l.Nodup){i j:Nat}{r:Zb}(hi:l[i]?=some r)(hj:l[j]?=some r):i=j:=(List.getElem?_inj (bO.1 hi).1 nd).1 (hi.trans hj.symm)
theorem I0.has(h:I0 fm fi P L)(n1:fm.Nodup)(n2:fi.Nodup){w g:Nat}{a b:Zb}(hw:fm[w]?=some a)(hg:fi[g]?=some b):iW P (w,g)=true↔(a,b)∈L.map (·.1):=by
 rw[lP];constructor
 ·intro z;obtain⟨c,hc,e⟩:=ap.1 z;obtain⟨i,hi⟩:=eZ hc;obtain⟨x,hx,e1,e2,_⟩:=Paired.getL h hi;rw[e]at e1 e2;rw[hw]at e1;rw[hg]at e2;injection e1 with e1;injection e2 with e2;exact ap.2 ⟨x,aR hx,by rw[e1,e2]⟩
 ·intro z;obtain⟨x,hx,e⟩:=ap.1 z;obtain⟨i,hi⟩:=eZ hx;obtain⟨c,hc,e1,e2,_⟩:=Paired.get h hi;rw[e]at e1 e2;refine ap.2 ⟨c,aR hc,?_⟩;have:=z5 n1 e1 hw;have:=z5 n2 e2 hg;obtain⟨⟨u,v⟩,_,_⟩:=c
  simp_all
theorem DQ{fm:List (List Str)}{l:List (Sg×Nat)}(pr:Paired (fun(a:Sg×Nat) (p:Sg×List Str)=>a.1=p.1/\fm[a.2]?=some p.2) l (stepsF J0 J1 J2 ds f)){sg:Sg}(hs:sg∈av J0 J1):
  match bF l sg with|none=>behF J2 ds f sg=[] | some w=>behF J2 ds f sg≠[]/\fm[w]?=some (behF J2 ds f sg):=by
 cases e:bF l sg with
 |some w =>
  obtain⟨i,hi⟩:=eZ (zT e);obtain⟨p,hp,e1,e2⟩:=Paired.getL pr hi;have hp:=aR hp;obtain⟨s,_,e3⟩:=ap.1 (be.1 hp).1;have h3:=of_decide_eq_true (be.1 hp).2;rw[<-e3]at e1 e2 h3;have e1:sg=s:=e1;subst e1;exact⟨h3,e2⟩
 |none =>
  simp only;refine sI fun n=>?_;have hm:(sg,behF J2 ds f sg)∈stepsF J0 J1 J2 ds f:=be.2 ⟨ap.2 ⟨sg,hs,rfl⟩,zzr1 n⟩;obtain⟨i,hi⟩:=eZ hm;obtain⟨a,ha,e1,_⟩:=Paired.get pr hi;unfold bF at e;rw[Option.map_eq_none_iff,List.find?_eq_none]at e;exact e a (aR ha) (zzr1 e1)
section
variable{J0 J1 J2 rooms':Zb}{ds ds':List ao}{SM SI:uv}
theorem xx(nm:SM.1.fs.Nodup)(ni:SI.1.fs.Nodup){wl:List (Sg×Nat)}{c:bU}{x:LP}
  (pm:Paired (fun(a:Sg×Nat) (p:Sg×List Str)=>a.1=p.1/\SM.1.fs[a.2]?=some p.2) wl (stepsF J0 J1 J2 ds x.1.1)) (es:c.story=x.2) :
  ∀(ss:List Sg) (l:List (Sg×Nat)) (q:List bU×Option Sg) (q':List LP×Option Sg),(∀s∈ss,s∈av J0 J1) ->
   Paired (fun(a:Sg×Nat) (p:Sg×List Str)=>a.1=p.1/\SI.1.fs[a.2]?=some p.2) l ((ss.map fun s=>(s,behF rooms' ds' x.1.2 s)).filter fun p=>decide (p.2≠[]))->I0 SM.1.fs SI.1.fs q.1 q'.1->q.2=q'.2 ->
   I0 SM.1.fs SI.1.fs (l.foldl (eO wl c) q).1 (ss.foldl (cN (behF J2 ds) (behF rooms' ds') x) q').1/\(l.foldl (eO wl c) q).2=(ss.foldl (cN (behF J2 ds) (behF rooms' ds') x) q').2
 |[],l,q,q',_,pl,s1,s2=>by
  cases pl;exact⟨s1,s2⟩
 |s::ss,l,q,q',hs,pl,s1,s2=>by
  have hs':=fun y hy=>hs y (cT _ hy);have hs0:=hs s cb;rw[bb]at pl;rw[gP];by_cases c1:behF rooms' ds' x.1.2 s=[]
  ·rw[List.filter_cons_of_neg (by simp[c1])]at pl;have e:cN (behF J2 ds) (behF rooms' ds') x q' s=q':=by
    unfold cN;cases q'.2 with
    |some _=>rfl
    |none =>
     simp only;rw[if_neg (fun z=>z.2.2 c1),if_neg (fun z=>z.2.1 c1)]
   rw[e];exact xx nm ni pm es ss l q q' hs' pl s1 s2
  rw[List.filter_cons_of_pos (by simp[c1])]at pl;cases pl with
  |@cons a p l ps r t =>
  rw[gP];obtain⟨e1,e2⟩:=r;have e1:a.1=s:=e1;have e2:SI.1.fs[a.2]?=some (behF rooms' ds' x.1.2 s):=e2;refine xx nm ni pm es ss l _ _ hs' t ?_ ?_
  all_goals
   have lk:=DQ pm hs0;unfold eO cN;rw[<-s2,e1];cases q.2 with
   |some _=>first|exact s1|exact s2
   |none =>
    simp only;cases e3:bF wl s with
    |none =>
     rw[e3]at lk;simp only at lk ⊢;rw[if_neg (c:=behF J2 ds x.1.1 s≠[]/\_) (fun z=>z.1 lk)];by_cases ca:s.head?=some ("ask":Str)
     ·rw[if_pos ca,if_neg (fun z=>z.1 ca)];first|exact s1|exact s2
     ·rw[if_neg ca,if_pos ⟨ca,lk,c1⟩];try exact s1
    |some w =>
     rw[e3]at lk;simp only at lk ⊢;rw[if_neg (c:=s.head?≠_/\_) (fun z=>lk.1 z.2.1)];have hh:=I0.has s1 nm ni lk.2 e2;by_cases ch:iW q.1 (w,a.2)=true
     ·rw[if_pos ch,if_neg (fun z=>z.2.2 (hh.1 ch))];first|exact s1|exact s2
     ·rw[if_neg ch,if_pos ⟨lk.1,c1,fun z=>ch (hh.2 z)⟩];try exact cG s1 ⟨lk.2,e2,by show c.story++[s]=x.2++[s];rw[es]⟩
theorem ET(om:qI J0 J1 J2 ds SM)(oi:qI J0 J1 rooms' ds' SI)(lm:SM.2.length=SM.1.fs.length)(li:SI.2.length=SI.1.fs.length):
  ∀n,I0 SM.1.fs SI.1.fs (ic SI.2 SM.2 n).1 (cI (behF J2 ds) (behF rooms' ds') (av J0 J1) (closF J2 ds (J2.take 1),closF rooms' ds' (rooms'.take 1)) n).1/\(ic SI.2 SM.2 n).2=(cI (behF J2 ds) (behF rooms' ds') (av J0 J1) (closF J2 ds (J2.take 1),closF rooms' ds' (rooms'.take 1)) n).2
 |0=>⟨.cons ⟨om.zero,oi.zero,rfl⟩ .nil,rfl⟩
 |n+1=>by
  obtain⟨s1,s2⟩:=ET om oi lm li n;unfold ic cI;generalize ic SI.2 SM.2 n=q at s1 s2;generalize cI (behF J2 ds) (behF rooms' ds') (av J0 J1) (closF J2 ds (J2.take 1),closF rooms' ds' (rooms'.take 1)) n=q' at s1 s2;rw[<-s2];cases e:q.2 with
  |some y=>simp only;exact⟨s1,s2⟩
  |none =>
   simp only;cases e1:q.1[n]? with
   |none =>
    have e2:q'.1[n]?=none:=by
     rw[List.getElem?_eq_none_iff]at e1 ⊢;rw[<-Paired.length s1];exact e1
    rw[e2];exact⟨s1,s2⟩
   |some c =>
    obtain⟨x,hx,f1,f2,es⟩:=Paired.getL s1 e1;rw[hx];simp only;have row:∀{S:uv}{rs f:Zb}{es:List ao}{i:Nat},qI J0 J1 rs es S->S.2.length=S.1.fs.length->S.1.fs[i]?=some f->Paired (fun(a:Sg×Nat) (p:Sg×List Str)=>a.1=p.1/\S.1.fs[a.2]?=some p.2) (S.2.getD i []) (stepsF J0 J1 rs es f):=by
     intro S rs f es i ok le hf;have lt:i<S.2.length:=by rw[le];exact(bO.1 hf).1
     have hl:S.2[i]?=some S.2[i]:=aV lt;obtain⟨f',hf',pr⟩:=ok.st _ _ hl;rw[hf]at hf';injection hf' with hf';rw[gM,hl,hf'];exact pr
    have:=xx (rooms':=rooms') (ds':=ds') om.good.nd oi.good.nd (row om lm f1) es (av J0 J1) _ (q.1,none) (q'.1,none) (fun _ h=>h) (row oi li f2) s1 rfl;unfold cp qZ;rw[this.2,es];exact⟨this.1,rfl⟩
end
theorem vS{x:List Sg×Sg}(h:(ic ms ws n).2=some x):∀m,(ic ms ws (n+m)).2=some x
 |0=>h
 |m+1=>by
  have ih:=vS h m;show(match (ic ms ws (n+m)).2 with|some _=>_|none=>_:List bU×Option (List Sg×Sg)).2=_
  rw[ih];exact ih
theorem vR{P:List bU}(h:ic ms ws P.length=(P,none)):∀m,ic ms ws (P.length+m)=(P,none)
 |0=>h
 |m+1=>by
  have ih:=vR h m;rw[<-EE];unfold ic;rw[ih];simp only;rw[fx (Nat.le_add_right _ _)]
theorem zS{A:List Str->Sg->List Str}:∀n,(∀x∈(cI A B ss k n).1,x.2.length<=n)/\∀x,(cI A B ss k n).2=some x->x.1.length<=n
 |0=>⟨fun x hx=>by rw[bo.1 (show x∈[(k,([]:List Sg))]from hx)];exact aG _,fun x h=>nomatch h⟩
 |n+1=>by
  obtain⟨h1,h2⟩:=zS (A:=A) (B:=B) (ss:=ss) (k:=k) n;unfold cI;generalize cI A B ss k n=q at h1 h2;cases e:q.2 with
  |some y=>simp only;exact⟨fun x hx=>pI (h1 x hx),fun x h=>pI (h2 x h)⟩
  |none =>
   simp only;cases e1:q.1[n]? with
   |none=>simp only;exact⟨fun x hx=>pI (h1 x hx),fun x h=>pI (h2 x h)⟩
   |some c =>
    have hc:=h1 c (aR e1);simp only;refine⟨?_,fun x h=>?_⟩
    ·have:∀(l:List Sg) (r:List LP×Option Sg),(∀x∈r.1,x.2.length<=n+1)->∀x∈(l.foldl (cN A B c) r).1,x.2.length<=n+1:=by
      intro l
      induction l with
      |nil=>intro r h;exact h
      |cons s l ih =>
       intro r h;rw[gP];refine ih _ fun x hx=>?_;unfold cN at hx;cases er:r.2 with
       |some _=>rw[er]at hx;exact h x hx
       |none =>
        rw[er]at hx;simp only at hx;split at hx
        ·exact h x hx
        ·split at hx
         ·rcases aX.1 hx with hx|hx
          ·exact h x hx
          ·rw[bo.1 hx];show(c.2++[s]).length<=n+1;rw[az];simpa using hc
         ·exact h x hx
     exact this ss _ fun x hx=>pI (h1 x hx)
    ·obtain⟨sg,_,e2⟩:=kY.1 h;rw[<-e2];exact pI hc
theorem hW.part{K:Za}{H':Hp}(h:hW K C H x M fa sa na ta us ws m)(e:∀b o,H b=some o->(∀k,o=.dT k->b=na)->H' b=some o):hW K C H' x M fa sa na ta us ws m:=by
 have k:ii H H':=fun b xs q=>e _ _ q fun _ z=>nomatch z;obtain⟨⟨dx,fs,g,r⟩,h1,h2,h3,h4,h5,h6⟩:=h;refine⟨⟨dx,fs,e _ _ g fun _ z=>(nomatch z),r⟩,e _ _ h1 fun _ z=>(nomatch z),Paired.mapP h2 fun _ _ r=>k _ _ r,e _ _ h3 fun _ z=>(nomatch z),Paired.mapP h4 fun w s r=>⟨r.1,?_⟩,e _ _ h5 fun _ _=>rfl,h6⟩;obtain⟨gs,g1,g2⟩:=r.2;exact⟨gs,e _ _ g1 fun _ z=>(nomatch z),Paired.mapP g2 fun _ _ r=>bB.kt k r⟩
theorem Ir{sg:Sg}(h:sg∈av J0 J1):sg≠[]:=by
 unfold av at h;intro z;subst z;rcases aX.1 h with h|h
 ·rcases aX.1 h with h|h
  ·obtain⟨w,_,e⟩:=ap.1 h;cases e
  ·obtain⟨w,_,e⟩:=ap.1 h;cases e
 ·have:=bo.1 h;cases this
theorem qI.steps(ok:qI J0 J1 J2 ds S){i:Nat}{p:Sg×Nat}(hp:p∈S.2.getD i []):p.2<S.1.fs.length/\p.1≠[]:=by
 rw[gM]at hp;cases e:S.2[i]? with
 |none=>rw[e]at hp;cases hp
 |some l =>
  rw[e]at hp;obtain⟨f,_,pr⟩:=ok.st i l e;obtain⟨j,hj⟩:=eZ hp;obtain⟨q,hq,e1,e2⟩:=Paired.getL pr hj;obtain⟨s,hs,e3⟩:=ap.1 (be.1 (aR hq)).1;exact⟨(bO.1 e2).1,by rw[e1,<-e3];exact Ir hs⟩
theorem iF{st:List (List (Sg×Nat))}(h:pC H0 na H ts st):∀t∈ts,H0 t=none/\t≠na/\∃l,H t=some (.dT l):=fun t ht=>by
 obtain⟨i,hi⟩:=eZ ht;obtain⟨l,_,r⟩:=Paired.getL h hi;exact⟨r.1,r.2.1,_,r.2.2⟩
theorem Paired.mapM{α β:Type}{F G:α->β->Prop}:∀{as:List α}{bs:List β},Paired F as bs->(∀a b,a∈as->F a b->G a b)->Paired G as bs
 |_,_,.nil,_=>.nil
 |_,_,.cons r t,h=>.cons (h _ _ cb r) (Mum.Paired.mapM t fun a b ha=>h a b (cT _ ha))
abbrev HU:=List Str×List Str
section
variable{A B:List Str->Sg->List Str}
theorem vO{c:LP}{P:HU->Prop}(hp:∀sg,P (A c.1.1 sg,B c.1.2 sg)):∀(l:List Sg) (r:List LP×Option Sg),(∀x∈r.1,P x.1)->(∀x∈(l.foldl (cN A B c) r).1,P x.1)/\(l.foldl (cN A B c) r).1.length<=r.1.length+l.length/\∃w,(l.foldl (cN A B c) r).1=r.1++w
 |[],r,h=>⟨h,aG _,[],(gJ _).symm⟩
 |s::l,r,h=>by
  have key:(∀x∈(cN A B c r s).1,P x.1)/\(cN A B c r s).1.length<=r.1.length+1/\∃w,(cN A B c r s).1=r.1++w:=by
   unfold cN;cases er:r.2 with
   |some _=>simp only;exact⟨h,mS _,[],(gJ _).symm⟩
   |none =>
    simp only;split
    ·exact⟨h,mS _,[],(gJ _).symm⟩
    ·split
     ·refine⟨fun x hx=>?_,by rw[az];exact aG _,_,rfl⟩;rcases aX.1 hx with hx|hx
      ·exact h x hx
      ·rw[bo.1 hx];exact hp s
     ·exact⟨h,mS _,[],(gJ _).symm⟩
  obtain⟨k1,k2,w,k3⟩:=key;obtain⟨i1,i2,v,i3⟩:=vO hp l _ k1;rw[gP,cZ];exact⟨i1,by omega,w++v,by rw[i3,k3,cU]⟩
theorem q_:∀(l:List Sg) (q:List LP×Option Sg) (s:Sg),q.2=some s->(l.foldl (cN A B c) q).2=some s
 |[],_,_,h=>h
 |p::l,q,s,h=>by
  rw[gP];have e:cN A B c q p=q:=by unfold cN;rw[h]
  rw[e];exact q_ l q s h
theorem zR{L:List LP}{c:LP}(h:cI A B ss k n=(L,none))(hc:L[n]?=some c):cI A B ss k (n+1)=((qZ A B c L ss).1,(qZ A B c L ss).2.map fun sg=>(c.2,sg)):=by
 show(match (cI A B ss k n).2 with|some _=>_|none=>_)=_
 rw[h];simp only[hc]
theorem vQ{L:List LP}(h:cI A B ss k n=(L,none))(hc:L[n]?=none):cI A B ss k (n+1)=(L,none):=by
 show(match (cI A B ss k n).2 with|some _=>_|none=>_)=_
 rw[h];simp only[hc]
theorem qr{x:List Sg×Sg}(h:(cI A B ss k n).2=some x):∀m,(cI A B ss k (n+m)).2=some x
 |0=>h
 |m+1=>by
  have ih:=qr h m;show(match (cI A B ss k (n+m)).2 with|some _=>_|none=>_:List LP×Option (List Sg×Sg)).2=_
  rw[ih];exact ih
end
def Gf(s:List Sg)(g:Sg):DT:=.t [fK "fault",.s (s.map mN),mN g]
theorem Ef(s:List Sg)(g:Sg):(Gf s g).depth<=3:=by
 show max 0 (max (DT.depths (s.map mN)+1) (max (mN g).depth 0))+1<=3;have:=t9 s;rw[dJ];omega
theorem vp{K:Za}:∀{gs:Ze}{s:List Sg},Paired (fun g (sg:Sg)=>bB K H g (sg.map V.str)) gs s->DIns K H (s.map mN) (gs.map V.ref)
 |_,_,.nil=>by show DIns K H [] [];unfold DIns;rfl
 |_,_,.cons r t=>by
  rw[bb,bb];unfold DIns;exact⟨_,_,rfl,cy (bB.sq r),vp t⟩
theorem CZ{K:Za}{H:Hp}{u l b:Addr}{gs:Ze}{s:List Sg}{g:Sg}(hu:H u=some (.tup [.str "fault",.ref l,.ref b]))(hl:H l=some (.lst (gs.map V.ref)))(hg:Paired (fun g (sg:Sg)=>bB K H g (sg.map V.str)) gs s)(hb:bB K H b (g.map V.str)):hE K H (Gf s g) (.ref u):=by
 unfold Gf hE;refine⟨u,_,rfl,bD.of hu,?_⟩;unfold DIns;refine⟨_,_,rfl,lS _,?_⟩;unfold DIns;refine⟨_,_,rfl,?_,?_⟩
 ·unfold hE;exact⟨l,_,rfl,aA.of hl,vp hg⟩
 unfold DIns;refine⟨_,_,rfl,cy (bB.sq hb),?_⟩;unfold DIns
 rfl
def Dq(K:Za)(sp_law_signs:Sp):TS :=
 aq (aO (aS sp_law_signs (aB V0)) U2)
 (bq (aI qh (c_ (aB (dE (dh K) (aB V1)))) (eB 1 [2] (cx K V1) U0 (jH) (oI K "list" (ml K) V1 (aB V0)))))
def Ev:List Str:=["told","story","signs"]
theorem Bk:∀xs:List Int,HT.lexLt xs xs=false
 |[]=>rfl
 |x::xs=>by rw[HT.lexLt_cons,if_pos rfl];exact Bk xs
theorem zP:∀{xs ys zs:List Int},HT.lexLt xs ys=true->HT.lexLt ys zs=true->HT.lexLt xs zs=true
 |[],[],_,h,_=>by cases h
 |_::_,[],_,h,_=>by cases h
 |_,_::_,[],_,h=>by cases h
 |[],_::_,_::_,_,_=>rfl
 |x::xs,y::ys,z::zs,h,k=>by
  rw[HT.lexLt_cons]at h k ⊢;by_cases e1:x=y
  ·rw[if_pos e1]at h;by_cases e2:y=z
   ·rw[if_pos e2]at k;rw[if_pos (e1.trans e2)];exact zP h k
   ·rw[if_neg e2]at k;rw[if_neg (fun q=>e2 (e1.symm.trans q)),e1];exact k
  ·rw[if_neg e1]at h;have h':=of_decide_eq_true h;by_cases e2:y=z
   ·rw[if_neg (fun q=>e1 (q.trans e2.symm)),<-e2];exact h
   ·rw[if_neg e2]at k;have k':=of_decide_eq_true k;rw[if_neg (by omega)];exact zzr1 (by omega)
theorem FJ:∀{xs ys:List Int},HT.lexLt xs ys=false->HT.lexLt ys xs=false->xs=ys
 |[],[],_,_=>rfl
 |[],_::_,h,_=>by cases h
 |_::_,[],_,h=>by cases h
 |x::xs,y::ys,h,k=>by
  rw[HT.lexLt_cons]at h k;by_cases e:x=y
  ·rw[if_pos e]at h;rw[if_pos e.symm]at k;rw[e,FJ h k]
  ·rw[if_neg e]at h;rw[if_neg (fun q=>e q.symm)]at k;have:=of_decide_eq_false h;have:=of_decide_eq_false k;omega
theorem FK:∀{xs ys:List Int}{a b:Int},xs.length=ys.length->HT.lexLt xs ys=true->HT.lexLt (xs++[a]) (ys++[b])=true
 |[],[],_,_,_,h=>by cases h
 |[],_::_,_,_,e,_=>by cases e
 |_::_,[],_,_,e,_=>by cases e
 |x::xs,y::ys,a,b,e,h=>by
  rw[sM,sM];rw[HT.lexLt_cons]at h ⊢;by_cases q:x=y
  ·rw[if_pos q]at h ⊢;exact FK (by simpa using e) h
  ·rw[if_neg q]at h ⊢;exact h
theorem CT{a b:Int}:∀xs:List Int,HT.lexLt (xs++[a]) (xs++[b])=decide (a<b)
 |[]=>by
  show HT.lexLt [a] [b]=_;rw[HT.lexLt_cons];by_cases e:a=b
  ·rw[if_pos e,zzr0 (by omega)];rfl
  ·rw[if_neg e]
 |x::xs=>by rw[sM,sM,HT.lexLt_cons,if_pos rfl];exact CT xs
def FP(ss:List Sg)(s:List Sg):List Int:=s.map fun x=>((ss.idxOf x:Nat):Int)
def kS(ss:List Sg)(s:List Sg):List Int:=(s.length:Int)::FP ss s
def fo(ss:List Sg)(s t:List Sg):Prop:=HT.lexLt (kS ss s) (kS ss t)=true
section
variable{ss:List Sg}{s t u:List Sg}{a b:Sg}
theorem pc:fo ss s t↔s.length<t.length∨(s.length=t.length/\HT.lexLt (FP ss s) (FP ss t)=true):=by
 unfold fo kS;rw[HT.lexLt_cons];by_cases e:s.length=t.length
 ·rw[if_pos (by omega)];exact⟨fun h=>.inr ⟨e,h⟩,fun h=>h.elim (fun z=>by omega) fun z=>z.2⟩
 ·rw[if_neg (by omega),decide_eq_true_eq];exact⟨fun h=>.inl (by omega),fun h=>h.elim (fun z=>by omega) fun z=>absurd z.1 e⟩
theorem fo.irr:¬fo ss s s:=fun h=>by unfold fo at h;rw[Bk]at h;cases h
theorem fo.trans(h:fo ss s t)(k:fo ss t u):fo ss s u:=zP h k
theorem fo.asym(h:fo ss s t):¬fo ss t s:=fun k=>fo.irr (h.trans k)
theorem xP(h:¬fo ss s t)(k:¬fo ss t s):kS ss s=kS ss t:=FJ (by simpa[fo]using h) (by simpa[fo]using k)
theorem fo.of_le(h:¬fo ss t s)(k:fo ss t u):fo ss s u:=by
 by_cases c:fo ss s t
 ·exact c.trans k
 ·have:=xP c h;unfold fo at k ⊢;rw[this];exact k
theorem fo.le_of(h:fo ss s t)(k:¬fo ss u t):fo ss s u:=by
 by_cases c:fo ss t u
 ·exact h.trans c
 ·have:=xP c k;unfold fo at h ⊢;rw[<-this];exact h
theorem fo.app(h:fo ss s t):fo ss (s++[a]) (t++[b]):=by
 rw[pc]at h ⊢;rw[az,az];rcases h with h|⟨h1,h2⟩
 ·exact .inl (Nat.add_lt_add_right h _)
 ·refine .inr ⟨by rw[h1];rfl,?_⟩;unfold FP at h2 ⊢;rw[ay,ay];exact FK (by rw[ai,ai];exact h1) h2
theorem fo.last:fo ss (s++[a]) (s++[b])↔ss.idxOf a<ss.idxOf b:=by
 rw[pc,az,az];unfold FP;rw[ay,ay];show _∨(_/\HT.lexLt (_++[((ss.idxOf a:Nat):Int)]) (_++[((ss.idxOf b:Nat):Int)])=true)↔_;rw[CT,decide_eq_true_eq];exact⟨fun h=>h.elim (fun z=>by simp at z) fun z=>by omega,fun h=>.inr ⟨rfl,by omega⟩⟩
theorem leS.app(h:¬fo ss t s):¬fo ss (t++[a]) (s++[a]):=fun k=>by
 by_cases c:fo ss s t
 ·exact(c.app (a:=a) (b:=a)).asym k
 ·have e:=xP c h;unfold kS at e;injection e with e1 e2;rw[pc,az,az]at k;unfold FP at k e2;rw[ay,ay,e2]at k;rcases k with k|⟨_,k⟩
  ·simp only[nz]at k;omega
  ·rw[Bk]at k;cases k
theorem fo.short(h:s.length<t.length):fo ss s t:=pc.2 (.inl h)
theorem fo.len(h:fo ss s t):s.length<=t.length:=by
 rcases pc.1 h with h|h
 ·exact eo h
 ·exact Nat.le_of_eq h.1
end
abbrev Bu(g:Sg):Prop:=g.head?=some ("ask":Str)
section
variable(A B:List Str->Sg->List Str)(ss:List Sg)(k:HU)
def rA(x:HU)(g:Sg):Prop:=¬Bu g/\A x.1 g=[]/\B x.2 g≠[]
def qa(s:List Sg):HU:=(s.foldl A k.1,s.foldl B k.2)
def Flt(s:List Sg)(g:Sg):Prop:=(∀x∈s,x∈ss)/\g∈ss/\(qa A B k s).1≠[]/\rA A B (qa A B k s) g
structure Ap(n:Nat)(L:List LP):Prop where
 run:∀x∈L,qa A B k x.2=x.1/\x.1.1≠[]/\x.1.2≠[]/\∀y∈x.2,y∈ss
 zero:∃r,L=(k,[])::r
 sorted:∀(i j:Nat) (x y:LP),i<j->L[i]?=some x->L[j]?=some y->fo ss x.2 y.2
 from_:∀y∈L,y.2=[]∨∃(i:Nat) (x:LP) (sg:Sg),i<n/\L[i]?=some x/\y.2=x.2++[sg]
 clean:∀(i:Nat) (x:LP),i<n->L[i]?=some x->∀sg∈ss,¬rA A B x.1 sg
 shut:∀(i:Nat) (x:LP),i<n->L[i]?=some x->∀sg∈ss,A x.1.1 sg≠[]->B x.1.2 sg≠[]->∃y∈L,y.1=(A x.1.1 sg,B x.1.2 sg)/\¬fo ss (x.2++[sg]) y.2
end
section
variable{A B:List Str->Sg->List Str}{ss:List Sg}{k:HU}
theorem vC(s:List Sg)(g:Sg):qa A B k (s++[g])=(A (qa A B k s).1 g,B (qa A B k s).2 g):=by
 unfold qa;rw[j5,j5];rfl
structure ir(A B:List Str->Sg->List Str)(ss:List Sg)(k:HU)(n:Nat)(c:LP)(j:Nat)(L:List LP):Prop where
 run:∀x∈L,qa A B k x.2=x.1/\x.1.1≠[]/\x.1.2≠[]/\∀y∈x.2,y∈ss
 zero:∃r,L=(k,[])::r
 at_:L[n]?=some c
 sorted:∀(i j:Nat) (x y:LP),i<j->L[i]?=some x->L[j]?=some y->fo ss x.2 y.2
 from_:∀y∈L,y.2=[]∨(∃(i:Nat) (x:LP) (sg:Sg),i<n/\L[i]?=some x/\y.2=x.2++[sg])∨∃sg∈ss,ss.idxOf sg<j/\y.2=c.2++[sg]
 clean:∀(i:Nat) (x:LP),i<n->L[i]?=some x->∀sg∈ss,¬rA A B x.1 sg
 shut:∀(i:Nat) (x:LP),i<n->L[i]?=some x->∀sg∈ss,A x.1.1 sg≠[]->B x.1.2 sg≠[]->∃y∈L,y.1=(A x.1.1 sg,B x.1.2 sg)/\¬fo ss (x.2++[sg]) y.2
 clean1:∀sg∈ss,ss.idxOf sg<j->¬rA A B c.1 sg
 shut1:∀sg∈ss,ss.idxOf sg<j->A c.1.1 sg≠[]->B c.1.2 sg≠[]->∃y∈L,y.1=(A c.1.1 sg,B c.1.2 sg)/\¬fo ss (c.2++[sg]) y.2
theorem pd{j:Nat}{sg g:Sg}(hj:ss[j]?=some sg)(hg:g∈ss)(h:ss.idxOf g<j+1):ss.idxOf g<j∨g=sg:=by
 rcases d6 (ss.idxOf g) j with z|z
 ·exact .inl z
 ·have e:ss.idxOf g=j:=by omega
  have hl:ss.idxOf g<ss.length:=fM.2 hg;have:=kZ hl;rw[<-e,aV hl,this]at hj;injection hj with hj;exact .inr hj
theorem xS(nd:ss.Nodup){j:Nat}{sg:Sg}(hj:ss[j]?=some sg):ss.idxOf sg=j:=by
 obtain⟨hl,e⟩:=bO.1 hj;rw[<-e];exact nd.idxOf_getElem _ hl
theorem ir.skip(h:ir A B ss k n c j L){sg:Sg}(hj:ss[j]?=some sg)(nf:¬rA A B c.1 sg)(sh:A c.1.1 sg≠[]->B c.1.2 sg≠[]->∃y∈L,y.1=(A c.1.1 sg,B c.1.2 sg)/\¬fo ss (c.2++[sg]) y.2):ir A B ss k n c (j+1) L:=by
 refine{ h with from_:=fun y hy=>?_,clean1:=fun g hg hi=>?_,shut1:=fun g hg hi h1 h2=>?_ }
 ·rcases h.from_ y hy with e|e|⟨g,gm,hg,e⟩
  ·exact .inl e
  ·exact .inr (.inl e)
  ·exact .inr (.inr ⟨g,gm,by omega,e⟩)
 ·rcases pd hj hg hi with z|z
  ·exact h.clean1 g hg z
  ·rw[z];exact nf
 ·rcases pd hj hg hi with z|z
  ·exact h.shut1 g hg z h1 h2
  ·subst z;exact sh h1 h2
theorem ir.add(nd:ss.Nodup)(h:ir A B ss k n c j L){sg:Sg}(hj:ss[j]?=some sg)(ha:A c.1.1 sg≠[])(hb:B c.1.2 sg≠[]):ir A B ss k n c (j+1) (L++[((A c.1.1 sg,B c.1.2 sg),c.2++[sg])]):=by
 have hs:=aR hj;have ej:=xS nd hj;have hc:=aR h.at_;have lt:n<L.length:=(bO.1 h.at_).1;have up:∀{i:Nat}{x:LP},L[i]?=some x->(L++[((A c.1.1 sg,B c.1.2 sg),c.2++[sg])])[i]?=some x:=fun{i x} e=>by
  rw[c9 (bO.1 e).1];exact e
 have dn:∀{i:Nat}{x:LP},i<n->(L++[((A c.1.1 sg,B c.1.2 sg),c.2++[sg])])[i]?=some x->L[i]?=some x:=fun{i x} hi e=>by
  rw[c9 (by omega)]at e;exact e
 have less:∀y∈L,fo ss y.2 (c.2++[sg]):=fun y hy=>by
  rcases h.from_ y hy with e|⟨i,x,g,hi,hx,e⟩|⟨g,gm,hg,e⟩
  ·rw[e];exact fo.short (by rw[az];show 0<_+1;omega)
  ·rw[e];exact(h.sorted i n x c hi hx h.at_).app
  ·rw[e];exact fo.last.2 (by omega)
 obtain⟨r,er⟩:=h.zero;refine⟨fun x hx=>?_,⟨r++[((A c.1.1 sg,B c.1.2 sg),c.2++[sg])],by rw[er];rfl⟩,up h.at_,fun i j' x y hij hx hy=>?_,fun y hy=>?_,fun i x hi hx=>h.clean i x hi (dn hi hx),fun i x hi hx g hg h1 h2=>?_,fun g hg hi=>?_,fun g hg hi h1 h2=>?_⟩
 ·rcases aX.1 hx with hx|hx
  ·exact h.run x hx
  ·rw[bo.1 hx];obtain⟨q1,_,_,q4⟩:=h.run c hc;refine⟨by rw[vC,q1],ha,hb,fun y hy=>?_⟩;rcases aX.1 hy with hy|hy
   ·exact q4 y hy
   ·rw[bo.1 hy];exact hs
 ·rcases d6 j' L.length with z|z
  ·rw[c9 (by omega)]at hx;rw[c9 z]at hy;exact h.sorted i j' x y hij hx hy
  ·have hj:j'<L.length+1:=by
    have:=(bO.1 hy).1;rw[az]at this;exact this
   have e:j'=L.length:=by omega
   subst e;rw[c9 hij]at hx;rw[lB (aG _),Nat.sub_self]at hy;injection hy with hy;subst hy;exact less x (aR hx)
 ·rcases aX.1 hy with hy|hy
  ·rcases h.from_ y hy with e|⟨i,x,g,hi,hx,e⟩|⟨g,gm,hg,e⟩
   ·exact .inl e
   ·exact .inr (.inl ⟨i,x,g,hi,up hx,e⟩)
   ·exact .inr (.inr ⟨g,gm,by omega,e⟩)
  ·rw[bo.1 hy];exact .inr (.inr ⟨sg,hs,by omega,rfl⟩)
 ·obtain⟨y,hy,e⟩:=h.shut i x hi (dn hi hx) g hg h1 h2;exact⟨y,cB _ hy,e⟩
 ·rcases pd hj hg hi with z|z
  ·exact h.clean1 g hg z
  ·rw[z];exact fun q=>ha q.2.1
 ·rcases pd hj hg hi with z|z
  ·obtain⟨y,hy,e⟩:=h.shut1 g hg z h1 h2;exact⟨y,cB _ hy,e⟩
  ·subst z;exact⟨_,cS _ (bo.2 rfl),rfl,fo.irr⟩
theorem ir.next(nd:ss.Nodup)(h:ir A B ss k n c j L){sg:Sg}(hj:ss[j]?=some sg):
  (rA A B c.1 sg/\(cN A B c (L,none) sg).2=some sg)∨((cN A B c (L,none) sg).2=none/\ir A B ss k n c (j+1) (cN A B c (L,none) sg).1):=by
 have e:cN A B c (L,none) sg=if ¬Bu sg/\A c.1.1 sg=[]/\B c.1.2 sg≠[]then(L,some sg)else if A c.1.1 sg≠[]/\B c.1.2 sg≠[]/\¬(A c.1.1 sg,B c.1.2 sg)∈L.map (·.1)then(L++[((A c.1.1 sg,B c.1.2 sg),c.2++[sg])],none)else(L,none):=rfl
 by_cases c1:¬Bu sg/\A c.1.1 sg=[]/\B c.1.2 sg≠[]
 ·rw[e,if_pos c1];exact .inl ⟨c1,rfl⟩
 rw[e,if_neg c1];by_cases c2:A c.1.1 sg≠[]/\B c.1.2 sg≠[]/\¬(A c.1.1 sg,B c.1.2 sg)∈L.map (·.1)
 ·rw[if_pos c2];exact .inr ⟨rfl,h.add nd hj c2.1 c2.2.1⟩
 ·rw[if_neg c2];refine .inr ⟨rfl,h.skip hj c1 fun h1 h2=>?_⟩;have hm:(A c.1.1 sg,B c.1.2 sg)∈L.map (·.1):=sI fun z=>c2 ⟨h1,h2,z⟩;obtain⟨y,hy,ey⟩:=ap.1 hm;refine⟨y,hy,ey,?_⟩;rcases h.from_ y hy with e|⟨i,x,g,hi,hx,e⟩|⟨g,gm,hg,e⟩
  ·rw[e];exact fun z=>by have:=z.len;rw[az]at this;simp at this
  ·rw[e];exact((h.sorted i n x c hi hx h.at_).app).asym
  ·rw[e];exact(fo.last.2 (by rw[xS nd hj];exact hg)).asym
theorem ir.row(nd:ss.Nodup):∀(m j:Nat) {L:List LP},ss.length-j=m->ir A B ss k n c j L ->
  (∃g∈ss,rA A B c.1 g/\(∀g'∈ss,ss.idxOf g'<ss.idxOf g->¬rA A B c.1 g')/\((ss.drop j).foldl (cN A B c) (L,none)).2=some g)∨(((ss.drop j).foldl (cN A B c) (L,none)).2=none/\ir A B ss k n c ss.length ((ss.drop j).foldl (cN A B c) (L,none)).1)
 |0,j,L,hm,h=>by
  rw[List.drop_eq_nil_of_le (by omega)];refine .inr ⟨rfl,{ h with from_:=fun y hy=>?_,clean1:=fun g hg _=>h.clean1 g hg ?_,shut1:=fun g hg _=>h.shut1 g hg ?_ }⟩
  ·rcases h.from_ y hy with e|e|⟨g,gm,hg,e⟩
   ·exact .inl e
   ·exact .inr (.inl e)
   ·exact .inr (.inr ⟨g,gm,fM.2 gm,e⟩)
  ·have:=fM.2 hg;omega
  ·have:=fM.2 hg;omega
 |m+1,j,L,hm,h=>by
  have hl:j<ss.length:=by omega
  have hj:ss[j]?=some ss[j]:=aV hl;rw[sF hl,gP];rcases h.next nd hj with⟨f,e⟩|⟨e,h'⟩
  ·refine .inl ⟨ss[j],eI hl,f,fun g' hg' lt=>?_,q_ _ _ _ e⟩;rw[xS nd hj]at lt;exact h.clean1 g' hg' lt
  ·have e2:cN A B c (L,none) ss[j]=((cN A B c (L,none) ss[j]).1,none):=Prod.ext rfl e;rw[e2];exact ir.row nd m (j+1) (by omega) h'
end
section
variable{A B:List Str->Sg->List Str}{ss:List Sg}{k:HU}
theorem Ap.row0{c:LP}(h:Ap A B ss k n L)(hc:L[n]?=some c):ir A B ss k n c 0 L :=
 ⟨h.run,h.zero,hc,h.sorted,fun y hy=>(h.from_ y hy).imp id .inl,h.clean,h.shut,fun g _ z=>by omega,fun g _ z=>by omega⟩
theorem DP{n:Nat}(h:(cI A B ss k (n+1)).2=none):(cI A B ss k n).2=none:=by
 cases e:(cI A B ss k n).2 with
 |none=>rfl
 |some x=>rw[qr e 1]at h;cases h
theorem Gx(nd:ss.Nodup)(h1:k.1≠[])(h2:k.2≠[]):∀n,(cI A B ss k n).2=none->Ap A B ss k n (cI A B ss k n).1
 |0,_=>by
  have one:∀{i:Nat}{x:LP},[((k,[]):LP)][i]?=some x->i=0/\x=(k,[]):=fun{i x} e=>by
   have:=(bO.1 e).1;have e0:i=0:=by simpa using this
   subst e0;injection e with e;exact⟨rfl,e.symm⟩
  refine⟨fun x hx=>?_,⟨[],rfl⟩,fun i j x y hij hx hy=>?_,fun y hy=>?_,fun i x hi=>by omega,fun i x hi=>by omega⟩
  ·rw[bo.1 hx];exact⟨rfl,h1,h2,fun y hy=>nomatch hy⟩
  ·have:=(one hx).1;have:=(one hy).1;omega
  ·rw[bo.1 hy];exact .inl rfl
 |n+1,e=>by
  have e0:=DP e;have ih:=Gx nd h1 h2 n e0;have ep:cI A B ss k n=((cI A B ss k n).1,none):=Prod.ext rfl e0;cases hc:(cI A B ss k n).1[n]? with
  |none =>
   rw[vQ ep hc];have no:∀{i:Nat}{x:LP},i<n+1->(cI A B ss k n).1[i]?=some x->i<n:=fun{i x} hi hx=>by
    rcases d6 i n with z|z
    ·exact z
    ·have:i=n:=by omega
     rw[this,hc]at hx;cases hx
   exact{ ih with from_:=fun y hy=>(ih.from_ y hy).imp id fun⟨i,x,g,hi,hx,e⟩=>⟨i,x,g,by omega,hx,e⟩,clean:=fun i x hi hx=>ih.clean i x (no hi hx) hx,shut:=fun i x hi hx=>ih.shut i x (no hi hx) hx }
  |some c =>
   have er:=zR ep hc;rcases ir.row nd _ 0 rfl (ih.row0 hc)with⟨g,_,_,_,f⟩|⟨f,R⟩
   ·rw[er]at e;unfold qZ at e;rw[jn]at f;rw[f]at e;cases e
   ·rw[jn]at R;rw[er];show Ap A B ss k (n+1) (qZ A B c (cI A B ss k n).1 ss).1;unfold qZ;generalize ss.foldl (cN A B c) ((cI A B ss k n).1,none)=q at R;have at_:∀{i:Nat}{x:LP},i<n+1->q.1[i]?=some x->i<n∨x=c:=fun{i x} hi hx=>by
     rcases d6 i n with z|z
     ·exact .inl z
     ·have:i=n:=by omega
      rw[this,R.at_]at hx;injection hx with hx;exact .inr hx.symm
    refine⟨R.run,R.zero,R.sorted,fun y hy=>?_,fun i x hi hx g hg=>?_,fun i x hi hx g hg=>?_⟩
    ·rcases R.from_ y hy with e|⟨i,x,g,hi,hx,e⟩|⟨g,_,_,e⟩
     ·exact .inl e
     ·exact .inr ⟨i,x,g,by omega,hx,e⟩
     ·exact .inr ⟨n,c,g,by omega,R.at_,e⟩
    ·rcases at_ hi hx with z|rfl
     ·exact R.clean i x z hx g hg
     ·exact R.clean1 g hg (fM.2 hg)
    ·rcases at_ hi hx with z|rfl
     ·exact R.shut i x z hx g hg
     ·exact R.shut1 g hg (fM.2 hg)
theorem Ap.reach{m:Nat}(h:Ap A B ss k n L)(hA:∀g,A [] g=[])(hB:∀g,B [] g=[])(hm:∀(i:Nat) (y:LP),L[i]?=some y->y.2.length<m->i<n):∀(l:Nat) (s:List Sg),s.length=l->l<=m->(∀x∈s,x∈ss)->(qa A B k s).1≠[]->(qa A B k s).2≠[]->∃y∈L,y.1=qa A B k s/\¬fo ss s y.2
 |0,s,e,_,_,_,_=>by
  rw[List.eq_nil_of_length_eq_zero e];obtain⟨r,er⟩:=h.zero;exact⟨(k,[]),by rw[er];exact cb,rfl,fo.irr⟩
 |l+1,s,e,hl,hs,h1,h2=>by
  obtain⟨t,g,rfl⟩:∃t g,s=t++[g]:=⟨s.dropLast,s.getLast (fun z=>by rw[z]at e;cases e),(List.dropLast_concat_getLast _).symm⟩;rw[vC]at h1 h2 ⊢;rw[az]at e;have et:t.length=l:=by simpa using e
  obtain⟨y,hy,e1,e2⟩:=Ap.reach h hA hB hm l t et (by omega) (fun x hx=>hs x (cB _ hx)) (fun z=>h1 (by show A (qa A B k t).1 g=[];rw[z];exact hA g)) (fun z=>h2 (by show B (qa A B k t).2 g=[];rw[z];exact hB g));obtain⟨i,hi⟩:=eZ hy;have yl:y.2.length<=t.length:=by
   rcases d6 t.length y.2.length with z|z
   ·exact absurd (fo.short z) e2
   ·exact z
  rw[<-e1]at h1 h2 ⊢;obtain⟨z,hz,e3,e4⟩:=h.shut i y (hm i y hi (by omega)) hi g (hs g (cS _ cb)) h1 h2;exact⟨z,hz,e3,fun q=>leS.app e2 (q.le_of e4)⟩
theorem zQ:∀{N:Nat}{x:List Sg×Sg},(cI A B ss k N).2=some x->∃(n:Nat) (c:LP) (L:List LP),cI A B ss k n=(L,none)/\L[n]?=some c/\c.2=x.1/\(ss.foldl (cN A B c) (L,none)).2=some x.2
 |0,x,h=>by cases h
 |N+1,x,h=>by
  cases e:(cI A B ss k N).2 with
  |some y =>
   have:=qr e 1;rw[h]at this;injection this with this;rw[this];exact zQ e
  |none =>
   have ep:cI A B ss k N=((cI A B ss k N).1,none):=Prod.ext rfl e;cases hc:(cI A B ss k N).1[N]? with
   |none=>rw[vQ ep hc]at h;cases h
   |some c =>
    rw[zR ep hc]at h;obtain⟨g,hg,eg⟩:=kY.1 h;exact⟨N,c,_,ep,hc,by rw[<-eg],by rw[<-eg];exact hg⟩
theorem Bo(nd:ss.Nodup)(h1:k.1≠[])(h2:k.2≠[])(hA:∀g,A [] g=[])(hB:∀g,B [] g=[]){s:List Sg}{g:Sg}(h:(cI A B ss k N).2=some (s,g)):Flt A B ss k s g/\∀s' g',Flt A B ss k s' g'->¬fo ss (s'++[g']) (s++[g]):=by
 obtain⟨n,c,L,ep,hc,es,ef⟩:=zQ h;have es:c.2=s:=es;subst es;have bf:Ap A B ss k n L:=by
  have:=Gx (A:=A) (B:=B) (ss:=ss) (k:=k) nd h1 h2 n (by rw[ep]);rw[ep]at this;exact this
 have hcm:=aR hc;obtain⟨q1,q2,q3,q4⟩:=bf.run c hcm;rcases ir.row nd _ 0 rfl (bf.row0 hc)with⟨g0,hg0,f0,pre,e0⟩|⟨e0,_⟩;rotate_left
 ·rw[jn,ef]at e0;cases e0
 rw[jn,ef]at e0;injection e0 with e0;have e0:g=g0:=e0;subst e0;refine⟨⟨q4,hg0,by rw[q1];exact q2,by rw[q1];exact f0⟩,fun s' g' hf lt=>?_⟩;obtain⟨a1,a2,a3,a4⟩:=hf;have hm:∀(i:Nat) (y:LP),L[i]?=some y->y.2.length<c.2.length->i<n:=fun i y hi hl=>by
  rcases wj i n with z|z|z
  ·exact z
  ·rw[z,hc]at hi;injection hi with hi;rw[hi]at hl;omega
  ·exact absurd (fo.short hl) (bf.sorted n i c y z hc hi).asym
 have hl:s'.length<=c.2.length:=by
  have:=lt.len;rw[az,az]at this;simpa using this
 obtain⟨y,hy,e1,e2⟩:=bf.reach hA hB hm _ s' rfl hl a1 a3 (fun z=>a4.2.2 (by rw[z];exact hB g'));obtain⟨i,hi⟩:=eZ hy;rw[<-e1]at a4;have ylt:fo ss (y.2++[g']) (c.2++[g]):=(leS.app e2 |> fun q=>fo.of_le q lt);rcases wj i n with z|z|z
 ·exact bf.clean i y z hi g' a2 a4
 ·rw[z,hc]at hi;injection hi with hi;subst hi;exact pre g' a2 (fo.last.1 ylt) a4
 ·exact(bf.sorted n i c y z hc hi).app.asym ylt
theorem Bp(nd:ss.Nodup)(h1:k.1≠[])(h2:k.2≠[])(hA:∀g,A [] g=[])(hB:∀g,B [] g=[])(h:(cI A B ss k N).2=none)(hl:(cI A B ss k N).1.length<=N)(s:List Sg)(g:Sg):¬Flt A B ss k s g:=fun⟨a1,a2,a3,a4⟩=>by
 have bf:=Gx nd h1 h2 N h;obtain⟨y,hy,e1,_⟩:=bf.reach (m:=s.length) hA hB (fun i y hi _=>by have:=(bO.1 hi).1;omega) _ s rfl (aG _) a1 a3 (fun z=>a4.2.2 (by rw[z];exact hB g));obtain⟨i,hi⟩:=eZ hy;rw[<-e1]at a4;exact bf.clean i y (by have:=(bO.1 hi).1;omega) hi g a2 a4
end
theorem pA:behF J2 ds [] sg=[]:=by
 classical
 unfold behF;split
 ·rfl
 ·unfold closF;rw[List.filter_eq_nil_iff];rintro r _ z;obtain⟨g,hg,_⟩:=of_decide_eq_true z;exact nomatch hg
theorem pq(m:aD J0 J1 J2 ds):closF J2 ds (J2.take 1)≠[]:=by
 classical
 cases e:J2 with
 |nil=>exact absurd e m.rooms0
 |cons r rs =>
  intro z;have:r∈closF (r::rs) ds ((r::rs).take 1):=by
   unfold closF;exact be.2 ⟨cb,zzr1 ⟨r,cb,.inl rfl⟩⟩
  rw[z]at this;exact nomatch this
theorem vP{A:List Str->Sg->List Str}:∀(l:List Sg) (r:List LP×Option Sg),(r.1.map (·.1)).Nodup->((l.foldl (cN A B c) r).1.map (·.1)).Nodup
 |[],_,h=>h
 |s::l,r,h=>by
  rw[gP];refine vP l _ ?_;unfold cN;cases er:r.2 with
  |some _=>exact h
  |none =>
   simp only;split
   ·exact h
   ·split
    ·rename_i q;rw[ay,cA];exact⟨h,by simp,fun a ha b hb e=>by subst e;have hb:a=(A c.1.1 s,B c.1.2 s):=bo.1 hb;subst hb;exact q.2.2 ha⟩
    ·exact h
theorem IH{k:HU}(h1:kz J2 k.1)(h2:kz rooms' k.2){a b:Nat}(z1:J2.length<=a)(z2:rooms'.length<=b)(n:Nat):(cI (behF J2 ds) (behF rooms' ds') ss k n).1.length<=2 ^ a * 2 ^ b:=by
 have key:∀n,((cI (behF J2 ds) (behF rooms' ds') ss k n).1.map (·.1)).Nodup/\∀x∈(cI (behF J2 ds) (behF rooms' ds') ss k n).1,kz J2 x.1.1/\kz rooms' x.1.2:=by
  intro n
  induction n with
  |zero=>exact⟨by show([k]:List HU).Nodup;simp,fun x hx=>by rw[bo.1 (show x∈[(k,([]:List Sg))]from hx)];exact⟨h1,h2⟩⟩
  |succ n ih =>
   unfold cI;generalize cI (behF J2 ds) (behF rooms' ds') ss k n=q at ih;cases q.2 with
   |some y=>exact ih
   |none =>
    simp only;cases e1:q.1[n]? with
    |none=>exact ih
    |some c =>
     have hc:=ih.2 c (aR e1);exact⟨vP ss (q.1,none) ih.1,(vO (P:=fun k=>kz J2 k.1/\kz rooms' k.2) (fun sg=>⟨xR hc.1,xR hc.2⟩) ss (q.1,none) ih.2).1⟩
 obtain⟨q1,q2⟩:=key n;have h:=gV q1 (R:=(jK J2).flatMap fun f=>(jK rooms').map fun g=>(f,g)) fun x hx=>by
  obtain⟨y,hy,rfl⟩:=ap.1 hx;obtain⟨⟨p,ep⟩,⟨p',ep'⟩⟩:=q2 y hy;exact k4.2 ⟨y.1.1,by rw[ep];exact jI p J2,ap.2 ⟨y.1.2,by rw[ep'];exact jI p' rooms',rfl⟩⟩
 have len:∀l:List (List Str),(l.flatMap fun f=>(jK rooms').map fun g=>(f,g)).length=l.length * 2 ^ rooms'.length:=by
  intro l
  induction l with
  |nil=>simp
  |cons x l ih=>rw[pJ,az,ih,ai,jJ,cZ,su];omega
 rw[ai,len,jJ]at h;exact bL h (jk (wf (by decide) z1) (wf (by decide) z2))
abbrev yy(J0 J1 J2 rooms':Zb)(ds ds':List ao):List Sg->Sg->Prop:=Flt (behF J2 ds) (behF rooms' ds') (av J0 J1) (closF J2 ds (J2.take 1),closF rooms' ds' (rooms'.take 1))
abbrev BK(K:Za)(H:Hp)(gs:Ze)(s:List Sg):Prop:=Paired (fun g (sg:Sg)=>bB K H g (sg.map V.str)) gs s
theorem BK.same{K:Za}{gs:Ze}(S:ac H H')(h:BK K H gs s):BK K H' gs s:=Paired.mapP h fun _ _ r=>bB.kt (ac.kt S) r
inductive xv(K:Za)(vs:List V)(H:Hp)(Q:VK)(E:XK):Prop
 |mk (t st l1 l2 l3 l4:Addr) (ts gs:Ze) (J0 J1 J2:Zb) (ds:List ao) (s:List Sg):(vs=[.ref t,.ref st])->(iB H t l1 l2 l3 l4 ts J0 J1 J2 ds)->(aD J0 J1 J2 ds)->(H st=some (.lst (gs.map V.ref)))->(BK K H gs s)->((∀x∈s,x∈av J0 J1))->(s.length<=2000)->(∀(l:Addr) (H':Hp),H' l=some (.lst ((kS (av J0 J1) s).map V.int))->ac H H'->Q (.ref l) H')->xv K vs H Q E
theorem Iw{K:Za}(h:xv K vs H Q E):Dq K oJ (bH Q) (start Ev vs) H:=by
 obtain⟨t,st,l1,l2,l3,l4,ts,gs,J0,J1,J2,ds,s,rfl,T,m,hst,hg,hs,zl,k⟩:=h;have zs:(av J0 J1).length<=9:=by
  unfold av;have:=m.asks4;have:=m.says4;simp only[az,ai,nz];omega
 refine⟨_,rfl,t,l1,l2,l3,l4,ts,J0,J1,J2,ds,rfl,T,m,fun sl us H1 hsl hus _ S1=>?_⟩;have st1:=S1 _ _ hst;refine⟨_,rfl,.inl ⟨st,_,rfl,.inl (aA.of st1),(by show 1<=aj;decide),fun p hp=>?_⟩⟩;have S2:ac H1 (upd H1 p (.lst [.int ((gs.map V.ref).length:Nat)])):=ac.new hp;have p2:upd H1 p (.lst [.int ((gs.map V.ref).length:Nat)]) p=some (.lst [.int ((gs.map V.ref).length:Nat)]):=aa;generalize upd H1 p (.lst [.int ((gs.map V.ref).length:Nat)])=H2 at S2 p2 ⊢;have S12:=S1.trans S2;refine⟨_,rfl,st,rfl,⟨_,aA.of (S12 _ _ hst)⟩,fun l hl=>?_⟩;refine cX (xs:=gs.map V.ref) (fun i vs H'=>vs=(FP (av J0 J1) (s.take i)).map V.int/\ac H2 H'/\H' l=some (.lst vs)) ⟨rfl,ac.new hl,aa⟩ (fun i vs H' _ ⟨_,S,h'⟩=>⟨h',aA.of (S _ _ (S12 _ _ hst))⟩) ?_ ?_
 ·rintro vs H' ⟨rfl,S,h'⟩;rw[ai,Paired.length hg,bt]at h';refine⟨p,l,_,_,rfl,rfl,S _ _ p2,h',?_,fun q hq=>k q _ ?_ ((S12.trans S).trans (ac.new hq))⟩
  ·simp only[FP,ai,nz];rw[kM];omega
  ·rw[aa];unfold kS;rw[ai,Paired.length hg];rfl
 ·rintro i vs H' y hy hi ⟨rfl,S,h'⟩;obtain⟨g,hg',rfl⟩:=dW hy;obtain⟨sg,hsg,hat⟩:=Paired.getL hg hg';refine gN (rC ?_);have hm:=hs sg (aR hsg);have hx:=fM.2 hm;have sl':=S _ _ (S2 _ _ hsl);have nod:=eP m;refine⟨_,rfl,.inl ⟨rfl,_,aA.of sl'⟩,_,rfl,sl,_,_,mN sg,(av J0 J1).map mN,(av J0 J1).idxOf sg,rfl,rfl,sl',(hus.kt (ac.kt (S2.trans S))).dIns,cy (bB.sq (bB.kt (ac.kt (S12.trans S)) hat)),by rw[dJ];decide,bL (t9 _) (by decide),by rw[ai,Paired.length hus];omega,?_,fun m' lt z=>?_,h',?_,uB hi ⟨?_,fun b o e=>by rw[ag (ae e hl)];exact S _ _ e,aa⟩⟩
  ·rw[bw,aV hx,kZ hx];rfl
  ·rw[bw]at z;obtain⟨w,hw,e⟩:=kY.1 z;have e:w=sg:=xX e;subst e;have:=xS nod hw;omega
  ·unfold FP;rw[ai,ai,aM,kM];omega
  ·unfold FP;rw[take_snoc hsg,ay,ay];rfl
def ig(K:Za)(J0 J1:Zb)(H:Hp)(u:Addr):Option (List Sg×Sg)->Prop
 |none=>∃l ps,H u=some (.tup [.str "keeps",.ref l])/\H l=some (.lst (ps:List V))
 |some x=>∃l b gs,H u=some (.tup [.str "fault",.ref l,.ref b])/\H l=some (.lst (gs.map V.ref))/\BK K H gs x.1/\bB K H b (x.2.map V.str)/\(∀y∈x.1++[x.2],y∈av J0 J1)/\x.1.length<=1100
theorem ig.same{K:Za}(S:ac H H'):∀{o:Option (List Sg×Sg)},ig K J0 J1 H u o->ig K J0 J1 H' u o
 |none,⟨l,ps,h1,h2⟩=>⟨l,ps,S _ _ h1,S _ _ h2⟩
 |some x,⟨l,b,gs,h1,h2,h3,h4,h5⟩=>⟨l,b,gs,S _ _ h1,S _ _ h2,BK.same S h3,bB.kt (ac.kt S) h4,h5⟩
def Hv(ss:List Sg):Option (List Sg×Sg)->List Int
 |none=>[]
 |some x=>kS ss (x.1++[x.2])
open Classical in
structure BM(D d:List ao)(f:Str->Str)(r names:Zb):Prop where
 inj:∀a∈r,∀b∈r,f a=f b->a=b
 ends:∀x∈d,x.a∈r/\x.b∈r
 door:∀a∈r,∀(sg:Sg) (y:Str),(⟨f a,sg,y⟩:ao)∈D↔∃b,(⟨a,sg,b⟩:ao)∈d/\y=f b
 mem:∀a∈r,f a∈names
theorem Reach.head{ds:List ao}{a b:Str}(e:(⟨a,am,b⟩:ao)∈ds)(h:Reach ds b c):Reach ds a c:=by
 induction h with
 |one e2=>exact .step (.one e) e2
 |step _ e2 ih=>exact .step ih e2
section
variable{D d:List ao}{f:Str->Str}{r names:Zb}(P:BM D d f r names)
include P
theorem BM.reach{a:Str}(ha:a∈r):Reach D (f a) y↔∃b∈r,y=f b/\Reach d a b:=by
 constructor
 ·intro h
  induction h with
  |one e =>
   obtain⟨b,hb,e⟩:=(P.door a ha _ _).1 e;exact⟨b,(P.ends _ hb).2,e,.one hb⟩
  |step _ e ih =>
   obtain⟨b,hb,e1,h1⟩:=ih;subst e1;obtain⟨c,hc,e⟩:=(P.door b hb _ _).1 e;exact⟨c,(P.ends _ hc).2,e,.step h1 hc⟩
 ·rintro⟨b,_,rfl,h⟩
  induction h with
  |one e=>exact .one ((P.door a ha _ _).2 ⟨_,e,rfl⟩)
  |step h1 e ih=>exact .step (ih (P.ends _ e).1) ((P.door _ (P.ends _ e).1 _ _).2 ⟨_,e,rfl⟩)
theorem BM.loud{a:Str}(ha:a∈r):f a∈kj D↔a∈kj d:=by
 unfold kj;constructor
 ·intro h;obtain⟨x,hx,e⟩:=ap.1 h;obtain⟨h1,h2⟩:=be.1 hx;obtain⟨xa,sg,xb⟩:=x;have e:xa=f a:=e;subst e;obtain⟨b,hb,e⟩:=(P.door a ha _ _).1 h1;exact ap.2 ⟨⟨a,sg,b⟩,be.2 ⟨hb,h2⟩,rfl⟩
 ·intro h;obtain⟨x,hx,e⟩:=ap.1 h;obtain⟨h1,h2⟩:=be.1 hx;obtain⟨xa,sg,xb⟩:=x;have e:xa=a:=e;subst e;exact ap.2 ⟨⟨f xa,sg,f xb⟩,be.2 ⟨(P.door xa ha _ _).2 ⟨xb,h1,rfl⟩,h2⟩,rfl⟩
theorem BM.from_{gs:Zb}(hg:∀g∈gs,g∈r){y:Str}:(∃g∈gs,y=f g∨Reach D (f g) y)↔∃b∈r,y=f b/\gl d gs b:=by
 constructor
 ·rintro⟨g,hgs,e|h⟩
  ·exact⟨g,hg g hgs,e,g,hgs,.inl rfl⟩
  ·obtain⟨b,hb,e,h⟩:=(P.reach (hg g hgs)).1 h;exact⟨b,hb,e,g,hgs,.inr h⟩
 ·rintro⟨b,hb,rfl,g,hgs,e|h⟩
  ·exact⟨g,hgs,.inl (by rw[e])⟩
  ·exact⟨g,hgs,.inr ((P.reach (hg g hgs)).2 ⟨b,hb,rfl,h⟩)⟩
end
structure yB(D d1 d2:List ao)(f1 f2:Str->Str)(r1 r2 names:Zb)(z:Str):Prop where
 p1:BM D d1 f1 r1 names
 p2:BM D d2 f2 r2 names
 dz:∀(sg:Sg) (y:Str),(⟨z,sg,y⟩:ao)∈D↔sg=am/\((∃a,r1[0]?=some a/\y=f1 a)∨∃a,r2[0]?=some a/\y=f2 a)
 zn:z∈names
 a1:∃a,r1[0]?=some a
 a2:∃a,r2[0]?=some a
def JA(f1 f2:Str->Str)(F1 F2:Zb)(y:Str):Prop:=(∃a∈F1,y=f1 a)∨∃a∈F2,y=f2 a
section
variable{D d1 d2:List ao}{f1 f2:Str->Str}{r1 r2 names:Zb}{z:Str}(B:yB D d1 d2 f1 f2 r1 r2 names z)
include B
open Classical in
theorem yB.beh{F:Zb}{zin:Prop}(hF:∀y,y∈F↔(zin/\y=z)∨JA f1 f2 F1 F2 y)(h1:∀a∈F1,a∈r1)(h2:∀a∈F2,a∈r2){sg:Sg}(ns:sg≠am)(y:Str):y∈behF names D F sg↔JA f1 f2 (behF r1 d1 F1 sg) (behF r2 d2 F2 sg) y:=by
 unfold behF;by_cases c:sg=bT
 ·rw[if_pos c,if_pos c,if_pos c];have zl:z∈kj D:=by
   obtain⟨a,ha⟩:=B.a1;unfold kj;exact ap.2 ⟨⟨z,am,f1 a⟩,be.2 ⟨(B.dz _ _).2 ⟨rfl,.inl ⟨a,ha,rfl⟩⟩,by show(!decide ((("still":Str))=("ask":Str)))=true;decide⟩,rfl⟩
  rw[be,hF];constructor
  ·rintro⟨⟨_,rfl⟩|⟨a,ha,rfl⟩|⟨a,ha,rfl⟩,q⟩
   ·exact absurd zl (of_decide_eq_true q)
   ·exact .inl ⟨a,be.2 ⟨ha,zzr1 fun w=>of_decide_eq_true q ((B.p1.loud (h1 a ha)).2 w)⟩,rfl⟩
   ·exact .inr ⟨a,be.2 ⟨ha,zzr1 fun w=>of_decide_eq_true q ((B.p2.loud (h2 a ha)).2 w)⟩,rfl⟩
  ·rintro(⟨a,ha,rfl⟩|⟨a,ha,rfl⟩)
   ·obtain⟨q1,q2⟩:=be.1 ha;exact⟨.inr (.inl ⟨a,q1,rfl⟩),zzr1 fun w=>of_decide_eq_true q2 ((B.p1.loud (h1 a q1)).1 w)⟩
   ·obtain⟨q1,q2⟩:=be.1 ha;exact⟨.inr (.inr ⟨a,q1,rfl⟩),zzr1 fun w=>of_decide_eq_true q2 ((B.p2.loud (h2 a q1)).1 w)⟩
 ·rw[if_neg c,if_neg c,if_neg c];have g1:∀g∈cf d1 sg F1,g∈r1:=fun g hg=>by
   obtain⟨a,_,hd⟩:=cq.1 hg;exact(B.p1.ends _ hd).2
  have g2:∀g∈cf d2 sg F2,g∈r2:=fun g hg=>by
   obtain⟨a,_,hd⟩:=cq.1 hg;exact(B.p2.ends _ hd).2
  have fr:gl D (cf D sg F) y↔(∃b∈r1,y=f1 b/\gl d1 (cf d1 sg F1) b)∨∃b∈r2,y=f2 b/\gl d2 (cf d2 sg F2) b:=by
   rw[<-B.p1.from_ g1,<-B.p2.from_ g2];constructor
   ·rintro⟨g,hg,hy⟩;obtain⟨q,hq,hd⟩:=cq.1 hg;rcases(hF q).1 hq with⟨_,rfl⟩|⟨a,ha,rfl⟩|⟨a,ha,rfl⟩
    ·exact absurd ((B.dz _ _).1 hd).1 ns
    ·obtain⟨b,hb,rfl⟩:=(B.p1.door a (h1 a ha) _ _).1 hd;exact .inl ⟨b,cq.2 ⟨a,ha,hb⟩,hy⟩
    ·obtain⟨b,hb,rfl⟩:=(B.p2.door a (h2 a ha) _ _).1 hd;exact .inr ⟨b,cq.2 ⟨a,ha,hb⟩,hy⟩
   ·rintro(⟨g,hg,hy⟩|⟨g,hg,hy⟩)
    ·obtain⟨a,ha,hd⟩:=cq.1 hg;exact⟨f1 g,cq.2 ⟨f1 a,(hF _).2 (.inr (.inl ⟨a,ha,rfl⟩)),(B.p1.door a (h1 a ha) _ _).2 ⟨g,hd,rfl⟩⟩,hy⟩
    ·obtain⟨a,ha,hd⟩:=cq.1 hg;exact⟨f2 g,cq.2 ⟨f2 a,(hF _).2 (.inr (.inr ⟨a,ha,rfl⟩)),(B.p2.door a (h2 a ha) _ _).2 ⟨g,hd,rfl⟩⟩,hy⟩
  unfold closF;rw[be,decide_eq_true_iff,fr];constructor
  ·rintro⟨_,⟨b,hb,rfl,q⟩|⟨b,hb,rfl,q⟩⟩
   ·exact .inl ⟨b,be.2 ⟨hb,zzr1 q⟩,rfl⟩
   ·exact .inr ⟨b,be.2 ⟨hb,zzr1 q⟩,rfl⟩
  ·rintro(⟨b,hb,rfl⟩|⟨b,hb,rfl⟩)
   ·obtain⟨q1,q2⟩:=be.1 hb;exact⟨B.p1.mem b q1,.inl ⟨b,q1,rfl,of_decide_eq_true q2⟩⟩
   ·obtain⟨q1,q2⟩:=be.1 hb;exact⟨B.p2.mem b q1,.inr ⟨b,q1,rfl,of_decide_eq_true q2⟩⟩
open Classical in
theorem yB.first(hz:names[0]?=some z)(y:Str):y∈closF names D (names.take 1)↔(True/\y=z)∨JA f1 f2 (closF r1 d1 (r1.take 1)) (closF r2 d2 (r2.take 1)) y:=by
 obtain⟨x1,e1⟩:=B.a1;obtain⟨x2,e2⟩:=B.a2;have tk:∀{l:Zb}{x:Str},l[0]?=some x->l.take 1=[x]:=fun{l x} e=>by
  cases l with
  |nil=>cases e
  |cons a l=>injection e with e;rw[e];rfl
 rw[tk hz,tk e1,tk e2];have m1:x1∈r1:=aR e1;have m2:x2∈r2:=aR e2;have q1:=B.p1.from_ (gs:=[x1]) (fun g hg=>by rw[bo.1 hg];exact m1) (y:=y);have q2:=B.p2.from_ (gs:=[x2]) (fun g hg=>by rw[bo.1 hg];exact m2) (y:=y);have rz:Reach D z y↔(∃g∈[x1],y=f1 g∨Reach D (f1 g) y)∨∃g∈[x2],y=f2 g∨Reach D (f2 g) y:=by
  have first:∀{y:Str},(⟨z,am,y⟩:ao)∈D↔y=f1 x1∨y=f2 x2:=fun{y}=>by
   rw[B.dz];constructor
   ·rintro⟨_,⟨a,ha,e⟩|⟨a,ha,e⟩⟩
    ·rw[e1]at ha;injection ha with ha;subst ha;exact .inl e
    ·rw[e2]at ha;injection ha with ha;subst ha;exact .inr e
   ·rintro(e|e)
    ·exact⟨rfl,.inl ⟨x1,e1,e⟩⟩
    ·exact⟨rfl,.inr ⟨x2,e2,e⟩⟩
  constructor
  ·intro h;clear q1 q2
   induction h with
   |one e =>
    rcases first.1 e with e|e
    ·exact .inl ⟨x1,cb,.inl e⟩
    ·exact .inr ⟨x2,cb,.inl e⟩
   |step _ e ih =>
    have go:∀{w b c:Str},(b=w∨Reach D w b)->(⟨b,am,c⟩:ao)∈D->c=w∨Reach D w c:=fun h e=>.inr (by
     rcases h with rfl|h
     ·exact .one e
     ·exact .step h e)
    rcases ih with⟨g,hg,h⟩|⟨g,hg,h⟩
    ·exact .inl ⟨g,hg,go h e⟩
    ·exact .inr ⟨g,hg,go h e⟩
  ·rintro(⟨g,hg,h⟩|⟨g,hg,h⟩)
   ·rw[bo.1 hg]at h;rcases h with rfl|h
    ·exact .one (first.2 (.inl rfl))
    ·exact Reach.head (first.2 (.inl rfl)) h
   ·rw[bo.1 hg]at h;rcases h with rfl|h
    ·exact .one (first.2 (.inr rfl))
    ·exact Reach.head (first.2 (.inr rfl)) h
 unfold closF;rw[be,decide_eq_true_iff];have fz:gl D [z] y↔y=z∨Reach D z y:=⟨fun⟨g,hg,h⟩=>by rw[bo.1 hg]at h;exact h,fun h=>⟨z,cb,h⟩⟩;rw[fz,rz,q1,q2];constructor
 ·rintro⟨_,e|⟨b,hb,rfl,q⟩|⟨b,hb,rfl,q⟩⟩
  ·exact .inl ⟨trivial,e⟩
  ·exact .inr (.inl ⟨b,be.2 ⟨hb,zzr1 q⟩,rfl⟩)
  ·exact .inr (.inr ⟨b,be.2 ⟨hb,zzr1 q⟩,rfl⟩)
 ·rintro(⟨_,rfl⟩|⟨b,hb,rfl⟩|⟨b,hb,rfl⟩)
  ·exact⟨B.zn,.inl rfl⟩
  ·obtain⟨w1,w2⟩:=be.1 hb;exact⟨B.p1.mem b w1,.inr (.inl ⟨b,w1,rfl,of_decide_eq_true w2⟩)⟩
  ·obtain⟨w1,w2⟩:=be.1 hb;exact⟨B.p2.mem b w1,.inr (.inr ⟨b,w1,rfl,of_decide_eq_true w2⟩)⟩
theorem yB.run:∀(s:List Sg) (F F1 F2:Zb) (zin:Prop),(∀g∈s,g≠am)->(∀y,y∈F↔(zin/\y=z)∨JA f1 f2 F1 F2 y)->(∀a∈F1,a∈r1)->(∀a∈F2,a∈r2)->∃zin':Prop,(s≠[]->¬zin')/\∀y,y∈s.foldl (behF names D) F↔(zin'/\y=z)∨JA f1 f2 (s.foldl (behF r1 d1) F1) (s.foldl (behF r2 d2) F2) y
 |[],F,F1,F2,zin,_,hF,_,_=>⟨zin,fun h=>absurd rfl h,hF⟩
 |g::s,F,F1,F2,zin,hs,hF,h1,h2=>by
  rw[gP,gP,gP];obtain⟨zin',e1,e2⟩:=yB.run s (behF names D F g) (behF r1 d1 F1 g) (behF r2 d2 F2 g) False (fun x hx=>hs x (cT _ hx)) (fun y=>by rw[B.beh hF h1 h2 (hs g cb)];exact⟨.inr,fun q=>q.elim (fun w=>w.1.elim) id⟩) (uk h1) (uk h2);by_cases c:s=[]
  ·subst c;refine⟨False,fun _ h=>h,fun y=>?_⟩;show y∈behF names D F g↔_;rw[B.beh hF h1 h2 (hs g cb)];exact⟨.inr,fun q=>q.elim (fun w=>w.1.elim) id⟩
  ·exact⟨zin',fun _=>e1 c,e2⟩
end
def fB(names r:Zb)(o:Nat)(x:Str):Str:=names.getD (o+r.idxOf x) ""
def ip(names r1 r2:Zb)(d1 d2:List ao):List ao:=⟨names.getD 0 "",am,names.getD (1+r1.length) ""⟩::⟨names.getD 0 "",am,names.getD 1 ""⟩::(d1.map (d9 (fB names r1 1))++d2.map (d9 (fB names r2 (1+r1.length))))
section
variable{names r1 r2:Zb}{d1 d2:List ao}(nd:names.Nodup)(hl:names.length=1+r1.length+r2.length)
include nd
theorem jV{i j:Nat}(hi:i<names.length)(hj:j<names.length)(e:names.getD i ""=names.getD j ""):i=j:=by
 rw[gM,gM,aV hi,aV hj]at e;exact(List.getElem?_inj hi nd).1 (by rw[aV hi,aV hj];exact congrArg some e)
include hl
theorem HG(n1:r1.Nodup)(n2:r2.Nodup)(z1:r1≠[])(z2:r2≠[])(e1:∀x∈d1,x.a∈r1/\x.b∈r1)(e2:∀x∈d2,x.a∈r2/\x.b∈r2):yB (ip names r1 r2 d1 d2) d1 d2 (fB names r1 1) (fB names r2 (1+r1.length)) r1 r2 names (names.getD 0 ""):=by
 have ix:∀{r:Zb}{a:Str},a∈r->r.idxOf a<r.length:=fun h=>fM.2 h;have ixi:∀{r:Zb}{a b:Str},a∈r->b∈r->r.idxOf a=r.idxOf b->a=b:=fun{r a b} ha hb e=>by
  have h1:=kZ (ix ha);have h2:=kZ (ix hb);rw[<-h1,<-h2];congr 1
 have i1:∀a∈r1,∀b∈r1,fB names r1 1 a=fB names r1 1 b->a=b:=fun a ha b hb e=>ixi ha hb (by have:=jV nd (by have:=ix ha;omega) (by have:=ix hb;omega) e;omega);have i2:∀a∈r2,∀b∈r2,fB names r2 (1+r1.length) a=fB names r2 (1+r1.length) b->a=b:=fun a ha b hb e=>ixi ha hb (by have:=jV nd (by have:=ix ha;omega) (by have:=ix hb;omega) e;omega);have z1':∀a∈r1,fB names r1 1 a≠names.getD 0 "":=fun a ha e=>by have:=jV nd (by have:=ix ha;omega) (by omega) e;omega
 have z2':∀a∈r2,fB names r2 (1+r1.length) a≠names.getD 0 "":=fun a ha e=>by have:=jV nd (by have:=ix ha;omega) (by omega) e;omega
 have d12:∀a∈r1,∀b∈r2,fB names r1 1 a≠fB names r2 (1+r1.length) b:=fun a ha b hb e=>by
  have h1:=ix ha;have h2:=ix hb;have:=jV nd (by omega) (by omega) e;omega
 have mem:∀{i:Nat},i<names.length->names.getD i ""∈names:=fun{i} h=>by
  rw[gM,aV h];exact eI h
 have first:∀{r:Zb}{a:Str}(o:Nat),r.Nodup->r[0]?=some a->fB names r o a=names.getD o "":=fun{r a} o _ e=>by
  cases r with
  |nil=>cases e
  |cons x r =>
   injection e with e;subst e;unfold fB;rw[List.idxOf_cons_self];rfl
 have ex:∀{r:Zb},r≠[]->∃a,r[0]?=some a:=fun{r} h=>by
  cases r with
  |nil=>exact absurd rfl h
  |cons a r=>exact⟨a,rfl⟩
 refine⟨⟨i1,e1,fun a ha sg y=>?_,fun a ha=>mem (by have:=ix ha;omega)⟩,⟨i2,e2,fun a ha sg y=>?_,fun a ha=>mem (by have:=ix ha;omega)⟩,fun sg y=>?_,mem (by omega),ex z1,ex z2⟩
 ·constructor
  ·intro h;rcases bM.1 h with h|h
   ·injection h with h _ _;exact absurd h (z1' a ha)
   rcases bM.1 h with h|h
   ·injection h with h _ _;exact absurd h (z1' a ha)
   rcases aX.1 h with h|h
   ·obtain⟨x,hx,e⟩:=ap.1 h;obtain⟨xa,xs,xb⟩:=x;unfold d9 at e;injection e with ea es eb;have ea:=i1 xa (e1 _ hx).1 a ha ea;simp only at es;subst ea es;exact⟨xb,hx,eb.symm⟩
   ·obtain⟨x,hx,e⟩:=ap.1 h;unfold d9 at e;injection e with ea _ _;exact absurd ea.symm (d12 a ha _ (e2 _ hx).1)
  ·rintro⟨b,hb,rfl⟩;exact cT _ (cT _ (cB _ (ap.2 ⟨_,hb,rfl⟩)))
 ·constructor
  ·intro h;rcases bM.1 h with h|h
   ·injection h with h _ _;exact absurd h (z2' a ha)
   rcases bM.1 h with h|h
   ·injection h with h _ _;exact absurd h (z2' a ha)
   rcases aX.1 h with h|h
   ·obtain⟨x,hx,e⟩:=ap.1 h;unfold d9 at e;injection e with ea _ _;exact absurd ea (d12 _ (e1 _ hx).1 a ha)
   ·obtain⟨x,hx,e⟩:=ap.1 h;obtain⟨xa,xs,xb⟩:=x;unfold d9 at e;injection e with ea es eb;have ea:=i2 xa (e2 _ hx).1 a ha ea;simp only at es;subst ea es;exact⟨xb,hx,eb.symm⟩
  ·rintro⟨b,hb,rfl⟩;exact cT _ (cT _ (cS _ (ap.2 ⟨_,hb,rfl⟩)))
 ·constructor
  ·intro h;rcases bM.1 h with h|h
   ·injection h with _ hs hy;obtain⟨a,ha⟩:=ex z2;exact⟨hs,.inr ⟨a,ha,by rw[hy,first _ n2 ha]⟩⟩
   rcases bM.1 h with h|h
   ·injection h with _ hs hy;obtain⟨a,ha⟩:=ex z1;exact⟨hs,.inl ⟨a,ha,by rw[hy,first _ n1 ha]⟩⟩
   rcases aX.1 h with h|h
   ·obtain⟨x,hx,e⟩:=ap.1 h;unfold d9 at e;injection e with ea _ _;exact absurd ea (z1' _ (e1 _ hx).1)
   ·obtain⟨x,hx,e⟩:=ap.1 h;unfold d9 at e;injection e with ea _ _;exact absurd ea (z2' _ (e2 _ hx).1)
  ·rintro⟨rfl,⟨a,ha,rfl⟩|⟨a,ha,rfl⟩⟩
   ·rw[first _ n1 ha];exact cT _ cb
   ·rw[first _ n2 ha];exact cb
end
theorem r8(m:aD J0 J1 J2 ds):ds.length<=J2.length * (9 * J2.length):=by
 have h:=gV m.nodup (R:=J2.flatMap fun a=>(J0.map cP++J1.map kO++[am]).flatMap fun g=>J2.map fun b=>(⟨a,g,b⟩:ao)) fun d hd=>by
  have g:=m.good d hd;refine k4.2 ⟨d.a,g.a,k4.2 ⟨d.sg,?_,ap.2 ⟨d.b,g.b,rfl⟩⟩⟩;rcases g.sg with⟨w,hw,e⟩|⟨w,hw,e⟩|e
  ·exact cB _ (cB _ (ap.2 ⟨w,hw,e.symm⟩))
  ·exact cB _ (cS _ (ap.2 ⟨w,hw,e.symm⟩))
  ·exact cS _ (bo.2 e)
 have len:∀{α β:Type}(f:α->List β) (n:Nat) (hf:∀x,(f x).length=n) (l:List α),(l.flatMap f).length=l.length * n:=by
  intro α β f n hf l
  induction l with
  |nil=>simp
  |cons x l ih=>rw[pJ,az,ih,hf,cZ,su];omega
 rw[len _ ((J0.map cP++J1.map kO++[am]).length * J2.length) (fun a=>len _ J2.length (fun g=>ai ..) _)]at h;have a4:=m.asks4;have s4:=m.says4;have z:(J0.map cP++J1.map kO++[am]).length<=9:=by
  simp only[az,ai,nz];omega
 exact bL h (sn _ (Nat.mul_le_mul_right _ z))
section
variable{J0 J1 names r1 r2:Zb}{d1 d2:List ao}(m1:aD J0 J1 r1 d1)(m2:aD J0 J1 r2 d2)(okn:iC names)(hl:names.length=1+r1.length+r2.length)(z1:r1.length<=4)(z2:r2.length<=4)
include m1 m2 okn hl
theorem yh:yB (ip names r1 r2 d1 d2) d1 d2 (fB names r1 1) (fB names r2 (1+r1.length)) r1 r2 names (names.getD 0 "") :=
 HG okn.1 hl m1.okR.1 m2.okR.1 m1.rooms0 m2.rooms0 (fun x hx=>⟨(m1.good x hx).a,(m1.good x hx).b⟩) (fun x hx=>⟨(m2.good x hx).a,(m2.good x hx).b⟩)
theorem Eo{d:ao}(h:d∈ip names r1 r2 d1 d2):(d.a=names.getD 0 ""/\d.sg=am)∨(∃x∈d1,d=d9 (fB names r1 1) x)∨∃x∈d2,d=d9 (fB names r2 (1+r1.length)) x:=by
 rcases bM.1 h with h|h
 ·rw[h];exact .inl ⟨rfl,rfl⟩
 rcases bM.1 h with h|h
 ·rw[h];exact .inl ⟨rfl,rfl⟩
 rcases aX.1 h with h|h
 ·obtain⟨x,hx,e⟩:=ap.1 h;exact .inr (.inl ⟨x,hx,e.symm⟩)
 ·obtain⟨x,hx,e⟩:=ap.1 h;exact .inr (.inr ⟨x,hx,e.symm⟩)
include z1 z2
theorem aD.both:aD J0 J1 names (ip names r1 r2 d1 d2):=by
 have B:=yh m1 m2 okn hl;have l1:0<r1.length:=nh.2 m1.rooms0;have l2:0<r2.length:=nh.2 m2.rooms0;have ix:∀{r:Zb}{a:Str},a∈r->r.idxOf a<r.length:=fun h=>fM.2 h;have mem:∀{i:Nat},i<names.length->names.getD i ""∈names:=fun{i} h=>by
  rw[gM,aV h];exact eI h
 have ne:∀{i j:Nat},i<names.length->j<names.length->i≠j->names.getD i ""≠names.getD j "":=fun hi hj n e=>n (jV okn.1 hi hj e);have s1:∀x∈d1,fB names r1 1 x.a≠names.getD 0 "":=fun x hx=>ne (by have:=ix (m1.good x hx).a;omega) (by omega) (by omega);have s2:∀x∈d2,fB names r2 (1+r1.length) x.a≠names.getD 0 "":=fun x hx=>ne (by have:=ix (m2.good x hx).a;omega) (by omega) (by omega);have Dw:∀{f:Str->Str}{r:Zb}{d:List ao},(∀a∈r,∀b∈r,f a=f b->a=b)->(∀x∈d,x.a∈r/\x.b∈r)->d.Nodup->(d.map (d9 f)).Nodup:=fun{f r d} inj en nd=>by
  refine List.Pairwise.map _ ?_ (List.Pairwise.and_mem.mp nd);rintro⟨a,s,b⟩ ⟨a',s',b'⟩ ⟨h1,h2,hne⟩ e;unfold d9 at e;injection e with e1 e2 e3;simp only at e1 e2 e3;exact hne (by rw[inj a (en _ h1).1 a' (en _ h2).1 e1,e2,inj b (en _ h1).2 b' (en _ h2).2 e3])
 refine⟨m1.okA,m1.okS,m1.apart,okn,m1.asks0,m1.says0,fun z=>by rw[z]at hl;simp at hl;omega,m1.asks4,m1.says4,by omega,?_,fun d hd=>?_,?_,fun r h=>?_⟩
 ·unfold ip;rw[kJ,kJ,cA];refine⟨fun h=>?_,fun h=>?_,Dw B.p1.inj B.p1.ends m1.nodup,Dw B.p2.inj B.p2.ends m2.nodup,fun a ha b hb e=>?_⟩
  ·rcases bM.1 h with h|h
   ·injection h with _ _ h;exact ne (by omega) (by omega) (by omega) h
   rcases aX.1 h with h|h
   ·obtain⟨x,hx,e⟩:=ap.1 h;unfold d9 at e;injection e with e _ _;exact s1 x hx e
   ·obtain⟨x,hx,e⟩:=ap.1 h;unfold d9 at e;injection e with e _ _;exact s2 x hx e
  ·rcases aX.1 h with h|h
   ·obtain⟨x,hx,e⟩:=ap.1 h;unfold d9 at e;injection e with e _ _;exact s1 x hx e
   ·obtain⟨x,hx,e⟩:=ap.1 h;unfold d9 at e;injection e with e _ _;exact s2 x hx e
  ·obtain⟨x,hx,e1⟩:=ap.1 ha;obtain⟨y,hy,e2⟩:=ap.1 hb;rw[<-e,<-e1]at e2;unfold d9 at e2;injection e2 with e2 _ _;have q1:=ix (m1.good x hx).a;have q2:=ix (m2.good y hy).a;exact ne (by omega) (by omega) (by omega) e2
 ·rcases bM.1 hd with h|h
  ·rw[h];exact⟨mem (by omega),mem (by omega),.inr (.inr rfl)⟩
  rcases bM.1 h with h|h
  ·rw[h];exact⟨mem (by omega),mem (by omega),.inr (.inr rfl)⟩
  rcases aX.1 h with h|h
  ·obtain⟨x,hx,e⟩:=ap.1 h;rw[<-e];have g:=m1.good x hx;exact⟨B.p1.mem _ g.a,B.p1.mem _ g.b,g.sg⟩
  ·obtain⟨x,hx,e⟩:=ap.1 h;rw[<-e];have g:=m2.good x hx;exact⟨B.p2.mem _ g.a,B.p2.mem _ g.b,g.sg⟩
 ·have q1:=r8 m1;have q2:=r8 m2;have w1:r1.length * (9 * r1.length)<=4 * (9 * 4):=jk z1 (sn _ z1);have w2:r2.length * (9 * r2.length)<=4 * (9 * 4):=jk z2 (sn _ z2);unfold ip;rw[cZ,cZ,az,ai,ai];omega
 ·-- no round
  have start:∀{x y:Str},Reach (ip names r1 r2 d1 d2) x y->∃w,(⟨x,am,w⟩:ao)∈ip names r1 r2 d1 d2:=fun h=>by
   induction h with
   |one e=>exact⟨_,e⟩
   |step _ _ ih=>exact ih
  have last:∀{x y:Str},Reach (ip names r1 r2 d1 d2) x y->∃w,(⟨w,am,y⟩:ao)∈ip names r1 r2 d1 d2:=fun h=>by
   cases h with
   |one e=>exact⟨_,e⟩
   |step _ e=>exact⟨_,e⟩
  obtain⟨w,hw⟩:=start h;rcases Eo m1 m2 okn hl hw with⟨e,_⟩|⟨x,hx,e⟩|⟨x,hx,e⟩
  ·obtain⟨v,hv⟩:=last h;have e:r=names.getD 0 "":=e;rcases bM.1 hv with q|q
   ·injection q with _ _ q;rw[e]at q;exact ne (by omega) (by omega) (by omega) q
   rcases bM.1 q with q|q
   ·injection q with _ _ q;rw[e]at q;exact ne (by omega) (by omega) (by omega) q
   rcases aX.1 q with q|q
   ·obtain⟨y,hy,e2⟩:=ap.1 q;unfold d9 at e2;injection e2 with _ _ e2;rw[e]at e2;exact ne (by have:=ix (m1.good y hy).b;omega) (by omega) (by omega) e2
   ·obtain⟨y,hy,e2⟩:=ap.1 q;unfold d9 at e2;injection e2 with _ _ e2;rw[e]at e2;exact ne (by have:=ix (m2.good y hy).b;omega) (by omega) (by omega) e2
  ·unfold d9 at e;injection e with e _ _;rw[e]at h;obtain⟨b,hb,eb,hr⟩:=(B.p1.reach (m1.good x hx).a).1 h;rw[<-B.p1.inj _ (m1.good x hx).a b hb eb]at hr;exact m1.noround _ hr
  ·unfold d9 at e;injection e with e _ _;rw[e]at h;obtain⟨b,hb,eb,hr⟩:=(B.p2.reach (m2.good x hx).a).1 h;rw[<-B.p2.inj _ (m2.good x hx).a b hb eb]at hr;exact m2.noround _ hr
omit z1 z2 in
theorem BH(t1:∀r∈r1,∀a∈J0,eF d1 r a)(t2:∀r∈r2,∀a∈J0,eF d2 r a):∀r∈names,∀a∈J0,eF (ip names r1 r2 d1 d2) r a:=by
 have B:=yh m1 m2 okn hl;have l1:0<r1.length:=nh.2 m1.rooms0;have up:∀{f:Str->Str}{r:Zb}{d:List ao}{D:List ao}{x a:Str},BM D d f r names->x∈r->eF d x a->eF D (f x) a:=fun{f r d D x a} P hx ⟨w,hw,b,hb⟩=>by
  have hwr:w∈r:=(P.ends _ hb).1;refine⟨f w,?_,f b,(P.door w hwr _ _).2 ⟨b,hb,rfl⟩⟩;rcases hw with rfl|hw
  ·exact .inl rfl
  ·exact .inr ((P.reach hx).2 ⟨w,hwr,rfl,hw⟩)
 have atr:∀{r:Zb}(o i:Nat),r.Nodup->(h:i<r.length)->fB names r o r[i]=names.getD (o+i) "":=fun{r} o i nd h=>by
  unfold fB;rw[nd.idxOf_getElem _ h]
 intro r hr a ha;obtain⟨i,hi,e⟩:=so hr;have e:names.getD i ""=r:=by rw[gM,aV hi];exact e
 rcases sr i with z|z
 ·subst z;have q:=up B.p1 (eI l1) (t1 _ (eI l1) a ha);rw[atr 1 0 m1.okR.1 l1]at q;obtain⟨w,hw,b,hb⟩:=q;refine⟨w,.inr ?_,b,hb⟩;have d0:(⟨r,am,names.getD 1 ""⟩:ao)∈ip names r1 r2 d1 d2:=by rw[<-e];exact cT _ cb
  rcases hw with rfl|hw
  ·exact .one d0
  ·exact Reach.head d0 hw
 ·rcases d6 i (1+r1.length)with q|q
  ·have hi1:i-1<r1.length:=by omega
   have w:=up B.p1 (eI hi1) (t1 _ (eI hi1) a ha);rw[atr 1 (i-1) m1.okR.1 hi1,show 1+(i-1)=i by omega,e]at w;exact w
  ·have hi2:i-(1+r1.length)<r2.length:=by omega
   have w:=up B.p2 (eI hi2) (t2 _ (eI hi2) a ha);rw[atr (1+r1.length) (i-(1+r1.length)) m2.okR.1 hi2,show 1+r1.length+(i-(1+r1.length))=i by omega,e]at w;exact w
end
def leastG(J0 J1 J2 rooms':Zb)(ds ds':List ao):Option (List Sg×Sg):=(cI (behF J2 ds) (behF rooms' ds') (av J0 J1) (closF J2 ds (J2.take 1),closF rooms' ds' (rooms'.take 1)) 1100).2
theorem Good.few7(g:Good J2 m){n:Nat}(hr:J2.length<=n):m.fs.length<=2 ^ n:=by
 have h:=gV g.nd (R:=jK J2) (fun f hf=>by obtain⟨p,rfl⟩:=g.isF f hf;exact jI p J2);rw[jJ]at h;have:2 ^ J2.length<=2 ^ n:=wf (by decide) hr;omega
inductive iH(K:Za)(Cm:Addr)(vs:List V)(H:Hp)(Q:VK)(E:XK):Prop
 |mk (x y:Addr) (J0 J1 J2 rooms':Zb) (ds ds':List ao):(vs=[.ref x,.ref y])->(bd Cm H x J0 J1 J2 ds)->(bd Cm H y J0 J1 rooms' ds')->((∀r∈rooms',∀a∈J0,eF ds' r a))->(J2.length<=3)->(rooms'.length<=7)->((leastG J0 J1 J2 rooms' ds ds'=none->∀(u l:Addr) (ps:Ze) (H':Hp),H' u=some (.tup [.str "keeps",.ref l])->H' l=some (.lst (ps.map V.ref))->ps.length<=64->H l=none->ac H H'->Q (.ref u) H'))->(∀(s:List Sg) (g:Sg),leastG J0 J1 J2 rooms' ds ds'=some (s,g)->∀(u l b:Addr) (gs:Ze) (H':Hp),H' u=some (.tup [.str "fault",.ref l,.ref b])->H' l=some (.lst (gs.map V.ref))->Paired (fun g (sg:Sg)=>bB K H' g (sg.map V.str)) gs s->bB K H' b (g.map V.str)->H l=none->ac H H'->Q (.ref u) H')->iH K Cm vs H Q E
theorem DW{K:Za}{Q:VK}(M:bd Cm H x J0 J1 J2 ds)(N:bd Cm H y J0 J1 rooms' ds')(tk:∀r∈rooms',∀a∈J0,eF ds' r a)(z1:J2.length<=3)(z2:rooms'.length<=7)
  (kn:leastG J0 J1 J2 rooms' ds ds'=none->∀(u l:Addr) (ps:Ze) (H':Hp),H' u=some (.tup [.str "keeps",.ref l])->H' l=some (.lst (ps.map V.ref))->ps.length<=64->H l=none->ac H H'->Q (.ref u) H')
  (kf:∀(s:List Sg) (g:Sg),leastG J0 J1 J2 rooms' ds ds'=some (s,g)->∀(u l b:Addr) (gs:Ze) (H':Hp),H' u=some (.tup [.str "fault",.ref l,.ref b])->H' l=some (.lst (gs.map V.ref))->Paired (fun g (sg:Sg)=>bB K H' g (sg.map V.str)) gs s->bB K H' b (g.map V.str)->H l=none->ac H H'->Q (.ref u) H'):iH K Cm [.ref x,.ref y] H Q E:=by
 exact⟨x,y,J0,J1,J2,rooms',ds,ds',rfl,M,N,tk,z1,z2,kn,kf⟩
theorem DB{K:Za}(c:FC K C)(h:iH K Cm vs H Q E):GS K (kb K C Cm) (g8 K) C (mf K C Cm) (fR Cm) (bH Q) (start HP vs) H:=by
 classical
 obtain⟨x,y,J0,J1,J2,rooms',ds,ds',rfl,MX,MY,tk,z4,z4',kn,kf⟩:=h;refine⟨_,rfl,_,rfl,x,y,J0,J1,J2,rooms',ds,ds',rfl,MX,MY,tk,fun H1 S1=>?_⟩;have MX1:=MX.same S1;have MY1:=MY.same S1;refine⟨_,rfl,fun o1 d1 ho1 hd1 ne1=>?_⟩;have S2:ac H1 (upd (upd H1 d1 (.own o1)) o1 (.ins C d1 [])):=fun b o e=>by rw[ag (ae e ho1)];exact kp e hd1
 refine⟨H1,o1,d1,x,J0,J1,J2,ds,rfl,aa,MX1,ho1,S2,by omega,fun fa sa na ta us ws ts S j H3 F3 ta3 st3 ok3 len3 _ S3=>⟨rfl,?_⟩⟩;clear S2;obtain⟨dx1,fs1,g1,l1,l2,l3,l4,l5,l6,l7⟩:=F3.ob;refine⟨_,rfl,o1,C,dx1,fs1,.ref ta,rfl,g1,c.cls,c.a5,l5,?_⟩;refine⟨_,rfl,fun o2 d2 ho2 hd2 ne2=>?_⟩;have S4:ac H3 (upd (upd H3 d2 (.own o2)) o2 (.ins C d2 [])):=fun b o e=>by rw[ag (ae e ho2)];exact kp e hd2
 refine⟨H3,o2,d2,y,J0,J1,rooms',ds',rfl,aa,MY1.same S3,ho2,S4,by omega,fun fa' sa' na' ta' us' ws' ts' SI j' H5 F5 ta5 st5 ok5 len5 itI S5=>⟨rfl,?_⟩⟩;clear S4;obtain⟨dx2,fs2,g2,m1,m2,m3,m4,m5,m6,m7⟩:=F5.ob;refine⟨o2,C,dx2,fs2,.ref ta',rfl,g2,c.cls,c.a5,m5,?_⟩
 let H0:Hp:=fun b=>if b∈ts∨b∈ts' then none else H5 b
 have hz:∀{b:Addr},b∈ts∨b∈ts'->H0 b=none:=fun h=>if_pos h;have hk:∀{b:Addr}{o:HO},H5 b=some o->(∀k,o=.dT k->b∉ts/\b∉ts')->H0 b=some o:=fun{b o} e n=>by
  have:¬(b∈ts∨b∈ts'):=fun z=>by
   have hd:∃l,H5 b=some (.dT l):=by
    rcases z with z|z
    ·obtain⟨_,_,l,hl⟩:=iF st3 b z;exact⟨l,S5 _ _ hl⟩
    ·exact(iF st5 b z).2.2
   obtain⟨l,hl⟩:=hd;rw[e]at hl;injection hl with hl;obtain⟨n1,n2⟩:=n _ hl;exact z.elim n1 n2
  show(if b∈ts∨b∈ts' then none else H5 b)=some o
  rw[if_neg this];exact e
 have SH:ac H H0:=fun b o e=>by
  have e1:=S3 _ _ (S1 _ _ e);refine hk (S5 _ _ e1) fun k _=>⟨fun z=>?_,fun z=>?_⟩
  ·have:=(iF st3 b z).1;rw[S1 _ _ e]at this;cases this
  ·have:=(iF st5 b z).1;rw[e1]at this;cases this
 have F0:hW K C H0 o1 x fa sa na ta us ws S.1:=(F3.same S5).part fun b o e n=>hk e fun k z=>by
  have:=n k z;subst this;refine⟨fun z=>(iF st3 b z).2.1 rfl,fun z=>?_⟩;have:=(iF st5 b z).1;rw[F3.hna]at this;cases this
 have ta5':=S5 _ _ ta3;have I:mR H0 H5 ta ta' ts ts' S.2 SI.2:=by
  refine⟨ta5',ta5,?_,?_,fun b o e=>?_⟩
  ·refine Mum.Paired.mapM st3 fun t _ ht r=>⟨hz (.inl ht),.inl (S5 _ _ r.2.2)⟩
  ·refine Mum.Paired.mapM st5 fun t _ ht r=>⟨hz (.inr ht),.inl r.2.2⟩
  ·have e:(if b∈ts∨b∈ts' then none else H5 b)=some o:=e
   split at e
   ·cases e
   ·exact e
 have zt:ts.length=S.1.fs.length:=by rw[Paired.length st3,len3]
 have zt':ts'.length=SI.1.fs.length:=by rw[Paired.length st5,len5]
 have f16:_<=8:=ok3.good.few7 z4;have f16':_<=128:=ok5.good.few7 z4';have pos:∀{rs:Zb}{es:List ao}{S:uv},qI J0 J1 rs es S->0<S.1.fs.length:=fun{rs es S} ok=>by
  rcases sr S.1.fs.length with z|z
  ·have:=ok.zero;rw[fx (by omega)]at this;cases this
  ·exact z
 have LC:JT ts ts' S.2 SI.2:=⟨by omega,by omega,fun i p hp=>by rw[zt];exact(ok3.steps hp).1,fun i p hp=>by rw[zt'];exact(ok5.steps hp).1,fun i p hp=>(ok5.steps hp).2⟩;have prod:ts.length * ts'.length<=8 * 128:=jk (by omega) (by omega);have sim:=ET ok3 ok5 len3 len5;refine⟨H0,ta,ta',ts,ts',S.2,SI.2,rfl,I,LC,by rw[zt];exact pos ok3,by rw[zt'];exact pos ok5,fun P H6 okP itP lenP ro I6=>?_,fun P i cm p sb t lst gs H6 okP itP lt _ _ _ _ _ ht hl hg hb t0 l0 I6=>?_⟩
 ·refine⟨_,rfl,_,rfl,?_⟩;rw[zzr1 rfl];refine dk ?_;have lf:leastG J0 J1 J2 rooms' ds ds'=none:=by
   unfold leastG;rw[<-(sim 1100).2];have:=vR itP (1100-P.length);rw[show P.length+(1100-P.length)=1100 by omega]at this;rw[this]
  have simP:=(sim P.length).1;rw[itP]at simP;have F6:=F0.same I6.S;have ins:∀r:Row,wa P SI r.1 r.2->r.1∈rooms'/\r.2<ts.length:=fun r ⟨cm,hc,e,F,hF,hr⟩=>by
   obtain⟨i,hi⟩:=eZ hc;obtain⟨w,_,e1,_⟩:=Paired.getL simP hi;refine⟨(ok5.good.isF F (aR hF)).sub _ hr,?_⟩;rw[zt,<-e];exact(bO.1 e1).1
  have r0:rooms'[0]?=some (rooms'.headD ""):=by
   cases e:rooms' with
   |nil=>exact absurd e MY.ok.rooms0
   |cons a b=>rfl
  have hb:∀d∈ds',d.b∈rooms':=fun d hd=>(MY.ok.good d hd).b;have first:wa P SI (rooms'.headD "") 0:=by
   obtain⟨r,e⟩:=okP.zero;refine⟨⟨(0,0),none,[]⟩,by rw[e];exact cb,rfl,_,ok5.zero,?_⟩;unfold closF;refine be.2 ⟨aR r0,zzr1 ⟨rooms'.headD "",?_,.inl rfl⟩⟩;cases e:rooms' with
   |nil=>exact absurd e MY.ok.rooms0
   |cons a b=>exact cb
  have shut:∀f∈SI.1.fs,GA ds' f:=by rw[itI];exact Cv hb j'
  refine⟨_,rfl,_,rfl,H0,o1,y,x,fa,sa,na,ta,us,ws,ts,S.1,S.2,J0,J1,rooms',ds',fun r:Row=>wa P SI r.1 r.2,rooms'.headD "",rfl,F6,I6.h1,I6.r1,(MY.same SH).same I6.S,⟨ins,fun r hr=>G0 MY.ok ok5 len5 ro shut hr⟩,zt,by omega,r0,first,fun l ps L H7 hl pr nd all hl0 S7=>⟨(by show 2<=aj;decide),fun u hu=>?_⟩⟩
  have S8:ac H7 (upd H7 u (.tup [.str "keeps",.ref l])):=ac.new hu;refine kn lf u l ps _ aa (S8 _ _ hl) ?_ ((SH.trans I6.S).free hl0) (((SH.trans I6.S).trans S7).trans S8);rw[Paired.length pr];have:=zf nd fun r hr=>ins r (all r hr);have:rooms'.length * ts.length<=7 * 8:=jk z4' (by omega);omega
 ·refine⟨_,rfl,_,rfl,?_⟩;rw[zzr0 (fun z=>by cases z)];refine bR ?_;have lf:leastG J0 J1 J2 rooms' ds ds'=some (cm.story,p.1):=by
   unfold leastG;rw[<-(sim 1100).2];have:=vS itP (1100-(i+1));rw[show i+1+(1100-(i+1))=1100 by omega]at this;exact this
  refine⟨_,rfl,t,_,rfl,bD.of ht,rfl,_,_,rfl,_,_,rfl,rfl,?_⟩;refine⟨_,rfl,_,rfl,(by show 3<=aj;decide),fun u hu=>?_⟩;have S8:ac H6 (upd H6 u (.tup [.str "fault",.ref lst,.ref sb])):=ac.new hu;exact kf cm.story p.1 lf u lst sb gs _ aa (S8 _ _ hl) (Paired.mapP hg fun _ _ r=>bB.kt (ac.kt S8) r) (bB.kt (ac.kt S8) hb) (SH.free l0) ((SH.trans I6.S).trans S8)
def AG(K:Za)(sp_law_names:Sp)(sp_law_anew:Sp):TS :=
 aq (bJ (aS sp_law_anew (aB V0)))
 (aq (aO (aS sp_law_names (ar V0 (ar (aI dg (aI dg (tC (.int 1)) (dE (dh K) (aB (aI (gR K) V1 (tC (.int 2)))))) (dE (dh K) (aB (aI (gR K) V2 (tC (.int 2)))))) bm))) U3)
 (aq (aO (c_ (ar (tC (.int 1)) (ar (aI dg (tC (.int 1)) (dE (dh K) (aB (aI (gR K) V1 (tC (.int 2)))))) bm))) U4)
 (aq (aO (c_ (ar (bu (eJ (aI (bX K) V3 (tC (.int 0))) (bu (aB (tC (.str "still")))) (aI (bX K) V3 (aI (bX K) V4 (tC (.int 1)))))) (ar (bu (eJ (aI (bX K) V3 (tC (.int 0))) (bu (aB (tC (.str "still")))) (aI (bX K) V3 (aI (bX K) V4 (tC (.int 0)))))) bm))) U5)
 (aq (eG (t6 K (aB (c_ (aN V1 V2)))) (gE K 2 (aT U6 (aT U7 (fZ)))) (eG (cx K (aI (gR K) V7 (tC (.int 3)))) (gE K 3 (aT U8 (aT U9 (aT IS (fZ))))) (aq (aO (aI (bX K) V3 (aI dg (aI (bX K) V4 V6) (oI K "list" (ml K) (aI (gR K) V7 (tC (.int 2))) (aB V8)))) JO)
 (bJ (oI K "list" cz V5 (ar (bu (ar Ju (ar V9 (ar (aI (bX K) V3 (aI dg (aI (bX K) V4 V6) (oI K "list" (ml K) (aI (gR K) V7 (tC (.int 2))) (aB Es)))) bm)))) bm))))))
 (bq (bu (ar (aI (gR K) V1 (tC (.int 0))) (eJ (aI (gR K) V1 (tC (.int 1))) V3 V5))))))))
def BW:List Str:=["pen","first","second","names","at","doors","k","told","room","sign","other","one"]
def GR(K:Za)(sp_law_same:Sp)(sp_law_key:Sp)(sp_law_both:Sp)(sp_keeps:Sp)(sp_law_machine:Sp)(sp_law_near:Sp)(sp_law_model:Sp)(sp_law_open:Sp):TS :=
 aq (aO (aS sp_law_open (aB V0)) U1)
 (aq (aO (aS sp_law_model (eJ V1 (tC (.int 3)) (tC (.int 0)))) U2)
 (aq (aO (aS sp_law_near (eJ V1 V2 (tC (.int 3)))) U3)
 (aq (aO (aS sp_law_near (eJ V1 V2 (tC (.int 3)))) U4)
 (aq (aO (aS sp_law_machine (aB V2)) U5)
 (aq (aO (eB 1 [5] (cx K (c_ (eJ V3 V4 (aS sp_law_both (ar V1 (aN V3 V4)))))) U0 (jH) (aS sp_keeps (aN V1 (aS sp_law_machine (aB V0))))) U6)
 (aq (aO (tC .non) U7)
 (aq (aO (c_ (bm)) U8)
 (aq (eG (cx K (AI (rL K) V6 (fg) (gH (tC (.int 2))))) U9 (cn (a_ (aI Ar (aI (gR K) V9 (tC (.int 0))) (tC (.str "fault")))) (aq (aO (aS sp_law_key (ar V2 (ar (aI qh (aI (gR K) V9 (tC (.int 1))) (c_ (aB (aI (gR K) V9 (tC (.int 2)))))) bm))) IS)
 (cn (EN (tB (Du V7)) (a_ (aI (Jh K) Es V8))) (aq (aO V9 U7)
 (aO Es U8)) (bv))) (bv)))
 (aq (cn (tB (Du V7)) (bq (tz (aI Ar (dE (dh K) (aB (aI (bX K) V6 (tC (.int 2))))) (tC (.int 2))) (aS sp_law_same (aN (aI (gR K) (aI (bX K) V6 (tC (.int 2))) (tC (.int 0))) (tC (.str "keeps")))))) (bv))
 (bq (aS sp_law_same (aN (aI (bX K) V6 (tC (.int 2))) V7))))))))))))
def Dc:List Str:=["script","pen","told","first","second","model","found","due","last","one","key"]
def Fq:List Str:=["script"]
theorem vB{sg:Sg}(h:sg∈av J0 J1):sg≠am:=by
 unfold av at h;intro z;subst z;rcases aX.1 h with h|h
 ·rcases aX.1 h with h|h
  ·obtain⟨w,_,e⟩:=ap.1 h;cases e
  ·obtain⟨w,_,e⟩:=ap.1 h;cases e
 ·exact absurd (bo.1 h) (by decide +kernel)
theorem Ge(B:yB D d1 d2 f1 f2 r1 r2 names z)(hz:names[0]?=some z):
  yy J0 J1 J2 names ds D s g↔yy J0 J1 J2 r1 ds d1 s g∨yy J0 J1 J2 r2 ds d2 s g:=by
 have core:(∀x∈s,x∈av J0 J1)->g∈av J0 J1->(behF names D (s.foldl (behF names D) (closF names D (names.take 1))) g≠[]↔behF r1 d1 (s.foldl (behF r1 d1) (closF r1 d1 (r1.take 1))) g≠[]∨behF r2 d2 (s.foldl (behF r2 d2) (closF r2 d2 (r2.take 1))) g≠[]):=by
  intro hs hg;obtain⟨zi,_,e⟩:=B.run s _ _ _ True (fun x hx=>vB (hs x hx)) (B.first hz) jZ jZ;have sub:∀{r:Zb}{d:List ao}(s:List Sg) (F:Zb),(∀a∈F,a∈r)->∀a∈s.foldl (behF r d) F,a∈r:=by
   intro r d s
   induction s with
   |nil=>exact fun F h=>h
   |cons x s ih=>exact fun F h=>ih _ (uk h)
  have e2:=B.beh e (sub s _ jZ) (sub s _ jZ) (vB hg);constructor
  ·intro h;obtain⟨y,hy⟩:=List.exists_mem_of_ne_nil _ h;rcases(e2 y).1 hy with⟨a,ha,_⟩|⟨a,ha,_⟩
   ·exact .inl (wc ha)
   ·exact .inr (wc ha)
  ·rintro(h|h)
   ·obtain⟨y,hy⟩:=List.exists_mem_of_ne_nil _ h;exact wc ((e2 _).2 (.inl ⟨y,hy,rfl⟩))
   ·obtain⟨y,hy⟩:=List.exists_mem_of_ne_nil _ h;exact wc ((e2 _).2 (.inr ⟨y,hy,rfl⟩))
 constructor
 ·rintro⟨h1,h2,h3,h4,h5,h6⟩;rcases(core h1 h2).1 h6 with q|q
  ·exact .inl ⟨h1,h2,h3,h4,h5,q⟩
  ·exact .inr ⟨h1,h2,h3,h4,h5,q⟩
 ·rintro(⟨h1,h2,h3,h4,h5,h6⟩|⟨h1,h2,h3,h4,h5,h6⟩)
  ·exact⟨h1,h2,h3,h4,h5,(core h1 h2).2 (.inl h6)⟩
  ·exact⟨h1,h2,h3,h4,h5,(core h1 h2).2 (.inr h6)⟩
theorem Hq{ss s t:List Sg}(hs:∀x∈s,x∈ss)(ht:∀x∈t,x∈ss)(e:kS ss s=kS ss t):s=t:=by
 unfold kS FP at e;injection e with e0 e;clear e0
 induction s generalizing t with
 |nil=>cases t with
  |nil=>rfl
  |cons y t=>cases e
 |cons x s ih=>cases t with
  |nil=>cases e
  |cons y t =>
   rw[bb,bb]at e;injection e with e1 e2;have i1:=fM.2 (hs x cb);have i2:=fM.2 (ht y cb);have e1:ss.idxOf x=ss.idxOf y:=by omega
   have q1:=kZ i1;have q2:=kZ i2;have:x=y:=by rw[<-q1,<-q2];congr 1
   rw[this,ih (fun z hz=>hs z (cT _ hz)) (fun z hz=>ht z (cT _ hz)) e2]
def BB(ss:List Sg)(o1 o2:Option (List Sg×Sg)):Option (List Sg×Sg):=match o1,o2 with
 |none,x=>x
 |some x,none=>some x
 |some x,some y=>if HT.lexLt (kS ss (y.1++[y.2])) (kS ss (x.1++[x.2]))=true then some y else some x
section
variable{J0 J1 J2 rooms':Zb}{ds ds':List ao}(m:aD J0 J1 J2 ds)(m':aD J0 J1 rooms' ds')
include m m'
theorem fH{s:List Sg}{g:Sg}(h:leastG J0 J1 J2 rooms' ds ds'=some (s,g)):yy J0 J1 J2 rooms' ds ds' s g/\∀s' g',yy J0 J1 J2 rooms' ds ds' s' g'->¬fo (av J0 J1) (s'++[g']) (s++[g]) :=
 Bo (eP m) (pq m) (pq m') (fun _=>pA) (fun _=>pA) h
theorem jg(z1:J2.length<=3)(z2:rooms'.length<=7)(h:leastG J0 J1 J2 rooms' ds ds'=none)(s:List Sg)(g:Sg):¬yy J0 J1 J2 rooms' ds ds' s g :=
 Bp (eP m) (pq m) (pq m') (fun _=>pA) (fun _=>pA) h (bL (IH qy qy z1 z2 1100) (by decide)) s g
end
theorem xY(h:yy J0 J1 J2 rooms' ds ds' s g):∀x∈s++[g],x∈av J0 J1:=fun x hx=>by
 rcases aX.1 hx with q|q
 ·exact h.1 x q
 ·rw[bo.1 q];exact h.2.1
theorem mw(m:aD J0 J1 J2 ds)(m':aD J0 J1 rooms' ds')(z1:J2.length<=3)(z2:rooms'.length<=7)(h:yy J0 J1 J2 rooms' ds ds' s g)(k:∀s' g',yy J0 J1 J2 rooms' ds ds' s' g'->¬fo (av J0 J1) (s'++[g']) (s++[g])):leastG J0 J1 J2 rooms' ds ds'=some (s,g):=by
 cases e:leastG J0 J1 J2 rooms' ds ds' with
 |none=>exact absurd h (jg m m' z1 z2 e s g)
 |some x =>
  obtain⟨s',g'⟩:=x;obtain⟨q1,q2⟩:=fH m m' e;have:=Hq (xY q1) (xY h) (xP (k s' g' q1) (q2 s g h));obtain⟨a,b⟩:=List.append_inj' this rfl;rw[a,(List.cons.inj b).1]
theorem Bq(B:yB D d1 d2 f1 f2 r1 r2 names z)(hz:names[0]?=some z)(m:aD J0 J1 J2 ds)(m1:aD J0 J1 r1 d1)(m2:aD J0 J1 r2 d2)(mb:aD J0 J1 names D)(zr:J2.length<=3)(z1:r1.length<=7)(z2:r2.length<=7)(zb:names.length<=7):
  leastG J0 J1 J2 names ds D=BB (av J0 J1) (leastG J0 J1 J2 r1 ds d1) (leastG J0 J1 J2 r2 ds d2):=by
 have fb:=fun s g=>Ge (J0:=J0) (J1:=J1) (J2:=J2) (ds:=ds) B hz (s:=s) (g:=g);cases e1:leastG J0 J1 J2 r1 ds d1 with
 |none =>
  have n1:=jg m m1 zr z1 e1;cases e2:leastG J0 J1 J2 r2 ds d2 with
  |none =>
   have n2:=jg m m2 zr z2 e2;cases e:leastG J0 J1 J2 names ds D with
   |none=>rfl
   |some x=>exact((fb _ _).1 (fH m mb e).1).elim (fun q=>absurd q (n1 _ _)) fun q=>absurd q (n2 _ _)
  |some y =>
   obtain⟨q1,q2⟩:=fH m m2 e2;exact mw m mb zr zb ((fb _ _).2 (.inr q1)) fun s' g' h=>((fb _ _).1 h).elim (fun q=>absurd q (n1 _ _)) (q2 s' g')
 |some x =>
  obtain⟨p1,p2⟩:=fH m m1 e1;cases e2:leastG J0 J1 J2 r2 ds d2 with
  |none =>
   have n2:=jg m m2 zr z2 e2;exact mw m mb zr zb ((fb _ _).2 (.inl p1)) fun s' g' h=>((fb _ _).1 h).elim (p2 s' g') fun q=>absurd q (n2 _ _)
  |some y =>
   obtain⟨q1,q2⟩:=fH m m2 e2;unfold BB;simp only;by_cases c:HT.lexLt (kS (av J0 J1) (y.1++[y.2])) (kS (av J0 J1) (x.1++[x.2]))=true
   ·rw[if_pos c];exact mw m mb zr zb ((fb _ _).2 (.inr q1)) fun s' g' h=>((fb _ _).1 h).elim (fun q w=>p2 s' g' q (fo.trans w c)) (q2 s' g')
   ·rw[if_neg c];exact mw m mb zr zb ((fb _ _).2 (.inl p1)) fun s' g' h=>((fb _ _).1 h).elim (p2 s' g') fun q w=>q2 s' g' q (fo.le_of w c)
inductive rX(vs:List V)(H:Hp)(Q:VK)(E:XK):Prop
 |mk (p c t1 t2 l1 l2 m3 m4 n3 n4:Addr) (ts1 ts2:Ze) (J0 J1 r1 r2:Zb) (d1 d2:List ao):(vs=[.ref p,.ref t1,.ref t2])->(gD H p c)->(iB H t1 l1 l2 m3 m4 ts1 J0 J1 r1 d1)->(iB H t2 l1 l2 n3 n4 ts2 J0 J1 r2 d2)->(aD J0 J1 r1 d1)->(aD J0 J1 r2 d2)->(r1.length<=3)->(r2.length<=3)->(∀(t' l3' l4':Addr) (ts':Ze) (names:Zb) (H':Hp),iB H' t' l1 l2 l3' l4' ts' J0 J1 names (ip names r1 r2 d1 d2)->iC names->names.length=1+r1.length+r2.length->gD H' p c->cQ p H H'->Q (.ref t') H')->rX vs H Q E
def Jt(K:Za):TS:=(eG (cx K (aI (gR K) V7 (tC (.int 3)))) (gE K 3 (aT U8 (aT U9 (aT IS (fZ))))) (aq (aO (aI (bX K) V3 (aI dg (aI (bX K) V4 V6) (oI K "list" (ml K) (aI (gR K) V7 (tC (.int 2))) (aB V8)))) JO)   (bJ (oI K "list" cz V5 (ar (bu (ar Ju (ar V9 (ar (aI (bX K) V3 (aI dg (aI (bX K) V4 V6) (oI K "list" (ml K) (aI (gR K) V7 (tC (.int 2))) (aB Es)))) bm)))) bm)))))
theorem FU{a:Str}:∀(r:Zb) (m:Nat),r[m]?=some a->r.idxOf a<=m
 |[],m,h=>by cases h
 |x::r,0,h=>by injection h with h;subst h;rw[List.idxOf_cons_self];omega
 |x::r,m+1,h=>by
  have:=FU r m h;rw[List.idxOf_cons];cases x==a
  ·show List.idxOf a r+1<=m+1;omega
  ·show 0<=m+1;omega
theorem vX{K:Za}{r:Zb}{a:Str}(zr:r.length<=1000)(ha:a∈r)(H:Hp):DIns K H (r.map fK) (r.map V.str)/\hE K H (fK a) (.str a)/\(fK a).depth<=8/\DT.depths (r.map fK)<=8/\(r.map V.str).length<=1000/\(r.map fK)[r.idxOf a]?=some (fK a)/\∀m,m<r.idxOf a->(r.map fK)[m]?≠some (fK a):=by
 have hx:=fM.2 ha;refine⟨nT _,lS _,(by show 0<=8;decide),by rw[f_];decide,by rw[ai];exact zr,?_,fun m hm z=>?_⟩
 ·rw[bw,aV hx,kZ hx];rfl
 ·rw[bw]at z;obtain⟨w,hw,e⟩:=kY.1 z;have e:w=a:=by injection e with e;injection e
  subst e;have:=FU r m hw;omega
theorem C6{K:Za}{D:kU}{p t1 t2 ln la ld:Addr}{o i:Nat}{names:Zb}{ats:List Nat}{D0:List ao}{us:Ze}{x8 x9 x10 x11:Option V}(T:iB H0 t l1 l2 l3 l4 ts J0 J1 r d)(good:∀x∈d,x.a∈r/\x.b∈r)(hn:H0 ln=some (.lst (names.map V.str)))(ha:H0 la=some (.lst ((ats.map fun(n:Nat)=>(n:Int)).map V.int)))(hat:ats[i]?=some o)(hl:o+r.length<=names.length)(zr:r.length<=1000)(zd:D0.length+d.length<=900)(h0:H0 ld=none)(S:ac H0 H)(hd:H ld=some (.lst (us.map V.ref)))(hD:cj H us D0)
  (k:∀(y8 y9 y10 y11:Option V) (H':Hp) (us':Ze),ac H0 H'->H' ld=some (.lst (us'.map V.ref))->cj H' us' (D0++d.map (d9 (fB names r o)))->D.nx [some (.ref p),some (.ref t1),some (.ref t2),some (.ref ln),some (.ref la),some (.ref ld),some (.int i),some (.ref t),y8,y9,y10,y11] H') :
  Jt K D [some (.ref p),some (.ref t1),some (.ref t2),some (.ref ln),some (.ref la),some (.ref ld),some (.int i),some (.ref t),x8,x9,x10,x11] H:=by
 have tT:=T.same S;refine⟨_,rfl,t,_,3,_,rfl,rfl,bD.of tT.t,aJ (j:=3) rfl,?_⟩;refine⟨l4,rfl,⟨_,aA.of tT.a4⟩,?_⟩;refine cg (xs:=ts.map V.ref) (fun j σ H'=>∃(y8 y9 y10 y11:Option V) (us':Ze),σ=[some (.ref p),some (.ref t1),some (.ref t2),some (.ref ln),some (.ref la),some (.ref ld),some (.int i),some (.ref t),y8,y9,y10,y11]/\ac H0 H'/\H' ld=some (.lst (us'.map V.ref))/\cj H' us' (D0++(d.take j).map (d9 (fB names r o))))
  ⟨_,_,_,_,us,rfl,S,hd,by rw[pK,sQ,gJ];exact hD⟩ (fun j σ H' _ ⟨_,_,_,_,_,_,S',_,_⟩=>aA.of (S' _ _ T.a4)) ?_ ?_
 rotate_left
 ·rintro σ H' ⟨y8,y9,y10,y11,us',rfl,S',h',D'⟩;rw[ai,Paired.length T.ds,bt]at D';exact k _ _ _ _ H' us' S' h' D'
 rintro j x σ H1 hx ⟨y8,y9,y10,y11,us',rfl,S1,h1,D1⟩;obtain⟨u,hu,rfl⟩:=dW hx;obtain⟨dr,hdr,hatd⟩:=Paired.getL T.ds hu;obtain⟨sb,ht2,hs2⟩:=hatd.kt (ac.kt S1);have T1:=T.same S1;have hn1:=S1 _ _ hn;have ha1:=S1 _ _ ha;obtain⟨ga,gb⟩:=good dr (aR hdr);have ia:=fM.2 ga;have ib:=fM.2 gb;have nm:∀{x:Str},r.idxOf x<r.length->(names.map V.str)[o+r.idxOf x]?=some (.str (fB names r o x)):=fun{x} h=>by
  rw[bw,aV (by omega)];unfold fB;rw[gM,aV (by omega)];rfl
 have at_:((ats.map fun(n:Nat)=>(n:Int)).map V.int)[i]?=some (.int (o:Nat)):=by
  rw[bw,bw,hat];rfl
 obtain⟨q1,q2,q3,q4,q5,q6,q7⟩:=vX (K:=K) zr ga H1;obtain⟨w1,w2,w3,w4,w5,w6,w7⟩:=vX (K:=K) zr gb H1;refine⟨u,_,rfl,bD.of ht2,rfl,_,_,rfl,_,_,rfl,_,_,rfl,rfl,?_⟩;refine⟨_,rfl,_,rfl,_,rfl,la,_,i,_,rfl,rfl,aA.of ha1,aJ at_,_,rfl,t,_,2,_,rfl,rfl,bD.of T1.t,aJ (j:=2) rfl,.inl ⟨rfl,_,aA.of T1.a3⟩,_,rfl,l3,_,_,fK dr.a,r.map fK,r.idxOf dr.a,rfl,rfl,T1.a3,q1,q2,q3,q4,q5,q6,q7,_,_,rfl,rfl,ln,_,_,_,rfl,rfl,aA.of hn1,aJ (j:=o+r.idxOf dr.a) (nm ia),?_⟩;have zl:us'.length<1000:=by
  rw[Paired.length D1,az,ai,aM];omega
 refine⟨_,rfl,.inl ⟨rfl,_,aA.of h1⟩,_,rfl,_,rfl,_,rfl,_,rfl,_,rfl,la,_,i,_,rfl,rfl,aA.of ha1,aJ at_,_,rfl,t,_,2,_,rfl,rfl,bD.of T1.t,aJ (j:=2) rfl,.inl ⟨rfl,_,aA.of T1.a3⟩,_,rfl,l3,_,_,fK dr.b,r.map fK,r.idxOf dr.b,rfl,rfl,T1.a3,w1,w2,w3,w4,w5,w6,w7,_,_,rfl,rfl,ln,_,_,_,rfl,rfl,aA.of hn1,aJ (j:=o+r.idxOf dr.b) (nm ib),(by show 3<=aj;decide),fun q hq=>⟨ld,_,.ref q,rfl,rfl,kp h1 hq,by rw[ai];exact ax (by omega),?_⟩⟩;refine⟨_,_,_,_,us'++[q],rfl,?_,by rw[aa,ay];rfl,?_⟩
 ·intro b o e;rw[ag (ae e h0)];exact kp (S1 _ _ e) hq
 ·rw[take_snoc hdr,ay,<-cU];have hk:ii H1 (upd (upd H1 q (.tup [.str (fB names r o dr.a),.ref sb,.str (fB names r o dr.b)])) ld (.lst (us'.map V.ref++[.ref q]))):=(ac.kt (ac.new hq)).trans (cJ (kp h1 hq));refine cG (D1.kt hk) ⟨sb,?_,hk _ _ hs2⟩;exact(cJ (kp h1 hq)) _ _ aa
theorem vy{H:Hp}{s u:Addr}{a b:Str}(hs:H s=none)(hu:upd H s (.tup [.str "still"]) u=none):gp (upd (upd H s (.tup [.str "still"])) u (.tup [.str a,.ref s,.str b])) u ⟨a,am,b⟩/\ac H (upd (upd H s (.tup [.str "still"])) u (.tup [.str a,.ref s,.str b])) :=
 ⟨⟨s,aa,kp (x:=.tup [.str a,.ref s,.str b]) (show upd H s (.tup [.str "still"]) s=some (.tup (am.map V.str))from aa) hu⟩,(ac.new hs).trans (ac.new hu)⟩
theorem G9{K:Za}(h:rX vs H Q E):AG K jM oQ (bH Q) (start BW vs) H:=by
 obtain⟨p,c,t1,t2,l1,l2,m3,m4,n3,n4,ts1,ts2,J0,J1,r1,r2,d1,d2,rfl,hp,T1,T2,o1,o2,z1,z2,k⟩:=h;refine⟨_,rfl,p,c,rfl,hp,fun H1 hp1 ex1=>?_⟩;have T11:=T1.ex hp ex1;have T21:=T2.ex hp ex1;refine⟨_,rfl,_,rfl,t1,_,2,_,rfl,rfl,bD.of T11.t,aJ (j:=2) rfl,.inl ⟨m3,_,rfl,.inl (aA.of T11.a3),_,_,rfl,rfl,_,rfl,t2,_,2,_,rfl,rfl,bD.of T21.t,aJ (j:=2) rfl,.inl ⟨n3,_,rfl,.inl (aA.of T21.a3),_,_,rfl,rfl,p,c,1+r1.length+r2.length,?_,hp1,by omega,fun ln names H2 okn lenn frn hln hp2 ex2=>?_⟩⟩⟩
 ·rw[ai,ai];rfl
 have T12:=T11.ex hp1 ex2;have T22:=T21.ex hp1 ex2;refine⟨_,rfl,t1,_,2,_,rfl,rfl,bD.of T12.t,aJ (j:=2) rfl,.inl ⟨m3,_,rfl,.inl (aA.of T12.a3),_,_,rfl,rfl,(by show 2<=aj;decide),fun la hla=>?_⟩⟩;have ea:[V.int 1,V.int (1+((r1.map V.str).length:Nat))]=(([1,1+r1.length]:List Nat).map fun(n:Nat)=>(n:Int)).map V.int:=by rw[ai];rfl
 rw[ea];have S3:ac H2 (upd H2 la (.lst ((([1,1+r1.length]:List Nat).map fun(n:Nat)=>(n:Int)).map V.int))):=ac.new hla;have hla3:upd H2 la (.lst ((([1,1+r1.length]:List Nat).map fun(n:Nat)=>(n:Int)).map V.int)) la=some (.lst ((([1,1+r1.length]:List Nat).map fun(n:Nat)=>(n:Int)).map V.int)):=aa;generalize upd H2 la (.lst ((([1,1+r1.length]:List Nat).map fun(n:Nat)=>(n:Int)).map V.int))=H3 at S3 hla3 ⊢;have T13:=T12.same S3;have T23:=T22.same S3;have hp3:=hp2.ex S3;have hln3:=S3 _ _ hln;have p1:0<r1.length:=nh.2 o1.rooms0;have p2:0<r2.length:=nh.2 o2.rooms0;have nm:∀i,i<names.length->(names.map V.str)[i]?=some (.str (names.getD i "")):=fun i hi=>by
  rw[bw,gM,aV hi];rfl
 have n0:=nm 0 (by omega);have n1:=nm 1 (by omega);have n2:=nm (1+r1.length) (by omega);refine⟨_,rfl,ln,_,0,_,rfl,rfl,aA.of hln3,aJ (j:=0) n0,(by show 1<=aj;decide),fun s1 hs1=>⟨_,rfl,_,rfl,la,_,1,_,rfl,rfl,aA.of (kp hla3 hs1),aJ (j:=1) rfl,ln,_,_,_,rfl,rfl,aA.of (kp hln3 hs1),aJ (j:=1+r1.length) n2,(by show 3<=aj;decide),fun u1 hu1=>?_⟩⟩;obtain⟨A4,S4⟩:=vy (a:=names.getD 0 "") (b:=names.getD (1+r1.length) "") hs1 hu1;generalize upd (upd H3 s1 (.tup [.str "still"])) u1 (.tup [.str (names.getD 0 ""),.ref s1,.str (names.getD (1+r1.length) "")])=H4 at A4 S4 ⊢;refine⟨_,rfl,ln,_,0,_,rfl,rfl,aA.of (S4 _ _ hln3),aJ (j:=0) n0,(by show 1<=aj;decide),fun s2 hs2=>⟨_,rfl,_,rfl,la,_,0,_,rfl,rfl,aA.of (kp (S4 _ _ hla3) hs2),aJ (j:=0) rfl,ln,_,_,_,rfl,rfl,aA.of (kp (S4 _ _ hln3) hs2),aJ (j:=1) n1,(by show 3<=aj;decide),fun u2 hu2=>?_⟩⟩;obtain⟨A5,S5⟩:=vy (a:=names.getD 0 "") (b:=names.getD 1 "") hs2 hu2;generalize upd (upd H4 s2 (.tup [.str "still"])) u2 (.tup [.str (names.getD 0 ""),.ref s2,.str (names.getD 1 "")])=H5 at A5 S5 ⊢;refine⟨(by show 2<=aj;decide),fun ld hld=>?_⟩;refine⟨_,rfl,_,rfl,(by show 2<=aj;decide),fun le hle=>?_⟩;have S35:=S4.trans S5;have hld0:ld≠le:=fun e=>by rw[e,aa]at hle;cases hle
 have ld7:upd (upd H5 ld (.lst [.ref u1,.ref u2])) le (.lst [.ref t1,.ref t2]) ld=some (.lst (([u1,u2]:Ze).map V.ref)):=by rw[ag hld0,aa];rfl
 have le7:upd (upd H5 ld (.lst [.ref u1,.ref u2])) le (.lst [.ref t1,.ref t2]) le=some (.lst [.ref t1,.ref t2]):=aa;have S57:ac H5 (upd (upd H5 ld (.lst [.ref u1,.ref u2])) le (.lst [.ref t1,.ref t2])):=(ac.new hld).trans (ac.new hle);generalize upd (upd H5 ld (.lst [.ref u1,.ref u2])) le (.lst [.ref t1,.ref t2])=H7 at ld7 le7 S57 ⊢;refine⟨le,rfl,⟨_,aA.of le7⟩,?_⟩;obtain⟨H0,hH0⟩:∃H0:Hp,H0=fun b=>if b=ld then none else H7 b:=⟨_,rfl⟩
 have S07:ac H0 H7:=fun b o e=>by
  rw[hH0]at e;have e:(if b=ld then none else H7 b)=some o:=e
  split at e
  ·cases e
  ·exact e
 have S50:ac H5 H0:=fun b o e=>by
  rw[hH0];show(if b=ld then none else H7 b)=some o
  rw[if_neg (ae e hld)];exact S57 _ _ e
 have h00:H0 ld=none:=by rw[hH0];exact if_pos rfl
 have le0:H0 le=some (.lst [.ref t1,.ref t2]):=by rw[hH0];show(if le=ld then none else H7 le)=_;rw[if_neg hld0.symm];exact le7
 clear hH0;have S30:=S35.trans S50;have T10:=T13.same S30;have T20:=T23.same S30;have ln0:=S30 _ _ hln3;have la0:=S30 _ _ hla3;have few1:d1.length<=81:=bL (r8 o1) (jk z1 (sn 9 z1));have few2:d2.length<=81:=bL (r8 o2) (jk z2 (sn 9 z2));obtain⟨Dn,hDn⟩:∃Dn:Nat->List ao,Dn=fun i=>⟨names.getD 0 "",am,names.getD (1+r1.length) ""⟩::⟨names.getD 0 "",am,names.getD 1 ""⟩::((if 1<=i then d1.map (d9 (fB names r1 1))else[])++if 2<=i then d2.map (d9 (fB names r2 (1+r1.length)))else[]):=⟨_,rfl⟩
 have e0:Dn 0=[⟨names.getD 0 "",am,names.getD (1+r1.length) ""⟩,⟨names.getD 0 "",am,names.getD 1 ""⟩]:=by rw[hDn];rfl
 have e1:Dn 1=Dn 0++d1.map (d9 (fB names r1 1)):=by rw[e0,hDn];simp
 have e2:Dn 2=Dn 1++d2.map (d9 (fB names r2 (1+r1.length))):=by rw[e1,e0,hDn];simp
 have eD:Dn 2=ip names r1 r2 d1 d2:=by rw[hDn];rfl
 have l0:(Dn 0).length=2:=by rw[e0];rfl
 have l1':(Dn 1).length=2+d1.length:=by rw[e1,az,l0,ai]
 clear hDn;refine jX (xs:=[.ref t1,.ref t2]) (fun i σ H'=>∃(y6 y7 y8 y9 y10 y11:Option V) (us:Ze),σ=[some (.ref p),some (.ref t1),some (.ref t2),some (.ref ln),some (.ref la),some (.ref ld),y6,y7,y8,y9,y10,y11]/\ac H0 H'/\H' ld=some (.lst (us.map V.ref))/\cj H' us (Dn i))
  ⟨_,_,_,_,_,_,[u1,u2],rfl,S07,ld7,by rw[e0];exact .cons (A4.kt (ac.kt (S5.trans S57))) (.cons (A5.kt (ac.kt S57)) .nil)⟩ (fun i σ H' _ ⟨_,_,_,_,_,_,_,_,S',_,_⟩=>aA.of (S' _ _ le0)) ?_ ?_
 ·rintro i x σ H8 q hx ⟨y6,y7,y8,y9,y10,y11,us,rfl,S8,h8,D8⟩ hq;have S9:ac H8 (upd H8 q (.tup [.int i,x])):=ac.new hq;refine⟨q,_,rfl,bD.of aa,rfl,_,_,rfl,_,_,rfl,rfl,?_⟩;generalize upd H8 q (.tup [.int i,x])=H9 at S9 ⊢
  match i,hx with
  |0,hx =>
   cases hx;exact C6 (i:=0) (ats:=[1,1+r1.length]) T10 (fun x hx=>⟨(o1.good x hx).a,(o1.good x hx).b⟩) ln0 la0 rfl (by omega) (by omega) (by rw[l0];omega) h00 (S8.trans S9) (S9 _ _ h8) (D8.kt (ac.kt S9)) fun _ _ _ _ H' us' S' h' D'=>⟨_,_,_,_,_,_,us',rfl,S',h',by rw[e1];exact D'⟩
  |1,hx =>
   cases hx;exact C6 (i:=1) (ats:=[1,1+r1.length]) T20 (fun x hx=>⟨(o2.good x hx).a,(o2.good x hx).b⟩) ln0 la0 rfl (by omega) (by omega) (by rw[l1'];omega) h00 (S8.trans S9) (S9 _ _ h8) (D8.kt (ac.kt S9)) fun _ _ _ _ H' us' S' h' D'=>⟨_,_,_,_,_,_,us',rfl,S',h',by rw[e2];exact D'⟩
  |i+2,hx=>cases hx
 rintro σ H8 ⟨y6,y7,y8,y9,y10,y11,us,rfl,S8,h8,D8⟩;have D8:cj H8 us (ip names r1 r2 d1 d2):=by rw[<-eD];exact D8
 have S38:=S30.trans S8;have T18:=T13.same S38;refine⟨_,rfl,t1,_,0,_,rfl,rfl,bD.of T18.t,aJ (j:=0) rfl,_,rfl,t1,_,1,_,rfl,rfl,bD.of T18.t,aJ (j:=1) rfl,_,rfl,_,rfl,(by show 4<=aj;decide),fun t' ht'=>?_⟩;exact k t' ln ld us names _ ⟨aa,kp T18.a1 ht',kp T18.a2 ht',kp (S38 _ _ hln3) ht',kp h8 ht',D8.kt (ac.kt (ac.new ht'))⟩ okn lenn ((hp3.ex S38).ex (ac.new ht')) (((ex1.trans ex2).trans (ac.exB (S3.trans S38))).trans (cQ.new ht'))
def Bw(f:Addr)(H:Hp):Hp:=fun b=>if b=f then none else H b
theorem xU{f b:Addr}{H:Hp}{o:HO}(n:b≠f)(h:H b=some o):Bw f H b=some o:=by
 unfold Bw;rw[if_neg n];exact h
theorem pe:ac (Bw f H) H:=fun b o e=>by
 unfold Bw at e;split at e
 ·cases e
 ·exact e
theorem FW(S:ac H H'):ac (Bw f H) (Bw f H'):=fun b o e=>by
 have n:b≠f:=fun z=>by unfold Bw at e;rw[if_pos z]at e;cases e
 exact xU n (S _ _ (pe _ _ e))
theorem Hs{H:Hp}{o:HO}:Bw f (upd H f o)=Bw f H:=by
 funext b;unfold Bw;by_cases c:b=f
 ·rw[if_pos c,if_pos c]
 ·rw[if_neg c,if_neg c,ag c]
theorem FO{K:Za}{H:Hp}{Q:VK}{f:Addr}{vs:List V}(hf:H f=some (.lst vs))(M:bd C H x J0 J1 J2 ds)(N:bd C H y J0 J1 rooms' ds')(tk:∀r∈rooms',∀a∈J0,eF ds' r a)(z1:J2.length<=3)(z2:rooms'.length<=7)
  (k:∀(u:Addr) (H':Hp),ig K J0 J1 (Bw f H') u (leastG J0 J1 J2 rooms' ds ds')->ac H H'->Q (.ref u) H'):iH K C [.ref x,.ref y] H Q E:=by
 have nt:∀{H':Hp}{b:Addr}{xs:List V},ac H H'->H' b=some (.tup xs)->Bw f H' b=some (.tup xs):=fun{H' b xs} S h=>xU (fun z=>by rw[z,S _ _ hf]at h;cases h) h;refine DW M N tk z1 z2 (fun lf u l ps H' hu hl _ l0 S=>k u H' ?_ S) (fun s g lf u l b gs H' hu hl hg hb l0 S=>k u H' ?_ S)
 ·rw[lf];exact⟨l,_,nt S hu,xU (ae hf l0).symm hl⟩
 ·rw[lf];have kt:ii H' (Bw f H'):=fun b xs h=>nt S h;exact⟨l,b,gs,nt S hu,xU (ae hf l0).symm hl,Paired.mapP hg fun _ _ r=>bB.kt kt r,bB.kt kt hb,xY (fH M.ok N.ok lf).1,(zS (A:=behF J2 ds) (B:=behF rooms' ds') (ss:=av J0 J1) (k:=(closF J2 ds (J2.take 1),closF rooms' ds' (rooms'.take 1))) 1100).2 _ lf⟩
inductive sp_law27(K:Za)(vs:List V)(H:Hp)(Q:VK)(E:XK):Prop
 |mk (a:Addr) (ns:List Int):(vs=[.ref a])->(aA K H a (ns.map V.int))->(ns.length<=63)->(∀H',Q (.bl true) H')->sp_law27 K vs H Q E
theorem Fd{K:Za}(h:sp_law27 K vs H Q E):GR K (iR K 3) (xv K) rX (iH K C) (ke C) rU oN (rT K) (bH Q) (start Dc vs) H:=by
 obtain⟨a,ns,rfl,hs,hn,k⟩:=h;have nk:("fault":Str)≠"keeps":=by decide
 refine⟨_,rfl,a,ns,rfl,hs,hn,fun p c H1 _ hp1 S1=>?_⟩;refine⟨_,rfl,p,c,3,0,rfl,hp1,by decide,by decide,by decide,by decide,fun t l1 l2 l3 l4 ts J0 J1 J2 ds H2 T m zr zd hp2 ex2=>?_⟩;have zr:J2.length<=3:=zr;refine⟨_,rfl,_,rfl,p,c,t,l1,l2,l3,l4,ts,J0,J1,J2,ds,3,rfl,hp2,T,m,by omega,by omega,by omega,fun t1 m3 m4 ts1 r1 d1 H3 T1 m1 tk1 len1 zd1 hp3 ex3=>?_⟩;have T3:=T.ex hp2 ex3;refine⟨_,rfl,_,rfl,p,c,t,l1,l2,l3,l4,ts,J0,J1,J2,ds,3,rfl,hp3,T3,m,by omega,by omega,by omega,fun t2 n3 n4 ts2 r2 d2 H4 T2 m2 tk2 len2 zd2 hp4 ex4=>?_⟩;have T4:=T3.ex hp3 ex4;have T14:=T1.ex hp3 ex4;refine⟨_,rfl,t,l1,l2,l3,l4,ts,J0,J1,J2,ds,rfl,T4,m,fun x H5 M5 S5=>?_⟩;refine⟨_,rfl,_,rfl,_,rfl,_,rfl,_,rfl,p,c,t1,t2,l1,l2,m3,m4,n3,n4,ts1,ts2,J0,J1,r1,r2,d1,d2,rfl,hp4.ex S5,T14.same S5,T2.same S5,m1,m2,by omega,by omega,fun tb q3 q4 tsb names H6 Tb okn lenn hp6 ex6=>?_⟩;have hp5:=hp4.ex S5;have M6:=M5.ex hp5 ex6;have T6:=(T4.same S5).ex hp5 ex6;have T16:=(T14.same S5).ex hp5 ex6;have T26:=(T2.same S5).ex hp5 ex6;refine⟨(by show 3<=aj;decide),fun le hle=>?_⟩;have S7:ac H6 (upd H6 le (.lst [.ref t1,.ref t2,.ref tb])):=ac.new hle;have le7:upd H6 le (.lst [.ref t1,.ref t2,.ref tb]) le=some (.lst [.ref t1,.ref t2,.ref tb]):=aa;generalize upd H6 le (.lst [.ref t1,.ref t2,.ref tb])=H7 at S7 le7 ⊢;have M7:=M6.same S7;have T7:=T6.same S7;have T17:=T16.same S7;have T27:=T26.same S7;have Tb7:=Tb.same S7;have mb:=aD.both m1 m2 okn lenn (by omega) (by omega);have tkb:=BH m1 m2 okn lenn tk1 tk2;have hz:names[0]?=some (names.getD 0 ""):=by rw[gM,aV (by omega)];rfl
 have lb:=Bq (yh m1 m2 okn lenn) hz m m1 m2 mb zr (by omega) (by omega) (by omega);clear hp5 M5 M6 T6 T16 T26 Tb T4 T14 T3 hle ex2 ex3 ex4 ex6 hp1 hp2 hp3 hp4 T1 T2 T S1 S5 S7;generalize ip names r1 r2 d1 d2=db at mb tkb lb Tb7;refine⟨le,rfl,⟨_,aA.of le7⟩,fun f hf=>?_⟩;obtain⟨os,hos⟩:∃os,os=[leastG J0 J1 J2 r1 ds d1,leastG J0 J1 J2 r2 ds d2,leastG J0 J1 J2 names ds db]:=⟨_,rfl⟩;refine cX (xs:=[.ref t1,.ref t2,.ref tb]) (fun i vs H'=>∃us:List Addr,vs=us.map V.ref/\ac H7 H'/\H' f=some (.lst vs)/\Paired (fun u o=>ig K J0 J1 (Bw f H') u o) us (os.take i)) ⟨[],rfl,ac.new hf,aa,.nil⟩ (fun i vs H' _ ⟨_,_,S,h',_⟩=>⟨h',aA.of (S _ _ le7)⟩) ?_ ?_;rotate_left
 ·rintro i vs H' v hv hi ⟨us,rfl,S,h',hP⟩;obtain⟨tj,a3,a4,tsj,rj,dj,rfl,Tj,mj,tkj,zj,oj⟩:∃tj a3 a4 tsj rj dj,v=.ref tj/\iB H7 tj l1 l2 a3 a4 tsj J0 J1 rj dj/\aD J0 J1 rj dj/\(∀r∈rj,∀a∈J0,eF dj r a)/\rj.length<=7/\os[i]?=some (leastG J0 J1 J2 rj ds dj):=by
   rw[hos]
   match i,hv with
   |0,hv=>cases hv;exact⟨t1,m3,m4,ts1,r1,d1,rfl,T17,m1,tk1,by omega,rfl⟩
   |1,hv=>cases hv;exact⟨t2,n3,n4,ts2,r2,d2,rfl,T27,m2,tk2,by omega,rfl⟩
   |2,hv=>cases hv;exact⟨tb,q3,q4,tsb,names,db,rfl,Tb7,mb,tkb,by omega,rfl⟩
   |i+3,hv=>cases hv
  refine gN (rC ?_);refine⟨_,rfl,_,rfl,tj,l1,l2,a3,a4,tsj,J0,J1,rj,dj,rfl,Tj.same S,mj,fun y H8 N8 S8=>?_⟩;have hi3:i<3:=hi;refine FO (S8 _ _ h') ((M7.same S).same S8) N8 tkj zr zj fun u H9 hu S9=>?_;have S89:=S8.trans S9;refine⟨S89 _ _ h',?_,uB hi ⟨us++[u],by rw[ay];rfl,fun b o e=>?_,aa,?_⟩⟩
  ·rw[ai,Paired.length hP];exact ax (by rw[aM];omega)
  ·rw[ag (ae e hf)];exact S89 _ _ (S _ _ e)
  ·rw[take_snoc oj,Hs];exact cG (Paired.mapP hP fun _ _ r=>ig.same (FW S89) r) hu
 rintro vs H8 ⟨us,rfl,S8,f8,hP⟩;have hP:Paired (fun u o=>ig K J0 J1 (Bw f H8) u o) us os:=by rw[hos]at hP ⊢;exact hP
 rw[hos,lb]at hP;obtain⟨u1,u2,ub,rfl,P1,P2,Pb⟩:∃u1 u2 ub,us=[u1,u2,ub]/\ig K J0 J1 H8 u1 (leastG J0 J1 J2 r1 ds d1)/\ig K J0 J1 H8 u2 (leastG J0 J1 J2 r2 ds d2)/\ig K J0 J1 H8 ub (BB (av J0 J1) (leastG J0 J1 J2 r1 ds d1) (leastG J0 J1 J2 r2 ds d2)):=by
  cases hP with
  |cons a hP=>cases hP with
   |cons b hP=>cases hP with
    |cons c hP=>cases hP;exact⟨_,_,_,rfl,ig.same pe a,ig.same pe b,ig.same pe c⟩
 clear hP hos;have T8:=T7.same S8;generalize leastG J0 J1 J2 r1 ds d1=o1 at P1 Pb;generalize leastG J0 J1 J2 r2 ds d2=o2 at P2 Pb;refine⟨(by show 0<=aj;decide),fun lk hlk=>?_⟩;have S9:ac H8 (upd H8 lk (.lst [])):=ac.new hlk;have lk9:upd H8 lk (.lst []) lk=some (.lst ((Hv (av J0 J1) none).map V.int)):=aa;generalize upd H8 lk (.lst [])=H9 at S9 lk9 ⊢;refine⟨_,rfl,_,rfl,f,_,rfl,aA.of (S9 _ _ f8),fun le2 hle2=>?_⟩;have cv:gg (([u1,u2,ub]:Ze).map V.ref) none (some 2)=[.ref u1,.ref u2]:=Gq _ 2;rw[cv];have S10:ac H9 (upd H9 le2 (.lst [.ref u1,.ref u2])):=ac.new hle2;have le10:upd H9 le2 (.lst [.ref u1,.ref u2]) le2=some (.lst [.ref u1,.ref u2]):=aa;generalize upd H9 le2 (.lst [.ref u1,.ref u2])=H10 at S10 le10 ⊢;refine⟨le2,rfl,⟨_,aA.of le10⟩,?_⟩;have S810:=S9.trans S10;have P1:=ig.same S810 P1;have P2:=ig.same S810 P2;have Pb:=ig.same S810 Pb;have T10:=T8.same S810;have f10:=S810 _ _ f8;clear T8 S810 f8 S8 T7 T17 T27 Tb7 M7;obtain⟨du,hdu⟩:∃du:Nat->Option (List Sg×Sg),du=fun i=>if i=0 then none else if i=1 then o1 else BB (av J0 J1) o1 o2:=⟨_,rfl⟩
 refine cg (xs:=[.ref u1,.ref u2]) (fun i σ H'=>∃(v:V) (lk:Addr) (y9 y10:Option V),σ=[some (.ref a),some (.ref p),some (.ref t),some (.ref t1),some (.ref t2),some (.ref x),some (.ref f),some v,some (.ref lk),y9,y10]/\ac H10 H'/\H' lk=some (.lst ((Hv (av J0 J1) (du i)).map V.int))/\((du i=none/\v=.non)∨∃u,v=.ref u/\(du i).isSome/\ig K J0 J1 H' u (du i)))
  ⟨.non,lk,_,_,rfl,ac.refl _,by rw[hdu];exact S10 _ _ lk9,.inl ⟨by rw[hdu];rfl,rfl⟩⟩ (fun i σ H' _ ⟨_,_,_,_,_,S,_⟩=>aA.of (S _ _ le10)) ?_ ?_
 ·rintro i w σ H11 hw ⟨v,lk,y9,y10,rfl,S11,lk11,hv⟩;obtain⟨u,o,rfl,hu,nx⟩:∃u o,w=.ref u/\ig K J0 J1 H11 u o/\du (i+1)=BB (av J0 J1) (du i) o:=by
   match i,hw with
   |0,hw=>cases hw;exact⟨u1,o1,rfl,ig.same S11 P1,by rw[hdu];rfl⟩
   |1,hw=>cases hw;exact⟨u2,o2,rfl,ig.same S11 P2,by rw[hdu];rfl⟩
   |i+2,hw=>cases hw
  generalize du (i+1)=d' at nx ⊢;generalize du i=d at nx lk11 hv;cases o with
  |none =>
   obtain⟨l,ps,h1,h2⟩:=hu;have nx:d'=d:=by rw[nx];cases d<;>rfl
   subst nx;refine⟨_,rfl,u,_,0,_,rfl,rfl,bD.of h1,aJ (j:=0) rfl,rfl,_,rfl,?_⟩;refine i6 (fun z=>absurd z (by simp[nk.symm])) fun _=>?_;exact⟨v,lk,_,_,rfl,S11,lk11,hv⟩
  |some z =>
   obtain⟨l,b,gs,h1,h2,h3,h4,h5,h6⟩:=hu;have h6:z.1.length<=1100:=h6;refine⟨_,rfl,u,_,0,_,rfl,rfl,bD.of h1,aJ (j:=0) rfl,rfl,_,rfl,?_⟩;refine i6 (fun _=>?_) fun z=>absurd (zzr1 rfl) z;refine⟨_,rfl,_,rfl,u,_,1,_,rfl,rfl,bD.of h1,aJ (j:=1) rfl,_,rfl,u,_,2,_,rfl,rfl,bD.of h1,aJ (j:=2) rfl,(by show 1<=aj;decide),fun e he=>⟨l,e,_,_,rfl,rfl,kp h2 he,aa,?_,fun q hq=>?_⟩⟩
   ·rw[ai,Paired.length h3,kM];show z.1.length+1<=_;omega
   have S:ac H11 (upd (upd H11 e (.lst [.ref b])) q (.lst (gs.map V.ref++[.ref b]))):=(ac.new he).trans (ac.new hq);refine⟨t,q,l1,l2,l3,l4,ts,gs++[b],J0,J1,J2,ds,z.1++[z.2],rfl,(T10.same S11).same S,m,by rw[aa,ay];rfl,cG (BK.same S h3) (bB.kt (ac.kt S) h4),h5,by rw[az];show z.1.length+1<=2000;omega,fun lq H12 hlq S12=>?_⟩;have Sx:=S.trans S12;have hu':ig K J0 J1 H12 u (some z):=ig.same Sx ⟨l,b,gs,h1,h2,h3,h4,h5,h6⟩;refine⟨_,rfl,_,rfl,?_⟩;rcases hv with⟨rfl,rfl⟩|⟨u',rfl,is,hd⟩
   ·rw[zzr1 rfl];refine dk (dk ⟨_,rfl,_,rfl,?_⟩);exact⟨.ref u,lq,_,_,rfl,S11.trans Sx,by rw[nx];exact hlq,.inr ⟨u,rfl,by rw[nx];rfl,by rw[nx];exact hu'⟩⟩
   ·rw[zzr0 (fun z=>by cases z)];cases d with
    |none=>cases is
    |some y =>
     refine bR ⟨_,rfl,_,rfl,lq,lk,_,_,rfl,rfl,aA.of hlq,aA.of (Sx _ _ lk11),_,rfl,?_⟩;have nx:d'=if HT.lexLt (kS (av J0 J1) (z.1++[z.2])) (Hv (av J0 J1) (some y))=true then some z else some y:=nx
     by_cases c:HT.lexLt (kS (av J0 J1) (z.1++[z.2])) (Hv (av J0 J1) (some y))=true
     ·rw[if_pos c]at nx;rw[c];refine dk ⟨_,rfl,_,rfl,?_⟩;exact⟨.ref u,lq,_,_,rfl,S11.trans Sx,by rw[nx];exact hlq,.inr ⟨u,rfl,by rw[nx];rfl,by rw[nx];exact hu'⟩⟩
     ·rw[if_neg c]at nx;rw[Bool.eq_false_iff.2 c];refine bR ?_;exact⟨.ref u',lk,_,_,rfl,S11.trans Sx,by rw[nx];exact Sx _ _ lk11,.inr ⟨u',rfl,by rw[nx];rfl,by rw[nx];exact ig.same Sx hd⟩⟩
 rintro σ H11 ⟨v,lk,y9,y10,rfl,S11,_,hv⟩;have d2:du 2=BB (av J0 J1) o1 o2:=by rw[hdu];rfl
 have hv:(du 2=none/\v=.non)∨∃u,v=.ref u/\(du 2).isSome/\ig K J0 J1 H11 u (du 2):=hv;rw[d2]at hv;have Pb:=ig.same S11 Pb;have f11:=S11 _ _ f10;generalize BB (av J0 J1) o1 o2=od at hv Pb;refine⟨_,rfl,_,rfl,?_⟩;rcases hv with⟨rfl,rfl⟩|⟨u',rfl,is,hd⟩
 ·rw[zzr1 rfl];obtain⟨l,ps,h1,h2⟩:=Pb;refine dk ⟨_,rfl,f,_,2,_,rfl,rfl,aA.of f11,aJ (j:=2) rfl,.inl ⟨ub,_,rfl,.inr (bD.of h1),rfl,_,rfl,?_⟩⟩;refine i6 (fun _=>?_) fun z=>absurd rfl z;refine⟨_,rfl,f,_,2,_,rfl,rfl,aA.of f11,aJ (j:=2) rfl,ub,_,0,_,rfl,rfl,bD.of h1,aJ (j:=0) rfl,_,_,fK "keeps",rfl,lS _,lS _,(by show 0<=3;decide),fun H12 S12=>k _⟩
 ·rw[zzr0 (fun z=>by cases z)];cases od with
  |none=>cases is
  |some y =>
   refine bR ?_;obtain⟨l,b,gs,h1,h2,h3,h4,h5,h6⟩:=Pb;obtain⟨l',b',gs',h1',h2',h3',h4',h5',h6'⟩:=hd;refine⟨_,rfl,f,_,2,_,rfl,rfl,aA.of f11,aJ (j:=2) rfl,_,rfl,_,_,_,rfl,CZ h1 h2 h3 h4,CZ h1' h2' h3' h4',Ef _ _,fun H12 S12=>k _⟩
def gC(i:Nat):Stmt:=PySem.Challenge.pw_mumtrial_k27_two_under_one_door.main.body.getD i (.Pass ⟨0,0,0,0⟩)
local macro_rules | `(tactic| walk_at "s")=>`(tactic| exact⟨rfl,rfl,rfl,by decide +kernel,rfl,by decide +kernel,by decide +kernel⟩)
local macro_rules | `(tactic| walk_at "l")=>`(tactic| (intro _ _ _ _ h;first|exact len_h h|exact len_g h|(cases h;subst_vars;rfl)|(obtain⟨_,_,h,_⟩:=h;subst h;rfl)|((repeat obtain⟨_,h⟩:=h);subst_vars;rfl)))
theorem zzlS{us:List Value}{n:Nat}(h:us.length=n+1):∃ a t,us=a::t∧t.length=n:=by
  cases us with
  |nil=>cases h
  |cons a t=>exact⟨a,t,rfl,Nat.succ.inj h⟩
local macro_rules | `(tactic| walk_at "b")=>`(tactic| (intro _ _ _ _ _ _ us hl;(repeat (have h:=zzlS hl;clear hl;obtain⟨_,_,e,hl⟩:=h;subst e));cases List.eq_nil_of_length_eq_zero hl;rfl))
def JC(K:Za)(x qual:Str)(st:Stmt)(f:Addr):Prop:=∃(oc:Value) (od an:Option Addr) (sl:Array (Option Value)) (kV dc pm cd ct:Value),
 K.lookup f=some ⟨oc,od,.func (iP x qual (iA st) (gf st) (bY st) .none kV dc pm an cd ct),sl⟩/\nD K cd qual=true/\iK K (.ref f)=true
theorem Gd{K:Za}{x qual:Str}{st:Stmt}{f:Addr}{oc:Value}{od an:Option Addr}{sl:Array (Option Value)}{kV dc pm cd ct:Value}(l:K.lookup f=some ⟨oc,od,.func (iP x qual (iA st) (gf st) (bY st) .none kV dc pm an cd ct),sl⟩)
  (c:nD K cd qual=true) (k:iK K (.ref f)=true):JC K x qual st f:=⟨oc,od,an,sl,kV,dc,pm,cd,ct,l,c,k⟩
def iY(K:Za)(x:Str)(st:Stmt):Prop:=∃f,cr K bV x=some (some (.ref f))/\JC K x x st f
theorem fnG_mk{K:Za}{x:Str}{st:Stmt}{f:Addr}{oc:Value}{od an:Option Addr}{sl:Array (Option Value)}{kV dc pm cd ct:Value}(a:cr K bV x=some (some (.ref f)))(l:K.lookup f=some ⟨oc,od,.func (iP x x (iA st) (gf st) (bY st) .none kV dc pm an cd ct),sl⟩)
  (c:nD K cd x=true) (k:iK K (.ref f)=true):iY K x st:=⟨f,a,Gd l c k⟩
def De(K:Za)(C:Addr)(m qual:Str)(st:Stmt):Prop:=∃f,dw K (.ref C) m=some (some (.ref f))/\yE K (.ref f)=true/\JC K m qual st f
theorem fnM_mk{K:Za}{C:Addr}{m qual:Str}{st:Stmt}{f:Addr}{oc:Value}{od an:Option Addr}{sl:Array (Option Value)}{kV dc pm cd ct:Value}(a:dw K (.ref C) m=some (some (.ref f)))(i:yE K (.ref f)=true)
  (l:K.lookup f=some ⟨oc,od,.func (iP m qual (iA st) (gf st) (bY st) .none kV dc pm an cd ct),sl⟩) (c:nD K cd qual=true) (k:iK K (.ref f)=true):De K C m qual st:=⟨f,a,i,Gd l c k⟩
theorem JC.fun_{K:Za}{x qual:Str}{st:Stmt}{f:Addr}(T:JC K x qual st f):∃fd,Ja K x qual st f fd:=by
 obtain⟨oc,od,an,sl,kV,dc,pm,cd,ct,l,c,k⟩:=T;exact⟨_,Ga (st:=st) l c k⟩
def Je:Sp:=fun _ _ _ _=>False
theorem Jl{P:ck}{w:World}{K:Za}{mg:Str->Option Value}{base:Heap}{k:Nat}{f:Addr}{fd:kK}{ps:Zb}:l9 P w K mg base CX0 k f fd ps Je:=⟨fun _ _ _ _ h=>h.elim,fun _ _ _ _ _ _ _ _ _ _ _ _ _ h=>h.elim⟩
def IT(K:Za)(a:Addr)(ws:Zb):Prop:=∀H,bD K H a (ws.map V.str)
theorem Cp{K:Za}{a:Addr}{ws:Zb}{o:Obj}{its:Array Value}{n:Nat}(l:K.lookup a=some o)(c:o.cls=.type "tuple")(d:o.data=.seq its n)(z:its.size<=aj)(v:aZ (ws.map V.str) its.toList):IT K a ws :=
 fun _=>.inr ⟨o,its,n,l,c,d,z,v⟩
section
variable{P:ck}{w:World}{K:Za}{mg:Str->Option Value}{base h:Heap}{C:Addr}{x qual:Str}{st:Stmt}{N ps:Zb}{k:Nat}{sp:Sp}
abbrev GC(ps:Zb)(sp:Sp):Prop:=∀vs H Q E,sp vs H Q E->vs.length=ps.length
abbrev BodyOk(CX:ED)(P:ck)(w:World)(K:Za)(mg:Str->Option Value)(base:Heap)(qual:Str)(st:Stmt)(N:Zb)(k:Nat)(sp:Sp)(nox:Cx->Cx):Prop:=N.Nodup->∀(f:Addr) (cdv:Value) (A:Around) (outer:List Env) (s:Shared) (H:Hp) (vs:List V) (Q:VK) (E:XK),eV k (A.deeper (envOfC qual (bY st) s.heap.objs.size f cdv))->(A.deeper (envOfC qual (bY st) s.heap.objs.size f cdv)).units+16<cLine->sp vs H Q E ->
 ∃t,At (nox (BD CX P w K mg base N qual (bY st) f cdv A outer s H E)) (gf st) t/\t (bH Q) (start N vs) H
abbrev BZ(x qual:Str)(st:Stmt)(ps:Zb):Prop:=∀(kV doc pm:Value) (an:Option Addr) (cdv ct:Value) (us:Zf),us.length=ps.length->bindArgs (iP x qual (iA st) (gf st) (bY st) .none kV doc pm an cdv ct) ⟨us,[]⟩=pure (ps.zip us)
theorem dG(X:K.In h)(G:h.Ns bV mg)(T:iY K x st)(b:BodyOk CX0 P w K mg base x st N k sp Cx.nox)(bi:BZ x x st ps)(S:kA N ps (bY st):=by walk_at "s")(l:GC ps sp:=by walk_at "l"):iq P w K mg base x ps (k+1) sp:=by
 obtain⟨f,a,t⟩:=T;obtain⟨fd,F⟩:=t.fun_;exact⟨f,fd,F.ok S l fun cdv A outer s H vs Q E hr h=>b S.nd f cdv A outer s H vs Q E hr (CW hr) h,gL X G a,F.kp,F.binds bi⟩
theorem dM(cl:Df K C)(T:De K C x qual st)(b:BodyOk CX0 P w K mg base qual st N k sp Cx.nox)(bi:BZ x qual st ps)(S:kA N ps (bY st):=by walk_at "s")(l:GC ps sp:=by walk_at "l"):Dd P w K mg base C x ps (k+1) sp:=by
 obtain⟨f,a,i,t⟩:=T;obtain⟨fd,F⟩:=t.fun_;exact⟨f,fd,F.ok S l fun cdv A outer s H vs Q E hr h=>b S.nd f cdv A outer s H vs Q E hr (CW hr) h,cl,⟨a,i,F.kp⟩,F.binds bi⟩
theorem dN{y:Str}(cm:mg y=some (.ref C))(mk:sk K C=true)(kc:iK K (.ref C)=true)(T:De K C "__init__" qual st)(b:BodyOk CX0 P w K mg base qual st N k sp Cx.nox)(bi:BZ "__init__" qual st ps)(S:kA N ps (bY st):=by walk_at "s")(l:GC ps sp:=by walk_at "l"):JS P w K mg base y C ps (k+1) sp:=by
 obtain⟨f,a,i,t⟩:=T;obtain⟨fd,F⟩:=t.fun_;exact⟨f,fd,F.ok S l fun cdv A outer s H vs Q E hr h=>b S.nd f cdv A outer s H vs Q E hr (CW hr) h,cm,⟨mk,a,i,kc⟩,F.binds bi⟩
end
structure Zs(mg:Str->Option Value):Prop where
 all:mg "all"=none
 any:mg "any"=none
 bool:mg "bool"=none
 dict:mg "dict"=none
 enumerate:mg "enumerate"=none
 int:mg "int"=none
 isinstance:mg "isinstance"=none
 len:mg "len"=none
 list:mg "list"=none
 max:mg "max"=none
 range:mg "range"=none
 str:mg "str"=none
 tuple:mg "tuple"=none
 zip:mg "zip"=none
structure Cs(K:Za)(mg:Str->Option Value)(C Cf a_STILL a_HUSH:Addr):Prop where
 LETTERS:Gc mg "LETTERS" (.str "abcdefghijklmnopqrstuvwxyz")
 LONGEST_NAME:Gc mg "LONGEST_NAME" (.int 8)
 MOST_WORDS:Gc mg "MOST_WORDS" (.int 4)
 MOST_ROOMS:Gc mg "MOST_ROOMS" (.int 150)
 MOST_DOORS:Gc mg "MOST_DOORS" (.int 2000)
 MOST_FACES:Gc mg "MOST_FACES" (.int 400)
 STILL:Gc mg "STILL" (.ref a_STILL)
 HUSH:Gc mg "HUSH" (.ref a_HUSH)
 still:IT K a_STILL am
 hush:IT K a_HUSH bT
 mc:MC K C
 cm:mg "Machine"=some (.ref C)
 makes:sk K C=true
 kc:iK K (.ref C)=true
 fc:FC K Cf
 cmf:mg "FaceMap"=some (.ref Cf)
 makesf:sk K Cf=true
 kcf:iK K (.ref Cf)=true
structure Ts(K:Za)(C Cf:Addr):Prop where
 f_law_spread:iY K "_law_spread" (gC 47)
 f_law_open:iY K "_law_open" (gC 48)
 f_law_anew:iY K "_law_anew" (gC 49)
 f_law_take:iY K "_law_take" (gC 50)
 f_law_names:iY K "_law_names" (gC 51)
 f_law_put:iY K "_law_put" (gC 52)
 f_law_draw_doors:iY K "_law_draw_doors" (gC 53)
 f_law_model:iY K "_law_model" (gC 54)
 f_is_name:iY K "is_name" (gC 23)
 f_as_keys:iY K "as_keys" (gC 24)
 f_first_wrong_name:iY K "first_wrong_name" (gC 25)
 f_door_signs:iY K "door_signs" (gC 26)
 f_first_wrong_door:iY K "first_wrong_door" (gC 27)
 f_goals_by_start_and_sign:iY K "goals_by_start_and_sign" (gC 28)
 f_led_by_still:iY K "led_by_still" (gC 29)
 f_first_led_round:iY K "first_led_round" (gC 30)
 f_need_none:iY K "need_none" (gC 31)
 f_need_parts:iY K "need_parts" (gC 32)
 f_doors_by_start:iY K "doors_by_start" (gC 33)
 f_has_asks_alone:iY K "has_asks_alone" (gC 34)
 f_Machine___init__:De K C "__init__" "Machine.__init__" (fX (gC 35) 0)
 f_law_machine:iY K "_law_machine" (gC 60)
 f_Machine_rooms:De K C "rooms" "Machine.rooms" (fX (gC 35) 3)
 f_Machine_led_from:De K C "led_from" "Machine.led_from" (fX (gC 35) 8)
 f_with_still:iY K "with_still" (gC 9)
 f_Machine_goals:De K C "goals" "Machine.goals" (fX (gC 35) 7)
 f_Machine_is_quiet:De K C "is_quiet" "Machine.is_quiet" (fX (gC 35) 5)
 f_law_still_on:iY K "_law_still_on" (gC 55)
 f_law_signs:iY K "_law_signs" (gC 62)
 f_law_same:iY K "_law_same" (gC 61)
 f_Machine_asks:De K C "asks" "Machine.asks" (fX (gC 35) 1)
 f_Machine_says:De K C "says" "Machine.says" (fX (gC 35) 2)
 f_first_face:iY K "first_face" (gC 10)
 f_face_behind:iY K "face_behind" (gC 11)
 f_signs_in_order:iY K "signs_in_order" (gC 8)
 f_steps_at:iY K "steps_at" (gC 12)
 f_FaceMap_number_at:De K Cf "number_at" "FaceMap.number_at" (fX (gC 15) 1)
 f_FaceMap_numbered_steps:De K Cf "numbered_steps" "FaceMap.numbered_steps" (fX (gC 15) 2)
 f_FaceMap___init__:De K Cf "__init__" "FaceMap.__init__" (fX (gC 15) 0)
 f_takes:iY K "takes" (gC 38)
 f_need_match:iY K "need_match" (gC 37)
 f_need_all_asks_taken:iY K "need_all_asks_taken" (gC 39)
 f_need_taker:iY K "need_taker" (gC 40)
 f_Machine_doors_from:De K C "doors_from" "Machine.doors_from" (fX (gC 35) 6)
 f_story_to:iY K "story_to" (gC 41)
 f_least_fault:iY K "least_fault" (gC 42)
 f_rows_needed:iY K "rows_needed" (gC 43)
 f_paper_of:iY K "paper_of" (gC 44)
 f_keeps:iY K "keeps" (gC 45)
 f_law_willing:iY K "_law_willing" (gC 56)
 f_law_turned:iY K "_law_turned" (gC 57)
 f_law_renamed:iY K "_law_renamed" (gC 58)
 f_law_near:iY K "_law_near" (gC 59)
 f_law_key:iY K "_law_key" (gC 63)
 f_law_both:iY K "_law_both" (gC 64)
 f_law27:iY K "law" (gC 65)
section
variable{P:ck}{w:World}{K:Za}{mg:Str->Option Value}{base h:Heap}{C Cf a_STILL a_HUSH:Addr}
section
variable(P:ck)(w:World)(K:Za)(mg:Str->Option Value)(C Cf a_STILL a_HUSH:Addr)
abbrev kG:Prop:=∀base,iq P w K mg base "_law_spread" ["cell","at"] 1 me
abbrev ux:Prop:=∀base,iq P w K mg base "_law_open" ["script"] 1 (rT K)
abbrev i0:Prop:=∀base,iq P w K mg base "_law_anew" ["pen"] 1 oQ
abbrev dQ:Prop:=∀base,iq P w K mg base "_law_take" ["pen","many"] 2 fj
abbrev hZ:Prop:=∀base,iq P w K mg base "_law_names" ["pen","many"] 3 jM
abbrev j3:Prop:=∀base,iq P w K mg base "_law_put" ["doors","door"] 1 ka
abbrev gX:Prop:=∀base,iq P w K mg base "_law_draw_doors" ["pen","asks","says","rooms","full"] 3 g_
abbrev rB:Prop:=∀base,iq P w K mg base "_law_model" ["pen","most","full"] 4 oN
abbrev qK:Prop:=∀base,iq P w K mg base "is_name" ["text"] 1 sp_is_name
abbrev j4:Prop:=∀base,iq P w K mg base "as_keys" ["things"] 1 (sp_as_keys K)
abbrev fA:Prop:=∀base,iq P w K mg base "first_wrong_name" ["names","most","taken"] 2 (sp_first_wrong_name K)
abbrev kI:Prop:=∀base,iq P w K mg base "door_signs" ["asks","says"] 1 (sp_door_signs K)
abbrev fC:Prop:=∀base,iq P w K mg base "first_wrong_door" ["doors","rooms","signs"] 2 (sp_first_wrong_door K)
abbrev cW:Prop:=∀base,iq P w K mg base "goals_by_start_and_sign" ["doors"] 1 oO
abbrev iZ:Prop:=∀base,iq P w K mg base "led_by_still" ["goals","room"] 1 xu
abbrev gA:Prop:=∀base,iq P w K mg base "first_led_round" ["rooms","led"] 1 sp_first_led_round
abbrev jj:Prop:=∀base,iq P w K mg base "need_none" ["part","number"] 1 sp_need_none
abbrev kD:Prop:=∀base,iq P w K mg base "need_parts" ["asks","says","rooms","doors"] 3 sp_need_parts
abbrev g6:Prop:=∀base,iq P w K mg base "doors_by_start" ["rooms","doors"] 1 sp_doors_by_start
abbrev gZ:Prop:=∀base,iq P w K mg base "has_asks_alone" ["doors"] 1 sp_has_asks_alone
abbrev qM:Prop:=∀base,JS P w K mg base "Machine" C ["self","asks","says","rooms","doors"] 4 (rV C)
abbrev ng:Prop:=∀base,iq P w K mg base "_law_machine" ["told"] 6 (ke C)
abbrev cY:Prop:=∀base,Dd P w K mg base C "rooms" ["self"] 1 (iS C)
abbrev dR:Prop:=∀base,Dd P w K mg base C "led_from" ["self","room"] 1 (hJ C)
abbrev iE:Prop:=∀base,iq P w K mg base "with_still" ["M","rooms"] 2 (sp_with_still C)
abbrev fq:Prop:=∀base,Dd P w K mg base C "goals" ["self","room","sign"] 1 (iG C)
abbrev dS:Prop:=∀base,Dd P w K mg base C "is_quiet" ["self","room"] 1 (hU C)
abbrev gy:Prop:=∀base,iq P w K mg base "_law_still_on" ["doors","rooms"] 1 (fF K)
abbrev l_:Prop:=∀base,iq P w K mg base "_law_signs" ["told"] 1 oJ
abbrev uw:Prop:=∀base,iq P w K mg base "_law_same" ["found","due"] 4 (iR K 3)
abbrev eR:Prop:=∀base,Dd P w K mg base C "asks" ["self"] 1 (mh C)
abbrev gB:Prop:=∀base,Dd P w K mg base C "says" ["self"] 1 (oK C)
abbrev kH:Prop:=∀base,iq P w K mg base "first_face" ["M"] 3 (dZ C)
abbrev jy:Prop:=∀base,iq P w K mg base "face_behind" ["M","face","sign"] 3 (rW K C)
abbrev gW:Prop:=∀base,iq P w K mg base "signs_in_order" ["M"] 2 (xr C a_HUSH)
abbrev oo:Prop:=∀base,iq P w K mg base "steps_at" ["M","face"] 4 (j_ C)
abbrev dq:Prop:=∀base,Dd P w K mg base Cf "number_at" ["self","face","story"] 1 (lF K Cf)
abbrev de:Prop:=∀base,Dd P w K mg base Cf "numbered_steps" ["self","number"] 5 (jb K Cf C)
abbrev qN:Prop:=∀base,JS P w K mg base "FaceMap" Cf ["self","M"] 6 (mf K Cf C)
abbrev yC:Prop:=∀base,iq P w K mg base "takes" ["I","room","ask"] 2 (jL C)
abbrev kE:Prop:=∀base,iq P w K mg base "need_match" ["M","I"] 2 (fS C)
abbrev d_:Prop:=∀base,iq P w K mg base "need_all_asks_taken" ["I"] 4 (iu C)
abbrev kC:Prop:=∀base,iq P w K mg base "need_taker" ["M","I"] 5 (fR C)
abbrev eQ:Prop:=∀base,Dd P w K mg base C "doors_from" ["self","room"] 1 (hC C)
abbrev on:Prop:=∀base,iq P w K mg base "story_to" ["came","place"] 1 (fy K)
abbrev jv:Prop:=∀base,iq P w K mg base "least_fault" ["model_steps","machine_steps"] 2 (g8 K)
abbrev ju:Prop:=∀base,iq P w K mg base "rows_needed" ["I","room","face","steps"] 2 (oM K C)
abbrev oq:Prop:=∀base,iq P w K mg base "paper_of" ["model","I"] 3 (kb K Cf C)
abbrev Dg:Prop:=∀base,iq P w K mg base "keeps" ["M","I"] 8 (iH K C)
abbrev jw:Prop:=∀base,iq P w K mg base "_law_willing" ["pen","told"] 3 j9
abbrev kF:Prop:=∀base,iq P w K mg base "_law_turned" ["pen","told"] 3 ma
abbrev jx:Prop:=∀base,iq P w K mg base "_law_renamed" ["pen","told"] 4 i_
abbrev uy:Prop:=∀base,iq P w K mg base "_law_near" ["pen","told","most"] 5 rU
abbrev wb:Prop:=∀base,iq P w K mg base "_law_key" ["told","story"] 2 (xv K)
abbrev uz:Prop:=∀base,iq P w K mg base "_law_both" ["pen","first","second"] 4 rX
end
section
variable(X:K.In h)(G:h.Ns bV mg)(z:Zs mg)(c:Cs K mg C Cf a_STILL a_HUSH)(T:Ts K C Cf)
include X G z c T
theorem uO:kG P w K mg:=fun base=>dG X G T.f_law_spread (fun S _ _ _ _ _ _ _ _ _ hr hu h=>bK (Dz (K:=K) h) (ab (bx (jF Jk (pv 0) (aQ Fw ah ah)) (af (aE (pv 0))) aP) (ab (qs 2 S (aQ gU (aQ cw (aQ cw (aQ iV (aQ gU (pv 0) ah) ah) (aQ iV (pv 1) ah)) ah) ah)) (ab (qs 3 S (aQ gU (aQ cw (aQ cw (aQ iV (pv 2) (pv 2)) (aQ iV (pv 1) ah)) (aQ gU (pv 0) ah)) ah)) (ab (qs 4 S (aQ gU (aQ cw (aQ cw (aQ iV (pv 3) (pv 3)) (aQ iV (pv 2) ah)) ah) ah)) (af (aE (aQ cw (aQ iV (aQ cw (aQ iV (pv 2) ah) (pv 3)) ah) (pv 4))))))))) (by walk_at "b")
theorem y3:ux P w K mg:=fun base=>dG X G T.f_law_open (fun S _ _ _ _ _ _ _ _ _ hr hu h=>bK (G4 h) (ab (qs 1 S (qL rfl z.list (a1 (c8 fT (pv 0) fV (c7 ah))))) (ab (bI bh rfl (mn rfl z.enumerate (a1 (c8 fT (pv 0) (c7 ah) (c7 ah)))) (cV rfl (au (gn 2 S) (au (gn 3 S) b9))) (af (iU (aQ cw (xl (pv 1) (aQ gU (pv 2) ah)) (pv 3)) (tP (pv 1) (aQ gU (pv 2) ah) lG)))) (af (aE (bc (a3 (pv 1) ah ah))))))) (by walk_at "b")
theorem za:i0 P w K mg:=fun base=>dG X G T.f_law_anew (fun S _ _ _ _ _ _ _ _ _ hr hu h=>bK (Ha (K:=K) h) (ab (iU ah (tP (pv 0) ah lG)) (af (aE (pv 0))))) (by walk_at "b")
theorem yY(D_law_spread:kG P w K mg):dQ P w K mg:=fun base=>dG X G T.f_law_take (fun S _ _ _ _ _ _ _ _ _ hr hu h=>bK (G1 h) (ab (bx (jF vK (xl (pv 0) ah) (pv 1)) (ab (qs 2 S (xl (pv 0) ah)) (ab (qs 3 S ah) (ab (bx (jF vK (pv 2) (ql z.len (a1 (xl (pv 0) ah)))) (af (qs 3 S (xl (xl (pv 0) ah) (pv 2)))) (af (bx (jF zG (ql z.len (a1 (xl (pv 0) ah))) ah) (af (qs 3 S (aQ gU (xl (xl (pv 0) ah) (aQ gU (aQ cw (aQ iV (pv 2) ah) ah) (ql z.len (a1 (xl (pv 0) ah))))) (aQ cw (aQ Fw ah ah) (pv 2))))) aP))) (ab (iU (aQ cw (pv 2) ah) (tP (pv 0) ah lG)) (af (iU (qf hr (D_law_spread base) (a2 (pv 3) (pv 2))) (tP (pv 0) ah lG))))))) aP) (ab (qs 4 S (aQ gU (xl (pv 0) ah) (pv 1))) (ab (iU (aQ CK (xl (pv 0) ah) (pv 1)) (tP (pv 0) ah lG)) (af (aE (pv 4))))))) (by walk_at "b")
theorem xm(D_law_take:dQ P w K mg):hZ P w K mg:=fun base=>dG X G T.f_law_names (fun S _ _ _ _ _ _ _ _ _ hr hu h=>bK (Fb h) (ab (qs 2 S bz) (ab (qs 3 S (eK PySem.F.plainAttrs_str PySem.F.slot_str_join PySem.F.type_str_join Hn bz (a1 (qc (jO rfl z.range (a1 ah)) (bA (by decide)) fun _ _ _ _ _ _=>⟨gc 0,cE,xs' (pv 1) (qf hr (D_law_take base) (a2 (pv 2) ah))⟩)))) (ab (qs 4 S (qf hr (D_law_take base) (a2 (pv 0) ah))) (ab (qs 5 S (qf hr (D_law_take base) (a2 (pv 0) ah))) (ab (qs 6 S (qf hr (D_law_take base) (a2 (pv 0) ah))) (ab (qs 7 S (bc cM)) (ab (bI bh rfl (jO rfl z.range (a1 (pv 1))) (gn 8 S) (ab (qs 9 S (xs' (pv 2) (aQ gU (aQ cw (pv 5) (aQ iV ah (pv 8))) ah))) (ab (qs 10 S (c8 AS (pv 3) fV (c7 (aQ gU (aQ cw (pv 6) (aQ iV (pv 8) (aQ gU (pv 4) ah))) ah)))) (ab (qs 11 S (xl (bc (a3 ah (ql z.len (a1 (pv 10))) (aQ CK (ql z.len (a1 (pv 10))) ah))) (pv 4))) (af (aU (eK cF eX eW bQ (pv 7) (a1 (aQ tS (aQ tS (c8 AS (pv 10) fV (c7 (pv 11))) (pv 9)) (c8 AS (pv 10) (c7 (pv 11)) fV)))))))))) (af (aE (pv 7))))))))))) (by walk_at "b")
theorem AJ:j3 P w K mg:=fun base=>dG X G T.f_law_put (fun S _ _ _ _ _ _ _ _ _ hr hu h=>bK (Iv h) (af (bx (Jc (mr hu) (pv 1) (pv 0)) (af (aU (eK cF eX eW bQ (pv 0) (a1 (pv 1))))) aP))) (by walk_at "b")
theorem oF(D_law_take:dQ P w K mg)(D_law_put:j3 P w K mg):gX P w K mg:=fun base=>dG X G T.f_law_draw_doors (fun S _ _ _ _ _ _ _ _ _ hr hu h=>bK (uX h) (ab (qs 5 S (bc cM)) (ab (qs 6 S (qf hr (D_law_take base) (a2 (pv 0) ah))) (ab (bI bh rfl (mn rfl z.enumerate (a1 (pv 3))) (cV rfl (au (gn 7 S) (au (gn 8 S) b9))) (ab (bI bh rfl (jO rfl z.range (a1 (xl (bc (b_ ah (a3 ah ah ah))) (qf hr (D_law_take base) (a2 (pv 0) ah))))) (gn 9 S) (ab (qs 10 S (aK (a2 bz (xl (pv 2) (qf hr (D_law_take base) (a2 (pv 0) (ql z.len (a1 (pv 2))))))))) (af (aU (qf hr (D_law_put base) (a2 (pv 5) (aK (a3 (pv 8) (pv 10) (xl (pv 3) (qf hr (D_law_take base) (a2 (pv 0) (ql z.len (a1 (pv 3)))))))))))))) (ab (bI bh rfl (ba (pv 1)) (gn 11 S) (af (bI bh rfl (jO rfl z.range (a1 (xl (bc (b_ (pv 4) (a3 ah ah ah))) (qf hr (D_law_take base) (a2 (pv 0) ah))))) (gn 9 S) (af (aU (qf hr (D_law_put base) (a2 (pv 5) (aK (a3 (pv 8) (aK (a2 bz (pv 11))) (xl (pv 3) (qf hr (D_law_take base) (a2 (pv 0) (ql z.len (a1 (pv 3))))))))))))))) (ab (qs 12 S (xl (bc (a2 (c8 fT (pv 3) (c7 (aQ cw (pv 7) ah)) fV) (c8 fT (pv 3) fV (c7 (pv 7))))) (pv 6))) (af (bx (PW.pt (nQ (jF (xD hu) (pv 12) (bc cM)) (oZ (jF je (qf hr (D_law_take base) (a2 (pv 0) ah)) ah)))) (af (aU (qf hr (D_law_put base) (a2 (pv 5) (aK (a3 (pv 8) (aK (a1 bz)) (xq (pv 12) (qf hr (D_law_take base) (a2 (pv 0) (ql z.len (a1 (pv 12)))))))))))) aP)))))) (af (aE (pv 5))))))) (by walk_at "b")
theorem xn(D_law_anew:i0 P w K mg)(D_law_take:dQ P w K mg)(D_law_names:hZ P w K mg)(D_law_draw_doors:gX P w K mg):rB P w K mg:=fun base=>dG X G T.f_law_model (fun S _ _ _ _ _ _ _ _ _ hr hu h=>bK (Fc h) (ab (aU (qf hr (D_law_anew base) (a1 (pv 0)))) (ab (qs 3 S (qf hr (D_law_names base) (a2 (pv 0) ah))) (ab (qs 4 S (c8 fT (pv 3) fV (c7 (aQ cw ah (xl (bc (b_ ah (b_ ah (b_ ah (a3 ah ah ah))))) (qf hr (D_law_take base) (a2 (pv 0) ah))))))) (ab (qs 5 S (c8 fT (pv 3) (c7 ah) (c7 (aQ cw ah (xl (bc (b_ ah (b_ ah (b_ ah (a3 ah ah ah))))) (qf hr (D_law_take base) (a2 (pv 0) ah))))))) (ab (qs 6 S (qf hr (D_law_names base) (a2 (pv 0) (aQ cw ah (qf hr (D_law_take base) (a2 (pv 0) (pv 1))))))) (ab (qs 7 S (qf hr (D_law_draw_doors base) (b_ (pv 0) (b_ (pv 4) (a3 (pv 5) (pv 6) (pv 2)))))) (af (aE (aK (b_ (pv 4) (a3 (pv 5) (pv 6) (pv 7))))))))))))) (by walk_at "b")
theorem AL:qK P w K mg:=fun base=>dG X G T.f_is_name (fun S _ _ _ _ _ _ _ _ _ hr hu h=>bK (A2 h) (af (aE (qj (Hw vJ (pv 0) bz) (qj (Hw Jj (ql z.len (a1 (pv 0))) (jP rfl c.LONGEST_NAME)) (xC (qB (rq rfl) z.all boot_all (a1 (qc (IA (pv 0)) (bA (by decide)) fun _ _ _ _ _ _=>⟨gc 0,cE,eci Be (pv 0) (jP rfl c.LETTERS)⟩))))))))) (by walk_at "b")
theorem AM:j4 P w K mg:=fun base=>dG X G T.f_as_keys (fun S _ _ _ _ _ _ _ _ _ hr hu h=>bK (A6 h) (ab (qs 1 S lL) (ab (bI bh rfl (ba (pv 0)) (gn 2 S) (af (iy hu (pv 1) (pv 2) im rfl))) (af (aE (pv 1)))))) (by walk_at "b")
theorem mJ(D_is_name:qK P w K mg)(D_as_keys:j4 P w K mg):fA P w K mg:=fun base=>dG X G T.f_first_wrong_name (fun S _ _ _ _ _ _ _ _ _ hr hu h=>bK (mL h) (ab (bx (jF je (ql z.len (a1 (pv 0))) ah) (af (aE ah)) aP) (ab (qs 3 S (qf hr (D_as_keys base) (a1 (pv 2)))) (ab (bI bh rfl (mn rfl z.enumerate (a1 (pv 0))) (cV rfl (au (gn 4 S) (au (gn 5 S) b9))) (ab (bx (PW.pt (oY (jF je (pv 4) (pv 1)) (oY (dI (qk hu (pv 5) (pv 3))) (nP (A_ (lJ (qf hr (D_is_name base) (a1 (pv 5))))))))) (af (aE (pv 4))) aP) (af (iy hu (pv 3) (pv 5) im rfl)))) (af (aE qi)))))) (by walk_at "b")
theorem uQ:kI P w K mg:=fun base=>dG X G T.f_door_signs (fun S _ _ _ _ _ _ _ _ _ hr hu h=>bK (uZ c.still h) (af (aE (aQ h_ (aQ h_ (qc (ba (pv 0)) (bA (by decide)) fun _ _ _ _ _ _=>⟨gc 0,cE,aK (a2 bz (pv 0))⟩) (qc (ba (pv 1)) (bA (by decide)) fun _ _ _ _ _ _=>⟨gc 0,cE,aK (a2 bz (pv 0))⟩)) (bc (a1 (jP rfl c.STILL))))))) (by walk_at "b")
theorem mK(D_as_keys:j4 P w K mg):fC P w K mg:=fun base=>dG X G T.f_first_wrong_door (fun S _ _ _ _ _ _ _ _ _ hr hu h=>bK (mM h) (ab (qs 3 S (qf hr (D_as_keys base) (a1 (pv 1)))) (ab (qs 4 S lK) (ab (bI bh rfl (mn rfl z.enumerate (a1 (pv 0))) (cV rfl (au (gn 5 S) (au (gn 6 S) b9))) (ab (bx (PW.pt (oY (jF je (pv 5) (jP rfl c.MOST_DOORS)) (nP (dI (qk hu (pv 6) (pv 4)))))) (af (aE (pv 5))) aP) (ab (bx (PW.pt (oY (dI (fG hu (xq (pv 6) ah) (pv 3))) (oY (Jc (mr hu) (xq (pv 6) ah) (pv 2)) (nP (dI (fG hu (xq (pv 6) ah) (pv 3))))))) (af (aE (pv 5))) aP) (af (iy hu (pv 4) (pv 6) im rfl))))) (af (aE qi)))))) (by walk_at "b")
theorem iQ:cW P w K mg:=fun base=>dG X G T.f_goals_by_start_and_sign (fun S _ _ _ _ _ _ _ _ _ hr hu h=>bK (iT h) (ab (qs 1 S lK) (ab (bI bh rfl (ba (pv 0)) (cV rfl (au (gn 2 S) (au (gn 3 S) (au (gn 4 S) b9)))) (af (aU (eK cF eX eW bQ (eK PySem.F.plainAttrs_dict PySem.F.slot_dict_setdefault PySem.F.type_dict_setdefault (DM hu) (pv 1) (a2 (aK (a2 (pv 2) (pv 3))) (bc cM))) (a1 (pv 4)))))) (af (aE (pv 1)))))) (by walk_at "b")
theorem rH:iZ P w K mg:=fun base=>dG X G T.f_led_by_still (fun S _ _ _ _ _ _ _ _ _ hr hu h=>bK (rK c.still h) (ab (qs 2 S lL) (ab (qs 3 S (bc (a1 (pv 1)))) (ab (jN bh (jF zG (ql z.len (a1 (pv 3))) ah) (ab (qs 4 S (Bd cF PySem.F.slot_list_pop PySem.F.type_list_pop FH (pv 3))) (af (bI bh rfl (IB (o6 hu (pv 0) (aK (a2 (pv 4) (jP rfl c.STILL))) (aK cM) ⟨rfl,rfl,rfl,rfl⟩)) (gn 5 S) (af (bx (dI (fG hu (pv 5) (pv 2))) (ab (iy hu (pv 2) (pv 5) im rfl) (af (aU (eK cF eX eW bQ (pv 3) (a1 (pv 5)))))) aP)))))) (af (aE (pv 2))))))) (by walk_at "b")
theorem nM:gA P w K mg:=fun base=>dG X G T.f_first_led_round (fun S _ _ _ _ _ _ _ _ _ hr hu h=>bK (nO h) (ab (bI bh rfl (mn rfl z.enumerate (a1 (pv 0))) (cV rfl (au (gn 2 S) (au (gn 3 S) b9))) (af (bx (dI (qk hu (pv 3) (fk hu (pv 1) (pv 3) (fun _ _=>rfl)))) (af (aE (pv 2))) aP))) (af (aE qi)))) (by walk_at "b")
theorem xj:jj P w K mg:=fun base=>dG X G T.f_need_none (fun S _ _ _ _ _ _ _ _ _ hr hu h=>bK (xy (K:=K) h) (af (bx (dI (CG (pv 1))) (af (o0)) aP))) (by walk_at "b")
theorem uL(D_first_wrong_name:fA P w K mg)(D_door_signs:kI P w K mg)(D_first_wrong_door:fC P w K mg)(D_need_none:jj P w K mg):kD P w K mg:=fun base=>dG X G T.f_need_parts (fun S _ _ _ _ _ _ _ _ _ hr hu h=>bK (uU (K:=K) h) (ab (aU (qf hr (D_need_none base) (a2 bz (qf hr (D_first_wrong_name base) (a3 (pv 0) (jP rfl c.MOST_WORDS) (bc cM)))))) (ab (aU (qf hr (D_need_none base) (a2 bz (qf hr (D_first_wrong_name base) (a3 (pv 1) (jP rfl c.MOST_WORDS) (pv 0)))))) (ab (aU (qf hr (D_need_none base) (a2 bz (qf hr (D_first_wrong_name base) (a3 (pv 2) (jP rfl c.MOST_ROOMS) (bc cM)))))) (af (aU (qf hr (D_need_none base) (a2 bz (qf hr (D_first_wrong_door base) (a3 (pv 3) (pv 2) (qf hr (D_door_signs base) (a2 (pv 0) (pv 1))))))))))))) (by walk_at "b")
theorem oH:g6 P w K mg:=fun base=>dG X G T.f_doors_by_start (fun S _ _ _ _ _ _ _ _ _ hr hu h=>bK (oX h) (ab (qs 2 S lL) (ab (bI bh rfl (ba (pv 0)) (gn 3 S) (af (iy hu (pv 2) (pv 3) (bc cM) rfl))) (ab (bI bh rfl (ba (pv 1)) (gn 4 S) (af (aU (eK cF eX eW bQ (fk hu (pv 2) (xq (pv 4) ah) (fun _ _=>rfl)) (a1 (pv 4)))))) (af (aE (pv 2))))))) (by walk_at "b")
theorem oG:gZ P w K mg:=fun base=>dG X G T.f_has_asks_alone (fun S _ _ _ _ _ _ _ _ _ hr hu h=>bK (oW h) (af (aE (qB (rq rfl) z.all boot_all (a1 (qc (ba (pv 0)) (bA (by decide)) fun _ _ _ _ _ _=>⟨gc 0,cE,Hw je (xq (xq (pv 0) ah) ah) bz⟩)))))) (by walk_at "b")
theorem AN(D_as_keys:j4 P w K mg)(D_goals_by_start_and_sign:cW P w K mg)(D_led_by_still:iZ P w K mg)(D_first_led_round:gA P w K mg)(D_need_none:jj P w K mg)(D_need_parts:kD P w K mg)(D_doors_by_start:g6 P w K mg)(D_has_asks_alone:gZ P w K mg):qM P w K mg C:=fun base=>dN c.cm c.makes c.kc T.f_Machine___init__ (fun S _ _ _ _ _ _ _ _ _ hr hu h=>bK (G6 c.mc h) (ab (aU (qf hr (D_need_parts base) (b_ (pv 1) (a3 (pv 2) (pv 3) (pv 4))))) (ab (gS (pv 0) (qL rfl z.list (a1 (pv 1))) rfl) (ab (gS (pv 0) (qL rfl z.list (a1 (pv 2))) rfl) (ab (gS (pv 0) (qL rfl z.list (a1 (pv 3))) rfl) (ab (gS (pv 0) (qL rfl z.list (a1 (pv 4))) rfl) (ab (gS (pv 0) (qf hr (D_doors_by_start base) (a2 (pv 3) (pv 4))) rfl) (ab (gS (pv 0) (qf hr (D_as_keys base) (a1 (qc (ba (pv 3)) (bA (by decide)) fun _ _ _ _ _ _=>⟨gc 0,rZ (lJ (qf hr (D_has_asks_alone base) (a1 (fk hu (b0 (pv 1) rfl) (pv 0) (fun _ _=>rfl))))),pv 0⟩))) rfl) (ab (gS (pv 0) (qf hr (D_goals_by_start_and_sign base) (a1 (pv 4))) rfl) (ab (gS (pv 0) (mq (yg rfl) rfl z.dict BI (a1 (qc (ba (pv 3)) (bA (by decide)) fun _ _ _ _ _ _=>⟨gc 0,cE,aK (a2 (pv 0) (qf hr (D_led_by_still base) (a2 (b0 (pv 1) rfl) (pv 0))))⟩))) rfl) (af (aU (qf hr (D_need_none base) (a2 bz (qf hr (D_first_led_round base) (a2 (pv 3) (b0 (pv 0) rfl))))))))))))))))) (by walk_at "b")
theorem tq(D_Machine:qM P w K mg C):ng P w K mg C:=fun base=>dG X G T.f_law_machine (fun S _ _ _ _ _ _ _ _ _ hr hu h=>bK (A0 h) (af (aE (Bc (D_Machine base) (hr.mono (by decide)) rfl (b_ (qL rfl z.list (a1 (xq (pv 0) ah))) (a3 (qL rfl z.list (a1 (xq (pv 0) ah))) (qL rfl z.list (a1 (xq (pv 0) ah))) (qL rfl z.list (a1 (xq (pv 0) ah))))))))) (by walk_at "b")
theorem p6:cY P w K mg C:=fun base=>dM c.mc.cls T.f_Machine_rooms (fun S _ _ _ _ _ _ _ _ _ hr hu h=>bK (E_ c.mc h) (af (aE (qL rfl z.list (a1 (b0 (pv 0) rfl)))))) (by walk_at "b")
theorem mH:dR P w K mg C:=fun base=>dM c.mc.cls T.f_Machine_led_from (fun S _ _ _ _ _ _ _ _ _ hr hu h=>bK (zm c.mc h) (af (aE (qL rfl z.list (a1 (o6 hu (b0 (pv 0) rfl) (pv 1) (aK cM) ⟨rfl,rfl,rfl,rfl⟩)))))) (by walk_at "b")
theorem uJ(M_Machine_rooms:cY P w K mg C)(M_Machine_led_from:dR P w K mg C):iE P w K mg C:=fun base=>dG X G T.f_with_still (fun S _ _ _ _ _ _ _ _ _ hr hu h=>bK (uT h) (ab (qs 2 S lL) (ab (bI bh rfl (ba (pv 1)) (gn 3 S) (af (bx (dI (fG hu (pv 3) (pv 2))) (ab (iy hu (pv 2) (pv 3) im rfl) (af (bI bh rfl (ba (qm hr (M_Machine_led_from base) (pv 0) (a1 (pv 3)))) (gn 4 S) (af (iy hu (pv 2) (pv 4) im rfl))))) aP))) (af (aE (mq m9 rfl z.tuple lV (a1 (qc (ba (Fp hr (M_Machine_rooms base) (pv 0))) (bA (by decide)) fun _ _ _ _ _ _=>⟨gc 0,rZ (dI (qk hu (pv 0) (pv 1))),pv 0⟩)))))))) (by walk_at "b")
theorem p7:fq P w K mg C:=fun base=>dM c.mc.cls T.f_Machine_goals (fun S _ _ _ _ _ _ _ _ _ hr hu h=>bK (DA c.mc h) (af (aE (qL rfl z.list (a1 (o6 hu (b0 (pv 0) rfl) (aK (a2 (pv 1) (pv 2))) (aK cM) ⟨rfl,rfl,rfl,rfl⟩)))))) (by walk_at "b")
theorem mI:dS P w K mg C:=fun base=>dM c.mc.cls T.f_Machine_is_quiet (fun S _ _ _ _ _ _ _ _ _ hr hu h=>bK (zo c.mc h) (af (aE (Fv (qk hu (pv 1) (b0 (pv 0) rfl)))))) (by walk_at "b")
theorem rJ:gy P w K mg:=fun base=>dG X G T.f_law_still_on (fun S _ _ _ _ _ _ _ _ _ hr hu h=>bK (zg h) (ab (qs 2 S (qL rfl z.list (a1 (pv 1)))) (ab (qs 3 S ah) (ab (jN bh (jF vK (pv 3) (ql z.len (a1 (pv 2)))) (ab (bI bh rfl (ba (pv 0)) (cV rfl (au (gn 4 S) (au (gn 5 S) (au (gn 6 S) b9)))) (af (bx (PW.pt (nQ (jF (lM hu) (pv 4) (xq (pv 2) (pv 3))) (nQ (jF (lM hu) (pv 5) (aK (a1 bz))) (oZ (Jc (mr hu) (pv 6) (pv 2)))))) (af (aU (eK cF eX eW bQ (pv 2) (a1 (pv 6))))) aP))) (af (qs 3 S (aQ cw (pv 3) ah))))) (af (aE (pv 2))))))) (by walk_at "b")
theorem xk:l_ P w K mg:=fun base=>dG X G T.f_law_signs (fun S _ _ _ _ _ _ _ _ _ hr hu h=>bK (EX h) (af (aE (aQ h_ (aQ h_ (qc (ba (xq (pv 0) ah)) (bA (by decide)) fun _ _ _ _ _ _=>⟨gc 0,cE,aK (a2 bz (pv 0))⟩) (qc (ba (xq (pv 0) ah)) (bA (by decide)) fun _ _ _ _ _ _=>⟨gc 0,cE,aK (a2 bz (pv 0))⟩)) (bc (a1 (aK (a1 bz)))))))) (by walk_at "b")
theorem yZ:uw P w K mg:=fun base=>by
  have E0:iq P w K mg base "_law_same" ["found","due"] 0 Je:=by
   obtain⟨f,a,t⟩:=T.f_law_same;obtain⟨fd,F⟩:=t.fun_;exact⟨f,fd,Jl,gL X G a,F.kp,F.binds (ps:=["found","due"]) (by walk_at "b")⟩
  have st:∀(j:Nat) (sp:Sp),j<=8->(∀m,j=m+1->sp=(iR K m))->iq P w K mg base "_law_same" ["found","due"] j sp->iq P w K mg base "_law_same" ["found","due"] (j+1) (iR K j):=fun j sp hj hsp Ds=>dG X G T.f_law_same (fun S _ _ _ _ _ _ _ _ _ hr hu h=>bK (EY hj hsp h) (ab (bx (dI (tR (pv 1))) (af (aE (Fv (tR (pv 0))))) aP) (ab (bx (jF xE (pv 1) im) (af (aE (Hw xE (pv 0) im))) aP) (ab (bx (jF xE (pv 1) im) (af (aE (Hw xE (pv 0) im))) aP) (ab (bx (lJ (qB gh z.isinstance gj (a2 (pv 1) (vG rfl z.int)))) (af (aE (qj (qB gh z.isinstance gj (a2 (pv 0) (vG rfl z.int))) (qj (ID (qB gh z.isinstance gj (a2 (pv 0) (Bb rfl z.bool)))) (xC (Hw (lM hu) (pv 0) (pv 1))))))) aP) (ab (bx (lJ (qB gh z.isinstance gj (a2 (pv 1) (vF rfl z.str)))) (af (aE (qj (qB gh z.isinstance gj (a2 (pv 0) (vF rfl z.str))) (xC (Hw (lM hu) (pv 0) (pv 1)))))) aP) (ab (bx (PW.pt (oY (jF vJ (qB gh z.isinstance gj (a2 (pv 1) (qW rfl z.tuple))) (qB gh z.isinstance gj (a2 (pv 0) (qW rfl z.tuple)))) (nP (jF vJ (qB gh z.isinstance gj (a2 (pv 1) (tQ rfl z.list))) (qB gh z.isinstance gj (a2 (pv 0) (tQ rfl z.list))))))) (af (aE im)) aP) (ab (bx (jF vJ (ql z.len (a1 (pv 0))) (ql z.len (a1 (pv 1)))) (af (aE im)) aP) (ab (bI bh rfl (CB rfl z.zip (a2 (pv 0) (pv 1))) (cV rfl (au (gn 2 S) (au (gn 3 S) b9))) (af (bx (A_ (lJ (Ic Ds hr rfl (a2 (pv 2) (pv 3))))) (af (aE im)) aP))) (af (aE im))))))))))) (by walk_at "b") (l:=fun vs H Q E h=>by obtain⟨_,_,_,rfl,_⟩:=h;rfl);have E1:=st 0 _ (by decide) (fun m e=>by cases e) E0;have E2:=st 1 _ (by decide) (fun m e=>by cases e;rfl) E1;have E3:=st 2 _ (by decide) (fun m e=>by cases e;rfl) E2;have E4:=st 3 _ (by decide) (fun m e=>by cases e;rfl) E3;exact E4
theorem rG:eR P w K mg C:=fun base=>dM c.mc.cls T.f_Machine_asks (fun S _ _ _ _ _ _ _ _ _ hr hu h=>bK (G_ c.mc h) (af (aE (qL rfl z.list (a1 (b0 (pv 0) rfl)))))) (by walk_at "b")
theorem rF:gB P w K mg C:=fun base=>dM c.mc.cls T.f_Machine_says (fun S _ _ _ _ _ _ _ _ _ hr hu h=>bK (G3 c.mc h) (af (aE (qL rfl z.list (a1 (b0 (pv 0) rfl)))))) (by walk_at "b")
theorem uP(M_Machine_rooms:cY P w K mg C)(D_with_still:iE P w K mg C):kH P w K mg C:=fun base=>dG X G T.f_first_face (fun S _ _ _ _ _ _ _ _ _ hr hu h=>bK (uW h) (af (aE (qf hr (D_with_still base) (a2 (pv 0) (c8 fT (Fp hr (M_Machine_rooms base) (pv 0)) fV (c7 ah))))))) (by walk_at "b")
theorem tu(D_with_still:iE P w K mg C)(M_Machine_goals:fq P w K mg C)(M_Machine_is_quiet:dS P w K mg C):jy P w K mg C:=fun base=>dG X G T.f_face_behind (fun S _ _ _ _ _ _ _ _ _ hr hu h=>bK (G7 c.hush h) (ab (bx (jF (lM hu) (pv 2) (jP rfl c.HUSH)) (af (aE (mq m9 rfl z.tuple lV (a1 (qc (Fs (pv 1)) (bA (by decide)) fun _ _ _ _ _ _=>⟨gc 0,rZ (lJ (qm hr (M_Machine_is_quiet base) (pv 1) (a1 (pv 0)))),pv 0⟩))))) aP) (ab (qs 3 S (bc cM)) (ab (bI bh rfl (Fs (pv 1)) (gn 4 S) (af (aU (eK cF PySem.F.slot_list_extend PySem.F.type_list_extend DN (pv 3) (a1 (qm hr (M_Machine_goals base) (pv 0) (a2 (pv 4) (pv 2)))))))) (af (aE (qf hr (D_with_still base) (a2 (pv 0) (pv 3))))))))) (by walk_at "b")
theorem oE(M_Machine_asks:eR P w K mg C)(M_Machine_says:gB P w K mg C):gW P w K mg C a_HUSH:=fun base=>dG X G T.f_signs_in_order (fun S _ _ _ _ _ _ _ _ _ hr hu h=>bK (Iu h) (af (aE (aQ h_ (aQ h_ (qc (ba (Fp hr (M_Machine_asks base) (pv 0))) (bA (by decide)) fun _ _ _ _ _ _=>⟨gc 0,cE,aK (a2 bz (pv 0))⟩) (qc (ba (Fp hr (M_Machine_says base) (pv 0))) (bA (by decide)) fun _ _ _ _ _ _=>⟨gc 0,cE,aK (a2 bz (pv 0))⟩)) (bc (a1 (jP rfl c.HUSH))))))) (by walk_at "b")
theorem yW(D_face_behind:jy P w K mg C)(D_signs_in_order:gW P w K mg C a_HUSH):oo P w K mg C:=fun base=>dG X G T.f_steps_at (fun S _ _ _ _ _ _ _ _ _ hr hu h=>bK (AY c.hush h) (ab (qs 2 S lK) (ab (bI bh rfl (ba (qf hr (D_signs_in_order base) (a1 (pv 0)))) (gn 3 S) (ab (qs 4 S (qf hr (D_face_behind base) (a3 (pv 0) (pv 1) (pv 3)))) (af (bx (jF zG (ql z.len (a1 (pv 4))) ah) (af (o5 hu (pv 2) (pv 3) (pv 4) rfl)) aP)))) (af (aE (pv 2)))))) (by walk_at "b")
theorem lE:dq P w K mg Cf:=fun base=>dM c.fc.cls T.f_FaceMap_number_at (fun S _ _ _ _ _ _ _ _ _ hr hu h=>bK (Fa c.fc h) (ab (bx (dI (fG hu (pv 1) (b0 (pv 0) rfl))) (ab (bx (jF je (ql z.len (a1 (b0 (pv 0) rfl))) (jP rfl c.MOST_FACES)) (af (o0)) aP) (ab (iy hu (b0 (pv 0) rfl) (pv 1) (ql z.len (a1 (b0 (pv 0) rfl))) rfl) (ab (aU (eK cF eX eW bQ (b0 (pv 0) rfl) (a1 (pv 1)))) (af (aU (eK cF eX eW bQ (b0 (pv 0) rfl) (a1 (pv 2)))))))) aP) (af (aE (fk hu (b0 (pv 0) rfl) (pv 1) (fun _ _=>rfl)))))) (by walk_at "b")
theorem i5(D_steps_at:oo P w K mg C)(M_FaceMap_number_at:dq P w K mg Cf):de P w K mg C Cf:=fun base=>dM c.fc.cls T.f_FaceMap_numbered_steps (fun S _ _ _ _ _ _ _ _ _ hr hu h=>bK (zk c.fc h) (ab (qs 2 S lK) (ab (bI bh rfl (vE (qf hr (D_steps_at base) (a2 (b0 (pv 0) rfl) (xl (b0 (pv 0) rfl) (pv 1))))) (cV rfl (au (gn 3 S) (au (gn 4 S) b9))) (af (o5 hu (pv 2) (pv 3) (qm hr (M_FaceMap_number_at base) (pv 0) (a2 (pv 4) (aQ h_ (xl (b0 (pv 0) rfl) (pv 1)) (bc (a1 (pv 3)))))) rfl))) (af (aE (pv 2)))))) (by walk_at "b")
theorem AO(D_first_face:kH P w K mg C)(M_FaceMap_number_at:dq P w K mg Cf)(M_FaceMap_numbered_steps:de P w K mg C Cf):qN P w K mg C Cf:=fun base=>dN c.cmf c.makesf c.kcf T.f_FaceMap___init__ (fun S _ _ _ _ _ _ _ _ _ hr hu h=>bK (DC c.fc h) (ab (gS (pv 0) (pv 1) rfl) (ab (gS (pv 0) (bc cM) rfl) (ab (gS (pv 0) (bc cM) rfl) (ab (gS (pv 0) lK rfl) (ab (gS (pv 0) (bc cM) rfl) (ab (aU (qm hr (M_FaceMap_number_at base) (pv 0) (a2 (qf hr (D_first_face base) (a1 (pv 1))) (bc cM)))) (af (jN bh (jF vK (ql z.len (a1 (b0 (pv 0) rfl))) (ql z.len (a1 (b0 (pv 0) rfl)))) (af (aU (eK cF eX eW bQ (b0 (pv 0) rfl) (a1 (qm hr (M_FaceMap_numbered_steps base) (pv 0) (a1 (ql z.len (a1 (b0 (pv 0) rfl)))))))))))))))))) (by walk_at "b")
theorem ER(M_Machine_led_from:dR P w K mg C)(M_Machine_goals:fq P w K mg C):yC P w K mg C:=fun base=>dG X G T.f_takes (fun S _ _ _ _ _ _ _ _ _ hr hu h=>bK (EW h) (af (aE (qB (Ag rfl) z.any boot_any (a1 (qc (ba (aQ h_ (bc (a1 (pv 1))) (qm hr (M_Machine_led_from base) (pv 0) (a1 (pv 1))))) (bA (by decide)) fun _ _ _ _ _ _=>⟨gc 0,cE,Hw zG (ql z.len (a1 (qm hr (M_Machine_goals base) (pv 1) (a2 (pv 0) (aK (a2 bz (pv 2))))))) ah⟩)))))) (by walk_at "b")
theorem uM(M_Machine_asks:eR P w K mg C)(M_Machine_says:gB P w K mg C):kE P w K mg C:=fun base=>dG X G T.f_need_match (fun S _ _ _ _ _ _ _ _ _ hr hu h=>bK (tJ h) (af (bx (PW.pt (oY (jF (xD hu) (Fp hr (M_Machine_asks base) (pv 0)) (Fp hr (M_Machine_asks base) (pv 1))) (nP (jF (xD hu) (Fp hr (M_Machine_says base) (pv 0)) (Fp hr (M_Machine_says base) (pv 1)))))) (af (o0)) aP))) (by walk_at "b")
theorem j8(M_Machine_rooms:cY P w K mg C)(M_Machine_asks:eR P w K mg C)(D_takes:yC P w K mg C):d_ P w K mg C:=fun base=>dG X G T.f_need_all_asks_taken (fun S _ _ _ _ _ _ _ _ _ hr hu h=>bK (xz h) (af (bI bh rfl (ba (Fp hr (M_Machine_rooms base) (pv 0))) (gn 1 S) (af (bI bh rfl (ba (Fp hr (M_Machine_asks base) (pv 0))) (gn 2 S) (af (bx (A_ (lJ (qf hr (D_takes base) (a3 (pv 0) (pv 1) (pv 2))))) (af (o0)) aP))))))) (by walk_at "b")
theorem uK(D_need_match:kE P w K mg C)(D_need_all_asks_taken:d_ P w K mg C):kC P w K mg C:=fun base=>dG X G T.f_need_taker (fun S _ _ _ _ _ _ _ _ _ hr hu h=>bK (tI (K:=K) h) (ab (aU (qf hr (D_need_match base) (a2 (pv 0) (pv 1)))) (af (aU (qf hr (D_need_all_asks_taken base) (a1 (pv 1))))))) (by walk_at "b")
theorem kR:eQ P w K mg C:=fun base=>dM c.mc.cls T.f_Machine_doors_from (fun S _ _ _ _ _ _ _ _ _ hr hu h=>bK (uY c.mc h) (af (aE (qL rfl z.list (a1 (o6 hu (b0 (pv 0) rfl) (pv 1) (aK cM) ⟨rfl,rfl,rfl,rfl⟩)))))) (by walk_at "b")
theorem yV:on P w K mg:=fun base=>dG X G T.f_story_to (fun S _ _ _ _ _ _ _ _ _ hr hu h=>bK (AX h) (ab (qs 2 S (bc cM)) (ab (jN bh (dI (CG (fk hu (pv 0) (pv 1) (fun _ _=>rfl)))) (ab (iU (fk hu (pv 0) (pv 1) (fun _ _=>rfl)) (cV rfl (au (gn 1 S) (au (gn 3 S) b9)))) (af (aU (eK cF eX eW bQ (pv 2) (a1 (pv 3))))))) (ab (aU (Bd cF PySem.F.slot_list_reverse PySem.F.type_list_reverse Bf (pv 2))) (af (aE (pv 2))))))) (by walk_at "b")
theorem tf(D_story_to:on P w K mg):jv P w K mg:=fun base=>dG X G T.f_least_fault (fun S _ _ _ _ _ _ _ _ _ hr hu h=>bK (uV h) (ab (qs 2 S (vH hu (aK (a2 ah ah)) qi)) (ab (qs 3 S (bc (a1 (aK (a2 ah ah))))) (ab (qs 4 S ah) (ab (jN bh (jF vK (pv 4) (ql z.len (a1 (pv 3)))) (ab (qs 5 S (xl (pv 3) (pv 4))) (ab (Iz (i:=4) S rfl (Or.inl rfl) ah IL) (ab (qs 6 S (xl (pv 0) (xt (pv 5) ah))) (af (bI bh rfl (vE (xl (pv 1) (xt (pv 5) ah))) (cV rfl (au (gn 7 S) (au (gn 8 S) b9))) (af (bx (dI (fG hu (pv 7) (pv 6))) (af (bx (jF vJ (xt (pv 7) ah) bz) (af (aE (aK (a2 (qf hr (D_story_to base) (a2 (pv 2) (pv 5))) (pv 7))))) aP)) (af (bx (dI (fG hu (aK (a2 (fk hu (pv 6) (pv 7) (fun _ _=>rfl)) (pv 8))) (pv 2))) (ab (o5 hu (pv 2) (aK (a2 (fk hu (pv 6) (pv 7) (fun _ _=>rfl)) (pv 8))) (aK (a2 (pv 5) (pv 7))) rfl) (af (aU (eK cF eX eW bQ (pv 3) (a1 (aK (a2 (fk hu (pv 6) (pv 7) (fun _ _=>rfl)) (pv 8)))))))) aP)))))))))) (af (aE qi))))))) (by walk_at "b")
theorem s_(M_Machine_is_quiet:dS P w K mg C)(M_Machine_doors_from:eQ P w K mg C):ju P w K mg C:=fun base=>dG X G T.f_rows_needed (fun S _ _ _ _ _ _ _ _ _ hr hu h=>bK (EZ c.hush c.still h) (ab (qs 4 S (bc cM)) (ab (bI bh rfl (ba (qm hr (M_Machine_doors_from base) (pv 0) (a1 (pv 1)))) (cV rfl (au (gn 5 S) (au (gn 6 S) (au (gn 7 S) b9)))) (af (bx (jF (lM hu) (pv 6) (jP rfl c.STILL)) (af (aU (eK cF eX eW bQ (pv 4) (a1 (aK (a2 (pv 7) (pv 2))))))) (af (bx (PW.pt (oY (dI (qk hu (pv 6) (pv 3))) (nP (jF je (xt (pv 6) ah) bz)))) (af (aU (eK cF eX eW bQ (pv 4) (a1 (aK (a2 (pv 7) (zB hu (pv 3) (pv 6) ⟨rfl,rfl,rfl,rfl⟩))))))) aP))))) (ab (bx (lJ (qm hr (M_Machine_is_quiet base) (pv 0) (a1 (pv 1)))) (af (aU (eK cF eX eW bQ (pv 4) (a1 (aK (a2 (pv 1) (zB hu (pv 3) (jP rfl c.HUSH) ⟨rfl,rfl,rfl,rfl⟩))))))) aP) (af (aE (pv 4))))))) (by walk_at "b")
theorem yX(M_Machine_rooms:cY P w K mg C)(D_rows_needed:ju P w K mg C):oq P w K mg C Cf:=fun base=>dG X G T.f_paper_of (fun S _ _ _ _ _ _ _ _ _ hr hu h=>bK (AZ c.fc h) (ab (qs 2 S (aK (a2 (xl (Fp hr (M_Machine_rooms base) (pv 1)) ah) ah))) (ab (qs 3 S (vH hu (pv 2) im)) (ab (qs 4 S (bc (a1 (pv 2)))) (ab (jN bh (jF zG (ql z.len (a1 (pv 4))) ah) (ab (iU (Bd cF PySem.F.slot_list_pop PySem.F.type_list_pop FH (pv 4)) (cV rfl (au (gn 5 S) (au (gn 6 S) b9)))) (af (bI bh rfl (ba (qf hr (D_rows_needed base) (b_ (pv 1) (a3 (pv 5) (pv 6) (xl (b0 (pv 0) rfl) (pv 6)))))) (gn 7 S) (af (bx (dI (fG hu (pv 7) (pv 3))) (ab (o5 hu (pv 3) (pv 7) im rfl) (af (aU (eK cF eX eW bQ (pv 4) (a1 (pv 7)))))) aP)))))) (af (aE (qc (Ft (pv 3)) (CJ (jQ (bA (by decide)) eT (jQ (bA (by decide)) eT (zD) (jS)) (kh eT (jS)))) fun _ _ _ _ _ _=>⟨cV rfl (au (gc 0) (au (gc 1) b9)),cE,aK (a2 (pv 0) (xl (b0 (pv 2) rfl) (pv 1)))⟩)))))))) (by walk_at "b")
theorem ES(D_FaceMap:qN P w K mg C Cf)(D_need_taker:kC P w K mg C)(D_least_fault:jv P w K mg)(D_paper_of:oq P w K mg C Cf):Dg P w K mg C:=fun base=>dG X G T.f_keeps (fun S _ _ _ _ _ _ _ _ _ hr hu h=>bK (DB c.fc h) (ab (aU (qf hr (D_need_taker base) (a2 (pv 0) (pv 1)))) (ab (qs 2 S (Bc (D_FaceMap base) (hr.mono (by decide)) rfl (a1 (pv 0)))) (ab (qs 3 S (qf hr (D_least_fault base) (a2 (b0 (pv 2) rfl) (b0 (Bc (D_FaceMap base) (hr.mono (by decide)) rfl (a1 (pv 1))) rfl)))) (ab (bx (dI (tR (pv 3))) (af (aE (aK (a2 bz (qf hr (D_paper_of base) (a2 (pv 2) (pv 1))))))) aP) (ab (iU (pv 3) (cV rfl (au (gn 4 S) (au (gn 5 S) b9)))) (af (aE (aK (a3 bz (pv 4) (pv 5))))))))))) (by walk_at "b")
theorem tm(D_law_take:dQ P w K mg)(D_law_put:j3 P w K mg)(D_law_still_on:gy P w K mg):jw P w K mg:=fun base=>dG X G T.f_law_willing (fun S _ _ _ _ _ _ _ _ _ hr hu h=>bK (AW h) (ab (iU (pv 1) (cV rfl (au (gn 2 S) (au (gn 3 S) (au (gn 4 S) (au (gn 5 S) b9)))))) (ab (qs 5 S (qL rfl z.list (a1 (pv 5)))) (ab (bI bh rfl (ba (pv 4)) (gn 6 S) (af (bI bh rfl (ba (pv 2)) (gn 7 S) (ab (qs 8 S (qf hr (D_law_still_on base) (a2 (pv 5) (bc (a1 (pv 6)))))) (af (bx (jF (lM hu) (qc (ba (pv 5)) (bA (by decide)) fun _ _ _ _ _ _=>⟨gc 0,rZ (PW.pt (nQ (Jc (IG hu) (xq (pv 0) ah) (pv 1)) (oZ (jF (lM hu) (xq (pv 0) ah) (aK (a2 bz (pv 2))))))),pv 0⟩) (bc cM)) (ab (qs 9 S (xl (bc (a2 (pv 6) (xl (pv 4) (qf hr (D_law_take base) (a2 (pv 0) (ql z.len (a1 (pv 4)))))))) (qf hr (D_law_take base) (a2 (pv 0) ah)))) (af (aU (qf hr (D_law_put base) (a2 (pv 5) (aK (a3 (pv 6) (aK (a2 bz (pv 7))) (pv 9)))))))) aP)))))) (af (aE (aK (b_ (pv 2) (a3 (pv 3) (pv 4) (pv 5)))))))))) (by walk_at "b")
theorem uN(D_law_take:dQ P w K mg)(D_law_put:j3 P w K mg)(D_law_still_on:gy P w K mg):kF P w K mg:=fun base=>dG X G T.f_law_turned (fun S _ _ _ _ _ _ _ _ _ hr hu h=>bK (Dy h) (ab (iU (pv 1) (cV rfl (au (gn 2 S) (au (gn 3 S) (au (gn 4 S) (au (gn 5 S) b9)))))) (ab (qs 5 S (qL rfl z.list (a1 (pv 5)))) (ab (qs 6 S (qf hr (D_law_take base) (a2 (pv 0) ah))) (ab (qs 7 S (qf hr (D_law_take base) (a2 (pv 0) (qB (Em rfl) z.max PyProof.Rows.boot_max (a2 ah (ql z.len (a1 (pv 5)))))))) (ab (qs 8 S (xl (pv 4) (qf hr (D_law_take base) (a2 (pv 0) (ql z.len (a1 (pv 4))))))) (ab (qs 9 S (xl (pv 4) (qf hr (D_law_take base) (a2 (pv 0) (ql z.len (a1 (pv 4))))))) (ab (bx (jF je (pv 6) ah) (af (aU (qf hr (D_law_put base) (a2 (pv 5) (aK (a3 (pv 8) (aK (a2 bz (xl (pv 3) (qf hr (D_law_take base) (a2 (pv 0) (ql z.len (a1 (pv 3)))))))) (pv 9))))))) (af (bx (jF je (pv 6) ah) (af (aU (qf hr (D_law_put base) (a2 (pv 5) (aK (a3 (pv 8) (aK (a2 bz (xl (pv 2) (qf hr (D_law_take base) (a2 (pv 0) (ql z.len (a1 (pv 2)))))))) (pv 9))))))) (af (bx (PW.pt (nQ (jF vK (pv 6) ah) (nQ (jF (xD hu) (pv 5) (bc cM)) (oZ (jF vJ (xt (xt (xl (pv 5) (pv 7)) ah) ah) bz))))) (ab (qs 10 S (eK cF PySem.F.slot_list_pop PySem.F.type_list_pop FG (pv 5) (a1 (pv 7)))) (af (bx (jF je (pv 6) ah) (af (aU (qf hr (D_law_put base) (a2 (pv 5) (aK (a3 (xt (pv 10) ah) (xt (pv 10) ah) (pv 9))))))) aP))) (af (bx (PW.pt (nQ (jF je (pv 6) ah) (oZ (Jc (mr hu) (pv 8) (qf hr (D_law_still_on base) (a2 (pv 5) (bc (a1 (pv 9))))))))) (af (aU (qf hr (D_law_put base) (a2 (pv 5) (aK (a3 (pv 8) (aK (a1 bz)) (pv 9))))))) aP))))))) (af (aE (aK (b_ (pv 2) (a3 (pv 3) (pv 4) (pv 5)))))))))))))) (by walk_at "b")
theorem tp(D_law_take:dQ P w K mg)(D_law_names:hZ P w K mg):jx P w K mg:=fun base=>dG X G T.f_law_renamed (fun S _ _ _ _ _ _ _ _ _ hr hu h=>bK (zh h) (ab (iU (pv 1) (cV rfl (au (gn 2 S) (au (gn 3 S) (au (gn 4 S) (au (gn 5 S) b9)))))) (ab (qs 6 S lL) (ab (bI bh rfl (CB rfl z.zip (a2 (pv 4) (qf hr (D_law_names base) (a2 (pv 0) (ql z.len (a1 (pv 4))))))) (cV rfl (au (gn 7 S) (au (gn 8 S) b9))) (af (iy hu (pv 6) (pv 7) (pv 8) rfl))) (ab (qsc 9 S (ba (pv 4)) (bA (by decide)) fun _ _ _ _ _ _=>⟨gc 0,cE,fk hu (pv 1) (pv 0) (fun _ _=>rfl)⟩) (ab (qs 10 S (aQ cw ah (qf hr (D_law_take base) (a2 (pv 0) (ql z.len (a1 (pv 4))))))) (ab (qs 9 S (aQ h_ (aQ h_ (c8 fT (pv 9) fV (c7 ah)) (c8 fT (pv 9) (c7 (pv 10)) fV)) (c8 fT (pv 9) (c7 ah) (c7 (pv 10))))) (ab (qsc 5 S (ba (pv 5)) (CJ (jQ (bA (by decide)) eT (jQ (bA (by decide)) eT (jQ (bA (by decide)) eT (zD) (jS)) (kh eT (jS))) (kh eT (kh eT (jS))))) fun _ _ _ _ _ _=>⟨cV rfl (au (gc 0) (au (gc 1) (au (gc 2) b9))),cE,aK (a3 (fk hu (pv 3) (pv 0) (fun _ _=>rfl)) (pv 1) (fk hu (pv 3) (pv 2) (fun _ _=>rfl)))⟩) (af (aE (aK (b_ (pv 2) (a3 (pv 3) (pv 9) (pv 5)))))))))))))) (by walk_at "b")
theorem y4(D_law_anew:i0 P w K mg)(D_law_take:dQ P w K mg)(D_law_willing:jw P w K mg)(D_law_turned:kF P w K mg)(D_law_renamed:jx P w K mg):uy P w K mg:=fun base=>dG X G T.f_law_near (fun S _ _ _ _ _ _ _ _ _ hr hu h=>bK (G5 (K:=K) h) (ab (aU (qf hr (D_law_anew base) (a1 (pv 0)))) (ab (bI bh rfl (jO rfl z.range (a1 (qf hr (D_law_take base) (a2 (pv 0) (aQ cw (pv 2) ah))))) (gn 3 S) (af (qs 1 S (qf hr (D_law_turned base) (a2 (pv 0) (pv 1)))))) (ab (qs 1 S (qf hr (D_law_willing base) (a2 (pv 0) (pv 1)))) (ab (bx (jF je (qf hr (D_law_take base) (a2 (pv 0) ah)) ah) (af (qs 1 S (qf hr (D_law_renamed base) (a2 (pv 0) (pv 1))))) aP) (af (aE (pv 1)))))))) (by walk_at "b")
theorem AK(D_law_signs:l_ P w K mg):wb P w K mg:=fun base=>dG X G T.f_law_key (fun S _ _ _ _ _ _ _ _ _ hr hu h=>bK (Iw h) (ab (qs 2 S (qf hr (D_law_signs base) (a1 (pv 0)))) (af (aE (aQ h_ (bc (a1 (ql z.len (a1 (pv 1))))) (qc (ba (pv 1)) (bA (by decide)) fun _ _ _ _ _ _=>⟨gc 0,cE,eK cF PySem.F.slot_list_index PySem.F.type_list_index (qp hu) (pv 1) (a1 (pv 0))⟩)))))) (by walk_at "b")
theorem y_(D_law_anew:i0 P w K mg)(D_law_names:hZ P w K mg):uz P w K mg:=fun base=>dG X G T.f_law_both (fun S _ _ _ _ _ _ _ _ _ hr hu h=>bK (G9 h) (ab (aU (qf hr (D_law_anew base) (a1 (pv 0)))) (ab (qs 3 S (qf hr (D_law_names base) (a2 (pv 0) (aQ cw (aQ cw ah (ql z.len (a1 (xt (pv 1) ah)))) (ql z.len (a1 (xt (pv 2) ah))))))) (ab (qs 4 S (bc (a2 ah (aQ cw ah (ql z.len (a1 (xt (pv 1) ah))))))) (ab (qs 5 S (bc (a2 (aK (a3 (xl (pv 3) ah) (aK (a1 bz)) (xl (pv 3) (xl (pv 4) ah)))) (aK (a3 (xl (pv 3) ah) (aK (a1 bz)) (xl (pv 3) (xl (pv 4) ah))))))) (ab (bI bh rfl (mn rfl z.enumerate (a1 (bc (a2 (pv 1) (pv 2))))) (cV rfl (au (gn 6 S) (au (gn 7 S) b9))) (af (bI bh rfl (ba (xt (pv 7) ah)) (cV rfl (au (gn 8 S) (au (gn 9 S) (au (gn 10 S) b9)))) (ab (qs 11 S (xl (pv 3) (aQ cw (xl (pv 4) (pv 6)) (eK cF PySem.F.slot_list_index PySem.F.type_list_index (qp hu) (xt (pv 7) ah) (a1 (pv 8)))))) (af (aU (eK cF eX eW bQ (pv 5) (a1 (aK (a3 (pv 11) (pv 9) (xl (pv 3) (aQ cw (xl (pv 4) (pv 6)) (eK cF PySem.F.slot_list_index PySem.F.type_list_index (qp hu) (xt (pv 7) ah) (a1 (pv 10))))))))))))))) (af (aE (aK (b_ (xt (pv 1) ah) (a3 (xt (pv 1) ah) (pv 3) (pv 5)))))))))))) (by walk_at "b")
end
theorem IJ(X:K.In h)(G:h.Ns bV mg)(z:Zs mg)(c:Cs K mg C Cf a_STILL a_HUSH)(T:Ts K C Cf):∃f fd,mg "law"=some (.ref f)/\(∀(s:Shared) (v:Value),si s fd ⟨[v],[]⟩ [("script",v)])/\∀base:Heap,l9 P w K mg base CX0 9 f fd ["script"] (sp_law27 K):=by
 have D_law_spread:kG P w K mg:=uO X G z c T;have D_law_open:ux P w K mg:=y3 X G z c T;have D_law_anew:i0 P w K mg:=za X G z c T;have D_law_take:dQ P w K mg:=yY X G z c T D_law_spread;have D_law_names:hZ P w K mg:=xm X G z c T D_law_take;have D_law_put:j3 P w K mg:=AJ X G z c T;have D_law_draw_doors:gX P w K mg:=oF X G z c T D_law_take D_law_put;have D_law_model:rB P w K mg:=xn X G z c T D_law_anew D_law_take D_law_names D_law_draw_doors;have D_is_name:qK P w K mg:=AL X G z c T;have D_as_keys:j4 P w K mg:=AM X G z c T;have D_first_wrong_name:fA P w K mg:=mJ X G z c T D_is_name D_as_keys;have D_door_signs:kI P w K mg:=uQ X G z c T;have D_first_wrong_door:fC P w K mg:=mK X G z c T D_as_keys;have D_goals_by_start_and_sign:cW P w K mg:=iQ X G z c T;have D_led_by_still:iZ P w K mg:=rH X G z c T;have D_first_led_round:gA P w K mg:=nM X G z c T;have D_need_none:jj P w K mg:=xj X G z c T;have D_need_parts:kD P w K mg:=uL X G z c T D_first_wrong_name D_door_signs D_first_wrong_door D_need_none;have D_doors_by_start:g6 P w K mg:=oH X G z c T;have D_has_asks_alone:gZ P w K mg:=oG X G z c T;have D_Machine:qM P w K mg C:=AN X G z c T D_as_keys D_goals_by_start_and_sign D_led_by_still D_first_led_round D_need_none D_need_parts D_doors_by_start D_has_asks_alone;have D_law_machine:ng P w K mg C:=tq X G z c T D_Machine;have M_Machine_rooms:cY P w K mg C:=p6 X G z c T;have M_Machine_led_from:dR P w K mg C:=mH X G z c T;have D_with_still:iE P w K mg C:=uJ X G z c T M_Machine_rooms M_Machine_led_from
 have M_Machine_goals:fq P w K mg C:=p7 X G z c T;have M_Machine_is_quiet:dS P w K mg C:=mI X G z c T;have D_law_still_on:gy P w K mg:=rJ X G z c T;have D_law_signs:l_ P w K mg:=xk X G z c T;have D_law_same:uw P w K mg:=yZ X G z c T;have M_Machine_asks:eR P w K mg C:=rG X G z c T;have M_Machine_says:gB P w K mg C:=rF X G z c T;have D_first_face:kH P w K mg C:=uP X G z c T M_Machine_rooms D_with_still;have D_face_behind:jy P w K mg C:=tu X G z c T D_with_still M_Machine_goals M_Machine_is_quiet;have D_signs_in_order:gW P w K mg C a_HUSH:=oE X G z c T M_Machine_asks M_Machine_says;have D_steps_at:oo P w K mg C:=yW X G z c T D_face_behind D_signs_in_order;have M_FaceMap_number_at:dq P w K mg Cf:=lE X G z c T;have M_FaceMap_numbered_steps:de P w K mg C Cf:=i5 X G z c T D_steps_at M_FaceMap_number_at;have D_FaceMap:qN P w K mg C Cf:=AO X G z c T D_first_face M_FaceMap_number_at M_FaceMap_numbered_steps;have D_takes:yC P w K mg C:=ER X G z c T M_Machine_led_from M_Machine_goals;have D_need_match:kE P w K mg C:=uM X G z c T M_Machine_asks M_Machine_says;have D_need_all_asks_taken:d_ P w K mg C:=j8 X G z c T M_Machine_rooms M_Machine_asks D_takes;have D_need_taker:kC P w K mg C:=uK X G z c T D_need_match D_need_all_asks_taken;have M_Machine_doors_from:eQ P w K mg C:=kR X G z c T;have D_story_to:on P w K mg:=yV X G z c T;have D_least_fault:jv P w K mg:=tf X G z c T D_story_to;have D_rows_needed:ju P w K mg C:=s_ X G z c T M_Machine_is_quiet M_Machine_doors_from
 have D_paper_of:oq P w K mg C Cf:=yX X G z c T M_Machine_rooms D_rows_needed;have D_keeps:Dg P w K mg C:=ES X G z c T D_FaceMap D_need_taker D_least_fault D_paper_of;have D_law_willing:jw P w K mg:=tm X G z c T D_law_take D_law_put D_law_still_on;have D_law_turned:kF P w K mg:=uN X G z c T D_law_take D_law_put D_law_still_on;have D_law_renamed:jx P w K mg:=tp X G z c T D_law_take D_law_names;have D_law_near:uy P w K mg:=y4 X G z c T D_law_anew D_law_take D_law_willing D_law_turned D_law_renamed;have D_law_key:wb P w K mg:=AK X G z c T D_law_signs;have D_law_both:uz P w K mg:=y_ X G z c T D_law_anew D_law_names;obtain⟨f,a,t⟩:=T.f_law27;obtain⟨oc,od,an,sl,kV,dc,pm,cd,ct,l,c1,k1⟩:=t;have F:=Ga (st:=(gC 65)) l c1 k1;have sc:kA Dc Fq (bY (gC 65)):=by walk_at "s"
 have S:=sc.nd;exact⟨f,_,gL X G a,fun s v=>.of_eq rfl,fun base=>F.ok (k:=8) sc (by walk_at "l") (fun _ _ _ _ _ _ _ _ hr h=>by have hu:=CW hr;exact bK (Fd (C:=C) h) (ab (qs 1 S (qf hr (D_law_open base) (a1 (pv 0)))) (ab (qs 2 S (qf hr (D_law_model base) (a3 (pv 1) ah ah))) (ab (qs 3 S (qf hr (D_law_near base) (a3 (pv 1) (pv 2) ah))) (ab (qs 4 S (qf hr (D_law_near base) (a3 (pv 1) (pv 2) ah))) (ab (qs 5 S (qf hr (D_law_machine base) (a1 (pv 2)))) (ab (qsc 6 S (ba (bc (a3 (pv 3) (pv 4) (qf hr (D_law_both base) (a3 (pv 1) (pv 3) (pv 4)))))) (bA (by decide)) fun _ _ _ _ _ _=>⟨gc 0,cE,qf hr (D_keeps base) (a2 (pv 1) (qf hr (D_law_machine base) (a1 (pv 0))))⟩) (ab (qs 7 S qi) (ab (qs 8 S (bc cM)) (ab (bI bh rfl (ba (c8 fT (pv 6) fV (c7 ah))) (gn 9 S) (af (bx (jF je (xt (pv 9) ah) bz) (ab (qs 10 S (qf hr (D_law_key base) (a2 (pv 2) (aQ h_ (xt (pv 9) ah) (bc (a1 (xt (pv 9) ah))))))) (af (bx (PW.pt (oY (dI (tR (pv 7))) (nP (jF (IF hu) (pv 10) (pv 8))))) (ab (qs 7 S (pv 9)) (af (qs 8 S (pv 10)))) aP))) aP))) (ab (bx (dI (tR (pv 7))) (af (aE (qj (Hw je (ql z.len (a1 (xl (pv 6) ah))) ah) (xC (qf hr (D_law_same base) (a2 (xt (xl (pv 6) ah) ah) bz)))))) aP) (af (aE (qf hr (D_law_same base) (a2 (xl (pv 6) ah) (pv 7))))))))))))))))⟩
theorem all_mk{l:PySem.W.OpenLaw}{fa:Addr}{u_LETTERS:Value}{u_LONGEST_NAME:Value}{u_MOST_WORDS:Value}{u_MOST_ROOMS:Value}{u_MOST_DOORS:Value}{u_MOST_FACES:Value}{o_STILL:Obj}{i_STILL:Array Value}{n_STILL:Nat}{o_HUSH:Obj}{i_HUSH:Array Value}{n_HUSH:Nat}(X:K.In h)(G:h.Ns bV mg)(hfa:mg "law"=some (.ref fa))
  (aC:cr K bV "Machine"=some (some (.ref C)))
  (pg:vh K C Str.empty=true)
  (hd:yF K C=true)
  (po:Cc K C=true)
  (sa:dw K (.ref C) "__setattr__"=some (some (.builtin "object.__setattr__")))
  (mk:sk K C=true)
  (kc:iK K (.ref C)=true)
  (na1:dw K (.ref C) "own_asks"=some none)
  (na2:dw K (.ref C) "own_says"=some none)
  (na3:dw K (.ref C) "own_rooms"=some none)
  (na4:dw K (.ref C) "own_doors"=some none)
  (na5:dw K (.ref C) "leaving"=some none)
  (na6:dw K (.ref C) "quiet"=some none)
  (na7:dw K (.ref C) "sign_goals"=some none)
  (na8:dw K (.ref C) "still_led"=some none)
  (aF:cr K bV "FaceMap"=some (some (.ref Cf)))
  (pgF:vh K Cf Str.empty=true)
  (hdF:yF K Cf=true)
  (poF:Cc K Cf=true)
  (saF:dw K (.ref Cf) "__setattr__"=some (some (.builtin "object.__setattr__")))
  (mkF:sk K Cf=true)
  (kcF:iK K (.ref Cf)=true)
  (nf1:dw K (.ref Cf) "machine"=some none)
  (nf2:dw K (.ref Cf) "faces"=some none)
  (nf3:dw K (.ref Cf) "first_stories"=some none)
  (nf4:dw K (.ref Cf) "numbers"=some none)
  (nf5:dw K (.ref Cf) "steps"=some none)
  (z_all:cr K bV "all"=some none)
  (z_any:cr K bV "any"=some none)
  (z_bool:cr K bV "bool"=some none)
  (z_dict:cr K bV "dict"=some none)
  (z_enumerate:cr K bV "enumerate"=some none)
  (z_int:cr K bV "int"=some none)
  (z_isinstance:cr K bV "isinstance"=some none)
  (z_len:cr K bV "len"=some none)
  (z_list:cr K bV "list"=some none)
  (z_max:cr K bV "max"=some none)
  (z_range:cr K bV "range"=some none)
  (z_str:cr K bV "str"=some none)
  (z_tuple:cr K bV "tuple"=some none)
  (z_zip:cr K bV "zip"=some none)
  (g_LETTERS:cr K bV "LETTERS"=some (some u_LETTERS))
  (r_LETTERS:RelV (.str "abcdefghijklmnopqrstuvwxyz") u_LETTERS)
  (g_LONGEST_NAME:cr K bV "LONGEST_NAME"=some (some u_LONGEST_NAME))
  (r_LONGEST_NAME:RelV (.int 8) u_LONGEST_NAME)
  (g_MOST_WORDS:cr K bV "MOST_WORDS"=some (some u_MOST_WORDS))
  (r_MOST_WORDS:RelV (.int 4) u_MOST_WORDS)
  (g_MOST_ROOMS:cr K bV "MOST_ROOMS"=some (some u_MOST_ROOMS))
  (r_MOST_ROOMS:RelV (.int 150) u_MOST_ROOMS)
  (g_MOST_DOORS:cr K bV "MOST_DOORS"=some (some u_MOST_DOORS))
  (r_MOST_DOORS:RelV (.int 2000) u_MOST_DOORS)
  (g_MOST_FACES:cr K bV "MOST_FACES"=some (some u_MOST_FACES))
  (r_MOST_FACES:RelV (.int 400) u_MOST_FACES)
  (g_STILL:cr K bV "STILL"=some (some (.ref a_STILL)))
  (l_STILL:K.lookup a_STILL=some o_STILL)
  (c_STILL:o_STILL.cls=.type "tuple")
  (d_STILL:o_STILL.data=.seq i_STILL n_STILL)
  (s_STILL:i_STILL.size<=aj)
  (v_STILL:aZ (am.map V.str) i_STILL.toList)
  (g_HUSH:cr K bV "HUSH"=some (some (.ref a_HUSH)))
  (l_HUSH:K.lookup a_HUSH=some o_HUSH)
  (c_HUSH:o_HUSH.cls=.type "tuple")
  (d_HUSH:o_HUSH.data=.seq i_HUSH n_HUSH)
  (s_HUSH:i_HUSH.size<=aj)
  (v_HUSH:aZ (bT.map V.str) i_HUSH.toList)
  (T:Ts K C Cf)
 :∃fd:kK,(∀(s:Shared) (v:Value),si s fd ⟨[v],[]⟩ [("script",v)])/\∀base:Heap,K.In base->base.Ns bV mg->l9 l.prog w K mg base CX0 9 fa fd ["script"] (sp_law27 K):=by
 have z:Zs mg:=⟨fL X G z_all,fL X G z_any,fL X G z_bool,fL X G z_dict,fL X G z_enumerate,fL X G z_int,fL X G z_isinstance,fL X G z_len,fL X G z_list,fL X G z_max,fL X G z_range,fL X G z_str,fL X G z_tuple,fL X G z_zip⟩;have c:Cs K mg C Cf a_STILL a_HUSH:=⟨⟨_,gL X G g_LETTERS,r_LETTERS⟩,⟨_,gL X G g_LONGEST_NAME,r_LONGEST_NAME⟩,⟨_,gL X G g_MOST_WORDS,r_MOST_WORDS⟩,⟨_,gL X G g_MOST_ROOMS,r_MOST_ROOMS⟩,⟨_,gL X G g_MOST_DOORS,r_MOST_DOORS⟩,⟨_,gL X G g_MOST_FACES,r_MOST_FACES⟩,⟨_,gL X G g_STILL,rfl⟩,⟨_,gL X G g_HUSH,rfl⟩,Cp l_STILL c_STILL d_STILL s_STILL v_STILL,Cp l_HUSH c_HUSH d_HUSH s_HUSH v_HUSH,⟨⟨pg,hd,po,sa⟩,na1,na2,na3,na4,na5,na6,na7,na8⟩,gL X G aC,mk,kc,⟨⟨pgF,hdF,poF,saF⟩,nf1,nf2,nf3,nf4,nf5⟩,gL X G aF,mkF,kcF⟩;obtain⟨f,fd,e,b,k⟩:=IJ (P:=l.prog) (w:=w) X G z c T;have e0:=hfa.symm.trans e;cases e0;exact⟨fd,b,fun base _ _=>k base⟩
end
end Mum
namespace PySem.W.Fast
def tw6266977647089777535:=0
def tw8384415761646613365:=0
def tw17236754127108566010:=0
def tw16145499026464975597:=0
def tw3980545509817323408:=0
def tw11759663566454707072:=0
def tw2919240169571352526:=0
def tw9533505066166133272:=0
def tw10786190103497231294:=0
def tw7977183370124122651:=0
def tw10212182957349902732:=0
def tw6098878256949122009:=0
def tw9324153406324324441:=0
def tw2336064139040916679:=0
def tw8387823843111894103:=0
def tw11363854737142727591:=0
def tw3516221769245159794:=0
def tw3482744646417932649:=0
def tw7275573781754848755:=0
def tw5963973947778517205:=0
def tw7686410152365019930:=0
def tw13627238477824596658:=0
def tw12726156452925056213:=0
def tw15052939387314539511:=0
def tw6309201713078875723:=0
def tw6851901784441613485:=0
def tw8560930792686403833:=0
def tw14830961544974613928:=0
def tw12070456157502336709:=0
def tw6194996360005922103:=0
def tw16120526024291290152:=0
def tw5000512954815673826:=0
def tw9894361348834588016:=0
def tw14636293910776533556:=0
def tw1768999968269808938:=0
def tw11839005996363894485:=0
def tw17590008113143951125:=0
def tw18205061530754857438:=0
def tw5045335409348105621:=0
def tw9707489387960690952:=0
def tw13430220846781608492:=0
def tw11140981709061517794:=0
def tw6801269489543323126:=0
def tw9518741957262169120:=0
def tw17614301393964919384:=0
def tw1030779623120625368:=0
def tw11329988073062368551:=0
def tw18042513088765949055:=0
def tw11488354012996289395:=0
def tw9365900686899300384:=0
def tw2323587291854599971:=0
def tw719033412259673952:=0
def tw14023489425415295614:=0
def tw2312539711062938109:=0
def tw8345402222305097956:=0
def tw1932913688946605222:=0
def tw14893099261737919754:=0
def tw16914127144443689233:=0
def tw14215328608550106575:=0
def tw1096927607385567328:=0
def tw12602411562600439784:=0
def tw11855348237648559043:=0
def tw13652140698223958763:=0
def tw2466364425220788571:=0
def tw4820923338816351915:=0
def tw8821492690938582481:=0
def tw9782518414785600271:=0
def tw12530250527799699693:=0
def tw8804821843844383220:=0
def tw15256842395214693205:=0
def tw1035647900419865331:=0
def tw14889198992157767527:=0
def tw16254521078419453377:=0
def tw225427256242688608:=0
def tw10470573085673452020:=0
def tw6804513498012806475:=0
def tw11002978019383305364:=0
def tw3280535858938446650:=0
def tw11350661374891369273:=0
def tw15701143118030867049:=0
def tw17766921836627171709:=0
def tw7601075347121940553:=0
def tw2942209254575462645:=0
def tw14004380331631547846:=0
def tw12877034696867265400:=0
def tw17961347121773087400:=0
def tw12624247191806796026:=0
def tw2325002427781476913:=0
def tw6781809546877210365:=0
def tw4339117829520463808:=0
def tw8132945677913999891:=0
def tw12775135234070785446:=0
def tw13024944060131482332:=0
def tw17581210377134227279:=0
def tw4301132449797789645:=0
def tw1744064858908301700:=0
def tw9380724609154444673:=0
def tw14399334948642631261:=0
def tw198362410577122595:=0
def tw5133217044998341978:=0
def tw8327601681751752969:=0
def tw15350821503202639278:=0
def tw14145276731105502561:=0
def tw6279818750248087537:=0
def tw11697870688821758341:=0
def tw12763705199024098039:=0
def tw15069700775570303282:=0
def tw1396690215582695150:=0
def tw18219911972395765934:=0
def tw17494092129077322698:=0
def tw3155640847689264066:=0
def tw13643835330732226201:=0
def tw12144943328645070964:=0
def tw8792057502042434254:=0
def tw12852147251481992935:=0
def tw16476269864742652280:=0
def tw11998191010275736106:=0
def tw1070845579395102385:=0
def tw6280463510208560721:=0
def tw2839262754264652249:=0
def tw15710648775409394568:=0
def tw14537875645022030881:=0
def tw17829394544682050132:=0
def tw17837785987063936942:=0
def tw2117078928158187621:=0
def tw15704995837585973322:=0
def tw5432973012883413140:=0
def tw8340815433654133749:=0
def tw3385370305491296061:=0
def tw11477435980750893753:=0
def tw9105656680456270292:=0
def tw215472523140265454:=0
def tw9732183605129545274:=0
def tw15090638985602781685:=0
def tw11361407871981439998:=0
def tw4895863201311431323:=0
def tw957255192617206107:=0
def tw7033053092750474750:=0
def tw868215936570748997:=0
def tw9710615129340928198:=0
def tw9050444772084527326:=0
def tw846604633094018163:=0
def tw1443222686194663667:=0
def tw15029869482309616202:=0
def tw16058519420037418231:=0
def tw222087125481718230:=0
def tw14932199214640600045:=0
def tw6418012357295460521:=0
def tw16529032704724058206:=0
def tw16444668682358830133:=0
def tw8394955465581233835:=0
def tw14927740547545889201:=0
def tw2951754012995683503:=0
def tw18169282252150423952:=0
def tw1554471582044444338:=0
def tw11717063011116817520:=0
def tw4770181091089539784:=0
def tw8125503760194678278:=0
def tw10293822133722690248:=0
def tw7858676828460209491:=0
def tw4586215972443614186:=0
def tw6863287809393457178:=0
def tw12406866134276414843:=0
def tw5697045951728839497:=0
def tw6933763553731484617:=0
def tw9863537321002236151:=0
def tw14281777512604075111:=0
def tw4413656873271395262:=0
def tw8804567874164442145:=0
def tw17913203049907765141:=0
def tw9722771794571903947:=0
def tw3649122608825712827:=0
def tw13666037654110258696:=0
def tw9069305603483567599:=0
def tw7973888730814727400:=0
def tw11220113933729564237:=0
def tw7232106335051172225:=0
def tw14869135638754800611:=0
def tw16625952832362749856:=0
def tw18087045554197721904:=0
def tw4145566161377431086:=0
def tw17498762558524522417:=0
def tw1242897214658354981:=0
def tw13922400930347441438:=0
def tw8159967708546726624:=0
def tw10348012165008265553:=0
def tw15192785251980899368:=0
def tw12174979948225774934:=0
def tw3087597827337994942:=0
def tw3738413169540297264:=0
def tw17385313298001529522:=0
def tw2712790219302800233:=0
def tw13214149862766179526:=0
def tw264221965553119540:=0
def tw12996451316173095481:=0
def tw2317338895121267291:=0
def tw8400326567530898798:=0
def tw9275020714412422974:=0
def tw2799541849715678753:=0
def tw3356470613278011735:=0
def tw18132971207538686674:=0
def tw9165146733132623491:=0
def tw8917957316059273347:=0
def tw2525774118909800564:=0
def tw3524599216492358166:=0
def tw9077747758117608094:=0
def tw7492592994216989535:=0
def tw8445356100491536809:=0
def tw8401660355495808929:=0
def tw811315548621894539:=0
def tw17625894550964426774:=0
def tw9676135353312671712:=0
def tw16281419343667726975:=0
def tw9774117281714185092:=0
def tw12252573185913811365:=0
def tw7850755763844242287:=0
def tw3919706746225597390:=0
def tw10128512153623702301:=0
def tw1713910928495298865:=0
def tw14023276798342443584:=0
def tw18257996323802370674:=0
def tw3535735650728738399:=0
def tw6493869104988004057:=0
def tw5338316101213443294:=0
def tw6078021109966248051:=0
def tw17953642773370475425:=0
def tw13286522663153489206:=0
def tw2056585793586535520:=0
def tw8639813714387727328:=0
def tw6602149601551805538:=0
def tw4579872661443828999:=0
def tw4792916494510022545:=0
def tw2385114522730327205:=0
def tw14754235373338152931:=0
def tw15881344192337599543:=0
def tw13532860980660077131:=0
def tw14278592550797725032:=0
def tw8207376500111639270:=0
def tw12745047119551658730:=0
def tw12004887845663779945:=0
def tw14691923954338219728:=0
def tw18218568746448245624:=0
def tw13282974501002387166:=0
def tw12486877455565622322:=0
def tw9487821117202905319:=0
def tw6142437000082218448:=0
def tw10146172536949121910:=0
def tw13733115055898176403:=0
def tw3887108027928491853:=0
def tw12337898216538258904:=0
def tw10321136608483706133:=0
def tw11989448890518436495:=0
def tw7528226255694734233:=0
def tw7161081693593801396:=0
def tw5553436307859093074:=0
def tw18293893668551658816:=0
def tw17500210221386785288:=0
def tw11505595164180989666:=0
def tw9239155873703762658:=0
def tw5784175475651173359:=0
def tw7702551509982331253:=0
def tw16561056912883516626:=0
def tw1312967378707826801:=0
def tw1316395965436130692:=0
def tw17199956688235865863:=0
def tw14430845876848749730:=0
def tw1630152151990971592:=0
def tw13442318158710026830:=0
def tw12060927498128783873:=0
def tw16652282870872044480:=0
def tw13476072456191377364:=0
def tw2158902021391464580:=0
def tw15312614311739859167:=0
def tw15226066835316066734:=0
def tw7268819223716362775:=0
def tw5564116497063661801:=0
def tw12638679697417527560:=0
def tw5800299271668544577:=0
def tw5412583678648530477:=0
def tw2254200659655289003:=0
def tw15710215333956905944:=0
def tw16454281989482165248:=0
def tw4454192525279545156:=0
def tw14809771653100167691:=0
def tw16028168189119519724:=0
def tw11690431915741588654:=0
def tw8355430836810422587:=0
def tw10151472653024600005:=0
def tw2243446066634603800:=0
def tw16315421674947558151:=0
def tw5519571827301110197:=0
def tw4693075740050293273:=0
def tw14467467937918008532:=0
def tw6078857302110493829:=0
def tw8357927782344543214:=0
def tw13223466923143055500:=0
def tw8850235046924242774:=0
def tw8614595322202775958:=0
def tw12023770920727785108:=0
def tw17322532853447588078:=0
def tw15876539527030910576:=0
def tw11703164587337375780:=0
def tw979658939525846389:=0
def tw13838934572372540735:=0
def tw3639871228407890963:=0
def tw1698735838015907317:=0
def tw10430173128453962489:=0
def tw8813911360528877792:=0
def tw4920938963231848549:=0
def tw9890958149009725734:=0
def tw6496645359379298167:=0
def tw3760537106616144892:=0
def tw6838539707781680016:=0
def tw6634425975018918395:=0
def tw10458682803151217173:=0
def tw12830634631574272478:=0
def tw4822483092503072176:=0
def tw7841076568925102664:=0
def tw12853479071078580251:=0
def tw1401532182244087878:=0
def tw3031598033664031473:=0
def tw18007037650198303608:=0
def tw9071721836537203734:=0
def tw16359394667644724147:=0
def tw4282031015193506226:=0
def tw6722786258708319108:=0
def tw11607938898633948975:=0
def tw1971064607996378529:=0
def tw18201351364823757693:=0
def tw14940099915765666153:=0
def tw9813120867380103982:=0
def tw17728976457926959827:=0
def tw15939831597207810926:=0
def tw10220784600220021341:=0
def tw7172636165196561255:=0
def tw1458242740997418304:=0
def tw8286998551997456453:=0
def tw10440717656366487082:=0
def tw10230370388145243392:=0
def tw12736456139213418500:=0
def tw2903588522354259256:=0
def tw15679813943421283835:=0
def tw3958375377309491817:=0
def tw9208677404011335322:=0
def tw17017551517134671192:=0
def tw13054360389151122821:=0
def tw8900301095912488005:=0
def tw1864040432676326466:=0
def tw11177831718158412305:=0
def tw17697817133839720827:=0
def tw2807352927571864273:=0
def tw16167189981112036403:=0
def tw8560493690085995523:=0
def tw8623150027226530955:=0
def tw8856722733223869897:=0
def tw17754348605620340439:=0
def tw4674198784772555804:=0
def tw17659332001503208782:=0
def tw18044402633203456576:=0
def tw1073041961945213080:=0
def tw14656155084581491022:=0
def tw8809241539320402597:=0
def tw12065080280986158037:=0
def tw6621293100665151930:=0
def tw3834249868718693367:=0
def tw13819893102834056039:=0
def tw15222460222851661389:=0
def tw15166707874667765133:=0
def tw17335203030756671401:=0
def tw4035467414837250998:=0
def tw6135976540616259037:=0
def tw12312604563144658932:=0
def tw11602726910933351899:=0
def tw9148884481280016193:=0
def tw18093943054067231712:=0
def tw3197191166332788451:=0
def tw10918569120146836258:=0
def tw13183421999627352244:=0
def tw9563305724282027437:=0
def tw13426468235182775818:=0
def tw17370788799958792704:=0
def tw12557597399229051795:=0
def tw7475299169170262853:=0
def tw13492413435233675864:=0
def tw8806621115310135796:=0
def tw13731755467647907499:=0
def tw495751963395616223:=0
def tw2481836244159855503:=0
def tw11639249233943046803:=0
def tw83351761574820335:=0
def tw13874000517296754099:=0
def tw2114673333997449890:=0
def tw13860690422601356630:=0
def tw6567063220267732766:=0
def tw17854076608026795310:=0
def tw3958799688049698040:=0
def tw4958308077359112345:=0
def tw10473153019023047219:=0
def tw11947859578017875082:=0
def tw9797218672388276709:=0
end PySem.W.Fast
open PySem PySem.W PyProof.Rows
set_option maxRecDepth 100000 in
set_option maxHeartbeats 0 in
theorem PySem.Challenge.cw_mumtrial_k27_two_under_one_door_holds : PySem.Challenge.rw_mumtrial_k27_two_under_one_door.Holds := by
 w_on;o_law;k_head;(case hw=>w_witness2)
 k_fill
 refine L2.walk_ofK (l:=PySem.Challenge.rw_mumtrial_k27_two_under_one_door) (n:=63) (k:=9) (x:="script") (CX:=L2.CX0) (sp:=Mum.sp_law27) rfl (by decide) rfl ⟨rfl,by decide,by decide⟩ (fun w h Y=>PySem.W.kIn_of Y) ?F (fun _ _ a ns hl _ hS=>⟨a,ns,rfl,hS,hl,fun _=>rfl⟩) (fun _ _ _ _ z=>z)
 case F =>
  intro w mg fa h KX G hmg;refine' Mum.all_mk KX G hmg ?aC ?pg ?hd ?po ?sa ?mk ?kc ?na1 ?na2 ?na3 ?na4 ?na5 ?na6 ?na7 ?na8 ?aF ?pgF ?hdF ?poF ?saF ?mkF ?kcF ?nf1 ?nf2 ?nf3 ?nf4 ?nf5 ?z_all ?z_any ?z_bool ?z_dict ?z_enumerate ?z_int ?z_isinstance ?z_len ?z_list ?z_max ?z_range ?z_str ?z_tuple ?z_zip ?g_LETTERS ?r_LETTERS ?g_LONGEST_NAME ?r_LONGEST_NAME ?g_MOST_WORDS ?r_MOST_WORDS ?g_MOST_ROOMS ?r_MOST_ROOMS ?g_MOST_DOORS ?r_MOST_DOORS ?g_MOST_FACES ?r_MOST_FACES ?g_STILL ?l_STILL ?c_STILL ?d_STILL ?s_STILL ?v_STILL ?g_HUSH ?l_HUSH ?c_HUSH ?d_HUSH ?s_HUSH ?v_HUSH ?T
  (case aC|pg|hd|po|sa|mk|kc|na1|na2|na3|na4|na5|na6|na7|na8|aF|pgF|hdF|poF|saF|mkF|kcF|nf1|nf2|nf3|nf4|nf5|z_all|z_any|z_bool|z_dict|z_enumerate|z_int|z_isinstance|z_len|z_list|z_max|z_range|z_str|z_tuple|z_zip|g_LETTERS=>k_is)
  (case r_LETTERS=>exact⟨_,rfl⟩)
  (case g_LONGEST_NAME=>k_is)
  (case r_LONGEST_NAME=>exact⟨_,rfl⟩)
  (case g_MOST_WORDS=>k_is)
  (case r_MOST_WORDS=>exact⟨_,rfl⟩)
  (case g_MOST_ROOMS=>k_is)
  (case r_MOST_ROOMS=>exact⟨_,rfl⟩)
  (case g_MOST_DOORS=>k_is)
  (case r_MOST_DOORS=>exact⟨_,rfl⟩)
  (case g_MOST_FACES=>k_is)
  (case r_MOST_FACES=>exact⟨_,rfl⟩)
  (case g_STILL|l_STILL=>k_is)
  (case c_STILL|d_STILL=>rfl)
  (case s_STILL=>decide)
  (case v_STILL=>exact .cons ⟨_,rfl⟩ .nil)
  (case g_HUSH|l_HUSH=>k_is)
  (case c_HUSH|d_HUSH=>rfl)
  (case s_HUSH=>decide)
  (case v_HUSH=>exact .cons ⟨_,rfl⟩ .nil)
  (case T=>constructor<;>first|(refine' Mum.fnG_mk ?a ?l ?c ?k;(case a=>k_is);(case l=>k_is);(case c=>k_is);(case k=>k_is))|(refine' Mum.fnM_mk ?a ?i ?l ?c ?k;(case a=>k_is);(case i=>k_is);(case l=>k_is);(case c=>k_is);(case k=>k_is)))
