
import PyProof.Rows.All
import Wide.All
import OpenK.AllK
import Wide.FinOn
import Lean
import PyProof.EqAt
import PyProof.EqKinds
import PyProof.TupleCall
import PyProof.NeKinds
import PyProof.DictIter
import PyProof.DictWalks
import PyProof.RaisesMany
import PyProof.RulesAs
import PyProof.NsDelKeeps
import PyProof.InstStoreFacts
import PyProof.ExcClass3
import PyProof.ExcInit
import KE.KTryMore
import PyProof.AutoSeq1
import PyProof.WalkInts
import PyProof.DictItems
import PyProof.DictItemsLoops
import KE.KPairComp
import PyProof.DictValues
import PyProof.SumAny
import PySem.Challenge.RW_mumtrial_k22_the_least_fault
noncomputable section
open PySem renaming Program->bR,wpAny_bind->ak,wpAny_specialOf->Fx,wpAny_call_entry->o_,wpAny_pure->aH,wpAny_rule->xB,Builtin->cg,wpAny_isInstance->xG,wpAny_holding->kR,wpAny_truthy_bool->qz,wpAny_seqItems->my,sizeLine->ai,sysModules->gk,mainGlobals->bU,bootBuiltins->i0,starEach->aN,wpAny_mono->jy,compareOp->eT,behindInMarks->kz,standAt->qw,holding->kL,wpAny_execs_nil->Bj,swapsWith->qv,assignEach->uO,wpAny_standAt->Bi,wpAny_passesOwn->rJ,letOwnedTupleGo->Bh,wpAny_pyIter_list->xF,wpAny_pyIter_tuple->Bf,foldedSetIterable->xE,binaryOp->qt,sizeLine_eq->ky,getMethod->qr,codeAny->zzl77,attributeBase->rG,FuncData->kq,BindsTo->rF,codeAny_mono->Ba,wpAny_Call_Name_kw->A_,callWith->uL,backToKw->nR,keywordEach->nQ,NameKind->jv,mem_of_lookup->sm,getItem->mN,seqIndex?->wa,subscripted->v_,sliceBounds->mM,Keyword->pD,call_meets->pC,valueAt->mK,call_meetsIn->sf,callerA->kT,DictEntry->jk,wpAny_newObj_type->jj,ZipApart->pk,wpAny_pyIter_zip->v2,wpAny_callSpecial?_slot->kP,wpAny_field->eW,wpAny_setField->r8,firstArgMember->pj,wpAny_setField_rec->iF,wpAny_onRaise->vW,wpAny_letGo->vV,wpAny_attempt->pi,wpAny_dictEntries->mJ,wpAny_notOrdered_dict->vQ,IsItemIter->iE,wpAny_dictEpoch->ph,wpAny_typeNameOfWhole_itemiter->vN,wpAny_typeNameOf_itemiter->vM,wpAny_fieldsOf->vL,setField->vK,wpAny_typeNameOfWhole_keyiter->vJ,wpAny_typeNameOf_keyiter->vI
open PySem.Builtin.Tuple renaming tupleHashOf->zE
open Bool renaming false_ne_true->gh,not_true->Bk,false_eq_true->kU,false_and->Bg,eq_iff_iff->uN,and_false->v6,and_eq_true->r_,true_and->rR
open Nat renaming add_assoc->DB,le_refl->aG,lt_of_lt_of_le->iC,lt_irrefl->qx,ne_of_lt->cV,le_trans->bH,le_of_lt->em,ne_of_gt->gj,zero_le->c9,le_succ->mw,min_eq_left->vG,mod_lt->rT,mul_le_mul->rN,lt_or_ge->iD,eq_zero_or_pos->vE,zero_add->vC,le_succ_of_le->pb
open List renaming append_nil->fK,range->jz,mem_filter->cx,mem_cons_self->eg,mem_cons_of_mem->fb,mem_cons->cU,mem_append->bx,mem_append_left->dh,getElem?_eq_some_iff->cw,mem_append_right->dz,length_cons->dP,lookup->kr,map_cons->bw,length_map->aj,nodup_cons->mv,length_take->aK,getElem?_append_right->mP,getElem?_append_left->eX,getElem?_map->b0,mem_of_getElem?->bd,length_append->aM,length_drop->fM,size_toArray->bM,reverse_cons->v8,length_singleton->v7,find?_cons->kW,any_cons->mL,length_nil->v5,nodup_nil->pB,lookup_cons->iG,forIn_cons->pq,mem_map->aD,not_mem_nil->r9,getElem?_eq_none->eV,any_toArray->vS,length_range->rY,drop_zero->rX,take_length->aX,getElem?_eq_getElem->bX,mem_singleton->cC,map_append->ax,nodup_append->cK,drop_of_length_le->vP,map_take->mI,map_drop->vH,foldl_cons->kM,mem_of_mem_take->fz,append_assoc->c6,nodup_iff_pairwise_ne->pd,map_map->rS,mem_map_of_mem->jR,getElem_mem->jh,getElem?_of_mem->gp,take_append_drop->pc,foldl_append->jQ,take_zero->rQ,length_filter_le->dC,filter_append->rP,flatMap_append->vF,mem_flatMap->rO,map_eq_nil_iff->rM,getD_eq_getElem?_getD->rL,getElem_of_mem->vD,flatMap_cons->vB
open Option.some renaming inj->dZ
open PySem.W renaming instObj->qy,lookIn->Bd,plainGet->uM,hasDictIn->xD,findIn->df,isFn->xC,plainOver->Bc,makesIn->rH,emptyDict->nU,keepIn->iB,kitOne->nS,kia_one->jw,fnOf->iH,codeIn->mO,nsIn->cn,mg_of->gm,mg_none_of->fL
open PySem.Heap renaming lt_size->aY,SameBut->fF,get?_push_of_some->bq,get?_push_size->cF,size_push->nT,get?_update_self->v9
open PyProof.Rows renaming AllBare->nV,callWith_type1->Be,IntsAre->se
open Ne renaming symm->c_
open Array renaming length_toList->mx
open False renaming elim->jx
open True renaming intro->iZ
open PySem.Calls renaming spliced_cons->Bb,callWith_builtin->sj
open Option renaming isSome_iff_exists->A0,map_some->si,map_eq_some_iff->rK
open Int renaming toNat_natCast->jl,emod_nonneg->pf,emod_lt_of_pos->pe,eq_ofNat_of_zero_le->ji
open PySem.Obj renaming mapSeq->sk,data_mapFields->vY
open PySem.Paired renaming snoc->cD
open PySem.F renaming slot_dict_get->pA,entry_dict_get->v4,slot_tuple_iterator_next->vZ,slot_zip_next->vU,slot_dict_itemiterator_next->rV,slot_dict_keyiterator_next->rU,plainAttrs_list->cP,slot_list_append->eA,type_list_append->eo
open ForInStep renaming yield->v3
open PySem.NameKind renaming free->kS
open PySem.Builtin.SmallTypes renaming nextOf->kQ,ownedTupleIsFree->vX
open PySem.Str renaming ofString->kO
open PySem.Heap.SameBut renaming update->kN
open Classical renaming byContradiction->vT
open PySem.SeqAt renaming EqAt->bO
open PySem.Builtin.Str renaming strSliceIndices->rZ
open PySem.Txt renaming join->vR
open PySem.Builtin.Dict renaming showsAll->vO
open PySem.Builtin.Dict_items renaming ownsTuple->rW
open PySem.PassesOwn renaming never->bo
theorem Q0:0<=PySem.sizeLine:=by decide
theorem Q1:1<=PySem.sizeLine:=by decide
theorem Q2:2<=PySem.sizeLine:=by decide
theorem Q3:3<=PySem.sizeLine:=by decide
theorem Q4:4<=PySem.sizeLine:=by decide
theorem Q6:6<=PySem.sizeLine:=by decide
theorem zzr0 {p:Prop} [Decidable p] (h:¬p):decide p=false:=decide_eq_false h
theorem zzr1 {p:Prop} [Decidable p] (h:p):decide p=true:=decide_eq_true h
abbrev Za:=PySem.W.Frag
abbrev Zb:=List PySem.Str
abbrev Zc:=PySem.Value->PySem.Shared->Prop
abbrev Zd:=List (PySem.Addr×PySem.Obj)
abbrev Ze:=List PySem.Addr
abbrev Zf:=List PySem.Value
section
set_option Elab.async false
set_option linter.all false
set_option maxRecDepth 100000
set_option maxHeartbeats 4000000
namespace L2
open PySem PySem.Spec PyProof.Rows
open Sem (wp)
abbrev d_:=Sum Int Str
def cH:d_->Value->Bool
 | .inl k,v=>Value.isInt k v
 | .inr x,v=>Value.isStrOf x v
def HL (w:World):d_->Int
 | .inl k=>hashInt k
 | .inr x=>hashStr w x
theorem ar:∀{k:d_}{v:Value},cH k v=true->(∃i t,k=Sum.inl i/\v=Value.int i t)∨(∃x t,k=Sum.inr x/\v=Value.str x t)
 | .inl i,v,h=>by
  obtain ⟨t,e⟩:=Value.isInt_shape (k:=i) (v:=v) h;exact .inl ⟨i,t,rfl,e⟩
 | .inr x,v,h=>by
  obtain ⟨t,e⟩:=Value.isStrOf_shape (x:=x) (v:=v) h;exact .inr ⟨x,t,rfl,e⟩
theorem C4 (i:Int) (t:Tok):cH (.inl i) (.int i t)=true:=by simp [cH,Value.isInt]
theorem C3 (x:Str) (t:Tok):cH (.inr x) (.str x t)=true:=by simp [cH,Value.isStrOf]
theorem wV (a b:Int):decide ((Sum.inl a:d_)=Sum.inl b)=(a == b):=by
 by_cases e:a=b
 ·subst e; simp
 ·have h:¬(Sum.inl a:d_)=Sum.inl b:=fun q=>e (Sum.inl.inj q);rw [zzr0 h];exact (beq_eq_false_iff_ne.mpr e).symm
theorem wS (a b:Str):decide ((Sum.inr a:d_)=Sum.inr b)=decide (a=b):=by
 by_cases e:a=b
 ·subst e; simp
 ·have h:¬(Sum.inr a:d_)=Sum.inr b:=fun q=>e (Sum.inr.inj q);rw [zzr0 h,zzr0 e]
theorem wU (a:Int) (b:Str):decide ((Sum.inl a:d_)=Sum.inr b)=false:=zzr0 (fun q=>nomatch q)
theorem wT (a:Str) (b:Int):decide ((Sum.inr a:d_)=Sum.inl b)=false:=zzr0 (fun q=>nomatch q)
def bS (prog:bR) (w:World):PySem.KeyKind prog w d_ where
 is:=cH
 hash:=HL w
 inj:=fun v a b ha hb=>by
  rcases ar ha with ⟨i,t,rfl,rfl⟩ | ⟨x,t,rfl,rfl⟩
  ·rcases ar hb with ⟨j,u,rfl,e⟩ | ⟨y,u,rfl,e⟩
   ·injection e with e1 _; rw [e1]
   ·exact nomatch e
  ·rcases ar hb with ⟨j,u,rfl,e⟩ | ⟨y,u,rfl,e⟩
   ·exact nomatch e
   ·injection e with e1 _; rw [e1]
 byValue:=fun k v h=>by
  rcases ar h with ⟨i,t,rfl,rfl⟩ | ⟨x,t,rfl,rfl⟩ <;> rfl
 pyHash:=fun hv h=>by
  rcases ar hv with ⟨i,t,rfl,rfl⟩ | ⟨x,t,rfl,rfl⟩
  ·exact wpAny_pyHash_int h
  ·exact wpAny_pyHash_str h
 eqBool:=fun hu hv h=>by
  rcases ar hu with ⟨i,t,rfl,rfl⟩ | ⟨x,t,rfl,rfl⟩
  ·rcases ar hv with ⟨j,u,rfl,rfl⟩ | ⟨y,u,rfl,rfl⟩
   ·rw [wV] at h; exact wpAny_eqBool_int h
   ·rw [wU] at h; exact bO.int_str i t y u _ _ _ _ h
  ·rcases ar hv with ⟨j,u,rfl,rfl⟩ | ⟨y,u,rfl,rfl⟩
   ·rw [wT] at h; exact bO.str_int x t j u _ _ _ _ h
   ·rw [wS] at h; exact wpAny_eqBool_str h
 «strs»:=fun k x t v h=>by
  rcases ar h with ⟨i,u,rfl,e⟩ | ⟨y,u,rfl,e⟩
  ·exact nomatch e
  ·injection e with e1 _;subst e1;cases v <;> rfl
theorem yF (prog:bR) (w:World) (i:Int) (t:Tok):(bS prog w).is (.inl i) (.int i t)=true:=C4 i t
theorem yE (prog:bR) (w:World) (x:Str) (t:Tok):(bS prog w).is (.inr x) (.str x t)=true:=C3 x t
end L2
namespace L2
open PySem PySem.Spec PyProof.Rows
open Sem (wp)
inductive TK where
 | k (a:d_)
 | t (l:List TK)
mutual
def G0:(x y:TK)->Decidable (x=y)
 | .k a,.k b=>if h:a=b then Decidable.isTrue (by rw [h]) else Decidable.isFalse fun e=>h (by injection e)
 | .t l,.t m=>match decTKs l m with
  | Decidable.isTrue h=>Decidable.isTrue (by rw [h])
  | Decidable.isFalse h=>Decidable.isFalse fun e=>h (by injection e)
 | .k _,.t _=>Decidable.isFalse nofun
 | .t _,.k _=>Decidable.isFalse nofun
def decTKs:(x y:List TK)->Decidable (x=y)
 | [],[]=>Decidable.isTrue rfl
 | [],_::_=>Decidable.isFalse nofun
 | _::_,[]=>Decidable.isFalse nofun
 | a::l,b::m=>match G0 a b with
  | Decidable.isTrue h=>match decTKs l m with
   | Decidable.isTrue h'=>Decidable.isTrue (by rw [h,h'])
   | Decidable.isFalse h'=>Decidable.isFalse fun e=>h' (by injection e)
  | Decidable.isFalse h=>Decidable.isFalse fun e=>h (by injection e)
end
instance:DecidableEq TK:=G0
mutual
def TK.depth:TK->Nat
 | .k _=>0
 | .t l=>TK.depths l+1
def TK.depths:List TK->Nat
 | []=>0
 | a::r=>max (TK.depth a) (TK.depths r)
end
mutual
def TK.hash (w:World):TK->Int
 | .k a=>HL w a
 | .t l=>reduceHash (zE (TK.hashs w l))
def TK.hashs (w:World):List TK->List Int
 | []=>[]
 | a::r=>TK.hash w a::TK.hashs w r
end
mutual
def TK.draws:TK->Nat
 | .k _=>1
 | .t l=>TK.drawss l+1
def TK.drawss:List TK->Nat
 | []=>0
 | a::r=>TK.draws a+TK.drawss r
end
mutual
def mn (h:Heap):TK->Value->Prop
 | .k a,v=>cH a v=true
 | .t l,v=>∃a o items n,v=.ref a/\h.get? a=some o/\o.cls=.type "tuple"/\o.data=.seq items n/\TAts h l items.toList
def TAts (h:Heap):List TK->List Value->Prop
 | [],vs=>vs=[]
 | k::r,vs=>∃v us,vs=v::us/\mn h k v/\TAts h r us
end
theorem mn.inj {h:Heap}:∀(d:Nat) {x y:TK}{v:Value},x.depth<=d->mn h x v->mn h y v->x=y:=by
 have key:∀(d:Nat) (ih:∀{x y:TK}{v:Value},x.depth<=d->mn h x v->mn h y v->x=y) (xs ys:List TK) (vs:Zf),TK.depths xs<=d->TAts h xs vs->TAts h ys vs->xs=ys:=by
  intro d ih xs
  induction xs with
  | nil =>
   intro ys vs _ hx hy;have hx':vs=[]:=hx;subst hx';cases ys with
   | nil=>rfl
   | cons y ys=>obtain ⟨_,_,e,_⟩:=hy; cases e
  | cons x xs ihl =>
   intro ys vs hd hx hy;obtain ⟨v,us,rfl,hx1,hx2⟩:=hx;cases ys with
   | nil=>have hy':v::us=[]:=hy; cases hy'
   | cons y ys =>
    obtain ⟨v',us',e,hy1,hy2⟩:=hy;cases e;have hd':max x.depth (TK.depths xs)<=d:=hd;rw [ih (by omega) hx1 hy1,ihl ys us (by omega) hx2 hy2]
 have leaf:∀(a:d_) (l:List TK) (v:Value),mn h (.k a) v->mn h (.t l) v->False:=by
  intro a l v h1 h2;obtain ⟨b,o,items,n,rfl,_⟩:=h2;rcases ar (show cH a (.ref b)=true from h1) with ⟨_,_,_,e⟩ | ⟨_,_,_,e⟩ <;> cases e
 have kk:∀(a b:d_) (v:Value),cH a v=true->cH b v=true->a=b:=by
  intro a b v h1 h2;rcases ar h1 with ⟨i,t,rfl,rfl⟩ | ⟨i,t,rfl,rfl⟩
  ·rcases ar h2 with ⟨j,u,rfl,e⟩ | ⟨j,u,rfl,e⟩
   ·cases e; rfl
   ·cases e
  ·rcases ar h2 with ⟨j,u,rfl,e⟩ | ⟨j,u,rfl,e⟩
   ·cases e
   ·cases e; rfl
 intro d
 induction d with
 | zero =>
  intro x y v hd hx hy;cases x with
  | t l=>exact absurd hd (by show ¬(TK.depths l+1<=0); omega)
  | k a =>
   cases y with
   | k b=>rw [kk a b v hx hy]
   | t l=>exact (leaf a l v hx hy).elim
 | succ d ih =>
  intro x y v hd hx hy;cases x with
  | k a =>
   cases y with
   | k b=>rw [kk a b v hx hy]
   | t l=>exact (leaf a l v hx hy).elim
  | t l =>
   cases y with
   | k b=>exact (leaf b l v hy hx).elim
   | t l' =>
    obtain ⟨a,o,items,n,rfl,ho,hc,hdt,hi⟩:=hx;obtain ⟨a',o',items',n',e,ho',hc',hdt',hi'⟩:=hy;cases e;rw [ho] at ho'; cases ho';rw [hdt] at hdt';injection hdt' with e1 _;subst e1;rw [key d (fun h1=>ih h1) l l' items.toList (by have:TK.depths l+1<=d+1:=hd; omega) hi hi']
theorem mn.mono {h h':Heap}(k:∀a o items n,h.get? a=some o->o.cls=.type "tuple"->o.data=.seq items n->h'.get? a=some o):∀(d:Nat) {x:TK}{v:Value},x.depth<=d->mn h x v->mn h' x v:=by
 have key:∀(d:Nat) (ih:∀{x:TK}{v:Value},x.depth<=d->mn h x v->mn h' x v) (xs:List TK) (vs:Zf),TK.depths xs<=d->TAts h xs vs->TAts h' xs vs:=by
  intro d ih xs
  induction xs with
  | nil=>intro vs _ hx; exact hx
  | cons x xs ihl =>
   intro vs hd hx;obtain ⟨v,us,rfl,hx1,hx2⟩:=hx;have hd':max x.depth (TK.depths xs)<=d:=hd;exact ⟨v,us,rfl,ih (by omega) hx1,ihl us (by omega) hx2⟩
 intro d
 induction d with
 | zero =>
  intro x v hd hx;cases x with
  | t l=>exact absurd hd (by show ¬(TK.depths l+1<=0); omega)
  | k a=>exact hx
 | succ d ih =>
  intro x v hd hx;cases x with
  | k a=>exact hx
  | t l =>
   obtain ⟨a,o,items,n,rfl,ho,hc,hdt,hi⟩:=hx;exact ⟨a,o,items,n,rfl,k a o items n ho hc hdt,hc,hdt,key d (fun h1=>ih h1) l _ (by have:TK.depths l+1<=d+1:=hd; omega) hi⟩
section
variable {prog:bR}{w:World}
theorem FB:∀(d:Nat) {A:Around}{E:Zc}{s:Shared}{k:TK}{v:Value}{Q:Int->Shared->Prop},k.depth<=d->A.units+d<cLine->mn s.heap k v->Q (k.hash w) { s with toks:=s.toks+k.draws } ->
  wpAny (model prog w) A (pyHash v) Q E s:=by
 intro d
 induction d with
 | zero =>
  intro A E s k v Q hd hu hk h;cases k with
  | t l=>exact absurd hd (by show ¬(TK.depths l+1<=0); omega)
  | k a=>exact (bS prog w).pyHash (k:=a) hk h
 | succ d ih =>
  intro A E s k v Q hd hu hk h;cases k with
  | k a=>exact (bS prog w).pyHash (k:=a) hk h
  | t l =>
   obtain ⟨a,o,items,n,rfl,ho,hc,hdt,hi⟩:=hk;have hT:s.TypeIs (.ref a) "tuple":=⟨o,ho,hc⟩;have hdl:TK.depths l<=d:=by have:TK.depths l+1<=d+1:=hd; omega
   unfold pyHash
   first | unfold pyHashByItsType | skip
   first | refine ak (wpAny_cRoomFor_or (.inr (by omega)) ?_) | skip
   refine ak (Fx hT F.slot_tuple_hash.lookup ?_);show wpAny _ _ (if (some (Value.builtin "tuple.__hash__") == some Value.none)=true then _ else _) Q E s
   rw [if_neg (by rw [beq_builtin_none]; exact gh)];refine ak (Fx hT F.slot_tuple_hash.lookup ?_);show wpAny _ _ (callSpecialIfBoundUnlessNone? (.ref a) "__hash__" _ >>= _) Q E s;refine ak (wpAny_callSpecialIfBoundUnlessNone?_slot hT F.slot_tuple_hash (o_ F.slot_tuple_hash hT F.entry_tuple_hash ?_ (F.args_tuple_hash_1 _)));show wpAny _ _ (cg.Tuple.tupleItemsOf (.ref a) >>= _) _ _ s;refine ak (wpAny_tupleItemsOf ho hdt ?_);refine ak ?_;rw [<-Array.forIn_toList];refine wpAny_forIn_list _
    (fun rest (b:Array Int) s'=>∃done left,l=done++left/\TAts s.heap left rest/\b.toList=TK.hashs w done/\s'={ s with toks:=s.toks+TK.drawss done })
    _ ?_ ?_ _ _ ⟨[],l,rfl,hi,rfl,rfl⟩
   ·rintro x rest b s' ⟨done,left,e,hl,hb,rfl⟩;cases left with
    | nil=>have hl':x::rest=[]:=hl; cases hl'
    | cons k' left =>
     obtain ⟨x',rest',e',h1,h2⟩:=hl;cases e';have hdk:k'.depth<=d:=by
      have gen:∀(p:List TK),TK.depths (p++k'::left)<=d->k'.depth<=d:=by
       intro p
       induction p with
       | nil=>intro hp; have hp':max k'.depth (TK.depths left)<=d:=hp; omega
       | cons q p ihp=>intro hp; have hp':max q.depth (TK.depths (p++k'::left))<=d:=hp; exact ihp (by omega)
      exact gen done (by rw [<-e]; exact hdl)
     have hs:TK.hashs w (done++[k'])=TK.hashs w done++[k'.hash w]:=by
      clear e hb
      induction done with
      | nil=>rfl
      | cons q p ihp=>show _::TK.hashs w (p++[k'])=_; rw [ihp]; rfl
     have hdr:TK.drawss (done++[k'])=TK.drawss done+k'.draws:=by
      clear e hb hs
      induction done with
      | nil=>show k'.draws+0=0+k'.draws; omega
      | cons q p ihp=>show q.draws+TK.drawss (p++[k'])=q.draws+TK.drawss p+k'.draws; rw [ihp]; omega
     refine ak (ih (k:=k') hdk (by show A.units+1+d<cLine; omega) h1 ?_)
     first
      | exact aH ⟨done++[k'],left,by rw [e]; simp,h2,by rw [hs]; simp [hb],by rw [hdr]; simp [DB]⟩
      | exact ak (aH (aH ⟨done++[k'],left,by rw [e]; simp,h2,by rw [hs]; simp [hb],by rw [hdr]; simp [DB]⟩))
   ·rintro b s' ⟨done,left,e,hl,hb,rfl⟩;cases left with
    | cons k' left=>obtain ⟨_,_,e',_⟩:=hl; cases e'
    | nil =>
     rw [fK] at e;subst e;show wpAny _ _ (retInt (zE b.toList)) _ _ _;rw [hb];refine wpAny_ret_mkInt ?_;have h':Q (reduceHash (zE (TK.hashs w l))) { s with toks:=s.toks+(TK.drawss l+1) }:=h;show wpAny _ _ (if (decide (-(2:Int) ^ 63<=zE (TK.hashs w l)) && decide (zE (TK.hashs w l)<2 ^ 63))=true then _ else _) Q E _
     unfold reduceHash at h';by_cases hr:(decide (-(2:Int) ^ 63<=zE (TK.hashs w l)) && decide (zE (TK.hashs w l)<2 ^ 63))=true
     ·rw [if_pos hr];rw [if_pos hr] at h';exact aH (by simpa [DB] using h')
     ·rw [if_neg hr];rw [if_neg hr] at h';exact ak (xB (aH (by simpa [DB] using h')))
theorem Cz (d:Nat) (ih:∀{A:Around}{E:Zc}{s:Shared}{x y:TK}{u v:Value}{Q:Bool->Shared->Prop},x.depth<=d->y.depth<=d->A.units+d<cLine->mn s.heap x u->mn s.heap y v->Q (decide (x=y)) s->wpAny (model prog w) A (eqBool u v) Q E s)
  {A:Around}{E:Zc}{s:Shared}{x y:List TK}{a b:Addr}{P:Fin->Shared->Prop}{oa ob:Obj}{xs ys:Array Value}{na nb:Nat}(hx:TK.depths x<=d) (hy:TK.depths y<=d) (hu:A.units+d<cLine)
  (hoa:s.heap.get? a=some oa) (hda:oa.data=.seq xs na) (hia:TAts s.heap x xs.toList) (hob:s.heap.get? b=some ob) (hcb:ob.cls=.type "tuple") (hdb:ob.data=.seq ys nb) (hib:TAts s.heap y ys.toList)
  (h:P (.done (.ret (.bool (decide (x=y))))) s):wpAny (model prog w) A (cg.«tuple.__eq__» ⟨[.ref a,.ref b],[]⟩) P E s:=by
 have hTb:s.TypeIs (.ref b) "tuple":=⟨ob,hob,hcb⟩;show wpAny _ _ (isInstance (.ref b) (.type "tuple") >>= _) _ _ s;refine ak (xG hTb isSubtype_tuple_tuple ?_);simp only [Bk,kU,if_false];refine ak (wpAny_tupleItemsOf hoa hda ?_);refine ak (wpAny_tupleItemsOf hob hdb ?_);refine ak ?_;refine wpAny_forIn_list _
  (fun rest r s'=>r.1=none/\s'=s/\∃x' y' xs' ys',rest=List.zip xs' ys'/\TAts s.heap x' xs'/\TAts s.heap y' ys'/\TK.depths x'<=d/\TK.depths y'<=d/\decide (x'=y')=decide (x=y)/\(xs'.length == ys'.length)=(xs.size == ys.size))
  _ ?_ ?_ _ _ ⟨rfl,rfl,x,y,xs.toList,ys.toList,rfl,hia,hib,hx,hy,rfl,by simp⟩
 ·rintro ⟨u,v⟩ rest r s' ⟨hr,rfl,x',y',xs',ys',hz,hx',hy',dx,dy,hdec,hlen⟩;cases x' with
  | nil =>
   have e:xs'=[]:=hx';subst e; simp at hz
  | cons k1 x'' =>
   obtain ⟨u',xs'',rfl,h1,hx''⟩:=hx';cases y' with
   | nil =>
    have e:ys'=[]:=hy';subst e; simp at hz
   | cons k2 y'' =>
    obtain ⟨v',ys'',rfl,h2,hy''⟩:=hy';simp only [List.zip_cons_cons,List.cons.injEq,Prod.mk.injEq] at hz;obtain ⟨⟨rfl,rfl⟩,rfl⟩:=hz;have dx':max k1.depth (TK.depths x'')<=d:=dx;have dy':max k2.depth (TK.depths y'')<=d:=dy;refine ak (ih (x:=k1) (y:=k2) (by omega) (by omega) hu h1 h2 ?_);by_cases hk:k1=k2
    ·subst hk;rw [zzr1 rfl];simp only [Bk,kU,if_false];refine aH ⟨rfl,rfl,x'',y'',xs'',ys'',rfl,hx'',hy'',by omega,by omega,?_,by simpa using hlen⟩;rw [<-hdec];by_cases hxy:x''=y''
     ·simp [hxy]
     ·simp [hxy]
    ·rw [zzr0 hk];simp only [Bool.not_false,if_true];have hf:decide (x=y)=false:=by rw [<-hdec]; simp [hk]
     rw [hf] at h;exact ak (aH (aH (aH h)))
 ·rintro ⟨r1,r2⟩ s' ⟨hr,rfl,x',y',xs',ys',hz,hx',hy',dx,dy,hdec,hlen⟩;simp only at hr;subst hr;refine aH ?_;have hfin:(xs.size == ys.size)=decide (x=y):=by
   rw [<-hdec,<-hlen];cases x' with
   | nil =>
    have e:xs'=[]:=hx';subst e;cases y' with
    | nil=>have e:ys'=[]:=hy'; subst e; simp
    | cons _ _=>obtain ⟨_,_,rfl,_⟩:=hy'; simp
   | cons _ _ =>
    obtain ⟨_,_,rfl,_⟩:=hx';cases y' with
    | nil=>have e:ys'=[]:=hy'; subst e; simp
    | cons _ _=>obtain ⟨_,_,rfl,_⟩:=hy'; simp at hz
  show P (.done (.ret (.bool (xs.size == ys.size)))) s';rw [hfin]; exact h
theorem HB:∀(d:Nat) {A:Around}{E:Zc}{s:Shared}{x y:TK}{u v:Value}{Q:Bool->Shared->Prop},x.depth<=d->y.depth<=d->A.units+d<cLine->mn s.heap x u->mn s.heap y v->Q (decide (x=y)) s ->
  wpAny (model prog w) A (eqBool u v) Q E s:=by
 have mixed1:∀{A:Around}{E:Zc}{s:Shared}{a:d_}{l:List TK}{u v:Value}{Q:Bool->Shared->Prop},A.units<cLine->mn s.heap (.k a) u->mn s.heap (.t l) v->Q false s->wpAny (model prog w) A (eqBool u v) Q E s:=by
  intro A E s a l u v Q hu hx hy h;obtain ⟨b,o,items,n,rfl,ho,hc,hdt,hi⟩:=hy;have ht:s.heap.IsTuple b items:=⟨o,ho,hc,n,hdt⟩;rcases ar (show cH a u=true from hx) with ⟨i,t,rfl,rfl⟩ | ⟨i,t,rfl,rfl⟩
  ·exact bO.int_tuple i t ht hu prog w E Q h
  ·exact bO.str_tuple i t ht hu prog w E Q h
 have mixed2:∀{A:Around}{E:Zc}{s:Shared}{a:d_}{l:List TK}{u v:Value}{Q:Bool->Shared->Prop},A.units<cLine->mn s.heap (.t l) u->mn s.heap (.k a) v->Q false s->wpAny (model prog w) A (eqBool u v) Q E s:=by
  intro A E s a l u v Q hu hx hy h;obtain ⟨b,o,items,n,rfl,ho,hc,hdt,hi⟩:=hx;have ht:s.heap.IsTuple b items:=⟨o,ho,hc,n,hdt⟩;rcases ar (show cH a v=true from hy) with ⟨i,t,rfl,rfl⟩ | ⟨i,t,rfl,rfl⟩
  ·exact bO.tuple_int i t ht hu prog w E Q h
  ·exact bO.tuple_str i t ht hu prog w E Q h
 have leaves:∀{A:Around}{E:Zc}{s:Shared}{a b:d_}{u v:Value}{Q:Bool->Shared->Prop},mn s.heap (.k a) u->mn s.heap (.k b) v->Q (decide (TK.k a=TK.k b)) s->wpAny (model prog w) A (eqBool u v) Q E s:=by
  intro A E s a b u v Q hx hy h;refine (bS prog w).eqBool (a:=a) (b:=b) hx hy ?_;by_cases e:a=b
  ·subst e; simpa using h
  ·have:¬(TK.k a=TK.k b):=fun z=>e (by injection z);rw [zzr0 this] at h;rw [zzr0 e]; exact h
 intro d
 induction d with
 | zero =>
  intro A E s x y u v Q hdx hdy hu hx hy h;cases x with
  | t l=>exact absurd hdx (by show ¬(TK.depths l+1<=0); omega)
  | k a =>
   cases y with
   | t l=>exact absurd hdy (by show ¬(TK.depths l+1<=0); omega)
   | k b=>exact leaves hx hy h
 | succ d ih =>
  intro A E s x y u v Q hdx hdy hu hx hy h;cases x with
  | k a =>
   cases y with
   | k b=>exact leaves hx hy h
   | t l =>
    rw [zzr0 (by intro z; cases z)] at h;exact mixed1 (by omega) hx hy h
  | t l =>
   cases y with
   | k b =>
    rw [zzr0 (by intro z; cases z)] at h;exact mixed2 (by omega) hx hy h
   | t m =>
    have hl:TK.depths l<=d:=by have:TK.depths l+1<=d+1:=hdx; omega
    have hm:TK.depths m<=d:=by have:TK.depths m+1<=d+1:=hdy; omega
    have hx0:=hx;have hy0:=hy;obtain ⟨a,oa,xs,na,rfl,hoa,hca,hda,hia⟩:=hx;obtain ⟨b,ob,ys,nb,rfl,hob,hcb,hdb,hib⟩:=hy;have hTa:s.TypeIs (.ref a) "tuple":=⟨oa,hoa,hca⟩;have hTb:s.TypeIs (.ref b) "tuple":=⟨ob,hob,hcb⟩;have hd':decide (TK.t l=TK.t m)=decide (l=m):=by
     by_cases e:l=m
     ·subst e; simp
     ·have:¬(TK.t l=TK.t m):=fun z=>e (by injection z);rw [zzr0 this,zzr0 e]
    unfold eqBool
    try with_reducible refine kR ?_
    show wpAny _ _ (if (Value.ref a == Value.ref b)=true then _ else _) Q E s
    by_cases hab:(Value.ref a == Value.ref b)=true
    ·rw [if_pos hab];have e:a=b:=by have:=eq_of_beq hab; injection this
     subst e;have e2:TK.t l=TK.t m:=mn.inj _ (aG _) hx0 hy0;rw [zzr1 e2] at h;exact ak (xB (aH h))
    ·rw [if_neg hab];rw [hd'] at h;exact ak (wpAny_richCompare_same_room (op:=.Eq) hTa hTb F.slot_tuple_eq
      (o_ F.slot_tuple_eq hTa F.entry_tuple_eq (Cz d (fun h1 h2 h3 h4 h5 h6=>ih h1 h2 h3 h4 h5 h6) hl hm (by show A.units+1+d<cLine; omega) hoa hda hia hob hcb hdb hib ⟨_,rfl,(fun e=>nomatch e),qz h⟩) (F.args_tuple_eq_2 _ _)) (by omega))
theorem DK:∀(d:Nat) {A:Around}{E:Zc}{s:Shared}{k:TK}{v:Value}{Q:Bool->Shared->Prop},k.depth<=d->mn s.heap k v->Q true s->wpAny (model prog w) A (eqIsQuiet d v) Q E s:=by
 intro d
 induction d with
 | zero =>
  intro A E s k v Q hd hk h;cases k with
  | t l=>exact absurd hd (by show ¬(TK.depths l+1<=0); omega)
  | k a=>rw [eqIsQuiet_byValue _ ((bS prog w).byValue a v hk)]; exact aH h
 | succ d ih =>
  intro A E s k v Q hd hk h;cases k with
  | k a=>rw [eqIsQuiet_byValue _ ((bS prog w).byValue a v hk)]; exact aH h
  | t l =>
   have hl:TK.depths l<=d:=by have:TK.depths l+1<=d+1:=hd; omega
   obtain ⟨a,o,items,n,rfl,ho,hc,hdt,hi⟩:=hk;have hT:s.TypeIs (.ref a) "tuple":=⟨o,ho,hc⟩;unfold eqIsQuiet;refine ak (Fx hT F.slot_tuple_eq.lookup ?_);show wpAny _ _ (isInstance (.ref a) (.type "tuple") >>= _) _ _ s;refine ak (xG hT isSubtype_tuple_tuple ?_);simp only [Bk,kU,if_false];refine ak (my ho hdt ?_);refine ak ?_;show wpAny _ _ (forIn items _ _) _ _ s;rw [<-Array.forIn_toList];refine wpAny_forIn_list _ (fun rest r s'=>r.1=none/\s'=s/\∃left,TAts s.heap left rest/\TK.depths left<=d) _ ?_ ?_ _ _ ⟨rfl,rfl,l,hi,hl⟩
   ·rintro v rest r s' ⟨hr,rfl,left,hall,hdl⟩;cases left with
    | nil=>have e:v::rest=[]:=hall; cases e
    | cons k' left =>
     obtain ⟨v',rest',e,h1,h2⟩:=hall;cases e;have hdl':max k'.depth (TK.depths left)<=d:=hdl;refine ak (ih (k:=k') (by omega) h1 ?_);simp only [Bk,kU,if_false];exact aH ⟨rfl,rfl,left,h2,by omega⟩
   ·rintro ⟨r1,r2⟩ s' ⟨hr,rfl,_⟩;simp only at hr;subst hr;exact aH h
def dQ (prog:bR) (w:World):HeapKind prog w TK where
 is:=fun h k a=>mn h k (.ref a)/\k.depth<=8
 hash:=TK.hash w
 draws:=TK.draws
 room:=fun A=>A.units+8<cLine
 inj:=fun hx hy=>mn.inj 8 hx.2 hx.1 hy.1
 keeps:=fun {h h' k a d o es ep} x ho hd hs=>⟨mn.mono (fun b ob items n hb _ hdb=>(hs.2 b fun e=>by
  subst e;rw [ho] at hb;cases hb;rw [hd] at hdb;cases hdb).trans hb) 8 x.2 x.1,x.2⟩
 pyHash:=fun hu hk h=>FB 8 hk.2 hu hk.1 h
 eqBool:=fun hu hx hy h=>HB 8 hx.2 hy.2 hu hx.1 hy.1 h
 quiet:=fun hk h=>DK 8 hk.2 hk.1 h
end
end L2
namespace L2
open PySem PySem.Spec PyProof.Rows
inductive V where
 | non | bl (b:Bool) | int (i:Int) | str (x:Str) | byt (b:Array UInt8) | flt (b:UInt64) | ref (a:Addr) | ty (n:String)
 deriving DecidableEq
def RelV:V->Value->Prop
 | .non,u=>u=Value.none
 | .bl b,u=>u=Value.bool b
 | .int i,u=>∃t,u=Value.int i t
 | .str x,u=>∃t,u=Value.str x t
 | .byt b,u=>∃t,u=Value.bytes b t
 | .flt b,u=>∃t,u=Value.float b t
 | .ref a,u=>u=Value.ref a
 | .ty n,u=>u=Value.type n
abbrev bc:List V->List Value->Prop:=Paired RelV
theorem bc.length {xs:List V}{us:Zf}(r:bc xs us):xs.length=us.length:=Paired.length r
theorem bc.get:∀{xs:List V}{us:Zf}{i:Nat}{x:V},bc xs us->xs[i]?=some x->∃u,us[i]?=some u/\RelV x u
 | _,_,_,_,.nil,e=>by simp at e
 | _,_,0,_,.cons r _,e=>by simp at e; subst e; exact ⟨_,rfl,r⟩
 | _,_,i+1,x,.cons _ t,e=>by
  obtain ⟨u,h1,h2⟩:=bc.get (i:=i) (x:=x) t (by simpa using e);exact ⟨u,by simpa using h1,h2⟩
theorem bc.set {x:V}{u:Value}(r:RelV x u):∀{xs:List V}{us:Zf}(i:Nat),bc xs us->bc (xs.set i x) (us.set i u)
 | _,_,_,.nil=>.nil
 | _,_,0,.cons _ t=>.cons r t
 | _,_,i+1,.cons q t=>.cons q (bc.set r i t)
theorem bc.append:∀{xs ys:List V}{us ws:Zf},bc xs us->bc ys ws->bc (xs++ys) (us++ws)
 | _,_,_,_,.nil,s=>s
 | _,_,_,_,.cons r t,s=>.cons r (bc.append t s)
theorem bc.take:∀{xs:List V}{us:Zf}(n:Nat),bc xs us->bc (xs.take n) (us.take n)
 | _,_,0,_=>.nil
 | _,_,_+1,.nil=>.nil
 | _,_,n+1,.cons r t=>.cons r (bc.take n t)
theorem bc.drop:∀{xs:List V}{us:Zf}(n:Nat),bc xs us->bc (xs.drop n) (us.drop n)
 | _,_,0,r=>r
 | _,_,_+1,.nil=>.nil
 | _,_,n+1,.cons _ t=>bc.drop n t
def kI:Option V->Option Value->Prop
 | some v,some u=>RelV v u
 | none,none=>True
 | _,_=>False
def KV {κ:Type}:List (κ×V)->List (κ×Value)->Prop:=Paired fun (p:κ×V) (q:κ×Value)=>p.1=q.1/\RelV p.2 q.2
def kV:d_->V
 | .inl i=>.int i
 | .inr x=>.str x
inductive HO where
 | lst (xs:List V)
 | tup (xs:List V)
 | dK (kvs:List (d_×V)) | dT (kvs:List (TK×V))
 | set (S:Int->Bool) (n:Nat)
 | ins (C dx:Addr) (fs:List (Str×V))
 | own (x:Addr)
 | xd (fs:List (Str×V))
 | met (f x:Addr)
 | rng (lo hi:Int)
 | frz (o:Obj) (u:HO)
 | tbl (ps:Array Value)
 | ext (φ:Heap->Prop)
abbrev Hp:=Addr->Option HO
mutual
def cN (H:Hp):TK->V->Prop
 | .k a,v=>v=kV a
 | .t l,v=>∃b xs,v=.ref b/\H b=some (.tup xs)/\TKAts H l xs
def TKAts (H:Hp):List TK->List V->Prop
 | [],vs=>vs=[]
 | k::r,vs=>∃v us,vs=v::us/\cN H k v/\TKAts H r us
end
def bT (K:Za) (H:Hp) (a:Addr) (xs:List V):Prop :=
 H a=some (.tup xs)∨∃(o:Obj) (its:Array Value) (n:Nat),K.lookup a=some o/\o.cls=.type "tuple"/\o.data=.seq its n/\its.size<=ai/\bc xs its.toList
theorem bT.keeps {K:Za}{H H':Hp}{a:Addr}{xs:List V}(h:bT K H a xs) (ht:∀b xs,H b=some (.tup xs)->H' b=some (.tup xs)):bT K H' a xs:=h.imp (ht a xs) id
mutual
def nA (K:Za) (H:Hp):TK->V->Prop
 | .k a,v=>v=kV a
 | .t l,v=>∃b xs,v=.ref b/\bT K H b xs/\TKCs K H l xs
def TKCs (K:Za) (H:Hp):List TK->List V->Prop
 | [],vs=>vs=[]
 | k::r,vs=>∃v us,vs=v::us/\nA K H k v/\TKCs K H r us
end
theorem nA.keeps {K:Za}{H H':Hp}(ht:∀b xs,H b=some (.tup xs)->H' b=some (.tup xs)):∀(d:Nat) {k:TK}{v:V},k.depth<=d->nA K H k v->nA K H' k v:=by
 have key:∀(d:Nat) (ih:∀{k:TK}{v:V},k.depth<=d->nA K H k v->nA K H' k v) (xs:List TK) (vs:List V),TK.depths xs<=d->TKCs K H xs vs->TKCs K H' xs vs:=by
  intro d ih xs
  induction xs with
  | nil=>intro vs _ hx; exact hx
  | cons x xs ihl =>
   intro vs hd hx;obtain ⟨v,us,rfl,hx1,hx2⟩:=hx;have hd':max x.depth (TK.depths xs)<=d:=hd;exact ⟨v,us,rfl,ih (by omega) hx1,ihl us (by omega) hx2⟩
 intro d
 induction d with
 | zero =>
  intro k v hd hx;cases k with
  | t l=>exact absurd hd (by show ¬(TK.depths l+1<=0); omega)
  | k a=>exact hx
 | succ d ih =>
  intro k v hd hx;cases k with
  | k a=>exact hx
  | t l =>
   obtain ⟨b,xs,rfl,hb,hi⟩:=hx;exact ⟨b,xs,rfl,hb.keeps ht,key d (fun h1=>ih h1) l xs (by have:TK.depths l+1<=d+1:=hd; omega) hi⟩
theorem cN.c {K:Za}{H:Hp}:∀(d:Nat) {k:TK}{v:V},k.depth<=d->cN H k v->nA K H k v:=by
 have key:∀(d:Nat) (ih:∀{k:TK}{v:V},k.depth<=d->cN H k v->nA K H k v) (xs:List TK) (vs:List V),TK.depths xs<=d->TKAts H xs vs->TKCs K H xs vs:=by
  intro d ih xs
  induction xs with
  | nil=>intro vs _ hx; exact hx
  | cons x xs ihl =>
   intro vs hd hx;obtain ⟨v,us,rfl,hx1,hx2⟩:=hx;have hd':max x.depth (TK.depths xs)<=d:=hd;exact ⟨v,us,rfl,ih (by omega) hx1,ihl us (by omega) hx2⟩
 intro d
 induction d with
 | zero =>
  intro k v hd hx;cases k with
  | t l=>exact absurd hd (by show ¬(TK.depths l+1<=0); omega)
  | k a=>exact hx
 | succ d ih =>
  intro k v hd hx;cases k with
  | k a=>exact hx
  | t l =>
   obtain ⟨b,xs,rfl,hb,hi⟩:=hx;exact ⟨b,xs,rfl,.inl hb,key d (fun h1=>ih h1) l xs (by have:TK.depths l+1<=d+1:=hd; omega) hi⟩
def upd (H:Hp) (a:Addr) (o:HO):Hp:=fun b=>if b=a then some o else H b
theorem aa {H:Hp}{a:Addr}{o:HO}:upd H a o a=some o:=by unfold upd; rw [if_pos rfl]
theorem af {H:Hp}{a b:Addr}{o:HO}(h:b≠a):upd H a o b=H b:=by unfold upd; rw [if_neg h]
theorem rf {H:Hp}{a:Addr}{o u:HO}:upd (upd H a o) a u=upd H a u:=by
 funext b; unfold upd; split <;> rfl
theorem BK {H:Hp}{a b:Addr}{o u:HO}(h:H a=some o) (h':H b=some u) (d:o≠u):a≠b:=by
 intro e; subst e; rw [h] at h'; exact d (dZ h')
theorem ae {H:Hp}{a b:Addr}{o:HO}(h:H a=some o) (h':H b=none):a≠b:=by
 intro e; subst e; rw [h] at h'; cases h'
section
variable (P:bR) (w:World) (K:Za)
def bV (H:Hp) (h:Heap) (a:Addr):HO->Prop
 | .lst xs=>xs.length<=ai/\∃(its:Zf) (n:Nat),bc xs its/\h.get? a=some { cls:=.type "list",data:=.seq its.toArray n }
 | .tup xs=>xs.length<=ai/\∃its:List Value,bc xs its/\IsTup h a its.toArray
 | .dK kvs=>kvs.length<=ai/\(a == gk)=false/\∃vs,KV kvs vs/\h.DictOf (bS P w) a vs
 | .dT kvs=>kvs.length<=ai/\(a == gk)=false/\∃xs:List (TK×Addr×Value),
   Paired (fun (p:TK×V) (q:TK×Addr×Value)=>p.1=q.1/\nA K H p.1 (.ref q.2.1)/\p.1.depth<=8/\RelV p.2 q.2.2) kvs xs /\
   ∃o es ep,h.get? a=some o/\o.ExactDict/\o.data=.dict es ep/\es.toList=xs.map (entryOfKey (dQ P w))/\(xs.map (·.1)).Nodup
 | .set S n=>h.SetOf (intKind P w) a S n
 | .ins C dx fs=>H dx=some (.own a)/\fs.length<=1000/\dx≠a/\h.get? a=some (qy C dx) /\
   ∃mA,h.Ns1 dx mA/\(∀f,kI (fs.lookup f) (mA f))/\PySem.Within mA (fs.map (·.1))
 | .own _=>∃o,h.get? a=some o
 | .xd fs=>∃mA,h.Ns1 a mA/\∀f,kI (fs.lookup f) (mA f)
 | .rng lo hi=>∃t u v,h.get? a=some { cls:=.type "range",data:=.fields #[.int lo t,.int hi u,.int 1 v] }
 | .frz o u=>h.get? a=some o/\bV H h a u
 | .tbl ps=>h.get? a=some { cls:=.none,data:=.fields ps }
 | .met f x=>h.get? a=some (PySem.W.methodObj (.ref f) (.ref x))
 | .ext φ=>φ h/\(∃o,h.get? a=some o)/\∀h1 h2:Heap,φ h1->(∀o,h1.get? a=some o->h2.get? a=some o)->φ h2
def lZ (H:Hp) (h:Heap):Prop:=∀a o,H a=some o->bV P w K H h a o
end
section
variable {P:bR}{w:World}{K:Za}{H H':Hp}{h h':Heap}{a:Addr}{o:HO}
theorem bV.lt (x:bV P w K H h a o):a<h.objs.size:=by
 cases o with
 | lst xs=>obtain ⟨_,_,_,_,e⟩:=x; exact aY e
 | tup xs=>obtain ⟨_,_,_,p⟩:=x; exact p.lt
 | dK kvs=>obtain ⟨_,_,_,_,o,_,_,e,_⟩:=x; exact aY e
 | dT kvs=>obtain ⟨_,_,_,_,o,_,_,e,_⟩:=x; exact aY e
 | set S n=>obtain ⟨o,_,_,_,e,_⟩:=x; exact aY e
 | ins C dx fs=>obtain ⟨_,_,_,e,_⟩:=x; exact aY e
 | own y=>obtain ⟨_,e⟩:=x; exact aY e
 | xd fs=>obtain ⟨_,⟨_,_,_,e,_⟩,_⟩:=x; exact aY e
 | rng lo hi=>obtain ⟨_,_,_,e⟩:=x; exact aY e
 | frz ob u=>obtain ⟨e,_⟩:=x; exact aY e
 | tbl ps=>exact aY (show h.get? a=some _ from x)
 | met f y=>exact aY (show h.get? a=some _ from x)
 | ext φ=>obtain ⟨_,⟨_,e⟩,_⟩:=x; exact aY e
theorem Paired.mapP {α β:Type}{F G:α->β->Prop}:∀{l₁:List α}{l₂:List β},Paired F l₁ l₂->(∀a b,F a b->G a b)->Paired G l₁ l₂
 | _,_,.nil,_=>.nil
 | _,_,.cons r t,f=>.cons (f _ _ r) (Paired.mapP t f)
theorem bV.stay (x:bV P w K H h a o) (k:∀b u,(b=a∨H b=some (.own a))->h.get? b=some u->h'.get? b=some u)
  (ho:∀b,H b=some (.own a)->H' b=some (.own a)) (ht:∀b xs,H b=some (.tup xs)->H' b=some (.tup xs)):bV P w K H' h' a o:=by
 induction o with
 | lst xs=>obtain ⟨z,its,n,r,e⟩:=x; exact ⟨z,its,n,r,k _ _ (.inl rfl) e⟩
 | tup xs=>obtain ⟨z,its,r,ob,e,c⟩:=x; exact ⟨z,its,r,ob,k _ _ (.inl rfl) e,c⟩
 | dK kvs=>obtain ⟨z,y,vs,r,ob,es,ep,e,c⟩:=x; exact ⟨z,y,vs,r,ob,es,ep,k _ _ (.inl rfl) e,c⟩
 | dT kvs =>
  obtain ⟨z,y,xs,r,ob,es,ep,e,c⟩:=x;exact ⟨z,y,xs,Paired.mapP r fun p q z=>⟨z.1,nA.keeps ht 8 z.2.2.1 z.2.1,z.2.2⟩,ob,es,ep,k _ _ (.inl rfl) e,c⟩
 | set S n=>obtain ⟨ob,es,ep,t,e,c⟩:=x; exact ⟨ob,es,ep,t,k _ _ (.inl rfl) e,c⟩
 | ins C dx fs =>
  obtain ⟨d,z,ne,e,mA,⟨od,es,ep,e2,c⟩,r⟩:=x;exact ⟨ho _ d,z,ne,k _ _ (.inl rfl) e,mA,⟨od,es,ep,k _ _ (.inr d) e2,c⟩,r⟩
 | own y=>obtain ⟨ob,e⟩:=x; exact ⟨ob,k _ _ (.inl rfl) e⟩
 | xd fs=>obtain ⟨mA,⟨od,es,ep,e,c⟩,r⟩:=x; exact ⟨mA,⟨od,es,ep,k _ _ (.inl rfl) e,c⟩,r⟩
 | rng lo hi=>obtain ⟨t,u,v,e⟩:=x; exact ⟨t,u,v,k _ _ (.inl rfl) e⟩
 | frz ob u ih=>obtain ⟨e,q⟩:=x; exact ⟨k _ _ (.inl rfl) e,ih q⟩
 | tbl ps =>
  have e:h.get? a=some { cls:=.none,data:=.fields ps }:=x;show h'.get? a=some { cls:=.none,data:=.fields ps };exact k a _ (.inl rfl) e
 | met f y =>
  have e:h.get? a=some (PySem.W.methodObj (.ref f) (.ref y)):=x;show h'.get? a=some (PySem.W.methodObj (.ref f) (.ref y));exact k a _ (.inl rfl) e
 | ext φ=>obtain ⟨p,⟨o,e⟩,st⟩:=x; exact ⟨st _ _ p fun o q=>k _ _ (.inl rfl) q,⟨o,k _ _ (.inl rfl) e⟩,st⟩
theorem lZ.lt (x:lZ P w K H h) (e:H a=some o):a<h.objs.size:=(x a o e).lt
theorem lZ.fresh (x:lZ P w K H h) (e:h.objs.size<=a):H a=none:=by
 cases q:H a with
 | none=>rfl
 | some u=>exact absurd (iC (x.lt q) e) (qx _)
theorem lZ.kept (x:lZ P w K H h) (k:∀b u,h.get? b=some u->h'.get? b=some u):lZ P w K H h':=fun a o e =>
 (x a o e).stay (fun b u _ q=>k b u q) (fun _ q=>q) fun _ _ q=>q
theorem lZ.laid (x:lZ P w K H h) (k:∀b u,h.get? b=some u->h'.get? b=some u) (hp:h.objs.size<=a) (new:bV P w K (upd H a o) h' a o):lZ P w K (upd H a o) h':=fun b u e=>by
 have hn:=x.fresh hp;by_cases hb:b=a
 ·subst hb; rw [aa] at e; cases e; exact new
 ·rw [af hb] at e;exact (x b u e).stay (fun c v _ q=>k c v q) (fun c q=>by rw [af (ae q hn)]; exact q) fun c xs q=>by rw [af (ae q hn)]; exact q
end
def Rd (H:Hp) (a:Addr) (u:HO):Prop:=H a=some u∨∃o,H a=some (.frz o u)
theorem Rd.ok {P:bR}{w:World}{K:Za}{H:Hp}{h:Heap}{a:Addr}{u:HO}(r:Rd H a u) (x:lZ P w K H h):bV P w K H h a u:=by
 rcases r with r | ⟨o,r⟩
 ·exact x a u r
 ·obtain ⟨_,q⟩:=x a _ r;exact q
def HX:Option HO->Prop
 | some (.lst _)=>True
 | some (.dK _)=>True
 | some (.dT _)=>True
 | some (.set _ _)=>True
 | some (.ins _ _ _)=>True
 | some (.ext _)=>True
 | _=>False
section
variable {P:bR}{w:World}{K:Za}{H:Hp}{h h':Heap}{x e:Addr}{o':HO}
theorem lZ.write (ok:lZ P w K H h) (mu:HX (H x)) (he:e=x∨H e=some (.own x)) (k:∀b u,b≠e->h.get? b=some u->h'.get? b=some u) (heo:∃u,h'.get? e=some u)
  (new:bV P w K (upd H x o') h' x o'):lZ P w K (upd H x o') h':=fun b u q=>by
 have nown:∀c y,H c=some (.own y)->c≠x:=fun c y r z=>by subst z; rw [r] at mu; exact mu
 have ntup:∀c xs,H c=some (.tup xs)->c≠x:=fun c xs r z=>by subst z; rw [r] at mu; exact mu
 by_cases hb:b=x
 ·subst hb; rw [aa] at q; cases q; exact new
 ·rw [af hb] at q;by_cases hbe:b=e
  ·have q':H b=some (.own x):=by
    rcases he with z | z
    ·exact absurd (hbe.trans z) hb
    ·rw [hbe]; exact z
   rw [q] at q'; cases q';obtain ⟨v,hv⟩:=heo;exact ⟨v,by rw [hbe]; exact hv⟩
  ·refine (ok b u q).stay (fun c v hc r=>k c v ?_ r) (fun c r=>by rw [af (nown c b r)]; exact r) fun c xs r=>by rw [af (ntup c xs r)]; exact r
   rcases hc with rfl | hc
   ·exact hbe
   ·rintro rfl;rcases he with z | z
    ·exact nown c b hc z
    ·rw [hc] at z; cases z; exact hb rfl
end
structure Un (fs ex:Ze) (H H':Hp) (h h':Heap):Prop where
 keep:∀b o,h.get? b=some o->H b=none->b∉fs->b∉ex->h'.get? b=some o
 slot:∀b o,h.get? b=some o->H b=none->b∈fs->b∉ex->∃sl,h'.get? b=some { o with slots:=sl }
 free:∀b o,h.get? b=some o->H b=none->b∉ex->H' b=none
 there:∀b o,h.get? b=some o->b∉ex->∃o',h'.get? b=some o'
 tups:∀b xs,H b=some (.tup xs)->H' b=some (.tup xs)
 frzs:∀b o u,H b=some (.frz o u)->H' b=some (.frz o u)
 tbls:∀b ps,H b=some (.tbl ps)->∃more,H' b=some (.tbl (ps++more))
section
variable {fs fs' ex ex':Ze}{H H1 H2:Hp}{h h1 h2 h':Heap}{a x e:Addr}{o:HO}
theorem Un.any (u:Un fs ex H H1 h h1) {b:Addr}{ob:Obj}(q:h.get? b=some ob) (n:H b=none) (hx:b∉ex):∃sl,h1.get? b=some { ob with slots:=sl }:=by
 by_cases hb:b∈fs
 ·exact u.slot b ob q n hb hx
 ·exact ⟨ob.slots,u.keep b ob q n hb hx⟩
theorem Un.kept (k:∀b u,h.get? b=some u->h'.get? b=some u):Un fs ex H H h h' :=
 ⟨fun b ob q _ _ _=>k b ob q,fun b ob q _ _ _=>⟨ob.slots,k b ob q⟩,fun _ _ _ n _=>n,fun b ob q _=>⟨ob,k b ob q⟩,fun _ _ q=>q,fun _ _ _ q=>q,fun _ ps q=>⟨#[],by rw [q]; simp⟩⟩
theorem Un.refl:Un fs ex H H h h:=Un.kept fun _ _ q=>q
theorem Un.laid (k:∀b u,h.get? b=some u->h'.get? b=some u) (hp:h.objs.size<=a) (hn:H a=none):Un fs ex H (upd H a o) h h' where
 keep:=fun b u q _ _ _=>k b u q
 slot:=fun b u q _ _ _=>⟨u.slots,k b u q⟩
 free:=fun b u q n _=>by rw [af (cV (iC (aY q) hp))]; exact n
 there:=fun b u q _=>⟨u,k b u q⟩
 tups:=fun b xs q=>by rw [af (ae q hn)]; exact q
 frzs:=fun b u xs q=>by rw [af (ae q hn)]; exact q
 tbls:=fun b ps q=>⟨#[],by rw [af (ae q hn),q]; simp⟩
theorem Un.write (mu:HX (H x)) (he:e=x∨H e=some (.own x)) (k:∀b u,b≠e->h.get? b=some u->h'.get? b=some u) (heo:∃u,h'.get? e=some u):Un fs ex H (upd H x o) h h':=by
 have hx:∀b,H b=none->b≠x:=fun b n z=>by subst z; rw [n] at mu; exact mu
 have hb:∀b,H b=none->b≠e:=fun b n z=>by
  subst z;rcases he with r | r
  ·exact hx b n r
  ·rw [n] at r; cases r
 have hm:∀b u,H b=some u->¬HX (some u)->b≠x:=fun b u q nm z=>by subst z; rw [q] at mu; exact nm mu
 refine ⟨fun b u q n _ _=>k b u (hb b n) q,fun b u q n _ _=>⟨u.slots,k b u (hb b n) q⟩,fun b u q n _=>by rw [af (hx b n)]; exact n,fun b u q _=>?_,
  fun b xs q=>by rw [af (hm b _ q fun z=>z)]; exact q,fun b u xs q=>by rw [af (hm b _ q fun z=>z)]; exact q,fun b ps q=>⟨#[],by rw [af (hm b _ q fun z=>z),q]; simp⟩⟩
 by_cases hbe:b=e
 ·subst hbe; exact heo
 ·exact ⟨u,k b u hbe q⟩
end
def Im (h:Heap) (H:Hp):List Addr:=(jz h.objs.size).filter fun a=>(H a).isSome
def wY (h:Heap) (H:Hp):Heap:=PySem.W.hideAll h (Im h H)
theorem C_ (h:Heap) (H:Hp):(wY h H).objs.size=h.objs.size:=PySem.W.hideAll_size _ _
theorem EO {h:Heap}{H:Hp}{b:Addr}{o:Obj}(e:h.get? b=some o) (n:H b=none):(wY h H).get? b=some o :=
 PySem.W.hideAll_get _ e fun hm=>by
  have q:(H b).isSome=true:=(cx.mp hm).2;rw [n] at q; simp at q
theorem Gj {h:Heap}{H:Hp}{b:Addr}{o:Obj}(e:(wY h H).get? b=some o):h.get? b=some o/\H b=none:=by
 have e':h.get? b=some o:=PySem.W.of_hideAll (Im h H) e;refine ⟨e',?_⟩;cases q:H b with
 | none=>rfl
 | some x =>
  have hm:b∈Im h H:=cx.mpr ⟨List.mem_range.mpr (aY e'),by simp [q]⟩;have z:(wY h H).get? b=none:=PySem.W.hideAll_none (Im h H) hm;rw [z] at e; cases e
end L2
namespace L2
open PySem PySem.Spec PyProof.Rows
structure Mod (K:Za) (mg:Str->Option Value) (base:Heap):Prop where
 kin:K.In base
 glob:base.Ns bU mg
 blt:∃mb,base.Ns builtinsNs mb/\∀x:Str,x≠"__name__"->mb x=i0 x
 nolimit:base.NoLimit
structure Cx where
 prog:bR
 w:World
 K:Za
 mg:Str->Option Value
 base:Heap
 A:Around
 N:List Str
 s₀:Shared
 H₀:Hp
 env:Env
 outer:List Env
 stack:List Env
 ex:List Addr
 fn:Str->Bool
 calm:Bool
 pn:List (Addr×Obj)
 xe:Value->Shared->Prop
def Dy (l:List Env):List Addr:=l.filterMap (·.frame)
abbrev Cx.fs (X:Cx):List Addr:=Dy X.outer
def Ip (sc:Scope) (x:Str):Prop:=sc.names.lookup x=some .local∨sc.names.lookup x=some .cell∨sc.names.lookup x=some .free
def Loc (sc:Scope) (x:Str):Prop:=sc.names.lookup x=some .local∨sc.names.lookup x=some .cell
def Look (env:Env) (h:Heap) (m:Str->Option Value) (x:Str) (u:Value):Prop :=
 (env.kindOf x=some .local/\m x=some u)∨((env.kindOf x=some .cell∨env.kindOf x=some .free)/\∃c,env.cells.lookup x=some c/\h.IsCell c (some u))
structure Cx.Ok (X:Cx):Prop where
 mod:Mod X.K X.mg X.base
 kind:X.env.scope.kind=.function
 glob:X.env.globals=bU
 blt:X.env.builtins=builtinsNs
 above:X.s₀.heap.objs.size<=X.env.locals
 inj:∀x y c,X.env.cells.lookup x=some c->X.env.cells.lookup y=some c->x=y
 has:∀x,(X.env.kindOf x=some .cell∨X.env.kindOf x=some .free)->∃c,X.env.cells.lookup x=some c
 cab:∀x c,X.fn x=true->X.env.cells.lookup x=some c->X.s₀.heap.objs.size<=c
 hd:X.calm=true->X.A.handled=none
 frames:X.A.frames=some X.stack
 stk:X.stack=X.outer∨(X.stack=X.env::X.outer/\X.env.frame=some X.env.locals)
 exf:∀b∈X.ex,b≠X.env.locals/\∀x c,X.env.cells.lookup x=some c->c≠b
 bs:∀b o,X.base.get? b=some o->X.s₀.heap.get? b=some o/\X.H₀ b=none
 bsz:X.base.objs.size<=X.s₀.heap.objs.size
 noex:∀b o,X.base.get? b=some o->b∉X.ex
 exfs:∀b∈X.ex,b∉X.fs
 funs:X.s₀.heap.FunFrames X.base X.outer
 frf:∀b∈X.fs,X.H₀ b=none
structure Inv (X:Cx) (J3:Zd) (σ:List (Option V)) (H:Hp) (s:Shared):Prop where
 ok:X.Ok
 os:s.os=X.s₀.os
 bare:nV s.gens
 base:Un X.fs X.ex X.H₀ H X.s₀.heap s.heap
 loc:∃m,s.heap.Ns X.env.locals m/\∀(i:Nat) (x:Str) (v:V),X.N[i]?=some x->σ[i]?=some (some v)->Ip X.env.scope x->∃u,RelV v u/\Look X.env s.heap m x u
 cell:∀x c,X.env.cells.lookup x=some c->∃v,s.heap.IsCell c v
 free:H X.env.locals=none
 freeC:∀x c,X.env.cells.lookup x=some c->H c=none
 pin:∀p∈X.pn++J3,s.heap.get? p.1=some p.2/\H p.1=none/\p.1≠X.env.locals/\p.1∉X.fs/\∀v,p.2.data≠.cell v
 hok:lZ X.prog X.w X.K H s.heap
 len:σ.length=X.N.length
section
variable {X:Cx}{J3:Zd}{σ:List (Option V)}{H H':Hp}{s:Shared}{h':Heap}
theorem Cx.Ok.nofr (ok:X.Ok) {b:Addr}{o:Obj}(e:X.base.get? b=some o):b∉X.fs:=fun hb=>by
 have:=(ok.funs.mem hb).1;rw [e] at this; cases this
theorem Inv.bs (I:Inv X J3 σ H s):∀b o,X.base.get? b=some o->s.heap.get? b=some o/\H b=none:=fun b o e =>
 ⟨I.base.keep b o (I.ok.bs b o e).1 (I.ok.bs b o e).2 (I.ok.nofr e) (I.ok.noex b o e),I.base.free b o (I.ok.bs b o e).1 (I.ok.bs b o e).2 (I.ok.noex b o e)⟩
theorem Inv.bk (I:Inv X J3 σ H s):∀b o,X.base.get? b=some o->s.heap.get? b=some o:=fun b o e=>(I.bs b o e).1
theorem Inv.mod (I:Inv X J3 σ H s):Mod X.K X.mg X.base:=I.ok.mod
theorem Inv.kIn (I:Inv X J3 σ H s):X.K.In s.heap:=I.ok.mod.kin.keeps I.bk
theorem Inv.fr (I:Inv X J3 σ H s):∃m,Fr X.base X.env.locals s.heap m :=
 let ⟨m,hn,_⟩:=I.loc
 ⟨m,hn,I.bk,bH I.ok.bsz I.ok.above⟩
theorem Inv.lt (I:Inv X J3 σ H s):X.env.locals<s.heap.objs.size:=let ⟨_,hn,_⟩:=I.loc; hn.lt
theorem Inv.sz (I:Inv X J3 σ H s):X.s₀.heap.objs.size<=s.heap.objs.size:=bH I.ok.above (em I.lt)
theorem Inv.nofs (I:Inv X J3 σ H s) {a:Addr}(h:s.heap.objs.size<=a):a∉X.fs:=fun hb=>by
 obtain ⟨_,o,ho,_⟩:=I.ok.funs.mem hb;exact absurd (iC (aY ho) (bH I.sz h)) (qx _)
theorem Inv.cne (I:Inv X J3 σ H s):∀x c,X.env.cells.lookup x=some c->c≠X.env.locals:=fun x c e z=>by
 obtain ⟨v,o,ho,hd⟩:=I.cell x c e;obtain ⟨m,⟨o',es,ep,ho',hd',_⟩,_⟩:=I.loc;rw [z,ho'] at ho; cases ho; rw [hd'] at hd; cases hd
theorem Inv.funs (I:Inv X J3 σ H s):s.heap.FunFrames X.base X.outer:=by
 have all:∀(l:List Env),(∀b∈Dy l,b∈X.fs)->X.s₀.heap.FunFrames X.base l->s.heap.FunFrames X.base l:=by
  intro l
  induction l with
  | nil=>intro _ _; trivial
  | cons env r ih =>
   intro hs hl;obtain ⟨hk,⟨L,o,hf,hn,ho,hd⟩,hr⟩:=hl;have hL:L∈X.fs:=hs L (by unfold Dy; rw [List.filterMap_cons,hf]; exact eg);obtain ⟨sl,e⟩:=I.base.slot L o ho (I.ok.frf L hL) hL fun z=>I.ok.exfs L z hL;exact ⟨hk,⟨L,_,hf,hn,e,hd⟩,ih (fun b hb=>hs b (by unfold Dy; rw [List.filterMap_cons,hf]; exact fb _ hb)) hr⟩
 exact all X.outer (fun _ hb=>hb) I.ok.funs
theorem Inv.stack (I:Inv X J3 σ H s):s.heap.FunFrames X.base X.stack:=by
 rcases I.ok.stk with e | ⟨e,hf⟩
 ·rw [e]; exact I.funs
 ·rw [e];obtain ⟨m,hn,_⟩:=I.loc;refine .cons (by rw [I.ok.kind]; decide) hf hn ?_ I.funs;exact Heap.get?_none_of_le (bH I.ok.bsz I.ok.above)
theorem Inv.stkSub (I:Inv X J3 σ H s):∀b∈Dy X.stack,b∈X.env.locals::X.fs:=fun b hb=>by
 rcases I.ok.stk with e | ⟨e,hf⟩
 ·rw [e] at hb; exact fb _ hb
 ·rw [e] at hb;unfold Dy at hb;rw [List.filterMap_cons,hf] at hb;exact hb
theorem Inv.stkFree (I:Inv X J3 σ H s):∀b∈Dy X.stack,H b=none:=fun b hb=>by
 rcases cU.mp (I.stkSub b hb) with e | hb
 ·rw [e]; exact I.free
 ·obtain ⟨_,o,ho,_⟩:=I.ok.funs.mem hb;exact I.base.free b o ho (I.ok.frf b hb) fun z=>I.ok.exfs b z hb
theorem Inv.step {g':Array GenState}{t':Nat}{d':Drawn}{ch:Ze}(I:Inv X J3 σ H s)
  (hch:∀b∈ch,(b∈X.ex∨X.s₀.heap.objs.size<=b)/\b≠X.env.locals/\(∀x c,X.env.cells.lookup x=some c->c≠b)/\∀p∈X.pn++J3,p.1≠b)
  (keep:∀b o,b≠X.env.locals->b∉X.fs->b∉ch->s.heap.get? b=some o->H b=none->h'.get? b=some o)
  (slot:∀b o,b≠X.env.locals->b∈X.fs->b∉ch->s.heap.get? b=some o->H b=none->∃sl,h'.get? b=some { o with slots:=sl }) (free:∀b o,b∉ch->s.heap.get? b=some o->H b=none->H' b=none)
  (there:∀b o,b∉ch->s.heap.get? b=some o->∃o',h'.get? b=some o')
  (tups:∀b xs,H b=some (.tup xs)->H' b=some (.tup xs)) (frzs:∀b o u,H b=some (.frz o u)->H' b=some (.frz o u)) (tbls:∀b ps,H b=some (.tbl ps)->∃more,H' b=some (.tbl (ps++more)))
  (ns:∀m,s.heap.Ns X.env.locals m->h'.Ns X.env.locals m) (hok:lZ X.prog X.w X.K H' h') (hg:nV g') :
  Inv X J3 σ H' { s with heap:=h',gens:=g',drawn:=d',toks:=t' }:=by
 have neL:∀b o,X.s₀.heap.get? b=some o->b≠X.env.locals:=fun b o e=>cV (iC (aY e) I.ok.above);have neC:∀b o,X.s₀.heap.get? b=some o->b∉X.ex->b∉ch:=fun b o e hx hb=>by
  rcases (hch b hb).1 with z | z
  ·exact hx z
  ·exact absurd (iC (aY e) z) (qx _)
 have cellK:∀x c,X.env.cells.lookup x=some c->∀v,s.heap.IsCell c v->h'.IsCell c v:=fun x c e v ⟨o,ho,hd⟩=>by
  have nch:c∉ch:=fun z=>(hch c z).2.2.1 x c e rfl;by_cases hc:c∈X.fs
  ·obtain ⟨sl,q⟩:=slot c o (I.cne x c e) hc nch ho (I.freeC x c e);exact ⟨_,q,hd⟩
  ·exact ⟨o,keep c o (I.cne x c e) hc nch ho (I.freeC x c e),hd⟩
 refine ⟨I.ok,I.os,hg,⟨fun b o e n hb hx=>?_,fun b o e n hb hx=>?_,fun b o e n hx=>?_,fun b o e hx=>?_,fun b xs e=>tups b xs (I.base.tups b xs e),fun b o xs e=>frzs b o xs (I.base.frzs b o xs e),fun b ps e=>?_⟩,?_,fun x c e=>?_,?_,fun x c e=>?_,fun p hp=>?_,hok,I.len⟩
 ·exact keep b o (neL b o e) hb (neC b o e hx) (I.base.keep b o e n hb hx) (I.base.free b o e n hx)
 ·obtain ⟨sl,e1⟩:=I.base.slot b o e n hb hx;obtain ⟨sl',e2⟩:=slot b _ (neL b o e) hb (neC b o e hx) e1 (I.base.free b o e n hx);exact ⟨sl',e2⟩
 ·obtain ⟨o',e1⟩:=I.base.there b o e hx;exact free b o' (neC b o e hx) e1 (I.base.free b o e n hx)
 ·obtain ⟨o',e1⟩:=I.base.there b o e hx;exact there b o' (neC b o e hx) e1
 ·obtain ⟨m1,e1⟩:=I.base.tbls b ps e;obtain ⟨m2,e2⟩:=tbls b _ e1;exact ⟨m1++m2,by rw [e2,Array.append_assoc]⟩
 ·obtain ⟨m,hn,hl⟩:=I.loc;refine ⟨m,ns m hn,fun i x v e1 e2 e3=>?_⟩;obtain ⟨u,r,l⟩:=hl i x v e1 e2 e3;refine ⟨u,r,?_⟩;rcases l with l | ⟨k,c,e,z⟩
  ·exact .inl l
  ·exact .inr ⟨k,c,e,cellK x c e _ z⟩
 ·obtain ⟨v,z⟩:=I.cell x c e;exact ⟨v,cellK x c e v z⟩
 ·obtain ⟨m,⟨o,_,_,ho,_⟩,_⟩:=I.loc;exact free _ o (fun z=>(hch _ z).2.1 rfl) ho I.free
 ·obtain ⟨v,o,ho,hd⟩:=I.cell x c e;exact free c o (fun z=>(hch c z).2.2.1 x c e rfl) ho (I.freeC x c e)
 ·obtain ⟨e,n,ne,nf,d⟩:=I.pin p hp;have nch:p.1∉ch:=fun z=>(hch p.1 z).2.2.2 p hp rfl;exact ⟨keep p.1 p.2 ne nf nch e n,free p.1 p.2 nch e n,ne,nf,d⟩
theorem Inv.un {t':Nat}(I:Inv X J3 σ H s) (u:Un X.fs [] H H' s.heap h') (hok:lZ X.prog X.w X.K H' h'):Inv X J3 σ H' { s with heap:=h',toks:=t' }:=by
 obtain ⟨m,⟨o,es,ep,ho,r⟩,_⟩:=id I.loc;obtain ⟨sl,hL⟩:=u.any ho I.free (by simp);exact I.step (g':=s.gens) (d':=s.drawn) (ch:=[]) (fun _ z=>nomatch z) (fun b o _ hb _ e n=>u.keep b o e n hb (by simp)) (fun b o _ hb _ e n=>u.slot b o e n hb (by simp)) (fun b o _ e n=>u.free b o e n (by simp)) (fun b o _ e=>u.there b o e (by simp)) u.tups u.frzs u.tbls (fun m' hm=>by
  obtain ⟨o',es',ep',ho',r'⟩:=hm;rw [ho] at ho'; cases ho';exact ⟨_,es',ep',hL,r'⟩) hok I.bare
theorem Inv.call {g':Array GenState}{t':Nat}{d':Drawn}{ch:Ze}(I:Inv X J3 σ H s) (u:Un (Dy X.stack) ch H H' s.heap h') (hok:lZ X.prog X.w X.K H' h') (hg:nV g')
  (hch:∀b∈ch,(b∈X.ex∨X.s₀.heap.objs.size<=b)/\b≠X.env.locals/\(∀x c,X.env.cells.lookup x=some c->c≠b)/\∀p∈X.pn++J3,p.1≠b) :
  Inv X J3 σ H' { s with heap:=h',gens:=g',drawn:=d',toks:=t' }:=by
 obtain ⟨m,⟨o,es,ep,ho,r⟩,_⟩:=id I.loc;obtain ⟨sl,hL⟩:=u.any ho I.free fun z=>(hch _ z).2.1 rfl;exact I.step (ch:=ch) hch (fun b o hL hb hc e n=>u.keep b o e n (fun z=>(cU.mp (I.stkSub b z)).elim hL hb) hc) (fun b o _ _ hc e n=>u.any e n hc) (fun b o hc e n=>u.free b o e n hc) (fun b o hc e=>u.there b o e hc) u.tups u.frzs u.tbls (fun m' hm=>by
  obtain ⟨o',es',ep',ho',r'⟩:=hm;rw [ho] at ho'; cases ho';exact ⟨_,es',ep',hL,r'⟩) hok hg
theorem Inv.turned {t':Nat}{it:Addr}(I:Inv X J3 σ H s) (k:∀b o,b≠it->s.heap.get? b=some o->h'.get? b=some o) (hn:H it=none) (hL:it≠X.env.locals)
  (h1:it∈X.ex∨X.s₀.heap.objs.size<=it) (h2:∀x c,X.env.cells.lookup x=some c->c≠it) (h3:∀p∈X.pn++J3,p.1≠it):Inv X J3 σ H { s with heap:=h',toks:=t' }:=by
 have nit:∀b u,H b=some u->b≠it:=fun b u e z=>by rw [z,hn] at e; cases e
 refine I.step (g':=s.gens) (d':=s.drawn) (ch:=[it]) (fun b hb=>?_) (fun b o _ _ hc e _=>k b o (fun z=>hc (by simp [z])) e) (fun b o _ _ hc e _=>⟨o.slots,k b o (fun z=>hc (by simp [z])) e⟩) (fun _ _ _ _ n=>n)
  (fun b o hc e=>⟨o,k b o (fun z=>hc (by simp [z])) e⟩) (fun _ _ e=>e) (fun _ _ _ e=>e) (fun b ps e=>⟨#[],by rw [e]; simp⟩) (fun m hm=>?_) (fun b u e=>?_) I.bare
 ·have e:b=it:=by simpa using hb
  subst e;exact ⟨h1,hL,h2,h3⟩
 ·obtain ⟨o,es,ep,ho,r⟩:=hm;exact ⟨o,es,ep,k _ o (c_ hL) ho,r⟩
 ·refine (I.hok b u e).stay (fun c v hc q=>k c v ?_ q) (fun _ q=>q) fun _ _ q=>q;rcases hc with z | z
  ·rw [z]; exact nit b u e
  ·exact nit c _ z
theorem Inv.tok (I:Inv X J3 σ H s) (t:Nat):Inv X J3 σ H { s with toks:=t }:=I.un (h':=s.heap) (t':=t) Un.refl I.hok
theorem Inv.kept {t':Nat}(I:Inv X J3 σ H s) (k:∀b u,s.heap.get? b=some u->h'.get? b=some u):Inv X J3 σ H { s with heap:=h',toks:=t' }:=I.un (Un.kept k) (I.hok.kept k)
theorem Inv.laid {a:Addr}{o:HO}{t':Nat}(I:Inv X J3 σ H s) (k:∀b u,s.heap.get? b=some u->h'.get? b=some u) (hp:s.heap.objs.size<=a) (new:bV X.prog X.w X.K (upd H a o) h' a o) :
  Inv X J3 σ (upd H a o) { s with heap:=h',toks:=t' }:=I.un (Un.laid k hp (I.hok.fresh hp)) (I.hok.laid k hp new)
theorem Inv.write {x e:Addr}{o:HO}{t':Nat}(I:Inv X J3 σ H s) (mu:HX (H x)) (he:e=x∨H e=some (.own x)) (k:∀b u,b≠e->s.heap.get? b=some u->h'.get? b=some u) (heo:∃u,h'.get? e=some u)
  (new:bV X.prog X.w X.K (upd H x o) h' x o):Inv X J3 σ (upd H x o) { s with heap:=h',toks:=t' }:=I.un (Un.write mu he k heo) (I.hok.write mu he k heo new)
theorem Inv.weak {σ':List (Option V)}(I:Inv X J3 σ H s) (hl:σ'.length=σ.length) (w:∀(i:Nat) v,σ'[i]?=some (some v)->σ[i]?=some (some v)):Inv X J3 σ' H s :=
 ⟨I.ok,I.os,I.bare,I.base,let ⟨m,hn,hl'⟩:=I.loc; ⟨m,hn,fun i x v e1 e2 e3=>hl' i x v e1 (w i v e2) e3⟩,I.cell,I.free,I.freeC,I.pin,I.hok,hl.trans I.len⟩
theorem Inv.pins_of {pins':Zd}(I:Inv X J3 σ H s) (h:∀p∈pins',s.heap.get? p.1=some p.2/\H p.1=none/\p.1≠X.env.locals/\p.1∉X.fs/\∀v,p.2.data≠.cell v):Inv X pins' σ H s :=
 ⟨I.ok,I.os,I.bare,I.base,I.loc,I.cell,I.free,I.freeC,fun p hp=>(bx.mp hp).elim (fun z=>I.pin p (dh _ z)) (h p),I.hok,I.len⟩
theorem yB {N:Zb}(hN:N.Nodup) {i j:Nat}{x:Str}(a:N[i]?=some x) (b:N[j]?=some x):i=j:=by
 obtain ⟨h1,e1⟩:=cw.mp a;obtain ⟨h2,e2⟩:=cw.mp b;exact (List.getElem_inj hN).mp (e1.trans e2.symm)
theorem uX {M:Model}{A:Around}{E:Zc}{i:Nat}{x:Str}{v:V}{u:Value}{Q:Unit->Shared->Prop}(I:Inv X J3 σ H s) (hN:X.N.Nodup) (hi:X.N[i]?=some x) (hx:Loc X.env.scope x) (r:RelV v u)
  (h:∀s',Inv X J3 (σ.set i (some v)) H s'->(∃a,fF a s.heap s'.heap/\(a=X.env.locals∨X.env.cells.lookup x=some a))->Q () s') (hf:X.fn x=true∨X.env.scope.names.lookup x=some .local:=by first | exact .inl rfl | exact .inr rfl | assumption):wpAny M A (storeName X.env x u) Q E s:=by
 obtain ⟨m,hn,hl⟩:=id I.loc;have hcls:(X.env.scope.kind == .class || (X.env.scope.kind == .module && X.env.locals != X.env.globals))=false:=by rw [I.ok.kind]; rfl
 have hiσ:i<σ.length:=by rw [I.len]; exact (cw.mp hi).1
 have cne:=I.cne;have tracked:∀{a:Addr}{h':Heap},(∃o,s.heap.get? a=some o/\H a=none)->fF a s.heap h'->lZ X.prog X.w X.K H h':=fun {a h'} ha hs b ob e=>by
  obtain ⟨_,_,hfree⟩:=ha;refine (I.hok b ob e).stay (fun c w' hc q=>(hs.2 c ?_).trans q) (fun _ q=>q) fun _ _ q=>q;rintro rfl;rcases hc with rfl | hc
  ·rw [hfree] at e; cases e
  ·rw [hfree] at hc; cases hc
 rcases hx with hk | hk
 ·refine wpAny_storeName_local hk hn (fun h' hn' hs=>?_) hcls;obtain ⟨oL,_,_,hoL,_⟩:=id hn;refine h _ ⟨I.ok,I.os,I.bare,⟨fun b o e n hb hx=>?_,fun b o e n hb hx=>?_,I.base.free,fun b o e hx=>?_,I.base.tups,I.base.frzs,I.base.tbls⟩,⟨_,hn',fun j y v' e1 e2 e3=>?_⟩,fun y c e=>?_,I.free,I.freeC,fun p hp=>?_,tracked ⟨oL,hoL,I.free⟩ hs,by simpa using I.len⟩ ⟨_,hs,.inl rfl⟩
  ·exact (hs.2 b (cV (iC (aY e) I.ok.above))).trans (I.base.keep b o e n hb hx)
  ·obtain ⟨sl,e1⟩:=I.base.slot b o e n hb hx;exact ⟨sl,(hs.2 b (cV (iC (aY e) I.ok.above))).trans e1⟩
  ·obtain ⟨o',e1⟩:=I.base.there b o e hx;exact ⟨o',(hs.2 b (cV (iC (aY e) I.ok.above))).trans e1⟩
  ·by_cases hj:j=i
   ·subst hj;rw [hi] at e1; cases e1;rw [List.getElem?_set_self hiσ] at e2;cases e2;exact ⟨u,r,.inl ⟨hk,by simp⟩⟩
   ·rw [List.getElem?_set_ne (c_ hj)] at e2;obtain ⟨u',r',q⟩:=hl j y v' e1 e2 e3;refine ⟨u',r',?_⟩;rcases q with ⟨k,e⟩ | ⟨k,c,e,z⟩
    ·refine .inl ⟨k,?_⟩;have:y≠x:=fun e=>hj (yB hN e1 (e ▸ hi));simp [this,e]
    ·exact .inr ⟨k,c,e,z.sameBut hs (cne y c e)⟩
  ·obtain ⟨w',z⟩:=I.cell y c e;exact ⟨w',z.sameBut hs (cne y c e)⟩
  ·obtain ⟨e,n,ne,nf,d⟩:=I.pin p hp;exact ⟨(hs.2 p.1 ne).trans e,n,ne,nf,d⟩
 ·have hfn:X.fn x=true:=by
   rcases hf with z | z
   ·exact z
   ·rw [z] at hk; cases hk
  obtain ⟨c,hc⟩:=I.ok.has x (.inl hk);obtain ⟨w',z⟩:=I.cell x c hc;refine wpAny_storeName_cell I.ok.kind hk hc z (fun h' hc' hs=>?_);obtain ⟨oc,hoc,hocd⟩:=id z;refine h { s with heap:=h' } ⟨I.ok,I.os,I.bare,⟨fun b o e n hb hx=>?_,fun b o e n hb hx=>?_,I.base.free,fun b o e hx=>?_,I.base.tups,I.base.frzs,I.base.tbls⟩,⟨m,hn.sameBut hs (c_ (cne x c hc)),fun j y v' e1 e2 e3=>?_⟩,fun y c' e=>?_,I.free,I.freeC,fun p hp=>?_,tracked ⟨oc,hoc,I.freeC x c hc⟩ hs,by simpa using I.len⟩ ⟨c,hs,.inr hc⟩
  ·exact (hs.2 b (cV (iC (aY e) (I.ok.cab x c hfn hc)))).trans (I.base.keep b o e n hb hx)
  ·obtain ⟨sl,e1⟩:=I.base.slot b o e n hb hx;exact ⟨sl,(hs.2 b (cV (iC (aY e) (I.ok.cab x c hfn hc)))).trans e1⟩
  ·obtain ⟨o',e1⟩:=I.base.there b o e hx;exact ⟨o',(hs.2 b (cV (iC (aY e) (I.ok.cab x c hfn hc)))).trans e1⟩
  ·by_cases hj:j=i
   ·subst hj;rw [hi] at e1; cases e1;rw [List.getElem?_set_self hiσ] at e2;cases e2;exact ⟨u,r,.inr ⟨.inl hk,c,hc,hc'⟩⟩
   ·rw [List.getElem?_set_ne (c_ hj)] at e2;obtain ⟨u',r',q⟩:=hl j y v' e1 e2 e3;refine ⟨u',r',?_⟩;rcases q with q | ⟨k,c',e,z'⟩
    ·exact .inl q
    ·refine .inr ⟨k,c',e,z'.sameBut hs ?_⟩;rintro rfl;exact hj (yB hN e1 (I.ok.inj _ _ _ e hc ▸ hi))
  ·by_cases hcc:c'=c
   ·subst hcc; exact ⟨_,hc'⟩
   ·obtain ⟨w2,z2⟩:=I.cell y c' e;exact ⟨w2,z2.sameBut hs hcc⟩
  ·obtain ⟨e,n,ne,nf,d⟩:=I.pin p hp;refine ⟨(hs.2 p.1 ?_).trans e,n,ne,nf,d⟩;intro q;rw [q,hoc] at e;have q':oc=p.2:=dZ e;exact d w' (by rw [<-q']; exact hocd)
theorem sJ {M:Model}{A:Around}{E:Zc}{i:Nat}{x:Str}{v:V}{u:Value}{Q:Unit->Shared->Prop}(I:Inv X J3 σ H s) (hN:X.N.Nodup) (hi:X.N[i]?=some x) (hx:Loc X.env.scope x) (r:RelV v u)
  (h:∀s',Inv X J3 (σ.set i (some v)) H s'->Q () s') (hf:X.fn x=true∨X.env.scope.names.lookup x=some .local:=by first | exact .inl rfl | exact .inr rfl | assumption):wpAny M A (storeName X.env x u) Q E s :=
 uX I hN hi hx r (fun s' I' _=>h s' I') hf
theorem Inv.call' {s':Shared}{ch:Ze}(I:Inv X J3 σ H s) (ho:s'.os=s.os) (u:Un (Dy X.stack) ch H H' s.heap s'.heap) (hok:lZ X.prog X.w X.K H' s'.heap) (hg:nV s'.gens)
  (hch:∀b∈ch,(b∈X.ex∨X.s₀.heap.objs.size<=b)/\b≠X.env.locals/\(∀x c,X.env.cells.lookup x=some c->c≠b)/\∀p∈X.pn++J3,p.1≠b):Inv X J3 σ H' s':=by
 obtain ⟨h',g',d',t',o'⟩:=s';have e:o'=s.os:=ho;subst e;exact I.call (g':=g') (t':=t') (d':=d') u hok hg hch
end
abbrev XK:=Value->Option Addr->Hp->Prop
abbrev St:=List (Option V)
abbrev VK:=V->Hp->Prop
abbrev TE:=St->Hp->VK->Prop
abbrev TT:=St->Hp->(Bool->Hp->Prop)->Prop
abbrev TA:=St->Hp->(List V->Hp->Prop)->Prop
structure kJ where
 nx:St->Hp->Prop
 rt:VK
 bk:St->Hp->Prop:=fun _ _=>False
 ct:St->Hp->Prop:=fun _ _=>False
abbrev bC (Q:VK):kJ:={ nx:=fun _ H=>Q .non H,rt:=Q }
abbrev TS:=kJ->St->Hp->Prop
def EP (X:Cx) (J3:Zd) (σ:St) (Q:VK) (u:Value) (s':Shared):Prop:=∃v H',Inv X J3 σ H' s'/\RelV v u/\Q v H'
def TP (X:Cx) (J3:Zd) (σ:St) (Q:Bool->Hp->Prop) (b:Bool) (s':Shared):Prop:=∃H',Inv X J3 σ H' s'/\Q b H'
def AP (X:Cx) (J3:Zd) (σ:St) (Q:List V->Hp->Prop) (us:Zf) (s':Shared):Prop:=∃vs H',Inv X J3 σ H' s'/\bc vs us/\Q vs H'
def SP (X:Cx) (J3:Zd) (D:kJ) (f:Flow) (s':Shared):Prop :=
 match f with
 | .next=>∃σ' H',Inv X J3 σ' H' s'/\D.nx σ' H'
 | .brk=>∃σ' H',Inv X J3 σ' H' s'/\D.bk σ' H'
 | .cont=>∃σ' H',Inv X J3 σ' H' s'/\D.ct σ' H'
 | .ret u=>∃v σ' H',Inv X J3 σ' H' s'/\RelV v u/\D.rt v H'
def PE (X:Cx) (e:Expr) (t:TE):Prop :=
 ∀(J3:Zd) (s:Shared) (σ:St) (H:Hp) (Q:VK),Inv X J3 σ H s->t σ H Q->wpAny (model X.prog X.w) X.A (eval e X.env) (EP X J3 σ Q) X.xe s
def PT (X:Cx) (e:Expr) (t:TT):Prop :=
 ∀(J3:Zd) (s:Shared) (σ:St) (H:Hp) (Q:Bool->Hp->Prop),Inv X J3 σ H s->t σ H Q->wpAny (model X.prog X.w) X.A (isTrue e X.env (eval e X.env)) (TP X J3 σ Q) X.xe s
def PW (X:Cx) (e:Expr) (t:TT):Prop :=
 ∀(whole:Sem Value) (J3:Zd) (s:Shared) (σ:St) (H:Hp) (Q:Bool->Hp->Prop),Inv X J3 σ H s->t σ H Q->wpAny (model X.prog X.w) X.A (isTrue e X.env whole) (TP X J3 σ Q) X.xe s
theorem PW.pt {X:Cx}{e:Expr}{t:TT}(h:PW X e t):PT X e t:=h _
def PA (X:Cx) (es:List Expr) (t:TA):Prop :=
 ∀(pos:Pos) (J3:Zd) (s:Shared) (σ:St) (H:Hp) (Q:List V->Hp->Prop),Inv X J3 σ H s->t σ H Q->wpAny (model X.prog X.w) X.A (spliced (backTo pos (aN es X.env))) (AP X J3 σ Q) X.xe s
def PS (X:Cx) (st:Stmt) (t:TS):Prop :=
 ∀(J3:Zd) (s:Shared) (σ:St) (H:Hp) (D:kJ),Inv X J3 σ H s->t D σ H->wpAny (model X.prog X.w) X.A (exec st X.env) (SP X J3 D) X.xe s
def zD (X:Cx) (st:List Stmt) (t:TS):Prop :=
 ∀(J3:Zd) (s:Shared) (σ:St) (H:Hp) (D:kJ),Inv X J3 σ H s->t D σ H->wpAny (model X.prog X.w) X.A (execs st X.env) (SP X J3 D) X.xe s
theorem cB {α:Type}{t:Sem α}{Q Q':α->Shared->Prop}{M:Model}{A:Around}{E:Zc}{s:Shared}(h:wpAny M A t Q E s) (hQ:∀a s,Q a s->Q' a s):wpAny M A t Q' E s:=jy h hQ fun _ _ x=>x
end L2
namespace L2
open PySem PySem.Spec PyProof.Rows
section
variable {X:Cx}
def mY (i:Nat):TE:=fun σ H Q=>∃v,σ[i]?=some (some v)/\Q v H
abbrev V0:TE:=mY 0
abbrev V1:TE:=mY 1
abbrev V2:TE:=mY 2
abbrev V3:TE:=mY 3
abbrev V4:TE:=mY 4
abbrev V5:TE:=mY 5
abbrev V6:TE:=mY 6
abbrev V7:TE:=mY 7
abbrev V8:TE:=mY 8
abbrev V9:TE:=mY 9
abbrev xm:TE:=mY 10
abbrev zb:TE:=mY 11
abbrev V12:TE:=mY 12
def tC (v:V):TE:=fun _ H Q=>Q v H
theorem He {i:Nat}{x:Str}{pos:Pos}(hN:X.N[i]?=some x) (hv:Ip X.env.scope x) (hd:(x == ("__debug__":Str))=false:=by decide) (hcd:(x == ("__classdict__":Str))=false:=by decide):PE X (.Name x pos) (mY i):=by
 intro J3 s σ H Q I h;obtain ⟨v,e,h⟩:=h;obtain ⟨m,hn,hl⟩:=I.loc;obtain ⟨u,r,l⟩:=hl i x v hN e hv;have fin:EP X J3 σ Q u s:=⟨v,H,I,r,h⟩;rcases l with ⟨hk,hm⟩ | ⟨hk,c,hc,hcell⟩
 ·exact wpAny_Name (wpAny_loadName_local I.ok.kind hk hn hm fin) hd
 ·rcases hk with hk | hk
  ·exact wpAny_Name (wpAny_loadName_cell I.ok.kind hk hc hcell fin) hd
  ·exact wpAny_Name (wpAny_loadName_free I.ok.kind hk hc hcell fin hcd) hd
theorem ah {i j pos}:PE X (.Constant (.int i) j pos) (tC (.int i)):=fun _ _ _ H _ I h=>wpAny_Constant_int ⟨.int i,H,I.tok _,⟨_,rfl⟩,h⟩
theorem eU {b j pos}:PE X (.Constant (.bool b) j pos) (tC (.bl b)):=fun _ _ _ H _ I h=>Constant_bool ⟨.bl b,H,I,rfl,h⟩
theorem pV {j pos}:PE X (.Constant .none j pos) (tC .non):=fun _ _ _ H _ I h=>Constant_none ⟨.non,H,I,rfl,h⟩
theorem bz {x j pos}:PE X (.Constant (.str x) j pos) (tC (.str x)):=fun _ _ _ H _ I h=>Calls.Constant_str ⟨.str x,H,I.tok _,⟨_,rfl⟩,h⟩
def Gl (X:Cx) (x:Str):Prop:=X.env.kindOf x=some .globalImplicit
theorem wP {E:Zc}{J3:Zd}{s:Shared}{σ:St}{H:Hp}{x:Str}{u:Value}{pos:Pos}{Q:Zc}(I:Inv X J3 σ H s) (hg:Gl X x) (hm:X.mg x=some u) (h:Q u s)
  (hd:(x == ("__debug__":Str))=false:=by decide):wpAny (model X.prog X.w) X.A (eval (.Name x pos) X.env) Q E s :=
 Calls.Name_function_global I.ok.kind hg (Calls.loadGlobal_global (by rw [I.ok.glob]; exact I.mod.glob.keeps I.bk) hm h) hd
theorem p5 {E:Zc}{J3:Zd}{s:Shared}{σ:St}{H:Hp}{x:Str}{u:Value}{pos:Pos}{Q:Zc}(I:Inv X J3 σ H s) (hg:Gl X x) (hm:X.mg x=none) (hv:i0 x=some u) (h:Q u s)
  (hn:x≠"__name__":=by decide) (hd:(x == ("__debug__":Str))=false:=by decide):wpAny (model X.prog X.w) X.A (eval (.Name x pos) X.env) Q E s:=by
 obtain ⟨mb,h1,h2⟩:=I.mod.blt;exact Calls.Name_function_global I.ok.kind hg (Calls.loadGlobal_builtin (by rw [I.ok.glob]; exact I.mod.glob.keeps I.bk) hm (by rw [I.ok.blt]; exact h1.keeps I.bk) ((h2 x hn).trans hv) h) hd
theorem Gf {x:Str}{v:V}{u:Value}{pos:Pos}(hg:Gl X x) (hm:X.mg x=some u) (r:RelV v u) (hd:(x == ("__debug__":Str))=false:=by decide):PE X (.Name x pos) (tC v) :=
 fun _ _ _ H _ I h=>wP I hg hm ⟨v,H,I,r,h⟩ hd
theorem oH {x:Str}{v:V}{u:Value}{pos:Pos}(hg:Gl X x) (hm:X.mg x=none) (hv:i0 x=some u) (r:RelV v u) (hn:x≠"__name__":=by decide) (hd:(x == ("__debug__":Str))=false:=by decide):PE X (.Name x pos) (tC v) :=
 fun _ _ _ H _ I h=>p5 I hg hm hv ⟨v,H,I,r,h⟩ hn hd
variable {a b:Expr}{ta tb:TE}{pos:Pos}
def PC (X:Cx) (op:CmpOp) (a b:Expr) (t:TE):Prop :=
 ∀(J3:Zd) (s:Shared) (σ:St) (H:Hp) (Q:VK),Inv X J3 σ H s->t σ H Q ->
  wpAny (model X.prog X.w) X.A (eval a X.env) (fun v s₁=>wpAny (model X.prog X.w) X.A (eval b X.env) (fun u s₂=>wpAny (model X.prog X.w) X.A (eT op v u) (EP X J3 σ Q) X.xe s₂) X.xe s₁) X.xe s
theorem yC (b:Expr) {op:CmpOp}(h:op≠.In) (h2:op≠.NotIn):kz op b=false:=by
 have e1:(op == CmpOp.In)=false:=by cases op <;> first | rfl | exact absurd rfl h
 have e2:(op == CmpOp.NotIn)=false:=by cases op <;> first | rfl | exact absurd rfl h2
 cases b <;> simp [kz,e1,e2]
def CF (ta:TE):TE:=fun σ H Q=>ta σ H fun x H1=>Q (.bl (decide (x=.non))) H1
def DN (ta:TE):TE:=fun σ H Q=>ta σ H fun x H1=>Q (.bl (!decide (x=.non))) H1
theorem RelV.none_iff {x:V}{v:Value}(r:RelV x v):(v == Value.none)=decide (x=.non):=by
 cases x with
 | non=>cases r; rfl
 | bl _=>cases r; rfl
 | int _=>obtain ⟨t,rfl⟩:=r; rfl
 | str _=>obtain ⟨t,rfl⟩:=r; rfl
 | byt _=>obtain ⟨t,rfl⟩:=r; rfl
 | flt _=>obtain ⟨t,rfl⟩:=r; rfl
 | ref _=>cases r; rfl
 | ty _=>cases r; rfl
theorem wI {j pos'}(ha:PE X a ta):PC X .Is a (.Constant .none j pos') (CF ta):=by
 intro J3 s σ H Q I h;refine cB (ha J3 s σ H _ I h) fun v s1 ⟨x,H1,I1,r1,q1⟩=>?_;exact Constant_none (is_none_gen ⟨.bl _,H1,I1,by rw [r1.none_iff]; rfl,q1⟩)
theorem BC {j pos'}(ha:PE X a ta):PC X .IsNot a (.Constant .none j pos') (DN ta):=by
 intro J3 s σ H Q I h;refine cB (ha J3 s σ H _ I h) fun v s1 ⟨x,H1,I1,r1,q1⟩=>?_;exact Constant_none (isnot_none_gen ⟨.bl _,H1,I1,by rw [r1.none_iff]; rfl,q1⟩)
def tB (t:TE):TT:=fun σ H Q=>t σ H fun x H1=>∃c,x=.bl c/\Q c H1
theorem Eu {op:CmpOp}{t:TE}(h:PC X op a b t) (h1:kz op b=false:=by first | exact yC _ (by decide) (by decide) | rfl):PE X (.Compare a [op] [b] pos) t:=fun J3 s σ H Q I hw=>wpAny_Compare1 (h J3 s σ H Q I hw) h1
theorem dE {op:CmpOp}{t:TE}(h:PC X op a b t) (h1:kz op b=false:=by first | exact yC _ (by decide) (by decide) | rfl):PT X (.Compare a [op] [b] pos) (tB t):=by
 intro J3 s σ H Q I hw;refine wpAny_isTrue_Compare1 (cB (h J3 s σ H _ I hw) fun v s1 h1=>cB h1 fun u s2 h2=>cB h2 fun c s3 ⟨x,H1,I1,r1,q1⟩=>?_) h1;obtain ⟨d,rfl,q⟩:=q1;cases r1;exact qz ⟨H1,I1,q⟩
theorem gy {e:Expr}{t:TE}(h:PE X e t) (he:∀whole,isTrue e X.env whole=(do let v <- whole; qw e.pos; kL [v] (truthy v)):=by intro _; rfl):PT X e (tB t):=by
 intro J3 s σ H Q I hw;refine isTrue_plain (cB (h J3 s σ H _ I hw) fun v s1 ⟨x,H1,I1,r1,q1⟩=>?_) (he _);obtain ⟨d,rfl,q⟩:=q1;cases r1;exact qz ⟨H1,I1,q⟩
variable {tA tB':TT}{rest:List Expr}
def jC (t u:TT):TT:=fun σ H Q=>t σ H fun c H1=>if c=true then u σ H1 Q else Q false H1
def zB (t u:TT):TT:=fun σ H Q=>t σ H fun c H1=>if c=true then Q true H1 else u σ H1 Q
def mZ (t:TT):TT:=fun σ H Q=>t σ H fun c H1=>Q (!c) H1
theorem ik (ha:PT X a tA):PW X (.BoolOp .And [a] pos) tA:=by
 intro wh J3 s σ H Q I h;refine isTrue_and (cB (ha J3 s σ H Q I h) fun c s1 e=>?_);cases c with
 | true=>exact isTrue_and_nil e
 | false=>exact e
theorem ng (ha:PT X a tA):PW X (.BoolOp .Or [a] pos) tA:=by
 intro wh J3 s σ H Q I h;refine isTrue_or (cB (ha J3 s σ H Q I h) fun c s1 e=>?_);cases c with
 | false=>exact isTrue_or_nil e
 | true=>exact e
theorem gv (ha:PT X a tA) (hb:PW X (.BoolOp .And (b::rest) pos) tB'):PW X (.BoolOp .And (a::b::rest) pos) (jC tA tB'):=by
 intro wh J3 s σ H Q I h;refine isTrue_and (cB (ha J3 s σ H _ I h) fun c s1 ⟨H1,I1,q1⟩=>?_);cases c with
 | true=>exact hb wh J3 s1 σ H1 Q I1 q1
 | false=>exact ⟨H1,I1,q1⟩
theorem mE (ha:PT X a tA) (hb:PW X (.BoolOp .Or (b::rest) pos) tB'):PW X (.BoolOp .Or (a::b::rest) pos) (zB tA tB'):=by
 intro wh J3 s σ H Q I h;refine isTrue_or (cB (ha J3 s σ H _ I h) fun c s1 ⟨H1,I1,q1⟩=>?_);cases c with
 | true=>exact ⟨H1,I1,q1⟩
 | false=>exact hb wh J3 s1 σ H1 Q I1 q1
theorem nh (ha:PT X a tA):PT X (.UnaryOp .Not a pos) (mZ tA):=by
 intro J3 s σ H Q I h;exact isTrue_not (ha J3 s σ H (fun c H1=>Q (!c) H1) I h)
def uW (ta tb:TE):TE:=fun σ H Q=>ta σ H fun x H1=>∃c,x=.bl c/\if c=true then tb σ H1 Q else Q (.bl false) H1
def GO (ta:TE):TE:=fun σ H Q=>ta σ H fun x H1=>∃c,x=.bl c/\Q (.bl (!c)) H1
theorem Ai {op}{t:TE}(h:PE X a t):PE X (.BoolOp op [a] pos) t:=fun J3 s σ H Q I hw=>BoolOp_one (h J3 s σ H Q I hw)
theorem sW (ha:PE X a ta) (hb:PE X (.BoolOp .And (b::rest) pos) tb):PE X (.BoolOp .And (a::b::rest) pos) (uW ta tb):=by
 intro J3 s σ H Q I h;refine BoolOp_and (cB (ha J3 s σ H _ I h) fun v s1 ⟨x,H1,I1,r1,q1⟩=>?_);obtain ⟨c,rfl,q1⟩:=q1;cases r1;refine qz ?_;cases c with
 | true=>exact hb J3 s1 σ H1 Q I1 q1
 | false=>exact ⟨.bl false,H1,I1,rfl,q1⟩
theorem Hf (ha:PE X a ta):PE X (.UnaryOp .Not a pos) (GO ta):=by
 intro J3 s σ H Q I h;refine UnaryOp_ (cB (ha J3 s σ H _ I h) fun v s1 ⟨x,H1,I1,r1,q1⟩=>?_);obtain ⟨c,rfl,q1⟩:=q1;cases r1;exact not_of (qz ⟨.bl (!c),H1,I1,rfl,q1⟩)
end
end L2
namespace L2
open PySem PySem.Spec PyProof.Rows
def aA (K:Za) (H:Hp) (a:Addr) (xs:List V):Prop :=
 Rd H a (.lst xs) ∨
  ∃(o:Obj) (its:Array Value) (n:Nat),K.lookup a=some o/\o.cls=.type "list"/\o.dict=none/\o.data=.seq its n/\its.size<=ai/\bc xs its.toList
def bj (K:Za) (H:Hp) (a:Addr) (xs:List V):Prop :=
 Rd H a (.tup xs) ∨
  ∃(o:Obj) (its:Array Value) (n:Nat),K.lookup a=some o/\o.cls=.type "tuple"/\o.data=.seq its n/\its.size<=ai/\bc xs its.toList
def absV:Value->Option V
 | .none=>some .non
 | .bool b=>some (.bl b)
 | .int i _=>some (.int i)
 | .str x _=>some (.str x)
 | .bytes b _=>some (.byt b)
 | .float b _=>some (.flt b)
 | .ref a=>some (.ref a)
 | .type n=>some (.ty n)
 | _=>none
theorem RelV.abs {x:V}{u:Value}(r:RelV x u):absV u=some x:=by
 cases x with
 | non=>cases r; rfl
 | bl _=>cases r; rfl
 | int _=>obtain ⟨t,rfl⟩:=r; rfl
 | str _=>obtain ⟨t,rfl⟩:=r; rfl
 | byt _=>obtain ⟨t,rfl⟩:=r; rfl
 | flt _=>obtain ⟨t,rfl⟩:=r; rfl
 | ref _=>cases r; rfl
 | ty _=>cases r; rfl
theorem RelV.inj {x y:V}{u:Value}(r:RelV x u) (q:RelV y u):x=y:=dZ (r.abs.symm.trans q.abs)
theorem bc.inj:∀{xs ys:List V}{us:Zf},bc xs us->bc ys us->xs=ys
 | _,_,_,.nil,.nil=>rfl
 | _,_,_,.cons r t,.cons r' t'=>by rw [r.inj r',bc.inj t t']
section
variable {X:Cx}{J3:Zd}{σ:St}{H:Hp}{s:Shared}{a:Addr}{xs ys:List V}
theorem aA.of {K:Za}(h:H a=some (.lst xs)):aA K H a xs:=.inl (.inl h)
theorem bj.of {K:Za}(h:H a=some (.tup xs)):bj K H a xs:=.inl (.inl h)
theorem Inv.list (I:Inv X J3 σ H s) (h:aA X.K H a xs):∃its:List Value,bc xs its/\PlainL s.heap a its.toArray/\xs.length<=ai:=by
 rcases h with h | ⟨o,its,n,hk,hc,hd,hs,hz,r⟩
 ·obtain ⟨z,its,n,r,e⟩:=h.ok I.hok;exact ⟨its,r,⟨_,n,e,rfl,rfl,rfl⟩,z⟩
 ·refine ⟨its.toList,r,⟨o,n,I.kIn a o hk,hc,hd,by simpa using hs⟩,?_⟩;have e:=r.length;simp only [mx] at e;omega
theorem Inv.tuple (I:Inv X J3 σ H s) (h:bj X.K H a xs):∃its:List Value,bc xs its/\IsTup s.heap a its.toArray/\xs.length<=ai:=by
 rcases h with h | ⟨o,its,n,hk,hc,hs,hz,r⟩
 ·obtain ⟨z,its,r,p⟩:=h.ok I.hok;exact ⟨its,r,p,z⟩
 ·refine ⟨its.toList,r,⟨o,I.kIn a o hk,hc,n,by simpa using hs⟩,?_⟩;have e:=r.length;simp only [mx] at e;omega
theorem Inv.list_inj (I:Inv X J3 σ H s) (h:aA X.K H a xs) (h':aA X.K H a ys):xs=ys:=by
 obtain ⟨its,r,⟨o,n,e,_,_,d⟩,_⟩:=I.list h;obtain ⟨its',r',⟨o',n',e',_,_,d'⟩,_⟩:=I.list h';rw [e] at e'; cases e';rw [d] at d';injection d' with d1 _;have:its=its':=by simpa using congrArg Array.toList d1
 subst this;exact r.inj r'
theorem Inv.tuple_inj (I:Inv X J3 σ H s) (h:bj X.K H a xs) (h':bj X.K H a ys):xs=ys:=by
 obtain ⟨its,r,⟨o,e,_,n,d⟩,_⟩:=I.tuple h;obtain ⟨its',r',⟨o',e',_,n',d'⟩,_⟩:=I.tuple h';rw [e] at e'; cases e';rw [d] at d';injection d' with d1 _;have:its=its':=by simpa using congrArg Array.toList d1
 subst this;exact r.inj r'
end
abbrev Cx.wish (X:Cx) (E:Zc):Cx:={ X with xe:=E }
abbrev Cx.nox (X:Cx):Cx:=X.wish fun _ _=>False
theorem Cx.Ok.wish {X:Cx}(ok:X.Ok) (E:Zc):(X.wish E).Ok :=
 ⟨ok.mod,ok.kind,ok.glob,ok.blt,ok.above,ok.inj,ok.has,ok.cab,ok.hd,ok.frames,ok.stk,ok.exf,ok.bs,ok.bsz,ok.noex,ok.exfs,ok.funs,ok.frf⟩
theorem Cx.Ok.unwish {X:Cx}{E:Zc}(ok:(X.wish E).Ok):X.Ok :=
 ⟨ok.mod,ok.kind,ok.glob,ok.blt,ok.above,ok.inj,ok.has,ok.cab,ok.hd,ok.frames,ok.stk,ok.exf,ok.bs,ok.bsz,ok.noex,ok.exfs,ok.funs,ok.frf⟩
section
variable {X:Cx}{J3:Zd}{σ:St}{H:Hp}{s:Shared}{E:Zc}
theorem Inv.wish (I:Inv X J3 σ H s) (E:Zc):Inv (X.wish E) J3 σ H s:=⟨I.ok.wish E,I.os,I.bare,I.base,I.loc,I.cell,I.free,I.freeC,I.pin,I.hok,I.len⟩
theorem Inv.unwish (I:Inv (X.wish E) J3 σ H s):Inv X J3 σ H s:=⟨I.ok.unwish,I.os,I.bare,I.base,I.loc,I.cell,I.free,I.freeC,I.pin,I.hok,I.len⟩
theorem SP.unwish {D:kJ}{f:Flow}{s':Shared}(h:SP (X.wish E) J3 D f s'):SP X J3 D f s':=by
 cases f with
 | next=>obtain ⟨σ',H',I,q⟩:=h; exact ⟨σ',H',I.unwish,q⟩
 | brk=>obtain ⟨σ',H',I,q⟩:=h; exact ⟨σ',H',I.unwish,q⟩
 | cont=>obtain ⟨σ',H',I,q⟩:=h; exact ⟨σ',H',I.unwish,q⟩
 | ret u=>obtain ⟨v,σ',H',I,r,q⟩:=h; exact ⟨v,σ',H',I.unwish,r,q⟩
theorem zD.nox {st:List Stmt}{t:TS}(h:zD X.nox st t):zD X st t:=fun J3 s σ H D I hw =>
 jy (h J3 s σ H D (I.wish _) hw) (fun _ _ q=>q.unwish) fun _ _ z=>jx z
end
section
variable {X:Cx}{st:Stmt}{rest:List Stmt}{t u:TS}{e:Expr}{te:TE}{pos:Pos}
def aU:TS:=fun D σ H=>D.nx σ H
def ao (t u:TS):TS:=fun D σ H=>t { D with nx:=u D } σ H
theorem aL:zD X [] aU:=fun _ _ σ H _ I h=>Bj ⟨σ,H,I,h⟩
theorem ab (h1:PS X st t) (h2:zD X rest u):zD X (st::rest) (ao t u):=by
 intro J3 s σ H D I h;refine wpAny_execs_cons (cB (h1 J3 s σ H { D with nx:=u D } I h) fun f s1 q=>?_);cases f with
 | next =>
  obtain ⟨σ',H',I',q⟩:=q;exact h2 J3 s1 σ' H' D I' q
 | ret v=>exact q
 | brk=>exact q
 | cont=>exact q
theorem ag (h1:PS X st t):zD X [st] t:=by
 intro J3 s σ H D I h;refine wpAny_execs_cons (cB (h1 J3 s σ H D I h) fun f s1 q=>?_);cases f with
 | next=>exact Bj q
 | ret v=>exact q
 | brk=>exact q
 | cont=>exact q
theorem Inv.quiet {J3:Zd}{σ:St}{H:Hp}{s:Shared}(I:Inv X J3 σ H s):interactive X.env=false:=by simp [interactive,I.ok.kind]
def bE (te:TE):TS:=fun D σ H=>te σ H fun _ H1=>D.nx σ H1
theorem aS (he:PE X e te) (hs:qv e none pos.line X.env=pure false:=by rfl):PS X (.Expr e pos) (bE te):=by
 intro J3 s σ H D I h;exact wpAny_Expr_any (cB (he J3 s σ H _ I h) fun v s1 ⟨x,H1,I1,r1,q1⟩=>⟨σ,H1,I1,q1⟩) I.quiet hs
def aT (te:TE):TS:=fun D σ H=>te σ H D.rt
theorem az (he:PE X e te):PS X (.Return (some e) pos) (aT te):=by
 intro J3 s σ H D I h;exact wpAny_Return_some (cB (he J3 s σ H _ I h) fun v s1 ⟨x,H1,I1,r1,q1⟩=>⟨x,σ,H1,I1,r1,q1⟩)
def bD (c:TT) (t u:TS):TS:=fun D σ H=>c σ H fun b H1=>if b=true then t D σ H1 else u D σ H1
theorem br {c:Expr}{a b:List Stmt}{tc:TT}(hc:PT X c tc) (ha:zD X a t) (hb:zD X b u):PS X (.If c a b pos) (bD tc t u):=by
 intro J3 s σ H D I h;refine wpAny_If (cB (hc J3 s σ H _ I h) fun d s1 ⟨H1,I1,q1⟩=>?_);cases d with
 | true=>exact ha J3 s1 σ H1 D I1 q1
 | false=>exact hb J3 s1 σ H1 D I1 q1
def sB:TS:=fun _ _ _=>False
theorem oC:PS X st sB:=fun _ _ _ _ _ _ h=>h.elim
end
abbrev TG:=V->St->Hp->(St->Hp->Prop)->Prop
abbrev Dz:=List V->St->Hp->(St->Hp->Prop)->Prop
def PG (X:Cx) (target:Expr) (t:TG):Prop :=
 ∀(J3:Zd) (s:Shared) (σ:St) (H:Hp) (v:V) (u:Value) (Q:St->Hp->Prop),Inv X J3 σ H s->RelV v u->t v σ H Q ->
  wpAny (model X.prog X.w) X.A (assign target X.env u) (fun _ s'=>∃σ' H',Inv X J3 σ' H' s'/\Q σ' H') X.xe s
def Iv (X:Cx) (ts:List Expr) (t:Dz):Prop :=
 ∀(J3:Zd) (s:Shared) (σ:St) (H:Hp) (vs:List V) (us:Zf) (Q:St->Hp->Prop),Inv X J3 σ H s->bc vs us->t vs σ H Q ->
  wpAny (model X.prog X.w) X.A (assignInOrder ((uO ts X.env).map (·.2)) us) (fun _ s'=>∃σ' H',Inv X J3 σ' H' s'/\Q σ' H') X.xe s
abbrev Hs:=V->V->V->Hp->(Hp->Prop)->Prop
def HW (X:Cx) (t:Hs):Prop :=
 ∀(J3:Zd) (s:Shared) (σ:St) (H:Hp) (o i v:V) (ov iv u:Value) (Q:Hp->Prop),Inv X J3 σ H s->RelV o ov->RelV i iv->RelV v u->t o i v H Q ->
  wpAny (model X.prog X.w) X.A (setItem ov iv u) (fun _ s'=>∃H',Inv X J3 σ H' s'/\Q H') X.xe s
abbrev Ir:=V->V->Hp->VK->Prop
def PIp (X:Cx) (op:Operator) (t:Ir):Prop :=
 ∀(J3:Zd) (s:Shared) (σ:St) (H:Hp) (x y:V) (v u:Value) (Q:VK),Inv X J3 σ H s->RelV x v->RelV y u->t x y H Q ->
  wpAny (model X.prog X.w) X.A (inplaceOp op v u) (EP X J3 σ Q) X.xe s
section
variable {X:Cx}{pos:Pos}
def d6 (i:Nat):TG:=fun v σ H Q=>Q (σ.set i (some v)) H
abbrev U0:TG:=d6 0
abbrev U1:TG:=d6 1
abbrev U2:TG:=d6 2
abbrev U3:TG:=d6 3
abbrev U4:TG:=d6 4
abbrev U5:TG:=d6 5
abbrev U6:TG:=d6 6
abbrev U7:TG:=d6 7
abbrev U8:TG:=d6 8
abbrev U9:TG:=d6 9
abbrev HU:TG:=d6 10
abbrev Iq:TG:=d6 11
abbrev U12:TG:=d6 12
theorem Bz {i:Nat}{x:Str}(hN:X.N.Nodup) (hi:X.N[i]?=some x) (hx:Loc X.env.scope x) (hf:X.fn x=true∨X.env.scope.names.lookup x=some .local:=by first | exact .inl rfl | exact .inr rfl | assumption):PG X (.Name x pos) (d6 i):=by
 intro J3 s σ H v u Q I r h;exact wpAny_assign_Name (sJ I hN hi hx r (fun s' I'=>⟨_,H,I',h⟩) hf)
def fI:Dz:=fun vs σ H Q=>vs=[]/\Q σ H
def aR (t:TG) (u:Dz):Dz:=fun vs σ H Q=>∃v r,vs=v::r/\t v σ H fun σ' H'=>u r σ' H' Q
theorem cb:Iv X [] fI:=by
 intro J3 s σ H vs us Q I r h;obtain ⟨e,h⟩:=h;subst e;cases r;exact assignInOrder_nil ⟨σ,H,I,h⟩
theorem aq {e:Expr}{es:List Expr}{t:TG}{u:Dz}(h1:PG X e t) (h2:Iv X es u)
  (hs:(uO (e::es) X.env).map (·.2)=assign e X.env::(uO es X.env).map (·.2):=by rfl):Iv X (e::es) (aR t u):=by
 intro J3 s σ H vs us Q I r h;obtain ⟨v,vr,e1,h⟩:=h;subst e1;cases r with
 | cons r rr =>
  rw [hs];refine assignInOrder_cons (cB (h1 J3 s σ H _ _ _ I r h) fun _ s1 ⟨σ1,H1,I1,q1⟩=>?_);exact h2 J3 s1 σ1 H1 _ _ Q I1 rr q1
def fW (K:Za) (n:Nat) (t:Dz):TG:=fun v σ H Q=>∃a xs,v=.ref a/\bj K H a xs/\xs.length=n/\t xs σ H Q
theorem cQ {es:List Expr}{k:Nat}{t:Dz}{n:Nat}(hc:X.calm=true) (h:Iv X es t)
  (hn:(uO es X.env).length=n:=by rfl) (hst:(uO es X.env).findIdx? (·.1)=none:=by rfl):PG X (.Tuple es k pos) (fW X.K n t):=by
 intro J3 s σ H v u Q I r hw;obtain ⟨a,xs,e1,hq,hl,hw⟩:=hw;subst e1;cases r;obtain ⟨its,rv,ht,hz⟩:=I.tuple hq;refine assign_Tuple_tuple (I.ok.hd hc) ht (by simp [hn,<-hl,rv.length]) hst fun h' hx=>?_;have I1:Inv X J3 σ H { s with heap:=h' }:=I.kept (t':=s.toks) fun b o e=>hx b o (cV (aY e)) e;exact h J3 _ σ H xs _ Q I1 (by simpa using rv) hw
def AA (to ti:TE) (t:Hs):TG:=fun v σ H Q=>to σ H fun o H1=>ti σ H1 fun i H2=>t o i v H2 fun H3=>Q σ H3
theorem sV {o i:Expr}{to ti:TE}{t:Hs}(ho:PE X o to) (hi:PE X i ti) (hs:HW X t)
  (ha:∀v,assign (.Subscript o i pos) X.env v=(do
   let ov <- kL [v] (eval o X.env)
   let iv <- kL [v,ov] (eval i X.env)
   qw pos
   kL [v,ov,iv] (setItem ov iv v)
   release [v,ov,iv] []):=by intro _; rfl):PG X (.Subscript o i pos) (AA to ti t):=by
 intro J3 s σ H v u Q I r h;rw [ha];refine ak (kR (cB (ho J3 s σ H _ I h) fun ov s1 ⟨x,H1,I1,r1,q1⟩=>?_));refine ak (kR (cB (hi J3 s1 σ H1 _ I1 q1) fun iv s2 ⟨y,H2,I2,r2,q2⟩=>?_));refine ak (Bi (ak (kR (cB (hs J3 s2 σ H2 x y v ov iv u _ I2 r1 r2 r q2) fun _ s3 ⟨H3,I3,q3⟩=>?_))));exact wpAny_release ⟨σ,H3,I3,q3⟩
def aP (te:TE) (g:TG):TS:=fun D σ H=>te σ H fun x H1=>g x σ H1 D.nx
theorem h7 {tg e:Expr}{te:TE}{g:TG}(he:PE X e te) (hg:PG X tg g) (hs:swapsWithSole [tg] e pos.line X.env=pure false:=by rfl) (hw:swappedStores [tg] e X.env=pure none:=by rfl)
  (h1:(uO [tg] X.env).map (·.2)=[assign tg X.env]:=by rfl):PS X (.Assign [tg] e pos) (aP te g):=by
 intro J3 s σ H D I h;refine wpAny_Assign_stores (cB (he J3 s σ H _ I h) fun v s1 ⟨x,H1,I1,r1,q1⟩=>?_) hs hw;rw [h1];exact cB (hg J3 s1 σ H1 x v _ I1 r1 q1) fun _ s2 q=>q
theorem Ha {i:Nat}{x:Str}{e:Expr}{te:TE}{pos':Pos}(hN:X.N.Nodup) (hi:X.N[i]?=some x) (hx:Loc X.env.scope x) (he:PE X e te) (hs:qv e (some (.Name x pos')) pos.line X.env=pure false:=by rfl) (hf:X.fn x=true∨X.env.scope.names.lookup x=some .local:=by first | exact .inl rfl | exact .inr rfl | assumption) :
  PS X (.Assign [.Name x pos'] e pos) (aP te (d6 i)):=by
 intro J3 s σ H D I h;refine wpAny_Assign_Name (cB (he J3 s σ H _ I h) fun v s1 ⟨y,H1,I1,r1,q1⟩=>?_) hs;exact sJ I1 hN hi hx r1 (fun s2 I2=>⟨_,H1,I2,q1⟩) hf
def HC (i:Nat) (te:TE) (ti:Ir):TS:=fun D σ H=>∃x,σ[i]?=some (some x)/\te σ H fun y H1=>ti x y H1 fun z H2=>D.nx (σ.set i (some z)) H2
theorem Hb {i:Nat}{x:Str}{e:Expr}{te:TE}{op:Operator}{ti:Ir}{pos':Pos}(hN:X.N.Nodup) (hi:X.N[i]?=some x) (hx:Loc X.env.scope x) (he:PE X e te) (ho:PIp X op ti) (hf:X.fn x=true∨X.env.scope.names.lookup x=some .local:=by first | exact .inl rfl | exact .inr rfl | assumption) :
  PS X (.AugAssign (.Name x pos') op e pos) (HC i te ti):=by
 intro J3 s σ H D I h;obtain ⟨v,e1,h⟩:=h;obtain ⟨m,hn,hl⟩:=I.loc;have vis:Ip X.env.scope x:=by rcases hx with k | k; exact .inl k; exact .inr (.inl k)
 obtain ⟨u,r,l⟩:=hl i x v hi e1 vis;refine wpAny_AugAssign_Name ?_;have go:wpAny (model X.prog X.w) X.A (eval e X.env) (fun w s₂=>wpAny (model X.prog X.w) X.A (inplaceOp op u w) (fun r s₃=>wpAny (model X.prog X.w) X.A (storeName X.env x r) (fun _=>SP X J3 D .next) X.xe s₃) X.xe s₂) X.xe s:=by
  refine cB (he J3 s σ H _ I h) fun w s1 ⟨y,H1,I1,r1,q1⟩=>?_;refine cB (ho J3 s1 σ H1 v y u w _ I1 r r1 q1) fun z s2 ⟨zv,H2,I2,r2,q2⟩=>?_;exact sJ I2 hN hi hx r2 (fun s3 I3=>⟨_,H2,I3,q2⟩) hf
 rcases l with ⟨hk,hm⟩ | ⟨hk,c,hc,hcell⟩
 ·exact wpAny_loadName_local I.ok.kind hk hn hm go
 ·rcases hk with hk | hk
  ·exact wpAny_loadName_cell I.ok.kind hk hc hcell go
  ·rcases hx with k | k
   ·have:X.env.scope.names.lookup x=some .free:=hk;rw [k] at this; cases this
   ·have:X.env.scope.names.lookup x=some .free:=hk;rw [k] at this; cases this
def ipI (f:Int->Int->Int):Ir:=fun x y H Q=>∃i j,x=.int i/\y=.int j/\Q (.int (f i j)) H
theorem Hl:PIp X .Add (ipI fun i j=>i+j):=by
 intro J3 s σ H x y v u Q I r1 r2 h;obtain ⟨i,j,e1,e2,q⟩:=h;subst e1; subst e2;obtain ⟨t,rfl⟩:=r1;obtain ⟨t',rfl⟩:=r2;exact iadd_int ⟨.int _,H,I.tok _,⟨_,rfl⟩,q⟩
end
section
variable {X:Cx}{pos:Pos}
def mW (c:TT) (tb:TS):TS:=fun D σ H=>∃W:Nat->St->Hp->Prop,(∃m,W m σ H)/\∀m σ H,W m σ H ->
 c σ H fun b H1=>if b=true then ∃N:St->Hp->Prop,(∀σ' H',N σ' H'->∃m',m'<m/\W m' σ' H')/\tb { D with nx:=N,ct:=N,bk:=D.nx } σ H1 else D.nx σ H1
theorem jE {c:Expr}{body:List Stmt}{tc:TT}{tb:TS}(hp:PassesOwn (model X.prog X.w) X.A X.env X.xe) (hc:PT X c tc) (hb:zD X body tb):PS X (.While c body [] pos) (mW tc tb):=by
 intro J3 s σ H D I h;obtain ⟨W,⟨m0,w0⟩,turn⟩:=h;refine wpAny_While (codeAny_whileLoop (fun n s'=>∃σ' H',Inv X J3 σ' H' s'/\W n σ' H') ?_ m0 ⟨σ,H,I,w0⟩);rintro n s1 ⟨σ1,H1,I1,w1⟩;refine rJ hp (cB (hc J3 s1 σ1 H1 _ I1 (turn n σ1 H1 w1)) fun b s2 ⟨H2,I2,q2⟩=>?_);cases b with
 | true =>
  obtain ⟨N,hN,q2⟩:=q2;rw [if_pos rfl];refine rJ hp (cB (hb J3 s2 σ1 H2 _ I2 q2) fun f s3 q3=>?_);cases f with
  | next =>
   obtain ⟨σ3,H3,I3,n3⟩:=q3;obtain ⟨m',hm,w3⟩:=hN σ3 H3 n3;exact ⟨m',hm,σ3,H3,I3,w3⟩
  | cont =>
   obtain ⟨σ3,H3,I3,n3⟩:=q3;obtain ⟨m',hm,w3⟩:=hN σ3 H3 n3;exact ⟨m',hm,σ3,H3,I3,w3⟩
  | brk=>exact q3
  | ret v=>exact q3
 | false =>
  rw [if_neg gh];exact Bj ⟨σ1,H2,I2,q2⟩
end
structure It where
 go:Nat->Hp->Prop
 yld:Nat->Hp->V->Hp->Prop
 stop:Nat->Hp->Prop
def nJ (X:Cx) (J3:Zd) (H:Hp) (b:Addr):Prop :=
 H b=none/\b≠X.env.locals/\b∉X.fs/\(b∈X.ex∨X.s₀.heap.objs.size<=b)/\(∀x c,X.env.cells.lookup x=some c->c≠b)/\∀p∈X.pn++J3,p.1≠b
theorem Inv.fpOk {X:Cx}{J3:Zd}{σ:St}{H H':Hp}{s:Shared}{b:Addr}(I:Inv X J3 σ H s) (hb:s.heap.objs.size<=b) (hn:H' b=none):nJ X J3 H' b:=by
 refine ⟨hn,gj (iC I.lt hb),I.nofs hb,.inr (bH I.sz hb),fun x c e z=>?_,fun p hp z=>?_⟩
 ·obtain ⟨v,q⟩:=I.cell x c e;exact absurd (iC q.lt (by rw [z]; exact hb)) (qx _)
 ·exact absurd (iC (aY (I.pin p hp).1) (by rw [z]; exact hb)) (qx _)
structure qY (P:bR) (w:World) (K:Za) (tg:Expr) (J:It) (fp:Ze) (it:Addr) (tn:Nat->Heap->Prop):Prop where
 mem:it∈fp
 obj:∀i h,tn i h->∀b∈fp,∃o,h.get? b=some o/\∀v,o.data≠.cell v
 keep:∀i h h',tn i h->(∀b∈fp,∀o,h.get? b=some o->h'.get? b=some o)->tn i h'
 item:∀(X:Cx),X.prog=P->X.w=w->X.K=K->X.calm=true->∀(i:Nat) (J3:Zd) (s:Shared) (σ:St) (H:Hp) (E:Zc),Inv X J3 σ H s->(∀b∈fp,nJ X J3 H b)->tn i s.heap->J.go i H ->
  wpAny (model P w) X.A (pyNext (.ref it)) (fun r s1=>∃u,r=some u /\
   wpAny (model P w) X.A (Bh tg (.ref it) u) (fun _ s2=>∃x H',Inv X J3 σ H' s2/\RelV x u/\J.yld i H x H'/\tn (i+1) s2.heap/\∀b∈fp,H' b=none) E s1) E s
 done:∀(X:Cx),X.prog=P->X.w=w->X.K=K->X.calm=true->∀(i:Nat) (J3:Zd) (s:Shared) (σ:St) (H:Hp) (E:Zc),Inv X J3 σ H s->(∀b∈fp,nJ X J3 H b)->tn i s.heap->J.stop i H ->
  wpAny (model P w) X.A (pyNext (.ref it)) (fun r s1=>r=none/\Inv X J3 σ H s1) E s
 self:∀(A:Around) (i:Nat) (s:Shared) (Q:Zc) (E:Zc),tn i s.heap->Q (.ref it) s->wpAny (model P w) A (pyIter (.ref it)) Q E s
abbrev TI:=St->Hp->(It->Hp->Prop)->Prop
def Iu (X:Cx) (J3:Zd) (σ:St) (tg:Expr) (R:It->Hp->Prop) (itv:Value) (s2:Shared):Prop :=
 ∃(it:Addr) (fp:Ze) (tn:Nat->Heap->Prop) (J:It) (H':Hp),itv=.ref it/\Inv X J3 σ H' s2/\qY X.prog X.w X.K tg J fp it tn/\tn 0 s2.heap/\(∀b∈fp,nJ X J3 H' b)/\R J H'
def PI (X:Cx) (tg iter:Expr) (wi:TI):Prop :=
 ∀(J3:Zd) (s:Shared) (σ:St) (H:Hp) (R:It->Hp->Prop),Inv X J3 σ H s->wi σ H R ->
  wpAny (model X.prog X.w) X.A (eval iter X.env) (fun v s1=>wpAny (model X.prog X.w) X.A (pyIter v) (Iu X J3 σ tg R) X.xe s1) X.xe s
theorem vk {M:Model}{A:Around}{E:Zc}{s:Shared}{tg:Expr}{it:Addr}{u:Value}{o:Obj}{n:String}{vs:Array Value}{Q:Unit->Shared->Prop}(ho:s.heap.get? it=some o) (hc:o.cls=.type n) (hd:o.data=.fields vs)
    (hn:["enumerate","zip","dict_itemiterator","dict_reverseitemiterator","odict_iterator","itertools.zip_longest","itertools.pairwise"].contains n=false) (hQ:Q () s):wpAny M A (Bh tg (.ref it) u) Q E s:=by
  unfold Bh;cases tg <;> first
    | exact aH hQ
    | (cases u <;> first
        | exact aH hQ
        | (refine ak (wpAny_load ho ?_)
           rw [hc,hd];show wpAny M A (if (["enumerate","zip","dict_itemiterator","dict_reverseitemiterator","odict_iterator","itertools.zip_longest","itertools.pairwise"].contains n && vs[0]? == some (rawInt _))=true then _ else _) Q E s
           rw [if_neg (by intro h; rw [hn,Bg] at h; cases h)];exact aH hQ))
def Fw (K:Za) (a:Addr):It :=
 ⟨fun i H=>∃xs x,aA K H a xs/\xs[i]?=some x,fun i H x H'=>H'=H/\∀xs,aA K H a xs->xs[i]?=some x,fun i H=>∃xs,aA K H a xs/\xs.length<=i⟩
def Hu (K:Za) (a:Addr):It :=
 ⟨fun i H=>∃xs x,bj K H a xs/\xs[i]?=some x,fun i H x H'=>H'=H/\∀xs,bj K H a xs->xs[i]?=some x,fun i H=>∃xs,bj K H a xs/\xs.length<=i⟩
def Hv (lo:Int) (n:Nat):It:=⟨fun i _=>i<n,fun i H x H'=>H'=H/\x=.int (lo+i),fun i _=>n<=i⟩
theorem uR {P:bR}{w:World}{K:Za}{tg:Expr}(a it:Addr):qY P w K tg (Fw K a) [it] it (fun i h=>h.IsListIter it a i) where
 mem:=by simp
 obj:=fun i h st b hb=>by
  have e:b=it:=by simpa using hb
  subst e;obtain ⟨o,e,c,d⟩:=st;exact ⟨o,e,fun v z=>by rw [d] at z; cases z⟩
 keep:=fun i h h' st k=>st.at fun o e=>k it (by simp) o e
 item:=by
  intro X hP hw hK hc i J3 s σ H E I hf st hg;subst hP hw hK;obtain ⟨xs,x,hq,hx⟩:=hg;obtain ⟨its,rv,p,hz⟩:=I.list hq;obtain ⟨u,hu,ru⟩:=rv.get hx;obtain ⟨f0,f1,f2,f3,f4,f5⟩:=hf it (by simp);refine wpAny_pyNext_list_item st p.isList (x:=u) (by simpa using hu) fun h' st' sb=>?_;have I1:Inv X J3 σ H { s with heap:=h' }:=I.turned (t':=s.toks) (fun b o hb e=>(sb.2 b hb).trans e) f0 f1 f3 f4 f5;obtain ⟨o,e,c,d⟩:=id st';exact ⟨u,rfl,vk (s:={ s with heap:=h' }) e c d (by decide) ⟨x,H,I1,ru,⟨rfl,fun ys hy=>by rw [I.list_inj hy hq]; exact hx⟩,st',fun b hb=>(hf b hb).1⟩⟩
 done:=by
  intro X hP hw hK hc i J3 s σ H E I hf st hg;subst hP hw hK;obtain ⟨xs,hq,hx⟩:=hg;obtain ⟨its,rv,p,hz⟩:=I.list hq;obtain ⟨f0,f1,f2,f3,f4,f5⟩:=hf it (by simp);have hl:=rv.length;exact wpAny_pyNext_list_end (I.ok.hd hc) st p.isList (by simp; omega) fun h' eb=>⟨rfl,I.turned (t':=s.toks) (fun b o hb e=>eb b o hb e) f0 f1 f3 f4 f5⟩
 self:=fun _ _ _ _ _ st h=>wpAny_pyIter_listiter st h
theorem so {P:bR}{w:World}{K:Za}{tg:Expr}(a it:Addr):qY P w K tg (Hu K a) [it] it (fun i h=>h.IsTupleIter it a i) where
 mem:=by simp
 obj:=fun i h st b hb=>by
  have e:b=it:=by simpa using hb
  subst e;obtain ⟨o,e,c,d⟩:=st;exact ⟨o,e,fun v z=>by rw [d] at z; cases z⟩
 keep:=fun i h h' st k=>st.at fun o e=>k it (by simp) o e
 item:=by
  intro X hP hw hK hc i J3 s σ H E I hf st hg;subst hP hw hK;obtain ⟨xs,x,hq,hx⟩:=hg;obtain ⟨its,rv,p,hz⟩:=I.tuple hq;obtain ⟨u,hu,ru⟩:=rv.get hx;obtain ⟨f0,f1,f2,f3,f4,f5⟩:=hf it (by simp);refine wpAny_pyNext_tuple_item st (show s.heap.IsTuple a its.toArray from p) (x:=u) (by simpa using hu) fun h' st' sb=>?_;have I1:Inv X J3 σ H { s with heap:=h' }:=I.turned (t':=s.toks) (fun b o hb e=>(sb.2 b hb).trans e) f0 f1 f3 f4 f5;obtain ⟨o,e,c,d⟩:=id st';exact ⟨u,rfl,vk (s:={ s with heap:=h' }) e c d (by decide) ⟨x,H,I1,ru,⟨rfl,fun ys hy=>by rw [I.tuple_inj hy hq]; exact hx⟩,st',fun b hb=>(hf b hb).1⟩⟩
 done:=by
  intro X hP hw hK hc i J3 s σ H E I hf st hg;subst hP hw hK;obtain ⟨xs,hq,hx⟩:=hg;obtain ⟨its,rv,p,hz⟩:=I.tuple hq;obtain ⟨f0,f1,f2,f3,f4,f5⟩:=hf it (by simp);have hl:=rv.length;exact wpAny_pyNext_tuple_end (I.ok.hd hc) st (show s.heap.IsTuple a its.toArray from p) (by simp; omega) fun h' eb=>⟨rfl,I.turned (t':=s.toks) (fun b o hb e=>eb b o hb e) f0 f1 f3 f4 f5⟩
 self:=fun _ _ _ _ _ st h=>wpAny_pyIter_tupleiter st h
theorem zG {P:bR}{w:World}{K:Za}{tg:Expr}(it:Addr) (lo:Int) (n:Nat):qY P w K tg (Hv lo n) [it] it (fun i h=>IsRangeIter h it (lo+(i:Nat) * 1) ((n:Int)-(i:Nat)) 1) where
 mem:=by simp
 obj:=fun i h st b hb=>by
  have e:b=it:=by simpa using hb
  subst e;exact ⟨_,st,fun v z=>by
   have z':Data.fields _=Data.cell v:=z;cases z'⟩
 keep:=fun i h h' st k=>k it (by simp) _ st
 item:=by
  intro X hP hw hK hc i J3 s σ H E I hf st hg;subst hP hw hK;obtain ⟨f0,f1,f2,f3,f4,f5⟩:=hf it (by simp);have W:=Walks.range (prog:=X.prog) (w:=X.w) (I.ok.hd hc) it lo 1 n;refine W.item i s _ _ hg st fun v h' tk hv st' kk=>?_;obtain ⟨t,rfl⟩:=hv;have I1:Inv X J3 σ H { s with heap:=h',toks:=tk }:=I.turned (fun b o hb e=>kk b o (by simpa using hb) e) f0 f1 f3 f4 f5;refine ⟨_,rfl,vk (s:={ s with heap:=h',toks:=tk }) (n:="range_iterator") st' rfl rfl (by decide) ⟨.int (lo+i),H,I1,⟨t,?_⟩,⟨rfl,rfl⟩,st',fun b hb=>(hf b hb).1⟩⟩;rw [Int.mul_one]
 done:=by
  intro X hP hw hK hc i J3 s σ H E I hf st hg;subst hP hw hK;obtain ⟨f0,f1,f2,f3,f4,f5⟩:=hf it (by simp);exact wpAny_pyNext_range_end (I.ok.hd hc) st (by have:n<=i:=hg; omega) fun h' eb=>⟨rfl,I.turned (t':=s.toks) (fun b o hb e=>eb b o hb e) f0 f1 f3 f4 f5⟩
 self:=fun _ _ _ _ _ st h=>wpAny_pyIter_rangeiter st h
end L2
namespace L2
open PySem PySem.Spec PyProof.Rows
section
variable {X:Cx}{tg:Expr}
def cy (K:Za) (tl:TE):TI:=fun σ H R=>tl σ H fun x H1=>∃a,x=.ref a/\(∃xs,aA K H1 a xs)/\R (Fw K a) H1
def Gr (K:Za) (tl:TE):TI:=fun σ H R=>tl σ H fun x H1=>∃a,x=.ref a/\(∃xs,bj K H1 a xs)/\R (Hu K a) H1
theorem bf {l:Expr}{tl:TE}(hl:PE X l tl):PI X tg l (cy X.K tl):=by
 intro J3 s σ H R I h;refine cB (hl J3 s σ H _ I h) fun v s1 ⟨x,H1,I1,r1,q1⟩=>?_;obtain ⟨a,e,⟨xs,hq⟩,q⟩:=q1;subst e;cases r1;obtain ⟨its,rv,p,hz⟩:=I1.list hq;refine xF p.isList ?_;refine ⟨s1.heap.objs.size,[s1.heap.objs.size],_,_,H1,rfl,I1.kept (t':=s1.toks) fun b o e=>bq _ e,uR a _,⟨_,cF _ rfl,rfl,rfl⟩,fun b hb=>?_,q⟩;have e:b=s1.heap.objs.size:=by simpa using hb
 subst e;exact I1.fpOk (aG _) (I1.hok.fresh (aG _))
theorem Ag {l:Expr}{tl:TE}(hl:PE X l tl):PI X tg l (Gr X.K tl):=by
 intro J3 s σ H R I h;refine cB (hl J3 s σ H _ I h) fun v s1 ⟨x,H1,I1,r1,q1⟩=>?_;obtain ⟨a,e,⟨xs,hq⟩,q⟩:=q1;subst e;cases r1;obtain ⟨its,rv,p,hz⟩:=I1.tuple hq;refine Bf (show s1.heap.IsTuple a its.toArray from p) ?_;refine ⟨s1.heap.objs.size,[s1.heap.objs.size],_,_,H1,rfl,I1.kept (t':=s1.toks) fun b o e=>bq _ e,so a _,⟨_,cF _ rfl,rfl,rfl⟩,fun b hb=>?_,q⟩;have e:b=s1.heap.objs.size:=by simpa using hb
 subst e;exact I1.fpOk (aG _) (I1.hok.fresh (aG _))
theorem Eh {J3:Zd}{σ:St}{H:Hp}{s:Shared}{R:It->Hp->Prop}{E:Zc}{lo hi:Int}{t u v:Tok}{tk:Nat}(I:Inv X J3 σ H s) (h1:-(2 ^ 62)<=lo) (h2:lo<2 ^ 62) (h3:-(2 ^ 62)<=hi) (h4:hi<2 ^ 62)
  (q:R (Hv lo (hi-lo).toNat) H):wpAny (model X.prog X.w) X.A (pyIter (.ref s.heap.objs.size)) (Iu X J3 σ tg R) E { s with heap:=s.heap.push { cls:=.type "range",data:=.fields #[.int lo t,.int hi u,.int 1 v] },toks:=tk }:=by
 refine wpAny_pyIter_range (IsRange.new ..) (small_one h1 h2 h3 h4) ?_;have I1:Inv X J3 σ H { s with heap:=s.heap.push { cls:=.type "range",data:=.fields #[.int lo t,.int hi u,.int 1 v] },toks:=tk }:=I.kept fun b o e=>bq _ e;refine ⟨(s.heap.push { cls:=.type "range",data:=.fields #[.int lo t,.int hi u,.int 1 v] }).objs.size,[(s.heap.push { cls:=.type "range",data:=.fields #[.int lo t,.int hi u,.int 1 v] }).objs.size],_,_,H,rfl,
  I1.kept (t':=tk) fun b o e=>bq _ e,zG _ lo (hi-lo).toNat,?_,fun b hb=>?_,q⟩
 ·have e1:lo+((0:Nat):Int) * 1=lo:=by simp
  have e2:(((hi-lo).toNat:Nat):Int)-((0:Nat):Int)=cg.Range.rangeSize lo hi 1:=by rw [rangeSize_one]; split <;> omega
  show IsRangeIter _ _ (lo+((0:Nat):Int) * 1) ((((hi-lo).toNat:Nat):Int)-((0:Nat):Int)) 1;rw [e1,e2];exact cF _ rfl
 ·have e:b=(s.heap.push { cls:=.type "range",data:=.fields #[.int lo t,.int hi u,.int 1 v] }).objs.size:=by simpa using hb
  subst e;exact I1.fpOk (aG _) (I1.hok.fresh (aG _))
def oP (ta:TA):TI:=fun σ H R=>ta σ H fun vs H1=>∃j:Int,vs=[.int j]/\-(2 ^ 62)<=j/\j<2 ^ 62/\R (Hv 0 j.toNat) H1
theorem gB {a:Expr}{ta:TA}{p pos:Pos}(hg:Gl X "range") (hm:X.mg "range"=none) (ha:PA X [a] ta) (hs:aN [a] X.env=[(false,eval a X.env)]:=by rfl):PI X tg (.Call (.Name "range" p) [a] [] pos) (oP ta):=by
 intro J3 s σ H R I h;refine Call_ (p5 I hg hm boot_range (Be (cB (ha pos J3 s σ H _ I h) fun us s1 ⟨vs,H1,I1,r1,q1⟩=>?_) hs rfl));obtain ⟨j,e,q1,q2,q⟩:=q1;subst e;cases r1 with
 | cons r rr =>
  cases rr;obtain ⟨t,rfl⟩:=r;exact call_range_1 (Eh I1 (by omega) (by omega) q1 q2 (by simpa using q))
def dR (wi:TI) (g:TG) (tb:TS):TS:=fun D σ H=>wi σ H fun J H1=>∃W:Nat->Nat->St->Hp->Prop,(∃m,W 0 m σ H1)/\∀i m σ H,W i m σ H ->
 (J.stop i H/\D.nx σ H)∨(J.go i H/\∃N:St->Hp->Prop,(∀σ' H',N σ' H'->∃m',m'<m/\W (i+1) m' σ' H')/\∀x H',J.yld i H x H'->g x σ H' fun σ2 H2=>tb { D with nx:=N,ct:=N,bk:=D.nx } σ2 H2)
def sU (fp:Ze) (h:Heap):List (Addr×Obj):=fp.filterMap fun b=>(h.get? b).map fun o=>(b,o)
theorem j4 {fp:Ze}{h:Heap}{b:Addr}{o:Obj}(hb:b∈fp) (e:h.get? b=some o):(b,o)∈sU fp h:=List.mem_filterMap.mpr ⟨b,hb,by rw [e]; rfl⟩
theorem CU {fp:Ze}{h:Heap}{p:Addr×Obj}(hp:p∈sU fp h):p.1∈fp/\h.get? p.1=some p.2:=by
 obtain ⟨b,hb,e⟩:=List.mem_filterMap.mp hp;cases q:h.get? b with
 | none=>rw [q] at e; cases e
 | some o =>
  rw [q] at e;have e':(b,o)=p:=dZ e;subst e';exact ⟨hb,q⟩
theorem Inv.pinned {J3:Zd}{σ:St}{H:Hp}{s:Shared}{fp:Ze}(I:Inv X J3 σ H s) (hf:∀b∈fp,nJ X J3 H b) (ho:∀b∈fp,∃o,s.heap.get? b=some o/\∀v,o.data≠.cell v):Inv X (J3++sU fp s.heap) σ H s :=
 I.pins_of fun p hp=>(bx.mp hp).elim (fun z=>I.pin p (dz _ z)) fun z=>by
  obtain ⟨hb,e⟩:=CU z;obtain ⟨f0,f1,f2,_⟩:=hf p.1 hb;obtain ⟨o,e',d⟩:=ho p.1 hb;rw [e] at e'; cases e';exact ⟨e,f0,f1,f2,d⟩
theorem Inv.unpinned {J3 pl:Zd}{σ:St}{H:Hp}{s:Shared}(I:Inv X (J3++pl) σ H s):Inv X J3 σ H s:=I.pins_of fun p hp=>I.pin p (dz _ (dh _ hp))
theorem bG {iter:Expr}{body:List Stmt}{wi:TI}{g:TG}{tb:TS}{pos:Pos}(hp:PassesOwn (model X.prog X.w) X.A X.env X.xe) (hc:X.calm=true) (hi:PI X tg iter wi) (hg:PG X tg g) (hb:zD X body tb)
  (hs:∀x,xE iter X.env x=pure x:=by intro _; rfl):PS X (.For tg iter body [] pos) (dR wi g tb):=by
 intro J3 s σ H D I h;refine wpAny_For (cB (hi J3 s σ H _ I h) fun v s1 h1=>cB h1 fun itv s2 h2=>?_) hs;obtain ⟨it,fp,tn,J,H2,e,I2,T,st2,f2,W,⟨m0,w0⟩,turn⟩:=h2;subst e;have stat:∀{H':Hp},(∀b∈fp,H' b=none)->∀b∈fp,nJ X J3 H' b:=fun hn b hb=>⟨hn b hb,(f2 b hb).2⟩;refine codeAny_forLoop_any (fun n s'=>∃i σ' H',Inv X J3 σ' H' s'/\tn i s'.heap/\(∀b∈fp,H' b=none)/\W i n σ' H') ?_ m0 ⟨0,σ,H2,I2,st2,fun b hb=>(f2 b hb).1,w0⟩;rintro n s3 ⟨i,σ3,H3,I3,st3,fr3,w3⟩;rcases turn i n σ3 H3 w3 with ⟨stop,qn⟩ | ⟨go,N,hN,step⟩
 ·refine rJ hp (cB (T.done X rfl rfl rfl hc i J3 s3 σ3 H3 X.xe I3 (stat fr3) st3 stop) fun r s4 ⟨hr,I4⟩=>?_);subst hr;exact Bj ⟨σ3,H3,I4,qn⟩
 ·refine rJ hp (cB (T.item X rfl rfl rfl hc i J3 s3 σ3 H3 X.xe I3 (stat fr3) st3 go) fun r s4 ⟨u,hr,h4⟩=>?_);subst hr;refine rJ hp (cB h4 fun _ s5 ⟨x,H5,I5,r5,y5,st5,fr5⟩=>?_);have I5':=I5.pinned (stat fr5) (T.obj _ _ st5);refine rJ hp (cB (hg _ s5 σ3 H5 x u _ I5' r5 (step x H5 y5)) fun _ s6 ⟨σ6,H6,I6,q6⟩=>?_);refine rJ hp (cB (hb _ s6 σ6 H6 _ I6 q6) fun f s7 q7=>?_);have again:∀{σ7:St}{H7:Hp},Inv X (J3++sU fp s5.heap) σ7 H7 s7->N σ7 H7->∃m,m<n/\∃i σ' H',Inv X J3 σ' H' s7/\tn i s7.heap/\(∀b∈fp,H' b=none)/\W i m σ' H':=fun {σ7 H7} I7 n7=>by
   obtain ⟨m',hm,w7⟩:=hN σ7 H7 n7;refine ⟨m',hm,i+1,σ7,H7,I7.unpinned,T.keep _ _ _ st5 fun b hb o e=>(I7.pin (b,o) (dz _ (dz _ (j4 hb e)))).1,fun b hb=>?_,w7⟩;obtain ⟨o,e,d⟩:=T.obj _ _ st5 b hb;exact (I7.pin (b,o) (dz _ (dz _ (j4 hb e)))).2.1
  cases f with
  | next=>obtain ⟨σ7,H7,I7,n7⟩:=q7; exact again I7 n7
  | cont=>obtain ⟨σ7,H7,I7,n7⟩:=q7; exact again I7 n7
  | brk=>obtain ⟨σ7,H7,I7,q7⟩:=q7; exact ⟨σ7,H7,I7.unpinned,q7⟩
  | ret v=>obtain ⟨x7,σ7,H7,I7,r7,q7⟩:=q7; exact ⟨x7,σ7,H7,I7.unpinned,r7,q7⟩
end
theorem cr {K:Za}{a:Addr}{xs:List V}{g:TG}{tb:TS}{D:kJ}{σ:St}{H:Hp}(Pv:Nat->St->Hp->Prop) (h0:Pv 0 σ H) (hl:∀i σ H,i<=xs.length->Pv i σ H->aA K H a xs)
  (hs:∀i x σ H,xs[i]?=some x->Pv i σ H->g x σ H fun σ2 H2=>tb { D with nx:=Pv (i+1),ct:=Pv (i+1),bk:=D.nx } σ2 H2) (hd:∀σ H,Pv xs.length σ H->D.nx σ H) :
  ∃W:Nat->Nat->St->Hp->Prop,(∃m,W 0 m σ H)/\∀i m σ H,W i m σ H ->
   ((Fw K a).stop i H/\D.nx σ H)∨((Fw K a).go i H/\∃N:St->Hp->Prop,(∀σ' H',N σ' H'->∃m',m'<m/\W (i+1) m' σ' H')/\∀x H',(Fw K a).yld i H x H'->g x σ H' fun σ2 H2=>tb { D with nx:=N,ct:=N,bk:=D.nx } σ2 H2):=by
 refine ⟨fun i m σ H=>m=xs.length-i/\i<=xs.length/\Pv i σ H,⟨xs.length,by simp,c9 _,h0⟩,?_⟩;rintro i m σ H ⟨rfl,hi,p⟩;have q:=hl i σ H hi p;by_cases hlt:i<xs.length
 ·refine .inr ⟨⟨xs,xs[i],q,by simp [hlt]⟩,Pv (i+1),fun σ' H' p'=>⟨xs.length-(i+1),by omega,rfl,hlt,p'⟩,fun x H' y=>?_⟩;obtain ⟨e,y⟩:=y;subst e;exact hs i x σ _ (y xs q) p
 ·have e:i=xs.length:=by omega
  subst e;exact .inl ⟨⟨xs,q,aG _⟩,hd σ H p⟩
theorem BT {K:Za}{a:Addr}{xs:List V}{g:TG}{tb:TS}{D:kJ}{σ:St}{H:Hp}(Pv:Nat->St->Hp->Prop) (h0:Pv 0 σ H) (hl:∀i σ H,i<=xs.length->Pv i σ H->bj K H a xs)
  (hs:∀i x σ H,xs[i]?=some x->Pv i σ H->g x σ H fun σ2 H2=>tb { D with nx:=Pv (i+1),ct:=Pv (i+1),bk:=D.nx } σ2 H2) (hd:∀σ H,Pv xs.length σ H->D.nx σ H) :
  ∃W:Nat->Nat->St->Hp->Prop,(∃m,W 0 m σ H)/\∀i m σ H,W i m σ H ->
   ((Hu K a).stop i H/\D.nx σ H)∨((Hu K a).go i H/\∃N:St->Hp->Prop,(∀σ' H',N σ' H'->∃m',m'<m/\W (i+1) m' σ' H')/\∀x H',(Hu K a).yld i H x H'->g x σ H' fun σ2 H2=>tb { D with nx:=N,ct:=N,bk:=D.nx } σ2 H2):=by
 refine ⟨fun i m σ H=>m=xs.length-i/\i<=xs.length/\Pv i σ H,⟨xs.length,by simp,c9 _,h0⟩,?_⟩;rintro i m σ H ⟨rfl,hi,p⟩;have q:=hl i σ H hi p;by_cases hlt:i<xs.length
 ·refine .inr ⟨⟨xs,xs[i],q,by simp [hlt]⟩,Pv (i+1),fun σ' H' p'=>⟨xs.length-(i+1),by omega,rfl,hlt,p'⟩,fun x H' y=>?_⟩;obtain ⟨e,y⟩:=y;subst e;exact hs i x σ _ (y xs q) p
 ·have e:i=xs.length:=by omega
  subst e;exact .inl ⟨⟨xs,q,aG _⟩,hd σ H p⟩
theorem iz {lo:Int}{n:Nat}{g:TG}{tb:TS}{D:kJ}{σ:St}{H:Hp}(Pv:Nat->St->Hp->Prop) (h0:Pv 0 σ H)
  (hs:∀i σ H,i<n->Pv i σ H->g (.int (lo+i)) σ H fun σ2 H2=>tb { D with nx:=Pv (i+1),ct:=Pv (i+1),bk:=D.nx } σ2 H2) (hd:∀σ H,Pv n σ H->D.nx σ H) :
  ∃W:Nat->Nat->St->Hp->Prop,(∃m,W 0 m σ H)/\∀i m σ H,W i m σ H ->
   ((Hv lo n).stop i H/\D.nx σ H)∨((Hv lo n).go i H/\∃N:St->Hp->Prop,(∀σ' H',N σ' H'->∃m',m'<m/\W (i+1) m' σ' H')/\∀x H',(Hv lo n).yld i H x H'->g x σ H' fun σ2 H2=>tb { D with nx:=N,ct:=N,bk:=D.nx } σ2 H2):=by
 refine ⟨fun i m σ H=>m=n-i/\i<=n/\Pv i σ H,⟨n,by simp,c9 _,h0⟩,?_⟩;rintro i m σ H ⟨rfl,hi,p⟩;by_cases hlt:i<n
 ·refine .inr ⟨hlt,Pv (i+1),fun σ' H' p'=>⟨n-(i+1),by omega,rfl,hlt,p'⟩,fun x H' y=>?_⟩;obtain ⟨e,y⟩:=y;subst e y;exact hs i σ _ hlt p
 ·have e:i=n:=by omega
  subst e;exact .inl ⟨aG _,hd σ H p⟩
end L2
namespace L2
open PySem PySem.Spec PyProof.Rows
abbrev R2:=V->V->Hp->VK->Prop
def nP (X:Cx) (f:Value->Value->Sem Value) (r:R2):Prop :=
 ∀(J3:Zd) (s:Shared) (σ:St) (H:Hp) (x y:V) (v u:Value) (Q:VK),Inv X J3 σ H s->RelV x v->RelV y u->r x y H Q ->
  wpAny (model X.prog X.w) X.A (f v u) (EP X J3 σ Q) X.xe s
def gb (X:Cx) (f:Value) (r:List V->Hp->VK->Prop):Prop :=
 ∀(J3:Zd) (s:Shared) (σ:St) (H:Hp) (xs:List V) (us:Zf) (Q:VK),Inv X J3 σ H s->bc xs us->r xs H Q ->
  wpAny (model X.prog X.w) X.A (call f us) (EP X J3 σ Q) X.xe s
def aE (r:R2) (ta tb:TE):TE:=fun σ H Q=>ta σ H fun x H1=>tb σ H1 fun y H2=>r x y H2 Q
def rI (C:Int->Int->Prop) (g:Int->Int->V):R2:=fun x y H Q=>∃i j,x=.int i/\y=.int j/\C i j/\Q (g i j) H
def Dw (g:Int->Int->V):R2:=fun x y H Q=>∃i j,x=.int i/\y=.int j/\Q (g i j) H
section
variable {X:Cx}{a b c:Expr}{ta tb tc:TE}{pos:Pos}
theorem Hq (ha:PE X a ta) (hb:PE X b tb) {J3:Zd}{s:Shared}{σ:St}{H:Hp}{R:V->V->Hp->Prop}(I:Inv X J3 σ H s)
  (h:ta σ H fun x H1=>tb σ H1 fun y H2=>R x y H2) {Q:Zc}{f:Value->Value->Sem Value}
  (hf:∀v u s2 x y H2,Inv X J3 σ H2 s2->RelV x v->RelV y u->R x y H2->wpAny (model X.prog X.w) X.A (f v u) Q X.xe s2) :
  wpAny (model X.prog X.w) X.A (eval a X.env) (fun v s₁=>wpAny (model X.prog X.w) X.A (eval b X.env) (fun u s₂=>wpAny (model X.prog X.w) X.A (f v u) Q X.xe s₂) X.xe s₁) X.xe s:=by
 refine cB (ha J3 s σ H _ I h) fun v s1 ⟨x,H1,I1,r1,q1⟩=>?_;refine cB (hb J3 s1 σ H1 _ I1 q1) fun u s2 ⟨y,H2,I2,r2,q2⟩=>?_;exact hf v u s2 x y H2 I2 r1 r2 q2
theorem aW {op:Operator}{r:R2}(ho:nP X (qt op) r) (ha:PE X a ta) (hb:PE X b tb):PE X (.BinOp a op b pos) (aE r ta tb):=by
 intro J3 s σ H Q I h;exact wpAny_BinOp (Hq ha hb I h fun v u s2 x y H2 I2 rx ry q=>ho J3 s2 σ H2 x y v u Q I2 rx ry q)
theorem Io {f:Value->Value->Sem Value}{C:Int->Int->Prop}{g:Int->Int->Int}
  (rule:∀(i j:Int) (t u:Tok) (s:Shared) (Q:Zc) (E:Zc),C i j->Q (.int (g i j) s.toks) { s with toks:=s.toks+1 }->wpAny (model X.prog X.w) X.A (f (.int i t) (.int j u)) Q E s) :
  nP X f (rI C fun i j=>.int (g i j)):=by
 intro J3 s σ H x y v u Q I rx ry h;obtain ⟨i,j,rfl,rfl,hc,q⟩:=h;obtain ⟨t,rfl⟩:=rx;obtain ⟨t',rfl⟩:=ry;exact rule i j t t' s _ _ hc ⟨.int (g i j),H,I.tok _,⟨_,rfl⟩,q⟩
theorem opI0 {f:Value->Value->Sem Value}{g:Int->Int->Int}
  (rule:∀(i j:Int) (t u:Tok) (s:Shared) (Q:Zc) (E:Zc),Q (.int (g i j) s.toks) { s with toks:=s.toks+1 }->wpAny (model X.prog X.w) X.A (f (.int i t) (.int j u)) Q E s) :
  nP X f (Dw fun i j=>.int (g i j)):=by
 intro J3 s σ H x y v u Q I rx ry h;obtain ⟨i,j,rfl,rfl,q⟩:=h;obtain ⟨t,rfl⟩:=rx;obtain ⟨t',rfl⟩:=ry;exact rule i j t t' s _ _ ⟨.int (g i j),H,I.tok _,⟨_,rfl⟩,q⟩
theorem Gi {f:Value->Value->Sem Value}{g:Int->Int->Bool}
  (rule:∀(i j:Int) (t u:Tok) (s:Shared) (Q:Zc) (E:Zc),Q (.bool (g i j)) s->wpAny (model X.prog X.w) X.A (f (.int i t) (.int j u)) Q E s) :
  nP X f (Dw fun i j=>.bl (g i j)):=by
 intro J3 s σ H x y v u Q I rx ry h;obtain ⟨i,j,rfl,rfl,q⟩:=h;obtain ⟨t,rfl⟩:=rx;obtain ⟨t',rfl⟩:=ry;exact rule i j t t' s _ _ ⟨.bl (g i j),H,I,rfl,q⟩
def Ih (i j:Int):Prop:=0<j/\j<1073741824
def Ig (i j:Int):Prop:=0<=j/\j<=1000000/\i.natAbs<2 ^ 64
def Fs (i j:Int):Prop:=(-(2 ^ 64)<i/\i<2 ^ 64)∨(-(2 ^ 64)<j/\j<2 ^ 64)
theorem Fs.ok {i j:Int}(h:Fs i j):IntMulOk i j:=by
 rcases h with ⟨h1,h2⟩ | ⟨h1,h2⟩
 ·exact .of_left (intBits_le_64 h1 h2)
 ·exact .of_right (intBits_le_64 h1 h2)
theorem c7:nP X (qt .Add) (Dw fun i j=>.int (i+j)):=opI0 fun _ _ _ _ _ _ _ q=>add_int q
theorem iL:nP X (qt .Mult) (rI Fs fun i j=>.int (i * j)):=Io fun _ _ _ _ _ _ _ hc q=>mul_int q hc.ok
theorem BG:nP X (qt .FloorDiv) (rI Ih fun i j=>.int (i / j)):=Io fun i j _ _ _ _ _ hc q=>by
 have h1:(0:Int)<j:=hc.1;have h2:j<1073741824:=hc.2;exact floordiv_int (by omega) (by rw [Int.fdiv_eq_ediv_of_nonneg i (by omega)]; exact q) (.inl (PyProof.noPylong_small (by omega)))
theorem gD:nP X (qt .Mod) (rI (fun _ j=>0<j) fun i j=>.int (i % j)):=Io fun i j _ _ _ _ _ hc q=>by
 have h1:(0:Int)<j:=hc;exact mod_int' (by omega) (by rw [Int.fmod_eq_emod_of_nonneg i (by omega)]; exact q)
theorem Ev:nP X (qt .Pow) (rI Ig fun i j=>.int (i ^ j.toNat)):=Io fun _ _ _ _ _ _ _ hc q=>pow_int_small hc.1 hc.2.1 hc.2.2 q
end
def HE:V->V->Bool
 | .non,.non=>true | .non,.int _=>true | .int _,.non=>true | .non,.bl _=>true | .bl _,.non=>true | .non,.str _=>true | .str _,.non=>true
 | .int _,.int _=>true | .bl _,.bl _=>true | .str _,.str _=>true | .byt _,.byt _=>true
 | .int _,.str _=>true | .str _,.int _=>true | .bl _,.str _=>true | .str _,.bl _=>true
 | _,_=>false
def Bw:R2:=fun x y H Q=>HE x y=true/\Q (.bl (decide (x=y))) H
def tZ:R2:=fun x y H Q=>HE x y=true/\Q (.bl (!decide (x=y))) H
theorem Ca {i j:Int}:decide (V.int i=V.int j)=(i == j):=by
 rw [uN];simp
theorem Fb {i j:Bool}:decide (V.bl i=V.bl j)=(i == j):=by
 rw [uN];simp
theorem BZ {i j:Str}:decide (V.str i=V.str j)=(i == j):=by
 rw [uN];simp
theorem Cb {i j:Array UInt8}:decide (V.byt i=V.byt j)=(i.toList == j.toList):=by
 rw [uN];cases i;cases j;simp
section
variable {X:Cx}{a b c:Expr}{ta tb tc:TE}{pos:Pos}
theorem bQ {J3:Zd}{σ:St}{H:Hp}{s:Shared}{Q:VK}{k k':Bool}(I:Inv X J3 σ H s) (q:Q (.bl k) H) (e:k=k'):EP X J3 σ Q (.bool k') s:=by
 subst e;exact ⟨.bl k,H,I,rfl,q⟩
theorem kB:nP X (eT .Eq) Bw:=by
 intro J3 s σ H x y v u Q I rx ry h;obtain ⟨hs,q⟩:=h;cases x with
 | non =>
  cases rx;cases y with
  | non=>cases ry; exact PySem.EqNone.eq_none_none (bQ I q (by simp))
  | bl j=>cases ry; exact PySem.EqNone.eq_none_bool (bQ I q (by simp))
  | int j=>obtain ⟨t',rfl⟩:=ry; exact PySem.EqNone.eq_none_int (bQ I q (by simp))
  | str j=>obtain ⟨t',rfl⟩:=ry; exact PySem.EqNone.eq_none_str (bQ I q (by simp))
  | _=>exact absurd (show false=true from hs) gh
 | bl i =>
  cases rx;cases y with
  | non=>cases ry; exact PySem.EqNone.eq_bool_none (bQ I q (by simp))
  | bl j=>cases ry; exact eq_bool (bQ I q Fb)
  | str j=>obtain ⟨t',rfl⟩:=ry; exact PySem.EqMixed.eq_bool_str (bQ I q (by simp))
  | _=>exact absurd (show false=true from hs) gh
 | int i =>
  obtain ⟨t,rfl⟩:=rx;cases y with
  | non=>cases ry; exact PySem.EqNone.eq_int_none (bQ I q (by simp))
  | int j=>obtain ⟨t',rfl⟩:=ry; exact eq_int (bQ I q Ca)
  | str j=>obtain ⟨t',rfl⟩:=ry; exact PySem.EqMixed.eq_int_str (bQ I q (by simp))
  | _=>exact absurd (show false=true from hs) gh
 | str i =>
  obtain ⟨t,rfl⟩:=rx;cases y with
  | non=>cases ry; exact PySem.EqNone.eq_str_none (bQ I q (by simp))
  | bl j=>cases ry; exact PySem.EqMixed.eq_str_bool (bQ I q (by simp))
  | int j=>obtain ⟨t',rfl⟩:=ry; exact PySem.EqMixed.eq_str_int (bQ I q (by simp))
  | str j=>obtain ⟨t',rfl⟩:=ry; exact eq_str (bQ I q BZ)
  | _=>exact absurd (show false=true from hs) gh
 | byt i =>
  obtain ⟨t,rfl⟩:=rx;cases y with
  | byt j=>obtain ⟨t',rfl⟩:=ry; exact PySem.W.eq_bytes (bQ I q Cb)
  | _=>exact absurd (show false=true from hs) gh
 | _=>cases y <;> exact absurd (show false=true from hs) gh
theorem oI:nP X (eT .NotEq) tZ:=by
 intro J3 s σ H x y v u Q I rx ry h;obtain ⟨hs,q⟩:=h;cases x with
 | non =>
  cases rx;cases y with
  | non=>cases ry; exact PySem.EqNone.ne_none_none (bQ I q (by simp))
  | bl j=>cases ry; exact PySem.EqNone.ne_none_bool (bQ I q (by simp))
  | int j=>obtain ⟨t',rfl⟩:=ry; exact PySem.EqNone.ne_none_int (bQ I q (by simp))
  | str j=>obtain ⟨t',rfl⟩:=ry; exact PySem.EqNone.ne_none_str (bQ I q (by simp))
  | _=>exact absurd (show false=true from hs) gh
 | bl i =>
  cases rx;cases y with
  | non=>cases ry; exact PySem.EqNone.ne_bool_none (bQ I q (by simp))
  | bl j=>cases ry; exact ne_bool (bQ I q (congrArg not Fb))
  | str j=>obtain ⟨t',rfl⟩:=ry; exact PySem.EqMixed.ne_bool_str (bQ I q (by simp))
  | _=>exact absurd (show false=true from hs) gh
 | int i =>
  obtain ⟨t,rfl⟩:=rx;cases y with
  | non=>cases ry; exact PySem.EqNone.ne_int_none (bQ I q (by simp))
  | int j=>obtain ⟨t',rfl⟩:=ry; exact ne_int (bQ I q (congrArg not Ca))
  | str j=>obtain ⟨t',rfl⟩:=ry; exact PySem.EqMixed.ne_int_str (bQ I q (by simp))
  | _=>exact absurd (show false=true from hs) gh
 | str i =>
  obtain ⟨t,rfl⟩:=rx;cases y with
  | non=>cases ry; exact PySem.EqNone.ne_str_none (bQ I q (by simp))
  | bl j=>cases ry; exact PySem.EqMixed.ne_str_bool (bQ I q (by simp))
  | int j=>obtain ⟨t',rfl⟩:=ry; exact PySem.EqMixed.ne_str_int (bQ I q (by simp))
  | str j=>obtain ⟨t',rfl⟩:=ry; exact ne_str (bQ I q (congrArg not BZ))
  | _=>exact absurd (show false=true from hs) gh
 | byt i =>
  obtain ⟨t,rfl⟩:=rx;cases y with
  | byt j=>obtain ⟨t',rfl⟩:=ry; exact PySem.W.ne_bytes (bQ I q (congrArg not Cb))
  | _=>exact absurd (show false=true from hs) gh
 | _=>cases y <;> exact absurd (show false=true from hs) gh
theorem sX:nP X (eT .Lt) (Dw fun i j=>.bl (decide (i<j))):=Gi fun _ _ _ _ _ _ _ q=>lt_int q
theorem HI:nP X (eT .LtE) (Dw fun i j=>.bl (decide (i<=j))):=Gi fun _ _ _ _ _ _ _ q=>le_int q
theorem yy:nP X (eT .Gt) (Dw fun i j=>.bl (decide (j<i))):=Gi fun _ _ _ _ _ _ _ q=>gt_int q
theorem HJ:nP X (eT .GtE) (Dw fun i j=>.bl (decide (j<=i))):=Gi fun _ _ _ _ _ _ _ q=>ge_int q
theorem CT:nP X (eT .In) (fun x y H Q=>∃i j,x=.str i/\y=.str j/\Q (.bl (!(cg.Str.occurrences j i 0 j.length 1).isEmpty)) H):=by
 intro J3 s σ H x y v u Q I rx ry h;obtain ⟨i,j,rfl,rfl,q⟩:=h;obtain ⟨t,rfl⟩:=rx;obtain ⟨t',rfl⟩:=ry;exact in_str (bQ I q rfl)
theorem Ey (b:Expr) {op:CmpOp}(h:op≠.In:=by decide) (h2:op≠.NotIn:=by decide):kz op b=false:=by
 have e1:(op == CmpOp.In)=false:=by cases op <;> first | rfl | exact absurd rfl h
 have e2:(op == CmpOp.NotIn)=false:=by cases op <;> first | rfl | exact absurd rfl h2
 cases b <;> simp [kz,e1,e2]
theorem BB {op:CmpOp}{r:R2}(ho:nP X (eT op) r) (ha:PE X a ta) (hb:PE X b tb) (hm:kz op b=false):PE X (.Compare a [op] [b] pos) (aE r ta tb):=by
 intro J3 s σ H Q I h;exact wpAny_Compare1 (Hq ha hb I h fun v u s2 x y H2 I2 rx ry q=>ho J3 s2 σ H2 x y v u Q I2 rx ry q) hm
def aJ (t:TE):TT:=fun σ H Q=>t σ H fun x H'=>∃k,x=.bl k/\Q k H'
theorem Bx {op:CmpOp}{r:R2}(ho:nP X (eT op) r) (ha:PE X a ta) (hb:PE X b tb) (hm:kz op b=false):PT X (.Compare a [op] [b] pos) (aJ (aE r ta tb)):=by
 intro J3 s σ H Q I h;refine wpAny_isTrue_Compare1 (cB (ha J3 s σ H _ I h) fun v s1 ⟨x,H1,I1,r1,q1⟩=>cB (hb J3 s1 σ H1 _ I1 q1) fun u s2 ⟨y,H2,I2,r2,q2⟩ =>
  cB (ho J3 s2 σ H2 x y v u _ I2 r1 r2 q2) fun c s3 ⟨z,H3,I3,r3,k,e,q3⟩=>?_) hm
 subst e;cases r3;exact qz ⟨H3,I3,q3⟩
theorem p4:(ai:Nat)<2 ^ 63:=by rw [ky]; decide
theorem sY:nP X (qt .Add) (fun x y H Q=>∃i j,x=.str i/\y=.str j/\i.length+j.length<=ai/\Q (.str (i++j)) H):=by
 intro J3 s σ H x y v u Q I rx ry h;obtain ⟨i,j,rfl,rfl,hz,q⟩:=h;obtain ⟨t,rfl⟩:=rx;obtain ⟨t',rfl⟩:=ry;exact add_str (fun t' tk=>⟨.str (i++j),H,I.tok _,⟨_,rfl⟩,q⟩) hz
theorem vals1 {x:V}{us:Zf}(r:bc [x] us):∃u,us=[u]/\RelV x u:=by
 cases r with
 | cons r1 r2=>cases r2; exact ⟨_,rfl,r1⟩
theorem vals2 {x y:V}{us:Zf}(r:bc [x,y] us):∃u w',us=[u,w']/\RelV x u/\RelV y w':=by
 cases r with
 | cons r1 r2 =>
  cases r2 with
  | cons r3 r4=>cases r4; exact ⟨_,_,rfl,r1,r3⟩
theorem Dm (hc:X.calm=true):gb X (.builtin "max") (fun xs H Q=>∃i j,xs=[.int i,.int j]/\Q (.int (if j > i then j else i)) H):=by
 intro J3 s σ H xs us Q I r h;obtain ⟨i,j,rfl,q⟩:=h;obtain ⟨u,w',rfl,⟨t,rfl⟩,⟨t',rfl⟩⟩:=vals2 r;refine max_two_ints (I.ok.hd hc) fun h' tk k=>⟨_,H,I.kept k,?_,q⟩;by_cases hj:j > i
 ·rw [if_pos hj,if_pos hj]; exact ⟨_,rfl⟩
 ·rw [if_neg hj,if_neg hj]; exact ⟨_,rfl⟩
end
end L2
namespace L2
open PySem PySem.Spec PyProof.Rows
structure AN (h:Heap) (x dx C:Addr) (mA:Str->Option Value):Prop where
 obj:h.get? x=some (qy C dx)
 ns:h.Ns1 dx mA
 ne:dx≠x
theorem C1 {h:Heap}{dx:Addr}{mA:Str->Option Value}(n:h.Ns1 dx mA):∃od,h.get? dx=some od/\∀name,Bd name od=some (mA name):=by
 obtain ⟨o,es,ep,ho,hd,hk,_,hm⟩:=n;refine ⟨o,ho,fun name=>?_⟩;have e:=hm name;unfold nsFind findBy at e;rw [<-Array.find?_toList] at e;unfold Bd;rw [hd];dsimp only;split
 ·rename_i y q;rw [q] at e;exact congrArg some e
 ·rename_i q;rw [q] at e;have a:es.toList.any (·.refKey)=false:=by
   rw [List.any_eq_false];intro y hy;obtain ⟨z,t,hkey⟩:=hk y (Array.mem_toList_iff.mp hy);simp [jk.refKey,hkey]
  have a':¬es.toList.any (·.refKey)=true:=by rw [a]; exact gh
  rw [if_neg a'];exact congrArg some e
theorem AN.look {h:Heap}{x dx C:Addr}{mA:Str->Option Value}(I:AN h x dx C mA):∃od,PySem.W.InstAt h x (qy C dx) C (some od)/\∀name,Bd name od=some (mA name) :=
 let ⟨od,ho,hl⟩:=C1 I.ns
 ⟨od,⟨I.obj,rfl,rfl,ho⟩,hl⟩
section
variable {prog:bR}{w:World}{A:Around}{E:Zc}{s:Shared}{K:Za}{x dx C f:Addr}{mA:Str->Option Value}{name:Str}{v:Value}
theorem Gs {expr:Bool}{Q:Zc}(X:K.In s.heap) (I:AN s.heap x dx C mA) (hg:uM K C name=true) (hh:xD K C=true)
  (ha:df K (.ref C) name=some none) (hv:mA name=some v) (hv':PySem.W.handedIn v=true) (h:Q v { s with toks:=s.toks+1 }) :
  wpAny (model prog w) A (getAttr (.ref x) name expr) Q E s:=by
 obtain ⟨od,J,hl⟩:=I.look;exact PySem.W.get_value X J (PySem.W.plainGet_of hg).1 (PySem.W.findObj_own hh ha rfl (by rw [hl,hv])) hv' h
theorem ER {pl:Sem Bool}{Q:Value×List Value->Shared->Prop}(X:K.In s.heap) (I:AN s.heap x dx C mA) (hg:uM K C name=true)
  (hf:df K (.ref C) name=some (some (.ref f))) (ht:xC K (.ref f)=true) (hv:mA name=none) (h:Q (.ref f,[.ref x]) s) :
  wpAny (model prog w) A (qr (.ref x) name pl) Q E s:=by
 obtain ⟨od,J,hl⟩:=I.look;exact PySem.W.method_fn X J (PySem.W.plainGet_of hg).1 (PySem.W.plainGet_of hg).2 hf (beq_iff_eq.mp ht) (by show (Bd name od).map (·.isSome)=some false; rw [hl,hv]; rfl) h
theorem FN {ns:Zb}{Q:Unit->Shared->Prop}(X:K.In s.heap) (I:AN s.heap x dx C mA)
  (hs:df K (.ref C) "__setattr__"=some (some (.builtin "object.__setattr__"))) (hp:Bc K C=true) (ht:PySem.W.takerIn K C name=some none) (hh:xD K C=true)
  (hw:PySem.Within mA ns) (hsz:ns.length<=ai)
  (h:∀h',AN h' x dx C (fun y=>if y=name then some v else mA y)->fF dx s.heap h'->Q () { s with heap:=h',toks:=s.toks+2 }) :
  wpAny (model prog w) A (setAttr (.ref x) name v) Q E s:=by
 obtain ⟨od,J,hl⟩:=I.look;refine PySem.W.set_plain X J hs (PySem.W.osa_open (s:={ s with toks:=s.toks+1 }) (r:=none) X J hp ht fun b=>?_);obtain ⟨cd,hc,hd'⟩:=PySem.W.any_some hh;have hx:s.heap.get? x=some ⟨.ref C,some dx,.plain,#[]⟩:=I.obj;refine ak (aH (ak (ak (wpAny_loadPart hx (ak (PySem.W.Looks.here (s:={ s with toks:=s.toks+1 }) (PySem.W.looks_clsIn X hc) ?_))))));rw [hd'];refine aH (a:=some dx) (ak (aH (ak ?_)));refine wpAny_nsSet1 (s:={ s with toks:=s.toks+1 }) I.ns fun h' hn2 hs2=>?_;obtain ⟨oD,esD,epD,hoD,hdD,hcD⟩:=hn2.count (PySem.Within.cons name v hw);refine ak (wpAny_lookBehind hoD (by rw [hdD]; exact pastItsLine_dict (bH hcD (by rw [dP]; omega))) ?_);exact aH (h _ ⟨(hs2.2 _ (c_ I.ne)).trans I.obj,hn2,I.ne⟩ hs2)
theorem EF {R:Result->Shared->Prop}{vs:Zf}{kw:List (Str×Value)}(X:K.In s.heap) (hm:rH K C=true)
  (hi:df K (.ref C) "__init__"=some (some (.ref f))) (hf:PySem.W.typeIn K (.ref f)=some (.type "function"))
  (h:zzl77 (model prog w) (A.under (.builtin "type.__call__" ⟨.ref C::vs,kw⟩)) (.call (.ref f) ⟨.ref (s.heap.objs.size+1)::vs,kw⟩) (PySem.W.InitBack (s.heap.objs.size+1) R)
   { s with heap:=(s.heap.push nU).push (qy C s.heap.objs.size) }) :
  zzl77 (model prog w) A (.call (.ref C) ⟨vs,kw⟩) R s:=by
 obtain ⟨hh,g,d,t,os⟩:=s;exact PySem.W.make_core (PySem.W.makes_of X hm) (PySem.W.looks_findIn X hi) (fun self=>PySem.W.bind_fn X self hf) (.inl rfl) h
end
def cE (f:Str) (v:V):List (Str×V)->List (Str×V)
 | []=>[(f,v)]
 | (g,x)::r=>if g=f then (g,v)::r else (g,x)::cE f v r
theorem eF (f g:Str) (v:V):∀fs:List (Str×V),(cE f v fs).lookup g=if g=f then some v else fs.lookup g
 | []=>by
  show kr g [(f,v)]=_;by_cases h:g=f
  ·have hb:(g == f)=true:=beq_iff_eq.mpr h;simp only [kr,hb,if_pos h]
  ·have hb:(g == f)=false:=beq_eq_false_iff_ne.mpr h;simp only [kr,hb,if_neg h]
 | (k,x)::r=>by
  have ih:=eF f g v r;rw [show cE f v ((k,x)::r)=(if k=f then (k,v)::r else (k,x)::cE f v r) from rfl]
  by_cases hk:k=f
  ·rw [if_pos hk];by_cases h:g=k
   ·have hb:(g == k)=true:=beq_iff_eq.mpr h;simp only [kr,hb,if_pos (h.trans hk)]
   ·have hb:(g == k)=false:=beq_eq_false_iff_ne.mpr h;simp only [kr,hb,if_neg (fun e:g=f=>h (e.trans hk.symm))]
  ·rw [if_neg hk];by_cases h:g=k
   ·have hb:(g == k)=true:=beq_iff_eq.mpr h;simp only [kr,hb,if_neg (fun e:g=f=>hk (h.symm.trans e))]
   ·have hb:(g == k)=false:=beq_eq_false_iff_ne.mpr h;simp only [kr,hb];exact ih
theorem p6 (f:Str) (v:V):∀fs:List (Str×V),f∈(cE f v fs).map (·.1)/\∀g,g∈fs.map (·.1)->g∈(cE f v fs).map (·.1)
 | []=>⟨by simp [cE],fun g h=>by simp at h⟩
 | (k,x)::r=>by
  obtain ⟨i1,i2⟩:=p6 f v r;rw [show cE f v ((k,x)::r)=(if k=f then (k,v)::r else (k,x)::cE f v r) from rfl]
  by_cases hk:k=f
  ·rw [if_pos hk];subst hk;exact ⟨by simp,fun g h=>by simpa using h⟩
  ·rw [if_neg hk];refine ⟨?_,fun g h=>?_⟩
   ·rw [bw];exact fb _ i1
   ·rw [bw] at h ⊢;rcases cU.mp h with e | e
    ·exact cU.mpr (.inl e)
    ·exact fb _ (i2 g e)
theorem qG (f:Str) (v:V):∀fs:List (Str×V),(cE f v fs).length<=fs.length+1
 | []=>by simp [cE]
 | (k,x)::r=>by
  have ih:=qG f v r;rw [show cE f v ((k,x)::r)=(if k=f then (k,v)::r else (k,x)::cE f v r) from rfl]
  by_cases hk:k=f
  ·rw [if_pos hk,dP,dP]; omega
  ·rw [if_neg hk,dP,dP]; omega
theorem kI.some_of {v:V}{o:Option Value}(r:kI (some v) o):∃u,o=some u/\RelV v u:=by
 cases o with
 | none=>exact (show False from r).elim
 | some u=>exact ⟨u,rfl,r⟩
theorem kI.none_of {o:Option Value}(r:kI none o):o=none:=by
 cases o with
 | none=>rfl
 | some u=>exact (show False from r).elim
theorem Db {v:V}{u:Value}(r:RelV v u):PySem.W.handedIn u=true:=by
 cases v with
 | non=>cases (show u=Value.none from r); rfl
 | bl b=>cases (show u=Value.bool b from r); rfl
 | int i=>obtain ⟨t,e⟩:=(show ∃t,u=Value.int i t from r); cases e; rfl
 | str x=>obtain ⟨t,e⟩:=(show ∃t,u=Value.str x t from r); cases e; rfl
 | byt b=>obtain ⟨t,e⟩:=(show ∃t,u=Value.bytes b t from r); cases e; rfl
 | flt b=>obtain ⟨t,e⟩:=(show ∃t,u=Value.float b t from r); cases e; rfl
 | ref a=>cases (show u=Value.ref a from r); rfl
 | ty n=>cases (show u=Value.type n from r); rfl
section
variable {P:bR}{w:World}{H H':Hp}{h h':Heap}{a C dx:Addr}{fs fs':List (Str×V)}
theorem rC {K:Za}(hok:lZ P w K H h) (e:H a=some (.ins C dx fs)):∃mA,AN h a dx C mA/\(∀f,kI (fs.lookup f) (mA f))/\PySem.Within mA (fs.map (·.1))/\fs.length<=1000/\H dx=some (.own a):=by
 obtain ⟨d,z,ne,ob,mA,n,r,q⟩:=(show bV P w K H h a (.ins C dx fs) from hok a _ e);exact ⟨mA,⟨ob,n,ne⟩,r,q,z,d⟩
end
structure Cq (K:Za) (C:Addr):Prop where
 pg:uM K C Str.empty=true
 hd:xD K C=true
 po:Bc K C=true
 sa:df K (.ref C) "__setattr__"=some (some (.builtin "object.__setattr__"))
theorem Cq.get {K:Za}{C:Addr}(c:Cq K C) (f:Str):uM K C f=true:=c.pg
def dI (K:Za) (C:Addr) (f:Str):Prop:=df K (.ref C) f=some none
theorem dI.taker {K:Za}{C:Addr}{f:Str}(n:dI K C f):PySem.W.takerIn K C f=some none:=by
 unfold PySem.W.takerIn;rw [show df K (.ref C) f=some none from n]
 rfl
structure GJ (K:Za) (C:Addr) (m:Str) (f:Addr):Prop where
 at_:df K (.ref C) m=some (some (.ref f))
 fn:xC K (.ref f)=true
 kp:iB K (.ref f)=true
section
variable {X:Cx}{J3:Zd}{σ:St}{H:Hp}{s:Shared}{a C dx:Addr}{fs:List (Str×V)}{f:Str}{v:V}{A:Around}{E:Zc}
theorem Az {b:Bool}{Q:Zc}(I:Inv X J3 σ H s) (e:H a=some (.ins C dx fs)) (c:Cq X.K C) (n:dI X.K C f) (l:fs.lookup f=some v)
  (h:∀u s',Inv X J3 σ H s'->RelV v u->Q u s'):wpAny (model X.prog X.w) A (getAttr (.ref a) f b) Q E s:=by
 obtain ⟨mA,O,r,_,_,_⟩:=rC I.hok e;obtain ⟨u,hu,ru⟩:=kI.some_of (v:=v) (o:=mA f) (by rw [<-l]; exact r f);exact Gs I.kIn O (c.get f) c.hd n hu (Db ru) (h u _ (I.tok _) ru)
theorem tz {m:Str}{g:Addr}{pl:Sem Bool}{Q:Value×List Value->Shared->Prop}(I:Inv X J3 σ H s) (e:H a=some (.ins C dx fs)) (c:Cq X.K C) (k:GJ X.K C m g) (l:fs.lookup m=none)
  (h:Q (.ref g,[.ref a]) s):wpAny (model X.prog X.w) A (qr (.ref a) m pl) Q E s:=by
 obtain ⟨mA,O,r,_,_,_⟩:=rC I.hok e;have hn:mA m=none:=kI.none_of (by rw [<-l]; exact r m);exact ER I.kIn O (c.get m) k.at_ k.fn hn h
theorem z0 {y:V}{u:Value}{Q:Unit->Shared->Prop}(I:Inv X J3 σ H s) (e:H a=some (.ins C dx fs)) (c:Cq X.K C) (n:dI X.K C f) (hl:fs.length<1000) (ry:RelV y u)
  (h:∀s',Inv X J3 σ (upd H a (.ins C dx (cE f y fs))) s'->Q () s'):wpAny (model X.prog X.w) A (setAttr (.ref a) f u) Q E s:=by
 obtain ⟨mA,O,r,wi,_,ho⟩:=rC I.hok e;have hz:(fs.map (·.1)).length<=ai:=by rw [aj,ky]; omega
 refine FN I.kIn O c.sa c.po n.taker c.hd wi hz fun h' O' sb=>h _ ?_;have hd:∃o,h'.get? dx=some o:=let ⟨o,_,_,e',_⟩:=O'.ns; ⟨o,e'⟩;refine I.write (x:=a) (e:=dx) (by rw [e]; exact iZ) (.inr ho) (fun b q hb z=>(sb.2 b hb).trans z) hd ?_;refine ⟨by rw [af O.ne]; exact ho,?_,O.ne,O'.obj,_,O'.ns,fun g=>?_,fun g hg=>?_⟩
 ·have:=qG f y fs; omega
 ·show kI ((cE f y fs).lookup g) (if g=f then some u else mA g)
  rw [eF];by_cases q:g=f
  ·rw [if_pos q,if_pos q]; exact ry
  ·rw [if_neg q,if_neg q]; exact r g
 ·by_cases q:g=f
  ·rw [q]; exact (p6 f y fs).1
  ·refine (p6 f y fs).2 g (wi g fun z=>hg ?_);show (if g=f then some u else mA g)=none
   rw [if_neg q]; exact z
theorem Inv.made (I:Inv X J3 σ H s):Inv X J3 σ (upd (upd H s.heap.objs.size (.own (s.heap.objs.size+1))) (s.heap.objs.size+1) (.ins C s.heap.objs.size []))
  { s with heap:=(s.heap.push nU).push (qy C s.heap.objs.size) }:=by
 have e1:(s.heap.push nU).get? s.heap.objs.size=some nU:=cF s.heap rfl;have e2:((s.heap.push nU).push (qy C s.heap.objs.size)).get? (s.heap.objs.size+1)=some (qy C s.heap.objs.size):=by
  have:=cF (s.heap.push nU) (o:=qy C s.heap.objs.size) rfl;rwa [nT] at this
 have e3:(s.heap.push nU).Ns s.heap.objs.size (fun _=>none):=⟨nU,#[],_,e1,rfl,(fun e he=>absurd he (by simp)),fun _=>rfl⟩;have I1:=I.laid (a:=s.heap.objs.size) (o:=.own (s.heap.objs.size+1)) (h':=s.heap.push nU) (t':=s.toks) (fun b u q=>bq _ q) (aG _) ⟨_,e1⟩;refine I1.laid (a:=s.heap.objs.size+1) (o:=.ins C s.heap.objs.size []) (t':=s.toks) (fun b u q=>bq _ q) (Nat.le_of_eq (nT _ _)) ?_;have ne:s.heap.objs.size≠s.heap.objs.size+1:=cV (Nat.lt_succ_self _);refine ⟨by rw [af ne,aa],c9 _,ne,e2,fun _=>none,(Heap.Ns1.of_empty e3).at fun o q=>bq _ q,fun _=>iZ,fun y hy=>absurd rfl hy⟩
theorem GB {prog:bR}{w:World}{env:Env}{e:Expr}{f:Str}{pos:Pos}{s:Shared}{Q:Zc}(hb:rG e f env (eval e env)=eval e env)
  (h:wpAny (model prog w) A (eval e env) (fun o s₁=>wpAny (model prog w) A (getAttr o f true) Q E s₁) E s):wpAny (model prog w) A (eval (.Attribute e f pos) env) Q E s :=
 Attribute_any_ h (by rw [arm_eval_Attribute,hb])
end
def fO (K:Za) (ta:TE) (f:Str):TE:=fun σ H Q=>ta σ H fun x H1=>∃a C dx fs v,x=.ref a/\H1 a=some (.ins C dx fs)/\Cq K C/\dI K C f/\fs.lookup f=some v/\Q v H1
def ox (K:Za) (ta tv:TE) (f:Str):TS:=fun D σ H=>tv σ H fun y H1=>ta σ H1 fun x H2=>∃a C dx fs,x=.ref a/\H2 a=some (.ins C dx fs)/\Cq K C/\dI K C f/\fs.length<1000 /\
 D.nx σ (upd H2 a (.ins C dx (cE f y fs)))
section
variable {X:Cx}{o e value:Expr}{f:Str}{pos pos' J7:Pos}{ta tv:TE}
theorem b9 (he:PE X e ta) (hb:rG e f X.env (eval e X.env)=eval e X.env):PE X (.Attribute e f pos) (fO X.K ta f):=by
 intro J3 s σ H Q I h;refine GB hb (cB (he J3 s σ H _ I h) fun u s1 ⟨x,H1,I1,rx,a,C,dx,fs,v,ex,ea,c,n,l,q⟩=>?_);subst ex;obtain rfl:u=Value.ref a:=rx;exact Az I1 ea c n l fun u' s2 I2 ru=>⟨v,H1,I2,ru,q⟩
theorem gA (ha:PE X o ta) (hv:PE X value tv) (hs:qv value (some (.Attribute o f pos')) pos.line X.env=pure false):PS X (.Assign [.Attribute o f pos'] value pos) (ox X.K ta tv f):=by
 intro J3 s σ H D I h;refine plainObj_wpAny_Assign_Attribute (cB (hv J3 s σ H _ I h) fun u s1 ⟨y,H1,I1,ry,q⟩=>cB (ha J3 s1 σ H1 _ I1 q) fun ov s2 ⟨x,H2,I2,rx,a,C,dx,fs,ex,ea,c,n,l,q2⟩=>?_) hs;subst ex;obtain rfl:ov=Value.ref a:=rx;exact z0 I2 ea c n l ry fun s3 I3=>⟨σ,_,I3,q2⟩
end
section
variable {X:Cx}{J3:Zd}{σ:St}{H:Hp}{s:Shared}{A:Around}{E:Zc}{Q:Zc}{c:Value}{b:Bool}
inductive gG (K:Za) (H:Hp):V->Value->Prop where
 | non:gG K H .non (.type "NoneType")
 | bl (x:Bool):gG K H (.bl x) (.type "bool")
 | int (i:Int):gG K H (.int i) (.type "int")
 | str (x:Str):gG K H (.str x) (.type "str")
 | flt (x:UInt64):gG K H (.flt x) (.type "float")
 | lst {a:Addr}{xs:List V}(e:H a=some (.lst xs)):gG K H (.ref a) (.type "list")
 | frz {a:Addr}{o:Obj}{xs:List V}(e:H a=some (.frz o (.lst xs))):gG K H (.ref a) (.type "list")
 | tup {a:Addr}{xs:List V}(e:H a=some (.tup xs)):gG K H (.ref a) (.type "tuple")
 | dK {a:Addr}{kvs:List (d_×V)}(e:H a=some (.dK kvs)):gG K H (.ref a) (.type "dict")
 | dT {a:Addr}{kvs:List (TK×V)}(e:H a=some (.dT kvs)):gG K H (.ref a) (.type "dict")
 | ins {a C dx:Addr}{fs:List (Str×V)}(e:H a=some (.ins C dx fs)) (cl:Cq K C) (ha:df K (.ref C) "__class__"=some (some (.builtin "object.__class__")))
   (hn:PySem.W.specialIn K (.builtin "object.__class__") "__get__"=some (some (.builtin "getset_descriptor.__get__"))) (htk:PySem.W.takesIn K (.builtin "object.__class__")=some true)
   (hm:PySem.W.mroIn K C (.type "object")=some true):gG K H (.ref a) (.ref C)
theorem C5 {x:V}{u t:Value}(I:Inv X J3 σ H s) (rx:RelV x u) (ty:gG X.K H x t) (e:nS X.K t c=some b) (h:∀tk,Q (.bool b) { s with toks:=tk }) :
  wpAny (model X.prog X.w) A (call (.builtin "isinstance") [u,c]) Q E s:=by
 cases ty with
 | non=>cases (show u=Value.none from rx); exact jw PySem.W.kitx_none I.kIn iZ e (fun z=>nomatch z) h
 | bl y=>cases (show u=Value.bool y from rx); exact jw PySem.W.kitx_bool I.kIn iZ e (fun z=>nomatch z) h
 | int i=>obtain ⟨t,q⟩:=(show ∃t,u=Value.int i t from rx); cases q; exact jw PySem.W.kitx_int I.kIn iZ e (fun z=>nomatch z) h
 | str y=>obtain ⟨t,q⟩:=(show ∃t,u=Value.str y t from rx); cases q; exact jw PySem.W.kitx_str I.kIn iZ e (fun z=>nomatch z) h
 | flt y=>obtain ⟨t,q⟩:=(show ∃t,u=Value.float y t from rx); cases q; exact jw PySem.W.kitx_float I.kIn iZ e (fun z=>nomatch z) h
 | @lst a xs ea =>
  cases (show u=Value.ref a from rx);obtain ⟨_,_,n,_,h1⟩:=(show bV X.prog X.w X.K H s.heap a (.lst xs) from I.hok a _ ea);exact jw PySem.W.kitx_list I.kIn ⟨_,h1,rfl⟩ e (fun z=>nomatch z) h
 | @frz a ob xs ea =>
  cases (show u=Value.ref a from rx);obtain ⟨_,_,_,n,_,h1⟩:=(show bV X.prog X.w X.K H s.heap a (.frz ob (.lst xs)) from I.hok a _ ea);exact jw PySem.W.kitx_list I.kIn ⟨_,h1,rfl⟩ e (fun z=>nomatch z) h
 | @tup a xs ea =>
  cases (show u=Value.ref a from rx);obtain ⟨_,_,_,p⟩:=(show bV X.prog X.w X.K H s.heap a (.tup xs) from I.hok a _ ea);obtain ⟨o,h1,h2,_⟩:=p;exact jw PySem.W.kitx_tuple I.kIn ⟨o,h1,h2⟩ e (fun z=>nomatch z) h
 | @dK a kvs ea =>
  cases (show u=Value.ref a from rx);obtain ⟨_,_,vs,_,p⟩:=(show bV X.prog X.w X.K H s.heap a (.dK kvs) from I.hok a _ ea);obtain ⟨o,es,ep,h1,h2,_⟩:=p;exact jw PySem.W.kitx_dict I.kIn ⟨o,h1,h2.1⟩ e (fun z=>nomatch z) h
 | @dT a kvs ea =>
  cases (show u=Value.ref a from rx);obtain ⟨_,_,xs,_,o,es,ep,h1,h2,_⟩:=(show bV X.prog X.w X.K H s.heap a (.dT kvs) from I.hok a _ ea);exact jw PySem.W.kitx_dict I.kIn ⟨o,h1,h2.1⟩ e (fun z=>nomatch z) h
 | @ins a C dx fs ea cl ha hn htk hm =>
  cases (show u=Value.ref a from rx);obtain ⟨mA,O,_⟩:=rC I.hok ea;obtain ⟨od,J,_⟩:=O.look;exact jw (PySem.W.kitx_own (cl.get _) cl.hd ha hn htk hm) I.kIn J e (fun z=>nomatch z) h
end
end L2
namespace L2
open PySem PySem.Spec PyProof.Rows
structure eS (k:Nat) (A:Around):Prop where
 hd:A.handled=none
 dp:A.depth+3 * k+5<recursionLimit
 un:A.units+16 * k+200<cLine
theorem eS.mono {j k:Nat}{A:Around}(r:eS k A) (h:j<=k):eS j A:=⟨r.hd,by have:=r.dp; omega,by have:=r.un; omega⟩
theorem eS.deeper {k:Nat}{A:Around}(r:eS (k+1) A) (env:Env):eS k (A.deeper env) :=
 ⟨r.hd,by have:=r.dp; show A.depth+1+3 * k+5<_; omega,by have:=r.un; show A.units+3+16 * k+200<_; omega⟩
theorem Ar {A:Around}{C:Addr}{us:Zf}{kw:List (Str×Value)}:(A.under (.builtin "type.__call__" ⟨.ref C::us,kw⟩)).depth=A.depth+1:=by
 first | rfl | simp [Around.under,Code.weight,Code.isCreation,Code.isGuard,Code.isCaller,Code.frames,Code.isFrame,guardIds]
theorem Aq {A:Around}{C:Addr}{us:Zf}{kw:List (Str×Value)}:(A.under (.builtin "type.__call__" ⟨.ref C::us,kw⟩)).units=A.units+1:=by
 first | rfl | simp [Around.under,Code.cUnits,Code.frames,Code.isFrame]
theorem eS.make {k:Nat}{A:Around}(r:eS (k+1) A) (C:Addr) (us:Zf) (kw:List (Str×Value)):eS k (A.under (.builtin "type.__call__" ⟨.ref C::us,kw⟩)) :=
 ⟨r.hd,by have:=r.dp; rw [Ar]; omega,by have:=r.un; rw [Aq]; omega⟩
theorem eS.depth {k:Nat}{A:Around}(r:eS k A):A.depth<recursionLimit:=by have:=r.dp; omega
theorem eS.units {k:Nat}{A:Around}(r:eS k A):A.units+64<cLine:=by have:=r.un; omega
def be:TA:=fun _ H Q=>Q [] H
def au (ta:TE) (tr:TA):TA:=fun σ H Q=>ta σ H fun x H1=>tr σ H1 fun xs H2=>Q (x::xs) H2
abbrev aw (a:TE):TA:=au a be
abbrev aB (a b:TE):TA:=au a (au b be)
abbrev d9 (a b c:TE):TA:=au a (au b (au c be))
section
variable {X:Cx}{e:Expr}{es:List Expr}{te:TE}{t:TA}{pos:Pos}
theorem b_:PA X [] be:=fun _ _ _ _ H Q I h=>Calls.spliced_nil ⟨[],H,I,.nil,h⟩
theorem ck (ha:PE X e te) (hr:PA X es t) (hs:aN (e::es) X.env=(false,eval e X.env)::aN es X.env:=by rfl):PA X (e::es) (au te t):=by
 intro pos J3 s σ H Q I h;rw [hs];show wpAny _ _ (spliced ((false,eval e X.env)::backTo pos (aN es X.env))) _ _ s;refine Bb (cB (ha J3 s σ H _ I h) fun u s1 ⟨x,H1,I1,r1,q1⟩=>?_);exact cB (hr pos J3 s1 σ H1 _ I1 q1) fun us s2 ⟨xs,H2,I2,r2,q2⟩=>⟨x::xs,H2,I2,.cons r1 r2,q2⟩
def aZ (t:TA):TE:=fun σ H Q=>t σ H fun xs H1=>xs.length<=ai/\∀p,H1 p=none->Q (.ref p) (upd H1 p (.tup xs))
def dk (t:TA):TE:=fun σ H Q=>t σ H fun xs H1=>xs.length<=ai/\∀p,H1 p=none->Q (.ref p) (upd H1 p (.lst xs))
theorem aI {x1}(h:PA X es t):PE X (.Tuple es x1 pos) (aZ t):=by
 intro J3 s σ H Q I hq;refine wpAny_Tuple_spliced (cB (h pos J3 s σ H _ I hq) fun us s1 ⟨xs,H1,I1,r,z,q⟩=>⟨by rw [<-r.length]; exact z,?_⟩);have hf:H1 s1.heap.objs.size=none:=I1.hok.fresh (aG _);refine ⟨.ref s1.heap.objs.size,upd H1 s1.heap.objs.size (.tup xs),I1.laid (t':=s1.toks) (fun b u e=>bq _ e) (aG _) ?_,rfl,q _ hf⟩;exact ⟨z,us,r,⟨_,cF _ rfl,rfl,_,rfl⟩⟩
theorem bt (h:PA X es t):PE X (.List es pos) (dk t):=by
 intro J3 s σ H Q I hq;refine wpAny_List_spliced (cB (h pos J3 s σ H _ I hq) fun us s1 ⟨xs,H1,I1,r,z,q⟩=>⟨by rw [<-r.length]; exact z,?_⟩);have hf:H1 s1.heap.objs.size=none:=I1.hok.fresh (aG _);refine ⟨.ref s1.heap.objs.size,upd H1 s1.heap.objs.size (.lst xs),I1.laid (t':=s1.toks) (fun b u e=>bq _ e) (aG _) ?_,rfl,q _ hf⟩;exact ⟨z,us,0,r,cF _ rfl⟩
end
abbrev Sp:=List V->Hp->VK->XK->Prop
abbrev DA:=List Env->Hp->Shared->XK->Value->Shared->Prop
structure AY (P:bR) (w:World) (K:Za) (mg:Str->Option Value) (base:Heap) (A:Around) (outer:List Env) (s:Shared) (H:Hp):Prop where
 frames:A.frames=some outer
 mod:Mod K mg base
 bs:∀b o,base.get? b=some o->s.heap.get? b=some o/\H b=none
 bsz:base.objs.size<=s.heap.objs.size
 funs:s.heap.FunFrames base outer
 frf:∀b∈Dy outer,H b=none
 hok:lZ P w K H s.heap
 bare:nV s.gens
def CE (outer:List Env) (P:bR) (w:World) (K:Za) (H:Hp) (s:Shared) (Q:VK) (u:Value) (s':Shared):Prop :=
 ∃v H',s'.os=s.os/\nV s'.gens/\Un (Dy outer) [] H H' s.heap s'.heap/\lZ P w K H' s'.heap/\RelV v u/\Q v H'
def CR (CX:DA) (outer:List Env) (P:bR) (w:World) (K:Za) (H:Hp) (s:Shared) (Q:VK) (E:XK) (r:Result) (s':Shared):Prop :=
 match r with
 | .ok (.ret u)=>CE outer P w K H s Q u s'
 | .ok _=>False
 | .error e=>CX outer H s E e s'
structure lK (P:bR) (w:World) (K:Za) (mg:Str->Option Value) (base:Heap) (CX:DA) (k:Nat) (f:Addr) (fd:kq) (ps:Zb) (sp:Sp):Prop where
 len:∀vs H Q E,sp vs H Q E->vs.length=ps.length
 run:∀(A:Around) (outer:List Env) (s:Shared) (H:Hp) (args:Args) (us:Zf) (vs:List V) (Q:VK) (E:XK),eS k A->AY P w K mg base A outer s H->rF s fd args (ps.zip us)->bc vs us->sp vs H Q E ->
  zzl77 (model P w) A (.call (.ref f) args) (CR CX outer P w K H s Q E) s
theorem AY.make {P:bR}{w:World}{K:Za}{mg:Str->Option Value}{base:Heap}{A:Around}{outer:List Env}{s:Shared}{H:Hp}(e:AY P w K mg base A outer s H) (C:Addr) (us:Zf) (kw:List (Str×Value)) :
  AY P w K mg base (A.under (.builtin "type.__call__" ⟨.ref C::us,kw⟩)) outer s H:=⟨by first | exact e.frames | (simpa [Around.under,Code.envs,Code.isFrame,pushEnvs] using e.frames),e.mod,e.bs,e.bsz,e.funs,e.frf,e.hok,e.bare⟩
section
variable {X:Cx}{J3:Zd}{σ:St}{H:Hp}{s s':Shared}
theorem Inv.env0 (I:Inv X J3 σ H s):AY X.prog X.w X.K X.mg X.base X.A X.stack s H :=
 ⟨I.ok.frames,I.ok.mod,I.bs,bH I.ok.bsz I.sz,I.stack,I.stkFree,I.hok,I.bare⟩
theorem Inv.after {Q:VK}{u:Value}(I:Inv X J3 σ H s) (h:CE X.stack X.prog X.w X.K H s Q u s'):EP X J3 σ Q u s':=by
 obtain ⟨v,H',os,bare,un,hok,r,q⟩:=h;obtain ⟨hh,g,d,t,os'⟩:=s';obtain rfl:os'=s.os:=os;exact ⟨v,H',I.call (h':=hh) (g':=g) (d':=d) (t':=t) (ch:=[]) un hok bare (fun b z=>absurd z (by simp)),r,q⟩
end
def GP (sp:Sp) (dvs:List V) (E:XK) (t:TA):TE:=fun σ H Q=>t σ H fun vs H1=>sp (vs++dvs) H1 Q E
def dj (C:Addr) (m:Str) (sp:Sp) (dvs:List V) (E:XK) (ta:TE) (t:TA):TE:=fun σ H Q=>ta σ H fun x H1=>∃a dx fs,x=.ref a/\H1 a=some (.ins C dx fs)/\fs.lookup m=none /\
 t σ H1 fun vs H2=>sp (x::(vs++dvs)) H2 Q E
def xS (C:Addr) (sp:Sp) (dvs:List V) (E:XK) (t:TA):TE:=fun σ H Q=>t σ H fun vs H1=>∀x dx,H1 x=none->H1 dx=none->dx≠x ->
 sp (.ref x::(vs++dvs)) (upd (upd H1 dx (.own x)) x (.ins C dx [])) (fun v H2=>v=.non/\Q (.ref x) H2) E
def Binds (K:Za) (fd:kq) (ps:Zb) (ds:Zf):Prop :=
 ∀(s:Shared) (us:Zf),K.In s.heap->(us++ds).length=ps.length->rF s fd ⟨us,[]⟩ (ps.zip (us++ds))
theorem Binds.all {K:Za}{fd:kq}{ps:Zb}(h:∀us:List Value,us.length=ps.length->bindArgs fd ⟨us,[]⟩=pure (ps.zip us)):Binds K fd ps []:=fun s us _ hl=>by
 rw [fK] at hl ⊢;exact .of_eq (h us hl)
def nC (CX:DA) (X:Cx) (E:XK):Prop:=∀(J3:Zd) (σ:St) (H:Hp) (s:Shared) (e:Value) (s':Shared),Inv X J3 σ H s->CX X.stack H s E e s'->X.xe e s'
section
variable {X:Cx}{CX:DA}{k:Nat}{f C:Addr}{fd:kq}{ps:Zb}{sp:Sp}{dvs:List V}{ds:Zf}{E:XK}{x m:Str}{p pos J5:Pos}{e o:Expr}{es:List Expr}{ta:TE}{t:TA}
theorem z5 {J3:Zd}{σ:St}{H:Hp}{s:Shared}{Q:VK}{us:Zf}{vs:List V}(F:lK X.prog X.w X.K X.mg X.base CX k f fd ps sp) (hr:eS k X.A) (hb:Binds X.K fd ps ds) (hd:bc dvs ds) (hx:nC CX X E)
  (I:Inv X J3 σ H s) (r:bc vs us) (h:sp (vs++dvs) H Q E):wpAny (model X.prog X.w) X.A (call (.ref f) us) (EP X J3 σ Q) X.xe s:=by
 have r2:bc (vs++dvs) (us++ds):=r.append hd;have hl:(us++ds).length=ps.length:=by rw [<-r2.length]; exact F.len _ _ _ _ h
 refine wpAny_call (Ba (F.run X.A X.stack s H ⟨us,[]⟩ (us++ds) (vs++dvs) Q E hr I.env0 (hb s us I.kIn hl) r2 h) fun r s' hq=>?_);cases r with
 | error e=>exact hx J3 σ H s e s' I hq
 | ok fl =>
  cases fl with
  | ret u=>exact I.after hq
  | next=>exact jx hq
  | brk=>exact jx hq
  | cont=>exact jx hq
theorem Gh (F:lK X.prog X.w X.K X.mg X.base CX k f fd ps sp) (hr:eS k X.A) (hg:Gl X x) (hm:X.mg x=some (.ref f)) (hk:iB X.K (.ref f)=true) (hb:Binds X.K fd ps ds) (hd:bc dvs ds) (hx:nC CX X E)
  (ha:PA X (e::es) t) (hdb:(x == ("__debug__":Str))=false:=by decide) (he:aN (e::es) X.env=(false,eval e X.env)::aN es X.env:=by rfl) (hpl:(backTo pos (aN es X.env)).any (·.1)=false:=by rfl) :
  PE X (.Call (.Name x p) (e::es) [] pos) (GP sp dvs E t):=by
 intro J3 s σ H Q I h;refine A_ (wP I hg hm ?_ hdb);refine PySem.W.callWith_K (h₀:=X.base) I.ok.mod.kin hk (cB (ha pos J3 s σ H _ I h) fun us s1 ⟨vs,H1,I1,r,q⟩=>⟨I1.kIn,?_⟩) he hpl;exact z5 F hr hb hd hx I1 r q
theorem Gd {pl:Sem Bool}(he:PE X o ta) (c:Cq X.K C) (hm:GJ X.K C m f) (F:lK X.prog X.w X.K X.mg X.base CX k f fd ps sp) (hr:eS k X.A) (hb:Binds X.K fd ps ds) (hd:bc dvs ds) (hx:nC CX X E) (ha:PA X (e::es) t)
  (hst:aN (e::es) X.env=(false,eval e X.env)::aN es X.env:=by rfl) (hpl:(backTo pos (aN es X.env)).any (·.1)=false:=by rfl)
  (ht:eval (.Call (.Attribute o m J5) (e::es) [] pos) X.env=(do
   let ov <- eval o X.env
   qw J5.atName
   let (f,first) <- kL [ov] (qr ov m pl)
   uL pos f first (backTo pos (aN (e::es) X.env)) (nR pos (nQ [] X.env))):=by rfl) :
  PE X (.Call (.Attribute o m J5) (e::es) [] pos) (dj C m sp dvs E ta t):=by
 intro J3 s σ H Q I h;refine PySem.W.methodCall_KW (pl:=pl) (cB (he J3 s σ H _ I h) fun u s1 ⟨x,H1,I1,rx,a,dx,fs,ex,ea,l,q⟩=>?_) ht;subst ex;obtain rfl:u=Value.ref a:=rx;refine tz I1 ea c hm l ?_;refine PySem.W.callWith_K (first:=[.ref a]) (h₀:=X.base) I.ok.mod.kin hm.kp (cB (ha pos J3 s1 σ H1 _ I1 q) fun us s2 ⟨vs,H2,I2,r,q2⟩=>⟨I2.kIn,?_⟩) hst hpl
 exact z5 (us:=.ref a::us) (vs:=.ref a::vs) F hr hb hd hx I2 (.cons rfl r) q2
theorem Et {pl:Sem Bool}(he:PE X o ta) (c:Cq X.K C) (hm:GJ X.K C m f) (F:lK X.prog X.w X.K X.mg X.base CX k f fd ps sp) (hr:eS k X.A) (hb:Binds X.K fd ps ds) (hd:bc dvs ds) (hx:nC CX X E)
  (ht:eval (.Call (.Attribute o m J5) [] [] pos) X.env=(do
   let ov <- eval o X.env
   qw J5.atName
   let (f,first) <- kL [ov] (qr ov m pl)
   uL pos f first (backTo pos (aN [] X.env)) (nR pos (nQ [] X.env))):=by rfl) :
  PE X (.Call (.Attribute o m J5) [] [] pos) (dj C m sp dvs E ta be):=by
 intro J3 s σ H Q I h;refine PySem.W.methodCall_KW (pl:=pl) (cB (he J3 s σ H _ I h) fun u s1 ⟨x,H1,I1,rx,a,dx,fs,ex,ea,l,q⟩=>?_) ht;subst ex;obtain rfl:u=Value.ref a:=rx;refine tz I1 ea c hm l ?_;exact PySem.W.callWith_K0 (first:=[.ref a]) I1.kIn hm.kp (z5 (us:=[.ref a]) (vs:=[.ref a]) F hr hb hd hx I1 (.cons rfl .nil) q)
structure Mk (K:Za) (C f:Addr):Prop where
 makes:rH K C=true
 init:df K (.ref C) "__init__"=some (some (.ref f))
 fn:xC K (.ref f)=true
 kp:iB K (.ref C)=true
theorem DU {J3:Zd}{σ:St}{H:Hp}{s:Shared}{Q:VK}{us:Zf}{vs:List V}(M:Mk X.K C f) (F:lK X.prog X.w X.K X.mg X.base CX k f fd ps sp) (hr:eS (k+1) X.A) (hb:Binds X.K fd ps ds) (hd:bc dvs ds)
  (hx:nC CX X E) (I:Inv X J3 σ H s) (r:bc vs us)
  (h:∀x dx,H x=none->H dx=none->dx≠x->sp (.ref x::(vs++dvs)) (upd (upd H dx (.own x)) x (.ins C dx [])) (fun v H2=>v=.non/\Q (.ref x) H2) E) :
  wpAny (model X.prog X.w) X.A (call (.ref C) us) (EP X J3 σ Q) X.xe s:=by
 have hq:=h (s.heap.objs.size+1) s.heap.objs.size (I.hok.fresh (mw _)) (I.hok.fresh (aG _)) (cV (Nat.lt_succ_self _));have I2:=Inv.made (C:=C) I;have r2:bc (V.ref (s.heap.objs.size+1)::(vs++dvs)) (Value.ref (s.heap.objs.size+1)::(us++ds)):=.cons rfl (r.append hd);have hl:(Value.ref (s.heap.objs.size+1)::us++ds).length=ps.length:=by
  have e:=r2.length;rw [F.len _ _ _ _ hq] at e;exact e.symm
 refine wpAny_call (EF (f:=f) I.kIn M.makes M.init (beq_iff_eq.mp M.fn) (Ba (F.run _ X.stack _ _ ⟨Value.ref (s.heap.objs.size+1)::us,[]⟩ (Value.ref (s.heap.objs.size+1)::(us++ds)) _ _ E (hr.make C us [])
  (I2.env0.make C us []) (hb _ (Value.ref (s.heap.objs.size+1)::us) I2.kIn hl) r2 hq) fun r s' hq'=>?_))
 cases r with
 | error e=>exact hx J3 σ _ _ e s' I2 hq'
 | ok fl =>
  cases fl with
  | ret u =>
   obtain ⟨v,H',I3,rv,ev,q3⟩:=I2.after hq';subst ev;exact ⟨rv,⟨V.ref (s.heap.objs.size+1),H',I3,rfl,q3⟩⟩
  | next=>exact jx hq'
  | brk=>exact jx hq'
  | cont=>exact jx hq'
theorem Ge (M:Mk X.K C f) (F:lK X.prog X.w X.K X.mg X.base CX k f fd ps sp) (hr:eS (k+1) X.A) (hg:Gl X x) (hm:X.mg x=some (.ref C)) (hb:Binds X.K fd ps ds) (hd:bc dvs ds) (hx:nC CX X E)
  (ha:PA X (e::es) t) (hdb:(x == ("__debug__":Str))=false:=by decide) (he:aN (e::es) X.env=(false,eval e X.env)::aN es X.env:=by rfl) (hpl:(backTo pos (aN es X.env)).any (·.1)=false:=by rfl) :
  PE X (.Call (.Name x p) (e::es) [] pos) (xS C sp dvs E t):=by
 intro J3 s σ H Q I h;refine A_ (wP I hg hm ?_ hdb);refine PySem.W.callWith_K (h₀:=X.base) I.ok.mod.kin M.kp (cB (ha pos J3 s σ H _ I h) fun us s1 ⟨vs,H1,I1,r,q⟩=>⟨I1.kIn,?_⟩) he hpl;exact DU M F hr hb hd hx I1 r q
end
structure j9 (N P:Zb) (sc:Scope):Prop where
 kind:sc.kind=.function
 co:sc.isCoroutine=false
 gen:sc.isGenerator=false
 nd:N.Nodup
 pre:N.take P.length=P
 par:∀x∈P,sc.names.lookup x=some .local∨sc.names.lookup x=some .cell
 nofree:∀y∈sc.names,y.2≠.free
theorem vv {kindOf:Str->Option jv}{x:Str}:∀{binds:List (Str×Value)}{m:Str->Option Value},(∀v,(x,v)∉binds)->bindL kindOf binds m x=m x
 | [],_,_=>rfl
 | (n,v)::r,m,h=>by
  unfold bindL;rw [vv fun w hw=>h w (fb _ hw)];split
  ·have:x≠n:=by rintro rfl; exact h v eg
   simp [this]
  ·rfl
theorem vx {kindOf:Str->Option jv}{x:Str}:∀{binds:List (Str×Value)}{m:Str->Option Value},(∀v,(x,v)∉binds)->bindC kindOf binds m x=m x
 | [],_,_=>rfl
 | (n,v)::r,m,h=>by
  unfold bindC;rw [vx fun w hw=>h w (fb _ hw)];split
  ·rfl
  ·have:x≠n:=by rintro rfl; exact h v eg
   simp [this]
theorem vw {kindOf:Str->Option jv}{x:Str}{v:Value}:∀{P:Zb}{vs:Zf}{i:Nat}{m:Str->Option Value},P.Nodup->P[i]?=some x->vs[i]?=some v->kindOf x=some .local ->
  bindL kindOf (P.zip vs) m x=some v
 | [],_,_,_,_,h,_,_=>by simp at h
 | _::_,[],_,_,_,_,h,_=>by simp at h
 | p::P,w::vs,0,m,nd,h1,h2,hk=>by
  simp at h1 h2; subst h1; subst h2;show bindL kindOf ((p,w)::P.zip vs) m p=_;unfold bindL;rw [vv fun v hv=>(mv.mp nd).1 (List.of_mem_zip hv).1,if_pos hk];simp
 | p::P,w::vs,i+1,m,nd,h1,h2,hk=>by
  show bindL kindOf ((p,w)::P.zip vs) m x=_;unfold bindL;exact vw (i:=i) (mv.mp nd).2 (by simpa using h1) (by simpa using h2) hk
theorem vy {kindOf:Str->Option jv}{x:Str}{v:Value}:∀{P:Zb}{vs:Zf}{i:Nat}{m:Str->Option Value},P.Nodup->P[i]?=some x->vs[i]?=some v->kindOf x≠some .local ->
  bindC kindOf (P.zip vs) m x=some v
 | [],_,_,_,_,h,_,_=>by simp at h
 | _::_,[],_,_,_,_,h,_=>by simp at h
 | p::P,w::vs,0,m,nd,h1,h2,hk=>by
  simp at h1 h2; subst h1; subst h2;show bindC kindOf ((p,w)::P.zip vs) m p=_;unfold bindC;rw [vx fun v hv=>(mv.mp nd).1 (List.of_mem_zip hv).1,if_neg hk];simp
 | p::P,w::vs,i+1,m,nd,h1,h2,hk=>by
  show bindC kindOf ((p,w)::P.zip vs) m x=_;unfold bindC;exact vy (i:=i) (mv.mp nd).2 (by simpa using h1) (by simpa using h2) hk
def start (N:Zb) (vs:List V):St:=vs.map some++List.replicate (N.length-vs.length) none
def AF (CX:DA) (P:bR) (w:World) (K:Za) (mg:Str->Option Value) (base:Heap) (N:Zb) (qual:Str) (scope:Scope) (f:Addr) (cd:Value) (A:Around) (outer:List Env) (s:Shared) (H:Hp) (E:XK):Cx where
 prog:=P
 w:=w
 K:=K
 mg:=mg
 base:=base
 A:=A.deeper (envOfC qual scope s.heap.objs.size f cd)
 N:=N
 s₀:=s
 H₀:=H
 env:=envOfC qual scope s.heap.objs.size f cd
 outer:=outer
 stack:=envOfC qual scope s.heap.objs.size f cd::outer
 ex:=[]
 calm:=true
 fn:=fun _=>true
 pn:=[]
 xe:=fun e s'=>wpAny (model P w) (A.deeper (envOfC qual scope s.heap.objs.size f cd)) (leaving (envOfC qual scope s.heap.objs.size f cd) e) (fun _ s''=>CX outer H s E e s'') (fun e' s''=>CX outer H s E e' s'') s'
theorem y8 {sc:Scope}{n:Nat}{x:Str}(h:sc.names.lookup x=some .cell):∃c,(cellsFrom n sc.names []).lookup x=some c:=by
 have q:=PySem.W.cellsFrom_some sc.names n [] (.inl h);exact A0.mp q
theorem C8 {CX:DA}{P:bR}{w:World}{K:Za}{mg:Str->Option Value}{base:Heap}{N ps:Zb}{qual:Str}{scope:Scope}{f:Addr}{cd:Value}{A:Around}{outer:List Env}{s s1:Shared}{H:Hp}{E:XK}{us:Zf}{vs:List V}
  (S:j9 N ps scope) (hd:A.handled=none) (e0:AY P w K mg base A outer s H) (hl:vs.length=ps.length) (r:bc vs us)
  (x:InCallC s s.heap.objs.size (bindL (envOfC qual scope s.heap.objs.size f cd).kindOf (ps.zip us) fun _=>none) (cellsFrom (s.heap.objs.size+1) scope.names []) (bindC (envOfC qual scope s.heap.objs.size f cd).kindOf (ps.zip us) fun _=>none) s1) :
  Inv (AF CX P w K mg base N qual scope f cd A outer s H E) [] (start N vs) H s1:=by
 have hpl:ps.length<=N.length:=by have:=congrArg List.length S.pre; rw [aK] at this; omega
 obtain ⟨h1,tk,rfl,hk⟩:=x.done;have noA:∀b:Addr,b∉(AF CX P w K mg base N qual scope f cd A outer s H E).ex:=fun b z=>absurd (show b∈([]:Ze) from z) (by simp);refine ⟨⟨e0.mod,S.kind,rfl,rfl,aG _,fun y z c h1 h2=>?_,fun y hy=>?_,fun y c _ h=>?_,fun _=>hd,Around.frames_deeper e0.frames,.inr ⟨rfl,rfl⟩,fun b z=>absurd z (noA b),e0.bs,e0.bsz,fun b _ _=>noA b,fun b z=>absurd z (noA b),e0.funs,e0.frf⟩,
  rfl,e0.bare,Un.kept hk,⟨_,x.toInCall.ns,fun i y v h1 h2 h3=>?_⟩,fun y c h=>⟨_,x.cell y c h⟩,e0.hok.fresh (aG _),fun y c h=>?_,fun p hp=>absurd (show p∈([]:Zd) from hp) (by simp),e0.hok.kept hk,?_⟩
 ·exact name_of_addr x.apart (sm h1) (sm h2)
 ·have hy:scope.names.lookup y=some .cell∨scope.names.lookup y=some .free:=hy;rcases hy with hy | hy
  ·exact y8 hy
  ·exact absurd rfl (S.nofree _ (sm hy))
 ·exact em (x.above y c (sm h))
 ·have hi:i<vs.length:=by
   unfold start at h2;by_cases hi:i<vs.length
   ·exact hi
   ·rw [mP (by simpa using hi)] at h2;rw [List.getElem?_replicate] at h2;split at h2 <;> cases h2
  have ha:vs[i]?=some v:=by
   unfold start at h2;rw [eX (by simpa using hi),b0] at h2;cases e:vs[i]? with
   | none=>rw [e] at h2; cases h2
   | some a=>rw [e] at h2; cases h2; rfl
  obtain ⟨u,hu,rv⟩:=r.get ha;have hp:ps[i]?=some y:=by
   rw [<-S.pre,List.getElem?_take_of_lt (by omega)]; exact h1
  have ndP:ps.Nodup:=by rw [<-S.pre]; exact S.nd.sublist (List.take_sublist _ _)
  refine ⟨u,rv,?_⟩;rcases S.par y (bd hp) with k | k
  ·exact .inl ⟨k,vw ndP hp hu k⟩
  ·obtain ⟨c,e⟩:=y8 (n:=s.heap.objs.size+1) k;refine .inr ⟨.inl k,c,e,?_⟩;have q:=x.cell y c e;rw [vy ndP hp hu (by show scope.names.lookup y≠_; rw [k]; decide)] at q;exact q
 ·exact e0.hok.fresh (em (x.above y c (sm h)))
 ·unfold start;show _=N.length;rw [aM,aj,List.length_replicate];omega
theorem HP {CX:DA}{P:bR}{w:World}{K:Za}{mg:Str->Option Value}{base:Heap}{k:Nat}{f:Addr}{name qual:Str}{params:Arguments}{body:List Stmt}{scope:Scope}{dV kV doc pm cdv ct oc:Value}{an od:Option Addr}
  {osl:Array (Option Value)}{N ps:Zb}{sp:Sp}(lk:K.lookup f=some ⟨oc,od,.func (iH name qual params body scope dV kV doc pm an cdv ct),osl⟩) (hcd:mO K cdv qual=true) (S:j9 N ps scope)
  (len:∀vs H Q E,sp vs H Q E->vs.length=ps.length)
  (hbody:∀(A:Around) (outer:List Env) (s:Shared) (H:Hp) (vs:List V) (Q:VK) (E:XK),eS k (A.deeper (envOfC qual scope s.heap.objs.size f cdv))->sp vs H Q E ->
   ∃t,zD (AF CX P w K mg base N qual scope f cdv A outer s H E) body t/\t (bC Q) (start N vs) H) :
  lK P w K mg base CX (k+1) f (iH name qual params body scope dV kV doc pm an cdv ct) ps sp:=by
 refine ⟨len,fun A outer s H args us vs Q E hr e0 hb r hsp=>?_⟩;have hl:=len _ _ _ _ hsp;have KX:K.In s.heap:=e0.mod.kin.keeps fun b o e=>(e0.bs b o e).1;have lim:s.heap.NoLimit:=e0.mod.nolimit.keeps fun b o e=>(e0.bs b o e).1;have hkind:∀y∈ps.zip us,scope.names.lookup y.1=some .local∨(scope.names.lookup y.1=some .cell/\((cellsFrom (s.heap.objs.size+1) scope.names []).lookup y.1).isSome=true):=fun ⟨n,v⟩ hy=>by
  rcases S.par n (List.of_mem_zip hy).1 with q | q
  ·exact .inl q
  ·exact .inr ⟨q,PySem.W.cellsFrom_some _ _ _ (.inl q)⟩
 refine codeAny_call_function hr.depth (KX _ _ lk) rfl S.co S.gen rfl (PySem.W.codeRec_of KX hcd) (hb _ _ _ _ ?_);refine wpAny_newFunctionEnv_cells S.kind hkind fun env he s1 x=>?_;subst he;refine ⟨lim.keeps x.toInCall.keep,codeAny_func ?_⟩;obtain ⟨t,ht,hq⟩:=hbody A outer s H vs Q E (hr.deeper _) hsp;have I:Inv (AF CX P w K mg base N qual scope f cdv A outer s H E) [] (start N vs) H s1:=C8 S hr.hd e0 hl r x;refine jy (ht [] s1 (start N vs) H _ I hq) (fun fl s' hs=>?_) fun e s' hs=>hs;have fin:∀{σ':St}{H':Hp}{v:V}{u:Value},Inv (AF CX P w K mg base N qual scope f cdv A outer s H E) [] σ' H' s'->RelV v u->Q v H'->CE outer P w K H s Q u s' :=
  fun {σ' H' v u} J rv q=>⟨v,H',J.os,J.bare,J.base,J.hok,rv,q⟩
 cases fl with
 | ret u =>
  obtain ⟨v,σ',H',J,rv,q⟩:=hs;exact fin J rv q
 | next =>
  obtain ⟨σ',H',J,q⟩:=hs;exact fin (v:=V.non) (u:=Value.none) J rfl q
 | brk =>
  obtain ⟨_,_,_,q⟩:=hs;exact jx q
 | cont =>
  obtain ⟨_,_,_,q⟩:=hs;exact jx q
end L2
namespace L2
open PySem PySem.Spec PyProof.Rows
section
variable {X:Cx}{x:Str}{p pos:Pos}{e:Expr}{es:List Expr}{t:TA}{id T:String}{r:List V->Hp->VK->Prop}
def cG (r:List V->Hp->VK->Prop) (t:TA):TE:=fun σ H Q=>t σ H fun vs H1=>r vs H1 Q
theorem yr (hc:gb X (.builtin id) r) (hg:Gl X x) (hm:X.mg x=none) (hv:i0 x=some (.builtin id)) (ha:PA X (e::es) t) (hn:x≠"__name__":=by decide) (hdb:(x == ("__debug__":Str))=false:=by decide)
  (he:aN (e::es) X.env=(false,eval e X.env)::aN es X.env:=by rfl) (hpl:(backTo pos (aN es X.env)).any (·.1)=false:=by rfl):PE X (.Call (.Name x p) (e::es) [] pos) (cG r t):=by
 intro J3 s σ H Q I h;refine A_ (p5 I hg hm hv ?_ hn hdb);exact PyProof.Rows.callWith_builtin1 (cB (ha pos J3 s σ H _ I h) fun us s1 ⟨vs,H1,I1,r1,q1⟩=>hc J3 s1 σ H1 vs us Q I1 r1 q1) he hpl
theorem ix (hc:gb X (.type T) r) (hg:Gl X x) (hm:X.mg x=none) (hv:i0 x=some (.type T)) (ha:PA X (e::es) t) (hn:x≠"__name__":=by decide) (hdb:(x == ("__debug__":Str))=false:=by decide)
  (he:aN (e::es) X.env=(false,eval e X.env)::aN es X.env:=by rfl) (hpl:(backTo pos (aN es X.env)).any (·.1)=false:=by rfl):PE X (.Call (.Name x p) (e::es) [] pos) (cG r t):=by
 intro J3 s σ H Q I h;refine A_ (p5 I hg hm hv ?_ hn hdb);exact Be (cB (ha pos J3 s σ H _ I h) fun us s1 ⟨vs,H1,I1,r1,q1⟩=>hc J3 s1 σ H1 vs us Q I1 r1 q1) he hpl
end
end L2
namespace HT
open PySem PyProof.Rows
section
variable {prog:bR}{w:World}{A:Around}{E:Zc}{s:Shared}
def sIx (n d:Nat):Option Int->Nat
 | none=>d
 | some v=>if v<0 then (v+(n:Int)).toNat else min v.toNat n
theorem sIx_none (n d:Nat):sIx n d none=d:=rfl
theorem sIx_nat (n d k:Nat):sIx n d (some (k:Int))=min k n:=by
 show (if (k:Int)<0 then ((k:Int)+(n:Int)).toNat else min (k:Int).toNat n)=min k n
 rw [if_neg (by omega),jl]
theorem sIx_le (n d:Nat) (hd:d<=n) (o:Option Int):sIx n d o<=n:=by
 cases o with
 | none=>exact hd
 | some v =>
  show (if v<0 then (v+(n:Int)).toNat else min v.toNat n)<=n
  by_cases hv:v<0
  ·rw [if_pos hv]; omega
  ·rw [if_neg hv]; exact Nat.min_le_right _ _
theorem clip_eq (v:Int) (n d:Nat):(if v<0 then max (v+(n:Int)) 0 else min v (n:Int))=((sIx n d (some v):Nat):Int):=by
 show (if v<0 then max (v+(n:Int)) 0 else min v (n:Int))=(((if v<0 then (v+(n:Int)).toNat else min v.toNat n):Nat):Int)
 by_cases hv:v<0
 ·simp only [if_pos hv]; omega
 ·simp only [if_neg hv]; omega
end
end HT
namespace L2
open PySem PySem.Spec PyProof.Rows
abbrev TO:=St->Hp->(Option Int->Hp->Prop)->Prop
def PO (X:Cx) (e:Option Expr) (t:TO):Prop :=
 ∀(J3:Zd) (s:Shared) (σ:St) (H:Hp) (Q:Option Int->Hp->Prop),Inv X J3 σ H s->t σ H Q ->
  wpAny (model X.prog X.w) X.A (evalPart e X.env) (fun u s'=>∃o H',Inv X J3 σ H' s'/\IsPart u o/\Q o H') X.xe s
def eN:TO:=fun _ H Q=>Q none H
def fN (t:TE):TO:=fun σ H Q=>t σ H fun x H1=>∃i,x=.int i/\Q (some i) H1
section
variable {X:Cx}{e:Expr}{te:TE}{lo hi:Option Expr}{tl th:TO}{pos p2:Pos}
theorem fq:PO X none eN:=by
 intro J3 s σ H Q I h;rw [evalPart_none];exact aH ⟨none,H,I,.none,h⟩
theorem cO (h:PE X e te):PO X (some e) (fN te):=by
 intro J3 s σ H Q I hw;rw [evalPart_some];refine cB (h J3 s σ H _ I hw) fun u s1 ⟨x,H1,I1,r1,q1⟩=>?_;obtain ⟨i,rfl,q⟩:=q1;obtain ⟨t,rfl⟩:=r1;exact ⟨some i,H1,I1,.int i t,q⟩
def SlR (X:Cx) (r:V->Option Int->Option Int->Hp->VK->Prop):Prop :=
 ∀(J3:Zd) (s:Shared) (σ:St) (H:Hp) (x:V) (v vl vu:Value) (lo hi:Option Int) (sl:Addr) (Q:VK),Inv X J3 σ H s->RelV x v->s.heap.IsSliceOf sl vl vu .none->IsPart vl lo->IsPart vu hi->r x lo hi H Q ->
  ∃T id,typeLookup (.type T) "__getitem__"=pure (some (.builtin id))/\s.TypeIs v T/\wpAny (model X.prog X.w) X.A (mN v (.ref sl)) (EP X J3 σ Q) X.xe s
def zA (r:V->Option Int->Option Int->Hp->VK->Prop) (te:TE) (tl th:TO):TE:=fun σ H Q=>te σ H fun x H1=>tl σ H1 fun l H2=>th σ H2 fun u H3=>r x l u H3 Q
theorem cL {r:V->Option Int->Option Int->Hp->VK->Prop}(hr:SlR X r) (he:PE X e te) (hl:PO X lo tl) (hu:PO X hi th):PE X (.Subscript e (.Slice lo hi none p2) pos) (zA r te tl th):=by
 intro J3 s σ H Q I h;refine Subscript_ (cB (he J3 s σ H _ I h) fun v s1 ⟨x,H1,I1,r1,q1⟩=>?_);refine wpAny_Slice (cB (hl J3 s1 σ H1 _ I1 q1) fun vl s2 ⟨l,H2,I2,pl,q2⟩=>cB (hu J3 s2 σ H2 _ I2 q2) fun vu s3 ⟨u,H3,I3,pu,q3⟩=>?_);rw [evalPart_none];refine aH ?_;have I4:Inv X J3 σ H3 { s3 with heap:=s3.heap.push { cls:=.type "slice",data:=.fields #[vl,vu,.none] } }:=I3.kept (t':=s3.toks) fun b ob q=>bq _ q;obtain ⟨T,id,hT,ht,hg⟩:=hr J3 { s3 with heap:=s3.heap.push { cls:=.type "slice",data:=.fields #[vl,vu,.none] } } σ H3 x v vl vu l u s3.heap.objs.size Q I4 r1 (Heap.IsSliceOf.new ..) pl pu q3;show wpAny (model X.prog X.w) X.A (subscriptTail e (.Slice lo hi none p2) v (.ref s3.heap.objs.size)) (EP X J3 σ Q) X.xe { s3 with heap:=s3.heap.push { cls:=.type "slice",data:=.fields #[vl,vu,.none] } };exact tail_any (ops:=[.ref s3.heap.objs.size,v]) ht hT hg (by with_unfolding_all rfl)
def gF (xs:List V) (lo hi:Option Int):List V:=(xs.drop (HT.sIx xs.length 0 lo)).take (HT.sIx xs.length xs.length hi-HT.sIx xs.length 0 lo)
theorem yZ (xs:List V) (lo hi:Option Int):(gF xs lo hi).length<=xs.length:=by
 unfold gF;rw [aK,fM];omega
end
end L2
namespace L2
open PySem PySem.Spec PyProof.Rows
def Fu (n:Nat) (i:Int):Option Nat:=if 0<=i then (if i<n then some i.toNat else none) else if -(n:Int)<=i then some (i+n).toNat else none
def oY {α:Type}(xs:List α) (i:Int):Option α:=(Fu xs.length i).bind fun j=>xs[j]?
theorem wW {n:Nat}{i:Int}{j:Nat}(h:Fu n i=some j):wa i n=some j/\j<n/\-(n:Int)<=i/\i<n:=by
 unfold Fu at h;by_cases h0:0<=i
 ·rw [if_pos h0] at h;by_cases h1:i<n
  ·rw [if_pos h1] at h;have e:i.toNat=j:=dZ h;exact ⟨by rw [seqIndex_of h0 h1,e],by omega,by omega,h1⟩
  ·rw [if_neg h1] at h; cases h
 ·rw [if_neg h0] at h;by_cases h1:-(n:Int)<=i
  ·rw [if_pos h1] at h;have e:(i+n).toNat=j:=dZ h;exact ⟨by rw [seqIndex_neg (by omega) h1,e],by omega,h1,by omega⟩
  ·rw [if_neg h1] at h; cases h
theorem xh {α:Type}{xs:List α}{i:Int}{v:α}(h:oY xs i=some v):∃j,wa i xs.length=some j/\xs[j]?=some v/\j<xs.length/\-(xs.length:Int)<=i/\i<xs.length:=by
 unfold oY at h;cases e:Fu xs.length i with
 | none=>rw [e] at h; cases h
 | some j =>
  rw [e] at h;obtain ⟨h1,h2,h3,h4⟩:=wW e;exact ⟨j,h1,h,h2,h3,h4⟩
theorem bI {α:Type}{xs:List α}{j:Nat}{v:α}(h:xs[j]?=some v):oY xs (j:Int)=some v:=by
 have hj:j<xs.length:=(cw.mp h).1;have e:Fu xs.length (j:Int)=some j:=by
  unfold Fu;rw [if_pos (by omega),if_pos (by omega)]; simp
 unfold oY; rw [e]; exact h
def GF (b:Expr):Prop:=∀o i,v_ b false o i=operate [o,i] (mN o i)
def GK (X:Cx) (r:R2):Prop :=
 ∀(value slice:Expr) (J3:Zd) (s:Shared) (σ:St) (H:Hp) (x y:V) (v u:Value) (Q:VK),Inv X J3 σ H s->RelV x v->RelV y u->r x y H Q ->
  v_ slice false v u=operate [v,u] (mN v u)->wpAny (model X.prog X.w) X.A (subscriptTail value slice v u) (EP X J3 σ Q) X.xe s
def MtR (X:Cx) (id:String) (r:V->List V->Hp->VK->Prop):Prop :=
 ∀(J3:Zd) (s:Shared) (σ:St) (H:Hp) (x:V) (xs:List V) (v:Value) (us:Zf) (Q:VK),Inv X J3 σ H s->RelV x v->bc xs us->r x xs H Q ->
  wpAny (model X.prog X.w) X.A (call (.builtin id) (v::us)) (EP X J3 σ Q) X.xe s
section
variable {X:Cx}{a b:Expr}{ta tb:TE}{pos:Pos}
theorem GK.or {r r':R2}(h:GK X r) (h':GK X r'):GK X (fun x y H Q=>r x y H Q∨r' x y H Q):=by
 intro value slice J3 s σ H x y v u Q I rx ry q hs;rcases q with q | q
 ·exact h value slice J3 s σ H x y v u Q I rx ry q hs
 ·exact h' value slice J3 s σ H x y v u Q I rx ry q hs
theorem BA {r:R2}(hr:GK X r) (ha:PE X a ta) (hb:PE X b tb) (hs:GF b):PE X (.Subscript a b pos) (aE r ta tb):=by
 intro J3 s σ H Q I h;exact Subscript_ (Hq ha hb I h fun v u s2 x y H2 I2 rx ry q=>hr a b J3 s2 σ H2 x y v u Q I2 rx ry q (hs _ _))
def cX (K:Za):R2:=fun x y H Q=>∃p xs i v,x=.ref p/\y=.int i/\aA K H p xs/\oY xs i=some v/\Q v H
def fS (K:Za):R2:=fun x y H Q=>∃p xs i v,x=.ref p/\y=.int i/\bj K H p xs/\oY xs i=some v/\Q v H
def Ej:R2:=fun x y H Q=>∃z i c,x=.str z/\y=.int i/\z.length<=ai/\oY z.cps.toList i=some c/\Q (.str ⟨#[c]⟩) H
theorem BQ:GK X (cX X.K):=by
 intro value slice J3 s σ H x y v u Q I rx ry h hs;obtain ⟨p,xs,i,z,rfl,rfl,hq,he,q⟩:=h;cases rx;obtain ⟨t,rfl⟩:=ry;obtain ⟨its,r,pl,hz⟩:=I.list hq;obtain ⟨j,h1,h2,h3,h4,h5⟩:=xh he;obtain ⟨w,ew,rw'⟩:=r.get h2;have hl:=r.length;have hn:=p4;have fin:EP X J3 σ Q w s:=⟨z,H,I,rw',q⟩;by_cases h0:0<=i
 ·have hj:i.toNat=j:=by
   rw [seqIndex_of h0 h5] at h1;exact dZ h1
  exact item_listR pl.isList h0 (by omega) (by rw [hj]; simpa using ew) fin hs
 ·have hj:(i+(its.toArray.size:Int)).toNat=j:=by
   rw [seqIndex_neg (by omega) h4] at h1;rw [bM,<-hl];exact dZ h1
  exact subscriptTail_builtinR (x:=w) pl.isList.typeIs slot_list_getitem.lookup
   (wpAny_getItem_list_neg (Q:=fun r s'=>r=w/\EP X J3 σ Q r s') pl.isList (by omega) (by rw [bM] <;> omega) (by omega) (by rw [hj]; simpa using ew) ⟨rfl,fin⟩) hs
theorem EK:GK X (fS X.K):=by
 intro value slice J3 s σ H x y v u Q I rx ry h hs;obtain ⟨p,xs,i,z,rfl,rfl,hq,he,q⟩:=h;cases rx;obtain ⟨t,rfl⟩:=ry;obtain ⟨its,r,pl,hz⟩:=I.tuple hq;obtain ⟨j,h1,h2,h3,h4,h5⟩:=xh he;obtain ⟨w,ew,rw'⟩:=r.get h2;have hl:=r.length;have hn:=p4;have fin:EP X J3 σ Q w s:=⟨z,H,I,rw',q⟩;exact subscriptTail_builtinR (x:=w) pl.typeIs slot_tuple_getitem.lookup
  (getItem_tuple (j:=j) (Q:=fun r s'=>r=w/\EP X J3 σ Q r s') pl (by omega) (by omega) (by rw [bM,<-hl]; exact h1) (by simpa using ew) ⟨rfl,fin⟩) hs
theorem EL:GK X Ej:=by
 intro value slice J3 s σ H x y v u Q I rx ry h hs;obtain ⟨z,i,c,rfl,rfl,hz,he,q⟩:=h;obtain ⟨t,rfl⟩:=rx;obtain ⟨t',rfl⟩:=ry;obtain ⟨j,h1,h2,h3,h4,h5⟩:=xh he;have hl:z.cps.toList.length=z.length:=by simp [Str.length]
 rw [hl] at h1 h4 h5;have hn:=p4;exact tail_any (typeIs_str s z t) slot_str_getitem.lookup (getItem_str (c:=c) (by
  have e1:decide (i < -(2 ^ 63:Int))=false:=zzr0 (by omega);have e2:decide (i ≥ 2 ^ 63)=false:=zzr0 (by omega);rw [e1,e2,Bool.or_false]) (by rw [h1]; simpa using h2) ⟨.str ⟨#[c]⟩,H,I.tok _,⟨_,rfl⟩,q⟩) hs
def mD (K:Za):R2:=fun x y H Q=>cX K x y H Q∨fS K x y H Q∨Ej x y H Q
theorem Hk:GK X (mD X.K):=BQ.or (EK.or EL)
theorem Ap (its:Zf) (n j:Nat) (u:Value):sk (·.setIfInBounds j u) { cls:=.type "list",data:=.seq its.toArray n }={ cls:=.type "list",data:=.seq (its.set j u).toArray n }:=by
 simp [sk]
theorem Inv.lst {J3:Zd}{σ:St}{H:Hp}{s:Shared}{p:Addr}{xs:List V}(I:Inv X J3 σ H s) (h:H p=some (.lst xs)) :
  ∃(its:Zf) (n:Nat),bc xs its/\s.heap.get? p=some { cls:=.type "list",data:=.seq its.toArray n }/\xs.length<=ai:=by
 obtain ⟨z,its,n,r,e⟩:=I.hok p _ h;exact ⟨its,n,r,e,z⟩
theorem Inv.lstUpd {J3:Zd}{σ:St}{H:Hp}{s:Shared}{p:Addr}{xs ys:List V}{its its':Zf}{n n':Nat}{f:Obj->Obj}(I:Inv X J3 σ H s) (h:H p=some (.lst xs))
  (ho:s.heap.get? p=some { cls:=.type "list",data:=.seq its.toArray n }) (hf:f { cls:=.type "list",data:=.seq its.toArray n }={ cls:=.type "list",data:=.seq its'.toArray n' }) (r:bc ys its') (hz:ys.length<=ai) (t:Nat) :
  Inv X J3 σ (upd H p (.lst ys)) { s with heap:=s.heap.update p f,toks:=t }:=by
 have e:(s.heap.update p f).get? p=some { cls:=.type "list",data:=.seq its'.toArray n' }:=by
  rw [v9 f ho (by rw [hf] <;> rfl),hf]
 refine I.write (x:=p) (e:=p) (by rw [h]; trivial) (.inl rfl) (fun b u hb q=>(Heap.get?_update_other _ _ (c_ hb)).trans q) ⟨_,e⟩ ?_;exact ⟨hz,its',n',r,e⟩
def sQ:V->V->V->Hp->(Hp->Prop)->Prop:=fun o i v H Q=>∃p xs k j,o=.ref p/\i=.int k/\H p=some (.lst xs)/\Fu xs.length k=some j/\Q (upd H p (.lst (xs.set j v)))
theorem k9:HW X sQ:=by
 intro J3 s σ H o i v ov iv u Q I ro ri rv h;obtain ⟨p,xs,k,j,rfl,rfl,hp,hj,q⟩:=h;cases ro;obtain ⟨t,rfl⟩:=ri;obtain ⟨its,n,r,ho,hz⟩:=I.lst hp;obtain ⟨h1,h2,h3,h4⟩:=wW hj;have hl:=r.length;have hn:=p4;have I':Inv X J3 σ (upd H p (.lst (xs.set j v))) { s with heap:=s.heap.update p (sk (·.setIfInBounds j u)) } :=
  I.lstUpd hp ho (Ap its n j u) (r.set rv j) (by rw [List.length_set]; exact hz) s.toks
 by_cases h0:0<=k
 ·have hk:k.toNat=j:=by
   rw [seqIndex_of h0 h4] at h1;exact dZ h1
  exact PySem.W.ki_setAt ho h0 (by omega) (by rw [bM,<-hl]; exact h4) (by rw [hk]; exact ⟨_,I',q⟩)
 ·have hk:(k+(its.toArray.size:Int)).toNat=j:=by
   rw [seqIndex_neg (by omega) h3] at h1;rw [bM,<-hl];exact dZ h1
  exact PySem.W.ki_setBack ho (by omega) (by rw [bM,<-hl]; exact h3) (by omega) (by rw [hk]; exact ⟨_,I',q⟩)
theorem wD (lo hi:Option Int) (n:Nat):(mM lo hi none n).1=((HT.sIx n 0 lo:Nat):Int)/\(mM lo hi none n).2.1=((HT.sIx n n hi:Nat):Int)/\(mM lo hi none n).2.2=1:=by
 refine ⟨?_,?_,rfl⟩
 ·cases lo with
  | none=>simp [mM,HT.sIx]
  | some i =>
   simp only [mM,HT.sIx,Option.getD_none,show (1:Int) > 0 by decide,if_true];by_cases h:i<0
   ·simp only [h,if_true] <;> omega
   ·simp only [h,if_false] <;> omega
 ·cases hi with
  | none=>simp [mM,HT.sIx]
  | some i =>
   simp only [mM,HT.sIx,Option.getD_none,show (1:Int) > 0 by decide,if_true];by_cases h:i<0
   ·simp only [h,if_true] <;> omega
   ·simp only [h,if_false] <;> omega
theorem uq (its:Zf) (lo hi:Option Int):slicePick its.toArray lo hi none=((its.drop (HT.sIx its.length 0 lo)).take (HT.sIx its.length its.length hi-HT.sIx its.length 0 lo)).toArray:=by
 obtain ⟨h1,h2,h3⟩:=wD lo hi its.toArray.size;unfold slicePick;rw [h1,h2,h3];simp only [sliceRange_one,pick_run,bM] <;> rfl
def pT (K:Za):V->Option Int->Option Int->Hp->VK->Prop:=fun x lo hi H Q=>∃a xs,x=.ref a/\aA K H a xs/\∀p,H p=none->Q (.ref p) (upd H p (.lst (gF xs lo hi)))
theorem fo:SlR X (pT X.K):=by
 intro J3 s σ H x v vl vu lo hi sl Q I rx hs pl pu h;obtain ⟨a,xs,rfl,hx,q⟩:=h;cases rx;obtain ⟨its,r,ht,hz⟩:=I.list hx;have hlen:=r.length;refine ⟨"list",_,slot_list_getitem.lookup,ht.isList.typeIs,?_⟩;refine wpAny_getItem_list_slice ht.isList hs pl pu .none (by simp) ?_ (by rw [bM] <;> omega);rw [uq,<-hlen];refine ⟨.ref s.heap.objs.size,_,I.laid (t':=s.toks) (o:=.lst (gF xs lo hi)) (fun b ob q=>bq _ q) (aG _) ?_,rfl,q _ (I.hok.fresh (aG _))⟩;exact ⟨bH (yZ xs lo hi) hz,_,0,(r.drop (HT.sIx xs.length 0 lo)).take (HT.sIx xs.length xs.length hi-HT.sIx xs.length 0 lo),cF _ rfl⟩
theorem xf:gb X (.builtin "len") (fun xs H Q=>∃p ys,xs=[.ref p]/\(aA X.K H p ys∨bj X.K H p ys)/\Q (.int ys.length) H):=by
 intro J3 s σ H xs us Q I r h;obtain ⟨p,ys,rfl,hq,q⟩:=h;obtain ⟨u,rfl,rx⟩:=vals1 r;cases rx;have hn:=p4;rcases hq with hq | hq
 ·obtain ⟨its,r',pl,hz⟩:=I.list hq;have hlen:=r'.length;exact Calls.call_len_list pl.isList (by simp only [bM] <;> omega) ⟨.int ys.length,H,I.tok _,⟨s.toks+1,by rw [bM,hlen]⟩,q⟩
 ·obtain ⟨its,r',pl,hz⟩:=I.tuple hq;have hlen:=r'.length;exact len_tuple pl (by simp only [bM] <;> omega) ⟨.int ys.length,H,I.tok _,⟨s.toks+1,by rw [bM,hlen]⟩,q⟩
theorem xc:gb X (.builtin "len") (fun xs H Q=>∃z,xs=[.str z]/\z.length<=ai/\Q (.int z.length) H):=by
 intro J3 s σ H xs us Q I r h;obtain ⟨z,rfl,hz,q⟩:=h;obtain ⟨u,rfl,t,rfl⟩:=vals1 r;have hn:=p4;exact len_str (by omega) ⟨.int z.length,H,I.tok _,⟨_,rfl⟩,q⟩
theorem gb.or {f:Value}{r r':List V->Hp->VK->Prop}(h:gb X f r) (h':gb X f r'):gb X f (fun xs H Q=>r xs H Q∨r' xs H Q):=by
 intro J3 s σ H xs us Q I rs q;rcases q with q | q
 ·exact h J3 s σ H xs us Q I rs q
 ·exact h' J3 s σ H xs us Q I rs q
theorem xb:gb X (.type "list") (fun xs H Q=>∃p ys,xs=[.ref p]/\(aA X.K H p ys∨bj X.K H p ys)/\∀l,H l=none->Q (.ref l) (upd H l (.lst ys))):=by
 intro J3 s σ H xs us Q I r h;obtain ⟨p,ys,rfl,hq,q⟩:=h;obtain ⟨u,rfl,rx⟩:=vals1 r;cases rx;have fin:∀(its:Zf),bc ys its->ys.length<=ai->∀(h':Heap) (c':Nat),(∀b o',s.heap.get? b=some o'->h'.get? b=some o') ->
   h'.get? s.heap.objs.size=some { cls:=.type "list",dict:=none,data:=.seq its.toArray c',slots:=#[] }->EP X J3 σ Q (.ref s.heap.objs.size) { s with heap:=h' }:=fun its r' hz h' c' kp e =>
  ⟨.ref s.heap.objs.size,_,I.laid (t':=s.toks) kp (aG _) (show bV X.prog X.w X.K _ h' _ (.lst ys) from ⟨hz,its,c',r',e⟩),rfl,q _ (I.hok.fresh (aG _))⟩
 rcases hq with hq | hq
 ·obtain ⟨its,r',pl,hz⟩:=I.list hq;have hlen:=r'.length;obtain ⟨o,ho,hc,n,hd⟩:=pl.isList;exact call_list_seq p (.inl rfl) ho hc hd (fun h' c' kp e=>fin its r' hz h' c' kp e) (by simp only [bM] <;> omega)
 ·obtain ⟨its,r',pl,hz⟩:=I.tuple hq;have hlen:=r'.length;obtain ⟨o,ho,hc,n,hd⟩:=pl;exact call_list_seq p (.inr rfl) ho hc hd (fun h' c' kp e=>fin its r' hz h' c' kp e) (by simp only [bM] <;> omega)
theorem gX:gb X (.type "tuple") (fun xs H Q=>∃p ys,xs=[.ref p]/\((aA X.K H p ys/\∀l,H l=none->Q (.ref l) (upd H l (.tup ys)))∨(bj X.K H p ys/\Q (.ref p) H))):=by
 intro J3 s σ H xs us Q I r h;obtain ⟨p,ys,rfl,h⟩:=h;obtain ⟨u,rfl,rx⟩:=vals1 r;cases rx;rcases h with ⟨hq,q⟩ | ⟨hq,q⟩
 ·obtain ⟨its,r',pl,hz⟩:=I.list hq;have hlen:=r'.length;refine call_tuple_list pl.isList (fun h' kp=>?_) (by simp only [bM] <;> omega);have I1:Inv X J3 σ H { s with heap:=h' }:=I.kept (t':=s.toks) kp;have I2:Inv X J3 σ (upd H h'.objs.size (.tup ys)) { s with heap:=h'.push { cls:=.type "tuple",data:=.seq its.toArray } } :=
   I1.laid (t':=s.toks) (fun b o e=>bq _ e) (aG _) (show bV X.prog X.w X.K _ _ _ (.tup ys) from ⟨hz,its,r',IsTup.new _ _⟩)
  exact ⟨.ref h'.objs.size,_,I2,rfl,q _ (I1.hok.fresh (aG _))⟩
 ·obtain ⟨its,r',pl,hz⟩:=I.tuple hq;exact call_tuple_same pl ⟨.ref p,H,I,rfl,q⟩
def tyV (K:Za) (T:String) (x:V) (H:Hp):Prop:=match x with
 | .str _=>T="str"
 | .int _=>T="int"
 | .ref p=>(T="list"/\∃xs,aA K H p xs)∨(T="tuple"/\∃o,K.lookup p=some o/\o.cls=.type "tuple"/\o.dict=none) ∨
   (T="dict"/\((∃kvs,H p=some (.dK kvs))∨∃kvs,H p=some (.dT kvs)))∨(T="set"/\∃S n,H p=some (.set S n))
 | _=>False
theorem DH {J3:Zd}{σ:St}{H:Hp}{s:Shared}{T:String}{x:V}{v:Value}(I:Inv X J3 σ H s) (r:RelV x v) (ty:tyV X.K T x H) :
  s.TypeIs v T/\∀a,v=.ref a->∃ob,s.heap.get? a=some ob/\ob.dict=none:=by
 cases x with
 | str z =>
  obtain ⟨t,rfl⟩:=r;cases (show T="str" from ty);exact ⟨typeIs_str s z t,fun _ e=>nomatch e⟩
 | int i =>
  obtain ⟨t,rfl⟩:=r;cases (show T="int" from ty);exact ⟨typeIs_int s i t,fun _ e=>nomatch e⟩
 | ref p =>
  cases r;rcases ty with ⟨rfl,xs,hq⟩ | ⟨rfl,o,hk,hc,hd⟩ | ⟨rfl,hk⟩ | ⟨rfl,S,n,hk⟩
  ·obtain ⟨its,_,pl,_⟩:=I.list hq;refine ⟨pl.isList.typeIs,fun a e=>?_⟩;cases e;obtain ⟨o,n,e,c,hd,_⟩:=pl;exact ⟨o,e,hd⟩
  ·refine ⟨⟨o,I.kIn p o hk,hc⟩,fun a e=>?_⟩;cases e;exact ⟨o,I.kIn _ o hk,hd⟩
  ·have z:∃o,s.heap.get? p=some o/\o.ExactDict:=by
    rcases hk with ⟨kvs,hk⟩ | ⟨kvs,hk⟩
    ·obtain ⟨_,_,_,_,o,_,_,e,ex,_⟩:=I.hok p _ hk;exact ⟨o,e,ex⟩
    ·obtain ⟨_,_,_,_,o,_,_,e,ex,_⟩:=I.hok p _ hk;exact ⟨o,e,ex⟩
   obtain ⟨o,e,ex⟩:=z;refine ⟨⟨o,e,ex.1⟩,fun a e2=>?_⟩;cases e2;exact ⟨o,e,ex.2.1⟩
  ·obtain ⟨o,_,_,_,e,ex,_⟩:=I.hok p _ hk;refine ⟨⟨o,e,ex.1⟩,fun a e2=>?_⟩;cases e2;exact ⟨o,e,ex.2.1⟩
 | _=>exact jx ty
def FI (K:Za) (T:String) (r:V->List V->Hp->VK->Prop) (to:TE):TE:=fun σ H Q=>to σ H fun x H1=>tyV K T x H1/\r x [] H1 Q
def pN (K:Za) (T:String) (r:V->List V->Hp->VK->Prop) (to:TE) (t:TA):TE:=fun σ H Q=>to σ H fun x H1=>tyV K T x H1/\t σ H1 fun xs H2=>r x xs H2 Q
variable {o e:Expr}{es:List Expr}{to:TE}{t:TA}{name:Str}{J5 J4:Pos}{T id:String}{r:V->List V->Hp->VK->Prop}
theorem Ak (pa:PlainAttrs T) (slot:Slot T name id) (hty:typeOf (.builtin id)=pure (.type "method_descriptor")) (hm:MtR X id r) (ho:PE X o to)
  (hbase:rG o name X.env (eval o X.env)=eval o X.env:=by rfl) (hline:(J5.endLine == J4.line)=true:=by rfl):PE X (.Call (.Attribute o name J5) [] [] J4) (FI X.K T r to):=by
 intro J3 s σ H Q I h;refine wpAny_Call_method0_late hbase hline (cB (ho J3 s σ H _ I h) fun v s1 ⟨x,H1,I1,r1,ty,q1⟩=>?_);obtain ⟨h1,h2⟩:=DH I1 r1 ty;exact ⟨T,id,pa,slot,hty,h1,h2,sj rfl (PySem.evalArgs_none (hm J3 s1 σ H1 x [] v [] Q I1 r1 .nil q1))⟩
theorem fg (pa:PlainAttrs T) (slot:Slot T name id) (hty:typeOf (.builtin id)=pure (.type "method_descriptor")) (hm:MtR X id r) (ho:PE X o to) (ha:PA X (e::es) t)
  (hbase:rG o name X.env (eval o X.env)=eval o X.env:=by rfl)
  (hfew:((backTo J4 (aN (e::es) X.env)).all (fun x=>!x.1) && (nR J4 (nQ [] X.env)).all (fun x=>x.1.isSome)
   && decide ((e::es).length+([]:List pD).length+(if ([]:List pD).isEmpty then 0 else 1)<30))=true:=by rfl)
  (hline:(J5.endLine == J4.line)=true:=by rfl) (hs:aN (e::es) X.env=(false,eval e X.env)::aN es X.env:=by rfl) (hplain:(backTo J4 (aN es X.env)).any (·.1)=false:=by rfl) :
  PE X (.Call (.Attribute o name J5) (e::es) [] J4) (pN X.K T r to t):=by
 intro J3 s σ H Q I h;refine wpAny_Call_method_late hbase hfew hline rfl (cB (ho J3 s σ H _ I h) fun v s1 ⟨x,H1,I1,r1,ty,q1⟩=>?_);obtain ⟨h1,h2⟩:=DH I1 r1 ty;refine ⟨T,id,pa,slot,hty,h1,h2,?_⟩;have hA:=ha J4 J3 s1 σ H1 _ I1 q1;rw [hs] at hA ⊢;refine sj (by show (false || (backTo J4 (aN es X.env)).any (·.1))=false; rw [hplain] <;> rfl) (Calls.evalArgs_plain ?_);exact cB hA fun us s2 ⟨vs,H2,I2,r2,q2⟩=>hm J3 s2 σ H2 x vs v us Q I2 r1 r2 q2
end
end L2
namespace L2
open PySem PySem.Spec PyProof.Rows
def Ht (X:Cx) (id:String) (r:V->List V->Hp->VK->Prop):Prop :=
 ∀(J3:Zd) (s:Shared) (σ:St) (H:Hp) (x:V) (xs:List V) (v:Value) (us:Zf) (Q:VK),Inv X J3 σ H s->RelV x v->bc xs us->r x xs H Q ->
  wpAny (model X.prog X.w) X.A (call (.builtin id) (v::us)) (EP X J3 σ Q) X.xe s
theorem bc.one:∀{x:V}{us:Zf},bc [x] us->∃u,us=[u]/\RelV x u
 | _,_,.cons r .nil=>⟨_,rfl,r⟩
theorem bc.two:∀{x y:V}{us:Zf},bc [x,y] us->∃u v,us=[u,v]/\RelV x u/\RelV y v
 | _,_,_,.cons r (.cons q .nil)=>⟨_,_,rfl,r,q⟩
theorem bc.zero:∀{us:Zf},bc [] us->us=[]
 | _,.nil=>rfl
theorem bc.dropLast {xs:List V}{us:Zf}(h:bc xs us):bc xs.dropLast us.dropLast:=by
 induction h with
 | nil=>exact .nil
 | cons r t ih =>
  cases t with
  | nil=>exact .nil
  | cons q t'=>exact .cons r ih
theorem bc.eraseIdx:∀{xs:List V}{us:Zf}(i:Nat),bc xs us->bc (xs.eraseIdx i) (us.eraseIdx i)
 | _,_,_,.nil=>.nil
 | _,_,0,.cons _ t=>t
 | _,_,i+1,.cons r t=>.cons r (bc.eraseIdx i t)
theorem bc.reverse {xs:List V}{us:Zf}(h:bc xs us):bc xs.reverse us.reverse:=by
 induction h with
 | nil=>exact .nil
 | cons r t ih=>rw [v8,v8]; exact bc.append ih (.cons r .nil)
theorem AB {α:Type}(l:List α):l.eraseIdx (l.length-1)=l.dropLast:=by
 induction l with
 | nil=>rfl
 | cons a r ih =>
  cases r with
  | nil=>rfl
  | cons b r =>
   have e:(a::b::r).length-1=((b::r).length-1)+1:=by
    have h1:(a::b::r).length=r.length+2:=rfl;have h2:(b::r).length=r.length+1:=rfl;omega
   rw [e,List.eraseIdx_cons_succ,ih]
   all_goals rfl
theorem ve {α:Type}:∀(l:List α) (i:Nat),(l.eraseIdx i).length<=l.length
 | [],_=>aG _
 | _::_,0=>mw _
 | _::r,i+1=>Nat.succ_le_succ (ve r i)
section
variable {X:Cx}{J3:Zd}{σ:St}{H:Hp}{s:Shared}{l b:Addr}{xs ys zs:List V}
theorem Inv.lset {its its':Zf}{n:Nat}{f:Array Value->Array Value}{t':Nat}(I:Inv X J3 σ H s) (hH:H l=some (.lst xs))
  (e:s.heap.get? l=some { cls:=.type "list",data:=.seq its.toArray n }) (hf:f its.toArray=its'.toArray) (hv:bc ys its') (hz:ys.length<=ai) :
  Inv X J3 σ (upd H l (.lst ys)) { s with heap:=s.heap.update l (sk f),toks:=t' }:=by
 have q:=PySem.IsL.update e f;rw [hf] at q;refine I.write (x:=l) (e:=l) (by rw [hH]; exact trivial) (.inl rfl) (fun b' u hb hu=>(Heap.get?_update_other s.heap (sk f) (c_ hb)).trans hu) ⟨_,q⟩ ?_;exact ⟨hz,its',_,hv,q⟩
theorem Inv.lnew {its:Zf}{t':Nat}(I:Inv X J3 σ H s) (hv:bc ys its) (hz:ys.length<=ai) :
  Inv X J3 σ (upd H s.heap.objs.size (.lst ys)) { s with heap:=s.heap.push { cls:=.type "list",data:=.seq its.toArray },toks:=t' } :=
 I.laid (fun _ _ q=>bq _ q) (aG _) ⟨hz,its,0,hv,cF _ rfl⟩
theorem Inv.fresh (I:Inv X J3 σ H s):H s.heap.objs.size=none:=I.hok.fresh (aG _)
theorem Inv.lstM (I:Inv X J3 σ H s) (hH:H l=some (.lst xs)):xs.length<=ai/\∃(its:Zf) (n:Nat),bc xs its/\xs.length=its.length/\s.heap.get? l=some { cls:=.type "list",data:=.seq its.toArray n }:=by
 obtain ⟨z,its,n,r,e⟩:=I.hok l _ hH;exact ⟨z,its,n,r,r.length,e⟩
theorem Ex {n:Nat}(h:n<=ai):cg.List.listTooLong n=false:=by
 unfold cg.List.listTooLong;exact zzr0 (by omega)
end
section
variable {X:Cx}
def bY:V->List V->Hp->VK->Prop:=fun x vs H Q=>∃l xs y,x=.ref l/\vs=[y]/\H l=some (.lst xs)/\xs.length<ai/\Q .non (upd H l (.lst (xs++[y])))
theorem bL:Ht X "list.append" bY:=by
 intro J3 s σ H x vs v us Q I rx rv h;obtain ⟨l,xs,y,rfl,rfl,hH,hz,q⟩:=h;cases rx;obtain ⟨u,rfl,ru⟩:=rv.one;obtain ⟨z,its,n,r,hl,e⟩:=I.lstM hH;refine pC F.slot_list_append ⟨_,e,rfl⟩ F.entry_list_append (F.args_list_append_2 _ _) (PySem.list_append l its.toArray n u (by rw [bM]; omega)) ⟨e,?_⟩;refine ⟨.non,_,I.lset (its':=its++[u]) hH e (by simp) (r.append (.cons ru .nil)) ?_,rfl,q⟩;rw [aM,v7];omega
def Bv:V->List V->Hp->VK->Prop:=fun x vs H Q=>∃l b xs zs,x=.ref l/\vs=[.ref b]/\H l=some (.lst xs)/\H b=some (.lst zs)/\xs.length+zs.length<=ai/\Q .non (upd H l (.lst (xs++zs)))
theorem CW:Ht X "list.extend" Bv:=by
 intro J3 s σ H x vs v us Q I rx rv h;obtain ⟨l,b,xs,zs,rfl,rfl,hH,hB,hz,q⟩:=h;cases rx;obtain ⟨u,rfl,ru⟩:=rv.one;cases ru;obtain ⟨z,its,n,r,hl,e⟩:=I.lstM hH;obtain ⟨z2,its2,n2,r2,hl2,e2⟩:=I.lstM hB;have hsz:its.toArray.size+its2.toArray.size<=ai:=by rw [bM,bM]; omega
 have hlong:¬(!its.toArray.isEmpty && cg.List.listTooLong (its.toArray.size+its2.toArray.size))=true:=by
  rw [Ex hsz,v6];exact gh
 refine pC F.slot_list_extend ⟨_,e,rfl⟩ F.entry_list_extend (F.args_list_extend_2 _ _)
  (AutoSeq1.list_extend_list_list_0 l its.toArray n b its2.toArray n2 hlong (by rw [bM]; omega) (by omega)) ⟨e,e2,?_⟩
 refine ⟨.non,_,I.lset (its':=its++its2) hH e (by simp) (r.append r2) ?_,rfl,q⟩;rw [aM];omega
def G_:V->List V->Hp->VK->Prop:=fun x vs H Q=>∃l xs y,x=.ref l/\vs=[]/\H l=some (.lst xs)/\xs[xs.length-1]?=some y/\Q y (upd H l (.lst xs.dropLast))
theorem EE:Ht X "list.pop" G_:=by
 intro J3 s σ H x vs v us Q I rx rv h;obtain ⟨l,xs,y,rfl,rfl,hH,hy,q⟩:=h;cases rx;have hus:=rv.zero;subst hus;obtain ⟨z,its,n,r,hl,e⟩:=I.lstM hH;obtain ⟨u,hu,ru⟩:=r.get hy;have hy':its.toArray[its.toArray.size-1]?=some u:=by
  show its.toArray[its.length-1]?=some u;rw [<-Array.getElem?_toList,<-hl];exact hu
 refine pC F.slot_list_pop ⟨_,e,rfl⟩ F.entry_list_pop (F.args_list_pop_1 _) (MeetsSeq.list_pop_last l its.toArray n u hy' (by rw [bM]; omega)) ⟨e,?_⟩;refine ⟨y,_,I.lset (its':=its.dropLast) hH e ?_ r.dropLast ?_,ru,q⟩
 ·show its.toArray.eraseIdxIfInBounds (its.toArray.size-1)=its.dropLast.toArray;rw [bM,List.eraseIdxIfInBounds_toArray,AB]
 ·rw [List.length_dropLast];omega
def Ei:V->List V->Hp->VK->Prop:=fun x vs H Q=>∃l xs i k y,x=.ref l/\vs=[.int i]/\H l=some (.lst xs)/\-(2 ^ 63)<=i/\i<2 ^ 63/\wa i xs.length=some k/\xs[k]?=some y/\Q y (upd H l (.lst (xs.eraseIdx k)))
theorem ED:Ht X "list.pop" Ei:=by
 intro J3 s σ H x vs v us Q I rx rv h;obtain ⟨l,xs,i,k,y,rfl,rfl,hH,h1,h2,hk,hy,q⟩:=h;cases rx;obtain ⟨u,rfl,ru⟩:=rv.one;obtain ⟨t,rfl⟩:=ru;obtain ⟨z,its,n,r,hl,e⟩:=I.lstM hH;obtain ⟨w,hw,rw'⟩:=r.get hy;refine pC F.slot_list_pop ⟨_,e,rfl⟩ F.entry_list_pop (F.args_list_pop_2 _ _)
  (MeetsSeq.list_pop_at l its.toArray n i t k w (fitsIndex_both h1 h2) (by rw [bM,<-hl]; exact hk) (by rw [<-Array.getElem?_toList]; exact hw) (by rw [bM]; omega)) ⟨e,?_⟩
 refine ⟨y,_,I.lset (its':=its.eraseIdx k) hH e ?_ (r.eraseIdx k) ?_,rw',q⟩
 ·show its.toArray.eraseIdxIfInBounds k=(its.eraseIdx k).toArray;rw [List.eraseIdxIfInBounds_toArray]
 ·have:=ve xs k;omega
def yn:V->List V->Hp->VK->Prop:=fun x vs H Q=>∃l xs,x=.ref l/\vs=[]/\H l=some (.lst xs)/\Q .non (upd H l (.lst xs.reverse))
theorem An:Ht X "list.reverse" yn:=by
 intro J3 s σ H x vs v us Q I rx rv h;obtain ⟨l,xs,rfl,rfl,hH,q⟩:=h;cases rx;have hus:=rv.zero;subst hus;obtain ⟨z,its,n,r,hl,e⟩:=I.lstM hH;refine pC F.slot_list_reverse ⟨_,e,rfl⟩ F.entry_list_reverse (F.args_list_reverse_1 _) (AutoSeq1.list_reverse_list_0 l its.toArray n (by rw [bM]; omega)) ⟨e,?_⟩;refine ⟨.non,_,I.lset (its':=its.reverse) hH e (by simp) r.reverse ?_,rfl,q⟩;rw [List.length_reverse];omega
def pU:R2:=fun x y H Q=>∃l b xs zs,x=.ref l/\y=.ref b/\H l=some (.lst xs)/\H b=some (.lst zs)/\xs.length+zs.length<=ai/\∀p,H p=none->Q (.ref p) (upd H p (.lst (xs++zs)))
theorem iM:nP X (qt .Add) pU:=by
 intro J3 s σ H x y v u Q I rx ry h;obtain ⟨l,b,xs,zs,rfl,rfl,hH,hB,hz,q⟩:=h;cases rx;cases ry;obtain ⟨z,its,n,r,hl,e⟩:=I.lstM hH;obtain ⟨z2,its2,n2,r2,hl2,e2⟩:=I.lstM hB;refine PySem.P.add_list e e2 ?_ (by rw [bM,bM]; omega);have ea:its.toArray++its2.toArray=(its++its2).toArray:=by simp
 rw [ea];exact ⟨.ref _,_,I.lnew (t':=s.toks) (r.append r2) (by rw [aM]; omega),rfl,q _ I.fresh⟩
end
end L2
namespace L2
open PySem PySem.Spec PyProof.Rows
section
variable {κ:Type} [DecidableEq κ]
def bJ (kvs:List (κ×V)) (k:κ):Option V:=(kvs.find? fun kv=>decide (kv.1=k)).map (·.2)
def cq (kvs:List (κ×V)) (k:κ) (v:V):List (κ×V) :=
 if (kvs.any fun kv=>decide (kv.1=k))=true then kvs.map (fun kv=>if kv.1=k then (kv.1,v) else kv) else kvs++[(k,v)]
theorem cp {p:κ×V}{r:List (κ×V)}{k:κ}(e:p.1=k):bJ (p::r) k=some p.2:=by simp [bJ,kW,e]
theorem cf {p:κ×V}{r:List (κ×V)}{k:κ}(e:¬p.1=k):bJ (p::r) k=bJ r k:=by simp [bJ,kW,e]
theorem jA (k:κ):∀kvs:List (κ×V),(kvs.any fun kv=>decide (kv.1=k))=(bJ kvs k).isSome
 | []=>rfl
 | p::r=>by
  rw [mL];by_cases e:p.1=k
  ·simp only [cp e,zzr1 e,Bool.true_or,Option.isSome_some]
  ·rw [cf e,zzr0 e,Bool.false_or]; exact jA k r
theorem xJ (k j:κ) (y:V):∀kvs:List (κ×V),bJ (kvs.map fun kv=>if kv.1=k then (kv.1,y) else kv) j=(bJ kvs j).map fun x=>if j=k then y else x
 | []=>rfl
 | p::r=>by
  have ih:=xJ k j y r;rw [bw];by_cases h:p.1=k
  ·rw [if_pos h];by_cases e:p.1=j
   ·rw [cp (p:=(p.1,y)) e,cp e,si,if_pos (e.symm.trans h)]
   ·rw [cf (p:=(p.1,y)) e,cf e,ih]
  ·rw [if_neg h];by_cases e:p.1=j
   ·rw [cp (p:=p) e,cp e,si,if_neg (fun z=>h (e.trans z))]
   ·rw [cf (p:=p) e,cf e,ih]
theorem uQ (k j:κ) (y:V):∀kvs:List (κ×V),bJ kvs k=none->bJ (kvs++[(k,y)]) j=if j=k then some y else bJ kvs j
 | [],_=>by
  by_cases e:k=j
  ·rw [if_pos e.symm]; exact cp (p:=(k,y)) e
  ·rw [if_neg (fun z=>e z.symm)]; exact cf (p:=(k,y)) e
 | p::r,hn=>by
  rw [List.cons_append];have hk:¬p.1=k:=fun z=>by rw [cp z] at hn; cases hn
  rw [cf hk] at hn;have ih:=uQ k j y r hn;by_cases e:p.1=j
  ·rw [cp e,cp e,if_neg (fun z=>hk (e.trans z))]
  ·rw [cf e,cf e,ih]
theorem xI (kvs:List (κ×V)) (k j:κ) (y:V):bJ (cq kvs k y) j=if j=k then some y else bJ kvs j:=by
 unfold cq;by_cases a:(kvs.any fun kv=>decide (kv.1=k))=true
 ·rw [if_pos a,xJ];rw [jA] at a;by_cases e:j=k
  ·obtain ⟨x,hx⟩:=A0.mp a;rw [if_pos e,e,hx,si,if_pos rfl]
  ·rw [if_neg e];cases bJ kvs j with
   | none=>rfl
   | some x=>rw [si,if_neg e]
 ·rw [if_neg a];refine uQ k j y kvs ?_;rw [jA] at a;cases q:bJ kvs k with
  | none=>rfl
  | some x=>rw [q] at a; exact (a rfl).elim
theorem i_ (kvs:List (κ×V)) (k:κ) (v:V):(cq kvs k v).length<=kvs.length+1:=by
 unfold cq;split
 ·rw [aj]; omega
 ·rw [aM,dP,v5]; omega
theorem ff {kvs:List (κ×V)}{k:κ}(v:V) (h:bJ kvs k=none):cq kvs k v=kvs++[(k,v)]:=by
 unfold cq;rw [jA,h];exact if_neg (by decide)
theorem kI.isSome_eq {o:Option V}{u:Option Value}(r:kI o u):o.isSome=u.isSome:=by
 cases o with
 | none=>cases u with
  | none=>rfl
  | some _=>exact (show False from r).elim
 | some _=>cases u with
  | none=>exact (show False from r).elim
  | some _=>rfl
theorem kI.getD {o:Option V}{u:Option Value}{d:V}{d':Value}(r:kI o u) (rd:RelV d d'):RelV (o.getD d) (u.getD d'):=by
 cases o with
 | none=>cases u with
  | none=>exact rd
  | some _=>exact (show False from r).elim
 | some _=>cases u with
  | none=>exact (show False from r).elim
  | some _=>exact r
theorem KV.val {kvs:List (κ×V)}{vs:List (κ×Value)}(r:KV kvs vs) (k:κ):kI (bJ kvs k) (mK vs k):=by
 unfold KV at r
 induction r with
 | nil=>exact iZ
 | @cons p q ps qs h t ih =>
  obtain ⟨h1,h2⟩:=h;by_cases e:p.1=k
  ·have e':q.1=k:=h1.symm.trans e;have b:mK (q::qs) k=some q.2:=by simp [mK,kW,e']
   rw [cp e,b]; exact h2
  ·have e':¬q.1=k:=fun z=>e (h1.trans z);have b:mK (q::qs) k=mK qs k:=by simp [mK,kW,e']
   rw [cf e,b]; exact ih
theorem KV.any {kvs:List (κ×V)}{vs:List (κ×Value)}(r:KV kvs vs) (k:κ):(kvs.any fun kv=>decide (kv.1=k))=vs.any fun kv=>decide (kv.1=k):=by
 unfold KV at r
 induction r with
 | nil=>rfl
 | cons h t ih=>rw [mL,mL,ih,h.1]
theorem KV.repl {kvs:List (κ×V)}{vs:List (κ×Value)}(r:KV kvs vs) (k:κ) {y:V}{u:Value}(ry:RelV y u) :
  KV (kvs.map fun kv=>if kv.1=k then (kv.1,y) else kv) (vs.map fun kv=>if kv.1=k then (kv.1,u) else kv):=by
 unfold KV at r ⊢
 induction r with
 | nil=>exact .nil
 | @cons p q ps qs h t ih =>
  rw [bw,bw];refine .cons ?_ ih;obtain ⟨h1,h2⟩:=h;by_cases e:p.1=k
  ·rw [if_pos e,if_pos (h1.symm.trans e)]; exact ⟨h1,ry⟩
  ·rw [if_neg e,if_neg (fun z=>e (h1.trans z))]; exact ⟨h1,h2⟩
theorem KV.put {kvs:List (κ×V)}{vs:List (κ×Value)}(r:KV kvs vs) (k:κ) {y:V}{u:Value}(ry:RelV y u):KV (cq kvs k y) (stored vs k u):=by
 unfold cq stored;rw [r.any k];by_cases e:(vs.any fun kv=>decide (kv.1=k))=true
 ·rw [if_pos e,if_pos e]; exact r.repl k ry
 ·rw [if_neg e,if_neg e]; exact cD r ⟨rfl,ry⟩
theorem KV.length {kvs:List (κ×V)}{vs:List (κ×Value)}(r:KV kvs vs):kvs.length=vs.length:=Paired.length r
end
theorem jK {P:bR}{w:World}{k:d_}{u:Value}(r:RelV (kV k) u):(bS P w).is k u=true:=by
 cases k with
 | inl i=>obtain ⟨t,e⟩:=(show ∃t,u=Value.int i t from r); subst e; exact yF P w i t
 | inr x=>obtain ⟨t,e⟩:=(show ∃t,u=Value.str x t from r); subst e; exact yE P w x t
abbrev KT (K:Za) (H:Hp):List (TK×V)->List (TK×Addr×Value)->Prop:=Paired fun p q=>p.1=q.1/\nA K H p.1 (.ref q.2.1)/\p.1.depth<=8/\RelV p.2 q.2.2
theorem KT.val {K:Za}{H:Hp}{kvs:List (TK×V)}{xs:List (TK×Addr×Value)}(r:KT K H kvs xs) (k:TK):kI (bJ kvs k) ((atKey xs k).map (·.2)):=by
 induction r with
 | nil=>exact iZ
 | @cons p q ps qs h t ih =>
  obtain ⟨h1,_,_,h2⟩:=h;by_cases e:p.1=k
  ·have e':q.1=k:=h1.symm.trans e;have b:atKey (q::qs) k=some q.2:=by simp [atKey,kW,e']
   rw [cp e,b]; exact h2
  ·have e':¬q.1=k:=fun z=>e (h1.trans z);have b:atKey (q::qs) k=atKey qs k:=by simp [atKey,kW,e']
   rw [cf e,b]; exact ih
theorem KT.repl {K:Za}{H:Hp}{kvs:List (TK×V)}{xs:List (TK×Addr×Value)}(r:KT K H kvs xs) (k:TK) {y:V}{u:Value}(ry:RelV y u) :
  KT K H (kvs.map fun kv=>if kv.1=k then (kv.1,y) else kv) (xs.map (putAt k u)):=by
 induction r with
 | nil=>exact .nil
 | @cons p q ps qs h t ih =>
  rw [bw,bw];refine .cons ?_ ih;obtain ⟨h1,h2,h3⟩:=h;unfold putAt;by_cases e:p.1=k
  ·rw [if_pos e,if_pos (h1.symm.trans e)]; exact ⟨h1,h2,h3.1,ry⟩
  ·rw [if_neg e,if_neg (fun z=>e (h1.trans z))]; exact ⟨h1,h2,h3⟩
theorem KT.put {K:Za}{H:Hp}{kvs:List (TK×V)}{xs:List (TK×Addr×Value)}(r:KT K H kvs xs) (k:TK) {b:Addr}{y:V}{u:Value}(hb:nA K H k (.ref b)) (h8:k.depth<=8) (ry:RelV y u) :
  KT K H (cq kvs k y) (storedH xs k b u):=by
 have e:(kvs.any fun kv=>decide (kv.1=k))=(atKey xs k).isSome:=by
  rw [jA,(r.val k).isSome_eq,Option.isSome_map]
 unfold cq storedH;rw [e];by_cases q:(atKey xs k).isSome=true
 ·rw [if_pos q,if_pos q]; exact r.repl k ry
 ·rw [if_neg q,if_neg q]; exact cD r ⟨rfl,hb,h8,ry⟩
theorem KT.keeps {K:Za}{H H':Hp}{kvs:List (TK×V)}{xs:List (TK×Addr×Value)}(r:KT K H kvs xs) (ht:∀b ys,H b=some (.tup ys)->H' b=some (.tup ys)):KT K H' kvs xs :=
 Paired.mapP r fun _ _ z=>⟨z.1,nA.keeps ht 8 z.2.2.1 z.2.1,z.2.2⟩
section
variable {P:bR}{w:World}{K:Za}{H:Hp}{h:Heap}{a:Addr}
theorem GQ {u:HO}(ok:lZ P w K H h) (e:Rd H a u):bV P w K H h a u:=e.ok ok
theorem oS {kvs:List (d_×V)}(ok:lZ P w K H h) (e:Rd H a (.dK kvs)):kvs.length<=ai/\(a == gk)=false/\∃vs,KV kvs vs/\h.DictOf (bS P w) a vs :=
 show bV P w K H h a (.dK kvs) from GQ ok e
theorem HS {kvs:List (d_×V)}(ok:lZ P w K H h) (e:H a=some (.dK kvs)):kvs.length<=ai/\(a == gk)=false/\∃vs,KV kvs vs/\h.DictOf (bS P w) a vs:=oS ok (.inl e)
theorem G5 (ok:lZ P w K H h) (kin:K.In h):∀(d:Nat) {k:TK}{v:V}{u:Value},k.depth<=d->nA K H k v->RelV v u->mn h k u:=by
 have key:∀(d:Nat) (ih:∀{k:TK}{v:V}{u:Value},k.depth<=d->nA K H k v->RelV v u->mn h k u) (ks:List TK) (vs:List V) (us:Zf),TK.depths ks<=d->TKCs K H ks vs->bc vs us->TAts h ks us:=by
  intro d ih ks
  induction ks with
  | nil =>
   intro vs us _ hx r;have e:vs=[]:=hx;subst e;cases r
   rfl
  | cons k ks ihl =>
   intro vs us hd hx r;obtain ⟨v,vs',rfl,h1,h2⟩:=hx;cases r with
   | @cons _ u _ us' r1 r2 =>
    have hd':max k.depth (TK.depths ks)<=d:=hd;exact ⟨u,us',rfl,ih (by omega) h1 r1,ihl vs' us' (by omega) h2 r2⟩
 intro d
 induction d with
 | zero =>
  intro k v u hd hx r;cases k with
  | t l=>exact absurd hd (by show ¬(TK.depths l+1<=0); omega)
  | k b =>
   have e:v=kV b:=hx;subst e;exact jK (P:=P) (w:=w) r
 | succ d ih =>
  intro k v u hd hx r;cases k with
  | k b =>
   have e:v=kV b:=hx;subst e;exact jK (P:=P) (w:=w) r
  | t l =>
   obtain ⟨b,xs,rfl,hb,hi⟩:=hx;cases (show u=Value.ref b from r);obtain ⟨its,rv,ob,h1,h2,n,h3⟩:∃its:List Value,bc xs its/\IsTup h b its.toArray:=by
    rcases hb with hb | ⟨o,its,n,hk,hc,hs,hz,r⟩
    ·obtain ⟨_,its,rv,p⟩:=(show bV P w K H h b (.tup xs) from ok b _ hb);exact ⟨its,rv,p⟩
    ·exact ⟨its.toList,r,o,kin b o hk,hc,n,by simpa using hs⟩
   exact ⟨b,ob,its.toArray,n,rfl,h1,h2,h3,by simpa using key d (fun h1=>ih h1) l xs its (by have:TK.depths l+1<=d+1:=hd; omega) hi rv⟩
theorem tq {k:TK}(ok:lZ P w K H h) (kin:K.In h) (e:nA K H k (.ref a)) (h8:k.depth<=8):(dQ P w).is h k a:=⟨G5 ok kin 8 h8 e rfl,h8⟩
theorem qJ {kvs:List (TK×V)}(ok:lZ P w K H h) (kin:K.In h) (e:Rd H a (.dT kvs)):kvs.length<=ai/\(a == gk)=false /\
  ∃xs,KT K H kvs xs/\h.DictOfH (dQ P w) a xs:=by
 obtain ⟨z,y,xs,r,o,es,ep,h1,h2,h3,h4,h5⟩:=(show bV P w K H h a (.dT kvs) from GQ ok e);refine ⟨z,y,xs,r,o,es,ep,h1,h2,h3,h4,fun x hx=>?_,h5⟩;have all:∀{l:List (TK×V)}{m:List (TK×Addr×Value)},KT K H l m->∀x∈m,(dQ P w).is h x.1 x.2.1:=by
  intro l m q
  induction q with
  | nil=>intro x hx; exact nomatch hx
  | @cons p q ps qs hq t ih =>
   intro x hx;rcases cU.mp hx with e | hx
   ·subst e;exact tq ok kin (by rw [<-hq.1]; exact hq.2.1) (by rw [<-hq.1]; exact hq.2.2.1)
   ·exact ih x hx
 exact all r x hx
theorem BW {kvs:List (TK×V)}(ok:lZ P w K H h) (kin:K.In h) (e:H a=some (.dT kvs)):kvs.length<=ai/\(a == gk)=false /\
  ∃xs,KT K H kvs xs/\h.DictOfH (dQ P w) a xs:=qJ ok kin (.inl e)
end
mutual
def lG (K:Za) (H:Hp):TK->V->Prop
 | .k a,v=>v=kV a
 | .t l,v=>∃b xs,v=.ref b/\bj K H b xs/\TKIns K H l xs
def TKIns (K:Za) (H:Hp):List TK->List V->Prop
 | [],vs=>vs=[]
 | k::r,vs=>∃v us,vs=v::us/\lG K H k v/\TKIns K H r us
end
theorem cN.isIn {K:Za}{H:Hp}:∀(d:Nat) {k:TK}{v:V},k.depth<=d->cN H k v->lG K H k v:=by
 have key:∀(d:Nat) (ih:∀{k:TK}{v:V},k.depth<=d->cN H k v->lG K H k v) (xs:List TK) (vs:List V),TK.depths xs<=d->TKAts H xs vs->TKIns K H xs vs:=by
  intro d ih xs
  induction xs with
  | nil=>intro vs _ hx; exact hx
  | cons x xs ihl =>
   intro vs hd hx;obtain ⟨v,us,rfl,hx1,hx2⟩:=hx;have hd':max x.depth (TK.depths xs)<=d:=hd;exact ⟨v,us,rfl,ih (by omega) hx1,ihl us (by omega) hx2⟩
 intro d
 induction d with
 | zero =>
  intro k v hd hx;cases k with
  | t l=>exact absurd hd (by show ¬(TK.depths l+1<=0); omega)
  | k a=>exact hx
 | succ d ih =>
  intro k v hd hx;cases k with
  | k a=>exact hx
  | t l =>
   obtain ⟨b,xs,rfl,hb,hi⟩:=hx;exact ⟨b,xs,rfl,bj.of hb,key d (fun h1=>ih h1) l xs (by have:TK.depths l+1<=d+1:=hd; omega) hi⟩
theorem FD {X:Cx}{J3:Zd}{σ:St}{H:Hp}{s:Shared}(I:Inv X J3 σ H s):∀(d:Nat) {k:TK}{v:V}{u:Value},k.depth<=d->lG X.K H k v->RelV v u->mn s.heap k u:=by
 have key:∀(d:Nat) (ih:∀{k:TK}{v:V}{u:Value},k.depth<=d->lG X.K H k v->RelV v u->mn s.heap k u) (ks:List TK) (vs:List V) (us:Zf),TK.depths ks<=d->TKIns X.K H ks vs->bc vs us->TAts s.heap ks us:=by
  intro d ih ks
  induction ks with
  | nil =>
   intro vs us _ hx r;have e:vs=[]:=hx;subst e;cases r
   rfl
  | cons k ks ihl =>
   intro vs us hd hx r;obtain ⟨v,vs',rfl,h1,h2⟩:=hx;cases r with
   | @cons _ u _ us' r1 r2 =>
    have hd':max k.depth (TK.depths ks)<=d:=hd;exact ⟨u,us',rfl,ih (by omega) h1 r1,ihl vs' us' (by omega) h2 r2⟩
 intro d
 induction d with
 | zero =>
  intro k v u hd hx r;cases k with
  | t l=>exact absurd hd (by show ¬(TK.depths l+1<=0); omega)
  | k b =>
   have e:v=kV b:=hx;subst e;exact jK (P:=X.prog) (w:=X.w) r
 | succ d ih =>
  intro k v u hd hx r;cases k with
  | k b =>
   have e:v=kV b:=hx;subst e;exact jK (P:=X.prog) (w:=X.w) r
  | t l =>
   obtain ⟨b,xs,rfl,hb,hi⟩:=hx;cases (show u=Value.ref b from r);obtain ⟨its,rv,⟨ob,h1,h2,n,h3⟩,_⟩:=I.tuple hb;exact ⟨b,ob,its.toArray,n,rfl,h1,h2,h3,by simpa using key d (fun h1=>ih h1) l xs its (by have:TK.depths l+1<=d+1:=hd; omega) hi rv⟩
theorem tu {X:Cx}{J3:Zd}{σ:St}{H:Hp}{s:Shared}{k:TK}{b:Addr}(I:Inv X J3 σ H s) (e:lG X.K H k (.ref b)) (h8:k.depth<=8):(dQ X.prog X.w).is s.heap k b:=⟨FD I 8 h8 e rfl,h8⟩
theorem fG {P:bR}{w:World}{A:Around}(hu:A.units+16<cLine):(dQ P w).room A.in1:=by
 show A.units+1+8<cLine;omega
def j_ (K:Za) (H:Hp) (a:Addr) (y:V) (r:Option V):Prop :=
 (∃kvs k,Rd H a (.dK kvs)/\y=kV k/\r=bJ kvs k)∨∃kvs k b,Rd H a (.dT kvs)/\y=.ref b/\lG K H k (.ref b)/\k.depth<=8/\r=bJ kvs k
def Ie (H:Hp) (a:Addr) (y v:V) (H':Hp):Prop :=
 (∃kvs k,H a=some (.dK kvs)/\y=kV k/\kvs.length<ai/\H'=upd H a (.dK (cq kvs k v))) ∨
 ∃kvs k b,H a=some (.dT kvs)/\y=.ref b/\cN H k (.ref b)/\k.depth<=8/\kvs.length<ai/\H'=upd H a (.dT (cq kvs k v))
section
variable {X:Cx}{J3:Zd}{σ:St}{H:Hp}{s:Shared}{a:Addr}{y v:V}{u r:Value}{o:Option V}{A:Around}{E:Zc}
theorem Inv.big (I:Inv X J3 σ H s):gk<s.heap.objs.size:=by
 have h:bU<s.heap.objs.size:=(I.mod.glob.keeps I.bk).lt;exact Nat.lt_trans (by decide) h
theorem Dh {Q:Zc}(hu:A.units+16<cLine) (I:Inv X J3 σ H s) (g:j_ X.K H a y (some v)) (ry:RelV y u) (h:∀w' s',Inv X J3 σ H s'->RelV v w'->Q w' s') :
  wpAny (model X.prog X.w) A (mN (.ref a) u) Q E s:=by
 rcases g with ⟨kvs,k,e,ey,l⟩ | ⟨kvs,k,b,e,ey,eb,e8,l⟩
 ·subst ey;obtain ⟨z,hd,vs,rel,dd⟩:=oS I.hok e;obtain ⟨w',hw,rw'⟩:=kI.some_of (v:=v) (o:=mK vs k) (by rw [l]; exact rel.val k);exact wpAny_getItem_of (jK ry) dd.mapOf hw (h w' _ (I.tok _) rw')
 ·subst ey;cases (show u=Value.ref b from ry);obtain ⟨z,hd,xs,rel,dd⟩:=qJ I.hok I.kIn e;obtain ⟨w',hw,rw'⟩:=kI.some_of (v:=v) (o:=(atKey xs k).map (·.2)) (by rw [l]; exact rel.val k);obtain ⟨p,hp,hp2⟩:=rK.mp hw;refine wpAny_getItem_heap (fG hu) (tu I eb e8) dd hp ?_;rw [hp2];exact h w' _ (I.tok _) rw'
theorem d_in {Q:Zc}(hu:A.units+16<cLine) (I:Inv X J3 σ H s) (g:j_ X.K H a y o) (ry:RelV y u) (h:∀s',Inv X J3 σ H s'->Q (.bool o.isSome) s') :
  wpAny (model X.prog X.w) A (eT .In u (.ref a)) Q E s:=by
 rcases g with ⟨kvs,k,e,ey,l⟩ | ⟨kvs,k,b,e,ey,eb,e8,l⟩
 ·subst ey;obtain ⟨z,hd,vs,rel,dd⟩:=oS I.hok e;refine wpAny_in_of (jK ry) hd dd.mapOf ?_;rw [<-(rel.val k).isSome_eq,<-l];exact h _ (I.tok _)
 ·subst ey;cases (show u=Value.ref b from ry);obtain ⟨z,hd,xs,rel,dd⟩:=qJ I.hok I.kIn e;refine wpAny_in_heap (fG hu) (tu I eb e8) hd dd ?_;have q:=(rel.val k).isSome_eq;rw [Option.isSome_map] at q;rw [<-q,<-l];exact h _ (I.tok _)
theorem Gx {Q:Zc}(hu:A.units+16<cLine) (I:Inv X J3 σ H s) (g:j_ X.K H a y o) (ry:RelV y u) (h:∀s',Inv X J3 σ H s'->Q (.bool (!o.isSome)) s') :
  wpAny (model X.prog X.w) A (eT .NotIn u (.ref a)) Q E s:=by
 rcases g with ⟨kvs,k,e,ey,l⟩ | ⟨kvs,k,b,e,ey,eb,e8,l⟩
 ·subst ey;obtain ⟨z,hd,vs,rel,dd⟩:=oS I.hok e;refine wpAny_notIn_of (jK ry) hd dd.mapOf ?_;rw [<-(rel.val k).isSome_eq,<-l];exact h _ (I.tok _)
 ·subst ey;cases (show u=Value.ref b from ry);obtain ⟨z,hd,xs,rel,dd⟩:=qJ I.hok I.kIn e;refine wpAny_notIn_heap (fG hu) (tu I eb e8) hd dd ?_;have q:=(rel.val k).isSome_eq;rw [Option.isSome_map] at q;rw [<-q,<-l];exact h _ (I.tok _)
theorem oT {h':Heap}{t':Nat}{ob:HO}(I:Inv X J3 σ H s) (mu:HX (H a)) (hs:fF a s.heap h') (he:∃q,h'.get? a=some q) (new:bV X.prog X.w X.K (upd H a ob) h' a ob) :
  Inv X J3 σ (upd H a ob) { s with heap:=h',toks:=t' } :=
 I.write (x:=a) (e:=a) mu (.inl rfl) (fun b q hb z=>(hs.2 b hb).trans z) he new
theorem EX {P:bR}{w:World}{K:Za}{H':Hp}{h':Heap}{kvs:List (d_×V)}{vs:List (d_×Value)}(z:kvs.length<=ai) (hd:(a == gk)=false) (rel:KV kvs vs) (dd:h'.DictOf (bS P w) a vs) :
  bV P w K H' h' a (.dK kvs):=⟨z,hd,vs,rel,dd⟩
theorem Dg {H':Hp}{Q:Unit->Shared->Prop}(hu:A.units+16<cLine) (I:Inv X J3 σ H s) (g:Ie H a y v H') (ry:RelV y u) (rv:RelV v r) (h:∀s',Inv X J3 σ H' s'->Q () s') :
  wpAny (model X.prog X.w) A (setItem (.ref a) u r) Q E s:=by
 rcases g with ⟨kvs,k,e,ey,l,eH⟩ | ⟨kvs,k,b,e,ey,eb,e8,l,eH⟩
 ·subst ey eH;obtain ⟨z,hd,vs,rel,dd⟩:=HS I.hok e;have hz:vs.length<=ai:=by rw [<-rel.length]; exact z
  have hl:(cq kvs k v).length<=ai:=by have:=i_ kvs k v; omega
  refine wpAny_setItem_pairs (hsz:=hz) (jK ry) dd fun h' dd' hs=>h _ ?_;have he:∃q,h'.get? a=some q:=let ⟨q,_,_,hq,_⟩:=dd'; ⟨q,hq⟩;exact oT I (by rw [e]; exact iZ) hs he (EX hl hd (rel.put k rv) dd')
 ·subst ey eH;cases (show u=Value.ref b from ry);obtain ⟨z,hd,xs,rel,dd⟩:=BW I.hok I.kIn e;have hz:xs.length<=ai:=by rw [<-Paired.length rel]; exact z
  have hl:(cq kvs k v).length<=ai:=by have:=i_ kvs k v; omega
  refine wpAny_setItem_heap (hsz:=hz) (fG hu) (tq I.hok I.kIn (cN.c 8 e8 eb) e8) dd fun h' dd' hs=>h _ ?_;obtain ⟨q,es,ep,hq,h2,h3,h4,_,h5⟩:=dd';refine oT I (by rw [e]; exact iZ) hs ⟨q,hq⟩ ⟨hl,hd,_,(rel.put k (cN.c 8 e8 eb) e8 rv).keeps fun c ys ec=>?_,q,es,ep,hq,h2,h3,h4,h5⟩;rw [af (BK ec e (fun z=>nomatch z))];exact ec
theorem AE {b:Addr}{kvs:List (TK×V)}{k:TK}{Q:Unit->Shared->Prop}(hu:A.units+16<cLine) (I:Inv X J3 σ H s) (e:H a=some (.dT kvs)) (eb:nA X.K H k (.ref b)) (e8:k.depth<=8) (l:kvs.length<ai) (ry:RelV (.ref b) u) (rv:RelV v r) (h:∀s',Inv X J3 σ (upd H a (.dT (cq kvs k v))) s'->Q () s') :
  wpAny (model X.prog X.w) A (setItem (.ref a) u r) Q E s:=by
 cases (show u=Value.ref b from ry);obtain ⟨z,hd,xs,rel,dd⟩:=BW I.hok I.kIn e;have hz:xs.length<=ai:=by rw [<-Paired.length rel]; exact z
 have hl:(cq kvs k v).length<=ai:=by have:=i_ kvs k v; omega
 refine wpAny_setItem_heap (hsz:=hz) (fG hu) (tq I.hok I.kIn (eb) e8) dd fun h' dd' hs=>h _ ?_;obtain ⟨q,es,ep,hq,h2,h3,h4,_,h5⟩:=dd';refine oT I (by rw [e]; exact iZ) hs ⟨q,hq⟩ ⟨hl,hd,_,(rel.put k (eb) e8 rv).keeps fun c ys ec=>?_,q,es,ep,hq,h2,h3,h4,h5⟩;rw [af (BK ec e (fun z=>nomatch z))];exact ec
end
def Dq (i:Expr):Prop:=∀ov iv,v_ i false ov iv=operate [ov,iv] (mN ov iv)
theorem FJ {prog:bR}{w:World}{A:Around}{E:Zc}{s:Shared}{env:Env}{value slice:Expr}{pos:Pos}{T id:String}{Q:Zc}
  (hl:typeLookup (.type T) "__getitem__"=pure (some (.builtin id))) (hs:Dq slice)
  (h:wpAny (model prog w) A (eval value env) (fun o s₁=>wpAny (model prog w) A (eval slice env) (fun i s₂=>s₂.TypeIs o T/\wpAny (model prog w) A (mN o i) Q E s₂) E s₁) E s) :
  wpAny (model prog w) A (eval (.Subscript value slice pos) env) Q E s:=by
 refine Subscript_ (jy h (fun o s₁ h₁=>jy h₁ (fun i s₂ h₂=>?_) fun _ _ x=>x) fun _ _ x=>x);obtain ⟨hT,h₂⟩:=h₂;unfold subscriptTail;refine ak ?_;rw [getitemInPython_of_ne hT.not_modules];refine ak (Fx hT hl ?_);have fin:wpAny (model prog w) A (v_ slice false o i) (fun r s₃=>wpAny (model prog w) A (letTemporaryGo value o r >>= fun _=>pure r) Q E s₃) E s₂:=by
  rw [hs o i];exact wpAny_operating (jy h₂ (fun r s₃ h₃=>ak (wpAny_letTemporaryGo (aH h₃))) fun _ _ x=>x)
 first
  | exact aH (ak fin)
  | exact ak (aH (ak fin))
  | exact ak fin
theorem yW {X:Cx}{J3:Zd}{σ:St}{H:Hp}{s:Shared}{a:Addr}{y:V}{o:Option V}(I:Inv X J3 σ H s) (g:j_ X.K H a y o):s.TypeIs (.ref a) "dict":=by
 rcases g with ⟨kvs,k,e,_,_⟩ | ⟨kvs,k,b,e,_,_,_⟩
 ·obtain ⟨_,_,vs,_,dd⟩:=oS I.hok e;exact dd.typeIs
 ·obtain ⟨_,_,xs,_,dd⟩:=qJ I.hok I.kIn e;exact dd.typeIs
def ie (K:Za) (td ty:TE):TE:=fun σ H Q=>td σ H fun x H1=>ty σ H1 fun y H2=>∃a v,x=.ref a/\j_ K H2 a y (some v)/\Q v H2
def zX (K:Za) (ty td:TE):TE:=fun σ H Q=>ty σ H fun y H1=>td σ H1 fun x H2=>∃a o,x=.ref a/\j_ K H2 a y o/\Q (.bl o.isSome) H2
def eO (K:Za) (ty td:TE):TE:=fun σ H Q=>ty σ H fun y H1=>td σ H1 fun x H2=>∃a o,x=.ref a/\j_ K H2 a y o/\Q (.bl (!o.isSome)) H2
def kA (td ty tv:TE):TS:=fun D σ H=>tv σ H fun v H1=>td σ H1 fun x H2=>ty σ H2 fun y H3=>∃a H4,x=.ref a/\Ie H3 a y v H4/\D.nx σ H4
section
variable {X:Cx}{o i e value:Expr}{pos pos' J7:Pos}{td ty tv:TE}
theorem fu (hu:X.A.units+16<cLine) (ho:PE X o td) (hi:PE X i ty) (hs:Dq i):PE X (.Subscript o i pos) (ie X.K td ty):=by
 intro J3 s σ H Q I h;refine FJ PySem.F.slot_dict_getitem.lookup hs (cB (ho J3 s σ H _ I h) fun u s1 ⟨x,H1,I1,rx,q1⟩=>cB (hi J3 s1 σ H1 _ I1 q1) fun iv s2 ⟨y,H2,I2,ry,a,v,ex,g,q2⟩=>?_);subst ex;obtain rfl:u=Value.ref a:=rx;exact ⟨yW I2 g,Dh hu I2 g ry fun w' s3 I3 rw'=>⟨v,H2,I3,rw',q2⟩⟩
theorem pX (hu:X.A.units+16<cLine) (hi:PE X i ty) (ho:PE X o td):PC X .In i o (zX X.K ty td):=by
 intro J3 s σ H Q I h;refine cB (hi J3 s σ H _ I h) fun iv s1 ⟨y,H1,I1,ry,q1⟩=>cB (ho J3 s1 σ H1 _ I1 q1) fun u s2 ⟨x,H2,I2,rx,a,ov,ex,g,q2⟩=>?_;subst ex;obtain rfl:u=Value.ref a:=rx;exact d_in hu I2 g ry fun s3 I3=>⟨.bl ov.isSome,H2,I3,rfl,q2⟩
theorem eP (hu:X.A.units+16<cLine) (hi:PE X i ty) (ho:PE X o td):PC X .NotIn i o (eO X.K ty td):=by
 intro J3 s σ H Q I h;refine cB (hi J3 s σ H _ I h) fun iv s1 ⟨y,H1,I1,ry,q1⟩=>cB (ho J3 s1 σ H1 _ I1 q1) fun u s2 ⟨x,H2,I2,rx,a,ov,ex,g,q2⟩=>?_;subst ex;obtain rfl:u=Value.ref a:=rx;exact Gx hu I2 g ry fun s3 I3=>⟨.bl (!ov.isSome),H2,I3,rfl,q2⟩
theorem gW (hu:X.A.units+16<cLine) (ho:PE X o td) (hi:PE X i ty) (hv:PE X value tv) (hs:qv value (some (.Subscript o i pos')) pos.line X.env=pure false) :
  PS X (.Assign [.Subscript o i pos'] value pos) (kA td ty tv):=by
 intro J3 s σ H D I h;refine wpAny_Assign_Subscript (cB (hv J3 s σ H _ I h) fun r s1 ⟨v,H1,I1,rv,q1⟩=>cB (ho J3 s1 σ H1 _ I1 q1) fun u s2 ⟨x,H2,I2,rx,q2⟩=>cB (hi J3 s2 σ H2 _ I2 q2) fun iv s3 ⟨y,H3,I3,ry,a,H4,ex,g,q3⟩=>?_) hs;subst ex;obtain rfl:u=Value.ref a:=rx;exact Dg hu I3 g ry rv fun s4 I4=>⟨σ,H4,I4,q3⟩
end
theorem EY {P:bR}{w:World}{K:Za}{H:Hp}(h:Heap) (hb:gk<h.objs.size):bV P w K H (h.push { cls:=.type "dict",data:=.dict #[] }) h.objs.size (.dK []) :=
 ⟨c9 _,beq_eq_false_iff_ne.mpr (c_ (cV hb)),[],.nil,Heap.DictOf.new h⟩
theorem yV {P:bR}{w:World}{K:Za}{H:Hp}(h:Heap) (hb:gk<h.objs.size):bV P w K H (h.push { cls:=.type "dict",data:=.dict #[] }) h.objs.size (.dT []) :=
 ⟨c9 _,beq_eq_false_iff_ne.mpr (c_ (cV hb)),[],.nil,_,#[],0,cF _ rfl,⟨rfl,rfl,rfl⟩,rfl,rfl,pB⟩
def pM:TE:=fun _ H Q=>∀p,H p=none->Q (.ref p) (upd H p (.dK []))
def pL:TE:=fun _ H Q=>∀p,H p=none->Q (.ref p) (upd H p (.dT []))
section
variable {X:Cx}{pos:Pos}
theorem ln:PE X (.Dict [] [] pos) pM:=fun J3 s σ H Q I h =>
 wpAny_Dict_empty ⟨.ref s.heap.objs.size,_,I.laid (a:=s.heap.objs.size) (o:=.dK []) (t':=s.toks) (fun _ _ q=>bq _ q) (aG _) (EY s.heap I.big),rfl,h _ (I.hok.fresh (aG _))⟩
theorem lh:PE X (.Dict [] [] pos) pL:=fun J3 s σ H Q I h =>
 wpAny_Dict_empty ⟨.ref s.heap.objs.size,_,I.laid (a:=s.heap.objs.size) (o:=.dT []) (t':=s.toks) (fun _ _ q=>bq _ q) (aG _) (yV s.heap I.big),rfl,h _ (I.hok.fresh (aG _))⟩
end
def jn (kvs more:List (d_×V)):List (d_×V):=more.foldl (fun acc kv=>cq acc kv.1 kv.2) kvs
theorem KV.merge:∀{more:List (d_×V)}{rs:List (d_×Value)}{kvs:List (d_×V)}{vs:List (d_×Value)},KV more rs->KV kvs vs->KV (jn kvs more) (merged vs rs):=by
 intro more rs kvs vs r;unfold KV at r
 induction r generalizing kvs vs with
 | nil=>intro q; exact q
 | @cons p q ps qs h t ih =>
  intro r0;have e:KV (cq kvs p.1 p.2) (stored vs q.1 q.2):=by
   have:=r0.put p.1 h.2;rw [<-h.1]; exact this
  exact ih e
theorem mF:∀(more kvs:List (d_×V)),(jn kvs more).length<=kvs.length+more.length
 | [],kvs=>by show kvs.length<=kvs.length+0; omega
 | p::r,kvs=>by
  have h1:=mF r (cq kvs p.1 p.2);have h2:=i_ kvs p.1 p.2;show (jn (cq kvs p.1 p.2) r).length<=_;rw [dP]; omega
structure M1 (X:Cx) (o:Expr) (m:Str) (J5:Pos) (e:Expr) (J4:Pos):Prop where
 base:rG o m X.env (eval o X.env)=eval o X.env
 few:((backTo J4 (aN [e] X.env)).all (fun x=>!x.1) && (nR J4 (nQ [] X.env)).all (fun x=>x.1.isSome)
  && decide (([e]:List Expr).length+([]:List pD).length+(if ([]:List pD).isEmpty then 0 else 1)<30))=true
 line:(J5.endLine == J4.line)=true
 trees:backTo J4 (aN [e] X.env)=[(false,eval e X.env)]
structure M2 (X:Cx) (o:Expr) (m:Str) (J5:Pos) (e f:Expr) (J4:Pos):Prop where
 base:rG o m X.env (eval o X.env)=eval o X.env
 few:((backTo J4 (aN [e,f] X.env)).all (fun x=>!x.1) && (nR J4 (nQ [] X.env)).all (fun x=>x.1.isSome)
  && decide (([e,f]:List Expr).length+([]:List pD).length+(if ([]:List pD).isEmpty then 0 else 1)<30))=true
 line:(J5.endLine == J4.line)=true
 trees:backTo J4 (aN [e,f] X.env)=[(false,eval e X.env),(false,eval f X.env)]
def Iz (H:Hp) (a:Addr):Prop:=(∃kvs,Rd H a (.dK kvs))∨∃kvs,Rd H a (.dT kvs)
theorem EM {X:Cx}{J3:Zd}{σ:St}{H:Hp}{s:Shared}{a:Addr}(I:Inv X J3 σ H s) (d:Iz H a) :
  s.TypeIs (.ref a) "dict"/\(∀b,Value.ref a=.ref b->∃ob,s.heap.get? b=some ob/\ob.dict=none)/\(a == gk)=false:=by
 rcases d with ⟨kvs,e⟩ | ⟨kvs,e⟩
 ·obtain ⟨_,hd,vs,_,dd⟩:=oS I.hok e;refine ⟨dd.typeIs,fun b q=>?_,hd⟩;cases q;obtain ⟨ob,_,_,h1,h2,_⟩:=dd;exact ⟨ob,h1,h2.2.1⟩
 ·obtain ⟨_,hd,xs,_,dd⟩:=qJ I.hok I.kIn e;refine ⟨dd.typeIs,fun b q=>?_,hd⟩;cases q;obtain ⟨ob,_,_,h1,h2,_⟩:=dd;exact ⟨ob,h1,h2.2.1⟩
section
variable {X:Cx}{J3:Zd}{σ:St}{H:Hp}{s:Shared}{a:Addr}{y d:V}{u r:Value}{o:Option V}{A:Around}{E:Zc}
theorem Ho {Q:Zc}(hu:A.units+16<cLine) (I:Inv X J3 σ H s) (g:j_ X.K H a y o) (ry:RelV y u) (h:∀w' s',Inv X J3 σ H s'->RelV (o.getD .non) w'->Q w' s') :
  wpAny (model X.prog X.w) A (call (.builtin "dict.get") [.ref a,u]) Q E s:=by
 rcases g with ⟨kvs,k,e,ey,l⟩ | ⟨kvs,k,b,e,ey,eb,e8,l⟩
 ·subst ey;obtain ⟨z,hd,vs,rel,dd⟩:=oS I.hok e;refine sf pA dd.typeIs v4 (PySem.F.args_dict_get_2 _ _) (meets_dict_get (bS X.prog X.w) a (jK ry) hd) ⟨_,dd.mapOf,h _ _ (I.tok _) ?_⟩;rw [l];exact (rel.val k).getD rfl
 ·subst ey;cases (show u=Value.ref b from ry);obtain ⟨z,hd,xs,rel,dd⟩:=qJ I.hok I.kIn e;refine sf pA dd.typeIs v4 (PySem.F.args_dict_get_2 _ _) (meetsH_dict_get (dQ X.prog X.w) a b hd) ⟨fG hu,k,xs,tu I eb e8,dd,h _ _ (I.tok _) ?_⟩;rw [l];exact (rel.val k).getD rfl
theorem Hn {Q:Zc}(hu:A.units+16<cLine) (I:Inv X J3 σ H s) (g:j_ X.K H a y o) (ry:RelV y u) (rd:RelV d r) (h:∀w' s',Inv X J3 σ H s'->RelV (o.getD d) w'->Q w' s') :
  wpAny (model X.prog X.w) A (call (.builtin "dict.get") [.ref a,u,r]) Q E s:=by
 rcases g with ⟨kvs,k,e,ey,l⟩ | ⟨kvs,k,b,e,ey,eb,e8,l⟩
 ·subst ey;obtain ⟨z,hd,vs,rel,dd⟩:=oS I.hok e;refine sf pA dd.typeIs v4 (PySem.F.args_dict_get_3 _ _ _) (meets_dict_get_default (bS X.prog X.w) a (jK ry) hd r) ⟨_,dd.mapOf,h _ _ (I.tok _) ?_⟩;rw [l];exact (rel.val k).getD rd
 ·subst ey;cases (show u=Value.ref b from ry);obtain ⟨z,hd,xs,rel,dd⟩:=qJ I.hok I.kIn e;refine sf pA dd.typeIs v4 (PySem.F.args_dict_get_3 _ _ _) (meetsH_dict_get_default (dQ X.prog X.w) a b hd r) ⟨fG hu,k,xs,tu I eb e8,dd,h _ _ (I.tok _) ?_⟩;rw [l];exact (rel.val k).getD rd
end
def wz (K:Za) (td ty:TE):TE:=fun σ H Q=>td σ H fun x H1=>∃a,x=.ref a/\Iz H1 a/\ty σ H1 fun y H2=>∃o,j_ K H2 a y o/\Q (o.getD .non) H2
def sI (K:Za) (td ty tx:TE):TE:=fun σ H Q=>td σ H fun x H1=>∃a,x=.ref a/\Iz H1 a/\ty σ H1 fun y H2=>tx σ H2 fun z H3=>∃o,j_ K H3 a y o/\Q (o.getD z) H3
section
variable {X:Cx}{o e f:Expr}{J5 J4:Pos}{td ty tx:TE}
theorem yq (hu:X.A.units+16<cLine) (ho:PE X o td) (he:PE X e ty) (m:M1 X o "get" J5 e J4):PE X (.Call (.Attribute o "get" J5) [e] [] J4) (wz X.K td ty):=by
 intro J3 s σ H Q I h;refine wpAny_Call_method m.base m.few m.line PySem.F.plainAttrs_dict pA PySem.F.type_dict_get (cB (ho J3 s σ H _ I h) fun u s1 ⟨x,H1,I1,rx,a,ex,d,q1⟩=>?_);subst ex;obtain rfl:u=Value.ref a:=rx;obtain ⟨t1,t2,_⟩:=EM I1 d;refine ⟨t1,t2,?_⟩;rw [m.trees];refine sj rfl (Calls.evalArgs_plain (Bb (cB (he J3 s1 σ H1 _ I1 q1) fun iv s2 ⟨y,H2,I2,ry,ov,g,q2⟩=>Calls.spliced_nil ?_)));exact Ho hu I2 g ry fun w' s3 I3 rw'=>⟨_,H2,I3,rw',q2⟩
theorem oG (hu:X.A.units+16<cLine) (ho:PE X o td) (he:PE X e ty) (hf:PE X f tx) (m:M2 X o "get" J5 e f J4):PE X (.Call (.Attribute o "get" J5) [e,f] [] J4) (sI X.K td ty tx):=by
 intro J3 s σ H Q I h;refine wpAny_Call_method m.base m.few m.line PySem.F.plainAttrs_dict pA PySem.F.type_dict_get (cB (ho J3 s σ H _ I h) fun u s1 ⟨x,H1,I1,rx,a,ex,d,q1⟩=>?_);subst ex;obtain rfl:u=Value.ref a:=rx;obtain ⟨t1,t2,_⟩:=EM I1 d;refine ⟨t1,t2,?_⟩;rw [m.trees];refine sj rfl (Calls.evalArgs_plain (Bb (cB (he J3 s1 σ H1 _ I1 q1) fun iv s2 ⟨y,H2,I2,ry,q2⟩ =>
  Bb (cB (hf J3 s2 σ H2 _ I2 q2) fun fv s3 ⟨z,H3,I3,rz,ov,g,q3⟩=>Calls.spliced_nil ?_))))
 exact Hn hu I3 g ry rz fun w' s4 I4 rw'=>⟨_,H3,I4,rw',q3⟩
end
end L2
namespace Att
open PySem PySem.W PySem.Calls PyProof.Rows
theorem ints_of_wellAll {P:Params}{h:Heap}:∀(ns:List Int) (vs:Zf),WellAll P h vs (ns.map WData.int)->se vs ns:=by
 intro ns
 induction ns with
 | nil =>
  intro vs w;rw [List.map_nil] at w;cases w;exact .nil
 | cons n ns ih =>
  intro vs w;rw [bw] at w;cases w with
  | cons a b =>
   cases a;exact .cons _ _ (ih _ b)
theorem script_of {l:OpenLaw}{n:Nat}(hn:l.most=some n) {P:Params}{h:Heap}{args:List WData}{vals:Zf}
  (hpre:l.row.toRowW.claim.pre args=true) (hwl:WellAll P h vals args) :
  ∃a vs ns,vals=[Value.ref a]/\args=[WData.list (ns.map WData.int)]/\h.get? a=some { cls:=.type "list",data:=.seq vs.toArray }/\se vs ns/\ns.length<=n:=by
 have hsh:WShape.hasAll [] args [.list .int]=true:=(pre_splitW hpre).1;have hc:l.pre.holds [] { args:=args }=true:=(pre_splitW hpre).2;obtain ⟨d,r,rfl,h1,h2⟩:=hasAllW_cons hsh;obtain rfl:=hasAllW_nil h2;obtain ⟨xs,rfl,h3⟩:=hasW_list h1;obtain ⟨ns,rfl⟩:=items_int h3;have hlen:ns.length<=n:=by
  unfold OpenLaw.pre at hc;have h4:(WTm.not (.lt (.lit (.int (n:Int))) (.len (.arg 0)))).holds [] { args:=[.list (ns.map .int)] }=true:=by
   have h4:=(holds_andW hc).1;rw [hn] at h4;exact h4
  have h5:=condW_of h4 (w_not (w_lt w_lit (w_len_list (w_arg rfl))));rw [aj] at h5;refine Nat.le_of_not_lt fun q=>?_;have q':(n:Int)<((ns.length:Nat):Int):=by omega
  first
   | (rw [zzr1 q'] at h5; exact absurd h5 (by decide))
   | (simp at h5; omega)
 cases hwl with
 | cons w1 w2 =>
  cases w2;cases w1 with
  | list ho hall=>exact ⟨_,_,ns,rfl,rfl,ho,ints_of_wellAll ns _ hall,hlen⟩
theorem post_true (l:OpenLaw) (args:List WData):l.row.toRowW.claim.post args (.bool true) args=true :=
 postW_of (r:=l.row.toRowW) (X:=(true == true))
  (show WShape.has [] (.bool true) .bool=true by first | rfl | decide | simp [WShape.has,WShape.arms,WShape.armsAll])
  (show (WTm.eq .res (.lit (.bool true))).value [] { args:=args,res:=some (.bool true),after:=args }=some (.bool (true == true)) from w_eq_bool (w_res rfl) w_lit) rfl
theorem attach_call {l:OpenLaw}{n:Nat}{q:bR}{loose:Zb}{XP:(Str->Option Value)->Heap->Prop}{YP:World->Heap->Prop}{d:DefRec}
  (hn:l.most=some n) (hdf:d.params.defaults=[])
  (call:∀(w:World) (s₀ s₁:Shared) (mg mb:Str->Option Value) (fa:Addr) (o:Obj) (pm cd doc:Value) (a:Addr) (vs:Zf) (ns:List Int),
   Ground q loose [] XP w s₀ mg mb s₁.heap->YP w s₁.heap ->
   s₁.heap.get? fa=some o->o.data=.func (docDef d.name d.params d.body d.scope pm cd doc)->s₁.heap.CodeRec cd d.name->mg d.name=some (.ref fa) ->
   s₁.heap.get? a=some { cls:=.type "list",data:=.seq vs.toArray }->se vs ns->ns.length<=n->s₁.gens=#[] ->
   zzl77 (model l.prog w) kT (.call (.ref fa) ⟨[.ref a],[]⟩) (fun r s'=>r=.ok (.ret (.bool true))/\OldK s₁.heap s'.heap/\s'.os=s₁.os/\nV s'.gens) s₁) :
  WalkO q loose XP YP l.row.toRowW d [] (fun f vs=>PySem.call f vs):=by
 intro w s₀ s₁ mg mb G Y fa o pm cd doc dV kV ho hd hcd hD hmg hg args vals as hpre hlay hrd hwl hlo;obtain rfl:dV=.none:=Dflts.none hD hdf;obtain rfl:kV=.none:=Dflts.noKw hD;obtain ⟨a,vs,ns,rfl,rfl,hobj,hints,hlen⟩:=script_of hn hpre hwl;refine enter_call (Ba (call w s₀ s₁ mg mb fa o pm cd doc a vs ns G Y ho (fd_plain hd) hcd hmg hobj hints hlen hg) fun r s' hq=>?_);obtain ⟨rfl,h2,h3,h4⟩:=hq;exact ⟨.inl ⟨.bool true,.bool true,[],rfl,fun _=>rfl,.bool true,post_true l _,fun _=>⟨List.Pairwise.nil,fun _ hm=>(nomatch hm)⟩⟩,h2,h3,h4⟩
end Att
namespace L2
open PySem PySem.Spec PyProof.Rows
theorem uP:∀{vs:Zf}{ns:List Int},se vs ns->bc (ns.map V.int) vs
 | _,_,.nil=>.nil
 | _,_,.cons n t h=>.cons ⟨t,rfl⟩ (uP h)
def GG (H:Hp):Prop:=∀b,H b=none∨∃o xs,H b=some (.frz o (.lst xs))
theorem EH {P:bR}{w:World}{K:Za}{mg mb:Str->Option Value}{CX:DA}{k:Nat}{fa a:Addr}{fd:kq}{x:Str}{sp:Sp}{s₁:Shared}{vs:Zf}{ns:List Int}
  (KX:K.In s₁.heap) (hns:s₁.heap.Ns bU mg) (hb:s₁.heap.Ns builtinsNs mb) (hbb:∀x:Str,x≠"__name__"->mb x=i0 x) (hlim:s₁.heap.NoLimit) (hg:s₁.gens=#[])
  (ha:s₁.heap.get? a=some { cls:=.type "list",data:=.seq vs.toArray }) (hi:se vs ns) (hl:ns.length<=ai) (hr:eS k kT)
  (F:∀base:Heap,K.In base->base.Ns bU mg->lK P w K mg base CX k fa fd [x] sp) (hbind:∀(s:Shared) (u:Value),rF s fd ⟨[u],[]⟩ [(x,u)])
  (hsp:∀H:Hp,GG H->aA K H a (ns.map V.int)->sp [.ref a] H (fun v _=>v=.bl true) fun _ _ _=>False)
  (hCX:∀H e s',CX [] H s₁ (fun _ _ _=>False) e s'->False) :
  zzl77 (model P w) kT (.call (.ref fa) ⟨[.ref a],[]⟩) (fun r s'=>r=.ok (.ret (.bool true))/\OldK s₁.heap s'.heap/\s'.os=s₁.os/\nV s'.gens) s₁:=by
 have rv:=uP hi;have lenV:=hi.length;have core:∀H:Hp,GG H->aA K H a (ns.map V.int)->lZ P w K H s₁.heap->(∀b,H b≠none->b=a)->(H a≠none->K.lookup a=none) ->
   zzl77 (model P w) kT (.call (.ref fa) ⟨[.ref a],[]⟩) (fun r s'=>r=.ok (.ret (.bool true))/\OldK s₁.heap s'.heap/\s'.os=s₁.os/\nV s'.gens) s₁:=by
  intro H hO hS hok hA hK;have base_of:∀{b:Addr}{o:Obj},s₁.heap.get? b=some o->H b=none->(wY s₁.heap H).get? b=some o:=fun e n=>EO e n;have noA:∀{b:Addr}{o:Obj}{es:Array jk}{ep:Nat},s₁.heap.get? b=some o->o.data=.dict es ep->H b=none:=fun {b o es ep} e d=>by
   cases q:H b with
   | none=>rfl
   | some u =>
    have e':b=a:=hA b (by rw [q]; simp);subst e';rw [ha] at e; cases e;have d':Data.seq vs.toArray _=Data.dict es ep:=d;cases d'
  have nsK:∀{b:Addr}{m:Str->Option Value},s₁.heap.Ns b m->(wY s₁.heap H).Ns b m:=fun {b m} ⟨o,es,ep,e,d,r⟩=>⟨o,es,ep,base_of e (noA e d),d,r⟩;have hKb:K.In (wY s₁.heap H):=fun b o e=>base_of (KX b o e) (by
   cases q:H b with
   | none=>rfl
   | some u =>
    have e':b=a:=hA b (by rw [q]; simp);subst e';rw [hK (by rw [q]; simp)] at e; cases e)
  have hM:Mod K mg (wY s₁.heap H):=⟨hKb,nsK hns,⟨mb,nsK hb,hbb⟩,let ⟨mc,h1,h2⟩:=hlim; ⟨mc,nsK h1,h2⟩⟩;have e0:AY P w K mg (wY s₁.heap H) kT [] s₁ H:=⟨rfl,hM,fun b o e=>Gj e,Nat.le_of_eq (C_ _ _),trivial,fun b hb=>absurd (show b∈([]:Ze) from hb) (by simp),hok,.of_eq hg⟩;refine Ba ((F _ hKb (nsK hns)).run kT [] s₁ H ⟨[.ref a],[]⟩ [.ref a] [.ref a] _ _ hr e0 (hbind s₁ (.ref a)) (.cons rfl .nil) (hsp H hO hS)) fun r s' h=>?_;cases r with
  | error e=>exact (hCX H e s' h).elim
  | ok fl =>
   cases fl with
   | next=>exact jx h
   | brk=>exact jx h
   | cont=>exact jx h
   | ret u =>
    obtain ⟨v,H',os,bare,un,hok',r',q⟩:=h;have q':v=.bl true:=q;subst q';obtain rfl:u=Value.bool true:=r';refine ⟨rfl,OldK.of_keep fun b o e=>?_,os,bare⟩;cases q:H b with
    | none=>exact un.keep b o e q (by intro z; exact absurd (show b∈([]:Ze) from z) (by simp)) (by simp)
    | some u =>
     rcases hO b with z | ⟨ob,xs,z⟩
     ·rw [q] at z; cases z
     ·have z2:=un.frzs b ob _ z;obtain ⟨e1,_⟩:=hok b _ z;obtain ⟨e2,_⟩:=hok' b _ z2;rw [e] at e1; cases e1;exact e2
 cases hk:K.lookup a with
 | some o =>
  have e:=KX a o hk;rw [ha] at e;cases e;refine core (fun _=>none) (fun _=>.inl rfl) (.inr ⟨_,vs.toArray,_,hk,rfl,rfl,rfl,by rw [bM,lenV]; exact hl,by simpa using rv⟩) (fun b u z=>by have z':(none:Option HO)=some u:=z; cases z') (fun b z=>absurd rfl z) fun z=>absurd rfl z
 | none =>
  refine core (fun b=>if b=a then some (.frz { cls:=.type "list",data:=.seq vs.toArray } (.lst (ns.map V.int))) else none) (fun b=>?_) (.inl (.inr ⟨{ cls:=.type "list",data:=.seq vs.toArray },if_pos rfl⟩)) (fun b u z=>?_) (fun b z=>?_) fun _=>hk
  ·by_cases hb:b=a
   ·exact .inr ⟨_,_,if_pos hb⟩
   ·exact .inl (if_neg hb)
  ·by_cases hb:b=a
   ·have z':=(if_pos hb).symm.trans z;cases z';subst hb;exact ⟨ha,by rw [aj]; exact hl,vs,_,rv,ha⟩
   ·have z':=(if_neg hb).symm.trans z;cases z'
  ·by_cases hb:b=a
   ·exact hb
   ·exact absurd (if_neg hb) z
end L2
namespace L2
open PySem PySem.Spec PyProof.Rows
theorem Fz {l:PySem.W.OpenLaw}{n k:Nat}{q:bR}{loose:Zb}{XP:(Str->Option Value)->Heap->Prop}{YP:World->Heap->Prop}{d:DefRec}{K:Params->Za}{CX:World->DA}{sp:World->Sp}{x:Str}
  (hn:l.most=some n) (hn2:n<=ai) (hdf:d.params.defaults=[]) (hr:eS k kT)
  (hY:∀(w:World) (h:Heap),YP w h->(K w.params).In h)
  (F:∀(w:World) (mg:Str->Option Value) (fa:Addr) (h:Heap),(K w.params).In h->h.Ns bU mg->mg d.name=some (.ref fa) ->
   ∃fd:kq,(∀(s:Shared) (u:Value),rF s fd ⟨[u],[]⟩ [(x,u)]) /\
    ∀base:Heap,(K w.params).In base->base.Ns bU mg->lK l.prog w (K w.params) mg base (CX w) k fa fd [x] (sp w))
  (hsp:∀(w:World) (H:Hp) (a:Addr) (ns:List Int),ns.length<=n->GG H->aA (K w.params) H a (ns.map V.int)->sp w [.ref a] H (fun v _=>v=.bl true) fun _ _ _=>False)
  (hCX:∀(w:World) (H:Hp) (s:Shared) (e:Value) (s':Shared),CX w [] H s (fun _ _ _=>False) e s'->False) :
  PySem.W.WalkO q loose XP YP l.row.toRowW d [] (fun f vs=>PySem.call f vs):=by
 refine Att.attach_call hn hdf fun w s₀ s₁ mg mb fa o pm cd doc a vs ns G Y ho hd hcd hmg hobj hints hlen hg=>?_;have KX:=hY w _ Y;obtain ⟨fd,hb,hF⟩:=F w mg fa _ KX G.T.g hmg;exact EH KX G.T.g G.T.b G.T.builtins G.T.nolimit hg hobj hints (bH hlen hn2) hr hF hb (fun H hO hS=>hsp w H a ns hlen hO hS) fun H e s'=>hCX w H s₁ e s'
theorem walk_ofK {l:PySem.W.OpenLaw}{n k:Nat}{q:bR}{loose:Zb}{XP:(Str->Option Value)->Heap->Prop}{YP:World->Heap->Prop}{d:DefRec}{K:Params->Za}{CX:DA}{sp:Za->Sp}{x:Str}
  (hn:l.most=some n) (hn2:n<=ai) (hdf:d.params.defaults=[]) (hr:eS k kT)
  (hY:∀(w:World) (h:Heap),YP w h->(K w.params).In h)
  (F:∀(w:World) (mg:Str->Option Value) (fa:Addr) (h:Heap),(K w.params).In h->h.Ns bU mg->mg d.name=some (.ref fa) ->
   ∃fd:kq,(∀(s:Shared) (u:Value),rF s fd ⟨[u],[]⟩ [(x,u)]) /\
    ∀base:Heap,(K w.params).In base->base.Ns bU mg->lK l.prog w (K w.params) mg base CX k fa fd [x] (sp (K w.params)))
  (hsp:∀(K:Za) (H:Hp) (a:Addr) (ns:List Int),ns.length<=n->GG H->aA K H a (ns.map V.int)->sp K [.ref a] H (fun v _=>v=.bl true) fun _ _ _=>False)
  (hCX:∀(H:Hp) (s:Shared) (e:Value) (s':Shared),CX [] H s (fun _ _ _=>False) e s'->False) :
  PySem.W.WalkO q loose XP YP l.row.toRowW d [] (fun f vs=>PySem.call f vs) :=
 Fz (K:=K) (CX:=fun _=>CX) (sp:=fun w=>sp (K w.params)) hn hn2 hdf hr hY F (fun w H a ns h1 h2 h3=>hsp (K w.params) H a ns h1 h2 h3) fun _ H s e s'=>hCX H s e s'
end L2
namespace L2
open PySem PySem.Spec PyProof.Rows
def fV (s:Stmt) (j:Nat):Stmt:=match s with
 | .ClassDef _ _ _ body _ _ _ _ _ _ _=>body.getD j (.Pass ⟨0,0,0,0⟩)
 | _=>.Pass ⟨0,0,0,0⟩
def io (s:Stmt):Arguments:=match s with
 | .FunctionDef _ a _ _ _ _ _ _ _ _=>a
 | _=>{ posonlyargs:=[],args:=[],vararg:=none,kwonlyargs:=[],kw_defaults:=[],kwarg:=none,defaults:=[] }
def fZ (s:Stmt):List Stmt:=match s with
 | .FunctionDef _ _ b _ _ _ _ _ _ _=>b
 | _=>[]
def bZ (s:Stmt):Scope:=match s with
 | .FunctionDef _ _ _ _ _ _ sc _ _ _=>sc
 | _=>{ kind:=.function,names:=[],isGenerator:=false,isCoroutine:=false }
abbrev CX0:DA:=fun _ _ _ _ _ _=>False
abbrev E0:XK:=fun _ _ _=>False
abbrev aO (sp:Sp) (a:TA):TE:=GP sp [] E0 a
theorem BD {X:Cx}:nC CX0 X E0:=fun _ _ _ _ _ _ _ h=>h.elim
structure HA (K:Za) (x qual:Str) (st:Stmt) (f:Addr) (fd:kq):Prop where
 ex:∃(oc:Value) (od:Option Addr) (kV doc pm:Value) (an:Option Addr) (cdv ct:Value) (osl:Array (Option Value)),
  fd=iH x qual (io st) (fZ st) (bZ st) .none kV doc pm an cdv ct/\K.lookup f=some ⟨oc,od,.func fd,osl⟩/\mO K cdv qual=true
 kp:iB K (.ref f)=true
section
variable {P:bR}{w:World}{K:Za}{mg:Str->Option Value}{base:Heap}
theorem HA.ok {x qual:Str}{st:Stmt}{f:Addr}{fd:kq}{N ps:Zb}{k:Nat}{sp:Sp}(F:HA K x qual st f fd) (S:j9 N ps (bZ st)) (len:∀vs H Q E,sp vs H Q E->vs.length=ps.length)
  (hbody:∀(cdv:Value) (A:Around) (outer:List Env) (s:Shared) (H:Hp) (vs:List V) (Q:VK) (E:XK),eS k (A.deeper (envOfC qual (bZ st) s.heap.objs.size f cdv))->sp vs H Q E ->
   ∃t,zD (AF CX0 P w K mg base N qual (bZ st) f cdv A outer s H E).nox (fZ st) t/\t (bC Q) (start N vs) H):lK P w K mg base CX0 (k+1) f fd ps sp:=by
 obtain ⟨oc,od,kV,doc,pm,an,cdv,ct,osl,rfl,lk,hcd⟩:=F.ex;refine HP lk hcd S len fun A outer s H vs Q E hr hsp=>?_;obtain ⟨t,h,q⟩:=hbody cdv A outer s H vs Q E hr hsp;exact ⟨t,h.nox,q⟩
theorem HA.binds {x qual:Str}{st:Stmt}{f:Addr}{fd:kq}{ps:Zb}(F:HA K x qual st f fd)
  (h:∀(kV doc pm:Value) (an:Option Addr) (cdv ct:Value) (us:Zf),us.length=ps.length->bindArgs (iH x qual (io st) (fZ st) (bZ st) .none kV doc pm an cdv ct) ⟨us,[]⟩=pure (ps.zip us)):Binds K fd ps []:=by
 obtain ⟨oc,od,kV,doc,pm,an,cdv,ct,osl,rfl,lk,hcd⟩:=F.ex;exact .all (h kV doc pm an cdv ct)
theorem ET {x qual:Str}{st:Stmt}{f:Addr}{oc:Value}{od an:Option Addr}{osl:Array (Option Value)}{kV doc pm cdv ct:Value}(l:K.lookup f=some ⟨oc,od,.func (iH x qual (io st) (fZ st) (bZ st) .none kV doc pm an cdv ct),osl⟩)
  (c:mO K cdv qual=true) (k:iB K (.ref f)=true):HA K x qual st f (iH x qual (io st) (fZ st) (bZ st) .none kV doc pm an cdv ct):=⟨⟨oc,od,kV,doc,pm,an,cdv,ct,osl,rfl,l,c⟩,k⟩
end
theorem BR {A:Around}{k:Nat}(hr:eS k A):A.units+16<cLine:=Nat.lt_of_le_of_lt (Nat.add_le_add_left (by decide:16<=64) _) hr.units
theorem ap {n:Nat}(h:n<=1000):n<ai:=Nat.lt_of_le_of_lt h (by decide)
section
variable {X:Cx}
theorem pv (i:Nat) {x:Str}{pos:Pos}(hN:X.N[i]?=some x:=by rfl) (hv:Ip X.env.scope x:=by first | exact Or.inl rfl | exact Or.inr (Or.inl rfl) | exact Or.inr (Or.inr rfl)) (hd:(x == ("__debug__":Str))=false:=by decide)
  (hcd:(x == ("__classdict__":Str))=false:=by decide):PE X (.Name x pos) (mY i):=He hN hv hd hcd
end
theorem a_ {A B:Prop}(h:B):if false=true then A else B:=by
 rw [if_neg gh];exact h
theorem bW {A B:Prop}(h:A):if true=true then A else B:=by
 rw [if_pos rfl];exact h
theorem iW {c A B:Prop} [Decidable c] (h1:c->A) (h2:¬c->B):if c then A else B:=by
 by_cases h:c
 ·rw [if_pos h];exact h1 h
 ·rw [if_neg h];exact h2 h
def ac (H H':Hp):Prop:=∀b o,H b=some o->H' b=some o
theorem ac.refl (H:Hp):ac H H:=fun _ _ h=>h
theorem ac.trans {H H1 H2:Hp}(a:ac H H1) (b:ac H1 H2):ac H H2:=fun c o h=>b c o (a c o h)
theorem ac.free {H H':Hp}(e:ac H H') {l:Addr}(h:H' l=Option.none):H l=Option.none:=by
 cases q:H l with
 | none=>rfl
 | some o =>
  rw [e l o q] at h;cases h
theorem ac.seq {K:Za}{H H':Hp}{a:Addr}{xs:List V}(e:ac H H') (h:aA K H a xs):aA K H' a xs:=by
 rcases h with (h | ⟨o,h⟩) | h
 ·exact .inl (.inl (e _ _ h))
 ·exact .inl (.inr ⟨o,e _ _ h⟩)
 ·exact .inr h
section
variable {prog:bR}{w:World}{A:Around}{R:Result->Shared->Prop}{s:Shared}
abbrev XF:Value->Shared->Prop:=fun _ _=>False
abbrev Ay (ifs:List Expr) (env:Env):Sem Bool:=forIn ifs true fun c r=>if r=true then do let ok <- isTrue c env (eval c env); pure (v3 ok) else pure (v3 r)
theorem xa {elt target iter:Expr}{ifs:List Expr}{scope:Scope}{pos:Pos}{it acc:Value}{env:Env}(I:Nat->Shared->Prop)
  (turn:∀n s,I n s->wpAny (model prog w) A (pyNext it) (fun r s₁=>match r with
   | none=>R (.ok .next) s₁
   | some v=>wpAny (model prog w) A (Bh target it v) (fun _ s₁'=>wpAny (model prog w) A (assign target env v) (fun _ s₂ =>
     wpAny (model prog w) A (Ay ifs env) (fun ok s₃ =>
      if ok=true then wpAny (model prog w) A (eval elt env) (fun x s₄ =>
       wpAny (model prog w) A (call (.builtin "list.append") [acc,x]) (fun _ s₅=>∃m,m<n/\I m s₅) XF s₄) XF s₃
      else ∃m,m<n/\I m s₃) XF s₂) XF s₁') XF s₁) XF s)
  (n:Nat) (h:I n s):zzl77 (model prog w) A (.compLoop (.ListComp elt [⟨target,iter,ifs,0⟩] scope pos) 0 it acc env) R s:=by
 refine codeAny_loop rfl I (fun n s hI=>?_) n h;show wpAny _ A ((compTurn (.ListComp elt [⟨target,iter,ifs,0⟩] scope pos) 0 it acc env).onRaise (fun x=>do noteFrame x env; theTreesLotGoes x)) _ _ s
 refine wpAny_noted ?_;rw [compTurn_list];refine ak (Bi (ak (jy (turn n s hI) (fun r s₁ h₁=>?_) fun _ _ h'=>h'.elim)));cases r with
 | none=>exact aH h₁
 | some v =>
  refine ak (jy h₁ (fun _ s₁' h₁'=>?_) fun _ _ h'=>h'.elim);refine ak (jy h₁' (fun _ s₂ h₂=>ak (jy h₂ (fun ok s₃ h₃=>?_) fun _ _ h'=>h'.elim)) fun _ _ h'=>h'.elim);cases ok with
  | false=>exact aH ⟨rfl,h₃⟩
  | true =>
   exact ak (ak (jy h₃ (fun x s₄ h₄=>ak (jy h₄ (fun _ s₅ h₅=>aH (aH ⟨rfl,h₅⟩)) fun _ _ h'=>h'.elim)) fun _ _ h'=>h'.elim))
end
theorem nz {env:Env}:∀(names:List (Str×jv)) (cs0:List (Str×Addr)),(∀y∈names,y.2=.free->∃c,env.cells.lookup y.1=some c)->(∀x c,cs0.lookup x=some c->env.cells.lookup x=some c) ->
  ∃cs:List (Str×Addr),(forIn names cs0 fun (x:Str×jv) (r:List (Str×Addr))=>if (x.2 == kS)=true then (cellOf env x.1 >>= fun c=>(pure (v3 ((x.1,c)::r)):Sem (ForInStep (List (Str×Addr))))) else pure (v3 r))=pure cs /\
   (∀x c,cs.lookup x=some c->env.cells.lookup x=some c)/\(∀x,(cs0.lookup x).isSome=true->(cs.lookup x).isSome=true)/\∀y∈names,y.2=.free->(cs.lookup y.1).isSome=true
 | [],cs0,_,h0=>⟨cs0,rfl,h0,fun _ h=>h,fun _ h=>nomatch h⟩
 | (n,k)::r,cs0,has,h0=>by
  have hr:∀y∈r,y.2=.free->∃c,env.cells.lookup y.1=some c:=fun y hy=>has y (fb _ hy);by_cases hk:k=.free
  ·subst hk;obtain ⟨c,hc⟩:=has (n,.free) eg rfl;obtain ⟨cs,e,p1,p2,p3⟩:=nz r ((n,c)::cs0) hr (fun x d hd=>by
    rw [iG] at hd;cases hx:x == n with
    | true =>
     rw [hx] at hd;have:x=n:=by simpa using hx
     subst this;cases hd;exact hc
    | false=>rw [hx] at hd; exact h0 x d hd)
   have hself:(((n,c)::cs0).lookup n).isSome=true:=by rw [iG,beq_self_eq_true]; rfl
   have hmono:∀x,(cs0.lookup x).isSome=true->(((n,c)::cs0).lookup x).isSome=true:=fun x hx=>by
    rw [iG];cases x == n with
    | true=>rfl
    | false=>exact hx
   refine ⟨cs,?_,p1,fun x hx=>p2 x (hmono x hx),fun y hy hf=>?_⟩
   ·rw [pq];have hcell:cellOf env n=pure c:=by unfold cellOf; rw [hc]
    simp only [beq_self_eq_true,if_true,hcell];exact e
   ·rcases cU.mp hy with rfl | hy
    ·exact p2 _ hself
    ·exact p3 y hy hf
  ·obtain ⟨cs,e,p1,p2,p3⟩:=nz r cs0 hr h0;refine ⟨cs,?_,p1,p2,fun y hy hf=>?_⟩
   ·rw [pq];have hb:(k == kS)=false:=by simpa using hk
    simp only [hb,kU,if_false];exact e
   ·rcases cU.mp hy with rfl | hy
    ·exact absurd hf hk
    ·exact p3 y hy hf
theorem tI {env:Env}{scope:Scope}(has:∀y∈scope.names,y.2=.free->∃c,env.cells.lookup y.1=some c) :
  ∃cs:List (Str×Addr),closureFor scope env=pure cs/\(∀x c,cs.lookup x=some c->env.cells.lookup x=some c)/\∀y∈scope.names,y.2=.free->(cs.lookup y.1).isSome=true:=by
 obtain ⟨cs,e,p1,_,p3⟩:=nz (env:=env) scope.names [] has (fun _ _ h=>nomatch h);refine ⟨cs,?_,p1,p3⟩;unfold closureFor
 first
  | exact e
  | (simp only [bind_pure]; exact e)
  | (rw [show (forIn scope.names [] _:Sem (List (Str×Addr)))=pure cs from e]; rfl)
def dH (X:Cx) (N:Zb) (scope:Scope) (C:Addr) (cl:List (Str×Addr)) (s₀:Shared) (H₀:Hp) (ex:Ze) (pn:Zd):Cx where
 prog:=X.prog
 w:=X.w
 K:=X.K
 mg:=X.mg
 base:=X.base
 A:=X.A
 N:=N
 s₀:=s₀
 H₀:=H₀
 env:=compEnvC scope cl C X.env
 outer:=X.stack
 stack:=X.stack
 ex:=ex
 fn:=fun _=>false
 calm:=X.calm
 pn:=pn
 xe:=XF
def lY (sc scope:Scope) (k:Nat) (N XN:Zb) (fi:List Nat):Bool :=
 decide (scope.kind=.function) &&
 (scope.names.all fun y=>decide (y.2≠.cell) && (decide (y.2≠.local) || decide (scope.names.lookup y.1=some .local)) && (decide (y.2≠.free) || decide (sc.names.lookup y.1=some .cell) || decide (sc.names.lookup y.1=some .free))) &&
 decide (N.length=k+fi.length) &&
 ((jz fi.length).all fun j=>match fi[j]? with
  | some i=>match N[k+j]?,XN[i]? with
   | some x,some y=>decide (x=y) && decide (scope.names.lookup x=some .free)
   | _,_=>false
  | none=>false)
structure nK (sc scope:Scope) (k:Nat) (N XN:Zb) (fi:List Nat):Prop where
 kind:scope.kind=.function
 cell:∀y∈scope.names,y.2≠.cell
 nm:∀y∈scope.names,y.2=.local->scope.names.lookup y.1=some .local
 fr:∀y∈scope.names,y.2=.free->sc.names.lookup y.1=some .cell∨sc.names.lookup y.1=some .free
 len:N.length=k+fi.length
 sl:∀j i,fi[j]?=some i->∃x,N[k+j]?=some x/\XN[i]?=some x/\scope.names.lookup x=some .free
theorem nK.of {sc scope:Scope}{k:Nat}{N XN:Zb}{fi:List Nat}(h:lY sc scope k N XN fi=true):nK sc scope k N XN fi:=by
 unfold lY at h;simp only [r_,List.all_eq_true,Bool.or_eq_true,decide_eq_true_eq] at h;obtain ⟨⟨⟨h1,h2⟩,h3⟩,h4⟩:=h;refine ⟨h1,fun y hy=>(h2 y hy).1.1,fun y hy e=>((h2 y hy).1.2).resolve_left fun z=>z e,fun y hy e=>?_,h3,fun j i e=>?_⟩
 ·rcases (h2 y hy).2 with (z | z) | z
  ·exact absurd e z
  ·exact .inl z
  ·exact .inr z
 ·have hj:j<fi.length:=(cw.mp e).1;have q:=h4 j (List.mem_range.mpr hj);rw [e] at q;dsimp only at q;cases a:N[k+j]? with
  | none=>rw [a] at q; cases q
  | some x =>
   cases b:XN[i]? with
   | none=>rw [a,b] at q; cases q
   | some y =>
    rw [a,b] at q;simp only [r_,decide_eq_true_eq] at q;exact ⟨x,rfl,by rw [q.1],q.2⟩
theorem ig {env:Env}:∀{names:List (Str×jv)}{x:Str},names.lookup x=some .free ->
  (names.map fun (n,k)=>if (k == kS && env.scope.kind == .function && env.kindOf n == some .cell) then (n,jv.cell) else (n,k)).lookup x=some .cell ∨
  (names.map fun (n,k)=>if (k == kS && env.scope.kind == .function && env.kindOf n == some .cell) then (n,jv.cell) else (n,k)).lookup x=some .free
 | [],_,h=>by simp at h
 | (n,k)::r,x,h=>by
  have ih:=@ig env r x;simp only [bw];cases hx:x == n with
  | true =>
   simp only [iG,hx] at h;cases h;by_cases hc:(kS == kS && env.scope.kind == .function && env.kindOf n == some .cell)=true
   ·left; rw [if_pos hc]; simp [iG,hx]
   ·right; rw [if_neg hc]; simp [iG,hx]
  | false =>
   simp only [iG,hx] at h;by_cases hc:(k == kS && env.scope.kind == .function && env.kindOf n == some .cell)=true
   ·rw [if_pos hc]; simp only [iG,hx]; exact ih h
   ·rw [if_neg hc]; simp only [iG,hx]; exact ih h
def dF (k:Nat) (fi:List Nat) (σ:St):St:=List.replicate k none++fi.map fun i=>(σ[i]?).join
theorem AH (k:Nat) (fi:List Nat) (σ:St):(dF k fi σ).length=k+fi.length:=by simp [dF]
theorem tH {k:Nat}{fi:List Nat}{σ:St}{i:Nat}{v:V}(h:(dF k fi σ)[i]?=some (some v)):∃j t,i=k+j/\fi[j]?=some t/\σ[t]?=some (some v):=by
 unfold dF at h;by_cases hi:i<k
 ·rw [eX (by simpa using hi),List.getElem?_replicate_of_lt hi] at h;cases h
 ·rw [mP (by simp; omega),List.length_replicate,b0] at h;refine ⟨i-k,?_⟩;cases e:fi[i-k]? with
  | none=>rw [e] at h; cases h
  | some t =>
   rw [e] at h;simp only [si] at h;refine ⟨t,by omega,rfl,?_⟩;have h':=dZ h;cases e2:σ[t]? with
   | none=>rw [e2] at h'; cases h'
   | some o=>rw [e2] at h'; simp only [Option.join] at h'; first | (rw [h']) | (subst h'; rfl) | (simpa using h')
def zf (k:Nat) (g:TG):Prop:=∀x σ H Q,g x σ H Q->g x σ H fun σ2 H2=>Q σ2 H2/\σ2.length=σ.length/\∀i,k<=i->σ2[i]?=σ[i]?
def Ck (k:Nat) (g:Dz):Prop:=∀x σ H Q,g x σ H Q->g x σ H fun σ2 H2=>Q σ2 H2/\σ2.length=σ.length/\∀i,k<=i->σ2[i]?=σ[i]?
theorem bu {k i:Nat}(h:i<k):zf k (d6 i):=fun x σ H Q q=>⟨q,by simp,fun j hj=>by rw [List.getElem?_set_ne (by omega)]⟩
theorem yt {k:Nat}:Ck k fI:=fun x σ H Q ⟨e,q⟩=>⟨e,q,rfl,fun _ _=>rfl⟩
def Fm (g:TG):Prop:=∀x σ H Q Q',(∀σ2 H2,Q σ2 H2->Q' σ2 H2)->g x σ H Q->g x σ H Q'
def xx (g:Dz):Prop:=∀x σ H Q Q',(∀σ2 H2,Q σ2 H2->Q' σ2 H2)->g x σ H Q->g x σ H Q'
theorem eQ {i:Nat}:Fm (d6 i):=fun _ _ _ _ _ f q=>f _ _ q
theorem jJ:xx fI:=fun _ _ _ _ _ f ⟨e,q⟩=>⟨e,f _ _ q⟩
theorem j3 {g:TG}{u:Dz}(h1:Fm g) (h2:xx u):xx (aR g u):=fun _ _ _ _ _ f ⟨v,r,e,q⟩=>⟨v,r,e,h1 _ _ _ _ _ (fun _ _ q=>h2 _ _ _ _ _ f q) q⟩
theorem jG {k:Nat}{g:TG}{u:Dz}(h1:zf k g) (m1:Fm g) (h2:Ck k u) (m2:xx u):Ck k (aR g u):=fun x σ H Q ⟨v,r,e,q⟩ =>
 ⟨v,r,e,m1 _ _ _ _ _ (fun σ2 H2 ⟨q,l,s⟩=>m2 _ _ _ _ _ (fun σ3 H3 ⟨q',l',s'⟩=>⟨q',l'.trans l,fun i hi=>(s' i hi).trans (s i hi)⟩) (h2 _ _ _ _ q)) (h1 _ _ _ _ q)⟩
theorem BF {K:Za}{k n:Nat}{t:Dz}(h:Ck k t):zf k (fW K n t):=fun x σ H Q ⟨a,xs,e,hs,hl,q⟩=>⟨a,xs,e,hs,hl,h _ _ _ _ q⟩
def G3 (X:Cx) (ifs:List Expr) (t:TT):Prop :=
 ∀(J3:Zd) (s:Shared) (σ:St) (H:Hp) (Q:Bool->Hp->Prop),Inv X J3 σ H s->t σ H Q->wpAny (model X.prog X.w) X.A (Ay ifs X.env) (TP X J3 σ Q) X.xe s
def kE:TT:=fun _ H Q=>Q true H
theorem cY {X:Cx}:G3 X [] kE:=fun J3 s σ H Q I h=>aH ⟨H,I,h⟩
theorem i9 {X:Cx}{c:Expr}{t:TT}(h:PT X c t):G3 X [c] t:=by
 intro J3 s σ H Q I hw;unfold Ay;rw [pq];simp only [if_true];refine ak (ak (cB (h J3 s σ H Q I hw) fun b s1 q=>aH ?_));exact aH q
def dA (k:Nat) (fi:List Nat) (wi:TI) (g:TG) (tc:TT) (te:TE):TE:=fun σ H Q=>wi σ H fun J H1=>∀l,H1 l=none->∃W:Nat->Nat->List V->Hp->Prop,(∃m,W 0 m [] (upd H1 l (.lst [])))/\∀i m vs H2,W i m vs H2->H2 l=some (.lst vs) /\
 ((J.stop i H2/\Q (.ref l) H2)∨(J.go i H2/\∀x H3,J.yld i H2 x H3->g x (dF k fi σ) H3 fun σ2 H4=>tc σ2 H4 fun b H5 =>
  if b=true then te σ2 H5 fun v H6=>H6 l=some (.lst vs)/\vs.length<ai/\∃m',m'<m/\W (i+1) m' (vs++[v]) (upd H6 l (.lst (vs++[v]))) else ∃m',m'<m/\W (i+1) m' vs H5))
section
variable {X:Cx}{J3:Zd}{σ:St}
theorem GA {k:Nat}{N:Zb}{scope:Scope}{fi:List Nat}{H:Hp}{s:Shared}{cl:List (Str×Addr)}{fp:Ze}(S:nK X.env.scope scope k N X.N fi) (I:Inv X J3 σ H s)
  (hcl:∀x c,cl.lookup x=some c->X.env.cells.lookup x=some c) (hcf:∀y∈scope.names,y.2=.free->(cl.lookup y.1).isSome=true) (hf:∀b∈fp,nJ X J3 H b) (hlt:∀b∈fp,b<s.heap.objs.size) :
  (dH X N scope s.heap.objs.size cl s H fp (X.pn++J3)).Ok where
 mod:=I.ok.mod
 kind:=S.kind
 glob:=I.ok.glob
 blt:=I.ok.blt
 above:=aG _
 inj:=fun x y c e1 e2=>I.ok.inj x y c (hcl x c e1) (hcl y c e2)
 has:=fun x h=>by
  have key:∃y∈scope.names,y.1=x/\y.2=.free:=by
   have h':(relabel scope X.env).names.lookup x=some .cell∨(relabel scope X.env).names.lookup x=some .free:=h;have mem:∀(l:List (Str×jv)) (kd:jv),l.lookup x=some kd->(x,kd)∈l:=by
    intro l
    induction l with
    | nil=>intro kd e; cases e
    | cons a r ih =>
     intro kd e;obtain ⟨n,k'⟩:=a;rw [iG] at e;cases hx:x == n with
     | true =>
      rw [hx] at e;have:x=n:=by simpa using hx
      subst this;cases e;exact eg
     | false=>rw [hx] at e; exact fb _ (ih kd e)
   have back:∀kd,(x,kd)∈(relabel scope X.env).names->kd=.cell∨kd=.free->∃y∈scope.names,y.1=x/\y.2=.free:=by
    intro kd hm hk;obtain ⟨⟨n,k'⟩,hy,e⟩:=aD.mp hm;dsimp only at e;by_cases hc:(k' == kS && X.env.scope.kind == .function && X.env.kindOf n == some .cell)=true
    ·have hk':k'=.free:=by
      simp only [r_] at hc;simpa using hc.1.1
     rw [if_pos hc] at e;cases e;exact ⟨_,hy,rfl,hk'⟩
    ·rw [if_neg hc] at e;cases e;rcases hk with rfl | rfl
     ·exact absurd rfl (S.cell _ hy)
     ·exact ⟨_,hy,rfl,rfl⟩
   rcases h' with h' | h'
   ·exact back _ (mem _ _ h') (.inl rfl)
   ·exact back _ (mem _ _ h') (.inr rfl)
  obtain ⟨y,hy,rfl,hk⟩:=key;exact A0.mp (hcf y hy hk)
 cab:=fun x c h=>by cases h
 hd:=I.ok.hd
 frames:=I.ok.frames
 stk:=.inl rfl
 exf:=fun b hb=>⟨cV (hlt b hb),fun x c e=>(hf b hb).2.2.2.2.1 x c (hcl x c e)⟩
 bs:=I.bs
 bsz:=bH I.ok.bsz I.sz
 noex:=fun b o e hb=>by
  rcases (hf b hb).2.2.2.1 with z | z
  ·exact I.ok.noex b o e z
  ·exact absurd (iC (aY (I.ok.bs b o e).1) z) (qx _)
 exfs:=fun b hb z=>by
  obtain ⟨_,f1,f2,_⟩:=hf b hb;rcases cU.mp (I.stkSub b z) with q | q
  ·exact f1 q
  ·exact f2 q
 funs:=I.stack
 frf:=I.stkFree
theorem Fg {k:Nat}{N:Zb}{scope:Scope}{fi:List Nat}{H:Hp}{s:Shared}{cl:List (Str×Addr)}{fp:Ze}{h₁:Heap}{t':Nat}{m:Str->Option Value}(S:nK X.env.scope scope k N X.N fi) (I:Inv X J3 σ H s)
  (hcl:∀x c,cl.lookup x=some c->X.env.cells.lookup x=some c) (hcf:∀y∈scope.names,y.2=.free->(cl.lookup y.1).isSome=true) (hf:∀b∈fp,nJ X J3 H b) (hlt:∀b∈fp,b<s.heap.objs.size)
  (hn:h₁.Ns s.heap.objs.size m) (old:∀b o,s.heap.get? b=some o->h₁.get? b=some o) :
  Inv (dH X N scope s.heap.objs.size cl s H fp (X.pn++J3)) [] (dF k fi σ) H { s with heap:=h₁,toks:=t' }:=by
 have memOf:∀(l:List (Str×jv)) (x:Str) (kd:jv),l.lookup x=some kd->(x,kd)∈l:=by
  intro l
  induction l with
  | nil=>intro x kd e; cases e
  | cons a r ih =>
   intro x kd e;obtain ⟨n,k'⟩:=a;rw [iG] at e;cases hx:x == n with
   | true =>
    rw [hx] at e;have:x=n:=by simpa using hx
    subst this;cases e;exact eg
   | false=>rw [hx] at e; exact fb _ (ih x kd e)
 refine ⟨GA S I hcl hcf hf hlt,rfl,I.bare,Un.kept old,⟨m,hn,fun i x v e1 e2 e3=>?_⟩,fun x c e=>?_,I.hok.fresh (aG _),fun x c e=>I.freeC x c (hcl x c e),fun p hp=>?_,I.hok.kept old,?_⟩
 ·obtain ⟨j,t,rfl,ht,hv⟩:=tH e2;obtain ⟨y,hy,hXN,hfr⟩:=S.sl j t ht;have e1':N[k+j]?=some x:=e1;rw [hy] at e1';cases e1';have hmem:=memOf _ _ _ hfr;obtain ⟨c,hc⟩:=A0.mp (hcf _ hmem rfl);have hX:=hcl _ _ hc;obtain ⟨mX,hnX,hlX⟩:=I.loc;have kX:=S.fr _ hmem rfl;obtain ⟨u,ru,lk⟩:=hlX t x v hXN hv (by rcases kX with z | z; exact .inr (.inl z); exact .inr (.inr z));refine ⟨u,ru,.inr ⟨?_,c,hc,?_⟩⟩
  ·exact ig hfr
  ·rcases lk with ⟨z,_⟩ | ⟨_,c',e',q⟩
   ·have z':X.env.scope.names.lookup x=some .local:=z;rcases kX with kX | kX <;> rw [z'] at kX <;> cases kX
   ·rw [hX] at e';cases e';obtain ⟨o,ho,hd⟩:=q;exact ⟨o,old _ o ho,hd⟩
 ·obtain ⟨v,o,ho,hd⟩:=I.cell x c (hcl x c e);exact ⟨v,o,old _ o ho,hd⟩
 ·rw [fK] at hp;obtain ⟨e,n,ne,nf,d⟩:=I.pin p hp;refine ⟨old _ _ e,n,cV (aY e),fun z=>?_,d⟩;rcases cU.mp (I.stkSub _ z) with q | q
  ·exact ne q
  ·exact nf q
 ·rw [AH];exact S.len.symm
structure xy (X:Cx) (J3:Zd) (H:Hp) (C:Addr):Prop where
 free:H C=none
 loc:C≠X.env.locals
 young:X.s₀.heap.objs.size<=C
 cells:∀x c,X.env.cells.lookup x=some c->c≠C
 pin:∀p∈X.pn++J3,p.1≠C
theorem tG {elt iter tg:Expr}{ifs:List Expr}{scope:Scope}{pos:Pos}{k:Nat}{N:Zb}{fi:List Nat}{cl:List (Str×Addr)}{g:TG}{tc:TT}{te:TE}{it:Addr}{fp:Ze}{tn:Nat->Heap->Prop}{J:It}{H2:Hp}{s2:Shared}{Q:VK}
  {E:Zc}{RR:Value->Addr->Result->Shared->Prop}
  (S:nK X.env.scope scope k N X.N fi) (hc:X.calm=true) (hcl:∀x c,cl.lookup x=some c->X.env.cells.lookup x=some c) (hcf:∀y∈scope.names,y.2=.free->(cl.lookup y.1).isSome=true)
  (hg:∀C cl s₀ H₀ ex pn,PG (dH X N scope C cl s₀ H₀ ex pn) tg g) (ho:zf k g) (ht:∀C cl s₀ H₀ ex pn,G3 (dH X N scope C cl s₀ H₀ ex pn) ifs tc) (he:∀C cl s₀ H₀ ex pn,PE (dH X N scope C cl s₀ H₀ ex pn) elt te)
  (I2:Inv X J3 σ H2 s2) (T:qY X.prog X.w X.K tg J fp it tn) (st2:tn 0 s2.heap) (f2:∀b∈fp,nJ X J3 H2 b)
  (hw:∀l,H2 l=none->∃W:Nat->Nat->List V->Hp->Prop,(∃m,W 0 m [] (upd H2 l (.lst [])))/\∀i m vs H2,W i m vs H2->H2 l=some (.lst vs) /\
   ((J.stop i H2/\Q (.ref l) H2)∨(J.go i H2/\∀x H3,J.yld i H2 x H3->g x (dF k fi σ) H3 fun σ2 H4=>tc σ2 H4 fun b H5 =>
    if b=true then te σ2 H5 fun v H6=>H6 l=some (.lst vs)/\vs.length<ai/\∃m',m'<m/\W (i+1) m' (vs++[v]) (upd H6 l (.lst (vs++[v]))) else ∃m',m'<m/\W (i+1) m' vs H5)))
  (hR:∀D C H' s' m',Inv X J3 σ H' s'->s'.heap.Ns C m'->xy X J3 H' C->Q (.ref D) H'->RR (.ref D) C (.ok .next) s') :
  wpAny (model X.prog X.w) X.A (newList []) (fun acc s₃=>wpAny (model X.prog X.w) X.A (newFunctionEnv scope X.env.globals cl [] X.env.qual none .none (some X.env)) (fun cenv s₄ =>
   zzl77 (model X.prog X.w) X.A (.compStart (.ListComp elt [⟨tg,iter,ifs,0⟩] scope pos) 0 (.ref it) acc { cenv with scope:=relabel scope X.env }) (RR acc cenv.locals) s₄) E s₃) E s2:=by
 have hfresh:H2 s2.heap.objs.size=none:=I2.fresh;obtain ⟨W,⟨m0,w0⟩,turn⟩:=hw _ hfresh;refine jj (wpAny_newFunctionEnv S.cell (by intro y hy; simp at hy) (fun h₁ hns₁ hsb₁=>?_) S.kind);dsimp only at hns₁ hsb₁ ⊢;have I3:Inv X J3 σ (upd H2 s2.heap.objs.size (.lst [])) { s2 with heap:=s2.heap.push { cls:=.type "list",data:=.seq ([]:Zf).toArray },toks:=s2.toks }:=I2.lnew (ys:=[]) .nil (c9 _);generalize hs3:({ s2 with heap:=s2.heap.push { cls:=.type "list",data:=.seq ([]:Zf).toArray },toks:=s2.toks }:Shared)=s3 at I3;have hh3:s3.heap=s2.heap.push { cls:=.type "list",data:=.seq ([]:Zf).toArray }:=by rw [<-hs3]
 have hsz:s3.heap.objs.size=s2.heap.objs.size+1:=by rw [hh3,nT]
 have hlt:∀b∈fp,b<s2.heap.objs.size:=fun b hb=>by
  obtain ⟨o,e,_⟩:=T.obj 0 _ st2 b hb;exact aY e
 have f3:∀b∈fp,nJ X J3 (upd H2 s2.heap.objs.size (.lst [])) b:=fun b hb=>⟨by rw [af (cV (hlt b hb))]; exact (f2 b hb).1,(f2 b hb).2⟩;have hlt3:∀b∈fp,b<s3.heap.objs.size:=fun b hb=>by rw [hsz]; exact Nat.lt_succ_of_lt (hlt b hb)
 have old:∀b o,s3.heap.get? b=some o->h₁.get? b=some o:=fun b o e=>by
  have hb:b≠s3.heap.objs.size:=cV (aY e);rw [hh3] at e hb;exact hsb₁.extBut b o hb (bq _ e)
 have hns:h₁.Ns s3.heap.objs.size (fun x=>([]:List (Str×Value)).reverse.lookup x):=by rw [hh3]; exact hns₁
 have I4:Inv (dH X N scope s3.heap.objs.size cl s3 (upd H2 s2.heap.objs.size (.lst [])) fp (X.pn++J3)) [] (dF k fi σ) (upd H2 s2.heap.objs.size (.lst [])) { s3 with heap:=h₁,toks:=s2.toks+([]:List (Str×Value)).length } :=
  Fg S I3 hcl hcf f3 hlt3 hns old
 have st4:tn 0 h₁:=T.keep _ _ _ st2 fun b hb o e=>old b o (by rw [hh3]; exact bq _ e);generalize hY:dH X N scope s3.heap.objs.size cl s3 (upd H2 s2.heap.objs.size (.lst [])) fp (X.pn++J3)=Y at I4;have yp:Y.prog=X.prog:=by rw [<-hY]; rfl
 have yw:Y.w=X.w:=by rw [<-hY]; rfl
 have yK:Y.K=X.K:=by rw [<-hY]; rfl
 have yA:Y.A=X.A:=by rw [<-hY]; rfl
 have yx:Y.xe=XF:=by rw [<-hY]; rfl
 have yc:Y.calm=true:=by rw [<-hY]; exact hc
 have gY:PG Y tg g:=by rw [<-hY]; exact hg _ _ _ _ _ _
 have tY:G3 Y ifs tc:=by rw [<-hY]; exact ht _ _ _ _ _ _
 have eY:PE Y elt te:=by rw [<-hY]; exact he _ _ _ _ _ _
 have yenv:Y.env=compEnvC scope cl s3.heap.objs.size X.env:=by rw [<-hY]; rfl
 have fY:∀{H':Hp},(∀b∈fp,H' b=none)->∀b∈fp,nJ Y [] H' b:=fun hn b hb=>by
  obtain ⟨f0,f1,f2',f3',f4,f5⟩:=f3 b hb;rw [<-hY];refine ⟨hn b hb,cV (hlt3 b hb),fun z=>?_,.inl hb,fun x c e=>f4 x c (hcl x c e),fun p hp=>?_⟩
  ·rcases cU.mp (I3.stkSub _ z) with q | q
   ·exact f1 q
   ·exact f2' q
  ·rw [fK] at hp;exact f5 p hp
 have loop:∀s4:Shared,s4={ s3 with heap:=h₁,toks:=s2.toks+([]:List (Str×Value)).length } ->
   zzl77 (model X.prog X.w) X.A (.compLoop (.ListComp elt [⟨tg,iter,ifs,0⟩] scope pos) 0 (.ref it) (.ref s2.heap.objs.size) Y.env) (RR (.ref s2.heap.objs.size) s3.heap.objs.size) s4:=by
  rintro s4 rfl;refine xa (fun n s'=>∃i vs H',Inv Y [] (dF k fi σ) H' s'/\tn i s'.heap/\(∀b∈fp,H' b=none)/\W i n vs H') ?_ m0 ⟨0,[],_,I4,st4,fun b hb=>(f3 b hb).1,w0⟩;rintro n s5 ⟨i,vs,H5,I5,st5,fr5,w5⟩;obtain ⟨hl5,hcase⟩:=turn i n vs H5 w5;rcases hcase with ⟨stop,q⟩ | ⟨go,step⟩
  ·have d:=T.done Y yp yw yK yc i [] s5 _ H5 XF I5 (fY fr5) st5 stop;rw [yA] at d;refine cB d fun r s6 ⟨hr,I6⟩=>?_;subst hr;have hu:Un (Dy X.stack) fp (upd H2 s2.heap.objs.size (.lst [])) H5 s3.heap s6.heap:=by have:=I6.base; rw [<-hY] at this; exact this
   have ho6:s6.os=s3.os:=by have:=I6.os; rw [<-hY] at this; exact this
   have hok6:lZ X.prog X.w X.K H5 s6.heap:=by have:=I6.hok; rw [<-hY] at this; exact this
   have hC6:H5 s3.heap.objs.size=none:=by have:=I6.free; rw [<-hY] at this; exact this
   obtain ⟨m6,hn6,_⟩:=I6.loc;have hn6':s6.heap.Ns s3.heap.objs.size m6:=by rw [<-hY] at hn6; exact hn6
   have IX:Inv X J3 σ H5 s6:=I3.call' ho6 hu hok6 I6.bare fun b hb=>by
    obtain ⟨f0,f1,f2',f3',f4,f5⟩:=f3 b hb;exact ⟨f3',f1,f4,f5⟩
   refine hR _ _ H5 s6 m6 IX hn6' ⟨hC6,gj I3.lt,I3.sz,fun x c e z=>?_,fun p hp z=>?_⟩ q
   ·obtain ⟨v,o,ho,_⟩:=I3.cell x c e;exact absurd (aY ho) (by rw [z]; exact qx _)
   ·exact absurd (aY (I3.pin p hp).1) (by rw [z]; exact qx _)
  ·have d:=T.item Y yp yw yK yc i [] s5 _ H5 XF I5 (fY fr5) st5 go;rw [yA] at d;refine cB d fun r s6 ⟨u,hr,h6⟩=>?_;subst hr;refine cB h6 fun _ s7 ⟨x,H7,I7,r7,y7,st7,fr7⟩=>?_;have I7':=I7.pinned (fY fr7) (T.obj _ _ st7);have a7:=gY _ s7 _ H7 x u _ I7' r7 (ho _ _ _ _ (step x H7 y7));rw [yp,yw,yA,yx] at a7;refine cB a7 fun _ s8 ⟨σ8,H8,I8,q8,l8,k8⟩=>?_;have a8:=tY _ s8 σ8 H8 _ I8 q8;rw [yp,yw,yA,yx] at a8;have again:∀{H9:Hp}{s9:Shared}{vs':List V}{m':Nat},Inv Y ([]++sU fp s7.heap) σ8 H9 s9->m'<n->W (i+1) m' vs' H9->∃m,m<n/\∃i vs H',Inv Y [] (dF k fi σ) H' s9/\tn i s9.heap/\(∀b∈fp,H' b=none)/\W i m vs H':=fun {H9 s9 vs' m'} I9 hm w9=>by
    refine ⟨m',hm,i+1,vs',H9,(I9.unpinned).weak l8.symm (fun j v e=>?_),T.keep _ _ _ st7 fun b hb o e=>(I9.pin (b,o) (dz _ (dz _ (j4 hb e)))).1,fun b hb=>?_,w9⟩
    ·obtain ⟨j',t,rfl,_,_⟩:=tH e;rw [k8 _ (Nat.le_add_right _ _)];exact e
    ·obtain ⟨o,e,_⟩:=T.obj _ _ st7 b hb;exact (I9.pin (b,o) (dz _ (dz _ (j4 hb e)))).2.1
   refine cB a8 fun b s9 ⟨H9,I9,q9⟩=>?_;cases b with
   | false =>
    rw [if_neg gh] at q9 ⊢;obtain ⟨m',hm,w9⟩:=q9;exact again I9 hm w9
   | true =>
    rw [if_pos rfl] at q9 ⊢;have a9:=eY _ s9 σ8 H9 _ I9 q9;rw [yp,yw,yA,yx] at a9;refine cB a9 fun y s10 ⟨v,H10,I10,r10,hl10,hsz10,m',hm,w10⟩=>?_;have a10:=bL (X:=Y) _ s10 σ8 H10 (.ref s2.heap.objs.size) [v] (.ref s2.heap.objs.size) [y] (fun z H'=>z=.non/\H'=upd H10 s2.heap.objs.size (.lst (vs++[v]))) I10 rfl (.cons r10 .nil) ⟨_,vs,v,rfl,rfl,hl10,hsz10,rfl,rfl⟩;rw [yp,yw,yA,yx] at a10;refine cB a10 fun _ s11 ⟨_,H11,I11,_,_,e11⟩=>?_;subst e11;exact again I11 hm w10
 have hstart:=codeAny_compStart_list (prog:=X.prog) (w:=X.w) (A:=X.A) (elt:=elt) (target:=tg) (iter:=iter) (ifs:=ifs) (rest:=[]) (scope:=scope) (pos:=pos) (it:=.ref it) (acc:=.ref s2.heap.objs.size) (env:=Y.env) (loop _ rfl) (T.self _ 0 _ _ _ st4 (loop _ rfl));rw [yenv] at hstart;rw [<-hs3] at hstart;exact hstart
end
section
variable {X:Cx}
theorem xy.turned {J3:Zd}{σ:St}{H:Hp}{s:Shared}{C:Addr}{h':Heap}(c:xy X J3 H C) (I:Inv X J3 σ H s) (hs:fF C s.heap h'):Inv X J3 σ H { s with heap:=h' } :=
 I.turned (t':=s.toks) (fun b o hb e=>hs.extBut b o hb e) c.free c.loc (.inr c.young) c.cells c.pin
theorem Gg {elt iter tg:Expr}{ifs:List Expr}{scope:Scope}{pos:Pos}{k:Nat}{N:Zb}{fi:List Nat}{wi:TI}{g:TG}{tc:TT}{te:TE}(hS:lY X.env.scope scope k N X.N fi=true) (hc:X.calm=true) (hi:PI X tg iter wi)
  (hg:∀C cl s₀ H₀ ex pn,PG (dH X N scope C cl s₀ H₀ ex pn) tg g) (ho:zf k g) (ht:∀C cl s₀ H₀ ex pn,G3 (dH X N scope C cl s₀ H₀ ex pn) ifs tc) (he:∀C cl s₀ H₀ ex pn,PE (dH X N scope C cl s₀ H₀ ex pn) elt te)
  (hs:∀x,xE iter X.env x=pure x:=by intro _; rfl):PE X (.ListComp elt [⟨tg,iter,ifs,0⟩] scope pos) (dA k fi wi g tc te):=by
 intro J3 s σ H Q I h;have S:=nK.of hS;obtain ⟨cl,hclos,hcl,hcf⟩:=tI (env:=X.env) (scope:=scope) fun y hy e=>I.ok.has y.1 (S.fr y hy e);rw [eval_ListComp];refine wpAny_comprehension_free (use:=none) rfl hs hclos S.kind S.nm (cB (hi J3 s σ H _ I h) fun v s1 h1=>cB h1 fun itv s2 h2=>?_);obtain ⟨it,fp,tn,J,H2,e,I2,T,st2,f2,hw⟩:=h2;subst e;refine tG (RR:=fun acc C=>compPost (model X.prog X.w) X.A X.xe none (EP X J3 σ Q) acc C) S hc hcl hcf hg ho ht he I2 T st2 f2 hw ?_;intro D C H' s' m' I' hn ce q;exact ⟨m',hn,fun h' hs'=>⟨.ref D,H',ce.turned I' hs',rfl,q⟩⟩
theorem Af {elt iter tg:Expr}{ifs:List Expr}{scope:Scope}{pos spos py:Pos}{k:Nat}{N:Zb}{fi:List Nat}{wi:TI}{g:TG}{tc:TT}{te:TE}{j:Nat}{y:Str}(hN:X.N.Nodup) (hj:X.N[j]?=some y) (hy:Loc X.env.scope y) (hS:lY X.env.scope scope k N X.N fi=true) (hc:X.calm=true) (hi:PI X tg iter wi)
  (hg:∀C cl s₀ H₀ ex pn,PG (dH X N scope C cl s₀ H₀ ex pn) tg g) (ho:zf k g) (ht:∀C cl s₀ H₀ ex pn,G3 (dH X N scope C cl s₀ H₀ ex pn) ifs tc) (he:∀C cl s₀ H₀ ex pn,PE (dH X N scope C cl s₀ H₀ ex pn) elt te)
  (hsw:qv (.ListComp elt [⟨tg,iter,ifs,0⟩] scope pos) (some (.Name y py)) spos.line X.env=pure true:=by rfl)
  (hs:∀x,xE iter X.env x=pure x:=by intro _; rfl) (hf:X.fn y=true∨X.env.scope.names.lookup y=some .local:=by first | exact .inl rfl | exact .inr rfl | assumption) :
  PS X (.Assign [.Name y py] (.ListComp elt [⟨tg,iter,ifs,0⟩] scope pos) spos) (aP (dA k fi wi g tc te) (d6 j)):=by
 intro J3 s σ H D I h;have S:=nK.of hS;obtain ⟨cl,hclos,hcl,hcf⟩:=tI (env:=X.env) (scope:=scope) fun y hy e=>I.ok.has y.1 (S.fr y hy e);rw [exec_Assign_Name_used _ _ _ _ hsw];refine ak (Bi (ak ?_));show wpAny _ X.A (do let _ <- comprehension (.ListComp elt [⟨tg,iter,ifs,0⟩] scope pos) scope X.env _ (newList []) false (eval iter X.env) (some (assign (.Name y py) X.env))) _ _ s
 refine ak (jy (wpAny_comprehension_free (use:=some (assign (.Name y py) X.env)) (Q:=fun _ s'=>SP X J3 D .next s') rfl hs hclos S.kind S.nm
  (cB (hi J3 s σ H _ I h) fun v s1 h1=>cB h1 fun itv s2 h2=>?_)) (fun _ s' hq=>aH (aH hq)) fun _ _ e=>e)
 obtain ⟨it,fp,tn,J,H2,e,I2,T,st2,f2,hw⟩:=h2;subst e;refine tG (RR:=fun acc C=>compPost (model X.prog X.w) X.A X.xe (some (assign (.Name y py) X.env)) (fun _ s'=>SP X J3 D .next s') acc C) (Q:=fun x H1=>d6 j x σ H1 D.nx) S hc hcl hcf hg ho ht he I2 T st2 f2 hw ?_;intro A C H' s' m' I' hn ce q;show wpAny _ X.A (assign (.Name y py) X.env (.ref A)) _ _ _;refine wpAny_assign_Name (uX I' hN hj hy (v:=.ref A) rfl (fun s'' I'' hsb=>?_) hf);obtain ⟨a,hsa,ha⟩:=hsb;have hCa:C≠a:=by
  rcases ha with z | z
  ·rw [z]; exact ce.loc
  ·exact c_ (ce.cells y a z)
 refine ⟨m',hn.sameBut hsa hCa,fun h' hs'=>?_⟩;exact ⟨_,H',ce.turned I'' hs',q⟩
end
theorem Inv.turnedNew {X:Cx}{J3:Zd}{σ:St}{H:Hp}{s:Shared}{h2:Heap}{t':Nat}{ch:Ze}{o:HO}(I:Inv X J3 σ H s) (hf:∀b∈ch,nJ X J3 H b)
  (k:∀b q,b∉ch->s.heap.get? b=some q->h2.get? b=some q) (hq:∃q,h2.get? s.heap.objs.size=some q) (hno:∀y,o≠.own y) (new:bV X.prog X.w X.K (upd H s.heap.objs.size o) h2 s.heap.objs.size o) :
  Inv X J3 σ (upd H s.heap.objs.size o) { s with heap:=h2,toks:=t' }:=by
 have hn0:H s.heap.objs.size=none:=I.fresh;have nsz:∀b q,s.heap.get? b=some q->b≠s.heap.objs.size:=fun b q e=>cV (aY e);have tr:∀b u,H b=some u->b∉ch:=fun b u e z=>by rw [(hf b z).1] at e; cases e
 refine I.step (g':=s.gens) (d':=s.drawn) (ch:=ch) (fun b hb=>?_) (fun b q _ _ hc e _=>k b q hc e) (fun b q _ _ hc e _=>⟨q.slots,k b q hc e⟩) (fun b q _ e n=>by rw [af (nsz b q e)]; exact n) (fun b q hc e=>⟨q,k b q hc e⟩)
  (fun b xs e=>by rw [af (ae e hn0)]; exact e) (fun b q u e=>by rw [af (ae e hn0)]; exact e) (fun b ps e=>⟨#[],by rw [af (ae e hn0),e]; simp⟩) (fun m hm=>?_) (fun b u e=>?_) I.bare
 ·obtain ⟨f0,f1,f2,f3,f4,f5⟩:=hf b hb;exact ⟨f3,f1,f4,f5⟩
 ·obtain ⟨q,es,ep,ho,r⟩:=hm;exact ⟨q,es,ep,k _ q (fun z=>(hf _ z).2.1 rfl) ho,r⟩
 ·by_cases hb:b=s.heap.objs.size
  ·subst hb; rw [aa] at e; cases e; exact new
  ·rw [af hb] at e;refine (I.hok b u e).stay (fun c v hc q=>k c v ?_ q) (fun c q=>by rw [af (ae q hn0)]; exact q) fun c xs q=>by rw [af (ae q hn0)]; exact q
   rcases hc with z | z
   ·subst z; exact tr _ _ e
   ·exact tr _ _ z
def H_ (K:Za) (a:Addr):It :=
 ⟨fun i H=>∃xs x,aA K H a xs/\xs[i]?=some x,fun i H x H'=>∃p v,x=.ref p/\H p=none/\(∀xs,aA K H a xs->xs[i]?=some v)/\H'=upd H p (.tup [.int i,v]),fun i H=>∃xs,aA K H a xs/\xs.length<=i⟩
theorem Cy {P:bR}{w:World}{K:Za}{es:List Expr}{kx:Nat}{J7:Pos}(a e it:Addr) (hne:e≠it) :
  qY P w K (.Tuple es kx J7) (H_ K a) [e,it] e (fun i h=>(∃old,IsEnum h e it i old)/\h.IsListIter it a i) where
 mem:=by simp
 obj:=fun i h st b hb=>by
  obtain ⟨⟨old,he⟩,o,ho,hc,hd⟩:=st;rcases cU.mp hb with z | z
  ·subst z; exact ⟨_,he,fun v z=>by cases z⟩
  ·have z':b=it:=by simpa using z
   subst z';exact ⟨o,ho,fun v z=>by rw [hd] at z; cases z⟩
 keep:=fun i h h' st k=>⟨let ⟨old,he⟩:=st.1; ⟨old,k e (by simp) _ he⟩,st.2.at fun o e=>k it (by simp) o e⟩
 item:=by
  intro X hP hw hK hc i J3 s σ H E I hf st hg;subst hP hw hK;obtain ⟨⟨old,he⟩,hit⟩:=st;obtain ⟨xs,x,hq,hx⟩:=hg;obtain ⟨its,rv,p,hz⟩:=I.list hq;obtain ⟨u,hu,ru⟩:=rv.get hx;obtain ⟨e0,e1,e2,e3,e4,e5⟩:=hf e (by simp);obtain ⟨f0,f1,f2,f3,f4,f5⟩:=hf it (by simp);refine wpAny_pyNext_enum_item he hit p.isList (x:=u) (by simpa using hu) hne fun h' ho' hit' ht' hsz' hk'=>?_;refine ⟨_,rfl,wpAny_letOwnedTupleGo_enum (s:={ s with heap:=h',toks:=s.toks+1 }) ho' fun h2 he2 hs2=>?_⟩;have hs2':fF e h' h2:=hs2;have hpe:s.heap.objs.size≠e:=gj (aY he);have ht2:h2.get? s.heap.objs.size=some { cls:=.type "tuple",data:=.seq #[.int i s.toks,u] }:=hs2'.extBut _ _ hpe ht';have hn0:H s.heap.objs.size=none:=I.fresh;have hue:upd H s.heap.objs.size (.tup [.int i,x]) e=none:=by rw [af (c_ hpe)]; exact e0
  have hpi:s.heap.objs.size≠it:=by
   obtain ⟨o,ho,_⟩:=hit;exact gj (aY ho)
  have hui:upd H s.heap.objs.size (.tup [.int i,x]) it=none:=by rw [af (c_ hpi)]; exact f0
  have I2:Inv X J3 σ (upd H s.heap.objs.size (.tup [.int i,x])) { s with heap:=h2,toks:=s.toks+1 }:=by
   refine I.turnedNew (ch:=[e,it]) hf (fun b o hb q=>?_) ⟨_,ht2⟩ (fun _ z=>nomatch z) ⟨by show 2<=ai; decide,[.int i s.toks,u],.cons ⟨_,rfl⟩ (.cons ru .nil),⟨_,ht2,rfl,_,rfl⟩⟩;have nb1:b≠e:=fun z=>hb (by simp [z]);have nb2:b≠it:=fun z=>hb (by simp [z]);exact hs2'.extBut _ _ nb1 (hk' b o nb1 nb2 q)
  refine ⟨.ref s.heap.objs.size,_,I2,rfl,⟨_,x,rfl,hn0,fun ys hy=>by rw [I.list_inj hy hq]; exact hx,rfl⟩,⟨⟨u,by simpa using he2⟩,hit'.at fun o y=>(hs2'.2 it (c_ hne)).trans y⟩,fun b hb=>?_⟩;rcases cU.mp hb with z | z
  ·subst z; exact hue
  ·have z':b=it:=by simpa using z
   subst z'; exact hui
 done:=by
  intro X hP hw hK hc i J3 s σ H E I hf st hg;subst hP hw hK;obtain ⟨⟨old,he⟩,hit⟩:=st;obtain ⟨xs,hq,hx⟩:=hg;obtain ⟨its,rv,p,hz⟩:=I.list hq;obtain ⟨f0,f1,f2,f3,f4,f5⟩:=hf it (by simp);have hl:=rv.length;exact wpAny_pyNext_enum_end (I.ok.hd hc) he hit p.isList (by simp; omega) fun h' eb=>⟨rfl,I.turned (t':=s.toks) (fun b o hb e=>eb b o hb e) f0 f1 f3 f4 f5⟩
 self:=fun _ _ _ _ _ st h=>let ⟨_,he⟩:=st.1; wpAny_pyIter_enum he h
section
variable {X:Cx}{p pos:Pos}{es:List Expr}{kx:Nat}{J7:Pos}
def vj (K:Za) (ta:TA):TI:=fun σ H R=>ta σ H fun vs H1=>∃a,vs=[.ref a]/\(∃xs,aA K H1 a xs)/\R (H_ K a) H1
theorem oF {a:Expr}{ta:TA}(hg:Gl X "enumerate") (hm:X.mg "enumerate"=none) (ha:PA X [a] ta) (hs:aN [a] X.env=[(false,eval a X.env)]:=by rfl):PI X (.Tuple es kx J7) (.Call (.Name "enumerate" p) [a] [] pos) (vj X.K ta):=by
 intro J3 s σ H R I h;refine Call_ (p5 I hg hm boot_enumerate (Be (cB (ha pos J3 s σ H _ I h) fun us s1 ⟨vs,H1,I1,r1,q1⟩=>?_) hs rfl));obtain ⟨l,e,⟨xs,hq⟩,q⟩:=q1;subst e;obtain ⟨u,rfl,ru⟩:=vals1 r1;cases ru;obtain ⟨its,rv,pl,hz⟩:=I1.list hq;refine call_enumerate_list pl.isList fun h' he hit hsz hk=>?_;refine wpAny_pyIter_enum (s:={ s1 with heap:=h' }) he ?_;have hk':∀b o,s1.heap.get? b=some o->h'.get? b=some o:=hk;have I2:Inv X J3 σ H1 { s1 with heap:=h' }:=I1.kept (t':=s1.toks) hk';refine ⟨_,[s1.heap.objs.size+1,s1.heap.objs.size],_,_,H1,rfl,I2,Cy l _ _ (Nat.succ_ne_self _),⟨⟨_,he⟩,hit⟩,fun b hb=>?_,q⟩;have hb':s1.heap.objs.size<=b:=by
  rcases cU.mp hb with z | z
  ·rw [z]; exact mw _
  ·have z':b=s1.heap.objs.size:=by simpa using z
   rw [z']; exact aG _
 exact I1.fpOk hb' (I1.hok.fresh hb')
end
def Iy (x:Str):It:=⟨fun i _=>i<x.cps.size,fun i H y H'=>H'=H/\∃c,x.cps[i]?=some c/\y=.str ⟨#[c]⟩,fun i _=>x.cps.size<=i⟩
theorem zI {P:bR}{w:World}{K:Za}{tg:Expr}(x:Str) (t:Tok) (it:Addr):qY P w K tg (Iy x) [it] it (fun i h=>h.IsStrIter it "str_ascii_iterator" x t i) where
 mem:=by simp
 obj:=fun i h st b hb=>by
  have e:b=it:=by simpa using hb
  subst e;obtain ⟨o,e,c,d⟩:=st;exact ⟨o,e,fun v z=>by rw [d] at z; cases z⟩
 keep:=fun i h h' st k=>by
  obtain ⟨o,e,c,d⟩:=st;exact ⟨o,k it (by simp) o e,c,d⟩
 item:=by
  intro X hP hw hK hc i J3 s σ H E I hf st hg;subst hP hw hK;have hlt:i<x.cps.size:=hg;obtain ⟨f0,f1,f2,f3,f4,f5⟩:=hf it (by simp);have hx:x.cps[i]?=some x.cps[i]:=by simp [hlt]
  refine wpAny_pyNext_ascii_item st hx fun h' st' sb=>?_;have I1:Inv X J3 σ H { s with heap:=h',toks:=s.toks+1 }:=I.turned (t':=s.toks+1) (fun b o hb e=>(sb.2 b hb).trans e) f0 f1 f3 f4 f5;obtain ⟨o,e,c,d⟩:=id st';exact ⟨_,rfl,vk (s:={ s with heap:=h',toks:=s.toks+1 }) e c d (by decide) ⟨.str ⟨#[x.cps[i]]⟩,H,I1,⟨_,rfl⟩,⟨rfl,_,hx,rfl⟩,st',fun b hb=>(hf b hb).1⟩⟩
 done:=by
  intro X hP hw hK hc i J3 s σ H E I hf st hg;subst hP hw hK;have hge:x.cps.size<=i:=hg;obtain ⟨f0,f1,f2,f3,f4,f5⟩:=hf it (by simp);exact wpAny_pyNext_ascii_end (I.ok.hd hc) st (by simp; omega) fun h' eb=>⟨rfl,I.turned (t':=s.toks) (fun b o hb e=>eb b o hb e) f0 f1 f3 f4 f5⟩
 self:=fun _ _ _ _ _ st h=>wpAny_pyIter_striter_ascii st h
theorem Cv {P:bR}{w:World}{K:Za}{tg:Expr}(x:Str) (t:Tok) (it:Addr):qY P w K tg (Iy x) [it] it (fun i h=>h.IsStrIter it "str_iterator" x t i) where
 mem:=by simp
 obj:=fun i h st b hb=>by
  have e:b=it:=by simpa using hb
  subst e;obtain ⟨o,e,c,d⟩:=st;exact ⟨o,e,fun v z=>by rw [d] at z; cases z⟩
 keep:=fun i h h' st k=>by
  obtain ⟨o,e,c,d⟩:=st;exact ⟨o,k it (by simp) o e,c,d⟩
 item:=by
  intro X hP hw hK hc i J3 s σ H E I hf st hg;subst hP hw hK;have hlt:i<x.cps.size:=hg;obtain ⟨f0,f1,f2,f3,f4,f5⟩:=hf it (by simp);have hx:x.cps[i]?=some x.cps[i]:=by simp [hlt]
  refine wpAny_pyNext_wide_item st hx fun h' st' sb=>?_;have I1:Inv X J3 σ H { s with heap:=h',toks:=s.toks+1 }:=I.turned (t':=s.toks+1) (fun b o hb e=>(sb.2 b hb).trans e) f0 f1 f3 f4 f5;obtain ⟨o,e,c,d⟩:=id st';exact ⟨_,rfl,vk (s:={ s with heap:=h',toks:=s.toks+1 }) e c d (by decide) ⟨.str ⟨#[x.cps[i]]⟩,H,I1,⟨_,rfl⟩,⟨rfl,_,hx,rfl⟩,st',fun b hb=>(hf b hb).1⟩⟩
 done:=by
  intro X hP hw hK hc i J3 s σ H E I hf st hg;subst hP hw hK;have hge:x.cps.size<=i:=hg;obtain ⟨f0,f1,f2,f3,f4,f5⟩:=hf it (by simp);exact wpAny_pyNext_wide_end (I.ok.hd hc) st (by simp; omega) fun h' eb=>⟨rfl,I.turned (t':=s.toks) (fun b o hb e=>eb b o hb e) f0 f1 f3 f4 f5⟩
 self:=fun _ _ _ _ _ st h=>wpAny_pyIter_striter_wide st h
section
variable {X:Cx}{p pos:Pos}{tg:Expr}
def HM (tl:TE):TI:=fun σ H R=>tl σ H fun v H1=>∃x,v=.str x/\R (Iy x) H1
theorem Hc {l:Expr}{tl:TE}(hl:PE X l tl):PI X tg l (HM tl):=by
 intro J3 s σ H R I h;refine cB (hl J3 s σ H _ I h) fun v s1 ⟨y,H1,I1,r1,q1⟩=>?_;obtain ⟨x,e,q⟩:=q1;subst e;obtain ⟨t,rfl⟩:=r1;have fin:∀b∈[s1.heap.objs.size],nJ X J3 H1 b:=fun b hb=>by
  have e:b=s1.heap.objs.size:=by simpa using hb
  subst e;exact I1.fpOk (aG _) (I1.hok.fresh (aG _))
 cases ha:x.cps.all (·<128)
 ·refine wpAny_pyIter_wide ha ?_;exact ⟨s1.heap.objs.size,[s1.heap.objs.size],_,_,H1,rfl,I1.kept (t':=s1.toks) fun b o e=>bq _ e,Cv x t _,⟨_,cF _ rfl,rfl,rfl⟩,fin,q⟩
 ·refine wpAny_pyIter_ascii ha ?_;exact ⟨s1.heap.objs.size,[s1.heap.objs.size],_,_,H1,rfl,I1.kept (t':=s1.toks) fun b o e=>bq _ e,zI x t _,⟨_,cF _ rfl,rfl,rfl⟩,fin,q⟩
end
def HY (K:Za) (a b:Addr):It :=
  ⟨fun i H=>∃xs ys x y,aA K H a xs/\aA K H b ys/\xs[i]?=some x/\ys[i]?=some y,
   fun i H x H'=>∃p u v,x=.ref p/\H p=none/\(∀xs,aA K H a xs->xs[i]?=some u)/\(∀ys,aA K H b ys->ys[i]?=some v)/\H'=upd H p (.tup [u,v]),
   fun i H=>∃xs ys,aA K H a xs/\aA K H b ys/\(xs.length<=i∨ys.length<=i)⟩
theorem DJ {P:bR}{w:World}{K:Za}{es:List Expr}{kx:Nat}{J7:Pos}(a b z TI TO i1 i2:Addr) (D:pk z TI TO i1 i2 a b) :
  qY P w K (.Tuple es kx J7) (HY K a b) [z,TI,TO,i1,i2] z (fun i h=>IsZip h z TI TO .none/\IsPair h TI (.ref i1) (.ref i2)/\(∃a b,IsPair h TO a b)/\h.IsListIter i1 a i/\h.IsListIter i2 b i) where
 mem:=by simp
 obj:=fun i h st c hc=>by
  obtain ⟨hz,hTI,⟨u,v,hTO⟩,h1,h2⟩:=st;simp only [cU,r9,or_false] at hc;rcases hc with rfl | rfl | rfl | rfl | rfl
  ·exact ⟨_,hz,fun v z=>by cases z⟩
  ·exact ⟨_,hTI,fun v z=>by cases z⟩
  ·exact ⟨_,hTO,fun v z=>by cases z⟩
  ·obtain ⟨o,e,c,d⟩:=h1;exact ⟨o,e,fun v z=>by rw [d] at z; cases z⟩
  ·obtain ⟨o,e,c,d⟩:=h2;exact ⟨o,e,fun v z=>by rw [d] at z; cases z⟩
 keep:=fun i h h' st k=>by
  obtain ⟨hz,hTI,⟨u,v,hTO⟩,h1,h2⟩:=st;exact ⟨k z (by simp) _ hz,k TI (by simp) _ hTI,⟨u,v,k TO (by simp) _ hTO⟩,h1.at fun o e=>k i1 (by simp) o e,h2.at fun o e=>k i2 (by simp) o e⟩
 item:=by
  intro X hP hw hK hc i J3 s σ H E I hf st hg;subst hP hw hK;obtain ⟨hz,hTI,⟨u0,v0,hTO⟩,h1,h2⟩:=st;obtain ⟨xs,ys,x,y,hqx,hqy,hx,hy⟩:=hg;obtain ⟨its,rx,px,zx⟩:=I.list hqx;obtain ⟨jts,ry,py,zy⟩:=I.list hqy;obtain ⟨u,hu,ru⟩:=rx.get hx;obtain ⟨v,hv,rv⟩:=ry.get hy;refine wpAny_pyNext_zip_item D hz hTI hTO h1 h2 px.isList py.isList (x:=u) (y:=v) (by simpa using hu) (by simpa using hv) fun h' a1 a2 a3 a4 a5 a6 hk=>?_;refine ⟨_,rfl,wpAny_letOwnedTupleGo_zip (s:={ s with heap:=h' }) a1 fun h2' hz2 hs2=>?_⟩;have hs2':fF z h' h2':=hs2;have nsz:s.heap.objs.size≠z:=gj (aY hz);have nsTO:s.heap.objs.size≠TO:=gj (aY hTO);have nsTI:s.heap.objs.size≠TI:=gj (aY hTI);have nsi1:s.heap.objs.size≠i1:=by obtain ⟨o,ho,_⟩:=h1; exact gj (aY ho)
  have nsi2:s.heap.objs.size≠i2:=by obtain ⟨o,ho,_⟩:=h2; exact gj (aY ho)
  have ht2:IsPair h2' s.heap.objs.size u v:=hs2'.extBut _ _ nsz a5;have I2:Inv X J3 σ (upd H s.heap.objs.size (.tup [x,y])) { s with heap:=h2',toks:=s.toks }:=by
   refine I.turnedNew (ch:=[z,TI,TO,i1,i2]) hf (fun c o hc q=>?_) ⟨_,ht2⟩ (fun _ z=>nomatch z) ⟨by show 2<=ai; decide,[u,v],.cons ru (.cons rv .nil),⟨_,ht2,rfl,_,rfl⟩⟩;have n1:c≠z:=fun q=>hc (by simp [q]);exact hs2'.extBut _ _ n1 (hk c o n1 (fun q=>hc (by simp [q])) (fun q=>hc (by simp [q])) (fun q=>hc (by simp [q])) q)
  refine ⟨.ref s.heap.objs.size,_,I2,rfl,⟨_,x,y,rfl,I.fresh,fun zs hz=>by rw [I.list_inj hz hqx]; exact hx,fun zs hz=>by rw [I.list_inj hz hqy]; exact hy,rfl⟩,⟨hz2,hs2'.extBut _ _ D.TIz (hk _ _ D.TIz D.TITO D.TIi1 D.TIi2 hTI),⟨_,_,hs2'.extBut _ _ D.TOz a2⟩,a3.at fun o e=>hs2'.extBut _ _ D.i1z e,a4.at fun o e=>hs2'.extBut _ _ D.i2z e⟩,fun c hc=>?_⟩;have hcn:=(hf c hc).1;simp only [cU,r9,or_false] at hc;have ne:c≠s.heap.objs.size:=by
   rcases hc with rfl | rfl | rfl | rfl | rfl
   ·exact nsz.symm
   ·exact nsTI.symm
   ·exact nsTO.symm
   ·exact nsi1.symm
   ·exact nsi2.symm
  rw [af ne]; exact hcn
 done:=by
  intro X hP hw hK hc i J3 s σ H E I hf st hg;subst hP hw hK;obtain ⟨hz,hTI,⟨u0,v0,hTO⟩,h1,h2⟩:=st;obtain ⟨xs,ys,hqx,hqy,hend⟩:=hg;obtain ⟨its,rx,px,zx⟩:=I.list hqx;obtain ⟨jts,ry,py,zy⟩:=I.list hqy;have lx:=rx.length;have ly:=ry.length;refine wpAny_pyNext_zip_end (I.ok.hd hc) D hz hTI hTO h1 h2 px.isList py.isList (by rcases hend with q | q; exact .inl (by simp; omega); exact .inr (by simp; omega)) fun h' hk=>⟨rfl,?_⟩;have tr:∀c q,H c=some q->c∉[z,TI,TO,i1,i2]:=fun c q e m=>by rw [(hf c m).1] at e; cases e
  have kk:∀c o,c∉[z,TI,TO,i1,i2]->s.heap.get? c=some o->h'.get? c=some o:=fun c o hc q=>hk c o (fun q=>hc (by simp [q])) (fun q=>hc (by simp [q])) (fun q=>hc (by simp [q])) (fun q=>hc (by simp [q])) q;refine I.step (g':=s.gens) (d':=s.drawn) (t':=s.toks) (ch:=[z,TI,TO,i1,i2]) (fun c hc=>?_) (fun c o _ _ hc e _=>kk c o hc e) (fun c o _ _ hc e _=>⟨o.slots,kk c o hc e⟩) (fun _ _ _ _ n=>n) (fun c o hc e=>⟨o,kk c o hc e⟩) (fun _ _ e=>e) (fun _ _ _ e=>e) (fun c ps e=>⟨#[],by rw [e]; simp⟩) (fun m hm=>?_) (fun c q e=>?_) I.bare
  ·obtain ⟨f0,f1,f2,f3,f4,f5⟩:=hf c hc;exact ⟨f3,f1,f4,f5⟩
  ·obtain ⟨q,es',ep,ho,r⟩:=hm;exact ⟨q,es',ep,kk _ q (fun z=>(hf _ z).2.1 rfl) ho,r⟩
  ·refine (I.hok c q e).stay (fun d v hd q'=>kk d v ?_ q') (fun _ q=>q) fun _ _ q=>q;rcases hd with z | z
   ·subst z; exact tr _ _ e
   ·exact tr _ _ z
 self:=fun _ _ _ _ _ st h=>v2 st.1 h
section
variable {prog:bR}{w:World}{A:Around}{E:Zc}{s:Shared}
theorem j1 {it t:Addr}{i:Nat}{items:Array Value}{x:Value}{Q:Zc}(st:s.heap.IsTupleIter it t i) (tt:s.heap.IsTuple t items) (hx:items[i]?=some x)
  (k:∀h',h'.IsTupleIter it t (i+1)->fF it s.heap h'->Q x { s with heap:=h' }):wpAny (model prog w) A (kQ (.ref it)) Q E s:=by
 obtain ⟨oi,gi,ci,di⟩:=id st;obtain ⟨ot,gt,_,nt,dt⟩:=tt;unfold kQ;refine ak (kP (name:=kO "__next__") st.typeIs vZ
  (o_ vZ st.typeIs F.entry_tuple_iterator_next ?_ (F.args_tuple_iterator_next_1 _)))
 show wpAny _ _ (field (.ref it) 0 >>= _) _ _ s;refine ak (eW gi di (x:=.ref t) rfl ?_);show wpAny _ _ (if (Value.ref t == Value.none)=true then _ else _) _ _ s
 rw [if_neg (show ¬((Value.ref t == Value.none)=true) from gh)];show wpAny _ _ (field (.ref it) 1 >>= _) _ _ s;refine ak (eW gi di (x:=.int i 0) rfl ?_);show wpAny _ _ (seqItems? (.ref t) >>= _) _ _ s;refine ak (my gt dt ?_);simp only [jl,hx];refine ak (r8 gi di (by simp) (aH ⟨x,rfl,aH (k _ ?_ (kN ..))⟩));exact ⟨_,v9 _ gi (Obj.isFreed_of_fields (vY di _)),(Obj.cls_mapFields ..).trans ci,by
  rw [vY di]; simp [rawInt]⟩
theorem qC {it t:Addr}{i:Nat}{items:Array Value}{Q:Zc}(hh:A.handled=none) (st:s.heap.IsTupleIter it t i) (tt:s.heap.IsTuple t items) (hx:items[i]?=none)
  (k:∀h' e,Heap.ExtBut it s.heap h'->(∃o,h'.get? e=some o/\o.cls=.type "StopIteration")->E (.ref e) { s with heap:=h' }):wpAny (model prog w) A (kQ (.ref it)) Q E s:=by
 obtain ⟨oi,gi,ci,di⟩:=id st;obtain ⟨ot,gt,_,nt,dt⟩:=tt;unfold kQ;refine ak (kP (name:=kO "__next__") st.typeIs vZ
  (o_ vZ st.typeIs F.entry_tuple_iterator_next ?_ (F.args_tuple_iterator_next_1 _)))
 show wpAny _ _ (field (.ref it) 0 >>= _) _ _ s;refine ak (eW gi di (x:=.ref t) rfl ?_);show wpAny _ _ (if (Value.ref t == Value.none)=true then _ else _) _ _ s
 rw [if_neg (show ¬((Value.ref t == Value.none)=true) from gh)];show wpAny _ _ (field (.ref it) 1 >>= _) _ _ s;refine ak (eW gi di (x:=.int i 0) rfl ?_);show wpAny _ _ (seqItems? (.ref t) >>= _) _ _ s;refine ak (my gt dt ?_);simp only [jl,hx];refine ak (xB (ak (r8 gi di (by simp) ?_)));show wpAny _ _ (newExc (.type "StopIteration") [] >>= _) _ _ _;refine ak ?_;simp only [newExc,newTuple];refine ak (jj ?_ (by size_fits));refine ak (m:=pj _ _) (wpAny_of_eq (a:=Value.none) (by first | rfl | (simp only [pj]; rfl)) ?_)
 refine jj ?_ (by size_fits);simp only [raiseNew];refine ak (wpAny_handled ?_)
 first | rw [show A.in1.handled=none from hh] | rw [hh]
 refine ak (aH (wpAny_throw ?_));exact k _ _ (((kN ..).extBut.push _).push _) ⟨_,cF _ rfl,rfl⟩
theorem Ct {z TI TO i1 i2 l1 l2:Addr}{k1 k2:Nat}{xs ys:Array Value}{x y a b:Value}{Q:Zc}(D:pk z TI TO i1 i2 l1 l2)
  (gz:IsZip s.heap z TI TO .none) (gI:IsPair s.heap TI (.ref i1) (.ref i2)) (gO:IsPair s.heap TO a b)
  (g1:s.heap.IsTupleIter i1 l1 k1) (g2:s.heap.IsTupleIter i2 l2 k2) (t1:s.heap.IsTuple l1 xs) (t2:s.heap.IsTuple l2 ys) (hx:xs[k1]?=some x) (hy:ys[k2]?=some y)
  (k:∀h',IsZip h' z TI TO (rawInt s.heap.objs.size)->IsPair h' TO x y->h'.IsTupleIter i1 l1 (k1+1)->h'.IsTupleIter i2 l2 (k2+1)->IsPair h' s.heap.objs.size x y->h'.objs.size=s.heap.objs.size+1 ->
   (∀c o,c≠z->c≠TO->c≠i1->c≠i2->s.heap.get? c=some o->h'.get? c=some o)->Q (.ref s.heap.objs.size) { s with heap:=h' }) :
  wpAny (model prog w) A (cg.«zip.__next__» ⟨[.ref z],[]⟩) (fun fin s'=>∃v,fin=.done (.ret v)/\Q v s') E s:=by
 show wpAny _ _ (field (.ref z) 2 >>= _) _ _ _;refine ak (eW gz rfl (x:=.bool false) rfl ?_);show wpAny _ _ (field (.ref z) 3 >>= _) _ _ _;refine ak (eW gz rfl (x:=.ref TI) rfl ?_);refine ak (my gI rfl ?_);show wpAny _ _ (vX (.ref z) >>= _) _ _ _;refine ak ?_;unfold vX;refine ak (eW gz rfl (x:=.none) rfl (aH ?_));simp only [if_true];refine ak (xB ?_);refine ak (eW gz rfl (x:=.ref TO) rfl ?_);refine ak (iF gz (by simp) fun m₁ gz₁ u₁=>?_)
 replace gz₁:IsZip m₁ z TI TO .ellipsis:=gz₁
 refine ak ?_;simp only [List.zipIdx_cons,List.zipIdx_nil,pq,List.forIn_nil];refine ak (ak (vW ?_));show wpAny _ _ (kQ (.ref i1) >>= _) _ _ _;refine ak (j1 (g1.extBut u₁.extBut D.i1z) (t1.extBut u₁.extBut D.l1z) hx fun m₂ g1₂ u₂=>aH ?_);have gO₂:IsPair m₂ TO a b:=u₂.extBut _ _ D.TOi1 (u₁.extBut _ _ D.TOz gO);refine ak (my gO₂ rfl ?_);refine ak (wpAny_updateSeq_pair gO₂ fun m₃ gO₃ u₃=>?_)
 replace gO₃:IsPair m₃ TO x b:=gO₃
 refine ak (vV (aH ?_));refine ak (ak (vW ?_));show wpAny _ _ (kQ (.ref i2) >>= _) _ _ _;refine ak (j1 (((g2.extBut u₁.extBut D.i2z).extBut u₂.extBut D.i12.symm).extBut u₃.extBut D.TOi2.symm)
  (((t2.extBut u₁.extBut D.l2z).extBut u₂.extBut D.l2i1).extBut u₃.extBut D.l2TO) hy fun m₄ g2₄ u₄=>aH ?_)
 have gO₄:IsPair m₄ TO x b:=u₄.extBut _ _ D.TOi2 gO₃;refine ak (my gO₄ rfl ?_);refine ak (wpAny_updateSeq_pair gO₄ fun m₅ gO₅ u₅=>?_)
 replace gO₅:IsPair m₅ TO x y:=gO₅
 refine ak (vV (aH (aH ?_)));refine ak (my gO₅ rfl ?_);refine ak (wpAny_newTuple ?_);have esz:m₅.objs.size=s.heap.objs.size:=by rw [u₅.1,u₄.1,u₃.1,u₂.1,u₁.1]
 have gz₅:IsZip m₅ z TI TO .ellipsis:=u₅.extBut _ _ D.TOz.symm (u₄.extBut _ _ D.i2z.symm (u₃.extBut _ _ D.TOz.symm (u₂.extBut _ _ D.i1z.symm gz₁)));have kp₅:∀c o,c≠z->c≠TO->c≠i1->c≠i2->s.heap.get? c=some o->m₅.get? c=some o:=fun c o c1 c2 c3 c4 e =>
  u₅.extBut _ _ c2 (u₄.extBut _ _ c4 (u₃.extBut _ _ c2 (u₂.extBut _ _ c3 (u₁.extBut _ _ c1 e))))
 have g1₅:m₅.IsTupleIter i1 l1 (k1+1):=((g1₂.extBut u₃.extBut D.TOi1.symm).extBut u₄.extBut D.i12).extBut u₅.extBut D.TOi1.symm;have g2₅:m₅.IsTupleIter i2 l2 (k2+1):=g2₄.extBut u₅.extBut D.TOi2.symm;have zlt:z<m₅.objs.size:=aY gz₅;show wpAny _ _ (cg.SmallTypes.ownedTupleHandOut (.ref z) (.ref m₅.objs.size) >>= _) _ _ _;refine ak ?_;unfold cg.SmallTypes.ownedTupleHandOut;have gz₆:IsZip (m₅.push { cls:=.type "tuple",data:=.seq #[x,y] }) z TI TO .ellipsis:=bq _ gz₅;refine ak (iF gz₆ (by simp) fun m₇ gz₇ u₇=>?_)
 replace gz₇:IsZip m₇ z TI TO (rawInt m₅.objs.size):=gz₇
 refine iF gz₇ (by simp) fun m₈ gz₈ u₈=>?_
 replace gz₈:IsZip m₈ z TI TO (rawInt m₅.objs.size):=gz₈
 have up:∀c o,c≠z->m₅.get? c=some o->m₈.get? c=some o:=fun c o c1 e=>u₈.extBut _ _ c1 (u₇.extBut _ _ c1 (bq _ e));have gT₈:IsPair m₈ m₅.objs.size x y:=u₈.extBut _ _ (gj zlt) (u₇.extBut _ _ (gj zlt) (cF _ rfl));have ez8:m₈.objs.size=m₅.objs.size+1:=by rw [u₈.1,u₇.1,nT]
 rw [esz] at gz₈ gT₈ ez8;refine aH ⟨_,rfl,?_⟩;show Q (.ref m₅.objs.size) _;rw [esz];refine k m₈ gz₈ (up _ _ D.TOz gO₅) ?_ ?_ gT₈ ez8 fun c o c1 c2 c3 c4 e=>up c o c1 (kp₅ c o c1 c2 c3 c4 e)
 ·obtain ⟨o,e,r⟩:=g1₅;exact ⟨o,up _ o D.i1z e,r⟩
 ·obtain ⟨o,e,r⟩:=g2₅;exact ⟨o,up _ o D.i2z e,r⟩
theorem DC {z TI TO i1 i2 l1 l2:Addr}{k1 k2:Nat}{xs ys:Array Value}{a b:Value}{Q:Fin->Shared->Prop}(hh:A.handled=none) (D:pk z TI TO i1 i2 l1 l2)
  (gz:IsZip s.heap z TI TO .none) (gI:IsPair s.heap TI (.ref i1) (.ref i2)) (gO:IsPair s.heap TO a b)
  (g1:s.heap.IsTupleIter i1 l1 k1) (g2:s.heap.IsTupleIter i2 l2 k2) (t1:s.heap.IsTuple l1 xs) (t2:s.heap.IsTuple l2 ys) (fin:xs[k1]?=none∨ys[k2]?=none)
  (k:∀h' e,(∀c o,c≠z->c≠TO->c≠i1->c≠i2->s.heap.get? c=some o->h'.get? c=some o)->(∃o,h'.get? e=some o/\o.cls=.type "StopIteration")->E (.ref e) { s with heap:=h' }) :
  wpAny (model prog w) A (cg.«zip.__next__» ⟨[.ref z],[]⟩) Q E s:=by
 show wpAny _ _ (field (.ref z) 2 >>= _) _ _ _;refine ak (eW gz rfl (x:=.bool false) rfl ?_);show wpAny _ _ (field (.ref z) 3 >>= _) _ _ _;refine ak (eW gz rfl (x:=.ref TI) rfl ?_);refine ak (my gI rfl ?_);show wpAny _ _ (vX (.ref z) >>= _) _ _ _;refine ak ?_;unfold vX;refine ak (eW gz rfl (x:=.none) rfl (aH ?_));simp only [if_true];refine ak (xB ?_);refine ak (eW gz rfl (x:=.ref TO) rfl ?_);refine ak (iF gz (by simp) fun m₁ gz₁ u₁=>?_)
 replace gz₁:IsZip m₁ z TI TO .ellipsis:=gz₁
 refine ak ?_;simp only [List.zipIdx_cons,List.zipIdx_nil,pq,List.forIn_nil];refine ak (ak (vW ?_));show wpAny _ _ (kQ (.ref i1) >>= _) _ _ _;cases hx:xs[k1]? with
 | none =>
  refine ak (qC hh (g1.extBut u₁.extBut D.i1z) (t1.extBut u₁.extBut D.l1z) hx fun m₂ e u₂ he=>?_);obtain ⟨oe,ge,ce⟩:=he;have gz₂:IsZip m₂ z TI TO .ellipsis:=u₂ _ _ D.i1z.symm gz₁;have nez:e≠z:=fun q=>by subst q; rw [gz₂] at ge; cases ge; simp at ce
  refine iF gz₂ (by simp) fun m₃ _ u₃=>k m₃ e (fun c o c1 _ c3 _ q=>u₃.extBut _ _ c1 (u₂ _ _ c3 (u₁.extBut _ _ c1 q))) ⟨oe,u₃.extBut _ _ nez ge,ce⟩
 | some x =>
  have hy:ys[k2]?=none:=by rcases fin with q | q; rw [hx] at q; cases q; exact q
  refine ak (j1 (g1.extBut u₁.extBut D.i1z) (t1.extBut u₁.extBut D.l1z) hx fun m₂ g1₂ u₂=>aH ?_);have gO₂:IsPair m₂ TO a b:=u₂.extBut _ _ D.TOi1 (u₁.extBut _ _ D.TOz gO);refine ak (my gO₂ rfl ?_);refine ak (wpAny_updateSeq_pair gO₂ fun m₃ gO₃ u₃=>?_);refine ak (vV (aH ?_));refine ak (ak (vW ?_));show wpAny _ _ (kQ (.ref i2) >>= _) _ _ _;refine ak (qC hh (((g2.extBut u₁.extBut D.i2z).extBut u₂.extBut D.i12.symm).extBut u₃.extBut D.TOi2.symm)
   (((t2.extBut u₁.extBut D.l2z).extBut u₂.extBut D.l2i1).extBut u₃.extBut D.l2TO) hy fun m₄ e u₄ he=>?_)
  obtain ⟨oe,ge,ce⟩:=he;have gz₄:IsZip m₄ z TI TO .ellipsis:=u₄ _ _ D.i2z.symm (u₃.extBut _ _ D.TOz.symm (u₂.extBut _ _ D.i1z.symm gz₁));have nez:e≠z:=fun q=>by subst q; rw [gz₄] at ge; cases ge; simp at ce
  refine iF gz₄ (by simp) fun m₅ _ u₅=>k m₅ e (fun c o c1 c2 c3 c4 q=>u₅.extBut _ _ c1 (u₄ _ _ c4 (u₃.extBut _ _ c2 (u₂.extBut _ _ c3 (u₁.extBut _ _ c1 q))))) ⟨oe,u₅.extBut _ _ nez ge,ce⟩
theorem uA {z TI TO i1 i2 l1 l2:Addr}{k1 k2:Nat}{xs ys:Array Value}{x y a b:Value}{Q:Option Value->Shared->Prop}(D:pk z TI TO i1 i2 l1 l2)
  (gz:IsZip s.heap z TI TO .none) (gI:IsPair s.heap TI (.ref i1) (.ref i2)) (gO:IsPair s.heap TO a b)
  (g1:s.heap.IsTupleIter i1 l1 k1) (g2:s.heap.IsTupleIter i2 l2 k2) (t1:s.heap.IsTuple l1 xs) (t2:s.heap.IsTuple l2 ys) (hx:xs[k1]?=some x) (hy:ys[k2]?=some y)
  (k:∀h',IsZip h' z TI TO (rawInt s.heap.objs.size)->IsPair h' TO x y->h'.IsTupleIter i1 l1 (k1+1)->h'.IsTupleIter i2 l2 (k2+1)->IsPair h' s.heap.objs.size x y->h'.objs.size=s.heap.objs.size+1 ->
   (∀c o,c≠z->c≠TO->c≠i1->c≠i2->s.heap.get? c=some o->h'.get? c=some o)->Q (some (.ref s.heap.objs.size)) { s with heap:=h' }) :
  wpAny (model prog w) A (pyNext (.ref z)) Q E s:=by
 have hT:s.TypeIs (.ref z) "zip":=⟨_,gz,rfl⟩;unfold pyNext;exact ak (pi (kP (name:=kO "__next__") hT vU
  (o_ vU hT F.entry_zip_next
   (Ct D gz gI gO g1 g2 t1 t2 hx hy fun h' a1 a2 a3 a4 a5 a6 a7=>aH (k h' a1 a2 a3 a4 a5 a6 a7)) (F.args_zip_next_1 _))))
theorem wM {z TI TO i1 i2 l1 l2:Addr}{k1 k2:Nat}{xs ys:Array Value}{a b:Value}{Q:Option Value->Shared->Prop}(hh:A.handled=none) (D:pk z TI TO i1 i2 l1 l2)
  (gz:IsZip s.heap z TI TO .none) (gI:IsPair s.heap TI (.ref i1) (.ref i2)) (gO:IsPair s.heap TO a b)
  (g1:s.heap.IsTupleIter i1 l1 k1) (g2:s.heap.IsTupleIter i2 l2 k2) (t1:s.heap.IsTuple l1 xs) (t2:s.heap.IsTuple l2 ys) (fin:xs[k1]?=none∨ys[k2]?=none)
  (k:∀h',(∀c o,c≠z->c≠TO->c≠i1->c≠i2->s.heap.get? c=some o->h'.get? c=some o)->Q none { s with heap:=h' }):wpAny (model prog w) A (pyNext (.ref z)) Q E s:=by
 have hT:s.TypeIs (.ref z) "zip":=⟨_,gz,rfl⟩;unfold pyNext;refine ak (pi (kP (name:=kO "__next__") hT vU
  (o_ vU hT F.entry_zip_next (DC hh D gz gI gO g1 g2 t1 t2 fin fun h' e kp he=>?_) (F.args_zip_next_1 _))))
 obtain ⟨o,ho,hc⟩:=he;refine ak (xG (T:="StopIteration") (b:=true) ⟨o,ho,hc⟩ isSubtype_stop ?_);exact aH (k _ kp)
end
abbrev Il (h:Heap) (l1:Addr):Heap:=h.push { cls:=.type "tuple_iterator",data:=.fields #[.ref l1,.int 0 0] }
abbrev Ik (h:Heap) (l1 l2:Addr):Heap:=(Il h l1).push { cls:=.type "tuple_iterator",data:=.fields #[.ref l2,.int 0 0] }
abbrev Ij (h:Heap) (l1 l2:Addr):Heap:=(Ik h l1 l2).push { cls:=.type "tuple",data:=.seq #[.ref h.objs.size,.ref (Il h l1).objs.size] }
abbrev Ii (h:Heap) (l1 l2:Addr):Heap:=(Ij h l1 l2).push { cls:=.type "tuple",data:=.seq #[.none,.none] }
abbrev Hx (h:Heap) (l1 l2:Addr):Heap:=(Ii h l1 l2).push { cls:=.type "zip",data:=.fields #[.none,.bool false,.bool false,.ref (Ik h l1 l2).objs.size,.ref (Ij h l1 l2).objs.size] }
theorem Ao (l1 l2:Addr) (xs ys:Array Value) :
  Meets (cg.«zip.__new__» ⟨[.type "zip",.ref l1,.ref l2],[]⟩) (fun _ R s=>s.heap.IsTuple l1 xs/\s.heap.IsTuple l2 ys /\
   R (.ok (.ret (.ref (Ii s.heap l1 l2).objs.size))) { s with heap:=Hx s.heap l1 l2 }) :=
 .of_wp fun prog w A R s h=>by
  obtain ⟨hp,g,d,tk,os⟩:=s; obtain ⟨q1,q2,h⟩:=h;have hsub:=sub_zip;have T1:Heap.IsTuple (Shared.heap ⟨hp,g,d,tk,os⟩) l1 xs:=q1;have T2:Heap.IsTuple (Shared.heap ⟨hp.push { cls:=.type "tuple_iterator",data:=.fields #[.ref l1,.int 0 0] },g,d,tk,os⟩) l2 ys:=Heap.IsTuple.push q2 _
  wp_walk using Bf T1,Bf T2
  exact ⟨_,rfl,h⟩
section
variable {prog:bR}{w:World}{A:Around}{E:Zc}{s:Shared}
theorem Dl {l1 l2:Addr}{xs ys:Array Value}{Q:Zc}(t1:s.heap.IsTuple l1 xs) (t2:s.heap.IsTuple l2 ys)
  (k:∀h',IsZip h' (s.heap.objs.size+4) (s.heap.objs.size+2) (s.heap.objs.size+3) .none->IsPair h' (s.heap.objs.size+2) (.ref s.heap.objs.size) (.ref (s.heap.objs.size+1)) ->
   IsPair h' (s.heap.objs.size+3) .none .none->h'.IsTupleIter s.heap.objs.size l1 0->h'.IsTupleIter (s.heap.objs.size+1) l2 0->(∀c o,s.heap.get? c=some o->h'.get? c=some o)->Q (.ref (s.heap.objs.size+4)) { s with heap:=h' }) :
  wpAny (model prog w) A (call (.type "zip") [.ref l1,.ref l2]) Q E s:=by
 refine callType_new F.called_zip (by decide) (F.typeCall_zip_2 _ _) (F.newCall_zip_2 _ _) (fun obj=>F.args_object_init_3 obj _ _) F.entry_zip_new
  (Ao l1 l2 xs ys) ⟨t1,t2,?_⟩
 have z1:(Il s.heap l1).objs.size=s.heap.objs.size+1:=nT ..;have z2:(Ik s.heap l1 l2).objs.size=s.heap.objs.size+2:=by rw [nT,z1]
 have z3:(Ij s.heap l1 l2).objs.size=s.heap.objs.size+3:=by rw [nT,z2]
 have z4:(Ii s.heap l1 l2).objs.size=s.heap.objs.size+4:=by rw [nT,z3]
 have g5:(Hx s.heap l1 l2).get? (Ii s.heap l1 l2).objs.size=some _:=cF _ rfl;have g4:(Hx s.heap l1 l2).get? (Ij s.heap l1 l2).objs.size=some _:=bq _ (cF _ rfl);have g3:(Hx s.heap l1 l2).get? (Ik s.heap l1 l2).objs.size=some _:=bq _ (bq _ (cF _ rfl));have g2:(Hx s.heap l1 l2).get? (Il s.heap l1).objs.size=some _:=bq _ (bq _ (bq _ (cF _ rfl)));have g1:(Hx s.heap l1 l2).get? s.heap.objs.size=some _:=bq _ (bq _ (bq _ (bq _ (cF _ rfl))));show _/\_;rw [z2,z3,z4] at g5;rw [z1,z2] at g3;rw [z3] at g4;rw [z1] at g2;rw [z4];exact ⟨⟨_,g5,rfl⟩,k _ g5 g3 g4 ⟨_,g1,rfl,rfl⟩ ⟨_,g2,rfl,rfl⟩ fun c o x =>
  bq _ (bq _ (bq _ (bq _ (bq _ x))))⟩
end
def Fp (K:Za) (a b:Addr):It :=
  ⟨fun i H=>∃xs ys x y,bj K H a xs/\bj K H b ys/\xs[i]?=some x/\ys[i]?=some y,
   fun i H x H'=>∃p u v,x=.ref p/\H p=none/\(∀xs,bj K H a xs->xs[i]?=some u)/\(∀ys,bj K H b ys->ys[i]?=some v)/\H'=upd H p (.tup [u,v]),
   fun i H=>∃xs ys,bj K H a xs/\bj K H b ys/\(xs.length<=i∨ys.length<=i)⟩
theorem Cu {P:bR}{w:World}{K:Za}{es:List Expr}{kx:Nat}{J7:Pos}(a b z TI TO i1 i2:Addr) (D:pk z TI TO i1 i2 a b) :
  qY P w K (.Tuple es kx J7) (Fp K a b) [z,TI,TO,i1,i2] z (fun i h=>IsZip h z TI TO .none/\IsPair h TI (.ref i1) (.ref i2)/\(∃a b,IsPair h TO a b)/\h.IsTupleIter i1 a i/\h.IsTupleIter i2 b i) where
 mem:=by simp
 obj:=fun i h st c hc=>by
  obtain ⟨hz,hTI,⟨u,v,hTO⟩,h1,h2⟩:=st;simp only [cU,r9,or_false] at hc;rcases hc with rfl | rfl | rfl | rfl | rfl
  ·exact ⟨_,hz,fun v z=>by cases z⟩
  ·exact ⟨_,hTI,fun v z=>by cases z⟩
  ·exact ⟨_,hTO,fun v z=>by cases z⟩
  ·obtain ⟨o,e,c,d⟩:=h1;exact ⟨o,e,fun v z=>by rw [d] at z; cases z⟩
  ·obtain ⟨o,e,c,d⟩:=h2;exact ⟨o,e,fun v z=>by rw [d] at z; cases z⟩
 keep:=fun i h h' st k=>by
  obtain ⟨hz,hTI,⟨u,v,hTO⟩,⟨o1,e1,r1⟩,⟨o2,e2,r2⟩⟩:=st;exact ⟨k z (by simp) _ hz,k TI (by simp) _ hTI,⟨u,v,k TO (by simp) _ hTO⟩,⟨o1,k i1 (by simp) o1 e1,r1⟩,⟨o2,k i2 (by simp) o2 e2,r2⟩⟩
 item:=by
  intro X hP hw hK hc i J3 s σ H E I hf st hg;subst hP hw hK;obtain ⟨hz,hTI,⟨u0,v0,hTO⟩,h1,h2⟩:=st;obtain ⟨xs,ys,x,y,hqx,hqy,hx,hy⟩:=hg;obtain ⟨its,rx,px,zx⟩:=I.tuple hqx;obtain ⟨jts,ry,py,zy⟩:=I.tuple hqy;obtain ⟨u,hu,ru⟩:=rx.get hx;obtain ⟨v,hv,rv⟩:=ry.get hy;refine uA D hz hTI hTO h1 h2 (xs:=its.toArray) (ys:=jts.toArray) px py (x:=u) (y:=v) (by simpa using hu) (by simpa using hv) fun h' a1 a2 a3 a4 a5 a6 hk=>?_;refine ⟨_,rfl,wpAny_letOwnedTupleGo_zip (s:={ s with heap:=h' }) a1 fun h2' hz2 hs2=>?_⟩;have hs2':fF z h' h2':=hs2;have nsz:s.heap.objs.size≠z:=gj (aY hz);have nsTO:s.heap.objs.size≠TO:=gj (aY hTO);have nsTI:s.heap.objs.size≠TI:=gj (aY hTI);have nsi1:s.heap.objs.size≠i1:=by obtain ⟨o,ho,_⟩:=h1; exact gj (aY ho)
  have nsi2:s.heap.objs.size≠i2:=by obtain ⟨o,ho,_⟩:=h2; exact gj (aY ho)
  have ht2:IsPair h2' s.heap.objs.size u v:=hs2'.extBut _ _ nsz a5;have I2:Inv X J3 σ (upd H s.heap.objs.size (.tup [x,y])) { s with heap:=h2',toks:=s.toks }:=by
   refine I.turnedNew (ch:=[z,TI,TO,i1,i2]) hf (fun c o hc q=>?_) ⟨_,ht2⟩ (fun _ z=>nomatch z) ⟨by show 2<=ai; decide,[u,v],.cons ru (.cons rv .nil),⟨_,ht2,rfl,_,rfl⟩⟩;have n1:c≠z:=fun q=>hc (by simp [q]);exact hs2'.extBut _ _ n1 (hk c o n1 (fun q=>hc (by simp [q])) (fun q=>hc (by simp [q])) (fun q=>hc (by simp [q])) q)
  have a3':h2'.IsTupleIter i1 a (i+1):=by obtain ⟨o,e,r⟩:=a3; exact ⟨o,hs2'.extBut _ _ D.i1z e,r⟩
  have a4':h2'.IsTupleIter i2 b (i+1):=by obtain ⟨o,e,r⟩:=a4; exact ⟨o,hs2'.extBut _ _ D.i2z e,r⟩
  refine ⟨.ref s.heap.objs.size,_,I2,rfl,⟨_,x,y,rfl,I.fresh,fun zs hz=>by rw [I.tuple_inj hz hqx]; exact hx,fun zs hz=>by rw [I.tuple_inj hz hqy]; exact hy,rfl⟩,⟨hz2,hs2'.extBut _ _ D.TIz (hk _ _ D.TIz D.TITO D.TIi1 D.TIi2 hTI),⟨_,_,hs2'.extBut _ _ D.TOz a2⟩,a3',a4'⟩,fun c hc=>?_⟩;have hcn:=(hf c hc).1;simp only [cU,r9,or_false] at hc;have ne:c≠s.heap.objs.size:=by
   rcases hc with rfl | rfl | rfl | rfl | rfl
   ·exact nsz.symm
   ·exact nsTI.symm
   ·exact nsTO.symm
   ·exact nsi1.symm
   ·exact nsi2.symm
  rw [af ne]; exact hcn
 done:=by
  intro X hP hw hK hc i J3 s σ H E I hf st hg;subst hP hw hK;obtain ⟨hz,hTI,⟨u0,v0,hTO⟩,h1,h2⟩:=st;obtain ⟨xs,ys,hqx,hqy,hend⟩:=hg;obtain ⟨its,rx,px,zx⟩:=I.tuple hqx;obtain ⟨jts,ry,py,zy⟩:=I.tuple hqy;have lx:=rx.length;have ly:=ry.length;refine wM (I.ok.hd hc) D hz hTI hTO h1 h2 (xs:=its.toArray) (ys:=jts.toArray) px py (by rcases hend with q | q; exact .inl (by simp; omega); exact .inr (by simp; omega)) fun h' hk=>⟨rfl,?_⟩;have tr:∀c q,H c=some q->c∉[z,TI,TO,i1,i2]:=fun c q e m=>by rw [(hf c m).1] at e; cases e
  have kk:∀c o,c∉[z,TI,TO,i1,i2]->s.heap.get? c=some o->h'.get? c=some o:=fun c o hc q=>hk c o (fun q=>hc (by simp [q])) (fun q=>hc (by simp [q])) (fun q=>hc (by simp [q])) (fun q=>hc (by simp [q])) q;refine I.step (g':=s.gens) (d':=s.drawn) (t':=s.toks) (ch:=[z,TI,TO,i1,i2]) (fun c hc=>?_) (fun c o _ _ hc e _=>kk c o hc e) (fun c o _ _ hc e _=>⟨o.slots,kk c o hc e⟩) (fun _ _ _ _ n=>n) (fun c o hc e=>⟨o,kk c o hc e⟩) (fun _ _ e=>e) (fun _ _ _ e=>e) (fun c ps e=>⟨#[],by rw [e]; simp⟩) (fun m hm=>?_) (fun c q e=>?_) I.bare
  ·obtain ⟨f0,f1,f2,f3,f4,f5⟩:=hf c hc;exact ⟨f3,f1,f4,f5⟩
  ·obtain ⟨q,es',ep,ho,r⟩:=hm;exact ⟨q,es',ep,kk _ q (fun z=>(hf _ z).2.1 rfl) ho,r⟩
  ·refine (I.hok c q e).stay (fun d v hd q'=>kk d v ?_ q') (fun _ q=>q) fun _ _ q=>q;rcases hd with z | z
   ·subst z; exact tr _ _ e
   ·exact tr _ _ z
 self:=fun _ _ _ _ _ st h=>v2 st.1 h
section
variable {X:Cx}{p pos:Pos}{es:List Expr}{kx:Nat}{J7:Pos}
def vi (K:Za) (ta:TA):TI:=fun σ H R=>ta σ H fun vs H1=>∃a b,vs=[.ref a,.ref b]/\(((∃xs,aA K H1 a xs)/\(∃ys,aA K H1 b ys)/\R (HY K a b) H1)∨((∃xs,bj K H1 a xs)/\(∃ys,bj K H1 b ys)/\R (Fp K a b) H1))
theorem By {a b:Expr}{ta:TA}(hg:Gl X "zip") (hm:X.mg "zip"=none) (ha:PA X [a,b] ta) (hs:aN [a,b] X.env=[(false,eval a X.env),(false,eval b X.env)]:=by rfl) (hs2:aN [b] X.env=[(false,eval b X.env)]:=by rfl) :
  PI X (.Tuple es kx J7) (.Call (.Name "zip" p) [a,b] [] pos) (vi X.K ta):=by
 intro J3 s σ H R I h;refine Call_ (p5 I hg hm boot_zip (Be (cB (ha pos J3 s σ H _ I h) fun us s1 ⟨vs,H1,I1,r1,q1⟩=>?_) (by rw [hs,hs2]) (by rw [hs2]; rfl)));obtain ⟨l1,l2,e,q⟩:=q1;subst e;obtain ⟨u,v,rfl,ru,rv⟩:=vals2 r1;cases ru;cases rv;have fin:∀b∈[s1.heap.objs.size+4,s1.heap.objs.size+2,s1.heap.objs.size+3,s1.heap.objs.size,s1.heap.objs.size+1],nJ X J3 H1 b:=fun b hb=>by
  have hb':s1.heap.objs.size<=b:=by
   simp only [cU,r9,or_false] at hb;rcases hb with rfl | rfl | rfl | rfl | rfl <;> omega
  exact I1.fpOk hb' (I1.hok.fresh hb')
 rcases q with ⟨⟨xs,hx⟩,⟨ys,hy⟩,q⟩ | ⟨⟨xs,hx⟩,⟨ys,hy⟩,q⟩
 ·obtain ⟨its,rx,px,zx⟩:=I1.list hx;obtain ⟨jts,ry,py,zy⟩:=I1.list hy;obtain ⟨o1,n1,e1,_⟩:=id px;obtain ⟨o2,n2,e2,_⟩:=id py;refine call_zip_2 px.isList py.isList fun h' a1 a2 a3 a4 a5 a6 hk=>?_;refine v2 (s:={ s1 with heap:=h' }) a1 ?_;have hk':∀b o,s1.heap.get? b=some o->h'.get? b=some o:=hk;have I2:Inv X J3 σ H1 { s1 with heap:=h' }:=I1.kept (t':=s1.toks) hk';exact ⟨_,_,_,_,H1,rfl,I2,DJ l1 l2 _ _ _ _ _ (zipApart_new (aY e1) (aY e2)),⟨a1,a2,⟨_,_,a3⟩,a4,a5⟩,fin,q⟩
 ·obtain ⟨its,rx,px,zx⟩:=I1.tuple hx;obtain ⟨jts,ry,py,zy⟩:=I1.tuple hy;obtain ⟨o1,e1,_⟩:=id px;obtain ⟨o2,e2,_⟩:=id py;refine Dl (xs:=its.toArray) (ys:=jts.toArray) px py fun h' a1 a2 a3 a4 a5 hk=>?_;refine v2 (s:={ s1 with heap:=h' }) a1 ?_;have hk':∀b o,s1.heap.get? b=some o->h'.get? b=some o:=hk;have I2:Inv X J3 σ H1 { s1 with heap:=h' }:=I1.kept (t':=s1.toks) hk';exact ⟨_,_,_,_,H1,rfl,I2,Cu l1 l2 _ _ _ _ _ (zipApart_new (aY e1) (aY e2)),⟨a1,a2,⟨_,_,a3⟩,a4,a5⟩,fin,q⟩
end
inductive DT where
 | k (a:d_)
 | t (l:List DT)
 | s (l:List DT)
mutual
def G1:(x y:DT)->Decidable (x=y)
 | .k a,.k b=>if h:a=b then Decidable.isTrue (by rw [h]) else Decidable.isFalse fun e=>h (by injection e)
 | .t l,.t m=>match decDTs l m with
  | Decidable.isTrue h=>Decidable.isTrue (by rw [h])
  | Decidable.isFalse h=>Decidable.isFalse fun e=>h (by injection e)
 | .s l,.s m=>match decDTs l m with
  | Decidable.isTrue h=>Decidable.isTrue (by rw [h])
  | Decidable.isFalse h=>Decidable.isFalse fun e=>h (by injection e)
 | .k _,.t _=>Decidable.isFalse nofun
 | .k _,.s _=>Decidable.isFalse nofun
 | .t _,.k _=>Decidable.isFalse nofun
 | .t _,.s _=>Decidable.isFalse nofun
 | .s _,.k _=>Decidable.isFalse nofun
 | .s _,.t _=>Decidable.isFalse nofun
def decDTs:(x y:List DT)->Decidable (x=y)
 | [],[]=>Decidable.isTrue rfl
 | [],_::_=>Decidable.isFalse nofun
 | _::_,[]=>Decidable.isFalse nofun
 | a::l,b::m=>match G1 a b with
  | Decidable.isTrue h=>match decDTs l m with
   | Decidable.isTrue h'=>Decidable.isTrue (by rw [h,h'])
   | Decidable.isFalse h'=>Decidable.isFalse fun e=>h' (by injection e)
  | Decidable.isFalse h=>Decidable.isFalse fun e=>h (by injection e)
end
instance:DecidableEq DT:=G1
mutual
def DT.depth:DT->Nat
 | .k _=>0
 | .t l=>DT.depths l+1
 | .s l=>DT.depths l+1
def DT.depths:List DT->Nat
 | []=>0
 | a::r=>max (DT.depth a) (DT.depths r)
end
mutual
def rE (h:Heap):DT->Value->Prop
 | .k a,v=>cH a v=true
 | .t l,v=>∃a items,v=.ref a/\h.IsTuple a items/\DAts h l items.toList
 | .s l,v=>∃a items,v=.ref a/\h.IsList a items/\DAts h l items.toList
def DAts (h:Heap):List DT->List Value->Prop
 | [],vs=>vs=[]
 | k::r,vs=>∃v us,vs=v::us/\rE h k v/\DAts h r us
end
theorem DAts.length {h:Heap}:∀{xs:List DT}{vs:Zf},DAts h xs vs->xs.length=vs.length
 | [],vs,e=>by have e':vs=[]:=e; rw [e']; rfl
 | x::xs,vs,e=>by
  obtain ⟨v,us,rfl,_,h2⟩:=e;simp [DAts.length h2]
theorem DAts.get {h:Heap}:∀{xs:List DT}{vs:Zf}{i:Nat}{v:Value},DAts h xs vs->vs[i]?=some v->∃x,xs[i]?=some x/\rE h x v
 | [],vs,i,v,e,q=>by have e':vs=[]:=e; subst e'; simp at q
 | x::xs,vs,i,v,e,q=>by
  obtain ⟨u,us,rfl,h1,h2⟩:=e;cases i with
  | zero =>
   simp at q; subst q;exact ⟨x,rfl,h1⟩
  | succ i =>
   obtain ⟨y,e1,e2⟩:=DAts.get h2 (i:=i) (v:=v) (by simpa using q);exact ⟨y,by simpa using e1,e2⟩
theorem DT.depths_get {l:List DT}{x:DT}{i d:Nat}(h:DT.depths l<=d) (e:l[i]?=some x):x.depth<=d:=by
 induction l generalizing i with
 | nil=>simp at e
 | cons a r ih =>
  have h':max a.depth (DT.depths r)<=d:=h;cases i with
  | zero=>simp at e; subst e; omega
  | succ i=>exact ih (by omega) (by simpa using e)
theorem Ax {h:Heap}{a:Addr}{i j:Array Value}(x:h.IsList a i) (y:h.IsList a j):i=j:=by
 obtain ⟨o,ho,_,n,hd⟩:=x;obtain ⟨o',ho',_,n',hd'⟩:=y;rw [ho] at ho'; cases ho';rw [hd] at hd'; injection hd'
theorem yO {h:Heap}{a:Addr}{i j:Array Value}(x:h.IsTuple a i) (y:h.IsTuple a j):i=j:=by
 obtain ⟨o,ho,_,n,hd⟩:=x;obtain ⟨o',ho',_,n',hd'⟩:=y;rw [ho] at ho'; cases ho';rw [hd] at hd'; injection hd'
theorem jL {h:Heap}{a:Addr}{i j:Array Value}(x:h.IsList a i) (y:h.IsTuple a j):False:=by
 obtain ⟨o,ho,hc,_⟩:=x;obtain ⟨o',ho',hc',_⟩:=y;rw [ho] at ho'; cases ho';rw [hc] at hc'; simp at hc'
theorem vh {a b:d_}{v:Value}(h1:cH a v=true) (h2:cH b v=true):a=b:=by
 rcases ar h1 with ⟨i,t,rfl,rfl⟩ | ⟨i,t,rfl,rfl⟩
 ·rcases ar h2 with ⟨j,u,rfl,e⟩ | ⟨j,u,rfl,e⟩
  ·cases e; rfl
  ·cases e
 ·rcases ar h2 with ⟨j,u,rfl,e⟩ | ⟨j,u,rfl,e⟩
  ·cases e
  ·cases e; rfl
theorem iy {a:d_}{b:Addr}(h:cH a (.ref b)=true):False:=by
 rcases ar h with ⟨_,_,_,e⟩ | ⟨_,_,_,e⟩ <;> cases e
theorem rE.inj {h:Heap}:∀(d:Nat) {x y:DT}{v:Value},x.depth<=d->rE h x v->rE h y v->x=y:=by
 have key:∀(d:Nat) (ih:∀{x y:DT}{v:Value},x.depth<=d->rE h x v->rE h y v->x=y) (xs ys:List DT) (vs:Zf),DT.depths xs<=d->DAts h xs vs->DAts h ys vs->xs=ys:=by
  intro d ih xs
  induction xs with
  | nil =>
   intro ys vs _ hx hy;have hx':vs=[]:=hx;subst hx';cases ys with
   | nil=>rfl
   | cons y ys=>obtain ⟨_,_,e,_⟩:=hy; cases e
  | cons x xs ihl =>
   intro ys vs hd hx hy;obtain ⟨v,us,rfl,hx1,hx2⟩:=hx;cases ys with
   | nil=>have hy':v::us=[]:=hy; cases hy'
   | cons y ys =>
    obtain ⟨v',us',e,hy1,hy2⟩:=hy;cases e;have hd':max x.depth (DT.depths xs)<=d:=hd;rw [ih (by omega) hx1 hy1,ihl ys us (by omega) hx2 hy2]
 intro d
 induction d with
 | zero =>
  intro x y v hd hx hy;cases x with
  | t l=>exact absurd hd (by show ¬(DT.depths l+1<=0); omega)
  | s l=>exact absurd hd (by show ¬(DT.depths l+1<=0); omega)
  | k a =>
   cases y with
   | k b=>rw [vh hx hy]
   | t l=>obtain ⟨b,_,rfl,_⟩:=hy; exact (iy hx).elim
   | s l=>obtain ⟨b,_,rfl,_⟩:=hy; exact (iy hx).elim
 | succ d ih =>
  intro x y v hd hx hy;cases x with
  | k a =>
   cases y with
   | k b=>rw [vh hx hy]
   | t l=>obtain ⟨b,_,rfl,_⟩:=hy; exact (iy hx).elim
   | s l=>obtain ⟨b,_,rfl,_⟩:=hy; exact (iy hx).elim
  | t l =>
   obtain ⟨a,i,rfl,hi,hx⟩:=hx;cases y with
   | k b=>exact (iy hy).elim
   | t m =>
    obtain ⟨a',j,e,hj,hy⟩:=hy;cases e;rw [yO hj hi] at hy;rw [key d (fun h1=>ih h1) l m i.toList (by have:DT.depths l+1<=d+1:=hd; omega) hx hy]
   | s m =>
    obtain ⟨a',j,e,hj,hy⟩:=hy;cases e;exact (jL hj hi).elim
  | s l =>
   obtain ⟨a,i,rfl,hi,hx⟩:=hx;cases y with
   | k b=>exact (iy hy).elim
   | s m =>
    obtain ⟨a',j,e,hj,hy⟩:=hy;cases e;rw [Ax hj hi] at hy;rw [key d (fun h1=>ih h1) l m i.toList (by have:DT.depths l+1<=d+1:=hd; omega) hx hy]
   | t m =>
    obtain ⟨a',j,e,hj,hy⟩:=hy;cases e;exact (jL hi hj).elim
theorem f_ {l m:List DT}(hl:l.length=m.length):((jz l.length).all fun j=>decide (l[j]?=m[j]?))=decide (l=m):=by
 by_cases e:l=m
 ·subst e; simp
 ·rw [zzr0 e];rw [List.all_eq_false];apply vT;intro h;apply e;apply List.ext_getElem?;intro i;by_cases hi:i<l.length
  ·apply vT;intro hne;exact h ⟨i,List.mem_range.mpr hi,by simpa using hne⟩
  ·rw [eV (by omega),eV (by omega)]
section
variable {s:Shared}
theorem GX:∀(d:Nat) {A:Around}{x y:DT}{u v:Value},x.depth<=d->y.depth<=d->A.units+d<cLine->rE s.heap x u->rE s.heap y v->bO A s u v (decide (x=y)):=by
 have leaves:∀{A:Around}{a b:d_}{u v:Value},cH a u=true->cH b v=true->bO A s u v (decide (DT.k a=DT.k b)):=by
  intro A a b u v h1 h2;have hd:decide (DT.k a=DT.k b)=decide (a=b):=by
   by_cases e:a=b
   ·subst e; simp
   ·have:¬(DT.k a=DT.k b):=fun z=>e (by injection z);rw [zzr0 this,zzr0 e]
  rw [hd];rcases ar h1 with ⟨i,t,rfl,rfl⟩ | ⟨i,t,rfl,rfl⟩
  ·rcases ar h2 with ⟨j,u,rfl,rfl⟩ | ⟨j,u,rfl,rfl⟩
   ·rw [wV]; exact bO.int_int i t j u
   ·rw [wU]; exact bO.int_str i t j u
  ·rcases ar h2 with ⟨j,u,rfl,rfl⟩ | ⟨j,u,rfl,rfl⟩
   ·rw [wT]; exact bO.str_int i t j u
   ·rw [wS];have:=bO.str_str (A:=A) (s:=s) i t j u;rwa [show (i == j)=decide (i=j) from by by_cases e:i=j <;> simp [e]] at this
 have kt:∀{A:Around}{a:d_}{u:Value}{b:Addr}{items:Array Value},A.units<cLine->cH a u=true->s.heap.IsTuple b items->bO A s u (.ref b) false/\bO A s (.ref b) u false:=by
  intro A a u b items hu h1 ht;rcases ar h1 with ⟨i,t,rfl,rfl⟩ | ⟨i,t,rfl,rfl⟩
  ·exact ⟨bO.int_tuple i t ht hu,bO.tuple_int i t ht hu⟩
  ·exact ⟨bO.str_tuple i t ht hu,bO.tuple_str i t ht hu⟩
 have kl:∀{A:Around}{a:d_}{u:Value}{b:Addr}{items:Array Value},A.units<cLine->cH a u=true->s.heap.IsList b items->bO A s u (.ref b) false/\bO A s (.ref b) u false:=by
  intro A a u b items hu h1 ht;rcases ar h1 with ⟨i,t,rfl,rfl⟩ | ⟨i,t,rfl,rfl⟩
  ·exact ⟨bO.int_list i t ht hu,bO.list_int i t ht hu⟩
  ·exact ⟨bO.str_list i t ht hu,bO.list_str i t ht hu⟩
 intro d
 induction d with
 | zero =>
  intro A x y u v hdx hdy hu hx hy;cases x with
  | t l=>exact absurd hdx (by show ¬(DT.depths l+1<=0); omega)
  | s l=>exact absurd hdx (by show ¬(DT.depths l+1<=0); omega)
  | k a =>
   cases y with
   | t l=>exact absurd hdy (by show ¬(DT.depths l+1<=0); omega)
   | s l=>exact absurd hdy (by show ¬(DT.depths l+1<=0); omega)
   | k b=>exact leaves hx hy
 | succ d ih =>
  intro A x y u v hdx hdy hu hx hy;have items:∀{l m:List DT}{i j:Array Value},DT.depths l<=d->DT.depths m<=d->DAts s.heap l i.toList->DAts s.heap m j.toList->∀n (h1:n<i.size) (h2:n<j.size),bO A.in1 s i[n] j[n] (decide (l[n]?=m[n]?)):=by
   intro l m i j hl hm hi hj n h1 h2;obtain ⟨x,ex,hx⟩:=hi.get (i:=n) (v:=i[n]) (by simp [h1]);obtain ⟨y,ey,hy⟩:=hj.get (i:=n) (v:=j[n]) (by simp [h2]);rw [ex,ey];have hd:decide ((some x:Option DT)=some y)=decide (x=y):=by
    by_cases e:x=y
    ·subst e; simp
    ·rw [zzr0 e,zzr0 fun z=>e (dZ z)]
   rw [hd];exact ih (DT.depths_get hl ex) (DT.depths_get hm ey) (by show A.units+1+d<cLine; omega) hx hy
  cases x with
  | k a =>
   cases y with
   | k b=>exact leaves hx hy
   | t l =>
    obtain ⟨b,i,rfl,hi,_⟩:=hy;rw [zzr0 (by intro z; cases z)];exact (kt (by omega) hx hi).1
   | s l =>
    obtain ⟨b,i,rfl,hi,_⟩:=hy;rw [zzr0 (by intro z; cases z)];exact (kl (by omega) hx hi).1
  | t l =>
   have hl:DT.depths l<=d:=by have:DT.depths l+1<=d+1:=hdx; omega
   have hx0:=hx;obtain ⟨a,i,rfl,hi,hx⟩:=hx;cases y with
   | k b =>
    rw [zzr0 (by intro z; cases z)];exact (kt (by omega) hy hi).2
   | s m =>
    obtain ⟨b,j,rfl,hj,_⟩:=hy;rw [zzr0 (by intro z; cases z)];exact bO.tuple_list hi hj (by omega)
   | t m =>
    have hm:DT.depths m<=d:=by have:DT.depths m+1<=d+1:=hdy; omega
    have hy0:=hy;obtain ⟨b,j,rfl,hj,hy⟩:=hy;by_cases hab:a=b
    ·subst hab;have e:DT.t l=DT.t m:=rE.inj _ (aG _) hx0 hy0;rw [zzr1 e];exact bO.same _
    ·have r:=SeqAt.RcAt.tuples (A:=A) hi hj (by omega) (items hl hm hx hy);have li:=hx.length;have lj:=hy.length;simp only [mx] at li lj;have q:((jz (min i.size j.size)).all (fun n=>decide (l[n]?=m[n]?)) && i.size == j.size)=decide (DT.t l=DT.t m):=by
      by_cases e:l.length=m.length
      ·have e1:i.size=j.size:=by omega
       rw [<-e1,Nat.min_self,<-li,f_ e];by_cases e2:l=m
       ·subst e2; simp
       ·have:¬(DT.t l=DT.t m):=fun z=>e2 (by injection z);rw [zzr0 this,zzr0 e2]; rfl
      ·have e1:(i.size == j.size)=false:=by simp; omega
       have:¬(DT.t l=DT.t m):=fun z=>e (by injection z with z; rw [z]);rw [e1,zzr0 this,v6]
     rw [q] at r;exact .of_refs hab r
  | s l =>
   have hl:DT.depths l<=d:=by have:DT.depths l+1<=d+1:=hdx; omega
   have hx0:=hx;obtain ⟨a,i,rfl,hi,hx⟩:=hx;cases y with
   | k b =>
    rw [zzr0 (by intro z; cases z)];exact (kl (by omega) hy hi).2
   | t m =>
    obtain ⟨b,j,rfl,hj,_⟩:=hy;rw [zzr0 (by intro z; cases z)];exact bO.list_tuple hi hj (by omega)
   | s m =>
    have hm:DT.depths m<=d:=by have:DT.depths m+1<=d+1:=hdy; omega
    have hy0:=hy;obtain ⟨b,j,rfl,hj,hy⟩:=hy;by_cases hab:a=b
    ·subst hab;have e:DT.s l=DT.s m:=rE.inj _ (aG _) hx0 hy0;rw [zzr1 e];exact bO.same _
    ·have li:=hx.length;have lj:=hy.length;simp only [mx] at li lj;by_cases e:l.length=m.length
     ·have r:=SeqAt.RcAt.lists (A:=A) hi hj (by omega) (by omega) (items hl hm hx hy);rw [<-li,f_ e] at r;have q:decide (l=m)=decide (DT.s l=DT.s m):=by
       by_cases e2:l=m
       ·subst e2; simp
       ·have:¬(DT.s l=DT.s m):=fun z=>e2 (by injection z);rw [zzr0 this,zzr0 e2]
      rw [q] at r;exact .of_refs hab r
     ·have:¬(DT.s l=DT.s m):=fun z=>e (by injection z with z; rw [z]);rw [zzr0 this];exact .of_refs hab (SeqAt.RcAt.lists_lengths hi hj (by simp; omega) (by omega))
end
theorem B_ (a b:d_):decide (DT.k a=DT.k b)=decide (a=b):=by
 by_cases e:a=b
 ·subst e; simp
 ·rw [zzr0 e,zzr0 fun z=>e (by injection z)]
theorem GY (l m:List DT):decide (DT.t l=DT.t m)=decide (l=m):=by
 by_cases e:l=m
 ·subst e; simp
 ·rw [zzr0 e,zzr0 fun z=>e (by injection z)]
theorem GZ (l m:List DT):decide (DT.s l=DT.s m)=decide (l=m):=by
 by_cases e:l=m
 ·subst e; simp
 ·rw [zzr0 e,zzr0 fun z=>e (by injection z)]
theorem Fa (x y:DT):decide ((some x:Option DT)=some y)=decide (x=y):=by
 by_cases e:x=y
 ·subst e; simp
 ·rw [zzr0 e,zzr0 fun z=>e (dZ z)]
section
variable {A:Around}{s:Shared}
theorem oR {d:Nat}(hu:A.units+1+d<cLine) {l m:List DT}{i j:Array Value}(hl:DT.depths l<=d) (hm:DT.depths m<=d) (hi:DAts s.heap l i.toList) (hj:DAts s.heap m j.toList) :
  ∀n (h1:n<i.size) (h2:n<j.size),bO A.in1 s i[n] j[n] (decide (l[n]?=m[n]?)):=by
 intro n h1 h2;obtain ⟨x,ex,hx⟩:=hi.get (i:=n) (v:=i[n]) (by simp [h1]);obtain ⟨y,ey,hy⟩:=hj.get (i:=n) (v:=j[n]) (by simp [h2]);rw [ex,ey,Fa];exact GX d (DT.depths_get hl ex) (DT.depths_get hm ey) hu hx hy
theorem Bl {l m:List DT}{i j:Array Value}(hi:DAts s.heap l i.toList) (hj:DAts s.heap m j.toList):((jz (min i.size j.size)).all (fun n=>decide (l[n]?=m[n]?)) && i.size == j.size)=decide (l=m):=by
 have li:=hi.length;have lj:=hj.length;simp only [mx] at li lj;by_cases e:l.length=m.length
 ·have e1:i.size=j.size:=by omega
  rw [<-e1,Nat.min_self,<-li,f_ e];simp
 ·have e1:(i.size == j.size)=false:=by simp; omega
  rw [e1,zzr0 fun z=>e (by rw [z]),v6]
theorem HQ {x y:DT}{u v:Value}(dx:x.depth<=8) (dy:y.depth<=8) (hu:A.units+16<cLine) (hx:rE s.heap x u) (hy:rE s.heap y v):SeqAt.RcAt A s u v (decide (x=y)):=by
 cases x with
 | k a =>
  rcases ar (show cH a u=true from hx) with ⟨i,t,rfl,rfl⟩ | ⟨i,t,rfl,rfl⟩
  ·cases y with
   | k b =>
    rw [B_];rcases ar (show cH b v=true from hy) with ⟨j,t',rfl,rfl⟩ | ⟨j,t',rfl,rfl⟩
    ·rw [wV]; exact SeqAt.RcAt.int_int i t j t'
    ·rw [wU]; exact SeqAt.RcAt.int_str i t j t'
   | t m=>obtain ⟨b,j,rfl,hj,_⟩:=hy; rw [zzr0 (by intro z; cases z)]; exact SeqAt.RcAt.int_tuple i t hj (by omega)
   | s m=>obtain ⟨b,j,rfl,hj,_⟩:=hy; rw [zzr0 (by intro z; cases z)]; exact SeqAt.RcAt.int_list i t hj (by omega)
  ·cases y with
   | k b =>
    rw [B_];rcases ar (show cH b v=true from hy) with ⟨j,t',rfl,rfl⟩ | ⟨j,t',rfl,rfl⟩
    ·rw [wT]; exact SeqAt.RcAt.str_int i t j t'
    ·rw [wS];have:=SeqAt.RcAt.str_str (A:=A) (s:=s) i t j t';rwa [show (i == j)=decide (i=j) from by by_cases e:i=j <;> simp [e]] at this
   | t m=>obtain ⟨b,j,rfl,hj,_⟩:=hy; rw [zzr0 (by intro z; cases z)]; exact SeqAt.RcAt.str_tuple i t hj (by omega)
   | s m=>obtain ⟨b,j,rfl,hj,_⟩:=hy; rw [zzr0 (by intro z; cases z)]; exact SeqAt.RcAt.str_list i t hj (by omega)
 | t l =>
  obtain ⟨a,i,rfl,hi,hx⟩:=hx;have dl:DT.depths l<=7:=by have:DT.depths l+1<=8:=dx; omega
  cases y with
  | k b =>
   rw [zzr0 (by intro z; cases z)];rcases ar (show cH b v=true from hy) with ⟨j,t',rfl,rfl⟩ | ⟨j,t',rfl,rfl⟩
   ·exact SeqAt.RcAt.tuple_int j t' hi (by omega)
   ·exact SeqAt.RcAt.tuple_str j t' hi (by omega)
  | t m =>
   obtain ⟨b,j,rfl,hj,hy⟩:=hy;have dm:DT.depths m<=7:=by have:DT.depths m+1<=8:=dy; omega
   have r:=SeqAt.RcAt.tuples (A:=A) hi hj (by omega) (oR (by omega) dl dm hx hy);rw [Bl hx hy] at r;rw [GY]; exact r
  | s m=>obtain ⟨b,j,rfl,hj,_⟩:=hy; rw [zzr0 (by intro z; cases z)]; exact SeqAt.RcAt.tuple_list hi hj (by omega)
 | s l =>
  obtain ⟨a,i,rfl,hi,hx⟩:=hx;have dl:DT.depths l<=7:=by have:DT.depths l+1<=8:=dx; omega
  cases y with
  | k b =>
   rw [zzr0 (by intro z; cases z)];rcases ar (show cH b v=true from hy) with ⟨j,t',rfl,rfl⟩ | ⟨j,t',rfl,rfl⟩
   ·exact SeqAt.RcAt.list_int j t' hi (by omega)
   ·exact SeqAt.RcAt.list_str j t' hi (by omega)
  | t m=>obtain ⟨b,j,rfl,hj,_⟩:=hy; rw [zzr0 (by intro z; cases z)]; exact SeqAt.RcAt.list_tuple hi hj (by omega)
  | s m =>
   obtain ⟨b,j,rfl,hj,hy⟩:=hy;have dm:DT.depths m<=7:=by have:DT.depths m+1<=8:=dy; omega
   have li:=hx.length;have lj:=hy.length;simp only [mx] at li lj;rw [GZ];by_cases e:l.length=m.length
   ·have r:=SeqAt.RcAt.lists (A:=A) hi hj (by omega) (by omega) (oR (by omega) dl dm hx hy);rw [<-li,f_ e] at r;exact r
   ·rw [zzr0 fun z=>e (by rw [z])];exact SeqAt.RcAt.lists_lengths hi hj (by simp; omega) (by omega)
theorem HR {x y:DT}{u v:Value}(dx:x.depth<=8) (dy:y.depth<=8) (hu:A.units+16<cLine) (hx:rE s.heap x u) (hy:rE s.heap y v):SeqAt.RcNeAt A s u v (!decide (x=y)):=by
 cases x with
 | k a =>
  rcases ar (show cH a u=true from hx) with ⟨i,t,rfl,rfl⟩ | ⟨i,t,rfl,rfl⟩
  ·cases y with
   | k b =>
    rw [B_];rcases ar (show cH b v=true from hy) with ⟨j,t',rfl,rfl⟩ | ⟨j,t',rfl,rfl⟩
    ·rw [wV]; exact SeqAt.RcNeAt.int_int i t j t'
    ·rw [wU]; exact SeqAt.RcNeAt.int_str i t j t'
   | t m=>obtain ⟨b,j,rfl,hj,_⟩:=hy; rw [zzr0 (by intro z; cases z)]; exact SeqAt.RcNeAt.int_tuple i t hj (by omega)
   | s m=>obtain ⟨b,j,rfl,hj,_⟩:=hy; rw [zzr0 (by intro z; cases z)]; exact SeqAt.RcNeAt.int_list i t hj (by omega)
  ·cases y with
   | k b =>
    rw [B_];rcases ar (show cH b v=true from hy) with ⟨j,t',rfl,rfl⟩ | ⟨j,t',rfl,rfl⟩
    ·rw [wT]; exact SeqAt.RcNeAt.str_int i t j t'
    ·rw [wS];have:=SeqAt.RcNeAt.str_str (A:=A) (s:=s) i t j t';rwa [show (i == j)=decide (i=j) from by by_cases e:i=j <;> simp [e]] at this
   | t m=>obtain ⟨b,j,rfl,hj,_⟩:=hy; rw [zzr0 (by intro z; cases z)]; exact SeqAt.RcNeAt.str_tuple i t hj (by omega)
   | s m=>obtain ⟨b,j,rfl,hj,_⟩:=hy; rw [zzr0 (by intro z; cases z)]; exact SeqAt.RcNeAt.str_list i t hj (by omega)
 | t l =>
  obtain ⟨a,i,rfl,hi,hx⟩:=hx;have dl:DT.depths l<=7:=by have:DT.depths l+1<=8:=dx; omega
  cases y with
  | k b =>
   rw [zzr0 (by intro z; cases z)];rcases ar (show cH b v=true from hy) with ⟨j,t',rfl,rfl⟩ | ⟨j,t',rfl,rfl⟩
   ·exact SeqAt.RcNeAt.tuple_int j t' hi (by omega)
   ·exact SeqAt.RcNeAt.tuple_str j t' hi (by omega)
  | t m =>
   obtain ⟨b,j,rfl,hj,hy⟩:=hy;have dm:DT.depths m<=7:=by have:DT.depths m+1<=8:=dy; omega
   have r:=SeqAt.RcNeAt.tuples (A:=A) hi hj (by omega) (oR (by omega) dl dm hx hy);rw [Bl hx hy] at r;rw [GY]; exact r
  | s m=>obtain ⟨b,j,rfl,hj,_⟩:=hy; rw [zzr0 (by intro z; cases z)]; exact SeqAt.RcNeAt.tuple_list hi hj (by omega)
 | s l =>
  obtain ⟨a,i,rfl,hi,hx⟩:=hx;have dl:DT.depths l<=7:=by have:DT.depths l+1<=8:=dx; omega
  cases y with
  | k b =>
   rw [zzr0 (by intro z; cases z)];rcases ar (show cH b v=true from hy) with ⟨j,t',rfl,rfl⟩ | ⟨j,t',rfl,rfl⟩
   ·exact SeqAt.RcNeAt.list_int j t' hi (by omega)
   ·exact SeqAt.RcNeAt.list_str j t' hi (by omega)
  | t m=>obtain ⟨b,j,rfl,hj,_⟩:=hy; rw [zzr0 (by intro z; cases z)]; exact SeqAt.RcNeAt.list_tuple hi hj (by omega)
  | s m =>
   obtain ⟨b,j,rfl,hj,hy⟩:=hy;have dm:DT.depths m<=7:=by have:DT.depths m+1<=8:=dy; omega
   have li:=hx.length;have lj:=hy.length;simp only [mx] at li lj;rw [GZ];by_cases e:l.length=m.length
   ·have r:=SeqAt.RcNeAt.lists (A:=A) hi hj (by omega) (by omega) (oR (by omega) dl dm hx hy);rw [<-li,f_ e] at r;exact r
   ·rw [zzr0 fun z=>e (by rw [z])];exact SeqAt.RcNeAt.lists_lengths hi hj (by simp; omega) (by omega)
end
mutual
def hW (K:Za) (H:Hp):DT->V->Prop
 | .k a,v=>v=kV a
 | .t l,v=>∃b xs,v=.ref b/\bj K H b xs/\DIns K H l xs
 | .s l,v=>∃b xs,v=.ref b/\aA K H b xs/\DIns K H l xs
def DIns (K:Za) (H:Hp):List DT->List V->Prop
 | [],vs=>vs=[]
 | k::r,vs=>∃v us,vs=v::us/\hW K H k v/\DIns K H r us
end
section
variable {X:Cx}{J3:Zd}{σ:St}{H:Hp}{s:Shared}
theorem ny (I:Inv X J3 σ H s):∀(d:Nat) {k:DT}{v:V}{u:Value},k.depth<=d->hW X.K H k v->RelV v u->rE s.heap k u:=by
 have key:∀(d:Nat) (ih:∀{k:DT}{v:V}{u:Value},k.depth<=d->hW X.K H k v->RelV v u->rE s.heap k u) (ks:List DT) (vs:List V) (us:Zf),DT.depths ks<=d->DIns X.K H ks vs->bc vs us->DAts s.heap ks us:=by
  intro d ih ks
  induction ks with
  | nil =>
   intro vs us _ hx r;have e:vs=[]:=hx;subst e;cases r
   rfl
  | cons k ks ihl =>
   intro vs us hd hx r;obtain ⟨v,vs',rfl,h1,h2⟩:=hx;cases r with
   | @cons _ u _ us' r1 r2 =>
    have hd':max k.depth (DT.depths ks)<=d:=hd;exact ⟨u,us',rfl,ih (by omega) h1 r1,ihl vs' us' (by omega) h2 r2⟩
 intro d
 induction d with
 | zero =>
  intro k v u hd hx r;cases k with
  | t l=>exact absurd hd (by show ¬(DT.depths l+1<=0); omega)
  | s l=>exact absurd hd (by show ¬(DT.depths l+1<=0); omega)
  | k b =>
   have e:v=kV b:=hx;subst e;exact jK (P:=X.prog) (w:=X.w) r
 | succ d ih =>
  intro k v u hd hx r;cases k with
  | k b =>
   have e:v=kV b:=hx;subst e;exact jK (P:=X.prog) (w:=X.w) r
  | t l =>
   obtain ⟨b,xs,rfl,hb,hi⟩:=hx;cases (show u=Value.ref b from r);obtain ⟨its,rv,ht,_⟩:=I.tuple hb;exact ⟨b,its.toArray,rfl,ht,by simpa using key d (fun h1=>ih h1) l xs its (by have:DT.depths l+1<=d+1:=hd; omega) hi rv⟩
  | s l =>
   obtain ⟨b,xs,rfl,hb,hi⟩:=hx;cases (show u=Value.ref b from r);obtain ⟨its,rv,ht,_⟩:=I.list hb;exact ⟨b,its.toArray,rfl,ht.isList,by simpa using key d (fun h1=>ih h1) l xs its (by have:DT.depths l+1<=d+1:=hd; omega) hi rv⟩
theorem oU (I:Inv X J3 σ H s):∀{ks:List DT}{vs:List V}{us:Zf},DT.depths ks<=8->DIns X.K H ks vs->bc vs us->DAts s.heap ks us
 | [],vs,us,_,hx,r=>by
  have e:vs=[]:=hx;subst e;cases r
  rfl
 | k::ks,vs,us,hd,hx,r=>by
  obtain ⟨v,vs',rfl,h1,h2⟩:=hx;cases r with
  | @cons _ u _ us' r1 r2 =>
   have hd':max k.depth (DT.depths ks)<=8:=hd;exact ⟨u,us',rfl,ny I 8 (by omega) h1 r1,oU I (by omega) h2 r2⟩
end
def kG (K:Za):R2:=fun x y H Q=>∃d e:DT,hW K H d x/\hW K H e y/\d.depth<=8/\e.depth<=8/\Q (.bl (decide (d=e))) H
def oB (K:Za):R2:=fun x y H Q=>∃d e:DT,hW K H d x/\hW K H e y/\d.depth<=8/\e.depth<=8/\Q (.bl (!decide (d=e))) H
section
variable {X:Cx}
theorem gE (hu:X.A.units+16<cLine):nP X (eT .Eq) (kG X.K):=by
 intro J3 s σ H x y v u Q I rx ry h;obtain ⟨d,e,hx,hy,dx,dy,q⟩:=h;exact HQ dx dy hu (ny I 8 dx hx rx) (ny I 8 dy hy ry) X.prog X.w X.xe _ ⟨.bl _,H,I,rfl,q⟩
theorem nk (hu:X.A.units+16<cLine):nP X (eT .NotEq) (oB X.K):=by
 intro J3 s σ H x y v u Q I rx ry h;obtain ⟨d,e,hx,hy,dx,dy,q⟩:=h;exact HR dx dy hu (ny I 8 dx hx rx) (ny I 8 dy hy ry) X.prog X.w X.xe _ ⟨.bl _,H,I,rfl,q⟩
def sR (K:Za) (neg:Bool):R2:=fun x y H Q=>∃(d:DT) (ds:List DT) (p:Addr) (xs:List V),hW K H d x/\y=.ref p/\(aA K H p xs∨bj K H p xs)/\DIns K H ds xs/\d.depth<=8/\DT.depths ds<=8/\Q (.bl (if neg then !decide (d∈ds) else decide (d∈ds))) H
open Classical in
theorem oZ {h:Heap}{d:DT}(d8:d.depth<=8):∀{ds:List DT}{us:Zf},DAts h ds us->DT.depths ds<=8->us.any (fun u=>@decide (rE h d u) (propDecidable _))=decide (d∈ds)
 | [],us,e,_=>by
  have e':us=[]:=e;subst e'
  rfl
 | x::ds,us,e,hd=>by
  obtain ⟨u,us',rfl,h1,h2⟩:=e;have hd':max x.depth (DT.depths ds)<=8:=hd;rw [mL,oZ d8 h2 (by omega)];by_cases q:d=x
  ·subst q;simp [h1]
  ·have n:¬rE h d u:=fun z=>q (rE.inj 8 d8 z h1);simp [n,q]
open Classical in
theorem s_ {A:Around}{s:Shared}{d:DT}{v:Value}(d8:d.depth<=8) (hu:A.units+8<cLine) (hd:rE s.heap d v):∀{ds:List DT}{us:Zf},DAts s.heap ds us->DT.depths ds<=8->∀u∈us,bO A s u v (@decide (rE s.heap d u) (propDecidable _))
 | [],us,e,_,u,hm=>by
  have e':us=[]:=e;subst e';cases hm
 | x::ds,us,e,h8,u,hm=>by
  obtain ⟨u',us',rfl,h1,h2⟩:=e;have h8':max x.depth (DT.depths ds)<=8:=h8;rcases cU.mp hm with rfl | hm
  ·have q:=GX 8 (A:=A) (by omega) d8 hu h1 hd;by_cases z:x=d
   ·subst z;rw [zzr1 h1];rwa [zzr1 rfl] at q
   ·have n:¬rE s.heap d u:=fun w=>z (rE.inj 8 d8 w h1).symm;rw [zzr0 n];rwa [zzr0 z] at q
  ·exact s_ d8 hu hd h2 (by omega) u hm
theorem Am (hu:X.A.units+16<cLine):nP X (eT .In) (sR X.K false):=by
 intro J3 s σ H x y v u Q I rx ry h;obtain ⟨d,ds,p,xs,hx,rfl,hq,hds,d8,ds8,q⟩:=h;cases ry;have hd:=ny I 8 d8 hx rx;have hu':X.A.in1.units+8<cLine:=by show X.A.units+1+8<cLine; omega
 rcases hq with hq | hq
 ·obtain ⟨its,r,pl,hz⟩:=I.list hq;have hi:=oU I ds8 hds r;refine SeqAt.in_listAt _ pl.isList (fun w hw=>s_ d8 hu' hd hi ds8 w (by simpa using hw)) ⟨.bl _,H,I,rfl,?_⟩;rw [vS,oZ d8 hi ds8];exact q
 ·obtain ⟨its,r,pl,hz⟩:=I.tuple hq;have hi:=oU I ds8 hds r;refine SeqAt.in_tupleAt _ pl (fun w hw=>s_ d8 hu' hd hi ds8 w (by simpa using hw)) ⟨.bl _,H,I,rfl,?_⟩;rw [vS,oZ d8 hi ds8];exact q
theorem lT (hu:X.A.units+16<cLine):nP X (eT .NotIn) (sR X.K true):=by
 intro J3 s σ H x y v u Q I rx ry h;obtain ⟨d,ds,p,xs,hx,rfl,hq,hds,d8,ds8,q⟩:=h;cases ry;have hd:=ny I 8 d8 hx rx;have hu':X.A.in1.units+8<cLine:=by show X.A.units+1+8<cLine; omega
 rcases hq with hq | hq
 ·obtain ⟨its,r,pl,hz⟩:=I.list hq;have hi:=oU I ds8 hds r;refine SeqAt.notIn_listAt _ pl.isList (fun w hw=>s_ d8 hu' hd hi ds8 w (by simpa using hw)) ⟨.bl _,H,I,rfl,?_⟩;rw [vS,oZ d8 hi ds8];exact q
 ·obtain ⟨its,r,pl,hz⟩:=I.tuple hq;have hi:=oU I ds8 hds r;refine SeqAt.notIn_tupleAt _ pl (fun w hw=>s_ d8 hu' hd hi ds8 w (by simpa using hw)) ⟨.bl _,H,I,rfl,?_⟩;rw [vS,oZ d8 hi ds8];exact q
end
def tF (z:Str) (lo hi:Option Int):Str:=⟨((z.cps.toList.drop (HT.sIx z.length 0 lo)).take (HT.sIx z.length z.length hi-HT.sIx z.length 0 lo)).toArray⟩
theorem sliceRange_one (a b:Nat):sliceRange (a:Int) (b:Int) 1=(jz (b-a)).map (fun k=>a+k):=by
 unfold sliceRange;simp only [show (1:Int) > 0 from by decide,if_true];by_cases h:(a:Int)<(b:Int)
 ·have e:(if (a:Int)<(b:Int) then ((b:Int)-a+1-1) / 1 else 0).toNat=b-a:=by rw [if_pos h]; omega
  rw [e];exact List.map_congr_left fun k _=>by omega
 ·have e:(if (a:Int)<(b:Int) then ((b:Int)-a+1-1) / 1 else 0).toNat=b-a:=by rw [if_neg h]; omega
  rw [e];exact List.map_congr_left fun k _=>by omega
theorem y6 (v:Option Int) (n d:Nat):(match v with | none=>(d:Int) | some i=>max 0 (min (if i<0 then i+(n:Int) else i) (n:Int)))=((HT.sIx n d v:Nat):Int):=by
 cases v with
 | none=>rfl
 | some i =>
  rw [<-HT.clip_eq i n d];dsimp only;by_cases h:i<0
  ·rw [if_pos h,if_pos h]; omega
  ·rw [if_neg h,if_neg h]; omega
theorem oo (lo hi:Option Int) (n:Nat):rZ lo hi 1 n=(jz (HT.sIx n n hi-HT.sIx n 0 lo)).map (fun k=>HT.sIx n 0 lo+k):=by
 have e1:=y6 lo n 0;have e2:=y6 hi n n;rw [<-sliceRange_one,<-e1,<-e2];unfold rZ;simp only [show (1:Int) > 0 from by decide,if_true];cases lo <;> cases hi <;> rfl
theorem CH (z:Str) (lo hi:Option Int):Txt.slice z lo hi=tF z lo hi:=by
 have ha:HT.sIx z.length 0 lo<=z.length:=HT.sIx_le _ _ (c9 _) _;have hb:HT.sIx z.length z.length hi<=z.length:=HT.sIx_le _ _ (aG _) _;have hlen:z.cps.toList.length=z.length:=by simp [Str.length]
 have pick:(rZ lo hi 1 z.length).filterMap (z.cps[·]?)=(z.cps.toList.drop (HT.sIx z.length 0 lo)).take (HT.sIx z.length z.length hi-HT.sIx z.length 0 lo):=by
  rw [oo];generalize HT.sIx z.length 0 lo=a at *;generalize HT.sIx z.length z.length hi=b at *;have h:=StrLaws.picks z.cps.toList (b-a) a (by omega);simpa using h
 unfold Txt.slice;by_cases h:((1:Int) == 1 && (rZ lo hi 1 z.length).length == z.length)=true
 ·rw [if_pos h];have hl:(rZ lo hi 1 z.length).length=z.length:=by simpa using h
  rw [oo,aj,rY] at hl;unfold tF;have a0:HT.sIx z.length 0 lo=0:=by omega
  have bn:HT.sIx z.length z.length hi-HT.sIx z.length 0 lo=z.cps.toList.length:=by omega
  rw [bn,a0,rX,aX]
 ·rw [if_neg h];unfold tF;rw [pick]
section
variable {X:Cx}
def F_:V->Option Int->Option Int->Hp->VK->Prop:=fun x lo hi H Q=>∃z,x=.str z/\z.length<=ai/\Q (.str (tF z lo hi)) H
theorem zZ:SlR X F_:=by
 intro J3 s σ H x v vl vu lo hi sl Q I rx hs pl pu h;obtain ⟨z,rfl,hz,q⟩:=h;obtain ⟨t,rfl⟩:=rx;rw [<-CH] at q;refine ⟨"str",_,F.slot_str_getitem.lookup,typeIs_str _ _ _,?_⟩;obtain ⟨o,ho,hc,hd⟩:=hs;have fin:∀(l u:Option (Int×Tok)),vl=partValue l->vu=partValue u->lo=l.map (·.1)->hi=u.map (·.1)->wpAny (model X.prog X.w) X.A (mN (.str z t) (.ref sl)) (EP X J3 σ Q) X.xe s:=by
  rintro l u rfl rfl rfl rfl;refine wpAny_getItem_str_slice (l:=l) (u:=u) (st:=none) ⟨o,ho,hc,hd⟩ rfl (post_val_or_str ⟨bH (Txt.slice_le z _ _) hz,fun t' k=>⟨.str _,H,I.tok _,⟨_,rfl⟩,q⟩⟩)
 cases pl with
 | none =>
  cases pu with
  | none=>exact fin none none rfl rfl rfl rfl
  | int j u=>exact fin none (some (j,u)) rfl rfl rfl rfl
 | int i t' =>
  cases pu with
  | none=>exact fin (some (i,t')) none rfl rfl rfl rfl
  | int j u=>exact fin (some (i,t')) (some (j,u)) rfl rfl rfl rfl
def GS (K:Za):V->List V->Hp->VK->Prop:=fun x vs H Q=>∃z p ys,x=.str z/\vs=[.ref p]/\aA K H p (ys.map V.str)/\(ys.map (·.length)).sum+ys.length * z.length<=16777216/\Q (.str (vR z ys)) H
theorem FK {ys:Zb}:∀{us:Zf},bc (ys.map V.str) us->StrsAre us ys:=by
 induction ys with
 | nil=>intro us r; cases r; exact .nil
 | cons y ys ih =>
  intro us r;cases r with
  | cons r1 r2 =>
   obtain ⟨t,rfl⟩:=r1;exact .cons _ _ (ih r2)
theorem Gk:Ht X "str.join" (GS X.K):=by
 intro J3 s σ H x vs v us Q I rx rv h;obtain ⟨z,p,ys,rfl,rfl,hq,hz,q⟩:=h;obtain ⟨t,rfl⟩:=rx;obtain ⟨u,rfl,ru⟩:=rv.one;cases ru;obtain ⟨its,r,pl,_⟩:=I.list hq;exact join_list pl.isList (by simpa using FK r) hz fun t' k=>⟨.str _,H,I.tok _,⟨_,rfl⟩,q⟩
end
section
variable {X:Cx}
def Fv (K:Za) (H:Hp) (x:V) (t:Value):Prop:=gG K H x t∨(∃a xs,x=.ref a/\t=.type "tuple"/\bj K H a xs)∨(∃a xs,x=.ref a/\t=.type "list"/\aA K H a xs)
theorem Aw {J3:Zd}{σ:St}{H:Hp}{s:Shared}{A:Around}{E:Zc}{Q:Zc}{c:Value}{b:Bool}{x:V}{u t:Value}(I:Inv X J3 σ H s) (rx:RelV x u) (ty:Fv X.K H x t) (e:nS X.K t c=some b) (h:∀tk,Q (.bool b) { s with toks:=tk }) :
  wpAny (model X.prog X.w) A (call (.builtin "isinstance") [u,c]) Q E s:=by
 rcases ty with ty | ⟨a,xs,rfl,rfl,q⟩ | ⟨a,xs,rfl,rfl,q⟩
 ·exact C5 I rx ty e h
 ·cases (show u=Value.ref a from rx);obtain ⟨its,rv,p,hz⟩:=I.tuple q;obtain ⟨o,h1,h2,_⟩:=p;exact jw PySem.W.kitx_tuple I.kIn ⟨o,h1,h2⟩ e (fun z=>nomatch z) h
 ·cases (show u=Value.ref a from rx);obtain ⟨its,rv,p,hz⟩:=I.list q;obtain ⟨o,n,h1,h2,_⟩:=p;exact jw PySem.W.kitx_list I.kIn ⟨o,h1,h2⟩ e (fun z=>nomatch z) h
theorem eI:gb X (.builtin "isinstance") (fun xs H Q=>∃x c t b,xs=[x,.ty c]/\Fv X.K H x t/\nS X.K t (.type c)=some b/\Q (.bl b) H):=by
 intro J3 s σ H xs us Q I r h;obtain ⟨x,c,t,b,rfl,ty,hk,q⟩:=h;obtain ⟨u,v,rfl,ru,rv⟩:=vals2 r;cases (show v=Value.type c from rv);exact Aw I ru ty hk fun tk=>⟨.bl b,H,I.tok _,rfl,q⟩
theorem Fh {bs:List Bool}{us:Zf}(r:bc (bs.map V.bl) us) {i:Nat}{v:Value}(h:us[i]?=some v):v=.bool ((bs[i]?).getD false)/\i<bs.length:=by
 have hi:i<us.length:=(cw.mp h).1;have hl:=r.length;rw [aj] at hl;have hb:i<bs.length:=by omega
 obtain ⟨u,hu,ru⟩:=r.get (i:=i) (x:=V.bl bs[i]) (by simp [hb]);rw [h] at hu;cases hu;refine ⟨?_,hb⟩;rw [bX hb];exact ru
theorem xk (bs:List Bool):((jz bs.length).all fun i=>(bs[i]?).getD false)=bs.all id:=by
 induction bs with
 | nil=>rfl
 | cons b bs ih =>
  rw [dP,List.range_succ_eq_map,List.all_cons,List.all_map,List.all_cons,<-ih]
  rfl
theorem xj (bs:List Bool):((jz bs.length).any fun i=>(bs[i]?).getD false)=bs.any id:=by
 induction bs with
 | nil=>rfl
 | cons b bs ih =>
  rw [dP,List.range_succ_eq_map,mL,List.any_map,mL,<-ih]
  rfl
theorem qK (hc:X.calm=true):gb X (.builtin "all") (fun xs H Q=>∃(p:Addr) (bs:List Bool),xs=[.ref p]/\aA X.K H p (bs.map V.bl)/\Q (.bl (bs.all id)) H):=by
 intro J3 s σ H xs us Q I r h;obtain ⟨p,bs,rfl,hq,q⟩:=h;obtain ⟨u,rfl,ru⟩:=vals1 r;cases ru;obtain ⟨its,rv,pl,hz⟩:=I.list hq;obtain ⟨o,n,ho,_⟩:=id pl;have hl:=rv.length;rw [aj] at hl;refine call_all_walk (xF pl.isList ?_);refine ⟨s.heap.objs.size,_,_,_,_,_,fun i=>(bs[i]?).getD false,rfl,Walks.list (prog:=X.prog) (w:=X.w) (A:=X.A.in1) (I.ok.hd hc) s.heap.objs.size p (cV (aY ho)) its.toArray,⟨⟨_,cF _ rfl,rfl,rfl⟩,pl.isList.push _⟩,?_,?_⟩
 ·intro i v s' Q' E' hv hq';obtain ⟨e,_⟩:=Fh rv (i:=i) (v:=v) (by simpa using hv);rw [e];exact qz hq'
 ·intro h' tk hk;have I':Inv X J3 σ H { s with heap:=h',toks:=tk }:=I.kept fun b o e=>hk b o (by simp; exact cV (aY e)) (bq _ e);rw [bM,<-hl,xk];exact ⟨.bl _,H,I',rfl,q⟩
theorem y9 (hc:X.calm=true):gb X (.builtin "any") (fun xs H Q=>∃(p:Addr) (bs:List Bool),xs=[.ref p]/\aA X.K H p (bs.map V.bl)/\Q (.bl (bs.any id)) H):=by
 intro J3 s σ H xs us Q I r h;obtain ⟨p,bs,rfl,hq,q⟩:=h;obtain ⟨u,rfl,ru⟩:=vals1 r;cases ru;obtain ⟨its,rv,pl,hz⟩:=I.list hq;obtain ⟨o,n,ho,_⟩:=id pl;have hl:=rv.length;rw [aj] at hl;refine call_any_walk (xF pl.isList ?_);refine ⟨s.heap.objs.size,_,_,_,_,_,fun i=>(bs[i]?).getD false,rfl,Walks.list (prog:=X.prog) (w:=X.w) (A:=X.A.in1) (I.ok.hd hc) s.heap.objs.size p (cV (aY ho)) its.toArray,⟨⟨_,cF _ rfl,rfl,rfl⟩,pl.isList.push _⟩,?_,?_⟩
 ·intro i v s' Q' E' hv hq';obtain ⟨e,_⟩:=Fh rv (i:=i) (v:=v) (by simpa using hv);rw [e];exact qz hq'
 ·intro h' tk hk;have I':Inv X J3 σ H { s with heap:=h',toks:=tk }:=I.kept fun b o e=>hk b o (by simp; exact cV (aY e)) (bq _ e);rw [bM,<-hl,xj];exact ⟨.bl _,H,I',rfl,q⟩
theorem Al:nP X (eT .In) (fun x y H Q=>∃c j,x=.str ⟨#[c]⟩/\y=.str j/\Q (.bl (decide (c∈j.cps.toList))) H):=by
 intro J3 s σ H x y v u Q I rx ry h;obtain ⟨c,j,rfl,rfl,q⟩:=h;rw [<-StrLaws.found_one] at q;exact CT J3 s σ H _ _ v u Q I rx ry ⟨_,_,rfl,rfl,q⟩
theorem tK (hc:X.calm=true):gb X (.type "list") (fun xs H Q=>∃(d:Addr) (kvs:List (d_×V)),xs=[.ref d]/\Rd H d (.dK kvs)/\∀l,H l=none->Q (.ref l) (upd H l (.lst (kvs.map fun kv=>kV kv.1)))):=by
 intro J3 s σ H xs us Q I r h;obtain ⟨d,kvs,rfl,hd,q⟩:=h;obtain ⟨u,rfl,ru⟩:=vals1 r;cases ru;obtain ⟨z,hsys,vs,rel,dd⟩:=oS I.hok hd;obtain ⟨ep,hat⟩:=dd.dictAt;have hl:=rel.length;refine PySem.W.kdl_call (PySem.W.kdl_dict (knd:=bS X.prog X.w) (kvs:=vs) (ep:=ep) hsys) (I.ok.hd hc) hat (by rw [<-hl]; exact z) fun h' tk acc c hk hD hacc=>?_;have hv:bc (kvs.map fun kv=>kV kv.1) acc.toList:=by
  obtain ⟨hn,hP⟩:=hacc;have key:∀(a:Zf) (ks:List (d_×V)) (ws:List (d_×Value)),KV ks ws->a.length=ws.length->(∀(j:Nat) (v:Value),a[j]?=some v->∃k x,ws[j]?=some (k,x)/\(bS X.prog X.w).is k v=true)->bc (ks.map fun kv=>kV kv.1) a:=by
   intro a ks ws rl
   induction rl generalizing a with
   | nil=>intro ha _; cases a with
    | nil=>exact .nil
    | cons _ _=>cases ha
   | @cons p w' ps ws' hp _ ih =>
    intro ha hj;cases a with
    | nil=>cases ha
    | cons v a =>
     obtain ⟨k,x,e,hk⟩:=hj 0 v rfl;have e':w'=(k,x):=by simpa using e
     refine .cons ?_ (ih a (by simpa using ha) fun j v hv=>by simpa using hj (j+1) v (by simpa using hv));have ek:p.1=k:=by rw [hp.1,e']
     show RelV (kV p.1) v;rw [ek];rcases ar (show cH k v=true from hk) with ⟨i,t,rfl,rfl⟩ | ⟨i,t,rfl,rfl⟩
     ·exact ⟨t,rfl⟩
     ·exact ⟨t,rfl⟩
  exact key acc.toList kvs vs rel (by rw [mx]; exact hn) fun j v hv=>hP j v (by rw [<-Array.getElem?_toList]; exact hv)
 refine ⟨.ref s.heap.objs.size,_,I.laid (o:=.lst (kvs.map fun kv=>kV kv.1)) hk (aG _) ⟨by rw [aj]; exact z,acc.toList,c,hv,by rw [Array.toArray_toList]; exact hD⟩,rfl,q _ I.fresh⟩
end
section
variable {prog:bR}{w:World}{K:Type} [DecidableEq K] {knd:HeapKind prog w K}{A:Around}{E:Zc}{s:Shared}
theorem sn {d a:Addr}{xs:List (K×Addr×Value)}{k:K}{v:Value}{Q:Zc}(hu:knd.room A) (hkey:knd.is s.heap k a) (hm:s.heap.DictOfH knd d xs)
  (there:∀p,atKey xs k=some p->Q p.2 { s with toks:=s.toks+knd.draws k })
  (new:atKey xs k=none->∀h',h'.DictOfH knd d (xs++[(k,a,v)])->fF d s.heap h'->Q v { s with heap:=h',toks:=s.toks+knd.draws k })
  (hsz:xs.length<=ai):wpAny (model prog w) A (dictSetDefault d (.ref a) v) Q E s:=by
 obtain ⟨o,es,ep,ho,hc,hd,he,his,hn⟩:=hm;unfold dictSetDefault
 try with_reducible refine kR ?_
 refine ak (knd.pyHash hu hkey ?_);refine ak (wpAny_dictFind_heap (s:={ s with toks:=s.toks+knd.draws k }) hu hkey ho hd he his hn ?_ ?_)
 ·intro hno;have hnot:k∉xs.map (·.1):=not_mem_keys_of_get hno;refine ak (xB (ak (wpAny_updateDictKeys (hz:=by have e:=size_of_entries he; omega) (s:={ s with toks:=s.toks+knd.draws k }) ho hd (aH (new (atKey_none_of_get hno) _ ⟨_,_,ep+1,v9 _ ho (Obj.isFreed_of_dict (Obj.data_mapDictKeys hd _)),
   hc.mapDictKeys _,Obj.data_mapDictKeys hd _,?_,?_,?_⟩ (kN ..))))))
  ·simp [he,entryOfKey]
  ·intro x hx;rcases bx.mp hx with hx | hx
   ·exact knd.keeps (his x hx) ho hd (kN ..)
   ·simp only [cC] at hx;subst hx;exact knd.keeps hkey ho hd (kN ..)
  ·rw [ax,cK];refine ⟨hn,by simp,?_⟩;intro x hx y hy;simp only [bw,List.map_nil,cC] at hy;subst hy;exact fun e=>hnot (e ▸ hx)
 ·intro j p hj;refine ak (mJ (s:={ s with toks:=s.toks+knd.draws k }) ho hd ?_);rw [entry_at he j,hj];exact ak (xB (aH (there p (atKey_of_get hn hj))))
theorem oO (knd:HeapKind prog w K) (d a:Addr) (hd:(d == gk)=false) (dflt:Value) :
  MeetsIn prog w (cg.«dict.setdefault» ⟨[.ref d,.ref a,dflt],[]⟩) (fun A R s=>knd.room A.in1/\∃k xs,knd.is s.heap k a/\s.heap.DictOfH knd d xs/\xs.length<=ai /\
   (∀p,atKey xs k=some p->R (.ok (.ret p.2)) { s with toks:=s.toks+knd.draws k }) /\
   (atKey xs k=none->∀h',h'.DictOfH knd d (xs++[(k,a,dflt)])->fF d s.heap h'->R (.ok (.ret dflt)) { s with heap:=h',toks:=s.toks+knd.draws k })) :=
 .of_wp fun A R s ⟨hu,k,xs,hkey,hm,hz,h1,h2⟩=>by
  unfold cg.«dict.setdefault»;refine ak ?_;unfold cg.Dict.keyAndDefault;refine ak (vQ hm.typeIs ?_);show wpAny _ _ (pure (d,Value.ref a,some dflt)) _ _ s;refine aH ?_;show wpAny _ _ (if (d == gk)=true then _ else (dictSetDefault d (.ref a) dflt >>= _)) _ _ s
  rw [if_neg (by rw [hd]; exact gh)];exact ak (sn hu hkey hm (fun p hp=>aH ⟨p.2,rfl,h1 p hp⟩) (fun hn h' hm' hs'=>aH ⟨dflt,rfl,h2 hn h' hm' hs'⟩) hz)
end
section
variable {X:Cx}
def Bu:V->List V->Hp->VK->Prop:=fun x vs H Q=>∃(d b:Addr) (kvs:List (TK×V)) (k:TK) (z:V),x=.ref d/\vs=[.ref b,z]/\H d=some (.dT kvs)/\cN H k (.ref b)/\k.depth<=8/\kvs.length<ai /\
 (∀v,bJ kvs k=some v->Q v H)/\(bJ kvs k=none->Q z (upd H d (.dT (kvs++[(k,z)]))))
theorem CV (hu:X.A.units+16<cLine):Ht X "dict.setdefault" Bu:=by
 intro J3 s σ H x vs v us Q I rx rv h;obtain ⟨d,b,kvs,k,z,rfl,rfl,hd,hb,h8,hz,q1,q2⟩:=h;cases rx;obtain ⟨u,v,rfl,ru,rz⟩:=rv.two;cases ru;obtain ⟨_,hsys,xs,rel,dd⟩:=BW I.hok I.kIn hd;have hl:kvs.length=xs.length:=Paired.length rel;refine sf PySem.F.slot_dict_setdefault dd.typeIs PySem.F.entry_dict_setdefault (PySem.F.args_dict_setdefault_3 _ _ _) (oO (dQ X.prog X.w) d b hsys v)
  ⟨fG hu,k,xs,tq I.hok I.kIn (cN.c 8 h8 hb) h8,dd,by omega,fun p hp=>?_,fun hn h' dd' hs=>?_⟩
 ·have e:=rel.val k;rw [hp] at e;cases e2:bJ kvs k with
  | none=>rw [e2] at e; exact e.elim
  | some y =>
   rw [e2] at e;exact ⟨y,H,I.tok _,e,q1 y e2⟩
 ·have e:=rel.val k;rw [hn] at e;have e2:bJ kvs k=none:=by
   cases e2:bJ kvs k with
   | none=>rfl
   | some y=>rw [e2] at e; exact e.elim
  obtain ⟨o,es,ep,hq,h2,h3,h4,_,h5⟩:=dd';refine ⟨z,_,oT (ob:=.dT (kvs++[(k,z)])) I (by rw [hd]; exact iZ) hs ⟨o,hq⟩ ⟨by rw [aM,v7]; omega,hsys,_,KT.keeps (kvs:=kvs++[(k,z)]) (xs:=xs++[(k,b,v)]) (cD rel ⟨rfl,cN.c 8 h8 hb,h8,rz⟩) fun c ys ec=>?_,o,es,ep,hq,h2,h3,h4,h5⟩,rz,q2 e2⟩;rw [af (BK ec hd (fun z=>nomatch z))];exact ec
end
theorem lD:entryFor table "dict.update.loop"=some cg.«dict.update.loop»:=entryFor_of_fast (by kernel_rfl)
theorem fT:plainId "dict.update.loop"=true:=by decide +kernel
theorem wL:typeLookup (.type "list") "keys"=pure none:=am_miss_of_fast (by decide +kernel)
section
variable {prog:bR}{w:World}{A:Around}{E:Zc}{s:Shared}
theorem CY {a:Addr}{o:Obj}{xs:Array Value}{k:Nat}{Q:Option Value->Shared->Prop}(hx:s.heap.get? a=some o) (hc:o.cls=.type "list") (hdat:o.data=.seq xs k) (hd:o.dict=none) (hA:A.handled=none)
  (h:∀h' tk,(∀b ob,s.heap.get? b=some ob->h'.get? b=some ob)->Q none { s with heap:=h',toks:=tk }):wpAny (model prog w) A (getAttr? (.ref a) "keys") Q E s:=by
 obtain ⟨c,dct,dat,sl⟩:=o;simp only at hc hdat hd;subst hc hdat hd;obtain ⟨hp,g,d,tk,os⟩:=s;have hT:∀tk',(⟨hp,g,d,tk',os⟩:Shared).TypeIs (.ref a) "list":=fun _=>⟨_,hx,rfl⟩;have f1:=sub_AttributeError;have f3:=F.slot_list_getattribute.lookup;have f4:=F.slot_list_getattribute.bind (.ref a);have f5:=am_list_getattr_none;unfold getAttr? getAttrBy? getAttrBy
 repeat (any_goals (first | assumption | exact hT _ | ((with_reducible show wpAny _ _ (call (Value.builtin "list.__getattribute__") _ _) _ _ _); refine pC F.slot_list_getattribute (hT _) am_entry_list_getattribute (F.args_list_getattribute_2 _ _) (meets_getattribute_miss_list a xs k sl "keys" _ wL (by decide +kernel) (by decide +kernel)) ⟨hx,hA,fun h' tk' e hx'=>?_⟩) | wp_step))
 obtain ⟨t',u',he⟩:=hx'.there;show wpAny _ _ (getattributeRaised _ _ _ _ _ _ _) _ _ _;unfold getattributeRaised hookOrError attributeErrorLeaves
 repeat (any_goals (first | assumption | wp_step))
 all_goals first | exact h _ _ hx'.keeps | trace_state
def AM (h:Heap) (u:Value) (kv:d_×Value):Prop:=∃t ku,u=.ref t/\h.IsTuple t #[ku,kv.2]/\cH kv.1 ku=true
theorem zY {κ:Type} [DecidableEq κ] (kvs:List (κ×Value)) (k:κ) (v:Value):(stored kvs k v).length<=kvs.length+1:=by
 unfold stored;split
 ·rw [aj]; omega
 ·rw [aM,v7]; exact aG _
theorem DF {R:Result->Shared->Prop}(hh:A.handled=none) {D it l:Addr}{items:Array Value}{ps:List (d_×Value)}(hDi:D≠it) (hli:l≠it) (hlD:l≠D) (hps:ps.length=items.size) :
  ∀(n i:Nat) (s:Shared) (acc:List (d_×Value)),items.size-i=n->i<=items.size->acc.length+(items.size-i)<=ai->s.heap.IsListIter it l i->s.heap.IsList l items->s.heap.DictOf (bS prog w) D acc ->
   (∀(j:Nat) (u:Value) (kv:d_×Value),items[j]?=some u->ps[j]?=some kv->AM s.heap u kv) ->
   (∀h' tk,h'.DictOf (bS prog w) D (merged acc (ps.drop i))->(∀b o,b≠D->b≠it->s.heap.get? b=some o->h'.get? b=some o)->R (.ok (.ret .none)) { s with heap:=h',toks:=tk }) ->
   zzl77 (model prog w) A (.builtin "dict.update.loop" ⟨[.ref D,.ref it,rawInt i,.none],[]⟩) R s:=by
 intro n
 induction n with
 | zero =>
  intro i s acc hn hi hz hit hl hD hp hR;have e:i=items.size:=by omega
  subst e;refine codeAny_builtin lD ?_;rw [Around.under_plainId fT _];show wpAny _ A.in1 (pyNext (.ref it) >>= _) _ _ s;refine ak (wpAny_pyNext_list_end hh hit hl (by simp) fun h' eb=>?_);show wpAny _ _ (cg.Dict.addKeywords D [] >>= _) _ _ _;refine ak (aH (aH ?_));have hD':h'.DictOf (bS prog w) D acc:=hD.extBut eb hDi;have q:=hR h' s.toks (by rw [vP (by omega)]; exact hD') fun b o _ hb e=>eb b o hb e;exact q
 | succ n ih =>
  intro i s acc hn hi hz hit hl hD hp hR;have hlt:i<items.size:=by omega
  refine codeAny_builtin lD ?_;rw [Around.under_plainId fT _];show wpAny _ A.in1 (pyNext (.ref it) >>= _) _ _ s;have hu:items[i]?=some items[i]:=by simp [hlt]
  have hk:ps[i]?=some ps[i]:=bX (by omega);obtain ⟨t,ku,eu,ht,hku⟩:=hp i _ _ hu hk;refine ak (wpAny_pyNext_list_item hit hl (x:=items[i]) hu fun h1 hit1 hs1=>?_);rw [eu];have hs1':fF it s.heap h1:=hs1;have nt:t≠it:=by
   rintro rfl;obtain ⟨o,ho,hc,_⟩:=ht;obtain ⟨o',ho',hc',_⟩:=hit;rw [ho] at ho'; cases ho';rw [hc] at hc'; simp at hc'
  have ht1:h1.IsTuple t #[ku,ps[i].2]:=ht.extBut hs1'.extBut nt;have hT1:Shared.TypeIs { s with heap:=h1 } (.ref t) "tuple":=ht1.typeIs (s:={ s with heap:=h1 });obtain ⟨ot,got,hct,nt',hdt⟩:=id ht1;refine ak (kR ?_);refine ak (wpAny_tryCatch ?_);unfold cg.Dict.pairItems;refine ak (wpAny_typeOf hT1 ?_);rw [if_pos (by decide)];refine ak (my got hdt (aH ?_));show wpAny _ _ (kL [ku,ps[i].2] (dictSet D ku ps[i].2)) _ _ _;have hD1:h1.DictOf (bS prog w) D acc:=hD.extBut hs1'.extBut hDi;refine kR (wpAny_dictSet_pairs (knd:=bS prog w) (k:=ps[i].1) hku hD1 (fun h2 hD2 hs2=>?_) (by omega));have hs2':fF D h1 h2:=hs2;show wpAny _ _ (again _) _ _ _;refine aH ⟨plainId_quiet fT _,?_⟩;have hl1:h1.IsList l items:=hl.extBut hs1'.extBut hli;have kp:∀b o,b≠D->b≠it->s.heap.get? b=some o->h2.get? b=some o:=fun b o h1 h2 e=>hs2'.extBut b o h1 (hs1'.extBut b o h2 e);refine ih (i+1) _ (stored acc ps[i].1 ps[i].2) (by omega) hlt (by have:=zY acc ps[i].1 ps[i].2; omega) (hit1.extBut hs2'.extBut (c_ hDi)) (hl1.extBut hs2'.extBut hlD) hD2 (fun j u kv h1 h2=>?_) fun h' tk hD' kp'=>?_
  ·obtain ⟨t2,ku2,e2,ht2,hk2⟩:=hp j u kv h1 h2;have n1:t2≠it:=by
    rintro rfl;obtain ⟨o,ho,hc,_⟩:=ht2;obtain ⟨o',ho',hc',_⟩:=hit;rw [ho] at ho'; cases ho';rw [hc] at hc'; simp at hc'
   have n2:t2≠D:=by
    rintro rfl;obtain ⟨o,ho,hc,_⟩:=ht2;obtain ⟨o',_,_,ho',hc',_⟩:=hD;rw [ho] at ho'; cases ho';have:=hc'.1;rw [hc] at this; simp at this
   obtain ⟨o,ho,r⟩:=ht2;exact ⟨t2,ku2,e2,⟨o,kp _ o n2 n1 ho,r⟩,hk2⟩
  ·refine hR h' tk ?_ fun b o h1 h2 e=>kp' b o h1 h2 (kp b o h1 h2 e);have ed:ps.drop i=ps[i]::ps.drop (i+1):=List.drop_eq_getElem_cons (by omega);rw [ed];exact hD'
theorem qW {l:Addr}{o:Obj}{items:Array Value}{n:Nat}{ps:List (d_×Value)}{Q:Zc}(hh:A.handled=none) (ho:s.heap.get? l=some o) (hc:o.cls=.type "list") (hdt:o.data=.seq items n) (hod:o.dict=none)
  (hps:ps.length=items.size) (hp:∀(j:Nat) (u:Value) (kv:d_×Value),items[j]?=some u->ps[j]?=some kv->AM s.heap u kv) (hz:items.size<=ai)
  (h:∀h' tk,h'.DictOf (bS prog w) s.heap.objs.size (merged [] ps)->(∀b o,s.heap.get? b=some o->h'.get? b=some o)->Q (.ref s.heap.objs.size) { s with heap:=h',toks:=tk }) :
  wpAny (model prog w) A (call (.type "dict") [.ref l]) Q E s:=by
 refine callType_codes (Q₁:=fun obj s₁=>obj=.ref s.heap.objs.size/\s₁={ s with heap:=s.heap.push { cls:=.type "dict",data:=.dict #[] } }) F.kt_called_dict (F.kt_typeCall_dict_1 _) F.entry_dict_init (kt_code_dict_new _ ⟨rfl,rfl⟩) ?_;rintro obj s₁ ⟨rfl,rfl⟩;have hnew:(s.heap.push { cls:=.type "dict",data:=.dict #[] }).DictOf (bS prog w) s.heap.objs.size []:=Heap.DictOf.new s.heap;have ho1:(s.heap.push { cls:=.type "dict",data:=.dict #[] }).get? l=some o:=bq _ ho;have hlt:l<s.heap.objs.size:=aY ho;refine ⟨hnew.typeIs,F.args_dict_init_2 _ _,?_⟩;unfold cg.«dict.__init__»;refine ak ?_;unfold cg.Dict.selfAndRest;refine ak (vQ hnew.typeIs ?_);show wpAny _ _ (pure (s.heap.objs.size,[Value.ref l])) _ _ _;refine aH ?_;show wpAny _ _ (cg.Dict.updateFrom "dict.__init__" s.heap.objs.size (.ref l) [] .none) _ _ _;unfold cg.Dict.updateFrom;have hTl:Shared.TypeIs { s with heap:=s.heap.push { cls:=.type "dict",data:=.dict #[] } } (.ref l) "list":=⟨o,ho1,hc⟩;refine ak (wpAny_typeOf hTl ?_);rw [if_pos (by decide)];refine ak (CY ho1 hc hdt hod hh fun h1 tk1 k1=>?_);have k1':∀b ob,(s.heap.push { cls:=.type "dict",data:=.dict #[] }).get? b=some ob->h1.get? b=some ob:=k1;rw [if_pos (by rfl:(none:Option Value).isNone=true)];refine ak (xB ?_);have hl1:h1.IsList l items:=⟨o,k1' _ _ ho1,hc,n,hdt⟩;refine ak (xF (s:={ s with heap:=h1,toks:=tk1 }) hl1 ?_);have hD1:h1.DictOf (bS prog w) s.heap.objs.size []:=by
  obtain ⟨od,es,ep,g,r⟩:=hnew;exact ⟨od,es,ep,k1' _ _ g,r⟩
 have hDlt:s.heap.objs.size<h1.objs.size:=by
  obtain ⟨od,es,ep,g,r⟩:=hD1;exact aY g
 refine aH ⟨plainId_quiet fT _,?_⟩;refine DF (A:=A.in1) (prog:=prog) (w:=w) hh (D:=s.heap.objs.size) (it:=h1.objs.size) (l:=l) (items:=items) (ps:=ps) (cV hDlt) (cV (Nat.lt_trans hlt hDlt)) (cV hlt) hps items.size 0 _ [] (Nat.sub_zero _) (c9 _) (by rw [v5]; omega)
  ⟨_,cF _ rfl,rfl,rfl⟩ (hl1.push _) (hD1.push _) (fun j u kv a b=>?_) fun h' tk hD' kp=>?_
 ·obtain ⟨t,ku,e,ht,hk⟩:=hp j u kv a b;obtain ⟨ot,g,r⟩:=ht;exact ⟨t,ku,e,⟨ot,bq _ (k1' _ _ (bq _ g)),r⟩,hk⟩
 ·rw [rX] at hD';refine ⟨rfl,h h' tk hD' fun b ob e=>kp b ob (cV (aY e)) (cV (Nat.lt_trans (aY e) hDlt)) (bq _ (k1' _ _ (bq _ e)))⟩
end
section
variable {X:Cx}
theorem xg (hc:X.calm=true):gb X (.type "dict") (fun xs H Q=>∃(l:Addr) (ts:Ze) (kvs:List (d_×V)),xs=[.ref l]/\aA X.K H l (ts.map V.ref)/\ts.length=kvs.length /\
  (∀(j:Nat) (t:Addr) (kv:d_×V),ts[j]?=some t->kvs[j]?=some kv->H t=some (.tup [kV kv.1,kv.2]))/\∀p,H p=none->Q (.ref p) (upd H p (.dK (jn [] kvs)))):=by
 intro J3 s σ H xs us Q I r h;obtain ⟨l,ts,kvs,rfl,hl,hlen,ht,q⟩:=h;obtain ⟨u,rfl,ru⟩:=vals1 r;cases ru;obtain ⟨its,rv,⟨o,n,ho,hcl,hod,hdt⟩,hz⟩:=I.list hl;have key:∀(ts:Ze) (kvs:List (d_×V)),ts.length=kvs.length->(∀(j:Nat) (t:Addr) (kv:d_×V),ts[j]?=some t->kvs[j]?=some kv->H t=some (.tup [kV kv.1,kv.2]))->∃ps:List (d_×Value),KV kvs ps/\∀(j:Nat) (t:Addr) (kv:d_×Value),ts[j]?=some t->ps[j]?=some kv->AM s.heap (.ref t) kv:=by
  intro ts
  induction ts with
  | nil =>
   intro kvs hl _;cases kvs with
   | nil=>exact ⟨[],.nil,fun j t kv e=>by simp at e⟩
   | cons _ _=>cases hl
  | cons t ts ih =>
   intro kvs hl ht;cases kvs with
   | nil=>cases hl
   | cons kv kvs =>
    obtain ⟨ps,r1,r2⟩:=ih kvs (by simpa using hl) fun j t' kv' a b=>ht (j+1) t' kv' (by simpa using a) (by simpa using b);obtain ⟨_,itt,rt,p⟩:=(show bV X.prog X.w X.K H s.heap t (.tup [kV kv.1,kv.2]) from I.hok t _ (ht 0 t kv rfl rfl));obtain ⟨a,b,e,ra,rb⟩:=rt.two;subst e;refine ⟨(kv.1,b)::ps,.cons ⟨rfl,rb⟩ r1,fun j t' kv' h1 h2=>?_⟩;cases j with
    | zero =>
     simp at h1 h2;subst h1 h2;exact ⟨t,a,rfl,p,jK (P:=X.prog) (w:=X.w) ra⟩
    | succ j=>exact r2 j t' kv' (by simpa using h1) (by simpa using h2)
 obtain ⟨ps,rel,pa⟩:=key ts kvs hlen ht;have hl1:=rv.length;rw [aj] at hl1;have hl2:=rel.length;refine qW (prog:=X.prog) (w:=X.w) (ps:=ps) (I.ok.hd hc) ho hcl hdt hod (by rw [bM]; omega) (fun j u kv a b=>?_) (by rw [bM,<-hl1]; rw [aj] at hz; exact hz) fun h' tk hD kp=>?_
 ·have a':its[j]?=some u:=by simpa using a
  have hj:j<ts.length:=by
   have:=(cw.mp a').1;omega
  obtain ⟨u',e1,r1⟩:=rv.get (i:=j) (x:=V.ref ts[j]) (by simp [hj]);rw [a'] at e1;cases e1;cases (show u=Value.ref ts[j] from r1);exact pa j ts[j] kv (by simp [hj]) b
 ·have hm:(jn [] kvs).length<=ai:=by
   have h1:=mF kvs [];rw [v5] at h1;rw [aj] at hz;omega
  exact ⟨.ref s.heap.objs.size,_,I.laid (o:=.dK (jn [] kvs)) kp (aG _) (EX hm (beq_eq_false_iff_ne.mpr (c_ (cV I.big))) (rel.merge .nil) hD),rfl,q _ I.fresh⟩
end
abbrev fe:R2:=Dw fun i j=>.int (i+j)
abbrev k_:R2:=rI Fs fun i j=>.int (i * j)
abbrev i8:R2:=rI (fun _ j=>0<j) fun i j=>.int (i % j)
abbrev Em:R2:=rI Ih fun i j=>.int (i / j)
abbrev GR:R2:=rI Ig fun i j=>.int (i ^ j.toNat)
abbrev Ae:R2:=Dw fun i j=>.bl (decide (i<j))
abbrev rLeI:R2:=Dw fun i j=>.bl (decide (i<=j))
abbrev El:R2:=Dw fun i j=>.bl (decide (j<i))
abbrev rGeI:R2:=Dw fun i j=>.bl (decide (j<=i))
abbrev GU:R2:=fun x y H Q=>∃i j,x=.str i/\y=.str j/\i.length+j.length<=ai/\Q (.str (i++j)) H
abbrev rInS:R2:=fun x y H Q=>∃c j,x=.str ⟨#[c]⟩/\y=.str j/\Q (.bl (decide (c∈j.cps.toList))) H
abbrev Ek:R2:=fun x y H Q=>∃b,y=.bl b/\Q (.bl (decide (x=.bl b))) H
abbrev hZ (K:Za):List V->Hp->VK->Prop:=fun xs H Q=>∃x c t b,xs=[x,.ty c]/\Fv K H x t/\nS K t (.type c)=some b/\Q (.bl b) H
abbrev HH (K:Za):List V->Hp->VK->Prop:=fun xs H Q=>∃(p:Addr) (bs:List Bool),xs=[.ref p]/\aA K H p (bs.map V.bl)/\Q (.bl (bs.all id)) H
abbrev rAny (K:Za):List V->Hp->VK->Prop:=fun xs H Q=>∃(p:Addr) (bs:List Bool),xs=[.ref p]/\aA K H p (bs.map V.bl)/\Q (.bl (bs.any id)) H
abbrev Bt (K:Za):List V->Hp->VK->Prop:=fun xs H Q=>∃p ys,xs=[.ref p]/\((aA K H p ys/\∀l,H l=none->Q (.ref l) (upd H l (.tup ys)))∨(bj K H p ys/\Q (.ref p) H))
abbrev Ga (K:Za):List V->Hp->VK->Prop:=fun xs H Q=>∃(l:Addr) (ts:Ze) (kvs:List (d_×V)),xs=[.ref l]/\aA K H l (ts.map V.ref)/\ts.length=kvs.length /\
  (∀(j:Nat) (t:Addr) (kv:d_×V),ts[j]?=some t->kvs[j]?=some kv->H t=some (.tup [kV kv.1,kv.2]))/\∀p,H p=none->Q (.ref p) (upd H p (.dK (jn [] kvs)))
abbrev dv (K:Za):List V->Hp->VK->Prop:=fun xs H Q =>
 (∃p ys,xs=[.ref p]/\(aA K H p ys∨bj K H p ys)/\∀l,H l=none->Q (.ref l) (upd H l (.lst ys))) ∨
 (∃(d:Addr) (kvs:List (d_×V)),xs=[.ref d]/\Rd H d (.dK kvs)/\∀l,H l=none->Q (.ref l) (upd H l (.lst (kvs.map fun kv=>kV kv.1))))
abbrev cW (K:Za):List V->Hp->VK->Prop:=fun xs H Q =>
 (∃p ys,xs=[.ref p]/\(aA K H p ys∨bj K H p ys)/\Q (.int ys.length) H)∨(∃z,xs=[.str z]/\z.length<=ai/\Q (.int z.length) H)
theorem eJ:i0 "isinstance"=some (.builtin "isinstance"):=by decide +kernel
theorem tL:i0 "list"=some (.type "list"):=by decide +kernel
theorem hE:i0 "tuple"=some (.type "tuple"):=by decide +kernel
theorem AJ:i0 "dict"=some (.type "dict"):=by decide +kernel
theorem AK:i0 "bool"=some (.type "bool"):=by decide +kernel
theorem Dp:i0 "int"=some (.type "int"):=by decide +kernel
theorem Do:i0 "str"=some (.type "str"):=by decide +kernel
section
variable {X:Cx}{p pos:Pos}
theorem Dn:gb X (.builtin "len") (cW X.K):=xf.or xc
theorem AI (hc:X.calm=true):gb X (.type "list") (dv X.K):=xb.or (tK hc)
theorem wJ:nP X (eT .Is) Ek:=by
 intro J3 s σ H x y v u Q I rx ry h;obtain ⟨b,rfl,q⟩:=h;cases (show u=Value.bool b from ry);have key:∀k:Bool,k=decide (x=.bl b)->EP X J3 σ Q (.bool k) s:=fun k e=>⟨.bl k,H,I,rfl,by rw [e]; exact q⟩;cases x with
 | non=>cases (show v=Value.none from rx); exact aH (key _ rfl)
 | bl a =>
  cases (show v=Value.bool a from rx);refine aH (key _ ?_);cases a <;> cases b <;> rfl
 | int i=>obtain ⟨t,rfl⟩:=rx; exact aH (key _ rfl)
 | str i=>obtain ⟨t,rfl⟩:=rx; exact aH (key _ rfl)
 | byt i=>obtain ⟨t,rfl⟩:=rx; exact aH (key _ rfl)
 | flt i=>obtain ⟨t,rfl⟩:=rx; exact aH (key _ rfl)
 | ref a=>cases (show v=Value.ref a from rx); exact aH (key _ rfl)
 | ty n=>cases (show v=Value.type n from rx); exact aH (key _ rfl)
theorem Ah (hg:Gl X "bool") (hm:X.mg "bool"=none):PE X (.Name "bool" pos) (tC (.ty "bool")):=oH hg hm AK rfl
theorem u5 (hg:Gl X "int") (hm:X.mg "int"=none):PE X (.Name "int" pos) (tC (.ty "int")):=oH hg hm Dp rfl
theorem u4 (hg:Gl X "str") (hm:X.mg "str"=none):PE X (.Name "str" pos) (tC (.ty "str")):=oH hg hm Do rfl
theorem nj (hg:Gl X "list") (hm:X.mg "list"=none):PE X (.Name "list" pos) (tC (.ty "list")):=oH hg hm tL rfl
theorem lc (hg:Gl X "tuple") (hm:X.mg "tuple"=none):PE X (.Name "tuple" pos) (tC (.ty "tuple")):=oH hg hm hE rfl
end
def Gc (mg:Str->Option Value) (x:Str) (v:V):Prop:=∃u,mg x=some u/\RelV v u
theorem jF {X:Cx}{x:Str}{v:V}{pos:Pos}(hg:Gl X x) (h:Gc X.mg x v) (hd:(x == ("__debug__":Str))=false:=by decide):PE X (.Name x pos) (tC v):=by
 obtain ⟨u,hm,r⟩:=h;exact Gf hg hm r hd
structure hV (P:bR) (w:World) (K:Za) (mg:Str->Option Value) (base:Heap) (x:Str) (ps:Zb) (k:Nat) (sp:Sp):Prop where
 ex:∃f fd,lK P w K mg base CX0 k f fd ps sp/\mg x=some (.ref f)/\iB K (.ref f)=true/\Binds K fd ps []
structure Iw (P:bR) (w:World) (K:Za) (mg:Str->Option Value) (base:Heap) (x:Str) (C:Addr) (ps:Zb) (k:Nat) (sp:Sp):Prop where
 ex:∃f fd,lK P w K mg base CX0 k f fd ps sp/\mg x=some (.ref C)/\Mk K C f/\Binds K fd ps []
structure Co (P:bR) (w:World) (K:Za) (mg:Str->Option Value) (base:Heap) (C:Addr) (m:Str) (ps:Zb) (k:Nat) (sp:Sp):Prop where
 ex:∃f fd,lK P w K mg base CX0 k f fd ps sp/\Cq K C/\GJ K C m f/\Binds K fd ps []
section
variable {X:Cx}{k:Nat}{ps:Zb}{sp:Sp}{x m:Str}{C:Addr}{p pos J5:Pos}{o e:Expr}{es:List Expr}{t:TA}{ta:TE}
theorem GV (D:hV X.prog X.w X.K X.mg X.base x ps k sp) (hr:eS k X.A) (hg:Gl X x) (ha:PA X (e::es) t) (hdb:(x == ("__debug__":Str))=false:=by decide)
  (he:aN (e::es) X.env=(false,eval e X.env)::aN es X.env:=by rfl) (hpl:(backTo pos (aN es X.env)).any (·.1)=false:=by rfl) :
  PE X (.Call (.Name x p) (e::es) [] pos) (aO sp t):=by
 obtain ⟨f,fd,F,hm,hk,hb⟩:=D.ex;exact Gh F hr hg hm hk hb .nil BD ha hdb he hpl
theorem Aj (D:Iw X.prog X.w X.K X.mg X.base x C ps k sp) (hr:eS (k+1) X.A) (hg:Gl X x) (ha:PA X (e::es) t) (hdb:(x == ("__debug__":Str))=false:=by decide)
  (he:aN (e::es) X.env=(false,eval e X.env)::aN es X.env:=by rfl) (hpl:(backTo pos (aN es X.env)).any (·.1)=false:=by rfl) :
  PE X (.Call (.Name x p) (e::es) [] pos) (xS C sp [] E0 t):=by
 obtain ⟨f,fd,F,hm,M,hb⟩:=D.ex;exact Ge M F hr hg hm hb .nil BD ha hdb he hpl
theorem Hg {pl:Sem Bool}(M:Co X.prog X.w X.K X.mg X.base C m ps k sp) (hr:eS k X.A) (he:PE X o ta) (ha:PA X (e::es) t)
  (hst:aN (e::es) X.env=(false,eval e X.env)::aN es X.env:=by rfl) (hpl:(backTo pos (aN es X.env)).any (·.1)=false:=by rfl)
  (ht:eval (.Call (.Attribute o m J5) (e::es) [] pos) X.env=(do
   let ov <- eval o X.env
   qw J5.atName
   let (f,first) <- kL [ov] (qr ov m pl)
   uL pos f first (backTo pos (aN (e::es) X.env)) (nR pos (nQ [] X.env))):=by rfl) :
  PE X (.Call (.Attribute o m J5) (e::es) [] pos) (dj C m sp [] E0 ta t):=by
 obtain ⟨f,fd,F,c,hm,hb⟩:=M.ex;exact Gd he c hm F hr hb .nil BD ha hst hpl ht
theorem Gb {pl:Sem Bool}(M:Co X.prog X.w X.K X.mg X.base C m ps k sp) (hr:eS k X.A) (he:PE X o ta)
  (ht:eval (.Call (.Attribute o m J5) [] [] pos) X.env=(do
   let ov <- eval o X.env
   qw J5.atName
   let (f,first) <- kL [ov] (qr ov m pl)
   uL pos f first (backTo pos (aN [] X.env)) (nR pos (nQ [] X.env))):=by rfl) :
  PE X (.Call (.Attribute o m J5) [] [] pos) (dj C m sp [] E0 ta be):=by
 obtain ⟨f,fd,F,c,hm,hb⟩:=M.ex;exact Et he c hm F hr hb .nil BD ht
end
def HN (K:Za) (tl:TE):TI:=fun σ H R=>tl σ H fun x H1=>∃a,x=.ref a/\(((∃xs,aA K H1 a xs)/\R (Fw K a) H1)∨((∃xs,bj K H1 a xs)/\R (Hu K a) H1))
theorem Hd {X:Cx}{tg l:Expr}{tl:TE}(hl:PE X l tl):PI X tg l (HN X.K tl):=by
 intro J3 s σ H R I h;refine cB (hl J3 s σ H _ I h) fun v s1 ⟨x,H1,I1,r1,q1⟩=>?_;obtain ⟨a,e,q⟩:=q1;subst e;cases r1;have fin:∀b∈[s1.heap.objs.size],nJ X J3 H1 b:=fun b hb=>by
  have e:b=s1.heap.objs.size:=by simpa using hb
  subst e;exact I1.fpOk (aG _) (I1.hok.fresh (aG _))
 rcases q with ⟨⟨xs,hq⟩,q⟩ | ⟨⟨xs,hq⟩,q⟩
 ·obtain ⟨its,rv,p,hz⟩:=I1.list hq;refine xF p.isList ?_;exact ⟨s1.heap.objs.size,[s1.heap.objs.size],_,_,H1,rfl,I1.kept (t':=s1.toks) fun b o e=>bq _ e,uR a _,⟨_,cF _ rfl,rfl,rfl⟩,fin,q⟩
 ·obtain ⟨its,rv,p,hz⟩:=I1.tuple hq;refine Bf p ?_;exact ⟨s1.heap.objs.size,[s1.heap.objs.size],_,_,H1,rfl,I1.kept (t':=s1.toks) fun b o e=>bq _ e,so a _,⟨_,cF _ rfl,rfl,rfl⟩,fin,q⟩
theorem lC {K:Za}{a:Addr}{xs:List V}{g:TG}{tb:TS}{D:kJ}{σ:St}{H:Hp}(Pv:Nat->St->Hp->Prop) (h0:Pv 0 σ H) (hl:∀i σ H,i<=xs.length->Pv i σ H->aA K H a xs)
  (hs:∀i x σ H p,xs[i]?=some x->Pv i σ H->H p=none->g (.ref p) σ (upd H p (.tup [.int i,x])) fun σ2 H2=>tb { D with nx:=Pv (i+1),ct:=Pv (i+1),bk:=D.nx } σ2 H2) (hd:∀σ H,Pv xs.length σ H->D.nx σ H) :
  ∃W:Nat->Nat->St->Hp->Prop,(∃m,W 0 m σ H)/\∀i m σ H,W i m σ H ->
   ((H_ K a).stop i H/\D.nx σ H)∨((H_ K a).go i H/\∃N:St->Hp->Prop,(∀σ' H',N σ' H'->∃m',m'<m/\W (i+1) m' σ' H')/\∀x H',(H_ K a).yld i H x H'->g x σ H' fun σ2 H2=>tb { D with nx:=N,ct:=N,bk:=D.nx } σ2 H2):=by
 refine ⟨fun i m σ H=>m=xs.length-i/\i<=xs.length/\Pv i σ H,⟨xs.length,by simp,c9 _,h0⟩,?_⟩;rintro i m σ H ⟨rfl,hi,p⟩;have q:=hl i σ H hi p;by_cases hlt:i<xs.length
 ·refine .inr ⟨⟨xs,xs[i],q,by simp [hlt]⟩,Pv (i+1),fun σ' H' p'=>⟨xs.length-(i+1),by omega,rfl,hlt,p'⟩,fun x H' y=>?_⟩;obtain ⟨t,v,rfl,hn,hv,rfl⟩:=y;exact hs i v σ H t (hv xs q) p hn
 ·have e:i=xs.length:=by omega
  subst e;exact .inl ⟨⟨xs,q,aG _⟩,hd σ H p⟩
def Wc (n:Nat) (Pv:Nat->List V->Hp->Prop):Nat->Nat->List V->Hp->Prop:=fun i m vs H=>m=n-i/\i<=n/\Pv i vs H
theorem o9 {n i:Nat}{Pv:Nat->List V->Hp->Prop}{vs:List V}{H:Hp}(hi:i<n) (p:Pv (i+1) vs H):∃m',m'<n-i/\Wc n Pv (i+1) m' vs H:=⟨n-(i+1),by omega,rfl,hi,p⟩
abbrev ga (k:Nat) (fi:List Nat) (σ:St) (J:It) (g:TG) (tc:TT) (te:TE) (H1:Hp) (l:Addr) (Q:Hp->Prop):Prop :=
 ∃W:Nat->Nat->List V->Hp->Prop,(∃m,W 0 m [] (upd H1 l (.lst [])))/\∀i m vs H2,W i m vs H2->H2 l=some (.lst vs) /\
  ((J.stop i H2/\Q H2)∨(J.go i H2/\∀x H3,J.yld i H2 x H3->g x (dF k fi σ) H3 fun σ2 H4=>tc σ2 H4 fun b H5 =>
   if b=true then te σ2 H5 fun v H6=>H6 l=some (.lst vs)/\vs.length<ai/\∃m',m'<m/\W (i+1) m' (vs++[v]) (upd H6 l (.lst (vs++[v]))) else ∃m',m'<m/\W (i+1) m' vs H5))
theorem lF {k:Nat}{fi:List Nat}{J:It}{g:TG}{tc:TT}{te:TE}{σ:St}{H1:Hp}{Q:Hp->Prop}{l:Addr}(n:Nat) (Pv:Nat->List V->Hp->Prop) (h0:Pv 0 [] (upd H1 l (.lst [])))
  (hl:∀i vs H,i<=n->Pv i vs H->H l=some (.lst vs)) (hgo:∀i vs H,i<n->Pv i vs H->J.go i H) (hst:∀vs H,Pv n vs H->J.stop n H/\Q H)
  (hs:∀i vs H x H3,i<n->Pv i vs H->J.yld i H x H3->g x (dF k fi σ) H3 fun σ2 H4=>tc σ2 H4 fun b H5 =>
   if b=true then te σ2 H5 fun v H6=>H6 l=some (.lst vs)/\vs.length<ai/\∃m',m'<n-i/\Wc n Pv (i+1) m' (vs++[v]) (upd H6 l (.lst (vs++[v]))) else ∃m',m'<n-i/\Wc n Pv (i+1) m' vs H5) :
  ga k fi σ J g tc te H1 l Q:=by
 refine ⟨Wc n Pv,⟨n,by simp [Wc],c9 _,h0⟩,?_⟩;rintro i m vs H ⟨rfl,hi,p⟩;refine ⟨hl i vs H hi p,?_⟩;by_cases hlt:i<n
 ·exact .inr ⟨hgo i vs H hlt p,fun x H3 y=>hs i vs H x H3 hlt p y⟩
 ·have e:i=n:=by omega
  subst e;exact .inl (hst vs H p)
section
variable {K:Za}{k:Nat}{fi:List Nat}{g:TG}{tc:TT}{te:TE}{σ:St}{H1:Hp}{Q:Hp->Prop}{l:Addr}
theorem cJ {a:Addr}{xs:List V}(Pv:Nat->List V->Hp->Prop) (h0:Pv 0 [] (upd H1 l (.lst [])))
  (hl:∀i vs H,i<=xs.length->Pv i vs H->H l=some (.lst vs)/\aA K H a xs) (hd:∀vs H,Pv xs.length vs H->Q H)
  (hs:∀i vs H x,xs[i]?=some x->i<xs.length->Pv i vs H->g x (dF k fi σ) H fun σ2 H4=>tc σ2 H4 fun b H5 =>
   if b=true then te σ2 H5 fun v H6=>H6 l=some (.lst vs)/\vs.length<ai/\∃m',m'<xs.length-i/\Wc xs.length Pv (i+1) m' (vs++[v]) (upd H6 l (.lst (vs++[v]))) else ∃m',m'<xs.length-i/\Wc xs.length Pv (i+1) m' vs H5) :
  ga k fi σ (Fw K a) g tc te H1 l Q:=by
 refine lF xs.length Pv h0 (fun i vs H hi p=>(hl i vs H hi p).1) (fun i vs H hi p=>⟨xs,xs[i],(hl i vs H (em hi) p).2,by simp [hi]⟩) (fun vs H p=>⟨⟨xs,(hl _ vs H (aG _) p).2,aG _⟩,hd vs H p⟩) fun i vs H x H3 hi p y=>?_;obtain ⟨rfl,y⟩:=y;exact hs i vs _ x (y xs (hl i vs _ (em hi) p).2) hi p
theorem y3 {a:Addr}{xs:List V}(Pv:Nat->List V->Hp->Prop) (h0:Pv 0 [] (upd H1 l (.lst [])))
  (hl:∀i vs H,i<=xs.length->Pv i vs H->H l=some (.lst vs)/\bj K H a xs) (hd:∀vs H,Pv xs.length vs H->Q H)
  (hs:∀i vs H x,xs[i]?=some x->i<xs.length->Pv i vs H->g x (dF k fi σ) H fun σ2 H4=>tc σ2 H4 fun b H5 =>
   if b=true then te σ2 H5 fun v H6=>H6 l=some (.lst vs)/\vs.length<ai/\∃m',m'<xs.length-i/\Wc xs.length Pv (i+1) m' (vs++[v]) (upd H6 l (.lst (vs++[v]))) else ∃m',m'<xs.length-i/\Wc xs.length Pv (i+1) m' vs H5) :
  ga k fi σ (Hu K a) g tc te H1 l Q:=by
 refine lF xs.length Pv h0 (fun i vs H hi p=>(hl i vs H hi p).1) (fun i vs H hi p=>⟨xs,xs[i],(hl i vs H (em hi) p).2,by simp [hi]⟩) (fun vs H p=>⟨⟨xs,(hl _ vs H (aG _) p).2,aG _⟩,hd vs H p⟩) fun i vs H x H3 hi p y=>?_;obtain ⟨rfl,y⟩:=y;exact hs i vs _ x (y xs (hl i vs _ (em hi) p).2) hi p
theorem AG {lo:Int}{n:Nat}(Pv:Nat->List V->Hp->Prop) (h0:Pv 0 [] (upd H1 l (.lst [])))
  (hl:∀i vs H,i<=n->Pv i vs H->H l=some (.lst vs)) (hd:∀vs H,Pv n vs H->Q H)
  (hs:∀i vs H,i<n->Pv i vs H->g (.int (lo+i)) (dF k fi σ) H fun σ2 H4=>tc σ2 H4 fun b H5 =>
   if b=true then te σ2 H5 fun v H6=>H6 l=some (.lst vs)/\vs.length<ai/\∃m',m'<n-i/\Wc n Pv (i+1) m' (vs++[v]) (upd H6 l (.lst (vs++[v]))) else ∃m',m'<n-i/\Wc n Pv (i+1) m' vs H5) :
  ga k fi σ (Hv lo n) g tc te H1 l Q:=by
 refine lF n Pv h0 hl (fun i vs H hi p=>hi) (fun vs H p=>⟨aG _,hd vs H p⟩) fun i vs H x H3 hi p y=>?_;obtain ⟨rfl,rfl⟩:=y;exact hs i vs _ hi p
theorem Ff {x:Str}(Pv:Nat->List V->Hp->Prop) (h0:Pv 0 [] (upd H1 l (.lst [])))
  (hl:∀i vs H,i<=x.cps.size->Pv i vs H->H l=some (.lst vs)) (hd:∀vs H,Pv x.cps.size vs H->Q H)
  (hs:∀i vs H c,x.cps[i]?=some c->i<x.cps.size->Pv i vs H->g (.str ⟨#[c]⟩) (dF k fi σ) H fun σ2 H4=>tc σ2 H4 fun b H5 =>
   if b=true then te σ2 H5 fun v H6=>H6 l=some (.lst vs)/\vs.length<ai/\∃m',m'<x.cps.size-i/\Wc x.cps.size Pv (i+1) m' (vs++[v]) (upd H6 l (.lst (vs++[v]))) else ∃m',m'<x.cps.size-i/\Wc x.cps.size Pv (i+1) m' vs H5) :
  ga k fi σ (Iy x) g tc te H1 l Q:=by
 refine lF x.cps.size Pv h0 hl (fun i vs H hi p=>hi) (fun vs H p=>⟨aG _,hd vs H p⟩) fun i vs H y H3 hi p yl=>?_;obtain ⟨rfl,c,hc,rfl⟩:=yl;exact hs i vs _ c hc hi p
end
theorem gN {j:Nat}{x:V}{σ:St}{H:Hp}{Q:St->Hp->Prop}(h:Q (σ.set j (some x)) H):d6 j x σ H Q:=h
theorem t4 {σ:St}{H:Hp}{A B:Hp->Prop}(h:A H):kE σ H (fun b H5=>if b=true then A H5 else B H5):=by
 show (if (true:Bool)=true then A H else B H)
 exact h
theorem u6 {α β:Type}{F:α->β->Prop}:∀{l₁:List α}{l₂:List β},Paired F l₁ l₂->∀{i:Nat}{a:α}{b:β},l₁[i]?=some a->l₂[i]?=some b->F a b
 | _,_,.nil,_,_,_,h,_=>by simp at h
 | _,_,.cons r t,0,_,_,h,h'=>by simp at h h'; subst h h'; exact r
 | _,_,.cons r t,i+1,_,_,h,h'=>by simp at h h'; exact u6 t h h'
end L2
namespace L2
open PySem PySem.W
def pR (K:Za) (td ty tv:TE):TS:=fun D σ H=>tv σ H fun v H1=>td σ H1 fun x H2=>ty σ H2 fun y H3 =>
 ∃(a b:Addr) (kvs:List (TK×V)) (k:TK),x=.ref a/\y=.ref b/\H3 a=some (.dT kvs)/\nA K H3 k (.ref b)/\k.depth<=8/\kvs.length<ai/\D.nx σ (upd H3 a (.dT (cq kvs k v)))
section
variable {X:Cx}{o i value:Expr}{pos pos':Pos}{td ty tv:TE}
theorem oE (hu:X.A.units+16<cLine) (ho:PE X o td) (hi:PE X i ty) (hv:PE X value tv) (hs:qv value (some (.Subscript o i pos')) pos.line X.env=pure false) :
  PS X (.Assign [.Subscript o i pos'] value pos) (pR X.K td ty tv):=by
 intro J3 s σ H D I h;refine wpAny_Assign_Subscript (cB (hv J3 s σ H _ I h) fun r s1 ⟨v,H1,I1,rv,q1⟩=>cB (ho J3 s1 σ H1 _ I1 q1) fun u s2 ⟨x,H2,I2,rx,q2⟩=>cB (hi J3 s2 σ H2 _ I2 q2) fun iv s3 ⟨y,H3,I3,ry,a,b,kvs,k,ex,ey,e,eb,e8,l,q3⟩=>?_) hs;subst ex;subst ey;obtain rfl:u=Value.ref a:=rx;exact AE hu I3 e eb e8 l ry rv fun s4 I4=>⟨σ,_,I4,q3⟩
end
theorem uV {K:Za}{H:Hp}:∀xs:List Str,TKCs K H (xs.map fun x=>TK.k (.inr x)) (xs.map V.str)
 | []=>by show TKCs K H [] []; unfold TKCs; rfl
 | x::xs=>by
  rw [bw,bw];unfold TKCs;refine ⟨_,_,rfl,?_,uV xs⟩;unfold nA
  rfl
theorem xM {K:Za}{H:Hp}{a:Addr}{xs:Zb}(h:bT K H a (xs.map V.str)):nA K H (.t (xs.map fun x=>TK.k (.inr x))) (.ref a):=by
 unfold nA;exact ⟨a,_,rfl,h,uV xs⟩
end L2
end

section
set_option Elab.async false
set_option linter.all false
set_option maxRecDepth 100000
namespace L2
open PySem PySem.Spec PyProof.Rows PySem.W
def GN:Expr->List Str
 | .Name x _=>[x]
 | .Tuple es _ _=>es.filterMap fun e=>match e with | .Name x _=>some x | _=>none
 | _=>[]
theorem bK {X:Cx}{b:List Stmt}{t:TS}{D:kJ}{σ:St}{H:Hp}(r:t D σ H) (p:zD X b t):∃t,zD X b t/\t D σ H:=⟨t,p,r⟩
section
variable {X:Cx}{k k0:Nat}{ps:Zb}{sp:Sp}{x m:Str}{C:Addr}{p pos J5:Pos}{o e a b:Expr}{es:List Expr}{t:TA}{ta tb te:TE}
theorem qf (hr:eS k0 X.A) (D:hV X.prog X.w X.K X.mg X.base x ps k sp) (ha:PA X (e::es) t) (hk:k<=k0:=by decide) (hg:Gl X x:=by rfl) (hdb:(x == ("__debug__":Str))=false:=by decide)
  (he:aN (e::es) X.env=(false,eval e X.env)::aN es X.env:=by rfl) (hpl:(backTo pos (aN es X.env)).any (·.1)=false:=by rfl) :
  PE X (.Call (.Name x p) (e::es) [] pos) (aO sp t):=GV D (hr.mono hk) hg ha hdb he hpl
theorem qm {pl:Sem Bool}(hr:eS k0 X.A) (M:Co X.prog X.w X.K X.mg X.base C m ps k sp) (he:PE X o ta) (ha:PA X (e::es) t) (hk:k<=k0:=by decide)
  (hst:aN (e::es) X.env=(false,eval e X.env)::aN es X.env:=by rfl) (hpl:(backTo pos (aN es X.env)).any (·.1)=false:=by rfl)
  (ht:eval (.Call (.Attribute o m J5) (e::es) [] pos) X.env=(do
   let ov <- eval o X.env
   qw J5.atName
   let (f,first) <- kL [ov] (qr ov m pl)
   uL pos f first (backTo pos (aN (e::es) X.env)) (nR pos (nQ [] X.env))):=by rfl) :
  PE X (.Call (.Attribute o m J5) (e::es) [] pos) (dj C m sp [] E0 ta t):=Hg (pl:=pl) M (hr.mono hk) he ha hst hpl ht
theorem Eo {pl:Sem Bool}(hr:eS k0 X.A) (M:Co X.prog X.w X.K X.mg X.base C m ps k sp) (he:PE X o ta) (hk:k<=k0:=by decide)
  (ht:eval (.Call (.Attribute o m J5) [] [] pos) X.env=(do
   let ov <- eval o X.env
   qw J5.atName
   let (f,first) <- kL [ov] (qr ov m pl)
   uL pos f first (backTo pos (aN [] X.env)) (nR pos (nQ [] X.env))):=by rfl) :
  PE X (.Call (.Attribute o m J5) [] [] pos) (dj C m sp [] E0 ta be):=Gb (pl:=pl) M (hr.mono hk) he ht
theorem xl (ha:PE X a ta) (hb:PE X b tb) (hs:Dq b:=by exact fun _ _=>rfl):PE X (.Subscript a b pos) (aE (cX X.K) ta tb):=BA BQ ha hb hs
theorem xt (ha:PE X a ta) (hb:PE X b tb) (hs:Dq b:=by exact fun _ _=>rfl):PE X (.Subscript a b pos) (aE (fS X.K) ta tb):=BA EK ha hb hs
theorem xq (ha:PE X a ta) (hb:PE X b tb) (hs:Dq b:=by exact fun _ _=>rfl):PE X (.Subscript a b pos) (aE (mD X.K) ta tb):=BA Hk ha hb hs
theorem xs' (ha:PE X a ta) (hb:PE X b tb) (hs:Dq b:=by exact fun _ _=>rfl):PE X (.Subscript a b pos) (aE Ej ta tb):=BA EL ha hb hs
theorem ic {op:CmpOp}{r:R2}(ho:nP X (eT op) r) (ha:PE X a ta) (hb:PE X b tb) (hm:kz op b=false:=by exact Ey _):PT X (.Compare a [op] [b] pos) (aJ (aE r ta tb)):=Bx ho ha hb hm
theorem Gw {op:CmpOp}{r:R2}(ho:nP X (eT op) r) (ha:PE X a ta) (hb:PE X b tb) (hm:kz op b=false:=by exact Ey _):PE X (.Compare a [op] [b] pos) (aE r ta tb):=BB ho ha hb hm
theorem G6 {op:CmpOp}{r:R2}(ho:nP X (eT op) r) (ha:PE X a ta) (hb:PE X b tb) (hm:kz op b=false:=by with_unfolding_all rfl):PT X (.Compare a [op] [b] pos) (aJ (aE r ta tb)):=Bx ho ha hb hm
theorem eci {op:CmpOp}{r:R2}(ho:nP X (eT op) r) (ha:PE X a ta) (hb:PE X b tb) (hm:kz op b=false:=by with_unfolding_all rfl):PE X (.Compare a [op] [b] pos) (aE r ta tb):=BB ho ha hb hm
theorem qB {id:String}{r:List V->Hp->VK->Prop}(hc:gb X (.builtin id) r) (hm:X.mg x=none) (hv:i0 x=some (.builtin id)) (ha:PA X (e::es) t) (hg:Gl X x:=by rfl) (hn:x≠"__name__":=by decide) (hdb:(x == ("__debug__":Str))=false:=by decide)
  (he:aN (e::es) X.env=(false,eval e X.env)::aN es X.env:=by rfl) (hpl:(backTo pos (aN es X.env)).any (·.1)=false:=by rfl):PE X (.Call (.Name x p) (e::es) [] pos) (cG r t):=yr hc hg hm hv ha hn hdb he hpl
theorem qL (hc:X.calm=true) (hm:X.mg "list"=none) (ha:PA X (e::es) t) (hg:Gl X "list":=by rfl)
  (he:aN (e::es) X.env=(false,eval e X.env)::aN es X.env:=by rfl) (hpl:(backTo pos (aN es X.env)).any (·.1)=false:=by rfl):PE X (.Call (.Name "list" p) (e::es) [] pos) (cG (dv X.K) t):=ix (AI hc) hg hm tL ha (by decide) (by decide) he hpl
theorem ql (hm:X.mg "len"=none) (ha:PA X (e::es) t) (hg:Gl X "len":=by rfl)
  (he:aN (e::es) X.env=(false,eval e X.env)::aN es X.env:=by rfl) (hpl:(backTo pos (aN es X.env)).any (·.1)=false:=by rfl):PE X (.Call (.Name "len" p) (e::es) [] pos) (cG (cW X.K) t):=yr Dn hg hm PySem.boot_len ha (by decide) (by decide) he hpl
theorem qs (i:Nat) {pos':Pos}(hN:X.N.Nodup) (he:PE X e te) (hi:X.N[i]?=some x:=by rfl) (hx:Loc X.env.scope x:=by first | exact Or.inl rfl | exact Or.inr rfl) (hs:qv e (some (.Name x pos')) pos.line X.env=pure false:=by rfl) (hf:X.fn x=true∨X.env.scope.names.lookup x=some .local:=by first | exact .inl rfl | exact .inr rfl | assumption) :
  PS X (.Assign [.Name x pos'] e pos) (aP te (d6 i)):=Ha hN hi hx he hs hf
theorem gn (i:Nat) (hN:X.N.Nodup) (hi:X.N[i]?=some x:=by rfl) (hx:Loc X.env.scope x:=by first | exact Or.inl rfl | exact Or.inr rfl) (hf:X.fn x=true∨X.env.scope.names.lookup x=some .local:=by first | exact .inl rfl | exact .inr rfl | assumption):PG X (.Name x pos) (d6 i):=Bz hN hi hx hf
theorem gc (i:Nat) (hN:X.N.Nodup:=by exact of_decide_eq_true (by with_unfolding_all rfl)) (hi:X.N[i]?=some x:=by rfl) (hx:Loc X.env.scope x:=by exact Or.inl rfl) (hf:X.fn x=true∨X.env.scope.names.lookup x=some .local:=by first | exact .inl rfl | exact .inr rfl | assumption):PG X (.Name x pos) (d6 i):=Bz hN hi hx hf
theorem a1 (ha:PE X a ta) (hs:aN [a] X.env=(false,eval a X.env)::aN [] X.env:=by rfl):PA X [a] (au ta be):=ck ha b_ hs
theorem a2 (ha:PE X a ta) (hb:PE X b tb) (hs:aN [a,b] X.env=(false,eval a X.env)::aN [b] X.env:=by rfl) (hs2:aN [b] X.env=(false,eval b X.env)::aN [] X.env:=by rfl):PA X [a,b] (au ta (au tb be)):=ck ha (ck hb b_ hs2) hs
theorem a3 {c:Expr}{tc:TE}(ha:PE X a ta) (hb:PE X b tb) (hc:PE X c tc) (hs:aN [a,b,c] X.env=(false,eval a X.env)::aN [b,c] X.env:=by rfl) (hs1:aN [b,c] X.env=(false,eval b X.env)::aN [c] X.env:=by rfl) (hs2:aN [c] X.env=(false,eval c X.env)::aN [] X.env:=by rfl):PA X [a,b,c] (au ta (au tb (au tc be))):=ck ha (a2 hb hc hs1 hs2) hs
variable {elt iter tg:Expr}{ifs:List Expr}{scope:Scope}{fi:List Nat}{wi:TI}{g:TG}{tc:TT}
theorem qc (hi:PI X tg iter wi) (ho:zf k g)
  (h:∀C cl s₀ H₀ ex pn,PG (dH X (GN tg++fi.map fun i=>X.N.getD i "") scope C cl s₀ H₀ ex pn) tg g/\G3 (dH X (GN tg++fi.map fun i=>X.N.getD i "") scope C cl s₀ H₀ ex pn) ifs tc/\PE (dH X (GN tg++fi.map fun i=>X.N.getD i "") scope C cl s₀ H₀ ex pn) elt te)
  (hS:lY X.env.scope scope k (GN tg++fi.map fun i=>X.N.getD i "") X.N fi=true:=by with_unfolding_all rfl) (hc:X.calm=true:=by rfl)
  (hs:∀x,xE iter X.env x=pure x:=by intro _; rfl):PE X (.ListComp elt [⟨tg,iter,ifs,0⟩] scope pos) (dA k fi wi g tc te) :=
 Gg hS hc hi (fun _ _ _ _ _ _=>(h _ _ _ _ _ _).1) ho (fun _ _ _ _ _ _=>(h _ _ _ _ _ _).2.1) (fun _ _ _ _ _ _=>(h _ _ _ _ _ _).2.2) hs
theorem qsc (j:Nat) {y:Str}{spos py:Pos}(hN:X.N.Nodup) (hi:PI X tg iter wi) (ho:zf k g)
  (h:∀C cl s₀ H₀ ex pn,PG (dH X (GN tg++fi.map fun i=>X.N.getD i "") scope C cl s₀ H₀ ex pn) tg g/\G3 (dH X (GN tg++fi.map fun i=>X.N.getD i "") scope C cl s₀ H₀ ex pn) ifs tc/\PE (dH X (GN tg++fi.map fun i=>X.N.getD i "") scope C cl s₀ H₀ ex pn) elt te)
  (hj:X.N[j]?=some y:=by rfl) (hy:Loc X.env.scope y:=by first | exact Or.inl rfl | exact Or.inr rfl)
  (hS:lY X.env.scope scope k (GN tg++fi.map fun i=>X.N.getD i "") X.N fi=true:=by with_unfolding_all rfl) (hc:X.calm=true:=by rfl)
  (hsw:qv (.ListComp elt [⟨tg,iter,ifs,0⟩] scope pos) (some (.Name y py)) spos.line X.env=pure true:=by rfl)
  (hs:∀x,xE iter X.env x=pure x:=by intro _; rfl) (hf:X.fn y=true∨X.env.scope.names.lookup y=some .local:=by first | exact .inl rfl | exact .inr rfl | assumption) :
  PS X (.Assign [.Name y py] (.ListComp elt [⟨tg,iter,ifs,0⟩] scope pos) spos) (aP (dA k fi wi g tc te) (d6 j)) :=
 Af hN hj hy hS hc hi (fun _ _ _ _ _ _=>(h _ _ _ _ _ _).1) ho (fun _ _ _ _ _ _=>(h _ _ _ _ _ _).2.1) (fun _ _ _ _ _ _=>(h _ _ _ _ _ _).2.2) hsw hs hf
end
end L2
end

section
set_option Elab.async false
set_option linter.all false
set_option maxRecDepth 100000
namespace L2
open PySem PySem.Spec PyProof.Rows
structure uD (h:Heap) (d:Addr) (es:Array jk) (ep:Nat):Prop where
 ex:∃o,h.get? d=some o/\o.ExactDict/\o.data=.dict es ep
section
variable {prog:bR}{w:World}{A:Around}{E:Zc}{s:Shared}{d v it:Addr}{es:Array jk}{ep i:Nat}
theorem uD.ty (h:uD s.heap d es ep):s.TypeIs (.ref d) "dict":=let ⟨o,ho,e,_⟩:=h.ex; ⟨o,ho,e.1⟩
theorem CQ {Q:Zc}(h:uD s.heap d es ep) (hd:(d == gk)=false) (q:Q (.ref s.heap.objs.size) { s with heap:=s.heap.push { cls:=.type "dict_items",data:=.fields #[.ref d] } }) :
  wpAny (model prog w) A (call (.builtin "dict.items") [.ref d]) Q E s:=by
 refine o_ F.slot_dict_items h.ty F.entry_dict_items ?_ (F.args_dict_items_1 _);unfold cg.«dict.items» cg.Dict.noArgs;refine ak <| ak <| vQ h.ty <| ?_;refine aH (show wpAny _ _ (vO d >>= _) _ _ s from ?_);unfold vO;rw [if_neg (fun z=>by rw [hd] at z; cases z)];exact ak <| aH <| ak <| jj <| aH ⟨_,rfl,q⟩
theorem Eg {Q:Zc}(hv:s.heap.IsItemsView v d) (h:uD s.heap d es ep)
  (q:∀h',iE h' s.heap.objs.size d 0 es.size ep .none .none->(∀b o,s.heap.get? b=some o->h'.get? b=some o)->Q (.ref s.heap.objs.size) { s with heap:=h' }):wpAny (model prog w) A (pyIter (.ref v)) Q E s:=by
 obtain ⟨ov,hov,hcv,hdv⟩:=id hv;obtain ⟨o,ho,hx,hdat⟩:=h.ex;refine wpAny_pyIter_slot hv.typeIs F.slot_dict_items_iter <| o_ F.slot_dict_items_iter hv.typeIs F.entry_dict_items_iter ?_ (F.args_dict_items_iter_1 _);unfold cg.«dict_items.__iter__» cg.Dict_items.dictOf cg.Dict_items.newIterator;refine ak <| aH <| ak <| ak <| eW hov hdv (x:=.ref d) rfl <| aH <| ak <| ak <| mJ ho hdat <| ak <| ph ho hdat ?_;simp only [show rW "dict_itemiterator"=true by decide,if_true];refine jj (aH ⟨_,rfl,"dict_itemiterator",_,⟨_,cF _ rfl,rfl⟩,rV.lookup,?_⟩) ?_
 ·refine q _ ?_ fun b o e=>bq _ e;simpa [rawInt,iE,cg.Dict_items.ownedTupleFields] using cF s.heap (o:={ cls:=.type "dict_itemiterator",data:=.fields #[.none,.bool false,.ref d,.int 0 0,.int es.size 0,.int ep 0,.none,.none] }) rfl
 ·simp only [sizeOk,cg.Dict_items.ownedTupleFields,bM,aM,dP,v5,ky]; omega
theorem Ee {ok ov:Value}{Q:Option Value->Shared->Prop}(hit:iE s.heap it d i es.size ep ok ov) (h:uD s.heap d es ep) (hi:i<es.size)
  (q:∀h',IsItemIterOut h' it d (i+1) es.size ep es[i].key es[i].val s.heap.objs.size->h'.get? s.heap.objs.size=some { cls:=.type "tuple",data:=.seq #[es[i].key,es[i].val] } ->
   (∀b o,b≠it->s.heap.get? b=some o->h'.get? b=some o)->Q (some (.ref s.heap.objs.size)) { s with heap:=h' }):wpAny (model prog w) A (pyNext (.ref it)) Q E s:=by
 obtain ⟨o,ho,hx,hdat⟩:=h.ex;obtain ⟨hp,g,dr,tk,os⟩:=s;have ty:∀{h':Heap}{ok ov:Value}{j:Nat},iE h' it d j es.size ep ok ov->Shared.TypeIs ⟨h',g,dr,tk,os⟩ (.ref it) "dict_itemiterator":=fun x=>⟨_,x,rfl⟩;have hT:=ty hit;have own:rW "dict_itemiterator"=true:=by decide
 unfold pyNext;refine ak <| pi <| kP (name:=kO "__next__") hT rV <| o_ rV hT F.entry_dict_itemiterator_next ?_ (F.args_dict_itemiterator_next_1 _);refine ak <| aH <| ak <| ak ?_
 first | refine ak <| vN hT <| aH ?_ | refine ak <| vM hT <| aH ?_
 refine ak <| vL hit rfl ?_;simp only [own,if_true];show wpAny _ _ (if (Value.ref d == Value.none)=true then _ else _) _ _ _
 rw [if_neg (show ¬((Value.ref d == Value.none)=true) from gh)];refine ak <| aH <| ak <| mJ ho hdat ?_;rw [if_neg (by simp)];refine ak <| aH <| ak <| ph ho hdat ?_;rw [if_neg (by simp)];refine aH ?_;simp only [show ¬((i:Int)<0) from by omega,if_false,jl,Array.getElem?_eq_getElem hi];refine ak ?_
 first | refine ak <| vN hT <| aH ?_ | refine ak <| vM hT <| aH ?_
 refine ak <| wpAny_isOneOf_itemiter hT ?_;show wpAny _ _ (vK (.ref it) 3 (rawInt ((i:Int)+1)) >>= _) _ _ ⟨hp,g,dr,tk,os⟩;refine ak <| iF hit (by simp) fun h1 e1 s1=>?_;have s1:fF it hp h1:=s1;have e1:iE h1 it d (i+1) es.size ep ok ov:=by
  have z:((i+1:Nat):Int)=(i:Int)+1:=by omega
  unfold iE; rw [z]; simpa [rawInt] using e1
 have T1:=ty e1;refine ak <| kR <| ak <| wpAny_isOneOf_itemiter T1 <| ak <| wpAny_isOneOf_itemiter T1 ?_;show wpAny _ _ (cg.Dict_items.pairFromOwner (.ref it) 6 es[i].key es[i].val) _ _ ⟨h1,g,dr,tk,os⟩;unfold cg.Dict_items.pairFromOwner;refine ak <| wpAny_newTuple ?_;have e2:iE (h1.push { cls:=.type "tuple",data:=.seq #[es[i].key,es[i].val] }) it d (i+1) es.size ep ok ov:=bq _ e1;have z1:h1.objs.size=hp.objs.size:=s1.1;have t2:(h1.push { cls:=.type "tuple",data:=.seq #[es[i].key,es[i].val] }).get? hp.objs.size=some { cls:=.type "tuple",data:=.seq #[es[i].key,es[i].val] }:=by rw [<-z1]; exact cF _ rfl
 have k2:∀b o,b≠it->hp.get? b=some o->(h1.push { cls:=.type "tuple",data:=.seq #[es[i].key,es[i].val] }).get? b=some o:=fun b o hb e=>bq _ (s1.extBut b o hb e);rw [z1];generalize h1.push { cls:=.type "tuple",data:=.seq #[es[i].key,es[i].val] }=h2 at e2 t2 k2;show wpAny _ _ (cg.Dict_items.ownedTupleIsFree (.ref it) >>= _) _ _ ⟨h2,g,dr,tk,os⟩;have lt:it<hp.objs.size:=aY hit;have ne:hp.objs.size≠it:=gj lt;refine ak ?_;unfold cg.Dict_items.ownedTupleIsFree;refine ak <| eW e2 rfl (x:=.none) rfl <| aH ?_;simp only [if_true];refine ak <| eW e2 rfl (x:=ok) rfl <| ak <| eW e2 rfl (x:=ov) rfl <| ak <| iF e2 (by simp) fun h3 e3 s3=>?_;have s3:fF it h2 h3:=s3;have e3:iE h3 it d (i+1) es.size ep es[i].key ov:=e3;refine ak <| iF e3 (by simp) fun h4 e4 s4=>?_;have s4:fF it h3 h4:=s4;have e4:iE h4 it d (i+1) es.size ep es[i].key es[i].val:=e4;refine ak <| iF e4 (by simp) fun h5 e5 s5=>?_;have s5:fF it h4 h5:=s5;have e5:IsItemIterOut h5 it d (i+1) es.size ep es[i].key es[i].val hp.objs.size:=e5;refine ak <| iF e5 (by simp) fun h6 e6 s6=>?_;have s6:fF it h5 h6:=s6;have e6:IsItemIterOut h6 it d (i+1) es.size ep es[i].key es[i].val hp.objs.size:=e6;have up:∀b o,b≠it->h2.get? b=some o->h6.get? b=some o:=fun b o hb e=>s6.extBut b o hb <| s5.extBut b o hb <| s4.extBut b o hb <| s3.extBut b o hb e;exact ak <| vV <| aH <| aH ⟨_,rfl,aH <| q h6 e6 (up _ _ ne t2) fun b o hb e=>up b o hb (k2 b o hb e)⟩
theorem FY {ok ov:Value}{Q:Option Value->Shared->Prop}(hh:A.handled=none) (hit:iE s.heap it d i es.size ep ok ov) (h:uD s.heap d es ep) (hi:es.size<=i)
  (q:∀h',Heap.ExtBut it s.heap h'->Q none { s with heap:=h' }):wpAny (model prog w) A (pyNext (.ref it)) Q E s:=by
 obtain ⟨o,ho,hx,hdat⟩:=h.ex;have hT:s.TypeIs (.ref it) "dict_itemiterator":=⟨_,hit,rfl⟩;have own:rW "dict_itemiterator"=true:=by decide
 unfold pyNext;refine ak <| pi <| kP (name:=kO "__next__") hT rV <| o_ rV hT F.entry_dict_itemiterator_next ?_ (F.args_dict_itemiterator_next_1 _);refine ak <| aH <| ak <| ak ?_
 first | refine ak <| vN hT <| aH ?_ | refine ak <| vM hT <| aH ?_
 refine ak <| vL hit rfl ?_;simp only [own,if_true];show wpAny _ _ (if (Value.ref d == Value.none)=true then _ else _) _ _ _
 rw [if_neg (show ¬((Value.ref d == Value.none)=true) from gh)];refine ak <| aH <| ak <| mJ ho hdat ?_;rw [if_neg (by simp)];refine ak <| aH <| ak <| ph ho hdat ?_;rw [if_neg (by simp)];refine aH ?_;simp only [show ¬((i:Int)<0) from by omega,if_false,jl,Array.getElem?_eq_none hi];refine ak ?_
 first | refine ak <| vN hT <| aH ?_ | refine ak <| vM hT <| aH ?_
 show wpAny _ _ (vK (.ref it) 2 .none >>= _) _ _ s;refine ak <| r8 hit rfl (by simp) ?_;show wpAny _ _ (newExc (.type "StopIteration") [] >>= _) _ _ _;refine ak ?_;simp only [newExc,newTuple];refine ak <| jj ?_ (by size_fits);refine ak (m:=pj _ _) <| wpAny_of_eq (a:=Value.none) (by first | rfl | (simp only [pj]; rfl)) <| jj ?_ (by size_fits)
 simp only [raiseNew];refine ak <| wpAny_handled ?_;rw [show A.in1.handled=none from hh];refine ak <| aH <| wpAny_throw ?_;refine ak (xG (b:=true) (T:="StopIteration") ⟨_,cF _ rfl,rfl⟩ isSubtype_stop (aH (q _ (((kN ..).extBut.push _).push _))))
end
def GL (d:Addr) (o:Obj) (u:HO) (n:Nat) (ent:Nat->Hp->V->V->Prop):It :=
 ⟨fun i H=>H d=some (.frz o u)/\i<n,fun i H x H'=>∃p a b,H p=none/\x=.ref p/\ent i H a b/\H'=upd H p (.tup [a,b]),fun i H=>H d=some (.frz o u)/\n<=i⟩
structure Fq (P:bR) (w:World) (K:Za) (d:Addr) (o:Obj) (u:HO) (n:Nat) (ent:Nat->Hp->V->V->Prop) (es:Array jk) (ep:Nat):Prop where
 ex:o.ExactDict
 dat:o.data=.dict es ep
 sz:es.size=n
 get:∀{H:Hp}{h:Heap}{i:Nat}(hi:i<es.size),lZ P w K H h->H d=some (.frz o u)->∃a b,ent i H a b/\RelV a es[i].key/\RelV b es[i].val
theorem zH {P:bR}{w:World}{K:Za}{xs:List Expr}{kx:Nat}{J7:Pos}{d it:Addr}{o:Obj}{u:HO}{n:Nat}{ent:Nat->Hp->V->V->Prop}{es:Array jk}{ep:Nat}(X0:Fq P w K d o u n ent es ep) :
  qY P w K (.Tuple xs kx J7) (GL d o u n ent) [it] it (fun i h=>∃ok ov,iE h it d i n ep ok ov) where
 mem:=by simp
 obj:=fun i h ⟨ok,ov,st⟩ b hb=>by
  have e:b=it:=by simpa using hb
  subst e;exact ⟨_,st,fun v z=>by cases z⟩
 keep:=fun i h h' ⟨ok,ov,st⟩ k=>⟨ok,ov,k it (by simp) _ st⟩
 item:=by
  intro X hP hw hK hc i J3 s σ H E I hf ⟨ok,ov,st⟩ hg;subst hP hw hK;obtain ⟨hd,hi⟩:=hg;have hi':i<es.size:=by rw [X0.sz]; exact hi
  obtain ⟨g,ou⟩:=(show bV X.prog X.w X.K H s.heap d (.frz o u) from I.hok d _ hd);obtain ⟨a,b,en,ra,rb⟩:=X0.get hi' I.hok hd;obtain ⟨f0,f1,f2,f3,f4,f5⟩:=hf it (by simp);rw [<-X0.sz] at st;refine Ee st ⟨o,g,X0.ex,X0.dat⟩ hi' fun h' ho' ht' hk'=>?_;refine ⟨_,rfl,wpAny_letOwnedTupleGo_items (s:={ s with heap:=h' }) ho' fun h2 he2 hs2=>?_⟩;have hs2':fF it h' h2:=hs2;have hpe:s.heap.objs.size≠it:=gj (aY st);have ht2:h2.get? s.heap.objs.size=some { cls:=.type "tuple",data:=.seq #[es[i].key,es[i].val] }:=hs2'.extBut _ _ hpe ht';have hn0:H s.heap.objs.size=none:=I.fresh;have I2:Inv X J3 σ (upd H s.heap.objs.size (.tup [a,b])) { s with heap:=h2,toks:=s.toks }:=by
   refine I.turnedNew (ch:=[it]) hf (fun c o hb q=>?_) ⟨_,ht2⟩ (fun _ z=>nomatch z) ⟨by show 2<=ai; decide,[es[i].key,es[i].val],.cons ra (.cons rb .nil),⟨_,ht2,rfl,_,rfl⟩⟩;have nb1:c≠it:=fun z=>hb (by simp [z]);exact hs2'.extBut _ _ nb1 (hk' c o nb1 q)
  refine ⟨.ref s.heap.objs.size,_,I2,rfl,⟨_,a,b,hn0,rfl,en,rfl⟩,⟨_,_,by rw [<-X0.sz]; exact he2⟩,fun c hb=>?_⟩;have e:c=it:=by simpa using hb
  subst e;rw [af (c_ hpe)];exact f0
 done:=by
  intro X hP hw hK hc i J3 s σ H E I hf ⟨ok,ov,st⟩ hg;subst hP hw hK;obtain ⟨hd,hi⟩:=hg;obtain ⟨g,ou⟩:=(show bV X.prog X.w X.K H s.heap d (.frz o u) from I.hok d _ hd);obtain ⟨f0,f1,f2,f3,f4,f5⟩:=hf it (by simp);rw [<-X0.sz] at st;exact FY (I.ok.hd hc) st ⟨o,g,X0.ex,X0.dat⟩ (by rw [X0.sz]; exact hi) fun h' eb=>⟨rfl,I.turned (t':=s.toks) (fun b o hb e=>eb b o hb e) f0 f1 f3 f4 f5⟩
 self:=fun _ _ _ _ _ ⟨_,_,st⟩ h=>PySem.W.kcp_self st h
def AC (K:Za) (kvs:List (TK×V)):Nat->Hp->V->V->Prop:=fun i H a b=>∃k,kvs[i]?=some (k,b)/\nA K H k a
theorem lW {P:bR}{w:World}{K:Za}{H:Hp}{h:Heap}{d:Addr}{o:Obj}{kvs:List (TK×V)}(hok:lZ P w K H h) (e:H d=some (.frz o (.dT kvs))) :
  (d == gk)=false/\∃es ep,Fq P w K d o (.dT kvs) kvs.length (AC K kvs) es ep:=by
 obtain ⟨g,z,hsys,xs,rel,o',es,ep,ho',ex,hd,hes,nd⟩:=(show bV P w K H h d (.frz o (.dT kvs)) from hok d _ e);rw [g] at ho';cases ho';have hl:es.size=xs.length:=by rw [<-mx,hes,aj]
 refine ⟨hsys,es,ep,ex,hd,by rw [hl,Paired.length rel],fun {H' h' i} hi hok' e'=>?_⟩;obtain ⟨g',z',hsys',xs',rel',o'',es',ep',ho'',ex',hd',hes',nd'⟩:=(show bV P w K H' h' d (.frz o (.dT kvs)) from hok' d _ e');rw [g'] at ho'';cases ho'';rw [hd] at hd';cases hd';have hl':es.size=xs'.length:=by rw [<-mx,hes',aj]
 have hi':i<xs'.length:=by omega
 have hk:i<kvs.length:=by rw [Paired.length rel']; exact hi'
 have hp:=u6 rel' (i:=i) (a:=kvs[i]) (b:=xs'[i]) (by simp [hk]) (by simp [hi']);have he:es[i]=entryOfKey (dQ P w) xs'[i]:=by
  have:es.toList[i]?=some es[i]:=by simp [hi]
  rw [hes',b0,bX hi'] at this;injection this with this;exact this.symm
 refine ⟨.ref xs'[i].2.1,kvs[i].2,⟨kvs[i].1,by simp [hk],hp.2.1⟩,?_,?_⟩
 ·rw [he]; exact rfl
 ·rw [he]; exact hp.2.2.2
def wX (K:Za) (tl:TE):TI:=fun σ H R=>tl σ H fun x H1=>∃d kvs,x=.ref d /\
 ((H1 d=some (.dT kvs)/\∀o,R (GL d o (.dT kvs) kvs.length (AC K kvs)) (upd H1 d (.frz o (.dT kvs))))∨∃o,H1 d=some (.frz o (.dT kvs))/\R (GL d o (.dT kvs) kvs.length (AC K kvs)) H1)
section
variable {X:Cx}{J3:Zd}{σ:St}{l:Expr}{tl:TE}{J5 J4 J7:Pos}{xs:List Expr}{kx:Nat}
theorem tw {R:It->Hp->Prop}{H2:Hp}{s1:Shared}{d:Addr}{o:Obj}{u:HO}{n:Nat}{ent:Nat->Hp->V->V->Prop}{es:Array jk}{ep:Nat}(X0:Fq X.prog X.w X.K d o u n ent es ep) (hsys:(d == gk)=false) (I2:Inv X J3 σ H2 s1) (e:H2 d=some (.frz o u)) (q:R (GL d o u n ent) H2) :
  MethodOn X.prog X.w X.A "items" J4 (.ref d) [] (fun v s2=>wpAny (model X.prog X.w) X.A (pyIter v) (Iu X J3 σ (.Tuple xs kx J7) R) X.xe s2) X.xe s1:=by
 obtain ⟨g,_⟩:=(show bV X.prog X.w X.K H2 s1.heap d (.frz o u) from I2.hok d _ e);have raw:uD s1.heap d es ep:=⟨o,g,X0.ex,X0.dat⟩;refine ⟨"dict","dict.items",F.plainAttrs_dict,F.slot_dict_items,F.type_dict_items,raw.ty,fun a z=>?_,sj rfl (PySem.evalArgs_none (CQ raw hsys ?_))⟩
 ·cases z; exact ⟨o,g,X0.ex.2.1⟩
 refine Eg (s:={ s1 with heap:=s1.heap.push { cls:=.type "dict_items",data:=.fields #[.ref d] } }) ⟨_,cF _ rfl,rfl,rfl⟩ ⟨o,bq _ g,X0.ex,X0.dat⟩ fun h' hit hk=>?_;have I3:Inv X J3 σ H2 { s1 with heap:=h',toks:=s1.toks }:=I2.kept (t':=s1.toks) fun b o e=>hk b o (bq _ e);refine ⟨_,[_],_,_,H2,rfl,I3,zH X0,⟨_,_,by rw [<-X0.sz]; exact hit⟩,fun b hb=>?_,q⟩;have e:b=(s1.heap.push { cls:=.type "dict_items",data:=.fields #[.ref d] }).objs.size:=by simpa using hb
 subst e;have z:s1.heap.objs.size<=(s1.heap.push { cls:=.type "dict_items",data:=.fields #[.ref d] }).objs.size:=by rw [nT]; exact mw _
 exact I2.fpOk z (I2.hok.fresh z)
theorem uZ (hl:PE X l tl) (hbase:rG l "items" X.env (eval l X.env)=eval l X.env:=by rfl) (hline:(J5.endLine == J4.line)=true:=by rfl):PI X (.Tuple xs kx J7) (.Call (.Attribute l "items" J5) [] [] J4) (wX X.K tl):=by
 intro J3 s σ H R I h;refine wpAny_Call_method0_late hbase hline (cB (hl J3 s σ H _ I h) fun v s1 ⟨x,H1,I1,r1,d,kvs,ex,q⟩=>?_);subst ex;cases r1;rcases q with ⟨e,q⟩ | ⟨o,e,q⟩
 ·obtain ⟨z,hsys,xs',rel,o,es,ep,ho,r⟩:=id (show bV X.prog X.w X.K H1 s1.heap d (.dT kvs) from I1.hok d _ e);have I2:Inv X J3 σ (upd H1 d (.frz o (.dT kvs))) { s1 with heap:=s1.heap,toks:=s1.toks } :=
   I1.write (x:=d) (e:=d) (t':=s1.toks) (by rw [e]; trivial) (.inl rfl) (fun _ _ _ q=>q) ⟨o,ho⟩ ⟨ho,z,hsys,xs',Paired.mapP rel (fun p q r=>⟨r.1,nA.keeps (fun b ys eb=>by rw [af (fun z=>by rw [z,e] at eb; cases eb)]; exact eb) 8 r.2.2.1 r.2.1,r.2.2⟩),o,es,ep,ho,r⟩
  obtain ⟨hsys',es',ep',X0⟩:=lW I2.hok (aa (H:=H1) (a:=d));exact tw X0 hsys' I2 aa (q o)
 ·obtain ⟨hsys',es',ep',X0⟩:=lW I1.hok e;exact tw X0 hsys' I1 e q
end
def rh (K:Za) (tk tv:TE):TE:=fun σ H Q=>∀p,H p=none->tk σ (upd H p (.dT [])) fun x H1=>tv σ H1 fun y H2=>H2 p=some (.dT [])/\∃b k,x=.ref b/\nA K H2 k (.ref b)/\k.depth<=8/\Q (.ref p) (upd H2 p (.dT [(k,y)]))
theorem pW {X:Cx}{pos:Pos}{k v:Expr}{tk tv:TE}(hu:X.A.units+16<cLine) (hk:PE X k tk) (hv:PE X v tv):PE X (.Dict [some k] [v] pos) (rh X.K tk tv):=by
 intro J3 s σ H Q I q;have hn:=I.hok.fresh (aG s.heap.objs.size);have I1:=I.laid (a:=s.heap.objs.size) (o:=.dT []) (h':=s.heap.push { cls:=.type "dict",data:=.dict #[] }) (t':=s.toks) (fun _ _ q=>bq _ q) (aG _) (yV s.heap I.big);rw [arm_eval_Dict,zip_pairTrees [some k] [v] X.env pos rfl rfl,dictDisplay_pairs (pairTrees [some k] [v] X.env pos) (by unfold pairTrees; simp) (by show 1<17; decide)];refine ak (Bi (ak ?_));unfold subDict;refine ak (wpAny_alloc ?_);refine ak (kR ?_);rw [if_pos (show (pairTrees [some k] [v] X.env pos).length<=15 from by show 1<=15; decide)];refine ak (pairTrees_cons_walk (cB (hk J3 _ σ _ _ I1 (q _ hn)) fun u s1 ⟨x,H1,I1,rx,q1⟩=>cB (hv J3 s1 σ H1 _ I1 q1) fun r s2 ⟨y,H2,I2,ry,e,b,kk,ex,eb,e8,q2⟩=>pairTrees_nil_walk ?_));subst ex;cases rx;refine kR ?_;obtain ⟨z,hd,xs,rel,dd⟩:=BW I2.hok I2.kIn e;cases rel;rw [pq];refine ak (ak (ak (wpAny_dictSet_heap (hsz:=c9 _) (show (dQ X.prog X.w).room X.A from by show X.A.units+8<cLine; omega) (tq I2.hok I2.kIn eb e8) dd fun h' dd' hs=>aH ?_)));show wpAny _ _ (forIn [] PUnit.unit _) _ _ _;rw [List.forIn_nil];refine aH (aH (aH (aH ⟨.ref s.heap.objs.size,_,?_,rfl,q2⟩)));obtain ⟨q,es,ep,hq,h2,h3,h4,_,h5⟩:=dd';refine oT I2 (by rw [e]; exact iZ) hs ⟨q,hq⟩ ⟨by show 1<=ai; decide,hd,_,((KT.put (kvs:=[]) .nil kk eb e8 ry)).keeps fun c ys ec=>?_,q,es,ep,hq,h2,h3,h4,h5⟩;rw [af (BK ec e (fun z=>nomatch z))];exact ec
section
variable {prog:bR}{w:World}{A:Around}{E:Zc}{s:Shared}{d v it:Addr}{es:Array jk}{ep i:Nat}
theorem CP {Q:Zc}(hd:(d == gk)=false) (h:uD s.heap d es ep)
  (q:∀h',h'.IsKeyIter s.heap.objs.size d 0 es.size ep->(∀b o,s.heap.get? b=some o->h'.get? b=some o)->Q (.ref s.heap.objs.size) { s with heap:=h' }):wpAny (model prog w) A (pyIter (.ref d)) Q E s:=by
 obtain ⟨o,ho,hx,hdat⟩:=h.ex;refine wpAny_pyIter_slot h.ty F.slot_dict_iter <| o_ F.slot_dict_iter h.ty F.entry_dict_iter ?_ (F.args_dict_iter_1 _);unfold cg.«dict.__iter__»;refine ak ?_;unfold cg.Dict.dictSlotNone;refine ak <| vQ h.ty <| ?_;refine aH (show wpAny _ _ (vO d >>= _) _ _ s from ?_);unfold vO;rw [if_neg (fun z=>by rw [hd] at z; cases z)];refine ak <| aH <| ak <| mJ ho hdat <| ak <| ph ho hdat ?_;refine ak (jj (aH ⟨_,rfl,"dict_keyiterator",_,⟨_,cF _ rfl,rfl⟩,rU.lookup,?_⟩));exact q _ ⟨_,cF _ rfl,rfl,by simp [rawInt]⟩ fun b o e=>bq _ e
theorem CO {Q:Option Value->Shared->Prop}(hit:s.heap.IsKeyIter it d i es.size ep) (h:uD s.heap d es ep) (hi:i<es.size)
  (q:∀h',h'.IsKeyIter it d (i+1) es.size ep->fF it s.heap h'->Q (some es[i].key) { s with heap:=h' }):wpAny (model prog w) A (pyNext (.ref it)) Q E s:=by
 obtain ⟨ov,hov,hcv,hdv⟩:=id hit;obtain ⟨o,ho,hx,hdat⟩:=h.ex;have hT:=hit.typeIs;unfold pyNext;refine ak <| pi <| kP (name:=kO "__next__") hT rU <| o_ rU hT F.entry_dict_keyiterator_next ?_ (F.args_dict_keyiterator_next_1 _);refine ak <| aH <| ak <| ak ?_
 first | refine ak <| vJ hT <| aH ?_ | refine ak <| vI hT <| aH ?_
 refine ak <| vL hov hdv ?_;simp only [show rW "dict_keyiterator"=false by decide,kU,if_false];show wpAny _ _ (if (Value.ref d == Value.none)=true then _ else _) _ _ _
 rw [if_neg (show ¬((Value.ref d == Value.none)=true) from gh)];refine ak <| aH <| ak <| mJ ho hdat ?_;rw [if_neg (by simp)];refine ak <| aH <| ak <| ph ho hdat ?_;rw [if_neg (by simp)];refine aH ?_;simp only [show ¬((i:Int)<0) from by omega,if_false,jl,Array.getElem?_eq_getElem hi];refine ak ?_
 first | refine ak <| vJ hT <| aH ?_ | refine ak <| vI hT <| aH ?_
 refine ak <| wpAny_isOneOf_keyiter hT ?_;show wpAny _ _ (vK (.ref it) 1 (rawInt ((i:Int)+1)) >>= _) _ _ s;refine ak <| r8 hov hdv (by simp) ?_;have n1:(s.heap.update it (Obj.mapFields (·.setIfInBounds 1 (rawInt ((i:Int)+1))))).IsKeyIter it d (i+1) es.size ep:=⟨_,v9 _ hov (Obj.isFreed_of_fields (vY hdv _)),(Obj.cls_mapFields ..).trans hcv,by rw [vY hdv]; simp [rawInt]⟩;have T1:=Heap.IsKeyIter.typeIs (s:={ s with heap:=s.heap.update it (Obj.mapFields (·.setIfInBounds 1 (rawInt ((i:Int)+1)))) }) n1;refine ak <| kR <| ak <| wpAny_isOneOf_keyiter T1 ?_;show wpAny _ _ (pure es[i].key) _ _ _;exact aH <| aH ⟨_,rfl,aH <| q _ n1 (kN ..)⟩
theorem Ef {Q:Option Value->Shared->Prop}(hh:A.handled=none) (hit:s.heap.IsKeyIter it d i es.size ep) (h:uD s.heap d es ep) (hi:es.size<=i)
  (q:∀h',Heap.ExtBut it s.heap h'->Q none { s with heap:=h' }):wpAny (model prog w) A (pyNext (.ref it)) Q E s:=by
 obtain ⟨ov,hov,hcv,hdv⟩:=id hit;obtain ⟨o,ho,hx,hdat⟩:=h.ex;have hT:=hit.typeIs;unfold pyNext;refine ak <| pi <| kP (name:=kO "__next__") hT rU <| o_ rU hT F.entry_dict_keyiterator_next ?_ (F.args_dict_keyiterator_next_1 _);refine ak <| aH <| ak <| ak ?_
 first | refine ak <| vJ hT <| aH ?_ | refine ak <| vI hT <| aH ?_
 refine ak <| vL hov hdv ?_;simp only [show rW "dict_keyiterator"=false by decide,kU,if_false];show wpAny _ _ (if (Value.ref d == Value.none)=true then _ else _) _ _ _
 rw [if_neg (show ¬((Value.ref d == Value.none)=true) from gh)];refine ak <| aH <| ak <| mJ ho hdat ?_;rw [if_neg (by simp)];refine ak <| aH <| ak <| ph ho hdat ?_;rw [if_neg (by simp)];refine aH ?_;simp only [show ¬((i:Int)<0) from by omega,if_false,jl,Array.getElem?_eq_none hi];refine ak ?_
 first | refine ak <| vJ hT <| aH ?_ | refine ak <| vI hT <| aH ?_
 show wpAny _ _ (vK (.ref it) 0 .none >>= _) _ _ s;refine ak <| r8 hov hdv (by simp) ?_;show wpAny _ _ (newExc (.type "StopIteration") [] >>= _) _ _ _;refine ak ?_;simp only [newExc,newTuple];refine ak <| jj ?_ (by size_fits);refine ak (m:=pj _ _) <| wpAny_of_eq (a:=Value.none) (by first | rfl | (simp only [pj]; rfl)) <| jj ?_ (by size_fits)
 simp only [raiseNew];refine ak <| wpAny_handled ?_;rw [show A.in1.handled=none from hh];refine ak <| aH <| wpAny_throw ?_;refine ak (xG (b:=true) (T:="StopIteration") ⟨_,cF _ rfl,rfl⟩ isSubtype_stop (aH (q _ (((kN ..).extBut.push _).push _))))
end
def HZ (d:Addr) (o:Obj) (u:HO) (n:Nat) (ent:Nat->Hp->V->V->Prop):It :=
 ⟨fun i H=>H d=some (.frz o u)/\i<n,fun i H x H'=>H'=H/\∃b,ent i H x b,fun i H=>H d=some (.frz o u)/\n<=i⟩
theorem Cw {P:bR}{w:World}{K:Za}{tg:Expr}{d it:Addr}{o:Obj}{u:HO}{n:Nat}{ent:Nat->Hp->V->V->Prop}{es:Array jk}{ep:Nat}(X0:Fq P w K d o u n ent es ep) :
  qY P w K tg (HZ d o u n ent) [it] it (fun i h=>h.IsKeyIter it d i n ep) where
 mem:=by simp
 obj:=fun i h st b hb=>by
  have e:b=it:=by simpa using hb
  subst e;obtain ⟨o,e,c,d⟩:=st;exact ⟨o,e,fun v z=>by rw [d] at z; cases z⟩
 keep:=fun i h h' st k=>st.at fun o e=>k it (by simp) o e
 item:=by
  intro X hP hw hK hc i J3 s σ H E I hf st hg;subst hP hw hK;obtain ⟨hd,hi⟩:=hg;have hi':i<es.size:=by rw [X0.sz]; exact hi
  obtain ⟨g,ou⟩:=(show bV X.prog X.w X.K H s.heap d (.frz o u) from I.hok d _ hd);obtain ⟨a,b,en,ra,rb⟩:=X0.get hi' I.hok hd;obtain ⟨f0,f1,f2,f3,f4,f5⟩:=hf it (by simp);rw [<-X0.sz] at st;refine CO st ⟨o,g,X0.ex,X0.dat⟩ hi' fun h' st' sb=>?_;have I1:Inv X J3 σ H { s with heap:=h' }:=I.turned (t':=s.toks) (fun b o hb e=>(sb.2 b hb).trans e) f0 f1 f3 f4 f5;obtain ⟨oi,e,c,dd⟩:=id st';exact ⟨_,rfl,vk (s:={ s with heap:=h' }) e c dd (by decide) ⟨a,H,I1,ra,⟨rfl,b,en⟩,by rw [<-X0.sz]; exact st',fun b hb=>(hf b hb).1⟩⟩
 done:=by
  intro X hP hw hK hc i J3 s σ H E I hf st hg;subst hP hw hK;obtain ⟨hd,hi⟩:=hg;obtain ⟨g,ou⟩:=(show bV X.prog X.w X.K H s.heap d (.frz o u) from I.hok d _ hd);obtain ⟨f0,f1,f2,f3,f4,f5⟩:=hf it (by simp);rw [<-X0.sz] at st;exact Ef (I.ok.hd hc) st ⟨o,g,X0.ex,X0.dat⟩ (by rw [X0.sz]; exact hi) fun h' eb=>⟨rfl,I.turned (t':=s.toks) (fun b o hb e=>eb b o hb e) f0 f1 f3 f4 f5⟩
 self:=fun _ _ _ _ _ st h=>wpAny_pyIter_keyiter st h
def EN (K:Za) (tl:TE):TI:=fun σ H R=>tl σ H fun x H1=>∃d kvs,x=.ref d /\
 ((H1 d=some (.dT kvs)/\∀o,R (HZ d o (.dT kvs) kvs.length (AC K kvs)) (upd H1 d (.frz o (.dT kvs))))∨∃o,H1 d=some (.frz o (.dT kvs))/\R (HZ d o (.dT kvs) kvs.length (AC K kvs)) H1)
section
variable {X:Cx}{J3:Zd}{σ:St}{l tg:Expr}{tl:TE}
theorem vg {R:It->Hp->Prop}{H2:Hp}{s1:Shared}{d:Addr}{o:Obj}{u:HO}{n:Nat}{ent:Nat->Hp->V->V->Prop}{es:Array jk}{ep:Nat}(X0:Fq X.prog X.w X.K d o u n ent es ep) (hsys:(d == gk)=false) (I2:Inv X J3 σ H2 s1) (e:H2 d=some (.frz o u)) (q:R (HZ d o u n ent) H2) :
  wpAny (model X.prog X.w) X.A (pyIter (.ref d)) (Iu X J3 σ tg R) X.xe s1:=by
 obtain ⟨g,_⟩:=(show bV X.prog X.w X.K H2 s1.heap d (.frz o u) from I2.hok d _ e);refine CP hsys ⟨o,g,X0.ex,X0.dat⟩ fun h' hit hk=>?_;have I3:Inv X J3 σ H2 { s1 with heap:=h',toks:=s1.toks }:=I2.kept (t':=s1.toks) hk;refine ⟨_,[_],_,_,H2,rfl,I3,Cw X0,by rw [<-X0.sz]; exact hit,fun b hb=>?_,q⟩;have e:b=s1.heap.objs.size:=by simpa using hb
 subst e;exact I2.fpOk (aG _) (I2.hok.fresh (aG _))
theorem Er (hl:PE X l tl):PI X tg l (EN X.K tl):=by
 intro J3 s σ H R I h;refine cB (hl J3 s σ H _ I h) fun v s1 ⟨x,H1,I1,r1,d,kvs,ex,q⟩=>?_;subst ex;cases r1;rcases q with ⟨e,q⟩ | ⟨o,e,q⟩
 ·obtain ⟨z,hsys,xs',rel,o,es,ep,ho,r⟩:=id (show bV X.prog X.w X.K H1 s1.heap d (.dT kvs) from I1.hok d _ e);have I2:Inv X J3 σ (upd H1 d (.frz o (.dT kvs))) { s1 with heap:=s1.heap,toks:=s1.toks } :=
   I1.write (x:=d) (e:=d) (t':=s1.toks) (by rw [e]; trivial) (.inl rfl) (fun _ _ _ q=>q) ⟨o,ho⟩ ⟨ho,z,hsys,xs',Paired.mapP rel (fun p q r=>⟨r.1,nA.keeps (fun b ys eb=>by rw [af (fun z=>by rw [z,e] at eb; cases eb)]; exact eb) 8 r.2.2.1 r.2.1,r.2.2⟩),o,es,ep,ho,r⟩
  obtain ⟨hsys',es',ep',X0⟩:=lW I2.hok (aa (H:=H1) (a:=d));exact vg X0 hsys' I2 aa (q o)
 ·obtain ⟨hsys',es',ep',X0⟩:=lW I1.hok e;exact vg X0 hsys' I1 e q
end
end L2
end

section
set_option Elab.async false
set_option linter.all false
set_option maxRecDepth 100000
namespace HT
open PySem PySem.Spec PyProof.Rows
end HT
namespace L2
open PySem PySem.Spec PyProof.Rows
end L2
namespace HT
open PySem PySem.Spec PyProof.Rows
end HT
namespace L2
open PySem PySem.Spec PyProof.Rows
end L2
end

section
set_option Elab.async false
set_option linter.all false
set_option maxRecDepth 100000
namespace HT
open PySem PyProof.Rows
end HT
namespace L2
open PySem PySem.Spec PyProof.Rows
abbrev HG:List V->Hp->VK->Prop:=fun xs H Q=>∃i j,xs=[.int i,.int j]/\Q (.int (if j > i then j else i)) H
end L2
end
set_option Elab.async false
set_option linter.all false
set_option maxRecDepth 100000
set_option maxHeartbeats 4000000
namespace Mum
open PySem PySem.Spec PyProof.Rows L2
def wn (K:Za) :TS :=
 ao (bD (aJ (aE rGeI V0 (aE GR (tC (.int 10)) (tC (.int 18))))) (aT V0) (aU))
 (ao (aP (aE i8 (aE fe (aE fe (aE k_ (aE i8 V0 (tC (.int 1000000007))) (tC (.int 69069))) (aE k_ V1 (tC (.int 40503)))) (tC (.int 977))) (tC (.int 2147483629))) U2)
 (ao (aP (aE i8 (aE fe (aE fe (aE k_ V2 V2) (aE k_ V1 (tC (.int 7919)))) (aE i8 V0 (tC (.int 65537)))) (tC (.int 2147483587))) U3)
 (ao (aP (aE i8 (aE fe (aE fe (aE k_ V3 V3) (aE k_ V2 (tC (.int 31)))) (tC (.int 5))) (tC (.int 2147483563))) U4)
 (aT (aE fe (aE k_ (aE fe (aE k_ V2 (tC (.int 2147483659))) V3) (tC (.int 2147483693))) V4)))))
def xr:List Str:=["cell","at","one","two","three"]
def zP (K:Za) :TS :=
 ao (aP (cG (dv K) (aw (zA (pT K) V0 (eN) (fN (tC (.int 12)))))) U1)
 (ao (dR (vj K (aw (zA (pT K) V0 (fN (tC (.int 12))) (fN (tC (.int 63)))))) (fW K 2 (aR U2 (aR U3 (fI)))) (aP (aE fe (aE (cX K) V1 (aE i8 V2 (tC (.int 12)))) V3) (AA V1 (aE i8 V2 (tC (.int 12))) sQ)))
 (aT (dk (d9 V1 (tC (.int 0)) (tC (.int 0))))))
def AU:List Str:=["script","cells","k","cell"]
def zR (K:Za) :TS :=
 ao (aP (tC (.int 0)) (AA V0 (tC (.int 2)) sQ))
 (aT V0)
def AW:List Str:=["pen"]
def zO (K:Za) (sp_law_spread:Sp):TS :=
 ao (bD (aJ (aE Ae (aE (cX K) V0 (tC (.int 2))) V1)) (ao (aP (aE (cX K) V0 (tC (.int 1))) U2)
 (ao (aP (tC (.int 0)) U3)
 (ao (bD (aJ (aE Ae V2 (cG (cW K) (aw (aE (cX K) V0 (tC (.int 0))))))) (aP (aE (cX K) (aE (cX K) V0 (tC (.int 0))) V2) U3) (bD (aJ (aE El (cG (cW K) (aw (aE (cX K) V0 (tC (.int 0))))) (tC (.int 0)))) (aP (aE i8 (aE (cX K) (aE (cX K) V0 (tC (.int 0))) (aE i8 (aE fe (aE k_ V2 (tC (.int 5))) (tC (.int 3))) (cG (cW K) (aw (aE (cX K) V0 (tC (.int 0))))))) (aE fe (aE GR (tC (.int 10)) (tC (.int 17))) V2)) U3) (aU)))
 (ao (aP (aE fe V2 (tC (.int 1))) (AA V0 (tC (.int 1)) sQ))
 (aP (aO sp_law_spread (aB V3 V2)) (AA V0 (tC (.int 2)) sQ)))))) (aU))
 (ao (aP (aE i8 (aE (cX K) V0 (tC (.int 2))) V1) U4)
 (ao (aP (aE Em (aE (cX K) V0 (tC (.int 2))) V1) (AA V0 (tC (.int 2)) sQ))
 (aT V4)))
def AS:List Str:=["pen","many","at","cell","found"]
def xP (K:Za) (sp_law_take:Sp):TS :=
 ao (aP (tC (.str "abcdefghijklmnopqrstuvwxyz")) U2)
 (ao (aP (pN K "str" (GS K) (tC (.str "")) (au (dA 1 [2,0] (oP (aw (tC (.int 7)))) U0 (kE) (aE Ej V1 (aO sp_law_take (aB V2 (tC (.int 26)))))) be)) U3)
 (ao (aP (aO sp_law_take (aB V0 (tC (.int 3)))) U4)
 (ao (aP (aO sp_law_take (aB V0 (tC (.int 26)))) U5)
 (ao (aP (aO sp_law_take (aB V0 (tC (.int 8)))) U6)
 (ao (aP (dk (be)) U7)
 (ao (dR (oP (aw V1)) U8 (ao (aP (aE Ej V2 (aE i8 (aE fe V5 (aE k_ (tC (.int 3)) V8)) (tC (.int 26)))) U9)
 (ao (aP (zA F_ V3 (eN) (fN (aE i8 (aE fe V6 (aE k_ V8 (aE i8 V4 (tC (.int 2))))) (tC (.int 8))))) HU)
 (ao (aP (aE (cX K) (dk (d9 (tC (.int 0)) (cG (cW K) (aw xm)) (aE Em (cG (cW K) (aw xm)) (tC (.int 2))))) V4) Iq)
 (bE (pN K "list" bY V7 (aw (aE GU (aE GU (zA F_ xm (eN) (fN zb)) V9) (zA F_ xm (fN zb) (eN))))))))))
 (aT V7)))))))
def zi:List Str:=["pen","many","letters","base","way","turn","size","found","k","sign","part","at"]
def CB (K:Za) :TS :=
 bD (aJ (aE (sR K true) V1 V0)) (bE (pN K "list" bY V0 (aw V1))) (aU)
def Dr:List Str:=["doors","door"]
def pG (K:Za) (sp_law_take:Sp) (sp_law_put:Sp):TS :=
 ao (aP (dk (be)) U5)
 (ao (aP (aO sp_law_take (aB V0 (tC (.int 2)))) U6)
 (ao (dR (vj K (aw V3)) (fW K 2 (aR U7 (aR U8 (fI)))) (ao (dR (oP (au (aE (cX K) (dk (au (tC (.int 0)) (d9 (tC (.int 1)) (tC (.int 1)) (tC (.int 2))))) (aO sp_law_take (aB V0 (tC (.int 4))))) be)) U9 (ao (aP (aZ (au (tC (.str "say")) (au (aE (cX K) V2 (aO sp_law_take (aB V0 (cG (cW K) (aw V2))))) be))) HU)
 (bE (aO sp_law_put (au V5 (au (aZ (au V8 (au xm (au (aE (cX K) V3 (aO sp_law_take (aB V0 (cG (cW K) (aw V3))))) be)))) be))))))
 (ao (dR (cy K V1) Iq (dR (oP (au (aE (cX K) (dk (au V4 (d9 (tC (.int 1)) (tC (.int 1)) (tC (.int 2))))) (aO sp_law_take (aB V0 (tC (.int 4))))) be)) U9 (bE (aO sp_law_put (au V5 (au (aZ (au V8 (au (aZ (aB (tC (.str "ask")) zb)) (au (aE (cX K) V3 (aO sp_law_take (aB V0 (cG (cW K) (aw V3))))) be)))) be))))))
 (ao (aP (aE (cX K) (dk (au (zA (pT K) V3 (fN (aE fe V7 (tC (.int 1)))) (eN)) (aw (zA (pT K) V3 (eN) (fN V7))))) V6) U12)
 (bD (jC (aJ (aE (oB K) V12 (dk (be)))) (aJ (aE Bw (aO sp_law_take (aB V0 (tC (.int 3)))) (tC (.int 0))))) (bE (aO sp_law_put (au V5 (au (aZ (au V8 (au (aZ (aw (tC (.str "still")))) (au (aE (mD K) V12 (aO sp_law_take (aB V0 (cG (cW K) (aw V12))))) be)))) be)))) (aU))))))
 (aT V5)))
def p_:List Str:=["pen","asks","says","rooms","full","doors","down","k","room","turn","sign","ask","later"]
def xQ (K:Za) (sp_law_draw_doors:Sp) (sp_law_names:Sp) (sp_law_take:Sp) (sp_law_anew:Sp):TS :=
 ao (bE (aO sp_law_anew (aw V0)))
 (ao (aP (aO sp_law_names (aB V0 (tC (.int 8)))) U3)
 (ao (aP (zA (pT K) V3 (eN) (fN (aE fe (tC (.int 1)) (aE (cX K) (dk (au (tC (.int 0)) (au (tC (.int 1)) (au (tC (.int 1)) (d9 (tC (.int 2)) (tC (.int 2)) (tC (.int 3))))))) (aO sp_law_take (aB V0 (tC (.int 6)))))))) U4)
 (ao (aP (zA (pT K) V3 (fN (tC (.int 4))) (fN (aE fe (tC (.int 5)) (aE (cX K) (dk (au (tC (.int 0)) (au (tC (.int 1)) (au (tC (.int 1)) (d9 (tC (.int 2)) (tC (.int 2)) (tC (.int 3))))))) (aO sp_law_take (aB V0 (tC (.int 6)))))))) U5)
 (ao (aP (aO sp_law_names (aB V0 (aE fe (tC (.int 1)) (aO sp_law_take (au V0 (aw V1)))))) U6)
 (ao (aP (aO sp_law_draw_doors (au V0 (au V4 (d9 V5 V6 V2)))) U7)
 (aT (aZ (au V4 (d9 V5 V6 V7)))))))))
def zj:List Str:=["pen","most","full","words","asks","says","rooms","doors"]
def uc (K:Za) (C_Machine:Addr) (sp_Machine_init:Sp):TS :=
 aT (xS C_Machine sp_Machine_init [] E0 (au (cG (dv K) (aw (aE (mD K) V0 (tC (.int 0))))) (au (cG (dv K) (aw (aE (mD K) V0 (tC (.int 1))))) (au (cG (dv K) (aw (aE (mD K) V0 (tC (.int 2))))) (au (cG (dv K) (aw (aE (mD K) V0 (tC (.int 3))))) be)))))
def uK:List Str:=["told"]
def sv (K:Za) (sp_law_same:Sp):TS :=
 ao (bD (tB (CF V1)) (aT (CF V0)) (aU))
 (ao (bD (aJ (aE Ek V1 (tC (.bl true)))) (aT (aE Ek V0 (tC (.bl true)))) (aU))
 (ao (bD (aJ (aE Ek V1 (tC (.bl false)))) (aT (aE Ek V0 (tC (.bl false)))) (aU))
 (ao (bD (tB (cG (hZ K) (aB V1 (tC (.ty "int"))))) (aT (uW (cG (hZ K) (aB V0 (tC (.ty "int")))) (uW (GO (cG (hZ K) (aB V0 (tC (.ty "bool"))))) (aE (kG K) V0 V1)))) (aU))
 (ao (bD (tB (cG (hZ K) (aB V1 (tC (.ty "str"))))) (aT (uW (cG (hZ K) (aB V0 (tC (.ty "str")))) (aE (kG K) V0 V1))) (aU))
 (ao (bD (zB (aJ (aE tZ (cG (hZ K) (aB V1 (tC (.ty "tuple")))) (cG (hZ K) (aB V0 (tC (.ty "tuple")))))) (aJ (aE tZ (cG (hZ K) (aB V1 (tC (.ty "list")))) (cG (hZ K) (aB V0 (tC (.ty "list"))))))) (aT (tC (.bl false))) (aU))
 (ao (bD (aJ (aE tZ (cG (cW K) (aw V0)) (cG (cW K) (aw V1)))) (aT (tC (.bl false))) (aU))
 (ao (dR (vi K (aB V0 V1)) (fW K 2 (aR U2 (aR U3 (fI)))) (bD (mZ (tB (aO sp_law_same (aB V2 V3)))) (aT (tC (.bl false))) (aU)))
 (aT (tC (.bl true))))))))))
def AT:List Str:=["found","due","one","other"]
def CC (K:Za) :TS :=
 aT (uW (aE tZ V0 (tC (.str ""))) (uW (aE rLeI (cG (cW K) (aw V0)) (tC (.int 8))) (cG (HH K) (aw (dA 1 [] (HM V0) U0 (kE) (aE rInS V0 (tC (.str "abcdefghijklmnopqrstuvwxyz"))))))))
def Dt:List Str:=["text"]
def CD (K:Za) :TS :=
 ao (aP (pM) U1)
 (ao (dR (cy K V0) U2 (kA V1 V2 (tC (.bl true))))
 (aT V1))
def Du:List Str:=["things","keys","thing"]
def mQ (K:Za) (sp_is_name:Sp) (sp_as_keys:Sp):TS :=
 ao (bD (aJ (aE Bw (cG (cW K) (aw V0)) (tC (.int 0)))) (aT (tC (.int 0))) (aU))
 (ao (aP (aO sp_as_keys (aw V2)) U3)
 (ao (dR (vj K (aw V0)) (fW K 2 (aR U4 (aR U5 (fI)))) (ao (bD (zB (aJ (aE Bw V4 V1)) (zB (tB (zX K V5 V3)) (mZ (tB (aO sp_is_name (aw V5)))))) (aT V4) (aU))
 (kA V3 V5 (tC (.bl true)))))
 (aT (tC .non))))
def nD:List Str:=["names","most","taken","ahead","number","name"]
def wr (K:Za) (a_STILL:Addr):TS :=
 aT (aE pU (aE pU (dA 1 [] (cy K V0) U0 (kE) (aZ (aB (tC (.str "ask")) V0))) (dA 1 [] (cy K V1) U0 (kE) (aZ (aB (tC (.str "say")) V0)))) (dk (aw (tC (.ref a_STILL)))))
def xw:List Str:=["asks","says"]
def mR (K:Za) (sp_as_keys:Sp):TS :=
 ao (aP (aO sp_as_keys (aw V1)) U3)
 (ao (aP (pL) U4)
 (ao (dR (vj K (aw V0)) (fW K 2 (aR U5 (aR U6 (fI)))) (ao (bD (zB (aJ (aE Bw V5 (tC (.int 2000)))) (tB (zX K V6 V4))) (aT V5) (aU))
 (ao (bD (zB (tB (eO K (aE (mD K) V6 (tC (.int 0))) V3)) (zB (aJ (aE (sR K true) (aE (mD K) V6 (tC (.int 1))) V2)) (tB (eO K (aE (mD K) V6 (tC (.int 2))) V3)))) (aT V5) (aU))
 (kA V4 V6 (tC (.bl true))))))
 (aT (tC .non))))
def nE:List Str:=["doors","rooms","signs","own_rooms","ahead","number","door"]
def iU (K:Za) :TS :=
 ao (aP (pL) U1)
 (ao (dR (cy K V0) (fW K 3 (aR U2 (aR U3 (aR U4 (fI))))) (bE (pN K "list" bY (pN K "dict" Bu V1 (aB (aZ (au V2 (aw V3))) (dk (be)))) (aw V4))))
 (aT V1))
def iY:List Str:=["doors","goals","start","sign","goal"]
def sr (K:Za) (a_STILL:Addr):TS :=
 ao (aP (pM) U2)
 (ao (aP (dk (aw V1)) U3)
 (ao (mW (aJ (aE El (cG (cW K) (aw V3)) (tC (.int 0)))) (ao (aP (FI K "list" G_ V3) U4)
 (dR (HN K (sI K V0 (aZ (aB V4 (tC (.ref a_STILL)))) (aZ (be)))) U5 (bD (tB (eO K V5 V2)) (ao (kA V2 V5 (tC (.bl true)))
 (bE (pN K "list" bY V3 (aw V5)))) (aU)))))
 (aT V2)))
def tO:List Str:=["goals","room","led","waiting","here","goal"]
def nW (K:Za) :TS :=
 ao (dR (vj K (aw V0)) (fW K 2 (aR U2 (aR U3 (fI)))) (bD (tB (zX K V3 (ie K V1 V3))) (aT V2) (aU)))
 (aT (tC .non))
def o5:List Str:=["rooms","led","number","room"]
def xN (K:Za) :TS :=
 bD (tB (DN V1)) (sB) (aU)
def zg:List Str:=["part","number"]
def wk (K:Za) (sp_need_none:Sp) (sp_first_wrong_door:Sp) (sp_door_signs:Sp) (sp_first_wrong_name:Sp):TS :=
 ao (bE (aO sp_need_none (aB (tC (.str "asks")) (aO sp_first_wrong_name (d9 V0 (tC (.int 4)) (dk (be)))))))
 (ao (bE (aO sp_need_none (aB (tC (.str "says")) (aO sp_first_wrong_name (d9 V1 (tC (.int 4)) V0)))))
 (ao (bE (aO sp_need_none (aB (tC (.str "rooms")) (aO sp_first_wrong_name (d9 V2 (tC (.int 150)) (dk (be)))))))
 (bE (aO sp_need_none (au (tC (.str "doors")) (aw (aO sp_first_wrong_door (d9 V3 V2 (aO sp_door_signs (aB V0 V1))))))))))
def xo:List Str:=["asks","says","rooms","doors"]
def pI (K:Za) :TS :=
 ao (aP (pM) U2)
 (ao (dR (cy K V0) U3 (kA V2 V3 (dk (be))))
 (ao (dR (cy K V1) U4 (bE (pN K "list" bY (ie K V2 (aE (mD K) V4 (tC (.int 0)))) (aw V4))))
 (aT V2)))
def qb:List Str:=["rooms","doors","leaving","room","door"]
def pH (K:Za) :TS :=
 aT (cG (HH K) (au (dA 1 [] (cy K V0) U0 (kE) (aE Bw (aE (mD K) (aE (mD K) V0 (tC (.int 1))) (tC (.int 0))) (tC (.str "ask")))) be))
def qa:List Str:=["doors"]
def mU (K:Za) (sp_need_none:Sp) (sp_first_led_round:Sp) (sp_led_by_still:Sp) (sp_goals_by_start_and_sign:Sp) (sp_as_keys:Sp) (sp_has_asks_alone:Sp) (sp_doors_by_start:Sp) (sp_need_parts:Sp):TS :=
 ao (bE (aO sp_need_parts (au V1 (d9 V2 V3 V4))))
 (ao (ox K V0 (cG (dv K) (aw V1)) "own_asks")
 (ao (ox K V0 (cG (dv K) (aw V2)) "own_says")
 (ao (ox K V0 (cG (dv K) (aw V3)) "own_rooms")
 (ao (ox K V0 (cG (dv K) (aw V4)) "own_doors")
 (ao (ox K V0 (aO sp_doors_by_start (aB V3 V4)) "leaving")
 (ao (ox K V0 (aO sp_as_keys (au (dA 1 [0] (cy K V3) U0 (tB (aO sp_has_asks_alone (aw (ie K (fO K V1 "leaving") V0)))) V0) be)) "quiet")
 (ao (ox K V0 (aO sp_goals_by_start_and_sign (aw V4)) "sign_goals")
 (ao (ox K V0 (cG (Ga K) (au (dA 1 [0] (cy K V3) U0 (kE) (aZ (aB V0 (aO sp_led_by_still (au (fO K V1 "sign_goals") (aw V0)))))) be)) "still_led")
 (bE (aO sp_need_none (aB (tC (.str "still")) (aO sp_first_led_round (au V3 (aw (fO K V0 "still_led")))))))))))))))
def nH:List Str:=["self","asks","says","rooms","doors"]
def mT (K:Za) :TS :=
 aT (zX K V1 (fO K V0 "quiet"))
def nG:List Str:=["self","room"]
def mB (K:Za) (sp_with_still:Sp) (C_Machine:Addr) (sp_Machine_goals:Sp) (a_HUSH:Addr) (sp_Machine_is_quiet:Sp):TS :=
 ao (bD (aJ (aE (kG K) V2 (tC (.ref a_HUSH)))) (aT (cG (Bt K) (aw (dA 1 [0] (Gr K V1) U0 (tB (dj C_Machine "is_quiet" sp_Machine_is_quiet [] E0 V1 (aw V0))) V0)))) (aU))
 (ao (aP (dk (be)) U3)
 (ao (dR (Gr K V1) U4 (bE (pN K "list" Bv V3 (aw (dj C_Machine "goals" sp_Machine_goals [] E0 V0 (aB V4 V2))))))
 (aT (aO sp_with_still (aB V0 V3)))))
def mG:List Str:=["M","face","sign","goals","room"]
def cR (p:Addr) (H H':Hp):Prop:=∀b o,H b=some o->b≠p->H' b=some o
theorem cR.refl (p:Addr) (H:Hp):cR p H H:=fun _ _ h _=>h
theorem cR.trans {p:Addr}{H H1 H2:Hp}(a:cR p H H1) (b:cR p H1 H2):cR p H H2:=fun c o h n=>b c o (a c o h n) n
theorem ac.exB {p:Addr}{H H':Hp}(a:ac H H'):cR p H H':=fun b o h _=>a b o h
theorem cR.upd (p:Addr) (H:Hp) (o:HO):cR p H (upd H p o):=fun b u h n=>by rw [af n]; exact h
theorem ac.new {H:Hp}{a:Addr}{o:HO}(h:H a=none):ac H (upd H a o):=fun b u e=>by rw [af (ae e h)]; exact e
theorem cR.free {p:Addr}{H H':Hp}(e:cR p H H') {u:HO}(hp:H' p=some u) {l:Addr}(h:H' l=none):H l=none:=by
 cases q:H l with
 | none=>rfl
 | some o =>
  by_cases z:l=p
  ·subst z; rw [hp] at h; cases h
  ·rw [e l o q z] at h; cases h
theorem kp {H:Hp}{a b:Addr}{o x:HO}(h:H b=some o) (n:H a=none):upd H a x b=some o:=by rw [af (ae h n)]; exact h
structure Cj (H:Hp) (p c:Addr) (at_ rest:Int) (ns:List Int):Prop where
 pen:H p=some (.lst [.ref c,.int at_,.int rest])
 cells:H c=some (.lst (ns.map V.int))
 at0:0<=at_
 rest0:0<=rest
theorem Cj.ne {H:Hp}{p c:Addr}{a r:Int}{ns:List Int}(h:Cj H p c a r ns):c≠p:=by
 intro e;have h1:=h.pen;have h2:=h.cells;rw [e,h1] at h2;injection h2 with h2;injection h2 with h2;cases ns with
 | nil=>cases h2
 | cons n ns=>injection h2 with h2; cases h2
def gH (H:Hp) (p c:Addr):Prop:=∃a r ns,Cj H p c a r ns
theorem gH.ex {H H':Hp}{p c:Addr}(h:gH H p c) (e:ac H H'):gH H' p c:=by
 obtain ⟨a,r,ns,h1,h2,h3,h4⟩:=h;exact ⟨a,r,ns,e _ _ h1,e _ _ h2,h3,h4⟩
theorem gH.pen {H:Hp}{p c:Addr}(h:gH H p c):∃o,H p=some o:=by
 obtain ⟨a,r,ns,h1,_⟩:=h;exact ⟨_,h1⟩
theorem gH.cell {H:Hp}{p c:Addr}(h:gH H p c):∃o,H c=some o:=by
 obtain ⟨a,r,ns,_,h1,_⟩:=h;exact ⟨_,h1⟩
theorem gH.upd {H:Hp}{p c l:Addr}{o:HO}(h:gH H p c) (h1:p≠l) (h2:c≠l):gH (upd H l o) p c:=by
 obtain ⟨a,r,ns,g1,g2,g3,g4⟩:=h;exact ⟨a,r,ns,by rw [af h1]; exact g1,by rw [af h2]; exact g2,g3,g4⟩
theorem gH.nep {H:Hp}{p c l:Addr}(h:gH H p c) (hl:H l=none):p≠l:=let ⟨_,e⟩:=h.pen; ae e hl
theorem gH.nec {H:Hp}{p c l:Addr}(h:gH H p c) (hl:H l=none):c≠l:=let ⟨_,e⟩:=h.cell; ae e hl
theorem cR.new {p:Addr}{H:Hp}{a:Addr}{o:HO}(h:H a=none):cR p H (L2.upd H a o):=fun b u e _=>by rw [af (ae e h)]; exact e
inductive lO  (vs:List V) (H:Hp) (Q:VK) (E:XK):Prop
 | mk (c a:Int):(vs=[.int c,.int a])->(0<=a)->(∀r:Int,0<=r->Q (.int r) H)->lO  vs H Q E
theorem oX {i j:Int}(h1:-(2 ^ 64)<j) (h2:j<2 ^ 64):Fs i j:=.inr ⟨h1,h2⟩
theorem CK {K:Za}{vs:List V}{H:Hp}{Q:VK}{E:XK}(h:lO vs H Q E):wn K (bC Q) (start xr vs) H:=by
 obtain ⟨c,a,rfl,ha,k⟩:=h;refine ⟨_,rfl,_,_,rfl,rfl,⟨by decide,by decide,by decide⟩,_,_,rfl,rfl,_,rfl,?_⟩;refine iW (fun h=>?_) (fun _=>?_)
 ·refine ⟨_,rfl,k _ ?_⟩;have:=of_decide_eq_true h;have e:((10:Int) ^ (18:Int).toNat)=1000000000000000000:=by decide
  omega
 ·have one:∀z:Int,0<=z % 2147483629/\z % 2147483629<2147483629:=fun z=>⟨pf _ (by decide),pe _ (by decide)⟩;have two:∀z:Int,0<=z % 2147483587/\z % 2147483587<2147483587:=fun z=>⟨pf _ (by decide),pe _ (by decide)⟩;have three:∀z:Int,0<=z % 2147483563/\z % 2147483563<2147483563:=fun z=>⟨pf _ (by decide),pe _ (by decide)⟩;refine ⟨_,rfl,_,_,rfl,rfl,(by show (0:Int)<1000000007; decide),_,_,rfl,rfl,oX (by decide) (by decide),_,rfl,_,_,rfl,rfl,oX (by decide) (by decide),_,_,rfl,rfl,_,_,rfl,rfl,_,_,rfl,rfl,(by show (0:Int)<2147483629; decide),?_⟩;generalize hz1:(c % 1000000007 * 69069+a * 40503+977)=z1;obtain ⟨o1,o2⟩:=one z1;generalize z1 % 2147483629=o at o1 o2 ⊢;refine ⟨_,rfl,_,rfl,_,_,rfl,rfl,oX (by omega) (by omega),_,rfl,_,_,rfl,rfl,oX (by decide) (by decide),_,_,rfl,rfl,_,rfl,_,_,rfl,rfl,(by show (0:Int)<65537; decide),_,_,rfl,rfl,_,_,rfl,rfl,(by show (0:Int)<2147483587; decide),?_⟩;generalize hz2:(o * o+a * 7919+c % 65537)=z2;obtain ⟨p1,p2⟩:=two z2;generalize z2 % 2147483587=q at p1 p2 ⊢;refine ⟨_,rfl,_,rfl,_,_,rfl,rfl,oX (by omega) (by omega),_,rfl,_,_,rfl,rfl,oX (by decide) (by decide),_,_,rfl,rfl,_,_,rfl,rfl,_,_,rfl,rfl,(by show (0:Int)<2147483563; decide),?_⟩;generalize hz3:(q * q+o * 31+5)=z3;obtain ⟨r1,r2⟩:=three z3;generalize z3 % 2147483563=r at r1 r2 ⊢;refine ⟨_,rfl,_,_,rfl,rfl,oX (by decide) (by decide),_,rfl,_,_,rfl,rfl,_,_,rfl,rfl,oX (by decide) (by decide),_,rfl,_,_,rfl,rfl,k _ ?_⟩;omega
def rA:Sp:=fun vs H Q _=>∃p c,vs=[.ref p]/\gH H p c/\∀H',gH H' p c->cR p H H'->Q (.ref p) H'
theorem FX {K:Za}{vs:List V}{H:Hp}{Q:VK}{E:XK}(h:rA vs H Q E):zR K (bC Q) (start AW vs) H:=by
 obtain ⟨p,c,rfl,⟨a,r,ns,h⟩,k⟩:=h;refine ⟨_,rfl,p,_,_,_,rfl,rfl,h.pen,rfl,_,rfl,k _ ⟨a,0,ns,aa,?_,h.at0,Int.le_refl 0⟩ (cR.upd _ _ _)⟩;rw [af h.ne]; exact h.cells
theorem Cg {ns:List Int}{a:Int}(h0:0<=a) (h1:a<ns.length):∃z,oY (ns.map V.int) a=some (.int z):=by
 obtain ⟨n,rfl⟩:=ji h0;have hn:n<ns.length:=by omega
 exact ⟨ns[n],bI (by simp [hn])⟩
inductive fk  (vs:List V) (H:Hp) (Q:VK) (E:XK):Prop
 | mk (p c:Addr) (m:Int):(vs=[.ref p,.int m])->(gH H p c)->(0<m)->(m<1073741824)->(∀(r:Int) (H':Hp),0<=r->r<m->gH H' p c->cR p H H'->Q (.int r) H')->fk  vs H Q E
theorem dD {H:Hp}{Q:VK}{E:XK}{p c:Addr}{m:Int}(hp:gH H p c) (m0:0<m) (m1:m<1073741824) (k:∀(r:Int) (H':Hp),0<=r->r<m->gH H' p c->cR p H H'->Q (.int r) H'):fk [.ref p,.int m] H Q E:=by
 exact ⟨p,c,m,rfl,hp,m0,m1,k⟩
theorem FP {K:Za}{vs:List V}{H:Hp}{Q:VK}{E:XK}(h:fk vs H Q E):zO K lO (bC Q) (start AS vs) H:=by
 obtain ⟨p,c,m,rfl,⟨a,r,ns,h⟩,hm,hm2,k⟩:=h;have fin:∀(H':Hp) (a' r':Int) (x y:Option V),Cj H' p c a' r' ns->cR p H H' ->
   (ao (aP (aE i8 (aE (cX K) V0 (tC (.int 2))) V1) U4) (ao (aP (aE Em (aE (cX K) V0 (tC (.int 2))) V1) (AA V0 (tC (.int 2)) sQ)) (aT V4)))
    (bC Q) [some (.ref p),some (.int m),x,y,none] H':=by
  intro H' a' r' x y h' ex;refine ⟨_,rfl,p,_,2,_,rfl,rfl,aA.of h'.pen,rfl,_,rfl,_,_,rfl,rfl,hm,?_⟩;refine ⟨_,rfl,p,_,2,_,rfl,rfl,aA.of h'.pen,rfl,_,rfl,_,_,rfl,rfl,⟨hm,hm2⟩,_,rfl,p,_,_,_,rfl,rfl,h'.pen,rfl,?_⟩;refine ⟨_,rfl,k _ _ (pf _ (by omega)) (pe _ hm) ⟨a',_,ns,aa,?_,h'.at0,Int.ediv_nonneg h'.rest0 (by omega)⟩ (ex.trans (cR.upd _ _ _))⟩;rw [af h'.ne]; exact h'.cells
 refine ⟨_,rfl,p,_,2,_,rfl,rfl,aA.of h.pen,rfl,_,rfl,_,_,rfl,rfl,_,rfl,?_⟩;refine iW (fun h1=>?_) (fun h1=>?_)
 ·-- at=pen[1]; cell=0; if at<len(pen[0])
  refine ⟨_,rfl,p,_,1,_,rfl,rfl,aA.of h.pen,rfl,?_⟩;have la:(V.int ((ns.map V.int).length:Nat))=V.int (ns.length:Nat):=by rw [aj]
  refine ⟨_,rfl,_,rfl,p,_,0,_,rfl,rfl,aA.of h.pen,rfl,.inl ⟨c,_,rfl,.inl (aA.of h.cells),_,_,rfl,la,_,rfl,?_⟩⟩;refine iW (fun h2=>?_) (fun h2=>?_)
  ·obtain ⟨z,hz⟩:=Cg (ns:=ns) h.at0 (of_decide_eq_true h2);refine ⟨_,rfl,p,_,0,_,rfl,rfl,aA.of h.pen,rfl,_,rfl,c,_,_,_,rfl,rfl,aA.of h.cells,hz,?_⟩;refine ⟨_,rfl,_,_,rfl,rfl,_,rfl,p,_,_,_,rfl,rfl,h.pen,rfl,?_⟩;refine ⟨_,rfl,_,rfl,_,_,rfl,h.at0,fun q hq=>⟨_,rfl,p,_,_,_,rfl,rfl,aa,rfl,?_⟩⟩;rw [rf];refine fin _ (a+1) q _ _ ⟨aa,by rw [af h.ne]; exact h.cells,by have:=h.at0; omega,hq⟩ (cR.upd _ _ _)
  ·refine ⟨_,rfl,p,_,0,_,rfl,rfl,aA.of h.pen,rfl,.inl ⟨c,_,rfl,.inl (aA.of h.cells),_,_,la,rfl,_,rfl,?_⟩⟩;refine iW (fun h3=>?_) (fun h3=>?_)
   ·have hl:(0:Int)<ns.length:=of_decide_eq_true h3;obtain ⟨z,hz⟩:=Cg (ns:=ns) (a:=(a * 5+3) % (ns.length:Int)) (pf _ (by omega)) (pe _ hl);refine ⟨_,rfl,p,_,0,_,rfl,rfl,aA.of h.pen,rfl,_,rfl,_,_,rfl,rfl,oX (by decide) (by decide),_,_,rfl,rfl,_,rfl,p,_,0,_,rfl,rfl,aA.of h.pen,rfl,.inl ⟨c,_,rfl,.inl (aA.of h.cells),_,_,rfl,la,hl,c,_,_,_,rfl,rfl,aA.of h.cells,hz,?_⟩⟩;refine ⟨_,_,rfl,rfl,⟨by decide,by decide,by decide⟩,_,rfl,_,_,rfl,rfl,_,_,rfl,rfl,?_,?_⟩
    ·have e:((10:Int) ^ (17:Int).toNat)=100000000000000000:=by decide
     have:=h.at0;show (0:Int)<10 ^ (17:Int).toNat+a;omega
    refine ⟨_,rfl,_,_,rfl,rfl,_,rfl,p,_,_,_,rfl,rfl,h.pen,rfl,?_⟩;refine ⟨_,rfl,_,rfl,_,_,rfl,h.at0,fun q hq=>⟨_,rfl,p,_,_,_,rfl,rfl,aa,rfl,?_⟩⟩;rw [rf];refine fin _ (a+1) q _ _ ⟨aa,by rw [af h.ne]; exact h.cells,by have:=h.at0; omega,hq⟩ (cR.upd _ _ _)
   ·refine ⟨_,rfl,_,_,rfl,rfl,_,rfl,p,_,_,_,rfl,rfl,h.pen,rfl,?_⟩;refine ⟨_,rfl,_,rfl,_,_,rfl,h.at0,fun q hq=>⟨_,rfl,p,_,_,_,rfl,rfl,aa,rfl,?_⟩⟩;rw [rf];refine fin _ (a+1) q _ _ ⟨aa,by rw [af h.ne]; exact h.cells,by have:=h.at0; omega,hq⟩ (cR.upd _ _ _)
 ·exact fin H a r _ _ h (cR.refl _ _)
inductive rj (K:Za) (vs:List V) (H:Hp) (Q:VK) (E:XK):Prop
 | mk (a:Addr) (ns:List Int):(vs=[.ref a])->(aA K H a (ns.map V.int))->(ns.length<=63)->(∀(p c:Addr) (H':Hp),H p=none->gH H' p c->ac H H'->Q (.ref p) H')->rj K vs H Q E
theorem vq (ns:List Int) (lo hi:Option Int):∃ms:List Int,gF (ns.map V.int) lo hi=ms.map V.int/\ms.length=(gF (ns.map V.int) lo hi).length:=by
 refine ⟨(ns.drop (HT.sIx (ns.map V.int).length 0 lo)).take (HT.sIx (ns.map V.int).length (ns.map V.int).length hi-HT.sIx (ns.map V.int).length 0 lo),?_,?_⟩
 ·unfold gF; rw [mI,vH]
 ·unfold gF; rw [aK,aK,fM,fM,aj]
theorem FR {K:Za}{vs:List V}{H:Hp}{Q:VK}{E:XK}(h:rj K vs H Q E):zP K (bC Q) (start AU vs) H:=by
 obtain ⟨a,ns,rfl,hs,hn,k⟩:=h;obtain ⟨c0,e0,l0⟩:=vq ns none (some 12);obtain ⟨c1,e1,l1⟩:=vq ns (some 12) (some 63);have hlen:c1≠[]->c0.length=12:=by
  intro hne;have hc1:0<c1.length:=by cases c1 with | nil=>exact absurd rfl hne | cons _ _=>simp
  rw [l1] at hc1;rw [l0];unfold gF at hc1 ⊢;rw [aK,fM,aj] at hc1;rw [aK,fM,aj];have s1:HT.sIx ns.length 0 (some 12)=min 12 ns.length:=HT.sIx_nat _ _ 12;have s2:HT.sIx ns.length ns.length (some 12)=min 12 ns.length:=HT.sIx_nat _ _ 12;rw [HT.sIx_none,s2];rw [s1] at hc1;omega
 refine ⟨_,rfl,_,rfl,a,_,rfl,hs,fun q hq=>.inl ⟨q,_,rfl,.inl (aA.of aa),fun c hc=>?_⟩⟩;rw [e0] at hc ⊢;have hcH:H c=none:=by
  have:c≠q:=fun z=>by subst z; rw [aa] at hc; cases hc
  rw [af this] at hc; exact hc
 have hS:ac H (upd (upd H q (.lst (c0.map V.int))) c (.lst (c0.map V.int))):=(ac.new hq).trans (ac.new hc);refine ⟨_,rfl,_,rfl,_,rfl,a,_,rfl,hS.seq hs,fun r hr=>⟨r,rfl,⟨_,aA.of aa⟩,?_⟩⟩;rw [e1];have hcr:c≠r:=ae aa hr;refine lC (xs:=c1.map V.int) (fun i σ H'=>∃(ms:List Int) (x y:Option V),σ=[some (.ref a),some (.ref c),x,y]/\H' c=some (.lst (ms.map V.int))/\ms.length=c0.length/\H' r=some (.lst (c1.map V.int))/\ac H H')
  ⟨c0,none,none,rfl,kp aa hr,rfl,aa,hS.trans (ac.new hr)⟩ (fun i σ H' _ ⟨ms,x,y,_,_,_,h,_⟩=>aA.of h) ?_ ?_
 ·rintro i x σ H' t hi ⟨ms,u,v,rfl,hcell,hml,hr',hS'⟩ ht;have hi':i<c1.length:=by
   have:=(cw.mp hi).1;rwa [aj] at this
  have h12:=hlen (fun z=>by rw [z] at hi'; simp at hi');obtain ⟨z,rfl⟩:∃z,x=V.int z:=by
   rw [b0,bX hi'] at hi;exact ⟨_,(dZ hi).symm⟩
  have hcell1:upd H' t (.tup [.int i,.int z]) c=some (.lst (ms.map V.int)):=kp hcell ht;have hidx:(i:Int) % 12=((i % 12:Nat):Int):=by omega
  have hlt:i % 12<ms.length:=by omega
  refine ⟨t,_,rfl,bj.of aa,rfl,_,_,rfl,_,_,rfl,rfl,?_⟩;have hat:oY (ms.map V.int) ((i:Int) % 12)=some (.int ms[i % 12]):=by rw [hidx]; exact bI (by simp [hlt])
  refine ⟨_,rfl,_,rfl,_,_,rfl,rfl,(by show (0:Int)<12; decide),c,_,_,_,rfl,rfl,aA.of hcell1,hat,_,rfl,_,_,rfl,rfl,_,rfl,_,rfl,_,_,rfl,rfl,(by show (0:Int)<12; decide),c,_,_,i % 12,rfl,rfl,hcell1,?_,?_⟩
  ·rw [hidx];unfold Fu;rw [if_pos (by omega),if_pos (by rw [aj]; omega)];rw [jl]
  ·refine ⟨ms.set (i % 12) (ms[i % 12]+z),_,_,rfl,?_,by rw [List.length_set]; exact hml,?_,?_⟩
   ·rw [aa,List.map_set]
   ·rw [af hcr.symm]; exact kp hr' ht
   ·intro b o e;rw [af (ae e hcH)];exact kp (hS' b o e) ht
 ·rintro σ H' ⟨ms,x,y,rfl,hcell,hml,hr',hS'⟩;refine ⟨_,rfl,(by show 3<=ai; decide),fun p hp=>k p c _ (hS'.free hp) ⟨0,0,ms,aa,kp hcell hp,Int.le_refl _,Int.le_refl _⟩ (hS'.trans (ac.new hp))⟩
def wO (c:Nat):Prop:=97<=c/\c<=122
structure qg (w:Str):Prop where
 lo:1<=w.length
 hi:w.length<=8
 al:∀c∈w.cps.toList,wO c
theorem Ci:∀n:Nat,n<26->(("abcdefghijklmnopqrstuvwxyz":Str).cps.toList)[n]?=some (97+n):=by decide +kernel
theorem Ch:("abcdefghijklmnopqrstuvwxyz":Str).length<=ai:=by decide +kernel
theorem Fj {r:Int}(h0:0<=r) (h1:r<26):oY (("abcdefghijklmnopqrstuvwxyz":Str).cps.toList) r=some (97+r.toNat):=by
 obtain ⟨n,rfl⟩:=ji h0;rw [jl];exact bI (Ci n (by omega))
theorem uB (cs:List Nat):∀acc:Array Nat,((cs.map fun c=>(⟨#[c]⟩:Str)).foldl (fun acc p=>acc++("":Str).cps++p.cps) acc).toList=acc.toList++cs:=by
 have e:("":Str).cps=#[]:=by decide +kernel
 induction cs with
 | nil=>intro acc; simp
 | cons c cs ih =>
  intro acc;rw [bw,kM,ih,e];simp
theorem Av (cs:List Nat):(vR "" (cs.map fun c=>(⟨#[c]⟩:Str))).cps.toList=cs:=by
 unfold vR cg.Str.glued;cases cs with
 | nil=>rfl
 | cons c cs =>
  rw [bw];show ((cs.map fun c=>(⟨#[c]⟩:Str)).foldl (fun acc p=>acc++("":Str).cps++p.cps) #[c]).toList=_;rw [uB]
  rfl
theorem FL {a b:Str}(h:a.cps.toList=b.cps.toList):a=b:=by
 cases a with | mk x=>cases b with | mk y=>exact congrArg Str.mk (Array.toList_inj.mp h)
theorem fj (a:Str):a.length=a.cps.toList.length:=by simp [Str.length]
theorem xi (a b:Str):(a++b).cps.toList=a.cps.toList++b.cps.toList:=by
 show (a.cps++b.cps).toList=_;simp
theorem Fc (z:Str) (m:Nat):(tF z none (some (m:Int))).cps.toList=z.cps.toList.take m:=by
 unfold tF;rw [HT.sIx_none,HT.sIx_nat,rX,Nat.sub_zero,fj];show List.take _ _=_;rw [List.take_eq_take_iff];omega
theorem Fd (z:Str) (m:Nat):(tF z (some (m:Int)) none).cps.toList=z.cps.toList.drop m:=by
 unfold tF;rw [HT.sIx_none,HT.sIx_nat,fj];show List.take _ _=_;rw [List.take_of_length_le (by rw [fM]; omega)];by_cases h:m<=z.cps.toList.length
 ·rw [vG h]
 ·rw [Nat.min_eq_right (by omega),List.drop_length,vP (by omega)]
def eZ (way size k:Nat):Nat:=(size+k * (way % 2)) % 8
def zq (way m:Nat):Nat:=if way=0 then 0 else if way=1 then m else m / 2
def mz (b:List Nat) (way turn size k:Nat):List Nat :=
 (b.take (eZ way size k)).take (zq way (eZ way size k))++[97+(turn+3 * k) % 26]++(b.take (eZ way size k)).drop (zq way (eZ way size k))
def xH (b:List Nat) (way turn size k:Nat):Str:=⟨(mz b way turn size k).toArray⟩
theorem pE {b:List Nat}(hb:b.length=7) (way turn size k:Nat):(mz b way turn size k).length=eZ way size k+1:=by
 have h8:eZ way size k<8:=rT _ (by decide);unfold mz;rw [aM,aM,aK,fM,aK,hb];have:zq way (eZ way size k)<=eZ way size k:=by unfold zq; split; omega; split; omega; omega
 simp;omega
theorem Fy {b:List Nat}(hb:b.length=7) (hl:∀c∈b,wO c) (way turn size k:Nat):qg (xH b way turn size k):=by
 have h8:eZ way size k<8:=rT _ (by decide);have hlen:=pE hb way turn size k;have e:(xH b way turn size k).cps.toList=mz b way turn size k:=by simp [xH]
 refine ⟨?_,?_,?_⟩
 ·rw [fj,e]; omega
 ·rw [fj,e]; omega
 ·rw [e];intro c hc;unfold mz at hc;rcases bx.mp hc with hc | hc
  ·rcases bx.mp hc with hc | hc
   ·exact hl c (fz (fz hc))
   ·have:c=97+(turn+3 * k) % 26:=by simpa using hc
    subst this;have:(turn+3 * k) % 26<26:=rT _ (by decide);exact ⟨by omega,by omega⟩
  ·exact hl c (fz (List.mem_of_mem_drop hc))
theorem DD {b:List Nat}(hb:b.length=7) {way turn size:Nat}(hw:way<3) {j k:Nat}(hj:j<26) (hk:k<26) (h:xH b way turn size j=xH b way turn size k):j=k:=by
 have h8:∀i,eZ way size i<8:=fun i=>rT _ (by decide);have e:mz b way turn size j=mz b way turn size k:=by
  have:=congrArg (fun s=>Str.cps s |>.toList) h;simpa [xH] using this
 have el:eZ way size j=eZ way size k:=by
  have:=congrArg List.length e;rw [pE hb,pE hb] at this;omega
 have key:97+(turn+3 * j) % 26=97+(turn+3 * k) % 26:=by
  have hat:∀i,zq way (eZ way size i)<=eZ way size i:=fun i=>by unfold zq; split; omega; split; omega; omega
  have get:∀i,(mz b way turn size i)[zq way (eZ way size i)]?=some (97+(turn+3 * i) % 26):=by
   intro i;unfold mz;have hl:((b.take (eZ way size i)).take (zq way (eZ way size i))).length=zq way (eZ way size i):=by
    rw [aK,aK,hb];have:=h8 i;have:=hat i;omega
   rw [c6,mP (by omega),hl,Nat.sub_self]
   rfl
  have g1:=get j;have g2:=get k;rw [e,el] at g1;rw [g1] at g2;exact dZ g2
 omega
def j7 (ws:Zb):Prop:=ws.Nodup/\∀w∈ws,qg w
def jS (b:List Nat) (way turn size n:Nat):List Str:=(jz n).map (xH b way turn size)
theorem zF {b:List Nat}(hb:b.length=7) (hl:∀c∈b,wO c) {way turn size n:Nat}(hw:way<3) (hn:n<=26):j7 (jS b way turn size n):=by
 refine ⟨?_,fun w hm=>?_⟩
 ·unfold jS;rw [pd,List.pairwise_map];refine (List.nodup_range (n:=n)).imp_of_mem ?_;intro j k hj hk hne h;exact hne (DD hb hw (by have:=List.mem_range.mp hj; omega) (by have:=List.mem_range.mp hk; omega) h)
 ·obtain ⟨k,_,rfl⟩:=aD.mp hm;exact Fy hb hl _ _ _ _
inductive k7  (vs:List V) (H:Hp) (Q:VK) (E:XK):Prop
 | mk (p c:Addr) (n:Nat):(vs=[.ref p,.int n])->(gH H p c)->(n<=26)->(∀(l:Addr) (ws:Zb) (H':Hp),j7 ws->ws.length=n->H l=none->H' l=some (.lst (ws.map V.str))->gH H' p c->cR p H H'->Q (.ref l) H')->k7  vs H Q E
theorem D_ {K:Za}{vs:List V}{H:Hp}{Q:VK}{E:XK}(h:k7 vs H Q E):xP K fk (bC Q) (start zi vs) H:=by
 obtain ⟨p,c,n,rfl,hp,hn,k⟩:=h;refine ⟨rfl,7,rfl,by decide,by decide,fun l hl=>?_⟩;refine AG (lo:=0) (n:=Int.toNat 7) (fun i vs H'=>∃cs:List Nat,vs=cs.map (fun c=>V.str ⟨#[c]⟩)/\cs.length=i/\(∀c∈cs,wO c)/\gH H' p c/\cR p H H'/\H' l=some (.lst vs))
  ⟨[],rfl,rfl,(fun _ h=>nomatch h),hp.ex (ac.new hl),cR.new hl,aa⟩ (fun i vs H' _ ⟨_,_,_,_,_,_,h⟩=>h) ?_ ?_
 rotate_left
 ·rintro i vs H' hi ⟨cs,rfl,hlen,hlet,hp',hex,hl'⟩;have hlp:=hp.nep hl;have hlc:=hp.nec hl;refine gN (t4 ?_);refine ⟨_,rfl,_,rfl,dD hp' (by decide) (by decide) fun r H2 h0 h1 hp2 hex2=>⟨_,r,_,rfl,rfl,Ch,Fj h0 h1,?_⟩⟩;have hl2:=hex2 l _ hl' hlp.symm;refine ⟨hl2,by rw [aj,hlen]; exact ap (by omega),o9 hi ⟨cs++[97+r.toNat],by rw [ax]; rfl,by rw [aM,hlen]; rfl,?_,hp2.upd hlp hlc,?_,aa⟩⟩
  ·intro x hc;rcases bx.mp hc with hc | hc
   ·exact hlet x hc
   ·have:x=97+r.toNat:=by simpa using hc
    subst this;exact ⟨by omega,by omega⟩
  ·intro b o' e nb;rw [af (ae e hl)];exact hex2 b o' (hex b o' e nb) nb
 ·rintro vs H1 ⟨cs,rfl,hlen,hlet,hp1,hex1,hl1⟩;refine ⟨"",l,cs.map fun c=>(⟨#[c]⟩:Str),rfl,rfl,aA.of (by rw [hl1,rS]; rfl),?_,?_⟩
  ·have e0:("":Str).length=0:=by decide +kernel
   rw [e0,Nat.mul_zero,rS];have:∀cs:List Nat,(cs.map ((fun x=>Str.length x) ∘ fun c=>(⟨#[c]⟩:Str))).sum=cs.length:=by
    intro cs
    induction cs with
    | nil=>rfl
    | cons c cs ih=>rw [bw,List.sum_cons,ih,dP]; show 1+_=_; omega
   rw [this,hlen]; decide
  refine ⟨_,rfl,dD hp1 (by decide) (by decide) fun way H2 w0 w1 hp2 hex2=>?_⟩;refine ⟨_,rfl,dD hp2 (by decide) (by decide) fun turn H3 t0 t1 hp3 hex3=>?_⟩;refine ⟨_,rfl,dD hp3 (by decide) (by decide) fun size H4 s0 s1 hp4 hex4=>?_⟩;have ex4:cR p H H4:=((hex1.trans hex2).trans hex3).trans hex4;obtain ⟨wy,rfl⟩:=ji w0;obtain ⟨tn,rfl⟩:=ji t0;obtain ⟨sz,rfl⟩:=ji s0;have hb:=Av cs;generalize vR "" (cs.map fun c=>(⟨#[c]⟩:Str))=base at hb ⊢;refine ⟨(by show 0<=ai; decide),fun f hf=>?_⟩;obtain ⟨op,hop⟩:=hp4.pen;have hfH:H f=none:=ex4.free hop hf;have hfp:=hp.nep hfH;have hfc:=hp.nec hfH;refine ⟨_,rfl,n,rfl,by omega,by omega,iz (lo:=0) (n:=((n:Int)).toNat) (fun i σ H'=>∃(a b c' d:Option V),σ=[some (.ref p),some (.int n),some (.str "abcdefghijklmnopqrstuvwxyz"),some (.str base),some (.int wy),some (.int tn),some (.int sz),some (.ref f),a,b,c',d] /\
   gH H' p c/\cR p H H'/\H' f=some (.lst ((jS cs wy tn sz i).map V.str)))
   ⟨_,_,_,_,rfl,hp4.upd hfp hfc,ex4.trans (cR.new hf),aa⟩ ?_ ?_⟩
  ·rintro i σ H' hi ⟨a,b,c',d,rfl,hp',hex',hf'⟩;have hi':i<n:=by omega
   have hwy:wy<3:=by omega
   have e26:((tn:Int)+3 * (0+(i:Int))) % 26=(((tn+3 * i) % 26:Nat):Int):=by omega
   refine ⟨_,rfl,_,rfl,_,rfl,_,_,rfl,rfl,.inl ⟨by decide,by decide⟩,_,_,rfl,rfl,_,_,rfl,rfl,(by show (0:Int)<26; decide),_,_,_,rfl,rfl,Ch,Fj (pf _ (by decide)) (pe _ (by decide)),?_⟩;have blen:base.length<=ai:=by rw [fj,hb,hlen]; decide
   have e8:((sz:Int)+(0+(i:Int)) * ((wy:Int) % 2)) % 8=((eZ wy sz i:Nat):Int):=by
    unfold eZ;have:wy=0∨wy=1∨wy=2:=by omega
    rcases this with rfl | rfl | rfl <;> simp <;> omega
   refine ⟨_,rfl,_,rfl,_,rfl,_,rfl,_,_,rfl,rfl,(by show (0:Int)<2; decide),_,_,rfl,rfl,.inr ⟨by omega,by omega⟩,_,_,rfl,rfl,_,_,rfl,rfl,(by show (0:Int)<8; decide),_,rfl,base,rfl,blen,?_⟩;rw [e8];have hpart:=Fc base (eZ wy sz i);rw [hb] at hpart;generalize tF base none (some ((eZ wy sz i:Nat):Int))=part at hpart ⊢;have h8:eZ wy sz i<8:=rT _ (by decide);have plen:part.length=eZ wy sz i:=by rw [fj,hpart,aK,hlen]; omega
   have pz:part.length<=ai:=by rw [plen]; exact em (ap (by omega))
   refine ⟨_,rfl,.inr ⟨part,rfl,pz,_,rfl,.inr ⟨part,rfl,pz,_,_,rfl,rfl,⟨by decide,by decide⟩,(by show 3<=ai; decide),fun q hq=>?_⟩⟩⟩;have hqH:H q=none:=by
    obtain ⟨op',hop'⟩:=hp'.pen;exact hex'.free hop' hq
   have hat:oY [V.int 0,V.int (part.length:Nat),V.int ((part.length:Int) / 2)] (wy:Int)=some (.int (zq wy (eZ wy sz i):Nat)):=by
    rw [plen];have:wy=0∨wy=1∨wy=2:=by omega
    rcases this with rfl | rfl | rfl
    ·rfl
    ·rfl
    ·show some (V.int (((eZ 2 sz i:Nat):Int) / 2))=some (V.int ((zq 2 (eZ 2 sz i):Nat):Int));have:zq 2 (eZ 2 sz i)=eZ 2 sz i / 2:=rfl;rw [this];congr 2
   refine ⟨_,rfl,q,_,_,_,rfl,rfl,aA.of aa,hat,?_⟩;have hf2:upd H' q (.lst [V.int 0,V.int (part.length:Nat),V.int ((part.length:Int) / 2)]) f=some (.lst ((jS cs wy tn sz i).map V.str)):=kp hf' hq;have c1:=Fc part (zq wy (eZ wy sz i));have c2:=Fd part (zq wy (eZ wy sz i));have l1:(tF part none (some ((zq wy (eZ wy sz i):Nat):Int))).length<=8:=by rw [fj,c1,aK,hpart,aK,hlen]; omega
   have l2:(tF part (some ((zq wy (eZ wy sz i):Nat):Int)) none).length<=8:=by rw [fj,c2,fM,hpart,aK,hlen]; omega
   refine ⟨_,rfl,.inl ⟨rfl,_,aA.of hf2⟩,_,rfl,_,rfl,_,rfl,part,rfl,pz,_,rfl,_,_,rfl,rfl,?_,_,rfl,_,rfl,_,rfl,part,rfl,pz,_,_,rfl,rfl,?_,f,_,_,rfl,rfl,hf2,?_,?_⟩
   ·have:Str.length ⟨#[97+(((tn:Int)+3 * (0+(i:Int))) % 26).toNat]⟩=1:=rfl;rw [this];exact em (ap (by omega))
   ·rw [fj,xi,aM,<-fj,<-fj];have:Str.length ⟨#[97+(((tn:Int)+3 * (0+(i:Int))) % 26).toNat]⟩=1:=rfl;rw [this];exact em (ap (by omega))
   ·rw [aj];unfold jS;rw [aj,rY];exact ap (by omega)
   ·refine ⟨_,_,_,_,rfl,(hp'.upd (hp.nep hqH) (hp.nec hqH)).upd hfp hfc,?_,?_⟩
    ·intro b' o' e nb;rw [af (ae e hfH)];exact kp (hex' b' o' e nb) hq
    ·rw [aa];unfold jS;rw [List.range_succ,ax,ax];congr 3;show [V.str _]=[V.str _];congr 2;refine FL ?_;rw [xi,xi,c1,c2,hpart,e26,jl];simp [xH,mz]
  ·rintro σ H' ⟨a,b,c',d,rfl,hp',hex',hf'⟩;have en:((n:Int)).toNat=n:=by omega
   rw [en] at hf';exact ⟨_,rfl,k f _ H' (zF hlen hlet (by omega) hn) (by unfold jS; rw [aj,rY]) hfH hf' hp' hex'⟩
structure am where
 a:Str
 sg:List Str
 b:Str
deriving DecidableEq
def SignAt (H:Hp) (s:Addr) (sg:Zb):Prop:=H s=some (.tup (sg.map V.str))
def gL (H:Hp) (t:Addr) (d:am):Prop:=∃s,H t=some (.tup [.str d.a,.ref s,.str d.b])/\SignAt H s d.sg
def gJ (H H':Hp):Prop:=∀b xs,H b=some (.tup xs)->H' b=some (.tup xs)
theorem gL.kt {H H':Hp}{t:Addr}{d:am}(k:gJ H H') (h:gL H t d):gL H' t d:=by
 obtain ⟨s,h1,h2⟩:=h;exact ⟨s,k _ _ h1,k _ _ h2⟩
theorem cR.kt {p:Addr}{H H':Hp}{xs:List V}(e:cR p H H') (hp:H p=some (.lst xs)):gJ H H':=fun b ys h=>e b _ h (fun z=>by rw [z,hp] at h; cases h)
theorem ac.kt {H H':Hp}(e:ac H H'):gJ H H':=fun b ys h=>e b _ h
theorem gJ.trans {H H1 H2:Hp}(a:gJ H H1) (b:gJ H1 H2):gJ H H2:=fun x xs h=>b x xs (a x xs h)
theorem cA {H:Hp}{l:Addr}{xs:List V}{o:HO}(h:H l=some (.lst xs)):gJ H (upd H l o):=fun b ys e=>by
 rw [af (fun z=>by rw [z,h] at e; cases e)]; exact e
abbrev cu (H:Hp) (ts:Ze) (ds:List am):Prop:=Paired (gL H) ts ds
theorem Paired.get {α β:Type}{R:α->β->Prop}:∀{xs:List α}{ys:List β}{i:Nat}{y:β},Paired R xs ys->ys[i]?=some y->∃x,xs[i]?=some x/\R x y
 | _,_,i,y,.nil,h=>by simp at h
 | _,_,0,y,.cons r t,h=>by simp at h; subst h; exact ⟨_,rfl,r⟩
 | _,_,i+1,y,.cons r t,h=>by
  simp at h;obtain ⟨x,h1,h2⟩:=Paired.get t h;exact ⟨x,by simpa using h1,h2⟩
theorem Paired.getL {α β:Type}{R:α->β->Prop}:∀{xs:List α}{ys:List β}{i:Nat}{x:α},Paired R xs ys->xs[i]?=some x->∃y,ys[i]?=some y/\R x y
 | _,_,i,y,.nil,h=>by simp at h
 | _,_,0,y,.cons r t,h=>by simp at h; subst h; exact ⟨_,rfl,r⟩
 | _,_,i+1,y,.cons r t,h=>by
  simp at h;obtain ⟨x,h1,h2⟩:=Paired.getL t h;exact ⟨x,by simpa using h1,h2⟩
theorem cu.kt {H H':Hp}{ts:Ze}{ds:List am}(k:gJ H H') (h:cu H ts ds):cu H' ts ds:=Paired.mapP h fun _ _ r=>r.kt k
theorem G4 {H:Hp}{a:Addr}{o:HO}(h:H a=some o):upd H a o=H:=by
 funext b;by_cases e:b=a
 ·subst e; rw [aa,h]
 ·rw [af e]
def fR (x:Str):DT:=.k (.inr x)
def tE (d:am):DT:=.t [fR d.a,.t (d.sg.map fR),fR d.b]
theorem oy {x y:Str}(h:fR x=fR y):x=y:=by
 unfold fR at h;injection h with h;injection h
theorem g8:∀{x y:Zb},x.map fR=y.map fR->x=y
 | [],[],_=>rfl
 | [],_::_,h=>by cases h
 | _::_,[],h=>by cases h
 | a::x,b::y,h=>by
  rw [bw,bw] at h;injection h with h1 h2;rw [oy h1,g8 h2]
theorem Gz {x y:am}(h:tE x=tE y):x=y:=by
 unfold tE at h;injection h with h;injection h with h1 h;injection h with h2 h;injection h with h3 h;injection h2 with h2;cases x; cases y;simp only at *;rw [oy h1,g8 h2,oy h3]
theorem fh (xs:Zb):DT.depths (xs.map fR)=0:=by
 induction xs with
 | nil=>rfl
 | cons x xs ih=>rw [bw]; show max (DT.depth (fR x)) (DT.depths _)=0; rw [ih]; rfl
theorem w8 (d:am):(tE d).depth=2:=by
 show DT.depths [fR d.a,.t (d.sg.map fR),fR d.b]+1=2;show max (DT.depth (fR d.a)) (max (DT.depths (d.sg.map fR)+1) (max (DT.depth (fR d.b)) 0))+1=2;rw [fh]
 rfl
theorem Df (ds:List am):DT.depths (ds.map tE)<=8:=by
 induction ds with
 | nil=>exact c9 _
 | cons x xs ih=>rw [bw]; show max (DT.depth (tE x)) (DT.depths _)<=8; rw [w8]; omega
theorem lE {K:Za}{H:Hp}:∀xs:List Str,DIns K H (xs.map fR) (xs.map V.str)
 | []=>by show DIns K H [] []; unfold DIns; rfl
 | x::xs=>by
  rw [bw,bw];unfold DIns;refine ⟨_,_,rfl,?_,lE xs⟩;unfold fR hW
  rfl
theorem jc {K:Za}{H:Hp}(x:Str):hW K H (fR x) (.str x):=by unfold fR hW; rfl
theorem bN {K:Za}{H:Hp}{s:Addr}{sg:Zb}(h:bj K H s (sg.map V.str)):hW K H (.t (sg.map fR)) (.ref s):=by
 unfold hW;exact ⟨s,_,rfl,h,lE _⟩
theorem gL.dIn {K:Za}{H:Hp}{t:Addr}{d:am}(h:gL H t d):hW K H (tE d) (.ref t):=by
 obtain ⟨s,h1,h2⟩:=h;unfold tE;unfold hW;refine ⟨t,_,rfl,bj.of h1,?_⟩;unfold DIns;refine ⟨_,_,rfl,jc _,?_⟩;unfold DIns;refine ⟨_,_,rfl,bN (bj.of h2),?_⟩;unfold DIns;refine ⟨_,_,rfl,jc _,?_⟩;unfold DIns
 rfl
theorem cu.dIns {K:Za}{H:Hp}:∀{ts:Ze}{ds:List am},cu H ts ds->DIns K H (ds.map tE) (ts.map V.ref)
 | _,_,.nil=>by show DIns K H [] []; unfold DIns; rfl
 | _,_,.cons r t=>by
  rw [bw,bw];unfold DIns;exact ⟨_,_,rfl,r.dIn,cu.dIns t⟩
theorem BN {d:am}{ds:List am}:tE d∈ds.map tE↔d∈ds:=by
 constructor
 ·intro h;obtain ⟨x,hx,e⟩:=aD.mp h;rw [<-Gz e]; exact hx
 ·exact jR
def lb (ds:List am) (d:am):List am:=if d∈ds then ds else ds++[d]
inductive jX  (vs:List V) (H:Hp) (Q:VK) (E:XK):Prop
 | mk (l t:Addr) (ts:Ze) (ds:List am) (d:am):(vs=[.ref l,.ref t])->(H l=some (.lst (ts.map V.ref)))->(cu H ts ds)->(gL H t d)->(ds.length<=1000)->(∀ts':List Addr,cu H ts' (lb ds d)->Q .non (upd H l (.lst (ts'.map V.ref))))->jX  vs H Q E
theorem G9 {K:Za}{vs:List V}{H:Hp}{Q:VK}{E:XK}(h:jX vs H Q E):CB K (bC Q) (start Dr vs) H:=by
 obtain ⟨l,t,ts,ds,d,rfl,hl,hd,ht,hz,k⟩:=h;refine ⟨_,rfl,_,rfl,tE d,ds.map tE,l,_,ht.dIn,rfl,.inl (aA.of hl),hd.dIns,by rw [w8]; decide,Df ds,_,rfl,?_⟩;by_cases hm:d∈ds
 ·rw [if_pos rfl,zzr1 (BN.mpr hm)];refine a_ ?_;have:=k ts (by unfold lb; rw [if_pos hm]; exact hd);rw [G4 hl] at this;exact this
 ·rw [if_pos rfl,zzr0 (fun z=>hm (BN.mp z))];refine bW ?_;refine ⟨_,rfl,.inl ⟨rfl,_,aA.of hl⟩,_,rfl,l,_,_,rfl,rfl,hl,?_,?_⟩
  ·rw [aj,Paired.length hd];exact ap hz
  ·have:=k (ts++[t]) (by unfold lb; rw [if_neg hm]; exact cD hd ht);rw [ax] at this;exact this
structure DI (R:am->Prop) (H0:Hp) (p c l:Addr) (m:Nat) (H:Hp):Prop where
 pen:gH H p c
 ds:∃ts ds,H l=some (.lst (ts.map V.ref))/\cu H ts ds/\ds.Nodup/\(∀d∈ds,R d)/\ds.length<=m
 ex:cR p H0 H
 fr:H0 l=none
 pl:p≠l
 cl:c≠l
section
variable {R:am->Prop}{H0 H H':Hp}{p c l:Addr}{m:Nat}
theorem gH.lst {H:Hp}{p c:Addr}(h:gH H p c):∃xs,H p=some (.lst xs):=by
 obtain ⟨a,r,ns,h1,_⟩:=h;exact ⟨_,h1⟩
theorem DI.took (h:DI R H0 p c l m H) (hp:gH H' p c) (e:cR p H H'):DI R H0 p c l m H':=by
 obtain ⟨ts,ds,h1,h2,h3⟩:=h.ds;obtain ⟨xs,hx⟩:=h.pen.lst;exact ⟨hp,⟨ts,ds,e _ _ h1 h.pl.symm,h2.kt (e.kt hx),h3⟩,h.ex.trans e,h.fr,h.pl,h.cl⟩
theorem DI.new (h:DI R H0 p c l m H) {q:Addr}{o:HO}(hq:H q=none):DI R H0 p c l m (upd H q o) :=
 h.took (h.pen.ex (ac.new hq)) (cR.new hq)
theorem DI.up (h:DI R H0 p c l m H) {n:Nat}(hn:m<=n):DI R H0 p c l n H:=by
 obtain ⟨ts,ds,h1,h2,h3,h4,h5⟩:=h.ds;exact ⟨h.pen,⟨ts,ds,h1,h2,h3,h4,bH h5 hn⟩,h.ex,h.fr,h.pl,h.cl⟩
theorem DI.put (h:DI R H0 p c l m H) {t:Addr}{d:am}{Q:VK}{E:XK}(ht:gL H t d) (hR:R d) (hm:m<=1000) (k:∀H',DI R H0 p c l (m+1) H'->Q .non H'):jX [.ref l,.ref t] H Q E:=by
 obtain ⟨ts,ds,h1,h2,h3,h4,h5⟩:=h.ds;refine ⟨l,t,ts,ds,d,rfl,h1,h2,ht,bH h5 hm,fun ts' h'=>k _ ⟨h.pen.upd h.pl h.cl,⟨ts',lb ds d,aa,h'.kt (cA h1),?_,?_,?_⟩,?_,h.fr,h.pl,h.cl⟩⟩
 ·unfold lb;split
  ·exact h3
  ·next hn =>
   rw [cK];refine ⟨h3,by simp,?_⟩;intro a ha b hb e;have:b=d:=by simpa using hb
   subst this;exact hn (e ▸ ha)
 ·intro x hx;unfold lb at hx;split at hx
  ·exact h4 x hx
  ·rcases bx.mp hx with hx | hx
   ·exact h4 x hx
   ·have:x=d:=by simpa using hx
    rw [this]; exact hR
 ·unfold lb;split
  ·omega
  ·rw [aM]; show ds.length+1<=m+1; omega
 ·intro b o e n;rw [af (ae e h.fr)];exact h.ex b o e n
end
theorem gH.ne_strs {H:Hp}{p c a:Addr}{ws:Zb}(hp:gH H p c) (ha:H a=some (.lst (ws.map V.str))):a≠p:=by
 intro e;obtain ⟨x,y,ns,h1,_⟩:=hp;rw [e,h1] at ha;injection ha with ha;injection ha with ha;cases ws with
 | nil=>cases ha
 | cons w ws=>injection ha with ha; cases ha
theorem i7 {K:Za}{r:R2}(hr:∀x y H Q,cX K x y H Q->r x y H Q) {σ:L2.St}{H:Hp}{Q:VK}{p c a:Addr}{j:Nat}{ws:Zb}(h0:σ[0]?=some (some (.ref p))) (hj:σ[j]?=some (some (.ref a))) (hp:gH H p c)
  (ha:H a=some (.lst (ws.map V.str))) (hne:ws≠[]) (hlen:ws.length<=1000) (k:∀w∈ws,∀H',gH H' p c->cR p H H'->Q (.str w) H') :
  ∃v,σ[j]?=some (some v)/\∃v0,σ[0]?=some (some v0)/\∃v1,σ[j]?=some (some v1)/\cW K [v1] H fun y H1=>fk [v0,y] H1 (fun y H2=>r v y H2 Q) E0:=by
 have hl:0<ws.length:=by cases ws with | nil=>exact absurd rfl hne | cons _ _=>simp
 have la:(V.int ((ws.map V.str).length:Nat))=V.int (ws.length:Nat):=by rw [aj]
 have hpa:=hp.ne_strs ha;have fin:∀(x:Int) (H':Hp),0<=x->x<(ws.length:Int)->gH H' p c->cR p H H'->cX K (.ref a) (.int x) H' Q:=by
  intro x H' x0 x1 hp' ex;obtain ⟨n,rfl⟩:=ji x0;have hn:n<ws.length:=by omega
  exact ⟨a,_,(n:Int),.str ws[n],rfl,rfl,aA.of (ex _ _ ha hpa),bI (by simp [hn]),k _ (jh hn) H' hp' ex⟩
 exact ⟨_,hj,_,h0,_,hj,.inl ⟨a,_,rfl,.inl (aA.of ha),by rw [la]; exact dD hp (by omega) (by omega) fun x H' x0 x1 hp' ex=>hr _ _ _ _ (fin x H' x0 x1 hp' ex)⟩⟩
def Up (up:Bool) (J2:Zb) (a b:Str):Prop:=∃i j:Nat,J2[i]?=some a/\J2[j]?=some b/\(if up=true then i<j else j<i)
structure lJ (J0 J1 J2:Zb) (up:Bool) (d:am):Prop where
 a:d.a∈J2
 b:d.b∈J2
 sg:(∃w∈J0,d.sg=[("ask":Str),w])∨(∃w∈J1,d.sg=[("say":Str),w])∨(d.sg=[("still":Str)]/\Up up J2 d.a d.b)
def av:List Str:=[("still":Str)]
structure zm (J0 J1 J2:Zb) (d:am):Prop where
 a:d.a∈J2
 b:d.b∈J2
 sg:(∃w∈J0,d.sg=[("ask":Str),w])∨(∃w∈J1,d.sg=[("say":Str),w])∨d.sg=av
theorem lJ.d {J0 J1 J2:Zb}{up:Bool}{d:am}(h:lJ J0 J1 J2 up d):zm J0 J1 J2 d:=⟨h.a,h.b,h.sg.imp id (Or.imp id And.left)⟩
inductive Reach (ds:List am) (a:Str):Str->Prop
 | one {b:Str}(h:(⟨a,av,b⟩:am)∈ds):Reach ds a b
 | step {b c:Str}(r:Reach ds a b) (h:(⟨b,av,c⟩:am)∈ds):Reach ds a c
theorem rD {J2:Zb}(nd:J2.Nodup) {i j:Nat}{a:Str}(hi:J2[i]?=some a) (hj:J2[j]?=some a):i=j:=by
 obtain ⟨h1,e1⟩:=cw.mp hi;obtain ⟨h2,e2⟩:=cw.mp hj;have pw:=List.pairwise_iff_getElem.mp nd;rcases Nat.lt_trichotomy i j with h | h | h
 ·exact absurd (e1.trans e2.symm) (pw i j h1 h2 h)
 ·exact h
 ·exact absurd (e2.trans e1.symm) (pw j i h2 h1 h)
theorem Up.trans {up:Bool}{J2:Zb}(nd:J2.Nodup) {a b c:Str}(h1:Up up J2 a b) (h2:Up up J2 b c):Up up J2 a c:=by
 obtain ⟨i,j,e1,e2,h⟩:=h1;obtain ⟨j',k,e3,e4,h'⟩:=h2;have:=rD nd e2 e3;subst this;refine ⟨i,k,e1,e4,?_⟩;cases up
 ·simp at h h' ⊢; omega
 ·simp at h h' ⊢; omega
theorem Up.irr {up:Bool}{J2:Zb}(nd:J2.Nodup) {a:Str}(h:Up up J2 a a):False:=by
 obtain ⟨i,j,e1,e2,h⟩:=h;have:=rD nd e1 e2;subst this;cases up
 ·simp at h
 ·simp at h
theorem DG {J0 J1 J2:Zb}{ds:List am}{up:Bool}(nd:J2.Nodup) (m:∀d∈ds,lJ J0 J1 J2 up d) {a b:Str}(h:Reach ds a b):Up up J2 a b:=by
 have edge:∀{a b:Str},(⟨a,av,b⟩:am)∈ds->Up up J2 a b:=by
  intro a b h;rcases (m _ h).sg with ⟨w,_,e⟩ | ⟨w,_,e⟩ | ⟨_,e⟩
  ·cases e
  ·cases e
  ·exact e
 induction h with
 | one h=>exact edge h
 | step r h ih=>exact ih.trans nd (edge h)
inductive gU  (vs:List V) (H:Hp) (Q:VK) (E:XK):Prop
 | mk (p c l1 l2 l3:Addr) (J0 J1 J2:Zb) (full:Int):(vs=[.ref p,.ref l1,.ref l2,.ref l3,.int full])->(gH H p c)->(H l1=some (.lst (J0.map V.str)))->(H l2=some (.lst (J1.map V.str)))->(H l3=some (.lst (J2.map V.str)))->(J0.length<=4)->(J1≠[])->(J1.length<=4)->(J2≠[])->(J2.length<=26)->(0<=full)->(full<=2)->(∀(l:Addr) (ts:Ze) (ds:List am) (up:Bool) (H':Hp),H l=none->H' l=some (.lst (ts.map V.ref))->cu H' ts ds->ds.Nodup->(∀d∈ds,lJ J0 J1 J2 up d)->ds.length<=600->gH H' p c->cR p H H'->Q (.ref l) H')->gU  vs H Q E
theorem at4 {x r:Int}(x0:0<=x) (x2:x<=2) (r0:0<=r) (r4:r<4):∃j:Int,oY [V.int x,.int 1,.int 1,.int 2] r=some (.int j)/\0<=j/\j<=2:=by
 have:r=0∨r=1∨r=2∨r=3:=by omega
 rcases this with rfl | rfl | rfl | rfl
 ·exact ⟨x,rfl,x0,x2⟩
 ·exact ⟨1,rfl,by decide,by decide⟩
 ·exact ⟨1,rfl,by decide,by decide⟩
 ·exact ⟨2,rfl,by decide,by decide⟩
theorem vt (ws:Zb) (k:Nat):gF (ws.map V.str) (some (k:Int)) none=(ws.drop k).map V.str:=by
 unfold gF;rw [HT.sIx_none,HT.sIx_nat,aj,List.take_of_length_le (by rw [fM,aj]; omega),vH];by_cases h:k<=ws.length
 ·rw [vG h]
 ·rw [Nat.min_eq_right (by omega),vP (by simp),vP (by rw [aj]; omega)]
theorem oW (ws:Zb) (k:Nat):gF (ws.map V.str) none (some (k:Int))=(ws.take k).map V.str:=by
 unfold gF;rw [HT.sIx_none,HT.sIx_nat,aj,rX,Nat.sub_zero,mI,List.take_eq_take_iff,aj];omega
theorem tD {K:Za}{H:Hp}{a:Addr}{ws:Zb}(h:aA K H a (ws.map V.str)):hW K H (.s (ws.map fR)) (.ref a):=by
 unfold hW;exact ⟨a,_,rfl,h,lE _⟩
theorem Cd {K:Za}{H:Hp}{a:Addr}(h:aA K H a []):hW K H (.s []) (.ref a):=by
 unfold hW;refine ⟨a,_,rfl,h,?_⟩;unfold DIns
 rfl
theorem ux {K:Za}{vs:List V}{H:Hp}{Q:VK}{E:XK}(h:gU vs H Q E):pG K fk jX (bC Q) (start p_ vs) H:=by
 obtain ⟨p,c,l1,l2,l3,J0,J1,J2,full,rfl,hp,h1,h2,h3,ha,hs0,hs,hr0,hr,f0,f2,k⟩:=h;have n1:=hp.ne_strs h1;have n2:=hp.ne_strs h2;have n3:=hp.ne_strs h3;refine ⟨(by show 0<=ai; decide),fun l hl=>?_⟩;have hpl:=hp.nep hl;have hcl:=hp.nec hl;refine ⟨_,rfl,dD (hp.ex (ac.new hl)) (by decide) (by decide) fun dn H1 d0 d1 hp1 ex1=>?_⟩;generalize hG:lJ J0 J1 J2 (decide (dn=0))=G;have base:DI G H p c l 0 H1:=⟨hp1,⟨[],[],ex1 _ _ aa hpl.symm,.nil,pB,by simp,c9 _⟩,(cR.new hl).trans ex1,hl,hpl,hcl⟩;refine ⟨_,rfl,l3,rfl,⟨_,aA.of (base.ex _ _ h3 n3)⟩,?_⟩;refine lC (xs:=J2.map V.str) (fun i σ H'=>∃a7 a8 a9 a10 a11 a12:Option V,σ=[some (.ref p),some (.ref l1),some (.ref l2),some (.ref l3),some (.int full),some (.ref l),some (.int dn),a7,a8,a9,a10,a11,a12]/\DI G H p c l (11 * i) H')
  ⟨_,_,_,_,_,_,rfl,base⟩ (fun i σ H' _ ⟨_,_,_,_,_,_,_,D⟩=>aA.of (D.ex _ _ h3 n3)) ?_ ?_
 ·rintro i x σ H' t hi ⟨a7,a8,a9,a10,a11,a12,rfl,D⟩ ht;obtain ⟨room,hroom,rfl⟩:∃room,J2[i]?=some room/\x=V.str room:=by
   rw [b0] at hi;cases q:J2[i]? with
   | none=>rw [q] at hi; cases hi
   | some r=>rw [q] at hi; exact ⟨r,rfl,(dZ hi).symm⟩
  have hiL:i<J2.length:=(cw.mp hroom).1;have hmem:room∈J2:=bd hroom;refine ⟨t,_,rfl,bj.of aa,rfl,_,_,rfl,_,_,rfl,rfl,?_⟩;have D1:=D.new ht (o:=.tup [.int i,.str room]);refine ⟨(by show 4<=ai; decide),fun q hq=>⟨_,rfl,dD (D1.new hq).pen (by decide) (by decide) fun r H2 r0 r1 hp2 ex2=>?_⟩⟩;obtain ⟨j,hj,j0,j2⟩:=at4 (x:=0) (by decide) (by decide) r0 r1;have D2:=(D1.new hq).took hp2 ex2;refine ⟨q,_,_,_,rfl,rfl,aA.of (ex2 q _ aa (D1.pen.nep hq).symm),hj,j,rfl,by omega,by omega,?_⟩;refine iz (lo:=0) (n:=j.toNat) (fun i' σ H''=>∃a9 a10:Option V,σ=[some (.ref p),some (.ref l1),some (.ref l2),some (.ref l3),some (.int full),some (.ref l),some (.int dn),some (.int i),some (.str room),a9,a10,a11,a12]/\DI G H p c l (11 * i+i') H'')
   ⟨_,_,rfl,D2⟩ ?_ ?_
  ·rintro i' σ H3 hi' ⟨a9,a10,rfl,D3⟩;refine i7 (fun _ _ _ _ h=>h) rfl rfl D3.pen (D3.ex _ _ h2 n2) hs0 (by omega) fun w hw H4 hp4 ex4=>?_;have D4:=D3.took hp4 ex4;refine ⟨(by show 2<=ai; decide),fun sg hsg=>?_⟩;have D5:=D4.new hsg (o:=.tup [.str "say",.str w]);refine ⟨_,rfl,_,rfl,_,rfl,i7 (fun _ _ _ _ h=>h) rfl rfl D5.pen (D5.ex _ _ h3 n3) hr0 (by omega) fun w2 hw2 H6 hp6 ex6=>?_⟩;have D6:=D5.took hp6 ex6;refine ⟨(by show 3<=ai; decide),fun dr hdr=>?_⟩;have D7:=D6.new hdr (o:=.tup [.str room,.ref sg,.str w2]);have hsg6:H6 sg=some (.tup [.str "say",.str w]):=ex6 _ _ aa (D4.pen.nep hsg).symm;refine D7.put (d:=⟨room,["say",w],w2⟩) ⟨sg,aa,kp hsg6 hdr⟩ ?_ (by omega) fun H8 D8=>⟨_,_,rfl,D8⟩;rw [<-hG];exact ⟨hmem,hw2,.inr (.inl ⟨w,hw,rfl⟩)⟩
  rintro σ H3 ⟨a9,a10,rfl,D3'⟩;have D3:DI G H p c l (11 * i+2) H3:=D3'.up (by omega);clear D3';refine ⟨_,rfl,l1,rfl,⟨_,aA.of (D3.ex _ _ h1 n1)⟩,?_⟩;refine cr (xs:=J0.map V.str) (fun i' σ H''=>∃a9 a11:Option V,σ=[some (.ref p),some (.ref l1),some (.ref l2),some (.ref l3),some (.int full),some (.ref l),some (.int dn),some (.int i),some (.str room),a9,a10,a11,a12]/\DI G H p c l (11 * i+2+2 * i') H'')
   ⟨_,_,rfl,D3⟩ (fun i σ H' _ ⟨_,_,_,D⟩=>aA.of (D.ex _ _ h1 n1)) ?_ ?_
  ·rintro i' x σ H4 hi' ⟨a9,a11,rfl,D4⟩;obtain ⟨ask,hask,rfl⟩:∃ask,J0[i']?=some ask/\x=V.str ask:=by
    rw [b0] at hi';cases q:J0[i']? with
    | none=>rw [q] at hi'; cases hi'
    | some r=>rw [q] at hi'; exact ⟨r,rfl,(dZ hi').symm⟩
   have hi2:i'<J0.length:=(cw.mp hask).1;have hm2:ask∈J0:=bd hask;refine ⟨_,rfl,(by show 4<=ai; decide),fun q hq=>⟨_,rfl,dD (D4.new hq).pen (by decide) (by decide) fun r H5 r0 r1 hp5 ex5=>?_⟩⟩;obtain ⟨j,hj,j0,j2⟩:=at4 f0 f2 r0 r1;have D5:=(D4.new hq).took hp5 ex5;refine ⟨q,_,_,_,rfl,rfl,aA.of (ex5 q _ aa (D4.pen.nep hq).symm),hj,j,rfl,by omega,by omega,?_⟩;refine iz (lo:=0) (n:=j.toNat) (fun i'' σ H''=>∃a9:Option V,σ=[some (.ref p),some (.ref l1),some (.ref l2),some (.ref l3),some (.int full),some (.ref l),some (.int dn),some (.int i),some (.str room),a9,a10,some (.str ask),a12]/\DI G H p c l (11 * i+2+2 * i'+i'') H'')
    ⟨_,rfl,D5⟩ ?_ ?_
   ·rintro i'' σ H6 hi'' ⟨a9,rfl,D6⟩;refine ⟨_,rfl,_,rfl,_,rfl,(by show 2<=ai; decide),fun sg hsg=>?_⟩;have D7:=D6.new hsg (o:=.tup [.str "ask",.str ask]);refine i7 (fun _ _ _ _ h=>h) rfl rfl D7.pen (D7.ex _ _ h3 n3) hr0 (by omega) fun w2 hw2 H8 hp8 ex8=>?_;have D8:=D7.took hp8 ex8;refine ⟨(by show 3<=ai; decide),fun dr hdr=>?_⟩;have D9:=D8.new hdr (o:=.tup [.str room,.ref sg,.str w2]);have hsg8:H8 sg=some (.tup [.str "ask",.str ask]):=ex8 _ _ aa (D6.pen.nep hsg).symm;refine D9.put (d:=⟨room,["ask",ask],w2⟩) ⟨sg,aa,kp hsg8 hdr⟩ ?_ (by omega) fun H8 D8=>⟨_,rfl,D8⟩;rw [<-hG];exact ⟨hmem,hw2,.inl ⟨ask,hm2,rfl⟩⟩
   ·rintro σ H6 ⟨a9,rfl,D6⟩;exact ⟨_,_,rfl,D6.up (by omega)⟩
  rintro σ H4 ⟨a9,a11,rfl,D4'⟩;have D4:DI G H p c l (11 * i+10) H4:=D4'.up (by rw [aj]; omega);clear D4';have hnext:∀(H9:Hp) (a12:Option V),DI G H p c l (11 * i+11) H9->∃a7 a8 a9' a10' a11' a12':Option V,[some (.ref p),some (.ref l1),some (.ref l2),some (.ref l3),some (.int full),some (.ref l),some (.int dn),some (.int i),some (.str room),a9,a10,a11,a12] =
    [some (.ref p),some (.ref l1),some (.ref l2),some (.ref l3),some (.int full),some (.ref l),some (.int dn),a7,a8,a9',a10',a11',a12']/\DI G H p c l (11 * (i+1)) H9:=fun H9 a12 D9=>⟨_,_,_,_,_,_,rfl,D9.up (by omega)⟩
  refine ⟨_,rfl,_,rfl,_,_,rfl,rfl,_,rfl,l3,_,rfl,aA.of (D4.ex _ _ h3 n3),fun q1 hq1=>?_⟩;have D5:=D4.new hq1 (o:=.lst (gF (J2.map V.str) (some ((i:Int)+1)) none));refine ⟨_,rfl,_,rfl,_,rfl,l3,_,rfl,aA.of (D5.ex _ _ h3 n3),fun q2 hq2=>?_⟩;have e1:gF (J2.map V.str) (some ((i:Int)+1)) none=(J2.drop (i+1)).map V.str:=vt J2 (i+1);rw [oW];have D6:=D5.new hq2 (o:=.lst ((J2.take i).map V.str));refine ⟨(by show 2<=ai; decide),fun q3 hq3=>?_⟩;have D7:=D6.new hq3 (o:=.lst [.ref q1,.ref q2]);obtain ⟨lt,q,hq,hlt,hgood⟩:∃(lt:Zb) (q:Addr),oY [V.ref q1,.ref q2] dn=some (.ref q) /\
    upd (upd (upd H4 q1 (.lst (gF (J2.map V.str) (some ((i:Int)+1)) none))) q2 (.lst ((J2.take i).map V.str))) q3 (.lst [.ref q1,.ref q2]) q=some (.lst (lt.map V.str))/\lt.length<=26 /\
    ∀w∈lt,w∈J2/\Up (decide (dn=0)) J2 room w:=by
   have:dn=0∨dn=1:=by omega
   rcases this with rfl | rfl
   ·refine ⟨J2.drop (i+1),q1,rfl,?_,by rw [fM]; omega,fun w hw=>⟨List.mem_of_mem_drop hw,?_⟩⟩
    ·refine (kp (kp aa hq2) hq3).trans ?_;rw [e1]
    ·obtain ⟨n,hn⟩:=gp hw;rw [List.getElem?_drop] at hn;exact ⟨i,i+1+n,hroom,hn,by rw [if_pos (by decide)]; omega⟩
   ·refine ⟨J2.take i,q2,rfl,?_,by rw [aK]; omega,fun w hw=>⟨fz hw,?_⟩⟩
    ·exact kp aa hq3
    ·obtain ⟨n,hn⟩:=gp hw;have hnl:n<i:=by
      have:=(cw.mp hn).1;rw [aK] at this;omega
     rw [List.getElem?_take_of_lt hnl] at hn;exact ⟨i,n,hroom,hn,by rw [if_neg (by decide)]; omega⟩
  refine ⟨_,rfl,q3,_,_,_,rfl,rfl,aA.of aa,hq,?_⟩;generalize upd (upd (upd H4 q1 (.lst (gF (J2.map V.str) (some ((i:Int)+1)) none))) q2 (.lst ((J2.take i).map V.str))) q3 (.lst [.ref q1,.ref q2])=H7 at D7 hlt ⊢;refine ⟨_,rfl,(by show 0<=ai; decide),fun e he=>⟨.s (lt.map fR),.s [],tD (aA.of (kp hlt he)),Cd (aA.of aa),?_,by decide,_,rfl,?_⟩⟩
  ·show DT.depths (lt.map fR)+1<=8;rw [fh]; decide
  have D8:=D7.new he (o:=.lst []);by_cases hz:lt=[]
  ·have ez:(!decide (DT.s (lt.map fR)=DT.s []))=false:=by rw [hz,zzr1 (by rfl)]; rfl
   rw [ez];exact a_ (a_ (hnext _ _ (D8.up (by omega))))
  ·have ez:(!decide (DT.s (lt.map fR)=DT.s []))=true:=by
    rw [zzr0 (fun z=>hz (g8 (y:=[]) (by injection z)))]; rfl
   rw [ez];refine bW ?_;refine ⟨_,rfl,dD D8.pen (by decide) (by decide) fun r H9 r0 r1 hp9 ex9=>⟨rfl,_,rfl,?_⟩⟩;have D9:=D8.took hp9 ex9;refine iW (fun _=>?_) (fun _=>hnext _ _ (D9.up (by omega)));refine ⟨_,rfl,_,rfl,(by show 1<=ai; decide),fun sg hsg=>?_⟩;have D10:=D9.new hsg (o:=.tup [.str "still"]);have hlt10:upd H9 sg (.tup [.str "still"]) q=some (.lst (lt.map V.str)):=kp (ex9 _ _ (kp hlt he) (D8.pen.ne_strs (kp hlt he))) hsg;refine i7 (fun _ _ _ _ h=>.inl h) rfl rfl D10.pen hlt10 hz (by omega) fun w2 hw2 H11 hp11 ex11=>?_;have D11:=D10.took hp11 ex11;refine ⟨(by show 3<=ai; decide),fun dr hdr=>?_⟩;have D12:=D11.new hdr (o:=.tup [.str room,.ref sg,.str w2]);have hsg11:H11 sg=some (.tup [.str "still"]):=ex11 _ _ aa (D9.pen.nep hsg).symm;refine D12.put (d:=⟨room,[("still":Str)],w2⟩) ⟨sg,aa,kp hsg11 hdr⟩ ?_ (by omega) fun H13 D13=>hnext _ _ D13;rw [<-hG];exact ⟨hmem,(hgood.2 w2 hw2).1,.inr (.inr ⟨rfl,(hgood.2 w2 hw2).2⟩)⟩
 ·rintro σ H' ⟨a7,a8,a9,a10,a11,a12,rfl,D⟩;obtain ⟨ts,ds,g1,g2,g3,g4,g5⟩:=D.ds;rw [aj] at g5;rw [<-hG] at g4;exact ⟨_,rfl,k l ts ds _ H' hl g1 g2 g3 g4 (by omega) D.pen D.ex⟩
structure aQ (J0 J1 J2:Zb) (ds:List am):Prop where
 okA:j7 J0
 okS:j7 J1
 apart:∀w∈J1,w∉J0
 okR:j7 J2
 asks0:J0≠[]
 says0:J1≠[]
 rooms0:J2≠[]
 asks4:J0.length<=4
 says4:J1.length<=4
 rooms26:J2.length<=150
 nodup:ds.Nodup
 good:∀d∈ds,zm J0 J1 J2 d
 few:ds.length<=1000
 noround:∀r,¬Reach ds r r
structure iQ (H:Hp) (t l1 l2 l3 l4:Addr) (ts:Ze) (J0 J1 J2:Zb) (ds:List am):Prop where
 t:H t=some (.tup [.ref l1,.ref l2,.ref l3,.ref l4])
 a1:H l1=some (.lst (J0.map V.str))
 a2:H l2=some (.lst (J1.map V.str))
 a3:H l3=some (.lst (J2.map V.str))
 a4:H l4=some (.lst (ts.map V.ref))
 ds:cu H ts ds
theorem gH.ne_refs {H:Hp}{p c a:Addr}{ts:Ze}(hp:gH H p c) (ha:H a=some (.lst (ts.map V.ref))):a≠p:=by
 intro e;obtain ⟨x,y,ns,h1,_⟩:=hp;rw [e,h1] at ha;injection ha with ha;injection ha with ha;cases ts with
 | nil=>cases ha
 | cons w ws =>
  injection ha with _ ha;cases ws with
  | nil=>cases ha
  | cons w ws=>injection ha with ha; cases ha
theorem iQ.ex {H H':Hp}{p c t l1 l2 l3 l4:Addr}{ts:Ze}{J0 J1 J2:Zb}{ds:List am}(h:iQ H t l1 l2 l3 l4 ts J0 J1 J2 ds) (hp:gH H p c) (e:cR p H H'):iQ H' t l1 l2 l3 l4 ts J0 J1 J2 ds:=by
 obtain ⟨xs,hx⟩:=hp.lst;exact ⟨e.kt hx _ _ h.t,e _ _ h.a1 (hp.ne_strs h.a1),e _ _ h.a2 (hp.ne_strs h.a2),e _ _ h.a3 (hp.ne_strs h.a3),e _ _ h.a4 (hp.ne_refs h.a4),h.ds.kt (e.kt hx)⟩
theorem iQ.same {H H':Hp}{t l1 l2 l3 l4:Addr}{ts:Ze}{J0 J1 J2:Zb}{ds:List am}(h:iQ H t l1 l2 l3 l4 ts J0 J1 J2 ds) (e:ac H H'):iQ H' t l1 l2 l3 l4 ts J0 J1 J2 ds :=
 ⟨e _ _ h.t,e _ _ h.a1,e _ _ h.a2,e _ _ h.a3,e _ _ h.a4,h.ds.kt (ac.kt e)⟩
inductive og  (vs:List V) (H:Hp) (Q:VK) (E:XK):Prop
 | mk (p c:Addr) (most full:Int):(vs=[.ref p,.int most,.int full])->(gH H p c)->(0<most)->(most<=25)->(0<=full)->(full<=2)->(∀(t l1 l2 l3 l4:Addr) (ts:Ze) (J0 J1 J2:Zb) (ds:List am) (H':Hp),iQ H' t l1 l2 l3 l4 ts J0 J1 J2 ds->aQ J0 J1 J2 ds->J2.length<=most.toNat->ds.length<=600->gH H' p c->cR p H H'->Q (.ref t) H')->og  vs H Q E
theorem at6 {r:Int}(r0:0<=r) (r6:r<6):∃n:Nat,oY [V.int 0,.int 1,.int 1,.int 2,.int 2,.int 3] r=some (.int n)/\n<=3:=by
 have:r=0∨r=1∨r=2∨r=3∨r=4∨r=5:=by omega
 rcases this with rfl | rfl | rfl | rfl | rfl | rfl
 ·exact ⟨0,rfl,by decide⟩
 ·exact ⟨1,rfl,by decide⟩
 ·exact ⟨1,rfl,by decide⟩
 ·exact ⟨2,rfl,by decide⟩
 ·exact ⟨2,rfl,by decide⟩
 ·exact ⟨3,rfl,by decide⟩
theorem Fe {ws:Zb}(hw:ws.length=8) {n:Nat}(hn:n<=3):gF (ws.map V.str) (some 4) (some (5+(n:Int)))=((ws.drop 4).take (1+n)).map V.str:=by
 unfold gF;have s1:HT.sIx (ws.map V.str).length 0 (some 4)=min 4 (ws.map V.str).length:=HT.sIx_nat _ _ 4;have s2:HT.sIx (ws.map V.str).length (ws.map V.str).length (some (5+(n:Int)))=min (5+n) (ws.map V.str).length:=HT.sIx_nat _ _ (5+n);rw [s1,s2,aj,hw,mI,vH];have e1:min 4 8=4:=by decide
 have e2:min (5+n) 8-4=1+n:=by omega
 rw [e1,e2]
theorem Ea {K:Za}{vs:List V}{H:Hp}{Q:VK}{E:XK}(h:og vs H Q E):xQ K gU k7 fk rA (bC Q) (start zj vs) H:=by
 obtain ⟨p,c,most,full,rfl,hp,m0,m1,f0,f2,k⟩:=h;refine ⟨_,rfl,p,c,rfl,hp,fun H1 hp1 ex1=>?_⟩;refine ⟨_,rfl,p,c,8,rfl,hp1,by decide,fun lw ws H2 ok len fr hl hp2 ex2=>?_⟩;have e2:=ex1.trans ex2;have nw:=hp2.ne_strs hl;refine ⟨_,rfl,(by show 6<=ai; decide),fun q hq=>⟨_,rfl,dD (hp2.ex (ac.new hq)) (by decide) (by decide) fun r H3 r0 r1 hp3 ex3=>?_⟩⟩;obtain ⟨n,hn,n3⟩:=at6 r0 r1;have hl3:H3 lw=some (.lst (ws.map V.str)):=ex3 _ _ (kp hl hq) nw;refine ⟨q,_,_,_,rfl,rfl,aA.of (ex3 _ _ aa (hp2.nep hq).symm),hn,_,_,rfl,rfl,_,rfl,lw,_,rfl,aA.of hl3,fun l1 hl1=>?_⟩;have ea:gF (ws.map V.str) none (some (1+(n:Int)))=(ws.take (1+n)).map V.str:=oW ws (1+n);rw [ea];have e3:cR p H H3:=e2.trans ((cR.new hq).trans ex3);have hp4:gH (upd H3 l1 (.lst ((ws.take (1+n)).map V.str))) p c:=hp3.ex (ac.new hl1);have e4:cR p H (upd H3 l1 (.lst ((ws.take (1+n)).map V.str))):=e3.trans (cR.new hl1);have hl4:upd H3 l1 (.lst ((ws.take (1+n)).map V.str)) lw=some (.lst (ws.map V.str)):=kp hl3 hl1;have ha4:upd H3 l1 (.lst ((ws.take (1+n)).map V.str)) l1=some (.lst ((ws.take (1+n)).map V.str)):=aa;generalize upd H3 l1 (.lst ((ws.take (1+n)).map V.str))=H4 at hp4 e4 hl4 ha4 ⊢;refine ⟨_,rfl,_,rfl,(by show 6<=ai; decide),fun q hq=>⟨_,rfl,dD (hp4.ex (ac.new hq)) (by decide) (by decide) fun r H5 r0 r1 hp5 ex5=>?_⟩⟩;obtain ⟨m,hm,m3⟩:=at6 r0 r1;have hl5:H5 lw=some (.lst (ws.map V.str)):=ex5 _ _ (kp hl4 hq) nw;have ha5:H5 l1=some (.lst ((ws.take (1+n)).map V.str)):=ex5 _ _ (kp ha4 hq) (hp4.ne_strs ha4);refine ⟨q,_,_,_,rfl,rfl,aA.of (ex5 _ _ aa (hp4.nep hq).symm),hm,_,_,rfl,rfl,_,rfl,lw,_,rfl,aA.of hl5,fun l2 hl2=>?_⟩;rw [Fe len m3];have e5:cR p H H5:=e4.trans ((cR.new hq).trans ex5);have hp6:gH (upd H5 l2 (.lst (((ws.drop 4).take (1+m)).map V.str))) p c:=hp5.ex (ac.new hl2);have e6:cR p H (upd H5 l2 (.lst (((ws.drop 4).take (1+m)).map V.str))):=e5.trans (cR.new hl2);have ha6:upd H5 l2 (.lst (((ws.drop 4).take (1+m)).map V.str)) l1=some (.lst ((ws.take (1+n)).map V.str)):=kp ha5 hl2;have hb6:upd H5 l2 (.lst (((ws.drop 4).take (1+m)).map V.str)) l2=some (.lst (((ws.drop 4).take (1+m)).map V.str)):=aa;generalize upd H5 l2 (.lst (((ws.drop 4).take (1+m)).map V.str))=H6 at hp6 e6 ha6 hb6 ⊢;refine ⟨_,rfl,_,rfl,_,rfl,dD hp6 m0 (by omega) fun r H7 r0 r1 hp7 ex7=>?_⟩;obtain ⟨rn,rfl⟩:=ji r0;have ha7:=ex7 _ _ ha6 (hp6.ne_strs ha6);have hb7:=ex7 _ _ hb6 (hp6.ne_strs hb6);refine ⟨_,_,rfl,rfl,p,c,1+rn,rfl,hp7,by omega,fun l3 J2 H8 okr lenr fr3 hl3' hp8 ex8=>?_⟩;have ha8:=ex8 _ _ ha7 (hp7.ne_strs ha7);have hb8:=ex8 _ _ hb7 (hp7.ne_strs hb7);have hs0:(ws.drop 4).take (1+m)≠[]:=by
  intro z;have:=congrArg List.length z;rw [aK,fM,len] at this;simp at this
 have ha0:ws.take (1+n)≠[]:=by
  intro z;have:=congrArg List.length z;rw [aK,len] at this;simp at this
 have hr0:J2≠[]:=by
  intro z;rw [z] at lenr;simp at lenr;omega
 refine ⟨_,rfl,_,rfl,_,rfl,_,rfl,_,rfl,p,c,l1,l2,l3,_,_,J2,full,rfl,hp8,ha8,hb8,hl3',by rw [aK]; omega,hs0,by rw [aK]; omega,hr0,by omega,f0,f2,fun l4 ts ds up H9 fr4 hl4' hds nod good few hp9 ex9=>?_⟩;have ha9:=ex9 _ _ ha8 (hp8.ne_strs ha8);have hb9:=ex9 _ _ hb8 (hp8.ne_strs hb8);have hc9:=ex9 _ _ hl3' (hp8.ne_strs hl3');refine ⟨_,rfl,_,rfl,_,rfl,_,rfl,(by show 4<=ai; decide),fun t ht=>k t l1 l2 l3 l4 ts _ _ J2 ds _ ⟨aa,kp ha9 ht,kp hb9 ht,kp hc9 ht,kp hl4' ht,hds.kt (ac.kt (ac.new ht))⟩ ?_ ?_ few (hp9.ex (ac.new ht)) ?_⟩
 ·refine ⟨⟨?_,fun w h=>ok.2 w (fz h)⟩,⟨?_,fun w h=>ok.2 w (List.mem_of_mem_drop (fz h))⟩,?_,okr,ha0,hs0,hr0,by rw [aK]; omega,by rw [aK]; omega,by omega,nod,fun d hd=>(good d hd).d,by omega,fun r z=>(DG okr.1 good z).irr okr.1⟩
  ·exact ok.1.sublist (List.take_sublist _ _)
  ·exact ok.1.sublist ((List.take_sublist _ _).trans (List.drop_sublist _ _))
  ·intro w h1 h2;have h3:w∈ws.drop 4:=fz h1;have h4:w∈ws.take 4:=by
    have:ws.take (1+n)=(ws.take 4).take (1+n):=by rw [List.take_take]; congr 1; omega
    rw [this] at h2;exact fz h2
   have:=ok.1;rw [<-pc 4 ws,cK] at this;exact this.2.2 w h4 w h3 rfl
 ·omega
 ·exact (((e6.trans ex7).trans ex8).trans ex9).trans (cR.new ht)
theorem bA {ws:Zb}{i:Nat}{x:V}(h:(ws.map V.str)[i]?=some x):∃w,ws[i]?=some w/\x=.str w:=by
 rw [b0] at h;cases q:ws[i]? with
 | none=>rw [q] at h; cases h
 | some r=>rw [q] at h; exact ⟨r,rfl,(dZ h).symm⟩
theorem take_snoc {α:Type}{ws:List α}{i:Nat}{w:α}(h:ws[i]?=some w):ws.take (i+1)=ws.take i++[w]:=by
 obtain ⟨hi,rfl⟩:=cw.mp h;rw [List.take_succ_eq_append_getElem hi]
def oK (w:Str):Bool:=!decide (w=("":Str)) && (decide (w.length<=8) && w.cps.toList.all fun c=>decide (c∈("abcdefghijklmnopqrstuvwxyz":Str).cps.toList))
theorem qg.b {w:Str}(h:qg w):oK w=true:=by
 unfold oK;have h1:¬(w=("":Str)):=fun e=>by
  have:=h.lo;rw [e] at this;exact absurd this (by decide +kernel)
 rw [zzr0 h1,zzr1 h.hi,Bool.not_false,rR,rR,List.all_eq_true];intro c hc;obtain ⟨c1,c2⟩:=h.al c hc;refine zzr1 ?_;have:=Ci (c-97) (by omega);have e:97+(c-97)=c:=by omega
 rw [e] at this;exact bd this
inductive sp_is_name  (vs:List V) (H:Hp) (Q:VK) (E:XK):Prop
 | mk (w:Str):(vs=[.str w])->(w.length<=1000)->(∀H',ac H H'->Q (.bl (oK w)) H')->sp_is_name  vs H Q E
theorem Ac {K:Za}{vs:List V}{H:Hp}{Q:VK}{E:XK}(h:sp_is_name vs H Q E):CC K (bC Q) (start Dt vs) H:=by
 obtain ⟨w,rfl,hz,k⟩:=h;refine ⟨_,rfl,rfl,_,rfl,?_⟩;have ed:(!decide (V.str w=V.str ("":Str)))=!decide (w=("":Str)):=by
  congr 1;by_cases e:w=("":Str)
  ·rw [zzr1 e,zzr1 (by rw [e])]
  ·rw [zzr0 e,zzr0 (fun z=>e (by injection z))]
 rw [ed];refine iW (fun h1=>?_) (fun h1=>?_)
 ·refine ⟨_,rfl,.inr ⟨w,rfl,em (ap hz),_,_,rfl,rfl,_,rfl,?_⟩⟩;refine iW (fun h2=>?_) (fun h2=>?_)
  ·refine ⟨_,rfl,w,rfl,fun l hl=>?_⟩;refine Ff (fun i vs H'=>vs=((w.cps.toList.take i).map fun c=>V.bl (decide (c∈("abcdefghijklmnopqrstuvwxyz":Str).cps.toList)))/\ac H H'/\H' l=some (.lst vs))
    ⟨rfl,ac.new hl,aa⟩ (fun i vs H' _ h=>h.2.2) ?_ ?_
   ·rintro vs H' ⟨rfl,hS,hl'⟩;refine ⟨l,w.cps.toList.map fun c=>decide (c∈("abcdefghijklmnopqrstuvwxyz":Str).cps.toList),rfl,aA.of ?_,?_⟩
    ·rw [hl',rS];have:w.cps.toList.take w.cps.size=w.cps.toList:=by
      rw [List.take_of_length_le]; simp
     rw [this]
     rfl
    ·have:=k H' hS;have h2':decide (w.length<=8)=true:=zzr1 (by have:=of_decide_eq_true h2; omega);unfold oK at this;rw [h1,h2',rR,rR] at this;rw [List.all_map];exact this
   ·rintro i vs H' c hc hi ⟨rfl,hS,hl'⟩;refine gN (t4 ?_);refine ⟨_,rfl,c,_,rfl,rfl,hl',?_,o9 hi ⟨?_,?_,aa⟩⟩
    ·rw [aj,aK];have:w.length=w.cps.toList.length:=fj w;exact ap (by omega)
    ·rw [take_snoc (by rw [<-hc]; simp),ax]
     rfl
    ·intro b o e;rw [af (ae e hl)];exact hS b o e
  ·have:=k H (ac.refl H);have h2':decide (w.length<=8)=false:=zzr0 (fun z=>h2 (zzr1 (by omega)));unfold oK at this;rw [h1,h2',rR,Bg] at this;exact this
 ·have:=k H (ac.refl H);unfold oK at this;rw [Bool.eq_false_iff.mpr h1,Bg] at this;exact this
def aV (ws:Zb):List (d_×V):=ws.foldl (fun acc w=>cq acc (.inr w) (.bl true)) []
theorem dB (ws:Zb) (w:Str):aV (ws++[w])=cq (aV ws) (.inr w) (.bl true):=by
 unfold aV;rw [jQ]
 rfl
theorem yo {κ:Type} [DecidableEq κ] (kvs:List (κ×V)) (k:κ) (v:V):(cq kvs k v).length<=kvs.length+1:=by
 unfold cq;split
 ·rw [aj]; omega
 ·rw [aM]; exact aG _
theorem jB {α:Type}(P:List α->Prop) (h0:P []) (hs:∀ws w,P ws->P (ws++[w])) (ws:List α):P ws:=by
 have:∀n (ws:List α),ws.length=n->P ws:=by
  intro n
  induction n with
  | zero=>intro ws h; rw [List.length_eq_zero_iff.mp h]; exact h0
  | succ n ih =>
   intro ws h;have hne:ws≠[]:=fun z=>by rw [z] at h; cases h
   rw [<-List.dropLast_concat_getLast hne];exact hs _ _ (ih _ (by rw [List.length_dropLast,h]; rfl))
 exact this _ ws rfl
theorem j5 (ws:Zb):(aV ws).length<=ws.length:=by
 refine jB (fun ws=>(aV ws).length<=ws.length) (aG _) (fun ws w h=>?_) ws;show (aV (ws++[w])).length<=(ws++[w]).length;rw [dB,aM];have:=yo (aV ws) (.inr w) (.bl true);show _<=ws.length+1;omega
theorem tm (ws:Zb) (x:Str):bJ (aV ws) (.inr x)=if x∈ws then some (.bl true) else none:=by
 refine jB (fun ws=>bJ (aV ws) (.inr x)=if x∈ws then some (.bl true) else none) rfl (fun ws w h=>?_) ws
 show bJ (aV (ws++[w])) (.inr x)=_;rw [dB,xI,h];by_cases e:x=w
 ·subst e;rw [if_pos rfl,if_pos (by simp)]
 ·have e1:¬((Sum.inr x:d_)=.inr w):=fun z=>e (by injection z);rw [if_neg e1];by_cases m:x∈ws
  ·rw [if_pos m,if_pos (dh _ m)]
  ·rw [if_neg m,if_neg (fun z=>by rcases bx.mp z with z | z; exact m z; exact e (by simpa using z))]
theorem eR (ws:Zb) (x:Str):(bJ (aV ws) (.inr x)).isSome=decide (x∈ws):=by
 rw [tm];by_cases m:x∈ws
 ·rw [if_pos m,zzr1 m]; rfl
 ·rw [if_neg m,zzr0 m]; rfl
inductive sp_as_keys (K:Za) (vs:List V) (H:Hp) (Q:VK) (E:XK):Prop
 | mk (l:Addr) (ws:Zb):(vs=[.ref l])->(aA K H l (ws.map V.str))->(ws.length<=1000)->(∀d,H d=none->Q (.ref d) (upd H d (.dK (aV ws))))->sp_as_keys K vs H Q E
theorem Ad {K:Za}{vs:List V}{H:Hp}{Q:VK}{E:XK}(h:sp_as_keys K vs H Q E):CD K (bC Q) (start Du vs) H:=by
 obtain ⟨l,ws,rfl,hl,hz,k⟩:=h;refine fun d hd=>?_;have key:∀kvs,aA K (upd H d (.dK kvs)) l (ws.map V.str):=fun kvs=>(ac.new hd).seq hl;refine ⟨_,rfl,l,rfl,⟨_,key _⟩,?_⟩;refine cr (xs:=ws.map V.str) (fun i σ H'=>∃x,σ=[some (.ref l),some (.ref d),x]/\H'=upd H d (.dK (aV (ws.take i)))) ⟨_,rfl,rfl⟩ (fun i σ H' _ ⟨_,_,e⟩=>by rw [e]; exact key _) ?_ ?_
 ·rintro i x σ H' hi ⟨y,rfl,rfl⟩;obtain ⟨w,hw,rfl⟩:=bA hi;have hlen:(aV (ws.take i)).length<ai:=ap (bH (j5 _) (by rw [aK]; omega));refine ⟨_,rfl,_,rfl,d,_,rfl,.inl ⟨_,.inr w,aa,rfl,hlen,rfl⟩,_,rfl,?_⟩;rw [rf,take_snoc hw,dB]
 ·rintro σ H' ⟨x,rfl,rfl⟩;rw [aj,aX];exact ⟨_,rfl,k d hd⟩
def ES (most:Nat):Nat->List Str->List Str->Option Nat
 | _,_,[]=>none
 | i,ahead,n::ns=>if i=most∨n∈ahead∨oK n=false then some i else ES most (i+1) (ahead++[n]) ns
def cM (names:Zb) (most:Nat) (taken:Zb):Option Nat:=if names=[] then some 0 else ES most 0 taken names
def oV:Option Nat->V
 | none=>.non
 | some i=>.int i
inductive sp_first_wrong_name (K:Za) (vs:List V) (H:Hp) (Q:VK) (E:XK):Prop
 | mk (l t:Addr) (names taken:Zb) (most:Nat):(vs=[.ref l,.int most,.ref t])->(aA K H l (names.map V.str))->(aA K H t (taken.map V.str))->(names.length+taken.length<=1000)->((∀w∈names,w.length<=1000))->(∀H',ac H H'->Q (oV (cM names most taken)) H')->sp_first_wrong_name K vs H Q E
theorem p8 {K:Za}{H:Hp}{Q:VK}{E:XK}{l:Addr}{ws:Zb}(hl:aA K H l (ws.map V.str)) (hz:ws.length<=1000) (k:∀d,H d=none->Q (.ref d) (upd H d (.dK (aV ws)))):sp_as_keys K [.ref l] H Q E:=by
 exact ⟨l,ws,rfl,hl,hz,k⟩
theorem C6 {H:Hp}{Q:VK}{E:XK}{w:Str}(hz:w.length<=1000) (k:∀H',ac H H'->Q (.bl (oK w)) H'):sp_is_name [.str w] H Q E:=by
 exact ⟨w,rfl,hz,k⟩
theorem mj {K:Za}{vs:List V}{H:Hp}{Q:VK}{E:XK}(h:sp_first_wrong_name K vs H Q E):mQ K sp_is_name (sp_as_keys K) (bC Q) (start nD vs) H:=by
 obtain ⟨l,t,names,taken,most,rfl,hl,ht,hz,hw,k⟩:=h;refine ⟨_,rfl,.inl ⟨l,_,rfl,.inl hl,rfl,_,rfl,?_⟩⟩;by_cases h0:names=[]
 ·subst h0;refine bW ?_;have:=k H (ac.refl H);exact this
 have e0:decide (V.int ((names.map V.str).length:Nat)=V.int 0)=false:=zzr0 (fun z=>h0 (by
  injection z with z;rw [aj] at z;exact List.length_eq_zero_iff.mp (by omega)))
 rw [e0];refine a_ ?_;have hk:∀H',ac H H'->Q (oV (ES most 0 taken names)) H':=by
  unfold cM at k;rw [if_neg h0] at k;exact k
 refine ⟨_,rfl,p8 ht (by omega) fun d hd=>?_⟩;refine ⟨_,rfl,l,rfl,⟨_,(ac.new hd).seq hl⟩,?_⟩;refine lC (xs:=names.map V.str) (fun i σ H'=>∃x y,σ=[some (.ref l),some (.int most),some (.ref t),some (.ref d),x,y]/\ac H H'/\H' d=some (.dK (aV (taken++names.take i)))/\ES most i (taken++names.take i) (names.drop i)=ES most 0 taken names)
  ⟨_,_,rfl,ac.new hd,by rw [rQ,fK]; exact aa,by rw [rQ,fK,rX]⟩ (fun i σ H' _ ⟨_,_,_,hS,_⟩=>hS.seq hl) ?_ ?_
 ·rintro i x σ H' q hi ⟨x4,x5,rfl,hS,hd',hf⟩ hq;obtain ⟨w,hw',rfl⟩:=bA hi;have hil:i<names.length:=(cw.mp hw').1;have ed:names.drop i=w::names.drop (i+1):=by
   rw [List.drop_eq_getElem_cons hil];congr 1;exact (cw.mp hw').2
  rw [ed] at hf;have hd2:upd H' q (.tup [.int i,.str w]) d=some (.dK (aV (taken++names.take i))):=kp hd' hq;have hS2:ac H (upd H' q (.tup [.int i,.str w])):=hS.trans (ac.new hq);have hww:w.length<=1000:=hw w (bd hw');refine ⟨q,_,rfl,bj.of aa,rfl,_,_,rfl,_,_,rfl,rfl,?_⟩;generalize upd H' q (.tup [.int i,.str w])=H2 at hd2 hS2 ⊢;refine ⟨_,rfl,_,rfl,rfl,_,rfl,?_⟩;by_cases c1:i=most
  ·have e1:decide (V.int (i:Nat)=V.int (most:Nat))=true:=zzr1 (by rw [c1]);rw [e1];refine bW (bW ?_);refine ⟨_,rfl,?_⟩;have:=hk H2 hS2;rw [<-hf] at this;unfold ES at this;rw [if_pos (.inl c1)] at this;exact this
  have e1:decide (V.int (i:Nat)=V.int (most:Nat))=false:=zzr0 (fun z=>c1 (by injection z with z; omega));rw [e1];refine a_ ?_;refine ⟨_,rfl,_,rfl,d,_,rfl,.inl ⟨_,.inr w,.inl hd2,rfl,rfl⟩,_,rfl,?_⟩;rw [eR];by_cases c2:w∈taken++names.take i
  ·rw [zzr1 c2];refine bW (bW ?_);refine ⟨_,rfl,?_⟩;have:=hk H2 hS2;rw [<-hf] at this;unfold ES at this;rw [if_pos (.inr (.inl c2))] at this;exact this
  rw [zzr0 c2];refine a_ ?_;refine ⟨_,rfl,C6 hww fun H3 hS3=>⟨_,rfl,?_⟩⟩;have hd3:=hS3 _ _ hd2;cases c3:oK w with
  | false =>
   refine bW ?_;refine ⟨_,rfl,?_⟩;have:=hk H3 (hS2.trans hS3);rw [<-hf] at this;unfold ES at this;rw [if_pos (.inr (.inr c3))] at this;exact this
  | true =>
   refine a_ ?_;have hlen:(aV (taken++names.take i)).length<ai:=ap (bH (j5 _) (by rw [aM,aK]; omega));refine ⟨_,rfl,_,rfl,d,_,rfl,.inl ⟨_,.inr w,hd3,rfl,hlen,rfl⟩,_,_,rfl,?_,?_,?_⟩
   ·intro b o e;rw [af (ae e hd)];exact hS3 _ _ (hS2 _ _ e)
   ·rw [aa,take_snoc hw',<-c6,dB]
   ·rw [<-hf,take_snoc hw',<-c6]
    conv=>rhs; unfold ES
    rw [if_neg];rintro (z | z | z)
    ·exact c1 z
    ·exact c2 z
    ·rw [c3] at z; cases z
 ·rintro σ H' ⟨x,y,rfl,hS,_,hf⟩;rw [aj,List.drop_length] at hf;have:=hk H' hS;rw [<-hf] at this;exact this
theorem yS {most:Nat}:∀(ns ahead:Zb) (i:Nat),i+ns.length<=most->(ahead++ns).Nodup->(∀w∈ns,qg w)->ES most i ahead ns=none
 | [],_,_,_,_,_=>rfl
 | n::ns,ahead,i,h1,h2,h3=>by
  rw [dP] at h1;unfold ES;rw [if_neg]
  ·refine yS ns (ahead++[n]) (i+1) (by omega) (by rw [c6]; exact h2) fun w hw=>h3 w (fb _ hw)
  ·rintro (z | z | z)
   ·omega
   ·rw [cK] at h2;exact h2.2.2 n z n (eg) rfl
   ·rw [(h3 n eg).b] at z; cases z
theorem ia {most:Nat}{ns taken:Zb}(h0:ns≠[]) (h1:ns.length<=most) (h2:(taken++ns).Nodup) (h3:∀w∈ns,qg w):cM ns most taken=none:=by
 unfold cM;rw [if_neg h0];exact yS ns taken 0 (by omega) h2 h3
theorem gu {n:Nat}(h:n<=9000):n<ai:=Nat.lt_of_le_of_lt h (by decide)
def ow (x:Str):TK:=.k (.inr x)
def iX (sg:Zb):TK:=.t (sg.map ow)
def Cc (d:am):TK:=.t [ow d.a,iX d.sg,ow d.b]
theorem rB {x y:Str}(h:ow x=ow y):x=y:=by
 unfold ow at h;injection h with h;injection h
theorem qD:∀{x y:Zb},x.map ow=y.map ow->x=y
 | [],[],_=>rfl
 | [],_::_,h=>by cases h
 | _::_,[],h=>by cases h
 | a::x,b::y,h=>by
  rw [bw,bw] at h;injection h with h1 h2;rw [rB h1,qD h2]
theorem jb {x y:Zb}(h:iX x=iX y):x=y:=by
 unfold iX at h;injection h with h;exact qD h
theorem Gy {x y:am}(h:Cc x=Cc y):x=y:=by
 unfold Cc at h;injection h with h;injection h with h1 h;injection h with h2 h;injection h with h3 h;cases x; cases y;simp only at *;rw [rB h1,jb h2,rB h3]
theorem zJ (xs:Zb):TK.depths (xs.map ow)=0:=by
 induction xs with
 | nil=>rfl
 | cons x xs ih=>rw [bw]; show max (TK.depth (ow x)) (TK.depths _)=0; rw [ih]; rfl
theorem lM (sg:Zb):(iX sg).depth=1:=by
 show TK.depths (sg.map ow)+1=1;rw [zJ]
theorem uT (d:am):(Cc d).depth=2:=by
 show max (TK.depth (ow d.a)) (max (TK.depth (iX d.sg)) (max (TK.depth (ow d.b)) 0))+1=2;rw [lM]
 rfl
theorem Bp {H:Hp}:∀xs:List Str,TKAts H (xs.map ow) (xs.map V.str)
 | []=>by show TKAts H [] []; unfold TKAts; rfl
 | x::xs=>by
  rw [bw,bw];unfold TKAts;refine ⟨_,_,rfl,?_,Bp xs⟩;unfold ow cN
  rfl
theorem wf {H:Hp}(x:Str):cN H (ow x) (.str x):=by unfold ow cN; rfl
theorem SignAt.tk {H:Hp}{s:Addr}{sg:Zb}(h:SignAt H s sg):cN H (iX sg) (.ref s):=by
 unfold iX cN;exact ⟨s,_,rfl,h,Bp _⟩
theorem gL.tk {H:Hp}{t:Addr}{d:am}(h:gL H t d):cN H (Cc d) (.ref t):=by
 obtain ⟨s,h1,h2⟩:=h;unfold Cc cN;refine ⟨t,_,rfl,h1,?_⟩;unfold TKAts;refine ⟨_,_,rfl,wf _,?_⟩;unfold TKAts;refine ⟨_,_,rfl,SignAt.tk h2,?_⟩;unfold TKAts;refine ⟨_,_,rfl,wf _,?_⟩;unfold TKAts
 rfl
section
variable {κ:Type} [DecidableEq κ]
def kC (ks:List κ):List (κ×V):=ks.foldl (fun acc k=>cq acc k (.bl true)) []
theorem nq (ws:List κ) (w:κ):kC (ws++[w])=cq (kC ws) w (.bl true):=by
 unfold kC;rw [jQ]
 rfl
theorem C2 (ws:List κ):(kC ws).length<=ws.length:=by
 refine jB (fun ws=>(kC ws).length<=ws.length) (aG _) (fun ws w h=>?_) ws;show (kC (ws++[w])).length<=(ws++[w]).length;rw [nq,aM];have:=yo (kC ws) w (.bl true);show _<=ws.length+1;omega
theorem EI (ws:List κ) (x:κ):(bJ (kC ws) x).isSome=decide (x∈ws):=by
 refine jB (fun ws=>(bJ (kC ws) x).isSome=decide (x∈ws)) rfl (fun ws w h=>?_) ws;show (bJ (kC (ws++[w])) x).isSome=_;rw [nq,xI];by_cases e:x=w
 ·subst e;rw [if_pos rfl,zzr1 (by simp)]
  rfl
 ·rw [if_neg e,h];by_cases m:x∈ws
  ·rw [zzr1 m,zzr1 (dh _ m)]
  ·rw [zzr0 m,zzr0 (fun z=>by rcases bx.mp z with z | z; exact m z; exact e (by simpa using z))]
end
theorem BM {d:am}{ds:List am}:Cc d∈ds.map Cc↔d∈ds:=by
 constructor
 ·intro h;obtain ⟨x,hx,e⟩:=aD.mp h;rw [<-Gy e]; exact hx
 ·exact jR
def nB (K:Za) (H:Hp) (v:V) (sg:Zb):Prop:=∃s,v=.ref s/\bj K H s (sg.map V.str)
theorem ac.sqT {K:Za}{H H':Hp}{a:Addr}{xs:List V}(e:ac H H') (h:bj K H a xs):bj K H' a xs:=by
 rcases h with (h | ⟨o,h⟩) | h
 ·exact .inl (.inl (e _ _ h))
 ·exact .inl (.inr ⟨o,e _ _ h⟩)
 ·exact .inr h
theorem Signs.same {K:Za}{H H':Hp}(e:ac H H') {xs:List V}{sgs:List (List Str)}(h:Paired (nB K H) xs sgs):Paired (nB K H') xs sgs :=
 Paired.mapP h fun _ _ ⟨s,h1,h2⟩=>⟨s,h1,ac.sqT e h2⟩
def kK (sg:Zb):DT:=.t (sg.map fR)
theorem BS {x y:Zb}(h:kK x=kK y):x=y:=by
 unfold kK at h;injection h with h;exact g8 h
theorem cz (sg:Zb):(kK sg).depth=1:=by
 show DT.depths (sg.map fR)+1=1;rw [fh]
theorem De (sgs:List (List Str)):DT.depths (sgs.map kK)<=8:=by
 induction sgs with
 | nil=>exact c9 _
 | cons x xs ih=>rw [bw]; show max (DT.depth (kK x)) (DT.depths _)<=8; rw [cz]; omega
theorem Signs.dIns {K:Za}{H:Hp}:∀{xs:List V}{sgs:List (List Str)},Paired (nB K H) xs sgs->DIns K H (sgs.map kK) xs
 | _,_,.nil=>by show DIns K H [] []; unfold DIns; rfl
 | _,_,.cons ⟨s,e,r⟩ t=>by
  rw [bw];unfold DIns;refine ⟨_,_,rfl,?_,Signs.dIns t⟩;rw [e];exact bN r
theorem BL {d:Zb}{ds:List (List Str)}:kK d∈ds.map kK↔d∈ds:=by
 constructor
 ·intro h;obtain ⟨x,hx,e⟩:=aD.mp h;rw [<-BS e]; exact hx
 ·exact jR
theorem Paired.app {α β:Type}{R:α->β->Prop}:∀{a:List α}{b:List β}{c:List α}{d:List β},Paired R a b->Paired R c d->Paired R (a++c) (b++d)
 | _,_,_,_,.nil,h=>h
 | _,_,_,_,.cons r t,h=>.cons r (Paired.app t h)
def da (w:Str):List Str:=[("ask":Str),w]
def oq (w:Str):List Str:=[("say":Str),w]
def jM (J0 J1:Zb):List (List Str):=J0.map da++J1.map oq++[av]
theorem sL {K:Za}{kw:Str}{σ:L2.St}{H:Hp}{a l:Addr}{ws:Zb}{Q:Hp->Prop}(ha:H a=some (.lst (ws.map V.str))) (hl:H l=none) (hz:ws.length<=1000)
  (k:∀(xs:List V) (H':Hp),Paired (nB K H') xs (ws.map fun w=>[kw,w])->ac H H'->H' l=some (.lst xs)->Q H') :
  ga 1 [] σ (Fw K a) U0 kE (aZ (aB (tC (.str kw)) V0)) H l Q:=by
 refine cJ (xs:=ws.map V.str) (fun i vs H'=>Paired (nB K H') vs ((ws.take i).map fun w=>[kw,w])/\ac H H'/\H' l=some (.lst vs))
  ⟨.nil,ac.new hl,aa⟩ (fun i vs H' _ ⟨_,hS,h'⟩=>⟨h',aA.of (hS _ _ ha)⟩) ?_ ?_
 ·rintro vs H' ⟨h1,h2,h3⟩;rw [aj,aX] at h1;exact k vs H' h1 h2 h3
 ·rintro i vs H' x hx hi ⟨h1,h2,h3⟩;obtain ⟨w,hw,rfl⟩:=bA hx;refine gN (t4 ?_);refine ⟨_,rfl,(by show 2<=ai; decide),fun t ht=>⟨kp h3 ht,?_,o9 hi ⟨?_,?_,aa⟩⟩⟩
  ·rw [Paired.length h1,aj,aK]; exact ap (by omega)
  ·rw [take_snoc hw,ax];have hS2:gJ (upd H' t (.tup [.str kw,.str w])) (upd (upd H' t (.tup [.str kw,.str w])) l (.lst (vs++[.ref t]))):=cA (kp h3 ht);have hS3:gJ H' (upd (upd H' t (.tup [.str kw,.str w])) l (.lst (vs++[.ref t]))):=(ac.kt (ac.new ht)).trans hS2;refine Paired.app (Paired.mapP h1 fun v sg ⟨s,e1,e2⟩=>⟨s,e1,?_⟩) (.cons ⟨t,rfl,bj.of (hS2 _ _ aa)⟩ .nil);rcases e2 with (e2 | ⟨o,e2⟩) | e2
   ·exact .inl (.inl (hS3 _ _ e2))
   ·refine .inl (.inr ⟨o,?_⟩);rw [af (fun z=>by rw [z,h3] at e2; cases e2)];exact kp e2 ht
   ·exact .inr e2
  ·intro b o e;rw [af (ae e hl)];exact kp (h2 _ _ e) ht
inductive sp_door_signs (K:Za) (vs:List V) (H:Hp) (Q:VK) (E:XK):Prop
 | mk (l1 l2:Addr) (J0 J1:Zb):(vs=[.ref l1,.ref l2])->(H l1=some (.lst (J0.map V.str)))->(H l2=some (.lst (J1.map V.str)))->(J0.length<=100)->(J1.length<=100)->(∀(l:Addr) (xs:List V) (H':Hp),Paired (nB K H') xs (jM J0 J1)->ac H H'->H' l=some (.lst xs)->Q (.ref l) H')->sp_door_signs K vs H Q E
theorem uz {K:Za}{st:Addr}(hst:∀H,bj K H st (av.map V.str)) {vs:List V}{H:Hp}{Q:VK}{E:XK}(h:sp_door_signs K vs H Q E):wr K st (bC Q) (start xw vs) H:=by
 obtain ⟨l1,l2,J0,J1,rfl,h1,h2,z1,z2,k⟩:=h;refine ⟨_,rfl,l1,rfl,⟨_,aA.of h1⟩,fun a ha=>?_⟩;refine sL h1 ha (by omega) fun xs1 H1 p1 s1 g1=>?_;refine ⟨_,rfl,l2,rfl,⟨_,aA.of (s1 _ _ h2)⟩,fun b hb=>?_⟩;refine sL (s1 _ _ h2) hb (by omega) fun xs2 H2 p2 s2 g2=>?_;have len1:xs1.length<=100:=by rw [Paired.length p1,aj]; exact z1
 have len2:xs2.length<=100:=by rw [Paired.length p2,aj]; exact z2
 refine ⟨a,b,xs1,xs2,rfl,rfl,s2 _ _ g1,g2,em (ap (by omega)),fun c hc=>?_⟩;refine ⟨(by show 1<=ai; decide),fun d hd=>?_⟩;refine ⟨c,d,_,_,rfl,rfl,kp aa hd,aa,?_,fun e he=>k e _ _ ?_ ?_ aa⟩
 ·rw [aM];show _+1<=ai;exact em (ap (by omega))
 ·have sx:ac H2 (upd (upd (upd H2 c (.lst (xs1++xs2))) d (.lst [.ref st])) e (.lst (xs1++xs2++[.ref st]))):=((ac.new hc).trans (ac.new hd)).trans (ac.new he);exact Paired.app (Paired.app (Signs.same (s2.trans sx) p1) (Signs.same sx p2)) (.cons ⟨st,rfl,hst _⟩ .nil)
 ·exact (((s1.trans s2).trans (ac.new hc)).trans (ac.new hd)).trans (ac.new he)
def Gu (J2:Zb) (sgs:List (List Str)):Nat->List am->List am->Option Nat
 | _,_,[]=>none
 | i,ahead,d::ds=>if i=2000∨d∈ahead∨d.a∉J2∨d.sg∉sgs∨d.b∉J2 then some i else Gu J2 sgs (i+1) (ahead++[d]) ds
inductive sp_first_wrong_door (K:Za) (vs:List V) (H:Hp) (Q:VK) (E:XK):Prop
 | mk (l l3 sl:Addr) (ts:Ze) (ds:List am) (J2:Zb) (xs:List V) (sgs:List (List Str)):(vs=[.ref l,.ref l3,.ref sl])->(H l=some (.lst (ts.map V.ref)))->(cu H ts ds)->(H l3=some (.lst (J2.map V.str)))->(J2.length<=1000)->(H sl=some (.lst xs))->(Paired (nB K H) xs sgs)->(ds.length<=9000)->(∀H',ac H H'->Q (oV (Gu J2 sgs 0 [] ds)) H')->sp_first_wrong_door K vs H Q E
theorem dq {ws:Ze}{i:Nat}{x:V}(h:(ws.map V.ref)[i]?=some x):∃w,ws[i]?=some w/\x=.ref w:=by
 rw [b0] at h;cases q:ws[i]? with
 | none=>rw [q] at h; cases h
 | some r=>rw [q] at h; exact ⟨r,rfl,(dZ h).symm⟩
theorem ml {K:Za}{vs:List V}{H:Hp}{Q:VK}{E:XK}(h:sp_first_wrong_door K vs H Q E):mR K (sp_as_keys K) (bC Q) (start nE vs) H:=by
 obtain ⟨l,l3,sl,ts,ds,J2,xs,sgs,rfl,hl,hds,h3,hr,hsl,hsg,hz,k⟩:=h;refine ⟨_,rfl,p8 (aA.of h3) hr fun d hd=>?_⟩;refine fun e he=>?_;have hS0:ac H (upd (upd H d (.dK (aV J2))) e (.dT [])):=(ac.new hd).trans (ac.new he);have heH:H e=none:=(ac.new hd).free he;refine ⟨_,rfl,l,rfl,⟨_,aA.of (hS0 _ _ hl)⟩,?_⟩;refine lC (xs:=ts.map V.ref) (fun i σ H'=>∃x y,σ=[some (.ref l),some (.ref l3),some (.ref sl),some (.ref d),some (.ref e),x,y]/\ac H H'/\H' d=some (.dK (aV J2))/\H' e=some (.dT (kC ((ds.take i).map Cc)))/\Gu J2 sgs i (ds.take i) (ds.drop i)=Gu J2 sgs 0 [] ds)
  ⟨_,_,rfl,hS0,kp aa he,aa,rfl⟩ (fun i σ H' _ ⟨_,_,_,hS,_⟩=>aA.of (hS _ _ hl)) ?_ ?_
 ·rintro i x σ H' q hi ⟨x5,x6,rfl,hS,hd',he',hf⟩ hq;obtain ⟨t,ht,rfl⟩:=dq hi;obtain ⟨dr,hdr,hat⟩:=Paired.getL hds ht;have hil:i<ds.length:=(cw.mp hdr).1;have ed:ds.drop i=dr::ds.drop (i+1):=by
   rw [List.drop_eq_getElem_cons hil];congr 1;exact (cw.mp hdr).2
  rw [ed] at hf;have hS2:ac H (upd H' q (.tup [.int i,.ref t])):=hS.trans (ac.new hq);have hd2:upd H' q (.tup [.int i,.ref t]) d=_:=kp hd' hq;have he2:upd H' q (.tup [.int i,.ref t]) e=_:=kp he' hq;refine ⟨q,_,rfl,bj.of aa,rfl,_,_,rfl,_,_,rfl,rfl,?_⟩;generalize upd H' q (.tup [.int i,.ref t])=H2 at hd2 he2 hS2 ⊢;have hat2:=hat.kt (ac.kt hS2);have hin:lG K H2 (Cc dr) (.ref t):=cN.isIn 8 (by rw [uT]; decide) hat2.tk;have hd8:(Cc dr).depth<=8:=by rw [uT]; decide
  obtain ⟨s,ht2,hs2⟩:=hat2;have bad:(i=2000∨dr∈ds.take i∨dr.a∉J2∨dr.sg∉sgs∨dr.b∉J2)->Q (.int i) H2:=by
   intro c;have:=k H2 hS2;rw [<-hf] at this;unfold Gu at this;rw [if_pos c] at this;exact this
  refine ⟨_,rfl,rfl,_,rfl,?_⟩;by_cases c1:i=2000
  ·have e1:decide (V.int (i:Nat)=V.int 2000)=true:=zzr1 (by rw [c1]; rfl);rw [e1];exact bW (bW ⟨_,rfl,bad (.inl c1)⟩)
  have e1:decide (V.int (i:Nat)=V.int 2000)=false:=zzr0 (fun z=>c1 (by injection z with z; omega));rw [e1];refine a_ ?_;refine ⟨_,rfl,_,rfl,e,_,rfl,.inr ⟨_,Cc dr,t,.inl he2,rfl,hin,hd8,rfl⟩,_,rfl,?_⟩;rw [EI];by_cases c2:dr∈ds.take i
  ·rw [zzr1 (BM.mpr c2)];exact bW ⟨_,rfl,bad (.inr (.inl c2))⟩
  rw [zzr0 (fun z=>c2 (BM.mp z))];refine a_ ?_;refine ⟨_,rfl,.inr (.inl ⟨t,_,0,_,rfl,rfl,bj.of ht2,rfl,_,rfl,d,_,rfl,.inl ⟨_,.inr dr.a,.inl hd2,rfl,rfl⟩,_,rfl,?_⟩)⟩;rw [eR];by_cases c3:dr.a∈J2;rotate_left
  ·rw [zzr0 c3];exact bW (bW ⟨_,rfl,bad (.inr (.inr (.inl c3)))⟩)
  rw [zzr1 c3];refine a_ ?_;refine ⟨_,rfl,.inr (.inl ⟨t,_,1,_,rfl,rfl,bj.of ht2,rfl,_,rfl,kK dr.sg,sgs.map kK,sl,xs,bN (bj.of hs2),rfl,.inl (aA.of (hS2 _ _ hsl)),Signs.dIns (Signs.same hS2 hsg),by rw [cz]; decide,De _,_,rfl,?_⟩)⟩;rw [if_pos rfl];by_cases c4:dr.sg∈sgs;rotate_left
  ·rw [zzr0 (fun z=>c4 (BL.mp z))];exact bW (bW ⟨_,rfl,bad (.inr (.inr (.inr (.inl c4))))⟩)
  rw [zzr1 (BL.mpr c4)];refine a_ ?_;refine ⟨_,rfl,.inr (.inl ⟨t,_,2,_,rfl,rfl,bj.of ht2,rfl,_,rfl,d,_,rfl,.inl ⟨_,.inr dr.b,.inl hd2,rfl,rfl⟩,_,rfl,?_⟩)⟩;rw [eR];by_cases c5:dr.b∈J2;rotate_left
  ·rw [zzr0 c5];exact bW ⟨_,rfl,bad (.inr (.inr (.inr (.inr c5))))⟩
  rw [zzr1 c5];refine a_ ?_;have hlen:(kC ((ds.take i).map Cc)).length<ai:=gu (bH (C2 _) (by rw [aj,aK]; omega));refine ⟨_,rfl,_,rfl,e,_,rfl,.inr ⟨_,Cc dr,t,he2,rfl,gL.tk ⟨s,ht2,hs2⟩,hd8,hlen,rfl⟩,_,_,rfl,?_,?_,?_,?_⟩
  ·intro b o q;rw [af (ae q heH)];exact hS2 _ _ q
  ·rw [af (fun z=>by rw [z,he2] at hd2; cases hd2)]; exact hd2
  ·rw [aa,take_snoc hdr,ax];exact congrArg (fun z=>some (HO.dT z)) (nq _ _).symm
  ·rw [<-hf,take_snoc hdr]
   conv=>rhs; unfold Gu
   rw [if_neg];rintro (z | z | z | z | z)
   ·exact c1 z
   ·exact c2 z
   ·exact z c3
   ·exact z c4
   ·exact z c5
 ·rintro σ H' ⟨x,y,rfl,hS,_,_,hf⟩;have:=k H' hS;rw [<-hf,aj,Paired.length hds,List.drop_length] at this;exact this
theorem yT {J2:Zb}{sgs:List (List Str)}:∀(ds ahead:List am) (i:Nat),i+ds.length<=2000->(ahead++ds).Nodup->(∀d∈ds,d.a∈J2/\d.sg∈sgs/\d.b∈J2)->Gu J2 sgs i ahead ds=none
 | [],_,_,_,_,_=>rfl
 | n::ns,ahead,i,h1,h2,h3=>by
  rw [dP] at h1;unfold Gu;rw [if_neg]
  ·refine yT ns (ahead++[n]) (i+1) (by omega) (by rw [c6]; exact h2) fun w hw=>h3 w (fb _ hw)
  ·have:=h3 n eg;rintro (z | z | z | z | z)
   ·omega
   ·rw [cK] at h2;exact h2.2.2 n z n (eg) rfl
   ·exact z this.1
   ·exact z this.2.1
   ·exact z this.2.2
inductive sp_need_none  (vs:List V) (H:Hp) (Q:VK) (E:XK):Prop
 | mk (x:V):(vs=[x,.non])->(Q .non H)->sp_need_none  vs H Q E
theorem wF {K:Za}{vs:List V}{H:Hp}{Q:VK}{E:XK}(h:sp_need_none vs H Q E):xN K (bC Q) (start zg vs) H:=by
 obtain ⟨x,rfl,k⟩:=h;refine ⟨_,rfl,_,rfl,?_⟩;have e:(!decide (V.non=V.non))=false:=by rw [zzr1 rfl]; rfl
 rw [e];exact a_ k
structure Lists (H:Hp) (l1 l2 l3 l4:Addr) (ts:Ze) (J0 J1 J2:Zb) (ds:List am):Prop where
 a1:H l1=some (.lst (J0.map V.str))
 a2:H l2=some (.lst (J1.map V.str))
 a3:H l3=some (.lst (J2.map V.str))
 a4:H l4=some (.lst (ts.map V.ref))
 ds:cu H ts ds
theorem Lists.same {H H':Hp}{l1 l2 l3 l4:Addr}{ts:Ze}{J0 J1 J2:Zb}{ds:List am}(h:Lists H l1 l2 l3 l4 ts J0 J1 J2 ds) (e:ac H H'):Lists H' l1 l2 l3 l4 ts J0 J1 J2 ds :=
 ⟨e _ _ h.a1,e _ _ h.a2,e _ _ h.a3,e _ _ h.a4,h.ds.kt (ac.kt e)⟩
inductive sp_need_parts  (vs:List V) (H:Hp) (Q:VK) (E:XK):Prop
 | mk (l1 l2 l3 l4:Addr) (ts:Ze) (J0 J1 J2:Zb) (ds:List am):(vs=[.ref l1,.ref l2,.ref l3,.ref l4])->(Lists H l1 l2 l3 l4 ts J0 J1 J2 ds)->(aQ J0 J1 J2 ds)->(∀H',ac H H'->Q .non H')->sp_need_parts  vs H Q E
theorem aQ.signs {J0 J1 J2:Zb}{ds:List am}(m:aQ J0 J1 J2 ds):∀d∈ds,d.a∈J2/\d.sg∈jM J0 J1/\d.b∈J2:=by
 intro d hd;have g:=m.good d hd;refine ⟨g.a,?_,g.b⟩;unfold jM;rcases g.sg with ⟨w,hw,e⟩ | ⟨w,hw,e⟩ | e
 ·rw [e]; exact dh _ (dh _ (aD.mpr ⟨w,hw,rfl⟩))
 ·rw [e]; exact dh _ (dz _ (aD.mpr ⟨w,hw,rfl⟩))
 ·rw [e]; exact dz _ (by simp [av])
theorem pY {ws:Zb}(h:j7 ws):∀w∈ws,w.length<=1000:=fun w hw=>bH (h.2 w hw).hi (by decide)
theorem uu {K:Za}{vs:List V}{H:Hp}{Q:VK}{E:XK}(h:sp_need_parts vs H Q E):wk K sp_need_none (sp_first_wrong_door K) (sp_door_signs K) (sp_first_wrong_name K) (bC Q) (start xo vs) H:=by
 obtain ⟨l1,l2,l3,l4,ts,J0,J1,J2,ds,rfl,L,m,k⟩:=h;have w1:cM J0 4 []=none:=ia m.asks0 m.asks4 m.okA.1 m.okA.2;have w2:cM J1 4 J0=none:=ia m.says0 m.says4 (by
  rw [cK];exact ⟨m.okA.1,m.okS.1,fun a ha b hb e=>m.apart b hb (e ▸ ha)⟩) m.okS.2
 have w3:cM J2 150 []=none:=ia m.rooms0 (by have:=m.rooms26; omega) m.okR.1 m.okR.2;have w4:Gu J2 (jM J0 J1) 0 [] ds=none:=yT ds [] 0 (by have:=m.few; omega) m.nodup m.signs;have z1:=m.asks4;have z2:=m.says4;have z3:=m.rooms26;have z4:=m.few;refine ⟨_,rfl,(by show 0<=ai; decide),fun e he=>⟨l1,e,J0,[],4,rfl,aA.of (kp L.a1 he),aA.of aa,by simp; omega,pY m.okA,fun H1 s1=>?_⟩⟩;rw [w1];refine ⟨_,rfl,?_⟩;have S1:=(ac.new he).trans s1;refine ⟨_,rfl,_,rfl,l2,l1,J1,J0,4,rfl,aA.of (S1 _ _ L.a2),aA.of (S1 _ _ L.a1),by omega,pY m.okS,fun H2 s2=>?_⟩;rw [w2];refine ⟨_,rfl,?_⟩;have S2:=S1.trans s2;refine ⟨_,rfl,(by show 0<=ai; decide),fun e he=>⟨l3,e,J2,[],150,rfl,aA.of (kp (S2 _ _ L.a3) he),aA.of aa,by simp; omega,pY m.okR,fun H3 s3=>?_⟩⟩;rw [w3];refine ⟨_,rfl,?_⟩;have S3:=(S2.trans (ac.new he)).trans s3;refine ⟨_,rfl,_,rfl,_,rfl,_,rfl,l1,l2,J0,J1,rfl,S3 _ _ L.a1,S3 _ _ L.a2,by omega,by omega,fun sl xs H4 hx s4 hsl=>?_⟩;have S4:=S3.trans s4;have L4:=L.same S4;refine ⟨l4,l3,sl,ts,ds,J2,xs,jM J0 J1,rfl,L4.a4,L4.ds,L4.a3,by omega,hsl,hx,by omega,fun H5 s5=>?_⟩;rw [w4];exact ⟨_,rfl,k H5 (S4.trans s5)⟩
section
variable {κ ι:Type} [DecidableEq κ] {e:ι->κ}
def dU (e:ι->κ) (ps:List (ι×Addr)):List (κ×V):=ps.map fun x=>(e x.1,V.ref x.2)
theorem lV (inj:∀x y,e x=e y->x=y) {i:ι}:∀{ps:List (ι×Addr)},i∉ps.map (·.1)->bJ (dU e ps) (e i)=none
 | [],_=>rfl
 | x::ps,h=>by
  rw [bw,cU] at h;show bJ ((e x.1,V.ref x.2)::dU e ps) (e i)=none;rw [cf (fun z=>h (.inl (inj _ _ z).symm))];exact lV inj (fun z=>h (.inr z))
theorem d4 (inj:∀x y,e x=e y->x=y) {i:ι}{a:Addr}:∀{ps:List (ι×Addr)},(ps.map (·.1)).Nodup->(i,a)∈ps->bJ (dU e ps) (e i)=some (.ref a)
 | [],_,h=>by cases h
 | x::ps,nd,h=>by
  rw [bw,mv] at nd;show bJ ((e x.1,V.ref x.2)::dU e ps) (e i)=_;rcases cU.mp h with h | h
  ·rw [<-h]; exact cp rfl
  ·rw [cf (fun z=>nd.1 (by rw [inj _ _ z]; exact aD.mpr ⟨_,h,rfl⟩))];exact d4 inj nd.2 h
theorem vf (ps:List (ι×Addr)) (i:ι) (a:Addr):dU e (ps++[(i,a)])=dU e ps++[(e i,.ref a)]:=by
 unfold dU;rw [ax]
 rfl
end
structure DL {ι:Type}(H0 H:Hp) (d:Addr) (ps:List (ι×Addr)):Prop where
 nd:(ps.map (·.1)).Nodup
 na:(ps.map (·.2)).Nodup
 fr:∀x∈ps,H0 x.2=none
 frd:H0 d=none
 ned:∀x∈ps,x.2≠d
 same:ac H0 H
theorem DL.snoc {ι:Type}{H0 H H':Hp}{d:Addr}{ps:List (ι×Addr)}{i:ι}{a:Addr}(h:DL H0 H d ps) (hi:i∉ps.map (·.1)) (ha:∀x∈ps,x.2≠a) (fr:H0 a=none) (nd:a≠d) (s:ac H0 H'):DL H0 H' d (ps++[(i,a)]):=by
 refine ⟨?_,?_,?_,h.frd,?_,s⟩
 ·rw [ax,cK];refine ⟨h.nd,by simp,fun x hx y hy e=>?_⟩;have:y=i:=by simpa using hy
  exact hi (by rw [<-this,<-e]; exact hx)
 ·rw [ax,cK];refine ⟨h.na,by simp,fun x hx y hy e=>?_⟩;have:y=a:=by simpa using hy
  obtain ⟨z,hz,rfl⟩:=aD.mp hx;exact ha z hz (e.trans this)
 ·intro x hx;rcases bx.mp hx with hx | hx
  ·exact h.fr x hx
  ·have:x=(i,a):=by simpa using hx
   rw [this]; exact fr
 ·intro x hx;rcases bx.mp hx with hx | hx
  ·exact h.ned x hx
  ·have:x=(i,a):=by simpa using hx
   rw [this]; exact nd
theorem EC {ι:Type}:∀{ps:List (ι×Addr)},(ps.map (·.2)).Nodup->∀{x y:ι×Addr},x∈ps->y∈ps->x.2=y.2->x=y
 | [],_,x,_,h,_,_=>by cases h
 | p::ps,nd,x,y,hx,hy,e=>by
  rw [bw,mv] at nd;rcases cU.mp hx with hx' | hx' <;> rcases cU.mp hy with hy' | hy'
  ·rw [hx',hy']
  ·exact absurd (aD.mpr ⟨y,hy',by rw [<-e,hx']⟩) nd.1
  ·exact absurd (aD.mpr ⟨x,hx',by rw [e,hy']⟩) nd.1
  ·exact EC nd.2 hx' hy' e
theorem im:∀x y:Str,(Sum.inr x:d_)=Sum.inr y->x=y:=fun x y h=>by injection h
def bv (ds:List am) (r:Str):List am:=ds.filter fun d=>decide (d.a=r)
inductive sp_doors_by_start  (vs:List V) (H:Hp) (Q:VK) (E:XK):Prop
 | mk (l3 l4:Addr) (ts:Ze) (J2:Zb) (ds:List am):(vs=[.ref l3,.ref l4])->(H l3=some (.lst (J2.map V.str)))->(H l4=some (.lst (ts.map V.ref)))->(cu H ts ds)->(J2.Nodup)->(J2.length<=1000)->(ds.length<=9000)->((∀d∈ds,d.a∈J2))->(∀(d:Addr) (ps:List (Str×Addr)) (H':Hp),ps.map (·.1)=J2->H' d=some (.dK (dU Sum.inr ps))->(∀x∈ps,∃us,H' x.2=some (.lst (us.map V.ref))/\cu H' us (bv ds x.1))->ac H H'->Q (.ref d) H')->sp_doors_by_start  vs H Q E
theorem oA {K:Za}{vs:List V}{H:Hp}{Q:VK}{E:XK}(h:sp_doors_by_start vs H Q E):pI K (bC Q) (start qb vs) H:=by
 obtain ⟨l3,l4,ts,J2,ds,rfl,h3,h4,hds,nod,hz,hz2,hin,k⟩:=h;refine fun d hd=>?_;refine ⟨_,rfl,l3,rfl,⟨_,aA.of (kp h3 hd)⟩,?_⟩;refine cr (xs:=J2.map V.str) (fun i σ H'=>∃x y,σ=[some (.ref l3),some (.ref l4),some (.ref d),x,y]/\∃ps:List (Str×Addr),ps.map (·.1)=J2.take i/\H' d=some (.dK (dU Sum.inr ps))/\DL H H' d ps/\∀x∈ps,H' x.2=some (.lst []))
  ⟨_,_,rfl,[],rfl,aa,⟨by simp,by simp,by simp,hd,by simp,ac.new hd⟩,by simp⟩ (fun i σ H' _ ⟨_,_,_,_,_,_,D,_⟩=>aA.of (D.same _ _ h3)) ?_ ?_
 ·rintro i x σ H' hi ⟨x3,x4,rfl,ps,hps,hd',D,hls⟩;obtain ⟨w,hw,rfl⟩:=bA hi;have hnew:w∉ps.map (·.1):=by
   rw [hps];intro z;have:=nod;rw [<-pc (i+1) J2,take_snoc hw,cK] at this;have:=this.1;rw [cK] at this;exact this.2.2 w z w (by simp) rfl
  refine ⟨(by show 0<=ai; decide),fun a ha=>?_⟩;have hlen:(dU (Sum.inr:Str->d_) ps).length<ai:=ap (by
   unfold dU;rw [aj,<-aj (f:=(·.1)) (as:=ps),hps,aK]; omega)
  have haH:H a=none:=D.same.free ha;have nda:a≠d:=(ae hd' ha).symm;have hneA:∀x∈ps,x.2≠a:=fun x hx=>ae (hls x hx) ha;refine ⟨_,rfl,_,rfl,d,_,rfl,.inl ⟨_,.inr w,kp hd' ha,rfl,hlen,rfl⟩,_,_,rfl,ps++[(w,a)],?_,?_,?_,?_⟩
  ·rw [ax,hps,take_snoc hw]; rfl
  ·rw [aa,ff _ (lV im hnew),vf]
  ·refine D.snoc hnew hneA haH nda ?_;intro b o q;rw [af (ae q hd)];exact kp (D.same _ _ q) ha
  ·intro x hx;rcases bx.mp hx with hx | hx
   ·rw [af (D.ned x hx)];exact kp (hls x hx) ha
   ·have:x=(w,a):=by simpa using hx
    rw [this,af nda];exact aa
 ·rintro σ H1 ⟨x3,x4,rfl,ps,hps,hd1,D1,hls⟩;rw [aj,aX] at hps;refine ⟨_,rfl,l4,rfl,⟨_,aA.of (D1.same _ _ h4)⟩,?_⟩;refine cr (xs:=ts.map V.ref) (fun i σ H'=>∃x4,σ=[some (.ref l3),some (.ref l4),some (.ref d),x3,x4]/\H' d=some (.dK (dU Sum.inr ps))/\DL H H' d ps/\∀x∈ps,∃us,H' x.2=some (.lst (us.map V.ref))/\cu H' us (bv (ds.take i) x.1))
   ⟨_,rfl,hd1,D1,fun x hx=>⟨[],hls x hx,.nil⟩⟩ (fun i σ H' _ ⟨_,_,_,D,_⟩=>aA.of (D.same _ _ h4)) ?_ ?_
  ·rintro i x σ H' hi ⟨x4,rfl,hd',D,hls⟩;obtain ⟨t,ht,rfl⟩:=dq hi;obtain ⟨dr,hdr,hat⟩:=Paired.getL hds ht;have hat':=hat.kt (ac.kt D.same);have hat2:=hat';obtain ⟨s,ht2,hs2⟩:=hat';have hmem:dr.a∈ps.map (·.1):=by rw [hps]; exact hin dr (bd hdr)
   obtain ⟨⟨r,a⟩,hra,er⟩:=aD.mp hmem;obtain rfl:r=dr.a:=er;obtain ⟨us,hus,hdo⟩:=hls _ hra;have hil:i<ds.length:=(cw.mp hdr).1;have hlu:us.length<=9000:=by
    rw [Paired.length hdo];refine bH (dC _ _) ?_;rw [aK]; omega
   have KT:gJ H' (upd H' a (.lst (us.map V.ref++[.ref t]))):=cA hus;refine ⟨_,rfl,_,rfl,.inr (.inl ⟨t,_,0,_,rfl,rfl,bj.of ht2,rfl,d,.ref a,rfl,.inl ⟨_,.inr dr.a,.inl hd',rfl,(d4 im D.nd hra).symm⟩,.inl ⟨rfl,_,aA.of hus⟩,_,rfl,a,_,_,rfl,rfl,hus,?_,_,rfl,?_,?_,?_⟩)⟩
   ·rw [aj]; exact gu hlu
   ·rw [af (D.ned _ hra).symm]; exact hd'
   ·refine ⟨D.nd,D.na,D.fr,D.frd,D.ned,fun b o q=>?_⟩;rw [af (ae q (D.fr _ hra))];exact D.same _ _ q
   ·intro x hx;have hfl:∀r',bv (ds.take (i+1)) r'=bv (ds.take i) r'++(if dr.a=r' then [dr] else []):=by
     intro r';unfold bv;rw [take_snoc hdr,rP];congr 1;by_cases c:dr.a=r'
     ·rw [if_pos c]; simp [c]
     ·rw [if_neg c]; simp [c]
    by_cases c:x.2=a
    ·have ex:=EC D.na hx hra c;subst ex;refine ⟨us++[t],?_,?_⟩
     ·show upd H' a _ a=_;rw [aa,ax]; rfl
     ·rw [hfl];show cu _ _ (bv (ds.take i) dr.a++(if dr.a=dr.a then [dr] else []))
      rw [if_pos rfl];exact Paired.app (hdo.kt KT) (.cons (hat2.kt KT) .nil)
    ·obtain ⟨us',h1,h2⟩:=hls x hx;have hne:¬(dr.a=x.1):=fun z=>by
      have e1:=d4 (e:=(Sum.inr:Str->d_)) im D.nd hra;have e2:=d4 (e:=(Sum.inr:Str->d_)) (i:=x.1) (a:=x.2) im D.nd hx;rw [<-z,e1] at e2;injection e2 with e2;injection e2 with e2;exact c e2.symm
     refine ⟨us',by rw [af c]; exact h1,?_⟩;rw [hfl,if_neg hne,fK];exact h2.kt KT
  ·rintro σ H' ⟨x4,rfl,hd',D,hls⟩;rw [aj,Paired.length hds,aX] at hls;exact ⟨_,rfl,k d ps H' hps hd' hls D.same⟩
def fU (d:am):Bool:=match d.sg with
 | s::_=>decide (s=("ask":Str))
 | []=>false
inductive sp_has_asks_alone  (vs:List V) (H:Hp) (Q:VK) (E:XK):Prop
 | mk (a:Addr) (us:Ze) (ds:List am):(vs=[.ref a])->(H a=some (.lst (us.map V.ref)))->(cu H us ds)->(ds.length<=9000)->((∀d∈ds,d.sg≠[]))->(∀H',ac H H'->Q (.bl (ds.all fU)) H')->sp_has_asks_alone  vs H Q E
theorem oz {K:Za}{vs:List V}{H:Hp}{Q:VK}{E:XK}(h:sp_has_asks_alone vs H Q E):pH K (bC Q) (start qa vs) H:=by
 obtain ⟨a,us,ds,rfl,ha,hds,hz,hne,k⟩:=h;refine ⟨_,rfl,a,rfl,⟨_,aA.of ha⟩,fun l hl=>?_⟩;refine cJ (xs:=us.map V.ref) (fun i vs H'=>vs=(ds.take i).map (fun d=>V.bl (fU d))/\ac H H'/\H' l=some (.lst vs))
  ⟨rfl,ac.new hl,aa⟩ (fun i vs H' _ ⟨_,hS,h'⟩=>⟨h',aA.of (hS _ _ ha)⟩) ?_ ?_
 ·rintro vs H' ⟨rfl,hS,h'⟩;rw [aj,Paired.length hds,aX] at h';refine ⟨l,ds.map fU,rfl,aA.of (by rw [h',rS]; rfl),?_⟩;rw [List.all_map];exact k H' hS
 ·rintro i vs H' x hx hi ⟨rfl,hS,h'⟩;obtain ⟨t,ht,rfl⟩:=dq hx;obtain ⟨dr,hdr,hat⟩:=Paired.getL hds ht;obtain ⟨s,ht2,hs2⟩:=hat.kt (ac.kt hS);have hmem:=bd hdr;obtain ⟨s0,rest,hsg⟩:∃s0 rest,dr.sg=s0::rest:=by
   cases q:dr.sg with
   | nil=>exact absurd q (hne dr hmem)
   | cons x y=>exact ⟨x,y,rfl⟩
  unfold SignAt at hs2;rw [hsg] at hs2;refine gN (t4 ?_);refine ⟨_,rfl,.inr (.inl ⟨t,_,1,_,rfl,rfl,bj.of ht2,rfl,.inr (.inl ⟨s,_,0,.str s0,rfl,rfl,bj.of hs2,bI (j:=0) rfl,rfl,h',?_,o9 hi ⟨?_,?_,aa⟩⟩)⟩)⟩
  ·rw [aj,aK]; exact gu (by omega)
  ·rw [take_snoc hdr,ax];congr 1;show [V.bl _]=[V.bl _];congr 2;unfold fU;rw [hsg];show decide (V.str s0=V.str _)=decide (s0=_);by_cases c:s0=("ask":Str)
   ·rw [zzr1 c,zzr1 (by rw [c])]
   ·rw [zzr0 c,zzr0 (fun z=>c (by injection z))]
  ·intro b o e;rw [af (ae e hl)];exact hS _ _ e
def tX (x:Str×List Str):TK:=.t [ow x.1,iX x.2]
theorem ij:∀x y:Str×List Str,tX x=tX y->x=y:=by
 intro x y h;unfold tX at h;injection h with h;injection h with h1 h;injection h with h2 h;cases x; cases y;simp only at *;rw [rB h1,jb h2]
theorem lS (x:Str×List Str):(tX x).depth<=8:=by
 show max (TK.depth (ow x.1)) (max (TK.depth (iX x.2)) 0)+1<=8;rw [lM];show max 0 (max 1 0)+1<=8
 decide
def bh (ds:List am) (x:Str×List Str):List Str:=(ds.filter fun d=>decide (d.a=x.1/\d.sg=x.2)).map (·.b)
theorem wZ (ds:List am) (d:am) (x:Str×List Str):bh (ds++[d]) x=bh ds x++(if (d.a,d.sg)=x then [d.b] else []):=by
 unfold bh;rw [rP,ax];congr 1;by_cases c:(d.a,d.sg)=x
 ·subst c;simp
 ·rw [if_neg c];have:¬(d.a=x.1/\d.sg=x.2):=fun z=>c (by cases x; simp only at z; rw [z.1,z.2]);simp [List.filter_cons];intro h1 h2;exact this ⟨h1,h2⟩
theorem lB {ds:List am}{x:Str×List Str}(h:∀d∈ds,(d.a,d.sg)≠x):bh ds x=[]:=by
 unfold bh;rw [rM,List.filter_eq_nil_iff];intro d hd;have:¬(d.a=x.1/\d.sg=x.2):=fun z=>h d hd (by cases x; simp only at z; rw [z.1,z.2]);simp;intro h1 h2;exact this ⟨h1,h2⟩
theorem eD {ds:List am}{x:Str×List Str}{b:Str}:b∈bh ds x↔(⟨x.1,x.2,b⟩:am)∈ds:=by
 unfold bh;rw [aD];constructor
 ·rintro ⟨d,hd,rfl⟩;rw [cx] at hd;obtain ⟨h1,h2⟩:=hd;obtain ⟨h3,h4⟩:=of_decide_eq_true h2;cases d;simp only at h3 h4;rw [<-h3,<-h4]; exact h1
 ·intro h;exact ⟨_,cx.mpr ⟨h,zzr1 ⟨rfl,rfl⟩⟩,rfl⟩
structure je (H:Hp) (g:Addr) (ps:List ((Str×List Str)×Addr)) (ds:List am):Prop where
 nd:(ps.map (·.1)).Nodup
 g:H g=some (.dT (dU tX ps))
 ls:∀x∈ps,H x.2=some (.lst ((bh ds x.1).map V.str))
 all:∀d∈ds,(d.a,d.sg)∈ps.map (·.1)
theorem je.same {H H':Hp}{g:Addr}{ps:List ((Str×List Str)×Addr)}{ds:List am}(h:je H g ps ds) (s:ac H H'):je H' g ps ds:=⟨h.nd,s _ _ h.g,fun x hx=>s _ _ (h.ls x hx),h.all⟩
inductive oj  (vs:List V) (H:Hp) (Q:VK) (E:XK):Prop
 | mk (l4:Addr) (ts:Ze) (ds:List am):(vs=[.ref l4])->(H l4=some (.lst (ts.map V.ref)))->(cu H ts ds)->(ds.length<=9000)->(∀(g:Addr) (ps:List ((Str×List Str)×Addr)) (H':Hp),je H' g ps ds->ac H H'->Q (.ref g) H')->oj  vs H Q E
theorem iK {K:Za}{vs:List V}{H:Hp}{Q:VK}{E:XK}(h:oj vs H Q E):iU K (bC Q) (start iY vs) H:=by
 obtain ⟨l4,ts,ds,rfl,h4,hds,hz,k⟩:=h;refine fun g hg=>?_;refine ⟨_,rfl,l4,rfl,⟨_,aA.of (kp h4 hg)⟩,?_⟩;refine cr (xs:=ts.map V.ref) (fun i σ H'=>∃x y z,σ=[some (.ref l4),some (.ref g),x,y,z]/\∃ps:List ((Str×List Str)×Addr),DL H H' g ps/\H' g=some (.dT (dU tX ps))/\ps.length<=i/\(∀x∈ps,H' x.2=some (.lst ((bh (ds.take i) x.1).map V.str)))/\∀d∈ds.take i,(d.a,d.sg)∈ps.map (·.1))
  ⟨_,_,_,rfl,[],⟨by simp,by simp,by simp,hg,by simp,ac.new hg⟩,aa,by simp,by simp,by simp⟩ (fun i σ H' _ ⟨_,_,_,_,_,D,_⟩=>aA.of (D.same _ _ h4)) ?_ ?_
 ·rintro i x σ H' hi ⟨x2,x3,x4,rfl,ps,D,hg',hlen,hls,hall⟩;obtain ⟨t,ht,rfl⟩:=dq hi;obtain ⟨dr,hdr,hat⟩:=Paired.getL hds ht;have hil:i<ds.length:=(cw.mp hdr).1;obtain ⟨s,ht2,hs2⟩:=hat.kt (ac.kt D.same);refine ⟨t,_,rfl,bj.of ht2,rfl,_,_,rfl,_,_,rfl,_,_,rfl,rfl,?_⟩;refine ⟨_,rfl,.inr (.inr (.inl ⟨rfl,.inr ⟨_,hg'⟩⟩)),_,rfl,_,rfl,(by show 2<=ai; decide),fun kt hkt=>⟨(by show 0<=ai; decide),fun nl hnl=>?_⟩⟩;have S2:ac H' (upd (upd H' kt (.tup [.str dr.a,.ref s])) nl (.lst [])):=(ac.new hkt).trans (ac.new hnl);have hkt2:upd (upd H' kt (.tup [.str dr.a,.ref s])) nl (.lst []) kt=some (.tup [.str dr.a,.ref s]):=kp aa hnl;have hnl2:upd (upd H' kt (.tup [.str dr.a,.ref s])) nl (.lst []) nl=some (.lst []):=aa;have hnlH':H' nl=none:=(ac.new hkt).free hnl;generalize upd (upd H' kt (.tup [.str dr.a,.ref s])) nl (.lst [])=H2 at S2 hkt2 hnl2 ⊢;have htk:cN H2 (tX (dr.a,dr.sg)) (.ref kt):=by
   unfold tX cN;refine ⟨kt,_,rfl,hkt2,?_⟩;unfold TKAts;refine ⟨_,_,rfl,wf _,?_⟩;unfold TKAts;refine ⟨_,_,rfl,SignAt.tk (S2 _ _ hs2),?_⟩;unfold TKAts
   rfl
  have hlk:(dU tX ps).length<ai:=gu (by unfold dU; rw [aj]; omega);have hgo:∀x,bh (ds.take (i+1)) x=bh (ds.take i) x++(if (dr.a,dr.sg)=x then [dr.b] else []):=fun x=>by rw [take_snoc hdr,wZ]
  have hgl:∀x,(bh (ds.take i) x).length<=9000:=fun x=>by
   unfold bh;rw [aj];refine bH (dC _ _) ?_;rw [aK]; omega
  refine ⟨g,kt,_,tX (dr.a,dr.sg),.ref nl,rfl,rfl,S2 _ _ hg',htk,lS _,hlk,fun v hv=>?_,fun hv=>?_⟩
  ·-- there already
   have hmem:(dr.a,dr.sg)∈ps.map (·.1):=by
    refine vT fun z=>?_;rw [lV ij z] at hv;cases hv
   obtain ⟨⟨r,a⟩,hra,er⟩:=aD.mp hmem;obtain rfl:r=(dr.a,dr.sg):=er;rw [d4 ij D.nd hra] at hv;injection hv with hv;subst hv;have hla:=S2 _ _ (hls _ hra);refine ⟨.inl ⟨rfl,_,aA.of hla⟩,_,rfl,a,_,_,rfl,rfl,hla,by rw [aj]; exact gu (hgl _),_,_,_,rfl,ps,⟨D.nd,D.na,D.fr,D.frd,D.ned,fun b o q=>?_⟩,?_,by omega,?_,?_⟩
   ·rw [af (ae q (D.fr _ hra))];exact S2 _ _ (D.same _ _ q)
   ·rw [af (D.ned _ hra).symm]; exact S2 _ _ hg'
   ·intro x hx;by_cases c:x.2=a
    ·have ex:=EC D.na hx hra c;subst ex;show upd H2 a _ a=_;rw [aa,hgo,if_pos rfl,ax]; rfl
    ·have hne:¬((dr.a,dr.sg)=x.1):=fun z=>by
      have e1:=d4 (e:=tX) ij D.nd hra;have e2:=d4 (e:=tX) (i:=x.1) (a:=x.2) ij D.nd hx;rw [<-z,e1] at e2;injection e2 with e2;injection e2 with e2;exact c e2.symm
     rw [af c,hgo,if_neg hne,fK];exact S2 _ _ (hls x hx)
   ·intro d hd;rw [take_snoc hdr] at hd;rcases bx.mp hd with hd | hd
    ·exact hall d hd
    ·have:d=dr:=by simpa using hd
     rw [this]; exact hmem
  ·-- a new list
   have hnew:(dr.a,dr.sg)∉ps.map (·.1):=by
    intro z;obtain ⟨⟨r,a⟩,hra,er⟩:=aD.mp z;obtain rfl:r=(dr.a,dr.sg):=er;rw [d4 ij D.nd hra] at hv;cases hv
   have hgne:nl≠g:=(ae hg' hnlH').symm;have hnl3:upd H2 g (.dT (dU tX ps++[(tX (dr.a,dr.sg),.ref nl)])) nl=some (.lst []):=by rw [af hgne]; exact hnl2
   refine ⟨.inl ⟨rfl,_,aA.of hnl3⟩,_,rfl,nl,_,_,rfl,rfl,hnl3,(by show 0<ai; decide),_,_,_,rfl,ps++[((dr.a,dr.sg),nl)],?_,?_,?_,?_,?_⟩
   ·refine D.snoc hnew (fun x hx=>ae (hls x hx) hnlH') (D.same.free hnlH') hgne ?_;intro b o q;rw [af (ae q (D.same.free hnlH')),af (ae q hg)];exact S2 _ _ (D.same _ _ q)
   ·rw [af hgne.symm,aa,vf]
   ·rw [aM]; show _+1<=_; omega
   ·intro x hx;rcases bx.mp hx with hx | hx
    ·have hne:¬((dr.a,dr.sg)=x.1):=fun z=>hnew (by rw [z]; exact aD.mpr ⟨x,hx,rfl⟩);rw [af (ae (hls x hx) hnlH'),af (D.ned x hx),hgo,if_neg hne,fK];exact S2 _ _ (hls x hx)
    ·have:x=((dr.a,dr.sg),nl):=by simpa using hx
     subst this;have hnil:bh (ds.take i) (dr.a,dr.sg)=[]:=lB fun d hd z=>hnew (by rw [<-z]; exact hall d hd);show upd _ nl _ nl=_;rw [aa,hgo,if_pos rfl,hnil]
     rfl
   ·intro d hd;rw [ax];rw [take_snoc hdr] at hd;rcases bx.mp hd with hd | hd
    ·exact dh _ (hall d hd)
    ·have:d=dr:=by simpa using hd
     rw [this]; exact dz _ (by simp)
 ·rintro σ H' ⟨x2,x3,x4,rfl,ps,D,hg',hlen,hls,hall⟩;rw [aj,Paired.length hds,aX] at hls hall;exact ⟨_,rfl,k g ps H' ⟨D.nd,hg',hls,hall⟩ D.same⟩
theorem lq:∀{L R:Zb},L.Nodup->(∀y∈L,y∈R)->L.length<=R.length
 | [],_,_,_=>c9 _
 | x::L,R,nd,h=>by
  rw [mv] at nd;have hx:=h x eg;have:=lq (L:=L) (R:=R.erase x) nd.2 fun y hy=>(List.mem_erase_of_ne (fun e:y=x=>nd.1 (by rw [<-e]; exact hy))).mpr (h y (fb _ hy));rw [List.length_erase_of_mem hx] at this;have:0<R.length:=List.length_pos_of_mem hx;rw [dP];omega
theorem Reach.in_ {ds:List am}{a b:Str}{J2:Zb}(hr:∀d∈ds,d.b∈J2) (h:Reach ds a b):b∈J2:=by
 cases h with
 | one h=>exact hr _ h
 | step r h=>exact hr _ h
inductive wC  (vs:List V) (H:Hp) (Q:VK) (E:XK):Prop
 | mk (g:Addr) (room:Str) (ps:List ((Str×List Str)×Addr)) (ds:List am) (J2:Zb):(vs=[.ref g,.str room])->(je H g ps ds)->((∀d∈ds,d.b∈J2))->(J2.length<=1000)->(∀(d:Addr) (L:Zb) (H':Hp),H' d=some (.dK (aV L))->L.Nodup->(∀w,w∈L↔Reach ds room w)->H d=none->ac H H'->Q (.ref d) H')->wC  vs H Q E
structure Hz (H0 H:Hp) (ds:List am) (room:Str) (d w:Addr) (L W:Zb) (open_:Str->Prop):Prop where
 d:H d=some (.dK (aV L))
 w:H w=some (.lst (W.map V.str))
 same:ac H0 H
 nd:L.Nodup
 sound:∀y∈L,Reach ds room y
 wait:∀y∈W,y=room∨y∈L
 closed:∀y,(y=room∨y∈L)->y∉W->¬open_ y->∀c∈bh ds (y,av),c∈L
theorem qV {K:Za}{st:Addr}(hst:∀H,bj K H st (av.map V.str)) {vs:List V}{H:Hp}{Q:VK}{E:XK}(h:wC vs H Q E):sr K st (bC Q) (start tO vs) H:=by
 obtain ⟨g,room,ps,ds,J2,rfl,G,hin,hz,k⟩:=h;refine fun d hd=>?_;refine ⟨_,rfl,(by show 1<=ai; decide),fun w hw=>?_⟩;have hwH:H w=none:=(ac.new hd).free hw;have hdw:d≠w:=ae aa hw;refine ⟨fun m σ H'=>∃(L W:Zb) (x y:Option V),σ=[some (.ref g),some (.str room),some (.ref d),some (.ref w),x,y]/\Hz H H' ds room d w L W (fun _=>False)/\m=2 * (J2.length-L.length)+W.length/\m<=2 * J2.length+1,
  ⟨_,[],[room],_,_,rfl,⟨kp aa hw,aa,(ac.new hd).trans (ac.new hw),pB,by simp,by simp,?_⟩,rfl,aG _⟩,?_⟩
 ·intro y hy hn;rcases hy with rfl | hy
  ·simp at hn
  ·cases hy
 rintro m σ H1 ⟨L,W,x4,x5,rfl,D,rfl,hbound⟩;have lenL:∀{L':Zb},L'.Nodup->(∀y∈L',Reach ds room y)->L'.length<=J2.length:=fun nd sd=>lq nd fun y hy=>(sd y hy).in_ hin;refine ⟨_,rfl,.inl ⟨w,_,rfl,.inl (aA.of D.w),_,_,rfl,rfl,_,rfl,?_⟩⟩;refine iW (fun hpos=>?_) (fun hpos=>?_)
 ·have hne:W≠[]:=by
   intro z;rw [z] at hpos;exact absurd (of_decide_eq_true hpos) (by decide)
  obtain ⟨W',here,rfl⟩:∃W' here,W=W'++[here]:=⟨W.dropLast,W.getLast hne,(List.dropLast_concat_getLast hne).symm⟩;have hhere:here=room∨here∈L:=D.wait here (by simp);refine ⟨fun σ' H'=>∃(L' W2:Zb) (x y:Option V),σ'=[some (.ref g),some (.str room),some (.ref d),some (.ref w),x,y]/\Hz H H' ds room d w L' W2 (fun _=>False)/\2 * (J2.length-L'.length)+W2.length<2 * (J2.length-L.length)+(W'++[here]).length,
   fun σ' H' ⟨L',W2,x,y,e,D',hm⟩=>⟨_,hm,L',W2,x,y,e,D',rfl,by omega⟩,?_⟩
  have hlast:((W'++[here]).map V.str)[((W'++[here]).map V.str).length-1]?=some (.str here):=by simp
  have hdrop:((W'++[here]).map V.str).dropLast=W'.map V.str:=by rw [ax]; simp
  refine ⟨_,rfl,.inl ⟨rfl,_,aA.of D.w⟩,w,_,_,rfl,rfl,D.w,hlast,?_⟩;rw [hdrop];have hd1:upd H1 w (.lst (W'.map V.str)) d=some (.dK (aV L)):=by rw [af hdw]; exact D.d
  have hw1:upd H1 w (.lst (W'.map V.str)) w=some (.lst (W'.map V.str)):=aa;have S1:ac H (upd H1 w (.lst (W'.map V.str))):=fun b o q=>by rw [af (ae q hwH)]; exact D.same _ _ q
  generalize upd H1 w (.lst (W'.map V.str))=H2 at hd1 hw1 S1 ⊢;have G2:=G.same S1;refine ⟨_,rfl,g,rfl,.inr ⟨_,.inl G2.g⟩,_,rfl,(by show 2<=ai; decide),fun kt hkt=>⟨(by show 0<=ai; decide),fun et het=>⟨bJ (dU tX ps) (tX (here,av)),.inr ⟨_,tX (here,av),kt,.inl ?_,rfl,?_,lS _,rfl⟩,?_⟩⟩⟩
  ·exact kp (kp G2.g hkt) het
  ·unfold tX lG;refine ⟨kt,_,rfl,bj.of (kp aa het),?_⟩;unfold TKIns;refine ⟨_,_,rfl,?_,?_⟩
   ·unfold ow lG; rfl
   unfold TKIns;refine ⟨_,_,rfl,?_,?_⟩
   ·unfold iX lG;refine ⟨st,_,rfl,hst _,?_⟩;unfold av;show TKIns K _ [ow _] [V.str _];unfold TKIns;refine ⟨_,_,rfl,?_,?_⟩
    ·unfold ow lG; rfl
    unfold TKIns; rfl
   unfold TKIns; rfl
  have S3:ac H2 (upd (upd H2 kt (.tup [.str here,.ref st])) et (.tup [])):=(ac.new hkt).trans (ac.new het);have het3:upd (upd H2 kt (.tup [.str here,.ref st])) et (.tup []) et=some (.tup []):=aa;generalize upd (upd H2 kt (.tup [.str here,.ref st])) et (.tup [])=H3 at S3 het3 ⊢;have D3:Hz H H3 ds room d w L W' (fun y=>y=here):=⟨S3 _ _ hd1,S3 _ _ hw1,S1.trans S3,D.nd,D.sound,fun y hy=>D.wait y (dh _ hy),fun y hy hn ho=>D.closed y hy (fun z=>by rcases bx.mp z with z | z; exact hn z; exact ho (by simpa using z)) (fun z=>z)⟩;have hm3:2 * (J2.length-L.length)+W'.length<2 * (J2.length-L.length)+(W'++[here]).length:=by rw [aM]; show _<_+(_+1); omega
  have fin:∀(H4:Hp) (L' W2:Zb) (x y:Option V),Hz H H4 ds room d w L' W2 (fun y=>y=here)->(∀c∈bh ds (here,av),c∈L')->2 * (J2.length-L'.length)+W2.length<2 * (J2.length-L.length)+(W'++[here]).length ->
    ∃(L' W2:Zb) (x' y':Option V),[some (V.ref g),some (.str room),some (.ref d),some (.ref w),x,y]=[some (.ref g),some (.str room),some (.ref d),some (.ref w),x',y']/\Hz H H4 ds room d w L' W2 (fun _=>False)/\2 * (J2.length-L'.length)+W2.length<2 * (J2.length-L.length)+(W'++[here]).length:=by
   intro H4 L' W2 x y D4 hc hm;refine ⟨L',W2,x,y,rfl,⟨D4.d,D4.w,D4.same,D4.nd,D4.sound,D4.wait,fun y hy hn _=>?_⟩,hm⟩;by_cases e:y=here
   ·rw [e]; exact hc
   ·exact D4.closed y hy hn e
  by_cases hmem:(here,av)∈ps.map (·.1)
  ·obtain ⟨⟨r,a⟩,hra,er⟩:=aD.mp hmem;obtain rfl:r=(here,av):=er;rw [d4 ij G.nd hra];have hla:=G.ls _ hra;refine ⟨a,rfl,.inl ⟨⟨_,aA.of ((S1.trans S3) _ _ hla)⟩,?_⟩⟩;refine cr (xs:=(bh ds (here,av)).map V.str) (fun j σ H'=>∃(L' W2:Zb) (y:Option V),σ=[some (.ref g),some (.str room),some (.ref d),some (.ref w),some (.str here),y]/\Hz H H' ds room d w L' W2 (fun y=>y=here)/\(here=room∨here∈L')/\(∀c∈(bh ds (here,av)).take j,c∈L') /\
     2 * (J2.length-L'.length)+W2.length<2 * (J2.length-L.length)+(W'++[here]).length)
    ⟨L,W',_,rfl,D3,hhere,by simp,hm3⟩ (fun j σ H' _ ⟨_,_,_,_,D',_⟩=>aA.of (D'.same _ _ hla)) ?_ ?_
   ·rintro j x σ H4 hj ⟨L',W2,y,rfl,D4,hh,hc,hm⟩;obtain ⟨goal,hgoal,rfl⟩:=bA hj;have hedge:(⟨here,av,goal⟩:am)∈ds:=eD.mp (bd hgoal);have hreach:Reach ds room goal:=by
     rcases hh with hh | hh
     ·rw [hh] at hedge; exact .one hedge
     ·exact .step (D4.sound _ hh) hedge
    have hlen':=lenL D4.nd D4.sound;refine ⟨_,rfl,_,rfl,d,_,rfl,.inl ⟨_,.inr goal,.inl D4.d,rfl,rfl⟩,_,rfl,?_⟩;rw [eR];by_cases c:goal∈L'
    ·rw [zzr1 c];refine a_ ⟨L',W2,_,rfl,D4,hh,?_,hm⟩;intro c' hc';rw [take_snoc hgoal] at hc';rcases bx.mp hc' with h | h
     ·exact hc c' h
     ·have:c'=goal:=by simpa using h
      rw [this]; exact c
    ·rw [zzr0 c];refine bW ?_;have nd':(L'++[goal]).Nodup:=by
      rw [cK];refine ⟨D4.nd,by simp,fun a ha b hb e=>?_⟩;have:b=goal:=by simpa using hb
      exact c (by rw [<-this,<-e]; exact ha)
     have sd':∀y∈L'++[goal],Reach ds room y:=by
      intro y hy;rcases bx.mp hy with hy | hy
      ·exact D4.sound y hy
      ·have:y=goal:=by simpa using hy
       rw [this]; exact hreach
     have hlen2:=lenL nd' sd';rw [aM] at hlen2;have hlen3:L'.length+1<=J2.length:=hlen2;have hWl:W2.length<=9000:=by omega
     refine ⟨_,rfl,_,rfl,d,_,rfl,.inl ⟨_,.inr goal,D4.d,rfl,ap (bH (j5 _) (by omega)),rfl⟩,?_⟩;have hw5:upd H4 d (.dK (cq (aV L') (.inr goal) (.bl true))) w=some (.lst (W2.map V.str)):=by rw [af hdw.symm]; exact D4.w
     refine ⟨_,rfl,.inl ⟨rfl,_,aA.of hw5⟩,_,rfl,w,_,_,rfl,rfl,hw5,by rw [aj]; exact gu hWl,L'++[goal],W2++[goal],_,rfl,⟨?_,?_,?_,nd',sd',?_,?_⟩,?_,?_,?_⟩
     ·rw [af hdw,aa,dB]
     ·rw [aa,ax]; rfl
     ·intro b o q;rw [af (ae q hwH),af (ae q hd)];exact D4.same _ _ q
     ·intro y hy;rcases bx.mp hy with hy | hy
      ·rcases D4.wait y hy with h | h
       ·exact .inl h
       ·exact .inr (dh _ h)
      ·exact .inr (dz _ hy)
     ·intro y hy hn ho c' hc';have hn1:y∉W2:=fun z=>hn (dh _ z);have hyg:y≠goal:=fun z=>hn (dz _ (by simp [z]));refine dh _ (D4.closed y ?_ hn1 ho c' hc');rcases hy with hy | hy
      ·exact .inl hy
      ·rcases bx.mp hy with hy | hy
       ·exact .inr hy
       ·exact absurd (by simpa using hy) hyg
     ·rcases hh with h | h
      ·exact .inl h
      ·exact .inr (dh _ h)
     ·intro c' hc';rw [take_snoc hgoal] at hc';rcases bx.mp hc' with h | h
      ·exact dh _ (hc c' h)
      ·exact dz _ h
     ·rw [aM,aM];show 2 * (J2.length-(L'.length+1))+(W2.length+1)<_;omega
   ·rintro σ H4 ⟨L',W2,y,rfl,D4,hh,hc,hm⟩;rw [aj,aX] at hc;exact fin H4 L' W2 _ _ D4 hc hm
  ·rw [lV ij hmem];refine ⟨et,rfl,.inr ⟨⟨_,bj.of het3⟩,?_⟩⟩;have hnil:bh ds (here,av)=[]:=lB fun x hx z=>hmem (by rw [<-z]; exact G.all x hx);refine BT (xs:=[]) (fun j σ H'=>σ=[some (.ref g),some (.str room),some (.ref d),some (.ref w),some (.str here),x5]/\H'=H3) ⟨rfl,rfl⟩ (fun j σ H' _ ⟨_,e⟩=>by rw [e]; exact bj.of het3) (fun j x σ H' hj=>by cases hj) ?_;rintro σ H' ⟨rfl,rfl⟩;exact fin _ L W' _ _ D3 (by rw [hnil]; simp) hm3
 ·have hnil:W=[]:=by
   cases W with
   | nil=>rfl
   | cons a W=>exact absurd (zzr1 (by rw [aj,dP]; omega)) hpos
  subst hnil;refine ⟨_,rfl,k d L H1 D.d D.nd (fun w=>⟨D.sound w,fun hr=>?_⟩) hd D.same⟩
  induction hr with
  | one h=>exact D.closed room (.inl rfl) (by simp) (fun z=>z) _ (eD.mpr h)
  | step r h ih=>exact D.closed _ (.inr ih) (by simp) (fun z=>z) _ (eD.mpr h)
inductive sp_first_led_round  (vs:List V) (H:Hp) (Q:VK) (E:XK):Prop
 | mk (l3 d:Addr) (J2:Zb) (ps:List (Str×Addr)):(vs=[.ref l3,.ref d])->(H l3=some (.lst (J2.map V.str)))->(H d=some (.dK (dU Sum.inr ps)))->(ps.map (·.1)=J2)->(J2.Nodup)->((∀x∈ps,∃L,H x.2=some (.dK (aV L))/\x.1∉L))->(∀H',ac H H'->Q .non H')->sp_first_led_round  vs H Q E
theorem m_ {K:Za}{vs:List V}{H:Hp}{Q:VK}{E:XK}(h:sp_first_led_round vs H Q E):nW K (bC Q) (start o5 vs) H:=by
 obtain ⟨l3,d,J2,ps,rfl,h3,hd,hps,nod,hL,k⟩:=h;refine ⟨_,rfl,l3,rfl,⟨_,aA.of h3⟩,?_⟩;refine lC (xs:=J2.map V.str) (fun i σ H'=>∃x y,σ=[some (.ref l3),some (.ref d),x,y]/\ac H H') ⟨_,_,rfl,ac.refl H⟩ (fun i σ H' _ ⟨_,_,_,S⟩=>aA.of (S _ _ h3)) ?_ ?_
 ·rintro i x σ H' t hi ⟨x2,x3,rfl,S⟩ ht;obtain ⟨w,hw,rfl⟩:=bA hi;refine ⟨t,_,rfl,bj.of aa,rfl,_,_,rfl,_,_,rfl,rfl,?_⟩;have S2:ac H (upd H' t (.tup [.int i,.str w])):=S.trans (ac.new ht);generalize upd H' t (.tup [.int i,.str w])=H2 at S2 ⊢;have hmem:w∈ps.map (·.1):=by rw [hps]; exact bd hw
  obtain ⟨⟨r,a⟩,hra,er⟩:=aD.mp hmem;obtain rfl:r=w:=er;obtain ⟨L,hLa,hn⟩:=hL _ hra;refine ⟨_,rfl,_,rfl,_,rfl,d,.ref a,rfl,.inl ⟨_,.inr r,.inl (S2 _ _ hd),rfl,(d4 im (by rw [hps]; exact nod) hra).symm⟩,a,_,rfl,.inl ⟨_,.inr r,.inl (S2 _ _ hLa),rfl,rfl⟩,_,rfl,?_⟩;rw [eR,zzr0 hn];exact a_ ⟨_,_,rfl,S2⟩
 ·rintro σ H' ⟨x,y,rfl,S⟩;exact k H' S
abbrev lk (f:Str) (fs:List (Str×V)):Option V:=fs.lookup f
def e_ (ds:List am) (r:Str):Bool:=(bv ds r).all fU
structure bB (C:Addr) (H:Hp) (x:Addr) (J0 J1 J2:Zb) (ds:List am):Prop where
 at_:∃(dx:Addr) (fs:List (Str×V)) (o1 o2 o3 o4 lv qu sg sl:Addr) (ts:Ze) (lps:List (Str×Addr)) (gps:List ((Str×List Str)×Addr)) (sps:List (Str×Addr)),
  H x=some (.ins C dx fs)/\lk "is_quiet" fs=none/\lk "goals" fs=none/\lk "led_from" fs=none/\lk "rooms" fs=none /\
  lk "own_asks" fs=some (.ref o1)/\lk "own_says" fs=some (.ref o2)/\lk "own_rooms" fs=some (.ref o3)/\lk "own_doors" fs=some (.ref o4) /\
  lk "leaving" fs=some (.ref lv)/\lk "quiet" fs=some (.ref qu)/\lk "sign_goals" fs=some (.ref sg)/\lk "still_led" fs=some (.ref sl) /\
  Lists H o1 o2 o3 o4 ts J0 J1 J2 ds /\
  lps.map (·.1)=J2/\H lv=some (.dK (dU Sum.inr lps))/\(∀x∈lps,∃us,H x.2=some (.lst (us.map V.ref))/\cu H us (bv ds x.1)) /\
  H qu=some (.dK (aV (J2.filter (e_ ds))))/\je H sg gps ds /\
  sps.map (·.1)=J2/\H sl=some (.dK (dU Sum.inr sps))/\(∀x∈sps,∃L,H x.2=some (.dK (aV L))/\L.Nodup/\∀w,w∈L↔Reach ds x.1 w)
 ok:aQ J0 J1 J2 ds
 more:∃(dx:Addr) (fs:List (Str×V)),H x=some (.ins C dx fs)/\lk "asks" fs=none/\lk "says" fs=none/\lk "doors" fs=none/\lk "doors_from" fs=none
theorem dS (f:Str) (v:V):∀fs:List (Str×V),(cE f v fs).length<=fs.length+1
 | []=>aG _
 | (g,x)::r=>by
  unfold cE;split
  ·exact mw _
  ·rw [dP,dP];have:=dS f v r;omega
theorem sZ:∀(ps qs:List (Str×Addr)),((qs++ps).map (·.1)).Nodup->jn (dU Sum.inr qs) (dU Sum.inr ps)=dU Sum.inr (qs++ps)
 | [],qs,_=>by rw [fK]; rfl
 | p::ps,qs,nd=>by
  show jn (cq (dU Sum.inr qs) (Sum.inr p.1) (.ref p.2)) (dU Sum.inr ps)=_;have e:qs++p::ps=(qs++[p])++ps:=by simp
  rw [e] at nd ⊢;have hnew:p.1∉qs.map (·.1):=by
   rw [ax,ax,cK] at nd;have:=nd.1;rw [cK] at this;intro z;exact this.2.2 _ z _ (by simp) rfl
  rw [ff _ (lV im hnew)];have:=sZ ps (qs++[p]) nd;rw [<-this];have e2:dU (Sum.inr:Str->d_) (qs++[p])=dU Sum.inr qs++[(Sum.inr p.1,V.ref p.2)]:=by
   unfold dU; rw [ax]; rfl
  rw [e2]
inductive rm (C:Addr) (vs:List V) (H:Hp) (Q:VK) (E:XK):Prop
 | mk (x dx l1 l2 l3 l4:Addr) (ts:Ze) (J0 J1 J2:Zb) (ds:List am):(vs=[.ref x,.ref l1,.ref l2,.ref l3,.ref l4])->(H x=some (.ins C dx []))->(Lists H l1 l2 l3 l4 ts J0 J1 J2 ds)->(aQ J0 J1 J2 ds)->(∀H',bB C H' x J0 J1 J2 ds->cR x H H'->Q .non H')->rm C vs H Q E
theorem Lists.exI {H H':Hp}{x C dx:Addr}{fs:List (Str×V)}{l1 l2 l3 l4:Addr}{ts:Ze}{J0 J1 J2:Zb}{ds:List am}(h:Lists H l1 l2 l3 l4 ts J0 J1 J2 ds) (hx:H x=some (.ins C dx fs)) (e:cR x H H'):Lists H' l1 l2 l3 l4 ts J0 J1 J2 ds:=by
 have ne:∀{b:Addr}{xs:List V},H b=some (.lst xs)->b≠x:=fun hb z=>by rw [z,hx] at hb; cases hb
 exact ⟨e _ _ h.a1 (ne h.a1),e _ _ h.a2 (ne h.a2),e _ _ h.a3 (ne h.a3),e _ _ h.a4 (ne h.a4),h.ds.kt fun b xs hb=>e _ _ hb fun z=>by rw [z,hx] at hb; cases hb⟩
theorem cR.ktI {H H':Hp}{x C dx:Addr}{fs:List (Str×V)}(e:cR x H H') (hx:H x=some (.ins C dx fs)):gJ H H':=fun b xs hb=>e _ _ hb fun z=>by rw [z,hx] at hb; cases hb
theorem cR.neI {H:Hp}{x C dx:Addr}{fs:List (Str×V)}(hx:H x=some (.ins C dx fs)) {b:Addr}{xs:List V}(hb:H b=some (.lst xs)):b≠x:=fun z=>by rw [z,hx] at hb; cases hb
theorem EB {H:Hp}{x C dx:Addr}{fs:List (Str×V)}(hx:H x=some (.ins C dx fs)) {b:Addr}{kvs:List (d_×V)}(hb:H b=some (.dK kvs)):b≠x:=fun z=>by rw [z,hx] at hb; cases hb
theorem GW {H:Hp}{x C dx:Addr}{fs:List (Str×V)}(hx:H x=some (.ins C dx fs)) {b:Addr}{kvs:List (TK×V)}(hb:H b=some (.dT kvs)):b≠x:=fun z=>by rw [z,hx] at hb; cases hb
structure MC (K:Za) (C:Addr):Prop where
 cls:Cq K C
 a1:dI K C "own_asks"
 a2:dI K C "own_says"
 a3:dI K C "own_rooms"
 a4:dI K C "own_doors"
 a5:dI K C "leaving"
 a6:dI K C "quiet"
 a7:dI K C "sign_goals"
 a8:dI K C "still_led"
theorem p7 {H:Hp}{x C dx:Addr}{fs:List (Str×V)}(f:Str) (y:V) (hx:H x=some (.ins C dx fs)):∃H',H'=upd H x (.ins C dx (cE f y fs))/\H' x=some (.ins C dx (cE f y fs))/\cR x H H' :=
 ⟨_,rfl,aa,cR.upd _ _ _⟩
theorem cI {p:Str->Bool}{ws:Zb}{i:Nat}{w:Str}(h:ws[i]?=some w):(ws.take (i+1)).filter p=(ws.take i).filter p++(if p w=true then [w] else []):=by
 rw [take_snoc h,rP];congr 1;by_cases c:p w=true
 ·rw [if_pos c]; simp [c]
 ·rw [if_neg c]; simp [c]
theorem Au (ds:List am) (r:Str):(bv ds r).length<=ds.length:=dC _ _
theorem aQ.sg0 {J0 J1 J2:Zb}{ds:List am}(m:aQ J0 J1 J2 ds) {r:Str}:∀d∈bv ds r,d.sg≠[]:=by
 intro d hd;have:=m.good d (cx.mp hd).1;rcases this.sg with ⟨w,_,e⟩ | ⟨w,_,e⟩ | e <;> rw [e] <;> exact List.cons_ne_nil _ _
theorem FT {K:Za}{C:Addr}(M:MC K C) {vs:List V}{H:Hp}{Q:VK}{E:XK}(h:rm C vs H Q E) :
  mU K sp_need_none sp_first_led_round wC oj (sp_as_keys K) sp_has_asks_alone sp_doors_by_start sp_need_parts (bC Q) (start nH vs) H:=by
 obtain ⟨x,dx,l1,l2,l3,l4,ts,J0,J1,J2,ds,rfl,hx,L,m,k⟩:=h;have z3:=m.rooms26;have z4:=m.few;refine ⟨_,rfl,_,rfl,_,rfl,_,rfl,l1,l2,l3,l4,ts,J0,J1,J2,ds,rfl,L,m,fun H1 S1=>?_⟩;have hx1:=S1 _ _ hx;have L1:=L.same S1;have E1:cR x H H1:=ac.exB S1;refine ⟨_,rfl,.inl ⟨l1,_,rfl,.inl (aA.of L1.a1),fun o1 ho1=>⟨_,rfl,x,C,dx,_,rfl,kp hx1 ho1,M.cls,M.a1,(by show 0<1000; decide),?_⟩⟩⟩;obtain ⟨H2,e2,hx2,F2⟩:=p7 "own_asks" (.ref o1) (kp (x:=.lst (J0.map V.str)) hx1 ho1);rw [<-e2];have n1:o1≠x:=(ae hx1 ho1).symm;have f1:=F2 _ _ aa n1;have E2:cR x H1 H2:=(cR.new ho1).trans F2;have L2':=L1.exI hx1 E2;have len2:(cE ("own_asks":Str) (.ref o1) []).length<=1:=dS _ _ _;clear e2 F2;refine ⟨_,rfl,.inl ⟨l2,_,rfl,.inl (aA.of L2'.a2),fun o2 ho2=>⟨_,rfl,x,C,dx,_,rfl,kp hx2 ho2,M.cls,M.a2,by omega,?_⟩⟩⟩;obtain ⟨H3,e3,hx3,F3⟩:=p7 "own_says" (.ref o2) (kp (x:=.lst (J1.map V.str)) hx2 ho2);rw [<-e3];have n2:o2≠x:=(ae hx2 ho2).symm;have f2:=F3 _ _ aa n2;have E3:cR x H2 H3:=(cR.new ho2).trans F3;have L3:=L2'.exI hx2 E3;have len3:=dS ("own_says":Str) (.ref o2) (cE ("own_asks":Str) (.ref o1) []);clear e3 F3;refine ⟨_,rfl,.inl ⟨l3,_,rfl,.inl (aA.of L3.a3),fun o3 ho3=>⟨_,rfl,x,C,dx,_,rfl,kp hx3 ho3,M.cls,M.a3,by omega,?_⟩⟩⟩;obtain ⟨H4,e4,hx4,F4⟩:=p7 "own_rooms" (.ref o3) (kp (x:=.lst (J2.map V.str)) hx3 ho3);rw [<-e4];have n3:o3≠x:=(ae hx3 ho3).symm;have f3:=F4 _ _ aa n3;have E4:cR x H3 H4:=(cR.new ho3).trans F4;have L4:=L3.exI hx3 E4;have len4:=dS ("own_rooms":Str) (.ref o3) (cE ("own_says":Str) (.ref o2) (cE ("own_asks":Str) (.ref o1) []));clear e4 F4;refine ⟨_,rfl,.inl ⟨l4,_,rfl,.inl (aA.of L4.a4),fun o4 ho4=>⟨_,rfl,x,C,dx,_,rfl,kp hx4 ho4,M.cls,M.a4,by omega,?_⟩⟩⟩;obtain ⟨H5,e5,hx5,F5⟩:=p7 "own_doors" (.ref o4) (kp (x:=.lst (ts.map V.ref)) hx4 ho4);rw [<-e5];have n4:o4≠x:=(ae hx4 ho4).symm;have f4:=F5 _ _ aa n4;have E5:cR x H4 H5:=(cR.new ho4).trans F5;have L5:=L4.exI hx4 E5;generalize hfs4:cE ("own_doors":Str) (.ref o4) (cE ("own_rooms":Str) (.ref o3) (cE ("own_says":Str) (.ref o2) (cE ("own_asks":Str) (.ref o1) [])))=fs4 at hx5;have len5:fs4.length<=4:=by
  rw [<-hfs4];have:=dS ("own_doors":Str) (.ref o4) (cE ("own_rooms":Str) (.ref o3) (cE ("own_says":Str) (.ref o2) (cE ("own_asks":Str) (.ref o1) [])));omega
 clear e5 F5;refine ⟨_,rfl,_,rfl,l3,l4,ts,J2,ds,rfl,L5.a3,L5.a4,L5.ds,m.okR.1,by omega,by omega,fun d hd=>(m.good d hd).a,fun lv lps H6' hlps flv' hlv' S6=>⟨_,rfl,x,C,dx,fs4,rfl,S6 _ _ hx5,M.cls,M.a5,by omega,?_⟩⟩;obtain ⟨H6,e6,hx6,F6⟩:=p7 "leaving" (.ref lv) (S6 _ _ hx5);rw [<-e6];have E6:cR x H5 H6:=(ac.exB S6).trans F6;have L6:=L5.exI hx5 E6;have flv:=F6 _ _ flv' (EB (S6 _ _ hx5) flv');have hlv:∀y∈lps,∃us,H6 y.2=some (.lst (us.map V.ref))/\cu H6 us (bv ds y.1):=fun y hy=>by
  obtain ⟨us,g1,g2⟩:=hlv' y hy;exact ⟨us,F6 _ _ g1 (cR.neI (S6 _ _ hx5) g1),g2.kt (F6.ktI (S6 _ _ hx5))⟩
 have ndl:(lps.map (·.1)).Nodup:=by rw [hlps]; exact m.okR.1
 have len6:=dS ("leaving":Str) (.ref lv) fs4;have lk5:lk "leaving" (cE ("leaving":Str) (.ref lv) fs4)=some (.ref lv):=by
  show kr _ _=_;rw [eF,if_pos rfl]
 clear e6 F6 flv' hlv';refine ⟨_,rfl,l3,rfl,⟨_,aA.of L6.a3⟩,fun f hf=>?_⟩;refine cJ (xs:=J2.map V.str) (fun i vs H'=>vs=((J2.take i).filter (e_ ds)).map V.str/\ac H6 H'/\H' f=some (.lst vs)) ⟨rfl,ac.new hf,aa⟩ (fun i vs H' _ ⟨_,S,h'⟩=>⟨h',aA.of (S _ _ L6.a3)⟩) ?_ ?_;rotate_left
 ·rintro i vs H' x' hx' hi ⟨rfl,S,f'⟩;obtain ⟨r,hr,rfl⟩:=bA hx';obtain ⟨⟨r',a⟩,hra,er⟩:=aD.mp (show r∈lps.map (·.1) by rw [hlps]; exact bd hr);obtain rfl:r'=r:=er;obtain ⟨us,hus,hdo⟩:=hlv _ hra;refine gN ?_;refine ⟨_,rfl,x,C,dx,_,.ref lv,rfl,S _ _ hx6,M.cls,M.a5,lk5,_,rfl,lv,.ref a,rfl,.inl ⟨_,.inr r',.inl (S _ _ flv),rfl,(d4 im ndl hra).symm⟩,a,us,bv ds r',rfl,S _ _ hus,hdo.kt (ac.kt S),bH (Au _ _) (by omega),m.sg0,fun H'' S''=>⟨_,rfl,?_⟩⟩;have hlen:(((J2.take i).filter (e_ ds)).map V.str).length<ai:=by
   rw [aj];refine ap (bH (dC _ _) ?_);rw [aK]; omega
  refine iW (fun hq=>?_) (fun hq=>?_)
  ·refine ⟨_,rfl,S'' _ _ f',hlen,o9 hi ⟨?_,?_,aa⟩⟩
   ·rw [cI hr,if_pos (show e_ ds r'=true from hq),ax]; rfl
   ·intro b o q;rw [af (ae q hf)];exact S'' _ _ (S _ _ q)
  ·refine o9 hi ⟨?_,S.trans S'',?_⟩
   ·rw [cI hr,if_neg (show ¬e_ ds r'=true from hq),fK]
   ·exact S'' _ _ f'
 rintro vs H7' ⟨rfl,S7,f7⟩;rw [aj,aX] at f7;refine p8 (ws:=J2.filter (e_ ds)) (aA.of f7) (bH (dC _ _) (by omega)) fun qu hqu=>⟨_,rfl,x,C,dx,_,rfl,kp (S7 _ _ hx6) hqu,M.cls,M.a6,by omega,?_⟩;obtain ⟨H7,e7,hx7,F7⟩:=p7 "quiet" (.ref qu) (kp (x:=.dK (aV (J2.filter (e_ ds)))) (S7 _ _ hx6) hqu);rw [<-e7];have n7:qu≠x:=(ae (S7 _ _ hx6) hqu).symm;have fqu:=F7 _ _ aa n7;have E7:cR x H6 H7:=((ac.exB S7).trans (cR.new hqu)).trans F7;have L7:=L6.exI hx6 E7;have len7:=dS ("quiet":Str) (.ref qu) (cE ("leaving":Str) (.ref lv) fs4);clear e7 F7;refine ⟨_,rfl,l4,ts,ds,rfl,L7.a4,L7.ds,by omega,fun sg gps H8' G' S8=>⟨_,rfl,x,C,dx,_,rfl,S8 _ _ hx7,M.cls,M.a7,by omega,?_⟩⟩;obtain ⟨H8,e8,hx8,F8⟩:=p7 "sign_goals" (.ref sg) (S8 _ _ hx7);rw [<-e8];have E8:cR x H7 H8:=(ac.exB S8).trans F8;have L8:=L7.exI hx7 E8;have G8:je H8 sg gps ds:=⟨G'.nd,F8 _ _ G'.g (GW (S8 _ _ hx7) G'.g),fun y hy=>F8 _ _ (G'.ls y hy) (cR.neI (S8 _ _ hx7) (G'.ls y hy)),G'.all⟩;have len8:=dS ("sign_goals":Str) (.ref sg) (cE ("quiet":Str) (.ref qu) (cE ("leaving":Str) (.ref lv) fs4));have lk7:lk "sign_goals" (cE ("sign_goals":Str) (.ref sg) (cE ("quiet":Str) (.ref qu) (cE ("leaving":Str) (.ref lv) fs4)))=some (.ref sg):=by
  show kr _ _=_;rw [eF,if_pos rfl]
 clear e8 F8 G';refine ⟨_,rfl,l3,rfl,⟨_,aA.of L8.a3⟩,fun f2' hf2=>?_⟩;refine cJ (xs:=J2.map V.str) (fun i vs H'=>∃(us:Ze) (pl:List (Str×Addr)),vs=us.map V.ref/\Paired (fun t (p:Str×Addr)=>H' t=some (.tup [.str p.1,.ref p.2])) us pl/\pl.map (·.1)=J2.take i/\(∀p∈pl,∃L,H' p.2=some (.dK (aV L))/\L.Nodup/\∀w,w∈L↔Reach ds p.1 w)/\ac H8 H'/\H' f2'=some (.lst vs))
  ⟨[],[],rfl,.nil,rfl,by simp,ac.new hf2,aa⟩ (fun i vs H' _ ⟨_,_,_,_,_,_,S,h'⟩=>⟨h',aA.of (S _ _ L8.a3)⟩) ?_ ?_
 rotate_left
 ·rintro i vs H' x' hx' hi ⟨us,pl,rfl,hpa,hpl,hle,S,f'⟩;obtain ⟨r,hr,rfl⟩:=bA hx';have hilen:us.length<=150:=by
   rw [Paired.length hpa,<-aj (f:=(·.1)) (as:=pl),hpl,aK]; omega
  refine gN (t4 ?_);refine ⟨_,rfl,_,rfl,x,C,dx,_,.ref sg,rfl,S _ _ hx8,M.cls,M.a7,lk7,_,rfl,sg,r,gps,ds,J2,rfl,G8.same S,fun d hd=>(m.good d hd).b,by omega,fun ld Lr H'' hld nd hLr hfr S''=>⟨(by show 2<=ai; decide),fun t ht=>⟨?_,?_,o9 hi ⟨us++[t],pl++[(r,ld)],?_,?_,?_,?_,?_,aa⟩⟩⟩⟩
  ·exact kp (S'' _ _ f') ht
  ·rw [aj]; exact ap (by omega)
  ·rw [ax]; rfl
  ·have KT:gJ (upd H'' t (.tup [.str r,.ref ld])) (upd (upd H'' t (.tup [.str r,.ref ld])) f2' (.lst (us.map V.ref++[.ref t]))):=cA (kp (S'' _ _ f') ht);exact Paired.app (Paired.mapP hpa fun t' p' e=>KT _ _ (kp (S'' _ _ e) ht)) (.cons (KT _ _ aa) .nil)
  ·rw [ax,hpl,take_snoc hr]; rfl
  ·have ned:∀{b:Addr}{kvs:List (d_×V)},upd H'' t (.tup [.str r,.ref ld]) b=some (.dK kvs)->b≠f2':=fun hb z=>by rw [z,kp (S'' _ _ f') ht] at hb; cases hb
   intro p hp;rcases bx.mp hp with hp | hp
   ·obtain ⟨L0,g1,g2⟩:=hle p hp;refine ⟨L0,?_,g2⟩;have:=kp (x:=.tup [.str r,.ref ld]) (S'' _ _ g1) ht;rw [af (ned this)]; exact this
   ·have:p=(r,ld):=by simpa using hp
    subst this;refine ⟨Lr,?_,nd,hLr⟩;have:=kp (x:=.tup [.str r,.ref ld]) hld ht;rw [af (ned this)]; exact this
  ·intro b o q;rw [af (ae q hf2)];exact kp (S'' _ _ (S _ _ q)) ht
 rintro vs H9' ⟨us,sps,rfl,hpa,hsps,hled,S9,f9⟩;rw [aj,aX] at hsps;have nds:(sps.map (·.1)).Nodup:=by rw [hsps]; exact m.okR.1
 refine ⟨f2',us,dU Sum.inr sps,rfl,aA.of f9,?_,?_,fun sl hsl=>⟨_,rfl,x,C,dx,_,rfl,kp (S9 _ _ hx8) hsl,M.cls,M.a8,by omega,?_⟩⟩
 ·rw [Paired.length hpa]; unfold dU; rw [aj]
 ·intro j t kv hj hkv;obtain ⟨p,hp,e⟩:=Paired.getL hpa hj;unfold dU at hkv;rw [b0,hp] at hkv;have:=dZ hkv;rw [<-this];exact e
 have emerge:jn [] (dU Sum.inr sps)=dU Sum.inr sps:=sZ sps [] nds;rw [emerge];obtain ⟨H9,e9,hx9,F9⟩:=p7 "still_led" (.ref sl) (kp (x:=.dK (dU Sum.inr sps)) (S9 _ _ hx8) hsl);rw [<-e9];have n9:sl≠x:=(ae (S9 _ _ hx8) hsl).symm;have fsl:=F9 _ _ aa n9;have E9:cR x H8 H9:=((ac.exB S9).trans (cR.new hsl)).trans F9;have L9:=L8.exI hx8 E9;have hled9:∀p∈sps,∃L,H9 p.2=some (.dK (aV L))/\L.Nodup/\∀w,w∈L↔Reach ds p.1 w:=fun p hp=>by
  obtain ⟨L0,g1,g2⟩:=hled p hp;have g3:=kp (x:=.dK (dU Sum.inr sps)) g1 hsl;exact ⟨L0,F9 _ _ g3 (EB (kp (S9 _ _ hx8) hsl) g3),g2⟩
 clear e9 F9;have lk8:lk "still_led" (cE ("still_led":Str) (.ref sl) (cE ("sign_goals":Str) (.ref sg) (cE ("quiet":Str) (.ref qu) (cE ("leaving":Str) (.ref lv) fs4))))=some (.ref sl):=by
  show kr _ _=_;rw [eF,if_pos rfl]
 refine ⟨_,rfl,_,rfl,x,C,dx,_,.ref sl,rfl,hx9,M.cls,M.a8,lk8,l3,sl,J2,sps,rfl,L9.a3,fsl,hsps,m.okR.1,fun p hp=>?_,fun H10 S10=>⟨_,rfl,k H10 ?_ ?_⟩⟩
 ·obtain ⟨L0,g1,g2,g3⟩:=hled9 p hp;exact ⟨L0,g1,fun z=>m.noround _ ((g3 _).mp z)⟩
 ·have X69:cR x H6 H9:=(E7.trans E8).trans E9;have X59:=((E6.trans E7).trans E8).trans E9;have Y:∀{b:Addr}{o:HO},H9 b=some o->H10 b=some o:=fun h=>S10 _ _ h;have LL:Lists H5 o1 o2 o3 o4 ts J0 J1 J2 ds:=⟨(E3.trans (E4.trans E5)) _ _ f1 n1,(E4.trans E5) _ _ f2 n2,E5 _ _ f3 n3,f4,L5.ds⟩;refine ⟨⟨dx,_,o1,o2,o3,o4,lv,qu,sg,sl,ts,lps,gps,sps,Y hx9,?_,?_,?_,?_,?_,?_,?_,?_,?_,?_,?_,lk8,(LL.exI hx5 X59).same S10,hlps,?_,?_,?_,?_,hsps,Y fsl,fun p hp=>?_⟩,m,⟨dx,_,Y hx9,?_,?_,?_,?_⟩⟩
  rotate_right 9
  ·exact Y (X69 _ _ flv (EB hx6 flv))
  ·intro y hy;obtain ⟨us',g1,g2⟩:=hlv y hy;exact ⟨us',Y (X69 _ _ g1 (cR.neI hx6 g1)),(g2.kt (X69.ktI hx6)).kt (ac.kt S10)⟩
  ·exact Y ((E8.trans E9) _ _ fqu n7)
  ·exact je.same ⟨G8.nd,E9 _ _ G8.g (GW hx8 G8.g),fun y hy=>E9 _ _ (G8.ls y hy) (cR.neI hx8 (G8.ls y hy)),G8.all⟩ S10
  ·obtain ⟨L0,g1,g2⟩:=hled9 p hp;exact ⟨L0,Y g1,g2⟩
  all_goals (show kr _ _=_; subst hfs4; repeat (rw [eF]; first | rw [if_pos rfl] | rw [if_neg (by decide +kernel)]))
  all_goals rfl
 ·exact ((((((((E1.trans E2).trans E3).trans E4).trans E5).trans E6).trans E7).trans E8).trans E9).trans (ac.exB S10)
theorem EU {K:Za}{a b:Addr}{xs ys:List V}{g:TG}{tb:TS}{D:kJ}{σ:L2.St}{H:Hp}(hxy:xs.length=ys.length) (Pv:Nat->L2.St->Hp->Prop) (h0:Pv 0 σ H) (hl:∀i σ H,i<=xs.length->Pv i σ H->bj K H a xs/\bj K H b ys)
  (hs:∀i x y σ H p,xs[i]?=some x->ys[i]?=some y->Pv i σ H->H p=none->g (.ref p) σ (upd H p (.tup [x,y])) fun σ2 H2=>tb { D with nx:=Pv (i+1),ct:=Pv (i+1),bk:=D.nx } σ2 H2) (hd:∀σ H,Pv xs.length σ H->D.nx σ H) :
  ∃W:Nat->Nat->L2.St->Hp->Prop,(∃m,W 0 m σ H)/\∀i m σ H,W i m σ H ->
   ((Fp K a b).stop i H/\D.nx σ H)∨((Fp K a b).go i H/\∃N:L2.St->Hp->Prop,(∀σ' H',N σ' H'->∃m',m'<m/\W (i+1) m' σ' H')/\∀x H',(Fp K a b).yld i H x H'->g x σ H' fun σ2 H2=>tb { D with nx:=N,ct:=N,bk:=D.nx } σ2 H2):=by
 refine ⟨fun i m σ H=>m=xs.length-i/\i<=xs.length/\Pv i σ H,⟨xs.length,by simp,c9 _,h0⟩,?_⟩;rintro i m σ H ⟨rfl,hi,p⟩;obtain ⟨q1,q2⟩:=hl i σ H hi p;by_cases hlt:i<xs.length
 ·have hlt2:i<ys.length:=by omega
  refine .inr ⟨⟨xs,ys,xs[i],ys[i],q1,q2,by simp [hlt],by simp [hlt2]⟩,Pv (i+1),fun σ' H' p'=>⟨xs.length-(i+1),by omega,rfl,hlt,p'⟩,fun x H' y=>?_⟩;obtain ⟨t,u,v,rfl,hn,hu,hv,rfl⟩:=y;exact hs i u v σ H t (hu xs q1) (hv ys q2) p hn
 ·have e:i=xs.length:=by omega
  subst e;exact .inl ⟨⟨xs,ys,q1,q2,.inl (aG _)⟩,hd σ H p⟩
theorem B1 (a b:Str):decide (fR a=fR b)=decide (a=b):=by
 by_cases e:a=b
 ·rw [zzr1 e,zzr1 (by rw [e])]
 ·rw [zzr0 e,zzr0 (fun z=>e (oy z))]
theorem bB.by {C:Addr}{H H':Hp}{x:Addr}{J0 J1 J2:Zb}{ds:List am}(h:bB C H x J0 J1 J2 ds)
  (hs:∀b ws,H b=some (.lst (List.map V.str ws))->H' b=some (.lst (List.map V.str ws))) (hr:∀b ts,H b=some (.lst (List.map V.ref ts))->H' b=some (.lst (List.map V.ref ts))) (ht:gJ H H')
  (hd:∀b kvs,H b=some (.dK kvs)->H' b=some (.dK kvs)) (hT:∀b kvs,H b=some (.dT kvs)->H' b=some (.dT kvs)) (hi:∀b C dx fs,H b=some (.ins C dx fs)->H' b=some (.ins C dx fs)):bB C H' x J0 J1 J2 ds:=by
 obtain ⟨dx,fs,o1,o2,o3,o4,lv,qu,sg,sl,ts,lps,gps,sps,g1,a1,a2,a3,a4,b1,b2,b3,b4,b5,b6,b7,b8,L,c1,c2,c3,c4,G,d1,d2,d3⟩:=h.at_;refine ⟨⟨dx,fs,o1,o2,o3,o4,lv,qu,sg,sl,ts,lps,gps,sps,hi _ _ _ _ g1,a1,a2,a3,a4,b1,b2,b3,b4,b5,b6,b7,b8,⟨hs _ _ L.a1,hs _ _ L.a2,hs _ _ L.a3,hr _ _ L.a4,L.ds.kt ht⟩,c1,hd _ _ c2,fun y hy=>?_,hd _ _ c4,⟨G.nd,hT _ _ G.g,fun y hy=>hs _ _ (G.ls y hy),G.all⟩,d1,hd _ _ d2,fun y hy=>?_⟩,h.ok,by obtain ⟨dx,fs,g,r⟩:=h.more; exact ⟨dx,fs,hi _ _ _ _ g,r⟩⟩
 ·obtain ⟨us,e1,e2⟩:=c3 y hy;exact ⟨us,hr _ _ e1,e2.kt ht⟩
 ·obtain ⟨L0,e1,e2⟩:=d3 y hy;exact ⟨L0,hd _ _ e1,e2⟩
theorem bB.same {C:Addr}{H H':Hp}{x:Addr}{J0 J1 J2:Zb}{ds:List am}(h:bB C H x J0 J1 J2 ds) (S:ac H H'):bB C H' x J0 J1 J2 ds :=
 h.by (fun _ _ e=>S _ _ e) (fun _ _ e=>S _ _ e) (ac.kt S) (fun _ _ e=>S _ _ e) (fun _ _ e=>S _ _ e) (fun _ _ _ _ e=>S _ _ e)
inductive g6 (C:Addr) (vs:List V) (H:Hp) (Q:VK) (E:XK):Prop
 | mk (x:Addr) (w:Str) (J0 J1 J2:Zb) (ds:List am):(vs=[.ref x,.str w])->(bB C H x J0 J1 J2 ds)->(Q (.bl (decide (w∈J2.filter (e_ ds)))) H)->g6 C vs H Q E
theorem ym {K:Za}{C:Addr}(M:MC K C) {vs:List V}{H:Hp}{Q:VK}{E:XK}(h:g6 C vs H Q E):mT K (bC Q) (start nG vs) H:=by
 obtain ⟨x,w,J0,J1,J2,ds,rfl,h,k⟩:=h;obtain ⟨dx,fs,o1,o2,o3,o4,lv,qu,sg,sl,ts,lps,gps,sps,g1,a1,a2,a3,a4,b1,b2,b3,b4,b5,b6,b7,b8,L,c1,c2,c3,c4,_⟩:=h.at_;refine ⟨_,rfl,_,rfl,x,C,dx,fs,.ref qu,rfl,g1,M.cls,M.a6,b6,qu,_,rfl,.inl ⟨_,.inr w,.inl c4,rfl,rfl⟩,?_⟩;rw [eR];exact k
def bP:List Str:=[("hush":Str)]
inductive jZ (C:Addr) (vs:List V) (H:Hp) (Q:VK) (E:XK):Prop
 | mk (t l1 l2 l3 l4:Addr) (ts:Ze) (J0 J1 J2:Zb) (ds:List am):(vs=[.ref t])->(iQ H t l1 l2 l3 l4 ts J0 J1 J2 ds)->(aQ J0 J1 J2 ds)->(∀(x:Addr) (H':Hp),bB C H' x J0 J1 J2 ds->ac H H'->Q (.ref x) H')->jZ C vs H Q E
theorem Ab {K:Za}{C:Addr}{vs:List V}{H:Hp}{Q:VK}{E:XK}(h:jZ C vs H Q E):uc K C (rm C) (bC Q) (start uK vs) H:=by
 obtain ⟨t,l1,l2,l3,l4,ts,J0,J1,J2,ds,rfl,T,m,k⟩:=h;refine ⟨_,rfl,.inr (.inl ⟨t,_,0,_,rfl,rfl,bj.of T.t,rfl,.inl ⟨l1,_,rfl,.inl (aA.of T.a1),fun m1 h1=>?_⟩⟩)⟩;have T1:=T.same (ac.new (o:=.lst (J0.map V.str)) h1);refine ⟨_,rfl,.inr (.inl ⟨t,_,1,_,rfl,rfl,bj.of T1.t,rfl,.inl ⟨l2,_,rfl,.inl (aA.of T1.a2),fun m2 h2=>?_⟩⟩)⟩;have T2:=T1.same (ac.new (o:=.lst (J1.map V.str)) h2);refine ⟨_,rfl,.inr (.inl ⟨t,_,2,_,rfl,rfl,bj.of T2.t,rfl,.inl ⟨l3,_,rfl,.inl (aA.of T2.a3),fun m3 h3=>?_⟩⟩)⟩;have T3:=T2.same (ac.new (o:=.lst (J2.map V.str)) h3);refine ⟨_,rfl,.inr (.inl ⟨t,_,3,_,rfl,rfl,bj.of T3.t,rfl,.inl ⟨l4,_,rfl,.inl (aA.of T3.a4),fun m4 h4=>?_⟩⟩)⟩;have T4:=T3.same (ac.new (o:=.lst (ts.map V.ref)) h4);have S4:=(((ac.new (o:=.lst (J0.map V.str)) h1).trans (ac.new (o:=.lst (J1.map V.str)) h2)).trans (ac.new (o:=.lst (J2.map V.str)) h3)).trans (ac.new (o:=.lst (ts.map V.ref)) h4);refine fun x dx hx hdx hne=>?_;have S5:ac H (upd (upd (upd (upd (upd (upd H m1 (.lst (J0.map V.str))) m2 (.lst (J1.map V.str))) m3 (.lst (J2.map V.str))) m4 (.lst (ts.map V.ref))) dx (.own x)) x (.ins C dx [])) :=
  (S4.trans (ac.new hdx)).trans (ac.new (by rw [af hne.symm]; exact hx))
 have hxx:upd (upd (upd (upd (upd H m1 (.lst (J0.map V.str))) m2 (.lst (J1.map V.str))) m3 (.lst (J2.map V.str))) m4 (.lst (ts.map V.ref))) dx (.own x) x=none:=by rw [af hne.symm]; exact hx
 refine ⟨x,dx,m1,m2,m3,m4,ts,J0,J1,J2,ds,rfl,aa,⟨?_,?_,?_,?_,T.ds.kt (ac.kt S5)⟩,m,fun H' M ex=>⟨rfl,k x H' M fun b o q=>?_⟩⟩
 ·exact kp (kp (kp (kp (kp aa h2) h3) h4) hdx) hxx
 ·exact kp (kp (kp (kp aa h3) h4) hdx) hxx
 ·exact kp (kp (kp aa h4) hdx) hxx
 ·exact kp (kp aa hdx) hxx
 ·have hq:=S5 _ _ q;exact ex _ _ hq (ae (S4.trans (ac.new hdx) _ _ q) hxx)
def h9 (ds:List am):List Str:=(ds.filter fun d=>!fU d).map (·.a)
theorem sS (ds:List am) (r:Str):e_ ds r=decide (r∉h9 ds):=by
 unfold e_ h9 bv;rw [uN,List.all_eq_true,decide_eq_true_iff];constructor
 ·intro h z;obtain ⟨d,hd,rfl⟩:=aD.mp z;rw [cx] at hd;have:=h d (cx.mpr ⟨hd.1,zzr1 rfl⟩);rw [this] at hd;exact absurd hd.2 (by decide)
 ·intro h d hd;rw [cx] at hd;cases q:fU d with
  | true=>rfl
  | false =>
   refine absurd (aD.mpr ⟨d,cx.mpr ⟨hd.1,by rw [q]; rfl⟩,?_⟩) h;exact of_decide_eq_true hd.2
theorem lU {w:Str}{ws:Zb}:fR w∈ws.map fR↔w∈ws:=by
 constructor
 ·intro h;obtain ⟨x,hx,e⟩:=aD.mp h;rw [<-oy e]; exact hx
 ·exact jR
def wj (K:Za) (C_Machine:Addr) (sp_Machine_rooms:Sp) (sp_Machine_led_from:Sp):TS :=
 ao (aP (pM) U2)
 (ao (dR (cy K V1) U3 (bD (tB (eO K V3 V2)) (ao (kA V2 V3 (tC (.bl true)))
 (dR (cy K (dj C_Machine "led_from" sp_Machine_led_from [] E0 V0 (aw V3))) U4 (kA V2 V4 (tC (.bl true))))) (aU)))
 (aT (cG (Bt K) (aw (dA 1 [2] (cy K (dj C_Machine "rooms" sp_Machine_rooms [] E0 V0 be)) U0 (tB (zX K V0 V1)) V0)))))
def xn:List Str:=["M","rooms","found","room","led"]
def qO (K:Za) :TS :=
 aT (cG (dv K) (aw (fO K V0 "own_rooms")))
def q_:List Str:=["self"]
def mS (K:Za) :TS :=
 aT (cG (dv K) (aw (sI K (fO K V0 "still_led") V1 (aZ (be)))))
def nF:List Str:=["self","room"]
def qP (K:Za) :TS :=
 aT (cG (dv K) (aw (sI K (fO K V0 "sign_goals") (aZ (aB V1 V2)) (aZ (be)))))
def rc:List Str:=["self","room","sign"]
def su (K:Za) :TS :=
 ao (aP (cG (dv K) (aw V1)) U2)
 (ao (aP (tC (.int 0)) U3)
 (ao (mW (aJ (aE Ae V3 (cG (cW K) (aw V2)))) (ao (dR (cy K V0) (fW K 3 (aR U4 (aR U5 (aR U6 (fI))))) (bD (jC (aJ (aE (kG K) V4 (aE (mD K) V2 V3))) (jC (aJ (aE (kG K) V5 (aZ (aw (tC (.str "still")))))) (aJ (aE (sR K true) V6 V2)))) (bE (pN K "list" bY V2 (aw V6))) (aU)))
 (aP (aE fe V3 (tC (.int 1))) U3)))
 (aT V2)))
def tP:List Str:=["doors","rooms","found","at","room","sign","other"]
inductive iJ (C:Addr) (vs:List V) (H:Hp) (Q:VK) (E:XK):Prop
 | mk (x:Addr) (J0 J1 J2:Zb) (ds:List am):(vs=[.ref x])->(bB C H x J0 J1 J2 ds)->(∀l,H l=none->Q (.ref l) (upd H l (.lst (J2.map V.str))))->iJ C vs H Q E
theorem DZ {K:Za}{C:Addr}(M:MC K C) {vs:List V}{H:Hp}{Q:VK}{E:XK}(h:iJ C vs H Q E):qO K (bC Q) (start q_ vs) H:=by
 obtain ⟨x,J0,J1,J2,ds,rfl,h,k⟩:=h;obtain ⟨dx,fs,o1,o2,o3,o4,lv,qu,sg,sl,ts,lps,gps,sps,g1,a1,a2,a3,a4,b1,b2,b3,b4,b5,b6,b7,b8,L,_⟩:=h.at_;exact ⟨_,rfl,x,C,dx,fs,.ref o3,rfl,g1,M.cls,M.a3,b3,.inl ⟨o3,_,rfl,.inl (aA.of L.a3),k⟩⟩
theorem yN:∀{L:Zb},L.Nodup->(aV L).map (fun kv=>kV kv.1)=L.map V.str:=by
 intro L;refine jB (fun L=>L.Nodup->(aV L).map (fun kv=>kV kv.1)=L.map V.str) (fun _=>rfl) (fun ws w ih nd=>?_) L;rw [cK] at nd;have hn:bJ (aV ws) (.inr w)=none:=by
  rw [tm,if_neg (fun z=>nd.2.2 w z w (by simp) rfl)]
 show (aV (ws++[w])).map _=_;rw [dB,ff _ hn,ax,ih nd.1,ax]
 rfl
inductive gZ (C:Addr) (vs:List V) (H:Hp) (Q:VK) (E:XK):Prop
 | mk (x:Addr) (r:Str) (J0 J1 J2:Zb) (ds:List am):(vs=[.ref x,.str r])->(bB C H x J0 J1 J2 ds)->(r∈J2)->(∀(l:Addr) (L:Zb) (H':Hp),H' l=some (.lst (L.map V.str))->L.Nodup->(∀w,w∈L↔Reach ds r w)->H l=none->ac H H'->Q (.ref l) H')->gZ C vs H Q E
theorem yk {K:Za}{C:Addr}(M:MC K C) {vs:List V}{H:Hp}{Q:VK}{E:XK}(h:gZ C vs H Q E):mS K (bC Q) (start nF vs) H:=by
 obtain ⟨x,r,J0,J1,J2,ds,rfl,h,hr,k⟩:=h;obtain ⟨dx,fs,o1,o2,o3,o4,lv,qu,sg,sl,ts,lps,gps,sps,g1,a1,a2,a3,a4,b1,b2,b3,b4,b5,b6,b7,b8,L,c1,c2,c3,c4,G,d1,d2,d3⟩:=h.at_;have nod:=h.ok.okR.1;obtain ⟨⟨r',a⟩,hra,er⟩:=aD.mp (show r∈sps.map (·.1) by rw [d1]; exact hr);obtain rfl:r'=r:=er;obtain ⟨L0,e1,e2,e3⟩:=d3 _ hra;refine ⟨_,rfl,x,C,dx,fs,.ref sl,rfl,g1,M.cls,M.a8,b8,sl,rfl,.inl ⟨_,.inl d2⟩,_,rfl,(by show 0<=ai; decide),fun et het=>⟨_,.inl ⟨_,.inr r',.inl (kp d2 het),rfl,rfl⟩,?_⟩⟩;rw [d4 im (by rw [d1]; exact nod) hra];refine .inr ⟨a,_,rfl,.inl (kp e1 het),fun l hl=>k l L0 _ ?_ e2 e3 ((ac.new het).free hl) ((ac.new het).trans (ac.new hl))⟩;rw [aa,yN e2]
inductive iw (C:Addr) (vs:List V) (H:Hp) (Q:VK) (E:XK):Prop
 | mk (x s:Addr) (r:Str) (sg J0 J1 J2:Zb) (ds:List am):(vs=[.ref x,.str r,.ref s])->(bB C H x J0 J1 J2 ds)->(H s=some (.tup (sg.map V.str)))->(∀(l:Addr) (H':Hp),H' l=some (.lst ((bh ds (r,sg)).map V.str))->H l=none->ac H H'->Q (.ref l) H')->iw C vs H Q E
theorem CL {K:Za}{C:Addr}(M:MC K C) {vs:List V}{H:Hp}{Q:VK}{E:XK}(h:iw C vs H Q E):qP K (bC Q) (start rc vs) H:=by
 obtain ⟨x,s,r,sgn,J0,J1,J2,ds,rfl,h,hs,k⟩:=h;obtain ⟨dx,fs,o1,o2,o3,o4,lv,qu,sg,sl,ts,lps,gps,sps,g1,a1,a2,a3,a4,b1,b2,b3,b4,b5,b6,b7,b8,L,c1,c2,c3,c4,G,d1,d2,d3⟩:=h.at_;have nod:=h.ok.okR.1;refine ⟨_,rfl,x,C,dx,fs,.ref sg,rfl,g1,M.cls,M.a7,b7,sg,rfl,.inr ⟨_,.inl G.g⟩,_,rfl,_,rfl,(by show 2<=ai; decide),fun kt hkt=>⟨(by show 0<=ai; decide),fun et het=>⟨bJ (dU tX gps) (tX (r,sgn)),.inr ⟨_,tX (r,sgn),kt,.inl (kp (kp G.g hkt) het),rfl,?_,lS _,rfl⟩,?_⟩⟩⟩
 ·refine cN.isIn 8 (lS _) ?_;unfold tX cN;refine ⟨kt,_,rfl,kp aa het,?_⟩;unfold TKAts;refine ⟨_,_,rfl,wf _,?_⟩;unfold TKAts;refine ⟨_,_,rfl,SignAt.tk (kp (kp hs hkt) het),?_⟩;unfold TKAts
  rfl
 have S2:ac H (upd (upd H kt (.tup [.str r,.ref s])) et (.tup [])):=(ac.new hkt).trans (ac.new het);by_cases hmem:(r,sgn)∈gps.map (·.1)
 ·obtain ⟨⟨y,a⟩,hra,er⟩:=aD.mp hmem;obtain rfl:y=(r,sgn):=er;rw [d4 ij G.nd hra];exact .inl ⟨a,_,rfl,.inl (aA.of (S2 _ _ (G.ls _ hra))),fun l hl=>k l _ aa (S2.free hl) (S2.trans (ac.new hl))⟩
 ·rw [lV ij hmem];have hnil:bh ds (r,sgn)=[]:=lB fun y hy z=>hmem (by rw [<-z]; exact G.all y hy);refine .inl ⟨et,[],rfl,.inr (bj.of aa),fun l hl=>k l _ ?_ (S2.free hl) (S2.trans (ac.new hl))⟩;rw [hnil];exact aa
theorem Reach.trans {ds:List am}{a b c:Str}(h1:Reach ds a b) (h2:Reach ds b c):Reach ds a c:=by
 induction h2 with
 | one h=>exact .step h1 h
 | step r h ih=>exact .step ih h
def gK (ds:List am) (gs:Zb) (w:Str):Prop:=∃g∈gs,w=g∨Reach ds g w
theorem gK.in_ {ds:List am}{gs J2:Zb}{w:Str}(hg:∀g∈gs,g∈J2) (hd:∀d∈ds,d.b∈J2) (h:gK ds gs w):w∈J2:=by
 obtain ⟨g,h1,rfl | h2⟩:=h
 ·exact hg _ h1
 ·exact h2.in_ hd
def qX (F:Zb) (w:Str):List Str:=if w∈F then F else F++[w]
theorem yM (F:Zb):∀kv∈aV F,kv.2=.bl true:=by
 refine jB (fun F=>∀kv∈aV F,kv.2=.bl true) (by intro kv h; cases h) (fun ws w ih=>?_) F;intro kv hkv;rw [dB] at hkv;unfold cq at hkv;split at hkv
 ·obtain ⟨x,hx,rfl⟩:=aD.mp hkv;split
  ·rfl
  ·exact ih x hx
 ·rcases bx.mp hkv with h | h
  ·exact ih kv h
  ·have:kv=(.inr w,.bl true):=by simpa using h
   rw [this]
theorem tp (F:Zb) (w:Str):cq (aV F) (.inr w) (.bl true)=aV (qX F w):=by
 unfold qX;by_cases c:w∈F
 ·rw [if_pos c];have h1:((aV F).any fun kv=>decide (kv.1=(.inr w:d_)))=true:=by
   rw [jA,eR,zzr1 c]
  unfold cq;rw [if_pos h1];have:∀l:List (d_×V),(∀kv∈l,kv.2=.bl true)->l.map (fun kv=>if kv.1=(.inr w:d_) then (kv.1,V.bl true) else kv)=l:=by
   intro l
   induction l with
   | nil=>intro _; rfl
   | cons x l ih =>
    intro h;rw [bw,ih fun kv hkv=>h kv (fb _ hkv)];congr 1;split
    ·rw [<-h x eg]
    ·rfl
  exact this _ (yM F)
 ·rw [if_neg c,dB]
theorem tM {F:Zb}(h:F.Nodup) (w:Str):(qX F w).Nodup:=by
 unfold qX;split
 ·exact h
 ·next c =>
  rw [cK];refine ⟨h,by simp,fun a ha b hb e=>?_⟩;have:b=w:=by simpa using hb
  exact c (by rw [<-this,<-e]; exact ha)
theorem yG {F:Zb}{w y:Str}:y∈qX F w↔y∈F∨y=w:=by
 unfold qX;split
 ·next c=>exact ⟨.inl,fun h=>h.elim id fun e=>by rw [e]; exact c⟩
 ·rw [bx]; simp
inductive sp_with_still (C:Addr) (vs:List V) (H:Hp) (Q:VK) (E:XK):Prop
 | mk (x l:Addr) (gs J0 J1 J2:Zb) (ds:List am):(vs=[.ref x,.ref l])->(bB C H x J0 J1 J2 ds)->(H l=some (.lst (gs.map V.str)))->((∀g∈gs,g∈J2))->(∀(t:Addr) (F:Zb) (H':Hp),H' t=some (.tup ((J2.filter fun r=>decide (r∈F)).map V.str))->(∀w,w∈F↔gK ds gs w)->ac H H'->Q (.ref t) H')->sp_with_still C vs H Q E
theorem ut {K:Za}{C:Addr}{vs:List V}{H:Hp}{Q:VK}{E:XK}(h:sp_with_still C vs H Q E):wj K C (iJ C) (gZ C) (bC Q) (start xn vs) H:=by
 obtain ⟨x,l,gs,J0,J1,J2,ds,rfl,M,hl,hg,k⟩:=h;have hdb:∀d∈ds,d.b∈J2:=fun d hd=>(M.ok.good d hd).b;have z3:=M.ok.rooms26;refine fun d hd=>?_;refine ⟨_,rfl,l,rfl,⟨_,aA.of (kp hl hd)⟩,?_⟩;refine cr (xs:=gs.map V.str) (fun i σ H'=>∃(F:Zb) (x3 x4:Option V),σ=[some (.ref x),some (.ref l),some (.ref d),x3,x4]/\H' d=some (.dK (aV F))/\ac H H'/\F.Nodup/\∀w,w∈F↔gK ds (gs.take i) w)
  ⟨[],_,_,rfl,aa,ac.new hd,pB,fun w=>⟨fun h=>(by cases h),fun ⟨g,h,_⟩=>(by cases h)⟩⟩ (fun i σ H' _ ⟨_,_,_,_,_,S,_⟩=>aA.of (S _ _ hl)) ?_ ?_
 ·rintro i y σ H1 hi ⟨F,x3,x4,rfl,hd1,S1,nd,hF⟩;obtain ⟨r,hr,rfl⟩:=bA hi;have hrm:r∈J2:=hg r (bd hr);have hsub:∀w∈F,w∈J2:=fun w hw=>((hF w).mp hw).in_ (fun g hg'=>hg g (fz hg')) hdb;refine ⟨_,rfl,_,rfl,d,_,rfl,.inl ⟨_,.inr r,.inl hd1,rfl,rfl⟩,_,rfl,?_⟩;rw [eR];have hstep:∀w,gK ds (gs.take (i+1)) w↔(gK ds (gs.take i) w∨w=r∨Reach ds r w):=by
   intro w;rw [take_snoc hr];constructor
   ·rintro ⟨g,hg',h⟩;rcases bx.mp hg' with hg' | hg'
    ·exact .inl ⟨g,hg',h⟩
    ·have:g=r:=by simpa using hg'
     subst this;exact .inr h
   ·rintro (⟨g,hg',h⟩ | h)
    ·exact ⟨g,dh _ hg',h⟩
    ·exact ⟨r,dz _ (by simp),h⟩
  by_cases c:r∈F
  ·rw [zzr1 c];refine a_ ⟨F,_,_,rfl,hd1,S1,nd,fun w=>?_⟩;rw [hstep,hF];refine ⟨.inl,fun h=>h.elim id fun h=>?_⟩;obtain ⟨g,hg',hgr⟩:=(hF r).mp c;rcases h with h | h
   ·rw [h]; exact ⟨g,hg',hgr⟩
   ·refine ⟨g,hg',.inr ?_⟩;rcases hgr with e | hgr
    ·rw [<-e]; exact h
    ·exact hgr.trans h
  ·rw [zzr0 c];refine bW ?_;have hlen:∀{F:Zb},F.Nodup->(∀w∈F,w∈J2)->(aV F).length<ai:=fun nd hs=>ap (bH (j5 _) (bH (lq nd hs) (by omega)));refine ⟨_,rfl,_,rfl,d,_,rfl,.inl ⟨_,.inr r,hd1,rfl,hlen nd hsub,rfl⟩,?_⟩;rw [tp];have S2:ac H (upd H1 d (.dK (aV (qX F r)))):=fun b o q=>by rw [af (ae q hd)]; exact S1 _ _ q
   have hd2:upd H1 d (.dK (aV (qX F r))) d=some (.dK (aV (qX F r))):=aa;generalize upd H1 d (.dK (aV (qX F r)))=H2 at S2 hd2 ⊢;have M2:=M.same S2;obtain ⟨dx,fs,o1,o2,o3,o4,lv,qu,sg,sl,ts,lps,gps,sps,g1,a1,a2,a3,a4,_⟩:=M2.at_;refine ⟨_,rfl,x,dx,fs,rfl,g1,a3,_,rfl,x,r,J0,J1,J2,ds,rfl,M2,hrm,fun ll L H3 hll ndL hL frl S3=>⟨ll,rfl,⟨_,aA.of hll⟩,?_⟩⟩;have hd3:=S3 _ _ hd2;have llH:H ll=none:=S2.free frl;have lld:ll≠d:=fun z=>by rw [z,hd2] at frl; cases frl
   refine cr (xs:=L.map V.str) (fun j σ H'=>∃(F':Zb) (x4:Option V),σ=[some (.ref x),some (.ref l),some (.ref d),some (.str r),x4]/\H' d=some (.dK (aV F'))/\H' ll=some (.lst (L.map V.str))/\ac H H'/\F'.Nodup/\∀w,w∈F'↔(gK ds (gs.take i) w∨w=r∨w∈L.take j))
    ⟨qX F r,_,rfl,hd3,hll,S2.trans S3,tM nd r,fun w=>?_⟩ (fun j σ H' _ ⟨_,_,_,_,h,_⟩=>aA.of h) ?_ ?_
   ·rw [yG,hF]; simp
   ·rintro j y σ H4 hj ⟨F',x4',rfl,hd4,hll4,S4,nd4,hF4⟩;obtain ⟨v,hv,rfl⟩:=bA hj;have hsub4:∀w∈F',w∈J2:=by
     intro w hw;rcases (hF4 w).mp hw with h | h | h
     ·exact h.in_ (fun g hg'=>hg g (fz hg')) hdb
     ·rw [h]; exact hrm
     ·exact ((hL w).mp (fz h)).in_ hdb
    refine ⟨_,rfl,_,rfl,d,_,rfl,.inl ⟨_,.inr v,hd4,rfl,hlen nd4 hsub4,rfl⟩,qX F' v,_,rfl,?_,?_,?_,tM nd4 v,fun w=>?_⟩
    ·rw [aa,tp]
    ·rw [af lld]; exact hll4
    ·intro b o q;rw [af (ae q hd)]; exact S4 _ _ q
    ·rw [yG,hF4,take_snoc hv,bx];simp only [cC];constructor
     ·rintro ((h | h | h) | h)
      ·exact .inl h
      ·exact .inr (.inl h)
      ·exact .inr (.inr (.inl h))
      ·exact .inr (.inr (.inr h))
     ·rintro (h | h | h | h)
      ·exact .inl (.inl h)
      ·exact .inl (.inr (.inl h))
      ·exact .inl (.inr (.inr h))
      ·exact .inr h
   ·rintro σ H4 ⟨F',x4',rfl,hd4,hll4,S4,nd4,hF4⟩;rw [aj,aX] at hF4;refine ⟨F',_,_,rfl,hd4,S4,nd4,fun w=>?_⟩;rw [hstep,hF4,hL]
 ·rintro σ H1 ⟨F,x3,x4,rfl,hd1,S1,nd,hF⟩;rw [aj,aX] at hF;have M1:=M.same S1;obtain ⟨dx,fs,o1,o2,o3,o4,lv,qu,sg,sl,ts,lps,gps,sps,g1,a1,a2,a3,a4,_⟩:=M1.at_;refine ⟨_,rfl,x,dx,fs,rfl,g1,a4,x,J0,J1,J2,ds,rfl,M1,fun rl hrl=>⟨rl,rfl,⟨_,aA.of aa⟩,fun f hf=>?_⟩⟩;have S2:ac H (upd H1 rl (.lst (J2.map V.str))):=S1.trans (ac.new hrl);have hd2:upd H1 rl (.lst (J2.map V.str)) d=some (.dK (aV F)):=kp hd1 hrl;have hrl2:upd H1 rl (.lst (J2.map V.str)) rl=some (.lst (J2.map V.str)):=aa;generalize upd H1 rl (.lst (J2.map V.str))=H2 at S2 hd2 hrl2 hf ⊢;refine cJ (xs:=J2.map V.str) (fun i vs H'=>vs=((J2.take i).filter fun r=>decide (r∈F)).map V.str/\ac H2 H'/\H' f=some (.lst vs)) ⟨rfl,ac.new hf,aa⟩ (fun i vs H' _ ⟨_,S,h'⟩=>⟨h',aA.of (S _ _ hrl2)⟩) ?_ ?_
  ·rintro vs H' ⟨rfl,S,f'⟩;rw [aj,aX] at f';exact ⟨f,_,rfl,.inl ⟨aA.of f',fun t ht=>k t F _ aa hF (S2.trans (S.trans (ac.new ht)))⟩⟩
  ·rintro i vs H' x' hx' hi ⟨rfl,S,f'⟩;obtain ⟨r,hr,rfl⟩:=bA hx';refine gN ?_;refine ⟨_,rfl,_,rfl,d,_,rfl,.inl ⟨_,.inr r,.inl (S _ _ hd2),rfl,rfl⟩,_,rfl,?_⟩;rw [eR];have hlen:(((J2.take i).filter fun r=>decide (r∈F)).map V.str).length<ai:=by
    rw [aj];refine ap (bH (dC _ _) ?_);rw [aK]; omega
   refine iW (fun hq=>?_) (fun hq=>?_)
   ·refine ⟨_,rfl,f',hlen,o9 hi ⟨?_,?_,aa⟩⟩
    ·rw [cI hr,if_pos hq,ax]; rfl
    ·intro b o q;rw [af (ae q hf)];exact S _ _ q
   ·refine o9 hi ⟨?_,S,f'⟩;rw [cI hr,if_neg hq,fK]
inductive eB (K:Za) (vs:List V) (H:Hp) (Q:VK) (E:XK):Prop
 | mk (l4 l:Addr) (ts:Ze) (ds:List am) (gs J2:Zb):(vs=[.ref l4,.ref l])->(H l4=some (.lst (ts.map V.ref)))->(cu H ts ds)->(H l=some (.lst (gs.map V.str)))->((∀d∈ds,d.b∈J2))->(J2.length<=1000)->(gs.length<=1000)->(∀(f:Addr) (F:Zb) (H':Hp),H' f=some (.lst (F.map V.str))->(∀w,w∈F↔gK ds gs w)->F.length<=2000->H f=none->ac H H'->Q (.ref f) H')->eB K vs H Q E
structure SO (H0 H:Hp) (ds:List am) (gs:Zb) (f:Addr) (X:Zb):Prop where
 f:H f=some (.lst ((gs++X).map V.str))
 same:ac H0 H
 nd:X.Nodup
 new:∀y∈X,y∉gs
 sound:∀y∈X,gK ds gs y
theorem gK.step {ds:List am}{gs:Zb}{a b:Str}(h:gK ds gs a) (e:(⟨a,av,b⟩:am)∈ds):gK ds gs b:=by
 obtain ⟨g,hg,rfl | h⟩:=h
 ·exact ⟨_,hg,.inr (.one e)⟩
 ·exact ⟨g,hg,.inr (.step h e)⟩
theorem lX (a b:Zb):decide (kK a=kK b)=decide (a=b):=by
 by_cases e:a=b
 ·rw [zzr1 e,zzr1 (by rw [e])]
 ·rw [zzr0 e,zzr0 (fun z=>e (BS z))]
theorem yh {K:Za}{vs:List V}{H:Hp}{Q:VK}{E:XK}(h:eB K vs H Q E):su K (bC Q) (start tP vs) H:=by
 obtain ⟨l4,l,ts,ds,gs,J2,rfl,h4,hds,hl,hin,hz,hz2,k⟩:=h;refine ⟨_,rfl,.inl ⟨l,_,rfl,.inl (aA.of hl),fun f hf=>?_⟩⟩;have lenX:∀{X:Zb},X.Nodup->(∀y∈X,y∉gs)->(∀y∈X,gK ds gs y)->X.length<=J2.length:=fun nd nw sd=>lq nd fun y hy=>by
  obtain ⟨g,hg,e | h⟩:=sd y hy
  ·exact absurd (by rw [e]; exact hg) (nw y hy)
  ·exact h.in_ hin
 refine ⟨fun m σ H'=>∃(X:Zb) (at_:Nat) (x y z:Option V),σ=[some (.ref l4),some (.ref l),some (.ref f),some (.int at_),x,y,z]/\SO H H' ds gs f X/\at_<=(gs++X).length/\(∀i y,i<at_->(gs++X)[i]?=some y->∀c,(⟨y,av,c⟩:am)∈ds->c∈gs++X)/\m=gs.length+J2.length-at_,
  ⟨_,[],0,_,_,_,rfl,⟨by rw [fK]; exact aa,ac.new hf,pB,by simp,by simp⟩,c9 _,fun i y h=>by omega,rfl⟩,?_⟩
 rintro m σ H1 ⟨X,at_,x4,x5,x6,rfl,D,hat,hcl,rfl⟩;have hXl:=lenX D.nd D.new D.sound;refine ⟨_,rfl,_,rfl,.inl ⟨f,_,rfl,.inl (aA.of D.f),_,_,rfl,rfl,_,rfl,?_⟩⟩;refine iW (fun hlt=>?_) (fun hlt=>?_)
 ·have hlt':at_<(gs++X).length:=by
   have:=of_decide_eq_true hlt;rw [aj] at this;omega
  have hat0:at_<gs.length+J2.length:=by rw [aM] at hlt'; omega
  generalize hhere:(gs++X)[at_]=here;have hget:(gs++X)[at_]?=some here:=by rw [<-hhere]; exact bX hlt'
  have hfrom:∀{Y:Zb}{y:Str},(∀y∈Y,gK ds gs y)->y∈gs++Y->gK ds gs y:=fun sd hy=>by
   rcases bx.mp hy with hy | hy
   ·exact ⟨_,hy,.inl rfl⟩
   ·exact sd _ hy
  refine ⟨fun σ' H'=>∃(X':Zb) (x y z:Option V),σ'=[some (.ref l4),some (.ref l),some (.ref f),some (.int ((at_+1:Nat):Int)),x,y,z]/\SO H H' ds gs f X'/\at_+1<=(gs++X').length/\(∀i y,i<at_+1->(gs++X')[i]?=some y->∀c,(⟨y,av,c⟩:am)∈ds->c∈gs++X'),
   fun σ' H' ⟨X',x,y,z,e,D',h1,h2⟩=>⟨_,(by omega:gs.length+J2.length-(at_+1)<gs.length+J2.length-at_),X',at_+1,x,y,z,e,D',h1,h2,rfl⟩,?_⟩
  refine ⟨_,rfl,l4,rfl,⟨_,aA.of (D.same _ _ h4)⟩,?_⟩;refine cr (xs:=ts.map V.ref) (fun j σ H'=>∃(X' Y:Zb) (x y z:Option V),σ=[some (.ref l4),some (.ref l),some (.ref f),some (.int at_),x,y,z]/\X'=X++Y/\SO H H' ds gs f X'/\∀d∈ds.take j,d.a=here->d.sg=av->d.b∈gs++X')
   ⟨X,[],_,_,_,rfl,by simp,D,by simp⟩ (fun j σ H' _ ⟨_,_,_,_,_,_,_,D',_⟩=>aA.of (D'.same _ _ h4)) ?_ ?_
  ·rintro j y σ H2 hj ⟨X',Y,x4',x5',x6',rfl,rfl,D2,hdone⟩;obtain ⟨t,ht,rfl⟩:=dq hj;obtain ⟨dr,hdr,hatd⟩:=Paired.getL hds ht;obtain ⟨s,ht2,hs2⟩:=hatd.kt (ac.kt D2.same);have hmem:=bd hdr;have hXl2:=lenX D2.nd D2.new D2.sound;have hget2:(gs++(X++Y))[at_]?=some here:=by
    rw [<-c6,eX hlt']; exact hget
   refine ⟨t,_,rfl,bj.of ht2,rfl,_,_,rfl,_,_,rfl,_,_,rfl,rfl,?_⟩;have nextI:∀(H3:Hp) (X3 Y3:Zb) (q4 q5 q6:Option V),X3=X++Y3->SO H H3 ds gs f X3->(∀y∈X++Y,y∈X3)->(dr.a=here->dr.sg=av->dr.b∈gs++X3) ->
     ∃(X' Y:Zb) (x y z:Option V),[some (.ref l4),some (.ref l),some (.ref f),some (.int at_),q4,q5,q6]=[some (.ref l4),some (.ref l),some (.ref f),some (.int at_),x,y,z]/\X'=X++Y/\SO H H3 ds gs f X'/\∀d∈ds.take (j+1),d.a=here->d.sg=av->d.b∈gs++X':=by
    intro H3 X3 Y3 q4 q5 q6 e D3 hsub hnew;refine ⟨X3,Y3,q4,q5,q6,rfl,e,D3,fun d hd e1 e2=>?_⟩;rw [take_snoc hdr] at hd;rcases bx.mp hd with hd | hd
    ·rcases bx.mp (hdone d hd e1 e2) with h | h
     ·exact dh _ h
     ·exact dz _ (hsub _ h)
    ·have:d=dr:=by simpa using hd
     subst this;exact hnew e1 e2
   refine ⟨_,rfl,_,rfl,_,rfl,.inl ⟨f,_,_,_,rfl,rfl,aA.of D2.f,bI (j:=at_) (by rw [b0,hget2]; rfl),fR dr.a,fR here,jc _,jc _,(by show 0<=8; decide),(by show 0<=8; decide),_,rfl,?_⟩⟩;rw [B1];by_cases c1:dr.a=here;rotate_left
   ·rw [zzr0 c1];exact a_ (a_ (nextI H2 _ _ _ _ _ rfl D2 (fun _ h=>h) fun e=>absurd e c1))
   rw [zzr1 c1];refine bW ?_;refine ⟨_,rfl,(by show 1<=ai; decide),fun st hst=>⟨kK dr.sg,kK av,bN (bj.of (kp hs2 hst)),bN (bj.of aa),by rw [cz]; decide,by rw [cz]; decide,_,rfl,?_⟩⟩;rw [lX];have D3:SO H (upd H2 st (.tup [.str "still"])) ds gs f (X++Y):=⟨kp D2.f hst,D2.same.trans (ac.new hst),D2.nd,D2.new,D2.sound⟩;have hstS:H st=none:=D2.same.free hst;generalize upd H2 st (.tup [.str "still"])=H3 at D3 ⊢;by_cases c2:dr.sg=av;rotate_left
   ·rw [zzr0 c2];exact a_ (a_ (nextI H3 _ _ _ _ _ rfl D3 (fun _ h=>h) fun _ e=>absurd e c2))
   rw [zzr1 c2];refine bW ?_;refine ⟨_,rfl,_,rfl,fR dr.b,(gs++(X++Y)).map fR,f,_,jc _,rfl,.inl (aA.of D3.f),lE _,(by show 0<=8; decide),by rw [fh]; decide,_,rfl,?_⟩;rw [if_pos rfl];by_cases c3:dr.b∈gs++(X++Y)
   ·rw [zzr1 (lU.mpr c3)];exact a_ (nextI H3 _ _ _ _ _ rfl D3 (fun _ h=>h) fun _ _=>c3)
   rw [zzr0 (fun z=>c3 (lU.mp z))];refine bW ?_;refine ⟨_,rfl,.inl ⟨rfl,_,aA.of D3.f⟩,_,rfl,f,_,_,rfl,rfl,D3.f,by rw [aj,aM]; exact gu (by omega),?_⟩;have hedge:(⟨here,av,dr.b⟩:am)∈ds:=by
    have:dr=⟨here,av,dr.b⟩:=by cases dr; simp only at c1 c2; rw [c1,c2]
    rw [<-this]; exact hmem
   refine nextI _ (X++(Y++[dr.b])) _ _ _ _ rfl ⟨?_,?_,?_,?_,?_⟩ ?_ ?_
   ·rw [aa];have:gs++(X++(Y++[dr.b]))=gs++(X++Y)++[dr.b]:=by simp
    rw [this,ax (l₂:=[dr.b])]
    rfl
   ·intro b o q;rw [af (ae q hf)]; exact D3.same _ _ q
   ·rw [<-c6,cK];refine ⟨D3.nd,by simp,fun a ha b hb e=>?_⟩;have:b=dr.b:=by simpa using hb
    exact c3 (dz _ (by rw [<-this,<-e]; exact ha))
   ·intro y hy;rw [<-c6] at hy;rcases bx.mp hy with hy | hy
    ·exact D3.new y hy
    ·have:y=dr.b:=by simpa using hy
     rw [this];exact fun z=>c3 (dh _ z)
   ·intro y hy;rw [<-c6] at hy;rcases bx.mp hy with hy | hy
    ·exact D3.sound y hy
    ·have:y=dr.b:=by simpa using hy
     rw [this];exact (hfrom D.sound (bd hget)).step hedge
   ·intro y hy;rw [<-c6];exact dh _ hy
   ·intro _ _;exact dz _ (by simp)
  ·rintro σ H2 ⟨X',Y,x4',x5',x6',rfl,rfl,D2,hdone⟩;rw [aj,Paired.length hds,aX] at hdone;refine ⟨_,rfl,_,_,rfl,rfl,X++Y,_,_,_,rfl,D2,?_,fun i y hi hy c hc=>?_⟩
   ·rw [<-c6,aM]; omega
   ·by_cases e:i=at_
    ·subst e;rw [<-c6,eX hlt',hget] at hy;have:=dZ hy;subst this;exact hdone _ hc rfl rfl
    ·have hi':i<at_:=by omega
     rw [<-c6,eX (by omega)] at hy;have:=hcl i y hi' hy c hc;rw [<-c6];exact dh _ this
 ·have hend:at_=(gs++X).length:=by
   have:¬(at_<(gs++X).length):=fun z=>hlt (zzr1 (by rw [aj]; omega));omega
  refine ⟨_,rfl,k f (gs++X) H1 D.f (fun w=>⟨fun hw=>?_,fun hw=>?_⟩) (by rw [aM]; omega) hf D.same⟩
  ·rcases bx.mp hw with hw | hw
   ·exact ⟨_,hw,.inl rfl⟩
   ·exact D.sound _ hw
  ·have closed:∀y∈gs++X,∀c,(⟨y,av,c⟩:am)∈ds->c∈gs++X:=fun y hy c hc=>by
    obtain ⟨n,hn⟩:=gp hy;exact hcl n y (by rw [hend]; exact (cw.mp hn).1) hn c hc
   obtain ⟨g,hg,rfl | h⟩:=hw
   ·exact dh _ hg
   ·induction h with
    | one e=>exact closed _ (dh _ hg) _ e
    | step r e ih=>exact closed _ ih _ e

theorem z6 {ds:List am}{a b:Str}(h:¬gK ds [b] a) {x y:Str}(r:Reach (ds++[⟨a,av,b⟩]) x y):Reach ds x y∨((x=a∨Reach ds x a)/\(y=b∨Reach ds b y)):=by
 have edge:∀{u v:Str},(⟨u,av,v⟩:am)∈ds++[⟨a,av,b⟩]->(⟨u,av,v⟩:am)∈ds∨(u=a/\v=b):=by
  intro u v e;rcases bx.mp e with e | e
  ·exact .inl e
  ·have:(⟨u,av,v⟩:am)=⟨a,av,b⟩:=by simpa using e
   injection this with h1 h2 h3;exact .inr ⟨h1,h3⟩
 induction r with
 | one e =>
  rcases edge e with e | ⟨rfl,rfl⟩
  ·exact .inl (.one e)
  ·exact .inr ⟨.inl rfl,.inl rfl⟩
 | step r e0 ih =>
  rcases edge e0 with e | ⟨rfl,rfl⟩
  ·rcases ih with ih | ⟨h1,h2⟩
   ·exact .inl (.step ih e)
   ·refine .inr ⟨h1,.inr ?_⟩;rcases h2 with h2 | h2
    ·exact .one (by rw [<-h2]; exact e)
    ·exact .step h2 e
  ·rcases ih with ih | ⟨h1,h2⟩
   ·exact .inr ⟨.inr ih,.inl rfl⟩
   ·exact absurd ⟨_,by simp,h2⟩ h
theorem wK {ds:List am}{a b:Str}(hn:∀r,¬Reach ds r r) (h:¬gK ds [b] a):∀r,¬Reach (ds++[⟨a,av,b⟩]) r r:=by
 intro r z;have no:¬(a=b∨Reach ds b a):=fun z=>h ⟨b,by simp,z⟩;rcases z6 h z with z | ⟨h1,h2⟩
 ·exact hn r z
 ·rcases h1 with rfl | h1
  ·exact no h2
  ·rcases h2 with rfl | h2
   ·exact no (.inr h1)
   ·exact no (.inr (h2.trans h1))
theorem aQ.putStill {J0 J1 J2:Zb}{ds:List am}{a b:Str}(m:aQ J0 J1 J2 ds) (ha:a∈J2) (hb:b∈J2) (h:¬gK ds [b] a) (hf:ds.length<=699):aQ J0 J1 J2 (lb ds ⟨a,av,b⟩):=by
 unfold lb;split
 ·exact m
 ·next hn =>
  refine { m with nodup:=?_,good:=?_,few:=?_,noround:=wK m.noround h }
  ·rw [cK];refine ⟨m.nodup,by simp,fun x hx y hy e=>?_⟩;have:y=⟨a,av,b⟩:=by simpa using hy
   subst this;exact hn (e ▸ hx)
  ·intro d hd;rcases bx.mp hd with hd | hd
   ·exact m.good d hd
   ·have:d=⟨a,av,b⟩:=by simpa using hd
    subst this;exact ⟨ha,hb,.inr (.inr rfl)⟩
  ·rw [aM]; show ds.length+1<=1000; omega
theorem sT (ds:List am) (d:am):(lb ds d).length<=ds.length+1:=by
 unfold lb;split
 ·omega
 ·rw [aM]; exact aG _
def cZ (ds:List am) (sg:Zb) (J6:Zb):List Str:=J6.flatMap fun r=>bh ds (r,sg)
theorem uC {ds:List am}{sg J6:Zb}{i:Nat}{r:Str}(h:J6[i]?=some r):cZ ds sg (J6.take (i+1))=cZ ds sg (J6.take i)++bh ds (r,sg):=by
 unfold cZ;rw [take_snoc h,vF];simp
theorem qI (ds:List am) (x:Str×List Str):(bh ds x).length<=ds.length:=by
 unfold bh;rw [aj];exact dC _ _
theorem oQ (ds:List am) (sg:Zb):∀J6:List Str,(cZ ds sg J6).length<=J6.length * ds.length
 | []=>c9 _
 | r::J6=>by
  show ((bh ds (r,sg))++cZ ds sg J6).length<=(J6.length+1) * ds.length;rw [aM,Nat.succ_mul];have h1:=qI ds (r,sg);have h2:=oQ ds sg J6;omega
theorem oN {ds:List am}{sg J6:Zb}{b:Str}:b∈cZ ds sg J6↔∃r∈J6,(⟨r,sg,b⟩:am)∈ds:=by
 unfold cZ;rw [rO];constructor
 ·rintro ⟨r,hr,h⟩;exact ⟨r,hr,eD.mp h⟩
 ·rintro ⟨r,hr,h⟩;exact ⟨r,hr,eD.mpr h⟩
inductive ol (C:Addr) (vs:List V) (H:Hp) (Q:VK) (E:XK):Prop
 | mk (x t s:Addr) (J6 sg J0 J1 J2:Zb) (ds:List am):(vs=[.ref x,.ref t,.ref s])->(bB C H x J0 J1 J2 ds)->(H t=some (.tup (J6.map V.str)))->(H s=some (.tup (sg.map V.str)))->(sg≠bP)->(J6.length<=1000)->(∀(t':Addr) (F:Zb) (H':Hp),H' t'=some (.tup ((J2.filter fun r=>decide (r∈F)).map V.str))->(∀w,w∈F↔gK ds (cZ ds sg J6) w)->ac H H'->Q (.ref t') H')->ol C vs H Q E
theorem wH {K:Za}{C hu:Addr}(hhu:∀H,bj K H hu (bP.map V.str)) {sp2:Sp}{vs:List V}{H:Hp}{Q:VK}{E:XK}(h:ol C vs H Q E) :
  mB K (sp_with_still C) C (iw C) hu sp2 (bC Q) (start mG vs) H:=by
 obtain ⟨x,t,s,J6,sg,J0,J1,J2,ds,rfl,M,ht,hs,hne,hz,k⟩:=h;have hdb:∀d∈ds,d.b∈J2:=fun d hd=>(M.ok.good d hd).b;have z4:=M.ok.few;refine ⟨_,rfl,kK sg,kK bP,bN (bj.of hs),bN (hhu _),by rw [cz]; decide,by rw [cz]; decide,_,rfl,?_⟩;rw [lX,zzr0 hne];refine a_ ?_;refine ⟨(by show 0<=ai; decide),fun g hg=>?_⟩;refine ⟨_,rfl,t,rfl,⟨_,bj.of (kp ht hg)⟩,?_⟩;refine BT (xs:=J6.map V.str) (fun i σ H'=>∃x4:Option V,σ=[some (.ref x),some (.ref t),some (.ref s),some (.ref g),x4]/\H' g=some (.lst ((cZ ds sg (J6.take i)).map V.str))/\ac H H')
  ⟨_,rfl,aa,ac.new hg⟩ (fun i σ H' _ ⟨_,_,_,S⟩=>bj.of (S _ _ ht)) ?_ ?_
 ·rintro i y σ H1 hi ⟨x4,rfl,hg1,S1⟩;obtain ⟨r,hr,rfl⟩:=bA hi;have M1:=M.same S1;obtain ⟨dx,fs,o1,o2,o3,o4,lv,qu,sgA,sl,ts,lps,gps,sps,g1,a1,a2,a3,a4,_⟩:=M1.at_;refine ⟨_,rfl,.inl ⟨rfl,_,aA.of hg1⟩,_,rfl,x,dx,fs,rfl,g1,a2,_,rfl,_,rfl,x,s,r,sg,J0,J1,J2,ds,rfl,M1,S1 _ _ hs,fun l H2 hl fr S2=>?_⟩;have hg2:=S2 _ _ hg1;have hlen:((cZ ds sg (J6.take i)).map V.str).length+((bh ds (r,sg)).map V.str).length<=ai:=by
   rw [aj,aj];have h1:=oQ ds sg (J6.take i);have h2:=qI ds (r,sg);have h3:(J6.take i).length * ds.length<=1000 * 1000:=rN (by rw [aK]; omega) z4;have:(1001000:Nat)<=ai:=by decide
   omega
  refine ⟨g,l,_,_,rfl,rfl,hg2,hl,hlen,_,rfl,?_,?_⟩
  ·rw [aa,uC hr,ax]
  ·intro b o q;rw [af (ae q hg)];exact S2 _ _ (S1 _ _ q)
 ·rintro σ H1 ⟨x4,rfl,hg1,S1⟩;rw [aj,aX] at hg1;refine ⟨_,rfl,_,rfl,x,g,cZ ds sg J6,J0,J1,J2,ds,rfl,M.same S1,hg1,fun w hw=>?_,fun t' F H' h1 h2 S2=>k t' F H' h1 h2 (S1.trans S2)⟩;obtain ⟨r,_,h⟩:=oN.mp hw;exact hdb _ h
theorem fX {ds:List am}{i:Nat}{d:am}{p:am->Bool}(h:ds[i]?=some d):(ds.take (i+1)).filter p=(ds.take i).filter p++(if p d=true then [d] else []):=by
 rw [take_snoc h,rP];congr 1;by_cases c:p d=true
 ·rw [if_pos c]; simp [c]
 ·rw [if_neg c]; simp [c]
def wq (K:Za) (sp_with_still:Sp) (C_Machine:Addr) (sp_Machine_rooms:Sp):TS :=
 aT (aO sp_with_still (aB V0 (zA (pT K) (dj C_Machine "rooms" sp_Machine_rooms [] E0 V0 be) (eN) (fN (tC (.int 1))))))
def xv:List Str:=["M"]
def ub (K:Za) (sp_law_take:Sp) (sp_law_names:Sp):TS :=
 ao (aP V1 (fW K 4 (aR U2 (aR U3 (aR U4 (aR U5 (fI)))))))
 (ao (aP (pM) U6)
 (ao (dR (vi K (au V4 (aw (aO sp_law_names (aB V0 (cG (cW K) (aw V4))))))) (fW K 2 (aR U7 (aR U8 (fI)))) (kA V6 V7 V8))
 (ao (aP (dA 1 [6] (cy K V4) U0 (kE) (ie K V1 V0)) U9)
 (ao (aP (aE fe (tC (.int 1)) (aO sp_law_take (aB V0 (cG (cW K) (aw V4))))) HU)
 (ao (aP (aE pU (aE pU (zA (pT K) V9 (eN) (fN (tC (.int 1)))) (zA (pT K) V9 (fN xm) (eN))) (zA (pT K) V9 (fN (tC (.int 1))) (fN xm))) U9)
 (ao (aP (dA 3 [6] (cy K V5) (fW K 3 (aR U0 (aR U1 (aR U2 (fI))))) (kE) (aZ (d9 (ie K V3 V0) V1 (ie K V3 V2)))) U5)
 (aT (aZ (au V2 (d9 V3 V9 V5))))))))))
def uJ:List Str:=["pen","told","asks","says","rooms","doors","names","room","name","some","at"]
inductive dW (C:Addr) (vs:List V) (H:Hp) (Q:VK) (E:XK):Prop
 | mk (x:Addr) (J0 J1 J2:Zb) (ds:List am):(vs=[.ref x])->(bB C H x J0 J1 J2 ds)->(∀(t':Addr) (F:Zb) (H':Hp),H' t'=some (.tup ((J2.filter fun r=>decide (r∈F)).map V.str))->(∀w,w∈F↔gK ds (J2.take 1) w)->ac H H'->Q (.ref t') H')->dW C vs H Q E
theorem uw {K:Za}{C:Addr}{vs:List V}{H:Hp}{Q:VK}{E:XK}(h:dW C vs H Q E):wq K (sp_with_still C) C (iJ C) (bC Q) (start xv vs) H:=by
 obtain ⟨x,J0,J1,J2,ds,rfl,M,k⟩:=h;obtain ⟨dx,fs,o1,o2,o3,o4,lv,qu,sgA,sl,ts,lps,gps,sps,g1,a1,a2,a3,a4,_⟩:=M.at_;have c1:gF (J2.map V.str) none (some 1)=(J2.take 1).map V.str:=oW J2 1;refine ⟨_,rfl,_,rfl,x,dx,fs,rfl,g1,a4,x,J0,J1,J2,ds,rfl,M,fun rl hrl=>⟨_,rfl,rl,_,rfl,aA.of aa,fun l hl=>?_⟩⟩;rw [c1];have S:ac H (upd (upd H rl (.lst (J2.map V.str))) l (.lst ((J2.take 1).map V.str))):=(ac.new hrl).trans (ac.new hl);exact ⟨x,l,J2.take 1,J0,J1,J2,ds,rfl,M.same S,aa,fun g hg=>fz hg,fun t' F H' h1 h2 S2=>k t' F H' h1 h2 (S.trans S2)⟩
theorem yU {K:Za}{a b:Addr}{xs ys:List V}{g:TG}{tb:TS}{D:kJ}{σ:L2.St}{H:Hp}(hxy:xs.length=ys.length) (Pv:Nat->L2.St->Hp->Prop) (h0:Pv 0 σ H) (hl:∀i σ H,i<=xs.length->Pv i σ H->aA K H a xs/\aA K H b ys)
  (hs:∀i x y σ H p,xs[i]?=some x->ys[i]?=some y->Pv i σ H->H p=none->g (.ref p) σ (upd H p (.tup [x,y])) fun σ2 H2=>tb { D with nx:=Pv (i+1),ct:=Pv (i+1),bk:=D.nx } σ2 H2) (hd:∀σ H,Pv xs.length σ H->D.nx σ H) :
  ∃W:Nat->Nat->L2.St->Hp->Prop,(∃m,W 0 m σ H)/\∀i m σ H,W i m σ H ->
   ((HY K a b).stop i H/\D.nx σ H)∨((HY K a b).go i H/\∃N:L2.St->Hp->Prop,(∀σ' H',N σ' H'->∃m',m'<m/\W (i+1) m' σ' H')/\∀x H',(HY K a b).yld i H x H'->g x σ H' fun σ2 H2=>tb { D with nx:=N,ct:=N,bk:=D.nx } σ2 H2):=by
 refine ⟨fun i m σ H=>m=xs.length-i/\i<=xs.length/\Pv i σ H,⟨xs.length,by simp,c9 _,h0⟩,?_⟩;rintro i m σ H ⟨rfl,hi,p⟩;obtain ⟨q1,q2⟩:=hl i σ H hi p;by_cases hlt:i<xs.length
 ·have hlt2:i<ys.length:=by omega
  refine .inr ⟨⟨xs,ys,xs[i],ys[i],q1,q2,by simp [hlt],by simp [hlt2]⟩,Pv (i+1),fun σ' H' p'=>⟨xs.length-(i+1),by omega,rfl,hlt,p'⟩,fun x H' y=>?_⟩;obtain ⟨t,u,v,rfl,hn,hu,hv,rfl⟩:=y;exact hs i u v σ H t (hu xs q1) (hv ys q2) p hn
 ·have e:i=xs.length:=by omega
  subst e;exact .inl ⟨⟨xs,ys,q1,q2,.inl (aG _)⟩,hd σ H p⟩
def Dx (ps:List (Str×Str)):List (d_×V):=ps.map fun x=>(.inr x.1,.str x.2)
def Ft:List (Str×Str)->Str->Str
 | [],r=>r
 | (a,b)::ps,r=>if a=r then b else Ft ps r
theorem BI {r:Str}:∀{ps:List (Str×Str)},r∈ps.map (·.1)->bJ (Dx ps) (.inr r:d_)=some (.str (Ft ps r))
 | [],h=>by cases h
 | (a,b)::ps,h=>by
  unfold Dx bJ Ft;rw [bw,kW];by_cases c:a=r
  ·rw [if_pos c,zzr1 (by rw [c])]
   rfl
  ·rw [if_neg c,zzr0 (fun z=>c (by injection z))];have:r∈ps.map (·.1):=by
    rcases cU.mp h with z | z
    ·exact absurd z.symm c
    ·exact z
   exact BI this
theorem yD {r:Str}:∀{ps:List (Str×Str)},r∉ps.map (·.1)->bJ (Dx ps) (.inr r:d_)=none
 | [],_=>rfl
 | (a,b)::ps,h=>by
  unfold Dx bJ;rw [bw,kW,zzr0 (fun z=>h (by injection z with z; rw [bw]; exact cU.mpr (.inl z.symm)))];exact yD fun z=>h (by rw [bw]; exact fb _ z)
theorem Ez {ps:List (Str×Str)}{r w:Str}(h:r∉ps.map (·.1)):cq (Dx ps) (.inr r) (.str w)=Dx (ps++[(r,w)]):=by
 rw [ff _ (yD h)];unfold Dx;rw [ax]
 rfl
theorem wb:∀{rs ws:Zb},ws.length=rs.length->(rs.zip ws).map (·.1)=rs
 | [],_,_=>by simp
 | _::_,[],h=>by cases h
 | r::rs,w::ws,h=>by
  rw [List.zip_cons_cons,bw,wb (by simpa using h)]
theorem Bs:∀{rs ws:Zb},rs.Nodup->ws.length=rs.length->rs.map (Ft (rs.zip ws))=ws
 | [],[],_,_=>rfl
 | [],_::_,_,h=>by cases h
 | _::_,[],_,h=>by cases h
 | r::rs,w::ws,nd,h=>by
  rw [List.zip_cons_cons,bw];have nd':=mv.mp nd;have e1:Ft ((r,w)::rs.zip ws) r=w:=by unfold Ft; rw [if_pos rfl]
  have e2:rs.map (Ft ((r,w)::rs.zip ws))=rs.map (Ft (rs.zip ws)):=by
   refine List.map_congr_left fun x hx=>?_;show (if r=x then w else Ft (rs.zip ws) x)=_
   rw [if_neg (fun z=>nd'.1 (by rw [z]; exact hx))]
  rw [e1,e2,Bs nd'.2 (by simpa using h)]
def ur (f:Str->Str) (d:am):am:=⟨f d.a,d.sg,f d.b⟩
theorem Hm {J2 ws:Zb}{f:Str->Str}(hf:J2.map f=ws) (nd:ws.Nodup) {a b:Str}(ha:a∈J2) (hb:b∈J2) (e:f a=f b):a=b:=by
 obtain ⟨i,hi⟩:=gp ha;obtain ⟨j,hj⟩:=gp hb;have h1:ws[i]?=some (f a):=by rw [<-hf,b0,hi]; rfl
 have h2:ws[j]?=some (f a):=by rw [<-hf,b0,hj,e]; rfl
 have:=rD nd h1 h2;subst this;rw [hi] at hj;exact dZ hj
theorem CI {J2:Zb}{f:Str->Str}{ds:List am}(inj:∀a∈J2,∀b∈J2,f a=f b->a=b) (hin:∀d∈ds,d.a∈J2/\d.b∈J2) {x y:Str}(h:Reach (ds.map (ur f)) x y) :
  ∃a∈J2,∃b∈J2,x=f a/\y=f b/\Reach ds a b:=by
 have edge:∀{u v:Str},(⟨u,av,v⟩:am)∈ds.map (ur f)->∃a b,(⟨a,av,b⟩:am)∈ds/\u=f a/\v=f b:=by
  intro u v e;obtain ⟨⟨a,s,b⟩,hd,e⟩:=aD.mp e;unfold ur at e;injection e with e1 e2 e3;simp only at e2;subst e2;exact ⟨a,b,hd,e1.symm,e3.symm⟩
 induction h with
 | one e =>
  obtain ⟨a,b,hd,rfl,rfl⟩:=edge e;exact ⟨a,(hin _ hd).1,b,(hin _ hd).2,rfl,rfl,.one hd⟩
 | step r e ih =>
  obtain ⟨a,ha,b,hb,e1,e2,hr⟩:=ih;obtain ⟨a',b',hd,e3,rfl⟩:=edge e;have:b=a':=inj b hb a' (hin _ hd).1 (e2.symm.trans e3);subst this;exact ⟨a,ha,b',(hin _ hd).2,e1,rfl,.step hr hd⟩
theorem aQ.renamed {J0 J1 J2 ws rooms':Zb}{ds:List am}{f:Str->Str}(m:aQ J0 J1 J2 ds) (okw:j7 ws) (hf:J2.map f=ws) (hp:rooms'.Perm ws):aQ J0 J1 rooms' (ds.map (ur f)):=by
 have hlen:rooms'.length=J2.length:=by rw [hp.length_eq,<-hf,aj]
 have inj:∀a∈J2,∀b∈J2,f a=f b->a=b:=fun a ha b hb e=>Hm hf okw.1 ha hb e;have hin:∀d∈ds,d.a∈J2/\d.b∈J2:=fun d hd=>⟨(m.good d hd).a,(m.good d hd).b⟩;have hmem:∀a∈J2,f a∈rooms':=fun a ha=>hp.mem_iff.mpr (by rw [<-hf]; exact jR ha);refine { m with okR:=⟨hp.nodup_iff.mpr okw.1,fun w hw=>okw.2 w (hp.mem_iff.mp hw)⟩,rooms0:=?_,rooms26:=by rw [hlen]; exact m.rooms26,nodup:=?_,good:=?_,few:=by rw [aj]; exact m.few,noround:=?_ }
 ·intro z;rw [z] at hlen;exact m.rooms0 (List.eq_nil_of_length_eq_zero hlen.symm)
 ·refine List.Pairwise.map _ ?_ (List.Pairwise.and_mem.mp m.nodup);rintro ⟨a,s,b⟩ ⟨a',s',b'⟩ ⟨h1,h2,hne⟩ e;unfold ur at e;injection e with e1 e2 e3;simp only at e1 e2 e3;refine hne ?_;rw [inj a (hin _ h1).1 a' (hin _ h2).1 e1,e2,inj b (hin _ h1).2 b' (hin _ h2).2 e3]
 ·intro d hd;obtain ⟨d0,hd0,rfl⟩:=aD.mp hd;exact ⟨hmem _ (hin _ hd0).1,hmem _ (hin _ hd0).2,(m.good d0 hd0).sg⟩
 ·intro r z;obtain ⟨a,ha,b,hb,e1,e2,hr⟩:=CI inj hin z;have:=inj a ha b hb (e1.symm.trans e2);subst this;exact m.noround a hr
theorem Di (ws:Zb) {j k:Nat}(hj:j<=k) (hk:k<=ws.length):gF (ws.map V.str) (some (j:Int)) (some (k:Int))=((ws.drop j).take (k-j)).map V.str:=by
 unfold gF;rw [HT.sIx_nat,HT.sIx_nat,aj,vG hk,vG (bH hj hk),mI,vH]
theorem xK (ws:Zb) (n:Nat):(ws.take 1++ws.drop (1+n)++(ws.drop 1).take (1+n-1)).Perm ws:=by
 have e:ws.drop (1+n)=(ws.drop 1).drop n:=by rw [List.drop_drop]
 have e2:1+n-1=n:=by omega
 rw [e,e2,c6];have h:ws=ws.take 1++((ws.drop 1).take n++(ws.drop 1).drop n):=by rw [pc,pc]
 exact (List.Perm.append_left _ List.perm_append_comm).trans (by rw [<-h])
theorem w_ (o:Str) (L:Zb):decide (fR o∈L.map fR)=decide (o∈L):=by
 by_cases c:o∈L
 ·rw [zzr1 (lU.mpr c),zzr1 c]
 ·rw [zzr0 (fun z=>c (lU.mp z)),zzr0 c]
theorem bj.same {K:Za}{H H':Hp}{a:Addr}{xs:List V}(S:ac H H') (h:bj K H a xs):bj K H' a xs:=by
 rcases h with (h | ⟨o,h⟩) | h
 ·exact .inl (.inl (S _ _ h))
 ·exact .inl (.inr ⟨o,S _ _ h⟩)
 ·exact .inr h
theorem aA.same {K:Za}{H H':Hp}{a:Addr}{xs:List V}(S:ac H H') (h:aA K H a xs):aA K H' a xs:=by
 rcases h with (h | ⟨o,h⟩) | h
 ·exact .inl (.inl (S _ _ h))
 ·exact .inl (.inr ⟨o,S _ _ h⟩)
 ·exact .inr h
mutual
theorem hW.same {K:Za}{H H':Hp}(S:ac H H'):∀{d:DT}{v:V},hW K H d v->hW K H' d v
 | .k a,v,h=>by unfold hW at h ⊢; exact h
 | .t l,v,h=>by
  unfold hW at h ⊢;obtain ⟨b,xs,e,q,r⟩:=h;exact ⟨b,xs,e,bj.same S q,DIns.same S r⟩
 | .s l,v,h=>by
  unfold hW at h ⊢;obtain ⟨b,xs,e,q,r⟩:=h;exact ⟨b,xs,e,aA.same S q,DIns.same S r⟩
theorem DIns.same {K:Za}{H H':Hp}(S:ac H H'):∀{ds:List DT}{vs:List V},DIns K H ds vs->DIns K H' ds vs
 | [],vs,h=>by unfold DIns at h ⊢; exact h
 | d::ds,vs,h=>by
  unfold DIns at h ⊢;obtain ⟨v,us,e,q,r⟩:=h;exact ⟨v,us,e,hW.same S q,DIns.same S r⟩
end
theorem DIns.get {K:Za}{H:Hp}:∀{ds:List DT}{vs:List V}{i:Nat}{v:V},DIns K H ds vs->vs[i]?=some v->∃d,ds[i]?=some d/\hW K H d v
 | [],vs,i,v,h,e=>by unfold DIns at h; subst h; simp at e
 | d::ds,vs,i,v,h,e=>by
  unfold DIns at h;obtain ⟨v',us,rfl,q,r⟩:=h;cases i with
  | zero=>simp at e; subst e; exact ⟨d,rfl,q⟩
  | succ i =>
   simp at e;obtain ⟨d',h1,h2⟩:=DIns.get r e;exact ⟨d',by simpa using h1,h2⟩
theorem DIns.len {K:Za}{H:Hp}:∀{ds:List DT}{vs:List V},DIns K H ds vs->vs.length=ds.length
 | [],vs,h=>by unfold DIns at h; subst h; rfl
 | d::ds,vs,h=>by
  unfold DIns at h;obtain ⟨v',us,rfl,q,r⟩:=h;rw [dP,dP,DIns.len r]
theorem iO {n:Nat}:∀{ds:List DT}{i:Nat}{d:DT},DT.depths ds<=n->ds[i]?=some d->d.depth<=n
 | [],i,d,_,e=>by simp at e
 | x::ds,i,d,h,e=>by
  have h':max (DT.depth x) (DT.depths ds)<=n:=h;cases i with
  | zero=>simp at e; subst e; omega
  | succ i=>simp at e; exact iO (by omega) e
theorem BX {l:List DT}{n:Nat}(h:(DT.t l).depth<=n+1):DT.depths l<=n:=by
 have:DT.depths l+1<=n+1:=h;omega
theorem BY {l:List DT}{n:Nat}(h:(DT.s l).depth<=n+1):DT.depths l<=n:=by
 have:DT.depths l+1<=n+1:=h;omega
theorem EZ {l:List DT}{n:Nat}(h:(DT.t l).depth<=n):1<=n:=by
 have:DT.depths l+1<=n:=h;omega
theorem E_ {l:List DT}{n:Nat}(h:(DT.s l).depth<=n):1<=n:=by
 have:DT.depths l+1<=n:=h;omega
inductive yd (K:Za) (n:Nat) (vs:List V) (H:Hp) (Q:VK) (E:XK):Prop
 | mk (x y:V) (d e:DT):(vs=[x,y])->(hW K H d x)->(hW K H e y)->(d.depth<=n)->(e.depth<=n)->(∀H',ac H H'->Q (.bl (decide (d=e))) H')->yd K n vs H Q E
inductive ye  (vs:List V) (H:Hp) (Q:VK) (E:XK):Prop
 | mk (a b:Bool):(vs=[.bl a,.bl b])->(Q (.bl (decide (a=b))) H)->ye  vs H Q E
def i4 (K:Za) (n:Nat):Sp:=fun vs H Q E=>yd K n vs H Q E∨ye vs H Q E
inductive Kd (K:Za) (H:Hp):DT->V->Prop
 | int (i:Int):Kd K H (.k (.inl i)) (.int i)
 | str (x:Str):Kd K H (.k (.inr x)) (.str x)
 | tup {a:Addr}{xs:List V}{l:List DT}(q:bj K H a xs) (r:DIns K H l xs):Kd K H (.t l) (.ref a)
 | lst {a:Addr}{xs:List V}{l:List DT}(q:aA K H a xs) (r:DIns K H l xs):Kd K H (.s l) (.ref a)
theorem hW.kd {K:Za}{H:Hp}:∀{d:DT}{v:V},hW K H d v->Kd K H d v
 | .k (.inl i),v,h=>by unfold hW at h; subst h; exact .int i
 | .k (.inr x),v,h=>by unfold hW at h; subst h; exact .str x
 | .t l,v,h=>by
  unfold hW at h;obtain ⟨b,xs,rfl,q,r⟩:=h;exact .tup q r
 | .s l,v,h=>by
  unfold hW at h;obtain ⟨b,xs,rfl,q,r⟩:=h;exact .lst q r
theorem jN (c:Bool):(!decide (V.bl c=V.bl c))=false:=by rw [zzr1 rfl]; rfl
theorem qA {K:Za}{sp:Sp}{H:Hp}{Q:VK}{x:V}{b:Addr}{t:Value}(ty:Fv K H (.ref b) t) (hi:nS K t (.type "int")=some false) (hs:nS K t (.type "str")=some false)
  (k:(ao (bD (zB (aJ (aE tZ (cG (hZ K) (aB V1 (tC (.ty "tuple")))) (cG (hZ K) (aB V0 (tC (.ty "tuple")))))) (aJ (aE tZ (cG (hZ K) (aB V1 (tC (.ty "list")))) (cG (hZ K) (aB V0 (tC (.ty "list"))))))) (aT (tC (.bl false))) (aU))
 (ao (bD (aJ (aE tZ (cG (cW K) (aw V0)) (cG (cW K) (aw V1)))) (aT (tC (.bl false))) (aU))
 (ao (dR (vi K (aB V0 V1)) (fW K 2 (aR U2 (aR U3 (fI)))) (bD (mZ (tB (aO sp (aB V2 V3)))) (aT (tC (.bl false))) (aU)))
 (aT (tC (.bl true)))))) (bC Q) [some x,some (.ref b),none,none] H) :
  sv K sp (bC Q) [some x,some (.ref b),none,none] H:=by
 have e1:decide (V.ref b=V.non)=false:=zzr0 nofun;have e2:∀c,decide (V.ref b=V.bl c)=false:=fun c=>zzr0 nofun;refine ⟨_,rfl,_,rfl,?_⟩;rw [e1];refine a_ ?_;refine ⟨_,rfl,_,rfl,_,rfl,?_⟩;rw [e2];refine a_ ?_;refine ⟨_,rfl,_,rfl,_,rfl,?_⟩;rw [e2];refine a_ ?_;refine ⟨_,rfl,.ref b,"int",t,false,rfl,ty,hi,_,rfl,a_ ?_⟩;refine ⟨_,rfl,.ref b,"str",t,false,rfl,ty,hs,_,rfl,a_ ?_⟩;exact k
theorem DX {K:Za}{n:Nat}(hn:n<=8) {sp:Sp}(hsp:∀m,n=m+1->sp=i4 K m) {vs:List V}{H:Hp}{Q:VK}{E:XK}(h:i4 K n vs H Q E):sv K sp (bC Q) (start AT vs) H:=by
 rcases h with h | h;rotate_left
 ·obtain ⟨a,b,rfl,k⟩:=h;have e1:decide (V.bl b=V.non)=false:=zzr0 nofun;have e2:∀c,decide (V.bl b=V.bl c)=decide (b=c):=fun c=>by cases b <;> cases c <;> rfl
  have e3:∀c,decide (V.bl a=V.bl c)=decide (a=c):=fun c=>by cases a <;> cases c <;> rfl
  refine ⟨_,rfl,_,rfl,?_⟩;rw [e1];refine a_ ?_;refine ⟨_,rfl,_,rfl,_,rfl,?_⟩;rw [e2];cases b with
  | true =>
   refine bW ?_;refine ⟨_,rfl,_,rfl,?_⟩;rw [e3];exact k
  | false =>
   refine a_ ?_;refine ⟨_,rfl,_,rfl,_,rfl,?_⟩;rw [e2];refine bW ?_;refine ⟨_,rfl,_,rfl,?_⟩;rw [e3];exact k
 obtain ⟨x,y,d,e,rfl,hd,he,zd,ze,k⟩:=h;have k0:=k H (ac.refl H);have he':=hW.kd he;have hd':=hW.kd hd;cases he' with
 | int i =>
  have e1:decide (V.int i=V.non)=false:=zzr0 nofun;have e2:∀c,decide (V.int i=V.bl c)=false:=fun c=>zzr0 nofun;refine ⟨_,rfl,_,rfl,?_⟩;rw [e1];refine a_ ?_;refine ⟨_,rfl,_,rfl,_,rfl,?_⟩;rw [e2];refine a_ ?_;refine ⟨_,rfl,_,rfl,_,rfl,?_⟩;rw [e2];refine a_ ?_;refine ⟨_,rfl,.int i,"int",_,true,rfl,.inl (gG.int i),rfl,_,rfl,bW ?_⟩;cases hd' with
  | int j =>
   refine ⟨_,rfl,.int j,"int",_,true,rfl,.inl (gG.int j),rfl,_,rfl,bW ?_⟩;refine ⟨_,rfl,.int j,"bool",_,false,rfl,.inl (gG.int j),rfl,_,rfl,_,rfl,bW ?_⟩;exact ⟨_,rfl,_,rfl,_,_,hd,he,by omega,by omega,k0⟩
  | str z =>
   refine ⟨_,rfl,.str z,"int",_,false,rfl,.inl (gG.str z),rfl,_,rfl,a_ ?_⟩;rw [zzr0 nofun] at k0;exact k0
  | tup q r =>
   refine ⟨_,rfl,.ref _,"int",_,false,rfl,.inr (.inl ⟨_,_,rfl,rfl,q⟩),rfl,_,rfl,a_ ?_⟩;rw [zzr0 nofun] at k0;exact k0
  | lst q r =>
   refine ⟨_,rfl,.ref _,"int",_,false,rfl,.inr (.inr ⟨_,_,rfl,rfl,q⟩),rfl,_,rfl,a_ ?_⟩;rw [zzr0 nofun] at k0;exact k0
 | str b =>
  have e1:decide (V.str b=V.non)=false:=zzr0 nofun;have e2:∀c,decide (V.str b=V.bl c)=false:=fun c=>zzr0 nofun;refine ⟨_,rfl,_,rfl,?_⟩;rw [e1];refine a_ ?_;refine ⟨_,rfl,_,rfl,_,rfl,?_⟩;rw [e2];refine a_ ?_;refine ⟨_,rfl,_,rfl,_,rfl,?_⟩;rw [e2];refine a_ ?_;refine ⟨_,rfl,.str b,"int",_,false,rfl,.inl (gG.str b),rfl,_,rfl,a_ ?_⟩;refine ⟨_,rfl,.str b,"str",_,true,rfl,.inl (gG.str b),rfl,_,rfl,bW ?_⟩;cases hd' with
  | int j =>
   refine ⟨_,rfl,.int j,"str",_,false,rfl,.inl (gG.int j),rfl,_,rfl,a_ ?_⟩;rw [zzr0 nofun] at k0;exact k0
  | str z =>
   refine ⟨_,rfl,.str z,"str",_,true,rfl,.inl (gG.str z),rfl,_,rfl,bW ?_⟩;exact ⟨_,rfl,_,rfl,_,_,hd,he,by omega,by omega,k0⟩
  | tup q r =>
   refine ⟨_,rfl,.ref _,"str",_,false,rfl,.inr (.inl ⟨_,_,rfl,rfl,q⟩),rfl,_,rfl,a_ ?_⟩;rw [zzr0 nofun] at k0;exact k0
  | lst q r =>
   refine ⟨_,rfl,.ref _,"str",_,false,rfl,.inr (.inr ⟨_,_,rfl,rfl,q⟩),rfl,_,rfl,a_ ?_⟩;rw [zzr0 nofun] at k0;exact k0
 | @tup b ys le qe re =>
  have ty:Fv K H (.ref b) (.type "tuple"):=.inr (.inl ⟨_,_,rfl,rfl,qe⟩);refine qA ty rfl rfl ?_;have no:∀(t:Value),Fv K H x t->nS K t (.type "tuple")=some false->¬d=.t le->(ao (bD (zB (aJ (aE tZ (cG (hZ K) (aB V1 (tC (.ty "tuple")))) (cG (hZ K) (aB V0 (tC (.ty "tuple")))))) (aJ (aE tZ (cG (hZ K) (aB V1 (tC (.ty "list")))) (cG (hZ K) (aB V0 (tC (.ty "list"))))))) (aT (tC (.bl false))) (aU))
 (ao (bD (aJ (aE tZ (cG (cW K) (aw V0)) (cG (cW K) (aw V1)))) (aT (tC (.bl false))) (aU))
 (ao (dR (vi K (aB V0 V1)) (fW K 2 (aR U2 (aR U3 (fI)))) (bD (mZ (tB (aO sp (aB V2 V3)))) (aT (tC (.bl false))) (aU)))
 (aT (tC (.bl true)))))) (bC Q) [some x,some (.ref b),none,none] H:=by
   intro t tx kt ne;refine ⟨_,rfl,.ref b,"tuple",_,true,rfl,ty,rfl,_,rfl,x,"tuple",t,false,rfl,tx,kt,rfl,_,rfl,?_⟩;have:(!decide (V.bl true=V.bl false))=true:=rfl;rw [this];refine bW (bW ?_);rw [zzr0 ne] at k0;exact k0
  cases hd' with
  | int j=>exact no _ (.inl (gG.int j)) rfl nofun
  | str z=>exact no _ (.inl (gG.str z)) rfl nofun
  | lst q r=>exact no _ (.inr (.inr ⟨_,_,rfl,rfl,q⟩)) rfl nofun
  | @tup f xs ld qd rd =>
   clear no;have tyd:Fv K H (.ref f) (.type "tuple"):=.inr (.inl ⟨_,_,rfl,rfl,qd⟩);refine ⟨_,rfl,.ref b,"tuple",_,true,rfl,ty,rfl,_,rfl,.ref f,"tuple",_,true,rfl,tyd,rfl,rfl,_,rfl,?_⟩;rw [jN];refine a_ ?_;refine ⟨_,rfl,.ref b,"list",_,false,rfl,ty,rfl,_,rfl,.ref f,"list",_,false,rfl,tyd,rfl,rfl,_,rfl,?_⟩;rw [jN];refine a_ ?_;refine ⟨_,rfl,.inl ⟨f,_,rfl,.inr qd,_,rfl,.inl ⟨b,_,rfl,.inr qe,rfl,_,rfl,?_⟩⟩⟩;by_cases hl:xs.length=ys.length;rotate_left
   ·have en:(!decide (V.int (xs.length:Nat)=V.int (ys.length:Nat)))=true:=by
     rw [zzr0 (fun z=>hl (by injection z with z; omega))]; rfl
    rw [en];refine bW ?_;rw [zzr0 (fun z=>hl (by rw [DIns.len rd,DIns.len re]; injection z with z; rw [z]))] at k0;exact k0
   have en:(!decide (V.int (xs.length:Nat)=V.int (ys.length:Nat)))=false:=by
    rw [zzr1 (by rw [hl])]; rfl
   rw [en];refine a_ ?_;obtain ⟨m,rfl⟩:∃m,n=m+1:=⟨n-1,by have:=EZ zd; omega⟩;obtain rfl:=hsp m rfl;refine ⟨_,rfl,_,rfl,f,b,rfl,.inr ⟨⟨_,qd⟩,⟨_,qe⟩,?_⟩⟩;refine EU (xs:=xs) (ys:=ys) hl (fun i σ H'=>∃x y,σ=[some (.ref f),some (.ref b),x,y]/\ac H H'/\ld.take i=le.take i)
    ⟨_,_,rfl,ac.refl H,rfl⟩ (fun i σ H' _ ⟨_,_,_,S,_⟩=>⟨bj.same S qd,bj.same S qe⟩) ?_ ?_
   ·rintro i x y σ H' p hx hy ⟨x2,x3,rfl,S,ht⟩ hp;obtain ⟨du,hdu,du'⟩:=DIns.get rd hx;obtain ⟨eu,heu,eu'⟩:=DIns.get re hy;have S':=S.trans (ac.new (o:=.tup [x,y]) hp);refine ⟨p,_,rfl,bj.of aa,rfl,_,_,rfl,_,_,rfl,rfl,?_⟩;refine ⟨_,rfl,_,rfl,.inl ⟨x,y,du,eu,rfl,hW.same S' du',hW.same S' eu',iO (BX zd) hdu,iO (BX ze) heu,fun H'' S''=>⟨_,rfl,?_⟩⟩⟩;by_cases c:du=eu
    ·rw [zzr1 c];refine a_ ⟨_,_,rfl,S'.trans S'',?_⟩;rw [take_snoc hdu,take_snoc heu,ht,c]
    ·rw [zzr0 c];refine bW ?_;have:=k _ (S'.trans S'');rw [zzr0 (fun z=>c (by injection z with z; rw [z,heu] at hdu; exact (dZ hdu).symm))] at this;exact this
   ·rintro σ H' ⟨x,y,rfl,S,ht⟩;have:=k _ S;rw [zzr1 (by rw [DIns.len rd,aX,<-DIns.len rd,hl,DIns.len re,aX] at ht; rw [ht])] at this;exact this
 | @lst b ys le qe re =>
  have ty:Fv K H (.ref b) (.type "list"):=.inr (.inr ⟨_,_,rfl,rfl,qe⟩);refine qA ty rfl rfl ?_;have no:∀(t:Value),Fv K H x t->nS K t (.type "tuple")=some false->nS K t (.type "list")=some false->¬d=.s le->(ao (bD (zB (aJ (aE tZ (cG (hZ K) (aB V1 (tC (.ty "tuple")))) (cG (hZ K) (aB V0 (tC (.ty "tuple")))))) (aJ (aE tZ (cG (hZ K) (aB V1 (tC (.ty "list")))) (cG (hZ K) (aB V0 (tC (.ty "list"))))))) (aT (tC (.bl false))) (aU))
 (ao (bD (aJ (aE tZ (cG (cW K) (aw V0)) (cG (cW K) (aw V1)))) (aT (tC (.bl false))) (aU))
 (ao (dR (vi K (aB V0 V1)) (fW K 2 (aR U2 (aR U3 (fI)))) (bD (mZ (tB (aO sp (aB V2 V3)))) (aT (tC (.bl false))) (aU)))
 (aT (tC (.bl true)))))) (bC Q) [some x,some (.ref b),none,none] H:=by
   intro t tx kt kl ne;refine ⟨_,rfl,.ref b,"tuple",_,false,rfl,ty,rfl,_,rfl,x,"tuple",t,false,rfl,tx,kt,rfl,_,rfl,?_⟩;rw [jN];refine a_ ?_;refine ⟨_,rfl,.ref b,"list",_,true,rfl,ty,rfl,_,rfl,x,"list",t,false,rfl,tx,kl,rfl,_,rfl,?_⟩;have:(!decide (V.bl true=V.bl false))=true:=rfl;rw [this];refine bW ?_;rw [zzr0 ne] at k0;exact k0
  cases hd' with
  | int j=>exact no _ (.inl (gG.int j)) rfl rfl nofun
  | str z=>exact no _ (.inl (gG.str z)) rfl rfl nofun
  | tup q r =>
   refine ⟨_,rfl,.ref b,"tuple",_,false,rfl,ty,rfl,_,rfl,.ref _,"tuple",_,true,rfl,.inr (.inl ⟨_,_,rfl,rfl,q⟩),rfl,rfl,_,rfl,?_⟩;have:(!decide (V.bl false=V.bl true))=true:=rfl;rw [this];refine bW (bW ?_);rw [zzr0 nofun] at k0;exact k0
  | @lst f xs ld qd rd =>
   clear no;have tyd:Fv K H (.ref f) (.type "list"):=.inr (.inr ⟨_,_,rfl,rfl,qd⟩);refine ⟨_,rfl,.ref b,"tuple",_,false,rfl,ty,rfl,_,rfl,.ref f,"tuple",_,false,rfl,tyd,rfl,rfl,_,rfl,?_⟩;rw [jN];refine a_ ?_;refine ⟨_,rfl,.ref b,"list",_,true,rfl,ty,rfl,_,rfl,.ref f,"list",_,true,rfl,tyd,rfl,rfl,_,rfl,?_⟩;rw [jN];refine a_ ?_;refine ⟨_,rfl,.inl ⟨f,_,rfl,.inl qd,_,rfl,.inl ⟨b,_,rfl,.inl qe,rfl,_,rfl,?_⟩⟩⟩;by_cases hl:xs.length=ys.length;rotate_left
   ·have en:(!decide (V.int (xs.length:Nat)=V.int (ys.length:Nat)))=true:=by
     rw [zzr0 (fun z=>hl (by injection z with z; omega))]; rfl
    rw [en];refine bW ?_;rw [zzr0 (fun z=>hl (by rw [DIns.len rd,DIns.len re]; injection z with z; rw [z]))] at k0;exact k0
   have en:(!decide (V.int (xs.length:Nat)=V.int (ys.length:Nat)))=false:=by
    rw [zzr1 (by rw [hl])]; rfl
   rw [en];refine a_ ?_;obtain ⟨m,rfl⟩:∃m,n=m+1:=⟨n-1,by have:=E_ zd; omega⟩;obtain rfl:=hsp m rfl;refine ⟨_,rfl,_,rfl,f,b,rfl,.inl ⟨⟨_,qd⟩,⟨_,qe⟩,?_⟩⟩;refine yU (xs:=xs) (ys:=ys) hl (fun i σ H'=>∃x y,σ=[some (.ref f),some (.ref b),x,y]/\ac H H'/\ld.take i=le.take i)
    ⟨_,_,rfl,ac.refl H,rfl⟩ (fun i σ H' _ ⟨_,_,_,S,_⟩=>⟨aA.same S qd,aA.same S qe⟩) ?_ ?_
   ·rintro i x y σ H' p hx hy ⟨x2,x3,rfl,S,ht⟩ hp;obtain ⟨du,hdu,du'⟩:=DIns.get rd hx;obtain ⟨eu,heu,eu'⟩:=DIns.get re hy;have S':=S.trans (ac.new (o:=.tup [x,y]) hp);refine ⟨p,_,rfl,bj.of aa,rfl,_,_,rfl,_,_,rfl,rfl,?_⟩;refine ⟨_,rfl,_,rfl,.inl ⟨x,y,du,eu,rfl,hW.same S' du',hW.same S' eu',iO (BY zd) hdu,iO (BY ze) heu,fun H'' S''=>⟨_,rfl,?_⟩⟩⟩;by_cases c:du=eu
    ·rw [zzr1 c];refine a_ ⟨_,_,rfl,S'.trans S'',?_⟩;rw [take_snoc hdu,take_snoc heu,ht,c]
    ·rw [zzr0 c];refine bW ?_;have:=k _ (S'.trans S'');rw [zzr0 (fun z=>c (by injection z with z; rw [z,heu] at hdu; exact (dZ hdu).symm))] at this;exact this
   ·rintro σ H' ⟨x,y,rfl,S,ht⟩;have:=k _ S;rw [zzr1 (by rw [DIns.len rd,aX,<-DIns.len rd,hl,DIns.len re,aX] at ht; rw [ht])] at this;exact this
def DM (K:Za) (sp_law_still_on:Sp):TS :=
 ao (aP (aO sp_law_still_on (aB (aE (mD K) V0 (tC (.int 3))) V1)) U2)
 (aT (cG (Bt K) (au (dA 1 [2] (cy K (aE (mD K) V0 (tC (.int 2)))) U0 (aJ (aE (sR K false) V0 V1)) V0) be)))
def Fl:List Str:=["told","some","there"]
def sw (K:Za) :TS :=
 aT (aE (kG K) (dA 1 [1] (cy K (aE (mD K) V0 (tC (.int 3)))) U0 (jC (aJ (aE (kG K) (aE (mD K) V0 (tC (.int 0))) V1)) (aJ (aE tZ (aE (mD K) (aE (mD K) V0 (tC (.int 1))) (tC (.int 0))) (tC (.str "ask"))))) V0) (dk (be)))
def tQ:List Str:=["told","room"]
def wo (K:Za) (sp_law_on:Sp) (sp_law_is_quiet:Sp):TS :=
 ao (bD (aJ (aE (kG K) V2 (aZ (aw (tC (.str "hush")))))) (aT (cG (Bt K) (aw (dA 1 [0] (Gr K V1) U0 (tB (aO sp_law_is_quiet (aB V1 V0))) V0)))) (aU))
 (aT (aO sp_law_on (au V0 (au (dA 1 [1,2] (cy K (aE (mD K) V0 (tC (.int 3)))) U0 (jC (aJ (aE (sR K false) (aE (mD K) V0 (tC (.int 0))) V1)) (aJ (aE (kG K) (aE (mD K) V0 (tC (.int 1))) V2))) (aE (mD K) V0 (tC (.int 2)))) be))))
def xu:List Str:=["told","face","sign"]
def xO (K:Za) :TS :=
 aT (aE pU (aE pU (dA 1 [] (cy K (aE (mD K) V0 (tC (.int 0)))) U0 (kE) (aZ (aB (tC (.str "ask")) V0))) (dA 1 [] (cy K (aE (mD K) V0 (tC (.int 1)))) U0 (kE) (aZ (aB (tC (.str "say")) V0)))) (dk (aw (aZ (aw (tC (.str "hush")))))))
def zh:List Str:=["told"]
open Classical in
def closF (J2:Zb) (ds:List am) (gs:Zb):List Str:=J2.filter fun r=>decide (gK ds gs r)
open Classical in
theorem tJ {J2 F gs:Zb}{ds:List am}(hF:∀w,w∈F↔gK ds gs w):J2.filter (fun r=>decide (r∈F))=closF J2 ds gs:=by
 unfold closF;refine List.filter_congr fun r _=>?_;by_cases c:r∈F
 ·rw [zzr1 c,zzr1 ((hF r).mp c)]
 ·rw [zzr0 c,zzr0 fun z=>c ((hF r).mpr z)]
open Classical in
theorem y4 {J2 gs gs':Zb}{ds:List am}(h:∀g,g∈gs↔g∈gs'):closF J2 ds gs=closF J2 ds gs':=by
 have:∀r,gK ds gs r↔gK ds gs' r:=fun r=>⟨fun ⟨g,hg,e⟩=>⟨g,(h g).mp hg,e⟩,fun ⟨g,hg,e⟩=>⟨g,(h g).mpr hg,e⟩⟩;unfold closF;refine List.filter_congr fun r _=>?_;by_cases c:gK ds gs r
 ·rw [zzr1 c,zzr1 ((this r).mp c)]
 ·rw [zzr0 c,zzr0 fun z=>c ((this r).mpr z)]
def behF (J2:Zb) (ds:List am) (J6 sg:Zb):List Str:=if sg=bP then J6.filter (fun r=>decide (r∉h9 ds)) else closF J2 ds (cZ ds sg J6)
theorem En {J2:Zb}{ds:List am}{fc:Zb}(hfc:∀r∈fc,r∈J2):(fc.filter fun r=>decide (r∈J2.filter (e_ ds)))=fc.filter fun r=>decide (r∉h9 ds):=by
 refine List.filter_congr fun r hr=>?_;rw [<-sS];cases q:e_ ds r with
 | true=>exact zzr1 (cx.mpr ⟨hfc r hr,q⟩)
 | false=>exact zzr0 (fun z=>by rw [(cx.mp z).2] at q; cases q)
inductive rq (K:Za) (C:Addr) (vs:List V) (H:Hp) (Q:VK) (E:XK):Prop
 | mk (x t s:Addr) (J6 sg J0 J1 J2:Zb) (ds:List am):(vs=[.ref x,.ref t,.ref s])->(bB C H x J0 J1 J2 ds)->(H t=some (.tup (J6.map V.str)))->(bj K H s (sg.map V.str))->((sg=bP∨H s=some (.tup (sg.map V.str))))->((∀r∈J6,r∈J2))->(J6.length<=1000)->(∀(t':Addr) (H':Hp),H' t'=some (.tup ((behF J2 ds J6 sg).map V.str))->ac H H'->Q (.ref t') H')->rq K C vs H Q E
theorem FU {K:Za}{C hu:Addr}(hhu:∀H,bj K H hu (bP.map V.str)) {vs:List V}{H:Hp}{Q:VK}{E:XK}(h:rq K C vs H Q E) :
  mB K (sp_with_still C) C (iw C) hu (g6 C) (bC Q) (start mG vs) H:=by
 obtain ⟨x,t,s,J6,sg,J0,J1,J2,ds,rfl,M,ht,hs,hor,hsub,hz,k⟩:=h;by_cases hh:sg=bP;rotate_left
 ·refine wH (E:=E) hhu ⟨x,t,s,J6,sg,J0,J1,J2,ds,rfl,M,ht,hor.resolve_left hh,hh,hz,fun t' F H' h1 hF S=>k t' H' ?_ S⟩;rw [h1,tJ hF];unfold behF;rw [if_neg hh]
 subst hh;refine ⟨_,rfl,kK bP,kK bP,bN hs,bN (hhu _),by rw [cz]; decide,by rw [cz]; decide,_,rfl,?_⟩;rw [zzr1 rfl];refine bW ?_;refine ⟨_,rfl,t,rfl,⟨_,bj.of ht⟩,fun f hf=>?_⟩;refine y3 (xs:=J6.map V.str) (fun i vs H'=>vs=((J6.take i).filter fun r=>decide (r∈J2.filter (e_ ds))).map V.str/\ac H H'/\H' f=some (.lst vs)) ⟨rfl,ac.new hf,aa⟩ (fun i vs H' _ ⟨_,S,h'⟩=>⟨h',bj.of (S _ _ ht)⟩) ?_ ?_
 ·rintro vs H' ⟨rfl,S,f'⟩;rw [aj,aX] at f';refine ⟨f,_,rfl,.inl ⟨aA.of f',fun t' ht'=>k t' _ ?_ (S.trans (ac.new ht'))⟩⟩;rw [aa,En hsub];unfold behF;rw [if_pos rfl]
 ·rintro i vs H' x' hx' hi ⟨rfl,S,f'⟩;obtain ⟨r,hr,rfl⟩:=bA hx';have M':=M.same S;obtain ⟨dx,fs,o1,o2,o3,o4,lv,qu,sgA,sl,ts,lps,gps,sps,g1,a1,_⟩:=M'.at_;refine gN ?_;refine ⟨_,rfl,x,dx,fs,rfl,g1,a1,_,rfl,x,r,J0,J1,J2,ds,rfl,M',_,rfl,?_⟩;have hlen:(((J6.take i).filter fun r=>decide (r∈J2.filter (e_ ds))).map V.str).length<ai:=by
   rw [aj];refine ap (bH (dC _ _) ?_);rw [aK]; omega
  refine iW (fun hq=>?_) (fun hq=>?_)
  ·refine ⟨_,rfl,f',hlen,o9 hi ⟨?_,?_,aa⟩⟩
   ·rw [cI hr,if_pos hq,ax]; rfl
   ·intro b o q;rw [af (ae q hf)];exact S _ _ q
  ·refine o9 hi ⟨?_,S,f'⟩;rw [cI hr,if_neg hq,fK]
inductive yf  (vs:List V) (H:Hp) (Q:VK) (E:XK):Prop
 | mk (t l l1 l2 l3 l4:Addr) (ts:Ze) (J0 J1 J2 gs:Zb) (ds:List am):(vs=[.ref t,.ref l])->(iQ H t l1 l2 l3 l4 ts J0 J1 J2 ds)->(aQ J0 J1 J2 ds)->(H l=some (.lst (gs.map V.str)))->(gs.length<=1000)->(∀(t':Addr) (H':Hp),H' t'=some (.tup ((closF J2 ds gs).map V.str))->ac H H'->Q (.ref t') H')->yf  vs H Q E
theorem HF {K:Za}{vs:List V}{H:Hp}{Q:VK}{E:XK}(h:yf vs H Q E):DM K (eB K) (bC Q) (start Fl vs) H:=by
 obtain ⟨t,l,l1,l2,l3,l4,ts,J0,J1,J2,gs,ds,rfl,T,m,hl,hz,k⟩:=h;have z3:=m.rooms26;refine ⟨_,rfl,.inr (.inl ⟨t,_,3,_,rfl,rfl,bj.of T.t,rfl,_,rfl,l4,l,ts,ds,gs,J2,rfl,T.a4,T.ds,hl,fun d hd=>(m.good d hd).b,by omega,hz,fun th F H1 hth hF hFl fr S1=>?_⟩)⟩;have T1:=T.same S1;refine ⟨_,rfl,.inr (.inl ⟨t,_,2,_,rfl,rfl,bj.of T1.t,rfl,l3,rfl,⟨_,aA.of T1.a3⟩,fun f hf=>?_⟩)⟩;refine cJ (xs:=J2.map V.str) (fun i vs H'=>vs=((J2.take i).filter fun r=>decide (r∈F)).map V.str/\ac H1 H'/\H' f=some (.lst vs)) ⟨rfl,ac.new hf,aa⟩ (fun i vs H' _ ⟨_,S,h'⟩=>⟨h',aA.of (S _ _ T1.a3)⟩) ?_ ?_
 ·rintro vs H' ⟨rfl,S,f'⟩;rw [aj,aX,tJ hF] at f';exact ⟨f,_,rfl,.inl ⟨aA.of f',fun t' ht'=>k t' _ aa ((S1.trans S).trans (ac.new ht'))⟩⟩
 ·rintro i vs H' x' hx' hi ⟨rfl,S,f'⟩;obtain ⟨r,hr,rfl⟩:=bA hx';refine gN ?_;refine ⟨_,rfl,_,rfl,fR r,F.map fR,th,_,jc r,rfl,.inl (aA.of (S _ _ hth)),lE _,(by show 0<=8; decide),by rw [fh]; decide,_,rfl,?_⟩;rw [if_neg gh,w_];have hlen:(((J2.take i).filter fun r=>decide (r∈F)).map V.str).length<ai:=by
   rw [aj];refine ap (bH (dC _ _) ?_);rw [aK]; omega
  refine iW (fun hq=>?_) (fun hq=>?_)
  ·refine ⟨_,rfl,f',hlen,o9 hi ⟨?_,?_,aa⟩⟩
   ·rw [cI hr,if_pos hq,ax]; rfl
   ·intro b o q;rw [af (ae q hf)];exact S _ _ q
  ·refine o9 hi ⟨?_,S,f'⟩;rw [cI hr,if_neg hq,fK]
theorem nv (ds:List am):DT.depths (ds.map tE)<=2:=by
 induction ds with
 | nil=>exact c9 _
 | cons x xs ih=>rw [bw]; show max (DT.depth (tE x)) (DT.depths _)<=2; rw [w8]; omega
theorem pQ {J0 J1 J2:Zb}{dr:am}(g:zm J0 J1 J2 dr):∃s0 rest,dr.sg=s0::rest/\(!decide (V.str s0=V.str ("ask":Str)))=!fU dr:=by
 obtain ⟨s0,rest,hsg⟩:∃s0 rest,dr.sg=s0::rest:=by
  rcases g.sg with ⟨w,_,e⟩ | ⟨w,_,e⟩ | e <;> exact ⟨_,_,e⟩
 refine ⟨s0,rest,hsg,?_⟩;unfold fU;rw [hsg];congr 1;show _=decide (s0=("ask":Str));by_cases c:s0=("ask":Str)
 ·rw [zzr1 c,zzr1 (by rw [c])]
 ·rw [zzr0 c,zzr0 (fun z=>c (by injection z))]
inductive lP  (vs:List V) (H:Hp) (Q:VK) (E:XK):Prop
 | mk (t l1 l2 l3 l4:Addr) (ts:Ze) (J0 J1 J2:Zb) (ds:List am) (r:Str):(vs=[.ref t,.str r])->(iQ H t l1 l2 l3 l4 ts J0 J1 J2 ds)->(aQ J0 J1 J2 ds)->(∀H',ac H H'->Q (.bl (decide (r∉h9 ds))) H')->lP  vs H Q E
theorem CM {K:Za}{vs:List V}{H:Hp}{Q:VK}{E:XK}(h:lP vs H Q E):sw K (bC Q) (start tQ vs) H:=by
 obtain ⟨t,l1,l2,l3,l4,ts,J0,J1,J2,ds,r,rfl,T,m,k⟩:=h;have z4:=m.few;refine ⟨_,rfl,.inr (.inl ⟨t,_,3,_,rfl,rfl,bj.of T.t,rfl,l4,rfl,⟨_,aA.of T.a4⟩,fun f hf=>?_⟩)⟩;refine cJ (xs:=ts.map V.ref) (fun i vs H'=>∃us:List Addr,vs=us.map V.ref/\ac H H'/\H' f=some (.lst vs)/\cu H' us ((ds.take i).filter fun d=>decide (d.a=r) && !fU d)) ⟨[],rfl,ac.new hf,aa,.nil⟩ (fun i vs H' _ ⟨_,_,S,h',_⟩=>⟨h',aA.of (S _ _ T.a4)⟩) ?_ ?_;rotate_left
 ·rintro i vs H' x' hx' hi ⟨us,rfl,S,f',hP⟩;obtain ⟨u,hu,rfl⟩:=dq hx';obtain ⟨dr,hdr,hatd⟩:=Paired.getL T.ds hu;have hat':=hatd.kt (ac.kt S);obtain ⟨sb,ht2,hs2⟩:=hatd.kt (ac.kt S);obtain ⟨s0,rest,hsg,ea⟩:=pQ (m.good dr (bd hdr));unfold SignAt at hs2;rw [hsg] at hs2;have keep:(decide (dr.a=r) && !fU dr)=false->∃m',m'<(ts.map V.ref).length-i/\Wc (ts.map V.ref).length (fun i vs H'=>∃us:List Addr,vs=us.map V.ref/\ac H H'/\H' f=some (.lst vs)/\cu H' us ((ds.take i).filter fun d=>decide (d.a=r) && !fU d)) (i+1) m' (us.map V.ref) H':=by
   intro z;refine o9 hi ⟨us,rfl,S,f',?_⟩;rw [fX hdr,if_neg (by rw [z]; decide),fK];exact hP
  refine gN ?_;refine ⟨_,rfl,.inr (.inl ⟨u,_,0,_,rfl,rfl,bj.of ht2,rfl,_,rfl,fR dr.a,fR r,jc _,jc _,(by show 0<=8; decide),(by show 0<=8; decide),_,rfl,?_⟩)⟩;rw [B1];by_cases c1:dr.a=r;rotate_left
  ·rw [zzr0 c1];exact a_ (a_ (keep (by rw [zzr0 c1]; rfl)))
  rw [zzr1 c1];refine bW ?_;refine ⟨_,rfl,.inr (.inl ⟨u,_,1,_,rfl,rfl,bj.of ht2,rfl,.inr (.inl ⟨sb,_,0,.str s0,rfl,rfl,bj.of hs2,bI (j:=0) rfl,rfl,_,rfl,?_⟩)⟩)⟩;rw [ea];cases q:fU dr with
  | true=>exact a_ (keep (by rw [q,zzr1 c1]; rfl))
  | false =>
   refine bW ?_;refine ⟨_,rfl,f',?_,o9 hi ⟨us++[u],by rw [ax]; rfl,?_,aa,?_⟩⟩
   ·rw [aj,Paired.length hP];refine ap (bH (dC _ _) ?_);rw [aK]; omega
   ·intro b o q;rw [af (ae q hf)];exact S _ _ q
   ·rw [fX hdr,if_pos (by rw [q,zzr1 c1]; rfl)];have hk:gJ H' (upd H' f (.lst (us.map V.ref++[.ref u]))):=cA f';exact cD (hP.kt hk) (hat'.kt hk)
 rintro vs H1 ⟨us,rfl,S1,f1,hP⟩;rw [aj,Paired.length T.ds,aX] at hP;refine ⟨(by show 0<=ai; decide),fun e he=>⟨.s ((ds.filter fun d=>decide (d.a=r) && !fU d).map tE),.s [],?_,Cd (aA.of aa),?_,by decide,?_⟩⟩
 ·unfold hW;exact ⟨f,_,rfl,aA.of (kp f1 he),cu.dIns (hP.kt (ac.kt (ac.new he)))⟩
 ·show DT.depths _+1<=8;have:=nv (ds.filter fun d=>decide (d.a=r) && !fU d);omega
 have ed:decide (DT.s ((ds.filter fun d=>decide (d.a=r) && !fU d).map tE)=DT.s [])=decide (r∉h9 ds):=by
  by_cases c:r∈h9 ds
  ·have e0:decide (r∉h9 ds)=false:=zzr0 (fun z=>z c);rw [e0];refine zzr0 fun z=>?_;injection z with z;unfold h9 at c;obtain ⟨d,hd,e1⟩:=aD.mp c;obtain ⟨h1,h2⟩:=cx.mp hd;have:tE d∈(ds.filter fun d=>decide (d.a=r) && !fU d).map tE:=jR (cx.mpr ⟨h1,by rw [zzr1 e1,h2]; rfl⟩);rw [z] at this;cases this
  ·have e0:decide (r∉h9 ds)=true:=zzr1 c;rw [e0];refine zzr1 ?_;have:(ds.filter fun d=>decide (d.a=r) && !fU d)=[]:=by
    rw [List.filter_eq_nil_iff];intro d hd z;rw [r_] at z;exact c (aD.mpr ⟨d,cx.mpr ⟨hd,z.2⟩,of_decide_eq_true z.1⟩)
   rw [this]
   rfl
 rw [ed];exact k _ (S1.trans (ac.new he))
abbrev kH (H:Hp) (us:Ze) (L:List (List Str)):Prop:=Paired (SignAt H) us L
theorem kH.kt {H H':Hp}{us:Ze}{L:List (List Str)}(k:gJ H H') (h:kH H us L):kH H' us L:=Paired.mapP h fun _ _ r=>k _ _ r
theorem AD (L:List (List Str)):DT.depths (L.map kK)<=1:=by
 induction L with
 | nil=>exact c9 _
 | cons x xs ih=>rw [bw]; show max (DT.depth (kK x)) (DT.depths _)<=1; rw [cz]; omega
theorem yY {K:Za}{H:Hp}{a:Addr}(h:bj K H a []):hW K H (.t []) (.ref a):=by
 unfold hW;refine ⟨a,_,rfl,h,?_⟩;unfold DIns
 rfl
def ay (J0 J1:Zb):List (List Str):=J0.map da++J1.map oq++[bP]
inductive n6  (vs:List V) (H:Hp) (Q:VK) (E:XK):Prop
 | mk (t l1 l2 l3 l4:Addr) (ts:Ze) (J0 J1 J2:Zb) (ds:List am):(vs=[.ref t])->(iQ H t l1 l2 l3 l4 ts J0 J1 J2 ds)->(aQ J0 J1 J2 ds)->(∀(l:Addr) (us:Ze) (H':Hp),H' l=some (.lst (us.map V.ref))->kH H' us (ay J0 J1)->H l=none->ac H H'->Q (.ref l) H')->n6  vs H Q E
theorem j6 {K:Za}{σ:L2.St}{H:Hp}{a l:Addr}{ws:Zb}{kd:Str}{Q:Hp->Prop}(ha:H a=some (.lst (ws.map V.str))) (hz:ws.length<=1000) (hl:H l=none)
  (k:∀(us:Ze) (H':Hp),H' l=some (.lst (us.map V.ref))->kH H' us (ws.map fun w=>[kd,w])->ac H H'->Q H') :
  ga 1 [] σ (Fw K a) U0 kE (aZ (aB (tC (.str kd)) V0)) H l Q:=by
 refine cJ (xs:=ws.map V.str) (fun i vs H'=>∃us:List Addr,vs=us.map V.ref/\ac H H'/\H' l=some (.lst vs)/\kH H' us ((ws.take i).map fun w=>[kd,w])) ⟨[],rfl,ac.new hl,aa,.nil⟩ (fun i vs H' _ ⟨_,_,S,h',_⟩=>⟨h',aA.of (S _ _ ha)⟩) ?_ ?_
 ·rintro vs H' ⟨us,rfl,S,h',hP⟩;rw [aj,aX] at hP;exact k us H' h' hP S
 ·rintro i vs H' x' hx' hi ⟨us,rfl,S,f',hP⟩;obtain ⟨w,hw,rfl⟩:=bA hx';refine gN (t4 ?_);refine ⟨_,rfl,(by show 2<=ai; decide),fun u hu=>⟨kp f' hu,?_,o9 hi ⟨us++[u],by rw [ax]; rfl,?_,aa,?_⟩⟩⟩
  ·rw [aj,Paired.length hP,aj,aK];exact ap (by omega)
  ·intro b o q;rw [af (ae q hl)];exact kp (S _ _ q) hu
  ·rw [take_snoc hw,ax];have hk:gJ H' (upd (upd H' u (.tup [.str kd,.str w])) l (.lst (us.map V.ref++[.ref u]))):=(ac.kt (ac.new hu)).trans (cA (kp f' hu));exact cD (kH.kt hk hP) ((cA (kp f' hu)) _ _ aa)
theorem DW {K:Za}{vs:List V}{H:Hp}{Q:VK}{E:XK}(h:n6 vs H Q E):xO K (bC Q) (start zh vs) H:=by
 obtain ⟨t,l1,l2,l3,l4,ts,J0,J1,J2,ds,rfl,T,m,k⟩:=h;have z1:=m.asks4;have z2:=m.says4;refine ⟨_,rfl,.inr (.inl ⟨t,_,0,_,rfl,rfl,bj.of T.t,rfl,l1,rfl,⟨_,aA.of T.a1⟩,fun la hla=>?_⟩)⟩;refine j6 (kd:="ask") T.a1 (by omega) hla fun ua H1 h1 hP1 S1=>?_;have T1:=T.same S1;refine ⟨_,rfl,.inr (.inl ⟨t,_,1,_,rfl,rfl,bj.of T1.t,rfl,l2,rfl,⟨_,aA.of T1.a2⟩,fun ls hls=>?_⟩)⟩;refine j6 (kd:="say") T1.a2 (by omega) hls fun us H2 h2 hP2 S2=>?_;have h12:=S2 _ _ h1;have hP12:=kH.kt (ac.kt S2) hP1;refine ⟨la,ls,_,_,rfl,rfl,h12,h2,?_,fun c1 hc1=>?_⟩
 ·rw [aj,aj,Paired.length hP1,Paired.length hP2,aj,aj];exact em (ap (by omega))
 refine ⟨(by show 1<=ai; decide),fun hh hhh=>⟨(by show 1<=ai; decide),fun hl hhl=>?_⟩⟩;refine ⟨c1,hl,_,_,rfl,rfl,kp (kp aa hhh) hhl,aa,?_,fun r hr=>?_⟩
 ·rw [aM,aj,aj,Paired.length hP1,Paired.length hP2,aj,aj];exact em (ap (by show _+1<=1000; omega))
 have S3:=(((ac.new (o:=.lst (ua.map V.ref++us.map V.ref)) hc1).trans (ac.new (o:=.tup [.str "hush"]) hhh)).trans (ac.new (o:=.lst [.ref hh]) hhl)).trans (ac.new (o:=.lst (ua.map V.ref++us.map V.ref++[.ref hh])) hr);refine k r (ua++us++[hh]) _ ?_ ?_ ?_ ((S1.trans S2).trans S3)
 ·rw [aa,ax,ax]; rfl
 ·refine Paired.app (Paired.app (kH.kt (ac.kt S3) hP12) (kH.kt (ac.kt S3) hP2)) (.cons ?_ .nil);exact kp (kp aa hhl) hr
 ·exact (((S1.trans S2).trans ((ac.new hc1).trans (ac.new hhh))).trans (ac.new hhl)).free hr
theorem Paired.takeP {α β:Type}{R:α->β->Prop}:∀(n:Nat) {xs:List α}{ys:List β},Paired R xs ys->Paired R (xs.take n) (ys.take n)
 | 0,_,_,_=>by rw [rQ,rQ]; exact .nil
 | _+1,_,_,.nil=>.nil
 | n+1,_,_,.cons r t=>.cons r (Paired.takeP n t)
def sA (K:Za) :TS :=
 aT (cG (dv K) (aw (fO K V0 "own_asks")))
def tS:List Str:=["self"]
def sy (K:Za) :TS :=
 aT (cG (dv K) (aw (fO K V0 "own_says")))
def tR:List Str:=["self"]
def kZ (K:Za) :TS :=
 aT (cG (dv K) (aw (sI K (fO K V0 "leaving") V1 (aZ (be)))))
def lI:List Str:=["self","room"]
theorem m9 {C x:Addr}{H:Hp}{J0 J1 J2:Zb}{ds:List am}(h:bB C H x J0 J1 J2 ds):∃(dx:Addr) (fs:List (Str×V)) (o1 o2 lv:Addr) (lps:List (Str×Addr)),H x=some (.ins C dx fs)/\lk "asks" fs=none/\lk "says" fs=none/\lk "doors_from" fs=none/\lk "is_quiet" fs=none/\lk "own_asks" fs=some (.ref o1)/\lk "own_says" fs=some (.ref o2)/\lk "leaving" fs=some (.ref lv) /\
  H o1=some (.lst (J0.map V.str))/\H o2=some (.lst (J1.map V.str))/\lps.map (·.1)=J2/\H lv=some (.dK (dU Sum.inr lps))/\(∀x∈lps,∃us,H x.2=some (.lst (us.map V.ref))/\cu H us (bv ds x.1)):=by
 obtain ⟨dx,fs,o1,o2,o3,o4,lv,qu,sg,sl,ts,lps,gps,sps,g1,a1,a2,a3,a4,b1,b2,b3,b4,b5,b6,b7,b8,L,c1,c2,c3,c4,G,d1,d2,d3⟩:=h.at_;obtain ⟨dx',fs',g1',e1,e2,e3,e4⟩:=h.more;rw [g1] at g1';cases g1';exact ⟨dx,fs,o1,o2,lv,lps,g1,e1,e2,e4,a1,b1,b2,b5,L.a1,L.a2,c1,c2,c3⟩
inductive lR (C:Addr) (vs:List V) (H:Hp) (Q:VK) (E:XK):Prop
 | mk (x:Addr) (J0 J1 J2:Zb) (ds:List am):(vs=[.ref x])->(bB C H x J0 J1 J2 ds)->(∀l,H l=none->Q (.ref l) (upd H l (.lst (J0.map V.str))))->lR C vs H Q E
theorem FW {K:Za}{C:Addr}(M:MC K C) {vs:List V}{H:Hp}{Q:VK}{E:XK}(h:lR C vs H Q E):sA K (bC Q) (start tS vs) H:=by
 obtain ⟨x,J0,J1,J2,ds,rfl,h,k⟩:=h;obtain ⟨dx,fs,o1,o2,lv,lps,g1,a1,a2,a3,a4,b1,b2,b3,c1,c2,_⟩:=m9 h;exact ⟨_,rfl,x,C,dx,fs,.ref o1,rfl,g1,M.cls,M.a1,b1,.inl ⟨o1,_,rfl,.inl (aA.of c1),k⟩⟩
inductive n8 (C:Addr) (vs:List V) (H:Hp) (Q:VK) (E:XK):Prop
 | mk (x:Addr) (J0 J1 J2:Zb) (ds:List am):(vs=[.ref x])->(bB C H x J0 J1 J2 ds)->(∀l,H l=none->Q (.ref l) (upd H l (.lst (J1.map V.str))))->n8 C vs H Q E
theorem FQ {K:Za}{C:Addr}(M:MC K C) {vs:List V}{H:Hp}{Q:VK}{E:XK}(h:n8 C vs H Q E):sy K (bC Q) (start tR vs) H:=by
 obtain ⟨x,J0,J1,J2,ds,rfl,h,k⟩:=h;obtain ⟨dx,fs,o1,o2,lv,lps,g1,a1,a2,a3,a4,b1,b2,b3,c1,c2,_⟩:=m9 h;exact ⟨_,rfl,x,C,dx,fs,.ref o2,rfl,g1,M.cls,M.a2,b2,.inl ⟨o2,_,rfl,.inl (aA.of c2),k⟩⟩
inductive gV (C:Addr) (vs:List V) (H:Hp) (Q:VK) (E:XK):Prop
 | mk (x:Addr) (r:Str) (J0 J1 J2:Zb) (ds:List am):(vs=[.ref x,.str r])->(bB C H x J0 J1 J2 ds)->(r∈J2)->(∀(l:Addr) (us:Ze) (H':Hp),H' l=some (.lst (us.map V.ref))->cu H' us (bv ds r)->H l=none->ac H H'->Q (.ref l) H')->gV C vs H Q E
theorem uy {K:Za}{C:Addr}(M:MC K C) {vs:List V}{H:Hp}{Q:VK}{E:XK}(h:gV C vs H Q E):kZ K (bC Q) (start lI vs) H:=by
 obtain ⟨x,r,J0,J1,J2,ds,rfl,h,hr,k⟩:=h;obtain ⟨dx,fs,o1,o2,lv,lps,g1,a1,a2,a3,a4,b1,b2,b3,c1,c2,c3,c4,c5⟩:=m9 h;have nod:=h.ok.okR.1;obtain ⟨⟨r',a⟩,hra,er⟩:=aD.mp (show r∈lps.map (·.1) by rw [c3]; exact hr);obtain rfl:r'=r:=er;obtain ⟨us,e1,e2⟩:=c5 _ hra;refine ⟨_,rfl,x,C,dx,fs,.ref lv,rfl,g1,M.cls,M.a5,b3,lv,rfl,.inl ⟨_,.inl c4⟩,_,rfl,(by show 0<=ai; decide),fun et het=>⟨_,.inl ⟨_,.inr r',.inl (kp c4 het),rfl,rfl⟩,?_⟩⟩;rw [d4 im (by rw [c3]; exact nod) hra];have S1:ac H (upd H et (.tup [])):=ac.new het;refine .inl ⟨a,_,rfl,.inl (aA.of (S1 _ _ e1)),fun l hl=>k l us _ aa ?_ (S1.free hl) (S1.trans (ac.new hl))⟩;exact e2.kt (ac.kt (S1.trans (ac.new hl)))
theorem yX {α:Type} [DecidableEq α] (a:α):decide (a=a)=true:=zzr1 rfl

theorem Gp {n j:Nat}(h:j<n):Fu n (j:Int)=some j:=by
 unfold Fu;rw [if_pos (Int.natCast_nonneg j),if_pos (by omega)]
 rfl
theorem Reach.mono {ds ds':List am}(h:∀a b,(⟨a,av,b⟩:am)∈ds->(⟨a,av,b⟩:am)∈ds') {a b:Str}(r:Reach ds a b):Reach ds' a b:=by
 induction r with
 | one e=>exact .one (h _ _ e)
 | step _ e ih=>exact .step ih (h _ _ e)
theorem EA {K:Za}{H:Hp}{l q:Addr}{ts:Ze}{ds:List am}{Q:VK}(hl:H l=some (.lst (ts.map V.ref))) (hd:cu H ts ds) (hq:H q=some (.lst [])) (h1:ds≠[]->Q (.bl true) H) (h2:ds=[]->Q (.bl false) H):oB K (.ref l) (.ref q) H Q:=by
 refine ⟨.s (ds.map tE),.s [],(by unfold hW; exact ⟨l,_,rfl,aA.of hl,hd.dIns⟩),(by unfold hW; exact ⟨q,_,rfl,aA.of hq,by unfold DIns; rfl⟩),?_,(by decide),?_⟩
 ·show DT.depths _+1<=8;have:=nv ds;omega
 ·by_cases c:ds=[]
  ·subst c;rw [zzr1 (show DT.s (([]:List am).map tE)=DT.s [] from rfl)];exact h2 rfl
  ·rw [zzr0 (fun z=>c (by injection z with z; exact rM.mp z))];exact h1 c
def FE (K:Za) (C_Machine:Addr) (sp_Machine_led_from:Sp) (sp_Machine_goals:Sp):TS :=
 aT (cG (rAny K) (au (dA 1 [0,2] (cy K (aE pU (dk (aw V1)) (dj C_Machine "led_from" sp_Machine_led_from [] E0 V0 (aw V1)))) U0 (kE) (aE El (cG (cW K) (au (dj C_Machine "goals" sp_Machine_goals [] E0 V1 (aB V0 (aZ (au (tC (.str "ask")) (aw V2))))) be)) (tC (.int 0)))) be))
def GH:List Str:=["I","room","ask"]
def t_ (K:Za) (sp_law_put:Sp) (sp_law_take:Sp) (sp_law_still_on:Sp):TS :=
 ao (aP V1 (fW K 4 (aR U2 (aR U3 (aR U4 (aR U5 (fI)))))))
 (ao (aP (cG (dv K) (aw V5)) U5)
 (ao (dR (cy K V4) U6 (dR (cy K V2) U7 (ao (aP (aO sp_law_still_on (aB V5 (dk (aw V6)))) U8)
 (bD (aJ (aE (kG K) (dA 1 [8,7] (cy K V5) U0 (jC (aJ (aE (sR K false) (aE (mD K) V0 (tC (.int 0))) V1)) (aJ (aE (kG K) (aE (mD K) V0 (tC (.int 1))) (aZ (aB (tC (.str "ask")) V2))))) V0) (dk (be)))) (ao (aP (aE (cX K) (dk (au V6 (au (aE (cX K) V4 (aO sp_law_take (aB V0 (cG (cW K) (aw V4))))) be))) (aO sp_law_take (aB V0 (tC (.int 2))))) U9)
 (bE (aO sp_law_put (au V5 (au (aZ (d9 V6 (aZ (aB (tC (.str "ask")) V7)) V9)) be))))) (aU)))))
 (aT (aZ (au V2 (d9 V3 V4 V5))))))
def uI:List Str:=["pen","told","asks","says","rooms","doors","room","ask","there","other"]
def hJ (ds:List am) (r a:Str):Prop:=∃h,(h=r∨Reach ds r h)/\∃b,(⟨h,da a,b⟩:am)∈ds
open Classical in
def takesB (ds:List am) (r a:Str):Bool:=decide (hJ ds r a)
theorem kY {ds:List am}{r a:Str}:takesB ds r a=true↔hJ ds r a:=by unfold takesB; exact @decide_eq_true_iff _ (Classical.propDecidable _)
theorem wg {ds:List am}{r a:Str}:takesB ds r a=false↔¬hJ ds r a:=by unfold takesB; exact @decide_eq_false_iff_not _ (Classical.propDecidable _)
theorem qH {ds:List am}{h:Str}{sg:Zb}:0<(bh ds (h,sg)).length↔∃b,(⟨h,sg,b⟩:am)∈ds:=by
 rw [List.length_pos_iff_exists_mem];constructor
 ·rintro ⟨b,hb⟩; exact ⟨b,eD.mp hb⟩
 ·rintro ⟨b,hb⟩; exact ⟨b,eD.mpr hb⟩
theorem CA {ds:List am}{r a:Str}{L:Zb}(hL:∀w,w∈L↔Reach ds r w):((r::L).map fun h=>decide ((0:Int)<(bh ds (h,da a)).length)).any id=takesB ds r a:=by
 rw [uN,kY,List.any_eq_true];constructor
 ·rintro ⟨b,hb,e⟩;obtain ⟨h,hh,rfl⟩:=aD.mp hb;have:=of_decide_eq_true e;refine ⟨h,?_,qH.mp (by omega)⟩;rcases cU.mp hh with e | e
  ·exact .inl e
  ·exact .inr ((hL h).mp e)
 ·rintro ⟨h,hh,hb⟩;refine ⟨true,aD.mpr ⟨h,?_,zzr1 (by have:=qH.mpr hb; omega)⟩,rfl⟩;rcases hh with e | e
  ·rw [e]; exact eg
  ·exact fb _ ((hL h).mpr e)
inductive jD (C:Addr) (vs:List V) (H:Hp) (Q:VK) (E:XK):Prop
 | mk (x:Addr) (r a:Str) (J0 J1 J2:Zb) (ds:List am):(vs=[.ref x,.str r,.str a])->(bB C H x J0 J1 J2 ds)->(r∈J2)->(∀H',ac H H'->Q (.bl (takesB ds r a)) H')->jD C vs H Q E
theorem DV {K:Za}{C:Addr}{vs:List V}{H:Hp}{Q:VK}{E:XK}(h:jD C vs H Q E):FE K C (gZ C) (iw C) (bC Q) (start GH vs) H:=by
 obtain ⟨x,r,a,J0,J1,J2,ds,rfl,M,hr,k⟩:=h;refine ⟨_,rfl,(by show 1<=ai; decide),fun l1 hl1=>?_⟩;have S1:ac H (upd H l1 (.lst [.str r])):=ac.new hl1;have e1:upd H l1 (.lst [.str r]) l1=some (.lst [.str r]):=aa;generalize upd H l1 (.lst [.str r])=H1 at S1 e1 ⊢;have M1:=M.same S1;obtain ⟨dx,fs,o1,o2,o3,o4,lv,qu,sgA,sl,ts,lps,gps,sps,g1,a1,a2,a3,a4,_⟩:=id M1.at_;refine ⟨_,rfl,x,dx,fs,rfl,g1,a3,_,rfl,x,r,J0,J1,J2,ds,rfl,M1,hr,fun l2 L H2 e2 nd hL _ S2=>?_⟩;have hin:∀w∈L,w∈J2:=fun w hw=>((hL w).mp hw).in_ fun d hd=>(M.ok.good d hd).b;have zL:=lq nd hin;have z3:=M.ok.rooms26;refine ⟨l1,l2,_,_,rfl,rfl,S2 _ _ e1,e2,by rw [aj]; show 1+L.length<=ai; exact em (ap (by omega)),fun l3 hl3=>?_⟩;have eq:([.str r]++L.map V.str:List V)=(r::L).map V.str:=rfl;rw [eq];have S3:ac H (upd H2 l3 (.lst ((r::L).map V.str))):=(S1.trans S2).trans (ac.new hl3);have e3:upd H2 l3 (.lst ((r::L).map V.str)) l3=some (.lst ((r::L).map V.str)):=aa;generalize upd H2 l3 (.lst ((r::L).map V.str))=H3 at S3 e3 ⊢;refine ⟨l3,rfl,⟨_,aA.of e3⟩,fun q hq=>?_⟩;refine cJ (xs:=(r::L).map V.str) (fun i vs H'=>vs=(((r::L).take i).map fun h=>decide ((0:Int)<(bh ds (h,da a)).length)).map V.bl/\ac H3 H'/\H' q=some (.lst vs)) ⟨rfl,ac.new hq,aa⟩ (fun i vs H' _ ⟨_,S,h⟩=>⟨h,aA.of (S _ _ e3)⟩) ?_ ?_
 ·rintro vs H' ⟨rfl,S,h⟩;rw [aj,aX] at h;refine ⟨q,_,rfl,aA.of h,?_⟩;rw [CA hL];exact k H' (S3.trans S)
 ·rintro i vs H' y hy hi ⟨rfl,S,h⟩;obtain ⟨w,hw,rfl⟩:=bA hy;refine gN (t4 ?_);have M':=M.same (S3.trans S);obtain ⟨dx,fs,o1,o2,o3,o4,lv,qu,sgA,sl,ts,lps,gps,sps,g1,a1,a2,a3,a4,_⟩:=id M'.at_;refine ⟨_,rfl,x,dx,fs,rfl,g1,a2,_,rfl,_,rfl,(by show 2<=ai; decide),fun s hs=>?_⟩;have S4:ac H' (upd H' s (.tup ((da a).map V.str))):=ac.new hs;refine ⟨x,s,w,da a,J0,J1,J2,ds,rfl,M'.same S4,aa,fun g H5 hg _ S5=>?_⟩;have S45:=S4.trans S5;refine .inl ⟨g,_,rfl,.inl (aA.of hg),_,_,rfl,rfl,S45 _ _ h,?_,?_⟩
  ·rw [aj,aj,aK]; exact ap (by rw [dP]; omega)
  refine o9 hi ⟨?_,fun b o e=>?_,aa⟩
  ·rw [take_snoc hw,ax,ax];show _++[V.bl (decide ((0:Int)<(((bh ds (w,da a)).map V.str).length:Nat)))]=_;rw [aj]; rfl
  ·rw [af (ae e hq)]; exact S45 _ _ (S _ _ e)
theorem BJ {K:Za}{H:Hp}{l m:Addr}{a b:Zb}{Q:VK}(hl:H l=some (.lst (a.map V.str))) (hm:H m=some (.lst (b.map V.str))) (k:Q (.bl (!decide (a=b))) H):oB K (.ref l) (.ref m) H Q:=by
 refine ⟨.s (a.map fR),.s (b.map fR),tD (aA.of hl),tD (aA.of hm),?_,?_,?_⟩
 ·show DT.depths _+1<=8; rw [fh]; decide
 ·show DT.depths _+1<=8; rw [fh]; decide
 ·rw [decide_eq_decide.mpr (show DT.s (a.map fR)=DT.s (b.map fR)↔a=b from ⟨fun h=>g8 (by injection h),fun h=>by rw [h]⟩)]; exact k
def za (F:Zb) (a:Str) (d:am):Bool:=decide (d.a∈F) && decide (d.sg=da a)
theorem y_ {ds:List am}{F:Zb}{r a:Str}(hF:∀w,w∈F↔gK ds [r] w):ds.filter (za F a)=[]↔takesB ds r a=false:=by
 rw [wg,List.filter_eq_nil_iff];constructor
 ·rintro h ⟨w,hw,b,hb⟩;refine h _ hb ?_;unfold za;rw [zzr1,zzr1]
  ·rfl
  ·rfl
  ·exact (hF w).mpr ⟨r,eg,hw⟩
 ·intro n d hd q;unfold za at q;rw [r_] at q;have q1:=of_decide_eq_true q.1;have q2:=of_decide_eq_true q.2;obtain ⟨g,hg,e⟩:=(hF _).mp q1;have:g=r:=by simpa using hg
  subst this;obtain ⟨x,sg,b⟩:=d;exact n ⟨x,e,b,by rw [<-q2]; exact hd⟩
theorem Fi {K:Za}{σ:L2.St}{jt ja:Nat}{l4 f l:Addr}{ts:Ze}{ds:List am}{F:Zb}{a:Str}{H1:Hp}{Q:Hp->Prop}(st:σ[jt]?=some (some (.ref f))) (sa:σ[ja]?=some (some (.str a)))
  (h4:H1 l4=some (.lst (ts.map V.ref))) (hd:cu H1 ts ds) (hf:H1 f=some (.lst (F.map V.str))) (z:ds.length<=1000) (hl:H1 l=none)
  (k:∀(us:Ze) (H':Hp),H' l=some (.lst (us.map V.ref))->cu H' us (ds.filter (za F a))->ac H1 H'->Q H') :
  ga 1 [jt,ja] σ (Fw K l4) U0 (jC (aJ (aE (sR K false) (aE (mD K) V0 (tC (.int 0))) V1)) (aJ (aE (kG K) (aE (mD K) V0 (tC (.int 1))) (aZ (aB (tC (.str "ask")) V2))))) V0 H1 l Q:=by
 have cs:dF 1 [jt,ja] σ=[none,some (.ref f),some (.str a)]:=by simp [dF,st,sa]
 refine cJ (xs:=ts.map V.ref) (fun i vs H'=>∃us:List Addr,vs=us.map V.ref/\cu H' us ((ds.take i).filter (za F a))/\ac H1 H'/\H' l=some (.lst vs))
  ⟨[],rfl,.nil,ac.new hl,aa⟩ (fun i vs H' _ ⟨_,_,_,S,h'⟩=>⟨h',aA.of (S _ _ h4)⟩) ?_ ?_
 ·rintro vs H' ⟨us,rfl,D,S,h'⟩;rw [aj,Paired.length hd,aX] at D;exact k us H' h' D S
 ·rintro i vs H' y hy hi ⟨us,rfl,D,S,h'⟩;obtain ⟨u,hu,rfl⟩:=dq hy;obtain ⟨dr,hdr,hat⟩:=Paired.getL hd hu;obtain ⟨sb,ht2,hs2⟩:=hat.kt (ac.kt S);have hi':i<ds.length:=(cw.mp hdr).1;have zu:us.length<=i:=by
   have:=Paired.length D;rw [this];refine bH (dC _ _) ?_;rw [aK]; omega
  rw [cs];refine gN ?_;refine ⟨_,rfl,.inr (.inl ⟨u,_,0,_,rfl,rfl,bj.of ht2,rfl,_,rfl,fR dr.a,F.map fR,f,_,jc _,rfl,.inl (aA.of (S _ _ hf)),lE _,(by show 0<=8; decide),by rw [fh]; decide,_,rfl,?_⟩)⟩;rw [if_neg gh,w_];by_cases c1:dr.a∈F;rotate_left
  ·rw [zzr0 c1];refine a_ (a_ (o9 hi ⟨us,rfl,?_,S,h'⟩));rw [fX hdr,if_neg (by unfold za; rw [zzr0 c1,Bg]; decide),fK]; exact D
  rw [zzr1 c1];refine bW ?_;refine ⟨_,rfl,.inr (.inl ⟨u,_,1,_,rfl,rfl,bj.of ht2,rfl,_,rfl,(by show 2<=ai; decide),fun s hs=>?_⟩)⟩;have S2:ac H' (upd H' s (.tup ((da a).map V.str))):=ac.new hs;have e2:upd H' s (.tup ((da a).map V.str)) s=some (.tup ((da a).map V.str)):=aa;have e2':(.tup [.str "ask",.str a]:HO)=.tup ((da a).map V.str):=rfl;rw [e2'];generalize upd H' s (.tup ((da a).map V.str))=H2 at S2 e2 ⊢;have D2:=D.kt (ac.kt S2);refine ⟨kK dr.sg,kK (da a),bN (bj.of (S2 _ _ hs2)),bN (bj.of e2),by rw [cz]; decide,by rw [cz]; decide,_,rfl,?_⟩;rw [lX];by_cases c2:dr.sg=da a;rotate_left
  ·rw [zzr0 c2];refine a_ (o9 hi ⟨us,rfl,?_,S.trans S2,S2 _ _ h'⟩);rw [fX hdr,if_neg (by unfold za; rw [zzr0 c2,v6]; decide),fK]; exact D2
  rw [zzr1 c2];refine bW ?_;have S3:ac H1 (upd H2 l (.lst (us.map V.ref++[.ref u]))):=fun b o q=>by
   rw [af (ae q hl)];exact S2 _ _ (S _ _ q)
  have kt:gJ H2 (upd H2 l (.lst (us.map V.ref++[.ref u]))):=fun b xs q=>by
   rw [af (fun z=>by rw [z,S2 _ _ h'] at q; cases q)]; exact q
  refine ⟨_,rfl,S2 _ _ h',by rw [aj]; exact ap (by omega),o9 hi ⟨us++[u],by rw [ax]; rfl,?_,S3,aa⟩⟩;rw [fX hdr,if_pos (by unfold za; rw [zzr1 c1,zzr1 c2]; rfl)];exact cD (D2.kt kt) ⟨sb,kt _ _ (S2 _ _ ht2),kt _ _ (S2 _ _ hs2)⟩
theorem EW {K:Za}{H:Hp}{l q:Addr}{ts:Ze}{ds:List am}{Q:VK}(hl:H l=some (.lst (ts.map V.ref))) (hd:cu H ts ds) (hq:H q=some (.lst [])) (h:Q (.bl (decide (ds=[]))) H):kG K (.ref l) (.ref q) H Q:=by
 refine ⟨.s (ds.map tE),.s [],(by unfold hW; exact ⟨l,_,rfl,aA.of hl,hd.dIns⟩),(by unfold hW; exact ⟨q,_,rfl,aA.of hq,by unfold DIns; rfl⟩),?_,(by decide),?_⟩
 ·show DT.depths _+1<=8;have:=nv ds;omega
 ·rw [decide_eq_decide.mpr (show DT.s (ds.map tE)=DT.s []↔ds=[] from ⟨fun z=>rM.mp (by injection z),fun z=>by rw [z]; rfl⟩)];exact h
theorem Reach.unask {ds:List am}{d:am}(n:d.sg≠av) {a b:Str}(r:Reach (ds++[d]) a b):Reach ds a b:=by
 have key:∀{x y:Str},(⟨x,av,y⟩:am)∈ds++[d]->(⟨x,av,y⟩:am)∈ds:=fun q=>by
  rcases bx.mp q with q | q
  ·exact q
  ·have e:=cC.mp q;exact absurd (by rw [<-e]) n
 induction r with
 | one q=>exact .one (key q)
 | step _ q ih=>exact .step ih (key q)
theorem hJ.mono {ds es:List am}(h:∀d∈ds,d∈es) {r a:Str}:hJ ds r a->hJ es r a:=fun ⟨w,hw,b,hb⟩=>⟨w,hw.imp id (Reach.mono fun x y=>h _),b,h _ hb⟩
theorem mem_putD {ds:List am}{d x:am}:x∈lb ds d↔x∈ds∨x=d:=by
 unfold lb;split
 ·rename_i h; exact ⟨.inl,fun z=>z.elim id fun e=>by rw [e]; exact h⟩
 ·simp
theorem aQ.putOne {J0 J1 J2:Zb}{ds:List am}{d:am}(m:aQ J0 J1 J2 ds) (g:zm J0 J1 J2 d) (n:d.sg≠av) (z:ds.length+1<=1000):aQ J0 J1 J2 (lb ds d):=by
 refine ⟨m.okA,m.okS,m.apart,m.okR,m.asks0,m.says0,m.rooms0,m.asks4,m.says4,m.rooms26,?_,fun x hx=>?_,?_,fun r q=>?_⟩
 ·unfold lb;split
  ·exact m.nodup
  ·rename_i h;rw [cK];exact ⟨m.nodup,by simp,fun a ha b hb e=>h (by rw [<-cC.1 hb,<-e]; exact ha)⟩
 ·rcases mem_putD.mp hx with h | h
  ·exact m.good x h
  ·rw [h]; exact g
 ·have:=sT ds d; omega
 ·refine m.noround r ?_;unfold lb at q;split at q
  ·exact q
  ·exact q.unask n
theorem vz (a:Str):da a≠av:=by unfold da av; intro h; injection h with _ h; cases h
structure TX (H0:Hp) (p c l:Addr) (R:List am->Prop) (H:Hp):Prop where
 pen:gH H p c
 ds:∃ts ds,H l=some (.lst (ts.map V.ref))/\cu H ts ds/\R ds
 ex:cR p H0 H
 fr:H0 l=none
 pl:p≠l
 cl:c≠l
section
variable {H0 H H':Hp}{p c l:Addr}{R R':List am->Prop}
theorem TX.took (h:TX H0 p c l R H) (hp:gH H' p c) (e:cR p H H'):TX H0 p c l R H':=by
 obtain ⟨ts,ds,h1,h2,h3⟩:=h.ds;obtain ⟨xs,hx⟩:=h.pen.lst;exact ⟨hp,⟨ts,ds,e _ _ h1 h.pl.symm,h2.kt (e.kt hx),h3⟩,h.ex.trans e,h.fr,h.pl,h.cl⟩
theorem TX.same (h:TX H0 p c l R H) (S:ac H H'):TX H0 p c l R H':=h.took (h.pen.ex S) (ac.exB S)
theorem TX.imp (h:TX H0 p c l R H) (q:∀ds,R ds->R' ds):TX H0 p c l R' H:=by
 obtain ⟨ts,ds,h1,h2,h3⟩:=h.ds;exact ⟨h.pen,⟨ts,ds,h1,h2,q _ h3⟩,h.ex,h.fr,h.pl,h.cl⟩
theorem TX.put {ts:Ze}{ds:List am}(h:TX H0 p c l R H) (hl:∃xs,H l=some (.lst xs)) (hd:cu H ts ds) (r:R' ds):TX H0 p c l R' (upd H l (.lst (ts.map V.ref))):=by
 obtain ⟨xs,hx⟩:=hl;refine ⟨h.pen.upd h.pl h.cl,⟨ts,ds,aa,hd.kt fun b ys q=>?_,r⟩,fun b o q n=>?_,h.fr,h.pl,h.cl⟩
 ·rw [af (fun z=>by rw [z,hx] at q; cases q)]; exact q
 ·rw [af (ae q h.fr)]; exact h.ex _ _ q n
end
def WR (J0 J1 J2:Zb) (D:List (Str×Str)) (n:Nat) (ds:List am):Prop:=aQ J0 J1 J2 ds/\ds.length<=n/\∀x∈D,hJ ds x.1 x.2
theorem WR.up {J0 J1 J2:Zb}{D:List (Str×Str)}{n n':Nat}{ds:List am}(h:WR J0 J1 J2 D n ds) (z:n<=n'):WR J0 J1 J2 D n' ds:=⟨h.1,bH h.2.1 z,h.2.2⟩
inductive jV  (vs:List V) (H:Hp) (Q:VK) (E:XK):Prop
 | mk (p c t l1 l2 l3 l4:Addr) (ts:Ze) (J0 J1 J2:Zb) (ds:List am):(vs=[.ref p,.ref t])->(gH H p c)->(iQ H t l1 l2 l3 l4 ts J0 J1 J2 ds)->(aQ J0 J1 J2 ds)->(J2.length<=26)->(ds.length<=800)->(∀(t' l4':Addr) (ts':Ze) (ds':List am) (H':Hp),iQ H' t' l1 l2 l3 l4' ts' J0 J1 J2 ds'->aQ J0 J1 J2 ds'->(∀r∈J2,∀a∈J0,hJ ds' r a)->ds'.length<=ds.length+4 * J2.length->gH H' p c->cR p H H'->Q (.ref t') H')->jV  vs H Q E
theorem z7 {K:Za}{vs:List V}{H:Hp}{Q:VK}{E:XK}(h:jV vs H Q E):t_ K jX fk (eB K) (bC Q) (start uI vs) H:=by
 obtain ⟨p,c,t,l1,l2,l3,l4,ts,J0,J1,J2,ds,rfl,hp,T,m,z26,z8,k⟩:=h;have a4:=m.asks4;refine ⟨_,rfl,t,_,rfl,bj.of T.t,rfl,_,_,rfl,_,_,rfl,_,_,rfl,_,_,rfl,rfl,?_⟩;refine ⟨_,rfl,.inl ⟨l4,_,rfl,.inl (aA.of T.a4),fun f hf=>?_⟩⟩;have B0:TX H p c f (WR J0 J1 J2 [] ds.length) (upd H f (.lst (ts.map V.ref))):=⟨hp.ex (ac.new hf),⟨ts,ds,aa,T.ds.kt (ac.kt (ac.new hf)),m,aG _,by simp⟩,cR.new hf,hf,hp.nep hf,hp.nec hf⟩;generalize upd H f (.lst (ts.map V.ref))=H1 at B0 ⊢;have keep:∀{H':Hp}{R:List am->Prop},TX H p c f R H'->H' l1=some (.lst (J0.map V.str))/\H' l2=some (.lst (J1.map V.str))/\H' l3=some (.lst (J2.map V.str)):=fun B =>
  ⟨B.ex _ _ T.a1 (hp.ne_strs T.a1),B.ex _ _ T.a2 (hp.ne_strs T.a2),B.ex _ _ T.a3 (hp.ne_strs T.a3)⟩
 refine ⟨_,rfl,l3,rfl,⟨_,aA.of (keep B0).2.2⟩,?_⟩;refine cr (xs:=J2.map V.str) (fun i σ H'=>∃a6 a7 a8 a9:Option V,σ=[some (.ref p),some (.ref t),some (.ref l1),some (.ref l2),some (.ref l3),some (.ref f),a6,a7,a8,a9]/\TX H p c f (WR J0 J1 J2 ((J2.take i).flatMap fun r=>J0.map fun a=>(r,a)) (ds.length+4 * i)) H')
  ⟨_,_,_,_,rfl,B0⟩ (fun i σ H' _ ⟨_,_,_,_,_,B⟩=>aA.of (keep B).2.2) ?_ ?_
 ·rintro i v σ H2 hi ⟨a6,a7,a8,a9,rfl,B2⟩;obtain ⟨r,hr,rfl⟩:=bA hi;have hir:i<J2.length:=(cw.mp hr).1;have hrm:=bd hr;refine ⟨_,rfl,l1,rfl,⟨_,aA.of (keep B2).1⟩,?_⟩;refine cr (xs:=J0.map V.str) (fun j σ H'=>∃a7 a8 a9:Option V,σ=[some (.ref p),some (.ref t),some (.ref l1),some (.ref l2),some (.ref l3),some (.ref f),some (.str r),a7,a8,a9]/\TX H p c f (WR J0 J1 J2 ((J2.take i).flatMap (fun r=>J0.map fun a=>(r,a))++(J0.take j).map fun a=>(r,a)) (ds.length+4 * i+j)) H')
   ⟨_,_,_,rfl,B2.imp fun ds h=>by simpa using h⟩ (fun i σ H' _ ⟨_,_,_,_,B⟩=>aA.of (keep B).1) ?_ ?_
  ·rintro j v σ H3 hj ⟨a7,a8,a9,rfl,B3⟩;obtain ⟨a,ha,rfl⟩:=bA hj;have hja:j<J0.length:=(cw.mp ha).1;have ham:=bd ha;have fin:∀es n,WR J0 J1 J2 ((J2.take i).flatMap (fun r=>J0.map fun a=>(r,a))++(J0.take j).map fun a=>(r,a)) n es->hJ es r a->WR J0 J1 J2 ((J2.take i).flatMap (fun r=>J0.map fun a=>(r,a))++(J0.take (j+1)).map fun a=>(r,a)) n es:=fun es n w tk=>by
    refine ⟨w.1,w.2.1,fun x hx=>?_⟩;rw [take_snoc ha,ax,<-c6] at hx;rcases bx.mp hx with h | h
    ·exact w.2.2 x h
    ·have:x=(r,a):=by simpa using h
     rw [this]; exact tk
   refine ⟨_,rfl,_,rfl,(by show 1<=ai; decide),fun q hq=>?_⟩;have B4:=B3.same (ac.new (o:=.lst [.str r]) hq);have q4:upd H3 q (.lst [.str r]) q=some (.lst [.str r]):=aa;generalize upd H3 q (.lst [.str r])=H4 at B4 q4 ⊢;obtain ⟨us,es,g1,g2,g3⟩:=B4.ds;refine ⟨f,q,us,es,[r],J2,rfl,g1,g2,q4,fun d hd=>(g3.1.good d hd).b,by omega,(by show 1<=1000; decide),fun th F H5 hth hF _ _ S5=>?_⟩;have B5:=B4.same S5;have f5:=S5 _ _ g1;have d5:=g2.kt (ac.kt S5);refine ⟨_,rfl,f,rfl,⟨_,aA.of f5⟩,fun l hl=>?_⟩;refine Fi (K:=K) (jt:=8) (ja:=7) rfl rfl f5 d5 hth g3.1.few hl fun vs H6 h6 D6 S6=>⟨(by show 0<=ai; decide),fun e he=>?_⟩;refine EW (kp h6 he) (D6.kt (ac.kt (ac.new he))) aa ⟨_,rfl,?_⟩;have S7:ac H5 (upd H6 e (.lst [])):=S6.trans (ac.new he);generalize upd H6 e (.lst [])=H7 at S7 ⊢;have f7:=S7 _ _ f5;have d7:=d5.kt (ac.kt S7);have B7:TX H p c f (fun ds'=>ds'=es) H7:=by
    have B:=B5.same S7;exact ⟨B.pen,⟨us,es,f7,d7,rfl⟩,B.ex,B.fr,B.pl,B.cl⟩
   cases q:takesB es r a with
   | true =>
    rw [zzr0 (fun z=>by rw [y_ hF,q] at z; cases z)];exact a_ ⟨_,_,_,rfl,B7.imp fun ds' e=>by rw [e]; exact fin _ _ (g3.up (by omega)) (kY.mp q)⟩
   | false =>
    rw [zzr1 ((y_ hF).mpr q)];refine bW ?_;have l37:=(keep B7).2.2;refine ⟨_,rfl,_,rfl,_,rfl,_,rfl,.inl ⟨l3,_,rfl,.inl (aA.of l37),?_⟩⟩;rw [aj];refine dD B7.pen (by omega) (by omega) fun x H8 x0 x1 hp8 ex8=>?_;obtain ⟨n,rfl⟩:=ji x0;have B8:=B7.took hp8 ex8;obtain ⟨w,hw⟩:∃w,J2[n]?=some w:=⟨_,bX (by omega)⟩;refine ⟨l3,_,(n:Int),.str w,rfl,rfl,aA.of (keep B8).2.2,bI (j:=n) (by rw [b0,hw]; rfl),(by show 2<=ai; decide),fun u hu=>?_⟩;have B9:=B8.same (ac.new (o:=.lst [.str r,.str w]) hu);have u9:upd H8 u (.lst [.str r,.str w]) u=some (.lst ([r,w].map V.str)):=aa;generalize upd H8 u (.lst [.str r,.str w])=H9 at B9 u9 ⊢;refine ⟨_,rfl,dD B9.pen (by decide) (by decide) fun y H10 y0 y1 hp10 ex10=>?_⟩;have B10:=B9.took hp10 ex10;obtain ⟨g,hg,hgm⟩:∃g,oY ([r,w].map V.str) y=some (.str g)/\g∈J2:=by
     have:y=0∨y=1:=by omega
     rcases this with rfl | rfl
     ·exact ⟨r,rfl,hrm⟩
     ·exact ⟨w,rfl,bd hw⟩
    refine ⟨u,_,y,.str g,rfl,rfl,aA.of (ex10 _ _ u9 (B9.pen.ne_strs u9)),hg,?_⟩;refine ⟨_,rfl,_,rfl,_,rfl,(by show 2<=ai; decide),fun s hs=>⟨_,rfl,(by show 3<=ai; decide),fun d hd=>?_⟩⟩;have S12:ac H10 (upd (upd H10 s (.tup [.str "ask",.str a])) d (.tup [.str r,.ref s,.str g])):=(ac.new hs).trans (ac.new hd);have at12:gL (upd (upd H10 s (.tup [.str "ask",.str a])) d (.tup [.str r,.ref s,.str g])) d ⟨r,da a,g⟩:=⟨s,aa,kp aa hd⟩;generalize upd (upd H10 s (.tup [.str "ask",.str a])) d (.tup [.str r,.ref s,.str g])=H12 at S12 at12 ⊢;have B12:=B10.same S12;obtain ⟨us',es',k1,k2,rfl⟩:=id B12.ds;have zz:=g3.2.1;have good:zm J0 J1 J2 ⟨r,da a,g⟩:=⟨hrm,hgm,.inl ⟨a,ham,rfl⟩⟩;refine ⟨f,d,us',_,⟨r,da a,g⟩,rfl,k1,k2,at12,g3.1.few,fun us2 D2=>?_⟩;refine ⟨_,_,_,rfl,B12.put ⟨_,k1⟩ D2 (fin _ _ ⟨g3.1.putOne good (vz a) (by omega),?_,fun x hx=>(g3.2.2 x hx).mono fun y hy=>mem_putD.mpr (.inl hy)⟩ ⟨r,.inl rfl,g,mem_putD.mpr (.inr rfl)⟩)⟩;have:=sT es' ⟨r,da a,g⟩;omega
  ·rintro σ H3 ⟨a7,a8,a9,rfl,B3⟩;refine ⟨_,_,_,_,rfl,B3.imp fun es h=>?_⟩;rw [aj] at h;refine ⟨h.1,by have:=h.2.1; omega,fun x hx=>h.2.2 x ?_⟩;rw [take_snoc hr,vF] at hx;rw [aX];simpa using hx
 ·rintro σ H2 ⟨a6,a7,a8,a9,rfl,B2⟩;rw [aj,aX] at B2;obtain ⟨us,es,g1,g2,g3⟩:=B2.ds;obtain ⟨q1,q2,q3⟩:=keep B2;refine ⟨_,rfl,_,rfl,_,rfl,_,rfl,(by show 4<=ai; decide),fun t' ht'=>?_⟩;have S3:=ac.new (o:=.tup [.ref l1,.ref l2,.ref l3,.ref f]) ht';exact k t' f us es _ ⟨aa,S3 _ _ q1,S3 _ _ q2,S3 _ _ q3,S3 _ _ g1,g2.kt (ac.kt S3)⟩ g3.1 (fun r hr a ha=>g3.2.2 (r,a) (rO.mpr ⟨r,hr,aD.mpr ⟨a,ha,rfl⟩⟩)) g3.2.1 (B2.pen.ex S3) (B2.ex.trans (ac.exB S3))
def pF (K:Za) (C_Machine:Addr) (sp_Machine_asks:Sp) (sp_Machine_says:Sp) (a_HUSH:Addr):TS :=
 aT (aE pU (aE pU (dA 1 [] (cy K (dj C_Machine "asks" sp_Machine_asks [] E0 V0 be)) U0 (kE) (aZ (aB (tC (.str "ask")) V0))) (dA 1 [] (cy K (dj C_Machine "says" sp_Machine_says [] E0 V0 be)) U0 (kE) (aZ (aB (tC (.str "say")) V0)))) (dk (aw (tC (.ref a_HUSH)))))
def p9:List Str:=["M"]
def zM (K:Za) (sp_signs_in_order:Sp) (sp_face_behind:Sp):TS :=
 ao (aP (pL) U2)
 (ao (dR (cy K (aO sp_signs_in_order (aw V0))) U3 (ao (aP (aO sp_face_behind (d9 V0 V1 V3)) U4)
 (bD (aJ (aE El (cG (cW K) (aw V4)) (tC (.int 0)))) (pR K V2 V3 V4) (aU))))
 (aT V2))
def AQ:List Str:=["M","face","steps","sign","behind"]
def l9 (K:Za) :TS :=
 ao (bD (tB (eO K V1 (fO K V0 "numbers"))) (ao (bD (aJ (aE Bw (cG (cW K) (aw (fO K V0 "faces"))) (tC (.int 400)))) (sB) (aU))
 (ao (kA (fO K V0 "numbers") V1 (cG (cW K) (aw (fO K V0 "faces"))))
 (ao (bE (pN K "list" bY (fO K V0 "faces") (aw V1)))
 (bE (pN K "list" bY (fO K V0 "first_stories") (aw V2)))))) (aU))
 (aT (ie K (fO K V0 "numbers") V1))
def mq:List Str:=["self","face","story"]
def jm (K:Za) (sp_steps_at:Sp) (C_FaceMap:Addr) (sp_FaceMap_number_at:Sp):TS :=
 ao (aP (pL) U2)
 (ao (dR (wX K (aO sp_steps_at (aB (fO K V0 "machine") (aE (cX K) (fO K V0 "faces") V1)))) (fW K 2 (aR U3 (aR U4 (fI)))) (pR K V2 V3 (dj C_FaceMap "number_at" sp_FaceMap_number_at [] E0 V0 (aB V4 (aE pU (aE (cX K) (fO K V0 "first_stories") V1) (dk (aw V3)))))))
 (aT V2))
def jo:List Str:=["self","number","steps","sign","face"]
def mV (K:Za) (C_FaceMap:Addr) (sp_FaceMap_numbered_steps:Sp) (sp_FaceMap_number_at:Sp) (dW:Sp):TS :=
 ao (ox K V0 V1 "machine")
 (ao (ox K V0 (dk (be)) "faces")
 (ao (ox K V0 (dk (be)) "first_stories")
 (ao (ox K V0 (pL) "numbers")
 (ao (ox K V0 (dk (be)) "steps")
 (ao (bE (dj C_FaceMap "number_at" sp_FaceMap_number_at [] E0 V0 (aB (aO dW (aw V1)) (dk (be)))))
 (mW (aJ (aE Ae (cG (cW K) (aw (fO K V0 "steps"))) (cG (cW K) (aw (fO K V0 "faces"))))) (bE (pN K "list" bY (fO K V0 "steps") (au (dj C_FaceMap "numbered_steps" sp_FaceMap_numbered_steps [] E0 V0 (aw (cG (cW K) (aw (fO K V0 "steps"))))) be)))))))))
def nI:List Str:=["self","M"]
abbrev Sg:=List Str
def stepsF (J0 J1 J2:Zb) (ds:List am) (J6:Zb):List (Sg×List Str):=((ay J0 J1).map fun sg=>(sg,behF J2 ds J6 sg)).filter fun p=>decide (p.2≠[])
structure gl where
 fs:List (List Str)
 ss:List (List Sg)
def gl.add (m:gl) (f:Zb) (s:List Sg):gl:=if f∈m.fs then m else ⟨m.fs++[f],m.ss++[s]⟩
def BH (s:List Sg) (q:gl×List (Sg×Nat)) (p:Sg×List Str):gl×List (Sg×Nat):=(q.1.add p.2 (s++[p.1]),q.2++[(p.1,(q.1.add p.2 (s++[p.1])).fs.idxOf p.2)])
def eC (s:List Sg) (m:gl) (L:List (Sg×List Str)):gl×List (Sg×Nat):=L.foldl (BH s) (m,[])
abbrev qj:=gl×List (List (Sg×Nat))
def initF (J2:Zb) (ds:List am):qj:=((⟨[],[]⟩:gl).add (closF J2 ds (J2.take 1)) [],[])
def nextF (J0 J1 J2:Zb) (ds:List am) (S:qj):qj :=
 ((eC (S.1.ss.getD S.2.length []) S.1 (stepsF J0 J1 J2 ds (S.1.fs.getD S.2.length []))).1,S.2++[(eC (S.1.ss.getD S.2.length []) S.1 (stepsF J0 J1 J2 ds (S.1.fs.getD S.2.length []))).2])
def itF (J0 J1 J2:Zb) (ds:List am):Nat->qj
 | 0=>initF J2 ds
 | k+1=>nextF J0 J1 J2 ds (itF J0 J1 J2 ds k)
def mC:List Str->List (List Str)
 | []=>[[]]
 | r::rs=>(mC rs).map (r::·)++mC rs
theorem pP:∀rs:List Str,(mC rs).length=2 ^ rs.length
 | []=>rfl
 | r::rs=>by
  show ((mC rs).map (r::·)++mC rs).length=2 ^ (rs.length+1);rw [aM,aj,pP rs,Nat.pow_succ]; omega
theorem pO (p:Str->Bool):∀rs:List Str,rs.filter p∈mC rs
 | []=>by show []∈[[]]; simp
 | r::rs=>by
  show (r::rs).filter p∈(mC rs).map (r::·)++mC rs;have ih:=pO p rs;rw [List.filter_cons];split
  ·exact dh _ (jR ih)
  ·exact dz _ ih
theorem jI {α:Type} [DecidableEq α]:∀{L R:List α},L.Nodup->(∀y∈L,y∈R)->L.length<=R.length
 | [],_,_,_=>c9 _
 | x::L,R,h,hs=>by
  rw [mv] at h;have hx:x∈R:=hs x eg;have h1:∀y∈L,y∈R.erase x:=fun y hy=>(List.mem_erase_of_ne (fun e=>h.1 (by rw [<-e]; exact hy))).2 (hs y (fb _ hy));have h2:=jI h.2 h1;rw [List.length_erase_of_mem hx] at h2;have h3:0<R.length:=List.length_pos_of_mem hx;rw [dP]; omega
def qh (J2 f:Zb):Prop:=∃p:Str->Bool,f=J2.filter p
theorem Gq {J2 f sg:Zb}{ds:List am}(h:qh J2 f):qh J2 (behF J2 ds f sg):=by
 classical
 unfold behF;split
 ·obtain ⟨p,rfl⟩:=h;rw [List.filter_filter];exact ⟨_,rfl⟩
 ·unfold closF;exact ⟨_,rfl⟩
theorem C7 {J2:Zb}{ds:List am}{gs:Zb}:qh J2 (closF J2 ds gs):=by
 classical
 unfold closF;exact ⟨_,rfl⟩
theorem qh.sub {J2 f:Zb}(h:qh J2 f):∀r∈f,r∈J2:=by
 obtain ⟨p,rfl⟩:=h;exact fun r hr=>(cx.1 hr).1
theorem qh.len {J2 f:Zb}(h:qh J2 f):f.length<=J2.length:=by
 obtain ⟨p,rfl⟩:=h;exact dC _ _
structure Good (J2:Zb) (m:gl):Prop where
 nd:m.fs.Nodup
 len:m.ss.length=m.fs.length
 isF:∀f∈m.fs,qh J2 f
 sl:∀(i:Nat) (s:List Sg),m.ss[i]?=some s->s.length<=i
theorem Good.few {J2:Zb}{m:gl}(g:Good J2 m) (hr:J2.length<=8):m.fs.length<=256:=by
 have h:=jI g.nd (R:=mC J2) (fun f hf=>by obtain ⟨p,rfl⟩:=g.isF f hf; exact pO p J2);rw [pP] at h;have:2 ^ J2.length<=2 ^ 8:=Nat.pow_le_pow_right (by decide) hr;omega
theorem gl.add_in {m:gl}{f:Zb}{s:List Sg}(h:f∈m.fs):m.add f s=m:=if_pos h
theorem gl.add_new {m:gl}{f:Zb}{s:List Sg}(h:¬f∈m.fs):m.add f s=⟨m.fs++[f],m.ss++[s]⟩:=if_neg h
theorem Good.add {J2 f:Zb}{m:gl}{s:List Sg}(g:Good J2 m) (h:qh J2 f) (hs:s.length<=m.fs.length):Good J2 (m.add f s):=by
 by_cases c:f∈m.fs
 ·rw [gl.add_in c]; exact g
 ·rw [gl.add_new c];refine ⟨?_,?_,?_,?_⟩;rotate_left 3
  ·intro i s' e
   change (m.ss++[s])[i]?=some s' at e
   rcases iD i m.ss.length with z | z
   ·rw [eX z] at e;exact g.sl i s' e
   ·rw [mP z] at e;have h0:i-m.ss.length=0:=by
     rcases vE (i-m.ss.length) with q | q
     ·exact q
     ·rw [eV (by show 1<=_; omega)] at e; cases e
    rw [h0] at e;injection e with e;rw [<-e];have:=g.len;omega
  ·rw [cK];exact ⟨g.nd,by simp,fun x hx y hy e=>c (by rw [cC.1 hy] at e; rw [<-e]; exact hx)⟩
  ·show (m.ss++[s]).length=(m.fs++[f]).length;rw [aM,aM,g.len]; rfl
  ·intro x hx;rcases bx.1 hx with hx | hx
   ·exact g.isF x hx
   ·rw [cC.1 hx]; exact h
theorem GC {m:gl}{f:Zb}{s:List Sg}:f∈(m.add f s).fs:=by
 by_cases c:f∈m.fs
 ·rw [gl.add_in c]; exact c
 ·rw [gl.add_new c]; simp
def o6 (m m':gl):Prop:=(∃r,m'.fs=m.fs++r)/\∃r,m'.ss=m.ss++r
theorem o6.refl (m:gl):o6 m m:=⟨⟨[],(fK _).symm⟩,⟨[],(fK _).symm⟩⟩
theorem o6.trans {a b c:gl}(h:o6 a b) (k:o6 b c):o6 a c:=by
 obtain ⟨⟨r,e⟩,⟨s,f⟩⟩:=h;obtain ⟨⟨r',e'⟩,⟨s',f'⟩⟩:=k;exact ⟨⟨r++r',by rw [e',e,c6]⟩,⟨s++s',by rw [f',f,c6]⟩⟩
theorem yQ {m:gl}{f:Zb}{s:List Sg}:o6 m (m.add f s):=by
 by_cases c:f∈m.fs
 ·rw [gl.add_in c]; exact .refl _
 ·rw [gl.add_new c]; exact ⟨⟨[f],rfl⟩,⟨[s],rfl⟩⟩
theorem jH (s:List Sg) (m:gl) (L:List (Sg×List Str)) (p:Sg×List Str):eC s m (L++[p])=BH s (eC s m L) p:=by
 unfold eC; rw [jQ]; rfl
theorem o6.at {m m':gl}(h:o6 m m') {i:Nat}{f:Zb}(e:m.fs[i]?=some f):m'.fs[i]?=some f:=by
 obtain ⟨⟨r,q⟩,_⟩:=h;rw [q,eX (by rcases iD i m.fs.length with z | z; exact z; rw [eV z] at e; cases e),e]
theorem u8 {J2:Zb}{s:List Sg}{m:gl}(g:Good J2 m) (hs:s.length<m.fs.length) (L:List (Sg×List Str)) (hL:∀p∈L,qh J2 p.2) :
  Good J2 (eC s m L).1/\o6 m (eC s m L).1/\Paired (fun (a:Sg×Nat) (p:Sg×List Str)=>a.1=p.1/\(eC s m L).1.fs[a.2]?=some p.2) (eC s m L).2 L:=by
 have key:∀n,n<=L.length->Good J2 (eC s m (L.take n)).1/\o6 m (eC s m (L.take n)).1/\Paired (fun (a:Sg×Nat) (p:Sg×List Str)=>a.1=p.1/\(eC s m (L.take n)).1.fs[a.2]?=some p.2) (eC s m (L.take n)).2 (L.take n):=by
  intro n
  induction n with
  | zero=>intro _; exact ⟨g,.refl _,.nil⟩
  | succ n ih =>
   intro hn;obtain ⟨h1,h2,h3⟩:=ih (by omega);have hp:L[n]?=some L[n]:=bX (by omega);rw [take_snoc hp,jH];have hf:=hL L[n] (jh _);have hl:m.fs.length<=(eC s m (L.take n)).1.fs.length:=by
    obtain ⟨⟨r,q⟩,_⟩:=h2;rw [q,aM]; omega
   refine ⟨h1.add hf (by rw [aM]; show _+1<=_; omega),h2.trans yQ,?_⟩;refine cD (Paired.mapP h3 fun a p r=>⟨r.1,yQ.at r.2⟩) ⟨rfl,?_⟩;show (gl.add _ _ _).fs[(gl.add _ _ _).fs.idxOf L[n].2]?=some L[n].2;have hm:=GC (m:=(eC s m (L.take n)).1) (f:=L[n].2) (s:=s++[L[n].1]);have hi:=List.idxOf_lt_length_of_mem hm;rw [bX hi,List.getElem_idxOf]
 have:=key L.length (aG _);rw [aX] at this;exact this
structure qi (J0 J1 J2:Zb) (ds:List am) (S:qj):Prop where
 good:Good J2 S.1
 le:S.2.length<=S.1.fs.length
 zero:S.1.fs[0]?=some (closF J2 ds (J2.take 1))
 st:∀(i:Nat) (l:List (Sg×Nat)),S.2[i]?=some l->∃f,S.1.fs[i]?=some f/\Paired (fun (a:Sg×Nat) (p:Sg×List Str)=>a.1=p.1/\S.1.fs[a.2]?=some p.2) l (stepsF J0 J1 J2 ds f)
theorem sK {J0 J1 J2 f:Zb}{ds:List am}(h:qh J2 f):∀p∈stepsF J0 J1 J2 ds f,qh J2 p.2:=by
 intro p hp;obtain ⟨sg,_,rfl⟩:=aD.1 (cx.1 hp).1;exact Gq h
theorem Dd {J0 J1 J2:Zb}{ds:List am}:qi J0 J1 J2 ds (initF J2 ds):=by
 have e:(⟨[],[]⟩:gl).add (closF J2 ds (J2.take 1)) []=⟨[closF J2 ds (J2.take 1)],[[]]⟩:=gl.add_new (by simp);refine ⟨?_,c9 _,?_,fun i l h=>?_⟩
 ·exact Good.add (m:=⟨[],[]⟩) ⟨pB,rfl,(fun f hf=>nomatch hf),(fun i s (e:([]:List (List Sg))[i]?=some s)=>by rw [List.getElem?_nil] at e; cases e)⟩ C7 (c9 _)
 ·show ((⟨[],[]⟩:gl).add _ _).fs[0]?=_;rw [e]; rfl
 ·simp [initF] at h
theorem Dc {J0 J1 J2:Zb}{ds:List am}{S:qj}(h:qi J0 J1 J2 ds S) (lt:S.2.length<S.1.fs.length):qi J0 J1 J2 ds (nextF J0 J1 J2 ds S):=by
 have e0:S.1.fs[S.2.length]?=some S.1.fs[S.2.length]:=by simp [lt]
 have hd:S.1.fs.getD S.2.length []=S.1.fs[S.2.length]:=by simp [lt]
 have hF:=h.good.isF S.1.fs[S.2.length] (jh _);obtain ⟨g,gr,pr⟩:=u8 (s:=S.1.ss.getD S.2.length []) h.good (by
  have l2:S.2.length<S.1.ss.length:=by rw [h.good.len]; exact lt
  have e:S.1.ss[S.2.length]?=some (S.1.ss[S.2.length]'l2):=bX l2;have:=h.good.sl _ _ e;rw [rL,e];show (S.1.ss[S.2.length]'l2).length<_;omega) (stepsF J0 J1 J2 ds S.1.fs[S.2.length]) (sK hF)
 unfold nextF;rw [hd];generalize eC (S.1.ss.getD S.2.length []) S.1 (stepsF J0 J1 J2 ds S.1.fs[S.2.length])=q at g gr pr;refine ⟨g,?_,gr.at h.zero,fun i l hl=>?_⟩
 ·obtain ⟨⟨r,e⟩,_⟩:=gr;show (S.2++[q.2]).length<=q.1.fs.length;rw [e,aM,aM];show S.2.length+1<=_;omega
 ·change (S.2++[q.2])[i]?=some l at hl
  rcases Nat.lt_trichotomy i S.2.length with c | c | c
  ·rw [eX c] at hl;obtain ⟨f,e,p⟩:=h.st i l hl;exact ⟨f,gr.at e,Paired.mapP p fun a p r=>⟨r.1,gr.at r.2⟩⟩
  ·subst c;rw [mP (aG _),Nat.sub_self] at hl;injection hl with hl;subst hl;exact ⟨S.1.fs[S.2.length],gr.at e0,pr⟩
  ·rw [mP (em c)] at hl;obtain ⟨k,hk⟩:=Nat.exists_eq_succ_of_ne_zero (show i-S.2.length≠0 by omega);rw [hk] at hl;cases hl
def GD (hu:Addr) (H:Hp) (u:Addr) (sg:Zb):Prop:=H u=some (.tup (sg.map V.str))∨(u=hu/\sg=bP)
theorem GD.same {hu:Addr}{H H':Hp}{u:Addr}{sg:Zb}(h:GD hu H u sg) (S:ac H H'):GD hu H' u sg:=h.imp (S _ _) id
theorem Bn {K:Za}{a:Addr}{xs:List V}(h:∀H,bj K H a xs) (H:Hp):bT K H a xs:=by
 rcases h (fun _=>none) with (h | ⟨o,h⟩) | h
 ·cases h
 ·cases h
 ·exact .inr h
section
variable {K:Za}{hu:Addr}(hh:∀H,bj K H hu (bP.map V.str))
include hh
theorem GD.tup {H:Hp}{u:Addr}{sg:Zb}(h:GD hu H u sg):bT K H u (sg.map V.str):=by
 rcases h with h | ⟨rfl,rfl⟩
 ·exact .inl h
 ·exact Bn hh H
theorem GD.sq {H:Hp}{u:Addr}{sg:Zb}(h:GD hu H u sg):bj K H u (sg.map V.str):=by
 rcases h with h | ⟨rfl,rfl⟩
 ·exact bj.of h
 ·exact hh H
end
inductive wB (C hu:Addr) (vs:List V) (H:Hp) (Q:VK) (E:XK):Prop
 | mk (x:Addr) (J0 J1 J2:Zb) (ds:List am):(vs=[.ref x])->(bB C H x J0 J1 J2 ds)->(∀(l:Addr) (us:Ze) (H':Hp),H' l=some (.lst (us.map V.ref))->Paired (GD hu H') us (ay J0 J1)->ac H H'->Q (.ref l) H')->wB C hu vs H Q E
theorem G7 {K:Za}{C hu:Addr}{vs:List V}{H:Hp}{Q:VK}{E:XK}(h:wB C hu vs H Q E):pF K C (lR C) (n8 C) hu (bC Q) (start p9 vs) H:=by
 obtain ⟨x,J0,J1,J2,ds,rfl,M,k⟩:=h;have z1:=M.ok.asks4;have z2:=M.ok.says4;obtain ⟨dx,fs,o1,o2,lv,lps,g1,a1,a2,_⟩:=m9 M;refine ⟨_,rfl,x,dx,fs,rfl,g1,a1,x,J0,J1,J2,ds,rfl,M,fun w1 hw1=>⟨w1,rfl,⟨_,aA.of aa⟩,fun la hla=>?_⟩⟩;have S0:ac H (upd H w1 (.lst (J0.map V.str))):=ac.new hw1;refine j6 (kd:="ask") (ws:=J0) aa (by omega) hla fun ua H1 h1 hP1 S1=>?_;have M1:=M.same (S0.trans S1);obtain ⟨dx,fs,o1,o2,lv,lps,g1,a1,a2,_⟩:=m9 M1;refine ⟨_,rfl,x,dx,fs,rfl,g1,a2,x,J0,J1,J2,ds,rfl,M1,fun w2 hw2=>⟨w2,rfl,⟨_,aA.of aa⟩,fun ls hls=>?_⟩⟩;have S2:ac H1 (upd H1 w2 (.lst (J1.map V.str))):=ac.new hw2;refine j6 (kd:="say") (ws:=J1) aa (by omega) hls fun us H2 h2 hP2 S3=>?_;have S23:=S2.trans S3;have h12:=S23 _ _ h1;have hP12:=kH.kt (ac.kt S23) hP1;refine ⟨la,ls,_,_,rfl,rfl,h12,h2,?_,fun c1 hc1=>?_⟩
 ·rw [aj,aj,Paired.length hP1,Paired.length hP2,aj,aj];exact em (ap (by omega))
 refine ⟨(by show 1<=ai; decide),fun hl hhl=>?_⟩;refine ⟨c1,hl,_,_,rfl,rfl,kp aa hhl,aa,?_,fun r hr=>?_⟩
 ·rw [aM,aj,aj,Paired.length hP1,Paired.length hP2,aj,aj];exact em (ap (by show _+1<=1000; omega))
 have S4:=((ac.new (o:=.lst (ua.map V.ref++us.map V.ref)) hc1).trans (ac.new (o:=.lst [.ref hu]) hhl)).trans (ac.new (o:=.lst (ua.map V.ref++us.map V.ref++[.ref hu])) hr);refine k r (ua++us++[hu]) _ ?_ ?_ (((S0.trans S1).trans S23).trans S4)
 ·rw [aa,ax,ax]; rfl
 ·exact Paired.app (Paired.app (Paired.mapP (kH.kt (ac.kt S4) hP12) fun _ _ r=>.inl r) (Paired.mapP (kH.kt (ac.kt S4) hP2) fun _ _ r=>.inl r)) (.cons (.inr ⟨rfl,rfl⟩) .nil)
theorem lr {J0 J1 J2:Zb}{ds:List am}(m:aQ J0 J1 J2 ds):(ay J0 J1).Nodup:=by
 unfold ay;have i1:∀a b:Str,da a=da b->a=b:=fun a b h=>by unfold da at h; injection h with _ h; injection h
 have i2:∀a b:Str,oq a=oq b->a=b:=fun a b h=>by unfold oq at h; injection h with _ h; injection h
 have nd:∀{f:Str->List Str}{l:Zb},(∀a b,f a=f b->a=b)->l.Nodup->(l.map f).Nodup:=by
  intro f l hf hl;rw [pd,List.pairwise_map];exact (pd.1 hl).imp fun h e=>h (hf _ _ e)
 rw [cK,cK];refine ⟨⟨nd i1 m.okA.1,nd i2 m.okS.1,?_⟩,by simp,?_⟩
 ·intro x hx y hy e;obtain ⟨a,_,rfl⟩:=aD.1 hx;obtain ⟨b,_,rfl⟩:=aD.1 hy;unfold da oq at e;injection e with e _;exact absurd e (by decide)
 ·intro x hx y hy e;rw [cC.1 hy] at e;rcases bx.1 hx with hx | hx
  ·obtain ⟨a,_,rfl⟩:=aD.1 hx;unfold da bP at e;injection e with _ e;cases e
  ·obtain ⟨a,_,rfl⟩:=aD.1 hx;unfold oq bP at e;injection e with _ e;cases e
abbrev AL (H:Hp) (kvs:List (TK×V)) (L:List (Sg×List Str)):Prop:=Paired (fun (kv:TK×V) (p:Sg×List Str)=>kv.1=iX p.1/\∃u,kv.2=.ref u/\H u=some (.tup (p.2.map V.str))) kvs L
theorem wc {κ:Type} [DecidableEq κ] {kvs:List (κ×V)}{k:κ}(h:∀kv∈kvs,kv.1≠k):bJ kvs k=none:=by
 unfold bJ;rw [List.find?_eq_none.2 fun kv hkv=>by simpa using h kv hkv]
 rfl
theorem dX (sg:Zb):(iX sg).depth<=8:=by
 have:∀l:List Str,TK.depths (l.map ow)=0:=by
  intro l
  induction l with
  | nil=>rfl
  | cons a l ih=>show max (TK.depth (ow a)) (TK.depths _)=0; rw [ih]; rfl
 show TK.depths (sg.map ow)+1<=8;rw [this]; decide
def stG (J2:Zb) (ds:List am) (J6:Zb) (L:List (List Str)):List (Sg×List Str):=(L.map fun sg=>(sg,behF J2 ds J6 sg)).filter fun p=>decide (p.2≠[])
theorem yb (J2:Zb) (ds:List am) (J6:Zb) (L:List (List Str)) (sg:Zb):stG J2 ds J6 (L++[sg])=stG J2 ds J6 L++if behF J2 ds J6 sg=[] then [] else [(sg,behF J2 ds J6 sg)]:=by
 unfold stG;rw [ax,rP];congr 1;by_cases c:behF J2 ds J6 sg=[]
 ·rw [if_pos c]; simp [c]
 ·rw [if_neg c]; simp [c]
theorem FM {J2:Zb}{ds:List am}{J6:Zb}{L:List (List Str)}{p:Sg×List Str}(h:p∈stG J2 ds J6 L):p.1∈L:=by
 obtain ⟨sg,hs,rfl⟩:=aD.1 (cx.1 h).1;exact hs
theorem Bq {J2:Zb}{ds:List am}{J6:Zb}{L:List (List Str)}:(stG J2 ds J6 L).length<=L.length:=by
 unfold stG;exact bH (dC _ _) (by rw [aj]; exact aG _)
theorem AL.kt {H H':Hp}{kvs:List (TK×V)}{L:List (Sg×List Str)}(k:gJ H H') (h:AL H kvs L):AL H' kvs L:=Paired.mapP h fun _ _ ⟨e,u,e2,r⟩=>⟨e,u,e2,k _ _ r⟩
theorem AL.no {H:Hp}{kvs:List (TK×V)}{L:List (Sg×List Str)}(h:AL H kvs L) {sg:Sg}(n:∀p∈L,p.1≠sg):bJ kvs (iX sg)=none:=by
 refine wc ?_
 induction h with
 | nil=>intro kv hk; exact nomatch hk
 | @cons a b as bs r t ih =>
  intro kv hk;rcases cU.1 hk with rfl | hk
  ·rw [r.1]; exact fun e=>n b eg (jb e)
  ·exact ih (fun p hp=>n p (fb _ hp)) kv hk
theorem oM {α:Type}{L:List α}(nd:L.Nodup) {i:Nat}{x:α}(e:L[i]?=some x):¬x∈L.take i:=by
 intro h;obtain ⟨j,hj,ej⟩:=vD h;rw [aK] at hj;have hi:i<L.length:=by rcases iD i L.length with z | z; exact z; rw [eV z] at e; cases e
 rw [List.getElem_take] at ej;rw [bX hi] at e;injection e with e;exact List.pairwise_iff_getElem.1 (pd.1 nd) j i (by omega) hi (by omega) (ej.trans e.symm)
theorem BP {H:Hp}{d:Addr}{kvs:List (TK×V)}{o:HO}(h:H d=some (.dT kvs)):gJ H (upd H d o):=fun b xs e=>by rw [af (fun z=>by rw [z,h] at e; cases e)]; exact e
theorem C9 {b:Bool}{P X Y:Prop}(h:b=true↔P) (h1:P->X) (h2:¬P->Y):if b=true then X else Y:=by
 cases b with
 | true=>exact h1 (h.1 rfl)
 | false=>exact h2 fun z=>by cases h.2 z
inductive jW (C:Addr) (vs:List V) (H:Hp) (Q:VK) (E:XK):Prop
 | mk (x t:Addr) (J6 J0 J1 J2:Zb) (ds:List am):(vs=[.ref x,.ref t])->(bB C H x J0 J1 J2 ds)->(H t=some (.tup (J6.map V.str)))->((∀r∈J6,r∈J2))->(J6.length<=1000)->(∀(d:Addr) (kvs:List (TK×V)) (H':Hp),H' d=some (.dT kvs)->AL H' kvs (stepsF J0 J1 J2 ds J6)->H d=none->ac H H'->Q (.ref d) H')->jW C vs H Q E
theorem z_ {K:Za}{C hu:Addr}(hh:∀H,bj K H hu (bP.map V.str)) {vs:List V}{H:Hp}{Q:VK}{E:XK}(h:jW C vs H Q E):zM K (wB C hu) (rq K C) (bC Q) (start AQ vs) H:=by
 obtain ⟨x,t,J6,J0,J1,J2,ds,rfl,M,ht,hsub,hz,k⟩:=h;have z1:=M.ok.asks4;have z2:=M.ok.says4;have zl:(ay J0 J1).length<=9:=by unfold ay; rw [aM,aM,aj,aj]; show _+1<=9; omega
 have nd:=lr M.ok;refine fun d hd=>?_;have S0:ac H (upd H d (.dT [])):=ac.new hd;refine ⟨_,rfl,x,J0,J1,J2,ds,rfl,M.same S0,fun l us H1 hl hP S1=>⟨l,rfl,⟨_,aA.of hl⟩,?_⟩⟩;refine cr (xs:=us.map V.ref) (fun i σ H'=>∃(kvs:List (TK×V)) (x3 x4:Option V),σ=[some (.ref x),some (.ref t),some (.ref d),x3,x4]/\H' d=some (.dT kvs)/\ac H H'/\(∀b o,H1 b=some o->b≠d->H' b=some o)/\AL H' kvs (stG J2 ds J6 ((ay J0 J1).take i)))
  ⟨[],_,_,rfl,S1 _ _ aa,S0.trans S1,fun _ _ e _=>e,.nil⟩ (fun i σ H' _ ⟨_,_,_,_,_,_,S,_⟩=>aA.of (S _ _ hl fun e=>by subst e; have:=S1 _ _ (aa (H:=H) (a:=l) (o:=.dT [])); rw [hl] at this; cases this)) ?_ ?_
 ·rintro i y σ H2 hi ⟨kvs,x3,x4,rfl,h2,S2,S12,st⟩;obtain ⟨u,hu',rfl⟩:=dq hi;obtain ⟨sg,hsg,hat⟩:=Paired.getL hP hu';have hat2:GD hu H2 u sg:=hat.imp (fun e=>S12 _ _ e fun z=>by subst z; have:=S1 _ _ (aa (H:=H) (a:=u) (o:=.dT [])); rw [e] at this; cases this) id;refine ⟨_,rfl,_,rfl,_,rfl,x,t,u,J6,sg,J0,J1,J2,ds,rfl,M.same S2,S2 _ _ ht,hat2.sq hh,hat2.symm.imp (fun e=>e.2) id,hsub,hz,fun f H3 hf S3=>?_⟩;have h3:=S3 _ _ h2;refine ⟨_,rfl,.inl ⟨f,_,rfl,.inr (bj.of hf),_,_,rfl,rfl,?_⟩⟩;refine ⟨_,rfl,?_⟩;have hat3:=hat2.same S3;have S13:∀b o,H1 b=some o->b≠d->H3 b=some o:=fun b o e n=>S3 _ _ (S12 b o e n);have st3:=st.kt (ac.kt S3);refine C9 (P:=behF J2 ds J6 sg≠[]) ?_ (fun c=>?_) (fun c=>?_)
  ·rw [aj];constructor
   ·intro h z; rw [z] at h; exact absurd h (by decide)
   ·intro h; exact zzr1 (by have:=List.length_pos_iff.mpr h; omega)
  rotate_left
  ·have c:=Classical.not_not.1 c;refine ⟨kvs,_,_,rfl,h3,S2.trans S3,S13,?_⟩;rw [take_snoc hsg,yb,if_pos c,fK];exact st3
  ·have no:bJ kvs (iX sg)=none:=st3.no fun p hp e=>by
    have h1:=FM hp;rw [e] at h1;exact oM nd hsg h1
   have ll:kvs.length<ai:=by
    rw [Paired.length st];refine ap ?_;have h1:=Bq (J2:=J2) (ds:=ds) (J6:=J6) (L:=(ay J0 J1).take i);rw [aK] at h1;omega
   refine ⟨_,rfl,_,rfl,_,rfl,d,u,kvs,iX sg,rfl,rfl,h3,xM (hat3.tup hh),dX sg,ll,_,_,_,rfl,aa,?_,?_,?_⟩
   ·intro b o e;rw [af (ae e hd)];exact S3 _ _ (S2 _ _ e)
   ·intro b o e n;rw [af n];exact S13 b o e n
   ·rw [ff _ no,take_snoc hsg,yb,if_neg c];have kt:gJ H3 (upd H3 d (.dT (kvs++[(iX sg,.ref f)]))):=BP h3;exact cD (st3.kt kt) ⟨rfl,f,rfl,kt _ _ hf⟩
 ·rintro σ H2 ⟨kvs,x3,x4,rfl,h2,S2,_,st⟩;rw [aj,Paired.length hP,aX] at st;exact ⟨_,rfl,k d kvs H2 h2 st hd S2⟩
def oJ:Nat->List (List Str)->List (TK×V)
 | _,[]=>[]
 | n,f::r=>(iX f,.int (n:Nat))::oJ (n+1) r
theorem u_ (f:Zb):∀(fs:List (List Str)) (n:Nat),oJ n (fs++[f])=oJ n fs++[(iX f,.int ((n+fs.length:Nat)))]
 | [],n=>rfl
 | x::r,n=>by
  show _::oJ (n+1) (r++[f])=_::(oJ (n+1) r++_);rw [u_ f r (n+1),dP,show n+1+r.length=n+(r.length+1) by omega]
theorem yz:∀(fs:List (List Str)) (n:Nat),(oJ n fs).length=fs.length
 | [],n=>rfl
 | x::r,n=>by show _+1=_+1; rw [yz r (n+1)]
theorem lp (f:Zb):∀(fs:List (List Str)) (n:Nat),bJ (oJ n fs) (iX f)=if f∈fs then some (.int ((n+fs.idxOf f:Nat))) else none
 | [],n=>rfl
 | x::r,n=>by
  by_cases c:x=f
  ·subst c;rw [if_pos eg];show bJ ((iX x,_)::_) _=_;rw [cp rfl];rw [List.idxOf_cons_self]; rfl
  ·show bJ ((iX x,_)::_) _=_;rw [cf (fun e=>c (jb e)),lp f r (n+1)];by_cases d:f∈r
   ·rw [if_pos d,if_pos (fb _ d)];have e:(x::r).idxOf f=r.idxOf f+1:=by rw [List.idxOf_cons,show (x == f)=false from beq_false_of_ne c]; rfl
    rw [e,show n+1+r.idxOf f=n+(r.idxOf f+1) by omega]
   ·rw [if_neg d,if_neg (by simp [c_ c,d])]
abbrev jd (K:Za) (H:Hp) (w:Addr) (s:List Sg):Prop:=∃gs:List Addr,H w=some (.lst (gs.map V.ref))/\Paired (fun g (sg:Sg)=>bT K H g (sg.map V.str)) gs s
structure FC (K:Za) (C:Addr):Prop where
 cls:Cq K C
 a1:dI K C "machine"
 a2:dI K C "faces"
 a3:dI K C "first_stories"
 a4:dI K C "numbers"
 a5:dI K C "steps"
def Ic (C:Addr) (H:Hp) (x M fa sa na ta:Addr):Prop:=∃(dx:Addr) (fs:List (Str×V)),H x=some (.ins C dx fs)/\lk "machine" fs=some (.ref M)/\lk "faces" fs=some (.ref fa)/\lk "first_stories" fs=some (.ref sa)/\lk "numbers" fs=some (.ref na)/\lk "steps" fs=some (.ref ta)/\lk "number_at" fs=none/\lk "numbered_steps" fs=none
structure hU (K:Za) (C:Addr) (H:Hp) (x M fa sa na ta:Addr) (us ws:Ze) (m:gl):Prop where
 ob:Ic C H x M fa sa na ta
 hfa:H fa=some (.lst (us.map V.ref))
 faces:Paired (fun u (f:Zb)=>H u=some (.tup (f.map V.str))) us m.fs
 hsa:H sa=some (.lst (ws.map V.ref))
 stories:Paired (fun w s=>(w≠fa/\w≠sa/\w≠ta)/\jd K H w s) ws m.ss
 hna:H na=some (.dT (oJ 0 m.fs))
 ne:fa≠sa/\fa≠ta/\sa≠ta
theorem bT.kt {K:Za}{H H':Hp}{a:Addr}{xs:List V}(k:gJ H H') (h:bT K H a xs):bT K H' a xs:=h.keeps k
theorem jd.kt {K:Za}{H H':Hp}{w:Addr}{s:List Sg}(k:gJ H H') (e:∀o,H w=some o->H' w=some o) (h:jd K H w s):jd K H' w s:=by
 obtain ⟨gs,h1,h2⟩:=h;exact ⟨gs,e _ h1,Paired.mapP h2 fun _ _ r=>bT.kt k r⟩
def Hw (fa sa na:Addr) (H H':Hp):Prop:=∀b o,H b=some o->b≠fa->b≠sa->b≠na->H' b=some o
theorem Hw.refl (fa sa na:Addr) (H:Hp):Hw fa sa na H H:=fun _ _ e _ _ _=>e
theorem hU.same {K:Za}{C x M fa sa na ta:Addr}{us ws:Ze}{m:gl}{H H':Hp}(h:hU K C H x M fa sa na ta us ws m) (S:ac H H'):hU K C H' x M fa sa na ta us ws m:=by
 obtain ⟨⟨dx,fs,g,r⟩,h1,h2,h3,h4,h5,h6⟩:=h;exact ⟨⟨dx,fs,S _ _ g,r⟩,S _ _ h1,Paired.mapP h2 fun _ _ r=>S _ _ r,S _ _ h3,Paired.mapP h4 fun _ _ r=>⟨r.1,r.2.kt (ac.kt S) fun o e=>S _ _ e⟩,S _ _ h5,h6⟩
theorem hU.move {K:Za}{C x M fa sa na ta:Addr}{us ws:Ze}{m:gl}{H:Hp}{d:Addr}{o:HO}{kvs:List (TK×V)}(h:hU K C H x M fa sa na ta us ws m) (hd:H d=some (.dT kvs)) (n:d≠na):hU K C (upd H d o) x M fa sa na ta us ws m:=by
 have k:gJ H (upd H d o):=BP hd;obtain ⟨⟨dx,fs,g,r⟩,h1,h2,h3,h4,h5,h6⟩:=h;refine ⟨⟨dx,fs,by rw [af (fun z=>by rw [z,hd] at g; cases g)]; exact g,r⟩,by rw [af (fun z=>by rw [z,hd] at h1; cases h1)]; exact h1,Paired.mapP h2 fun _ _ r=>k _ _ r,by rw [af (fun z=>by rw [z,hd] at h3; cases h3)]; exact h3,Paired.mapP h4 fun w s r=>⟨r.1,?_⟩,by rw [af n.symm]; exact h5,h6⟩;obtain ⟨gs,g1,g2⟩:=r.2;exact ⟨gs,by rw [af (fun z=>by rw [z,hd] at g1; cases g1)]; exact g1,Paired.mapP g2 fun _ _ r=>bT.kt k r⟩
inductive k5 (K:Za) (C:Addr) (vs:List V) (H:Hp) (Q:VK) (E:XK):Prop
 | mk (x M fa sa na ta u st:Addr) (us ws:Ze) (m:gl) (J6:Zb) (story:List Sg):(vs=[.ref x,.ref u,.ref st])->(hU K C H x M fa sa na ta us ws m)->(H u=some (.tup (J6.map V.str)))->(jd K H st story)->((st≠fa/\st≠sa/\st≠ta))->(m.fs.length<400)->(m.ss.length<400)->(∀(us' ws':Ze) (H':Hp),hU K C H' x M fa sa na ta us' ws' (m.add J6 story)->Hw fa sa na H H'->Q (.int (((m.add J6 story).fs.idxOf J6:Nat))) H')->k5 K C vs H Q E
theorem D0 {K:Za}{C:Addr}(c:FC K C) {vs:List V}{H:Hp}{Q:VK}{E:XK}(h:k5 K C vs H Q E):l9 K (bC Q) (start mq vs) H:=by
 obtain ⟨x,M,fa,sa,na,ta,u,st,us,ws,m,J6,story,rfl,F,hu,hst,ns,z1,z2,k⟩:=h;obtain ⟨dx,fs,g,l1,l2,l3,l4,l5,l6,l7⟩:=F.ob;have tk:lG K H (iX J6) (.ref u):=cN.isIn 8 (dX J6) (SignAt.tk hu);have g1:j_ K H na (.ref u) (bJ (oJ 0 m.fs) (iX J6)):=.inr ⟨_,_,_,.inl F.hna,rfl,tk,dX J6,rfl⟩;refine ⟨_,rfl,_,rfl,x,C,dx,fs,.ref na,rfl,g,c.cls,c.a4,l4,na,_,rfl,g1,_,rfl,?_⟩;rw [lp];refine C9 (P:=¬J6∈m.fs) (by by_cases c:J6∈m.fs <;> simp [c]) (fun nin=>?_) (fun nin=>?_);rotate_left
 ·have hin:=Classical.not_not.1 nin;have e:=gl.add_in (s:=story) hin;refine ⟨_,rfl,x,C,dx,fs,.ref na,rfl,g,c.cls,c.a4,l4,_,rfl,na,.int ((m.fs.idxOf J6:Nat)),rfl,?_,?_⟩
  ·rw [lp,if_pos hin,vC] at g1;exact g1
  ·have:=k us ws H (by rw [e]; exact F) (.refl _ _ _ _);rw [e] at this;exact this
 have e:=gl.add_new (s:=story) nin;have zl:(us.map V.ref).length=m.fs.length:=by rw [aj,Paired.length F.faces]
 have zs:(ws.map V.ref).length=m.ss.length:=by rw [aj,Paired.length F.stories]
 refine ⟨_,rfl,x,C,dx,fs,.ref fa,rfl,g,c.cls,c.a2,l2,.inl ⟨fa,_,rfl,.inl (aA.of F.hfa),rfl,_,rfl,?_⟩⟩;refine C9 (P:=False) (by rw [zl]; simp; omega) (fun z=>z.elim) fun _=>?_;have tka:cN H (iX J6) (.ref u):=SignAt.tk hu;refine ⟨_,rfl,x,C,dx,fs,.ref fa,rfl,g,c.cls,c.a2,l2,.inl ⟨fa,_,rfl,.inl (aA.of F.hfa),_,rfl,x,C,dx,fs,.ref na,rfl,g,c.cls,c.a4,l4,_,rfl,na,_,rfl,.inr ⟨_,_,u,F.hna,rfl,tka,dX J6,?_,rfl⟩,?_⟩⟩
 ·rw [yz]; exact ap (by omega)
 rw [ff _ (by rw [lp,if_neg nin]),zl];have e1:oJ 0 m.fs++[(iX J6,V.int (m.fs.length:Nat))]=oJ 0 (m.fs++[J6]):=by rw [u_,vC]
 rw [e1];have kna:gJ H (upd H na (.dT (oJ 0 (m.fs++[J6])))):=BP F.hna;generalize hH1:upd H na (.dT (oJ 0 (m.fs++[J6])))=H1 at kna ⊢;have nx:x≠na:=fun z=>by rw [z,F.hna] at g; cases g
 have nxf:x≠fa:=fun z=>by rw [z,F.hfa] at g; cases g
 have nxs:x≠sa:=fun z=>by rw [z,F.hsa] at g; cases g
 have nfa:fa≠na:=fun z=>by have:=F.hfa; rw [z,F.hna] at this; cases this
 have nsa:sa≠na:=fun z=>by have:=F.hsa; rw [z,F.hna] at this; cases this
 have fa1:H1 fa=some (.lst (us.map V.ref)):=by rw [<-hH1,af nfa]; exact F.hfa
 have sa1:H1 sa=some (.lst (ws.map V.ref)):=by rw [<-hH1,af nsa]; exact F.hsa
 have g1':H1 x=some (.ins C dx fs):=by rw [<-hH1,af nx]; exact g
 refine ⟨_,rfl,x,C,dx,fs,.ref fa,rfl,g1',c.cls,c.a2,l2,.inl ⟨rfl,_,aA.of fa1⟩,_,rfl,fa,_,.ref u,rfl,rfl,fa1,?_,?_⟩
 ·rw [zl]; exact ap (by omega)
 generalize hH2:upd H1 fa (.lst (us.map V.ref++[.ref u]))=H2;have k2:gJ H1 H2:=by rw [<-hH2]; exact cA fa1
 have sa2:H2 sa=some (.lst (ws.map V.ref)):=by rw [<-hH2,af F.ne.1.symm]; exact sa1
 have g2:H2 x=some (.ins C dx fs):=by rw [<-hH2,af nxf]; exact g1'
 refine ⟨_,rfl,x,C,dx,fs,.ref sa,rfl,g2,c.cls,c.a3,l3,.inl ⟨rfl,_,aA.of sa2⟩,_,rfl,sa,_,.ref st,rfl,rfl,sa2,?_,?_⟩
 ·rw [zs]; exact ap (by omega)
 generalize hH3:upd H2 sa (.lst (ws.map V.ref++[.ref st]))=H3;have k3:gJ H2 H3:=by rw [<-hH3]; exact cA sa2
 have kt:gJ H H3:=(kna.trans k2).trans k3;have ex:Hw fa sa na H H3:=fun b o e n1 n2 n3=>by rw [<-hH3,af n2,<-hH2,af n1,<-hH1,af n3]; exact e
 have g3:H3 x=some (.ins C dx fs):=ex _ _ g nxf nxs nx;have na3:H3 na=some (.dT (oJ 0 (m.fs++[J6]))):=by rw [<-hH3,af nsa.symm,<-hH2,af nfa.symm,<-hH1,aa]
 have fa3:H3 fa=some (.lst ((us++[u]).map V.ref)):=by rw [<-hH3,af F.ne.1,<-hH2,aa,ax]; rfl
 have sa3:H3 sa=some (.lst ((ws++[st]).map V.ref)):=by rw [<-hH3,aa,ax]; rfl
 have sto:∀{w:Addr}{s:List Sg},(w≠fa/\w≠sa/\w≠ta)->jd K H w s->jd K H3 w s:=fun n r=>by
  obtain ⟨gs,q1,q2⟩:=r;exact ⟨gs,ex _ _ q1 n.1 n.2.1 (fun z=>by rw [z,F.hna] at q1; cases q1),Paired.mapP q2 fun _ _ r=>bT.kt kt r⟩
 have F3:hU K C H3 x M fa sa na ta (us++[u]) (ws++[st]) (m.add J6 story):=by
  rw [e];exact ⟨⟨dx,fs,g3,l1,l2,l3,l4,l5,l6,l7⟩,fa3,cD (Paired.mapP F.faces fun _ _ r=>kt _ _ r) (kt _ _ hu),sa3,cD (Paired.mapP F.stories fun _ _ r=>⟨r.1,sto r.1 r.2⟩) ⟨ns,sto ns hst⟩,na3,F.ne⟩
 have tk3:lG K H3 (iX J6) (.ref u):=cN.isIn 8 (dX J6) (SignAt.tk (kt _ _ hu));have hin:J6∈m.fs++[J6]:=by simp
 have g5:j_ K H3 na (.ref u) (some (.int ((m.add J6 story).fs.idxOf J6:Nat))):=by
  refine .inr ⟨_,iX J6,u,.inl na3,rfl,tk3,dX J6,?_⟩;rw [lp,if_pos hin,vC,e]
 exact ⟨_,rfl,x,C,dx,fs,.ref na,rfl,g3,c.cls,c.a4,l4,_,rfl,na,_,rfl,g5,k _ _ H3 F3 ex⟩
theorem vm {d:Addr}{o:Obj}{u:HO}{n:Nat}{ent:Nat->Hp->V->V->Prop}{g:TG}{tb:TS}{D:kJ}{σ:L2.St}{H:Hp}(Pv:Nat->L2.St->Hp->Prop) (h0:Pv 0 σ H) (hl:∀i σ H,i<=n->Pv i σ H->H d=some (.frz o u))
  (hs:∀i σ H p a b,i<n->Pv i σ H->H p=none->ent i H a b->g (.ref p) σ (upd H p (.tup [a,b])) fun σ2 H2=>tb { D with nx:=Pv (i+1),ct:=Pv (i+1),bk:=D.nx } σ2 H2) (hd:∀σ H,Pv n σ H->D.nx σ H) :
  ∃W:Nat->Nat->L2.St->Hp->Prop,(∃m,W 0 m σ H)/\∀i m σ H,W i m σ H ->
   ((GL d o u n ent).stop i H/\D.nx σ H)∨((GL d o u n ent).go i H/\∃N:L2.St->Hp->Prop,(∀σ' H',N σ' H'->∃m',m'<m/\W (i+1) m' σ' H')/\∀x H',(GL d o u n ent).yld i H x H'->g x σ H' fun σ2 H2=>tb { D with nx:=N,ct:=N,bk:=D.nx } σ2 H2):=by
 refine ⟨fun i m σ H=>m=n-i/\i<=n/\Pv i σ H,⟨n,by simp,c9 _,h0⟩,?_⟩;rintro i m σ H ⟨rfl,hi,p⟩;have q:=hl i σ H hi p;by_cases lt:i<n
 ·refine .inr ⟨⟨q,lt⟩,Pv (i+1),fun σ' H' p'=>⟨n-(i+1),by omega,rfl,lt,p'⟩,fun x H' y=>?_⟩;obtain ⟨t,a,b,hn,rfl,en,rfl⟩:=y;exact hs i σ H t a b lt p hn en
 ·have e:i=n:=by omega
  subst e;exact .inl ⟨⟨q,aG _⟩,hd σ H p⟩
def stK (l:List (Sg×Nat)):List (TK×V):=l.map fun a=>(iX a.1,.int (a.2:Nat))
def Dv (L:Ze) (H H':Hp):Prop:=∀b o,H b=some o->b∉L->H' b=some o
theorem Dv.refl (L:Ze) (H:Hp):Dv L H H:=fun _ _ e _=>e
theorem Dv.trans {L:Ze}{H H1 H2:Hp}(a:Dv L H H1) (b:Dv L H1 H2):Dv L H H2:=fun c o e n=>b c o (a c o e n) n
theorem ac.exL {L:Ze}{H H':Hp}(S:ac H H'):Dv L H H':=fun b o e _=>S b o e
theorem Hw.exL {fa sa na:Addr}{L:Ze}{H H':Hp}(a:Hw fa sa na H H') (s:fa∈L/\sa∈L/\na∈L):Dv L H H':=fun b o e n=>a b o e (fun z=>n (z ▸ s.1)) (fun z=>n (z ▸ s.2.1)) (fun z=>n (z ▸ s.2.2))
theorem Dv.upd {L:Ze}{H:Hp}{d:Addr}{o:HO}(h:d∈L):Dv L H (upd H d o):=fun b u e n=>by rw [af (fun z:b=d=>n (by rw [z]; exact h))]; exact e
theorem Good.grow_len {J2:Zb}{m:gl}(g:Good J2 m) (hr:J2.length<=8):m.fs.length<400/\m.ss.length<400:=by
 have h1:=g.few hr;have h2:=g.len;omega
theorem uU {K:Za}{H:Hp}:∀{sg:Zb}{xs:List V},TKCs K H (sg.map ow) xs->xs=sg.map V.str
 | [],xs,h=>by rw [List.map_nil] at h; unfold TKCs at h; exact h
 | s::sg,xs,h=>by
  rw [bw] at h;unfold TKCs at h;obtain ⟨v,us,rfl,h1,h2⟩:=h;unfold ow nA at h1;rw [h1,uU h2]
  rfl
theorem xL {K:Za}{H:Hp}{sg:Zb}{a:V}(h:nA K H (iX sg) a):∃b,a=.ref b/\bT K H b (sg.map V.str):=by
 unfold iX nA at h;obtain ⟨b,xs,rfl,h1,h2⟩:=h;rw [uU h2] at h1;exact ⟨b,rfl,h1⟩
theorem wA {J0 J1 J2 J6:Zb}{ds:List am}(m:aQ J0 J1 J2 ds):((stepsF J0 J1 J2 ds J6).map (·.1)).Nodup:=by
 have nd:=lr m;unfold stepsF;refine List.Nodup.sublist (List.Sublist.map _ List.filter_sublist) ?_;rw [rS];have e:((fun p:Sg×List Str=>p.1) ∘ fun sg=>(sg,behF J2 ds J6 sg))=id:=rfl;rw [e,List.map_id];exact nd
theorem u7 (s:List Sg) (m:gl) (L:List (Sg×List Str)):(eC s m L).2.map (·.1)=L.map (·.1):=by
 have key:∀n,n<=L.length->(eC s m (L.take n)).2.map (·.1)=(L.take n).map (·.1):=by
  intro n
  induction n with
  | zero=>intro _; rfl
  | succ n ih =>
   intro hn;have hp:L[n]?=some L[n]:=bX (by omega);rw [take_snoc hp,jH];show ((eC s m (L.take n)).2++[(L[n].1,_)]).map (fun a:Sg×Nat=>a.1)=_;rw [ax,ax,ih (by omega)]
   rfl
 have:=key L.length (aG _);rw [aX] at this;exact this
theorem o6.atS {m m':gl}(h:o6 m m') {i:Nat}{f:List Sg}(e:m.ss[i]?=some f):m'.ss[i]?=some f:=by
 obtain ⟨_,⟨r,q⟩⟩:=h;rw [q,eX (by rcases iD i m.ss.length with z | z; exact z; rw [eV z] at e; cases e),e]
theorem hU.ex3 {K:Za}{C x M fa sa na ta:Addr}{us ws:Ze}{m:gl}{H H':Hp}(h:hU K C H x M fa sa na ta us ws m) (e:Hw fa sa na H H'):gJ H H':=fun b xs q =>
 e b _ q (fun z=>by rw [z,h.hfa] at q; cases q) (fun z=>by rw [z,h.hsa] at q; cases q) (fun z=>by rw [z,h.hna] at q; cases q)
inductive i6 (K:Za) (C Cm:Addr) (vs:List V) (H:Hp) (Q:VK) (E:XK):Prop
 | mk (x M fa sa na ta:Addr) (us ws:Ze) (m:gl) (n:Nat) (J0 J1 J2:Zb) (ds:List am):(vs=[.ref x,.int (n:Nat)])->(hU K C H x M fa sa na ta us ws m)->(bB Cm H M J0 J1 J2 ds)->(Good J2 m)->(J2.length<=8)->(n<m.fs.length)->((∃vs,H ta=some (.lst vs)))->(∀(d:Addr) (us' ws':Ze) (H':Hp),hU K C H' x M fa sa na ta us' ws' (eC (m.ss.getD n []) m (stepsF J0 J1 J2 ds (m.fs.getD n []))).1->H' d=some (.dT (stK (eC (m.ss.getD n []) m (stepsF J0 J1 J2 ds (m.fs.getD n []))).2))->H d=none->Dv [fa,sa,na] H H'->Q (.ref d) H')->i6 K C Cm vs H Q E
theorem yj {K:Za}{C Cm:Addr}(c:FC K C) {vs:List V}{H:Hp}{Q:VK}{E:XK}(h:i6 K C Cm vs H Q E):jm K (jW Cm) C (k5 K C) (bC Q) (start jo vs) H:=by
 obtain ⟨x,M,fa,sa,na,ta,us,ws,m,n,J0,J1,J2,ds,rfl,F,MA,gd,hr,hn,⟨tvs,hta⟩,k⟩:=h;have hfn:m.fs[n]?=some m.fs[n]:=bX hn;have hsn:n<m.ss.length:=by rw [gd.len]; exact hn
 have hss:m.ss[n]?=some m.ss[n]:=bX hsn;have ef:m.fs.getD n []=m.fs[n]:=by simp [hn]
 have es:m.ss.getD n []=m.ss[n]:=by simp [hsn]
 rw [ef,es] at k;have hF:=gd.isF m.fs[n] (jh _);have hFl:=hF.len;obtain ⟨u,hu,hut⟩:=Paired.get F.faces hfn;obtain ⟨w,hw,hwn,hwt⟩:=Paired.get F.stories hss;have atw:oY (ws.map V.ref) n=some (.ref w):=bI (by rw [b0,hw]; rfl);have atu:oY (us.map V.ref) n=some (.ref u):=bI (by rw [b0,hu]; rfl);refine fun d hd=>?_;have S0:ac H (upd H d (.dT [])):=ac.new hd;have F0:=F.same S0;obtain ⟨dx,fs,g,l1,l2,l3,l4,l5,l6,l7⟩:=F0.ob;refine ⟨_,rfl,x,C,dx,fs,.ref M,rfl,g,c.cls,c.a1,l1,_,rfl,x,C,dx,fs,.ref fa,rfl,g,c.cls,c.a2,l2,_,rfl,fa,_,_,_,rfl,rfl,aA.of F0.hfa,atu,M,u,m.fs[n],J0,J1,J2,ds,rfl,MA.same S0,S0 _ _ hut,hF.sub,by omega,fun d0 kvs H1 hd0 st hd0' S1=>?_⟩;have F1:=F0.same S1;have nd0:d0≠d:=fun z=>by rw [z,aa] at hd0'; cases hd0'
 have fr:∀{b:Addr}{o:HO},H b=some o->b≠d0:=fun e=>ae (S0 _ _ e) hd0';have frd:∀{b:Addr}{o:HO},H b=some o->b≠d:=fun e=>ae e hd;obtain ⟨dx',fs',gx,_⟩:=F.ob;refine ⟨d0,kvs,rfl,.inl ⟨hd0,fun o=>?_⟩⟩;have F2:=F1.move (o:=.frz o (.dT kvs)) hd0 (c_ (fr F.hna));have kt12:gJ H1 (upd H1 d0 (.frz o (.dT kvs))):=BP hd0;have d2:upd H1 d0 (.frz o (.dT kvs)) d=some (.dT []):=by rw [af nd0.symm]; exact S1 _ _ aa
 have ta2:upd H1 d0 (.frz o (.dT kvs)) ta=some (.lst tvs):=by rw [af (fr hta)]; exact S1 _ _ (S0 _ _ hta)
 have f2:upd H1 d0 (.frz o (.dT kvs)) d0=some (.frz o (.dT kvs)):=aa;have e02:∀b o',H b=some o'->upd H1 d0 (.frz o (.dT kvs)) b=some o':=fun b o' e=>by rw [af (fr e)]; exact S1 _ _ (S0 _ _ e)
 have st2:=st.kt kt12;generalize upd H1 d0 (.frz o (.dT kvs))=H2 at F2 kt12 d2 ta2 f2 st2 e02 ⊢;have hLF:∀p∈stepsF J0 J1 J2 ds m.fs[n],qh J2 p.2:=sK hF;have zL:(stepsF J0 J1 J2 ds m.fs[n]).length<=9:=by
  have z1:=MA.ok.asks4;have z2:=MA.ok.says4;refine bH (Bq (L:=ay J0 J1)) ?_;unfold ay; rw [aM,aM,aj,aj]; show _+1<=9; omega
 have ndL:=wA (J6:=m.fs[n]) MA.ok;generalize stepsF J0 J1 J2 ds m.fs[n]=L at st st2 hLF ndL zL k ⊢;have gq:∀i,Good J2 (eC m.ss[n] m (L.take i)).1/\o6 m (eC m.ss[n] m (L.take i)).1:=fun i=>by
  obtain ⟨h1,h2,_⟩:=u8 (s:=m.ss[n]) gd (by have:=gd.sl _ _ hss; omega) (L.take i) fun p hp=>hLF p (fz hp);exact ⟨h1,h2⟩
 have nfd:fa≠d:=frd F.hfa;have nsd:sa≠d:=frd F.hsa;have nnd:na≠d:=frd F.hna;refine vm (fun i σ H'=>∃(us' ws':Ze) (x3 x4:Option V),σ=[some (.ref x),some (.int (n:Nat)),some (.ref d),x3,x4]/\hU K C H' x M fa sa na ta us' ws' (eC m.ss[n] m (L.take i)).1/\H' d=some (.dT (stK (eC m.ss[n] m (L.take i)).2))/\Dv [fa,sa,na,d] H2 H'/\gJ H2 H')
  ⟨us,ws,_,_,rfl,F2,d2,.refl _ _,fun _ _ e=>e⟩ ?_ ?_ ?_
 ·rintro i σ H' _ ⟨_,_,_,_,_,_,_,ex,_⟩;exact ex _ _ f2 (by simp [c_ (fr F.hfa),c_ (fr F.hsa),c_ (fr F.hna),nd0])
 ·rintro i σ H3 p a b hi ⟨us',ws',x3,x4,rfl,F3,d3,ex3,kt3⟩ hp ⟨key,ek,tkc⟩;obtain ⟨pr,hpr,rfl,uf,rfl,huf⟩:=Paired.getL st2 ek;obtain ⟨sga,rfl,hsga⟩:=xL tkc;obtain ⟨gd3,gr3⟩:=gq i;obtain ⟨z1,z2⟩:=gd3.grow_len hr;obtain ⟨w',hw',hwn',gs,hg1,hg2⟩:=Paired.get F3.stories (gr3.atS hss);have atw':oY (ws'.map V.ref) n=some (.ref w'):=bI (by rw [b0,hw']; rfl);have Sp:ac H3 (upd H3 p (.tup [.ref sga,.ref uf])):=ac.new hp;have hp4:upd H3 p (.tup [.ref sga,.ref uf]) p=some (.tup [.ref sga,.ref uf]):=aa;generalize upd H3 p (.tup [.ref sga,.ref uf])=H4 at Sp hp4 ⊢;refine ⟨p,_,rfl,bj.of hp4,rfl,_,_,rfl,_,_,rfl,rfl,?_⟩;have F4:=F3.same Sp;obtain ⟨dx4,fs4,g4,m1,m2,m3,m4,m5,m6,m7⟩:=F4.ob;have hw4:=Sp _ _ hg1;refine ⟨_,rfl,x,dx4,fs4,rfl,g4,m6,_,rfl,_,rfl,x,C,dx4,fs4,.ref sa,rfl,g4,c.cls,c.a3,m3,_,rfl,sa,_,_,_,rfl,rfl,aA.of F4.hsa,atw',_,rfl,(by show 1<=ai; decide),fun ll hll=>?_⟩;have Sl:ac H4 (upd H4 ll (.lst [.ref sga])):=ac.new hll;have hl5:upd H4 ll (.lst [.ref sga]) ll=some (.lst [.ref sga]):=aa;generalize upd H4 ll (.lst [.ref sga])=H5 at Sl hl5 ⊢;have zw:gs.length<=400:=by rw [Paired.length hg2]; have:=gd.sl _ _ hss; have:=gd.few hr; omega
  refine ⟨w',ll,_,_,rfl,rfl,Sl _ _ hw4,hl5,(by rw [aj]; exact em (ap (by show _+1<=1000; omega))),fun p2 hp2=>?_⟩;have S2:ac H5 (upd H5 p2 (.lst (gs.map V.ref++[.ref sga]))):=ac.new hp2;have hp6:upd H5 p2 (.lst (gs.map V.ref++[.ref sga])) p2=some (.lst ((gs++[sga]).map V.ref)):=by rw [aa,ax]; rfl
  generalize upd H5 p2 (.lst (gs.map V.ref++[.ref sga]))=H6 at S2 hp6 ⊢;have S36:ac H3 H6:=(Sp.trans Sl).trans S2;have F6:=F3.same S36;have ta3:H3 ta=some (.lst tvs):=ex3 _ _ ta2 (by simp [F.ne.2.1.symm,F.ne.2.2.symm,frd hta]; exact fun z=>by rw [z,F.hna] at hta; cases hta);have np:∀{b:Addr}{o:HO},H3 b=some o->p2≠b:=fun e=>c_ (ae (Sl _ _ (Sp _ _ e)) hp2);have sto:jd K H6 p2 (m.ss[n]++[pr.1]):=⟨gs++[sga],hp6,cD (Paired.mapP hg2 fun _ _ r=>bT.kt (ac.kt S36) r) (bT.kt (ac.kt S36) hsga)⟩;refine ⟨x,M,fa,sa,na,ta,uf,p2,us',ws',_,pr.2,m.ss[n]++[pr.1],rfl,F6,S36 _ _ (kt3 _ _ huf),sto,⟨np F3.hfa,np F3.hsa,np ta3⟩,z1,z2,fun us'' ws'' H7 F7 e7=>?_⟩;have k67:=F6.ex3 e7;have k37:gJ H3 H7:=(ac.kt S36).trans k67;have d7:H7 d=some (.dT (stK (eC m.ss[n] m (L.take i)).2)):=e7 _ _ (S36 _ _ d3) nfd.symm nsd.symm nnd.symm;have ek7:bJ (stK (eC m.ss[n] m (L.take i)).2) (iX pr.1)=none:=by
   refine wc fun kv hkv e=>?_;obtain ⟨q,hq,rfl⟩:=aD.1 hkv;have h1:q.1∈(L.take i).map (·.1):=by rw [<-u7 m.ss[n] m]; exact jR hq
   rw [jb e,mI] at h1;exact oM ndL (by rw [b0,hpr]; rfl) h1
  have l7:(stK (eC m.ss[n] m (L.take i)).2).length<ai:=by
   have h1:=congrArg List.length (u7 m.ss[n] m (L.take i));rw [aj,aj,aK] at h1;unfold stK;rw [aj,h1];exact ap (by omega)
  refine ⟨_,rfl,_,rfl,d,sga,_,iX pr.1,rfl,rfl,d7,xM (bT.kt k37 hsga),dX _,l7,us'',ws'',_,_,rfl,?_,?_,?_,?_⟩
  ·rw [take_snoc hpr,jH];exact F7.move d7 (c_ nnd)
  ·rw [aa,ff _ ek7,take_snoc hpr,jH];show _=some (HO.dT (stK ((eC m.ss[n] m (L.take i)).2++[_])));unfold stK;rw [ax]
   rfl
  ·exact (ex3.trans (ac.exL S36)).trans ((e7.exL ⟨by simp,by simp,by simp⟩).trans (Dv.upd (by simp)))
  ·exact (kt3.trans k37).trans (BP d7)
 ·rintro σ H3 ⟨us',ws',x3,x4,rfl,F3,d3,ex3,kt3⟩;rw [Paired.length st,aX] at F3 d3;refine ⟨_,rfl,k d us' ws' H3 F3 d3 hd fun b o' e nb=>ex3 _ _ (e02 _ _ e) ?_⟩;simp at nb ⊢;exact ⟨nb.1,nb.2.1,nb.2.2,frd e⟩
abbrev o0 (H0:Hp) (na:Addr) (H:Hp) (ts:Ze) (st:List (List (Sg×Nat))):Prop:=Paired (fun d l=>H0 d=none/\d≠na/\H d=some (.dT (stK l))) ts st
inductive lQ (K:Za) (C Cm:Addr) (vs:List V) (H:Hp) (Q:VK) (E:XK):Prop
 | mk (H0:Hp) (x dx M:Addr) (J0 J1 J2:Zb) (ds:List am):(vs=[.ref x,.ref M])->(H x=some (.ins C dx []))->(bB Cm H0 M J0 J1 J2 ds)->(H0 x=none)->(ac H0 H)->(J2.length<=8)->(∀(fa sa na ta:Addr) (us ws ts:Ze) (S:qj) (j:Nat) (H':Hp),hU K C H' x M fa sa na ta us ws S.1->H' ta=some (.lst (ts.map V.ref))->o0 H0 na H' ts S.2->qi J0 J1 J2 ds S->S.2.length=S.1.fs.length->S=itF J0 J1 J2 ds j->ac H0 H'->Q .non H')->lQ K C Cm vs H Q E
theorem hU.moveT {K:Za}{C x M fa sa na ta:Addr}{us ws:Ze}{m:gl}{H:Hp}{xs ys:List V}(h:hU K C H x M fa sa na ta us ws m) (ht:H ta=some (.lst xs)):hU K C (upd H ta (.lst ys)) x M fa sa na ta us ws m:=by
 have k:gJ H (upd H ta (.lst ys)):=cA ht;obtain ⟨⟨dx,fs,g,r⟩,h1,h2,h3,h4,h5,h6⟩:=h;refine ⟨⟨dx,fs,by rw [af (fun z=>by rw [z,ht] at g; cases g)]; exact g,r⟩,by rw [af h6.2.1]; exact h1,Paired.mapP h2 fun _ _ r=>k _ _ r,by rw [af h6.2.2]; exact h3,Paired.mapP h4 fun w s r=>⟨r.1,?_⟩,by rw [af (fun z=>by rw [z,ht] at h5; cases h5)]; exact h5,h6⟩;obtain ⟨gs,g1,g2⟩:=r.2;exact ⟨gs,by rw [af r.1.2.2]; exact g1,Paired.mapP g2 fun _ _ r=>bT.kt k r⟩
theorem CN {K:Za}{C Cm:Addr}(c:FC K C) {vs:List V}{H:Hp}{Q:VK}{E:XK}(h:lQ K C Cm vs H Q E):mV K C (i6 K C Cm) (k5 K C) (dW Cm) (bC Q) (start nI vs) H:=by
 obtain ⟨H0,x,dx,M,J0,J1,J2,ds,rfl,hx,MA,hx0,S0,hr,k⟩:=h;have up:∀{H1 H2:Hp}{o:HO},ac H0 H1->H2=upd H1 x o->ac H0 H2:=fun S e b o q=>by rw [e,af (ae q hx0)]; exact S _ _ q
 refine ⟨_,rfl,_,rfl,x,C,dx,[],rfl,hx,c.cls,c.a1,(by decide),?_⟩;obtain ⟨H1,e1,hx1,X1⟩:=p7 "machine" (.ref M) hx;rw [<-e1];have S1:=up S0 e1;have len1:(cE ("machine":Str) (.ref M) []).length<=1:=dS _ _ _;refine ⟨(by show 0<=ai; decide),fun fa hfa=>⟨_,rfl,x,C,dx,_,rfl,kp hx1 hfa,c.cls,c.a2,by omega,?_⟩⟩;obtain ⟨H2,e2,hx2,X2⟩:=p7 "faces" (.ref fa) (kp (x:=.lst []) hx1 hfa);rw [<-e2];have S2:=up (S1.trans (ac.new hfa)) e2;have nf:fa≠x:=(ae hx1 hfa).symm;have fa2:=X2 _ _ aa nf;have len2:=dS ("faces":Str) (.ref fa) (cE ("machine":Str) (.ref M) []);refine ⟨(by show 0<=ai; decide),fun sa hsa=>⟨_,rfl,x,C,dx,_,rfl,kp hx2 hsa,c.cls,c.a3,by omega,?_⟩⟩;obtain ⟨H3,e3,hx3,X3⟩:=p7 "first_stories" (.ref sa) (kp (x:=.lst []) hx2 hsa);rw [<-e3];have S3:=up (S2.trans (ac.new hsa)) e3;have ns:sa≠x:=(ae hx2 hsa).symm;have sa3:=X3 _ _ aa ns;have fa3:=X3 _ _ (kp (x:=.lst []) fa2 hsa) nf;have nfs:fa≠sa:=ae fa2 hsa;have len3:=dS ("first_stories":Str) (.ref sa) (cE ("faces":Str) (.ref fa) (cE ("machine":Str) (.ref M) []));refine fun na hna=>⟨_,rfl,x,C,dx,_,rfl,kp hx3 hna,c.cls,c.a4,by omega,?_⟩;obtain ⟨H4,e4,hx4,X4⟩:=p7 "numbers" (.ref na) (kp (x:=.dT []) hx3 hna);rw [<-e4];have S4:=up (S3.trans (ac.new hna)) e4;have nn:na≠x:=(ae hx3 hna).symm;have na4:=X4 _ _ aa nn;have fa4:=X4 _ _ (kp (x:=.dT []) fa3 hna) nf;have sa4:=X4 _ _ (kp (x:=.dT []) sa3 hna) ns;have len4:=dS ("numbers":Str) (.ref na) (cE ("first_stories":Str) (.ref sa) (cE ("faces":Str) (.ref fa) (cE ("machine":Str) (.ref M) [])));refine ⟨(by show 0<=ai; decide),fun ta hta=>⟨_,rfl,x,C,dx,_,rfl,kp hx4 hta,c.cls,c.a5,by omega,?_⟩⟩;obtain ⟨H5,e5,hx5,X5⟩:=p7 "steps" (.ref ta) (kp (x:=.lst []) hx4 hta);rw [<-e5];have S5:=up (S4.trans (ac.new hta)) e5;have nt:ta≠x:=(ae hx4 hta).symm;have ta5:=X5 _ _ aa nt;have fa5:=X5 _ _ (kp (x:=.lst []) fa4 hta) nf;have sa5:=X5 _ _ (kp (x:=.lst []) sa4 hta) ns;have na5:=X5 _ _ (kp (x:=.lst []) na4 hta) nn;have F5:hU K C H5 x M fa sa na ta [] [] ⟨[],[]⟩:=by
  refine ⟨⟨dx,_,hx5,?_,?_,?_,?_,?_,?_,?_⟩,fa5,.nil,sa5,.nil,na5,nfs,ae fa4 hta,ae sa4 hta⟩
  all_goals (show kr _ _=_; repeat (rw [eF]; first | rw [if_pos rfl] | rw [if_neg (by decide +kernel)]))
  all_goals rfl
 clear e1 hx1 X1 len1 e2 hx2 X2 fa2 len2 e3 hx3 X3 sa3 fa3 len3 e4 hx4 X4 na4 fa4 sa4 len4 e5 hx5 X5 up;obtain ⟨dx5,fs5,g5,l1,l2,l3,l4,l5,l6,l7⟩:=id F5.ob;have M5:=MA.same S5;refine ⟨_,rfl,x,dx5,fs5,rfl,g5,l6,_,rfl,M,J0,J1,J2,ds,rfl,M5,fun f0 FF H6 hf0 hF S6=>⟨(by show 0<=ai; decide),fun st hst=>?_⟩⟩;rw [tJ hF] at hf0;have S7:ac H6 (upd H6 st (.lst [])):=ac.new hst;have st7:upd H6 st (.lst []) st=some (.lst []):=aa;generalize upd H6 st (.lst [])=H7 at S7 st7 ⊢;have S57:ac H5 H7:=ac.trans S6 S7;have F7:=F5.same S57;have np:∀{b:Addr}{o:HO},H5 b=some o->st≠b:=fun e=>c_ (ae (S6 _ _ e) hst);refine ⟨x,M,fa,sa,na,ta,f0,st,[],[],⟨[],[]⟩,_,[],rfl,F7,S7 _ _ hf0,⟨[],st7,.nil⟩,⟨np fa5,np sa5,np ta5⟩,(by show 0<400; decide),(by show 0<400; decide),fun us ws H8 F8 e8=>?_⟩;have nta:ta≠na:=fun z=>by rw [z,na5] at ta5; cases ta5
 have ta8:H8 ta=some (.lst (([]:Ze).map V.ref)):=e8 _ _ (S57 _ _ ta5) F5.ne.2.1.symm F5.ne.2.2.symm nta;have in0:∀{b:Addr}{o:HO},H0 b=some o->b≠fa/\b≠sa/\b≠na:=fun e=>⟨ae (S1 _ _ e) hfa,ae (S2 _ _ e) hsa,ae (S3 _ _ e) hna⟩;have S08:ac H0 H8:=fun b o e=>by
  obtain ⟨n1,n2,n3⟩:=in0 e;exact e8 _ _ (S57 _ _ (S5 _ _ e)) n1 n2 n3
 refine ⟨fun m σ H'=>σ=[some (.ref x),some (.ref M)]/\∃(us ws ts:Ze) (j:Nat),m=300-j/\hU K C H' x M fa sa na ta us ws (itF J0 J1 J2 ds j).1/\H' ta=some (.lst (ts.map V.ref))/\o0 H0 na H' ts (itF J0 J1 J2 ds j).2/\qi J0 J1 J2 ds (itF J0 J1 J2 ds j)/\(itF J0 J1 J2 ds j).2.length=j/\ac H0 H',⟨300,rfl,us,ws,[],0,rfl,F8,ta8,.nil,Dd,rfl,S08⟩,?_⟩;rintro m σ H9 ⟨rfl,us9,ws9,ts,j,rfl,F9,ta9,st9,ok9,lj,S09⟩;obtain ⟨dx9,fs9,g9,m1,m2,m3,m4,m5,m6,m7⟩:=id F9.ob;refine ⟨_,rfl,x,C,dx9,fs9,.ref ta,rfl,g9,c.cls,c.a5,m5,.inl ⟨ta,_,rfl,.inl (aA.of ta9),_,rfl,x,C,dx9,fs9,.ref fa,rfl,g9,c.cls,c.a2,m2,.inl ⟨fa,_,rfl,.inl (aA.of F9.hfa),_,_,rfl,rfl,_,rfl,?_⟩⟩⟩;have z1:(ts.map V.ref).length=j:=by rw [aj,Paired.length st9,lj]
 have z2:(us9.map V.ref).length=(itF J0 J1 J2 ds j).1.fs.length:=by rw [aj,Paired.length F9.faces]
 have z3:=ok9.good.few hr;refine C9 (P:=j<(itF J0 J1 J2 ds j).1.fs.length) (by rw [z1,z2]; simp) (fun lt=>?_) (fun ge=>?_)
 ·have o9:nextF J0 J1 J2 ds (itF J0 J1 J2 ds j)=itF J0 J1 J2 ds (j+1):=rfl;have ok10:qi J0 J1 J2 ds (itF J0 J1 J2 ds (j+1)):=Dc ok9 (by rw [lj]; exact lt);have fr9:∀{b:Addr}{o:HO},H9 b=some o->∀{d:Addr},H9 d=none->d≠b:=fun e d h=>c_ (ae e h);refine ⟨fun σ' H'=>σ'=[some (.ref x),some (.ref M)]/\∃(us ws ts:Ze),hU K C H' x M fa sa na ta us ws (itF J0 J1 J2 ds (j+1)).1/\H' ta=some (.lst (ts.map V.ref))/\o0 H0 na H' ts (itF J0 J1 J2 ds (j+1)).2/\ac H0 H',fun σ' H' ⟨e,us,ws,ts,q1,q2,q3,q4⟩=>⟨300-(j+1),by omega,e,us,ws,ts,j+1,rfl,q1,q2,q3,ok10,?_,q4⟩,?_⟩
  ·show (_++[_]).length=j+1;rw [aM,lj]; rfl
  refine ⟨_,rfl,x,C,dx9,fs9,.ref ta,rfl,g9,c.cls,c.a5,m5,.inl ⟨rfl,_,aA.of ta9⟩,_,rfl,x,dx9,fs9,rfl,g9,m7,_,rfl,x,C,dx9,fs9,.ref ta,rfl,g9,c.cls,c.a5,m5,.inl ⟨ta,_,rfl,.inl (aA.of ta9),?_⟩⟩;refine ⟨x,M,fa,sa,na,ta,us9,ws9,_,j,J0,J1,J2,ds,by rw [z1]; rfl,F9,MA.same S09,ok9.good,hr,lt,⟨_,ta9⟩,fun d us' ws' H10 F10 hd hdn ex=>?_⟩;have nta9:ta∉[fa,sa,na]:=by simp [F9.ne.2.1.symm,F9.ne.2.2.symm,nta]
  have ta10:=ex _ _ ta9 nta9;have S010:ac H0 H10:=fun b o e=>by
   obtain ⟨n1,n2,n3⟩:=in0 e;exact ex _ _ (S09 _ _ e) (by simp [n1,n2,n3])
  have st10:o0 H0 na H10 ts (itF J0 J1 J2 ds j).2:=Paired.mapP st9 fun d l ⟨q1,q2,q3⟩=>⟨q1,q2,ex _ _ q3 (by
   simp [q2];exact ⟨(fun z=>by rw [z,F9.hfa] at q3; cases q3),(fun z=>by rw [z,F9.hsa] at q3; cases q3)⟩)⟩
  have d0:H0 d=none:=S09.free hdn;have ndt:d≠ta:=fr9 ta9 hdn;refine ⟨ta,_,.ref d,rfl,rfl,ta10,?_,rfl,us',ws',ts++[d],?_,?_,?_,?_⟩
  ·rw [z1]; exact ap (by omega)
  ·have e:(itF J0 J1 J2 ds (j+1)).1=(eC ((itF J0 J1 J2 ds j).1.ss.getD j []) (itF J0 J1 J2 ds j).1 (stepsF J0 J1 J2 ds ((itF J0 J1 J2 ds j).1.fs.getD j []))).1:=by
    show (nextF J0 J1 J2 ds (itF J0 J1 J2 ds j)).1=_;unfold nextF; rw [lj]
   rw [e];exact F10.moveT ta10
  ·rw [aa,ax]; rfl
  ·have e:(itF J0 J1 J2 ds (j+1)).2=(itF J0 J1 J2 ds j).2++[(eC ((itF J0 J1 J2 ds j).1.ss.getD j []) (itF J0 J1 J2 ds j).1 (stepsF J0 J1 J2 ds ((itF J0 J1 J2 ds j).1.fs.getD j []))).2]:=by
    show (nextF J0 J1 J2 ds (itF J0 J1 J2 ds j)).2=_;unfold nextF; rw [lj]
   rw [e];exact cD (Paired.mapP st10 fun d l ⟨q1,q2,q3⟩=>⟨q1,q2,by rw [af (fun z=>by rw [z,ta10] at q3; cases q3)]; exact q3⟩) ⟨d0,fr9 F9.hna hdn,by rw [af ndt]; exact hd⟩
  ·intro b o e;have h1:=S010 _ _ e;rw [af (fun z=>?_)]
   ·exact h1
   ·have h4:=S4 _ _ e;rw [z,hta] at h4; cases h4
 ·have e:=ok9.le;exact k fa sa na ta us9 ws9 ts _ j H9 F9 ta9 st9 ok9 (by omega) rfl S09
abbrev zC (H0 H:Hp) (ts:Ze) (st:List (List (Sg×Nat))):Prop:=Paired (fun d l=>H0 d=none/\Rd H d (.dT (stK l))) ts st
theorem Rd.same {H H':Hp}{a:Addr}{u:HO}(S:ac H H') (h:Rd H a u):Rd H' a u:=by
 rcases h with h | ⟨o,h⟩
 ·exact .inl (S _ _ h)
 ·exact .inr ⟨o,S _ _ h⟩
theorem Rd.frz {H:Hp}{a d:Addr}{k kvs:List (TK×V)}{o:Obj}(hd:H d=some (.dT kvs)) (h:Rd H a (.dT k)):Rd (upd H d (.frz o (.dT kvs))) a (.dT k):=by
 by_cases z:a=d
 ·subst z;rcases h with h | ⟨q,h⟩
  ·rw [hd] at h; cases h; exact .inr ⟨o,aa⟩
  ·rw [hd] at h; cases h
 ·rcases h with h | ⟨q,h⟩
  ·exact .inl (by rw [af z]; exact h)
  ·exact .inr ⟨q,by rw [af z]; exact h⟩
def Ia (J:It) (g:TG) (tb:TS) (D:kJ) (σ:L2.St) (H:Hp):Prop:=∃W:Nat->Nat->L2.St->Hp->Prop,(∃m,W 0 m σ H)/\∀i m σ H,W i m σ H ->
 (J.stop i H/\D.nx σ H)∨(J.go i H/\∃N:L2.St->Hp->Prop,(∀σ' H',N σ' H'->∃m',m'<m/\W (i+1) m' σ' H')/\∀x H',J.yld i H x H'->g x σ H' fun σ2 H2=>tb { D with nx:=N,ct:=N,bk:=D.nx } σ2 H2)
inductive on (K:Za) (vs:List V) (H:Hp) (Q:VK) (E:XK):Prop
 | mk (t ft s l1 l2 l3 l4:Addr) (ts:Ze) (J0 J1 J2 J6 sg:Zb) (ds:List am):(vs=[.ref t,.ref ft,.ref s])->(iQ H t l1 l2 l3 l4 ts J0 J1 J2 ds)->(aQ J0 J1 J2 ds)->(bj K H ft (J6.map V.str))->(bj K H s (sg.map V.str))->(J6.length<=1000)->(∀(t':Addr) (H':Hp),H' t'=some (.tup ((behF J2 ds J6 sg).map V.str))->ac H H'->Q (.ref t') H')->on K vs H Q E
theorem FV {K:Za}{vs:List V}{H:Hp}{Q:VK}{E:XK}(h:on K vs H Q E):wo K yf lP (bC Q) (start xu vs) H:=by
 obtain ⟨t,ft,s,l1,l2,l3,l4,ts,J0,J1,J2,J6,sg,ds,rfl,T,m,hft,hs,hz,k⟩:=h;have z4:=m.few;refine ⟨_,rfl,(by show 1<=ai; decide),fun hh hhh=>⟨kK sg,kK bP,bN (bj.same (ac.new hhh) hs),bN (bj.of aa),by rw [cz]; decide,by rw [cz]; decide,_,rfl,?_⟩⟩;rw [lX];have Sn:ac H (upd H hh (.tup [.str "hush"])):=ac.new hhh;generalize upd H hh (.tup [.str "hush"])=H1 at Sn ⊢;have T1:=T.same Sn;have ft1:=bj.same Sn hft;have hs1:=bj.same Sn hs;by_cases c:sg=bP
 ·rw [zzr1 c];refine bW ?_;refine ⟨_,rfl,ft,rfl,⟨_,ft1⟩,fun f hf=>?_⟩;refine y3 (xs:=J6.map V.str) (fun i vs H'=>vs=((J6.take i).filter fun r=>decide (r∉h9 ds)).map V.str/\ac H1 H'/\H' f=some (.lst vs)) ⟨rfl,ac.new hf,aa⟩ (fun i vs H' _ ⟨_,S,h'⟩=>⟨h',bj.same S ft1⟩) ?_ ?_
  ·rintro vs H' ⟨rfl,S,f'⟩;rw [aj,aX] at f';refine ⟨f,_,rfl,.inl ⟨aA.of f',fun t' ht'=>k t' _ ?_ ((Sn.trans S).trans (ac.new ht'))⟩⟩;rw [aa];unfold behF;rw [if_pos c]
  ·rintro i vs H' x' hx' hi ⟨rfl,S,f'⟩;obtain ⟨r,hr,rfl⟩:=bA hx';refine gN ?_;refine ⟨_,rfl,_,rfl,t,l1,l2,l3,l4,ts,J0,J1,J2,ds,r,rfl,T1.same S,m,fun H2 S2=>⟨_,rfl,?_⟩⟩;have hlen:(((J6.take i).filter fun r=>decide (r∉h9 ds)).map V.str).length<ai:=by
    rw [aj];refine ap (bH (dC _ _) ?_);rw [aK]; omega
   refine iW (fun hq=>?_) (fun hq=>?_)
   ·refine ⟨_,rfl,S2 _ _ f',hlen,o9 hi ⟨?_,?_,aa⟩⟩
    ·rw [cI hr,if_pos hq,ax]; rfl
    ·intro b o q;rw [af (ae q hf)];exact S2 _ _ (S _ _ q)
   ·refine o9 hi ⟨?_,S.trans S2,S2 _ _ f'⟩;rw [cI hr,if_neg hq,fK]
 ·rw [zzr0 c];refine a_ ?_;refine ⟨_,rfl,_,rfl,.inr (.inl ⟨t,_,3,_,rfl,rfl,bj.of T1.t,rfl,l4,rfl,⟨_,aA.of T1.a4⟩,fun f hf=>?_⟩)⟩;refine cJ (xs:=ts.map V.ref) (fun i vs H'=>∃G:List Str,vs=G.map V.str/\ac H1 H'/\H' f=some (.lst vs)/\G.length<=i/\∀g,g∈G↔∃d∈ds.take i,d.a∈J6/\d.sg=sg/\d.b=g)
   ⟨[],rfl,ac.new hf,aa,aG _,fun g=>⟨fun h=>(by cases h),fun ⟨_,h,_⟩=>by simp at h⟩⟩ (fun i vs H' _ ⟨_,_,S,h',_⟩=>⟨h',aA.of (S _ _ T1.a4)⟩) ?_ ?_
  rotate_left
  ·rintro i vs H' x' hx' hi ⟨G,rfl,S,f',hl,hG⟩;obtain ⟨u,hu,rfl⟩:=dq hx';obtain ⟨dr,hdr,hatd⟩:=Paired.getL T1.ds hu;obtain ⟨sb,ht2,hs2⟩:=hatd.kt (ac.kt S);have hi':i<ds.length:=(cw.mp hdr).1;have hstep:∀g,(∃d∈ds.take (i+1),d.a∈J6/\d.sg=sg/\d.b=g)↔((∃d∈ds.take i,d.a∈J6/\d.sg=sg/\d.b=g)∨(dr.a∈J6/\dr.sg=sg/\dr.b=g)):=by
    intro g;rw [take_snoc hdr];constructor
    ·rintro ⟨d,hd,h⟩;rcases bx.mp hd with hd | hd
     ·exact .inl ⟨d,hd,h⟩
     ·have:d=dr:=by simpa using hd
      subst this;exact .inr h
    ·rintro (⟨d,hd,h⟩ | h)
     ·exact ⟨d,dh _ hd,h⟩
     ·exact ⟨dr,dz _ (by simp),h⟩
   have keep:¬(dr.a∈J6/\dr.sg=sg)->∃m',m'<(ts.map V.ref).length-i/\Wc (ts.map V.ref).length (fun i vs H'=>∃G:List Str,vs=G.map V.str/\ac H1 H'/\H' f=some (.lst vs)/\G.length<=i/\∀g,g∈G↔∃d∈ds.take i,d.a∈J6/\d.sg=sg/\d.b=g) (i+1) m' (G.map V.str) H':=by
    intro z;refine o9 hi ⟨G,rfl,S,f',by omega,fun g=>?_⟩;rw [hstep,hG];exact ⟨.inl,fun h=>h.elim id fun h=>absurd ⟨h.1,h.2.1⟩ z⟩
   refine gN ?_;refine ⟨_,rfl,.inr (.inl ⟨u,_,0,_,rfl,rfl,bj.of ht2,rfl,_,rfl,fR dr.a,J6.map fR,ft,_,jc _,rfl,.inr (bj.same S ft1),lE _,(by show 0<=8; decide),by rw [fh]; decide,_,rfl,?_⟩)⟩;rw [if_neg gh,w_];by_cases c1:dr.a∈J6;rotate_left
   ·rw [zzr0 c1];exact a_ (a_ (keep fun z=>c1 z.1))
   rw [zzr1 c1];refine bW ?_;refine ⟨_,rfl,.inr (.inl ⟨u,_,1,_,rfl,rfl,bj.of ht2,rfl,_,rfl,kK dr.sg,kK sg,bN (bj.of hs2),bN (bj.same S hs1),by rw [cz]; decide,by rw [cz]; decide,_,rfl,?_⟩)⟩;rw [lX];by_cases c2:dr.sg=sg;rotate_left
   ·rw [zzr0 c2];exact a_ (keep fun z=>c2 z.2)
   rw [zzr1 c2];refine bW ?_;refine ⟨_,rfl,.inr (.inl ⟨u,_,2,_,rfl,rfl,bj.of ht2,rfl,f',by rw [aj]; exact ap (by omega),o9 hi ⟨G++[dr.b],by rw [ax]; rfl,?_,aa,by rw [aM]; show G.length+1<=i+1; omega,fun g=>?_⟩⟩)⟩
   ·intro b o q;rw [af (ae q hf)];exact S _ _ q
   ·rw [hstep,<-hG,bx];simp only [cC];exact ⟨fun h=>h.imp id fun h=>⟨c1,c2,h.symm⟩,fun h=>h.imp id fun h=>h.2.2.symm⟩
  rintro vs H2 ⟨G,rfl,S2,f2,hl,hG⟩;rw [aj,Paired.length T.ds] at hl;rw [aj,Paired.length T.ds,aX] at hG;refine ⟨t,f,l1,l2,l3,l4,ts,J0,J1,J2,G,ds,rfl,T1.same S2,m,f2,by omega,fun t' H' h1 S'=>k t' H' ?_ ((Sn.trans S2).trans S')⟩;rw [h1];unfold behF;rw [if_neg c]
  suffices e0:closF J2 ds G=closF J2 ds (cZ ds sg J6) by rw [e0]
  refine y4 fun g=>?_;rw [hG,oN];constructor
  ·rintro ⟨⟨a,sgd,b⟩,hd,h1,h2,h3⟩;simp only at h1 h2 h3;subst h2 h3;exact ⟨a,h1,hd⟩
  ·rintro ⟨r,hr,h⟩;exact ⟨_,h,hr,rfl,rfl⟩
theorem Bo {K:Za}{H:Hp}:∀xs:List Str,TKIns K H (xs.map ow) (xs.map V.str)
 | []=>by show TKIns K H [] []; unfold TKIns; rfl
 | x::xs=>by
  rw [bw,bw];unfold TKIns;refine ⟨_,_,rfl,?_,Bo xs⟩;unfold ow lG
  rfl
theorem bT.sq {K:Za}{H:Hp}{a:Addr}{xs:List V}(h:bT K H a xs):bj K H a xs:=h.imp .inl id
theorem we {K:Za}{H:Hp}{a:Addr}{f:Zb}(h:bT K H a (f.map V.str)):lG K H (iX f) (.ref a):=by
 unfold iX lG;exact ⟨a,_,rfl,bT.sq h,Bo f⟩
def zK (K:Za) :TS :=
 ao (aP (dk (be)) U2)
 (ao (mW (tB (DN (ie K V0 V1))) (ao (aP (ie K V0 V1) (fW K 2 (aR U1 (aR U3 (fI)))))
 (bE (pN K "list" bY V2 (aw V3)))))
 (ao (bE (FI K "list" yn V2))
 (aT V2)))
def AO:List Str:=["came","place","story","sign"]
def t9 (K:Za) (sp_story_to:Sp):TS :=
 ao (aP (rh K (aZ (aB (tC (.int 0)) (tC (.int 0)))) (tC .non)) U2)
 (ao (aP (dk (aw (aZ (aB (tC (.int 0)) (tC (.int 0)))))) U3)
 (ao (aP (tC (.int 0)) U4)
 (ao (mW (aJ (aE Ae V4 (cG (cW K) (aw V3)))) (ao (aP (aE (cX K) V3 V4) U5)
 (ao (HC 4 (tC (.int 1)) (ipI fun i j=>i+j))
 (ao (aP (aE (cX K) V0 (aE (fS K) V5 (tC (.int 0)))) U6)
 (dR (wX K (aE (cX K) V1 (aE (fS K) V5 (tC (.int 1))))) (fW K 2 (aR U7 (aR U8 (fI)))) (bD (tB (eO K V7 V6)) (bD (aJ (aE tZ (aE (fS K) V7 (tC (.int 0))) (tC (.str "ask")))) (aT (aZ (aB (aO sp_story_to (au V2 (aw V5))) V7))) (aU)) (bD (tB (eO K (aZ (aB (ie K V6 V7) V8)) V2)) (ao (pR K V2 (aZ (aB (ie K V6 V7) V8)) (aZ (aB V5 V7)))
 (bE (pN K "list" bY V3 (aw (aZ (aB (ie K V6 V7) V8)))))) (aU))))))))
 (aT (tC .non)))))
def uH:List Str:=["model_steps","machine_steps","came","pairs","looked","here","wanted","sign","goal"]
def t5 (K:Za) (C_Machine:Addr) (sp_Machine_is_quiet:Sp) (a_HUSH:Addr) (sp_Machine_doors_from:Sp) (a_STILL:Addr):TS :=
 ao (aP (dk (be)) U4)
 (ao (dR (cy K (dj C_Machine "doors_from" sp_Machine_doors_from [] E0 V0 (aw V1))) (fW K 3 (aR U5 (aR U6 (aR U7 (fI))))) (bD (aJ (aE (kG K) V6 (tC (.ref a_STILL)))) (bE (pN K "list" bY V4 (aw (aZ (aB V7 V2))))) (bD (zB (tB (zX K V6 V3)) (aJ (aE Bw (aE (fS K) V6 (tC (.int 0))) (tC (.str "say"))))) (bE (pN K "list" bY V4 (aw (aZ (aB V7 (wz K V3 V6)))))) (aU))))
 (ao (bD (tB (dj C_Machine "is_quiet" sp_Machine_is_quiet [] E0 V0 (aw V1))) (bE (pN K "list" bY V4 (au (aZ (aB V1 (wz K V3 (tC (.ref a_HUSH))))) be))) (aU))
 (aT V4)))
def uE:List Str:=["I","room","face","steps","rows","start","sign","goal"]
def zN (K:Za) (sp_rows_needed:Sp) (C_Machine:Addr) (sp_Machine_rooms:Sp):TS :=
 ao (aP (aZ (aB (aE (cX K) (dj C_Machine "rooms" sp_Machine_rooms [] E0 V1 be) (tC (.int 0))) (tC (.int 0)))) U2)
 (ao (aP (rh K V2 (tC (.bl true))) U3)
 (ao (aP (dk (aw V2)) U4)
 (ao (mW (aJ (aE El (cG (cW K) (aw V4)) (tC (.int 0)))) (ao (aP (FI K "list" G_ V4) (fW K 2 (aR U5 (aR U6 (fI)))))
 (dR (cy K (aO sp_rows_needed (au V1 (d9 V5 V6 (aE (cX K) (fO K V0 "steps") V6))))) U7 (bD (tB (eO K V7 V3)) (ao (pR K V3 V7 (tC (.bl true)))
 (bE (pN K "list" bY V4 (aw V7)))) (aU)))))
 (aT (dA 2 [0] (EN K V3) (fW K 2 (aR U0 (aR U1 (fI)))) (kE) (aZ (aB V0 (aE (cX K) (fO K V2 "faces") V1))))))))
def AR:List Str:=["model","I","first","rows","waiting","room","number","row"]
def FH (K:Za) (sp_paper_of:Sp) (sp_least_fault:Sp) (C_FaceMap:Addr) (sp_FaceMap_init:Sp) (sp_need_taker:Sp):TS :=
 ao (bE (aO sp_need_taker (aB V0 V1)))
 (ao (aP (xS C_FaceMap sp_FaceMap_init [] E0 (aw V0)) U2)
 (ao (aP (aO sp_least_fault (aB (fO K V2 "steps") (fO K (xS C_FaceMap sp_FaceMap_init [] E0 (aw V1)) "steps"))) U3)
 (ao (bD (tB (CF V3)) (aT (aZ (aB (tC (.str "keeps")) (aO sp_paper_of (au V2 (aw V1)))))) (aU))
 (ao (aP V3 (fW K 2 (aR U4 (aR U5 (fI)))))
 (aT (aZ (d9 (tC (.str "fault")) V4 V5)))))))
def GI:List Str:=["M","I","model","fault","story","sign"]
abbrev Pr:=Nat×Nat
structure bm where
 key:Pr
 from_:Option (Pr×Sg)
 story:List Sg
def iN (P:List bm) (k:Pr):Bool:=P.any fun c=>decide (c.key=k)
def bF (l:List (Sg×Nat)) (sg:Sg):Option Nat:=(l.find? fun p=>decide (p.1=sg)).map (·.2)
def eG (wanted:List (Sg×Nat)) (here:bm) (q:List bm×Option Sg) (p:Sg×Nat):List bm×Option Sg :=
 match q.2 with
 | some _=>q
 | none=>match bF wanted p.1 with
  | none=>if p.1.head?=some ("ask":Str) then q else (q.1,some p.1)
  | some w=>if iN q.1 (w,p.2)=true then q else (q.1++[⟨(w,p.2),some (here.key,p.1),here.story++[p.1]⟩],none)
def cj (wanted:List (Sg×Nat)) (here:bm) (P:List bm) (l:List (Sg×Nat)):List bm×Option Sg:=l.foldl (eG wanted here) (P,none)
structure qk (ms ws:List (List (Sg×Nat))) (P:List bm):Prop where
 zero:∃r,P=⟨(0,0),none,[]⟩::r
 nd:(P.map (·.key)).Nodup
 back:∀(i:Nat) (c:bm),P[i]?=some c->i=0∨∃(j:Nat) (b:bm) (sg:Sg),j<i/\P[j]?=some b/\c.from_=some (b.key,sg)/\c.story=b.story++[sg]/\bF (ws.getD b.key.1 []) sg=some c.key.1/\(sg,c.key.2)∈ms.getD b.key.2 []
theorem lA {P:List bm}{k:Pr}:iN P k=true↔k∈P.map (·.key):=by
 unfold iN;rw [List.any_eq_true,aD];exact ⟨fun ⟨c,h,e⟩=>⟨c,h,of_decide_eq_true e⟩,fun ⟨c,h,e⟩=>⟨c,h,zzr1 e⟩⟩
theorem Dk (ms ws:List (List (Sg×Nat))):qk ms ws [⟨(0,0),none,[]⟩]:=by
 refine ⟨⟨[],rfl⟩,by simp,fun i c h=>?_⟩;rcases vE i with z | z
 ·exact .inl z
 ·rw [eV (by show 1<=i; exact z)] at h; cases h
theorem qk.add {ms ws:List (List (Sg×Nat))}{P:List bm}(h:qk ms ws P) {j:Nat}{b:bm}{sg:Sg}{w g:Nat}(hj:P[j]?=some b) (hn:iN P (w,g)=false) (hw:bF (ws.getD b.key.1 []) sg=some w) (hg:(sg,g)∈ms.getD b.key.2 []) :
  qk ms ws (P++[⟨(w,g),some (b.key,sg),b.story++[sg]⟩]):=by
 have lt:j<P.length:=by
  rcases iD j P.length with z | z
  ·exact z
  ·rw [eV z] at hj; cases hj
 obtain ⟨r,e⟩:=h.zero;refine ⟨⟨r++[⟨(w,g),some (b.key,sg),b.story++[sg]⟩],by rw [e]; rfl⟩,?_,fun i c hc=>?_⟩
 ·rw [ax,cK];refine ⟨h.nd,by simp,fun x hx y hy z=>?_⟩;have:iN P (w,g)=true:=lA.2 (by rw [<-show y=(w,g) from by simpa using hy,<-z]; exact hx);rw [hn] at this; cases this
 ·rcases iD i P.length with z | z
  ·rw [eX z] at hc;rcases h.back i c hc with q | ⟨j',b',sg',q1,q2,q3⟩
   ·exact .inl q
   ·exact .inr ⟨j',b',sg',q1,by rw [eX (by omega)]; exact q2,q3⟩
  ·rw [mP z] at hc;have h0:i-P.length=0:=by
    rcases vE (i-P.length) with q | q
    ·exact q
    ·rw [eV (by show 1<=_; exact q)] at hc; cases hc
   rw [h0] at hc;injection hc with hc;subst hc;exact .inr ⟨j,b,sg,by omega,by rw [eX lt]; exact hj,rfl,rfl,hw,hg⟩
theorem EG {ms ws:List (List (Sg×Nat))}{P:List bm}(h:qk ms ws P) {j:Nat}{b:bm}(hj:P[j]?=some b) (l:List (Sg×Nat)) (hl:∀p∈l,p∈ms.getD b.key.2 []) :
  (∃r,(cj (ws.getD b.key.1 []) b P l).1=P++r)/\qk ms ws (cj (ws.getD b.key.1 []) b P l).1/\∀sg,(cj (ws.getD b.key.1 []) b P l).2=some sg->(∃g,(sg,g)∈l)/\bF (ws.getD b.key.1 []) sg=none/\sg.head?≠some ("ask":Str):=by
 have key:∀n,n<=l.length->(∃r,(cj (ws.getD b.key.1 []) b P (l.take n)).1=P++r)/\qk ms ws (cj (ws.getD b.key.1 []) b P (l.take n)).1/\∀sg,(cj (ws.getD b.key.1 []) b P (l.take n)).2=some sg->(∃g,(sg,g)∈l)/\bF (ws.getD b.key.1 []) sg=none/\sg.head?≠some ("ask":Str):=by
  intro n
  induction n with
  | zero=>intro _; exact ⟨⟨[],(fK _).symm⟩,h,fun sg e=>by cases e⟩
  | succ n ih =>
   intro hn;obtain ⟨⟨r,e1⟩,h2,h3⟩:=ih (by omega);have hp:l[n]?=some l[n]:=bX (by omega);have es:cj (ws.getD b.key.1 []) b P (l.take (n+1))=eG (ws.getD b.key.1 []) b (cj (ws.getD b.key.1 []) b P (l.take n)) l[n]:=by
    unfold cj; rw [take_snoc hp,jQ]; rfl
   rw [es];generalize cj (ws.getD b.key.1 []) b P (l.take n)=q at e1 h2 h3;have hm:l[n]∈l:=jh _;generalize l[n]=p at hm;unfold eG;cases e2:q.2 with
   | some s=>exact ⟨⟨r,e1⟩,h2,fun sg e=>h3 sg e⟩
   | none =>
    cases e3:bF (ws.getD b.key.1 []) p.1 with
    | none =>
     by_cases c:p.1.head?=some ("ask":Str)
     ·simp only [c,if_true];exact ⟨⟨r,e1⟩,h2,fun sg e=>h3 sg e⟩
     ·simp only [c,if_false];refine ⟨⟨r,e1⟩,h2,fun sg e=>?_⟩;injection e with e;subst e;exact ⟨⟨p.2,hm⟩,e3,c⟩
    | some w =>
     cases e4:iN q.1 (w,p.2) with
     | true =>
      simp only [e4,if_true];exact ⟨⟨r,e1⟩,h2,fun sg e=>h3 sg e⟩
     | false =>
      simp only [e4,kU,if_false];refine ⟨⟨r++[⟨(w,p.2),some (b.key,p.1),b.story++[p.1]⟩],by rw [e1,c6]⟩,h2.add (j:=j) (b:=b) ?_ e4 e3 (hl p hm),fun sg e=>by cases e⟩;rw [e1,eX (by rcases iD j P.length with z | z; exact z; rw [eV z] at hj; cases hj)];exact hj
 have:=key l.length (aG _);rw [aX] at this;exact this
def nO (k:Pr):TK:=.t [.k (.inl (k.1:Int)),.k (.inl (k.2:Int))]
theorem BE {a b:Pr}(h:nO a=nO b):a=b:=by
 unfold nO at h;injection h with h;injection h with h1 h2;injection h2 with h2 _;injection h1 with h1;injection h2 with h2;injection h1 with h1;injection h2 with h2;obtain ⟨a1,a2⟩:=a;obtain ⟨b1,b2⟩:=b;simp only at h1 h2;rw [show a1=b1 by omega,show a2=b2 by omega]
theorem fH (k:Pr):(nO k).depth<=8:=by
 show max 0 (max 0 0)+1<=8
 decide
abbrev lH (H:Hp) (a:Addr) (k:Pr):Prop:=H a=some (.tup [.int (k.1:Nat),.int (k.2:Nat)])
theorem lH.tk {H:Hp}{a:Addr}{k:Pr}(h:lH H a k):cN H (nO k) (.ref a):=by
 unfold nO cN;refine ⟨a,_,rfl,h,?_⟩;unfold TKAts;refine ⟨_,_,rfl,?_,?_⟩
 ·unfold cN; rfl
 unfold TKAts;refine ⟨_,_,rfl,?_,?_⟩
 ·unfold cN; rfl
 unfold TKAts
 rfl
def o7 (K:Za) (H:Hp) (c:bm) (v:V):Prop:=match c.from_ with
 | none=>v=.non
 | some (k,sg)=>∃t ha g,v=.ref t/\H t=some (.tup [.ref ha,.ref g])/\lH H ha k/\bT K H g (sg.map V.str)
theorem o7.kt {K:Za}{H H':Hp}{c:bm}{v:V}(k:gJ H H') (h:o7 K H c v):o7 K H' c v:=by
 unfold o7 at h ⊢;cases e:c.from_ with
 | none=>rw [e] at h; exact h
 | some p =>
  rw [e] at h;obtain ⟨t,ha,g,h1,h2,h3,h4⟩:=h;exact ⟨t,ha,g,h1,k _ _ h2,k _ _ h3,bT.kt k h4⟩
abbrev ib (K:Za) (H:Hp) (kvs:List (TK×V)) (P:List bm):Prop:=Paired (fun (kv:TK×V) (c:bm)=>kv.1=nO c.key/\o7 K H c kv.2) kvs P
theorem ib.kt {K:Za}{H H':Hp}{kvs:List (TK×V)}{P:List bm}(k:gJ H H') (h:ib K H kvs P):ib K H' kvs P:=Paired.mapP h fun _ _ r=>⟨r.1,r.2.kt k⟩
theorem ib.val {K:Za}{H:Hp}:∀{kvs:List (TK×V)}{P:List bm},ib K H kvs P->(P.map (·.key)).Nodup->∀{i:Nat}{c:bm},P[i]?=some c->∃v,bJ kvs (nO c.key)=some v/\o7 K H c v
 | _,_,.nil,_,i,c,h=>by simp at h
 | _,_,.cons (a:=kv) (b:=b) r t,nd,0,c,h=>by
  injection h with h;subst h;exact ⟨kv.2,cp r.1,r.2⟩
 | _,_,.cons (a:=kv) (b:=b) r t,nd,i+1,c,h=>by
  rw [bw,mv] at nd;rw [List.getElem?_cons_succ] at h;obtain ⟨v,h1,h2⟩:=ib.val t nd.2 (i:=i) h;refine ⟨v,?_,h2⟩;rw [cf,h1];intro z;rw [r.1] at z;exact nd.1 (by rw [BE z]; exact jR (f:=(·.key)) (bd h))
theorem ib.none {K:Za}{H:Hp}{kvs:List (TK×V)}{P:List bm}(h:ib K H kvs P) {k:Pr}(n:iN P k=false):bJ kvs (nO k)=.none:=by
 refine wc ?_
 induction h with
 | nil=>intro kv hk; exact nomatch hk
 | @cons a b as bs r t ih =>
  intro kv hk;have n':decide (b.key=k)=false/\iN bs k=false:=by
   unfold iN at n ⊢;rw [mL,Bool.or_eq_false_iff] at n;exact n
  rcases cU.1 hk with rfl | hk
  ·rw [r.1]; exact fun e=>of_decide_eq_false n'.1 (BE e)
  ·exact ih n'.2 kv hk
theorem Paired.rev {α β:Type}{R:α->β->Prop}:∀{a:List α}{b:List β},Paired R a b->Paired R a.reverse b.reverse
 | _,_,.nil=>.nil
 | _,_,.cons r t=>by
  rw [v8,v8];exact Paired.app (Paired.rev t) (.cons r .nil)
inductive fC (K:Za) (vs:List V) (H:Hp) (Q:VK) (E:XK):Prop
 | mk (cd pa:Addr) (kvs:List (TK×V)) (ms ws:List (List (Sg×Nat))) (P:List bm) (i:Nat) (c:bm):(vs=[.ref cd,.ref pa])->(H cd=some (.dT kvs))->(ib K H kvs P)->(qk ms ws P)->(P[i]?=some c)->(lH H pa c.key)->(P.length<=100000)->(∀(l:Addr) (gs:Ze) (H':Hp),H' l=some (.lst (gs.map V.ref))->Paired (fun g (sg:Sg)=>bT K H' g (sg.map V.str)) gs c.story->H l=none->ac H H'->Q (.ref l) H')->fC K vs H Q E
theorem z9 {K:Za}{vs:List V}{H:Hp}{Q:VK}{E:XK}(h:fC K vs H Q E):zK K (bC Q) (start AO vs) H:=by
 obtain ⟨cd,pa,kvs,ms,ws,P,i,c,rfl,hcd,hP,ok,hc,hpa,hz,k⟩:=h;refine ⟨(by show 0<=ai; decide),fun l hl=>?_⟩;have hi:i<P.length:=by
  rcases iD i P.length with z | z
  ·exact z
  ·rw [eV z] at hc; cases hc
 refine ⟨fun m σ H'=>∃(pa:Addr) (c':bm) (gs:Ze) (L:List Sg) (x3:Option V),σ=[some (.ref cd),some (.ref pa),some (.ref l),x3]/\P[m]?=some c'/\H' l=some (.lst (gs.map V.ref))/\Paired (fun g (sg:Sg)=>bT K H' g (sg.map V.str)) gs L/\c.story=c'.story++L.reverse/\lH H' pa c'.key/\L.length+m<=i/\ac H H',
  ⟨i,pa,c,[],[],_,rfl,hc,aa,.nil,(fK _).symm,kp hpa hl,by simp,ac.new hl⟩,?_⟩
 rintro m σ H1 ⟨pa,c',gs,L,x3,rfl,hc',hl1,hg,es,hpa1,hlen,S1⟩;have P1:=hP.kt (ac.kt S1);have cd1:=S1 _ _ hcd;obtain ⟨v,hv,cv⟩:=P1.val ok.nd hc';have g1:j_ K H1 cd (.ref pa) (some v):=.inr ⟨_,nO c'.key,pa,.inl cd1,rfl,cN.isIn 8 (fH _) hpa1.tk,fH _,hv.symm⟩;refine ⟨_,rfl,_,rfl,cd,v,rfl,g1,_,rfl,?_⟩;unfold o7 at cv;cases ef:c'.from_ with
 | none =>
  rw [ef] at cv;subst cv;refine a_ ?_;have m0:m=0:=by
   rcases ok.back m c' hc' with q | ⟨j,b,sg,_,_,q,_⟩
   ·exact q
   ·rw [ef] at q; cases q
  subst m0;obtain ⟨r,er⟩:=ok.zero;rw [er] at hc';injection hc' with hc';have es':c.story=L.reverse:=by rw [es,<-hc']; rfl
  refine ⟨_,rfl,.inl ⟨rfl,_,aA.of hl1⟩,l,_,rfl,rfl,hl1,?_⟩;have kt:gJ H1 (upd H1 l (.lst (gs.map V.ref).reverse)):=cA hl1;refine ⟨_,rfl,k l gs.reverse _ (by rw [aa,List.map_reverse]) ?_ hl fun b o e=>by rw [af (ae e hl)]; exact S1 _ _ e⟩;rw [es'];exact Paired.rev (Paired.mapP hg fun _ _ r=>bT.kt kt r)
 | some kp' =>
  obtain ⟨kk,sg⟩:=kp';rw [ef] at cv;obtain ⟨t,ha,g,rfl,ht,hha,hgs⟩:=cv;refine bW ?_;have par:∃(j:Nat) (b:bm),j<m/\P[j]?=some b/\b.key=kk/\c'.story=b.story++[sg]:=by
   rcases ok.back m c' hc' with q | ⟨j,b,sg',lt,hb,q,e,_⟩
   ·subst q;obtain ⟨r,er⟩:=ok.zero;rw [er] at hc';injection hc' with hc';rw [<-hc'] at ef;cases ef
   ·rw [ef] at q;injection q with q;injection q with q1 q2;subst q2;exact ⟨j,b,lt,hb,q1.symm,e⟩
  obtain ⟨j,b,lt,hb,rfl,eb⟩:=par;refine ⟨fun σ' H'=>∃(pa:Addr) (gs:Ze) (x3:Option V),σ'=[some (.ref cd),some (.ref pa),some (.ref l),x3]/\H' l=some (.lst (gs.map V.ref))/\Paired (fun g (sg:Sg)=>bT K H' g (sg.map V.str)) gs (L++[sg])/\lH H' pa b.key/\ac H H',fun σ' H' ⟨pa,gs,x3,q1,q2,q3,q4,q5⟩=>⟨j,lt,pa,b,gs,L++[sg],x3,q1,hb,q2,q3,?_,q4,?_,q5⟩,?_⟩
  ·rw [es,eb,List.reverse_append,c6]; rfl
  ·rw [aM]; show L.length+1+j<=i; omega
  refine ⟨_,rfl,_,rfl,cd,_,rfl,g1,t,_,rfl,bj.of ht,rfl,_,_,rfl,_,_,rfl,rfl,?_⟩;refine ⟨_,rfl,.inl ⟨rfl,_,aA.of hl1⟩,_,rfl,l,_,.ref g,rfl,rfl,hl1,?_,ha,gs++[g],_,rfl,?_,?_,?_,?_⟩
  ·rw [aj,Paired.length hg,ky]; omega
  ·rw [aa,ax]; rfl
  ·have kt:gJ H1 (upd H1 l (.lst (gs.map V.ref++[.ref g]))):=cA hl1;exact cD (Paired.mapP hg fun _ _ r=>bT.kt kt r) (bT.kt kt hgs)
  ·exact cA hl1 _ _ hha
  ·intro b' o e;rw [af (ae e hl)];exact S1 _ _ e
theorem CS {P:List Pr}{a b:Nat}(nd:P.Nodup) (h:∀p∈P,p.1<a/\p.2<b):P.length<=a * b:=by
 have h1:=jI (L:=P.map fun p=>p.1 * b+p.2) (R:=jz (a * b)) ?_ ?_
 ·rw [aj,rY] at h1; exact h1
 ·rw [pd,List.pairwise_map];refine List.Pairwise.imp_of_mem (fun {x y} hx hy hne e=>hne ?_) (pd.1 nd);obtain ⟨x1,x2⟩:=x;obtain ⟨y1,y2⟩:=y;have hx:=(h _ hx).2;have hy:=(h _ hy).2;simp only at hx hy e;have bp:0<b:=by omega
  have e1:x1=y1:=by
   have:=congrArg (· / b) e;simp only [Nat.add_comm (x1 * b),Nat.add_comm (y1 * b),Nat.add_mul_div_right _ _ bp,Nat.div_eq_of_lt hx,Nat.div_eq_of_lt hy,vC] at this;exact this
  subst e1;rw [show x2=y2 by omega]
 ·intro x hx;obtain ⟨p,hp,rfl⟩:=aD.1 hx;obtain ⟨h2,h3⟩:=h p hp;rw [List.mem_range];have:(p.1+1) * b<=a * b:=Nat.mul_le_mul_right b h2;rw [Nat.succ_mul] at this;omega
def kD (ms ws:List (List (Sg×Nat))) (P:List bm) (c:bm):Prop:=∀p∈ms.getD c.key.2 [],match bF (ws.getD c.key.1 []) p.1 with
 | none=>p.1.head?=some ("ask":Str)
 | some w=>iN P (w,p.2)=true
theorem yP {P r:List bm}{k:Pr}(h:iN P k=true):iN (P++r) k=true:=by
 unfold iN at h ⊢;rw [List.any_append,h]; rfl
theorem kD.mono {ms ws:List (List (Sg×Nat))}{P r:List bm}{c:bm}(h:kD ms ws P c):kD ms ws (P++r) c:=fun p hp=>by
 have:=h p hp;cases e:bF (ws.getD c.key.1 []) p.1 with
 | none=>rw [e] at this; exact this
 | some w=>rw [e] at this; exact yP this
theorem As {ws:List (List (Sg×Nat))}{P:List bm}{b:bm}(l:List (Sg×Nat)) (h:(cj (ws.getD b.key.1 []) b P l).2=none):∀p∈l,match bF (ws.getD b.key.1 []) p.1 with
 | none=>p.1.head?=some ("ask":Str)
 | some w=>iN (cj (ws.getD b.key.1 []) b P l).1 (w,p.2)=true:=by
 have key:∀n,n<=l.length->(cj (ws.getD b.key.1 []) b P (l.take n)).2=none->∀p∈l.take n,match bF (ws.getD b.key.1 []) p.1 with
  | none=>p.1.head?=some ("ask":Str)
  | some w=>iN (cj (ws.getD b.key.1 []) b P (l.take n)).1 (w,p.2)=true:=by
  intro n
  induction n with
  | zero=>intro _ _ p hp; rw [rQ] at hp; exact nomatch hp
  | succ n ih =>
   intro hn;have hp:l[n]?=some l[n]:=bX (by omega);have es:cj (ws.getD b.key.1 []) b P (l.take (n+1))=eG (ws.getD b.key.1 []) b (cj (ws.getD b.key.1 []) b P (l.take n)) l[n]:=by
    unfold cj; rw [take_snoc hp,jQ]; rfl
   rw [es,take_snoc hp];have ih:=ih (by omega);generalize cj (ws.getD b.key.1 []) b P (l.take n)=q at ih;generalize l[n]=p at *;intro h0 x hx;have q0:q.2=none:=by
    unfold eG at h0;cases e:q.2 with
    | none=>rfl
    | some s=>rw [e] at h0; simp only at h0; rw [e] at h0; exact h0
   unfold eG at h0 ⊢;rw [q0] at h0 ⊢;rcases bx.1 hx with hx | hx
   ·have:=ih q0 x hx;cases e:bF (ws.getD b.key.1 []) x.1 with
    | none=>rw [e] at this; exact this
    | some w =>
     rw [e] at this;simp only at this ⊢;cases e3:bF (ws.getD b.key.1 []) p.1 with
     | none =>
      by_cases c:p.1.head?=some ("ask":Str)
      ·simp only [c,if_true]; exact this
      ·simp only [c,if_false]; exact this
     | some w' =>
      cases e4:iN q.1 (w',p.2) with
      | true=>simp only [e4,if_true]; exact this
      | false=>simp only [e4,kU,if_false]; exact yP this
   ·have:x=p:=by simpa using hx
    subst this;cases e3:bF (ws.getD b.key.1 []) x.1 with
    | none =>
     rw [e3] at h0;by_cases c:x.1.head?=some ("ask":Str)
     ·exact c
     ·simp only [c,if_false] at h0; cases h0
    | some w =>
     simp only;cases e4:iN q.1 (w,x.2) with
     | true=>simp only [e4,if_true]
     | false =>
      simp only [e4,kU,if_false];exact lA.2 (by rw [ax]; exact dz _ (by simp))
 have:=key l.length (aG _);rw [aX] at this;exact this h
theorem pZ {l:List (Sg×Nat)}{sg:Sg}:bJ (stK l) (iX sg)=(bF l sg).map fun n=>V.int (n:Nat):=by
 unfold bF stK
 induction l with
 | nil=>rfl
 | cons p l ih =>
  rw [bw];by_cases c:p.1=sg
  ·rw [cp (by show iX p.1=iX sg; rw [c]),List.find?_cons_of_pos (by simpa using c)]; rfl
  ·rw [cf (fun z=>c (jb z)),List.find?_cons_of_neg (by simpa using c),ih]
structure mr (H0 H:Hp) (a1 a2:Addr) (ts1 ts2:Ze) (ws ms:List (List (Sg×Nat))):Prop where
 h1:H a1=some (.lst (ts1.map V.ref))
 h2:H a2=some (.lst (ts2.map V.ref))
 r1:zC H0 H ts1 ws
 r2:zC H0 H ts2 ms
 S:ac H0 H
theorem mr.same {H0 H H':Hp}{a1 a2:Addr}{ts1 ts2:Ze}{ws ms:List (List (Sg×Nat))}(h:mr H0 H a1 a2 ts1 ts2 ws ms) (S:ac H H'):mr H0 H' a1 a2 ts1 ts2 ws ms :=
 ⟨S _ _ h.h1,S _ _ h.h2,Paired.mapP h.r1 fun _ _ r=>⟨r.1,Rd.same S r.2⟩,Paired.mapP h.r2 fun _ _ r=>⟨r.1,Rd.same S r.2⟩,h.S.trans S⟩
theorem Rd.ne {H:Hp}{a d:Addr}{k:List (TK×V)}{o:HO}(n:a≠d) (h:Rd H a (.dT k)):Rd (upd H d o) a (.dT k):=by
 rcases h with h | ⟨q,h⟩
 ·exact .inl (by rw [af n]; exact h)
 ·exact .inr ⟨q,by rw [af n]; exact h⟩
theorem mr.own {H0 H:Hp}{a1 a2 d:Addr}{o:HO}{ts1 ts2:Ze}{ws ms:List (List (Sg×Nat))}(h:mr H0 H a1 a2 ts1 ts2 ws ms) (d0:H0 d=none) (n1:a1≠d) (n2:a2≠d) (m1:∀t∈ts1,t≠d) (m2:∀t∈ts2,t≠d):mr H0 (upd H d o) a1 a2 ts1 ts2 ws ms:=by
 have mem:∀{ts:Ze}{st:List (List (Sg×Nat))},zC H0 H ts st->(∀t∈ts,t≠d)->zC H0 (upd H d o) ts st:=by
  intro ts st r
  induction r with
  | nil=>intro _; exact .nil
  | @cons a b as bs q t ih=>intro m; exact .cons ⟨q.1,Rd.ne (m a eg) q.2⟩ (ih fun x hx=>m x (fb _ hx))
 exact ⟨by rw [af n1]; exact h.h1,by rw [af n2]; exact h.h2,mem h.r1 m1,mem h.r2 m2,fun b q e=>by rw [af (ae e d0)]; exact h.S _ _ e⟩
theorem mr.frz {H0 H:Hp}{a1 a2 d:Addr}{o:Obj}{kvs:List (TK×V)}{ts1 ts2:Ze}{ws ms:List (List (Sg×Nat))}(h:mr H0 H a1 a2 ts1 ts2 ws ms) (d0:H0 d=none) (hd:H d=some (.dT kvs)):mr H0 (upd H d (.frz o (.dT kvs))) a1 a2 ts1 ts2 ws ms :=
 ⟨by rw [af (fun z=>by have:=h.h1; rw [z,hd] at this; cases this)]; exact h.h1,by rw [af (fun z=>by have:=h.h2; rw [z,hd] at this; cases this)]; exact h.h2,
  Paired.mapP h.r1 fun _ _ r=>⟨r.1,Rd.frz hd r.2⟩,Paired.mapP h.r2 fun _ _ r=>⟨r.1,Rd.frz hd r.2⟩,fun b q e=>by rw [af (ae e d0)]; exact h.S _ _ e⟩
theorem zC.ne {H0 H:Hp}{d:Addr}{ts:Ze}{st:List (List (Sg×Nat))}(h:zC H0 H ts st) (n:∀k,¬Rd H d (.dT k)):∀t∈ts,t≠d:=by
 induction h with
 | nil=>intro t ht; exact nomatch ht
 | @cons a b as bs q t ih =>
  intro x hx;rcases cU.1 hx with rfl | hx
  ·intro z; subst z; exact n _ q.2
  ·exact ih x hx
structure ip (K:Za) (H0 H:Hp) (a1 a2 cd pl:Addr) (ts1 ts2 prs:Ze) (kvs:List (TK×V)) (ws ms:List (List (Sg×Nat))) (P:List bm):Prop where
 i:mr H0 H a1 a2 ts1 ts2 ws ms
 hcd:H cd=some (.dT kvs)
 came:ib K H kvs P
 hpl:H pl=some (.lst (prs.map V.ref))
 hprs:Paired (fun a (c:bm)=>lH H a c.key) prs P
 ok:qk ms ws P
 rg:∀c∈P,c.key.1<ts1.length/\c.key.2<ts2.length
 c0:H0 cd=none
 p0:H0 pl=none
 nc1:∀t∈ts1,t≠cd
 nc2:∀t∈ts2,t≠cd
 np1:a1≠pl
 np2:a2≠pl
theorem ip.same {K:Za}{H0 H H':Hp}{a1 a2 cd pl:Addr}{ts1 ts2 prs:Ze}{kvs:List (TK×V)}{ws ms:List (List (Sg×Nat))}{P:List bm}(h:ip K H0 H a1 a2 cd pl ts1 ts2 prs kvs ws ms P) (S:ac H H'):ip K H0 H' a1 a2 cd pl ts1 ts2 prs kvs ws ms P :=
 ⟨h.i.same S,S _ _ h.hcd,h.came.kt (ac.kt S),S _ _ h.hpl,Paired.mapP h.hprs fun _ _ r=>S _ _ r,h.ok,h.rg,h.c0,h.p0,h.nc1,h.nc2,h.np1,h.np2⟩
theorem ip.few2 {K:Za}{H0 H:Hp}{a1 a2 cd pl:Addr}{ts1 ts2 prs:Ze}{kvs:List (TK×V)}{ws ms:List (List (Sg×Nat))}{P:List bm}(h:ip K H0 H a1 a2 cd pl ts1 ts2 prs kvs ws ms P):P.length<=ts1.length * ts2.length:=by
 have:=CS (P:=P.map (·.key)) (a:=ts1.length) (b:=ts2.length) h.ok.nd fun p hp=>by
  obtain ⟨c,hc,rfl⟩:=aD.1 hp;exact h.rg c hc
 rw [aj] at this;exact this
theorem ip.few {K:Za}{H0 H:Hp}{a1 a2 cd pl:Addr}{ts1 ts2 prs:Ze}{kvs:List (TK×V)}{ws ms:List (List (Sg×Nat))}{P:List bm}(h:ip K H0 H a1 a2 cd pl ts1 ts2 prs kvs ws ms P) (z1:ts1.length<=256) (z2:ts2.length<=256):P.length<=65536:=by
 have:=h.few2;have h2:ts1.length * ts2.length<=256 * 256:=rN z1 z2;omega
theorem ip.frz {K:Za}{H0 H:Hp}{a1 a2 cd pl d:Addr}{o:Obj}{ts1 ts2 prs:Ze}{kvs kd:List (TK×V)}{ws ms:List (List (Sg×Nat))}{P:List bm}(h:ip K H0 H a1 a2 cd pl ts1 ts2 prs kvs ws ms P) (d0:H0 d=none) (hd:H d=some (.dT kd)) (n:d≠cd):ip K H0 (upd H d (.frz o (.dT kd))) a1 a2 cd pl ts1 ts2 prs kvs ws ms P :=
 ⟨h.i.frz d0 hd,by rw [af n.symm]; exact h.hcd,h.came.kt (BP hd),by rw [af (fun z=>by have:=h.hpl; rw [z,hd] at this; cases this)]; exact h.hpl,Paired.mapP h.hprs fun _ _ r=>BP hd _ _ r,h.ok,h.rg,h.c0,h.p0,h.nc1,h.nc2,h.np1,h.np2⟩
theorem ip.add {K:Za}{H0 H:Hp}{a1 a2 cd pl:Addr}{ts1 ts2 prs:Ze}{kvs:List (TK×V)}{ws ms:List (List (Sg×Nat))}{P:List bm}(h:ip K H0 H a1 a2 cd pl ts1 ts2 prs kvs ws ms P) {c:bm}{v:V}{pa:Addr}(hn:iN P c.key=false) (hv:o7 K H c v) (hpa:lH H pa c.key) (ok:qk ms ws (P++[c])) (rg:c.key.1<ts1.length/\c.key.2<ts2.length) :
  ip K H0 (upd (upd H cd (.dT (cq kvs (nO c.key) v))) pl (.lst (prs.map V.ref++[.ref pa]))) a1 a2 cd pl ts1 ts2 (prs++[pa]) (kvs++[(nO c.key,v)]) ws ms (P++[c]):=by
 have npc:pl≠cd:=fun z=>by have:=h.hpl; rw [z,h.hcd] at this; cases this
 have k1:gJ H (upd H cd (.dT (cq kvs (nO c.key) v))):=BP h.hcd;have pl1:upd H cd (.dT (cq kvs (nO c.key) v)) pl=some (.lst (prs.map V.ref)):=by rw [af npc]; exact h.hpl
 have k2:gJ H (upd (upd H cd (.dT (cq kvs (nO c.key) v))) pl (.lst (prs.map V.ref++[.ref pa]))):=k1.trans (cA pl1);have na1:a1≠cd:=fun z=>by have:=h.i.h1; rw [z,h.hcd] at this; cases this
 have na2:a2≠cd:=fun z=>by have:=h.i.h2; rw [z,h.hcd] at this; cases this
 have i1:=h.i.own (o:=.dT (cq kvs (nO c.key) v)) h.c0 na1 na2 h.nc1 h.nc2;have nr:∀k,¬Rd (upd H cd (.dT (cq kvs (nO c.key) v))) pl (.dT k):=fun k r=>by
  rcases r with r | ⟨o,r⟩
  ·rw [pl1] at r; cases r
  ·rw [pl1] at r; cases r
 refine ⟨i1.own h.p0 h.np1 h.np2 (zC.ne i1.r1 nr) (zC.ne i1.r2 nr),?_,?_,?_,?_,ok,?_,h.c0,h.p0,h.nc1,h.nc2,h.np1,h.np2⟩
 ·rw [af npc.symm,aa,ff _ (h.came.none hn)]
 ·exact cD (h.came.kt k2) ⟨rfl,hv.kt k2⟩
 ·rw [aa,ax]; rfl
 ·exact cD (Paired.mapP h.hprs fun _ _ r=>k2 _ _ r) (k2 _ _ hpa)
 ·intro x hx;rcases bx.1 hx with hx | hx
  ·exact h.rg x hx
  ·rw [cC.1 hx]; exact rg
structure Ix (ts1 ts2:Ze) (ws ms:List (List (Sg×Nat))):Prop where
 z1:ts1.length<=256
 z2:ts2.length<=256
 c1:∀i,∀p∈ws.getD i [],p.2<ts1.length
 c2:∀i,∀p∈ms.getD i [],p.2<ts2.length
 ne:∀i,∀p∈ms.getD i [],p.1≠[]
theorem yI {l:List (Sg×Nat)}{sg:Sg}{w:Nat}(h:bF l sg=some w):(sg,w)∈l:=by
 unfold bF at h;obtain ⟨p,hp,e⟩:=rK.1 h;have h1:=List.find?_some hp;have h2:=List.mem_of_find?_eq_some hp;obtain ⟨a,b⟩:=p;have h1:a=sg:=of_decide_eq_true h1;subst h1;have e:b=w:=e;subst e;exact h2
theorem DE {H:Hp}{a b:Addr}{x y:HO}(n:a≠b):upd (upd H a x) b y=upd (upd H b y) a x:=by
 funext c;unfold upd;by_cases h1:c=b
 ·by_cases h2:c=a
  ·exact absurd (h2.symm.trans h1) n
  ·simp [h1,h2,n.symm]
 ·by_cases h2:c=a
  ·simp [h1,h2,n]
  ·simp [h1,h2]
theorem ib.has {K:Za}{H:Hp}{kvs:List (TK×V)}{P:List bm}(h:ib K H kvs P) (nd:(P.map (·.key)).Nodup) (k:Pr):(bJ kvs (nO k)).isSome=iN P k:=by
 cases e:iN P k with
 | false=>rw [h.none e]; rfl
 | true =>
  obtain ⟨c,hc,rfl⟩:=aD.1 (lA.1 e);obtain ⟨i,hi,ei⟩:=vD hc;obtain ⟨v,h1,_⟩:=h.val nd (i:=i) (c:=c) (by rw [bX hi,ei]);rw [h1]; rfl
def At (K:Za) (sp:Sp):TS :=
 bD (tB (eO K V7 V6)) (bD (aJ (aE tZ (aE (fS K) V7 (tC (.int 0))) (tC (.str "ask")))) (aT (aZ (aB (aO sp (au V2 (aw V5))) V7))) (aU)) (bD (tB (eO K (aZ (aB (ie K V6 V7) V8)) V2)) (ao (pR K V2 (aZ (aB (ie K V6 V7) V8)) (aZ (aB V5 V7)))
 (bE (pN K "list" bY V3 (aw (aZ (aB (ie K V6 V7) V8)))))) (aU))
section
variable {K:Za}{H0:Hp}{a1 a2 cd pl ha wd md:Addr}{ts1 ts2:Ze}{ws ms:List (List (Sg×Nat))}{n:Nat}{b:bm}{wl l:List (Sg×Nat)}{o:Obj}{D:kJ}
theorem Gn (C:Ix ts1 ts2 ws ms) {H H':Hp}{prs:Ze}{kvs:List (TK×V)}{P:List bm}{p:Sg×Nat}{sb pp:Addr}{x7 x8:Option V}(A:ip K H0 H a1 a2 cd pl ts1 ts2 prs kvs ws ms P) (hb:P[n]?=some b) (hha:lH H ha b.key) (hwd:Rd H wd (.dT (stK wl))) (ewl:wl=ws.getD b.key.1 []) (hp:p∈ms.getD b.key.2 []) (hsb:bT K H sb (p.1.map V.str)) (nwc:wd≠cd)
  (fault:∀(t lst:Addr) (gs:Ze) (H2:Hp),bF wl p.1=none->p.1.head?≠some ("ask":Str)->H2 t=some (.tup [.ref lst,.ref sb])->H2 lst=some (.lst (gs.map V.ref))->Paired (fun g (sg:Sg)=>bT K H2 g (sg.map V.str)) gs b.story->bT K H2 sb (p.1.map V.str)->H0 t=none->H0 lst=none->mr H0 H2 a1 a2 ts1 ts2 ws ms->D.rt (.ref t) H2)
  (next:∀(prs':Ze) (kvs':List (TK×V)) (H2:Hp),(eG wl b (P,none) p).2=none->ip K H0 H2 a1 a2 cd pl ts1 ts2 prs' kvs' ws ms (eG wl b (P,none) p).1->(∀x u,H x=some u->x≠cd->x≠pl->H2 x=some u)->D.nx [some (.ref a1),some (.ref a2),some (.ref cd),some (.ref pl),some (.int ((n:Int)+1)),some (.ref ha),some (.ref wd),some (.ref sb),some (.int (p.2:Nat))] H2) :
  At K (fC K) D [some (.ref a1),some (.ref a2),some (.ref cd),some (.ref pl),some (.int ((n:Int)+1)),some (.ref ha),some (.ref wd),some (.ref sb),some (.int (p.2:Nat))] H:=by
 have few:=A.few C.z1 C.z2;have gw:∀{H:Hp},Rd H wd (.dT (stK wl))->bT K H sb (p.1.map V.str)->j_ K H wd (.ref sb) ((bF wl p.1).map fun n=>V.int (n:Nat)):=fun hwd hsb=>.inr ⟨_,iX p.1,sb,hwd,rfl,we hsb,dX _,pZ.symm⟩;refine ⟨_,rfl,_,rfl,wd,_,rfl,gw hwd hsb,_,rfl,?_⟩;cases e:bF wl p.1 with
 | none =>
  refine bW ?_;obtain ⟨s0,rest,es⟩:=List.exists_cons_of_ne_nil (C.ne _ p hp);have at0:oY (p.1.map V.str) 0=some (.str s0):=by rw [es]; exact bI (j:=0) rfl
  refine ⟨_,rfl,sb,_,0,_,rfl,rfl,bT.sq hsb,at0,rfl,_,rfl,?_⟩;refine C9 (P:=p.1.head?≠some ("ask":Str)) (by rw [es]; simp) (fun c=>?_) (fun c=>?_)
  ·refine ⟨_,rfl,_,rfl,cd,ha,kvs,ms,ws,P,n,b,rfl,A.hcd,A.came,A.ok,hb,hha,by omega,fun lst gs H2 hl hg hl0 S2=>⟨_,rfl,(by show 2<=ai; decide),fun t ht=>?_⟩⟩;have S3:ac H2 (upd H2 t (.tup [.ref lst,.ref sb])):=ac.new ht;exact fault t lst gs _ e c aa (S3 _ _ hl) (Paired.mapP hg fun _ _ r=>bT.kt (ac.kt S3) r) (bT.kt ((ac.kt S2).trans (ac.kt S3)) hsb) ((A.i.S.trans S2).free ht) (A.i.S.free hl0) (A.i.same (S2.trans S3))
  ·have c':=Classical.not_not.1 c;have e1:eG wl b (P,none) p=(P,none):=by unfold eG; simp only [e,c',if_true]
   exact next prs kvs H (by rw [e1]) (by rw [e1]; exact A) fun x u q _ _=>q
 | some w =>
  refine a_ ?_;have gw1:∀{H:Hp},Rd H wd (.dT (stK wl))->bT K H sb (p.1.map V.str)->j_ K H wd (.ref sb) (some (.int (w:Nat))):=fun h1 h2=>by
   have:=gw h1 h2;rw [e] at this;exact this
  have hw:=yI e;rw [ewl] at hw;have rg:w<ts1.length/\p.2<ts2.length:=⟨C.c1 _ _ hw,C.c2 _ _ hp⟩;have l2:([V.int (w:Nat),V.int (p.2:Nat)]:List V).length<=ai:=by show 2<=ai; decide
  refine ⟨_,rfl,_,rfl,wd,_,rfl,gw1 hwd hsb,_,rfl,l2,fun p1 hp1=>?_⟩;have S1:ac H (upd H p1 (.tup [.int (w:Nat),.int (p.2:Nat)])):=ac.new hp1;have pr1:lH (upd H p1 (.tup [.int (w:Nat),.int (p.2:Nat)])) p1 (w,p.2):=aa;generalize upd H p1 (.tup [.int (w:Nat),.int (p.2:Nat)])=H1 at S1 pr1 ⊢;have A1:=A.same S1;refine ⟨_,rfl,cd,_,rfl,.inr ⟨_,nO (w,p.2),p1,.inl A1.hcd,rfl,cN.isIn 8 (fH _) pr1.tk,fH _,rfl⟩,_,rfl,?_⟩;rw [A1.came.has A1.ok.nd];cases eh:iN P (w,p.2) with
  | true =>
   refine a_ ?_;have e1:eG wl b (P,none) p=(P,none):=by unfold eG; simp only [e,eh,if_true]
   exact next prs kvs H1 (by rw [e1]) (by rw [e1]; exact A1) fun x u q _ _=>S1 _ _ q
  | false =>
   refine bW ?_;have e1:eG wl b (P,none) p=(P++[⟨(w,p.2),some (b.key,p.1),b.story++[p.1]⟩],none):=by unfold eG; simp only [e,eh,kU,if_false]
   refine ⟨_,rfl,_,rfl,(by show 2<=ai; decide),fun t ht=>⟨_,rfl,_,rfl,_,rfl,wd,_,rfl,gw1 (Rd.same (S1.trans (ac.new ht)) hwd) (bT.kt (ac.kt (S1.trans (ac.new ht))) hsb),_,rfl,l2,fun p2 hp2=>?_⟩⟩;have S2:ac H1 (upd H1 t (.tup [.ref ha,.ref sb])):=ac.new ht;have t2:upd H1 t (.tup [.ref ha,.ref sb]) t=some (.tup [.ref ha,.ref sb]):=aa;generalize upd H1 t (.tup [.ref ha,.ref sb])=H2 at S2 t2 hp2 ⊢;have S3:ac H2 (upd H2 p2 (.tup [.int (w:Nat),.int (p.2:Nat)])):=ac.new hp2;have pr3:lH (upd H2 p2 (.tup [.int (w:Nat),.int (p.2:Nat)])) p2 (w,p.2):=aa;generalize upd H2 p2 (.tup [.int (w:Nat),.int (p.2:Nat)])=H3 at S3 pr3 ⊢;have S03:=(S1.trans S2).trans S3;have A3:=A.same S03;have lk:kvs.length<ai:=by rw [Paired.length A.came,ky]; omega
   refine ⟨cd,p2,kvs,nO (w,p.2),rfl,rfl,A3.hcd,cN.c 8 (fH _) pr3.tk,fH _,lk,?_⟩;have npc:pl≠cd:=fun z=>by have:=A.hpl; rw [z,A.hcd] at this; cases this
   have pl4:upd H3 cd (.dT (cq kvs (nO (w,p.2)) (.ref t))) pl=some (.lst (prs.map V.ref)):=by rw [af npc]; exact A3.hpl
   have wd4:Rd (upd H3 cd (.dT (cq kvs (nO (w,p.2)) (.ref t)))) wd (.dT (stK wl)):=Rd.ne nwc (Rd.same S03 hwd);refine ⟨_,rfl,.inl ⟨rfl,_,aA.of pl4⟩,_,rfl,_,rfl,wd,_,rfl,gw1 wd4 (bT.kt ((ac.kt S03).trans (BP A3.hcd)) hsb),_,rfl,l2,fun p3 hp3=>?_⟩;have ncp:cd≠p3:=fun z=>by rw [<-z,aa] at hp3; cases hp3
   have hp3':H3 p3=none:=by rw [af ncp.symm] at hp3; exact hp3
   rw [DE ncp];have S4:ac H3 (upd H3 p3 (.tup [.int (w:Nat),.int (p.2:Nat)])):=ac.new hp3';have pr4:lH (upd H3 p3 (.tup [.int (w:Nat),.int (p.2:Nat)])) p3 (w,p.2):=aa;generalize upd H3 p3 (.tup [.int (w:Nat),.int (p.2:Nat)])=H4 at S4 pr4 ⊢;have A4:=A3.same S4;have S04:=S03.trans S4;have pl5:upd H4 cd (.dT (cq kvs (nO (w,p.2)) (.ref t))) pl=some (.lst (prs.map V.ref)):=by rw [af npc]; exact A4.hpl
   refine ⟨pl,_,.ref p3,rfl,rfl,pl5,?_,?_⟩
   ·rw [aj,Paired.length A.hprs,ky]; omega
   have cv:o7 K H4 ⟨(w,p.2),some (b.key,p.1),b.story++[p.1]⟩ (.ref t):=⟨t,ha,sb,rfl,S4 _ _ (S3 _ _ t2),S04 _ _ hha,bT.kt (ac.kt S04) hsb⟩;refine next (prs++[p3]) (kvs++[(nO (w,p.2),.ref t)]) _ (by rw [e1]) ?_ fun x u q n1 n2=>by rw [af n2,af n1]; exact S04 _ _ q
   rw [e1];exact A4.add (c:=⟨(w,p.2),some (b.key,p.1),b.story++[p.1]⟩) eh cv pr4 (A.ok.add hb eh (by rw [<-ewl]; exact e) hp) rg
end
def h_ (ms ws:List (List (Sg×Nat))):Nat->List bm×Option (List Sg×Sg)
 | 0=>([⟨(0,0),none,[]⟩],none)
 | n+1=>match (h_ ms ws n).2 with
  | some _=>h_ ms ws n
  | none=>match (h_ ms ws n).1[n]? with
   | none=>h_ ms ws n
   | some c=>((cj (ws.getD c.key.1 []) c (h_ ms ws n).1 (ms.getD c.key.2 [])).1,(cj (ws.getD c.key.1 []) c (h_ ms ws n).1 (ms.getD c.key.2 [])).2.map fun sg=>(c.story,sg))
theorem yL {ms ws:List (List (Sg×Nat))}{n:Nat}{P:List bm}{c:bm}(h:h_ ms ws n=(P,none)) (hc:P[n]?=some c):h_ ms ws (n+1)=((cj (ws.getD c.key.1 []) c P (ms.getD c.key.2 [])).1,(cj (ws.getD c.key.1 []) c P (ms.getD c.key.2 [])).2.map fun sg=>(c.story,sg)):=by
 show (match (h_ ms ws n).2 with | some _=>_ | none=>_)=_
 rw [h];simp only [hc]
theorem qF (w:List (Sg×Nat)) (b:bm):∀(l:List (Sg×Nat)) (q:List bm×Option Sg) (s:Sg),q.2=some s->(l.foldl (eG w b) q).2=some s
 | [],_,_,h=>h
 | p::l,q,s,h=>by
  rw [kM];have e:eG w b q p=q:=by unfold eG; rw [h]
  rw [e];exact qF w b l q s h
theorem yJ {w:List (Sg×Nat)}{b:bm}{P:List bm}{l:List (Sg×Nat)}{i:Nat}{p:Sg×Nat}(h:(cj w b P (l.take i)).2=none) (hp:l[i]?=some p) (h1:bF w p.1=none) (h2:p.1.head?≠some ("ask":Str)):(cj w b P l).2=some p.1:=by
 have e:l=l.take i++p::l.drop (i+1):=by
  obtain ⟨hi,ei⟩:=cw.1 hp;rw [<-ei,List.getElem_cons_drop hi,pc]
 unfold cj at h ⊢;rw [e,jQ,kM];refine qF w b _ _ _ ?_;generalize (l.take i).foldl (eG w b) (P,none)=q at h;unfold eG;simp only [h,h1,h2,if_false]
theorem zC.rd {H0 H:Hp}{ts:Ze}{st:List (List (Sg×Nat))}(h:zC H0 H ts st) {i:Nat}{d:Addr}(e:ts[i]?=some d):H0 d=none/\Rd H d (.dT (stK (st.getD i []))):=by
 obtain ⟨l,hl,h0,hr⟩:=Paired.getL h e;have:st.getD i []=l:=by rw [rL,hl]; rfl
 rw [this];exact ⟨h0,hr⟩
theorem Hi {K:Za}{H0:Hp}{a1 a2 cd pl ha wd md:Addr}{ts1 ts2:Ze}{ws ms:List (List (Sg×Nat))}{n:Nat}{b:bm}{o:Obj}{D:kJ}(C:Ix ts1 ts2 ws ms) {H:Hp}{prs:Ze}{kvs:List (TK×V)}{P:List bm}{x7 x8:Option V}(A:ip K H0 H a1 a2 cd pl ts1 ts2 prs kvs ws ms P) (hb:P[n]?=some b) (hha:lH H ha b.key)
  (ewd:ts1[b.key.1]?=some wd) (emd:ts2[b.key.2]?=some md) (hmd:H md=some (.frz o (.dT (stK (ms.getD b.key.2 [])))))
  (fault:∀(P':List bm) (p:Sg×Nat) (sb t lst:Addr) (gs:Ze) (H2:Hp),qk ms ws P'->(∃r,P'=P++r)->(cj (ws.getD b.key.1 []) b P (ms.getD b.key.2 [])).2=some p.1->p∈ms.getD b.key.2 []->bF (ws.getD b.key.1 []) p.1=none->p.1.head?≠some ("ask":Str)->H2 t=some (.tup [.ref lst,.ref sb])->H2 lst=some (.lst (gs.map V.ref))->Paired (fun g (sg:Sg)=>bT K H2 g (sg.map V.str)) gs b.story->bT K H2 sb (p.1.map V.str)->H0 t=none->H0 lst=none->mr H0 H2 a1 a2 ts1 ts2 ws ms->D.rt (.ref t) H2)
  (next:∀(P':List bm) (prs':Ze) (kvs':List (TK×V)) (x7 x8:Option V) (H2:Hp),(∃r,P'=P++r)->cj (ws.getD b.key.1 []) b P (ms.getD b.key.2 [])=(P',none)->kD ms ws P' b->ip K H0 H2 a1 a2 cd pl ts1 ts2 prs' kvs' ws ms P'->D.nx [some (.ref a1),some (.ref a2),some (.ref cd),some (.ref pl),some (.int ((n:Int)+1)),some (.ref ha),some (.ref wd),x7,x8] H2) :
  Ia (GL md o (.dT (stK (ms.getD b.key.2 []))) (stK (ms.getD b.key.2 [])).length (AC K (stK (ms.getD b.key.2 [])))) (fW K 2 (aR U7 (aR U8 (fI)))) (At K (fC K)) D [some (.ref a1),some (.ref a2),some (.ref cd),some (.ref pl),some (.int ((n:Int)+1)),some (.ref ha),some (.ref wd),x7,x8] H:=by
 have ell:(stK (ms.getD b.key.2 [])).length=(ms.getD b.key.2 []).length:=by unfold stK; rw [aj]
 have lfok:=fun i=>EG A.ok hb ((ms.getD b.key.2 []).take i) fun p hp=>fz hp;have lt:n<P.length:=by
  rcases iD n P.length with z | z
  ·exact z
  ·rw [eV z] at hb; cases hb
 refine vm (fun i σ H'=>∃(prs':Ze) (kvs':List (TK×V)) (x7 x8:Option V),σ=[some (.ref a1),some (.ref a2),some (.ref cd),some (.ref pl),some (.int ((n:Int)+1)),some (.ref ha),some (.ref wd),x7,x8]/\(cj (ws.getD b.key.1 []) b P ((ms.getD b.key.2 []).take i)).2=none/\ip K H0 H' a1 a2 cd pl ts1 ts2 prs' kvs' ws ms (cj (ws.getD b.key.1 []) b P ((ms.getD b.key.2 []).take i)).1/\H' md=some (.frz o (.dT (stK (ms.getD b.key.2 []))))/\lH H' ha b.key)
  ⟨prs,kvs,_,_,rfl,rfl,A,hmd,hha⟩ ?_ ?_ ?_
 ·rintro i σ H' _ ⟨_,_,_,_,_,_,_,h,_⟩;exact h
 ·rintro i σ H3 pp a v hi ⟨prs',kvs',x7,x8,rfl,q0,A3,md3,ha3⟩ hpp ⟨key,ek,tkc⟩;unfold stK at ek;rw [b0] at ek;obtain ⟨p,hp,ep⟩:=rK.1 ek;cases ep;obtain ⟨sb,rfl,hsb⟩:=xL tkc;have S:ac H3 (upd H3 pp (.tup [.ref sb,.int (p.2:Nat)])):=ac.new hpp;have hpp4:upd H3 pp (.tup [.ref sb,.int (p.2:Nat)]) pp=some (.tup [.ref sb,.int (p.2:Nat)]):=aa;generalize upd H3 pp (.tup [.ref sb,.int (p.2:Nat)])=H4 at S hpp4 ⊢;refine ⟨pp,_,rfl,bj.of hpp4,rfl,_,_,rfl,_,_,rfl,rfl,?_⟩;have A4:=A3.same S;obtain ⟨⟨r,er⟩,okr,_⟩:=lfok i;have es:cj (ws.getD b.key.1 []) b P ((ms.getD b.key.2 []).take (i+1))=eG (ws.getD b.key.1 []) b (cj (ws.getD b.key.1 []) b P ((ms.getD b.key.2 []).take i)) p:=by
   unfold cj; rw [take_snoc hp,jQ]; rfl
  have e2:cj (ws.getD b.key.1 []) b P ((ms.getD b.key.2 []).take i)=((cj (ws.getD b.key.1 []) b P ((ms.getD b.key.2 []).take i)).1,none):=by rw [<-q0]
  have hb4:(cj (ws.getD b.key.1 []) b P ((ms.getD b.key.2 []).take i)).1[n]?=some b:=by rw [er,eX lt]; exact hb
  obtain ⟨w0,hwd⟩:=zC.rd A4.i.r1 ewd;have ncm:md≠cd:=A.nc2 md (bd emd);have ncw:wd≠cd:=A.nc1 wd (bd ewd);refine Gn C (n:=n) (b:=b) (p:=p) (sb:=sb) (x7:=none) (x8:=none) (pp:=pp) (H':=H4) A4 hb4 (S _ _ ha3) hwd rfl (bd hp) (bT.kt (ac.kt S) hsb) ncw ?_ ?_
  ·intro t lst gs H2 f1 f2 f3 f4 f5 f6 f7 f8 f9;exact fault _ p sb t lst gs H2 okr ⟨r,er⟩ (yJ q0 hp f1 f2) (bd hp) f1 f2 f3 f4 f5 f6 f7 f8 f9
  ·intro prs'' kvs'' H2 g1 g2 g3;rw [es,e2];refine ⟨prs'',kvs'',_,_,rfl,g1,g2,?_,?_⟩
   ·refine g3 _ _ (S _ _ md3) ncm fun z=>?_;have:=A4.hpl;rw [<-z,S _ _ md3] at this; cases this
   ·refine g3 _ _ (S _ _ ha3) (fun z=>?_) fun z=>?_
    ·have:=A4.hcd; rw [<-z,S _ _ ha3] at this; cases this
    ·have:=A4.hpl; rw [<-z,S _ _ ha3] at this; cases this
 ·rintro σ H3 ⟨prs',kvs',x7,x8,rfl,q0,A3,md3,ha3⟩;rw [ell,aX] at q0 A3;obtain ⟨⟨r,er⟩,_⟩:=lfok (ms.getD b.key.2 []).length;rw [aX] at er;exact next _ prs' kvs' x7 x8 H3 ⟨r,er⟩ (by rw [<-q0]) (fun p hp=>As _ q0 p hp) A3
inductive gS (K:Za) (vs:List V) (H:Hp) (Q:VK) (E:XK):Prop
 | mk (H0:Hp) (a1 a2:Addr) (ts1 ts2:Ze) (ws ms:List (List (Sg×Nat))):(vs=[.ref a1,.ref a2])->(mr H0 H a1 a2 ts1 ts2 ws ms)->(Ix ts1 ts2 ws ms)->(0<ts1.length)->(0<ts2.length)->((∀(P:List bm) (H':Hp),qk ms ws P->h_ ms ws P.length=(P,none)->P.length<=ts1.length * ts2.length->(∀c∈P,kD ms ws P c)->mr H0 H' a1 a2 ts1 ts2 ws ms->Q .non H'))->(∀(P:List bm) (i:Nat) (c:bm) (p:Sg×Nat) (sb t lst:Addr) (gs:Ze) (H':Hp),qk ms ws P->(h_ ms ws (i+1)).2=some (c.story,p.1)->i<ts1.length * ts2.length->P[i]?=some c->(∀(j:Nat) (c':bm),j<i->P[j]?=some c'->kD ms ws P c')->p∈ms.getD c.key.2 []->bF (ws.getD c.key.1 []) p.1=none->p.1.head?≠some ("ask":Str)->H' t=some (.tup [.ref lst,.ref sb])->H' lst=some (.lst (gs.map V.ref))->Paired (fun g (sg:Sg)=>bT K H' g (sg.map V.str)) gs c.story->bT K H' sb (p.1.map V.str)->H0 t=none->H0 lst=none->mr H0 H' a1 a2 ts1 ts2 ws ms->Q (.ref t) H')->gS K vs H Q E
theorem uv {K:Za}{vs:List V}{H:Hp}{Q:VK}{E:XK}(h:gS K vs H Q E):t9 K (fC K) (bC Q) (start uH vs) H:=by
 obtain ⟨H0,a1,a2,ts1,ts2,ws,ms,rfl,I,C,z1,z2,kn,kf⟩:=h;have l2:([V.int 0,V.int 0]:List V).length<=ai:=by show 2<=ai; decide
 refine fun cd hcd=>⟨l2,fun p0 hp0=>?_⟩;have S1:ac H (upd H cd (.dT [])):=ac.new hcd;have S2:ac (upd H cd (.dT [])) (upd (upd H cd (.dT [])) p0 (.tup [.int 0,.int 0])):=ac.new hp0;have cd2:=S2 _ _ (aa (H:=H) (a:=cd) (o:=.dT []));have pr2:lH (upd (upd H cd (.dT [])) p0 (.tup [.int 0,.int 0])) p0 (0,0):=aa;have I2:=I.same (S1.trans S2);have c0:H0 cd=none:=I.S.free hcd;have nc:∀{ts:Ze}{st:List (List (Sg×Nat))},zC H0 H ts st->∀t∈ts,t≠cd:=fun r=>zC.ne r fun k q=>by
  rcases q with q | ⟨o,q⟩
  ·rw [hcd] at q; cases q
  ·rw [hcd] at q; cases q
 have nc1:=nc I.r1;have nc2:=nc I.r2;have na1:a1≠cd:=ae I.h1 hcd;have na2:a2≠cd:=ae I.h2 hcd;generalize upd (upd H cd (.dT [])) p0 (.tup [.int 0,.int 0])=H2 at cd2 pr2 I2 ⊢;refine ⟨cd2,p0,nO (0,0),rfl,cN.c 8 (fH _) pr2.tk,fH _,?_⟩;have I3:=I2.own (o:=.dT [(nO (0,0),.non)]) c0 na1 na2 nc1 nc2;have cd3:upd H2 cd (.dT [(nO (0,0),.non)]) cd=some (.dT [(nO (0,0),.non)]):=aa;generalize upd H2 cd (.dT [(nO (0,0),.non)])=H3 at I3 cd3 ⊢;refine ⟨l2,fun p1 hp1=>⟨(by show 1<=ai; decide),fun pl hpl=>?_⟩⟩;have S4:ac H3 (upd H3 p1 (.tup [.int 0,.int 0])):=ac.new hp1;have pr4:lH (upd H3 p1 (.tup [.int 0,.int 0])) p1 (0,0):=aa;generalize upd H3 p1 (.tup [.int 0,.int 0])=H4 at S4 pr4 hpl ⊢;have S5:ac H4 (upd H4 pl (.lst [.ref p1])):=ac.new hpl;have pl5:upd H4 pl (.lst [.ref p1]) pl=some (.lst (([p1]:Ze).map V.ref)):=aa;have I5:=(I3.same S4).same S5;have A5:ip K H0 (upd H4 pl (.lst [.ref p1])) a1 a2 cd pl ts1 ts2 [p1] [(nO (0,0),.non)] ws ms [⟨(0,0),none,[]⟩]:=by
  refine ⟨I5,S5 _ _ (S4 _ _ cd3),.cons ⟨rfl,rfl⟩ .nil,pl5,.cons (S5 _ _ pr4) .nil,Dk ms ws,fun c hc=>?_,c0,(I3.same S4).S.free hpl,nc1,nc2,ae (I3.same S4).h1 hpl,ae (I3.same S4).h2 hpl⟩;rw [cC.1 hc]; exact ⟨z1,z2⟩
 generalize upd H4 pl (.lst [.ref p1])=H5 at A5 ⊢;clear S1 S2 cd2 pr2 I2 I3 cd3 S4 pr4 S5 pl5 I5;refine ⟨fun m σ H'=>∃(n:Nat) (P:List bm) (prs:Ze) (kvs:List (TK×V)) (x5 x6 x7 x8:Option V),m=70000-n/\n<=P.length/\σ=[some (.ref a1),some (.ref a2),some (.ref cd),some (.ref pl),some (.int (n:Int)),x5,x6,x7,x8]/\ip K H0 H' a1 a2 cd pl ts1 ts2 prs kvs ws ms P/\h_ ms ws n=(P,none)/\∀(j:Nat) (c:bm),j<n->P[j]?=some c->kD ms ws P c,
  ⟨70000,0,_,_,_,_,_,_,_,rfl,c9 _,rfl,A5,rfl,fun j c hj=>by omega⟩,?_⟩
 rintro m σ H6 ⟨n,P,prs,kvs,x5,x6,x7,x8,rfl,hn,rfl,A,eit,rows⟩;have few:=A.few C.z1 C.z2;have few2:=A.few2;refine ⟨_,rfl,_,rfl,.inl ⟨pl,_,rfl,.inl (aA.of A.hpl),_,_,rfl,rfl,_,rfl,?_⟩⟩;have zp:(prs.map V.ref).length=P.length:=by rw [aj,Paired.length A.hprs]
 refine C9 (P:=n<P.length) (by rw [zp]; simp) (fun lt=>?_) (fun ge=>?_);rotate_left
 ·have e:n=P.length:=by omega
  refine kn P H6 A.ok (by rw [<-e]; exact eit) few2 (fun c hc=>?_) A.i;obtain ⟨j,hj,ej⟩:=vD hc;exact rows j c (by omega) (by rw [bX hj,ej])
 have hb:P[n]?=some P[n]:=bX lt;obtain ⟨ha,eha,hha⟩:=Paired.get A.hprs hb;have hrg:=A.rg P[n] (jh _);generalize P[n]=b at hb hha hrg;have ath:oY (prs.map V.ref) n=some (.ref ha):=bI (by rw [b0,eha]; rfl);have ewd:ts1[b.key.1]?=some ts1[b.key.1]:=bX hrg.1;have emd:ts2[b.key.2]?=some ts2[b.key.2]:=bX hrg.2;have atw:oY (ts1.map V.ref) (b.key.1:Nat)=some (.ref ts1[b.key.1]):=bI (by rw [b0,ewd]; rfl);have atm:oY (ts2.map V.ref) (b.key.2:Nat)=some (.ref ts2[b.key.2]):=bI (by rw [b0,emd]; rfl);generalize ts1[b.key.1]=wd at ewd atw;generalize ts2[b.key.2]=md at emd atm;have ncm:md≠cd:=A.nc2 md (bd emd);refine ⟨fun σ' H'=>∃m',m'<70000-n/\∃(n:Nat) (P:List bm) (prs:Ze) (kvs:List (TK×V)) (x5 x6 x7 x8:Option V),m'=70000-n/\n<=P.length/\σ'=[some (.ref a1),some (.ref a2),some (.ref cd),some (.ref pl),some (.int (n:Int)),x5,x6,x7,x8]/\ip K H0 H' a1 a2 cd pl ts1 ts2 prs kvs ws ms P/\h_ ms ws n=(P,none)/\∀(j:Nat) (c:bm),j<n->P[j]?=some c->kD ms ws P c,fun σ' H' h=>h,?_⟩;refine ⟨_,rfl,_,rfl,pl,_,_,_,rfl,rfl,aA.of A.hpl,ath,?_⟩;refine ⟨_,rfl,_,_,rfl,rfl,?_⟩;refine ⟨_,rfl,_,rfl,ha,_,0,_,rfl,rfl,bj.of hha,bI (j:=0) rfl,a1,_,_,_,rfl,rfl,aA.of A.i.h1,atw,?_⟩;refine ⟨_,rfl,_,rfl,ha,_,1,_,rfl,rfl,bj.of hha,bI (j:=1) rfl,a2,_,_,_,rfl,rfl,aA.of A.i.h2,atm,md,stK (ms.getD b.key.2 []),rfl,?_⟩;obtain ⟨md0,hmd⟩:=zC.rd A.i.r2 emd;have up:∀{P':List bm},(∃r,P'=P++r)->(∀(j:Nat) (c:bm),j<n->P'[j]?=some c->kD ms ws P' c)/\P'[n]?=some b/\n+1<=P'.length:=by
  rintro P' ⟨r,rfl⟩;refine ⟨fun j c hj hc=>?_,by rw [eX lt]; exact hb,by rw [aM]; omega⟩;rw [eX (by omega)] at hc;exact (rows j c hj hc).mono
 have fin:∀{H7:Hp}{o:Obj},ip K H0 H7 a1 a2 cd pl ts1 ts2 prs kvs ws ms P->lH H7 ha b.key->H7 md=some (.frz o (.dT (stK (ms.getD b.key.2 []))))->Ia (GL md o (.dT (stK (ms.getD b.key.2 []))) (stK (ms.getD b.key.2 [])).length (AC K (stK (ms.getD b.key.2 [])))) (fW K 2 (aR U7 (aR U8 (fI)))) (At K (fC K)) { nx:=fun σ' H'=>∃m',m'<70000-n/\∃(n:Nat) (P:List bm) (prs:Ze) (kvs:List (TK×V)) (x5 x6 x7 x8:Option V),m'=70000-n/\n<=P.length/\σ'=[some (.ref a1),some (.ref a2),some (.ref cd),some (.ref pl),some (.int (n:Int)),x5,x6,x7,x8]/\ip K H0 H' a1 a2 cd pl ts1 ts2 prs kvs ws ms P/\h_ ms ws n=(P,none)/\∀(j:Nat) (c:bm),j<n->P[j]?=some c->kD ms ws P c,rt:=Q,ct:=fun σ' H'=>∃m',m'<70000-n/\∃(n:Nat) (P:List bm) (prs:Ze) (kvs:List (TK×V)) (x5 x6 x7 x8:Option V),m'=70000-n/\n<=P.length/\σ'=[some (.ref a1),some (.ref a2),some (.ref cd),some (.ref pl),some (.int (n:Int)),x5,x6,x7,x8]/\ip K H0 H' a1 a2 cd pl ts1 ts2 prs kvs ws ms P/\h_ ms ws n=(P,none)/\∀(j:Nat) (c:bm),j<n->P[j]?=some c->kD ms ws P c,bk:=fun σ H'=>aT (tC .non) (bC Q) σ H' } [some (.ref a1),some (.ref a2),some (.ref cd),some (.ref pl),some (.int ((n:Int)+1)),some (.ref ha),some (.ref wd),x7,x8] H7:=by
  intro H7 o A7 ha7 md7;refine Hi C A7 hb ha7 ewd emd md7 ?_ ?_
  ·intro P' p sb t lst gs H2 ok' ex fr f0 f1 f2 f3 f4 f5 f6 f7 f8 f9;obtain ⟨u1,u2,_⟩:=up ex;exact kf P' n b p sb t lst gs H2 ok' (by rw [yL eit hb,fr]; rfl) (by omega) u2 u1 f0 f1 f2 f3 f4 f5 f6 f7 f8 f9
  ·intro P' prs' kvs' x7 x8 H2 ex fr ro A';obtain ⟨u1,u2,u3⟩:=up ex;refine ⟨70000-(n+1),by omega,n+1,P',prs',kvs',_,_,x7,x8,rfl,u3,by rw [show ((n+1:Nat):Int)=(n:Int)+1 from by omega],A',by rw [yL eit hb,fr]; rfl,fun j c hj hc=>?_⟩;rcases iD j n with z | z
   ·exact u1 j c z hc
   ·have:j=n:=by omega
    subst this;rw [u2] at hc;injection hc with hc;subst hc;exact ro
 rcases hmd with e | ⟨o,e⟩
 ·exact .inl ⟨e,fun o=>fin (A.frz md0 e ncm) (BP e _ _ hha) aa⟩
 ·exact .inr ⟨o,e,fin A hha e⟩
def yv:Option Nat->V
 | none=>.non
 | some n=>.int (n:Nat)
def dw (fc:Nat) (st:List (Sg×Nat)) (d:am):List (Str×Option Nat) :=
 if d.sg=av then [(d.b,some fc)] else if (bF st d.sg).isSome=true∨d.sg.head?=some ("say":Str) then [(d.b,bF st d.sg)] else []
def sN (J2:Zb) (ds:List am) (room:Str) (fc:Nat) (st:List (Sg×Nat)):List (Str×Option Nat) :=
 (bv ds room).flatMap (dw fc st)++if room∈J2.filter (e_ ds) then [(room,bF st bP)] else []
abbrev iR (H:Hp) (us:Ze) (L:List (Str×Option Nat)):Prop:=Paired (fun u (r:Str×Option Nat)=>H u=some (.tup [.str r.1,yv r.2])) us L
theorem iR.kt {H H':Hp}{us:Ze}{L:List (Str×Option Nat)}(k:gJ H H') (h:iR H us L):iR H' us L:=Paired.mapP h fun _ _ r=>k _ _ r
theorem w6 (fc:Nat) (st:List (Sg×Nat)) (d:am):(dw fc st d).length<=1:=by
 unfold dw;split
 ·exact aG _
 ·split
  ·exact aG _
  ·exact c9 _
theorem sM (fc:Nat) (st:List (Sg×Nat)):∀L:List am,(L.flatMap (dw fc st)).length<=L.length
 | []=>aG _
 | d::L=>by
  rw [vB,aM,dP];have:=w6 fc st d;have:=sM fc st L;omega
inductive n_ (K:Za) (C:Addr) (vs:List V) (H:Hp) (Q:VK) (E:XK):Prop
 | mk (x sd:Addr) (room:Str) (fc:Nat) (st:List (Sg×Nat)) (J0 J1 J2:Zb) (ds:List am):(vs=[.ref x,.str room,.int (fc:Nat),.ref sd])->(bB C H x J0 J1 J2 ds)->(room∈J2)->(Rd H sd (.dT (stK st)))->(∀(l:Addr) (us:Ze) (H':Hp),H' l=some (.lst (us.map V.ref))->iR H' us (sN J2 ds room fc st)->H l=none->ac H H'->Q (.ref l) H')->n_ K C vs H Q E
theorem yu {l:List (Sg×Nat)}{sg:Sg}:((bF l sg).map fun n=>V.int (n:Nat)).getD .non=yv (bF l sg):=by
 cases bF l sg <;> rfl
theorem DY {K:Za}{C hu sa:Addr}(hh:∀H,bj K H hu (bP.map V.str)) (hs:∀H,bj K H sa (av.map V.str)) {vs:List V}{H:Hp}{Q:VK}{E:XK}(h:n_ K C vs H Q E):t5 K C (g6 C) hu (gV C) sa (bC Q) (start uE vs) H:=by
 obtain ⟨x,sd,room,fc,st,J0,J1,J2,ds,rfl,M,hr,hsd,k⟩:=h;have z4:=M.ok.few;refine ⟨(by show 0<=ai; decide),fun l hl=>?_⟩;have S0:ac H (upd H l (.lst [])):=ac.new hl;obtain ⟨dx,fs,o1,o2,lv,lps,g1,a1,a2,a3,a4,_⟩:=m9 (M.same S0);refine ⟨_,rfl,x,dx,fs,rfl,g1,a3,_,rfl,x,room,J0,J1,J2,ds,rfl,M.same S0,hr,fun dl du H1 hdl hD hdl0 S1=>⟨dl,rfl,⟨_,aA.of hdl⟩,?_⟩⟩;have lz:(bv ds room).length<=1000:=bH (dC _ _) (by omega);have ndl:dl≠l:=fun z=>by rw [z,aa] at hdl0; cases hdl0
 refine cr (xs:=du.map V.ref) (fun i σ H'=>∃(us:Ze) (x5 x6 x7:Option V),σ=[some (.ref x),some (.str room),some (.int (fc:Nat)),some (.ref sd),some (.ref l),x5,x6,x7]/\H' l=some (.lst (us.map V.ref))/\iR H' us (((bv ds room).take i).flatMap (dw fc st))/\ac H H'/\∀b o,H1 b=some o->b≠l->H' b=some o)
  ⟨[],_,_,_,rfl,S1 _ _ aa,.nil,S0.trans S1,fun _ _ e _=>e⟩ (fun i σ H' _ ⟨_,_,_,_,_,_,_,_,e⟩=>aA.of (e _ _ hdl ndl)) ?_ ?_
 ·rintro i y σ H2 hi ⟨us,x5,x6,x7,rfl,hl2,hR,S2,e2⟩;obtain ⟨u,hu',rfl⟩:=dq hi;obtain ⟨d,hd,hat⟩:=Paired.getL hD hu';have k12:gJ H1 H2:=fun b xs e=>e2 _ _ e fun z=>by have:=S1 _ _ (aa (H:=H) (a:=l) (o:=.lst [])); rw [<-z,e] at this; cases this
  obtain ⟨sb,ht2,hs2⟩:=hat.kt k12;have hgood:=M.ok.good d (cx.1 (bd hd)).1;obtain ⟨s0,rest,hsg,_⟩:=pQ hgood;have il:i<(bv ds room).length:=(cw.mp hd).1;have ul:us.length<=1000:=by
   rw [Paired.length hR];refine bH (sM fc st _) ?_;rw [aK]; omega
  have sd2:Rd H2 sd (.dT (stK st)):=Rd.same S2 hsd;have row:∀{H3:Hp}(r:Str×Option Nat) (p:Addr),ac H2 H3->H3 p=none->dw fc st d=[r]->∃(us':Ze) (x5 x6 x7:Option V),([some (.ref x),some (.str room),some (.int (fc:Nat)),some (.ref sd),some (.ref l),some (.str d.a),some (.ref sb),some (.str d.b)]:L2.St)=[some (.ref x),some (.str room),some (.int (fc:Nat)),some (.ref sd),some (.ref l),x5,x6,x7]/\upd (upd H3 p (.tup [.str r.1,yv r.2])) l (.lst (us.map V.ref++[.ref p])) l=some (.lst (us'.map V.ref))/\iR (upd (upd H3 p (.tup [.str r.1,yv r.2])) l (.lst (us.map V.ref++[.ref p]))) us' (((bv ds room).take (i+1)).flatMap (dw fc st))/\ac H (upd (upd H3 p (.tup [.str r.1,yv r.2])) l (.lst (us.map V.ref++[.ref p])))/\∀b o,H1 b=some o->b≠l->upd (upd H3 p (.tup [.str r.1,yv r.2])) l (.lst (us.map V.ref++[.ref p])) b=some o:=by
   intro H3 r p S3 hp er;have hk:gJ H2 (upd (upd H3 p (.tup [.str r.1,yv r.2])) l (.lst (us.map V.ref++[.ref p]))):=((ac.kt S3).trans (ac.kt (ac.new hp))).trans (cA (kp (S3 _ _ hl2) hp));refine ⟨us++[p],_,_,_,rfl,by rw [aa,ax]; rfl,?_,fun b o e=>by rw [af (ae e hl)]; exact kp (S3 _ _ (S2 _ _ e)) hp,fun b o e nb=>by rw [af nb]; exact kp (S3 _ _ (e2 _ _ e nb)) hp⟩;rw [take_snoc hd,vF,vB,er];refine cD (iR.kt hk hR) ?_;rw [af (ae (S3 _ _ hl2) hp).symm];exact aa
  refine ⟨u,_,rfl,bj.of ht2,rfl,_,_,rfl,_,_,rfl,_,_,rfl,rfl,?_⟩;refine ⟨_,rfl,kK d.sg,kK av,bN (bj.of hs2),bN (hs H2),by rw [cz]; decide,by rw [cz]; decide,_,rfl,?_⟩;rw [lX];refine C9 (P:=d.sg=av) (by simp) (fun c=>?_) (fun c=>?_)
  ·refine ⟨_,rfl,.inl ⟨rfl,_,aA.of hl2⟩,_,rfl,_,rfl,(by show 2<=ai; decide),fun p hp=>⟨l,_,.ref p,rfl,rfl,kp hl2 hp,by rw [aj]; exact ap ul,?_⟩⟩;exact row (d.b,some fc) p (.refl _) hp (by unfold dw; rw [if_pos c])
  ·have gd:j_ K H2 sd (.ref sb) ((bF st d.sg).map fun n=>V.int (n:Nat)):=.inr ⟨_,iX d.sg,sb,sd2,rfl,we (.inl hs2),dX _,pZ.symm⟩;have isd:Iz H2 sd:=.inr ⟨_,sd2⟩;have at0:oY (d.sg.map V.str) 0=some (.str s0):=by rw [hsg]; exact bI (j:=0) rfl
   have put:(bF st d.sg).isSome=true∨d.sg.head?=some ("say":Str)->bE (pN K "list" bY V4 (aw (aZ (aB V7 (wz K V3 V6))))) { nx:=fun σ H'=>∃(us:Ze) (x5 x6 x7:Option V),σ=[some (.ref x),some (.str room),some (.int (fc:Nat)),some (.ref sd),some (.ref l),x5,x6,x7]/\H' l=some (.lst (us.map V.ref))/\iR H' us (((bv ds room).take (i+1)).flatMap (dw fc st))/\ac H H'/\∀b o,H1 b=some o->b≠l->H' b=some o,rt:=Q } [some (.ref x),some (.str room),some (.int (fc:Nat)),some (.ref sd),some (.ref l),some (.str d.a),some (.ref sb),some (.str d.b)] H2:=by
    intro cc;refine ⟨_,rfl,.inl ⟨rfl,_,aA.of hl2⟩,_,rfl,_,rfl,sd,rfl,isd,_,rfl,_,gd,?_⟩;rw [yu];refine ⟨(by show 2<=ai; decide),fun p hp=>⟨l,_,.ref p,rfl,rfl,kp hl2 hp,by rw [aj]; exact ap ul,?_⟩⟩;exact row (d.b,bF st d.sg) p (.refl _) hp (by unfold dw; rw [if_neg c,if_pos cc])
   refine ⟨_,rfl,_,rfl,sd,_,rfl,gd,_,rfl,?_⟩;cases hv:bF st d.sg with
   | some w=>exact bW (bW (put (.inl (by rw [hv]; rfl))))
   | none =>
    refine a_ ?_;refine ⟨_,rfl,sb,_,0,_,rfl,rfl,bj.of hs2,at0,rfl,_,rfl,?_⟩;refine C9 (P:=d.sg.head?=some ("say":Str)) (by rw [hsg]; simp) (fun c2=>put (.inr c2)) (fun c2=>?_);refine ⟨us,_,_,_,rfl,hl2,?_,S2,e2⟩;have er:dw fc st d=[]:=by
     unfold dw;rw [if_neg c,if_neg];rintro (z | z)
     ·rw [hv] at z; cases z
     ·exact c2 z
    rw [take_snoc hd,vF,vB,er];simpa using hR
 ·rintro σ H2 ⟨us,x5,x6,x7,rfl,hl2,hR,S2,e2⟩;rw [aj,Paired.length hD,aX] at hR;have M2:=M.same S2;obtain ⟨dx,fs,o1,o2,lv,lps,g1,a1,a2,a3,a4,_⟩:=m9 M2;have ul:us.length<=1000:=by
   rw [Paired.length hR];exact bH (sM fc st _) lz
  have sd2:Rd H2 sd (.dT (stK st)):=Rd.same S2 hsd;refine ⟨_,rfl,x,dx,fs,rfl,g1,a4,_,rfl,x,room,J0,J1,J2,ds,rfl,M2,_,rfl,?_⟩;refine C9 (P:=room∈J2.filter (e_ ds)) (by simp) (fun c=>?_) (fun c=>?_)
  ·have gd:j_ K H2 sd (.ref hu) ((bF st bP).map fun n=>V.int (n:Nat)):=.inr ⟨_,iX bP,hu,sd2,rfl,we (Bn hh H2),dX _,pZ.symm⟩;refine ⟨_,rfl,.inl ⟨rfl,_,aA.of hl2⟩,_,rfl,_,rfl,sd,rfl,.inr ⟨_,sd2⟩,_,gd,?_⟩;rw [yu];refine ⟨(by show 2<=ai; decide),fun p hp=>⟨l,_,.ref p,rfl,rfl,kp hl2 hp,by rw [aj]; exact ap ul,?_⟩⟩;have hk:gJ H2 (upd (upd H2 p (.tup [.str room,yv (bF st bP)])) l (.lst (us.map V.ref++[.ref p]))):=(ac.kt (ac.new hp)).trans (cA (kp hl2 hp));refine ⟨_,rfl,k l (us++[p]) _ (by rw [aa,ax]; rfl) ?_ hl fun b o e=>by rw [af (ae e hl)]; exact kp (S2 _ _ e) hp⟩;unfold sN;rw [if_pos c];refine cD (iR.kt hk hR) ?_;rw [af (ae hl2 hp).symm];exact aa
  ·refine ⟨_,rfl,k l us H2 hl2 ?_ hl S2⟩;unfold sN;rw [if_neg c,fK];exact hR
def Fk (ds:List am) (f:Zb):Prop:=∀d∈ds,d.sg=av->d.a∈f->d.b∈f
theorem uY {J2 gs:Zb}{ds:List am}(hb:∀d∈ds,d.b∈J2):Fk ds (closF J2 ds gs):=by
 classical
 intro d hd hs ha;unfold closF at ha ⊢;rw [cx] at ha ⊢;obtain ⟨a,sg,b⟩:=d;have hs:sg=av:=hs;subst hs;exact ⟨hb _ hd,zzr1 (gK.step (of_decide_eq_true ha.2) hd)⟩
theorem DR {J2 f sg:Zb}{ds:List am}(hb:∀d∈ds,d.b∈J2):Fk ds (behF J2 ds f sg):=by
 unfold behF;split
 ·intro d hd hs ha;have h:=of_decide_eq_true (cx.1 ha).2;refine absurd (aD.2 ⟨d,cx.2 ⟨hd,?_⟩,rfl⟩) h;unfold fU;rw [hs]
  decide
 ·exact uY hb
theorem Ew {s:List Sg}{m:gl}(L:List (Sg×List Str)):∀f∈(eC s m L).1.fs,f∈m.fs∨∃p∈L,f=p.2:=by
 have key:∀n,n<=L.length->∀f∈(eC s m (L.take n)).1.fs,f∈m.fs∨∃p∈L,f=p.2:=by
  intro n
  induction n with
  | zero=>intro _ f hf; exact .inl hf
  | succ n ih =>
   intro hn f hf;have hp:L[n]?=some L[n]:=bX (by omega);rw [take_snoc hp,jH] at hf;have hf:f∈((eC s m (L.take n)).1.add L[n].2 (s++[L[n].1])).fs:=hf;by_cases c:L[n].2∈(eC s m (L.take n)).1.fs
   ·rw [gl.add_in c] at hf;exact ih (by omega) f hf
   ·rw [gl.add_new c] at hf;rcases bx.1 hf with hf | hf
    ·exact ih (by omega) f hf
    ·exact .inr ⟨L[n],jh _,cC.1 hf⟩
 have:=key L.length (aG _);rw [aX] at this;exact this
theorem Br {J0 J1 J2:Zb}{ds:List am}(hb:∀d∈ds,d.b∈J2):∀k,∀f∈(itF J0 J1 J2 ds k).1.fs,Fk ds f
 | 0,f,hf=>by
  have e:(⟨[],[]⟩:gl).add (closF J2 ds (J2.take 1)) []=⟨[closF J2 ds (J2.take 1)],[[]]⟩:=gl.add_new (fun z=>nomatch z);have hf:f∈((⟨[],[]⟩:gl).add (closF J2 ds (J2.take 1)) []).fs:=hf;rw [e] at hf;rw [cC.1 hf];exact uY hb
 | k+1,f,hf=>by
  rcases Ew _ f hf with h | ⟨p,hp,rfl⟩
  ·exact Br hb k f h
  ·obtain ⟨sg,_,rfl⟩:=aD.1 (cx.1 hp).1;exact DR hb
theorem EQ {J2 f:Zb}{ds:List am}{d:am}(hd:d∈ds) (hr:d.b∈J2) (ha:d.a∈f) (hn:d.sg≠bP):d.b∈behF J2 ds f d.sg:=by
 classical
 unfold behF;rw [if_neg hn];unfold closF;refine cx.2 ⟨hr,zzr1 ⟨d.b,?_,.inl rfl⟩⟩;unfold cZ;rw [rO];refine ⟨d.a,ha,?_⟩;unfold bh;exact aD.2 ⟨d,cx.2 ⟨hd,zzr1 ⟨rfl,rfl⟩⟩,rfl⟩
def vA (P:List bm) (SI:qj) (room:Str) (num:Nat):Prop:=∃c∈P,c.key.1=num/\∃F,SI.1.fs[c.key.2]?=some F/\room∈F
section
variable {J0 J1 J2:Zb}{ds:List am}{SI:qj}{ws:List (List (Sg×Nat))}{P:List bm}(m:aQ J0 J1 J2 ds) (ok:qi J0 J1 J2 ds SI) (le:SI.2.length=SI.1.fs.length) (ro:∀c∈P,kD SI.2 ws P c)
include m ok le ro
theorem ya {c:bm}(hc:c∈P) {F:Zb}(hF:SI.1.fs[c.key.2]?=some F) {sg:Sg}(hs:sg∈ay J0 J1) {r:Str}(hr:r∈behF J2 ds F sg) :
  (bF (ws.getD c.key.1 []) sg=none->sg.head?=some ("ask":Str))/\∀w,bF (ws.getD c.key.1 []) sg=some w->vA P SI r w:=by
 have lt:c.key.2<SI.2.length:=by
  rw [le];rcases iD c.key.2 SI.1.fs.length with z | z
  ·exact z
  ·rw [eV z] at hF; cases hF
 have hl:SI.2[c.key.2]?=some SI.2[c.key.2]:=bX lt;obtain ⟨f,hf,pr⟩:=ok.st _ _ hl;rw [hF] at hf;injection hf with hf;subst hf;have hm:(sg,behF J2 ds F sg)∈stepsF J0 J1 J2 ds F:=cx.2 ⟨aD.2 ⟨sg,hs,rfl⟩,zzr1 fun z=>by rw [show behF J2 ds F sg=[] from z] at hr; cases hr⟩;obtain ⟨k,hk,ek⟩:=vD hm;obtain ⟨a,ha,e1,e2⟩:=Paired.get pr (i:=k) (y:=(sg,behF J2 ds F sg)) (by rw [bX hk,ek]);have hp:a∈SI.2.getD c.key.2 []:=by
  rw [rL,hl];exact bd ha
 have row:=ro c hc a hp;rw [e1] at row;constructor
 ·intro z;rw [show bF (ws.getD c.key.1 []) (sg,behF J2 ds F sg).1=none from z] at row;exact row
 ·intro w z;rw [show bF (ws.getD c.key.1 []) (sg,behF J2 ds F sg).1=some w from z] at row;obtain ⟨c',hc',ec⟩:=aD.1 (lA.1 row);exact ⟨c',hc',by rw [ec],behF J2 ds F sg,by rw [ec]; exact e2,hr⟩
theorem FO (sh:∀f∈SI.1.fs,Fk ds f) {room:Str}{num:Nat}(h:vA P SI room num):∀r∈sN J2 ds room num (ws.getD num []),∃n',r.2=some n'/\vA P SI r.1 n':=by
 obtain ⟨c,hc,rfl,F,hF,hroom⟩:=h;intro r hr;unfold sN at hr;rcases bx.1 hr with hr | hr
 ·obtain ⟨d,hd,hrd⟩:=rO.1 hr;have hd1:d∈ds:=(cx.1 hd).1;have hda:d.a=room:=of_decide_eq_true (cx.1 hd).2;have good:=m.good d hd1;unfold dw at hrd;split at hrd
  ·rename_i c1;rw [cC.1 hrd];exact ⟨_,rfl,c,hc,rfl,F,hF,sh F (bd hF) d hd1 c1 (by rw [hda]; exact hroom)⟩
  ·rename_i c1;split at hrd
   ·rename_i c2;rw [cC.1 hrd];have hsg:d.sg∈ay J0 J1/\d.sg≠bP:=by
     unfold ay;rcases good.sg with ⟨w,hw,e⟩ | ⟨w,hw,e⟩ | e
     ·exact ⟨dh _ (dh _ (aD.2 ⟨w,hw,e.symm⟩)),by rw [e]; unfold bP; intro z; injection z with _ z; cases z⟩
     ·exact ⟨dh _ (dz _ (aD.2 ⟨w,hw,e.symm⟩)),by rw [e]; unfold bP; intro z; injection z with _ z; cases z⟩
     ·exact absurd e c1
    obtain ⟨s1,s2⟩:=ya m ok le ro hc hF hsg.1 (EQ hd1 good.b (by rw [hda]; exact hroom) hsg.2);cases e:bF (ws.getD c.key.1 []) d.sg with
    | some w=>exact ⟨w,rfl,s2 w e⟩
    | none =>
     have h1:=s1 e;rcases c2 with z | z
     ·rw [e] at z; cases z
     ·rw [h1] at z; exact absurd z (by decide)
   ·cases hrd
 ·split at hr
  ·rename_i q;rw [cC.1 hr];have hq:=(cx.1 q).2;rw [sS] at hq;have hb:room∈behF J2 ds F bP:=by
    unfold behF;rw [if_pos rfl];exact cx.2 ⟨hroom,hq⟩
   obtain ⟨s1,s2⟩:=ya m ok le ro hc hF (sg:=bP) (by unfold ay; exact dz _ eg) hb;cases e:bF (ws.getD c.key.1 []) bP with
   | some w=>exact ⟨w,rfl,s2 w e⟩
   | none=>exact absurd (s1 e) (by decide)
  ·cases hr
end
theorem Dj {k:Nat}{fi:List Nat}{d l:Addr}{o:Obj}{u:HO}{n:Nat}{ent:Nat->Hp->V->V->Prop}{g:TG}{tc:TT}{te:TE}{σ:L2.St}{H1:Hp}{Q:Hp->Prop}(Pv:Nat->List V->Hp->Prop) (h0:Pv 0 [] (upd H1 l (.lst [])))
  (hl:∀i vs H,i<=n->Pv i vs H->H l=some (.lst vs)/\H d=some (.frz o u)) (hd:∀vs H,Pv n vs H->Q H)
  (hs:∀i vs H a b,i<n->Pv i vs H->ent i H a b->g a (dF k fi σ) H fun σ2 H4=>tc σ2 H4 fun b H5 =>
   if b=true then te σ2 H5 fun v H6=>H6 l=some (.lst vs)/\vs.length<ai/\∃m',m'<n-i/\Wc n Pv (i+1) m' (vs++[v]) (upd H6 l (.lst (vs++[v]))) else ∃m',m'<n-i/\Wc n Pv (i+1) m' vs H5) :
  ga k fi σ (HZ d o u n ent) g tc te H1 l Q:=by
 refine lF n Pv h0 (fun i vs H hi p=>(hl i vs H hi p).1) (fun i vs H hi p=>⟨(hl i vs H (em hi) p).2,hi⟩) (fun vs H p=>⟨⟨(hl n vs H (aG _) p).2,aG _⟩,hd vs H p⟩) fun i vs H x H3 hi p y=>?_;obtain ⟨rfl,b,en⟩:=y;exact hs i vs _ x b hi p en
abbrev Row:=Str×Nat
def pS (r:Row):TK:=.t [.k (.inr r.1),.k (.inl (r.2:Int))]
theorem FZ {a b:Row}(h:pS a=pS b):a=b:=by
 unfold pS at h;injection h with h;injection h with h1 h2;injection h2 with h2 _;injection h1 with h1;injection h2 with h2;injection h1 with h1;injection h2 with h2;obtain ⟨a1,a2⟩:=a;obtain ⟨b1,b2⟩:=b;simp only at h1 h2;rw [h1,show a2=b2 by omega]
theorem iA (k:Row):(pS k).depth<=8:=by
 show max 0 (max 0 0)+1<=8
 decide
abbrev tN (H:Hp) (a:Addr) (k:Row):Prop:=H a=some (.tup [.str k.1,.int (k.2:Nat)])
theorem tN.tk {H:Hp}{a:Addr}{k:Row}(h:tN H a k):cN H (pS k) (.ref a):=by
 unfold pS cN;refine ⟨a,_,rfl,h,?_⟩;unfold TKAts;refine ⟨_,_,rfl,?_,?_⟩
 ·unfold cN; rfl
 unfold TKAts;refine ⟨_,_,rfl,?_,?_⟩
 ·unfold cN; rfl
 unfold TKAts
 rfl
theorem FA {K:Za}{H:Hp}{k:Row}{a:V}(h:nA K H (pS k) a):∃b,a=.ref b/\bT K H b [.str k.1,.int (k.2:Nat)]:=by
 unfold pS nA at h;obtain ⟨b,xs,rfl,h1,h2⟩:=h;unfold TKCs at h2;obtain ⟨v,us,rfl,h3,h4⟩:=h2;unfold TKCs at h4;obtain ⟨v',us',rfl,h5,h6⟩:=h4;unfold TKCs at h6;unfold nA at h3 h5;subst h3 h5 h6;exact ⟨b,rfl,h1⟩
def tj (L:List Row):List (TK×V):=L.map fun r=>(pS r,.bl true)
theorem wQ (r:Row):∀L:List Row,(bJ (tj L) (pS r)).isSome=decide (r∈L)
 | []=>rfl
 | x::L=>by
  show (bJ ((pS x,V.bl true)::tj L) (pS r)).isSome=_;by_cases c:x=r
  ·rw [cp (by show pS x=pS r; rw [c])];simp [c]
  ·rw [cf (fun z=>c (FZ z)),wQ r L];simp [c_ c]
theorem yg {J2:Zb}{n:Nat}{L:List Row}(nd:L.Nodup) (h:∀r∈L,r.1∈J2/\r.2<n):L.length<=J2.length * n:=by
 have h1:=jI nd (R:=J2.flatMap fun x=>(jz n).map fun i=>(x,i)) fun r hr=>by
  obtain ⟨h2,h3⟩:=h r hr;exact rO.2 ⟨r.1,h2,aD.2 ⟨r.2,List.mem_range.2 h3,rfl⟩⟩
 have:∀l:List Str,(l.flatMap fun x=>(jz n).map fun i=>(x,i)).length=l.length * n:=by
  intro l
  induction l with
  | nil=>simp
  | cons x l ih=>rw [vB,aM,ih,aj,rY,dP,Nat.succ_mul]; omega
 rw [this] at h1;exact h1
structure RowP (J2:Zb) (ds:List am) (ws:List (List (Sg×Nat))) (n:Nat) (R:Row->Prop):Prop where
 rg:∀r,R r->r.1∈J2/\r.2<n
 next:∀r,R r->∀x∈sN J2 ds r.1 r.2 (ws.getD r.2 []),∃n',x.2=some n'/\R (x.1,n')
structure qZ (H0 H:Hp) (rd wl:Addr) (ps:Ze) (L W:List Row) (R:Row->Prop):Prop where
 hrd:H rd=some (.dT (tj L))
 hwl:H wl=some (.lst (ps.map V.ref))
 hps:Paired (fun a r=>tN H a r) ps W
 nd:L.Nodup
 all:∀r∈L,R r
 sub:∀r∈W,r∈L
 S:ac H0 H
 r0:H0 rd=none
 w0:H0 wl=none
theorem qZ.same {H0 H H':Hp}{rd wl:Addr}{ps:Ze}{L W:List Row}{R:Row->Prop}(h:qZ H0 H rd wl ps L W R) (S:ac H H'):qZ H0 H' rd wl ps L W R :=
 ⟨S _ _ h.hrd,S _ _ h.hwl,Paired.mapP h.hps fun _ _ r=>S _ _ r,h.nd,h.all,h.sub,h.S.trans S,h.r0,h.w0⟩
theorem qZ.add {H0 H:Hp}{rd wl u:Addr}{ps:Ze}{L W:List Row}{R:Row->Prop}(h:qZ H0 H rd wl ps L W R) {r:Row}(hu:tN H u r) (hn:¬r∈L) (hr:R r) :
  qZ H0 (upd (upd H rd (.dT (cq (tj L) (pS r) (.bl true)))) wl (.lst (ps.map V.ref++[.ref u]))) rd wl (ps++[u]) (L++[r]) (W++[r]) R:=by
 have nwr:wl≠rd:=fun z=>by have:=h.hwl; rw [z,h.hrd] at this; cases this
 have k1:gJ H (upd H rd (.dT (cq (tj L) (pS r) (.bl true)))):=BP h.hrd;have wl1:upd H rd (.dT (cq (tj L) (pS r) (.bl true))) wl=some (.lst (ps.map V.ref)):=by rw [af nwr]; exact h.hwl
 have k2:=k1.trans (cA (o:=.lst (ps.map V.ref++[.ref u])) wl1);have vn:bJ (tj L) (pS r)=none:=by
  have:=wQ r L;rw [zzr0 hn] at this;cases e:bJ (tj L) (pS r) with
  | none=>rfl
  | some v=>rw [e] at this; cases this
 refine ⟨?_,?_,cD (Paired.mapP h.hps fun _ _ q=>k2 _ _ q) (k2 _ _ hu),?_,?_,?_,?_,h.r0,h.w0⟩
 ·rw [af nwr.symm,aa,ff _ vn];unfold tj;rw [ax]; rfl
 ·rw [aa,ax]; rfl
 ·rw [cK];exact ⟨h.nd,by simp,fun a ha b hb e=>hn (by rw [<-cC.1 hb,<-e]; exact ha)⟩
 ·intro x hx;rcases bx.1 hx with hx | hx
  ·exact h.all x hx
  ·rw [cC.1 hx]; exact hr
 ·intro x hx;rcases bx.1 hx with hx | hx
  ·exact dh _ (h.sub x hx)
  ·exact dz _ hx
 ·intro b q e;rw [af (ae e h.w0),af (ae e h.r0)];exact h.S _ _ e
inductive jY (K:Za) (C Cm:Addr) (vs:List V) (H:Hp) (Q:VK) (E:XK):Prop
 | mk (H0:Hp) (mo I M fa sa na ta:Addr) (us ws' ts:Ze) (m:gl) (ws:List (List (Sg×Nat))) (J0 J1 J2:Zb) (ds:List am) (R:Row->Prop) (f0:Str):(vs=[.ref mo,.ref I])->(hU K C H mo M fa sa na ta us ws' m)->(H ta=some (.lst (ts.map V.ref)))->(zC H0 H ts ws)->(bB Cm H I J0 J1 J2 ds)->(RowP J2 ds ws ts.length R)->(ts.length=m.fs.length)->(ts.length<=256)->(J2[0]?=some f0)->(R (f0,0))->(∀(l:Addr) (ps:Ze) (L:List Row) (H':Hp),H' l=some (.lst (ps.map V.ref))->Paired (fun u (r:Row)=>∃ft f,H' u=some (.tup [.str r.1,.ref ft])/\m.fs[r.2]?=some f/\H' ft=some (.tup (f.map V.str))) ps L->L.Nodup->(∀r∈L,R r)->H l=none->ac H H'->Q (.ref l) H')->jY K C Cm vs H Q E
theorem Aa {K:Za}{C Cm:Addr}(c:FC K C) {vs:List V}{H:Hp}{Q:VK}{E:XK}(h:jY K C Cm vs H Q E):zN K (n_ K Cm) Cm (iJ Cm) (bC Q) (start AR vs) H:=by
 obtain ⟨H0,mo,I,M,fa,sa,na,ta,us,ws',ts,m,ws,J0,J1,J2,ds,R,f0,rfl,F,hta,st,MA,rp,zt,z256,hf0,hR0,k⟩:=h;have z3:=MA.ok.rooms26;obtain ⟨dx,fs,o1,o2,o3,o4,lv,qu,sg,sl,tt,lps,gps,sps,g1,a1,a2,a3,a4,_⟩:=MA.at_;have at0:oY (J2.map V.str) 0=some (.str f0):=bI (j:=0) (by rw [b0,hf0]; rfl);have lt0:=(rp.rg _ hR0).2;refine ⟨_,rfl,I,dx,fs,rfl,g1,a4,I,J0,J1,J2,ds,rfl,MA,fun rl hrl=>⟨rl,_,0,_,rfl,rfl,aA.of aa,at0,(by show 2<=ai; decide),fun p0 hp0=>?_⟩⟩;have S1:ac H (upd (upd H rl (.lst (J2.map V.str))) p0 (.tup [.str f0,.int 0])):=(ac.new hrl).trans (ac.new hp0);have r1:tN (upd (upd H rl (.lst (J2.map V.str))) p0 (.tup [.str f0,.int 0])) p0 (f0,0):=aa;generalize upd (upd H rl (.lst (J2.map V.str))) p0 (.tup [.str f0,.int 0])=H1 at S1 r1 ⊢;refine fun rd hrd=>⟨_,rfl,aa,p0,pS (f0,0),rfl,cN.c 8 (iA _) (tN.tk (kp r1 hrd)),iA _,?_⟩;have S2:ac H1 (upd (upd H1 rd (.dT [])) rd (.dT [(pS (f0,0),.bl true)])):=fun b o e=>by rw [af (ae e hrd)]; exact kp e hrd
 have rd2:upd (upd H1 rd (.dT [])) rd (.dT [(pS (f0,0),.bl true)]) rd=some (.dT (tj [(f0,0)])):=aa;generalize upd (upd H1 rd (.dT [])) rd (.dT [(pS (f0,0),.bl true)])=H2 at S2 rd2 ⊢;refine ⟨_,rfl,(by show 1<=ai; decide),fun wl hwl=>?_⟩;have S3:ac H2 (upd H2 wl (.lst [.ref p0])):=ac.new hwl;have A3:qZ H (upd H2 wl (.lst [.ref p0])) rd wl [p0] [(f0,0)] [(f0,0)] R :=
  ⟨S3 _ _ rd2,aa,.cons (S3 _ _ (S2 _ _ r1)) .nil,by simp,fun r hr=>by rw [cC.1 hr]; exact hR0,fun r hr=>hr,(S1.trans S2).trans S3,S1.free hrd,(S1.trans S2).free hwl⟩
 generalize upd H2 wl (.lst [.ref p0])=H3 at S3 A3 ⊢;have few:∀{H':Hp}{ps:Ze}{L W:List Row},qZ H H' rd wl ps L W R->L.length<=40000:=fun A=>by
  have h1:=yg A.nd fun r hr=>rp.rg r (A.all r hr);have h2:J2.length * ts.length<=150 * 256:=rN z3 z256;omega
 refine ⟨fun mm σ H'=>∃(ps:Ze) (L W:List Row) (x5 x6 x7:Option V),mm=2 * (40000-L.length)+W.length/\mm<=80000/\σ=[some (.ref mo),some (.ref I),some (.ref p0),some (.ref rd),some (.ref wl),x5,x6,x7]/\qZ H H' rd wl ps L W R,⟨_,[p0],[(f0,0)],[(f0,0)],_,_,_,rfl,(by show 2 * (40000-1)+1<=80000; decide),rfl,A3⟩,?_⟩;rintro mm σ H4 ⟨ps,L,W,x5,x6,x7,rfl,hmm,rfl,A⟩;have fw:=few A;refine ⟨_,rfl,.inl ⟨wl,_,rfl,.inl (aA.of A.hwl),_,_,rfl,rfl,_,rfl,?_⟩⟩;have zp:(ps.map V.ref).length=W.length:=by rw [aj,Paired.length A.hps]
 refine C9 (P:=0<W.length) (by rw [zp]; simp) (fun pos=>?_) (fun nil=>?_)
 ·have hr:W[W.length-1]?=some W[W.length-1]:=bX (by omega);obtain ⟨a,ea,hat⟩:=Paired.get A.hps hr;have hrL:=A.sub W[W.length-1] (jh _);have hRr:=A.all _ hrL;have hrg:=rp.rg _ hRr;have hnext:=rp.next _ hRr;generalize W[W.length-1]=r at hr hat hrL hRr hrg hnext;have last:(ps.map V.ref)[(ps.map V.ref).length-1]?=some (.ref a):=by rw [zp,b0,ea]; rfl
  have kt:gJ H4 (upd H4 wl (.lst (ps.map V.ref).dropLast)):=cA A.hwl;have nwr:wl≠rd:=fun z=>by have:=A.hwl; rw [z,A.hrd] at this; cases this
  have A5:qZ H (upd H4 wl (.lst (ps.map V.ref).dropLast)) rd wl (ps.take (W.length-1)) L (W.take (W.length-1)) R:=by
   refine ⟨by rw [af nwr.symm]; exact A.hrd,?_,Paired.mapP (Paired.takeP _ A.hps) fun _ _ q=>kt _ _ q,A.nd,A.all,fun x hx=>A.sub x (fz hx),fun b q e=>by rw [af (ae e A.w0)]; exact A.S _ _ e,A.r0,A.w0⟩;rw [aa,List.dropLast_eq_take,zp,mI]
  have hat5:=kt _ _ hat;have zw:(W.take (W.length-1)).length=W.length-1:=by rw [aK]; omega
  refine ⟨fun σ' H'=>∃m',m'<2 * (40000-L.length)+W.length/\∃(ps:Ze) (L W:List Row) (x5 x6 x7:Option V),m'=2 * (40000-L.length)+W.length/\m'<=80000/\σ'=[some (.ref mo),some (.ref I),some (.ref p0),some (.ref rd),some (.ref wl),x5,x6,x7]/\qZ H H' rd wl ps L W R,fun σ' H' h=>h,?_⟩;refine ⟨_,rfl,.inl ⟨rfl,_,aA.of A.hwl⟩,wl,_,.ref a,rfl,rfl,A.hwl,last,a,_,rfl,bj.of hat5,rfl,_,_,rfl,_,_,rfl,rfl,?_⟩;generalize upd H4 wl (.lst (ps.map V.ref).dropLast)=H5 at A5 hat5 kt ⊢;have F5:=F.same A5.S;obtain ⟨dx5,fs5,g5,m1,m2,m3,m4,m5,_⟩:=F5.ob;have ed:ts[r.2]?=some (ts[r.2]'hrg.2):=bX hrg.2;have atd:oY (ts.map V.ref) (r.2:Nat)=some (.ref (ts[r.2]'hrg.2)):=bI (by rw [b0,ed]; rfl);obtain ⟨_,hrd5⟩:=zC.rd st ed;generalize ts[r.2]'hrg.2=sd at ed atd hrd5;refine ⟨_,rfl,_,rfl,_,rfl,_,rfl,mo,C,dx5,fs5,.ref ta,rfl,g5,c.cls,c.a5,m5,_,rfl,ta,_,_,_,rfl,rfl,aA.of (A5.S _ _ hta),atd,I,sd,r.1,r.2,ws.getD r.2 [],J0,J1,J2,ds,rfl,MA.same A5.S,hrg.1,Rd.same A5.S hrd5,fun nl nu H6 hnl hR6 hnl0 S6=>⟨nl,rfl,⟨_,aA.of hnl⟩,?_⟩⟩;have nnw:nl≠wl:=c_ (ae A5.hwl hnl0);refine cr (xs:=nu.map V.ref) (fun i σ H'=>∃(ps:Ze) (L' W':List Row) (x7:Option V),σ=[some (.ref mo),some (.ref I),some (.ref p0),some (.ref rd),some (.ref wl),some (.str r.1),some (.int (r.2:Nat)),x7]/\qZ H H' rd wl ps L' W' R/\2 * (40000-L'.length)+W'.length<2 * (40000-L.length)+W.length/\H' nl=some (.lst (nu.map V.ref))/\iR H' nu (sN J2 ds r.1 r.2 (ws.getD r.2 [])))
   ⟨_,_,_,_,rfl,A5.same S6,by rw [zw]; omega,hnl,hR6⟩ (fun i σ H' _ ⟨_,_,_,_,_,_,_,q,_⟩=>aA.of q) ?_ ?_
  ·rintro i y σ H7 hi ⟨ps7,L7,W7,x7,rfl,A7,lt7,nl7,R7⟩;obtain ⟨u,hu,rfl⟩:=dq hi;obtain ⟨row,hrow,hut⟩:=Paired.getL R7 hu;obtain ⟨n',en,hRn⟩:=hnext row (bd hrow);have hu7:tN H7 u (row.1,n'):=by rw [en] at hut; exact hut
   have gd:j_ K H7 rd (.ref u) (bJ (tj L7) (pS (row.1,n'))):=.inr ⟨_,pS (row.1,n'),u,.inl A7.hrd,rfl,cN.isIn 8 (iA _) hu7.tk,iA _,rfl⟩;refine ⟨_,rfl,_,rfl,rd,_,rfl,gd,_,rfl,?_⟩;rw [wQ];have fw7:=few A7;refine C9 (P:=¬(row.1,n')∈L7) (by by_cases q:(row.1,n')∈L7 <;> simp [q]) (fun new=>?_) (fun old=>⟨ps7,L7,W7,_,rfl,A7,lt7,nl7,R7⟩);have A8:=A7.add hu7 new hRn;have fw8:=few A8;rw [aM] at fw8;have fw8:L7.length+1<=40000:=fw8;have nwr:wl≠rd:=fun z=>by have:=A7.hwl; rw [z,A7.hrd] at this; cases this
   refine ⟨_,rfl,_,rfl,rd,u,tj L7,pS (row.1,n'),rfl,rfl,A7.hrd,cN.c 8 (iA _) hu7.tk,iA _,by unfold tj; rw [aj,ky]; omega,?_⟩;have wl8:upd H7 rd (.dT (cq (tj L7) (pS (row.1,n')) (.bl true))) wl=some (.lst (ps7.map V.ref)):=by rw [af nwr]; exact A7.hwl
   have w7:W7.length<=1000000:=by omega
   refine ⟨_,rfl,.inl ⟨rfl,_,aA.of wl8⟩,_,rfl,wl,_,.ref u,rfl,rfl,wl8,by rw [aj,Paired.length A7.hps,ky]; omega,?_⟩;refine ⟨_,_,_,_,rfl,A8,?_,?_,?_⟩
   ·rw [aM,aM];show 2 * (40000-(L7.length+1))+(W7.length+1)<_;omega
   ·rw [af nnw,af (fun z=>by have:=A7.hrd; rw [<-z,nl7] at this; cases this)]; exact nl7
   ·exact iR.kt ((BP A7.hrd).trans (cA wl8)) R7
  ·rintro σ H7 ⟨ps7,L7,W7,x7,rfl,A7,lt7,_⟩;exact ⟨_,lt7,ps7,L7,W7,_,_,_,rfl,by omega,rfl,A7⟩
 ·refine ⟨_,rfl,rd,tj L,rfl,.inl ⟨A.hrd,fun o l hl=>?_⟩⟩;have S5:ac H (upd H4 rd (.frz o (.dT (tj L)))):=fun b q e=>by rw [af (ae e A.r0)]; exact A.S _ _ e
  have rd5:upd H4 rd (.frz o (.dT (tj L))) rd=some (.frz o (.dT (tj L))):=aa;generalize upd H4 rd (.frz o (.dT (tj L)))=H5 at S5 rd5 hl ⊢;have el:(tj L).length=L.length:=by unfold tj; rw [aj]
  have nrl:rd≠l:=ae rd5 hl;refine Dj (fun i vs H'=>∃qs:List Addr,vs=qs.map V.ref/\H' l=some (.lst vs)/\H' rd=some (.frz o (.dT (tj L)))/\Paired (fun u (r:Row)=>∃ft f,H' u=some (.tup [.str r.1,.ref ft])/\m.fs[r.2]?=some f/\H' ft=some (.tup (f.map V.str))) qs (L.take i)/\ac H H')
   ⟨[],rfl,aa,kp rd5 hl,.nil,S5.trans (ac.new hl)⟩ (fun i vs H' _ ⟨_,_,q1,q2,_⟩=>⟨q1,q2⟩) ?_ ?_
  ·rintro vs H' ⟨qs,rfl,q1,_,q3,q4⟩;rw [el,aX] at q3;exact k l qs L H' q1 q3 A.nd A.all (S5.free hl) q4
  ·rintro i vs H' x b hi ⟨qs,rfl,q1,q2,q3,q4⟩ ⟨key,ek,tkc⟩;unfold tj at ek;rw [b0] at ek;obtain ⟨r,hr,er⟩:=rK.1 ek;cases er;obtain ⟨rb,rfl,hrb⟩:=FA tkc;have hrg:=rp.rg r (A.all r (bd hr));have F':=F.same q4;obtain ⟨dx',fs',g',m1,m2,_⟩:=F'.ob;have hfn:m.fs[r.2]?=some (m.fs[r.2]'(by omega)):=bX (by omega);obtain ⟨u,eu,hut⟩:=Paired.get F'.faces hfn;have atu:oY (us.map V.ref) (r.2:Nat)=some (.ref u):=bI (by rw [b0,eu]; rfl);refine ⟨rb,_,rfl,bT.sq hrb,rfl,_,_,rfl,_,_,rfl,rfl,t4 ?_⟩;refine ⟨_,rfl,_,rfl,mo,C,dx',fs',.ref fa,rfl,g',c.cls,c.a2,m2,_,rfl,fa,_,_,_,rfl,rfl,aA.of F'.hfa,atu,(by show 2<=ai; decide),fun v hv=>⟨kp q1 hv,?_,o9 hi ⟨qs++[v],by rw [ax]; rfl,aa,?_,?_,?_⟩⟩⟩
   ·rw [aj,Paired.length q3,aK,ky]; omega
   ·rw [af (fun z=>by rw [z,q1] at q2; cases q2)]; exact kp q2 hv
   ·rw [take_snoc hr];have hk:gJ H' (upd (upd H' v (.tup [.str r.1,.ref u])) l (.lst (qs.map V.ref++[.ref v]))):=(ac.kt (ac.new hv)).trans (cA (kp q1 hv));refine cD (Paired.mapP q3 fun _ _ ⟨ft,f,w1,w2,w3⟩=>⟨ft,f,hk _ _ w1,w2,hk _ _ w3⟩) ⟨u,_,?_,hfn,hk _ _ hut⟩;rw [af (ae q1 hv).symm];exact aa
   ·intro b q e;rw [af (ae e (S5.free hl))];exact kp (q4 _ _ e) hv
def t8 (K:Za) (C_Machine:Addr) (sp_Machine_says:Sp) (sp_Machine_asks:Sp):TS :=
 bD (zB (aJ (aE (oB K) (dj C_Machine "asks" sp_Machine_asks [] E0 V0 be) (dj C_Machine "asks" sp_Machine_asks [] E0 V1 be))) (aJ (aE (oB K) (dj C_Machine "says" sp_Machine_says [] E0 V0 be) (dj C_Machine "says" sp_Machine_says [] E0 V1 be)))) (sB) (aU)
def uG:List Str:=["M","I"]
def jT (K:Za) (C_Machine:Addr) (sp_Machine_rooms:Sp) (sp_Machine_asks:Sp) (jD:Sp):TS :=
 dR (cy K (dj C_Machine "rooms" sp_Machine_rooms [] E0 V0 be)) U1 (dR (cy K (dj C_Machine "asks" sp_Machine_asks [] E0 V0 be)) U2 (bD (mZ (tB (aO jD (d9 V0 V1 V2)))) (sB) (aU)))
def j8:List Str:=["I","room","ask"]
def t6 (K:Za) (sp_need_all_asks_taken:Sp) (sp_need_match:Sp):TS :=
 ao (bE (aO sp_need_match (aB V0 V1)))
 (bE (aO sp_need_all_asks_taken (aw V1)))
def uF:List Str:=["M","I"]
def wm (K:Za) (sp_law_put:Sp) (sp_law_take:Sp) (sp_law_still_on:Sp):TS :=
 ao (aP V1 (fW K 4 (aR U2 (aR U3 (aR U4 (aR U5 (fI)))))))
 (ao (aP (cG (dv K) (aw V5)) U5)
 (ao (aP (aO sp_law_take (aB V0 (tC (.int 6)))) U6)
 (ao (aP (aO sp_law_take (au V0 (aw (cG HG (aB (tC (.int 1)) (cG (cW K) (aw V5))))))) U7)
 (ao (aP (aE (cX K) V4 (aO sp_law_take (aB V0 (cG (cW K) (aw V4))))) U8)
 (ao (aP (aE (cX K) V4 (aO sp_law_take (aB V0 (cG (cW K) (aw V4))))) U9)
 (ao (bD (aJ (aE Bw V6 (tC (.int 0)))) (bE (aO sp_law_put (au V5 (au (aZ (au V8 (au (aZ (au (tC (.str "say")) (au (aE (cX K) V3 (aO sp_law_take (aB V0 (cG (cW K) (aw V3))))) be))) (aw V9)))) be)))) (bD (aJ (aE Bw V6 (tC (.int 1)))) (bE (aO sp_law_put (au V5 (au (aZ (au V8 (au (aZ (au (tC (.str "ask")) (au (aE (cX K) V2 (aO sp_law_take (aB V0 (cG (cW K) (aw V2))))) be))) (aw V9)))) be)))) (bD (jC (aJ (aE Ae V6 (tC (.int 4)))) (jC (aJ (aE (oB K) V5 (dk (be)))) (aJ (aE tZ (aE (fS K) (aE (fS K) (aE (cX K) V5 V7) (tC (.int 1))) (tC (.int 0))) (tC (.str "still")))))) (ao (aP (pN K "list" Ei V5 (aw V7)) HU)
 (bD (aJ (aE Bw V6 (tC (.int 3)))) (bE (aO sp_law_put (au V5 (au (aZ (d9 (aE (fS K) xm (tC (.int 0))) (aE (fS K) xm (tC (.int 1))) V9)) be)))) (aU))) (bD (jC (aJ (aE Bw V6 (tC (.int 4)))) (aJ (aE (sR K true) V8 (aO sp_law_still_on (aB V5 (dk (aw V9))))))) (bE (aO sp_law_put (au V5 (au (aZ (d9 V8 (aZ (aw (tC (.str "still")))) V9)) be)))) (aU)))))
 (aT (aZ (au V2 (d9 V3 V4 V5))))))))))
def xp:List Str:=["pen","told","asks","says","rooms","doors","way","at","room","other","door"]
def zQ (K:Za) (sp_law_take:Sp) (sp_law_renamed:Sp) (sp_law_willing:Sp) (sp_law_turned:Sp) (sp_law_anew:Sp):TS :=
 ao (bE (aO sp_law_anew (aw V0)))
 (ao (dR (oP (au (aO sp_law_take (aB V0 (aE fe V2 (tC (.int 1))))) be)) U3 (aP (aO sp_law_turned (aB V0 V1)) U1))
 (ao (aP (aO sp_law_willing (aB V0 V1)) U1)
 (ao (bD (aJ (aE Bw (aO sp_law_take (aB V0 (tC (.int 2)))) (tC (.int 0)))) (aP (aO sp_law_renamed (aB V0 V1)) U1) (aU))
 (aT V1))))
def AV:List Str:=["pen","told","most","turn"]
def xR (K:Za) (sp_law_behind:Sp) (sp_law_signs:Sp) (sp_law_on:Sp):TS :=
 ao (aP (aZ (au (aO sp_law_on (aB V0 (zA (pT K) (aE (mD K) V0 (tC (.int 2))) (eN) (fN (tC (.int 1)))))) (au (aO sp_law_on (aB V1 (zA (pT K) (aE (mD K) V1 (tC (.int 2))) (eN) (fN (tC (.int 1)))))) be))) U2)
 (ao (aP (dk (aw (aZ (aB V2 (dk (be)))))) U3)
 (ao (aP (rh K V2 (tC (.bl true))) U4)
 (ao (aP (aO sp_law_signs (aw V0)) U5)
 (ao (dR (oP (aw (tC (.int 300)))) U6 (bD (aJ (aE Ae V6 (cG (cW K) (aw V3)))) (ao (aP (aE (cX K) V3 V6) (fW K 2 (aR (fW K 2 (aR U7 (aR U8 (fI)))) (aR U9 (fI)))))
 (dR (cy K V5) HU (ao (aP (aZ (aB (aO sp_law_behind (d9 V0 V7 xm)) (aO sp_law_behind (d9 V1 V8 xm)))) Iq)
 (ao (bD (jC (aJ (aE tZ (aE (fS K) xm (tC (.int 0))) (tC (.str "ask")))) (jC (aJ (aE (kG K) (aE (fS K) zb (tC (.int 0))) (aZ (be)))) (aJ (aE (oB K) (aE (fS K) zb (tC (.int 1))) (aZ (be)))))) (aT (aZ (d9 (tC (.str "fault")) V9 xm))) (aU))
 (bD (jC (aJ (aE (oB K) (aE (fS K) zb (tC (.int 0))) (aZ (be)))) (jC (aJ (aE (oB K) (aE (fS K) zb (tC (.int 1))) (aZ (be)))) (tB (eO K zb V4)))) (ao (kA V4 zb (tC (.bl true)))
 (bE (pN K "list" bY V3 (au (aZ (aB zb (aE pU V9 (dk (aw xm))))) be)))) (aU)))))) (aU)))
 (aT (tC .non))))))
def zk:List Str:=["told","some","begin","pairs","known","signs","at","face","mine","story","sign","behind"]
def FG (K:Za) (sp_law_same:Sp) (sp_keeps:Sp) (sp_law_least:Sp) (sp_law_machine:Sp) (sp_law_near:Sp) (sp_law_model:Sp) (sp_law_open:Sp):TS :=
 ao (aP (aO sp_law_open (aw V0)) U1)
 (ao (aP (aO sp_law_model (d9 V1 (tC (.int 4)) (tC (.int 0)))) U2)
 (ao (aP (aO sp_law_near (d9 V1 V2 (tC (.int 4)))) U3)
 (ao (aP (aO sp_law_machine (aw V2)) U4)
 (ao (aP (aO sp_law_machine (aw V3)) U5)
 (ao (aP (aO sp_law_least (aB V2 V3)) U6)
 (ao (dR (oP (aw (tC (.int 2)))) U7 (ao (aP (aO sp_keeps (aB V4 V5)) U8)
 (ao (bD (tB (CF V6)) (ao (bD (zB (mZ (tB (cG (hZ K) (aB V8 (tC (.ty "tuple")))))) (zB (aJ (aE tZ (cG (cW K) (aw V8)) (tC (.int 2)))) (mZ (tB (aO sp_law_same (aB (aE (fS K) V8 (tC (.int 0))) (tC (.str "keeps")))))))) (aT (tC (.bl false))) (aU))
 (bD (mZ (tB (cG (hZ K) (aB (aE (fS K) V8 (tC (.int 1))) (tC (.ty "list")))))) (aT (tC (.bl false))) (aU))) (bD (mZ (tB (aO sp_law_same (aB V8 V6)))) (aT (tC (.bl false))) (aU)))
 (bE (pN K "list" bY (aE (fS K) V8 (tC (.int 1))) (aw (aZ (aw (tC (.str "hush"))))))))))
 (aT (tC (.bl true)))))))))
def Cn:List Str:=["script","pen","told","some","model","made","due","turn","found"]
def Ep:List Str:=["script"]
inductive fQ (C:Addr) (vs:List V) (H:Hp) (Q:VK) (E:XK):Prop
 | mk (x y:Addr) (J0 J1 J2 rooms':Zb) (ds ds':List am):(vs=[.ref x,.ref y])->(bB C H x J0 J1 J2 ds)->(bB C H y J0 J1 rooms' ds')->(∀H',ac H H'->Q .non H')->fQ C vs H Q E
theorem sP {K:Za}{C:Addr}{vs:List V}{H:Hp}{Q:VK}{E:XK}(h:fQ C vs H Q E):t8 K C (n8 C) (lR C) (bC Q) (start uG vs) H:=by
 obtain ⟨x,y,J0,J1,J2,rooms',ds,ds',rfl,M,N,k⟩:=h;obtain ⟨dx,fs,g1,a1,a2,_⟩:=id M.more;obtain ⟨dy,gs,g2,b1,b2,_⟩:=id N.more;refine ⟨_,rfl,x,dx,fs,rfl,g1,a1,x,J0,J1,J2,ds,rfl,M,fun l1 h1=>?_⟩;have S1:ac H (upd H l1 (.lst (J0.map V.str))):=ac.new h1;have e1:upd H l1 (.lst (J0.map V.str)) l1=some (.lst (J0.map V.str)):=aa;generalize upd H l1 (.lst (J0.map V.str))=H1 at S1 e1 ⊢;refine ⟨_,rfl,y,dy,gs,rfl,S1 _ _ g2,b1,y,J0,J1,rooms',ds',rfl,N.same S1,fun l2 h2=>?_⟩;have S2:ac H (upd H1 l2 (.lst (J0.map V.str))):=S1.trans (ac.new h2);refine BJ (kp e1 h2) aa ⟨_,rfl,?_⟩;generalize upd H1 l2 (.lst (J0.map V.str))=H2 at S2 ⊢;rw [zzr1 rfl];refine a_ ?_;refine ⟨_,rfl,x,dx,fs,rfl,S2 _ _ g1,a2,x,J0,J1,J2,ds,rfl,M.same S2,fun l3 h3=>?_⟩;have S3:ac H (upd H2 l3 (.lst (J1.map V.str))):=S2.trans (ac.new h3);have e3:upd H2 l3 (.lst (J1.map V.str)) l3=some (.lst (J1.map V.str)):=aa;generalize upd H2 l3 (.lst (J1.map V.str))=H3 at S3 e3 ⊢;refine ⟨_,rfl,y,dy,gs,rfl,S3 _ _ g2,b2,y,J0,J1,rooms',ds',rfl,N.same S3,fun l4 h4=>?_⟩;have S4:ac H (upd H3 l4 (.lst (J1.map V.str))):=S3.trans (ac.new h4);refine BJ (kp e3 h4) aa ⟨_,rfl,?_⟩;rw [zzr1 rfl];exact a_ (k _ S4)
inductive ii (C:Addr) (vs:List V) (H:Hp) (Q:VK) (E:XK):Prop
 | mk (x:Addr) (J0 J1 J2:Zb) (ds:List am):(vs=[.ref x])->(bB C H x J0 J1 J2 ds)->((∀r∈J2,∀a∈J0,hJ ds r a))->(∀H',ac H H'->Q .non H')->ii C vs H Q E
theorem wG {K:Za}{C:Addr}{vs:List V}{H:Hp}{Q:VK}{E:XK}(h:ii C vs H Q E):jT K C (iJ C) (lR C) (jD C) (bC Q) (start j8 vs) H:=by
 obtain ⟨x,J0,J1,J2,ds,rfl,M,tk,k⟩:=h;obtain ⟨dx,fs,o1,o2,o3,o4,lv,qu,sgA,sl,ts,lps,gps,sps,g1,a1,a2,a3,a4,_⟩:=id M.at_;refine ⟨_,rfl,x,dx,fs,rfl,g1,a4,x,J0,J1,J2,ds,rfl,M,fun l1 h1=>?_⟩;have S1:ac H (upd H l1 (.lst (J2.map V.str))):=ac.new h1;have e1:upd H l1 (.lst (J2.map V.str)) l1=some (.lst (J2.map V.str)):=aa;generalize upd H l1 (.lst (J2.map V.str))=H1 at S1 e1 ⊢;refine ⟨l1,rfl,⟨_,aA.of e1⟩,?_⟩;refine cr (xs:=J2.map V.str) (fun i σ H'=>∃y z,σ=[some (.ref x),y,z]/\ac H1 H') ⟨_,_,rfl,ac.refl _⟩ (fun i σ H' _ ⟨_,_,_,S⟩=>aA.of (S _ _ e1)) ?_ ?_
 ·rintro i v σ H2 hi ⟨y,z,rfl,S2⟩;obtain ⟨r,hr,rfl⟩:=bA hi;have M2:=M.same (S1.trans S2);obtain ⟨dx,fs,g1,a1,_⟩:=id M2.more;refine ⟨_,rfl,x,dx,fs,rfl,g1,a1,x,J0,J1,J2,ds,rfl,M2,fun l2 h2=>?_⟩;have S3:ac H1 (upd H2 l2 (.lst (J0.map V.str))):=S2.trans (ac.new h2);have e2:upd H2 l2 (.lst (J0.map V.str)) l2=some (.lst (J0.map V.str)):=aa;generalize upd H2 l2 (.lst (J0.map V.str))=H3 at S3 e2 ⊢;refine ⟨l2,rfl,⟨_,aA.of e2⟩,?_⟩;refine cr (xs:=J0.map V.str) (fun j σ H'=>∃z,σ=[some (.ref x),some (.str r),z]/\ac H3 H') ⟨_,rfl,ac.refl _⟩ (fun i σ H' _ ⟨_,_,S⟩=>aA.of (S _ _ e2)) ?_ ?_
  ·rintro j v σ H4 hj ⟨z,rfl,S4⟩;obtain ⟨a,ha,rfl⟩:=bA hj;refine ⟨_,rfl,_,rfl,_,rfl,x,r,a,J0,J1,J2,ds,rfl,M.same ((S1.trans S3).trans S4),bd hr,fun H5 S5=>⟨_,rfl,?_⟩⟩;rw [kY.2 (tk r (bd hr) a (bd ha))];exact a_ ⟨_,rfl,S4.trans S5⟩
  ·rintro σ H4 ⟨z,rfl,S4⟩;exact ⟨_,_,rfl,S3.trans S4⟩
 ·rintro σ H2 ⟨y,z,rfl,S2⟩;exact k H2 (S1.trans S2)
inductive fP (C:Addr) (vs:List V) (H:Hp) (Q:VK) (E:XK):Prop
 | mk (x y:Addr) (J0 J1 J2 rooms':Zb) (ds ds':List am):(vs=[.ref x,.ref y])->(bB C H x J0 J1 J2 ds)->(bB C H y J0 J1 rooms' ds')->((∀r∈rooms',∀a∈J0,hJ ds' r a))->(∀H',ac H H'->Q .non H')->fP C vs H Q E
theorem sO {K:Za}{C:Addr}{vs:List V}{H:Hp}{Q:VK}{E:XK}(h:fP C vs H Q E):t6 K (ii C) (fQ C) (bC Q) (start uF vs) H:=by
 obtain ⟨x,y,J0,J1,J2,rooms',ds,ds',rfl,M,N,tk,k⟩:=h;exact ⟨_,rfl,_,rfl,x,y,J0,J1,J2,rooms',ds,ds',rfl,M,N,fun H1 S1=>⟨_,rfl,y,J0,J1,rooms',ds',rfl,N.same S1,tk,fun H2 S2=>k H2 (S1.trans S2)⟩⟩
theorem aQ.out {J0 J1 J2:Zb}{ds:List am}(m:aQ J0 J1 J2 ds) (k:Nat):aQ J0 J1 J2 (ds.eraseIdx k):=by
 have sub:(ds.eraseIdx k).Sublist ds:=List.eraseIdx_sublist ds k;exact { m with nodup:=m.nodup.sublist sub,good:=fun d hd=>m.good d (sub.mem hd),few:=bH sub.length_le m.few,noround:=fun r z=>m.noround r (z.mono fun x y h=>sub.mem h) }
theorem Paired.out {α β:Type}{R:α->β->Prop}:∀{as:List α}{bs:List β}(k:Nat),Paired R as bs->Paired R (as.eraseIdx k) (bs.eraseIdx k)
 | _,_,_,.nil=>.nil
 | _,_,0,.cons _ t=>t
 | _,_,k+1,.cons r t=>.cons r (Paired.out k t)
theorem vo {α β:Type}(f:α->β):∀(l:List α) (n:Nat),(l.map f).eraseIdx n=(l.eraseIdx n).map f
 | [],_=>rfl
 | _::_,0=>rfl
 | a::l,n+1=>by show f a::_=f a::_; rw [vo f l n]
def TR (J0 J1 J2:Zb) (n:Nat) (ds:List am):Prop:=aQ J0 J1 J2 ds/\ds.length<=n
inductive lN  (vs:List V) (H:Hp) (Q:VK) (E:XK):Prop
 | mk (p c t l1 l2 l3 l4:Addr) (ts:Ze) (J0 J1 J2:Zb) (ds:List am):(vs=[.ref p,.ref t])->(gH H p c)->(iQ H t l1 l2 l3 l4 ts J0 J1 J2 ds)->(aQ J0 J1 J2 ds)->(ds.length<=690)->(∀(t' l4':Addr) (ts':Ze) (ds':List am) (H':Hp),iQ H' t' l1 l2 l3 l4' ts' J0 J1 J2 ds'->aQ J0 J1 J2 ds'->ds'.length<=ds.length+1->gH H' p c->cR p H H'->Q (.ref t') H')->lN  vs H Q E
theorem CJ {K:Za}{vs:List V}{H:Hp}{Q:VK}{E:XK}(h:lN vs H Q E):wm K jX fk (eB K) (bC Q) (start xp vs) H:=by
 obtain ⟨p,c,t,l1,l2,l3,l4,ts,J0,J1,J2,ds,rfl,hp,T,m,z8,k⟩:=h;have a4:=m.asks4;have s4:=m.says4;have r4:=m.rooms26;refine ⟨_,rfl,t,_,rfl,bj.of T.t,rfl,_,_,rfl,_,_,rfl,_,_,rfl,_,_,rfl,rfl,?_⟩;refine ⟨_,rfl,.inl ⟨l4,_,rfl,.inl (aA.of T.a4),fun f hf=>?_⟩⟩;have B0:TX H p c f (fun x=>x=ds) (upd H f (.lst (ts.map V.ref))):=⟨hp.ex (ac.new hf),⟨ts,ds,aa,T.ds.kt (ac.kt (ac.new hf)),rfl⟩,cR.new hf,hf,hp.nep hf,hp.nec hf⟩;generalize upd H f (.lst (ts.map V.ref))=H1 at B0 ⊢;have keep:∀{H':Hp}{R:List am->Prop},TX H p c f R H'->H' l1=some (.lst (J0.map V.str))/\H' l2=some (.lst (J1.map V.str))/\H' l3=some (.lst (J2.map V.str)):=fun B =>
  ⟨B.ex _ _ T.a1 (hp.ne_strs T.a1),B.ex _ _ T.a2 (hp.ne_strs T.a2),B.ex _ _ T.a3 (hp.ne_strs T.a3)⟩
 refine ⟨_,rfl,dD B0.pen (by decide) (by decide) fun way H2 w0 w1 hp2 ex2=>?_⟩;have B2:=B0.took hp2 ex2;obtain ⟨us,es,g1,g2,rfl⟩:=id B2.ds;refine ⟨_,rfl,_,rfl,.inl ⟨f,_,rfl,.inl (aA.of g1),_,_,rfl,?_⟩⟩;have lu:us.length=es.length:=Paired.length g2;refine dD B2.pen (by split <;> omega) (by rw [aj,lu]; split <;> omega) fun at_ H3 n0 n1 hp3 ex3=>?_;have B3:=B2.took hp3 ex3;rw [aj,lu] at n1;refine i7 (fun _ _ _ _ h=>h) rfl rfl B3.pen (keep B3).2.2 m.rooms0 (by omega) fun room hroom H4 hp4 ex4=>?_;have B4:=B3.took hp4 ex4;refine i7 (fun _ _ _ _ h=>h) rfl rfl B4.pen (keep B4).2.2 m.rooms0 (by omega) fun other hother H5 hp5 ex5=>?_;have B5:=B4.took hp5 ex5;clear B0 B2 B3 B4 hp2 hp3 hp4 hp5 ex2 ex3 ex4 ex5 g1 g2;have fin:∀{H6:Hp}(x10:Option V),TX H p c f (TR J0 J1 J2 (es.length+1)) H6->(aT (aZ (au V2 (d9 V3 V4 V5)))) (bC Q) [some (.ref p),some (.ref t),some (.ref l1),some (.ref l2),some (.ref l3),some (.ref f),some (.int way),some (.int at_),some (.str room),some (.str other),x10] H6:=fun x10 B=>by
  obtain ⟨us,fs,g1,g2,g3⟩:=B.ds;obtain ⟨q1,q2,q3⟩:=keep B;refine ⟨_,rfl,_,rfl,_,rfl,_,rfl,(by show 4<=ai; decide),fun t' ht'=>?_⟩;have S3:=ac.new (o:=.tup [.ref l1,.ref l2,.ref l3,.ref f]) ht';exact k t' f us fs _ ⟨aa,S3 _ _ q1,S3 _ _ q2,S3 _ _ q3,S3 _ _ g1,g2.kt (ac.kt S3)⟩ g3.1 g3.2 (B.pen.ex S3) (B.ex.trans (ac.exB S3))
 have put:∀{H6:Hp}{fs:List am}{d:Addr}{x:am}(x10:Option V),TX H p c f (fun y=>y=fs) H6->fs.length<=es.length->gL H6 d x->aQ J0 J1 J2 (lb fs x)->jX [.ref f,.ref d] H6 (fun _ H'=>(aT (aZ (au V2 (d9 V3 V4 V5)))) (bC Q) [some (.ref p),some (.ref t),some (.ref l1),some (.ref l2),some (.ref l3),some (.ref f),some (.int way),some (.int at_),some (.str room),some (.str other),x10] H') E0:=fun x10 B le hat ok=>by
  obtain ⟨us',fs',k1,k2,rfl⟩:=id B.ds;refine ⟨f,_,us',_,_,rfl,k1,k2,hat,by omega,fun us2 D2=>fin x10 (B.put ⟨_,k1⟩ D2 ⟨ok,?_⟩)⟩;exact bH (sT _ _) (by omega)
 refine ⟨_,rfl,rfl,_,rfl,?_⟩;refine iW (fun _=>?_) (fun _=>?_)
 ·refine ⟨_,rfl,_,rfl,i7 (fun _ _ _ _ h=>h) rfl rfl B5.pen (keep B5).2.1 m.says0 (by omega) fun w hw H6 hp6 ex6=>⟨(by show 2<=ai; decide),fun s hs=>⟨_,rfl,(by show 3<=ai; decide),fun d hd=>?_⟩⟩⟩;have B6:=B5.took hp6 ex6;have S:ac H6 (upd (upd H6 s (.tup [.str "say",.str w])) d (.tup [.str room,.ref s,.str other])):=(ac.new hs).trans (ac.new hd);exact put (x:=⟨room,oq w,other⟩) _ (B6.same S) (aG _) ⟨s,aa,kp aa hd⟩ (m.putOne ⟨hroom,hother,.inr (.inl ⟨w,hw,rfl⟩)⟩ (by unfold oq av; intro h; injection h with _ h; cases h) (by omega))
 refine ⟨_,rfl,rfl,_,rfl,?_⟩;refine iW (fun _=>?_) (fun _=>?_)
 ·refine ⟨_,rfl,_,rfl,i7 (fun _ _ _ _ h=>h) rfl rfl B5.pen (keep B5).1 m.asks0 (by omega) fun w hw H6 hp6 ex6=>⟨(by show 2<=ai; decide),fun s hs=>⟨_,rfl,(by show 3<=ai; decide),fun d hd=>?_⟩⟩⟩;have B6:=B5.took hp6 ex6;have S:ac H6 (upd (upd H6 s (.tup [.str "ask",.str w])) d (.tup [.str room,.ref s,.str other])):=(ac.new hs).trans (ac.new hd);exact put (x:=⟨room,da w,other⟩) _ (B6.same S) (aG _) ⟨s,aa,kp aa hd⟩ (m.putOne ⟨hroom,hother,.inl ⟨w,hw,rfl⟩⟩ (vz w) (by omega))
 have still:∀{H6:Hp},TX H p c f (fun y=>y=es) H6->(bD (jC (aJ (aE Bw V6 (tC (.int 4)))) (aJ (aE (sR K true) V8 (aO (eB K) (aB V5 (dk (aw V9))))))) (bE (aO jX (au V5 (au (aZ (d9 V8 (aZ (aw (tC (.str "still")))) V9)) be)))) (aU)) { nx:=(aT (aZ (au V2 (d9 V3 V4 V5)))) (bC Q),rt:=Q } [some (.ref p),some (.ref t),some (.ref l1),some (.ref l2),some (.ref l3),some (.ref f),some (.int way),some (.int at_),some (.str room),some (.str other),none] H6:=fun {H6} B=>by
  have idle:TX H p c f (TR J0 J1 J2 (es.length+1)) H6:=B.imp fun y e=>by rw [e]; exact ⟨m,mw _⟩
  refine ⟨_,rfl,rfl,_,rfl,?_⟩;refine iW (fun _=>?_) (fun _=>a_ (fin _ idle));refine ⟨_,rfl,_,rfl,_,rfl,(by show 1<=ai; decide),fun bl hbl=>?_⟩;have B7:=B.same (ac.new (o:=.lst [.str other]) hbl);have e7:upd H6 bl (.lst [.str other]) bl=some (.lst [.str other]):=aa;generalize upd H6 bl (.lst [.str other])=H7 at B7 e7 ⊢;obtain ⟨us,fs,g1,g2,rfl⟩:=id B7.ds;refine ⟨f,bl,us,fs,[other],J2,rfl,g1,g2,e7,fun d hd=>(m.good d hd).b,by omega,(by show 1<=1000; decide),fun g F H8 hg hF _ _ S8=>?_⟩;have B8:=B7.same S8;refine ⟨fR room,F.map fR,g,_,jc room,rfl,.inl (aA.of hg),lE _,(by show 0<=8; decide),by rw [fh]; decide,_,rfl,?_⟩;rw [if_pos rfl];by_cases c1:room∈F
  ·rw [zzr1 (lU.mpr c1)];exact a_ (fin _ (B8.imp fun y e=>by rw [e]; exact ⟨m,mw _⟩))
  rw [zzr0 (fun z=>c1 (lU.mp z))];refine bW ?_;refine ⟨_,rfl,_,rfl,(by show 1<=ai; decide),fun s hs=>⟨_,rfl,(by show 3<=ai; decide),fun d hd=>?_⟩⟩;have S:ac H8 (upd (upd H8 s (.tup [.str "still"])) d (.tup [.str room,.ref s,.str other])):=(ac.new hs).trans (ac.new hd);exact put (x:=⟨room,av,other⟩) _ (B8.same S) (aG _) ⟨s,aa,kp aa hd⟩ (m.putStill hroom hother (fun z=>c1 ((hF room).mpr z)) (by omega))
 refine ⟨_,rfl,_,_,rfl,rfl,_,rfl,?_⟩;refine iW (fun _=>?_) (fun _=>a_ (still B5));refine ⟨_,rfl,(by show 0<=ai; decide),fun q hq=>?_⟩;have B6:=B5.same (ac.new (o:=.lst []) hq);have e6:upd H5 q (.lst []) q=some (.lst []):=aa;generalize upd H5 q (.lst [])=H6 at B6 e6 ⊢;obtain ⟨us,fs,g1,g2,rfl⟩:=id B6.ds;refine EA g1 g2 e6 (fun c1=>⟨_,rfl,bW ?_⟩) (fun _=>⟨_,rfl,a_ (a_ (still B6))⟩);have fl:0<fs.length:=List.length_pos_iff.2 c1;have n2:at_<fs.length:=by split at n1 <;> omega
 obtain ⟨n,rfl⟩:=ji n0;have n3:n<fs.length:=by omega
 have hdr:fs[n]?=some fs[n]:=bX n3;obtain ⟨u,hu,hat⟩:=Paired.get g2 hdr;generalize fs[n]=dr at hdr hat;have hm:=bd hdr;obtain ⟨sb,ht2,hs2⟩:=hat;obtain ⟨s0,rest,hsg,_⟩:=pQ (m.good dr hm);have at0:oY (dr.sg.map V.str) 0=some (.str s0):=by rw [hsg]; exact bI (j:=0) rfl
 have atu:(us.map V.ref)[n]?=some (.ref u):=by rw [b0,hu]; rfl
 refine ⟨_,rfl,_,rfl,f,_,_,_,rfl,rfl,aA.of g1,bI atu,u,_,1,_,rfl,rfl,bj.of ht2,rfl,sb,_,0,_,rfl,rfl,bj.of hs2,at0,rfl,_,rfl,?_⟩;refine iW (fun c2=>?_) (fun _=>still B6);have ns:dr.sg≠av:=fun z=>by
  rw [hsg] at z;injection z with z;rw [z] at c2;simp at c2
 have six:wa (n:Int) (us.map V.ref).length=some n:=(wW (Gp (by rw [aj,Paired.length g2]; exact n3))).1;refine ⟨_,rfl,.inl ⟨rfl,_,aA.of g1⟩,_,rfl,f,_,_,n,.ref u,rfl,rfl,g1,by omega,by omega,six,atu,?_⟩;have ee:(us.map V.ref).eraseIdx n=(us.eraseIdx n).map V.ref:=vo _ us n;rw [ee];have k6:gJ H6 (upd H6 f (.lst ((us.eraseIdx n).map V.ref))):=cA g1;have B7:TX H p c f (fun y=>y=fs.eraseIdx n) (upd H6 f (.lst ((us.eraseIdx n).map V.ref))):=B6.put ⟨_,g1⟩ (Paired.out n g2) rfl;have t7:=k6 _ _ ht2;have s7:=k6 _ _ hs2;generalize upd H6 f (.lst ((us.eraseIdx n).map V.ref))=H7 at B7 t7 s7 ⊢;have m7:=m.out n;have l7:(fs.eraseIdx n).length<=fs.length:=(List.eraseIdx_sublist fs n).length_le;refine ⟨_,rfl,rfl,_,rfl,?_⟩;refine iW (fun _=>?_) (fun _=>fin _ (B7.imp fun y e=>by rw [e]; exact ⟨m7,by omega⟩));refine ⟨_,rfl,_,rfl,u,_,0,_,rfl,rfl,bj.of t7,rfl,_,rfl,u,_,1,_,rfl,rfl,bj.of t7,rfl,_,rfl,(by show 3<=ai; decide),fun d hd=>?_⟩;have S:ac H7 (upd H7 d (.tup [.str dr.a,.ref sb,.str other])):=ac.new hd;exact put (x:=⟨dr.a,dr.sg,other⟩) _ (B7.same S) l7 ⟨sb,aa,S _ _ s7⟩ (m7.putOne ⟨(m.good dr hm).a,hother,(m.good dr hm).sg⟩ ns (by omega))
theorem Reach.ren {ds:List am}{f:Str->Str}{x y:Str}(h:Reach ds x y):Reach (ds.map (ur f)) (f x) (f y):=by
 induction h with
 | one e=>exact .one (aD.2 ⟨_,e,rfl⟩)
 | step _ e ih=>exact .step ih (aD.2 ⟨_,e,rfl⟩)
theorem hJ.ren {ds:List am}{f:Str->Str}{r a:Str}:hJ ds r a->hJ (ds.map (ur f)) (f r) a:=fun ⟨w,hw,b,hb⟩ =>
 ⟨f w,hw.imp (fun e=>by rw [e]) Reach.ren,f b,aD.2 ⟨_,hb,rfl⟩⟩
inductive i5  (vs:List V) (H:Hp) (Q:VK) (E:XK):Prop
 | mk (p c t l1 l2 l3 l4:Addr) (ts:Ze) (J0 J1 J2:Zb) (ds:List am):(vs=[.ref p,.ref t])->(gH H p c)->(iQ H t l1 l2 l3 l4 ts J0 J1 J2 ds)->(aQ J0 J1 J2 ds)->(J2.length<=26)->(∀(t' l3' l4':Addr) (ts':Ze) (rooms':Zb) (f:Str->Str) (H':Hp),iQ H' t' l1 l2 l3' l4' ts' J0 J1 rooms' (ds.map (ur f))->aQ J0 J1 rooms' (ds.map (ur f))->rooms'.Perm (J2.map f)->gH H' p c->cR p H H'->Q (.ref t') H')->i5  vs H Q E
theorem yi {K:Za}{vs:List V}{H:Hp}{Q:VK}{E:XK}(h:i5 vs H Q E):ub K fk k7 (bC Q) (start uJ vs) H:=by
 obtain ⟨p,c,t,l1,l2,l3,l4,ts,J0,J1,J2,ds,rfl,hp,T,m,z3,k⟩:=h;have z4:=m.few;have hr0:0<J2.length:=by
  cases hq:J2 with
  | nil=>exact absurd hq m.rooms0
  | cons _ _=>simp
 refine ⟨_,rfl,t,_,rfl,bj.of T.t,rfl,_,_,rfl,_,_,rfl,_,_,rfl,_,_,rfl,rfl,?_⟩;refine fun d hd=>?_;have dp:=hp.nep hd;have dc:=hp.nec hd;have T1:=T.same (ac.new (o:=.dK []) hd);have hp1:=hp.ex (ac.new (o:=.dK []) hd);have hd1:upd H d (.dK []) d=some (.dK (Dx [])):=aa;have ex1:cR p H (upd H d (.dK [])):=cR.new hd;generalize upd H d (.dK [])=H1 at T1 hp1 hd1 ex1 ⊢;refine ⟨_,rfl,_,rfl,_,rfl,.inl ⟨l3,_,rfl,.inl (aA.of T1.a3),p,c,(J2.map V.str).length,rfl,hp1,by rw [aj]; exact z3,fun lw ws H2 okw lenw frw hlw hp2 ex2=>?_⟩⟩;rw [aj] at lenw;have T2:=T1.ex hp1 ex2;have hd2:=ex2 _ _ hd1 dp.symm;have lwd:lw≠d:=fun z=>by rw [z,hd1] at frw; cases frw
 have lwp:=hp2.ne_strs hlw;refine ⟨l3,lw,rfl,.inl ⟨⟨_,aA.of T2.a3⟩,⟨_,aA.of hlw⟩,?_⟩⟩;have ez:(J2.zip ws).length=J2.length:=by rw [List.length_zip,lenw,Nat.min_self]
 refine yU (xs:=J2.map V.str) (ys:=ws.map V.str) (by rw [aj,aj,lenw]) (fun i σ H'=>∃x7 x8:Option V,σ=[some (.ref p),some (.ref t),some (.ref l1),some (.ref l2),some (.ref l3),some (.ref l4),some (.ref d),x7,x8,none,none]/\H' d=some (.dK (Dx ((J2.zip ws).take i)))/\H' lw=some (.lst (ws.map V.str))/\gH H' p c/\cR p H H')
  ⟨_,_,rfl,hd2,hlw,hp2,ex1.trans ex2⟩ (fun i σ H' _ ⟨_,_,_,_,h1,_,ex⟩=>⟨aA.of (ex _ _ T.a3 (hp.ne_strs T.a3)),aA.of h1⟩) ?_ ?_
 ·rintro i x y σ H3 q hx hy ⟨x7,x8,rfl,hd3,hlw3,hp3,ex3⟩ hq;obtain ⟨r,hr,rfl⟩:=bA hx;obtain ⟨w,hw,rfl⟩:=bA hy;have hi:i<J2.length:=(cw.mp hr).1;refine ⟨q,_,rfl,bj.of aa,rfl,_,_,rfl,_,_,rfl,rfl,?_⟩;have hlen:(Dx ((J2.zip ws).take i)).length<ai:=by
   unfold Dx;rw [aj,aK];exact ap (by omega)
  refine ⟨_,rfl,_,rfl,_,rfl,d,_,rfl,.inl ⟨_,.inr r,kp hd3 hq,rfl,hlen,rfl⟩,_,_,rfl,?_,?_,?_,?_⟩
  ·have hz:(J2.zip ws)[i]?=some (r,w):=by
    rw [List.getElem?_zip_eq_some]; exact ⟨hr,hw⟩
   have hn:r∉((J2.zip ws).take i).map (·.1):=by
    rw [mI,wb lenw];intro z;obtain ⟨j,hj⟩:=gp z;have hjl:j<i:=by
     have:=(cw.mp hj).1;rw [aK] at this;omega
    rw [List.getElem?_take_of_lt hjl] at hj;have:=rD m.okR.1 hj hr;omega
   rw [aa,Ez hn,take_snoc hz]
  ·rw [af lwd]; exact kp hlw3 hq
  ·exact (hp3.ex (ac.new hq)).upd dp dc
  ·intro b o e n;rw [af (ae e hd)];exact kp (ex3 _ _ e n) hq
 rintro σ H3 ⟨x7,x8,rfl,hd3,hlw3,hp3,ex3⟩;rw [aj,<-ez,aX] at hd3;have T3:=T.ex hp ex3;generalize hρ:Ft (J2.zip ws)=ρ;have hmap:J2.map ρ=ws:=by rw [<-hρ]; exact Bs m.okR.1 lenw
 have hval:∀r∈J2,bJ (Dx (J2.zip ws)) (.inr r:d_)=some (.str (ρ r)):=fun r hr=>by
  rw [<-hρ]; exact BI (by rw [wb lenw]; exact hr)
 refine ⟨_,rfl,l3,rfl,⟨_,aA.of T3.a3⟩,fun f hf=>?_⟩;refine cJ (xs:=J2.map V.str) (fun i vs H'=>vs=((J2.take i).map ρ).map V.str/\ac H3 H'/\H' f=some (.lst vs)) ⟨rfl,ac.new hf,aa⟩ (fun i vs H' _ ⟨_,S,h'⟩=>⟨h',aA.of (S _ _ T3.a3)⟩) ?_ ?_;rotate_left
 ·rintro i vs H' x' hx' hi ⟨rfl,S,f'⟩;obtain ⟨r,hr,rfl⟩:=bA hx';refine gN (t4 ?_);refine ⟨_,rfl,_,rfl,d,.str (ρ r),rfl,.inl ⟨_,.inr r,.inl (S _ _ hd3),rfl,(hval r (bd hr)).symm⟩,f',?_,o9 hi ⟨?_,?_,aa⟩⟩
  ·rw [aj,aj,aK];exact ap (by omega)
  ·rw [take_snoc hr,ax,ax]; rfl
  ·intro b o q;rw [af (ae q hf)];exact S _ _ q
 rintro vs H4 ⟨rfl,S4,f4⟩;rw [aj,aX,hmap] at f4;have T4:=T3.same S4;have hp4:=hp3.ex S4;have hd4:=S4 _ _ hd3;refine ⟨_,rfl,_,rfl,.inl ⟨l3,_,rfl,.inl (aA.of T4.a3),dD (m:=((J2.map V.str).length:Nat)) hp4 (by rw [aj]; omega) (by rw [aj]; omega) fun r H5 r0 r1 hp5 ex5=>⟨_,_,rfl,rfl,?_⟩⟩⟩;rw [aj] at r1;obtain ⟨n,rfl⟩:=ji r0;have T5:=T4.ex hp4 ex5;have f5:=ex5 _ _ f4 (hp4.ne_strs f4);have hd5:=ex5 _ _ hd4 dp.symm;have exx5:cR p H H5:=(ex3.trans (ac.exB S4)).trans ex5;have c1:gF (ws.map V.str) none (some 1)=(ws.take 1).map V.str:=oW ws 1;have c2:gF (ws.map V.str) (some (1+(n:Int))) none=(ws.drop (1+n)).map V.str:=vt ws (1+n);have c3:gF (ws.map V.str) (some 1) (some (1+(n:Int)))=((ws.drop 1).take (1+n-1)).map V.str:=Di ws (j:=1) (k:=1+n) (by omega) (by omega);refine ⟨_,rfl,_,rfl,f,_,rfl,aA.of f5,fun q1 hq1=>⟨_,rfl,_,rfl,_,rfl,f,_,rfl,aA.of (kp f5 hq1),fun q2 hq2=>⟨q1,q2,_,_,rfl,rfl,kp aa hq2,aa,?_,fun q3 hq3=>⟨_,rfl,_,rfl,_,rfl,_,rfl,f,_,rfl,aA.of (kp (kp (kp f5 hq1) hq2) hq3),fun q4 hq4=>⟨q3,q4,_,_,rfl,rfl,kp aa hq4,aa,?_,fun q5 hq5=>?_⟩⟩⟩⟩⟩
 ·rw [c1,c2,aj,aj,aK,fM];exact em (ap (by omega))
 ·rw [c1,c2,c3,aM,aj,aj,aj,aK,fM,aK,fM];exact em (ap (by omega))
 rw [c1,c2,c3] at hq5 ⊢;have m1:(ws.take 1).map V.str++(ws.drop (1+n)).map V.str=(ws.take 1++ws.drop (1+n)).map V.str:=ax.symm;have m2:(ws.take 1++ws.drop (1+n)).map V.str++((ws.drop 1).take (1+n-1)).map V.str=(ws.take 1++ws.drop (1+n)++(ws.drop 1).take (1+n-1)).map V.str:=ax.symm;rw [m1] at hq5 ⊢;rw [m2];have S6:=((((ac.new (o:=.lst ((ws.take 1).map V.str)) hq1).trans (ac.new (o:=.lst ((ws.drop (1+n)).map V.str)) (by rw [<-c1]; exact hq2))).trans (ac.new (o:=.lst ((ws.take 1++ws.drop (1+n)).map V.str)) (by rw [<-c1,<-c2]; exact hq3))).trans (ac.new (o:=.lst (((ws.drop 1).take (1+n-1)).map V.str)) (by rw [ax,<-c1,<-c2]; exact hq4))).trans (ac.new (o:=.lst ((ws.take 1++ws.drop (1+n)++(ws.drop 1).take (1+n-1)).map V.str)) hq5);have hperm:=xK ws n;generalize ws.take 1++ws.drop (1+n)++(ws.drop 1).take (1+n-1)=rooms' at S6 hperm hq5 ⊢;have hr':(upd (upd (upd (upd (upd H5 q1 (.lst ((ws.take 1).map V.str))) q2 (.lst ((ws.drop (1+n)).map V.str))) q3 (.lst ((ws.take 1++ws.drop (1+n)).map V.str))) q4 (.lst (((ws.drop 1).take (1+n-1)).map V.str))) q5 (.lst (rooms'.map V.str))) q5=some (.lst (rooms'.map V.str)):=aa;generalize (upd (upd (upd (upd (upd H5 q1 (.lst ((ws.take 1).map V.str))) q2 (.lst ((ws.drop (1+n)).map V.str))) q3 (.lst ((ws.take 1++ws.drop (1+n)).map V.str))) q4 (.lst (((ws.drop 1).take (1+n-1)).map V.str))) q5 (.lst (rooms'.map V.str)))=H6 at S6 hr' ⊢;have T6:=T5.same S6;have hd6:=S6 _ _ hd5;refine ⟨_,rfl,l4,rfl,⟨_,aA.of T6.a4⟩,fun g hg=>?_⟩;refine cJ (xs:=ts.map V.ref) (fun i vs H'=>∃us:List Addr,vs=us.map V.ref/\ac H6 H'/\H' g=some (.lst vs)/\cu H' us ((ds.take i).map (ur ρ))) ⟨[],rfl,ac.new hg,aa,.nil⟩ (fun i vs H' _ ⟨_,_,S,h',_⟩=>⟨h',aA.of (S _ _ T6.a4)⟩) ?_ ?_;rotate_left
 ·rintro i vs H' x' hx' hi ⟨us,rfl,S,g',hP⟩;obtain ⟨u,hu,rfl⟩:=dq hx';obtain ⟨dr,hdr,hatd⟩:=Paired.getL T6.ds hu;obtain ⟨sb,ht2,hs2⟩:=hatd.kt (ac.kt S);have hmem:=bd hdr;have hda:=hval dr.a (m.good dr hmem).a;have hdb:=hval dr.b (m.good dr hmem).b;refine ⟨u,_,rfl,bj.of ht2,rfl,_,_,rfl,_,_,rfl,_,_,rfl,rfl,?_⟩;refine t4 ?_;refine ⟨_,rfl,_,rfl,d,.str (ρ dr.a),rfl,.inl ⟨_,.inr dr.a,.inl (S _ _ hd6),rfl,hda.symm⟩,_,rfl,_,rfl,_,rfl,d,.str (ρ dr.b),rfl,.inl ⟨_,.inr dr.b,.inl (S _ _ hd6),rfl,hdb.symm⟩,(by show 3<=ai; decide),fun w hw=>⟨kp g' hw,?_,o9 hi ⟨us++[w],by rw [ax]; rfl,?_,aa,?_⟩⟩⟩
  ·rw [aj,Paired.length hP,aj,aK];exact ap (by omega)
  ·intro b o q;rw [af (ae q hg)];exact kp (S _ _ q) hw
  ·rw [take_snoc hdr,ax];have hk:gJ H' (upd (upd H' w (.tup [.str (ρ dr.a),.ref sb,.str (ρ dr.b)])) g (.lst (us.map V.ref++[.ref w]))):=(ac.kt (ac.new hw)).trans (cA (kp g' hw));refine cD (hP.kt hk) ⟨sb,?_,hk _ _ hs2⟩;exact (cA (kp g' hw)) _ _ aa
 rintro vs H7 ⟨us,rfl,S7,g7,hP⟩;rw [aj,Paired.length T.ds,aX] at hP;have T7:=T6.same S7;have hp7:=(hp5.ex S6).ex S7;have ex7:cR p H H7:=exx5.trans (ac.exB (S6.trans S7));refine ⟨_,rfl,_,rfl,_,rfl,_,rfl,(by show 4<=ai; decide),fun t' ht'=>k t' q5 g us rooms' ρ _ ⟨aa,kp T7.a1 ht',kp T7.a2 ht',kp (S7 _ _ hr') ht',kp g7 ht',hP.kt (ac.kt (ac.new ht'))⟩ (m.renamed okw hmap hperm) (by rw [hmap]; exact hperm) (hp7.ex (ac.new ht')) (ex7.trans (cR.new ht'))⟩
inductive rk  (vs:List V) (H:Hp) (Q:VK) (E:XK):Prop
 | mk (p c t l1 l2 l3 l4:Addr) (ts:Ze) (J0 J1 J2:Zb) (ds:List am) (n:Nat):(vs=[.ref p,.ref t,.int (n:Nat)])->(gH H p c)->(iQ H t l1 l2 l3 l4 ts J0 J1 J2 ds)->(aQ J0 J1 J2 ds)->(J2.length<=26)->(ds.length<=650)->(n<=8)->(∀(t' l3' l4':Addr) (ts':Ze) (rooms':Zb) (ds':List am) (H':Hp),iQ H' t' l1 l2 l3' l4' ts' J0 J1 rooms' ds'->aQ J0 J1 rooms' ds'->(∀r∈rooms',∀a∈J0,hJ ds' r a)->rooms'.length=J2.length->ds'.length<=ds.length+n+4 * J2.length->gH H' p c->cR p H H'->Q (.ref t') H')->rk  vs H Q E
theorem FS {K:Za}{vs:List V}{H:Hp}{Q:VK}{E:XK}(h:rk vs H Q E):zQ K fk i5 jV lN rA (bC Q) (start AV vs) H:=by
 obtain ⟨p,c,t,l1,l2,l3,l4,ts,J0,J1,J2,ds,n,rfl,hp,T,m,z3,z4,zn,k⟩:=h;refine ⟨_,rfl,p,c,rfl,hp,fun H1 hp1 ex1=>?_⟩;have T1:=T.ex hp ex1;refine ⟨_,rfl,_,rfl,_,_,rfl,rfl,dD hp1 (by omega) (by omega) fun x H2 x0 x1 hp2 ex2=>?_⟩;have T2:=T1.ex hp1 ex2;refine ⟨x,rfl,by omega,by omega,?_⟩;refine iz (lo:=0) (n:=x.toNat) (fun i σ H'=>∃(t' l4':Addr) (ts':Ze) (ds':List am) (x3:Option V),σ=[some (.ref p),some (.ref t'),some (.int (n:Nat)),x3]/\iQ H' t' l1 l2 l3 l4' ts' J0 J1 J2 ds'/\aQ J0 J1 J2 ds'/\ds'.length<=ds.length+i/\gH H' p c/\cR p H H')
  ⟨t,l4,ts,ds,_,rfl,T2,m,aG _,hp2,ex1.trans ex2⟩ ?_ ?_
 ·rintro i σ H3 hi ⟨t',l4',ts',ds',x3,rfl,T3,m3,z,hp3,ex3⟩;refine ⟨_,rfl,_,rfl,p,c,t',l1,l2,l3,l4',ts',J0,J1,J2,ds',rfl,hp3,T3,m3,by omega,fun t2 l42 ts2 ds2 H4 T4 m4 z4 hp4 ex4=>?_⟩;exact ⟨t2,l42,ts2,ds2,_,rfl,T4,m4,by omega,hp4,ex3.trans ex4⟩
 ·rintro σ H3 ⟨t',l4',ts',ds',x3,rfl,T3,m3,z,hp3,ex3⟩;refine ⟨_,rfl,_,rfl,p,c,t',l1,l2,l3,l4',ts',J0,J1,J2,ds',rfl,hp3,T3,m3,z3,by omega,fun t2 l42 ts2 ds2 H4 T4 m4 tk4 zw hp4 ex4=>?_⟩;refine ⟨_,rfl,dD hp4 (by decide) (by decide) fun w H5 w0 w1 hp5 ex5=>⟨rfl,_,rfl,?_⟩⟩;have T5:=T4.ex hp4 ex5;refine iW (fun _=>?_) (fun _=>?_)
  ·refine ⟨_,rfl,_,rfl,p,c,t2,l1,l2,l3,l42,ts2,J0,J1,J2,ds2,rfl,hp5,T5,m4,z3,fun t3 l33 l43 ts3 rooms3 f H6 T6 m6 pr hp6 ex6=>⟨_,rfl,?_⟩⟩;refine k t3 l33 l43 ts3 rooms3 _ H6 T6 m6 (fun r hr a ha=>?_) (by rw [pr.length_eq,aj]) (by rw [aj]; omega) hp6 (((ex3.trans ex4).trans ex5).trans ex6);obtain ⟨r0,hr0,rfl⟩:=aD.1 (pr.mem_iff.1 hr);exact (tk4 r0 hr0 a ha).ren
  ·exact ⟨_,rfl,k t2 l3 l42 ts2 J2 ds2 H5 T5 m4 tk4 rfl (by omega) hp5 ((ex3.trans ex4).trans ex5)⟩
abbrev LP:=(List Str×List Str)×List Sg
section
variable (A B:List Str->Sg->List Str)
def eE (here:LP) (q:List LP×Option Sg) (sg:Sg):List LP×Option Sg :=
 match q.2 with
 | some _=>q
 | none=>if sg.head?≠some ("ask":Str)/\A here.1.1 sg=[]/\B here.1.2 sg≠[] then (q.1,some sg)
  else if A here.1.1 sg≠[]/\B here.1.2 sg≠[]/\¬(A here.1.1 sg,B here.1.2 sg)∈q.1.map (·.1) then (q.1++[((A here.1.1 sg,B here.1.2 sg),here.2++[sg])],none) else q
def g_ (here:LP) (L:List LP) (ss:List Sg):List LP×Option Sg:=ss.foldl (eE A B here) (L,none)
def hC (ss:List Sg) (k:List Str×List Str):Nat->List LP×Option (List Sg×Sg)
 | 0=>([(k,[])],none)
 | n+1=>match (hC ss k n).2 with
  | some _=>hC ss k n
  | none=>match (hC ss k n).1[n]? with
   | none=>hC ss k n
   | some c=>((g_ A B c (hC ss k n).1 ss).1,(g_ A B c (hC ss k n).1 ss).2.map fun sg=>(c.2,sg))
end
abbrev Hy (fm fi:List (List Str)) (P:List bm) (L:List LP):Prop:=Paired (fun (c:bm) (x:LP)=>fm[c.key.1]?=some x.1.1/\fi[c.key.2]?=some x.1.2/\c.story=x.2) P L
theorem yR {l:List (List Str)}(nd:l.Nodup) {i j:Nat}{r:Zb}(hi:l[i]?=some r) (hj:l[j]?=some r):i=j:=(List.getElem?_inj (cw.1 hi).1 nd).1 (hi.trans hj.symm)
theorem Hy.has {fm fi:List (List Str)}{P:List bm}{L:List LP}(h:Hy fm fi P L) (n1:fm.Nodup) (n2:fi.Nodup) {w g:Nat}{a b:Zb}(hw:fm[w]?=some a) (hg:fi[g]?=some b):iN P (w,g)=true↔(a,b)∈L.map (·.1):=by
 rw [lA];constructor
 ·intro z;obtain ⟨c,hc,e⟩:=aD.1 z;obtain ⟨i,hi⟩:=gp hc;obtain ⟨x,hx,e1,e2,_⟩:=Paired.getL h hi;rw [e] at e1 e2;rw [hw] at e1;rw [hg] at e2;injection e1 with e1;injection e2 with e2;exact aD.2 ⟨x,bd hx,by rw [e1,e2]⟩
 ·intro z;obtain ⟨x,hx,e⟩:=aD.1 z;obtain ⟨i,hi⟩:=gp hx;obtain ⟨c,hc,e1,e2,_⟩:=Paired.get h hi;rw [e] at e1 e2;refine aD.2 ⟨c,bd hc,?_⟩;have:=yR n1 e1 hw;have:=yR n2 e2 hg;obtain ⟨⟨u,v⟩,_,_⟩:=c
  simp_all
theorem C0 {J0 J1 J2 f:Zb}{ds:List am}{fm:List (List Str)}{l:List (Sg×Nat)}(pr:Paired (fun (a:Sg×Nat) (p:Sg×List Str)=>a.1=p.1/\fm[a.2]?=some p.2) l (stepsF J0 J1 J2 ds f)) {sg:Sg}(hs:sg∈ay J0 J1) :
  match bF l sg with | none=>behF J2 ds f sg=[] | some w=>behF J2 ds f sg≠[]/\fm[w]?=some (behF J2 ds f sg):=by
 cases e:bF l sg with
 | some w =>
  obtain ⟨i,hi⟩:=gp (yI e);obtain ⟨p,hp,e1,e2⟩:=Paired.getL pr hi;have hp:=bd hp;obtain ⟨s,_,e3⟩:=aD.1 (cx.1 hp).1;have h3:=of_decide_eq_true (cx.1 hp).2;rw [<-e3] at e1 e2 h3;have e1:sg=s:=e1;subst e1;exact ⟨h3,e2⟩
 | none =>
  simp only;refine vT fun n=>?_;have hm:(sg,behF J2 ds f sg)∈stepsF J0 J1 J2 ds f:=cx.2 ⟨aD.2 ⟨sg,hs,rfl⟩,zzr1 n⟩;obtain ⟨i,hi⟩:=gp hm;obtain ⟨a,ha,e1,_⟩:=Paired.get pr hi;unfold bF at e;rw [Option.map_eq_none_iff,List.find?_eq_none] at e;exact e a (bd ha) (zzr1 e1)
section
variable {J0 J1 J2 rooms':Zb}{ds ds':List am}{SM SI:qj}
theorem wE (nm:SM.1.fs.Nodup) (ni:SI.1.fs.Nodup) {wl:List (Sg×Nat)}{c:bm}{x:LP}
  (pm:Paired (fun (a:Sg×Nat) (p:Sg×List Str)=>a.1=p.1/\SM.1.fs[a.2]?=some p.2) wl (stepsF J0 J1 J2 ds x.1.1)) (es:c.story=x.2) :
  ∀(ss:List Sg) (l:List (Sg×Nat)) (q:List bm×Option Sg) (q':List LP×Option Sg),(∀s∈ss,s∈ay J0 J1) ->
   Paired (fun (a:Sg×Nat) (p:Sg×List Str)=>a.1=p.1/\SI.1.fs[a.2]?=some p.2) l ((ss.map fun s=>(s,behF rooms' ds' x.1.2 s)).filter fun p=>decide (p.2≠[]))->Hy SM.1.fs SI.1.fs q.1 q'.1->q.2=q'.2 ->
   Hy SM.1.fs SI.1.fs (l.foldl (eG wl c) q).1 (ss.foldl (eE (behF J2 ds) (behF rooms' ds') x) q').1/\(l.foldl (eG wl c) q).2=(ss.foldl (eE (behF J2 ds) (behF rooms' ds') x) q').2
 | [],l,q,q',_,pl,s1,s2=>by
  cases pl;exact ⟨s1,s2⟩
 | s::ss,l,q,q',hs,pl,s1,s2=>by
  have hs':=fun y hy=>hs y (fb _ hy);have hs0:=hs s eg;rw [bw] at pl;rw [kM];by_cases c1:behF rooms' ds' x.1.2 s=[]
  ·rw [List.filter_cons_of_neg (by simp [c1])] at pl;have e:eE (behF J2 ds) (behF rooms' ds') x q' s=q':=by
    unfold eE;cases q'.2 with
    | some _=>rfl
    | none =>
     simp only;rw [if_neg (fun z=>z.2.2 c1),if_neg (fun z=>z.2.1 c1)]
   rw [e];exact wE nm ni pm es ss l q q' hs' pl s1 s2
  rw [List.filter_cons_of_pos (by simp [c1])] at pl;cases pl with
  | @cons a p l ps r t =>
  rw [kM];obtain ⟨e1,e2⟩:=r;have e1:a.1=s:=e1;have e2:SI.1.fs[a.2]?=some (behF rooms' ds' x.1.2 s):=e2;refine wE nm ni pm es ss l _ _ hs' t ?_ ?_
  all_goals
   have lk:=C0 pm hs0;unfold eG eE;rw [<-s2,e1];cases q.2 with
   | some _=>first | exact s1 | exact s2
   | none =>
    simp only;cases e3:bF wl s with
    | none =>
     rw [e3] at lk;simp only at lk ⊢;rw [if_neg (c:=behF J2 ds x.1.1 s≠[]/\_) (fun z=>z.1 lk)];by_cases ca:s.head?=some ("ask":Str)
     ·rw [if_pos ca,if_neg (fun z=>z.1 ca)]; first | exact s1 | exact s2
     ·rw [if_neg ca,if_pos ⟨ca,lk,c1⟩]; try exact s1
    | some w =>
     rw [e3] at lk;simp only at lk ⊢;rw [if_neg (c:=s.head?≠_/\_) (fun z=>lk.1 z.2.1)];have hh:=Hy.has s1 nm ni lk.2 e2;by_cases ch:iN q.1 (w,a.2)=true
     ·rw [if_pos ch,if_neg (fun z=>z.2.2 (hh.1 ch))]; first | exact s1 | exact s2
     ·rw [if_neg ch,if_pos ⟨lk.1,c1,fun z=>ch (hh.2 z)⟩]; try exact cD s1 ⟨lk.2,e2,by show c.story++[s]=x.2++[s]; rw [es]⟩
theorem DQ (om:qi J0 J1 J2 ds SM) (oi:qi J0 J1 rooms' ds' SI) (lm:SM.2.length=SM.1.fs.length) (li:SI.2.length=SI.1.fs.length) :
  ∀n,Hy SM.1.fs SI.1.fs (h_ SI.2 SM.2 n).1 (hC (behF J2 ds) (behF rooms' ds') (ay J0 J1) (closF J2 ds (J2.take 1),closF rooms' ds' (rooms'.take 1)) n).1/\(h_ SI.2 SM.2 n).2=(hC (behF J2 ds) (behF rooms' ds') (ay J0 J1) (closF J2 ds (J2.take 1),closF rooms' ds' (rooms'.take 1)) n).2
 | 0=>⟨.cons ⟨om.zero,oi.zero,rfl⟩ .nil,rfl⟩
 | n+1=>by
  obtain ⟨s1,s2⟩:=DQ om oi lm li n;unfold h_ hC;generalize h_ SI.2 SM.2 n=q at s1 s2;generalize hC (behF J2 ds) (behF rooms' ds') (ay J0 J1) (closF J2 ds (J2.take 1),closF rooms' ds' (rooms'.take 1)) n=q' at s1 s2;rw [<-s2];cases e:q.2 with
  | some y=>simp only; exact ⟨s1,s2⟩
  | none =>
   simp only;cases e1:q.1[n]? with
   | none =>
    have e2:q'.1[n]?=none:=by
     rw [List.getElem?_eq_none_iff] at e1 ⊢;rw [<-Paired.length s1]; exact e1
    rw [e2];exact ⟨s1,s2⟩
   | some c =>
    obtain ⟨x,hx,f1,f2,es⟩:=Paired.getL s1 e1;rw [hx];simp only;have row:∀{S:qj}{rs f:Zb}{es:List am}{i:Nat},qi J0 J1 rs es S->S.2.length=S.1.fs.length->S.1.fs[i]?=some f->Paired (fun (a:Sg×Nat) (p:Sg×List Str)=>a.1=p.1/\S.1.fs[a.2]?=some p.2) (S.2.getD i []) (stepsF J0 J1 rs es f):=by
     intro S rs f es i ok le hf;have lt:i<S.2.length:=by rw [le]; exact (cw.1 hf).1
     have hl:S.2[i]?=some S.2[i]:=bX lt;obtain ⟨f',hf',pr⟩:=ok.st _ _ hl;rw [hf] at hf';injection hf' with hf';rw [rL,hl,hf'];exact pr
    have:=wE (rooms':=rooms') (ds':=ds') om.good.nd oi.good.nd (row om lm f1) es (ay J0 J1) _ (q.1,none) (q'.1,none) (fun _ h=>h) (row oi li f2) s1 rfl;unfold cj g_;rw [this.2,es];exact ⟨this.1,rfl⟩
end
theorem vd {ms ws:List (List (Sg×Nat))}{n:Nat}{x:List Sg×Sg}(h:(h_ ms ws n).2=some x):∀m,(h_ ms ws (n+m)).2=some x
 | 0=>h
 | m+1=>by
  have ih:=vd h m;show (match (h_ ms ws (n+m)).2 with | some _=>_ | none=>_:List bm×Option (List Sg×Sg)).2=_
  rw [ih];exact ih
theorem vc {ms ws:List (List (Sg×Nat))}{P:List bm}(h:h_ ms ws P.length=(P,none)):∀m,h_ ms ws (P.length+m)=(P,none)
 | 0=>h
 | m+1=>by
  have ih:=vc h m;rw [<-DB];unfold h_;rw [ih];simp only;rw [eV (Nat.le_add_right _ _)]
theorem tf {A B:List Str->Sg->List Str}{ss:List Sg}{k:List Str×List Str}:∀n,(∀x∈(hC A B ss k n).1,x.2.length<=n)/\∀x,(hC A B ss k n).2=some x->x.1.length<=n
 | 0=>⟨fun x hx=>by rw [cC.1 (show x∈[(k,([]:List Sg))] from hx)]; exact aG _,fun x h=>nomatch h⟩
 | n+1=>by
  obtain ⟨h1,h2⟩:=tf (A:=A) (B:=B) (ss:=ss) (k:=k) n;unfold hC;generalize hC A B ss k n=q at h1 h2;cases e:q.2 with
  | some y=>simp only; exact ⟨fun x hx=>pb (h1 x hx),fun x h=>pb (h2 x h)⟩
  | none =>
   simp only;cases e1:q.1[n]? with
   | none=>simp only; exact ⟨fun x hx=>pb (h1 x hx),fun x h=>pb (h2 x h)⟩
   | some c =>
    have hc:=h1 c (bd e1);simp only;refine ⟨?_,fun x h=>?_⟩
    ·have:∀(l:List Sg) (r:List LP×Option Sg),(∀x∈r.1,x.2.length<=n+1)->∀x∈(l.foldl (eE A B c) r).1,x.2.length<=n+1:=by
      intro l
      induction l with
      | nil=>intro r h; exact h
      | cons s l ih =>
       intro r h;rw [kM];refine ih _ fun x hx=>?_;unfold eE at hx;cases er:r.2 with
       | some _=>rw [er] at hx; exact h x hx
       | none =>
        rw [er] at hx;simp only at hx;split at hx
        ·exact h x hx
        ·split at hx
         ·rcases bx.1 hx with hx | hx
          ·exact h x hx
          ·rw [cC.1 hx];show (c.2++[s]).length<=n+1;rw [aM]; simpa using hc
         ·exact h x hx
     exact this ss _ fun x hx=>pb (h1 x hx)
    ·obtain ⟨sg,_,e2⟩:=rK.1 h;rw [<-e2];exact pb hc
def leastF (J0 J1 J2 rooms':Zb) (ds ds':List am):Option (List Sg×Sg):=(hC (behF J2 ds) (behF rooms' ds') (ay J0 J1) (closF J2 ds (J2.take 1),closF rooms' ds' (rooms'.take 1)) 300).2
theorem hU.part {K:Za}{C x M fa sa na ta:Addr}{us ws:Ze}{m:gl}{H H':Hp}(h:hU K C H x M fa sa na ta us ws m) (e:∀b o,H b=some o->(∀k,o=.dT k->b=na)->H' b=some o):hU K C H' x M fa sa na ta us ws m:=by
 have k:gJ H H':=fun b xs q=>e _ _ q fun _ z=>nomatch z;obtain ⟨⟨dx,fs,g,r⟩,h1,h2,h3,h4,h5,h6⟩:=h;refine ⟨⟨dx,fs,e _ _ g fun _ z=>(nomatch z),r⟩,e _ _ h1 fun _ z=>(nomatch z),Paired.mapP h2 fun _ _ r=>k _ _ r,e _ _ h3 fun _ z=>(nomatch z),Paired.mapP h4 fun w s r=>⟨r.1,?_⟩,e _ _ h5 fun _ _=>rfl,h6⟩;obtain ⟨gs,g1,g2⟩:=r.2;exact ⟨gs,e _ _ g1 fun _ z=>(nomatch z),Paired.mapP g2 fun _ _ r=>bT.kt k r⟩
theorem DS {J0 J1:Zb}{sg:Sg}(h:sg∈ay J0 J1):sg≠[]:=by
 unfold ay at h;intro z;subst z;rcases bx.1 h with h | h
 ·rcases bx.1 h with h | h
  ·obtain ⟨w,_,e⟩:=aD.1 h; cases e
  ·obtain ⟨w,_,e⟩:=aD.1 h; cases e
 ·have:=cC.1 h; cases this
theorem qi.steps {J0 J1 J2:Zb}{ds:List am}{S:qj}(ok:qi J0 J1 J2 ds S) {i:Nat}{p:Sg×Nat}(hp:p∈S.2.getD i []):p.2<S.1.fs.length/\p.1≠[]:=by
 rw [rL] at hp;cases e:S.2[i]? with
 | none=>rw [e] at hp; cases hp
 | some l =>
  rw [e] at hp;obtain ⟨f,_,pr⟩:=ok.st i l e;obtain ⟨j,hj⟩:=gp hp;obtain ⟨q,hq,e1,e2⟩:=Paired.getL pr hj;obtain ⟨s,hs,e3⟩:=aD.1 (cx.1 (bd hq)).1;exact ⟨(cw.1 e2).1,by rw [e1,<-e3]; exact DS hs⟩
theorem Good.few4 {J2:Zb}{m:gl}(g:Good J2 m) (hr:J2.length<=4):m.fs.length<=16:=by
 have h:=jI g.nd (R:=mC J2) (fun f hf=>by obtain ⟨p,rfl⟩:=g.isF f hf; exact pO p J2);rw [pP] at h;have:2 ^ J2.length<=2 ^ 4:=Nat.pow_le_pow_right (by decide) hr;omega
theorem iu {H0 H:Hp}{na:Addr}{ts:Ze}{st:List (List (Sg×Nat))}(h:o0 H0 na H ts st):∀t∈ts,H0 t=none/\t≠na/\∃l,H t=some (.dT l):=fun t ht=>by
 obtain ⟨i,hi⟩:=gp ht;obtain ⟨l,_,r⟩:=Paired.getL h hi;exact ⟨r.1,r.2.1,_,r.2.2⟩
theorem Paired.mapM {α β:Type}{F G:α->β->Prop}:∀{as:List α}{bs:List β},Paired F as bs->(∀a b,a∈as->F a b->G a b)->Paired G as bs
 | _,_,.nil,_=>.nil
 | _,_,.cons r t,h=>.cons (h _ _ eg r) (Mum.Paired.mapM t fun a b ha=>h a b (fb _ ha))
inductive sp_keeps (K:Za) (Cm:Addr) (vs:List V) (H:Hp) (Q:VK) (E:XK):Prop
 | mk (x y:Addr) (J0 J1 J2 rooms':Zb) (ds ds':List am):(vs=[.ref x,.ref y])->(bB Cm H x J0 J1 J2 ds)->(bB Cm H y J0 J1 rooms' ds')->((∀r∈rooms',∀a∈J0,hJ ds' r a))->(J2.length<=4)->(rooms'.length<=4)->((leastF J0 J1 J2 rooms' ds ds'=none->∀(u l:Addr) (ps:Ze) (H':Hp),H' u=some (.tup [.str "keeps",.ref l])->H' l=some (.lst (ps.map V.ref))->ps.length<=64->H l=none->ac H H'->Q (.ref u) H'))->(∀(s:List Sg) (g:Sg),leastF J0 J1 J2 rooms' ds ds'=some (s,g)->∀(u l b:Addr) (gs:Ze) (H':Hp),H' u=some (.tup [.str "fault",.ref l,.ref b])->H' l=some (.lst (gs.map V.ref))->Paired (fun g (sg:Sg)=>bT K H' g (sg.map V.str)) gs s->bT K H' b (g.map V.str)->H l=none->ac H H'->Q (.ref u) H')->sp_keeps K Cm vs H Q E
theorem EJ {K:Za}{Cm:Addr}{H:Hp}{Q:VK}{E:XK}{x y:Addr}{J0 J1 J2 rooms':Zb}{ds ds':List am}(M:bB Cm H x J0 J1 J2 ds) (N:bB Cm H y J0 J1 rooms' ds') (tk:∀r∈rooms',∀a∈J0,hJ ds' r a) (z1:J2.length<=4) (z2:rooms'.length<=4)
  (kn:leastF J0 J1 J2 rooms' ds ds'=none->∀(u l:Addr) (ps:Ze) (H':Hp),H' u=some (.tup [.str "keeps",.ref l])->H' l=some (.lst (ps.map V.ref))->ps.length<=64->H l=none->ac H H'->Q (.ref u) H')
  (kf:∀(s:List Sg) (g:Sg),leastF J0 J1 J2 rooms' ds ds'=some (s,g)->∀(u l b:Addr) (gs:Ze) (H':Hp),H' u=some (.tup [.str "fault",.ref l,.ref b])->H' l=some (.lst (gs.map V.ref))->Paired (fun g (sg:Sg)=>bT K H' g (sg.map V.str)) gs s->bT K H' b (g.map V.str)->H l=none->ac H H'->Q (.ref u) H'):sp_keeps K Cm [.ref x,.ref y] H Q E:=by
 exact ⟨x,y,J0,J1,J2,rooms',ds,ds',rfl,M,N,tk,z1,z2,kn,kf⟩
theorem Ed {K:Za}{C Cm:Addr}(c:FC K C) {vs:List V}{H:Hp}{Q:VK}{E:XK}(h:sp_keeps K Cm vs H Q E):FH K (jY K C Cm) (gS K) C (lQ K C Cm) (fP Cm) (bC Q) (start GI vs) H:=by
 classical
 obtain ⟨x,y,J0,J1,J2,rooms',ds,ds',rfl,MX,MY,tk,z4,z4',kn,kf⟩:=h;refine ⟨_,rfl,_,rfl,x,y,J0,J1,J2,rooms',ds,ds',rfl,MX,MY,tk,fun H1 S1=>?_⟩;have MX1:=MX.same S1;have MY1:=MY.same S1;refine ⟨_,rfl,fun o1 d1 ho1 hd1 ne1=>?_⟩;have S2:ac H1 (upd (upd H1 d1 (.own o1)) o1 (.ins C d1 [])):=fun b o e=>by rw [af (ae e ho1)]; exact kp e hd1
 refine ⟨H1,o1,d1,x,J0,J1,J2,ds,rfl,aa,MX1,ho1,S2,by omega,fun fa sa na ta us ws ts S j H3 F3 ta3 st3 ok3 len3 _ S3=>⟨rfl,?_⟩⟩;clear S2;obtain ⟨dx1,fs1,g1,l1,l2,l3,l4,l5,l6,l7⟩:=F3.ob;refine ⟨_,rfl,o1,C,dx1,fs1,.ref ta,rfl,g1,c.cls,c.a5,l5,?_⟩;refine ⟨_,rfl,fun o2 d2 ho2 hd2 ne2=>?_⟩;have S4:ac H3 (upd (upd H3 d2 (.own o2)) o2 (.ins C d2 [])):=fun b o e=>by rw [af (ae e ho2)]; exact kp e hd2
 refine ⟨H3,o2,d2,y,J0,J1,rooms',ds',rfl,aa,MY1.same S3,ho2,S4,by omega,fun fa' sa' na' ta' us' ws' ts' SI j' H5 F5 ta5 st5 ok5 len5 itI S5=>⟨rfl,?_⟩⟩;clear S4;obtain ⟨dx2,fs2,g2,m1,m2,m3,m4,m5,m6,m7⟩:=F5.ob;refine ⟨o2,C,dx2,fs2,.ref ta',rfl,g2,c.cls,c.a5,m5,?_⟩
 let H0:Hp:=fun b=>if b∈ts∨b∈ts' then none else H5 b
 have hz:∀{b:Addr},b∈ts∨b∈ts'->H0 b=none:=fun h=>if_pos h;have hk:∀{b:Addr}{o:HO},H5 b=some o->(∀k,o=.dT k->b∉ts/\b∉ts')->H0 b=some o:=fun {b o} e n=>by
  have:¬(b∈ts∨b∈ts'):=fun z=>by
   have hd:∃l,H5 b=some (.dT l):=by
    rcases z with z | z
    ·obtain ⟨_,_,l,hl⟩:=iu st3 b z; exact ⟨l,S5 _ _ hl⟩
    ·exact (iu st5 b z).2.2
   obtain ⟨l,hl⟩:=hd;rw [e] at hl;injection hl with hl;obtain ⟨n1,n2⟩:=n _ hl;exact z.elim n1 n2
  show (if b∈ts∨b∈ts' then none else H5 b)=some o
  rw [if_neg this]; exact e
 have SH:ac H H0:=fun b o e=>by
  have e1:=S3 _ _ (S1 _ _ e);refine hk (S5 _ _ e1) fun k _=>⟨fun z=>?_,fun z=>?_⟩
  ·have:=(iu st3 b z).1; rw [S1 _ _ e] at this; cases this
  ·have:=(iu st5 b z).1; rw [e1] at this; cases this
 have F0:hU K C H0 o1 x fa sa na ta us ws S.1:=(F3.same S5).part fun b o e n=>hk e fun k z=>by
  have:=n k z;subst this;refine ⟨fun z=>(iu st3 b z).2.1 rfl,fun z=>?_⟩;have:=(iu st5 b z).1;rw [F3.hna] at this; cases this
 have ta5':=S5 _ _ ta3;have I:mr H0 H5 ta ta' ts ts' S.2 SI.2:=by
  refine ⟨ta5',ta5,?_,?_,fun b o e=>?_⟩
  ·refine Mum.Paired.mapM st3 fun t _ ht r=>⟨hz (.inl ht),.inl (S5 _ _ r.2.2)⟩
  ·refine Mum.Paired.mapM st5 fun t _ ht r=>⟨hz (.inr ht),.inl r.2.2⟩
  ·have e:(if b∈ts∨b∈ts' then none else H5 b)=some o:=e
   split at e
   ·cases e
   ·exact e
 have zt:ts.length=S.1.fs.length:=by rw [Paired.length st3,len3]
 have zt':ts'.length=SI.1.fs.length:=by rw [Paired.length st5,len5]
 have f16:=ok3.good.few4 z4;have f16':=ok5.good.few4 z4';have pos:∀{rs:Zb}{es:List am}{S:qj},qi J0 J1 rs es S->0<S.1.fs.length:=fun {rs es S} ok=>by
  rcases vE S.1.fs.length with z | z
  ·have:=ok.zero; rw [eV (by omega)] at this; cases this
  ·exact z
 have LC:Ix ts ts' S.2 SI.2:=⟨by omega,by omega,fun i p hp=>by rw [zt]; exact (ok3.steps hp).1,fun i p hp=>by rw [zt']; exact (ok5.steps hp).1,fun i p hp=>(ok5.steps hp).2⟩;have prod:ts.length * ts'.length<=16 * 16:=rN (by omega) (by omega);have sim:=DQ ok3 ok5 len3 len5;refine ⟨H0,ta,ta',ts,ts',S.2,SI.2,rfl,I,LC,by rw [zt]; exact pos ok3,by rw [zt']; exact pos ok5,fun P H6 okP itP lenP ro I6=>?_,fun P i cm p sb t lst gs H6 okP itP lt _ _ _ _ _ ht hl hg hb t0 l0 I6=>?_⟩
 ·refine ⟨_,rfl,_,rfl,?_⟩;rw [zzr1 rfl];refine bW ?_;have lf:leastF J0 J1 J2 rooms' ds ds'=none:=by
   unfold leastF;rw [<-(sim 300).2];have:=vc itP (300-P.length);rw [show P.length+(300-P.length)=300 by omega] at this;rw [this]
  have simP:=(sim P.length).1;rw [itP] at simP;have F6:=F0.same I6.S;have ins:∀r:Row,vA P SI r.1 r.2->r.1∈rooms'/\r.2<ts.length:=fun r ⟨cm,hc,e,F,hF,hr⟩=>by
   obtain ⟨i,hi⟩:=gp hc;obtain ⟨w,_,e1,_⟩:=Paired.getL simP hi;refine ⟨(ok5.good.isF F (bd hF)).sub _ hr,?_⟩;rw [zt,<-e];exact (cw.1 e1).1
  have r0:rooms'[0]?=some (rooms'.headD ""):=by
   cases e:rooms' with
   | nil=>exact absurd e MY.ok.rooms0
   | cons a b=>rfl
  have hb:∀d∈ds',d.b∈rooms':=fun d hd=>(MY.ok.good d hd).b;have first:vA P SI (rooms'.headD "") 0:=by
   obtain ⟨r,e⟩:=okP.zero;refine ⟨⟨(0,0),none,[]⟩,by rw [e]; exact eg,rfl,_,ok5.zero,?_⟩;unfold closF;refine cx.2 ⟨bd r0,zzr1 ⟨rooms'.headD "",?_,.inl rfl⟩⟩;cases e:rooms' with
   | nil=>exact absurd e MY.ok.rooms0
   | cons a b=>exact eg
  have shut:∀f∈SI.1.fs,Fk ds' f:=by rw [itI]; exact Br hb j'
  refine ⟨_,rfl,_,rfl,H0,o1,y,x,fa,sa,na,ta,us,ws,ts,S.1,S.2,J0,J1,rooms',ds',fun r:Row=>vA P SI r.1 r.2,rooms'.headD "",rfl,F6,I6.h1,I6.r1,(MY.same SH).same I6.S,⟨ins,fun r hr=>FO MY.ok ok5 len5 ro shut hr⟩,zt,by omega,r0,first,fun l ps L H7 hl pr nd all hl0 S7=>⟨(by show 2<=ai; decide),fun u hu=>?_⟩⟩
  have S8:ac H7 (upd H7 u (.tup [.str "keeps",.ref l])):=ac.new hu;refine kn lf u l ps _ aa (S8 _ _ hl) ?_ ((SH.trans I6.S).free hl0) (((SH.trans I6.S).trans S7).trans S8);rw [Paired.length pr];have:=yg nd fun r hr=>ins r (all r hr);have:rooms'.length * ts.length<=4 * 16:=rN z4' (by omega);omega
 ·refine ⟨_,rfl,_,rfl,?_⟩;rw [zzr0 (fun z=>by cases z)];refine a_ ?_;have lf:leastF J0 J1 J2 rooms' ds ds'=some (cm.story,p.1):=by
   unfold leastF;rw [<-(sim 300).2];have:=vd itP (300-(i+1));rw [show i+1+(300-(i+1))=300 by omega] at this;exact this
  refine ⟨_,rfl,t,_,rfl,bj.of ht,rfl,_,_,rfl,_,_,rfl,rfl,?_⟩;refine ⟨_,rfl,_,rfl,(by show 3<=ai; decide),fun u hu=>?_⟩;have S8:ac H6 (upd H6 u (.tup [.str "fault",.ref lst,.ref sb])):=ac.new hu;exact kf cm.story p.1 lf u lst sb gs _ aa (S8 _ _ hl) (Paired.mapP hg fun _ _ r=>bT.kt (ac.kt S8) r) (bT.kt (ac.kt S8) hb) (SH.free l0) ((SH.trans I6.S).trans S8)
abbrev AX:=List Str×List Str
def gC (k:AX):TK:=.t [iX k.1,iX k.2]
theorem Es {a b:AX}(h:gC a=gC b):a=b:=by
 unfold gC at h;injection h with h;injection h with h1 h2;injection h2 with h2 _;obtain ⟨a1,a2⟩:=a;obtain ⟨b1,b2⟩:=b;rw [show a1=b1 from jb h1,show a2=b2 from jb h2]
theorem iP (k:AX):(gC k).depth<=8:=by
 show max (iX k.1).depth (max (iX k.2).depth 0)+1<=8;rw [lM,lM]
 decide
def zo (H:Hp) (b:Addr) (k:AX):Prop:=∃u v,H b=some (.tup [.ref u,.ref v])/\SignAt H u k.1/\SignAt H v k.2
theorem zo.kt {H H':Hp}{b:Addr}{k:AX}(kt:gJ H H'):zo H b k->zo H' b k:=fun ⟨u,v,h1,h2,h3⟩=>⟨u,v,kt _ _ h1,kt _ _ h2,kt _ _ h3⟩
theorem zo.tk {H:Hp}{b:Addr}{k:AX}(h:zo H b k):cN H (gC k) (.ref b):=by
 obtain ⟨u,v,h1,h2,h3⟩:=h;unfold gC cN;refine ⟨b,_,rfl,h1,?_⟩;unfold TKAts;refine ⟨_,_,rfl,SignAt.tk h2,?_⟩;unfold TKAts;refine ⟨_,_,rfl,SignAt.tk h3,?_⟩;unfold TKAts
 rfl
def xA (L:List AX):List (TK×V):=L.map fun k=>(gC k,.bl true)
theorem wR (k:AX):∀L:List AX,(bJ (xA L) (gC k)).isSome=decide (k∈L)
 | []=>rfl
 | x::L=>by
  show (bJ ((gC x,V.bl true)::xA L) (gC k)).isSome=_;by_cases c:x=k
  ·rw [cp (by show gC x=gC k; rw [c])];simp [c]
  ·rw [cf (fun z=>c (Es z)),wR k L];simp [c_ c]
theorem Go {k:AX}{L:List AX}(n:¬k∈L):cq (xA L) (gC k) (.bl true)=xA (L++[k]):=by
 have vn:bJ (xA L) (gC k)=none:=by
  have:=wR k L;rw [zzr0 n] at this;cases e:bJ (xA L) (gC k) with
  | none=>rfl
  | some v=>rw [e] at this; cases this
 rw [ff _ vn];unfold xA;rw [ax]; rfl
def Fo (H:Hp) (pl e:Addr) (x:LP):Prop:=∃b st gs,H e=some (.tup [.ref b,.ref st])/\zo H b x.1/\H st=some (.lst (gs.map V.ref))/\st≠pl/\kH H gs x.2
theorem Fo.part {H H':Hp}{pl e:Addr}{x:LP}(k:∀b o,H b=some o->(∀l,o≠.dT l)->b≠pl->H' b=some o) (hp:∃xs,H pl=some (.lst xs)):Fo H pl e x->Fo H' pl e x:=fun ⟨b,st,gs,h1,h2,h3,h4,h5⟩=>by
 obtain ⟨xs,hp⟩:=hp;have kt:gJ H H':=fun b ys q=>k _ _ q (fun _ z=>nomatch z) fun z=>by rw [z,hp] at q; cases q
 exact ⟨b,st,gs,kt _ _ h1,h2.kt kt,k _ _ h3 (fun _ z=>nomatch z) h4,h4,h5.kt kt⟩
structure tT (H0 H:Hp) (pl kd sl:Addr) (es us:Ze) (ss:List Sg) (L:List LP):Prop where
 S:ac H0 H
 hpl:H pl=some (.lst (es.map V.ref))
 hes:Paired (Fo H pl) es L
 hkd:H kd=some (.dT (xA (L.map (·.1))))
 hsl:H sl=some (.lst (us.map V.ref))
 hus:kH H us ss
 nsl:sl≠pl
 p0:H0 pl=none
 k0:H0 kd=none
section
variable {H0 H H':Hp}{pl kd sl e:Addr}{es us:Ze}{ss:List Sg}{L:List LP}
theorem tT.same (h:tT H0 H pl kd sl es us ss L) (S:ac H H'):tT H0 H' pl kd sl es us ss L :=
 ⟨h.S.trans S,S _ _ h.hpl,Paired.mapP h.hes fun _ _ r=>r.part (fun _ _ q _ _=>S _ _ q) ⟨_,h.hpl⟩,S _ _ h.hkd,S _ _ h.hsl,h.hus.kt (ac.kt S),h.nsl,h.p0,h.k0⟩
theorem tT.add (h:tT H0 H pl kd sl es us ss L) {x:LP}(n:¬x.1∈L.map (·.1)) {H2:Hp}(he:Fo H2 pl e x) (S2:ac (upd H kd (.dT (cq (xA (L.map (·.1))) (gC x.1) (.bl true)))) H2) :
  tT H0 (upd H2 pl (.lst (es.map V.ref++[.ref e]))) pl kd sl (es++[e]) us ss (L++[x]):=by
 have npk:pl≠kd:=fun z=>by have:=h.hpl; rw [z,h.hkd] at this; cases this
 have nsk:sl≠kd:=fun z=>by have:=h.hsl; rw [z,h.hkd] at this; cases this
 have pl2:H2 pl=some (.lst (es.map V.ref)):=S2 _ _ (by rw [af npk]; exact h.hpl);have kt:gJ H (upd H2 pl (.lst (es.map V.ref++[.ref e]))):=((BP h.hkd).trans (ac.kt S2)).trans (cA pl2);refine ⟨fun b o q=>?_,by rw [aa,ax]; rfl,?_,?_,?_,h.hus.kt kt,h.nsl,h.p0,h.k0⟩
 ·rw [af (ae q h.p0)];exact S2 _ _ (by rw [af (ae q h.k0)]; exact h.S _ _ q)
 ·refine cD (Paired.mapP h.hes fun a y r=>r.part (fun b o q n nb=>by
   rw [af nb];exact S2 _ _ (by rw [af (fun z=>by rw [z,h.hkd] at q; exact n _ (by injection q with q; exact q.symm))]; exact q)) ⟨_,h.hpl⟩) ?_
  exact he.part (fun b o q _ nb=>by rw [af nb]; exact q) ⟨_,pl2⟩
 ·rw [af npk.symm,ax];show H2 kd=some (.dT (xA (L.map (·.1)++[x.1])));rw [<-Go n];exact S2 _ _ aa
 ·rw [af h.nsl];exact S2 _ _ (by rw [af nsk]; exact h.hsl)
end
theorem Gv {K:Za}{H:Hp}{a:Addr}{f:Zb}{Q:VK}(ha:SignAt H a f) (k:∀q,H q=none->Q (.bl (decide (f=[]))) (upd H q (.tup []))):(∀σ,(aZ be) σ H fun y H2=>kG K (.ref a) y H2 Q):=fun σ =>
 ⟨(by show 0<=ai; decide),fun q hq=>⟨.t (f.map fR),.t [],bN (bj.of (kp ha hq)),yY (bj.of aa),by have:=cz f; unfold kK at this; rw [this]; decide,by decide,by
  rw [decide_eq_decide.mpr (show DT.t (f.map fR)=DT.t []↔f=[] from ⟨fun z=>rM.mp (by injection z),fun z=>by rw [z]; rfl⟩)]; exact k q hq⟩⟩
theorem wN {K:Za}{H:Hp}{a:Addr}{f:Zb}{Q:VK}(ha:SignAt H a f) (k:∀q,H q=none->Q (.bl (!decide (f=[]))) (upd H q (.tup []))):(∀σ,(aZ be) σ H fun y H2=>oB K (.ref a) y H2 Q):=fun σ =>
 ⟨(by show 0<=ai; decide),fun q hq=>⟨.t (f.map fR),.t [],bN (bj.of (kp ha hq)),yY (bj.of aa),by have:=cz f; unfold kK at this; rw [this]; decide,by decide,by
  rw [decide_eq_decide.mpr (show DT.t (f.map fR)=DT.t []↔f=[] from ⟨fun z=>rM.mp (by injection z),fun z=>by rw [z]; rfl⟩)]; exact k q hq⟩⟩
def BO (K:Za):TS:=(bD (jC (aJ (aE (oB K) (aE (fS K) zb (tC (.int 0))) (aZ (be)))) (jC (aJ (aE (oB K) (aE (fS K) zb (tC (.int 1))) (aZ (be)))) (tB (eO K zb V4)))) (ao (kA V4 zb (tC (.bl true)))
 (bE (pN K "list" bY V3 (au (aZ (aB zb (aE pU V9 (dk (aw xm))))) be)))) (aU))
def Hh (K:Za) (sp:Sp):TS:=(ao (aP (aZ (aB (aO sp (d9 V0 V7 xm)) (aO sp (d9 V1 V8 xm)))) Iq)
 (ao (bD (jC (aJ (aE tZ (aE (fS K) xm (tC (.int 0))) (tC (.str "ask")))) (jC (aJ (aE (kG K) (aE (fS K) zb (tC (.int 0))) (aZ (be)))) (aJ (aE (oB K) (aE (fS K) zb (tC (.int 1))) (aZ (be)))))) (aT (aZ (d9 (tC (.str "fault")) V9 xm))) (aU))
 (BO K)))
structure HV (H:Hp) (t t':Addr) (J0 J1 J2 rooms':Zb) (ds ds':List am):Prop where
 a:∃l1 l2 l3 l4 ts,iQ H t l1 l2 l3 l4 ts J0 J1 J2 ds
 b:∃l1 l2 l3 l4 ts,iQ H t' l1 l2 l3 l4 ts J0 J1 rooms' ds'
 ma:aQ J0 J1 J2 ds
 mb:aQ J0 J1 rooms' ds'
theorem HV.same {H H':Hp}{t t':Addr}{J0 J1 J2 rooms':Zb}{ds ds':List am}(h:HV H t t' J0 J1 J2 rooms' ds ds') (S:ac H H'):HV H' t t' J0 J1 J2 rooms' ds ds':=by
 obtain ⟨⟨l1,l2,l3,l4,ts,T⟩,⟨m1,m2,m3,m4,us,U⟩,ma,mb⟩:=h;exact ⟨⟨l1,l2,l3,l4,ts,T.same S⟩,⟨m1,m2,m3,m4,us,U.same S⟩,ma,mb⟩
section
variable {K:Za}{H0:Hp}{t t' bg pl kd sl:Addr}{us:Ze}{J0 J1 J2 rooms':Zb}{ds ds':List am}{D:kJ}{n:Int}{x:LP}{fa mi st:Addr}{gs:Ze}
structure zc (H:Hp) (pl fa mi st:Addr) (gs:Ze) (x:LP):Prop where
 f:SignAt H fa x.1.1
 m:SignAt H mi x.1.2
 s:H st=some (.lst (gs.map V.ref))
 g:kH H gs x.2
 n:st≠pl
theorem zc.same {H H':Hp}(h:zc H pl fa mi st gs x) (S:ac H H'):zc H' pl fa mi st gs x:=⟨S _ _ h.f,S _ _ h.m,S _ _ h.s,h.g.kt (ac.kt S),h.n⟩
theorem Gm (Tw:HV H0 t t' J0 J1 J2 rooms' ds ds') {H:Hp}{es:Ze}{L:List LP}{g:Addr}{sg:Sg}{x11:Option V}(A:tT H0 H pl kd sl es us (ay J0 J1) L) (R:zc H pl fa mi st gs x) (hg:SignAt H g sg) (hs:sg∈ay J0 J1) (lf:x.1.1.length<=1000) (lm:x.1.2.length<=1000) (ll:L.length<=4000) (lx:x.2.length<=1000)
  (fault:∀(u:Addr) (H2:Hp),(eE (behF J2 ds) (behF rooms' ds') x (L,none) sg).2=some sg->H2 u=some (.tup [.str "fault",.ref st,.ref g])->zc H2 pl fa mi st gs x->SignAt H2 g sg->ac H0 H2->D.rt (.ref u) H2)
  (next:∀(es':Ze) (x11:Option V) (H2:Hp),(eE (behF J2 ds) (behF rooms' ds') x (L,none) sg).2=none->tT H0 H2 pl kd sl es' us (ay J0 J1) (eE (behF J2 ds) (behF rooms' ds') x (L,none) sg).1->zc H2 pl fa mi st gs x->D.nx [some (.ref t),some (.ref t'),some (.ref bg),some (.ref pl),some (.ref kd),some (.ref sl),some (.int n),some (.ref fa),some (.ref mi),some (.ref st),some (.ref g),x11] H2) :
  Hh K (on K) D [some (.ref t),some (.ref t'),some (.ref bg),some (.ref pl),some (.ref kd),some (.ref sl),some (.int n),some (.ref fa),some (.ref mi),some (.ref st),some (.ref g),x11] H:=by
 obtain ⟨l1,l2,l3,l4,ts,T⟩:=(Tw.same A.S).a;refine ⟨_,rfl,_,rfl,_,rfl,t,fa,g,l1,l2,l3,l4,ts,J0,J1,J2,x.1.1,sg,ds,rfl,T,Tw.ma,bj.of R.f,bj.of hg,lf,fun ba H1 hba S1=>?_⟩;obtain ⟨m1,m2,m3,m4,ts',T'⟩:=(Tw.same (A.S.trans S1)).b;refine ⟨_,rfl,_,rfl,_,rfl,t',mi,g,m1,m2,m3,m4,ts',J0,J1,rooms',x.1.2,sg,ds',rfl,T',Tw.mb,bj.of (S1 _ _ R.m),bj.of (S1 _ _ hg),lm,fun bb H2 hbb S2=>⟨(by show 2<=ai; decide),fun b hb=>?_⟩⟩;have S3:ac H (upd H2 b (.tup [.ref ba,.ref bb])):=(S1.trans S2).trans (ac.new hb);have fp:zo (upd H2 b (.tup [.ref ba,.ref bb])) b (behF J2 ds x.1.1 sg,behF rooms' ds' x.1.2 sg):=⟨ba,bb,aa,kp (S2 _ _ hba) hb,kp hbb hb⟩;have A3:=A.same S3;have R3:=R.same S3;have g3:=S3 _ _ hg;have b3:upd H2 b (.tup [.ref ba,.ref bb]) b=some (.tup [.ref ba,.ref bb]):=aa;have ba3:SignAt (upd H2 b (.tup [.ref ba,.ref bb])) ba (behF J2 ds x.1.1 sg):=kp (S2 _ _ hba) hb;have bb3:SignAt (upd H2 b (.tup [.ref ba,.ref bb])) bb (behF rooms' ds' x.1.2 sg):=kp hbb hb;have e1:eE (behF J2 ds) (behF rooms' ds') x (L,none) sg=if sg.head?≠some ("ask":Str)/\behF J2 ds x.1.1 sg=[]/\behF rooms' ds' x.1.2 sg≠[] then (L,some sg)
  else if behF J2 ds x.1.1 sg≠[]/\behF rooms' ds' x.1.2 sg≠[]/\¬(behF J2 ds x.1.1 sg,behF rooms' ds' x.1.2 sg)∈L.map (·.1) then (L++[((behF J2 ds x.1.1 sg,behF rooms' ds' x.1.2 sg),x.2++[sg])],none) else (L,none):=rfl
 generalize upd H2 b (.tup [.ref ba,.ref bb])=H3 at S3 fp A3 R3 g3 b3 ba3 bb3 ⊢;generalize behF J2 ds x.1.1 sg=fA at fp ba3 e1;generalize behF rooms' ds' x.1.2 sg=fB at fp bb3 e1;have rest:∀{H4:Hp},ac H3 H4->¬(sg.head?≠some ("ask":Str)/\fA=[]/\fB≠[])->BO K D [some (.ref t),some (.ref t'),some (.ref bg),some (.ref pl),some (.ref kd),some (.ref sl),some (.int n),some (.ref fa),some (.ref mi),some (.ref st),some (.ref g),some (.ref b)] H4:=by
  intro H4 S4 n1;rw [if_neg n1] at e1;have idle:¬(fA≠[]/\fB≠[]/\¬(fA,fB)∈L.map (·.1))->∀{H5:Hp},ac H3 H5->D.nx [some (.ref t),some (.ref t'),some (.ref bg),some (.ref pl),some (.ref kd),some (.ref sl),some (.int n),some (.ref fa),some (.ref mi),some (.ref st),some (.ref g),some (.ref b)] H5:=fun n2 H5 S5=>by
   rw [if_neg n2] at e1;exact next es _ H5 (by rw [e1]) (by rw [e1]; exact A3.same S5) (R3.same S5)
  refine ⟨_,rfl,b,_,0,_,rfl,rfl,bj.of (S4 _ _ b3),rfl,wN (S4 _ _ ba3) (fun q hq=>⟨_,rfl,?_⟩) _⟩;have S5:ac H3 (upd H4 q (.tup [])):=S4.trans (ac.new hq);generalize upd H4 q (.tup [])=H5 at S5 ⊢;by_cases c1:fA=[]
  ·rw [zzr1 c1];exact a_ (a_ (idle (fun z=>z.1 c1) S5))
  rw [zzr0 c1];refine bW ?_;refine ⟨_,rfl,b,_,1,_,rfl,rfl,bj.of (S5 _ _ b3),rfl,wN (S5 _ _ bb3) (fun q hq=>⟨_,rfl,?_⟩) _⟩;have S6:ac H3 (upd H5 q (.tup [])):=S5.trans (ac.new hq);generalize upd H5 q (.tup [])=H6 at S6 ⊢;by_cases c2:fB=[]
  ·rw [zzr1 c2];exact a_ (a_ (idle (fun z=>z.2.1 c2) S6))
  rw [zzr0 c2];refine bW ?_;have A6:=A3.same S6;have R6:=R3.same S6;have fp6:=fp.kt (ac.kt S6);refine ⟨_,rfl,_,rfl,kd,_,rfl,.inr ⟨_,gC (fA,fB),b,.inl A6.hkd,rfl,cN.isIn 8 (iP _) fp6.tk,iP _,rfl⟩,_,rfl,?_⟩;rw [wR];by_cases c3:(fA,fB)∈L.map (·.1)
  ·rw [zzr1 c3];exact a_ (idle (fun z=>z.2.2 c3) S6)
  rw [zzr0 c3];refine bW ?_;rw [if_pos ⟨c1,c2,c3⟩] at e1;have lk:(xA (L.map (·.1))).length<ai:=by unfold xA; rw [aj,aj,ky]; omega
  refine ⟨_,rfl,_,rfl,kd,_,rfl,.inr ⟨_,gC (fA,fB),b,A6.hkd,rfl,fp6.tk,iP _,lk,rfl⟩,?_⟩;have npk:pl≠kd:=fun z=>by have:=A6.hpl; rw [z,A6.hkd] at this; cases this
  have nsk:st≠kd:=fun z=>by have:=R6.s; rw [z,A6.hkd] at this; cases this
  have kt7:gJ H6 (upd H6 kd (.dT (cq (xA (L.map (·.1))) (gC (fA,fB)) (.bl true)))):=BP A6.hkd;have pl7:upd H6 kd (.dT (cq (xA (L.map (·.1))) (gC (fA,fB)) (.bl true))) pl=some (.lst (es.map V.ref)):=by rw [af npk]; exact A6.hpl
  have st7:upd H6 kd (.dT (cq (xA (L.map (·.1))) (gC (fA,fB)) (.bl true))) st=some (.lst (gs.map V.ref)):=by rw [af nsk]; exact R6.s
  have add:=fun {e:Addr}{H2:Hp}=>A6.add (x:=((fA,fB),x.2++[sg])) (e:=e) (H2:=H2) c3;have R7:zc (upd H6 kd (.dT (cq (xA (L.map (·.1))) (gC (fA,fB)) (.bl true)))) pl fa mi st gs x:=⟨kt7 _ _ R6.f,kt7 _ _ R6.m,st7,R6.g.kt kt7,R6.n⟩;have g7:=kt7 _ _ (S6 _ _ g3);have fp7:=fp6.kt kt7;dsimp only at add;generalize upd H6 kd (.dT (cq (xA (L.map (·.1))) (gC (fA,fB)) (.bl true)))=H7 at pl7 st7 add R7 g7 fp7 ⊢;have lg:gs.length=x.2.length:=Paired.length R.g;refine ⟨_,rfl,.inl ⟨rfl,_,aA.of pl7⟩,_,rfl,_,rfl,_,rfl,(by show 1<=ai; decide),fun l1 hl1=>⟨st,l1,_,_,rfl,rfl,kp st7 hl1,aa,by rw [aj,lg,ky]; show x.2.length+1<=_; omega,fun l2 hl2=>⟨(by show 2<=ai; decide),fun e he=>?_⟩⟩⟩;have S8:ac H7 (upd (upd (upd H7 l1 (.lst [.ref g])) l2 (.lst (gs.map V.ref++[.ref g]))) e (.tup [.ref b,.ref l2])):=((ac.new hl1).trans (ac.new hl2)).trans (ac.new he);have np2:l2≠pl:=(ae (kp pl7 hl1) hl2).symm;have l28:upd (upd (upd H7 l1 (.lst [.ref g])) l2 (.lst (gs.map V.ref++[.ref g]))) e (.tup [.ref b,.ref l2]) l2=some (.lst ((gs++[g]).map V.ref)):=by rw [ax]; exact kp aa he
  have e8:upd (upd (upd H7 l1 (.lst [.ref g])) l2 (.lst (gs.map V.ref++[.ref g]))) e (.tup [.ref b,.ref l2]) e=some (.tup [.ref b,.ref l2]):=aa;generalize upd (upd (upd H7 l1 (.lst [.ref g])) l2 (.lst (gs.map V.ref++[.ref g]))) e (.tup [.ref b,.ref l2])=H8 at S8 l28 e8 ⊢;have pl8:=S8 _ _ pl7;have le:es.length=L.length:=Paired.length A.hes;refine ⟨pl,_,.ref e,rfl,rfl,pl8,by rw [aj,le,ky]; omega,?_⟩;have R8:=R7.same S8;have kt9:gJ H8 (upd H8 pl (.lst (es.map V.ref++[.ref e]))):=cA pl8;refine next (es++[e]) _ _ (by rw [e1]) ?_ ⟨kt9 _ _ R8.f,kt9 _ _ R8.m,by rw [af R8.n]; exact R8.s,R8.g.kt kt9,R8.n⟩
  rw [e1];exact add ⟨b,l2,gs++[g],e8,fp7.kt (ac.kt S8),l28,np2,cD R8.g (S8 _ _ g7)⟩ S8
 obtain ⟨s0,rst,hsg⟩:=List.exists_cons_of_ne_nil (DS hs);have at0:oY (sg.map V.str) 0=some (.str s0):=by rw [hsg]; exact bI (j:=0) rfl
 refine ⟨_,rfl,g,_,0,_,rfl,rfl,bj.of g3,at0,rfl,_,rfl,?_⟩;refine C9 (P:=sg.head?≠some ("ask":Str)) (by rw [hsg]; simp) (fun c0=>?_) (fun c0=>a_ (rest (.refl _) fun z=>c0 z.1));refine ⟨_,rfl,b,_,0,_,rfl,rfl,bj.of b3,rfl,Gv ba3 (fun q hq=>⟨_,rfl,?_⟩) _⟩;have S5:ac H3 (upd H3 q (.tup [])):=ac.new hq;generalize upd H3 q (.tup [])=H5 at S5 ⊢;by_cases c1:fA=[];rotate_left
 ·rw [zzr0 c1];exact a_ (a_ (rest S5 fun z=>c1 z.2.1))
 rw [zzr1 c1];refine bW ?_;refine ⟨_,rfl,b,_,1,_,rfl,rfl,bj.of (S5 _ _ b3),rfl,wN (S5 _ _ bb3) (fun q hq=>⟨_,rfl,?_⟩) _⟩;have S6:ac H3 (upd H5 q (.tup [])):=S5.trans (ac.new hq);generalize upd H5 q (.tup [])=H6 at S6 ⊢;by_cases c2:fB=[]
 ·rw [zzr1 c2];exact a_ (rest S6 fun z=>z.2.2 c2)
 rw [zzr0 c2];refine bW ?_;rw [if_pos ⟨c0,c1,c2⟩] at e1;refine ⟨_,rfl,_,rfl,(by show 3<=ai; decide),fun u hu=>?_⟩;have S7:ac H3 (upd H6 u (.tup [.str "fault",.ref st,.ref g])):=S6.trans (ac.new hu);exact fault u _ (by rw [e1]) aa (R3.same S7) (S7 _ _ g3) (A3.S.trans S7)
end
section
variable {A B:List Str->Sg->List Str}
theorem va {c:LP}{P:AX->Prop}(hp:∀sg,P (A c.1.1 sg,B c.1.2 sg)):∀(l:List Sg) (r:List LP×Option Sg),(∀x∈r.1,P x.1)->(∀x∈(l.foldl (eE A B c) r).1,P x.1)/\(l.foldl (eE A B c) r).1.length<=r.1.length+l.length/\∃w,(l.foldl (eE A B c) r).1=r.1++w
 | [],r,h=>⟨h,aG _,[],(fK _).symm⟩
 | s::l,r,h=>by
  have key:(∀x∈(eE A B c r s).1,P x.1)/\(eE A B c r s).1.length<=r.1.length+1/\∃w,(eE A B c r s).1=r.1++w:=by
   unfold eE;cases er:r.2 with
   | some _=>simp only; exact ⟨h,mw _,[],(fK _).symm⟩
   | none =>
    simp only;split
    ·exact ⟨h,mw _,[],(fK _).symm⟩
    ·split
     ·refine ⟨fun x hx=>?_,by rw [aM]; exact aG _,_,rfl⟩;rcases bx.1 hx with hx | hx
      ·exact h x hx
      ·rw [cC.1 hx]; exact hp s
     ·exact ⟨h,mw _,[],(fK _).symm⟩
  obtain ⟨k1,k2,w,k3⟩:=key;obtain ⟨i1,i2,v,i3⟩:=va hp l _ k1;rw [kM,dP];exact ⟨i1,by omega,w++v,by rw [i3,k3,c6]⟩
theorem qE {c:LP}:∀(l:List Sg) (q:List LP×Option Sg) (s:Sg),q.2=some s->(l.foldl (eE A B c) q).2=some s
 | [],_,_,h=>h
 | p::l,q,s,h=>by
  rw [kM];have e:eE A B c q p=q:=by unfold eE; rw [h]
  rw [e];exact qE l q s h
theorem yH {ss:List Sg}{k:AX}{n:Nat}{L:List LP}{c:LP}(h:hC A B ss k n=(L,none)) (hc:L[n]?=some c):hC A B ss k (n+1)=((g_ A B c L ss).1,(g_ A B c L ss).2.map fun sg=>(c.2,sg)):=by
 show (match (hC A B ss k n).2 with | some _=>_ | none=>_)=_
 rw [h];simp only [hc]
theorem CZ {ss:List Sg}{k:AX}{n:Nat}{L:List LP}(h:hC A B ss k n=(L,none)) (hc:L[n]?=none):hC A B ss k (n+1)=(L,none):=by
 show (match (hC A B ss k n).2 with | some _=>_ | none=>_)=_
 rw [h];simp only [hc]
theorem vb {ss:List Sg}{k:AX}{n:Nat}{x:List Sg×Sg}(h:(hC A B ss k n).2=some x):∀m,(hC A B ss k (n+m)).2=some x
 | 0=>h
 | m+1=>by
  have ih:=vb h m;show (match (hC A B ss k (n+m)).2 with | some _=>_ | none=>_:List LP×Option (List Sg×Sg)).2=_
  rw [ih];exact ih
end
theorem Ce {J2 f sg:Zb}{ds:List am}(hr:J2.length<=1000) (hf:f.length<=1000):(behF J2 ds f sg).length<=1000:=by
 unfold behF;split
 ·exact bH (dC _ _) hf
 ·exact bH (dC _ _) hr
inductive oh (K:Za) (vs:List V) (H:Hp) (Q:VK) (E:XK):Prop
 | mk (t t':Addr) (J0 J1 J2 rooms':Zb) (ds ds':List am):(vs=[.ref t,.ref t'])->(HV H t t' J0 J1 J2 rooms' ds ds')->((leastF J0 J1 J2 rooms' ds ds'=none->∀H',ac H H'->Q .non H'))->(∀(s:List Sg) (g:Sg),leastF J0 J1 J2 rooms' ds ds'=some (s,g)->∀(u l b:Addr) (gs:Ze) (H':Hp),H' u=some (.tup [.str "fault",.ref l,.ref b])->H' l=some (.lst (gs.map V.ref))->kH H' gs s->SignAt H' b g->ac H H'->Q (.ref u) H')->oh K vs H Q E
theorem Eb {K:Za}{vs:List V}{H:Hp}{Q:VK}{E:XK}(h:oh K vs H Q E):xR K (on K) n6 yf (bC Q) (start zk vs) H:=by
 obtain ⟨t,t',J0,J1,J2,rooms',ds,ds',rfl,Tw,kn,kf⟩:=h;have r1:=Tw.ma.rooms26;have r2:=Tw.mb.rooms26;have zs:(ay J0 J1).length<=9:=by
  unfold ay;have:=Tw.ma.asks4;have:=Tw.ma.says4;simp only [aM,aj,v7];omega
 have c1:∀rs:List Str,gF (rs.map V.str) none (some 1)=(rs.take 1).map V.str:=fun rs=>oW rs 1;obtain ⟨l1,l2,l3,l4,ts,T⟩:=Tw.a;refine ⟨_,rfl,_,rfl,.inr (.inl ⟨t,_,2,_,rfl,rfl,bj.of T.t,rfl,_,rfl,l3,_,rfl,aA.of T.a3,fun fl hfl=>?_⟩)⟩;rw [c1];have S1:ac H (upd H fl (.lst ((J2.take 1).map V.str))):=ac.new hfl;refine ⟨t,fl,l1,l2,l3,l4,ts,J0,J1,J2,J2.take 1,ds,rfl,T.same S1,Tw.ma,aa,by rw [aK]; omega,fun f0 H2 hf0 S2=>?_⟩;have S12:=S1.trans S2;clear S1 S2 T;obtain ⟨m1,m2,m3,m4,ts',T'⟩:=(Tw.same S12).b;refine ⟨_,rfl,_,rfl,.inr (.inl ⟨t',_,2,_,rfl,rfl,bj.of T'.t,rfl,_,rfl,m3,_,rfl,aA.of T'.a3,fun fl hfl=>?_⟩)⟩;rw [c1];have S3:ac H2 (upd H2 fl (.lst ((rooms'.take 1).map V.str))):=ac.new hfl;refine ⟨t',fl,m1,m2,m3,m4,ts',J0,J1,rooms',rooms'.take 1,ds',rfl,T'.same S3,Tw.mb,aa,by rw [aK]; omega,fun g0 H4 hg0 S4=>⟨(by show 2<=ai; decide),fun bg hbg=>?_⟩⟩;have S24:=S3.trans S4;have S5:ac H4 (upd H4 bg (.tup [.ref f0,.ref g0])):=ac.new hbg;have fp:zo (upd H4 bg (.tup [.ref f0,.ref g0])) bg (closF J2 ds (J2.take 1),closF rooms' ds' (rooms'.take 1)):=⟨f0,g0,aa,S5 _ _ (S24 _ _ hf0),S5 _ _ hg0⟩;have S05:ac H (upd H4 bg (.tup [.ref f0,.ref g0])):=(S12.trans S24).trans S5;generalize upd H4 bg (.tup [.ref f0,.ref g0])=H5 at fp S05 ⊢;clear S12 S3 S4 S24 S5 T';refine ⟨_,rfl,(by show 0<=ai; decide),fun st hst=>⟨(by show 2<=ai; decide),fun e he=>⟨(by show 1<=ai; decide),fun pl hpl=>?_⟩⟩⟩;have S6:ac H5 (upd (upd H5 st (.lst [])) e (.tup [.ref bg,.ref st])):=(ac.new hst).trans (ac.new he);have st6:upd (upd H5 st (.lst [])) e (.tup [.ref bg,.ref st]) st=some (.lst (([]:Ze).map V.ref)):=kp aa he;have e6:upd (upd H5 st (.lst [])) e (.tup [.ref bg,.ref st]) e=some (.tup [.ref bg,.ref st]):=aa;generalize upd (upd H5 st (.lst [])) e (.tup [.ref bg,.ref st])=H6 at S6 st6 e6 hpl ⊢;have S7:ac H6 (upd H6 pl (.lst [.ref e])):=ac.new hpl;have pl7:upd H6 pl (.lst [.ref e]) pl=some (.lst (([e]:Ze).map V.ref)):=aa;have p0:H pl=none:=(S05.trans S6).free hpl;have nsp:st≠pl:=ae st6 hpl;generalize upd H6 pl (.lst [.ref e])=H7 at S7 pl7 ⊢;refine fun kd hkd=>⟨_,rfl,aa,bg,gC (closF J2 ds (J2.take 1),closF rooms' ds' (rooms'.take 1)),rfl,cN.c 8 (iP _) ((fp.kt ((ac.kt (S6.trans S7)).trans (ac.kt (ac.new hkd)))).tk),iP _,?_⟩;have S8:ac H7 (upd (upd H7 kd (.dT [])) kd (.dT [(gC (closF J2 ds (J2.take 1),closF rooms' ds' (rooms'.take 1)),.bl true)])):=fun b o q=>by rw [af (ae q hkd)]; exact kp q hkd
 have kd8:upd (upd H7 kd (.dT [])) kd (.dT [(gC (closF J2 ds (J2.take 1),closF rooms' ds' (rooms'.take 1)),.bl true)]) kd=some (.dT (xA [(closF J2 ds (J2.take 1),closF rooms' ds' (rooms'.take 1))])):=aa;generalize upd (upd H7 kd (.dT [])) kd (.dT [(gC (closF J2 ds (J2.take 1),closF rooms' ds' (rooms'.take 1)),.bl true)])=H8 at S8 kd8 ⊢;have S08:=((S05.trans S6).trans S7).trans S8;have k0:H kd=none:=((S05.trans S6).trans S7).free hkd;obtain ⟨l1,l2,l3,l4,ts,T⟩:=(Tw.same S08).a;refine ⟨_,rfl,t,l1,l2,l3,l4,ts,J0,J1,J2,ds,rfl,T,Tw.ma,fun sl us H9 hsl hus sl0 S9=>?_⟩;have S68:=S7.trans S8;have A9:tT H H9 pl kd sl [e] us (ay J0 J1) [((closF J2 ds (J2.take 1),closF rooms' ds' (rooms'.take 1)),[])]:=by
  refine ⟨S08.trans S9,S9 _ _ (S8 _ _ pl7),.cons ?_ .nil,S9 _ _ kd8,hsl,hus,fun z=>?_,p0,k0⟩
  ·exact ⟨bg,st,[],S9 _ _ (S68 _ _ e6),fp.kt (ac.kt ((S6.trans S68).trans S9)),S9 _ _ (S68 _ _ st6),nsp,.nil⟩
  ·rw [z,S8 _ _ pl7] at sl0; cases sl0
 clear S6 S7 S8 S9 S68 S05 S08 T fp st6 e6 pl7 kd8 hsl hus;refine ⟨_,rfl,by omega,by omega,?_⟩;refine iz (lo:=0) (n:=300) (fun i σ H'=>∃(es:Ze) (L:List LP) (x6 x7 x8 x9 x10 x11:Option V),σ=[some (.ref t),some (.ref t'),some (.ref bg),some (.ref pl),some (.ref kd),some (.ref sl),x6,x7,x8,x9,x10,x11]/\tT H H' pl kd sl es us (ay J0 J1) L/\hC (behF J2 ds) (behF rooms' ds') (ay J0 J1) (closF J2 ds (J2.take 1),closF rooms' ds' (rooms'.take 1)) i=(L,none)/\L.length<=1+9 * i/\∀x∈L,x.1.1.length<=1000/\x.1.2.length<=1000)
  ⟨[e],_,_,_,_,_,_,_,rfl,A9,rfl,(by show 1<=_; omega),fun x hx=>?_⟩ ?_ ?_
 ·rw [cC.1 hx];exact ⟨bH (dC _ _) (by omega),bH (dC _ _) (by omega)⟩
 ·rintro i σ H1 hi ⟨es,L,x6,x7,x8,x9,x10,x11,rfl,A,eit,zl,fl⟩;have le:(es.map V.ref).length=L.length:=by rw [aj,Paired.length A.hes]
  refine ⟨_,rfl,_,rfl,.inl ⟨pl,_,rfl,.inl (aA.of A.hpl),_,_,rfl,rfl,_,rfl,?_⟩⟩;refine C9 (P:=i<L.length) (by rw [le]; simp) (fun lt=>?_) (fun ge=>?_);rotate_left
  ·exact ⟨es,L,_,_,_,_,_,_,rfl,A,CZ eit (eV (by omega)),by omega,fl⟩
  have hx:L[i]?=some L[i]:=bX lt;have fx:=fl L[i] (jh _);have lx:=(tf (A:=behF J2 ds) (B:=behF rooms' ds') (ss:=ay J0 J1) (k:=(closF J2 ds (J2.take 1),closF rooms' ds' (rooms'.take 1))) i).1;rw [eit] at lx;have lx:=lx L[i] (jh _);obtain ⟨e,he,b,st,gs,q1,⟨u,v,q2,q3,q4⟩,q5,q6,q7⟩:=Paired.get A.hes hx;generalize L[i]=x at hx fx lx q3 q4 q7;have ate:oY (es.map V.ref) (0+(i:Int))=some (.ref e):=by rw [Int.zero_add]; exact bI (by rw [b0,he]; rfl)
  refine ⟨_,rfl,_,rfl,pl,_,_,_,rfl,rfl,aA.of A.hpl,ate,?_⟩;refine ⟨e,_,rfl,bj.of q1,rfl,_,_,rfl,b,_,rfl,bj.of q2,rfl,_,_,rfl,_,_,rfl,rfl,_,_,rfl,rfl,?_⟩;refine ⟨_,rfl,sl,rfl,⟨_,aA.of A.hsl⟩,?_⟩;have inv:=fun j=>va (A:=behF J2 ds) (B:=behF rooms' ds') (c:=x) (P:=fun k=>k.1.length<=1000/\k.2.length<=1000) (fun sg=>⟨Ce (by omega) fx.1,Ce (by omega) fx.2⟩) ((ay J0 J1).take j) (L,none) fl;refine cr (xs:=us.map V.ref) (fun j σ H'=>∃(es:Ze) (x10 x11:Option V),σ=[some (.ref t),some (.ref t'),some (.ref bg),some (.ref pl),some (.ref kd),some (.ref sl),some (.int (0+(i:Int))),some (.ref u),some (.ref v),some (.ref st),x10,x11]/\(g_ (behF J2 ds) (behF rooms' ds') x L ((ay J0 J1).take j)).2=none/\tT H H' pl kd sl es us (ay J0 J1) (g_ (behF J2 ds) (behF rooms' ds') x L ((ay J0 J1).take j)).1/\zc H' pl u v st gs x)
   ⟨es,_,_,rfl,rfl,A,q3,q4,q5,q7,q6⟩ (fun j σ H' _ ⟨_,_,_,_,_,A,_⟩=>aA.of A.hsl) ?_ ?_
  ·rintro j y σ H2 hj ⟨es2,x10,x11,rfl,q0,A2,R2⟩;obtain ⟨g,hg,rfl⟩:=dq hj;obtain ⟨sg,hsg,hat⟩:=Paired.getL A2.hus hg;have hjl:j<(ay J0 J1).length:=(cw.1 hsg).1;have es1:g_ (behF J2 ds) (behF rooms' ds') x L ((ay J0 J1).take (j+1))=eE (behF J2 ds) (behF rooms' ds') x (g_ (behF J2 ds) (behF rooms' ds') x L ((ay J0 J1).take j)) sg:=by
    unfold g_; rw [take_snoc hsg,jQ]; rfl
   have e2:g_ (behF J2 ds) (behF rooms' ds') x L ((ay J0 J1).take j)=((g_ (behF J2 ds) (behF rooms' ds') x L ((ay J0 J1).take j)).1,none):=by rw [<-q0]
   have zz:(g_ (behF J2 ds) (behF rooms' ds') x L ((ay J0 J1).take j)).1.length<=4000:=by
    have:=(inv j).2.1;rw [aK] at this;unfold g_;simp only at this;omega
   refine Gm (K:=K) (n:=0+(i:Int)) (x11:=x11) Tw A2 R2 hat (bd hsg) fx.1 fx.2 zz (by omega) ?_ ?_
   ·intro u2 H3 f1 f2 f3 f4 f5;rw [<-e2,<-es1] at f1;have fr:(g_ (behF J2 ds) (behF rooms' ds') x L (ay J0 J1)).2=some sg:=by
     have:=qE (A:=behF J2 ds) (B:=behF rooms' ds') (c:=x) ((ay J0 J1).drop (j+1)) _ sg f1;unfold g_ at this;rw [<-jQ,pc] at this;exact this
    have lf:leastF J0 J1 J2 rooms' ds ds'=some (x.2,sg):=by
     unfold leastF;have h1:(hC (behF J2 ds) (behF rooms' ds') (ay J0 J1) (closF J2 ds (J2.take 1),closF rooms' ds' (rooms'.take 1)) (i+1)).2=some (x.2,sg):=by rw [yH eit hx,fr]; rfl
     have:=vb h1 (300-(i+1));rw [show i+1+(300-(i+1))=300 by omega] at this;exact this
    exact kf x.2 sg lf u2 st g gs H3 f2 f3.s f3.g f4 f5
   ·intro es3 y11 H3 f1 f2 f3;rw [<-e2,<-es1] at f1 f2;exact ⟨es3,_,_,rfl,f1,f2,f3⟩
  ·rintro σ H2 ⟨es2,x10,x11,rfl,q0,A2,R2⟩;have lu:(us.map V.ref).length=(ay J0 J1).length:=by rw [aj,Paired.length A.hus]
   rw [lu,aX] at q0 A2;have iv:=inv (ay J0 J1).length;rw [aX] at iv;refine ⟨es2,_,_,_,_,_,_,_,rfl,A2,by rw [yH eit hx,q0]; rfl,?_,iv.1⟩;have:=iv.2.1;unfold g_;simp only at this;omega
 ·rintro σ H1 ⟨es,L,x6,x7,x8,x9,x10,x11,rfl,A,eit,zl,fl⟩;exact kn (by unfold leastF; rw [eit]) H1 A.S
def BV (s:List Sg) (g:Sg):DT:=.t [fR "fault",.s (s.map kK),kK g]
theorem vp (s:List Sg) (g:Sg):(BV s g).depth<=3:=by
 show max 0 (max (DT.depths (s.map kK)+1) (max (kK g).depth 0))+1<=3;have:=AD s;rw [cz];omega
theorem uS {K:Za}{H:Hp}:∀{gs:Ze}{s:List Sg},Paired (fun g (sg:Sg)=>bT K H g (sg.map V.str)) gs s->DIns K H (s.map kK) (gs.map V.ref)
 | _,_,.nil=>by show DIns K H [] []; unfold DIns; rfl
 | _,_,.cons r t=>by
  rw [bw,bw];unfold DIns;exact ⟨_,_,rfl,bN (bT.sq r),uS t⟩
theorem BU {K:Za}{H:Hp}{u l b:Addr}{gs:Ze}{s:List Sg}{g:Sg}(hu:H u=some (.tup [.str "fault",.ref l,.ref b])) (hl:H l=some (.lst (gs.map V.ref))) (hg:Paired (fun g (sg:Sg)=>bT K H g (sg.map V.str)) gs s) (hb:bT K H b (g.map V.str)):hW K H (BV s g) (.ref u):=by
 unfold BV hW;refine ⟨u,_,rfl,bj.of hu,?_⟩;unfold DIns;refine ⟨_,_,rfl,jc _,?_⟩;unfold DIns;refine ⟨_,_,rfl,?_,?_⟩
 ·unfold hW; exact ⟨l,_,rfl,aA.of hl,uS hg⟩
 unfold DIns;refine ⟨_,_,rfl,bN (bT.sq hb),?_⟩;unfold DIns
 rfl
inductive sp_law22 (K:Za) (vs:List V) (H:Hp) (Q:VK) (E:XK):Prop
 | mk (a:Addr) (ns:List Int):(vs=[.ref a])->(aA K H a (ns.map V.int))->(ns.length<=63)->(∀H',Q (.bl true) H')->sp_law22 K vs H Q E
theorem Ec {K:Za}{C:Addr}{vs:List V}{H:Hp}{Q:VK}{E:XK}(h:sp_law22 K vs H Q E):FG K (i4 K 3) (sp_keeps K C) (oh K) (jZ C) rk og (rj K) (bC Q) (start Cn vs) H:=by
 obtain ⟨a,ns,rfl,hs,hn,k⟩:=h;refine ⟨_,rfl,a,ns,rfl,hs,hn,fun p c H1 _ hp1 S1=>?_⟩;refine ⟨_,rfl,p,c,4,0,rfl,hp1,by decide,by decide,by decide,by decide,fun t l1 l2 l3 l4 ts J0 J1 J2 ds H2 T m zr zd hp2 ex2=>?_⟩;have zr:J2.length<=4:=zr;refine ⟨_,rfl,_,rfl,p,c,t,l1,l2,l3,l4,ts,J0,J1,J2,ds,4,rfl,hp2,T,m,by omega,by omega,by omega,fun t' l3' l4' ts' rooms' ds' H3 T' m' tk len _ hp3 ex3=>?_⟩;have T3:=T.ex hp2 ex3;refine ⟨_,rfl,t,l1,l2,l3,l4,ts,J0,J1,J2,ds,rfl,T3,m,fun x H4 M4 S4=>?_⟩;refine ⟨_,rfl,t',l1,l2,l3',l4',ts',J0,J1,rooms',ds',rfl,T'.same S4,m',fun y H5 N5 S5=>?_⟩;have M5:=M4.same S5;have S35:=S4.trans S5;have turns:∀(due:V) (H6:Hp),ac H5 H6->(leastF J0 J1 J2 rooms' ds ds'=none/\due=.non∨∃s g u l b gs,leastF J0 J1 J2 rooms' ds ds'=some (s,g)/\due=.ref u/\H6 u=some (.tup [.str "fault",.ref l,.ref b])/\H6 l=some (.lst (gs.map V.ref))/\kH H6 gs s/\SignAt H6 b g) ->
   (ao (dR (oP (aw (tC (.int 2)))) U7 (ao (aP (aO (sp_keeps K C) (aB V4 V5)) U8)
 (ao (bD (tB (CF V6)) (ao (bD (zB (mZ (tB (cG (hZ K) (aB V8 (tC (.ty "tuple")))))) (zB (aJ (aE tZ (cG (cW K) (aw V8)) (tC (.int 2)))) (mZ (tB (aO (i4 K 3) (aB (aE (fS K) V8 (tC (.int 0))) (tC (.str "keeps")))))))) (aT (tC (.bl false))) (aU))
 (bD (mZ (tB (cG (hZ K) (aB (aE (fS K) V8 (tC (.int 1))) (tC (.ty "list")))))) (aT (tC (.bl false))) (aU))) (bD (mZ (tB (aO (i4 K 3) (aB V8 V6)))) (aT (tC (.bl false))) (aU)))
 (bE (pN K "list" bY (aE (fS K) V8 (tC (.int 1))) (aw (aZ (aw (tC (.str "hush"))))))))))
 (aT (tC (.bl true)))) (bC Q) [some (.ref a),some (.ref p),some (.ref t),some (.ref t'),some (.ref x),some (.ref y),some due,none,none] H6:=by
  intro due H6 S6 hdue;refine ⟨_,rfl,by omega,by omega,?_⟩;refine iz (lo:=0) (n:=2) (fun i σ H'=>∃x7 x8:Option V,σ=[some (.ref a),some (.ref p),some (.ref t),some (.ref t'),some (.ref x),some (.ref y),some due,x7,x8]/\ac H6 H') ⟨_,_,rfl,ac.refl _⟩ ?_ ?_
  ·rintro i σ H7 _ ⟨x7,x8,rfl,S7⟩;have S57:=S6.trans S7;have last:∀{H8:Hp}{u l:Addr}{xs ys:List V},ac H7 H8->H8 u=some (.tup (.str "keeps"::.ref l::ys))∨H8 u=some (.tup (.str "fault"::.ref l::ys))->H8 l=some (.lst xs)->xs.length<=1000->H7 l=none ->
     (bE (pN K "list" bY (aE (fS K) V8 (tC (.int 1))) (aw (aZ (aw (tC (.str "hush"))))))) { nx:=fun σ H'=>∃x7 x8:Option V,σ=[some (.ref a),some (.ref p),some (.ref t),some (.ref t'),some (.ref x),some (.ref y),some due,x7,x8]/\ac H6 H',rt:=Q } [some (.ref a),some (.ref p),some (.ref t),some (.ref t'),some (.ref x),some (.ref y),some due,some (.int (0+(i:Int))),some (.ref u)] H8:=by
    intro H8 u l xs ys S8 hu hl zx l0;obtain ⟨w,hu⟩:∃w,H8 u=some (.tup (w::.ref l::ys)):=hu.elim (fun h=>⟨_,h⟩) fun h=>⟨_,h⟩;refine ⟨_,rfl,u,_,1,_,rfl,rfl,bj.of hu,bI (j:=1) rfl,?_⟩;refine ⟨.inl ⟨rfl,_,aA.of hl⟩,(by show 1<=ai; decide),fun q hq=>⟨l,_,.ref q,rfl,rfl,kp hl hq,ap zx,?_⟩⟩;exact ⟨_,_,rfl,fun b o e=>by rw [af (ae (S7 _ _ e) l0)]; exact kp (S8 _ _ (S7 _ _ e)) hq⟩
   refine ⟨_,rfl,_,rfl,EJ (M5.same S57) (N5.same S57) tk zr (by omega) (fun lf u l ps H8 hu hl zp l0 S8=>?_) (fun s g lf u l b gs H8 hu hl hg hb l0 S8=>?_)⟩
   ·rcases hdue with ⟨_,rfl⟩ | ⟨s,g,_,_,_,_,e,_⟩;rotate_left
    ·rw [lf] at e; cases e
    refine ⟨_,rfl,_,rfl,?_⟩;rw [zzr1 rfl];refine bW ?_;refine ⟨_,rfl,.ref u,"tuple",_,true,rfl,.inl (gG.tup hu),rfl,_,rfl,a_ ?_⟩;refine ⟨_,rfl,.inl ⟨u,_,rfl,.inr (bj.of hu),rfl,_,rfl,?_⟩⟩;refine iW (fun z=>by simp at z) (fun _=>?_);refine ⟨_,rfl,u,_,0,_,rfl,rfl,bj.of hu,rfl,.inl ⟨_,_,fR "keeps",fR "keeps",rfl,jc _,jc _,(by show 0<=3; decide),(by show 0<=3; decide),fun H9 S9=>⟨_,rfl,?_⟩⟩⟩;rw [yX];refine a_ ?_;have hu9:=S9 _ _ hu;refine ⟨_,rfl,u,_,1,_,rfl,rfl,bj.of hu9,rfl,.ref l,"list",_,true,rfl,.inl (gG.lst (S9 _ _ hl)),rfl,_,rfl,a_ ?_⟩;exact last (S8.trans S9) (.inl hu9) (S9 _ _ hl) (by rw [aj]; omega) l0
   ·rcases hdue with ⟨e,_⟩ | ⟨s',g',u',l',b',gs',e,rfl,du,dl,dg,db⟩
    ·rw [lf] at e; cases e
    rw [lf] at e;cases e;refine ⟨_,rfl,_,rfl,?_⟩;rw [zzr0 (fun z=>by cases z)];refine a_ ?_;have S68:=S7.trans S8;have dd:hW K H8 (BV s g) (.ref u'):=BU (S68 _ _ du) (S68 _ _ dl) (Paired.mapP dg fun _ _ r=>.inl (S68 _ _ r)) (.inl (S68 _ _ db));refine ⟨_,rfl,_,rfl,.inl ⟨_,_,_,_,rfl,BU hu hl hg hb,dd,vp s g,vp s g,fun H9 S9=>⟨_,rfl,?_⟩⟩⟩;rw [yX];refine a_ ?_;refine last (S8.trans S9) (.inr (S9 _ _ hu)) (S9 _ _ hl) ?_ l0;rw [aj,Paired.length hg];have:=(tf (A:=behF J2 ds) (B:=behF rooms' ds') (ss:=ay J0 J1) (k:=(closF J2 ds (J2.take 1),closF rooms' ds' (rooms'.take 1))) 300).2 _ lf;simp only at this;omega
  ·rintro σ H7 ⟨x7,x8,rfl,S7⟩;exact k _
 refine ⟨_,rfl,_,rfl,t,t',J0,J1,J2,rooms',ds,ds',rfl,⟨⟨l1,l2,l3,l4,ts,T3.same S35⟩,⟨l1,l2,l3',l4',ts',T'.same S35⟩,m,m'⟩,fun lf H6 S6=>?_,fun s g lf u l b gs H6 hu hl hg hb S6=>?_⟩
 ·exact turns .non H6 S6 (.inl ⟨lf,rfl⟩)
 ·exact turns (.ref u) H6 S6 (.inr ⟨s,g,u,l,b,gs,lf,rfl,hu,hl,hg,hb⟩)
def fJ (i:Nat):Stmt:=PySem.Challenge.pw_mumtrial_k22_the_least_fault.main.body.getD i (.Pass ⟨0,0,0,0⟩)
local macro_rules | `(tactic| walk_at "s")=>`(tactic| exact ⟨rfl,rfl,rfl,by decide +kernel,rfl,by decide +kernel,by decide +kernel⟩)
local macro_rules | `(tactic| walk_at "l")=>`(tactic| (intro _ _ _ _ h; first | exact len_h h | exact len_g h | (cases h; subst_vars; rfl) | (obtain ⟨_,_,h,_⟩:=h; subst h; rfl) | ((repeat obtain ⟨_,h⟩:=h); subst_vars; rfl)))
local macro_rules | `(tactic| walk_at "b")=>`(tactic| (intro _ _ _ _ _ _ us hl; first | (match us,hl with | [_],_=>rfl) | (match us,hl with | [_,_],_=>rfl) | (match us,hl with | [_,_,_],_=>rfl) | (match us,hl with | [_,_,_,_],_=>rfl) | (match us,hl with | [_,_,_,_,_],_=>rfl) | (match us,hl with | [],_=>rfl)))
def Ib (K:Za) (x qual:Str) (st:Stmt) (f:Addr):Prop:=∃(oc:Value) (od an:Option Addr) (sl:Array (Option Value)) (kV dc pm cd ct:Value),
 K.lookup f=some ⟨oc,od,.func (iH x qual (io st) (fZ st) (bZ st) .none kV dc pm an cd ct),sl⟩/\mO K cd qual=true/\iB K (.ref f)=true
theorem EV {K:Za}{x qual:Str}{st:Stmt}{f:Addr}{oc:Value}{od an:Option Addr}{sl:Array (Option Value)}{kV dc pm cd ct:Value}(l:K.lookup f=some ⟨oc,od,.func (iH x qual (io st) (fZ st) (bZ st) .none kV dc pm an cd ct),sl⟩)
  (c:mO K cd qual=true) (k:iB K (.ref f)=true):Ib K x qual st f:=⟨oc,od,an,sl,kV,dc,pm,cd,ct,l,c,k⟩
def iq (K:Za) (x:Str) (st:Stmt):Prop:=∃f,cn K bU x=some (some (.ref f))/\Ib K x x st f
theorem fnG_mk {K:Za}{x:Str}{st:Stmt}{f:Addr}{oc:Value}{od an:Option Addr}{sl:Array (Option Value)}{kV dc pm cd ct:Value}(a:cn K bU x=some (some (.ref f))) (l:K.lookup f=some ⟨oc,od,.func (iH x x (io st) (fZ st) (bZ st) .none kV dc pm an cd ct),sl⟩)
  (c:mO K cd x=true) (k:iB K (.ref f)=true):iq K x st:=⟨f,a,EV l c k⟩
def Cp (K:Za) (C:Addr) (m qual:Str) (st:Stmt):Prop:=∃f,df K (.ref C) m=some (some (.ref f))/\xC K (.ref f)=true/\Ib K m qual st f
theorem fnM_mk {K:Za}{C:Addr}{m qual:Str}{st:Stmt}{f:Addr}{oc:Value}{od an:Option Addr}{sl:Array (Option Value)}{kV dc pm cd ct:Value}(a:df K (.ref C) m=some (some (.ref f))) (i:xC K (.ref f)=true)
  (l:K.lookup f=some ⟨oc,od,.func (iH m qual (io st) (fZ st) (bZ st) .none kV dc pm an cd ct),sl⟩) (c:mO K cd qual=true) (k:iB K (.ref f)=true):Cp K C m qual st:=⟨f,a,i,EV l c k⟩
theorem Ib.fun_ {K:Za}{x qual:Str}{st:Stmt}{f:Addr}(T:Ib K x qual st f):∃fd,HA K x qual st f fd:=by
 obtain ⟨oc,od,an,sl,kV,dc,pm,cd,ct,l,c,k⟩:=T;exact ⟨_,ET (st:=st) l c k⟩
def HD:Sp:=fun _ _ _ _=>False
theorem HK {P:bR}{w:World}{K:Za}{mg:Str->Option Value}{base:Heap}{k:Nat}{f:Addr}{fd:kq}{ps:Zb}:lK P w K mg base CX0 k f fd ps HD:=⟨fun _ _ _ _ h=>h.elim,fun _ _ _ _ _ _ _ _ _ _ _ _ _ h=>h.elim⟩
def Hr (K:Za) (a:Addr) (ws:Zb):Prop:=∀H,bj K H a (ws.map V.str)
theorem Bm {K:Za}{a:Addr}{ws:Zb}{o:Obj}{its:Array Value}{n:Nat}(l:K.lookup a=some o) (c:o.cls=.type "tuple") (d:o.data=.seq its n) (z:its.size<=ai) (v:bc (ws.map V.str) its.toList):Hr K a ws :=
 fun _=>.inr ⟨o,its,n,l,c,d,z,v⟩
section
variable {P:bR}{w:World}{K:Za}{mg:Str->Option Value}{base h:Heap}{C:Addr}{x qual:Str}{st:Stmt}{N ps:Zb}{k:Nat}{sp:Sp}
abbrev Fn (ps:Zb) (sp:Sp):Prop:=∀vs H Q E,sp vs H Q E->vs.length=ps.length
abbrev BodyOk (CX:DA) (P:bR) (w:World) (K:Za) (mg:Str->Option Value) (base:Heap) (qual:Str) (st:Stmt) (N:Zb) (k:Nat) (sp:Sp) (nox:Cx->Cx):Prop:=N.Nodup->∀(f:Addr) (cdv:Value) (A:Around) (outer:List Env) (s:Shared) (H:Hp) (vs:List V) (Q:VK) (E:XK),eS k (A.deeper (envOfC qual (bZ st) s.heap.objs.size f cdv))->(A.deeper (envOfC qual (bZ st) s.heap.objs.size f cdv)).units+16<cLine->sp vs H Q E ->
 ∃t,zD (nox (AF CX P w K mg base N qual (bZ st) f cdv A outer s H E)) (fZ st) t/\t (bC Q) (start N vs) H
abbrev AZ (x qual:Str) (st:Stmt) (ps:Zb):Prop:=∀(kV doc pm:Value) (an:Option Addr) (cdv ct:Value) (us:Zf),us.length=ps.length->bindArgs (iH x qual (io st) (fZ st) (bZ st) .none kV doc pm an cdv ct) ⟨us,[]⟩=pure (ps.zip us)
theorem dG (X:K.In h) (G:h.Ns bU mg) (T:iq K x st) (b:BodyOk CX0 P w K mg base x st N k sp Cx.nox) (bi:AZ x x st ps) (S:j9 N ps (bZ st):=by walk_at "s") (l:Fn ps sp:=by walk_at "l"):hV P w K mg base x ps (k+1) sp:=by
 obtain ⟨f,a,t⟩:=T;obtain ⟨fd,F⟩:=t.fun_;exact ⟨f,fd,F.ok S l fun cdv A outer s H vs Q E hr h=>b S.nd f cdv A outer s H vs Q E hr (BR hr) h,gm X G a,F.kp,F.binds bi⟩
theorem dM (cl:Cq K C) (T:Cp K C x qual st) (b:BodyOk CX0 P w K mg base qual st N k sp Cx.nox) (bi:AZ x qual st ps) (S:j9 N ps (bZ st):=by walk_at "s") (l:Fn ps sp:=by walk_at "l"):Co P w K mg base C x ps (k+1) sp:=by
 obtain ⟨f,a,i,t⟩:=T;obtain ⟨fd,F⟩:=t.fun_;exact ⟨f,fd,F.ok S l fun cdv A outer s H vs Q E hr h=>b S.nd f cdv A outer s H vs Q E hr (BR hr) h,cl,⟨a,i,F.kp⟩,F.binds bi⟩
theorem dN {y:Str}(cm:mg y=some (.ref C)) (mk:rH K C=true) (kc:iB K (.ref C)=true) (T:Cp K C "__init__" qual st) (b:BodyOk CX0 P w K mg base qual st N k sp Cx.nox) (bi:AZ "__init__" qual st ps) (S:j9 N ps (bZ st):=by walk_at "s") (l:Fn ps sp:=by walk_at "l"):Iw P w K mg base y C ps (k+1) sp:=by
 obtain ⟨f,a,i,t⟩:=T;obtain ⟨fd,F⟩:=t.fun_;exact ⟨f,fd,F.ok S l fun cdv A outer s H vs Q E hr h=>b S.nd f cdv A outer s H vs Q E hr (BR hr) h,cm,⟨mk,a,i,kc⟩,F.binds bi⟩
end
structure Zs (mg:Str->Option Value):Prop where
 all:mg "all"=none
 any:mg "any"=none
 bool:mg "bool"=none
 dict:mg "dict"=none
 enumerate:mg "enumerate"=none
 int:mg "int"=none
 isinstance:mg "isinstance"=none
 len:mg "len"=none
 list:mg "list"=none
 max:mg "max"=none
 range:mg "range"=none
 str:mg "str"=none
 tuple:mg "tuple"=none
 zip:mg "zip"=none
structure Cs (K:Za) (mg:Str->Option Value) (C Cf a_STILL a_HUSH:Addr):Prop where
 LETTERS:Gc mg "LETTERS" (.str "abcdefghijklmnopqrstuvwxyz")
 LONGEST_NAME:Gc mg "LONGEST_NAME" (.int 8)
 MOST_WORDS:Gc mg "MOST_WORDS" (.int 4)
 MOST_ROOMS:Gc mg "MOST_ROOMS" (.int 150)
 MOST_DOORS:Gc mg "MOST_DOORS" (.int 2000)
 MOST_FACES:Gc mg "MOST_FACES" (.int 400)
 STILL:Gc mg "STILL" (.ref a_STILL)
 HUSH:Gc mg "HUSH" (.ref a_HUSH)
 still:Hr K a_STILL av
 hush:Hr K a_HUSH bP
 mc:MC K C
 cm:mg "Machine"=some (.ref C)
 makes:rH K C=true
 kc:iB K (.ref C)=true
 fc:FC K Cf
 cmf:mg "FaceMap"=some (.ref Cf)
 makesf:rH K Cf=true
 kcf:iB K (.ref Cf)=true
structure Ts (K:Za) (C Cf:Addr):Prop where
 f_law_spread:iq K "_law_spread" (fJ 47)
 f_law_open:iq K "_law_open" (fJ 48)
 f_law_anew:iq K "_law_anew" (fJ 49)
 f_law_take:iq K "_law_take" (fJ 50)
 f_law_names:iq K "_law_names" (fJ 51)
 f_law_put:iq K "_law_put" (fJ 52)
 f_law_draw_doors:iq K "_law_draw_doors" (fJ 53)
 f_law_model:iq K "_law_model" (fJ 54)
 f_is_name:iq K "is_name" (fJ 23)
 f_as_keys:iq K "as_keys" (fJ 24)
 f_first_wrong_name:iq K "first_wrong_name" (fJ 25)
 f_door_signs:iq K "door_signs" (fJ 26)
 f_first_wrong_door:iq K "first_wrong_door" (fJ 27)
 f_goals_by_start_and_sign:iq K "goals_by_start_and_sign" (fJ 28)
 f_led_by_still:iq K "led_by_still" (fJ 29)
 f_first_led_round:iq K "first_led_round" (fJ 30)
 f_need_none:iq K "need_none" (fJ 31)
 f_need_parts:iq K "need_parts" (fJ 32)
 f_doors_by_start:iq K "doors_by_start" (fJ 33)
 f_has_asks_alone:iq K "has_asks_alone" (fJ 34)
 f_Machine___init__:Cp K C "__init__" "Machine.__init__" (fV (fJ 35) 0)
 f_law_machine:iq K "_law_machine" (fJ 60)
 f_Machine_rooms:Cp K C "rooms" "Machine.rooms" (fV (fJ 35) 3)
 f_Machine_led_from:Cp K C "led_from" "Machine.led_from" (fV (fJ 35) 8)
 f_with_still:iq K "with_still" (fJ 9)
 f_Machine_goals:Cp K C "goals" "Machine.goals" (fV (fJ 35) 7)
 f_Machine_is_quiet:Cp K C "is_quiet" "Machine.is_quiet" (fV (fJ 35) 5)
 f_law_still_on:iq K "_law_still_on" (fJ 55)
 f_law_on:iq K "_law_on" (fJ 62)
 f_law_is_quiet:iq K "_law_is_quiet" (fJ 63)
 f_law_behind:iq K "_law_behind" (fJ 64)
 f_law_signs:iq K "_law_signs" (fJ 65)
 f_law_same:iq K "_law_same" (fJ 61)
 f_Machine_asks:Cp K C "asks" "Machine.asks" (fV (fJ 35) 1)
 f_Machine_says:Cp K C "says" "Machine.says" (fV (fJ 35) 2)
 f_first_face:iq K "first_face" (fJ 10)
 f_face_behind:iq K "face_behind" (fJ 11)
 f_signs_in_order:iq K "signs_in_order" (fJ 8)
 f_steps_at:iq K "steps_at" (fJ 12)
 f_FaceMap_number_at:Cp K Cf "number_at" "FaceMap.number_at" (fV (fJ 15) 1)
 f_FaceMap_numbered_steps:Cp K Cf "numbered_steps" "FaceMap.numbered_steps" (fV (fJ 15) 2)
 f_FaceMap___init__:Cp K Cf "__init__" "FaceMap.__init__" (fV (fJ 15) 0)
 f_takes:iq K "takes" (fJ 38)
 f_need_match:iq K "need_match" (fJ 37)
 f_need_all_asks_taken:iq K "need_all_asks_taken" (fJ 39)
 f_need_taker:iq K "need_taker" (fJ 40)
 f_Machine_doors_from:Cp K C "doors_from" "Machine.doors_from" (fV (fJ 35) 6)
 f_story_to:iq K "story_to" (fJ 41)
 f_least_fault:iq K "least_fault" (fJ 42)
 f_rows_needed:iq K "rows_needed" (fJ 43)
 f_paper_of:iq K "paper_of" (fJ 44)
 f_keeps:iq K "keeps" (fJ 45)
 f_law_willing:iq K "_law_willing" (fJ 56)
 f_law_turned:iq K "_law_turned" (fJ 57)
 f_law_renamed:iq K "_law_renamed" (fJ 58)
 f_law_near:iq K "_law_near" (fJ 59)
 f_law_least:iq K "_law_least" (fJ 66)
 f_law22:iq K "law" (fJ 67)
section
variable {P:bR}{w:World}{K:Za}{mg:Str->Option Value}{base h:Heap}{C Cf a_STILL a_HUSH:Addr}
section
variable (P:bR) (w:World) (K:Za) (mg:Str->Option Value) (C Cf a_STILL a_HUSH:Addr)
abbrev kh:Prop:=∀base,hV P w K mg base "_law_spread" ["cell","at"] 1 lO
abbrev tV:Prop:=∀base,hV P w K mg base "_law_open" ["script"] 1 (rj K)
abbrev kj:Prop:=∀base,hV P w K mg base "_law_anew" ["pen"] 1 rA
abbrev dJ:Prop:=∀base,hV P w K mg base "_law_take" ["pen","many"] 2 fk
abbrev jg:Prop:=∀base,hV P w K mg base "_law_names" ["pen","many"] 3 k7
abbrev jO:Prop:=∀base,hV P w K mg base "_law_put" ["doors","door"] 1 jX
abbrev gP:Prop:=∀base,hV P w K mg base "_law_draw_doors" ["pen","asks","says","rooms","full"] 3 gU
abbrev qM:Prop:=∀base,hV P w K mg base "_law_model" ["pen","most","full"] 4 og
abbrev qo:Prop:=∀base,hV P w K mg base "is_name" ["text"] 1 sp_is_name
abbrev jP:Prop:=∀base,hV P w K mg base "as_keys" ["things"] 1 (sp_as_keys K)
abbrev fD:Prop:=∀base,hV P w K mg base "first_wrong_name" ["names","most","taken"] 2 (sp_first_wrong_name K)
abbrev ko:Prop:=∀base,hV P w K mg base "door_signs" ["asks","says"] 1 (sp_door_signs K)
abbrev fE:Prop:=∀base,hV P w K mg base "first_wrong_door" ["doors","rooms","signs"] 2 (sp_first_wrong_door K)
abbrev cS:Prop:=∀base,hV P w K mg base "goals_by_start_and_sign" ["doors"] 1 oj
abbrev iS:Prop:=∀base,hV P w K mg base "led_by_still" ["goals","room"] 1 wC
abbrev gf:Prop:=∀base,hV P w K mg base "first_led_round" ["rooms","led"] 1 sp_first_led_round
abbrev jf:Prop:=∀base,hV P w K mg base "need_none" ["part","number"] 1 sp_need_none
abbrev kb:Prop:=∀base,hV P w K mg base "need_parts" ["asks","says","rooms","doors"] 3 sp_need_parts
abbrev gR:Prop:=∀base,hV P w K mg base "doors_by_start" ["rooms","doors"] 1 sp_doors_by_start
abbrev gQ:Prop:=∀base,hV P w K mg base "has_asks_alone" ["doors"] 1 sp_has_asks_alone
abbrev qp:Prop:=∀base,Iw P w K mg base "Machine" C ["self","asks","says","rooms","doors"] 4 (rm C)
abbrev mH:Prop:=∀base,hV P w K mg base "_law_machine" ["told"] 6 (jZ C)
abbrev cT:Prop:=∀base,Co P w K mg base C "rooms" ["self"] 1 (iJ C)
abbrev dL:Prop:=∀base,Co P w K mg base C "led_from" ["self","room"] 1 (gZ C)
abbrev ir:Prop:=∀base,hV P w K mg base "with_still" ["M","rooms"] 2 (sp_with_still C)
abbrev fy:Prop:=∀base,Co P w K mg base C "goals" ["self","room","sign"] 1 (iw C)
abbrev dO:Prop:=∀base,Co P w K mg base C "is_quiet" ["self","room"] 1 (g6 C)
abbrev eK:Prop:=∀base,hV P w K mg base "_law_still_on" ["doors","rooms"] 1 (eB K)
abbrev o8:Prop:=∀base,hV P w K mg base "_law_on" ["told","some"] 2 yf
abbrev iT:Prop:=∀base,hV P w K mg base "_law_is_quiet" ["told","room"] 1 lP
abbrev ki:Prop:=∀base,hV P w K mg base "_law_behind" ["told","face","sign"] 3 (on K)
abbrev lL:Prop:=∀base,hV P w K mg base "_law_signs" ["told"] 1 n6
abbrev tU:Prop:=∀base,hV P w K mg base "_law_same" ["found","due"] 4 (i4 K 3)
abbrev eM:Prop:=∀base,Co P w K mg base C "asks" ["self"] 1 (lR C)
abbrev gg:Prop:=∀base,Co P w K mg base C "says" ["self"] 1 (n8 C)
abbrev km:Prop:=∀base,hV P w K mg base "first_face" ["M"] 3 (dW C)
abbrev ju:Prop:=∀base,hV P w K mg base "face_behind" ["M","face","sign"] 3 (rq K C)
abbrev gM:Prop:=∀base,hV P w K mg base "signs_in_order" ["M"] 2 (wB C a_HUSH)
abbrev nM:Prop:=∀base,hV P w K mg base "steps_at" ["M","face"] 4 (jW C)
abbrev de:Prop:=∀base,Co P w K mg base Cf "number_at" ["self","face","story"] 1 (k5 K Cf)
abbrev c8:Prop:=∀base,Co P w K mg base Cf "numbered_steps" ["self","number"] 5 (i6 K Cf C)
abbrev qq:Prop:=∀base,Iw P w K mg base "FaceMap" Cf ["self","M"] 6 (lQ K Cf C)
abbrev xz:Prop:=∀base,hV P w K mg base "takes" ["I","room","ask"] 2 (jD C)
abbrev ke:Prop:=∀base,hV P w K mg base "need_match" ["M","I"] 2 (fQ C)
abbrev dY:Prop:=∀base,hV P w K mg base "need_all_asks_taken" ["I"] 4 (ii C)
abbrev ka:Prop:=∀base,hV P w K mg base "need_taker" ["M","I"] 5 (fP C)
abbrev eL:Prop:=∀base,Co P w K mg base C "doors_from" ["self","room"] 1 (gV C)
abbrev nL:Prop:=∀base,hV P w K mg base "story_to" ["came","place"] 1 (fC K)
abbrev jq:Prop:=∀base,hV P w K mg base "least_fault" ["model_steps","machine_steps"] 2 (gS K)
abbrev jp:Prop:=∀base,hV P w K mg base "rows_needed" ["I","room","face","steps"] 2 (n_ K C)
abbrev nN:Prop:=∀base,hV P w K mg base "paper_of" ["model","I"] 3 (jY K Cf C)
abbrev Cr:Prop:=∀base,hV P w K mg base "keeps" ["M","I"] 8 (sp_keeps K C)
abbrev jr:Prop:=∀base,hV P w K mg base "_law_willing" ["pen","told"] 3 jV
abbrev kg:Prop:=∀base,hV P w K mg base "_law_turned" ["pen","told"] 3 lN
abbrev js:Prop:=∀base,hV P w K mg base "_law_renamed" ["pen","told"] 4 i5
abbrev tW:Prop:=∀base,hV P w K mg base "_law_near" ["pen","told","most"] 5 rk
abbrev qN:Prop:=∀base,hV P w K mg base "_law_least" ["told","some"] 4 (oh K)
end
section
variable (X:K.In h) (G:h.Ns bU mg) (z:Zs mg) (c:Cs K mg C Cf a_STILL a_HUSH) (T:Ts K C Cf)
include X G z c T
theorem uj :kh P w K mg:=fun base=>dG X G T.f_law_spread (fun S _ _ _ _ _ _ _ _ _ hr hu h=>bK (CK (K:=K) h) (ab (br (ic HJ (pv 0) (aW Ev ah ah)) (ag (az (pv 0))) aL) (ab (qs 2 S (aW gD (aW c7 (aW c7 (aW iL (aW gD (pv 0) ah) ah) (aW iL (pv 1) ah)) ah) ah)) (ab (qs 3 S (aW gD (aW c7 (aW c7 (aW iL (pv 2) (pv 2)) (aW iL (pv 1) ah)) (aW gD (pv 0) ah)) ah)) (ab (qs 4 S (aW gD (aW c7 (aW c7 (aW iL (pv 3) (pv 3)) (aW iL (pv 2) ah)) ah) ah)) (ag (az (aW c7 (aW iL (aW c7 (aW iL (pv 2) ah) (pv 3)) ah) (pv 4))))))))) (by walk_at "b")
theorem xY :tV P w K mg:=fun base=>dG X G T.f_law_open (fun S _ _ _ _ _ _ _ _ _ hr hu h=>bK (FR h) (ab (qs 1 S (qL rfl z.list (a1 (cL fo (pv 0) fq (cO ah))))) (ab (bG bo rfl (oF rfl z.enumerate (a1 (cL fo (pv 0) (cO ah) (cO ah)))) (cQ rfl (aq (gn 2 S) (aq (gn 3 S) cb))) (ag (h7 (aW c7 (xl (pv 1) (aW gD (pv 2) ah)) (pv 3)) (sV (pv 1) (aW gD (pv 2) ah) k9)))) (ag (az (bt (a3 (pv 1) ah ah))))))) (by walk_at "b")
theorem x_ :kj P w K mg:=fun base=>dG X G T.f_law_anew (fun S _ _ _ _ _ _ _ _ _ hr hu h=>bK (FX (K:=K) h) (ab (h7 ah (sV (pv 0) ah k9)) (ag (az (pv 0))))) (by walk_at "b")
theorem xW (D_law_spread:kh P w K mg):dJ P w K mg:=fun base=>dG X G T.f_law_take (fun S _ _ _ _ _ _ _ _ _ hr hu h=>bK (FP h) (ab (br (ic sX (xl (pv 0) ah) (pv 1)) (ab (qs 2 S (xl (pv 0) ah)) (ab (qs 3 S ah) (ab (br (ic sX (pv 2) (ql z.len (a1 (xl (pv 0) ah)))) (ag (qs 3 S (xl (xl (pv 0) ah) (pv 2)))) (ag (br (ic yy (ql z.len (a1 (xl (pv 0) ah))) ah) (ag (qs 3 S (aW gD (xl (xl (pv 0) ah) (aW gD (aW c7 (aW iL (pv 2) ah) ah) (ql z.len (a1 (xl (pv 0) ah))))) (aW c7 (aW Ev ah ah) (pv 2))))) aL))) (ab (h7 (aW c7 (pv 2) ah) (sV (pv 0) ah k9)) (ag (h7 (qf hr (D_law_spread base) (a2 (pv 3) (pv 2))) (sV (pv 0) ah k9))))))) aL) (ab (qs 4 S (aW gD (xl (pv 0) ah) (pv 1))) (ab (h7 (aW BG (xl (pv 0) ah) (pv 1)) (sV (pv 0) ah k9)) (ag (az (pv 4))))))) (by walk_at "b") (l:=(fun vs H Q E h=>by obtain ⟨_,_,_,rfl,_⟩:=h; rfl))
theorem wv (D_law_take:dJ P w K mg):jg P w K mg:=fun base=>dG X G T.f_law_names (fun S _ _ _ _ _ _ _ _ _ hr hu h=>bK (D_ h) (ab (qs 2 S bz) (ab (qs 3 S (fg PySem.F.plainAttrs_str PySem.F.slot_str_join PySem.F.type_str_join Gk bz (a1 (qc (gB rfl z.range (a1 ah)) (bu (by decide)) fun _ _ _ _ _ _=>⟨gc 0,cY,xs' (pv 1) (qf hr (D_law_take base) (a2 (pv 2) ah))⟩)))) (ab (qs 4 S (qf hr (D_law_take base) (a2 (pv 0) ah))) (ab (qs 5 S (qf hr (D_law_take base) (a2 (pv 0) ah))) (ab (qs 6 S (qf hr (D_law_take base) (a2 (pv 0) ah))) (ab (qs 7 S (bt b_)) (ab (bG bo rfl (gB rfl z.range (a1 (pv 1))) (gn 8 S) (ab (qs 9 S (xs' (pv 2) (aW gD (aW c7 (pv 5) (aW iL ah (pv 8))) ah))) (ab (qs 10 S (cL zZ (pv 3) fq (cO (aW gD (aW c7 (pv 6) (aW iL (pv 8) (aW gD (pv 4) ah))) ah)))) (ab (qs 11 S (xl (bt (a3 ah (ql z.len (a1 (pv 10))) (aW BG (ql z.len (a1 (pv 10))) ah))) (pv 4))) (ag (aS (fg cP eA eo bL (pv 7) (a1 (aW sY (aW sY (cL zZ (pv 10) fq (cO (pv 11))) (pv 9)) (cL zZ (pv 10) (cO (pv 11)) fq)))))))))) (ag (az (pv 7))))))))))) (by walk_at "b")
theorem zS :jO P w K mg:=fun base=>dG X G T.f_law_put (fun S _ _ _ _ _ _ _ _ _ hr hu h=>bK (G9 h) (ag (br (G6 (lT hu) (pv 1) (pv 0)) (ag (aS (fg cP eA eo bL (pv 0) (a1 (pv 1))))) aL))) (by walk_at "b") (l:=(fun vs H Q E h=>by obtain ⟨_,_,_,_,_,rfl,_⟩:=h; rfl))
theorem nY (D_law_take:dJ P w K mg) (D_law_put:jO P w K mg):gP P w K mg:=fun base=>dG X G T.f_law_draw_doors (fun S _ _ _ _ _ _ _ _ _ hr hu h=>bK (ux h) (ab (qs 5 S (bt b_)) (ab (qs 6 S (qf hr (D_law_take base) (a2 (pv 0) ah))) (ab (bG bo rfl (oF rfl z.enumerate (a1 (pv 3))) (cQ rfl (aq (gn 7 S) (aq (gn 8 S) cb))) (ab (bG bo rfl (gB rfl z.range (a1 (xl (bt (ck ah (a3 ah ah ah))) (qf hr (D_law_take base) (a2 (pv 0) ah))))) (gn 9 S) (ab (qs 10 S (aI (a2 bz (xl (pv 2) (qf hr (D_law_take base) (a2 (pv 0) (ql z.len (a1 (pv 2))))))))) (ag (aS (qf hr (D_law_put base) (a2 (pv 5) (aI (a3 (pv 8) (pv 10) (xl (pv 3) (qf hr (D_law_take base) (a2 (pv 0) (ql z.len (a1 (pv 3)))))))))))))) (ab (bG bo rfl (bf (pv 1)) (gn 11 S) (ag (bG bo rfl (gB rfl z.range (a1 (xl (bt (ck (pv 4) (a3 ah ah ah))) (qf hr (D_law_take base) (a2 (pv 0) ah))))) (gn 9 S) (ag (aS (qf hr (D_law_put base) (a2 (pv 5) (aI (a3 (pv 8) (aI (a2 bz (pv 11))) (xl (pv 3) (qf hr (D_law_take base) (a2 (pv 0) (ql z.len (a1 (pv 3))))))))))))))) (ab (qs 12 S (xl (bt (a2 (cL fo (pv 3) (cO (aW c7 (pv 7) ah)) fq) (cL fo (pv 3) fq (cO (pv 7))))) (pv 6))) (ag (br (PW.pt (gv (ic (nk hu) (pv 12) (bt b_)) (ik (ic kB (qf hr (D_law_take base) (a2 (pv 0) ah)) ah)))) (ag (aS (qf hr (D_law_put base) (a2 (pv 5) (aI (a3 (pv 8) (aI (a1 bz)) (xq (pv 12) (qf hr (D_law_take base) (a2 (pv 0) (ql z.len (a1 (pv 12)))))))))))) aL)))))) (ag (az (pv 5))))))) (by walk_at "b")
theorem ww (D_law_anew:kj P w K mg) (D_law_take:dJ P w K mg) (D_law_names:jg P w K mg) (D_law_draw_doors:gP P w K mg):qM P w K mg:=fun base=>dG X G T.f_law_model (fun S _ _ _ _ _ _ _ _ _ hr hu h=>bK (Ea h) (ab (aS (qf hr (D_law_anew base) (a1 (pv 0)))) (ab (qs 3 S (qf hr (D_law_names base) (a2 (pv 0) ah))) (ab (qs 4 S (cL fo (pv 3) fq (cO (aW c7 ah (xl (bt (ck ah (ck ah (ck ah (a3 ah ah ah))))) (qf hr (D_law_take base) (a2 (pv 0) ah))))))) (ab (qs 5 S (cL fo (pv 3) (cO ah) (cO (aW c7 ah (xl (bt (ck ah (ck ah (ck ah (a3 ah ah ah))))) (qf hr (D_law_take base) (a2 (pv 0) ah))))))) (ab (qs 6 S (qf hr (D_law_names base) (a2 (pv 0) (aW c7 ah (qf hr (D_law_take base) (a2 (pv 0) (pv 1))))))) (ab (qs 7 S (qf hr (D_law_draw_doors base) (ck (pv 0) (ck (pv 4) (a3 (pv 5) (pv 6) (pv 2)))))) (ag (az (aI (ck (pv 4) (a3 (pv 5) (pv 6) (pv 7))))))))))))) (by walk_at "b")
theorem zT :qo P w K mg:=fun base=>dG X G T.f_is_name (fun S _ _ _ _ _ _ _ _ _ hr hu h=>bK (Ac h) (ag (az (sW (Gw oI (pv 0) bz) (sW (Gw HI (ql z.len (a1 (pv 0))) (jF rfl c.LONGEST_NAME)) (Ai (qB (qK rfl) z.all boot_all (a1 (qc (Hc (pv 0)) (bu (by decide)) fun _ _ _ _ _ _=>⟨gc 0,cY,eci Al (pv 0) (jF rfl c.LETTERS)⟩))))))))) (by walk_at "b") (l:=(fun vs H Q E h=>by obtain ⟨_,rfl,_⟩:=h; rfl))
theorem zU :jP P w K mg:=fun base=>dG X G T.f_as_keys (fun S _ _ _ _ _ _ _ _ _ hr hu h=>bK (Ad h) (ab (qs 1 S ln) (ab (bG bo rfl (bf (pv 0)) (gn 2 S) (ag (gW hu (pv 1) (pv 2) eU rfl))) (ag (az (pv 1)))))) (by walk_at "b") (l:=(fun vs H Q E h=>by obtain ⟨_,_,rfl,_⟩:=h; rfl))
theorem mf (D_is_name:qo P w K mg) (D_as_keys:jP P w K mg):fD P w K mg:=fun base=>dG X G T.f_first_wrong_name (fun S _ _ _ _ _ _ _ _ _ hr hu h=>bK (mj h) (ab (br (ic kB (ql z.len (a1 (pv 0))) ah) (ag (az ah)) aL) (ab (qs 3 S (qf hr (D_as_keys base) (a1 (pv 2)))) (ab (bG bo rfl (oF rfl z.enumerate (a1 (pv 0))) (cQ rfl (aq (gn 4 S) (aq (gn 5 S) cb))) (ab (br (PW.pt (mE (ic kB (pv 4) (pv 1)) (mE (dE (pX hu (pv 5) (pv 3))) (ng (nh (gy (qf hr (D_is_name base) (a1 (pv 5))))))))) (ag (az (pv 4))) aL) (ag (gW hu (pv 3) (pv 5) eU rfl)))) (ag (az pV)))))) (by walk_at "b")
theorem uo :ko P w K mg:=fun base=>dG X G T.f_door_signs (fun S _ _ _ _ _ _ _ _ _ hr hu h=>bK (uz c.still h) (ag (az (aW iM (aW iM (qc (bf (pv 0)) (bu (by decide)) fun _ _ _ _ _ _=>⟨gc 0,cY,aI (a2 bz (pv 0))⟩) (qc (bf (pv 1)) (bu (by decide)) fun _ _ _ _ _ _=>⟨gc 0,cY,aI (a2 bz (pv 0))⟩)) (bt (a1 (jF rfl c.STILL))))))) (by walk_at "b")
theorem mh (D_as_keys:jP P w K mg):fE P w K mg:=fun base=>dG X G T.f_first_wrong_door (fun S _ _ _ _ _ _ _ _ _ hr hu h=>bK (ml h) (ab (qs 3 S (qf hr (D_as_keys base) (a1 (pv 1)))) (ab (qs 4 S lh) (ab (bG bo rfl (oF rfl z.enumerate (a1 (pv 0))) (cQ rfl (aq (gn 5 S) (aq (gn 6 S) cb))) (ab (br (PW.pt (mE (ic kB (pv 5) (jF rfl c.MOST_DOORS)) (ng (dE (pX hu (pv 6) (pv 4)))))) (ag (az (pv 5))) aL) (ab (br (PW.pt (mE (dE (eP hu (xq (pv 6) ah) (pv 3))) (mE (G6 (lT hu) (xq (pv 6) ah) (pv 2)) (ng (dE (eP hu (xq (pv 6) ah) (pv 3))))))) (ag (az (pv 5))) aL) (ag (gW hu (pv 4) (pv 6) eU rfl))))) (ag (az pV)))))) (by walk_at "b")
theorem iI :cS P w K mg:=fun base=>dG X G T.f_goals_by_start_and_sign (fun S _ _ _ _ _ _ _ _ _ hr hu h=>bK (iK h) (ab (qs 1 S lh) (ab (bG bo rfl (bf (pv 0)) (cQ rfl (aq (gn 2 S) (aq (gn 3 S) (aq (gn 4 S) cb)))) (ag (aS (fg cP eA eo bL (fg PySem.F.plainAttrs_dict PySem.F.slot_dict_setdefault PySem.F.type_dict_setdefault (CV hu) (pv 1) (a2 (aI (a2 (pv 2) (pv 3))) (bt b_))) (a1 (pv 4)))))) (ag (az (pv 1)))))) (by walk_at "b")
theorem qS :iS P w K mg:=fun base=>dG X G T.f_led_by_still (fun S _ _ _ _ _ _ _ _ _ hr hu h=>bK (qV c.still h) (ab (qs 2 S ln) (ab (qs 3 S (bt (a1 (pv 1)))) (ab (jE bo (ic yy (ql z.len (a1 (pv 3))) ah) (ab (qs 4 S (Ak cP PySem.F.slot_list_pop PySem.F.type_list_pop EE (pv 3))) (ag (bG bo rfl (Hd (oG hu (pv 0) (aI (a2 (pv 4) (jF rfl c.STILL))) (aI b_) ⟨rfl,rfl,rfl,rfl⟩)) (gn 5 S) (ag (br (dE (eP hu (pv 5) (pv 2))) (ab (gW hu (pv 2) (pv 5) eU rfl) (ag (aS (fg cP eA eo bL (pv 3) (a1 (pv 5)))))) aL)))))) (ag (az (pv 2))))))) (by walk_at "b")
theorem m8 :gf P w K mg:=fun base=>dG X G T.f_first_led_round (fun S _ _ _ _ _ _ _ _ _ hr hu h=>bK (m_ h) (ab (bG bo rfl (oF rfl z.enumerate (a1 (pv 0))) (cQ rfl (aq (gn 2 S) (aq (gn 3 S) cb))) (ag (br (dE (pX hu (pv 3) (fu hu (pv 1) (pv 3) (fun _ _=>rfl)))) (ag (az (pv 2))) aL))) (ag (az pV)))) (by walk_at "b")
theorem wt :jf P w K mg:=fun base=>dG X G T.f_need_none (fun S _ _ _ _ _ _ _ _ _ hr hu h=>bK (wF (K:=K) h) (ag (br (dE (BC (pv 1))) (ag (oC)) aL))) (by walk_at "b")
theorem ug (D_first_wrong_name:fD P w K mg) (D_door_signs:ko P w K mg) (D_first_wrong_door:fE P w K mg) (D_need_none:jf P w K mg):kb P w K mg:=fun base=>dG X G T.f_need_parts (fun S _ _ _ _ _ _ _ _ _ hr hu h=>bK (uu (K:=K) h) (ab (aS (qf hr (D_need_none base) (a2 bz (qf hr (D_first_wrong_name base) (a3 (pv 0) (jF rfl c.MOST_WORDS) (bt b_)))))) (ab (aS (qf hr (D_need_none base) (a2 bz (qf hr (D_first_wrong_name base) (a3 (pv 1) (jF rfl c.MOST_WORDS) (pv 0)))))) (ab (aS (qf hr (D_need_none base) (a2 bz (qf hr (D_first_wrong_name base) (a3 (pv 2) (jF rfl c.MOST_ROOMS) (bt b_)))))) (ag (aS (qf hr (D_need_none base) (a2 bz (qf hr (D_first_wrong_door base) (a3 (pv 3) (pv 2) (qf hr (D_door_signs base) (a2 (pv 0) (pv 1))))))))))))) (by walk_at "b")
theorem n5 :gR P w K mg:=fun base=>dG X G T.f_doors_by_start (fun S _ _ _ _ _ _ _ _ _ hr hu h=>bK (oA h) (ab (qs 2 S ln) (ab (bG bo rfl (bf (pv 0)) (gn 3 S) (ag (gW hu (pv 2) (pv 3) (bt b_) rfl))) (ab (bG bo rfl (bf (pv 1)) (gn 4 S) (ag (aS (fg cP eA eo bL (fu hu (pv 2) (xq (pv 4) ah) (fun _ _=>rfl)) (a1 (pv 4)))))) (ag (az (pv 2))))))) (by walk_at "b")
theorem nZ :gQ P w K mg:=fun base=>dG X G T.f_has_asks_alone (fun S _ _ _ _ _ _ _ _ _ hr hu h=>bK (oz h) (ag (az (qB (qK rfl) z.all boot_all (a1 (qc (bf (pv 0)) (bu (by decide)) fun _ _ _ _ _ _=>⟨gc 0,cY,Gw kB (xq (xq (pv 0) ah) ah) bz⟩)))))) (by walk_at "b")
theorem zV (D_as_keys:jP P w K mg) (D_goals_by_start_and_sign:cS P w K mg) (D_led_by_still:iS P w K mg) (D_first_led_round:gf P w K mg) (D_need_none:jf P w K mg) (D_need_parts:kb P w K mg) (D_doors_by_start:gR P w K mg) (D_has_asks_alone:gQ P w K mg):qp P w K mg C:=fun base=>dN c.cm c.makes c.kc T.f_Machine___init__ (fun S _ _ _ _ _ _ _ _ _ hr hu h=>bK (FT c.mc h) (ab (aS (qf hr (D_need_parts base) (ck (pv 1) (a3 (pv 2) (pv 3) (pv 4))))) (ab (gA (pv 0) (qL rfl z.list (a1 (pv 1))) rfl) (ab (gA (pv 0) (qL rfl z.list (a1 (pv 2))) rfl) (ab (gA (pv 0) (qL rfl z.list (a1 (pv 3))) rfl) (ab (gA (pv 0) (qL rfl z.list (a1 (pv 4))) rfl) (ab (gA (pv 0) (qf hr (D_doors_by_start base) (a2 (pv 3) (pv 4))) rfl) (ab (gA (pv 0) (qf hr (D_as_keys base) (a1 (qc (bf (pv 3)) (bu (by decide)) fun _ _ _ _ _ _=>⟨gc 0,i9 (gy (qf hr (D_has_asks_alone base) (a1 (fu hu (b9 (pv 1) rfl) (pv 0) (fun _ _=>rfl))))),pv 0⟩))) rfl) (ab (gA (pv 0) (qf hr (D_goals_by_start_and_sign base) (a1 (pv 4))) rfl) (ab (gA (pv 0) (ix (xg rfl) rfl z.dict AJ (a1 (qc (bf (pv 3)) (bu (by decide)) fun _ _ _ _ _ _=>⟨gc 0,cY,aI (a2 (pv 0) (qf hr (D_led_by_still base) (a2 (b9 (pv 1) rfl) (pv 0))))⟩))) rfl) (ag (aS (qf hr (D_need_none base) (a2 bz (qf hr (D_first_led_round base) (a2 (pv 3) (b9 (pv 0) rfl))))))))))))))))) (by walk_at "b")
theorem sG (D_Machine:qp P w K mg C):mH P w K mg C:=fun base=>dG X G T.f_law_machine (fun S _ _ _ _ _ _ _ _ _ hr hu h=>bK (Ab h) (ag (az (Aj (D_Machine base) (hr.mono (by decide)) rfl (ck (qL rfl z.list (a1 (xq (pv 0) ah))) (a3 (qL rfl z.list (a1 (xq (pv 0) ah))) (qL rfl z.list (a1 (xq (pv 0) ah))) (qL rfl z.list (a1 (xq (pv 0) ah))))))))) (by walk_at "b")
theorem pJ :cT P w K mg C:=fun base=>dM c.mc.cls T.f_Machine_rooms (fun S _ _ _ _ _ _ _ _ _ hr hu h=>bK (DZ c.mc h) (ag (az (qL rfl z.list (a1 (b9 (pv 0) rfl)))))) (by walk_at "b")
theorem l_ :dL P w K mg C:=fun base=>dM c.mc.cls T.f_Machine_led_from (fun S _ _ _ _ _ _ _ _ _ hr hu h=>bK (yk c.mc h) (ag (az (qL rfl z.list (a1 (oG hu (b9 (pv 0) rfl) (pv 1) (aI b_) ⟨rfl,rfl,rfl,rfl⟩)))))) (by walk_at "b")
theorem ud (M_Machine_rooms:cT P w K mg C) (M_Machine_led_from:dL P w K mg C):ir P w K mg C:=fun base=>dG X G T.f_with_still (fun S _ _ _ _ _ _ _ _ _ hr hu h=>bK (ut h) (ab (qs 2 S ln) (ab (bG bo rfl (bf (pv 1)) (gn 3 S) (ag (br (dE (eP hu (pv 3) (pv 2))) (ab (gW hu (pv 2) (pv 3) eU rfl) (ag (bG bo rfl (bf (qm hr (M_Machine_led_from base) (pv 0) (a1 (pv 3)))) (gn 4 S) (ag (gW hu (pv 2) (pv 4) eU rfl))))) aL))) (ag (az (ix gX rfl z.tuple hE (a1 (qc (bf (Eo hr (M_Machine_rooms base) (pv 0))) (bu (by decide)) fun _ _ _ _ _ _=>⟨gc 0,i9 (dE (pX hu (pv 0) (pv 1))),pv 0⟩)))))))) (by walk_at "b")
theorem pK :fy P w K mg C:=fun base=>dM c.mc.cls T.f_Machine_goals (fun S _ _ _ _ _ _ _ _ _ hr hu h=>bK (CL c.mc h) (ag (az (qL rfl z.list (a1 (oG hu (b9 (pv 0) rfl) (aI (a2 (pv 1) (pv 2))) (aI b_) ⟨rfl,rfl,rfl,rfl⟩)))))) (by walk_at "b")
theorem me :dO P w K mg C:=fun base=>dM c.mc.cls T.f_Machine_is_quiet (fun S _ _ _ _ _ _ _ _ _ hr hu h=>bK (ym c.mc h) (ag (az (Eu (pX hu (pv 1) (b9 (pv 0) rfl)))))) (by walk_at "b")
theorem qT :eK P w K mg:=fun base=>dG X G T.f_law_still_on (fun S _ _ _ _ _ _ _ _ _ hr hu h=>bK (yh h) (ab (qs 2 S (qL rfl z.list (a1 (pv 1)))) (ab (qs 3 S ah) (ab (jE bo (ic sX (pv 3) (ql z.len (a1 (pv 2)))) (ab (bG bo rfl (bf (pv 0)) (cQ rfl (aq (gn 4 S) (aq (gn 5 S) (aq (gn 6 S) cb)))) (ag (br (PW.pt (gv (ic (gE hu) (pv 4) (xq (pv 2) (pv 3))) (gv (ic (gE hu) (pv 5) (aI (a1 bz))) (ik (G6 (lT hu) (pv 6) (pv 2)))))) (ag (aS (fg cP eA eo bL (pv 2) (a1 (pv 6))))) aL))) (ag (qs 3 S (aW c7 (pv 3) ah))))) (ag (az (pv 2))))))) (by walk_at "b")
theorem CG (D_law_still_on:eK P w K mg):o8 P w K mg:=fun base=>dG X G T.f_law_on (fun S _ _ _ _ _ _ _ _ _ hr hu h=>bK (HF h) (ab (qs 2 S (qf hr (D_law_still_on base) (a2 (xq (pv 0) ah) (pv 1)))) (ag (az (ix gX rfl z.tuple hE (a1 (qc (bf (xq (pv 0) ah)) (bu (by decide)) fun _ _ _ _ _ _=>⟨gc 0,i9 (G6 (Am hu) (pv 0) (pv 1)),pv 0⟩))))))) (by walk_at "b")
theorem qU :iT P w K mg:=fun base=>dG X G T.f_law_is_quiet (fun S _ _ _ _ _ _ _ _ _ hr hu h=>bK (CM h) (ag (az (Gw (gE hu) (qc (bf (xq (pv 0) ah)) (bu (by decide)) fun _ _ _ _ _ _=>⟨gc 0,i9 (PW.pt (gv (ic (gE hu) (xq (pv 0) ah) (pv 1)) (ik (ic oI (xq (xq (pv 0) ah) ah) bz)))),pv 0⟩) (bt b_))))) (by walk_at "b")
theorem uk (D_law_on:o8 P w K mg) (D_law_is_quiet:iT P w K mg):ki P w K mg:=fun base=>dG X G T.f_law_behind (fun S _ _ _ _ _ _ _ _ _ hr hu h=>bK (FV h) (ab (br (ic (gE hu) (pv 2) (aI (a1 bz))) (ag (az (ix gX rfl z.tuple hE (a1 (qc (Ag (pv 1)) (bu (by decide)) fun _ _ _ _ _ _=>⟨gc 0,i9 (gy (qf hr (D_law_is_quiet base) (a2 (pv 1) (pv 0)))),pv 0⟩))))) aL) (ag (az (qf hr (D_law_on base) (a2 (pv 0) (qc (bf (xq (pv 0) ah)) (bu (by decide)) fun _ _ _ _ _ _=>⟨gc 0,i9 (PW.pt (gv (G6 (Am hu) (xq (pv 0) ah) (pv 1)) (ik (ic (gE hu) (xq (pv 0) ah) (pv 2))))),xq (pv 0) ah⟩))))))) (by walk_at "b")
theorem wu :lL P w K mg:=fun base=>dG X G T.f_law_signs (fun S _ _ _ _ _ _ _ _ _ hr hu h=>bK (DW h) (ag (az (aW iM (aW iM (qc (bf (xq (pv 0) ah)) (bu (by decide)) fun _ _ _ _ _ _=>⟨gc 0,cY,aI (a2 bz (pv 0))⟩) (qc (bf (xq (pv 0) ah)) (bu (by decide)) fun _ _ _ _ _ _=>⟨gc 0,cY,aI (a2 bz (pv 0))⟩)) (bt (a1 (aI (a1 bz)))))))) (by walk_at "b")
theorem xX:tU P w K mg:=fun base=>by
  have E0:hV P w K mg base "_law_same" ["found","due"] 0 HD:=by
   obtain ⟨f,a,t⟩:=T.f_law_same;obtain ⟨fd,F⟩:=t.fun_;exact ⟨f,fd,HK,gm X G a,F.kp,F.binds (ps:=["found","due"]) (by walk_at "b")⟩
  have st:∀(j:Nat) (sp:Sp),j<=8->(∀m,j=m+1->sp=(i4 K m))->hV P w K mg base "_law_same" ["found","due"] j sp->hV P w K mg base "_law_same" ["found","due"] (j+1) (i4 K j):=fun j sp hj hsp Ds=>dG X G T.f_law_same (fun S _ _ _ _ _ _ _ _ _ hr hu h=>bK (DX hj hsp h) (ab (br (dE (wI (pv 1))) (ag (az (Eu (wI (pv 0))))) aL) (ab (br (ic wJ (pv 1) eU) (ag (az (Gw wJ (pv 0) eU))) aL) (ab (br (ic wJ (pv 1) eU) (ag (az (Gw wJ (pv 0) eU))) aL) (ab (br (gy (qB eI z.isinstance eJ (a2 (pv 1) (u5 rfl z.int)))) (ag (az (sW (qB eI z.isinstance eJ (a2 (pv 0) (u5 rfl z.int))) (sW (Hf (qB eI z.isinstance eJ (a2 (pv 0) (Ah rfl z.bool)))) (Ai (Gw (gE hu) (pv 0) (pv 1))))))) aL) (ab (br (gy (qB eI z.isinstance eJ (a2 (pv 1) (u4 rfl z.str)))) (ag (az (sW (qB eI z.isinstance eJ (a2 (pv 0) (u4 rfl z.str))) (Ai (Gw (gE hu) (pv 0) (pv 1)))))) aL) (ab (br (PW.pt (mE (ic oI (qB eI z.isinstance eJ (a2 (pv 1) (lc rfl z.tuple))) (qB eI z.isinstance eJ (a2 (pv 0) (lc rfl z.tuple)))) (ng (ic oI (qB eI z.isinstance eJ (a2 (pv 1) (nj rfl z.list))) (qB eI z.isinstance eJ (a2 (pv 0) (nj rfl z.list))))))) (ag (az eU)) aL) (ab (br (ic oI (ql z.len (a1 (pv 0))) (ql z.len (a1 (pv 1)))) (ag (az eU)) aL) (ab (bG bo rfl (By rfl z.zip (a2 (pv 0) (pv 1))) (cQ rfl (aq (gn 2 S) (aq (gn 3 S) cb))) (ag (br (nh (gy (GV Ds hr rfl (a2 (pv 2) (pv 3))))) (ag (az eU)) aL))) (ag (az eU))))))))))) (by walk_at "b") (l:=fun vs H Q E h=>by rcases h with h | h; (obtain ⟨_,_,_,_,rfl,_⟩:=h; rfl); (obtain ⟨_,_,h,_⟩:=h; subst h; rfl));have E1:=st 0 _ (by decide) (fun m e=>by cases e) E0;have E2:=st 1 _ (by decide) (fun m e=>by cases e; rfl) E1;have E3:=st 2 _ (by decide) (fun m e=>by cases e; rfl) E2;have E4:=st 3 _ (by decide) (fun m e=>by cases e; rfl) E3;exact E4
theorem qR :eM P w K mg C:=fun base=>dM c.mc.cls T.f_Machine_asks (fun S _ _ _ _ _ _ _ _ _ hr hu h=>bK (FW c.mc h) (ag (az (qL rfl z.list (a1 (b9 (pv 0) rfl)))))) (by walk_at "b")
theorem qQ :gg P w K mg C:=fun base=>dM c.mc.cls T.f_Machine_says (fun S _ _ _ _ _ _ _ _ _ hr hu h=>bK (FQ c.mc h) (ag (az (qL rfl z.list (a1 (b9 (pv 0) rfl)))))) (by walk_at "b")
theorem um (M_Machine_rooms:cT P w K mg C) (D_with_still:ir P w K mg C):km P w K mg C:=fun base=>dG X G T.f_first_face (fun S _ _ _ _ _ _ _ _ _ hr hu h=>bK (uw h) (ag (az (qf hr (D_with_still base) (a2 (pv 0) (cL fo (Eo hr (M_Machine_rooms base) (pv 0)) fq (cO ah))))))) (by walk_at "b")
theorem sH (D_with_still:ir P w K mg C) (M_Machine_goals:fy P w K mg C) (M_Machine_is_quiet:dO P w K mg C):ju P w K mg C:=fun base=>dG X G T.f_face_behind (fun S _ _ _ _ _ _ _ _ _ hr hu h=>bK (FU c.hush h) (ab (br (ic (gE hu) (pv 2) (jF rfl c.HUSH)) (ag (az (ix gX rfl z.tuple hE (a1 (qc (Ag (pv 1)) (bu (by decide)) fun _ _ _ _ _ _=>⟨gc 0,i9 (gy (qm hr (M_Machine_is_quiet base) (pv 1) (a1 (pv 0)))),pv 0⟩))))) aL) (ab (qs 3 S (bt b_)) (ab (bG bo rfl (Ag (pv 1)) (gn 4 S) (ag (aS (fg cP PySem.F.slot_list_extend PySem.F.type_list_extend CW (pv 3) (a1 (qm hr (M_Machine_goals base) (pv 0) (a2 (pv 4) (pv 2)))))))) (ag (az (qf hr (D_with_still base) (a2 (pv 0) (pv 3))))))))) (by walk_at "b")
theorem nX (M_Machine_asks:eM P w K mg C) (M_Machine_says:gg P w K mg C):gM P w K mg C a_HUSH:=fun base=>dG X G T.f_signs_in_order (fun S _ _ _ _ _ _ _ _ _ hr hu h=>bK (G7 h) (ag (az (aW iM (aW iM (qc (bf (Eo hr (M_Machine_asks base) (pv 0))) (bu (by decide)) fun _ _ _ _ _ _=>⟨gc 0,cY,aI (a2 bz (pv 0))⟩) (qc (bf (Eo hr (M_Machine_says base) (pv 0))) (bu (by decide)) fun _ _ _ _ _ _=>⟨gc 0,cY,aI (a2 bz (pv 0))⟩)) (bt (a1 (jF rfl c.HUSH))))))) (by walk_at "b")
theorem xU (D_face_behind:ju P w K mg C) (D_signs_in_order:gM P w K mg C a_HUSH):nM P w K mg C:=fun base=>dG X G T.f_steps_at (fun S _ _ _ _ _ _ _ _ _ hr hu h=>bK (z_ c.hush h) (ab (qs 2 S lh) (ab (bG bo rfl (bf (qf hr (D_signs_in_order base) (a1 (pv 0)))) (gn 3 S) (ab (qs 4 S (qf hr (D_face_behind base) (a3 (pv 0) (pv 1) (pv 3)))) (ag (br (ic yy (ql z.len (a1 (pv 4))) ah) (ag (oE hu (pv 2) (pv 3) (pv 4) rfl)) aL)))) (ag (az (pv 2)))))) (by walk_at "b")
theorem k4 :de P w K mg Cf:=fun base=>dM c.fc.cls T.f_FaceMap_number_at (fun S _ _ _ _ _ _ _ _ _ hr hu h=>bK (D0 c.fc h) (ab (br (dE (eP hu (pv 1) (b9 (pv 0) rfl))) (ab (br (ic kB (ql z.len (a1 (b9 (pv 0) rfl))) (jF rfl c.MOST_FACES)) (ag (oC)) aL) (ab (gW hu (b9 (pv 0) rfl) (pv 1) (ql z.len (a1 (b9 (pv 0) rfl))) rfl) (ab (aS (fg cP eA eo bL (b9 (pv 0) rfl) (a1 (pv 1)))) (ag (aS (fg cP eA eo bL (b9 (pv 0) rfl) (a1 (pv 2)))))))) aL) (ag (az (fu hu (b9 (pv 0) rfl) (pv 1) (fun _ _=>rfl)))))) (by walk_at "b")
theorem iV (D_steps_at:nM P w K mg C) (M_FaceMap_number_at:de P w K mg Cf):c8 P w K mg C Cf:=fun base=>dM c.fc.cls T.f_FaceMap_numbered_steps (fun S _ _ _ _ _ _ _ _ _ hr hu h=>bK (yj c.fc h) (ab (qs 2 S lh) (ab (bG bo rfl (uZ (qf hr (D_steps_at base) (a2 (b9 (pv 0) rfl) (xl (b9 (pv 0) rfl) (pv 1))))) (cQ rfl (aq (gn 3 S) (aq (gn 4 S) cb))) (ag (oE hu (pv 2) (pv 3) (qm hr (M_FaceMap_number_at base) (pv 0) (a2 (pv 4) (aW iM (xl (b9 (pv 0) rfl) (pv 1)) (bt (a1 (pv 3)))))) rfl))) (ag (az (pv 2)))))) (by walk_at "b")
theorem zW (D_first_face:km P w K mg C) (M_FaceMap_number_at:de P w K mg Cf) (M_FaceMap_numbered_steps:c8 P w K mg C Cf):qq P w K mg C Cf:=fun base=>dN c.cmf c.makesf c.kcf T.f_FaceMap___init__ (fun S _ _ _ _ _ _ _ _ _ hr hu h=>bK (CN c.fc h) (ab (gA (pv 0) (pv 1) rfl) (ab (gA (pv 0) (bt b_) rfl) (ab (gA (pv 0) (bt b_) rfl) (ab (gA (pv 0) lh rfl) (ab (gA (pv 0) (bt b_) rfl) (ab (aS (qm hr (M_FaceMap_number_at base) (pv 0) (a2 (qf hr (D_first_face base) (a1 (pv 1))) (bt b_)))) (ag (jE bo (ic sX (ql z.len (a1 (b9 (pv 0) rfl))) (ql z.len (a1 (b9 (pv 0) rfl)))) (ag (aS (fg cP eA eo bL (b9 (pv 0) rfl) (a1 (qm hr (M_FaceMap_numbered_steps base) (pv 0) (a1 (ql z.len (a1 (b9 (pv 0) rfl)))))))))))))))))) (by walk_at "b")
theorem DO (M_Machine_led_from:dL P w K mg C) (M_Machine_goals:fy P w K mg C):xz P w K mg C:=fun base=>dG X G T.f_takes (fun S _ _ _ _ _ _ _ _ _ hr hu h=>bK (DV h) (ag (az (qB (y9 rfl) z.any boot_any (a1 (qc (bf (aW iM (bt (a1 (pv 1))) (qm hr (M_Machine_led_from base) (pv 0) (a1 (pv 1))))) (bu (by decide)) fun _ _ _ _ _ _=>⟨gc 0,cY,Gw yy (ql z.len (a1 (qm hr (M_Machine_goals base) (pv 1) (a2 (pv 0) (aI (a2 bz (pv 2))))))) ah⟩)))))) (by walk_at "b")
theorem uh (M_Machine_asks:eM P w K mg C) (M_Machine_says:gg P w K mg C):ke P w K mg C:=fun base=>dG X G T.f_need_match (fun S _ _ _ _ _ _ _ _ _ hr hu h=>bK (sP h) (ag (br (PW.pt (mE (ic (nk hu) (Eo hr (M_Machine_asks base) (pv 0)) (Eo hr (M_Machine_asks base) (pv 1))) (ng (ic (nk hu) (Eo hr (M_Machine_says base) (pv 0)) (Eo hr (M_Machine_says base) (pv 1)))))) (ag (oC)) aL))) (by walk_at "b")
theorem jU (M_Machine_rooms:cT P w K mg C) (M_Machine_asks:eM P w K mg C) (D_takes:xz P w K mg C):dY P w K mg C:=fun base=>dG X G T.f_need_all_asks_taken (fun S _ _ _ _ _ _ _ _ _ hr hu h=>bK (wG h) (ag (bG bo rfl (bf (Eo hr (M_Machine_rooms base) (pv 0))) (gn 1 S) (ag (bG bo rfl (bf (Eo hr (M_Machine_asks base) (pv 0))) (gn 2 S) (ag (br (nh (gy (qf hr (D_takes base) (a3 (pv 0) (pv 1) (pv 2))))) (ag (oC)) aL))))))) (by walk_at "b")
theorem ue (D_need_match:ke P w K mg C) (D_need_all_asks_taken:dY P w K mg C):ka P w K mg C:=fun base=>dG X G T.f_need_taker (fun S _ _ _ _ _ _ _ _ _ hr hu h=>bK (sO (K:=K) h) (ab (aS (qf hr (D_need_match base) (a2 (pv 0) (pv 1)))) (ag (aS (qf hr (D_need_all_asks_taken base) (a1 (pv 1))))))) (by walk_at "b")
theorem kF :eL P w K mg C:=fun base=>dM c.mc.cls T.f_Machine_doors_from (fun S _ _ _ _ _ _ _ _ _ hr hu h=>bK (uy c.mc h) (ag (az (qL rfl z.list (a1 (oG hu (b9 (pv 0) rfl) (pv 1) (aI b_) ⟨rfl,rfl,rfl,rfl⟩)))))) (by walk_at "b")
theorem xT :nL P w K mg:=fun base=>dG X G T.f_story_to (fun S _ _ _ _ _ _ _ _ _ hr hu h=>bK (z9 h) (ab (qs 2 S (bt b_)) (ab (jE bo (dE (BC (fu hu (pv 0) (pv 1) (fun _ _=>rfl)))) (ab (h7 (fu hu (pv 0) (pv 1) (fun _ _=>rfl)) (cQ rfl (aq (gn 1 S) (aq (gn 3 S) cb)))) (ag (aS (fg cP eA eo bL (pv 2) (a1 (pv 3))))))) (ab (aS (Ak cP PySem.F.slot_list_reverse PySem.F.type_list_reverse An (pv 2))) (ag (az (pv 2))))))) (by walk_at "b")
theorem sD (D_story_to:nL P w K mg):jq P w K mg:=fun base=>dG X G T.f_least_fault (fun S _ _ _ _ _ _ _ _ _ hr hu h=>bK (uv h) (ab (qs 2 S (pW hu (aI (a2 ah ah)) pV)) (ab (qs 3 S (bt (a1 (aI (a2 ah ah))))) (ab (qs 4 S ah) (ab (jE bo (ic sX (pv 4) (ql z.len (a1 (pv 3)))) (ab (qs 5 S (xl (pv 3) (pv 4))) (ab (Hb (i:=4) S rfl (Or.inl rfl) ah Hl) (ab (qs 6 S (xl (pv 0) (xt (pv 5) ah))) (ag (bG bo rfl (uZ (xl (pv 1) (xt (pv 5) ah))) (cQ rfl (aq (gn 7 S) (aq (gn 8 S) cb))) (ag (br (dE (eP hu (pv 7) (pv 6))) (ag (br (ic oI (xt (pv 7) ah) bz) (ag (az (aI (a2 (qf hr (D_story_to base) (a2 (pv 2) (pv 5))) (pv 7))))) aL)) (ag (br (dE (eP hu (aI (a2 (fu hu (pv 6) (pv 7) (fun _ _=>rfl)) (pv 8))) (pv 2))) (ab (oE hu (pv 2) (aI (a2 (fu hu (pv 6) (pv 7) (fun _ _=>rfl)) (pv 8))) (aI (a2 (pv 5) (pv 7))) rfl) (ag (aS (fg cP eA eo bL (pv 3) (a1 (aI (a2 (fu hu (pv 6) (pv 7) (fun _ _=>rfl)) (pv 8)))))))) aL)))))))))) (ag (az pV))))))) (by walk_at "b")
theorem sC (M_Machine_is_quiet:dO P w K mg C) (M_Machine_doors_from:eL P w K mg C):jp P w K mg C:=fun base=>dG X G T.f_rows_needed (fun S _ _ _ _ _ _ _ _ _ hr hu h=>bK (DY c.hush c.still h) (ab (qs 4 S (bt b_)) (ab (bG bo rfl (bf (qm hr (M_Machine_doors_from base) (pv 0) (a1 (pv 1)))) (cQ rfl (aq (gn 5 S) (aq (gn 6 S) (aq (gn 7 S) cb)))) (ag (br (ic (gE hu) (pv 6) (jF rfl c.STILL)) (ag (aS (fg cP eA eo bL (pv 4) (a1 (aI (a2 (pv 7) (pv 2))))))) (ag (br (PW.pt (mE (dE (pX hu (pv 6) (pv 3))) (ng (ic kB (xt (pv 6) ah) bz)))) (ag (aS (fg cP eA eo bL (pv 4) (a1 (aI (a2 (pv 7) (yq hu (pv 3) (pv 6) ⟨rfl,rfl,rfl,rfl⟩))))))) aL))))) (ab (br (gy (qm hr (M_Machine_is_quiet base) (pv 0) (a1 (pv 1)))) (ag (aS (fg cP eA eo bL (pv 4) (a1 (aI (a2 (pv 1) (yq hu (pv 3) (jF rfl c.HUSH) ⟨rfl,rfl,rfl,rfl⟩))))))) aL) (ag (az (pv 4))))))) (by walk_at "b")
theorem xV (M_Machine_rooms:cT P w K mg C) (D_rows_needed:jp P w K mg C):nN P w K mg C Cf:=fun base=>dG X G T.f_paper_of (fun S _ _ _ _ _ _ _ _ _ hr hu h=>bK (Aa c.fc h) (ab (qs 2 S (aI (a2 (xl (Eo hr (M_Machine_rooms base) (pv 1)) ah) ah))) (ab (qs 3 S (pW hu (pv 2) eU)) (ab (qs 4 S (bt (a1 (pv 2)))) (ab (jE bo (ic yy (ql z.len (a1 (pv 4))) ah) (ab (h7 (Ak cP PySem.F.slot_list_pop PySem.F.type_list_pop EE (pv 4)) (cQ rfl (aq (gn 5 S) (aq (gn 6 S) cb)))) (ag (bG bo rfl (bf (qf hr (D_rows_needed base) (ck (pv 1) (a3 (pv 5) (pv 6) (xl (b9 (pv 0) rfl) (pv 6)))))) (gn 7 S) (ag (br (dE (eP hu (pv 7) (pv 3))) (ab (oE hu (pv 3) (pv 7) eU rfl) (ag (aS (fg cP eA eo bL (pv 4) (a1 (pv 7)))))) aL)))))) (ag (az (qc (Er (pv 3)) (BF (jG (bu (by decide)) eQ (jG (bu (by decide)) eQ (yt) (jJ)) (j3 eQ (jJ)))) fun _ _ _ _ _ _=>⟨cQ rfl (aq (gc 0) (aq (gc 1) cb)),cY,aI (a2 (pv 0) (xl (b9 (pv 2) rfl) (pv 1)))⟩)))))))) (by walk_at "b")
theorem DP (D_FaceMap:qq P w K mg C Cf) (D_need_taker:ka P w K mg C) (D_least_fault:jq P w K mg) (D_paper_of:nN P w K mg C Cf):Cr P w K mg C:=fun base=>dG X G T.f_keeps (fun S _ _ _ _ _ _ _ _ _ hr hu h=>bK (Ed c.fc h) (ab (aS (qf hr (D_need_taker base) (a2 (pv 0) (pv 1)))) (ab (qs 2 S (Aj (D_FaceMap base) (hr.mono (by decide)) rfl (a1 (pv 0)))) (ab (qs 3 S (qf hr (D_least_fault base) (a2 (b9 (pv 2) rfl) (b9 (Aj (D_FaceMap base) (hr.mono (by decide)) rfl (a1 (pv 1))) rfl)))) (ab (br (dE (wI (pv 3))) (ag (az (aI (a2 bz (qf hr (D_paper_of base) (a2 (pv 2) (pv 1))))))) aL) (ab (h7 (pv 3) (cQ rfl (aq (gn 4 S) (aq (gn 5 S) cb)))) (ag (az (aI (a3 bz (pv 4) (pv 5))))))))))) (by walk_at "b")
theorem sE (D_law_take:dJ P w K mg) (D_law_put:jO P w K mg) (D_law_still_on:eK P w K mg):jr P w K mg:=fun base=>dG X G T.f_law_willing (fun S _ _ _ _ _ _ _ _ _ hr hu h=>bK (z7 h) (ab (h7 (pv 1) (cQ rfl (aq (gn 2 S) (aq (gn 3 S) (aq (gn 4 S) (aq (gn 5 S) cb)))))) (ab (qs 5 S (qL rfl z.list (a1 (pv 5)))) (ab (bG bo rfl (bf (pv 4)) (gn 6 S) (ag (bG bo rfl (bf (pv 2)) (gn 7 S) (ab (qs 8 S (qf hr (D_law_still_on base) (a2 (pv 5) (bt (a1 (pv 6)))))) (ag (br (ic (gE hu) (qc (bf (pv 5)) (bu (by decide)) fun _ _ _ _ _ _=>⟨gc 0,i9 (PW.pt (gv (G6 (Am hu) (xq (pv 0) ah) (pv 1)) (ik (ic (gE hu) (xq (pv 0) ah) (aI (a2 bz (pv 2))))))),pv 0⟩) (bt b_)) (ab (qs 9 S (xl (bt (a2 (pv 6) (xl (pv 4) (qf hr (D_law_take base) (a2 (pv 0) (ql z.len (a1 (pv 4)))))))) (qf hr (D_law_take base) (a2 (pv 0) ah)))) (ag (aS (qf hr (D_law_put base) (a2 (pv 5) (aI (a3 (pv 6) (aI (a2 bz (pv 7))) (pv 9)))))))) aL)))))) (ag (az (aI (ck (pv 2) (a3 (pv 3) (pv 4) (pv 5)))))))))) (by walk_at "b")
theorem ui (D_law_take:dJ P w K mg) (D_law_put:jO P w K mg) (D_law_still_on:eK P w K mg):kg P w K mg:=fun base=>dG X G T.f_law_turned (fun S _ _ _ _ _ _ _ _ _ hr hu h=>bK (CJ h) (ab (h7 (pv 1) (cQ rfl (aq (gn 2 S) (aq (gn 3 S) (aq (gn 4 S) (aq (gn 5 S) cb)))))) (ab (qs 5 S (qL rfl z.list (a1 (pv 5)))) (ab (qs 6 S (qf hr (D_law_take base) (a2 (pv 0) ah))) (ab (qs 7 S (qf hr (D_law_take base) (a2 (pv 0) (qB (Dm rfl) z.max PyProof.Rows.boot_max (a2 ah (ql z.len (a1 (pv 5)))))))) (ab (qs 8 S (xl (pv 4) (qf hr (D_law_take base) (a2 (pv 0) (ql z.len (a1 (pv 4))))))) (ab (qs 9 S (xl (pv 4) (qf hr (D_law_take base) (a2 (pv 0) (ql z.len (a1 (pv 4))))))) (ab (br (ic kB (pv 6) ah) (ag (aS (qf hr (D_law_put base) (a2 (pv 5) (aI (a3 (pv 8) (aI (a2 bz (xl (pv 3) (qf hr (D_law_take base) (a2 (pv 0) (ql z.len (a1 (pv 3)))))))) (pv 9))))))) (ag (br (ic kB (pv 6) ah) (ag (aS (qf hr (D_law_put base) (a2 (pv 5) (aI (a3 (pv 8) (aI (a2 bz (xl (pv 2) (qf hr (D_law_take base) (a2 (pv 0) (ql z.len (a1 (pv 2)))))))) (pv 9))))))) (ag (br (PW.pt (gv (ic sX (pv 6) ah) (gv (ic (nk hu) (pv 5) (bt b_)) (ik (ic oI (xt (xt (xl (pv 5) (pv 7)) ah) ah) bz))))) (ab (qs 10 S (fg cP PySem.F.slot_list_pop PySem.F.type_list_pop ED (pv 5) (a1 (pv 7)))) (ag (br (ic kB (pv 6) ah) (ag (aS (qf hr (D_law_put base) (a2 (pv 5) (aI (a3 (xt (pv 10) ah) (xt (pv 10) ah) (pv 9))))))) aL))) (ag (br (PW.pt (gv (ic kB (pv 6) ah) (ik (G6 (lT hu) (pv 8) (qf hr (D_law_still_on base) (a2 (pv 5) (bt (a1 (pv 9))))))))) (ag (aS (qf hr (D_law_put base) (a2 (pv 5) (aI (a3 (pv 8) (aI (a1 bz)) (pv 9))))))) aL))))))) (ag (az (aI (ck (pv 2) (a3 (pv 3) (pv 4) (pv 5)))))))))))))) (by walk_at "b")
theorem sF (D_law_take:dJ P w K mg) (D_law_names:jg P w K mg):js P w K mg:=fun base=>dG X G T.f_law_renamed (fun S _ _ _ _ _ _ _ _ _ hr hu h=>bK (yi h) (ab (h7 (pv 1) (cQ rfl (aq (gn 2 S) (aq (gn 3 S) (aq (gn 4 S) (aq (gn 5 S) cb)))))) (ab (qs 6 S ln) (ab (bG bo rfl (By rfl z.zip (a2 (pv 4) (qf hr (D_law_names base) (a2 (pv 0) (ql z.len (a1 (pv 4))))))) (cQ rfl (aq (gn 7 S) (aq (gn 8 S) cb))) (ag (gW hu (pv 6) (pv 7) (pv 8) rfl))) (ab (qsc 9 S (bf (pv 4)) (bu (by decide)) fun _ _ _ _ _ _=>⟨gc 0,cY,fu hu (pv 1) (pv 0) (fun _ _=>rfl)⟩) (ab (qs 10 S (aW c7 ah (qf hr (D_law_take base) (a2 (pv 0) (ql z.len (a1 (pv 4))))))) (ab (qs 9 S (aW iM (aW iM (cL fo (pv 9) fq (cO ah)) (cL fo (pv 9) (cO (pv 10)) fq)) (cL fo (pv 9) (cO ah) (cO (pv 10))))) (ab (qsc 5 S (bf (pv 5)) (BF (jG (bu (by decide)) eQ (jG (bu (by decide)) eQ (jG (bu (by decide)) eQ (yt) (jJ)) (j3 eQ (jJ))) (j3 eQ (j3 eQ (jJ))))) fun _ _ _ _ _ _=>⟨cQ rfl (aq (gc 0) (aq (gc 1) (aq (gc 2) cb))),cY,aI (a3 (fu hu (pv 3) (pv 0) (fun _ _=>rfl)) (pv 1) (fu hu (pv 3) (pv 2) (fun _ _=>rfl)))⟩) (ag (az (aI (ck (pv 2) (a3 (pv 3) (pv 9) (pv 5)))))))))))))) (by walk_at "b")
theorem xZ (D_law_anew:kj P w K mg) (D_law_take:dJ P w K mg) (D_law_willing:jr P w K mg) (D_law_turned:kg P w K mg) (D_law_renamed:js P w K mg):tW P w K mg:=fun base=>dG X G T.f_law_near (fun S _ _ _ _ _ _ _ _ _ hr hu h=>bK (FS (K:=K) h) (ab (aS (qf hr (D_law_anew base) (a1 (pv 0)))) (ab (bG bo rfl (gB rfl z.range (a1 (qf hr (D_law_take base) (a2 (pv 0) (aW c7 (pv 2) ah))))) (gn 3 S) (ag (qs 1 S (qf hr (D_law_turned base) (a2 (pv 0) (pv 1)))))) (ab (qs 1 S (qf hr (D_law_willing base) (a2 (pv 0) (pv 1)))) (ab (br (ic kB (qf hr (D_law_take base) (a2 (pv 0) ah)) ah) (ag (qs 1 S (qf hr (D_law_renamed base) (a2 (pv 0) (pv 1))))) aL) (ag (az (pv 1)))))))) (by walk_at "b")
theorem wx (D_law_on:o8 P w K mg) (D_law_behind:ki P w K mg) (D_law_signs:lL P w K mg):qN P w K mg:=fun base=>dG X G T.f_law_least (fun S _ _ _ _ _ _ _ _ _ hr hu h=>bK (Eb h) (ab (qs 2 S (aI (a2 (qf hr (D_law_on base) (a2 (pv 0) (cL fo (xq (pv 0) ah) fq (cO ah)))) (qf hr (D_law_on base) (a2 (pv 1) (cL fo (xq (pv 1) ah) fq (cO ah))))))) (ab (qs 3 S (bt (a1 (aI (a2 (pv 2) (bt b_)))))) (ab (qs 4 S (pW hu (pv 2) eU)) (ab (qs 5 S (qf hr (D_law_signs base) (a1 (pv 0)))) (ab (bG bo rfl (gB rfl z.range (a1 ah)) (gn 6 S) (ag (br (ic sX (pv 6) (ql z.len (a1 (pv 3)))) (ab (h7 (xl (pv 3) (pv 6)) (cQ rfl (aq (cQ rfl (aq (gn 7 S) (aq (gn 8 S) cb))) (aq (gn 9 S) cb)))) (ag (bG bo rfl (bf (pv 5)) (gn 10 S) (ab (qs 11 S (aI (a2 (qf hr (D_law_behind base) (a3 (pv 0) (pv 7) (pv 10))) (qf hr (D_law_behind base) (a3 (pv 1) (pv 8) (pv 10)))))) (ab (br (PW.pt (gv (ic oI (xt (pv 10) ah) bz) (gv (ic (gE hu) (xt (pv 11) ah) (aI b_)) (ik (ic (nk hu) (xt (pv 11) ah) (aI b_)))))) (ag (az (aI (a3 bz (pv 9) (pv 10))))) aL) (ag (br (PW.pt (gv (ic (nk hu) (xt (pv 11) ah) (aI b_)) (gv (ic (nk hu) (xt (pv 11) ah) (aI b_)) (ik (dE (eP hu (pv 11) (pv 4))))))) (ab (gW hu (pv 4) (pv 11) eU rfl) (ag (aS (fg cP eA eo bL (pv 3) (a1 (aI (a2 (pv 11) (aW iM (pv 9) (bt (a1 (pv 10))))))))))) aL))))))) aL))) (ag (az pV)))))))) (by walk_at "b")
end
theorem Hj (X:K.In h) (G:h.Ns bU mg) (z:Zs mg) (c:Cs K mg C Cf a_STILL a_HUSH) (T:Ts K C Cf):∃f fd,mg "law"=some (.ref f)/\(∀(s:Shared) (v:Value),rF s fd ⟨[v],[]⟩ [("script",v)])/\∀base:Heap,lK P w K mg base CX0 9 f fd ["script"] (sp_law22 K):=by
 have D_law_spread:kh P w K mg:=uj X G z c T;have D_law_open:tV P w K mg:=xY X G z c T;have D_law_anew:kj P w K mg:=x_ X G z c T;have D_law_take:dJ P w K mg:=xW X G z c T D_law_spread;have D_law_names:jg P w K mg:=wv X G z c T D_law_take;have D_law_put:jO P w K mg:=zS X G z c T;have D_law_draw_doors:gP P w K mg:=nY X G z c T D_law_take D_law_put;have D_law_model:qM P w K mg:=ww X G z c T D_law_anew D_law_take D_law_names D_law_draw_doors;have D_is_name:qo P w K mg:=zT X G z c T;have D_as_keys:jP P w K mg:=zU X G z c T;have D_first_wrong_name:fD P w K mg:=mf X G z c T D_is_name D_as_keys;have D_door_signs:ko P w K mg:=uo X G z c T;have D_first_wrong_door:fE P w K mg:=mh X G z c T D_as_keys;have D_goals_by_start_and_sign:cS P w K mg:=iI X G z c T;have D_led_by_still:iS P w K mg:=qS X G z c T;have D_first_led_round:gf P w K mg:=m8 X G z c T;have D_need_none:jf P w K mg:=wt X G z c T;have D_need_parts:kb P w K mg:=ug X G z c T D_first_wrong_name D_door_signs D_first_wrong_door D_need_none;have D_doors_by_start:gR P w K mg:=n5 X G z c T;have D_has_asks_alone:gQ P w K mg:=nZ X G z c T;have D_Machine:qp P w K mg C:=zV X G z c T D_as_keys D_goals_by_start_and_sign D_led_by_still D_first_led_round D_need_none D_need_parts D_doors_by_start D_has_asks_alone;have D_law_machine:mH P w K mg C:=sG X G z c T D_Machine;have M_Machine_rooms:cT P w K mg C:=pJ X G z c T;have M_Machine_led_from:dL P w K mg C:=l_ X G z c T;have D_with_still:ir P w K mg C:=ud X G z c T M_Machine_rooms M_Machine_led_from
 have M_Machine_goals:fy P w K mg C:=pK X G z c T;have M_Machine_is_quiet:dO P w K mg C:=me X G z c T;have D_law_still_on:eK P w K mg:=qT X G z c T;have D_law_on:o8 P w K mg:=CG X G z c T D_law_still_on;have D_law_is_quiet:iT P w K mg:=qU X G z c T;have D_law_behind:ki P w K mg:=uk X G z c T D_law_on D_law_is_quiet;have D_law_signs:lL P w K mg:=wu X G z c T;have D_law_same:tU P w K mg:=xX X G z c T;have M_Machine_asks:eM P w K mg C:=qR X G z c T;have M_Machine_says:gg P w K mg C:=qQ X G z c T;have D_first_face:km P w K mg C:=um X G z c T M_Machine_rooms D_with_still;have D_face_behind:ju P w K mg C:=sH X G z c T D_with_still M_Machine_goals M_Machine_is_quiet;have D_signs_in_order:gM P w K mg C a_HUSH:=nX X G z c T M_Machine_asks M_Machine_says;have D_steps_at:nM P w K mg C:=xU X G z c T D_face_behind D_signs_in_order;have M_FaceMap_number_at:de P w K mg Cf:=k4 X G z c T;have M_FaceMap_numbered_steps:c8 P w K mg C Cf:=iV X G z c T D_steps_at M_FaceMap_number_at;have D_FaceMap:qq P w K mg C Cf:=zW X G z c T D_first_face M_FaceMap_number_at M_FaceMap_numbered_steps;have D_takes:xz P w K mg C:=DO X G z c T M_Machine_led_from M_Machine_goals;have D_need_match:ke P w K mg C:=uh X G z c T M_Machine_asks M_Machine_says;have D_need_all_asks_taken:dY P w K mg C:=jU X G z c T M_Machine_rooms M_Machine_asks D_takes;have D_need_taker:ka P w K mg C:=ue X G z c T D_need_match D_need_all_asks_taken;have M_Machine_doors_from:eL P w K mg C:=kF X G z c T;have D_story_to:nL P w K mg:=xT X G z c T;have D_least_fault:jq P w K mg:=sD X G z c T D_story_to;have D_rows_needed:jp P w K mg C:=sC X G z c T M_Machine_is_quiet M_Machine_doors_from
 have D_paper_of:nN P w K mg C Cf:=xV X G z c T M_Machine_rooms D_rows_needed;have D_keeps:Cr P w K mg C:=DP X G z c T D_FaceMap D_need_taker D_least_fault D_paper_of;have D_law_willing:jr P w K mg:=sE X G z c T D_law_take D_law_put D_law_still_on;have D_law_turned:kg P w K mg:=ui X G z c T D_law_take D_law_put D_law_still_on;have D_law_renamed:js P w K mg:=sF X G z c T D_law_take D_law_names;have D_law_near:tW P w K mg:=xZ X G z c T D_law_anew D_law_take D_law_willing D_law_turned D_law_renamed;have D_law_least:qN P w K mg:=wx X G z c T D_law_on D_law_behind D_law_signs;obtain ⟨f,a,t⟩:=T.f_law22;obtain ⟨oc,od,an,sl,kV,dc,pm,cd,ct,l,c1,k1⟩:=t;have F:=ET (st:=(fJ 67)) l c1 k1;have sc:j9 Cn Ep (bZ (fJ 67)):=by walk_at "s"
 have S:=sc.nd;exact ⟨f,_,gm X G a,fun s v=>.of_eq rfl,fun base=>F.ok (k:=8) sc (by walk_at "l") (fun _ _ _ _ _ _ _ _ hr h=>by have hu:=BR hr; exact bK (Ec (C:=C) h) (ab (qs 1 S (qf hr (D_law_open base) (a1 (pv 0)))) (ab (qs 2 S (qf hr (D_law_model base) (a3 (pv 1) ah ah))) (ab (qs 3 S (qf hr (D_law_near base) (a3 (pv 1) (pv 2) ah))) (ab (qs 4 S (qf hr (D_law_machine base) (a1 (pv 2)))) (ab (qs 5 S (qf hr (D_law_machine base) (a1 (pv 3)))) (ab (qs 6 S (qf hr (D_law_least base) (a2 (pv 2) (pv 3)))) (ab (bG bo rfl (gB rfl z.range (a1 ah)) (gn 7 S) (ab (qs 8 S (qf hr (D_keeps base) (a2 (pv 4) (pv 5)))) (ab (br (dE (wI (pv 6))) (ab (br (PW.pt (mE (nh (gy (qB eI z.isinstance eJ (a2 (pv 8) (lc rfl z.tuple))))) (mE (ic oI (ql z.len (a1 (pv 8))) ah) (ng (nh (gy (qf hr (D_law_same base) (a2 (xt (pv 8) ah) bz)))))))) (ag (az eU)) aL) (ag (br (nh (gy (qB eI z.isinstance eJ (a2 (xt (pv 8) ah) (nj rfl z.list))))) (ag (az eU)) aL))) (ag (br (nh (gy (qf hr (D_law_same base) (a2 (pv 8) (pv 6))))) (ag (az eU)) aL))) (ag (aS (fg cP eA eo bL (xt (pv 8) ah) (a1 (aI (a1 bz))))))))) (ag (az eU))))))))))⟩
theorem all_mk {l:PySem.W.OpenLaw}{fa:Addr}{u_LETTERS:Value}{u_LONGEST_NAME:Value}{u_MOST_WORDS:Value}{u_MOST_ROOMS:Value}{u_MOST_DOORS:Value}{u_MOST_FACES:Value}{o_STILL:Obj}{i_STILL:Array Value}{n_STILL:Nat}{o_HUSH:Obj}{i_HUSH:Array Value}{n_HUSH:Nat}(X:K.In h) (G:h.Ns bU mg) (hfa:mg "law"=some (.ref fa))
  (aC:cn K bU "Machine"=some (some (.ref C)))
  (pg:uM K C Str.empty=true)
  (hd:xD K C=true)
  (po:Bc K C=true)
  (sa:df K (.ref C) "__setattr__"=some (some (.builtin "object.__setattr__")))
  (mk:rH K C=true)
  (kc:iB K (.ref C)=true)
  (na1:df K (.ref C) "own_asks"=some none)
  (na2:df K (.ref C) "own_says"=some none)
  (na3:df K (.ref C) "own_rooms"=some none)
  (na4:df K (.ref C) "own_doors"=some none)
  (na5:df K (.ref C) "leaving"=some none)
  (na6:df K (.ref C) "quiet"=some none)
  (na7:df K (.ref C) "sign_goals"=some none)
  (na8:df K (.ref C) "still_led"=some none)
  (aF:cn K bU "FaceMap"=some (some (.ref Cf)))
  (pgF:uM K Cf Str.empty=true)
  (hdF:xD K Cf=true)
  (poF:Bc K Cf=true)
  (saF:df K (.ref Cf) "__setattr__"=some (some (.builtin "object.__setattr__")))
  (mkF:rH K Cf=true)
  (kcF:iB K (.ref Cf)=true)
  (nf1:df K (.ref Cf) "machine"=some none)
  (nf2:df K (.ref Cf) "faces"=some none)
  (nf3:df K (.ref Cf) "first_stories"=some none)
  (nf4:df K (.ref Cf) "numbers"=some none)
  (nf5:df K (.ref Cf) "steps"=some none)
  (z_all:cn K bU "all"=some none)
  (z_any:cn K bU "any"=some none)
  (z_bool:cn K bU "bool"=some none)
  (z_dict:cn K bU "dict"=some none)
  (z_enumerate:cn K bU "enumerate"=some none)
  (z_int:cn K bU "int"=some none)
  (z_isinstance:cn K bU "isinstance"=some none)
  (z_len:cn K bU "len"=some none)
  (z_list:cn K bU "list"=some none)
  (z_max:cn K bU "max"=some none)
  (z_range:cn K bU "range"=some none)
  (z_str:cn K bU "str"=some none)
  (z_tuple:cn K bU "tuple"=some none)
  (z_zip:cn K bU "zip"=some none)
  (g_LETTERS:cn K bU "LETTERS"=some (some u_LETTERS))
  (r_LETTERS:RelV (.str "abcdefghijklmnopqrstuvwxyz") u_LETTERS)
  (g_LONGEST_NAME:cn K bU "LONGEST_NAME"=some (some u_LONGEST_NAME))
  (r_LONGEST_NAME:RelV (.int 8) u_LONGEST_NAME)
  (g_MOST_WORDS:cn K bU "MOST_WORDS"=some (some u_MOST_WORDS))
  (r_MOST_WORDS:RelV (.int 4) u_MOST_WORDS)
  (g_MOST_ROOMS:cn K bU "MOST_ROOMS"=some (some u_MOST_ROOMS))
  (r_MOST_ROOMS:RelV (.int 150) u_MOST_ROOMS)
  (g_MOST_DOORS:cn K bU "MOST_DOORS"=some (some u_MOST_DOORS))
  (r_MOST_DOORS:RelV (.int 2000) u_MOST_DOORS)
  (g_MOST_FACES:cn K bU "MOST_FACES"=some (some u_MOST_FACES))
  (r_MOST_FACES:RelV (.int 400) u_MOST_FACES)
  (g_STILL:cn K bU "STILL"=some (some (.ref a_STILL)))
  (l_STILL:K.lookup a_STILL=some o_STILL)
  (c_STILL:o_STILL.cls=.type "tuple")
  (d_STILL:o_STILL.data=.seq i_STILL n_STILL)
  (s_STILL:i_STILL.size<=ai)
  (v_STILL:bc (av.map V.str) i_STILL.toList)
  (g_HUSH:cn K bU "HUSH"=some (some (.ref a_HUSH)))
  (l_HUSH:K.lookup a_HUSH=some o_HUSH)
  (c_HUSH:o_HUSH.cls=.type "tuple")
  (d_HUSH:o_HUSH.data=.seq i_HUSH n_HUSH)
  (s_HUSH:i_HUSH.size<=ai)
  (v_HUSH:bc (bP.map V.str) i_HUSH.toList)
  (T:Ts K C Cf)
 :∃fd:kq,(∀(s:Shared) (v:Value),rF s fd ⟨[v],[]⟩ [("script",v)])/\∀base:Heap,K.In base->base.Ns bU mg->lK l.prog w K mg base CX0 9 fa fd ["script"] (sp_law22 K):=by
 have z:Zs mg:=⟨fL X G z_all,fL X G z_any,fL X G z_bool,fL X G z_dict,fL X G z_enumerate,fL X G z_int,fL X G z_isinstance,fL X G z_len,fL X G z_list,fL X G z_max,fL X G z_range,fL X G z_str,fL X G z_tuple,fL X G z_zip⟩;have c:Cs K mg C Cf a_STILL a_HUSH:=⟨⟨_,gm X G g_LETTERS,r_LETTERS⟩,⟨_,gm X G g_LONGEST_NAME,r_LONGEST_NAME⟩,⟨_,gm X G g_MOST_WORDS,r_MOST_WORDS⟩,⟨_,gm X G g_MOST_ROOMS,r_MOST_ROOMS⟩,⟨_,gm X G g_MOST_DOORS,r_MOST_DOORS⟩,⟨_,gm X G g_MOST_FACES,r_MOST_FACES⟩,⟨_,gm X G g_STILL,rfl⟩,⟨_,gm X G g_HUSH,rfl⟩,Bm l_STILL c_STILL d_STILL s_STILL v_STILL,Bm l_HUSH c_HUSH d_HUSH s_HUSH v_HUSH,⟨⟨pg,hd,po,sa⟩,na1,na2,na3,na4,na5,na6,na7,na8⟩,gm X G aC,mk,kc,⟨⟨pgF,hdF,poF,saF⟩,nf1,nf2,nf3,nf4,nf5⟩,gm X G aF,mkF,kcF⟩;obtain ⟨f,fd,e,b,k⟩:=Hj (P:=l.prog) (w:=w) X G z c T;have e0:=hfa.symm.trans e;cases e0;exact ⟨fd,b,fun base _ _=>k base⟩
end
end Mum
namespace PySem.W.Fast
def tw3233297440859382500:=0
def tw12082900690174855508:=0
def tw407314773002529947:=0
def tw16519817745407712972:=0
def tw17304615216220113881:=0
def tw1942125209296602701:=0
def tw13896614975328764399:=0
def tw2309526652561324961:=0
def tw3312372531282297695:=0
def tw3280031485593281362:=0
def tw4976106022308911917:=0
def tw17759863806341040016:=0
def tw1653395643415186448:=0
def tw16945272843755010214:=0
def tw834355610281151227:=0
def tw16494732660104016566:=0
def tw10855333189665383622:=0
def tw17927043219925692512:=0
def tw890635761335057706:=0
def tw2732918839361401844:=0
def tw8385507019398966947:=0
def tw12357436360942215611:=0
def tw1569468718279628788:=0
def tw13499821750837858070:=0
def tw203542765774742722:=0
def tw952228920774286604:=0
def tw1503608294346289008:=0
def tw7707817646252371108:=0
def tw5855282301277094614:=0
def tw8857922769035266801:=0
def tw28329600063146018:=0
def tw15903204109547258448:=0
def tw841606641850945273:=0
def tw1284260619297862688:=0
def tw16012051825693781624:=0
def tw15636159909878377971:=0
def tw3163079590071900660:=0
def tw17547418292386538164:=0
def tw1348338788265661236:=0
def tw2436444085657698833:=0
def tw17998238468449949325:=0
def tw17409794557275799083:=0
def tw17249353880017949207:=0
def tw4394488099812769193:=0
def tw12685518679214437217:=0
def tw13451544375934997985:=0
def tw2345068221565745222:=0
def tw10138832948311732126:=0
def tw16700048161782183082:=0
def tw1688598666579347881:=0
def tw2168947511061459866:=0
def tw1254683742724621929:=0
def tw4742778714715962527:=0
def tw1815153430974905919:=0
def tw6056607013429806364:=0
def tw11070300261176468101:=0
def tw7871931431226065095:=0
def tw17019432486662307347:=0
def tw7185570254573416968:=0
def tw13678594847804545055:=0
def tw17889410740608835945:=0
def tw7518104129991483630:=0
def tw12160604170548360753:=0
def tw13234930796705045242:=0
def tw7691191788056499234:=0
def tw4621228083330280210:=0
def tw9091275723613225058:=0
def tw15026142766519725128:=0
def tw11581357987562841774:=0
def tw16558495813074302156:=0
def tw1038580265836455637:=0
def tw8296459332396846708:=0
def tw3921034121376650282:=0
def tw3232186418418615558:=0
def tw7383560103517011704:=0
def tw4265098118684715881:=0
def tw16845688005677709013:=0
def tw18223187696939811266:=0
def tw16358524502229615669:=0
def tw320495464906574896:=0
def tw15888946301711492995:=0
def tw10201203009243345760:=0
def tw10086624502928063644:=0
def tw10577085068622866816:=0
def tw280246855319725268:=0
def tw13595202604681663143:=0
def tw5754110098470292337:=0
def tw88530942943651645:=0
def tw11244462201592498627:=0
def tw12190166792310776808:=0
def tw6074024144209545244:=0
def tw5518760777279170057:=0
def tw11865684746780449034:=0
def tw1669778520964042695:=0
def tw17722264854286893678:=0
def tw13963965856007289387:=0
def tw11444121720340501989:=0
def tw9454049407204378424:=0
def tw5315166890099063996:=0
def tw4531117658678788506:=0
def tw11298396180140850275:=0
def tw16110643671022035990:=0
def tw9460264673468736065:=0
def tw12687444633873333440:=0
def tw10376982549020825615:=0
def tw9181082884831863896:=0
def tw16824918661913093928:=0
def tw3144213337639997924:=0
def tw4322509676334725218:=0
def tw10562644111270193211:=0
def tw8017994474233015247:=0
def tw13461945160098202895:=0
def tw9083729083356348243:=0
def tw17995425841635897163:=0
def tw11063664052495528172:=0
def tw8014497223285312976:=0
def tw16351917352748531029:=0
def tw6867242225922217711:=0
def tw2223107188625945222:=0
def tw5809433596466774081:=0
def tw5212570019589400819:=0
def tw6305396713488588904:=0
def tw17089383864201718984:=0
def tw4567627434082293136:=0
def tw17199393322939478673:=0
def tw16550772193855269016:=0
def tw5874967323911898741:=0
def tw17285591617101056527:=0
def tw822843570761442308:=0
def tw15419936031858869203:=0
def tw2778623094537605173:=0
def tw6365632431951321556:=0
def tw4762072722454160092:=0
def tw10678340905260077488:=0
def tw14595256565041253365:=0
def tw3654974008992271281:=0
def tw3504368025912751311:=0
def tw11711218176534357123:=0
def tw13833618563503980500:=0
def tw4394091131694146002:=0
def tw8250440365623950098:=0
def tw3035233531112077855:=0
def tw12802091309259330596:=0
def tw13648942500376277823:=0
def tw14144642257638475687:=0
def tw4950088254151861162:=0
def tw5311793525050073642:=0
def tw10553832409218577875:=0
def tw7075035849533820438:=0
def tw4090656063869159884:=0
def tw15838066960585322039:=0
def tw11427708265667308832:=0
def tw3186630681620325055:=0
def tw17213573877267575956:=0
def tw3439405583865325666:=0
def tw9359513664504503656:=0
def tw17388985794931801358:=0
def tw17461957209030195614:=0
def tw15714697260761001433:=0
def tw2704240751232755131:=0
def tw9986280066354374649:=0
def tw12927087902299665489:=0
def tw3968875993252002407:=0
def tw7012191176704877649:=0
def tw3595147005561420234:=0
def tw14215163906811312179:=0
def tw5866115102726484978:=0
def tw16279021317710793123:=0
def tw79564143399342720:=0
def tw151386151008357632:=0
def tw7048067323249648150:=0
def tw6991726434655243103:=0
def tw5903580840312600582:=0
def tw4008810830272917656:=0
def tw12150041876417183028:=0
def tw3385564582240288834:=0
def tw15604848672132327346:=0
def tw18176955286353383729:=0
def tw2656264434182858001:=0
def tw6195205982720703438:=0
def tw14115779583810639724:=0
def tw38990928574245688:=0
def tw15306852597015454426:=0
def tw885471824995535145:=0
def tw10853473055383977017:=0
def tw3755764027691330408:=0
def tw11758724419471788175:=0
def tw11815189939433394244:=0
def tw6578022891090194943:=0
def tw4916426995311952361:=0
def tw8176968069592548808:=0
def tw10126471880322327281:=0
def tw3513275423583562167:=0
def tw12046960575610309727:=0
def tw5928086752453011769:=0
def tw13966885621512565179:=0
def tw1335662621647598176:=0
def tw10736655911590923157:=0
def tw761410286994404263:=0
def tw6224822236391332144:=0
def tw10796827108422807058:=0
def tw6329729212526074959:=0
def tw3346057165038141663:=0
def tw8125985630331529880:=0
def tw13771929515475446198:=0
def tw15364263813482496411:=0
def tw16950879504764119098:=0
def tw752383179681894970:=0
def tw5285817760024923477:=0
def tw14955341198862528759:=0
def tw17573755009159121279:=0
def tw14638800505734085566:=0
def tw14393987443444665880:=0
def tw7630028388232816672:=0
def tw11433157265061477506:=0
def tw2600468938454652663:=0
def tw5829616412150886633:=0
def tw14436699286405377438:=0
def tw13622982070981228517:=0
def tw4601654437588767428:=0
def tw4865108686558383950:=0
def tw10829694787055494639:=0
def tw225828757728155388:=0
def tw14581527235254095080:=0
def tw11211806279875089915:=0
def tw5294157233673451145:=0
def tw1184415154810998591:=0
def tw1954183600955745470:=0
def tw15874988368240697258:=0
def tw2858161641611284624:=0
def tw14773101550121355800:=0
def tw7937566729322753751:=0
def tw3161754870043886251:=0
def tw4106395908927157481:=0
def tw15797984385096758633:=0
def tw16672637572960865126:=0
def tw3456438502182549128:=0
def tw3866020595049333980:=0
def tw8259235532526262212:=0
def tw17787587273555044310:=0
def tw4450672160883162901:=0
def tw15245732187018299098:=0
def tw10708349361402271938:=0
def tw6967556184261740977:=0
def tw2905088586014800519:=0
def tw16401982327709387974:=0
def tw6280594313063802208:=0
def tw16025323617142226329:=0
def tw13880442482972755259:=0
def tw12432007063657710726:=0
def tw5440151376706327566:=0
def tw14507695321733417537:=0
def tw13304043570154219161:=0
def tw4403198453388523415:=0
def tw15972213793479314570:=0
def tw10884582238134047340:=0
def tw8969462439481636577:=0
def tw2727575981738784948:=0
def tw986471220528066606:=0
def tw14197524766681553215:=0
def tw9360006378577595600:=0
def tw8093361223040613797:=0
def tw398339066987710235:=0
def tw16569852020604307729:=0
def tw13453425079596440457:=0
def tw16327185882487925035:=0
def tw5761358542709783851:=0
def tw5490090455222434254:=0
def tw17662992766882555732:=0
def tw14249726705904034715:=0
def tw6865070373531793832:=0
def tw14145137856862454635:=0
def tw6447342037835371878:=0
def tw8460159812261854801:=0
def tw6877611943389439087:=0
def tw8275258486461440952:=0
def tw482839283485280777:=0
def tw8928740767054352885:=0
def tw15222541397669929701:=0
def tw4885984304178911038:=0
def tw10436911834776434166:=0
def tw9610027240779271183:=0
def tw7873201316298528736:=0
def tw17499903572198590993:=0
def tw5163112462244648312:=0
def tw4452400271656681100:=0
def tw10886993259187281121:=0
def tw1909569189229916770:=0
def tw50052053122561225:=0
def tw11103093260119299109:=0
def tw8050222217170745602:=0
def tw9723335254485620941:=0
def tw12006870298768112548:=0
def tw12670359797473863951:=0
def tw10081704916542912562:=0
def tw15631235793729274214:=0
def tw10836120008907579553:=0
def tw16475731562674929909:=0
def tw13144316232471091536:=0
def tw18173955667577798676:=0
def tw10291473390663764687:=0
def tw14912961052090897124:=0
def tw8468591890627149869:=0
def tw6658523258571787191:=0
def tw16964206907826572919:=0
def tw3643419258579783221:=0
def tw15827845528760731298:=0
def tw15873001879118128197:=0
def tw1154889939705790969:=0
def tw10192036726348059476:=0
def tw9035999631717022430:=0
def tw53996191294704394:=0
def tw817066025113428807:=0
def tw4876168637496352745:=0
def tw8656321953570081136:=0
def tw6248940389974297604:=0
def tw705615576412416980:=0
def tw8536159702738548886:=0
def tw5872240303744626205:=0
def tw10741286270823272409:=0
def tw4953055050792638066:=0
def tw14026368642547301951:=0
def tw3290045934962959655:=0
def tw10605568122691410984:=0
def tw12653710012630889425:=0
def tw16726324256318992308:=0
def tw11560914621728100690:=0
def tw797820852930836153:=0
def tw8338107235434549221:=0
def tw3362870213169764238:=0
def tw8052943419985988283:=0
def tw18412589690553207361:=0
def tw16430284397226156791:=0
def tw17028954164728119146:=0
def tw3021510317846875160:=0
def tw10838993483873373852:=0
def tw10669873043927908682:=0
def tw16457708741378842511:=0
def tw4679196163984990799:=0
def tw2993348104164671584:=0
def tw2637209691386307620:=0
def tw14425279955301684325:=0
def tw10580072971189500092:=0
def tw6703567964033633523:=0
def tw14165882153426534662:=0
def tw7534629918643643337:=0
def tw8724852036547378057:=0
def tw4149295888452956651:=0
def tw5147291794727024190:=0
def tw13365814870485066583:=0
def tw1868124588671798284:=0
def tw8656194950832704460:=0
def tw11415981844156054838:=0
def tw11299611727322416495:=0
def tw12554245079827043069:=0
def tw17357552774074550875:=0
def tw3092183016257407011:=0
def tw17188853477565501392:=0
def tw14319494994167928648:=0
def tw15200317835150468253:=0
def tw8430621325296996821:=0
def tw10385097071108818874:=0
def tw15446490913289499489:=0
def tw1848292429480609828:=0
def tw14062384293545564052:=0
def tw5334938979028561284:=0
def tw106588199036098224:=0
def tw849809430929077139:=0
def tw5892928140997180801:=0
def tw437205289002442153:=0
def tw12174735292779875084:=0
def tw12380912775044098123:=0
def tw8280240028400418706:=0
def tw8286412548025221293:=0
def tw15917612582765518700:=0
def tw9517927488421635531:=0
def tw11231141070483276612:=0
def tw13325189573949357782:=0
def tw11398772343275383124:=0
def tw5616025418256311540:=0
def tw10655851445863709298:=0
def tw8429088959960686200:=0
def tw1445173954656215043:=0
def tw1609278508676103658:=0
def tw1127300320535536619:=0
def tw124600762318929512:=0
def tw838808555993741290:=0
def tw5694494880455359420:=0
def tw5415215559114766928:=0
def tw4882611008213121017:=0
def tw1588654307874838060:=0
def tw13295070508733850561:=0
def tw11407007490173794251:=0
def tw10290674692253957888:=0
def tw8471282639220852690:=0
def tw15498684342071611017:=0
def tw180326192184869990:=0
def tw12931489962792350145:=0
def tw14429086389999976651:=0
def tw9720337840734182240:=0
end PySem.W.Fast
open PySem PySem.W PyProof.Rows
set_option maxRecDepth 100000 in
set_option maxHeartbeats 0 in
theorem PySem.Challenge.cw_mumtrial_k22_the_least_fault_holds : PySem.Challenge.rw_mumtrial_k22_the_least_fault.Holds := by
 w_on; o_law; k_head; (case hw=>w_witness2)
 k_fill
 refine L2.walk_ofK (l:=PySem.Challenge.rw_mumtrial_k22_the_least_fault) (n:=63) (k:=9) (x:="script") (CX:=L2.CX0) (sp:=Mum.sp_law22) rfl (by decide) rfl ⟨rfl,by decide,by decide⟩ (fun w h Y=>PySem.W.kIn_of Y) ?F (fun _ _ a ns hl _ hS=>⟨a,ns,rfl,hS,hl,fun _=>rfl⟩) (fun _ _ _ _ z=>z)
 case F =>
  intro w mg fa h KX G hmg;refine' Mum.all_mk KX G hmg ?aC ?pg ?hd ?po ?sa ?mk ?kc ?na1 ?na2 ?na3 ?na4 ?na5 ?na6 ?na7 ?na8 ?aF ?pgF ?hdF ?poF ?saF ?mkF ?kcF ?nf1 ?nf2 ?nf3 ?nf4 ?nf5 ?z_all ?z_any ?z_bool ?z_dict ?z_enumerate ?z_int ?z_isinstance ?z_len ?z_list ?z_max ?z_range ?z_str ?z_tuple ?z_zip ?g_LETTERS ?r_LETTERS ?g_LONGEST_NAME ?r_LONGEST_NAME ?g_MOST_WORDS ?r_MOST_WORDS ?g_MOST_ROOMS ?r_MOST_ROOMS ?g_MOST_DOORS ?r_MOST_DOORS ?g_MOST_FACES ?r_MOST_FACES ?g_STILL ?l_STILL ?c_STILL ?d_STILL ?s_STILL ?v_STILL ?g_HUSH ?l_HUSH ?c_HUSH ?d_HUSH ?s_HUSH ?v_HUSH ?T
  (case aC | pg | hd | po | sa | mk | kc | na1 | na2 | na3 | na4 | na5 | na6 | na7 | na8 | aF | pgF | hdF | poF | saF | mkF | kcF | nf1 | nf2 | nf3 | nf4 | nf5 | z_all | z_any | z_bool | z_dict | z_enumerate | z_int | z_isinstance | z_len | z_list | z_max | z_range | z_str | z_tuple | z_zip | g_LETTERS=>k_is)
  (case r_LETTERS=>exact ⟨_,rfl⟩)
  (case g_LONGEST_NAME=>k_is)
  (case r_LONGEST_NAME=>exact ⟨_,rfl⟩)
  (case g_MOST_WORDS=>k_is)
  (case r_MOST_WORDS=>exact ⟨_,rfl⟩)
  (case g_MOST_ROOMS=>k_is)
  (case r_MOST_ROOMS=>exact ⟨_,rfl⟩)
  (case g_MOST_DOORS=>k_is)
  (case r_MOST_DOORS=>exact ⟨_,rfl⟩)
  (case g_MOST_FACES=>k_is)
  (case r_MOST_FACES=>exact ⟨_,rfl⟩)
  (case g_STILL | l_STILL=>k_is)
  (case c_STILL | d_STILL=>rfl)
  (case s_STILL=>decide)
  (case v_STILL=>exact .cons ⟨_,rfl⟩ .nil)
  (case g_HUSH | l_HUSH=>k_is)
  (case c_HUSH | d_HUSH=>rfl)
  (case s_HUSH=>decide)
  (case v_HUSH=>exact .cons ⟨_,rfl⟩ .nil)
  (case T=>constructor <;> first | (refine' Mum.fnG_mk ?a ?l ?c ?k; (case a=>k_is); (case l=>k_is); (case c=>k_is); (case k=>k_is)) | (refine' Mum.fnM_mk ?a ?i ?l ?c ?k; (case a=>k_is); (case i=>k_is); (case l=>k_is); (case c=>k_is); (case k=>k_is)))
