
import PyProof.Rows.All
import Wide.All
import OpenK.AllK
import Wide.FinOn
import Lean
import PyProof.EqAt
import PyProof.EqKinds
import PyProof.TupleCall
import PyProof.NeKinds
import PyProof.DictIter
import PyProof.DictWalks
import PyProof.RaisesMany
import PyProof.RulesAs
import PyProof.NsDelKeeps
import PyProof.InstStoreFacts
import PyProof.ExcClass3
import PyProof.ExcInit
import KE.KTryMore
import PyProof.AutoSeq1
import PyProof.WalkInts
import PyProof.DictItems
import PyProof.DictItemsLoops
import KE.KPairComp
import PyProof.DictValues
import PyProof.SumAny
import PySem.Challenge.RW_mumtrial_k26_goes_on
noncomputable section
open PySem renaming Program->bF,wpAny_bind->ak,wpAny_specialOf->EU,wpAny_call_entry->oF,wpAny_pure->aG,wpAny_rule->xf,Builtin->bV,wpAny_isInstance->xk,wpAny_holding->kr,wpAny_truthy_bool->p6,wpAny_seqItems->lZ,sizeLine->aj,sysModules->fT,mainGlobals->bX,bootBuiltins->kg,starEach->aI,wpAny_mono->i7,compareOp->dY,behindInMarks->j6,standAt->pZ,holding->ke,wpAny_execs_nil->AT,swapsWith->pY,assignEach->uj,wpAny_standAt->AS,wpAny_passesOwn->qW,letOwnedTupleGo->AR,wpAny_pyIter_list->xj,wpAny_pyIter_tuple->AO,foldedSetIterable->xi,binaryOp->pX,sizeLine_eq->j5,getMethod->pW,codeAny->zzl77,attributeBase->qU,FuncData->kb,BindsTo->qT,codeAny_mono->AI,wpAny_Call_Name_kw->AH,callWith->ug,backToKw->nz,keywordEach->ny,NameKind->i4,mem_of_lookup->rL,getItem->mz,seqIndex?->vN,subscripted->vM,sliceBounds->my,Keyword->oW,call_meets->mx,valueAt->mv,call_meetsIn->rF,callerA->ky,DictEntry->iQ,wpAny_newObj_type->iP,ZipApart->oQ,wpAny_pyIter_zip->vE,wpAny_callSpecial?_slot->km,wpAny_field->eL,wpAny_setField->rD,firstArgMember->oP,wpAny_setField_rec->ie,wpAny_onRaise->vA,wpAny_letGo->vz,wpAny_attempt->oO,wpAny_dictEntries->mr,wpAny_notOrdered_dict->vv,codeAny_builtin->vt,plainId_quiet->vo,IsItemIter->ic,wpAny_dictEpoch->oN,wpAny_typeNameOfWhole_itemiter->vk,wpAny_typeNameOf_itemiter->vj,wpAny_fieldsOf->vi,setField->vh,wpAny_typeNameOfWhole_keyiter->vg,wpAny_typeNameOf_keyiter->vf,wpAny_loadPart'->gL
open PySem.Builtin.Tuple renaming tupleHashOf->y4
open Bool renaming false_ne_true->fW,not_true->AU,false_eq_true->kz,false_and->AQ,eq_iff_iff->ui,and_false->vJ,and_eq_true->vF,true_and->rc
open Nat renaming add_assoc->Db,le_refl->aD,lt_of_lt_of_le->ib,lt_irrefl->p4,ne_of_lt->cQ,le_trans->bP,le_of_lt->dR,ne_of_gt->fS,zero_le->c8,le_succ->lX,lt_or_ge->dZ,min_eq_left->vd,mod_lt->rh,lt_trichotomy->vc,succ_mul->u_,mul_le_mul->oH,pow_le_pow_right->u8,eq_zero_or_pos->u7,zero_add->u5,le_succ_of_le->oG
open List renaming append_nil->fV,range->i8,mem_filter->b0,mem_cons_self->cy,mem_cons_of_mem->eO,mem_cons->cP,mem_append->aW,mem_append_left->cx,getElem?_eq_some_iff->bE,mem_append_right->cX,length_cons->dQ,lookup->j4,map_cons->aZ,length_map->ai,nodup_cons->lW,length_take->aJ,getElem?_append_right->kB,getElem?_append_left->cS,getElem?_map->bQ,mem_of_getElem?->aO,length_append->ax,map_nil->vO,length_drop->fA,size_toArray->bt,reverse_cons->vK,length_singleton->oU,find?_cons->kA,any_cons->mw,cons_append->rG,length_nil->vI,nodup_nil->oT,lookup_cons->ig,forIn_cons->oR,mem_map->ay,not_mem_nil->rE,getElem?_eq_none->eW,any_toArray->vx,length_range->rA,drop_zero->jx,take_length->bm,getElem?_eq_getElem->br,mem_singleton->bz,map_append->au,nodup_append->ck,drop_of_length_le->vp,drop_eq_getElem_cons->rq,map_take->mq,map_drop->ve,foldl_cons->gK,mem_of_mem_take->eK,append_assoc->cJ,nodup_iff_pairwise_ne->oJ,map_map->rf,mem_map_of_mem->kh,getElem_mem->jw,getElem?_of_mem->eJ,take_append_drop->re,foldl_append->fz,dropLast_concat_getLast->vb,take_zero->q_,length_filter_le->gJ,filter_append->qZ,flatMap_append->va,mem_flatMap->oI,getD_eq_getElem?_getD->qY,getElem_of_mem->u6,flatMap_cons->qX,idxOf_lt_length_iff->ml
open Option.some renaming inj->eI
open PySem.W renaming instObj->p5,lookIn->AM,plainGet->uh,hasDictIn->xh,findIn->c7,isFn->xg,plainOver->AL,makesIn->qV,emptyDict->nB,keepIn->h_,kitOne->AK,kia_one->i5,fnOf->ii,codeIn->mB,nsIn->cz,mg_of->gH,mg_none_of->ia
open PySem.Heap renaming lt_size->aT,SameBut->ff,get?_push_of_some->bd,get?_push_size->cr,size_push->nA,get?_update_self->vL
open PyProof.Rows renaming AllBare->nC,callWith_type1->AN,IntsAre->fB
open Ne renaming symm->c9
open Array renaming length_toList->lY
open False renaming elim->i6
open True renaming intro->iD
open PySem.Calls renaming spliced_cons->AJ,callWith_builtin->rJ
open Option renaming isSome_iff_exists->AG,map_some->rH,map_eq_some_iff->mn
open PySem.SeqAt renaming EqAt->bA
open Int renaming toNat_natCast->iR,emod_nonneg->oM,emod_lt_of_pos->oK,eq_ofNat_of_zero_le->iO
open PySem.Obj renaming mapSeq->rK,data_mapFields->vC
open PySem.Paired renaming snoc->cK
open PySem.F renaming slot_dict_get->oS,entry_dict_get->vH,slot_tuple_iterator_next->vD,slot_zip_next->vy,slot_dict_itemiterator_next->rk,slot_dict_keyiterator_next->rj,plainAttrs_list->cR,slot_list_append->eV,type_list_append->eU
open ForInStep renaming yield->vG
open PySem.NameKind renaming free->kq
open PySem.Builtin.SmallTypes renaming nextOf->ko,ownedTupleIsFree->vB
open PySem.Str renaming ofString->kj
open PySem.Heap.SameBut renaming update->ki
open Classical renaming byContradiction->rC
open PySem.Builtin.Str renaming strSliceIndices->rB
open PySem.Txt renaming join->vw
open PySem.Around renaming under_plainId->vq
open PySem.Builtin.Dict renaming showsAll->vm
open PySem.Builtin.Dict_items renaming ownsTuple->rm
open PySem.PassesOwn renaming never->bq
theorem Q0:0<=PySem.sizeLine:=by decide
theorem Q1:1<=PySem.sizeLine:=by decide
theorem Q2:2<=PySem.sizeLine:=by decide
theorem Q3:3<=PySem.sizeLine:=by decide
theorem Q4:4<=PySem.sizeLine:=by decide
theorem Q6:6<=PySem.sizeLine:=by decide
theorem zzr0 {p:Prop} [Decidable p] (h:¬p):decide p=false:=decide_eq_false h
theorem zzr1 {p:Prop} [Decidable p] (h:p):decide p=true:=decide_eq_true h
abbrev Za:=PySem.W.Frag
abbrev Zb:=List PySem.Str
abbrev Zc:=PySem.Value->PySem.Shared->Prop
abbrev Zd:=List (PySem.Addr×PySem.Obj)
abbrev Ze:=List PySem.Addr
abbrev Zf:=List PySem.Value
section
set_option Elab.async false
set_option linter.all false
set_option maxRecDepth 100000
set_option maxHeartbeats 4000000
namespace L2
open PySem PySem.Spec PyProof.Rows
open Sem (wp)
abbrev dX:=Sum Int Str
def cu:dX->Value->Bool
 | .inl k,v=>Value.isInt k v
 | .inr x,v=>Value.isStrOf x v
def Hq (w:World):dX->Int
 | .inl k=>hashInt k
 | .inr x=>hashStr w x
theorem ap:∀{k:dX}{v:Value},cu k v=true->(∃i t,k=Sum.inl i/\v=Value.int i t)∨(∃x t,k=Sum.inr x/\v=Value.str x t)
 | .inl i,v,h=>by
  obtain ⟨t,e⟩:=Value.isInt_shape (k:=i) (v:=v) h;exact .inl ⟨i,t,rfl,e⟩
 | .inr x,v,h=>by
  obtain ⟨t,e⟩:=Value.isStrOf_shape (x:=x) (v:=v) h;exact .inr ⟨x,t,rfl,e⟩
theorem Cy (i:Int) (t:Tok):cu (.inl i) (.int i t)=true:=by simp [cu,Value.isInt]
theorem Cw (x:Str) (t:Tok):cu (.inr x) (.str x t)=true:=by simp [cu,Value.isStrOf]
theorem wC (a b:Int):decide ((Sum.inl a:dX)=Sum.inl b)=(a == b):=by
 by_cases e:a=b
 ·subst e; simp
 ·have h:¬(Sum.inl a:dX)=Sum.inl b:=fun q=>e (Sum.inl.inj q);rw [zzr0 h];exact (beq_eq_false_iff_ne.mpr e).symm
theorem wz (a b:Str):decide ((Sum.inr a:dX)=Sum.inr b)=decide (a=b):=by
 by_cases e:a=b
 ·subst e; simp
 ·have h:¬(Sum.inr a:dX)=Sum.inr b:=fun q=>e (Sum.inr.inj q);rw [zzr0 h,zzr0 e]
theorem wB (a:Int) (b:Str):decide ((Sum.inl a:dX)=Sum.inr b)=false:=zzr0 (fun q=>nomatch q)
theorem wA (a:Str) (b:Int):decide ((Sum.inr a:dX)=Sum.inl b)=false:=zzr0 (fun q=>nomatch q)
def bM (prog:bF) (w:World):PySem.KeyKind prog w dX where
 is:=cu
 hash:=Hq w
 inj:=fun v a b ha hb=>by
  rcases ap ha with ⟨i,t,rfl,rfl⟩ | ⟨x,t,rfl,rfl⟩
  ·rcases ap hb with ⟨j,u,rfl,e⟩ | ⟨y,u,rfl,e⟩
   ·injection e with e1 _; rw [e1]
   ·exact nomatch e
  ·rcases ap hb with ⟨j,u,rfl,e⟩ | ⟨y,u,rfl,e⟩
   ·exact nomatch e
   ·injection e with e1 _; rw [e1]
 byValue:=fun k v h=>by
  rcases ap h with ⟨i,t,rfl,rfl⟩ | ⟨x,t,rfl,rfl⟩ <;> rfl
 pyHash:=fun hv h=>by
  rcases ap hv with ⟨i,t,rfl,rfl⟩ | ⟨x,t,rfl,rfl⟩
  ·exact wpAny_pyHash_int h
  ·exact wpAny_pyHash_str h
 eqBool:=fun hu hv h=>by
  rcases ap hu with ⟨i,t,rfl,rfl⟩ | ⟨x,t,rfl,rfl⟩
  ·rcases ap hv with ⟨j,u,rfl,rfl⟩ | ⟨y,u,rfl,rfl⟩
   ·rw [wC] at h; exact wpAny_eqBool_int h
   ·rw [wB] at h; exact bA.int_str i t y u _ _ _ _ h
  ·rcases ap hv with ⟨j,u,rfl,rfl⟩ | ⟨y,u,rfl,rfl⟩
   ·rw [wA] at h; exact bA.str_int x t j u _ _ _ _ h
   ·rw [wz] at h; exact wpAny_eqBool_str h
 «strs»:=fun k x t v h=>by
  rcases ap h with ⟨i,u,rfl,e⟩ | ⟨y,u,rfl,e⟩
  ·exact nomatch e
  ·injection e with e1 _;subst e1;cases v <;> rfl
theorem yf (prog:bF) (w:World) (i:Int) (t:Tok):(bM prog w).is (.inl i) (.int i t)=true:=Cy i t
theorem ye (prog:bF) (w:World) (x:Str) (t:Tok):(bM prog w).is (.inr x) (.str x t)=true:=Cw x t
end L2
namespace L2
open PySem PySem.Spec PyProof.Rows
open Sem (wp)
inductive TK where
 | k (a:dX)
 | t (l:List TK)
mutual
def Gw:(x y:TK)->Decidable (x=y)
 | .k a,.k b=>if h:a=b then Decidable.isTrue (by rw [h]) else Decidable.isFalse fun e=>h (by injection e)
 | .t l,.t m=>match decTKs l m with
  | Decidable.isTrue h=>Decidable.isTrue (by rw [h])
  | Decidable.isFalse h=>Decidable.isFalse fun e=>h (by injection e)
 | .k _,.t _=>Decidable.isFalse nofun
 | .t _,.k _=>Decidable.isFalse nofun
def decTKs:(x y:List TK)->Decidable (x=y)
 | [],[]=>Decidable.isTrue rfl
 | [],_::_=>Decidable.isFalse nofun
 | _::_,[]=>Decidable.isFalse nofun
 | a::l,b::m=>match Gw a b with
  | Decidable.isTrue h=>match decTKs l m with
   | Decidable.isTrue h'=>Decidable.isTrue (by rw [h,h'])
   | Decidable.isFalse h'=>Decidable.isFalse fun e=>h' (by injection e)
  | Decidable.isFalse h=>Decidable.isFalse fun e=>h (by injection e)
end
instance:DecidableEq TK:=Gw
mutual
def TK.depth:TK->Nat
 | .k _=>0
 | .t l=>TK.depths l+1
def TK.depths:List TK->Nat
 | []=>0
 | a::r=>max (TK.depth a) (TK.depths r)
end
mutual
def TK.hash (w:World):TK->Int
 | .k a=>Hq w a
 | .t l=>reduceHash (y4 (TK.hashs w l))
def TK.hashs (w:World):List TK->List Int
 | []=>[]
 | a::r=>TK.hash w a::TK.hashs w r
end
mutual
def TK.draws:TK->Nat
 | .k _=>1
 | .t l=>TK.drawss l+1
def TK.drawss:List TK->Nat
 | []=>0
 | a::r=>TK.draws a+TK.drawss r
end
mutual
def lQ (h:Heap):TK->Value->Prop
 | .k a,v=>cu a v=true
 | .t l,v=>∃a o items n,v=.ref a/\h.get? a=some o/\o.cls=.type "tuple"/\o.data=.seq items n/\TAts h l items.toList
def TAts (h:Heap):List TK->List Value->Prop
 | [],vs=>vs=[]
 | k::r,vs=>∃v us,vs=v::us/\lQ h k v/\TAts h r us
end
theorem lQ.inj {h:Heap}:∀(d:Nat) {x y:TK}{v:Value},x.depth<=d->lQ h x v->lQ h y v->x=y:=by
 have key:∀(d:Nat) (ih:∀{x y:TK}{v:Value},x.depth<=d->lQ h x v->lQ h y v->x=y) (xs ys:List TK) (vs:Zf),TK.depths xs<=d->TAts h xs vs->TAts h ys vs->xs=ys:=by
  intro d ih xs
  induction xs with
  | nil =>
   intro ys vs _ hx hy;have hx':vs=[]:=hx;subst hx';cases ys with
   | nil=>rfl
   | cons y ys=>obtain ⟨_,_,e,_⟩:=hy; cases e
  | cons x xs ihl =>
   intro ys vs hd hx hy;obtain ⟨v,us,rfl,hx1,hx2⟩:=hx;cases ys with
   | nil=>have hy':v::us=[]:=hy; cases hy'
   | cons y ys =>
    obtain ⟨v',us',e,hy1,hy2⟩:=hy;cases e;have hd':max x.depth (TK.depths xs)<=d:=hd;rw [ih (by omega) hx1 hy1,ihl ys us (by omega) hx2 hy2]
 have leaf:∀(a:dX) (l:List TK) (v:Value),lQ h (.k a) v->lQ h (.t l) v->False:=by
  intro a l v h1 h2;obtain ⟨b,o,items,n,rfl,_⟩:=h2;rcases ap (show cu a (.ref b)=true from h1) with ⟨_,_,_,e⟩ | ⟨_,_,_,e⟩ <;> cases e
 have kk:∀(a b:dX) (v:Value),cu a v=true->cu b v=true->a=b:=by
  intro a b v h1 h2;rcases ap h1 with ⟨i,t,rfl,rfl⟩ | ⟨i,t,rfl,rfl⟩
  ·rcases ap h2 with ⟨j,u,rfl,e⟩ | ⟨j,u,rfl,e⟩
   ·cases e; rfl
   ·cases e
  ·rcases ap h2 with ⟨j,u,rfl,e⟩ | ⟨j,u,rfl,e⟩
   ·cases e
   ·cases e; rfl
 intro d
 induction d with
 | zero =>
  intro x y v hd hx hy;cases x with
  | t l=>exact absurd hd (by show ¬(TK.depths l+1<=0); omega)
  | k a =>
   cases y with
   | k b=>rw [kk a b v hx hy]
   | t l=>exact (leaf a l v hx hy).elim
 | succ d ih =>
  intro x y v hd hx hy;cases x with
  | k a =>
   cases y with
   | k b=>rw [kk a b v hx hy]
   | t l=>exact (leaf a l v hx hy).elim
  | t l =>
   cases y with
   | k b=>exact (leaf b l v hy hx).elim
   | t l' =>
    obtain ⟨a,o,items,n,rfl,ho,hc,hdt,hi⟩:=hx;obtain ⟨a',o',items',n',e,ho',hc',hdt',hi'⟩:=hy;cases e;rw [ho] at ho'; cases ho';rw [hdt] at hdt';injection hdt' with e1 _;subst e1;rw [key d (fun h1=>ih h1) l l' items.toList (by have:TK.depths l+1<=d+1:=hd; omega) hi hi']
theorem lQ.mono {h h':Heap}(k:∀a o items n,h.get? a=some o->o.cls=.type "tuple"->o.data=.seq items n->h'.get? a=some o):∀(d:Nat) {x:TK}{v:Value},x.depth<=d->lQ h x v->lQ h' x v:=by
 have key:∀(d:Nat) (ih:∀{x:TK}{v:Value},x.depth<=d->lQ h x v->lQ h' x v) (xs:List TK) (vs:Zf),TK.depths xs<=d->TAts h xs vs->TAts h' xs vs:=by
  intro d ih xs
  induction xs with
  | nil=>intro vs _ hx; exact hx
  | cons x xs ihl =>
   intro vs hd hx;obtain ⟨v,us,rfl,hx1,hx2⟩:=hx;have hd':max x.depth (TK.depths xs)<=d:=hd;exact ⟨v,us,rfl,ih (by omega) hx1,ihl us (by omega) hx2⟩
 intro d
 induction d with
 | zero =>
  intro x v hd hx;cases x with
  | t l=>exact absurd hd (by show ¬(TK.depths l+1<=0); omega)
  | k a=>exact hx
 | succ d ih =>
  intro x v hd hx;cases x with
  | k a=>exact hx
  | t l =>
   obtain ⟨a,o,items,n,rfl,ho,hc,hdt,hi⟩:=hx;exact ⟨a,o,items,n,rfl,k a o items n ho hc hdt,hc,hdt,key d (fun h1=>ih h1) l _ (by have:TK.depths l+1<=d+1:=hd; omega) hi⟩
section
variable {prog:bF}{w:World}
theorem EY:∀(d:Nat) {A:Around}{E:Zc}{s:Shared}{k:TK}{v:Value}{Q:Int->Shared->Prop},k.depth<=d->A.units+d<cLine->lQ s.heap k v->Q (k.hash w) { s with toks:=s.toks+k.draws } ->
  wpAny (model prog w) A (pyHash v) Q E s:=by
 intro d
 induction d with
 | zero =>
  intro A E s k v Q hd hu hk h;cases k with
  | t l=>exact absurd hd (by show ¬(TK.depths l+1<=0); omega)
  | k a=>exact (bM prog w).pyHash (k:=a) hk h
 | succ d ih =>
  intro A E s k v Q hd hu hk h;cases k with
  | k a=>exact (bM prog w).pyHash (k:=a) hk h
  | t l =>
   obtain ⟨a,o,items,n,rfl,ho,hc,hdt,hi⟩:=hk;have hT:s.TypeIs (.ref a) "tuple":=⟨o,ho,hc⟩;have hdl:TK.depths l<=d:=by have:TK.depths l+1<=d+1:=hd; omega
   unfold pyHash
   first | unfold pyHashByItsType | skip
   first | refine ak (wpAny_cRoomFor_or (.inr (by omega)) ?_) | skip
   refine ak (EU hT F.slot_tuple_hash.lookup ?_);show wpAny _ _ (if (some (Value.builtin "tuple.__hash__") == some Value.none)=true then _ else _) Q E s
   rw [if_neg (by rw [beq_builtin_none]; exact fW)];refine ak (EU hT F.slot_tuple_hash.lookup ?_);show wpAny _ _ (callSpecialIfBoundUnlessNone? (.ref a) "__hash__" _ >>= _) Q E s;refine ak (wpAny_callSpecialIfBoundUnlessNone?_slot hT F.slot_tuple_hash (oF F.slot_tuple_hash hT F.entry_tuple_hash ?_ (F.args_tuple_hash_1 _)));show wpAny _ _ (bV.Tuple.tupleItemsOf (.ref a) >>= _) _ _ s;refine ak (wpAny_tupleItemsOf ho hdt ?_);refine ak ?_;rw [<-Array.forIn_toList];refine wpAny_forIn_list _
    (fun rest (b:Array Int) s'=>∃done left,l=done++left/\TAts s.heap left rest/\b.toList=TK.hashs w done/\s'={ s with toks:=s.toks+TK.drawss done })
    _ ?_ ?_ _ _ ⟨[],l,rfl,hi,rfl,rfl⟩
   ·rintro x rest b s' ⟨done,left,e,hl,hb,rfl⟩;cases left with
    | nil=>have hl':x::rest=[]:=hl; cases hl'
    | cons k' left =>
     obtain ⟨x',rest',e',h1,h2⟩:=hl;cases e';have hdk:k'.depth<=d:=by
      have gen:∀(p:List TK),TK.depths (p++k'::left)<=d->k'.depth<=d:=by
       intro p
       induction p with
       | nil=>intro hp; have hp':max k'.depth (TK.depths left)<=d:=hp; omega
       | cons q p ihp=>intro hp; have hp':max q.depth (TK.depths (p++k'::left))<=d:=hp; exact ihp (by omega)
      exact gen done (by rw [<-e]; exact hdl)
     have hs:TK.hashs w (done++[k'])=TK.hashs w done++[k'.hash w]:=by
      clear e hb
      induction done with
      | nil=>rfl
      | cons q p ihp=>show _::TK.hashs w (p++[k'])=_; rw [ihp]; rfl
     have hdr:TK.drawss (done++[k'])=TK.drawss done+k'.draws:=by
      clear e hb hs
      induction done with
      | nil=>show k'.draws+0=0+k'.draws; omega
      | cons q p ihp=>show q.draws+TK.drawss (p++[k'])=q.draws+TK.drawss p+k'.draws; rw [ihp]; omega
     refine ak (ih (k:=k') hdk (by show A.units+1+d<cLine; omega) h1 ?_)
     first
      | exact aG ⟨done++[k'],left,by rw [e]; simp,h2,by rw [hs]; simp [hb],by rw [hdr]; simp [Db]⟩
      | exact ak (aG (aG ⟨done++[k'],left,by rw [e]; simp,h2,by rw [hs]; simp [hb],by rw [hdr]; simp [Db]⟩))
   ·rintro b s' ⟨done,left,e,hl,hb,rfl⟩;cases left with
    | cons k' left=>obtain ⟨_,_,e',_⟩:=hl; cases e'
    | nil =>
     rw [fV] at e;subst e;show wpAny _ _ (retInt (y4 b.toList)) _ _ _;rw [hb];refine wpAny_ret_mkInt ?_;have h':Q (reduceHash (y4 (TK.hashs w l))) { s with toks:=s.toks+(TK.drawss l+1) }:=h;show wpAny _ _ (if (decide (-(2:Int) ^ 63<=y4 (TK.hashs w l)) && decide (y4 (TK.hashs w l)<2 ^ 63))=true then _ else _) Q E _
     unfold reduceHash at h';by_cases hr:(decide (-(2:Int) ^ 63<=y4 (TK.hashs w l)) && decide (y4 (TK.hashs w l)<2 ^ 63))=true
     ·rw [if_pos hr];rw [if_pos hr] at h';exact aG (by simpa [Db] using h')
     ·rw [if_neg hr];rw [if_neg hr] at h';exact ak (xf (aG (by simpa [Db] using h')))
theorem BT (d:Nat) (ih:∀{A:Around}{E:Zc}{s:Shared}{x y:TK}{u v:Value}{Q:Bool->Shared->Prop},x.depth<=d->y.depth<=d->A.units+d<cLine->lQ s.heap x u->lQ s.heap y v->Q (decide (x=y)) s->wpAny (model prog w) A (eqBool u v) Q E s)
  {A:Around}{E:Zc}{s:Shared}{x y:List TK}{a b:Addr}{P:Fin->Shared->Prop}{oa ob:Obj}{xs ys:Array Value}{na nb:Nat}(hx:TK.depths x<=d) (hy:TK.depths y<=d) (hu:A.units+d<cLine)
  (hoa:s.heap.get? a=some oa) (hda:oa.data=.seq xs na) (hia:TAts s.heap x xs.toList) (hob:s.heap.get? b=some ob) (hcb:ob.cls=.type "tuple") (hdb:ob.data=.seq ys nb) (hib:TAts s.heap y ys.toList)
  (h:P (.done (.ret (.bool (decide (x=y))))) s):wpAny (model prog w) A (bV.«tuple.__eq__» ⟨[.ref a,.ref b],[]⟩) P E s:=by
 have hTb:s.TypeIs (.ref b) "tuple":=⟨ob,hob,hcb⟩;show wpAny _ _ (isInstance (.ref b) (.type "tuple") >>= _) _ _ s;refine ak (xk hTb isSubtype_tuple_tuple ?_);simp only [AU,kz,if_false];refine ak (wpAny_tupleItemsOf hoa hda ?_);refine ak (wpAny_tupleItemsOf hob hdb ?_);refine ak ?_;refine wpAny_forIn_list _
  (fun rest r s'=>r.1=none/\s'=s/\∃x' y' xs' ys',rest=List.zip xs' ys'/\TAts s.heap x' xs'/\TAts s.heap y' ys'/\TK.depths x'<=d/\TK.depths y'<=d/\decide (x'=y')=decide (x=y)/\(xs'.length == ys'.length)=(xs.size == ys.size))
  _ ?_ ?_ _ _ ⟨rfl,rfl,x,y,xs.toList,ys.toList,rfl,hia,hib,hx,hy,rfl,by simp⟩
 ·rintro ⟨u,v⟩ rest r s' ⟨hr,rfl,x',y',xs',ys',hz,hx',hy',dx,dy,hdec,hlen⟩;cases x' with
  | nil =>
   have e:xs'=[]:=hx';subst e; simp at hz
  | cons k1 x'' =>
   obtain ⟨u',xs'',rfl,h1,hx''⟩:=hx';cases y' with
   | nil =>
    have e:ys'=[]:=hy';subst e; simp at hz
   | cons k2 y'' =>
    obtain ⟨v',ys'',rfl,h2,hy''⟩:=hy';simp only [List.zip_cons_cons,List.cons.injEq,Prod.mk.injEq] at hz;obtain ⟨⟨rfl,rfl⟩,rfl⟩:=hz;have dx':max k1.depth (TK.depths x'')<=d:=dx;have dy':max k2.depth (TK.depths y'')<=d:=dy;refine ak (ih (x:=k1) (y:=k2) (by omega) (by omega) hu h1 h2 ?_);by_cases hk:k1=k2
    ·subst hk;rw [zzr1 rfl];simp only [AU,kz,if_false];refine aG ⟨rfl,rfl,x'',y'',xs'',ys'',rfl,hx'',hy'',by omega,by omega,?_,by simpa using hlen⟩;rw [<-hdec];by_cases hxy:x''=y''
     ·simp [hxy]
     ·simp [hxy]
    ·rw [zzr0 hk];simp only [Bool.not_false,if_true];have hf:decide (x=y)=false:=by rw [<-hdec]; simp [hk]
     rw [hf] at h;exact ak (aG (aG (aG h)))
 ·rintro ⟨r1,r2⟩ s' ⟨hr,rfl,x',y',xs',ys',hz,hx',hy',dx,dy,hdec,hlen⟩;simp only at hr;subst hr;refine aG ?_;have hfin:(xs.size == ys.size)=decide (x=y):=by
   rw [<-hdec,<-hlen];cases x' with
   | nil =>
    have e:xs'=[]:=hx';subst e;cases y' with
    | nil=>have e:ys'=[]:=hy'; subst e; simp
    | cons _ _=>obtain ⟨_,_,rfl,_⟩:=hy'; simp
   | cons _ _ =>
    obtain ⟨_,_,rfl,_⟩:=hx';cases y' with
    | nil=>have e:ys'=[]:=hy'; subst e; simp
    | cons _ _=>obtain ⟨_,_,rfl,_⟩:=hy'; simp at hz
  show P (.done (.ret (.bool (xs.size == ys.size)))) s';rw [hfin]; exact h
theorem Hf:∀(d:Nat) {A:Around}{E:Zc}{s:Shared}{x y:TK}{u v:Value}{Q:Bool->Shared->Prop},x.depth<=d->y.depth<=d->A.units+d<cLine->lQ s.heap x u->lQ s.heap y v->Q (decide (x=y)) s ->
  wpAny (model prog w) A (eqBool u v) Q E s:=by
 have mixed1:∀{A:Around}{E:Zc}{s:Shared}{a:dX}{l:List TK}{u v:Value}{Q:Bool->Shared->Prop},A.units<cLine->lQ s.heap (.k a) u->lQ s.heap (.t l) v->Q false s->wpAny (model prog w) A (eqBool u v) Q E s:=by
  intro A E s a l u v Q hu hx hy h;obtain ⟨b,o,items,n,rfl,ho,hc,hdt,hi⟩:=hy;have ht:s.heap.IsTuple b items:=⟨o,ho,hc,n,hdt⟩;rcases ap (show cu a u=true from hx) with ⟨i,t,rfl,rfl⟩ | ⟨i,t,rfl,rfl⟩
  ·exact bA.int_tuple i t ht hu prog w E Q h
  ·exact bA.str_tuple i t ht hu prog w E Q h
 have mixed2:∀{A:Around}{E:Zc}{s:Shared}{a:dX}{l:List TK}{u v:Value}{Q:Bool->Shared->Prop},A.units<cLine->lQ s.heap (.t l) u->lQ s.heap (.k a) v->Q false s->wpAny (model prog w) A (eqBool u v) Q E s:=by
  intro A E s a l u v Q hu hx hy h;obtain ⟨b,o,items,n,rfl,ho,hc,hdt,hi⟩:=hx;have ht:s.heap.IsTuple b items:=⟨o,ho,hc,n,hdt⟩;rcases ap (show cu a v=true from hy) with ⟨i,t,rfl,rfl⟩ | ⟨i,t,rfl,rfl⟩
  ·exact bA.tuple_int i t ht hu prog w E Q h
  ·exact bA.tuple_str i t ht hu prog w E Q h
 have leaves:∀{A:Around}{E:Zc}{s:Shared}{a b:dX}{u v:Value}{Q:Bool->Shared->Prop},lQ s.heap (.k a) u->lQ s.heap (.k b) v->Q (decide (TK.k a=TK.k b)) s->wpAny (model prog w) A (eqBool u v) Q E s:=by
  intro A E s a b u v Q hx hy h;refine (bM prog w).eqBool (a:=a) (b:=b) hx hy ?_;by_cases e:a=b
  ·subst e; simpa using h
  ·have:¬(TK.k a=TK.k b):=fun z=>e (by injection z);rw [zzr0 this] at h;rw [zzr0 e]; exact h
 intro d
 induction d with
 | zero =>
  intro A E s x y u v Q hdx hdy hu hx hy h;cases x with
  | t l=>exact absurd hdx (by show ¬(TK.depths l+1<=0); omega)
  | k a =>
   cases y with
   | t l=>exact absurd hdy (by show ¬(TK.depths l+1<=0); omega)
   | k b=>exact leaves hx hy h
 | succ d ih =>
  intro A E s x y u v Q hdx hdy hu hx hy h;cases x with
  | k a =>
   cases y with
   | k b=>exact leaves hx hy h
   | t l =>
    rw [zzr0 (by intro z; cases z)] at h;exact mixed1 (by omega) hx hy h
  | t l =>
   cases y with
   | k b =>
    rw [zzr0 (by intro z; cases z)] at h;exact mixed2 (by omega) hx hy h
   | t m =>
    have hl:TK.depths l<=d:=by have:TK.depths l+1<=d+1:=hdx; omega
    have hm:TK.depths m<=d:=by have:TK.depths m+1<=d+1:=hdy; omega
    have hx0:=hx;have hy0:=hy;obtain ⟨a,oa,xs,na,rfl,hoa,hca,hda,hia⟩:=hx;obtain ⟨b,ob,ys,nb,rfl,hob,hcb,hdb,hib⟩:=hy;have hTa:s.TypeIs (.ref a) "tuple":=⟨oa,hoa,hca⟩;have hTb:s.TypeIs (.ref b) "tuple":=⟨ob,hob,hcb⟩;have hd':decide (TK.t l=TK.t m)=decide (l=m):=by
     by_cases e:l=m
     ·subst e; simp
     ·have:¬(TK.t l=TK.t m):=fun z=>e (by injection z);rw [zzr0 this,zzr0 e]
    unfold eqBool
    try with_reducible refine kr ?_
    show wpAny _ _ (if (Value.ref a == Value.ref b)=true then _ else _) Q E s
    by_cases hab:(Value.ref a == Value.ref b)=true
    ·rw [if_pos hab];have e:a=b:=by have:=eq_of_beq hab; injection this
     subst e;have e2:TK.t l=TK.t m:=lQ.inj _ (aD _) hx0 hy0;rw [zzr1 e2] at h;exact ak (xf (aG h))
    ·rw [if_neg hab];rw [hd'] at h;exact ak (wpAny_richCompare_same_room (op:=.Eq) hTa hTb F.slot_tuple_eq
      (oF F.slot_tuple_eq hTa F.entry_tuple_eq (BT d (fun h1 h2 h3 h4 h5 h6=>ih h1 h2 h3 h4 h5 h6) hl hm (by show A.units+1+d<cLine; omega) hoa hda hia hob hcb hdb hib ⟨_,rfl,(fun e=>nomatch e),p6 h⟩) (F.args_tuple_eq_2 _ _)) (by omega))
theorem Dj:∀(d:Nat) {A:Around}{E:Zc}{s:Shared}{k:TK}{v:Value}{Q:Bool->Shared->Prop},k.depth<=d->lQ s.heap k v->Q true s->wpAny (model prog w) A (eqIsQuiet d v) Q E s:=by
 intro d
 induction d with
 | zero =>
  intro A E s k v Q hd hk h;cases k with
  | t l=>exact absurd hd (by show ¬(TK.depths l+1<=0); omega)
  | k a=>rw [eqIsQuiet_byValue _ ((bM prog w).byValue a v hk)]; exact aG h
 | succ d ih =>
  intro A E s k v Q hd hk h;cases k with
  | k a=>rw [eqIsQuiet_byValue _ ((bM prog w).byValue a v hk)]; exact aG h
  | t l =>
   have hl:TK.depths l<=d:=by have:TK.depths l+1<=d+1:=hd; omega
   obtain ⟨a,o,items,n,rfl,ho,hc,hdt,hi⟩:=hk;have hT:s.TypeIs (.ref a) "tuple":=⟨o,ho,hc⟩;unfold eqIsQuiet;refine ak (EU hT F.slot_tuple_eq.lookup ?_);show wpAny _ _ (isInstance (.ref a) (.type "tuple") >>= _) _ _ s;refine ak (xk hT isSubtype_tuple_tuple ?_);simp only [AU,kz,if_false];refine ak (lZ ho hdt ?_);refine ak ?_;show wpAny _ _ (forIn items _ _) _ _ s;rw [<-Array.forIn_toList];refine wpAny_forIn_list _ (fun rest r s'=>r.1=none/\s'=s/\∃left,TAts s.heap left rest/\TK.depths left<=d) _ ?_ ?_ _ _ ⟨rfl,rfl,l,hi,hl⟩
   ·rintro v rest r s' ⟨hr,rfl,left,hall,hdl⟩;cases left with
    | nil=>have e:v::rest=[]:=hall; cases e
    | cons k' left =>
     obtain ⟨v',rest',e,h1,h2⟩:=hall;cases e;have hdl':max k'.depth (TK.depths left)<=d:=hdl;refine ak (ih (k:=k') (by omega) h1 ?_);simp only [AU,kz,if_false];exact aG ⟨rfl,rfl,left,h2,by omega⟩
   ·rintro ⟨r1,r2⟩ s' ⟨hr,rfl,_⟩;simp only at hr;subst hr;exact aG h
def dE (prog:bF) (w:World):HeapKind prog w TK where
 is:=fun h k a=>lQ h k (.ref a)/\k.depth<=8
 hash:=TK.hash w
 draws:=TK.draws
 room:=fun A=>A.units+8<cLine
 inj:=fun hx hy=>lQ.inj 8 hx.2 hx.1 hy.1
 keeps:=fun {h h' k a d o es ep} x ho hd hs=>⟨lQ.mono (fun b ob items n hb _ hdb=>(hs.2 b fun e=>by
  subst e;rw [ho] at hb;cases hb;rw [hd] at hdb;cases hdb).trans hb) 8 x.2 x.1,x.2⟩
 pyHash:=fun hu hk h=>EY 8 hk.2 hu hk.1 h
 eqBool:=fun hu hx hy h=>Hf 8 hx.2 hy.2 hu hx.1 hy.1 h
 quiet:=fun hk h=>Dj 8 hk.2 hk.1 h
end
end L2
namespace L2
open PySem PySem.Spec PyProof.Rows
inductive V where
 | non | bl (b:Bool) | int (i:Int) | str (x:Str) | byt (b:Array UInt8) | flt (b:UInt64) | ref (a:Addr) | ty (n:String)
 deriving DecidableEq
def RelV:V->Value->Prop
 | .non,u=>u=Value.none
 | .bl b,u=>u=Value.bool b
 | .int i,u=>∃t,u=Value.int i t
 | .str x,u=>∃t,u=Value.str x t
 | .byt b,u=>∃t,u=Value.bytes b t
 | .flt b,u=>∃t,u=Value.float b t
 | .ref a,u=>u=Value.ref a
 | .ty n,u=>u=Value.type n
abbrev aV:List V->List Value->Prop:=Paired RelV
theorem aV.length {xs:List V}{us:Zf}(r:aV xs us):xs.length=us.length:=Paired.length r
theorem aV.get:∀{xs:List V}{us:Zf}{i:Nat}{x:V},aV xs us->xs[i]?=some x->∃u,us[i]?=some u/\RelV x u
 | _,_,_,_,.nil,e=>by simp at e
 | _,_,0,_,.cons r _,e=>by simp at e; subst e; exact ⟨_,rfl,r⟩
 | _,_,i+1,x,.cons _ t,e=>by
  obtain ⟨u,h1,h2⟩:=aV.get (i:=i) (x:=x) t (by simpa using e);exact ⟨u,by simpa using h1,h2⟩
theorem aV.set {x:V}{u:Value}(r:RelV x u):∀{xs:List V}{us:Zf}(i:Nat),aV xs us->aV (xs.set i x) (us.set i u)
 | _,_,_,.nil=>.nil
 | _,_,0,.cons _ t=>.cons r t
 | _,_,i+1,.cons q t=>.cons q (aV.set r i t)
theorem aV.append:∀{xs ys:List V}{us ws:Zf},aV xs us->aV ys ws->aV (xs++ys) (us++ws)
 | _,_,_,_,.nil,s=>s
 | _,_,_,_,.cons r t,s=>.cons r (aV.append t s)
theorem aV.take:∀{xs:List V}{us:Zf}(n:Nat),aV xs us->aV (xs.take n) (us.take n)
 | _,_,0,_=>.nil
 | _,_,_+1,.nil=>.nil
 | _,_,n+1,.cons r t=>.cons r (aV.take n t)
theorem aV.drop:∀{xs:List V}{us:Zf}(n:Nat),aV xs us->aV (xs.drop n) (us.drop n)
 | _,_,0,r=>r
 | _,_,_+1,.nil=>.nil
 | _,_,n+1,.cons _ t=>aV.drop n t
def j_:Option V->Option Value->Prop
 | some v,some u=>RelV v u
 | none,none=>True
 | _,_=>False
def KV {κ:Type}:List (κ×V)->List (κ×Value)->Prop:=Paired fun (p:κ×V) (q:κ×Value)=>p.1=q.1/\RelV p.2 q.2
def kV:dX->V
 | .inl i=>.int i
 | .inr x=>.str x
inductive HO where
 | lst (xs:List V)
 | tup (xs:List V)
 | dK (kvs:List (dX×V)) | dT (kvs:List (TK×V))
 | set (S:Int->Bool) (n:Nat)
 | ins (C dx:Addr) (fs:List (Str×V))
 | own (x:Addr)
 | xd (fs:List (Str×V))
 | met (f x:Addr)
 | rng (lo hi:Int)
 | frz (o:Obj) (u:HO)
 | tbl (ps:Array Value)
 | ext (φ:Heap->Prop)
abbrev Hp:=Addr->Option HO
mutual
def cV (H:Hp):TK->V->Prop
 | .k a,v=>v=kV a
 | .t l,v=>∃b xs,v=.ref b/\H b=some (.tup xs)/\TKAts H l xs
def TKAts (H:Hp):List TK->List V->Prop
 | [],vs=>vs=[]
 | k::r,vs=>∃v us,vs=v::us/\cV H k v/\TKAts H r us
end
def bJ (K:Za) (H:Hp) (a:Addr) (xs:List V):Prop :=
 H a=some (.tup xs)∨∃(o:Obj) (its:Array Value) (n:Nat),K.lookup a=some o/\o.cls=.type "tuple"/\o.data=.seq its n/\its.size<=aj/\aV xs its.toList
theorem bJ.keeps {K:Za}{H H':Hp}{a:Addr}{xs:List V}(h:bJ K H a xs) (ht:∀b xs,H b=some (.tup xs)->H' b=some (.tup xs)):bJ K H' a xs:=h.imp (ht a xs) id
mutual
def mR (K:Za) (H:Hp):TK->V->Prop
 | .k a,v=>v=kV a
 | .t l,v=>∃b xs,v=.ref b/\bJ K H b xs/\TKCs K H l xs
def TKCs (K:Za) (H:Hp):List TK->List V->Prop
 | [],vs=>vs=[]
 | k::r,vs=>∃v us,vs=v::us/\mR K H k v/\TKCs K H r us
end
theorem mR.keeps {K:Za}{H H':Hp}(ht:∀b xs,H b=some (.tup xs)->H' b=some (.tup xs)):∀(d:Nat) {k:TK}{v:V},k.depth<=d->mR K H k v->mR K H' k v:=by
 have key:∀(d:Nat) (ih:∀{k:TK}{v:V},k.depth<=d->mR K H k v->mR K H' k v) (xs:List TK) (vs:List V),TK.depths xs<=d->TKCs K H xs vs->TKCs K H' xs vs:=by
  intro d ih xs
  induction xs with
  | nil=>intro vs _ hx; exact hx
  | cons x xs ihl =>
   intro vs hd hx;obtain ⟨v,us,rfl,hx1,hx2⟩:=hx;have hd':max x.depth (TK.depths xs)<=d:=hd;exact ⟨v,us,rfl,ih (by omega) hx1,ihl us (by omega) hx2⟩
 intro d
 induction d with
 | zero =>
  intro k v hd hx;cases k with
  | t l=>exact absurd hd (by show ¬(TK.depths l+1<=0); omega)
  | k a=>exact hx
 | succ d ih =>
  intro k v hd hx;cases k with
  | k a=>exact hx
  | t l =>
   obtain ⟨b,xs,rfl,hb,hi⟩:=hx;exact ⟨b,xs,rfl,hb.keeps ht,key d (fun h1=>ih h1) l xs (by have:TK.depths l+1<=d+1:=hd; omega) hi⟩
theorem cV.c {K:Za}{H:Hp}:∀(d:Nat) {k:TK}{v:V},k.depth<=d->cV H k v->mR K H k v:=by
 have key:∀(d:Nat) (ih:∀{k:TK}{v:V},k.depth<=d->cV H k v->mR K H k v) (xs:List TK) (vs:List V),TK.depths xs<=d->TKAts H xs vs->TKCs K H xs vs:=by
  intro d ih xs
  induction xs with
  | nil=>intro vs _ hx; exact hx
  | cons x xs ihl =>
   intro vs hd hx;obtain ⟨v,us,rfl,hx1,hx2⟩:=hx;have hd':max x.depth (TK.depths xs)<=d:=hd;exact ⟨v,us,rfl,ih (by omega) hx1,ihl us (by omega) hx2⟩
 intro d
 induction d with
 | zero =>
  intro k v hd hx;cases k with
  | t l=>exact absurd hd (by show ¬(TK.depths l+1<=0); omega)
  | k a=>exact hx
 | succ d ih =>
  intro k v hd hx;cases k with
  | k a=>exact hx
  | t l =>
   obtain ⟨b,xs,rfl,hb,hi⟩:=hx;exact ⟨b,xs,rfl,.inl hb,key d (fun h1=>ih h1) l xs (by have:TK.depths l+1<=d+1:=hd; omega) hi⟩
def upd (H:Hp) (a:Addr) (o:HO):Hp:=fun b=>if b=a then some o else H b
theorem aa {H:Hp}{a:Addr}{o:HO}:upd H a o a=some o:=by unfold upd; rw [if_pos rfl]
theorem af {H:Hp}{a b:Addr}{o:HO}(h:b≠a):upd H a o b=H b:=by unfold upd; rw [if_neg h]
theorem qG {H:Hp}{a:Addr}{o u:HO}:upd (upd H a o) a u=upd H a u:=by
 funext b; unfold upd; split <;> rfl
theorem Bq {H:Hp}{a b:Addr}{o u:HO}(h:H a=some o) (h':H b=some u) (d:o≠u):a≠b:=by
 intro e; subst e; rw [h] at h'; exact d (eI h')
theorem ae {H:Hp}{a b:Addr}{o:HO}(h:H a=some o) (h':H b=none):a≠b:=by
 intro e; subst e; rw [h] at h'; cases h'
section
variable (P:bF) (w:World) (K:Za)
def bO (H:Hp) (h:Heap) (a:Addr):HO->Prop
 | .lst xs=>xs.length<=aj/\∃(its:Zf) (n:Nat),aV xs its/\h.get? a=some { cls:=.type "list",data:=.seq its.toArray n }
 | .tup xs=>xs.length<=aj/\∃its:List Value,aV xs its/\IsTup h a its.toArray
 | .dK kvs=>kvs.length<=aj/\(a == fT)=false/\∃vs,KV kvs vs/\h.DictOf (bM P w) a vs
 | .dT kvs=>kvs.length<=aj/\(a == fT)=false/\∃xs:List (TK×Addr×Value),
   Paired (fun (p:TK×V) (q:TK×Addr×Value)=>p.1=q.1/\mR K H p.1 (.ref q.2.1)/\p.1.depth<=8/\RelV p.2 q.2.2) kvs xs /\
   ∃o es ep,h.get? a=some o/\o.ExactDict/\o.data=.dict es ep/\es.toList=xs.map (entryOfKey (dE P w))/\(xs.map (·.1)).Nodup
 | .set S n=>h.SetOf (intKind P w) a S n
 | .ins C dx fs=>H dx=some (.own a)/\fs.length<=1000/\dx≠a/\h.get? a=some (p5 C dx) /\
   ∃mA,h.Ns1 dx mA/\(∀f,j_ (fs.lookup f) (mA f))/\PySem.Within mA (fs.map (·.1))
 | .own _=>∃o,h.get? a=some o
 | .xd fs=>∃mA,h.Ns1 a mA/\∀f,j_ (fs.lookup f) (mA f)
 | .rng lo hi=>∃t u v,h.get? a=some { cls:=.type "range",data:=.fields #[.int lo t,.int hi u,.int 1 v] }
 | .frz o u=>h.get? a=some o/\bO H h a u
 | .tbl ps=>h.get? a=some { cls:=.none,data:=.fields ps }
 | .met f x=>h.get? a=some (PySem.W.methodObj (.ref f) (.ref x))
 | .ext φ=>φ h/\(∃o,h.get? a=some o)/\∀h1 h2:Heap,φ h1->(∀o,h1.get? a=some o->h2.get? a=some o)->φ h2
def lI (H:Hp) (h:Heap):Prop:=∀a o,H a=some o->bO P w K H h a o
end
section
variable {P:bF}{w:World}{K:Za}{H H':Hp}{h h':Heap}{a:Addr}{o:HO}
theorem bO.lt (x:bO P w K H h a o):a<h.objs.size:=by
 cases o with
 | lst xs=>obtain ⟨_,_,_,_,e⟩:=x; exact aT e
 | tup xs=>obtain ⟨_,_,_,p⟩:=x; exact p.lt
 | dK kvs=>obtain ⟨_,_,_,_,o,_,_,e,_⟩:=x; exact aT e
 | dT kvs=>obtain ⟨_,_,_,_,o,_,_,e,_⟩:=x; exact aT e
 | set S n=>obtain ⟨o,_,_,_,e,_⟩:=x; exact aT e
 | ins C dx fs=>obtain ⟨_,_,_,e,_⟩:=x; exact aT e
 | own y=>obtain ⟨_,e⟩:=x; exact aT e
 | xd fs=>obtain ⟨_,⟨_,_,_,e,_⟩,_⟩:=x; exact aT e
 | rng lo hi=>obtain ⟨_,_,_,e⟩:=x; exact aT e
 | frz ob u=>obtain ⟨e,_⟩:=x; exact aT e
 | tbl ps=>exact aT (show h.get? a=some _ from x)
 | met f y=>exact aT (show h.get? a=some _ from x)
 | ext φ=>obtain ⟨_,⟨_,e⟩,_⟩:=x; exact aT e
theorem Paired.mapP {α β:Type}{F G:α->β->Prop}:∀{l₁:List α}{l₂:List β},Paired F l₁ l₂->(∀a b,F a b->G a b)->Paired G l₁ l₂
 | _,_,.nil,_=>.nil
 | _,_,.cons r t,f=>.cons (f _ _ r) (Paired.mapP t f)
theorem bO.stay (x:bO P w K H h a o) (k:∀b u,(b=a∨H b=some (.own a))->h.get? b=some u->h'.get? b=some u)
  (ho:∀b,H b=some (.own a)->H' b=some (.own a)) (ht:∀b xs,H b=some (.tup xs)->H' b=some (.tup xs)):bO P w K H' h' a o:=by
 induction o with
 | lst xs=>obtain ⟨z,its,n,r,e⟩:=x; exact ⟨z,its,n,r,k _ _ (.inl rfl) e⟩
 | tup xs=>obtain ⟨z,its,r,ob,e,c⟩:=x; exact ⟨z,its,r,ob,k _ _ (.inl rfl) e,c⟩
 | dK kvs=>obtain ⟨z,y,vs,r,ob,es,ep,e,c⟩:=x; exact ⟨z,y,vs,r,ob,es,ep,k _ _ (.inl rfl) e,c⟩
 | dT kvs =>
  obtain ⟨z,y,xs,r,ob,es,ep,e,c⟩:=x;exact ⟨z,y,xs,Paired.mapP r fun p q z=>⟨z.1,mR.keeps ht 8 z.2.2.1 z.2.1,z.2.2⟩,ob,es,ep,k _ _ (.inl rfl) e,c⟩
 | set S n=>obtain ⟨ob,es,ep,t,e,c⟩:=x; exact ⟨ob,es,ep,t,k _ _ (.inl rfl) e,c⟩
 | ins C dx fs =>
  obtain ⟨d,z,ne,e,mA,⟨od,es,ep,e2,c⟩,r⟩:=x;exact ⟨ho _ d,z,ne,k _ _ (.inl rfl) e,mA,⟨od,es,ep,k _ _ (.inr d) e2,c⟩,r⟩
 | own y=>obtain ⟨ob,e⟩:=x; exact ⟨ob,k _ _ (.inl rfl) e⟩
 | xd fs=>obtain ⟨mA,⟨od,es,ep,e,c⟩,r⟩:=x; exact ⟨mA,⟨od,es,ep,k _ _ (.inl rfl) e,c⟩,r⟩
 | rng lo hi=>obtain ⟨t,u,v,e⟩:=x; exact ⟨t,u,v,k _ _ (.inl rfl) e⟩
 | frz ob u ih=>obtain ⟨e,q⟩:=x; exact ⟨k _ _ (.inl rfl) e,ih q⟩
 | tbl ps =>
  have e:h.get? a=some { cls:=.none,data:=.fields ps }:=x;show h'.get? a=some { cls:=.none,data:=.fields ps };exact k a _ (.inl rfl) e
 | met f y =>
  have e:h.get? a=some (PySem.W.methodObj (.ref f) (.ref y)):=x;show h'.get? a=some (PySem.W.methodObj (.ref f) (.ref y));exact k a _ (.inl rfl) e
 | ext φ=>obtain ⟨p,⟨o,e⟩,st⟩:=x; exact ⟨st _ _ p fun o q=>k _ _ (.inl rfl) q,⟨o,k _ _ (.inl rfl) e⟩,st⟩
theorem lI.lt (x:lI P w K H h) (e:H a=some o):a<h.objs.size:=(x a o e).lt
theorem lI.fresh (x:lI P w K H h) (e:h.objs.size<=a):H a=none:=by
 cases q:H a with
 | none=>rfl
 | some u=>exact absurd (ib (x.lt q) e) (p4 _)
theorem lI.kept (x:lI P w K H h) (k:∀b u,h.get? b=some u->h'.get? b=some u):lI P w K H h':=fun a o e =>
 (x a o e).stay (fun b u _ q=>k b u q) (fun _ q=>q) fun _ _ q=>q
theorem lI.laid (x:lI P w K H h) (k:∀b u,h.get? b=some u->h'.get? b=some u) (hp:h.objs.size<=a) (new:bO P w K (upd H a o) h' a o):lI P w K (upd H a o) h':=fun b u e=>by
 have hn:=x.fresh hp;by_cases hb:b=a
 ·subst hb; rw [aa] at e; cases e; exact new
 ·rw [af hb] at e;exact (x b u e).stay (fun c v _ q=>k c v q) (fun c q=>by rw [af (ae q hn)]; exact q) fun c xs q=>by rw [af (ae q hn)]; exact q
end
def Rd (H:Hp) (a:Addr) (u:HO):Prop:=H a=some u∨∃o,H a=some (.frz o u)
theorem Rd.ok {P:bF}{w:World}{K:Za}{H:Hp}{h:Heap}{a:Addr}{u:HO}(r:Rd H a u) (x:lI P w K H h):bO P w K H h a u:=by
 rcases r with r | ⟨o,r⟩
 ·exact x a u r
 ·obtain ⟨_,q⟩:=x a _ r;exact q
def Hz:Option HO->Prop
 | some (.lst _)=>True
 | some (.dK _)=>True
 | some (.dT _)=>True
 | some (.set _ _)=>True
 | some (.ins _ _ _)=>True
 | some (.ext _)=>True
 | _=>False
section
variable {P:bF}{w:World}{K:Za}{H:Hp}{h h':Heap}{x e:Addr}{o':HO}
theorem lI.write (ok:lI P w K H h) (mu:Hz (H x)) (he:e=x∨H e=some (.own x)) (k:∀b u,b≠e->h.get? b=some u->h'.get? b=some u) (heo:∃u,h'.get? e=some u)
  (new:bO P w K (upd H x o') h' x o'):lI P w K (upd H x o') h':=fun b u q=>by
 have nown:∀c y,H c=some (.own y)->c≠x:=fun c y r z=>by subst z; rw [r] at mu; exact mu
 have ntup:∀c xs,H c=some (.tup xs)->c≠x:=fun c xs r z=>by subst z; rw [r] at mu; exact mu
 by_cases hb:b=x
 ·subst hb; rw [aa] at q; cases q; exact new
 ·rw [af hb] at q;by_cases hbe:b=e
  ·have q':H b=some (.own x):=by
    rcases he with z | z
    ·exact absurd (hbe.trans z) hb
    ·rw [hbe]; exact z
   rw [q] at q'; cases q';obtain ⟨v,hv⟩:=heo;exact ⟨v,by rw [hbe]; exact hv⟩
  ·refine (ok b u q).stay (fun c v hc r=>k c v ?_ r) (fun c r=>by rw [af (nown c b r)]; exact r) fun c xs r=>by rw [af (ntup c xs r)]; exact r
   rcases hc with rfl | hc
   ·exact hbe
   ·rintro rfl;rcases he with z | z
    ·exact nown c b hc z
    ·rw [hc] at z; cases z; exact hb rfl
end
structure Un (fs ex:Ze) (H H':Hp) (h h':Heap):Prop where
 keep:∀b o,h.get? b=some o->H b=none->b∉fs->b∉ex->h'.get? b=some o
 slot:∀b o,h.get? b=some o->H b=none->b∈fs->b∉ex->∃sl,h'.get? b=some { o with slots:=sl }
 free:∀b o,h.get? b=some o->H b=none->b∉ex->H' b=none
 there:∀b o,h.get? b=some o->b∉ex->∃o',h'.get? b=some o'
 tups:∀b xs,H b=some (.tup xs)->H' b=some (.tup xs)
 frzs:∀b o u,H b=some (.frz o u)->H' b=some (.frz o u)
 tbls:∀b ps,H b=some (.tbl ps)->∃more,H' b=some (.tbl (ps++more))
section
variable {fs fs' ex ex':Ze}{H H1 H2:Hp}{h h1 h2 h':Heap}{a x e:Addr}{o:HO}
theorem Un.any (u:Un fs ex H H1 h h1) {b:Addr}{ob:Obj}(q:h.get? b=some ob) (n:H b=none) (hx:b∉ex):∃sl,h1.get? b=some { ob with slots:=sl }:=by
 by_cases hb:b∈fs
 ·exact u.slot b ob q n hb hx
 ·exact ⟨ob.slots,u.keep b ob q n hb hx⟩
theorem Un.kept (k:∀b u,h.get? b=some u->h'.get? b=some u):Un fs ex H H h h' :=
 ⟨fun b ob q _ _ _=>k b ob q,fun b ob q _ _ _=>⟨ob.slots,k b ob q⟩,fun _ _ _ n _=>n,fun b ob q _=>⟨ob,k b ob q⟩,fun _ _ q=>q,fun _ _ _ q=>q,fun _ ps q=>⟨#[],by rw [q]; simp⟩⟩
theorem Un.refl:Un fs ex H H h h:=Un.kept fun _ _ q=>q
theorem Un.laid (k:∀b u,h.get? b=some u->h'.get? b=some u) (hp:h.objs.size<=a) (hn:H a=none):Un fs ex H (upd H a o) h h' where
 keep:=fun b u q _ _ _=>k b u q
 slot:=fun b u q _ _ _=>⟨u.slots,k b u q⟩
 free:=fun b u q n _=>by rw [af (cQ (ib (aT q) hp))]; exact n
 there:=fun b u q _=>⟨u,k b u q⟩
 tups:=fun b xs q=>by rw [af (ae q hn)]; exact q
 frzs:=fun b u xs q=>by rw [af (ae q hn)]; exact q
 tbls:=fun b ps q=>⟨#[],by rw [af (ae q hn),q]; simp⟩
theorem Un.write (mu:Hz (H x)) (he:e=x∨H e=some (.own x)) (k:∀b u,b≠e->h.get? b=some u->h'.get? b=some u) (heo:∃u,h'.get? e=some u):Un fs ex H (upd H x o) h h':=by
 have hx:∀b,H b=none->b≠x:=fun b n z=>by subst z; rw [n] at mu; exact mu
 have hb:∀b,H b=none->b≠e:=fun b n z=>by
  subst z;rcases he with r | r
  ·exact hx b n r
  ·rw [n] at r; cases r
 have hm:∀b u,H b=some u->¬Hz (some u)->b≠x:=fun b u q nm z=>by subst z; rw [q] at mu; exact nm mu
 refine ⟨fun b u q n _ _=>k b u (hb b n) q,fun b u q n _ _=>⟨u.slots,k b u (hb b n) q⟩,fun b u q n _=>by rw [af (hx b n)]; exact n,fun b u q _=>?_,
  fun b xs q=>by rw [af (hm b _ q fun z=>z)]; exact q,fun b u xs q=>by rw [af (hm b _ q fun z=>z)]; exact q,fun b ps q=>⟨#[],by rw [af (hm b _ q fun z=>z),q]; simp⟩⟩
 by_cases hbe:b=e
 ·subst hbe; exact heo
 ·exact ⟨u,k b u hbe q⟩
end
def HQ (h:Heap) (H:Hp):List Addr:=(i8 h.objs.size).filter fun a=>(H a).isSome
def wI (h:Heap) (H:Hp):Heap:=PySem.W.hideAll h (HQ h H)
theorem CD (h:Heap) (H:Hp):(wI h H).objs.size=h.objs.size:=PySem.W.hideAll_size _ _
theorem El {h:Heap}{H:Hp}{b:Addr}{o:Obj}(e:h.get? b=some o) (n:H b=none):(wI h H).get? b=some o :=
 PySem.W.hideAll_get _ e fun hm=>by
  have q:(H b).isSome=true:=(b0.mp hm).2;rw [n] at q; simp at q
theorem FJ {h:Heap}{H:Hp}{b:Addr}{o:Obj}(e:(wI h H).get? b=some o):h.get? b=some o/\H b=none:=by
 have e':h.get? b=some o:=PySem.W.of_hideAll (HQ h H) e;refine ⟨e',?_⟩;cases q:H b with
 | none=>rfl
 | some x =>
  have hm:b∈HQ h H:=b0.mpr ⟨List.mem_range.mpr (aT e'),by simp [q]⟩;have z:(wI h H).get? b=none:=PySem.W.hideAll_none (HQ h H) hm;rw [z] at e; cases e
end L2
namespace L2
open PySem PySem.Spec PyProof.Rows
structure Mod (K:Za) (mg:Str->Option Value) (base:Heap):Prop where
 kin:K.In base
 glob:base.Ns bX mg
 blt:∃mb,base.Ns builtinsNs mb/\∀x:Str,x≠"__name__"->mb x=kg x
 nolimit:base.NoLimit
structure Cx where
 prog:bF
 w:World
 K:Za
 mg:Str->Option Value
 base:Heap
 A:Around
 N:List Str
 s₀:Shared
 H₀:Hp
 env:Env
 outer:List Env
 stack:List Env
 ex:List Addr
 fn:Str->Bool
 calm:Bool
 pn:List (Addr×Obj)
 xe:Value->Shared->Prop
def C6 (l:List Env):List Addr:=l.filterMap (·.frame)
abbrev Cx.fs (X:Cx):List Addr:=C6 X.outer
def HS (sc:Scope) (x:Str):Prop:=sc.names.lookup x=some .local∨sc.names.lookup x=some .cell∨sc.names.lookup x=some .free
def Loc (sc:Scope) (x:Str):Prop:=sc.names.lookup x=some .local∨sc.names.lookup x=some .cell
def Look (env:Env) (h:Heap) (m:Str->Option Value) (x:Str) (u:Value):Prop :=
 (env.kindOf x=some .local/\m x=some u)∨((env.kindOf x=some .cell∨env.kindOf x=some .free)/\∃c,env.cells.lookup x=some c/\h.IsCell c (some u))
structure Cx.Ok (X:Cx):Prop where
 mod:Mod X.K X.mg X.base
 kind:X.env.scope.kind=.function
 glob:X.env.globals=bX
 blt:X.env.builtins=builtinsNs
 above:X.s₀.heap.objs.size<=X.env.locals
 inj:∀x y c,X.env.cells.lookup x=some c->X.env.cells.lookup y=some c->x=y
 has:∀x,(X.env.kindOf x=some .cell∨X.env.kindOf x=some .free)->∃c,X.env.cells.lookup x=some c
 cab:∀x c,X.fn x=true->X.env.cells.lookup x=some c->X.s₀.heap.objs.size<=c
 hd:X.calm=true->X.A.handled=none
 frames:X.A.frames=some X.stack
 stk:X.stack=X.outer∨(X.stack=X.env::X.outer/\X.env.frame=some X.env.locals)
 exf:∀b∈X.ex,b≠X.env.locals/\∀x c,X.env.cells.lookup x=some c->c≠b
 bs:∀b o,X.base.get? b=some o->X.s₀.heap.get? b=some o/\X.H₀ b=none
 bsz:X.base.objs.size<=X.s₀.heap.objs.size
 noex:∀b o,X.base.get? b=some o->b∉X.ex
 exfs:∀b∈X.ex,b∉X.fs
 funs:X.s₀.heap.FunFrames X.base X.outer
 frf:∀b∈X.fs,X.H₀ b=none
structure Inv (X:Cx) (J3:Zd) (σ:List (Option V)) (H:Hp) (s:Shared):Prop where
 ok:X.Ok
 os:s.os=X.s₀.os
 bare:nC s.gens
 base:Un X.fs X.ex X.H₀ H X.s₀.heap s.heap
 loc:∃m,s.heap.Ns X.env.locals m/\∀(i:Nat) (x:Str) (v:V),X.N[i]?=some x->σ[i]?=some (some v)->HS X.env.scope x->∃u,RelV v u/\Look X.env s.heap m x u
 cell:∀x c,X.env.cells.lookup x=some c->∃v,s.heap.IsCell c v
 free:H X.env.locals=none
 freeC:∀x c,X.env.cells.lookup x=some c->H c=none
 pin:∀p∈X.pn++J3,s.heap.get? p.1=some p.2/\H p.1=none/\p.1≠X.env.locals/\p.1∉X.fs/\∀v,p.2.data≠.cell v
 hok:lI X.prog X.w X.K H s.heap
 len:σ.length=X.N.length
section
variable {X:Cx}{J3:Zd}{σ:List (Option V)}{H H':Hp}{s:Shared}{h':Heap}
theorem Cx.Ok.nofr (ok:X.Ok) {b:Addr}{o:Obj}(e:X.base.get? b=some o):b∉X.fs:=fun hb=>by
 have:=(ok.funs.mem hb).1;rw [e] at this; cases this
theorem Inv.bs (I:Inv X J3 σ H s):∀b o,X.base.get? b=some o->s.heap.get? b=some o/\H b=none:=fun b o e =>
 ⟨I.base.keep b o (I.ok.bs b o e).1 (I.ok.bs b o e).2 (I.ok.nofr e) (I.ok.noex b o e),I.base.free b o (I.ok.bs b o e).1 (I.ok.bs b o e).2 (I.ok.noex b o e)⟩
theorem Inv.bk (I:Inv X J3 σ H s):∀b o,X.base.get? b=some o->s.heap.get? b=some o:=fun b o e=>(I.bs b o e).1
theorem Inv.mod (I:Inv X J3 σ H s):Mod X.K X.mg X.base:=I.ok.mod
theorem Inv.kIn (I:Inv X J3 σ H s):X.K.In s.heap:=I.ok.mod.kin.keeps I.bk
theorem Inv.fr (I:Inv X J3 σ H s):∃m,Fr X.base X.env.locals s.heap m :=
 let ⟨m,hn,_⟩:=I.loc
 ⟨m,hn,I.bk,bP I.ok.bsz I.ok.above⟩
theorem Inv.lt (I:Inv X J3 σ H s):X.env.locals<s.heap.objs.size:=let ⟨_,hn,_⟩:=I.loc; hn.lt
theorem Inv.sz (I:Inv X J3 σ H s):X.s₀.heap.objs.size<=s.heap.objs.size:=bP I.ok.above (dR I.lt)
theorem Inv.nofs (I:Inv X J3 σ H s) {a:Addr}(h:s.heap.objs.size<=a):a∉X.fs:=fun hb=>by
 obtain ⟨_,o,ho,_⟩:=I.ok.funs.mem hb;exact absurd (ib (aT ho) (bP I.sz h)) (p4 _)
theorem Inv.cne (I:Inv X J3 σ H s):∀x c,X.env.cells.lookup x=some c->c≠X.env.locals:=fun x c e z=>by
 obtain ⟨v,o,ho,hd⟩:=I.cell x c e;obtain ⟨m,⟨o',es,ep,ho',hd',_⟩,_⟩:=I.loc;rw [z,ho'] at ho; cases ho; rw [hd'] at hd; cases hd
theorem Inv.funs (I:Inv X J3 σ H s):s.heap.FunFrames X.base X.outer:=by
 have all:∀(l:List Env),(∀b∈C6 l,b∈X.fs)->X.s₀.heap.FunFrames X.base l->s.heap.FunFrames X.base l:=by
  intro l
  induction l with
  | nil=>intro _ _; trivial
  | cons env r ih =>
   intro hs hl;obtain ⟨hk,⟨L,o,hf,hn,ho,hd⟩,hr⟩:=hl;have hL:L∈X.fs:=hs L (by unfold C6; rw [List.filterMap_cons,hf]; exact cy);obtain ⟨sl,e⟩:=I.base.slot L o ho (I.ok.frf L hL) hL fun z=>I.ok.exfs L z hL;exact ⟨hk,⟨L,_,hf,hn,e,hd⟩,ih (fun b hb=>hs b (by unfold C6; rw [List.filterMap_cons,hf]; exact eO _ hb)) hr⟩
 exact all X.outer (fun _ hb=>hb) I.ok.funs
theorem Inv.stack (I:Inv X J3 σ H s):s.heap.FunFrames X.base X.stack:=by
 rcases I.ok.stk with e | ⟨e,hf⟩
 ·rw [e]; exact I.funs
 ·rw [e];obtain ⟨m,hn,_⟩:=I.loc;refine .cons (by rw [I.ok.kind]; decide) hf hn ?_ I.funs;exact Heap.get?_none_of_le (bP I.ok.bsz I.ok.above)
theorem Inv.stkSub (I:Inv X J3 σ H s):∀b∈C6 X.stack,b∈X.env.locals::X.fs:=fun b hb=>by
 rcases I.ok.stk with e | ⟨e,hf⟩
 ·rw [e] at hb; exact eO _ hb
 ·rw [e] at hb;unfold C6 at hb;rw [List.filterMap_cons,hf] at hb;exact hb
theorem Inv.stkFree (I:Inv X J3 σ H s):∀b∈C6 X.stack,H b=none:=fun b hb=>by
 rcases cP.mp (I.stkSub b hb) with e | hb
 ·rw [e]; exact I.free
 ·obtain ⟨_,o,ho,_⟩:=I.ok.funs.mem hb;exact I.base.free b o ho (I.ok.frf b hb) fun z=>I.ok.exfs b z hb
theorem Inv.step {g':Array GenState}{t':Nat}{d':Drawn}{ch:Ze}(I:Inv X J3 σ H s)
  (hch:∀b∈ch,(b∈X.ex∨X.s₀.heap.objs.size<=b)/\b≠X.env.locals/\(∀x c,X.env.cells.lookup x=some c->c≠b)/\∀p∈X.pn++J3,p.1≠b)
  (keep:∀b o,b≠X.env.locals->b∉X.fs->b∉ch->s.heap.get? b=some o->H b=none->h'.get? b=some o)
  (slot:∀b o,b≠X.env.locals->b∈X.fs->b∉ch->s.heap.get? b=some o->H b=none->∃sl,h'.get? b=some { o with slots:=sl }) (free:∀b o,b∉ch->s.heap.get? b=some o->H b=none->H' b=none)
  (there:∀b o,b∉ch->s.heap.get? b=some o->∃o',h'.get? b=some o')
  (tups:∀b xs,H b=some (.tup xs)->H' b=some (.tup xs)) (frzs:∀b o u,H b=some (.frz o u)->H' b=some (.frz o u)) (tbls:∀b ps,H b=some (.tbl ps)->∃more,H' b=some (.tbl (ps++more)))
  (ns:∀m,s.heap.Ns X.env.locals m->h'.Ns X.env.locals m) (hok:lI X.prog X.w X.K H' h') (hg:nC g') :
  Inv X J3 σ H' { s with heap:=h',gens:=g',drawn:=d',toks:=t' }:=by
 have neL:∀b o,X.s₀.heap.get? b=some o->b≠X.env.locals:=fun b o e=>cQ (ib (aT e) I.ok.above);have neC:∀b o,X.s₀.heap.get? b=some o->b∉X.ex->b∉ch:=fun b o e hx hb=>by
  rcases (hch b hb).1 with z | z
  ·exact hx z
  ·exact absurd (ib (aT e) z) (p4 _)
 have cellK:∀x c,X.env.cells.lookup x=some c->∀v,s.heap.IsCell c v->h'.IsCell c v:=fun x c e v ⟨o,ho,hd⟩=>by
  have nch:c∉ch:=fun z=>(hch c z).2.2.1 x c e rfl;by_cases hc:c∈X.fs
  ·obtain ⟨sl,q⟩:=slot c o (I.cne x c e) hc nch ho (I.freeC x c e);exact ⟨_,q,hd⟩
  ·exact ⟨o,keep c o (I.cne x c e) hc nch ho (I.freeC x c e),hd⟩
 refine ⟨I.ok,I.os,hg,⟨fun b o e n hb hx=>?_,fun b o e n hb hx=>?_,fun b o e n hx=>?_,fun b o e hx=>?_,fun b xs e=>tups b xs (I.base.tups b xs e),fun b o xs e=>frzs b o xs (I.base.frzs b o xs e),fun b ps e=>?_⟩,?_,fun x c e=>?_,?_,fun x c e=>?_,fun p hp=>?_,hok,I.len⟩
 ·exact keep b o (neL b o e) hb (neC b o e hx) (I.base.keep b o e n hb hx) (I.base.free b o e n hx)
 ·obtain ⟨sl,e1⟩:=I.base.slot b o e n hb hx;obtain ⟨sl',e2⟩:=slot b _ (neL b o e) hb (neC b o e hx) e1 (I.base.free b o e n hx);exact ⟨sl',e2⟩
 ·obtain ⟨o',e1⟩:=I.base.there b o e hx;exact free b o' (neC b o e hx) e1 (I.base.free b o e n hx)
 ·obtain ⟨o',e1⟩:=I.base.there b o e hx;exact there b o' (neC b o e hx) e1
 ·obtain ⟨m1,e1⟩:=I.base.tbls b ps e;obtain ⟨m2,e2⟩:=tbls b _ e1;exact ⟨m1++m2,by rw [e2,Array.append_assoc]⟩
 ·obtain ⟨m,hn,hl⟩:=I.loc;refine ⟨m,ns m hn,fun i x v e1 e2 e3=>?_⟩;obtain ⟨u,r,l⟩:=hl i x v e1 e2 e3;refine ⟨u,r,?_⟩;rcases l with l | ⟨k,c,e,z⟩
  ·exact .inl l
  ·exact .inr ⟨k,c,e,cellK x c e _ z⟩
 ·obtain ⟨v,z⟩:=I.cell x c e;exact ⟨v,cellK x c e v z⟩
 ·obtain ⟨m,⟨o,_,_,ho,_⟩,_⟩:=I.loc;exact free _ o (fun z=>(hch _ z).2.1 rfl) ho I.free
 ·obtain ⟨v,o,ho,hd⟩:=I.cell x c e;exact free c o (fun z=>(hch c z).2.2.1 x c e rfl) ho (I.freeC x c e)
 ·obtain ⟨e,n,ne,nf,d⟩:=I.pin p hp;have nch:p.1∉ch:=fun z=>(hch p.1 z).2.2.2 p hp rfl;exact ⟨keep p.1 p.2 ne nf nch e n,free p.1 p.2 nch e n,ne,nf,d⟩
theorem Inv.un {t':Nat}(I:Inv X J3 σ H s) (u:Un X.fs [] H H' s.heap h') (hok:lI X.prog X.w X.K H' h'):Inv X J3 σ H' { s with heap:=h',toks:=t' }:=by
 obtain ⟨m,⟨o,es,ep,ho,r⟩,_⟩:=id I.loc;obtain ⟨sl,hL⟩:=u.any ho I.free (by simp);exact I.step (g':=s.gens) (d':=s.drawn) (ch:=[]) (fun _ z=>nomatch z) (fun b o _ hb _ e n=>u.keep b o e n hb (by simp)) (fun b o _ hb _ e n=>u.slot b o e n hb (by simp)) (fun b o _ e n=>u.free b o e n (by simp)) (fun b o _ e=>u.there b o e (by simp)) u.tups u.frzs u.tbls (fun m' hm=>by
  obtain ⟨o',es',ep',ho',r'⟩:=hm;rw [ho] at ho'; cases ho';exact ⟨_,es',ep',hL,r'⟩) hok I.bare
theorem Inv.call {g':Array GenState}{t':Nat}{d':Drawn}{ch:Ze}(I:Inv X J3 σ H s) (u:Un (C6 X.stack) ch H H' s.heap h') (hok:lI X.prog X.w X.K H' h') (hg:nC g')
  (hch:∀b∈ch,(b∈X.ex∨X.s₀.heap.objs.size<=b)/\b≠X.env.locals/\(∀x c,X.env.cells.lookup x=some c->c≠b)/\∀p∈X.pn++J3,p.1≠b) :
  Inv X J3 σ H' { s with heap:=h',gens:=g',drawn:=d',toks:=t' }:=by
 obtain ⟨m,⟨o,es,ep,ho,r⟩,_⟩:=id I.loc;obtain ⟨sl,hL⟩:=u.any ho I.free fun z=>(hch _ z).2.1 rfl;exact I.step (ch:=ch) hch (fun b o hL hb hc e n=>u.keep b o e n (fun z=>(cP.mp (I.stkSub b z)).elim hL hb) hc) (fun b o _ _ hc e n=>u.any e n hc) (fun b o hc e n=>u.free b o e n hc) (fun b o hc e=>u.there b o e hc) u.tups u.frzs u.tbls (fun m' hm=>by
  obtain ⟨o',es',ep',ho',r'⟩:=hm;rw [ho] at ho'; cases ho';exact ⟨_,es',ep',hL,r'⟩) hok hg
theorem Inv.turned {t':Nat}{it:Addr}(I:Inv X J3 σ H s) (k:∀b o,b≠it->s.heap.get? b=some o->h'.get? b=some o) (hn:H it=none) (hL:it≠X.env.locals)
  (h1:it∈X.ex∨X.s₀.heap.objs.size<=it) (h2:∀x c,X.env.cells.lookup x=some c->c≠it) (h3:∀p∈X.pn++J3,p.1≠it):Inv X J3 σ H { s with heap:=h',toks:=t' }:=by
 have nit:∀b u,H b=some u->b≠it:=fun b u e z=>by rw [z,hn] at e; cases e
 refine I.step (g':=s.gens) (d':=s.drawn) (ch:=[it]) (fun b hb=>?_) (fun b o _ _ hc e _=>k b o (fun z=>hc (by simp [z])) e) (fun b o _ _ hc e _=>⟨o.slots,k b o (fun z=>hc (by simp [z])) e⟩) (fun _ _ _ _ n=>n)
  (fun b o hc e=>⟨o,k b o (fun z=>hc (by simp [z])) e⟩) (fun _ _ e=>e) (fun _ _ _ e=>e) (fun b ps e=>⟨#[],by rw [e]; simp⟩) (fun m hm=>?_) (fun b u e=>?_) I.bare
 ·have e:b=it:=by simpa using hb
  subst e;exact ⟨h1,hL,h2,h3⟩
 ·obtain ⟨o,es,ep,ho,r⟩:=hm;exact ⟨o,es,ep,k _ o (c9 hL) ho,r⟩
 ·refine (I.hok b u e).stay (fun c v hc q=>k c v ?_ q) (fun _ q=>q) fun _ _ q=>q;rcases hc with z | z
  ·rw [z]; exact nit b u e
  ·exact nit c _ z
theorem Inv.tok (I:Inv X J3 σ H s) (t:Nat):Inv X J3 σ H { s with toks:=t }:=I.un (h':=s.heap) (t':=t) Un.refl I.hok
theorem Inv.kept {t':Nat}(I:Inv X J3 σ H s) (k:∀b u,s.heap.get? b=some u->h'.get? b=some u):Inv X J3 σ H { s with heap:=h',toks:=t' }:=I.un (Un.kept k) (I.hok.kept k)
theorem Inv.laid {a:Addr}{o:HO}{t':Nat}(I:Inv X J3 σ H s) (k:∀b u,s.heap.get? b=some u->h'.get? b=some u) (hp:s.heap.objs.size<=a) (new:bO X.prog X.w X.K (upd H a o) h' a o) :
  Inv X J3 σ (upd H a o) { s with heap:=h',toks:=t' }:=I.un (Un.laid k hp (I.hok.fresh hp)) (I.hok.laid k hp new)
theorem Inv.write {x e:Addr}{o:HO}{t':Nat}(I:Inv X J3 σ H s) (mu:Hz (H x)) (he:e=x∨H e=some (.own x)) (k:∀b u,b≠e->s.heap.get? b=some u->h'.get? b=some u) (heo:∃u,h'.get? e=some u)
  (new:bO X.prog X.w X.K (upd H x o) h' x o):Inv X J3 σ (upd H x o) { s with heap:=h',toks:=t' }:=I.un (Un.write mu he k heo) (I.hok.write mu he k heo new)
theorem Inv.weak {σ':List (Option V)}(I:Inv X J3 σ H s) (hl:σ'.length=σ.length) (w:∀(i:Nat) v,σ'[i]?=some (some v)->σ[i]?=some (some v)):Inv X J3 σ' H s :=
 ⟨I.ok,I.os,I.bare,I.base,let ⟨m,hn,hl'⟩:=I.loc; ⟨m,hn,fun i x v e1 e2 e3=>hl' i x v e1 (w i v e2) e3⟩,I.cell,I.free,I.freeC,I.pin,I.hok,hl.trans I.len⟩
theorem Inv.pins_of {pins':Zd}(I:Inv X J3 σ H s) (h:∀p∈pins',s.heap.get? p.1=some p.2/\H p.1=none/\p.1≠X.env.locals/\p.1∉X.fs/\∀v,p.2.data≠.cell v):Inv X pins' σ H s :=
 ⟨I.ok,I.os,I.bare,I.base,I.loc,I.cell,I.free,I.freeC,fun p hp=>(aW.mp hp).elim (fun z=>I.pin p (cx _ z)) (h p),I.hok,I.len⟩
theorem ya {N:Zb}(hN:N.Nodup) {i j:Nat}{x:Str}(a:N[i]?=some x) (b:N[j]?=some x):i=j:=by
 obtain ⟨h1,e1⟩:=bE.mp a;obtain ⟨h2,e2⟩:=bE.mp b;exact (List.getElem_inj hN).mp (e1.trans e2.symm)
theorem uv {M:Model}{A:Around}{E:Zc}{i:Nat}{x:Str}{v:V}{u:Value}{Q:Unit->Shared->Prop}(I:Inv X J3 σ H s) (hN:X.N.Nodup) (hi:X.N[i]?=some x) (hx:Loc X.env.scope x) (r:RelV v u)
  (h:∀s',Inv X J3 (σ.set i (some v)) H s'->(∃a,ff a s.heap s'.heap/\(a=X.env.locals∨X.env.cells.lookup x=some a))->Q () s') (hf:X.fn x=true∨X.env.scope.names.lookup x=some .local:=by first | exact .inl rfl | exact .inr rfl | assumption):wpAny M A (storeName X.env x u) Q E s:=by
 obtain ⟨m,hn,hl⟩:=id I.loc;have hcls:(X.env.scope.kind == .class || (X.env.scope.kind == .module && X.env.locals != X.env.globals))=false:=by rw [I.ok.kind]; rfl
 have hiσ:i<σ.length:=by rw [I.len]; exact (bE.mp hi).1
 have cne:=I.cne;have tracked:∀{a:Addr}{h':Heap},(∃o,s.heap.get? a=some o/\H a=none)->ff a s.heap h'->lI X.prog X.w X.K H h':=fun {a h'} ha hs b ob e=>by
  obtain ⟨_,_,hfree⟩:=ha;refine (I.hok b ob e).stay (fun c w' hc q=>(hs.2 c ?_).trans q) (fun _ q=>q) fun _ _ q=>q;rintro rfl;rcases hc with rfl | hc
  ·rw [hfree] at e; cases e
  ·rw [hfree] at hc; cases hc
 rcases hx with hk | hk
 ·refine wpAny_storeName_local hk hn (fun h' hn' hs=>?_) hcls;obtain ⟨oL,_,_,hoL,_⟩:=id hn;refine h _ ⟨I.ok,I.os,I.bare,⟨fun b o e n hb hx=>?_,fun b o e n hb hx=>?_,I.base.free,fun b o e hx=>?_,I.base.tups,I.base.frzs,I.base.tbls⟩,⟨_,hn',fun j y v' e1 e2 e3=>?_⟩,fun y c e=>?_,I.free,I.freeC,fun p hp=>?_,tracked ⟨oL,hoL,I.free⟩ hs,by simpa using I.len⟩ ⟨_,hs,.inl rfl⟩
  ·exact (hs.2 b (cQ (ib (aT e) I.ok.above))).trans (I.base.keep b o e n hb hx)
  ·obtain ⟨sl,e1⟩:=I.base.slot b o e n hb hx;exact ⟨sl,(hs.2 b (cQ (ib (aT e) I.ok.above))).trans e1⟩
  ·obtain ⟨o',e1⟩:=I.base.there b o e hx;exact ⟨o',(hs.2 b (cQ (ib (aT e) I.ok.above))).trans e1⟩
  ·by_cases hj:j=i
   ·subst hj;rw [hi] at e1; cases e1;rw [List.getElem?_set_self hiσ] at e2;cases e2;exact ⟨u,r,.inl ⟨hk,by simp⟩⟩
   ·rw [List.getElem?_set_ne (c9 hj)] at e2;obtain ⟨u',r',q⟩:=hl j y v' e1 e2 e3;refine ⟨u',r',?_⟩;rcases q with ⟨k,e⟩ | ⟨k,c,e,z⟩
    ·refine .inl ⟨k,?_⟩;have:y≠x:=fun e=>hj (ya hN e1 (e ▸ hi));simp [this,e]
    ·exact .inr ⟨k,c,e,z.sameBut hs (cne y c e)⟩
  ·obtain ⟨w',z⟩:=I.cell y c e;exact ⟨w',z.sameBut hs (cne y c e)⟩
  ·obtain ⟨e,n,ne,nf,d⟩:=I.pin p hp;exact ⟨(hs.2 p.1 ne).trans e,n,ne,nf,d⟩
 ·have hfn:X.fn x=true:=by
   rcases hf with z | z
   ·exact z
   ·rw [z] at hk; cases hk
  obtain ⟨c,hc⟩:=I.ok.has x (.inl hk);obtain ⟨w',z⟩:=I.cell x c hc;refine wpAny_storeName_cell I.ok.kind hk hc z (fun h' hc' hs=>?_);obtain ⟨oc,hoc,hocd⟩:=id z;refine h { s with heap:=h' } ⟨I.ok,I.os,I.bare,⟨fun b o e n hb hx=>?_,fun b o e n hb hx=>?_,I.base.free,fun b o e hx=>?_,I.base.tups,I.base.frzs,I.base.tbls⟩,⟨m,hn.sameBut hs (c9 (cne x c hc)),fun j y v' e1 e2 e3=>?_⟩,fun y c' e=>?_,I.free,I.freeC,fun p hp=>?_,tracked ⟨oc,hoc,I.freeC x c hc⟩ hs,by simpa using I.len⟩ ⟨c,hs,.inr hc⟩
  ·exact (hs.2 b (cQ (ib (aT e) (I.ok.cab x c hfn hc)))).trans (I.base.keep b o e n hb hx)
  ·obtain ⟨sl,e1⟩:=I.base.slot b o e n hb hx;exact ⟨sl,(hs.2 b (cQ (ib (aT e) (I.ok.cab x c hfn hc)))).trans e1⟩
  ·obtain ⟨o',e1⟩:=I.base.there b o e hx;exact ⟨o',(hs.2 b (cQ (ib (aT e) (I.ok.cab x c hfn hc)))).trans e1⟩
  ·by_cases hj:j=i
   ·subst hj;rw [hi] at e1; cases e1;rw [List.getElem?_set_self hiσ] at e2;cases e2;exact ⟨u,r,.inr ⟨.inl hk,c,hc,hc'⟩⟩
   ·rw [List.getElem?_set_ne (c9 hj)] at e2;obtain ⟨u',r',q⟩:=hl j y v' e1 e2 e3;refine ⟨u',r',?_⟩;rcases q with q | ⟨k,c',e,z'⟩
    ·exact .inl q
    ·refine .inr ⟨k,c',e,z'.sameBut hs ?_⟩;rintro rfl;exact hj (ya hN e1 (I.ok.inj _ _ _ e hc ▸ hi))
  ·by_cases hcc:c'=c
   ·subst hcc; exact ⟨_,hc'⟩
   ·obtain ⟨w2,z2⟩:=I.cell y c' e;exact ⟨w2,z2.sameBut hs hcc⟩
  ·obtain ⟨e,n,ne,nf,d⟩:=I.pin p hp;refine ⟨(hs.2 p.1 ?_).trans e,n,ne,nf,d⟩;intro q;rw [q,hoc] at e;have q':oc=p.2:=eI e;exact d w' (by rw [<-q']; exact hocd)
theorem se {M:Model}{A:Around}{E:Zc}{i:Nat}{x:Str}{v:V}{u:Value}{Q:Unit->Shared->Prop}(I:Inv X J3 σ H s) (hN:X.N.Nodup) (hi:X.N[i]?=some x) (hx:Loc X.env.scope x) (r:RelV v u)
  (h:∀s',Inv X J3 (σ.set i (some v)) H s'->Q () s') (hf:X.fn x=true∨X.env.scope.names.lookup x=some .local:=by first | exact .inl rfl | exact .inr rfl | assumption):wpAny M A (storeName X.env x u) Q E s :=
 uv I hN hi hx r (fun s' I' _=>h s' I') hf
theorem Inv.call' {s':Shared}{ch:Ze}(I:Inv X J3 σ H s) (ho:s'.os=s.os) (u:Un (C6 X.stack) ch H H' s.heap s'.heap) (hok:lI X.prog X.w X.K H' s'.heap) (hg:nC s'.gens)
  (hch:∀b∈ch,(b∈X.ex∨X.s₀.heap.objs.size<=b)/\b≠X.env.locals/\(∀x c,X.env.cells.lookup x=some c->c≠b)/\∀p∈X.pn++J3,p.1≠b):Inv X J3 σ H' s':=by
 obtain ⟨h',g',d',t',o'⟩:=s';have e:o'=s.os:=ho;subst e;exact I.call (g':=g') (t':=t') (d':=d') u hok hg hch
end
abbrev XK:=Value->Option Addr->Hp->Prop
abbrev St:=List (Option V)
abbrev VK:=V->Hp->Prop
abbrev TE:=St->Hp->VK->Prop
abbrev TT:=St->Hp->(Bool->Hp->Prop)->Prop
abbrev TA:=St->Hp->(List V->Hp->Prop)->Prop
structure lV where
 nx:St->Hp->Prop
 rt:VK
 bk:St->Hp->Prop:=fun _ _=>False
 ct:St->Hp->Prop:=fun _ _=>False
abbrev bC (Q:VK):lV:={ nx:=fun _ H=>Q .non H,rt:=Q }
abbrev TS:=lV->St->Hp->Prop
def EP (X:Cx) (J3:Zd) (σ:St) (Q:VK) (u:Value) (s':Shared):Prop:=∃v H',Inv X J3 σ H' s'/\RelV v u/\Q v H'
def TP (X:Cx) (J3:Zd) (σ:St) (Q:Bool->Hp->Prop) (b:Bool) (s':Shared):Prop:=∃H',Inv X J3 σ H' s'/\Q b H'
def AP (X:Cx) (J3:Zd) (σ:St) (Q:List V->Hp->Prop) (us:Zf) (s':Shared):Prop:=∃vs H',Inv X J3 σ H' s'/\aV vs us/\Q vs H'
def SP (X:Cx) (J3:Zd) (D:lV) (f:Flow) (s':Shared):Prop :=
 match f with
 | .next=>∃σ' H',Inv X J3 σ' H' s'/\D.nx σ' H'
 | .brk=>∃σ' H',Inv X J3 σ' H' s'/\D.bk σ' H'
 | .cont=>∃σ' H',Inv X J3 σ' H' s'/\D.ct σ' H'
 | .ret u=>∃v σ' H',Inv X J3 σ' H' s'/\RelV v u/\D.rt v H'
def PE (X:Cx) (e:Expr) (t:TE):Prop :=
 ∀(J3:Zd) (s:Shared) (σ:St) (H:Hp) (Q:VK),Inv X J3 σ H s->t σ H Q->wpAny (model X.prog X.w) X.A (eval e X.env) (EP X J3 σ Q) X.xe s
def PT (X:Cx) (e:Expr) (t:TT):Prop :=
 ∀(J3:Zd) (s:Shared) (σ:St) (H:Hp) (Q:Bool->Hp->Prop),Inv X J3 σ H s->t σ H Q->wpAny (model X.prog X.w) X.A (isTrue e X.env (eval e X.env)) (TP X J3 σ Q) X.xe s
def PW (X:Cx) (e:Expr) (t:TT):Prop :=
 ∀(whole:Sem Value) (J3:Zd) (s:Shared) (σ:St) (H:Hp) (Q:Bool->Hp->Prop),Inv X J3 σ H s->t σ H Q->wpAny (model X.prog X.w) X.A (isTrue e X.env whole) (TP X J3 σ Q) X.xe s
theorem PW.pt {X:Cx}{e:Expr}{t:TT}(h:PW X e t):PT X e t:=h _
def PA (X:Cx) (es:List Expr) (t:TA):Prop :=
 ∀(pos:Pos) (J3:Zd) (s:Shared) (σ:St) (H:Hp) (Q:List V->Hp->Prop),Inv X J3 σ H s->t σ H Q->wpAny (model X.prog X.w) X.A (spliced (backTo pos (aI es X.env))) (AP X J3 σ Q) X.xe s
def PS (X:Cx) (st:Stmt) (t:TS):Prop :=
 ∀(J3:Zd) (s:Shared) (σ:St) (H:Hp) (D:lV),Inv X J3 σ H s->t D σ H->wpAny (model X.prog X.w) X.A (exec st X.env) (SP X J3 D) X.xe s
def y3 (X:Cx) (st:List Stmt) (t:TS):Prop :=
 ∀(J3:Zd) (s:Shared) (σ:St) (H:Hp) (D:lV),Inv X J3 σ H s->t D σ H->wpAny (model X.prog X.w) X.A (execs st X.env) (SP X J3 D) X.xe s
theorem cf {α:Type}{t:Sem α}{Q Q':α->Shared->Prop}{M:Model}{A:Around}{E:Zc}{s:Shared}(h:wpAny M A t Q E s) (hQ:∀a s,Q a s->Q' a s):wpAny M A t Q' E s:=i7 h hQ fun _ _ x=>x
end L2
namespace L2
open PySem PySem.Spec PyProof.Rows
section
variable {X:Cx}
def mJ (i:Nat):TE:=fun σ H Q=>∃v,σ[i]?=some (some v)/\Q v H
abbrev V0:TE:=mJ 0
abbrev V1:TE:=mJ 1
abbrev V2:TE:=mJ 2
abbrev V3:TE:=mJ 3
abbrev V4:TE:=mJ 4
abbrev V5:TE:=mJ 5
abbrev V6:TE:=mJ 6
abbrev V7:TE:=mJ 7
abbrev V8:TE:=mJ 8
abbrev V9:TE:=mJ 9
abbrev C7:TE:=mJ 10
abbrev V11:TE:=mJ 11
abbrev V12:TE:=mJ 12
def tC (v:V):TE:=fun _ H Q=>Q v H
theorem GN {i:Nat}{x:Str}{pos:Pos}(hN:X.N[i]?=some x) (hv:HS X.env.scope x) (hd:(x == ("__debug__":Str))=false:=by decide) (hcd:(x == ("__classdict__":Str))=false:=by decide):PE X (.Name x pos) (mJ i):=by
 intro J3 s σ H Q I h;obtain ⟨v,e,h⟩:=h;obtain ⟨m,hn,hl⟩:=I.loc;obtain ⟨u,r,l⟩:=hl i x v hN e hv;have fin:EP X J3 σ Q u s:=⟨v,H,I,r,h⟩;rcases l with ⟨hk,hm⟩ | ⟨hk,c,hc,hcell⟩
 ·exact wpAny_Name (wpAny_loadName_local I.ok.kind hk hn hm fin) hd
 ·rcases hk with hk | hk
  ·exact wpAny_Name (wpAny_loadName_cell I.ok.kind hk hc hcell fin) hd
  ·exact wpAny_Name (wpAny_loadName_free I.ok.kind hk hc hcell fin hcd) hd
theorem ah {i j pos}:PE X (.Constant (.int i) j pos) (tC (.int i)):=fun _ _ _ H _ I h=>wpAny_Constant_int ⟨.int i,H,I.tok _,⟨_,rfl⟩,h⟩
theorem kN {b j pos}:PE X (.Constant (.bool b) j pos) (tC (.bl b)):=fun _ _ _ H _ I h=>Constant_bool ⟨.bl b,H,I,rfl,h⟩
theorem ph {j pos}:PE X (.Constant .none j pos) (tC .non):=fun _ _ _ H _ I h=>Constant_none ⟨.non,H,I,rfl,h⟩
theorem bo {x j pos}:PE X (.Constant (.str x) j pos) (tC (.str x)):=fun _ _ _ H _ I h=>Calls.Constant_str ⟨.str x,H,I.tok _,⟨_,rfl⟩,h⟩
def Gl (X:Cx) (x:Str):Prop:=X.env.kindOf x=some .globalImplicit
theorem ww {E:Zc}{J3:Zd}{s:Shared}{σ:St}{H:Hp}{x:Str}{u:Value}{pos:Pos}{Q:Zc}(I:Inv X J3 σ H s) (hg:Gl X x) (hm:X.mg x=some u) (h:Q u s)
  (hd:(x == ("__debug__":Str))=false:=by decide):wpAny (model X.prog X.w) X.A (eval (.Name x pos) X.env) Q E s :=
 Calls.Name_function_global I.ok.kind hg (Calls.loadGlobal_global (by rw [I.ok.glob]; exact I.mod.glob.keeps I.bk) hm h) hd
theorem pD {E:Zc}{J3:Zd}{s:Shared}{σ:St}{H:Hp}{x:Str}{u:Value}{pos:Pos}{Q:Zc}(I:Inv X J3 σ H s) (hg:Gl X x) (hm:X.mg x=none) (hv:kg x=some u) (h:Q u s)
  (hn:x≠"__name__":=by decide) (hd:(x == ("__debug__":Str))=false:=by decide):wpAny (model X.prog X.w) X.A (eval (.Name x pos) X.env) Q E s:=by
 obtain ⟨mb,h1,h2⟩:=I.mod.blt;exact Calls.Name_function_global I.ok.kind hg (Calls.loadGlobal_builtin (by rw [I.ok.glob]; exact I.mod.glob.keeps I.bk) hm (by rw [I.ok.blt]; exact h1.keeps I.bk) ((h2 x hn).trans hv) h) hd
theorem FD {x:Str}{v:V}{u:Value}{pos:Pos}(hg:Gl X x) (hm:X.mg x=some u) (r:RelV v u) (hd:(x == ("__debug__":Str))=false:=by decide):PE X (.Name x pos) (tC v) :=
 fun _ _ _ H _ I h=>ww I hg hm ⟨v,H,I,r,h⟩ hd
theorem FH {x:Str}{v:V}{u:Value}{pos:Pos}(hg:Gl X x) (hm:X.mg x=none) (hv:kg x=some u) (r:RelV v u) (hn:x≠"__name__":=by decide) (hd:(x == ("__debug__":Str))=false:=by decide):PE X (.Name x pos) (tC v) :=
 fun _ _ _ H _ I h=>pD I hg hm hv ⟨v,H,I,r,h⟩ hn hd
variable {a b:Expr}{ta tb:TE}{pos:Pos}
def PC (X:Cx) (op:CmpOp) (a b:Expr) (t:TE):Prop :=
 ∀(J3:Zd) (s:Shared) (σ:St) (H:Hp) (Q:VK),Inv X J3 σ H s->t σ H Q ->
  wpAny (model X.prog X.w) X.A (eval a X.env) (fun v s₁=>wpAny (model X.prog X.w) X.A (eval b X.env) (fun u s₂=>wpAny (model X.prog X.w) X.A (dY op v u) (EP X J3 σ Q) X.xe s₂) X.xe s₁) X.xe s
theorem yb (b:Expr) {op:CmpOp}(h:op≠.In) (h2:op≠.NotIn):j6 op b=false:=by
 have e1:(op == CmpOp.In)=false:=by cases op <;> first | rfl | exact absurd rfl h
 have e2:(op == CmpOp.NotIn)=false:=by cases op <;> first | rfl | exact absurd rfl h2
 cases b <;> simp [j6,e1,e2]
def Dl (ta:TE):TE:=fun σ H Q=>ta σ H fun x H1=>Q (.bl (decide (x=.non))) H1
def Dk (ta:TE):TE:=fun σ H Q=>ta σ H fun x H1=>Q (.bl (!decide (x=.non))) H1
theorem RelV.none_iff {x:V}{v:Value}(r:RelV x v):(v == Value.none)=decide (x=.non):=by
 cases x with
 | non=>cases r; rfl
 | bl _=>cases r; rfl
 | int _=>obtain ⟨t,rfl⟩:=r; rfl
 | str _=>obtain ⟨t,rfl⟩:=r; rfl
 | byt _=>obtain ⟨t,rfl⟩:=r; rfl
 | flt _=>obtain ⟨t,rfl⟩:=r; rfl
 | ref _=>cases r; rfl
 | ty _=>cases r; rfl
theorem wn {j pos'}(ha:PE X a ta):PC X .Is a (.Constant .none j pos') (Dl ta):=by
 intro J3 s σ H Q I h;refine cf (ha J3 s σ H _ I h) fun v s1 ⟨x,H1,I1,r1,q1⟩=>?_;exact Constant_none (is_none_gen ⟨.bl _,H1,I1,by rw [r1.none_iff]; rfl,q1⟩)
theorem Bi {j pos'}(ha:PE X a ta):PC X .IsNot a (.Constant .none j pos') (Dk ta):=by
 intro J3 s σ H Q I h;refine cf (ha J3 s σ H _ I h) fun v s1 ⟨x,H1,I1,r1,q1⟩=>?_;exact Constant_none (isnot_none_gen ⟨.bl _,H1,I1,by rw [r1.none_iff]; rfl,q1⟩)
def tB (t:TE):TT:=fun σ H Q=>t σ H fun x H1=>∃c,x=.bl c/\Q c H1
theorem GQ {op:CmpOp}{t:TE}(h:PC X op a b t) (h1:j6 op b=false:=by first | exact yb _ (by decide) (by decide) | rfl):PE X (.Compare a [op] [b] pos) t:=fun J3 s σ H Q I hw=>wpAny_Compare1 (h J3 s σ H Q I hw) h1
theorem dk {op:CmpOp}{t:TE}(h:PC X op a b t) (h1:j6 op b=false:=by first | exact yb _ (by decide) (by decide) | rfl):PT X (.Compare a [op] [b] pos) (tB t):=by
 intro J3 s σ H Q I hw;refine wpAny_isTrue_Compare1 (cf (h J3 s σ H _ I hw) fun v s1 h1=>cf h1 fun u s2 h2=>cf h2 fun c s3 ⟨x,H1,I1,r1,q1⟩=>?_) h1;obtain ⟨d,rfl,q⟩:=q1;cases r1;exact p6 ⟨H1,I1,q⟩
theorem pf {e:Expr}{t:TE}(h:PE X e t) (he:∀whole,isTrue e X.env whole=(do let v <- whole; pZ e.pos; ke [v] (truthy v)):=by intro _; rfl):PT X e (tB t):=by
 intro J3 s σ H Q I hw;refine isTrue_plain (cf (h J3 s σ H _ I hw) fun v s1 ⟨x,H1,I1,r1,q1⟩=>?_) (he _);obtain ⟨d,rfl,q⟩:=q1;cases r1;exact p6 ⟨H1,I1,q⟩
variable {tA tB':TT}{rest:List Expr}
def r_ (t u:TT):TT:=fun σ H Q=>t σ H fun c H1=>if c=true then u σ H1 Q else Q false H1
def A2 (t u:TT):TT:=fun σ H Q=>t σ H fun c H1=>if c=true then Q true H1 else u σ H1 Q
def Fc (t:TT):TT:=fun σ H Q=>t σ H fun c H1=>Q (!c) H1
theorem lq (ha:PT X a tA):PW X (.BoolOp .And [a] pos) tA:=by
 intro wh J3 s σ H Q I h;refine isTrue_and (cf (ha J3 s σ H Q I h) fun c s1 e=>?_);cases c with
 | true=>exact isTrue_and_nil e
 | false=>exact e
theorem jI (ha:PT X a tA):PW X (.BoolOp .Or [a] pos) tA:=by
 intro wh J3 s σ H Q I h;refine isTrue_or (cf (ha J3 s σ H Q I h) fun c s1 e=>?_);cases c with
 | false=>exact isTrue_or_nil e
 | true=>exact e
theorem kJ (ha:PT X a tA) (hb:PW X (.BoolOp .And (b::rest) pos) tB'):PW X (.BoolOp .And (a::b::rest) pos) (r_ tA tB'):=by
 intro wh J3 s σ H Q I h;refine isTrue_and (cf (ha J3 s σ H _ I h) fun c s1 ⟨H1,I1,q1⟩=>?_);cases c with
 | true=>exact hb wh J3 s1 σ H1 Q I1 q1
 | false=>exact ⟨H1,I1,q1⟩
theorem jf (ha:PT X a tA) (hb:PW X (.BoolOp .Or (b::rest) pos) tB'):PW X (.BoolOp .Or (a::b::rest) pos) (A2 tA tB'):=by
 intro wh J3 s σ H Q I h;refine isTrue_or (cf (ha J3 s σ H _ I h) fun c s1 ⟨H1,I1,q1⟩=>?_);cases c with
 | true=>exact ⟨H1,I1,q1⟩
 | false=>exact hb wh J3 s1 σ H1 Q I1 q1
theorem zR (ha:PT X a tA):PT X (.UnaryOp .Not a pos) (Fc tA):=by
 intro J3 s σ H Q I h;exact isTrue_not (ha J3 s σ H (fun c H1=>Q (!c) H1) I h)
def A6 (ta tb:TE):TE:=fun σ H Q=>ta σ H fun x H1=>∃c,x=.bl c/\if c=true then tb σ H1 Q else Q (.bl false) H1
def Gi (ta:TE):TE:=fun σ H Q=>ta σ H fun x H1=>∃c,x=.bl c/\Q (.bl (!c)) H1
theorem DP {op}{t:TE}(h:PE X a t):PE X (.BoolOp op [a] pos) t:=fun J3 s σ H Q I hw=>BoolOp_one (h J3 s σ H Q I hw)
theorem zV (ha:PE X a ta) (hb:PE X (.BoolOp .And (b::rest) pos) tb):PE X (.BoolOp .And (a::b::rest) pos) (A6 ta tb):=by
 intro J3 s σ H Q I h;refine BoolOp_and (cf (ha J3 s σ H _ I h) fun v s1 ⟨x,H1,I1,r1,q1⟩=>?_);obtain ⟨c,rfl,q1⟩:=q1;cases r1;refine p6 ?_;cases c with
 | true=>exact hb J3 s1 σ H1 Q I1 q1
 | false=>exact ⟨.bl false,H1,I1,rfl,q1⟩
theorem GO (ha:PE X a ta):PE X (.UnaryOp .Not a pos) (Gi ta):=by
 intro J3 s σ H Q I h;refine UnaryOp_ (cf (ha J3 s σ H _ I h) fun v s1 ⟨x,H1,I1,r1,q1⟩=>?_);obtain ⟨c,rfl,q1⟩:=q1;cases r1;exact not_of (p6 ⟨.bl (!c),H1,I1,rfl,q1⟩)
end
end L2
namespace L2
open PySem PySem.Spec PyProof.Rows
def aB (K:Za) (H:Hp) (a:Addr) (xs:List V):Prop :=
 Rd H a (.lst xs) ∨
  ∃(o:Obj) (its:Array Value) (n:Nat),K.lookup a=some o/\o.cls=.type "list"/\o.dict=none/\o.data=.seq its n/\its.size<=aj/\aV xs its.toList
def bL (K:Za) (H:Hp) (a:Addr) (xs:List V):Prop :=
 Rd H a (.tup xs) ∨
  ∃(o:Obj) (its:Array Value) (n:Nat),K.lookup a=some o/\o.cls=.type "tuple"/\o.data=.seq its n/\its.size<=aj/\aV xs its.toList
def absV:Value->Option V
 | .none=>some .non
 | .bool b=>some (.bl b)
 | .int i _=>some (.int i)
 | .str x _=>some (.str x)
 | .bytes b _=>some (.byt b)
 | .float b _=>some (.flt b)
 | .ref a=>some (.ref a)
 | .type n=>some (.ty n)
 | _=>none
theorem RelV.abs {x:V}{u:Value}(r:RelV x u):absV u=some x:=by
 cases x with
 | non=>cases r; rfl
 | bl _=>cases r; rfl
 | int _=>obtain ⟨t,rfl⟩:=r; rfl
 | str _=>obtain ⟨t,rfl⟩:=r; rfl
 | byt _=>obtain ⟨t,rfl⟩:=r; rfl
 | flt _=>obtain ⟨t,rfl⟩:=r; rfl
 | ref _=>cases r; rfl
 | ty _=>cases r; rfl
theorem RelV.inj {x y:V}{u:Value}(r:RelV x u) (q:RelV y u):x=y:=eI (r.abs.symm.trans q.abs)
theorem aV.inj:∀{xs ys:List V}{us:Zf},aV xs us->aV ys us->xs=ys
 | _,_,_,.nil,.nil=>rfl
 | _,_,_,.cons r t,.cons r' t'=>by rw [r.inj r',aV.inj t t']
section
variable {X:Cx}{J3:Zd}{σ:St}{H:Hp}{s:Shared}{a:Addr}{xs ys:List V}
theorem aB.of {K:Za}(h:H a=some (.lst xs)):aB K H a xs:=.inl (.inl h)
theorem bL.of {K:Za}(h:H a=some (.tup xs)):bL K H a xs:=.inl (.inl h)
theorem Inv.list (I:Inv X J3 σ H s) (h:aB X.K H a xs):∃its:List Value,aV xs its/\PlainL s.heap a its.toArray/\xs.length<=aj:=by
 rcases h with h | ⟨o,its,n,hk,hc,hd,hs,hz,r⟩
 ·obtain ⟨z,its,n,r,e⟩:=h.ok I.hok;exact ⟨its,r,⟨_,n,e,rfl,rfl,rfl⟩,z⟩
 ·refine ⟨its.toList,r,⟨o,n,I.kIn a o hk,hc,hd,by simpa using hs⟩,?_⟩;have e:=r.length;simp only [lY] at e;omega
theorem Inv.tuple (I:Inv X J3 σ H s) (h:bL X.K H a xs):∃its:List Value,aV xs its/\IsTup s.heap a its.toArray/\xs.length<=aj:=by
 rcases h with h | ⟨o,its,n,hk,hc,hs,hz,r⟩
 ·obtain ⟨z,its,r,p⟩:=h.ok I.hok;exact ⟨its,r,p,z⟩
 ·refine ⟨its.toList,r,⟨o,I.kIn a o hk,hc,n,by simpa using hs⟩,?_⟩;have e:=r.length;simp only [lY] at e;omega
theorem Inv.list_inj (I:Inv X J3 σ H s) (h:aB X.K H a xs) (h':aB X.K H a ys):xs=ys:=by
 obtain ⟨its,r,⟨o,n,e,_,_,d⟩,_⟩:=I.list h;obtain ⟨its',r',⟨o',n',e',_,_,d'⟩,_⟩:=I.list h';rw [e] at e'; cases e';rw [d] at d';injection d' with d1 _;have:its=its':=by simpa using congrArg Array.toList d1
 subst this;exact r.inj r'
theorem Inv.tuple_inj (I:Inv X J3 σ H s) (h:bL X.K H a xs) (h':bL X.K H a ys):xs=ys:=by
 obtain ⟨its,r,⟨o,e,_,n,d⟩,_⟩:=I.tuple h;obtain ⟨its',r',⟨o',e',_,n',d'⟩,_⟩:=I.tuple h';rw [e] at e'; cases e';rw [d] at d';injection d' with d1 _;have:its=its':=by simpa using congrArg Array.toList d1
 subst this;exact r.inj r'
end
abbrev Cx.wish (X:Cx) (E:Zc):Cx:={ X with xe:=E }
abbrev Cx.nox (X:Cx):Cx:=X.wish fun _ _=>False
theorem Cx.Ok.wish {X:Cx}(ok:X.Ok) (E:Zc):(X.wish E).Ok :=
 ⟨ok.mod,ok.kind,ok.glob,ok.blt,ok.above,ok.inj,ok.has,ok.cab,ok.hd,ok.frames,ok.stk,ok.exf,ok.bs,ok.bsz,ok.noex,ok.exfs,ok.funs,ok.frf⟩
theorem Cx.Ok.unwish {X:Cx}{E:Zc}(ok:(X.wish E).Ok):X.Ok :=
 ⟨ok.mod,ok.kind,ok.glob,ok.blt,ok.above,ok.inj,ok.has,ok.cab,ok.hd,ok.frames,ok.stk,ok.exf,ok.bs,ok.bsz,ok.noex,ok.exfs,ok.funs,ok.frf⟩
section
variable {X:Cx}{J3:Zd}{σ:St}{H:Hp}{s:Shared}{E:Zc}
theorem Inv.wish (I:Inv X J3 σ H s) (E:Zc):Inv (X.wish E) J3 σ H s:=⟨I.ok.wish E,I.os,I.bare,I.base,I.loc,I.cell,I.free,I.freeC,I.pin,I.hok,I.len⟩
theorem Inv.unwish (I:Inv (X.wish E) J3 σ H s):Inv X J3 σ H s:=⟨I.ok.unwish,I.os,I.bare,I.base,I.loc,I.cell,I.free,I.freeC,I.pin,I.hok,I.len⟩
theorem SP.unwish {D:lV}{f:Flow}{s':Shared}(h:SP (X.wish E) J3 D f s'):SP X J3 D f s':=by
 cases f with
 | next=>obtain ⟨σ',H',I,q⟩:=h; exact ⟨σ',H',I.unwish,q⟩
 | brk=>obtain ⟨σ',H',I,q⟩:=h; exact ⟨σ',H',I.unwish,q⟩
 | cont=>obtain ⟨σ',H',I,q⟩:=h; exact ⟨σ',H',I.unwish,q⟩
 | ret u=>obtain ⟨v,σ',H',I,r,q⟩:=h; exact ⟨v,σ',H',I.unwish,r,q⟩
theorem y3.nox {st:List Stmt}{t:TS}(h:y3 X.nox st t):y3 X st t:=fun J3 s σ H D I hw =>
 i7 (h J3 s σ H D (I.wish _) hw) (fun _ _ q=>q.unwish) fun _ _ z=>i6 z
end
section
variable {X:Cx}{st:Stmt}{rest:List Stmt}{t u:TS}{e:Expr}{te:TE}{pos:Pos}
def bR:TS:=fun D σ H=>D.nx σ H
def ao (t u:TS):TS:=fun D σ H=>t { D with nx:=u D } σ H
theorem aU:y3 X [] bR:=fun _ _ σ H _ I h=>AT ⟨σ,H,I,h⟩
theorem ab (h1:PS X st t) (h2:y3 X rest u):y3 X (st::rest) (ao t u):=by
 intro J3 s σ H D I h;refine wpAny_execs_cons (cf (h1 J3 s σ H { D with nx:=u D } I h) fun f s1 q=>?_);cases f with
 | next =>
  obtain ⟨σ',H',I',q⟩:=q;exact h2 J3 s1 σ' H' D I' q
 | ret v=>exact q
 | brk=>exact q
 | cont=>exact q
theorem ag (h1:PS X st t):y3 X [st] t:=by
 intro J3 s σ H D I h;refine wpAny_execs_cons (cf (h1 J3 s σ H D I h) fun f s1 q=>?_);cases f with
 | next=>exact AT q
 | ret v=>exact q
 | brk=>exact q
 | cont=>exact q
theorem Inv.quiet {J3:Zd}{σ:St}{H:Hp}{s:Shared}(I:Inv X J3 σ H s):interactive X.env=false:=by simp [interactive,I.ok.kind]
def bH (te:TE):TS:=fun D σ H=>te σ H fun _ H1=>D.nx σ H1
theorem aR (he:PE X e te) (hs:pY e none pos.line X.env=pure false:=by rfl):PS X (.Expr e pos) (bH te):=by
 intro J3 s σ H D I h;exact wpAny_Expr_any (cf (he J3 s σ H _ I h) fun v s1 ⟨x,H1,I1,r1,q1⟩=>⟨σ,H1,I1,q1⟩) I.quiet hs
def bu (te:TE):TS:=fun D σ H=>te σ H D.rt
theorem aE (he:PE X e te):PS X (.Return (some e) pos) (bu te):=by
 intro J3 s σ H D I h;exact wpAny_Return_some (cf (he J3 s σ H _ I h) fun v s1 ⟨x,H1,I1,r1,q1⟩=>⟨x,σ,H1,I1,r1,q1⟩)
def cH (c:TT) (t u:TS):TS:=fun D σ H=>c σ H fun b H1=>if b=true then t D σ H1 else u D σ H1
theorem bI {c:Expr}{a b:List Stmt}{tc:TT}(hc:PT X c tc) (ha:y3 X a t) (hb:y3 X b u):PS X (.If c a b pos) (cH tc t u):=by
 intro J3 s σ H D I h;refine wpAny_If (cf (hc J3 s σ H _ I h) fun d s1 ⟨H1,I1,q1⟩=>?_);cases d with
 | true=>exact ha J3 s1 σ H1 D I1 q1
 | false=>exact hb J3 s1 σ H1 D I1 q1
def rT:TS:=fun _ _ _=>False
theorem nW:PS X st rT:=fun _ _ _ _ _ _ h=>h.elim
end
abbrev TG:=V->St->Hp->(St->Hp->Prop)->Prop
abbrev C8:=List V->St->Hp->(St->Hp->Prop)->Prop
def PG (X:Cx) (target:Expr) (t:TG):Prop :=
 ∀(J3:Zd) (s:Shared) (σ:St) (H:Hp) (v:V) (u:Value) (Q:St->Hp->Prop),Inv X J3 σ H s->RelV v u->t v σ H Q ->
  wpAny (model X.prog X.w) X.A (assign target X.env u) (fun _ s'=>∃σ' H',Inv X J3 σ' H' s'/\Q σ' H') X.xe s
def HW (X:Cx) (ts:List Expr) (t:C8):Prop :=
 ∀(J3:Zd) (s:Shared) (σ:St) (H:Hp) (vs:List V) (us:Zf) (Q:St->Hp->Prop),Inv X J3 σ H s->aV vs us->t vs σ H Q ->
  wpAny (model X.prog X.w) X.A (assignInOrder ((uj ts X.env).map (·.2)) us) (fun _ s'=>∃σ' H',Inv X J3 σ' H' s'/\Q σ' H') X.xe s
abbrev G6:=V->V->V->Hp->(Hp->Prop)->Prop
def Hy (X:Cx) (t:G6):Prop :=
 ∀(J3:Zd) (s:Shared) (σ:St) (H:Hp) (o i v:V) (ov iv u:Value) (Q:Hp->Prop),Inv X J3 σ H s->RelV o ov->RelV i iv->RelV v u->t o i v H Q ->
  wpAny (model X.prog X.w) X.A (setItem ov iv u) (fun _ s'=>∃H',Inv X J3 σ H' s'/\Q H') X.xe s
abbrev HU:=V->V->Hp->VK->Prop
def PIp (X:Cx) (op:Operator) (t:HU):Prop :=
 ∀(J3:Zd) (s:Shared) (σ:St) (H:Hp) (x y:V) (v u:Value) (Q:VK),Inv X J3 σ H s->RelV x v->RelV y u->t x y H Q ->
  wpAny (model X.prog X.w) X.A (inplaceOp op v u) (EP X J3 σ Q) X.xe s
section
variable {X:Cx}{pos:Pos}
def dU (i:Nat):TG:=fun v σ H Q=>Q (σ.set i (some v)) H
abbrev U0:TG:=dU 0
abbrev U1:TG:=dU 1
abbrev U2:TG:=dU 2
abbrev U3:TG:=dU 3
abbrev U4:TG:=dU 4
abbrev U5:TG:=dU 5
abbrev U6:TG:=dU 6
abbrev U7:TG:=dU 7
abbrev U8:TG:=dU 8
abbrev U9:TG:=dU 9
abbrev Hx:TG:=dU 10
abbrev U11:TG:=dU 11
abbrev U12:TG:=dU 12
theorem Bf {i:Nat}{x:Str}(hN:X.N.Nodup) (hi:X.N[i]?=some x) (hx:Loc X.env.scope x) (hf:X.fn x=true∨X.env.scope.names.lookup x=some .local:=by first | exact .inl rfl | exact .inr rfl | assumption):PG X (.Name x pos) (dU i):=by
 intro J3 s σ H v u Q I r h;exact wpAny_assign_Name (se I hN hi hx r (fun s' I'=>⟨_,H,I',h⟩) hf)
def g8:C8:=fun vs σ H Q=>vs=[]/\Q σ H
def aY (t:TG) (u:C8):C8:=fun vs σ H Q=>∃v r,vs=v::r/\t v σ H fun σ' H'=>u r σ' H' Q
theorem cp:HW X [] g8:=by
 intro J3 s σ H vs us Q I r h;obtain ⟨e,h⟩:=h;subst e;cases r;exact assignInOrder_nil ⟨σ,H,I,h⟩
theorem aw {e:Expr}{es:List Expr}{t:TG}{u:C8}(h1:PG X e t) (h2:HW X es u)
  (hs:(uj (e::es) X.env).map (·.2)=assign e X.env::(uj es X.env).map (·.2):=by rfl):HW X (e::es) (aY t u):=by
 intro J3 s σ H vs us Q I r h;obtain ⟨v,vr,e1,h⟩:=h;subst e1;cases r with
 | cons r rr =>
  rw [hs];refine assignInOrder_cons (cf (h1 J3 s σ H _ _ _ I r h) fun _ s1 ⟨σ1,H1,I1,q1⟩=>?_);exact h2 J3 s1 σ1 H1 _ _ Q I1 rr q1
def ir (K:Za) (n:Nat) (t:C8):TG:=fun v σ H Q=>∃a xs,v=.ref a/\bL K H a xs/\xs.length=n/\t xs σ H Q
theorem dq {es:List Expr}{k:Nat}{t:C8}{n:Nat}(hc:X.calm=true) (h:HW X es t)
  (hn:(uj es X.env).length=n:=by rfl) (hst:(uj es X.env).findIdx? (·.1)=none:=by rfl):PG X (.Tuple es k pos) (ir X.K n t):=by
 intro J3 s σ H v u Q I r hw;obtain ⟨a,xs,e1,hq,hl,hw⟩:=hw;subst e1;cases r;obtain ⟨its,rv,ht,hz⟩:=I.tuple hq;refine assign_Tuple_tuple (I.ok.hd hc) ht (by simp [hn,<-hl,rv.length]) hst fun h' hx=>?_;have I1:Inv X J3 σ H { s with heap:=h' }:=I.kept (t':=s.toks) fun b o e=>hx b o (cQ (aT e)) e;exact h J3 _ σ H xs _ Q I1 (by simpa using rv) hw
def Ai (to ti:TE) (t:G6):TG:=fun v σ H Q=>to σ H fun o H1=>ti σ H1 fun i H2=>t o i v H2 fun H3=>Q σ H3
theorem sy {o i:Expr}{to ti:TE}{t:G6}(ho:PE X o to) (hi:PE X i ti) (hs:Hy X t)
  (ha:∀v,assign (.Subscript o i pos) X.env v=(do
   let ov <- ke [v] (eval o X.env)
   let iv <- ke [v,ov] (eval i X.env)
   pZ pos
   ke [v,ov,iv] (setItem ov iv v)
   release [v,ov,iv] []):=by intro _; rfl):PG X (.Subscript o i pos) (Ai to ti t):=by
 intro J3 s σ H v u Q I r h;rw [ha];refine ak (kr (cf (ho J3 s σ H _ I h) fun ov s1 ⟨x,H1,I1,r1,q1⟩=>?_));refine ak (kr (cf (hi J3 s1 σ H1 _ I1 q1) fun iv s2 ⟨y,H2,I2,r2,q2⟩=>?_));refine ak (AS (ak (kr (cf (hs J3 s2 σ H2 x y v ov iv u _ I2 r1 r2 r q2) fun _ s3 ⟨H3,I3,q3⟩=>?_))));exact wpAny_release ⟨σ,H3,I3,q3⟩
def aN (te:TE) (g:TG):TS:=fun D σ H=>te σ H fun x H1=>g x σ H1 D.nx
theorem io {tg e:Expr}{te:TE}{g:TG}(he:PE X e te) (hg:PG X tg g) (hs:swapsWithSole [tg] e pos.line X.env=pure false:=by rfl) (hw:swappedStores [tg] e X.env=pure none:=by rfl)
  (h1:(uj [tg] X.env).map (·.2)=[assign tg X.env]:=by rfl):PS X (.Assign [tg] e pos) (aN te g):=by
 intro J3 s σ H D I h;refine wpAny_Assign_stores (cf (he J3 s σ H _ I h) fun v s1 ⟨x,H1,I1,r1,q1⟩=>?_) hs hw;rw [h1];exact cf (hg J3 s1 σ H1 x v _ I1 r1 q1) fun _ s2 q=>q
theorem GI {i:Nat}{x:Str}{e:Expr}{te:TE}{pos':Pos}(hN:X.N.Nodup) (hi:X.N[i]?=some x) (hx:Loc X.env.scope x) (he:PE X e te) (hs:pY e (some (.Name x pos')) pos.line X.env=pure false:=by rfl) (hf:X.fn x=true∨X.env.scope.names.lookup x=some .local:=by first | exact .inl rfl | exact .inr rfl | assumption) :
  PS X (.Assign [.Name x pos'] e pos) (aN te (dU i)):=by
 intro J3 s σ H D I h;refine wpAny_Assign_Name (cf (he J3 s σ H _ I h) fun v s1 ⟨y,H1,I1,r1,q1⟩=>?_) hs;exact se I1 hN hi hx r1 (fun s2 I2=>⟨_,H1,I2,q1⟩) hf
def Hh (i:Nat) (te:TE) (ti:HU):TS:=fun D σ H=>∃x,σ[i]?=some (some x)/\te σ H fun y H1=>ti x y H1 fun z H2=>D.nx (σ.set i (some z)) H2
theorem GJ {i:Nat}{x:Str}{e:Expr}{te:TE}{op:Operator}{ti:HU}{pos':Pos}(hN:X.N.Nodup) (hi:X.N[i]?=some x) (hx:Loc X.env.scope x) (he:PE X e te) (ho:PIp X op ti) (hf:X.fn x=true∨X.env.scope.names.lookup x=some .local:=by first | exact .inl rfl | exact .inr rfl | assumption) :
  PS X (.AugAssign (.Name x pos') op e pos) (Hh i te ti):=by
 intro J3 s σ H D I h;obtain ⟨v,e1,h⟩:=h;obtain ⟨m,hn,hl⟩:=I.loc;have vis:HS X.env.scope x:=by rcases hx with k | k; exact .inl k; exact .inr (.inl k)
 obtain ⟨u,r,l⟩:=hl i x v hi e1 vis;refine wpAny_AugAssign_Name ?_;have go:wpAny (model X.prog X.w) X.A (eval e X.env) (fun w s₂=>wpAny (model X.prog X.w) X.A (inplaceOp op u w) (fun r s₃=>wpAny (model X.prog X.w) X.A (storeName X.env x r) (fun _=>SP X J3 D .next) X.xe s₃) X.xe s₂) X.xe s:=by
  refine cf (he J3 s σ H _ I h) fun w s1 ⟨y,H1,I1,r1,q1⟩=>?_;refine cf (ho J3 s1 σ H1 v y u w _ I1 r r1 q1) fun z s2 ⟨zv,H2,I2,r2,q2⟩=>?_;exact se I2 hN hi hx r2 (fun s3 I3=>⟨_,H2,I3,q2⟩) hf
 rcases l with ⟨hk,hm⟩ | ⟨hk,c,hc,hcell⟩
 ·exact wpAny_loadName_local I.ok.kind hk hn hm go
 ·rcases hk with hk | hk
  ·exact wpAny_loadName_cell I.ok.kind hk hc hcell go
  ·rcases hx with k | k
   ·have:X.env.scope.names.lookup x=some .free:=hk;rw [k] at this; cases this
   ·have:X.env.scope.names.lookup x=some .free:=hk;rw [k] at this; cases this
def ipI (f:Int->Int->Int):HU:=fun x y H Q=>∃i j,x=.int i/\y=.int j/\Q (.int (f i j)) H
theorem GY:PIp X .Add (ipI fun i j=>i+j):=by
 intro J3 s σ H x y v u Q I r1 r2 h;obtain ⟨i,j,e1,e2,q⟩:=h;subst e1; subst e2;obtain ⟨t,rfl⟩:=r1;obtain ⟨t',rfl⟩:=r2;exact iadd_int ⟨.int _,H,I.tok _,⟨_,rfl⟩,q⟩
end
section
variable {X:Cx}{pos:Pos}
def mI (c:TT) (tb:TS):TS:=fun D σ H=>∃W:Nat->St->Hp->Prop,(∃m,W m σ H)/\∀m σ H,W m σ H ->
 c σ H fun b H1=>if b=true then ∃N:St->Hp->Prop,(∀σ' H',N σ' H'->∃m',m'<m/\W m' σ' H')/\tb { D with nx:=N,ct:=N,bk:=D.nx } σ H1 else D.nx σ H1
theorem jg {c:Expr}{body:List Stmt}{tc:TT}{tb:TS}(hp:PassesOwn (model X.prog X.w) X.A X.env X.xe) (hc:PT X c tc) (hb:y3 X body tb):PS X (.While c body [] pos) (mI tc tb):=by
 intro J3 s σ H D I h;obtain ⟨W,⟨m0,w0⟩,turn⟩:=h;refine wpAny_While (codeAny_whileLoop (fun n s'=>∃σ' H',Inv X J3 σ' H' s'/\W n σ' H') ?_ m0 ⟨σ,H,I,w0⟩);rintro n s1 ⟨σ1,H1,I1,w1⟩;refine qW hp (cf (hc J3 s1 σ1 H1 _ I1 (turn n σ1 H1 w1)) fun b s2 ⟨H2,I2,q2⟩=>?_);cases b with
 | true =>
  obtain ⟨N,hN,q2⟩:=q2;rw [if_pos rfl];refine qW hp (cf (hb J3 s2 σ1 H2 _ I2 q2) fun f s3 q3=>?_);cases f with
  | next =>
   obtain ⟨σ3,H3,I3,n3⟩:=q3;obtain ⟨m',hm,w3⟩:=hN σ3 H3 n3;exact ⟨m',hm,σ3,H3,I3,w3⟩
  | cont =>
   obtain ⟨σ3,H3,I3,n3⟩:=q3;obtain ⟨m',hm,w3⟩:=hN σ3 H3 n3;exact ⟨m',hm,σ3,H3,I3,w3⟩
  | brk=>exact q3
  | ret v=>exact q3
 | false =>
  rw [if_neg fW];exact AT ⟨σ1,H2,I2,q2⟩
end
structure It where
 go:Nat->Hp->Prop
 yld:Nat->Hp->V->Hp->Prop
 stop:Nat->Hp->Prop
def m9 (X:Cx) (J3:Zd) (H:Hp) (b:Addr):Prop :=
 H b=none/\b≠X.env.locals/\b∉X.fs/\(b∈X.ex∨X.s₀.heap.objs.size<=b)/\(∀x c,X.env.cells.lookup x=some c->c≠b)/\∀p∈X.pn++J3,p.1≠b
theorem Inv.fpOk {X:Cx}{J3:Zd}{σ:St}{H H':Hp}{s:Shared}{b:Addr}(I:Inv X J3 σ H s) (hb:s.heap.objs.size<=b) (hn:H' b=none):m9 X J3 H' b:=by
 refine ⟨hn,fS (ib I.lt hb),I.nofs hb,.inr (bP I.sz hb),fun x c e z=>?_,fun p hp z=>?_⟩
 ·obtain ⟨v,q⟩:=I.cell x c e;exact absurd (ib q.lt (by rw [z]; exact hb)) (p4 _)
 ·exact absurd (ib (aT (I.pin p hp).1) (by rw [z]; exact hb)) (p4 _)
structure qC (P:bF) (w:World) (K:Za) (tg:Expr) (J:It) (fp:Ze) (it:Addr) (tn:Nat->Heap->Prop):Prop where
 mem:it∈fp
 obj:∀i h,tn i h->∀b∈fp,∃o,h.get? b=some o/\∀v,o.data≠.cell v
 keep:∀i h h',tn i h->(∀b∈fp,∀o,h.get? b=some o->h'.get? b=some o)->tn i h'
 item:∀(X:Cx),X.prog=P->X.w=w->X.K=K->X.calm=true->∀(i:Nat) (J3:Zd) (s:Shared) (σ:St) (H:Hp) (E:Zc),Inv X J3 σ H s->(∀b∈fp,m9 X J3 H b)->tn i s.heap->J.go i H ->
  wpAny (model P w) X.A (pyNext (.ref it)) (fun r s1=>∃u,r=some u /\
   wpAny (model P w) X.A (AR tg (.ref it) u) (fun _ s2=>∃x H',Inv X J3 σ H' s2/\RelV x u/\J.yld i H x H'/\tn (i+1) s2.heap/\∀b∈fp,H' b=none) E s1) E s
 done:∀(X:Cx),X.prog=P->X.w=w->X.K=K->X.calm=true->∀(i:Nat) (J3:Zd) (s:Shared) (σ:St) (H:Hp) (E:Zc),Inv X J3 σ H s->(∀b∈fp,m9 X J3 H b)->tn i s.heap->J.stop i H ->
  wpAny (model P w) X.A (pyNext (.ref it)) (fun r s1=>r=none/\Inv X J3 σ H s1) E s
 self:∀(A:Around) (i:Nat) (s:Shared) (Q:Zc) (E:Zc),tn i s.heap->Q (.ref it) s->wpAny (model P w) A (pyIter (.ref it)) Q E s
abbrev TI:=St->Hp->(It->Hp->Prop)->Prop
def HV (X:Cx) (J3:Zd) (σ:St) (tg:Expr) (R:It->Hp->Prop) (itv:Value) (s2:Shared):Prop :=
 ∃(it:Addr) (fp:Ze) (tn:Nat->Heap->Prop) (J:It) (H':Hp),itv=.ref it/\Inv X J3 σ H' s2/\qC X.prog X.w X.K tg J fp it tn/\tn 0 s2.heap/\(∀b∈fp,m9 X J3 H' b)/\R J H'
def PI (X:Cx) (tg iter:Expr) (wi:TI):Prop :=
 ∀(J3:Zd) (s:Shared) (σ:St) (H:Hp) (R:It->Hp->Prop),Inv X J3 σ H s->wi σ H R ->
  wpAny (model X.prog X.w) X.A (eval iter X.env) (fun v s1=>wpAny (model X.prog X.w) X.A (pyIter v) (HV X J3 σ tg R) X.xe s1) X.xe s
theorem uQ {M:Model}{A:Around}{E:Zc}{s:Shared}{tg:Expr}{it:Addr}{u:Value}{o:Obj}{n:String}{vs:Array Value}{Q:Unit->Shared->Prop}(ho:s.heap.get? it=some o) (hc:o.cls=.type n) (hd:o.data=.fields vs)
    (hn:["enumerate","zip","dict_itemiterator","dict_reverseitemiterator","odict_iterator","itertools.zip_longest","itertools.pairwise"].contains n=false) (hQ:Q () s):wpAny M A (AR tg (.ref it) u) Q E s:=by
  unfold AR;cases tg <;> first
    | exact aG hQ
    | (cases u <;> first
        | exact aG hQ
        | (refine ak (wpAny_load ho ?_)
           rw [hc,hd];show wpAny M A (if (["enumerate","zip","dict_itemiterator","dict_reverseitemiterator","odict_iterator","itertools.zip_longest","itertools.pairwise"].contains n && vs[0]? == some (rawInt _))=true then _ else _) Q E s
           rw [if_neg (by intro h; rw [hn,AQ] at h; cases h)];exact aG hQ))
def ET (K:Za) (a:Addr):It :=
 ⟨fun i H=>∃xs x,aB K H a xs/\xs[i]?=some x,fun i H x H'=>H'=H/\∀xs,aB K H a xs->xs[i]?=some x,fun i H=>∃xs,aB K H a xs/\xs.length<=i⟩
def G7 (K:Za) (a:Addr):It :=
 ⟨fun i H=>∃xs x,bL K H a xs/\xs[i]?=some x,fun i H x H'=>H'=H/\∀xs,bL K H a xs->xs[i]?=some x,fun i H=>∃xs,bL K H a xs/\xs.length<=i⟩
def G9 (lo:Int) (n:Nat):It:=⟨fun i _=>i<n,fun i H x H'=>H'=H/\x=.int (lo+i),fun i _=>n<=i⟩
theorem uo {P:bF}{w:World}{K:Za}{tg:Expr}(a it:Addr):qC P w K tg (ET K a) [it] it (fun i h=>h.IsListIter it a i) where
 mem:=by simp
 obj:=fun i h st b hb=>by
  have e:b=it:=by simpa using hb
  subst e;obtain ⟨o,e,c,d⟩:=st;exact ⟨o,e,fun v z=>by rw [d] at z; cases z⟩
 keep:=fun i h h' st k=>st.at fun o e=>k it (by simp) o e
 item:=by
  intro X hP hw hK hc i J3 s σ H E I hf st hg;subst hP hw hK;obtain ⟨xs,x,hq,hx⟩:=hg;obtain ⟨its,rv,p,hz⟩:=I.list hq;obtain ⟨u,hu,ru⟩:=rv.get hx;obtain ⟨f0,f1,f2,f3,f4,f5⟩:=hf it (by simp);refine wpAny_pyNext_list_item st p.isList (x:=u) (by simpa using hu) fun h' st' sb=>?_;have I1:Inv X J3 σ H { s with heap:=h' }:=I.turned (t':=s.toks) (fun b o hb e=>(sb.2 b hb).trans e) f0 f1 f3 f4 f5;obtain ⟨o,e,c,d⟩:=id st';exact ⟨u,rfl,uQ (s:={ s with heap:=h' }) e c d (by decide) ⟨x,H,I1,ru,⟨rfl,fun ys hy=>by rw [I.list_inj hy hq]; exact hx⟩,st',fun b hb=>(hf b hb).1⟩⟩
 done:=by
  intro X hP hw hK hc i J3 s σ H E I hf st hg;subst hP hw hK;obtain ⟨xs,hq,hx⟩:=hg;obtain ⟨its,rv,p,hz⟩:=I.list hq;obtain ⟨f0,f1,f2,f3,f4,f5⟩:=hf it (by simp);have hl:=rv.length;exact wpAny_pyNext_list_end (I.ok.hd hc) st p.isList (by simp; omega) fun h' eb=>⟨rfl,I.turned (t':=s.toks) (fun b o hb e=>eb b o hb e) f0 f1 f3 f4 f5⟩
 self:=fun _ _ _ _ _ st h=>wpAny_pyIter_listiter st h
theorem rO {P:bF}{w:World}{K:Za}{tg:Expr}(a it:Addr):qC P w K tg (G7 K a) [it] it (fun i h=>h.IsTupleIter it a i) where
 mem:=by simp
 obj:=fun i h st b hb=>by
  have e:b=it:=by simpa using hb
  subst e;obtain ⟨o,e,c,d⟩:=st;exact ⟨o,e,fun v z=>by rw [d] at z; cases z⟩
 keep:=fun i h h' st k=>st.at fun o e=>k it (by simp) o e
 item:=by
  intro X hP hw hK hc i J3 s σ H E I hf st hg;subst hP hw hK;obtain ⟨xs,x,hq,hx⟩:=hg;obtain ⟨its,rv,p,hz⟩:=I.tuple hq;obtain ⟨u,hu,ru⟩:=rv.get hx;obtain ⟨f0,f1,f2,f3,f4,f5⟩:=hf it (by simp);refine wpAny_pyNext_tuple_item st (show s.heap.IsTuple a its.toArray from p) (x:=u) (by simpa using hu) fun h' st' sb=>?_;have I1:Inv X J3 σ H { s with heap:=h' }:=I.turned (t':=s.toks) (fun b o hb e=>(sb.2 b hb).trans e) f0 f1 f3 f4 f5;obtain ⟨o,e,c,d⟩:=id st';exact ⟨u,rfl,uQ (s:={ s with heap:=h' }) e c d (by decide) ⟨x,H,I1,ru,⟨rfl,fun ys hy=>by rw [I.tuple_inj hy hq]; exact hx⟩,st',fun b hb=>(hf b hb).1⟩⟩
 done:=by
  intro X hP hw hK hc i J3 s σ H E I hf st hg;subst hP hw hK;obtain ⟨xs,hq,hx⟩:=hg;obtain ⟨its,rv,p,hz⟩:=I.tuple hq;obtain ⟨f0,f1,f2,f3,f4,f5⟩:=hf it (by simp);have hl:=rv.length;exact wpAny_pyNext_tuple_end (I.ok.hd hc) st (show s.heap.IsTuple a its.toArray from p) (by simp; omega) fun h' eb=>⟨rfl,I.turned (t':=s.toks) (fun b o hb e=>eb b o hb e) f0 f1 f3 f4 f5⟩
 self:=fun _ _ _ _ _ st h=>wpAny_pyIter_tupleiter st h
theorem y8 {P:bF}{w:World}{K:Za}{tg:Expr}(it:Addr) (lo:Int) (n:Nat):qC P w K tg (G9 lo n) [it] it (fun i h=>IsRangeIter h it (lo+(i:Nat) * 1) ((n:Int)-(i:Nat)) 1) where
 mem:=by simp
 obj:=fun i h st b hb=>by
  have e:b=it:=by simpa using hb
  subst e;exact ⟨_,st,fun v z=>by
   have z':Data.fields _=Data.cell v:=z;cases z'⟩
 keep:=fun i h h' st k=>k it (by simp) _ st
 item:=by
  intro X hP hw hK hc i J3 s σ H E I hf st hg;subst hP hw hK;obtain ⟨f0,f1,f2,f3,f4,f5⟩:=hf it (by simp);have W:=Walks.range (prog:=X.prog) (w:=X.w) (I.ok.hd hc) it lo 1 n;refine W.item i s _ _ hg st fun v h' tk hv st' kk=>?_;obtain ⟨t,rfl⟩:=hv;have I1:Inv X J3 σ H { s with heap:=h',toks:=tk }:=I.turned (fun b o hb e=>kk b o (by simpa using hb) e) f0 f1 f3 f4 f5;refine ⟨_,rfl,uQ (s:={ s with heap:=h',toks:=tk }) (n:="range_iterator") st' rfl rfl (by decide) ⟨.int (lo+i),H,I1,⟨t,?_⟩,⟨rfl,rfl⟩,st',fun b hb=>(hf b hb).1⟩⟩;rw [Int.mul_one]
 done:=by
  intro X hP hw hK hc i J3 s σ H E I hf st hg;subst hP hw hK;obtain ⟨f0,f1,f2,f3,f4,f5⟩:=hf it (by simp);exact wpAny_pyNext_range_end (I.ok.hd hc) st (by have:n<=i:=hg; omega) fun h' eb=>⟨rfl,I.turned (t':=s.toks) (fun b o hb e=>eb b o hb e) f0 f1 f3 f4 f5⟩
 self:=fun _ _ _ _ _ st h=>wpAny_pyIter_rangeiter st h
end L2
namespace L2
open PySem PySem.Spec PyProof.Rows
section
variable {X:Cx}{tg:Expr}
def cD (K:Za) (tl:TE):TI:=fun σ H R=>tl σ H fun x H1=>∃a,x=.ref a/\(∃xs,aB K H1 a xs)/\R (ET K a) H1
def G0 (K:Za) (tl:TE):TI:=fun σ H R=>tl σ H fun x H1=>∃a,x=.ref a/\(∃xs,bL K H1 a xs)/\R (G7 K a) H1
theorem bg {l:Expr}{tl:TE}(hl:PE X l tl):PI X tg l (cD X.K tl):=by
 intro J3 s σ H R I h;refine cf (hl J3 s σ H _ I h) fun v s1 ⟨x,H1,I1,r1,q1⟩=>?_;obtain ⟨a,e,⟨xs,hq⟩,q⟩:=q1;subst e;cases r1;obtain ⟨its,rv,p,hz⟩:=I1.list hq;refine xj p.isList ?_;refine ⟨s1.heap.objs.size,[s1.heap.objs.size],_,_,H1,rfl,I1.kept (t':=s1.toks) fun b o e=>bd _ e,uo a _,⟨_,cr _ rfl,rfl,rfl⟩,fun b hb=>?_,q⟩;have e:b=s1.heap.objs.size:=by simpa using hb
 subst e;exact I1.fpOk (aD _) (I1.hok.fresh (aD _))
theorem DN {l:Expr}{tl:TE}(hl:PE X l tl):PI X tg l (G0 X.K tl):=by
 intro J3 s σ H R I h;refine cf (hl J3 s σ H _ I h) fun v s1 ⟨x,H1,I1,r1,q1⟩=>?_;obtain ⟨a,e,⟨xs,hq⟩,q⟩:=q1;subst e;cases r1;obtain ⟨its,rv,p,hz⟩:=I1.tuple hq;refine AO (show s1.heap.IsTuple a its.toArray from p) ?_;refine ⟨s1.heap.objs.size,[s1.heap.objs.size],_,_,H1,rfl,I1.kept (t':=s1.toks) fun b o e=>bd _ e,rO a _,⟨_,cr _ rfl,rfl,rfl⟩,fun b hb=>?_,q⟩;have e:b=s1.heap.objs.size:=by simpa using hb
 subst e;exact I1.fpOk (aD _) (I1.hok.fresh (aD _))
theorem DD {J3:Zd}{σ:St}{H:Hp}{s:Shared}{R:It->Hp->Prop}{E:Zc}{lo hi:Int}{t u v:Tok}{tk:Nat}(I:Inv X J3 σ H s) (h1:-(2 ^ 62)<=lo) (h2:lo<2 ^ 62) (h3:-(2 ^ 62)<=hi) (h4:hi<2 ^ 62)
  (q:R (G9 lo (hi-lo).toNat) H):wpAny (model X.prog X.w) X.A (pyIter (.ref s.heap.objs.size)) (HV X J3 σ tg R) E { s with heap:=s.heap.push { cls:=.type "range",data:=.fields #[.int lo t,.int hi u,.int 1 v] },toks:=tk }:=by
 refine wpAny_pyIter_range (IsRange.new ..) (small_one h1 h2 h3 h4) ?_;have I1:Inv X J3 σ H { s with heap:=s.heap.push { cls:=.type "range",data:=.fields #[.int lo t,.int hi u,.int 1 v] },toks:=tk }:=I.kept fun b o e=>bd _ e;refine ⟨(s.heap.push { cls:=.type "range",data:=.fields #[.int lo t,.int hi u,.int 1 v] }).objs.size,[(s.heap.push { cls:=.type "range",data:=.fields #[.int lo t,.int hi u,.int 1 v] }).objs.size],_,_,H,rfl,
  I1.kept (t':=tk) fun b o e=>bd _ e,y8 _ lo (hi-lo).toNat,?_,fun b hb=>?_,q⟩
 ·have e1:lo+((0:Nat):Int) * 1=lo:=by simp
  have e2:(((hi-lo).toNat:Nat):Int)-((0:Nat):Int)=bV.Range.rangeSize lo hi 1:=by rw [rangeSize_one]; split <;> omega
  show IsRangeIter _ _ (lo+((0:Nat):Int) * 1) ((((hi-lo).toNat:Nat):Int)-((0:Nat):Int)) 1;rw [e1,e2];exact cr _ rfl
 ·have e:b=(s.heap.push { cls:=.type "range",data:=.fields #[.int lo t,.int hi u,.int 1 v] }).objs.size:=by simpa using hb
  subst e;exact I1.fpOk (aD _) (I1.hok.fresh (aD _))
def uO (ta:TA):TI:=fun σ H R=>ta σ H fun vs H1=>∃j:Int,vs=[.int j]/\-(2 ^ 62)<=j/\j<2 ^ 62/\R (G9 0 j.toNat) H1
theorem jh {a:Expr}{ta:TA}{p pos:Pos}(hg:Gl X "range") (hm:X.mg "range"=none) (ha:PA X [a] ta) (hs:aI [a] X.env=[(false,eval a X.env)]:=by rfl):PI X tg (.Call (.Name "range" p) [a] [] pos) (uO ta):=by
 intro J3 s σ H R I h;refine Call_ (pD I hg hm boot_range (AN (cf (ha pos J3 s σ H _ I h) fun us s1 ⟨vs,H1,I1,r1,q1⟩=>?_) hs rfl));obtain ⟨j,e,q1,q2,q⟩:=q1;subst e;cases r1 with
 | cons r rr =>
  cases rr;obtain ⟨t,rfl⟩:=r;exact call_range_1 (DD I1 (by omega) (by omega) q1 q2 (by simpa using q))
def fx (wi:TI) (g:TG) (tb:TS):TS:=fun D σ H=>wi σ H fun J H1=>∃W:Nat->Nat->St->Hp->Prop,(∃m,W 0 m σ H1)/\∀i m σ H,W i m σ H ->
 (J.stop i H/\D.nx σ H)∨(J.go i H/\∃N:St->Hp->Prop,(∀σ' H',N σ' H'->∃m',m'<m/\W (i+1) m' σ' H')/\∀x H',J.yld i H x H'->g x σ H' fun σ2 H2=>tb { D with nx:=N,ct:=N,bk:=D.nx } σ2 H2)
def sw (fp:Ze) (h:Heap):List (Addr×Obj):=fp.filterMap fun b=>(h.get? b).map fun o=>(b,o)
theorem jL {fp:Ze}{h:Heap}{b:Addr}{o:Obj}(hb:b∈fp) (e:h.get? b=some o):(b,o)∈sw fp h:=List.mem_filterMap.mpr ⟨b,hb,by rw [e]; rfl⟩
theorem Ck {fp:Ze}{h:Heap}{p:Addr×Obj}(hp:p∈sw fp h):p.1∈fp/\h.get? p.1=some p.2:=by
 obtain ⟨b,hb,e⟩:=List.mem_filterMap.mp hp;cases q:h.get? b with
 | none=>rw [q] at e; cases e
 | some o =>
  rw [q] at e;have e':(b,o)=p:=eI e;subst e';exact ⟨hb,q⟩
theorem Inv.pinned {J3:Zd}{σ:St}{H:Hp}{s:Shared}{fp:Ze}(I:Inv X J3 σ H s) (hf:∀b∈fp,m9 X J3 H b) (ho:∀b∈fp,∃o,s.heap.get? b=some o/\∀v,o.data≠.cell v):Inv X (J3++sw fp s.heap) σ H s :=
 I.pins_of fun p hp=>(aW.mp hp).elim (fun z=>I.pin p (cX _ z)) fun z=>by
  obtain ⟨hb,e⟩:=Ck z;obtain ⟨f0,f1,f2,_⟩:=hf p.1 hb;obtain ⟨o,e',d⟩:=ho p.1 hb;rw [e] at e'; cases e';exact ⟨e,f0,f1,f2,d⟩
theorem Inv.unpinned {J3 pl:Zd}{σ:St}{H:Hp}{s:Shared}(I:Inv X (J3++pl) σ H s):Inv X J3 σ H s:=I.pins_of fun p hp=>I.pin p (cX _ (cx _ hp))
theorem bS {iter:Expr}{body:List Stmt}{wi:TI}{g:TG}{tb:TS}{pos:Pos}(hp:PassesOwn (model X.prog X.w) X.A X.env X.xe) (hc:X.calm=true) (hi:PI X tg iter wi) (hg:PG X tg g) (hb:y3 X body tb)
  (hs:∀x,xi iter X.env x=pure x:=by intro _; rfl):PS X (.For tg iter body [] pos) (fx wi g tb):=by
 intro J3 s σ H D I h;refine wpAny_For (cf (hi J3 s σ H _ I h) fun v s1 h1=>cf h1 fun itv s2 h2=>?_) hs;obtain ⟨it,fp,tn,J,H2,e,I2,T,st2,f2,W,⟨m0,w0⟩,turn⟩:=h2;subst e;have stat:∀{H':Hp},(∀b∈fp,H' b=none)->∀b∈fp,m9 X J3 H' b:=fun hn b hb=>⟨hn b hb,(f2 b hb).2⟩;refine codeAny_forLoop_any (fun n s'=>∃i σ' H',Inv X J3 σ' H' s'/\tn i s'.heap/\(∀b∈fp,H' b=none)/\W i n σ' H') ?_ m0 ⟨0,σ,H2,I2,st2,fun b hb=>(f2 b hb).1,w0⟩;rintro n s3 ⟨i,σ3,H3,I3,st3,fr3,w3⟩;rcases turn i n σ3 H3 w3 with ⟨stop,qn⟩ | ⟨go,N,hN,step⟩
 ·refine qW hp (cf (T.done X rfl rfl rfl hc i J3 s3 σ3 H3 X.xe I3 (stat fr3) st3 stop) fun r s4 ⟨hr,I4⟩=>?_);subst hr;exact AT ⟨σ3,H3,I4,qn⟩
 ·refine qW hp (cf (T.item X rfl rfl rfl hc i J3 s3 σ3 H3 X.xe I3 (stat fr3) st3 go) fun r s4 ⟨u,hr,h4⟩=>?_);subst hr;refine qW hp (cf h4 fun _ s5 ⟨x,H5,I5,r5,y5,st5,fr5⟩=>?_);have I5':=I5.pinned (stat fr5) (T.obj _ _ st5);refine qW hp (cf (hg _ s5 σ3 H5 x u _ I5' r5 (step x H5 y5)) fun _ s6 ⟨σ6,H6,I6,q6⟩=>?_);refine qW hp (cf (hb _ s6 σ6 H6 _ I6 q6) fun f s7 q7=>?_);have again:∀{σ7:St}{H7:Hp},Inv X (J3++sw fp s5.heap) σ7 H7 s7->N σ7 H7->∃m,m<n/\∃i σ' H',Inv X J3 σ' H' s7/\tn i s7.heap/\(∀b∈fp,H' b=none)/\W i m σ' H':=fun {σ7 H7} I7 n7=>by
   obtain ⟨m',hm,w7⟩:=hN σ7 H7 n7;refine ⟨m',hm,i+1,σ7,H7,I7.unpinned,T.keep _ _ _ st5 fun b hb o e=>(I7.pin (b,o) (cX _ (cX _ (jL hb e)))).1,fun b hb=>?_,w7⟩;obtain ⟨o,e,d⟩:=T.obj _ _ st5 b hb;exact (I7.pin (b,o) (cX _ (cX _ (jL hb e)))).2.1
  cases f with
  | next=>obtain ⟨σ7,H7,I7,n7⟩:=q7; exact again I7 n7
  | cont=>obtain ⟨σ7,H7,I7,n7⟩:=q7; exact again I7 n7
  | brk=>obtain ⟨σ7,H7,I7,q7⟩:=q7; exact ⟨σ7,H7,I7.unpinned,q7⟩
  | ret v=>obtain ⟨x7,σ7,H7,I7,r7,q7⟩:=q7; exact ⟨x7,σ7,H7,I7.unpinned,r7,q7⟩
end
theorem cg {K:Za}{a:Addr}{xs:List V}{g:TG}{tb:TS}{D:lV}{σ:St}{H:Hp}(Pv:Nat->St->Hp->Prop) (h0:Pv 0 σ H) (hl:∀i σ H,i<=xs.length->Pv i σ H->aB K H a xs)
  (hs:∀i x σ H,xs[i]?=some x->Pv i σ H->g x σ H fun σ2 H2=>tb { D with nx:=Pv (i+1),ct:=Pv (i+1),bk:=D.nx } σ2 H2) (hd:∀σ H,Pv xs.length σ H->D.nx σ H) :
  ∃W:Nat->Nat->St->Hp->Prop,(∃m,W 0 m σ H)/\∀i m σ H,W i m σ H ->
   ((ET K a).stop i H/\D.nx σ H)∨((ET K a).go i H/\∃N:St->Hp->Prop,(∀σ' H',N σ' H'->∃m',m'<m/\W (i+1) m' σ' H')/\∀x H',(ET K a).yld i H x H'->g x σ H' fun σ2 H2=>tb { D with nx:=N,ct:=N,bk:=D.nx } σ2 H2):=by
 refine ⟨fun i m σ H=>m=xs.length-i/\i<=xs.length/\Pv i σ H,⟨xs.length,by simp,c8 _,h0⟩,?_⟩;rintro i m σ H ⟨rfl,hi,p⟩;have q:=hl i σ H hi p;by_cases hlt:i<xs.length
 ·refine .inr ⟨⟨xs,xs[i],q,by simp [hlt]⟩,Pv (i+1),fun σ' H' p'=>⟨xs.length-(i+1),by omega,rfl,hlt,p'⟩,fun x H' y=>?_⟩;obtain ⟨e,y⟩:=y;subst e;exact hs i x σ _ (y xs q) p
 ·have e:i=xs.length:=by omega
  subst e;exact .inl ⟨⟨xs,q,aD _⟩,hd σ H p⟩
theorem Bx {K:Za}{a:Addr}{xs:List V}{g:TG}{tb:TS}{D:lV}{σ:St}{H:Hp}(Pv:Nat->St->Hp->Prop) (h0:Pv 0 σ H) (hl:∀i σ H,i<=xs.length->Pv i σ H->bL K H a xs)
  (hs:∀i x σ H,xs[i]?=some x->Pv i σ H->g x σ H fun σ2 H2=>tb { D with nx:=Pv (i+1),ct:=Pv (i+1),bk:=D.nx } σ2 H2) (hd:∀σ H,Pv xs.length σ H->D.nx σ H) :
  ∃W:Nat->Nat->St->Hp->Prop,(∃m,W 0 m σ H)/\∀i m σ H,W i m σ H ->
   ((G7 K a).stop i H/\D.nx σ H)∨((G7 K a).go i H/\∃N:St->Hp->Prop,(∀σ' H',N σ' H'->∃m',m'<m/\W (i+1) m' σ' H')/\∀x H',(G7 K a).yld i H x H'->g x σ H' fun σ2 H2=>tb { D with nx:=N,ct:=N,bk:=D.nx } σ2 H2):=by
 refine ⟨fun i m σ H=>m=xs.length-i/\i<=xs.length/\Pv i σ H,⟨xs.length,by simp,c8 _,h0⟩,?_⟩;rintro i m σ H ⟨rfl,hi,p⟩;have q:=hl i σ H hi p;by_cases hlt:i<xs.length
 ·refine .inr ⟨⟨xs,xs[i],q,by simp [hlt]⟩,Pv (i+1),fun σ' H' p'=>⟨xs.length-(i+1),by omega,rfl,hlt,p'⟩,fun x H' y=>?_⟩;obtain ⟨e,y⟩:=y;subst e;exact hs i x σ _ (y xs q) p
 ·have e:i=xs.length:=by omega
  subst e;exact .inl ⟨⟨xs,q,aD _⟩,hd σ H p⟩
theorem lF {lo:Int}{n:Nat}{g:TG}{tb:TS}{D:lV}{σ:St}{H:Hp}(Pv:Nat->St->Hp->Prop) (h0:Pv 0 σ H)
  (hs:∀i σ H,i<n->Pv i σ H->g (.int (lo+i)) σ H fun σ2 H2=>tb { D with nx:=Pv (i+1),ct:=Pv (i+1),bk:=D.nx } σ2 H2) (hd:∀σ H,Pv n σ H->D.nx σ H) :
  ∃W:Nat->Nat->St->Hp->Prop,(∃m,W 0 m σ H)/\∀i m σ H,W i m σ H ->
   ((G9 lo n).stop i H/\D.nx σ H)∨((G9 lo n).go i H/\∃N:St->Hp->Prop,(∀σ' H',N σ' H'->∃m',m'<m/\W (i+1) m' σ' H')/\∀x H',(G9 lo n).yld i H x H'->g x σ H' fun σ2 H2=>tb { D with nx:=N,ct:=N,bk:=D.nx } σ2 H2):=by
 refine ⟨fun i m σ H=>m=n-i/\i<=n/\Pv i σ H,⟨n,by simp,c8 _,h0⟩,?_⟩;rintro i m σ H ⟨rfl,hi,p⟩;by_cases hlt:i<n
 ·refine .inr ⟨hlt,Pv (i+1),fun σ' H' p'=>⟨n-(i+1),by omega,rfl,hlt,p'⟩,fun x H' y=>?_⟩;obtain ⟨e,y⟩:=y;subst e y;exact hs i σ _ hlt p
 ·have e:i=n:=by omega
  subst e;exact .inl ⟨aD _,hd σ H p⟩
end L2
namespace L2
open PySem PySem.Spec PyProof.Rows
abbrev R2:=V->V->Hp->VK->Prop
def nv (X:Cx) (f:Value->Value->Sem Value) (r:R2):Prop :=
 ∀(J3:Zd) (s:Shared) (σ:St) (H:Hp) (x y:V) (v u:Value) (Q:VK),Inv X J3 σ H s->RelV x v->RelV y u->r x y H Q ->
  wpAny (model X.prog X.w) X.A (f v u) (EP X J3 σ Q) X.xe s
def fN (X:Cx) (f:Value) (r:List V->Hp->VK->Prop):Prop :=
 ∀(J3:Zd) (s:Shared) (σ:St) (H:Hp) (xs:List V) (us:Zf) (Q:VK),Inv X J3 σ H s->aV xs us->r xs H Q ->
  wpAny (model X.prog X.w) X.A (call f us) (EP X J3 σ Q) X.xe s
def aL (r:R2) (ta tb:TE):TE:=fun σ H Q=>ta σ H fun x H1=>tb σ H1 fun y H2=>r x y H2 Q
def rI (C:Int->Int->Prop) (g:Int->Int->V):R2:=fun x y H Q=>∃i j,x=.int i/\y=.int j/\C i j/\Q (g i j) H
def C3 (g:Int->Int->V):R2:=fun x y H Q=>∃i j,x=.int i/\y=.int j/\Q (g i j) H
section
variable {X:Cx}{a b c:Expr}{ta tb tc:TE}{pos:Pos}
theorem G4 (ha:PE X a ta) (hb:PE X b tb) {J3:Zd}{s:Shared}{σ:St}{H:Hp}{R:V->V->Hp->Prop}(I:Inv X J3 σ H s)
  (h:ta σ H fun x H1=>tb σ H1 fun y H2=>R x y H2) {Q:Zc}{f:Value->Value->Sem Value}
  (hf:∀v u s2 x y H2,Inv X J3 σ H2 s2->RelV x v->RelV y u->R x y H2->wpAny (model X.prog X.w) X.A (f v u) Q X.xe s2) :
  wpAny (model X.prog X.w) X.A (eval a X.env) (fun v s₁=>wpAny (model X.prog X.w) X.A (eval b X.env) (fun u s₂=>wpAny (model X.prog X.w) X.A (f v u) Q X.xe s₂) X.xe s₁) X.xe s:=by
 refine cf (ha J3 s σ H _ I h) fun v s1 ⟨x,H1,I1,r1,q1⟩=>?_;refine cf (hb J3 s1 σ H1 _ I1 q1) fun u s2 ⟨y,H2,I2,r2,q2⟩=>?_;exact hf v u s2 x y H2 I2 r1 r2 q2
theorem aP {op:Operator}{r:R2}(ho:nv X (pX op) r) (ha:PE X a ta) (hb:PE X b tb):PE X (.BinOp a op b pos) (aL r ta tb):=by
 intro J3 s σ H Q I h;exact wpAny_BinOp (G4 ha hb I h fun v u s2 x y H2 I2 rx ry q=>ho J3 s2 σ H2 x y v u Q I2 rx ry q)
theorem HR {f:Value->Value->Sem Value}{C:Int->Int->Prop}{g:Int->Int->Int}
  (rule:∀(i j:Int) (t u:Tok) (s:Shared) (Q:Zc) (E:Zc),C i j->Q (.int (g i j) s.toks) { s with toks:=s.toks+1 }->wpAny (model X.prog X.w) X.A (f (.int i t) (.int j u)) Q E s) :
  nv X f (rI C fun i j=>.int (g i j)):=by
 intro J3 s σ H x y v u Q I rx ry h;obtain ⟨i,j,rfl,rfl,hc,q⟩:=h;obtain ⟨t,rfl⟩:=rx;obtain ⟨t',rfl⟩:=ry;exact rule i j t t' s _ _ hc ⟨.int (g i j),H,I.tok _,⟨_,rfl⟩,q⟩
theorem opI0 {f:Value->Value->Sem Value}{g:Int->Int->Int}
  (rule:∀(i j:Int) (t u:Tok) (s:Shared) (Q:Zc) (E:Zc),Q (.int (g i j) s.toks) { s with toks:=s.toks+1 }->wpAny (model X.prog X.w) X.A (f (.int i t) (.int j u)) Q E s) :
  nv X f (C3 fun i j=>.int (g i j)):=by
 intro J3 s σ H x y v u Q I rx ry h;obtain ⟨i,j,rfl,rfl,q⟩:=h;obtain ⟨t,rfl⟩:=rx;obtain ⟨t',rfl⟩:=ry;exact rule i j t t' s _ _ ⟨.int (g i j),H,I.tok _,⟨_,rfl⟩,q⟩
theorem FI {f:Value->Value->Sem Value}{g:Int->Int->Bool}
  (rule:∀(i j:Int) (t u:Tok) (s:Shared) (Q:Zc) (E:Zc),Q (.bool (g i j)) s->wpAny (model X.prog X.w) X.A (f (.int i t) (.int j u)) Q E s) :
  nv X f (C3 fun i j=>.bl (g i j)):=by
 intro J3 s σ H x y v u Q I rx ry h;obtain ⟨i,j,rfl,rfl,q⟩:=h;obtain ⟨t,rfl⟩:=rx;obtain ⟨t',rfl⟩:=ry;exact rule i j t t' s _ _ ⟨.bl (g i j),H,I,rfl,q⟩
def HK (i j:Int):Prop:=0<j/\j<1073741824
def HJ (i j:Int):Prop:=0<=j/\j<=1000000/\i.natAbs<2 ^ 64
def EO (i j:Int):Prop:=(-(2 ^ 64)<i/\i<2 ^ 64)∨(-(2 ^ 64)<j/\j<2 ^ 64)
theorem EO.ok {i j:Int}(h:EO i j):IntMulOk i j:=by
 rcases h with ⟨h1,h2⟩ | ⟨h1,h2⟩
 ·exact .of_left (intBits_le_64 h1 h2)
 ·exact .of_right (intBits_le_64 h1 h2)
theorem cU:nv X (pX .Add) (C3 fun i j=>.int (i+j)):=opI0 fun _ _ _ _ _ _ _ q=>add_int q
theorem ip:nv X (pX .Mult) (rI EO fun i j=>.int (i * j)):=HR fun _ _ _ _ _ _ _ hc q=>mul_int q hc.ok
theorem Bm:nv X (pX .FloorDiv) (rI HK fun i j=>.int (i / j)):=HR fun i j _ _ _ _ _ hc q=>by
 have h1:(0:Int)<j:=hc.1;have h2:j<1073741824:=hc.2;exact floordiv_int (by omega) (by rw [Int.fdiv_eq_ediv_of_nonneg i (by omega)]; exact q) (.inl (PyProof.noPylong_small (by omega)))
theorem f_:nv X (pX .Mod) (rI (fun _ j=>0<j) fun i j=>.int (i % j)):=HR fun i j _ _ _ _ _ hc q=>by
 have h1:(0:Int)<j:=hc;exact mod_int' (by omega) (by rw [Int.fmod_eq_emod_of_nonneg i (by omega)]; exact q)
theorem DR:nv X (pX .Pow) (rI HJ fun i j=>.int (i ^ j.toNat)):=HR fun _ _ _ _ _ _ _ hc q=>pow_int_small hc.1 hc.2.1 hc.2.2 q
end
def Hi:V->V->Bool
 | .non,.non=>true | .non,.int _=>true | .int _,.non=>true | .non,.bl _=>true | .bl _,.non=>true | .non,.str _=>true | .str _,.non=>true
 | .int _,.int _=>true | .bl _,.bl _=>true | .str _,.str _=>true | .byt _,.byt _=>true
 | .int _,.str _=>true | .str _,.int _=>true | .bl _,.str _=>true | .str _,.bl _=>true
 | _,_=>false
def zQ:R2:=fun x y H Q=>Hi x y=true/\Q (.bl (decide (x=y))) H
def Fw:R2:=fun x y H Q=>Hi x y=true/\Q (.bl (!decide (x=y))) H
theorem BB {i j:Int}:decide (V.int i=V.int j)=(i == j):=by
 rw [ui];simp
theorem Ew {i j:Bool}:decide (V.bl i=V.bl j)=(i == j):=by
 rw [ui];simp
theorem Bz {i j:Str}:decide (V.str i=V.str j)=(i == j):=by
 rw [ui];simp
theorem BC {i j:Array UInt8}:decide (V.byt i=V.byt j)=(i.toList == j.toList):=by
 rw [ui];cases i;cases j;simp
section
variable {X:Cx}{a b c:Expr}{ta tb tc:TE}{pos:Pos}
theorem bD {J3:Zd}{σ:St}{H:Hp}{s:Shared}{Q:VK}{k k':Bool}(I:Inv X J3 σ H s) (q:Q (.bl k) H) (e:k=k'):EP X J3 σ Q (.bool k') s:=by
 subst e;exact ⟨.bl k,H,I,rfl,q⟩
theorem jk:nv X (dY .Eq) zQ:=by
 intro J3 s σ H x y v u Q I rx ry h;obtain ⟨hs,q⟩:=h;cases x with
 | non =>
  cases rx;cases y with
  | non=>cases ry; exact PySem.EqNone.eq_none_none (bD I q (by simp))
  | bl j=>cases ry; exact PySem.EqNone.eq_none_bool (bD I q (by simp))
  | int j=>obtain ⟨t',rfl⟩:=ry; exact PySem.EqNone.eq_none_int (bD I q (by simp))
  | str j=>obtain ⟨t',rfl⟩:=ry; exact PySem.EqNone.eq_none_str (bD I q (by simp))
  | _=>exact absurd (show false=true from hs) fW
 | bl i =>
  cases rx;cases y with
  | non=>cases ry; exact PySem.EqNone.eq_bool_none (bD I q (by simp))
  | bl j=>cases ry; exact eq_bool (bD I q Ew)
  | str j=>obtain ⟨t',rfl⟩:=ry; exact PySem.EqMixed.eq_bool_str (bD I q (by simp))
  | _=>exact absurd (show false=true from hs) fW
 | int i =>
  obtain ⟨t,rfl⟩:=rx;cases y with
  | non=>cases ry; exact PySem.EqNone.eq_int_none (bD I q (by simp))
  | int j=>obtain ⟨t',rfl⟩:=ry; exact eq_int (bD I q BB)
  | str j=>obtain ⟨t',rfl⟩:=ry; exact PySem.EqMixed.eq_int_str (bD I q (by simp))
  | _=>exact absurd (show false=true from hs) fW
 | str i =>
  obtain ⟨t,rfl⟩:=rx;cases y with
  | non=>cases ry; exact PySem.EqNone.eq_str_none (bD I q (by simp))
  | bl j=>cases ry; exact PySem.EqMixed.eq_str_bool (bD I q (by simp))
  | int j=>obtain ⟨t',rfl⟩:=ry; exact PySem.EqMixed.eq_str_int (bD I q (by simp))
  | str j=>obtain ⟨t',rfl⟩:=ry; exact eq_str (bD I q Bz)
  | _=>exact absurd (show false=true from hs) fW
 | byt i =>
  obtain ⟨t,rfl⟩:=rx;cases y with
  | byt j=>obtain ⟨t',rfl⟩:=ry; exact PySem.W.eq_bytes (bD I q BC)
  | _=>exact absurd (show false=true from hs) fW
 | _=>cases y <;> exact absurd (show false=true from hs) fW
theorem sA:nv X (dY .NotEq) Fw:=by
 intro J3 s σ H x y v u Q I rx ry h;obtain ⟨hs,q⟩:=h;cases x with
 | non =>
  cases rx;cases y with
  | non=>cases ry; exact PySem.EqNone.ne_none_none (bD I q (by simp))
  | bl j=>cases ry; exact PySem.EqNone.ne_none_bool (bD I q (by simp))
  | int j=>obtain ⟨t',rfl⟩:=ry; exact PySem.EqNone.ne_none_int (bD I q (by simp))
  | str j=>obtain ⟨t',rfl⟩:=ry; exact PySem.EqNone.ne_none_str (bD I q (by simp))
  | _=>exact absurd (show false=true from hs) fW
 | bl i =>
  cases rx;cases y with
  | non=>cases ry; exact PySem.EqNone.ne_bool_none (bD I q (by simp))
  | bl j=>cases ry; exact ne_bool (bD I q (congrArg not Ew))
  | str j=>obtain ⟨t',rfl⟩:=ry; exact PySem.EqMixed.ne_bool_str (bD I q (by simp))
  | _=>exact absurd (show false=true from hs) fW
 | int i =>
  obtain ⟨t,rfl⟩:=rx;cases y with
  | non=>cases ry; exact PySem.EqNone.ne_int_none (bD I q (by simp))
  | int j=>obtain ⟨t',rfl⟩:=ry; exact ne_int (bD I q (congrArg not BB))
  | str j=>obtain ⟨t',rfl⟩:=ry; exact PySem.EqMixed.ne_int_str (bD I q (by simp))
  | _=>exact absurd (show false=true from hs) fW
 | str i =>
  obtain ⟨t,rfl⟩:=rx;cases y with
  | non=>cases ry; exact PySem.EqNone.ne_str_none (bD I q (by simp))
  | bl j=>cases ry; exact PySem.EqMixed.ne_str_bool (bD I q (by simp))
  | int j=>obtain ⟨t',rfl⟩:=ry; exact PySem.EqMixed.ne_str_int (bD I q (by simp))
  | str j=>obtain ⟨t',rfl⟩:=ry; exact ne_str (bD I q (congrArg not Bz))
  | _=>exact absurd (show false=true from hs) fW
 | byt i =>
  obtain ⟨t,rfl⟩:=rx;cases y with
  | byt j=>obtain ⟨t',rfl⟩:=ry; exact PySem.W.ne_bytes (bD I q (congrArg not BC))
  | _=>exact absurd (show false=true from hs) fW
 | _=>cases y <;> exact absurd (show false=true from hs) fW
theorem sB:nv X (dY .Lt) (C3 fun i j=>.bl (decide (i<j))):=FI fun _ _ _ _ _ _ _ q=>lt_int q
theorem Hn:nv X (dY .LtE) (C3 fun i j=>.bl (decide (i<=j))):=FI fun _ _ _ _ _ _ _ q=>le_int q
theorem x9:nv X (dY .Gt) (C3 fun i j=>.bl (decide (j<i))):=FI fun _ _ _ _ _ _ _ q=>gt_int q
theorem Ho:nv X (dY .GtE) (C3 fun i j=>.bl (decide (j<=i))):=FI fun _ _ _ _ _ _ _ q=>ge_int q
theorem Cj:nv X (dY .In) (fun x y H Q=>∃i j,x=.str i/\y=.str j/\Q (.bl (!(bV.Str.occurrences j i 0 j.length 1).isEmpty)) H):=by
 intro J3 s σ H x y v u Q I rx ry h;obtain ⟨i,j,rfl,rfl,q⟩:=h;obtain ⟨t,rfl⟩:=rx;obtain ⟨t',rfl⟩:=ry;exact in_str (bD I q rfl)
theorem DV (b:Expr) {op:CmpOp}(h:op≠.In:=by decide) (h2:op≠.NotIn:=by decide):j6 op b=false:=by
 have e1:(op == CmpOp.In)=false:=by cases op <;> first | rfl | exact absurd rfl h
 have e2:(op == CmpOp.NotIn)=false:=by cases op <;> first | rfl | exact absurd rfl h2
 cases b <;> simp [j6,e1,e2]
theorem Bh {op:CmpOp}{r:R2}(ho:nv X (dY op) r) (ha:PE X a ta) (hb:PE X b tb) (hm:j6 op b=false):PE X (.Compare a [op] [b] pos) (aL r ta tb):=by
 intro J3 s σ H Q I h;exact wpAny_Compare1 (G4 ha hb I h fun v u s2 x y H2 I2 rx ry q=>ho J3 s2 σ H2 x y v u Q I2 rx ry q) hm
def aX (t:TE):TT:=fun σ H Q=>t σ H fun x H'=>∃k,x=.bl k/\Q k H'
theorem Be {op:CmpOp}{r:R2}(ho:nv X (dY op) r) (ha:PE X a ta) (hb:PE X b tb) (hm:j6 op b=false):PT X (.Compare a [op] [b] pos) (aX (aL r ta tb)):=by
 intro J3 s σ H Q I h;refine wpAny_isTrue_Compare1 (cf (ha J3 s σ H _ I h) fun v s1 ⟨x,H1,I1,r1,q1⟩=>cf (hb J3 s1 σ H1 _ I1 q1) fun u s2 ⟨y,H2,I2,r2,q2⟩ =>
  cf (ho J3 s2 σ H2 x y v u _ I2 r1 r2 q2) fun c s3 ⟨z,H3,I3,r3,k,e,q3⟩=>?_) hm
 subst e;cases r3;exact p6 ⟨H3,I3,q3⟩
theorem pC:(aj:Nat)<2 ^ 63:=by rw [j5]; decide
theorem sC:nv X (pX .Add) (fun x y H Q=>∃i j,x=.str i/\y=.str j/\i.length+j.length<=aj/\Q (.str (i++j)) H):=by
 intro J3 s σ H x y v u Q I rx ry h;obtain ⟨i,j,rfl,rfl,hz,q⟩:=h;obtain ⟨t,rfl⟩:=rx;obtain ⟨t',rfl⟩:=ry;exact add_str (fun t' tk=>⟨.str (i++j),H,I.tok _,⟨_,rfl⟩,q⟩) hz
theorem vals1 {x:V}{us:Zf}(r:aV [x] us):∃u,us=[u]/\RelV x u:=by
 cases r with
 | cons r1 r2=>cases r2; exact ⟨_,rfl,r1⟩
theorem vals2 {x y:V}{us:Zf}(r:aV [x,y] us):∃u w',us=[u,w']/\RelV x u/\RelV y w':=by
 cases r with
 | cons r1 r2 =>
  cases r2 with
  | cons r3 r4=>cases r4; exact ⟨_,_,rfl,r1,r3⟩
theorem CS (hc:X.calm=true):fN X (.builtin "max") (fun xs H Q=>∃i j,xs=[.int i,.int j]/\Q (.int (if j > i then j else i)) H):=by
 intro J3 s σ H xs us Q I r h;obtain ⟨i,j,rfl,q⟩:=h;obtain ⟨u,w',rfl,⟨t,rfl⟩,⟨t',rfl⟩⟩:=vals2 r;refine max_two_ints (I.ok.hd hc) fun h' tk k=>⟨_,H,I.kept k,?_,q⟩;by_cases hj:j > i
 ·rw [if_pos hj,if_pos hj]; exact ⟨_,rfl⟩
 ·rw [if_neg hj,if_neg hj]; exact ⟨_,rfl⟩
end
end L2
namespace L2
open PySem PySem.Spec PyProof.Rows
structure Aw (h:Heap) (x dx C:Addr) (mA:Str->Option Value):Prop where
 obj:h.get? x=some (p5 C dx)
 ns:h.Ns1 dx mA
 ne:dx≠x
theorem Cu {h:Heap}{dx:Addr}{mA:Str->Option Value}(n:h.Ns1 dx mA):∃od,h.get? dx=some od/\∀name,AM name od=some (mA name):=by
 obtain ⟨o,es,ep,ho,hd,hk,_,hm⟩:=n;refine ⟨o,ho,fun name=>?_⟩;have e:=hm name;unfold nsFind findBy at e;rw [<-Array.find?_toList] at e;unfold AM;rw [hd];dsimp only;split
 ·rename_i y q;rw [q] at e;exact congrArg some e
 ·rename_i q;rw [q] at e;have a:es.toList.any (·.refKey)=false:=by
   rw [List.any_eq_false];intro y hy;obtain ⟨z,t,hkey⟩:=hk y (Array.mem_toList_iff.mp hy);simp [iQ.refKey,hkey]
  have a':¬es.toList.any (·.refKey)=true:=by rw [a]; exact fW
  rw [if_neg a'];exact congrArg some e
theorem Aw.look {h:Heap}{x dx C:Addr}{mA:Str->Option Value}(I:Aw h x dx C mA):∃od,PySem.W.InstAt h x (p5 C dx) C (some od)/\∀name,AM name od=some (mA name) :=
 let ⟨od,ho,hl⟩:=Cu I.ns
 ⟨od,⟨I.obj,rfl,rfl,ho⟩,hl⟩
section
variable {prog:bF}{w:World}{A:Around}{E:Zc}{s:Shared}{K:Za}{x dx C f:Addr}{mA:Str->Option Value}{name:Str}{v:Value}
theorem FO {expr:Bool}{Q:Zc}(X:K.In s.heap) (I:Aw s.heap x dx C mA) (hg:uh K C name=true) (hh:xh K C=true)
  (ha:c7 K (.ref C) name=some none) (hv:mA name=some v) (hv':PySem.W.handedIn v=true) (h:Q v { s with toks:=s.toks+1 }) :
  wpAny (model prog w) A (getAttr (.ref x) name expr) Q E s:=by
 obtain ⟨od,J,hl⟩:=I.look;exact PySem.W.get_value X J (PySem.W.plainGet_of hg).1 (PySem.W.findObj_own hh ha rfl (by rw [hl,hv])) hv' h
theorem Em {pl:Sem Bool}{Q:Value×List Value->Shared->Prop}(X:K.In s.heap) (I:Aw s.heap x dx C mA) (hg:uh K C name=true)
  (hf:c7 K (.ref C) name=some (some (.ref f))) (ht:xg K (.ref f)=true) (hv:mA name=none) (h:Q (.ref f,[.ref x]) s) :
  wpAny (model prog w) A (pW (.ref x) name pl) Q E s:=by
 obtain ⟨od,J,hl⟩:=I.look;exact PySem.W.method_fn X J (PySem.W.plainGet_of hg).1 (PySem.W.plainGet_of hg).2 hf (beq_iff_eq.mp ht) (by show (AM name od).map (·.isSome)=some false; rw [hl,hv]; rfl) h
theorem Fi {ns:Zb}{Q:Unit->Shared->Prop}(X:K.In s.heap) (I:Aw s.heap x dx C mA)
  (hs:c7 K (.ref C) "__setattr__"=some (some (.builtin "object.__setattr__"))) (hp:AL K C=true) (ht:PySem.W.takerIn K C name=some none) (hh:xh K C=true)
  (hw:PySem.Within mA ns) (hsz:ns.length<=aj)
  (h:∀h',Aw h' x dx C (fun y=>if y=name then some v else mA y)->ff dx s.heap h'->Q () { s with heap:=h',toks:=s.toks+2 }) :
  wpAny (model prog w) A (setAttr (.ref x) name v) Q E s:=by
 obtain ⟨od,J,hl⟩:=I.look;refine PySem.W.set_plain X J hs (PySem.W.osa_open (s:={ s with toks:=s.toks+1 }) (r:=none) X J hp ht fun b=>?_);obtain ⟨cd,hc,hd'⟩:=PySem.W.any_some hh;have hx:s.heap.get? x=some ⟨.ref C,some dx,.plain,#[]⟩:=I.obj;refine ak (aG (ak (ak (wpAny_loadPart hx (ak (PySem.W.Looks.here (s:={ s with toks:=s.toks+1 }) (PySem.W.looks_clsIn X hc) ?_))))));rw [hd'];refine aG (a:=some dx) (ak (aG (ak ?_)));refine wpAny_nsSet1 (s:={ s with toks:=s.toks+1 }) I.ns fun h' hn2 hs2=>?_;obtain ⟨oD,esD,epD,hoD,hdD,hcD⟩:=hn2.count (PySem.Within.cons name v hw);refine ak (wpAny_lookBehind hoD (by rw [hdD]; exact pastItsLine_dict (bP hcD (by rw [dQ]; omega))) ?_);exact aG (h _ ⟨(hs2.2 _ (c9 I.ne)).trans I.obj,hn2,I.ne⟩ hs2)
theorem Ea {R:Result->Shared->Prop}{vs:Zf}{kw:List (Str×Value)}(X:K.In s.heap) (hm:qV K C=true)
  (hi:c7 K (.ref C) "__init__"=some (some (.ref f))) (hf:PySem.W.typeIn K (.ref f)=some (.type "function"))
  (h:zzl77 (model prog w) (A.under (.builtin "type.__call__" ⟨.ref C::vs,kw⟩)) (.call (.ref f) ⟨.ref (s.heap.objs.size+1)::vs,kw⟩) (PySem.W.InitBack (s.heap.objs.size+1) R)
   { s with heap:=(s.heap.push nB).push (p5 C s.heap.objs.size) }) :
  zzl77 (model prog w) A (.call (.ref C) ⟨vs,kw⟩) R s:=by
 obtain ⟨hh,g,d,t,os⟩:=s;exact PySem.W.make_core (PySem.W.makes_of X hm) (PySem.W.looks_findIn X hi) (fun self=>PySem.W.bind_fn X self hf) (.inl rfl) h
end
def cn (f:Str) (v:V):List (Str×V)->List (Str×V)
 | []=>[(f,v)]
 | (g,x)::r=>if g=f then (g,v)::r else (g,x)::cn f v r
theorem eo (f g:Str) (v:V):∀fs:List (Str×V),(cn f v fs).lookup g=if g=f then some v else fs.lookup g
 | []=>by
  show j4 g [(f,v)]=_;by_cases h:g=f
  ·have hb:(g == f)=true:=beq_iff_eq.mpr h;simp only [j4,hb,if_pos h]
  ·have hb:(g == f)=false:=beq_eq_false_iff_ne.mpr h;simp only [j4,hb,if_neg h]
 | (k,x)::r=>by
  have ih:=eo f g v r;rw [show cn f v ((k,x)::r)=(if k=f then (k,v)::r else (k,x)::cn f v r) from rfl]
  by_cases hk:k=f
  ·rw [if_pos hk];by_cases h:g=k
   ·have hb:(g == k)=true:=beq_iff_eq.mpr h;simp only [j4,hb,if_pos (h.trans hk)]
   ·have hb:(g == k)=false:=beq_eq_false_iff_ne.mpr h;simp only [j4,hb,if_neg (fun e:g=f=>h (e.trans hk.symm))]
  ·rw [if_neg hk];by_cases h:g=k
   ·have hb:(g == k)=true:=beq_iff_eq.mpr h;simp only [j4,hb,if_neg (fun e:g=f=>hk (h.symm.trans e))]
   ·have hb:(g == k)=false:=beq_eq_false_iff_ne.mpr h;simp only [j4,hb];exact ih
theorem pE (f:Str) (v:V):∀fs:List (Str×V),f∈(cn f v fs).map (·.1)/\∀g,g∈fs.map (·.1)->g∈(cn f v fs).map (·.1)
 | []=>⟨by simp [cn],fun g h=>by simp at h⟩
 | (k,x)::r=>by
  obtain ⟨i1,i2⟩:=pE f v r;rw [show cn f v ((k,x)::r)=(if k=f then (k,v)::r else (k,x)::cn f v r) from rfl]
  by_cases hk:k=f
  ·rw [if_pos hk];subst hk;exact ⟨by simp,fun g h=>by simpa using h⟩
  ·rw [if_neg hk];refine ⟨?_,fun g h=>?_⟩
   ·rw [aZ];exact eO _ i1
   ·rw [aZ] at h ⊢;rcases cP.mp h with e | e
    ·exact cP.mpr (.inl e)
    ·exact eO _ (i2 g e)
theorem qb (f:Str) (v:V):∀fs:List (Str×V),(cn f v fs).length<=fs.length+1
 | []=>by simp [cn]
 | (k,x)::r=>by
  have ih:=qb f v r;rw [show cn f v ((k,x)::r)=(if k=f then (k,v)::r else (k,x)::cn f v r) from rfl]
  by_cases hk:k=f
  ·rw [if_pos hk,dQ,dQ]; omega
  ·rw [if_neg hk,dQ,dQ]; omega
theorem j_.some_of {v:V}{o:Option Value}(r:j_ (some v) o):∃u,o=some u/\RelV v u:=by
 cases o with
 | none=>exact (show False from r).elim
 | some u=>exact ⟨u,rfl,r⟩
theorem j_.none_of {o:Option Value}(r:j_ none o):o=none:=by
 cases o with
 | none=>rfl
 | some u=>exact (show False from r).elim
theorem CF {v:V}{u:Value}(r:RelV v u):PySem.W.handedIn u=true:=by
 cases v with
 | non=>cases (show u=Value.none from r); rfl
 | bl b=>cases (show u=Value.bool b from r); rfl
 | int i=>obtain ⟨t,e⟩:=(show ∃t,u=Value.int i t from r); cases e; rfl
 | str x=>obtain ⟨t,e⟩:=(show ∃t,u=Value.str x t from r); cases e; rfl
 | byt b=>obtain ⟨t,e⟩:=(show ∃t,u=Value.bytes b t from r); cases e; rfl
 | flt b=>obtain ⟨t,e⟩:=(show ∃t,u=Value.float b t from r); cases e; rfl
 | ref a=>cases (show u=Value.ref a from r); rfl
 | ty n=>cases (show u=Value.type n from r); rfl
section
variable {P:bF}{w:World}{H H':Hp}{h h':Heap}{a C dx:Addr}{fs fs':List (Str×V)}
theorem qP {K:Za}(hok:lI P w K H h) (e:H a=some (.ins C dx fs)):∃mA,Aw h a dx C mA/\(∀f,j_ (fs.lookup f) (mA f))/\PySem.Within mA (fs.map (·.1))/\fs.length<=1000/\H dx=some (.own a):=by
 obtain ⟨d,z,ne,ob,mA,n,r,q⟩:=(show bO P w K H h a (.ins C dx fs) from hok a _ e);exact ⟨mA,⟨ob,n,ne⟩,r,q,z,d⟩
end
structure BM (K:Za) (C:Addr):Prop where
 pg:uh K C Str.empty=true
 hd:xh K C=true
 po:AL K C=true
 sa:c7 K (.ref C) "__setattr__"=some (some (.builtin "object.__setattr__"))
theorem BM.get {K:Za}{C:Addr}(c:BM K C) (f:Str):uh K C f=true:=c.pg
def dA (K:Za) (C:Addr) (f:Str):Prop:=c7 K (.ref C) f=some none
theorem dA.taker {K:Za}{C:Addr}{f:Str}(n:dA K C f):PySem.W.takerIn K C f=some none:=by
 unfold PySem.W.takerIn;rw [show c7 K (.ref C) f=some none from n]
 rfl
structure Ge (K:Za) (C:Addr) (m:Str) (f:Addr):Prop where
 at_:c7 K (.ref C) m=some (some (.ref f))
 fn:xg K (.ref f)=true
 kp:h_ K (.ref f)=true
section
variable {X:Cx}{J3:Zd}{σ:St}{H:Hp}{s:Shared}{a C dx:Addr}{fs:List (Str×V)}{f:Str}{v:V}{A:Around}{E:Zc}
theorem Ah {b:Bool}{Q:Zc}(I:Inv X J3 σ H s) (e:H a=some (.ins C dx fs)) (c:BM X.K C) (n:dA X.K C f) (l:fs.lookup f=some v)
  (h:∀u s',Inv X J3 σ H s'->RelV v u->Q u s'):wpAny (model X.prog X.w) A (getAttr (.ref a) f b) Q E s:=by
 obtain ⟨mA,O,r,_,_,_⟩:=qP I.hok e;obtain ⟨u,hu,ru⟩:=j_.some_of (v:=v) (o:=mA f) (by rw [<-l]; exact r f);exact FO I.kIn O (c.get f) c.hd n hu (CF ru) (h u _ (I.tok _) ru)
theorem sM {m:Str}{g:Addr}{pl:Sem Bool}{Q:Value×List Value->Shared->Prop}(I:Inv X J3 σ H s) (e:H a=some (.ins C dx fs)) (c:BM X.K C) (k:Ge X.K C m g) (l:fs.lookup m=none)
  (h:Q (.ref g,[.ref a]) s):wpAny (model X.prog X.w) A (pW (.ref a) m pl) Q E s:=by
 obtain ⟨mA,O,r,_,_,_⟩:=qP I.hok e;have hn:mA m=none:=j_.none_of (by rw [<-l]; exact r m);exact Em I.kIn O (c.get m) k.at_ k.fn hn h
theorem zE {y:V}{u:Value}{Q:Unit->Shared->Prop}(I:Inv X J3 σ H s) (e:H a=some (.ins C dx fs)) (c:BM X.K C) (n:dA X.K C f) (hl:fs.length<1000) (ry:RelV y u)
  (h:∀s',Inv X J3 σ (upd H a (.ins C dx (cn f y fs))) s'->Q () s'):wpAny (model X.prog X.w) A (setAttr (.ref a) f u) Q E s:=by
 obtain ⟨mA,O,r,wi,_,ho⟩:=qP I.hok e;have hz:(fs.map (·.1)).length<=aj:=by rw [ai,j5]; omega
 refine Fi I.kIn O c.sa c.po n.taker c.hd wi hz fun h' O' sb=>h _ ?_;have hd:∃o,h'.get? dx=some o:=let ⟨o,_,_,e',_⟩:=O'.ns; ⟨o,e'⟩;refine I.write (x:=a) (e:=dx) (by rw [e]; exact iD) (.inr ho) (fun b q hb z=>(sb.2 b hb).trans z) hd ?_;refine ⟨by rw [af O.ne]; exact ho,?_,O.ne,O'.obj,_,O'.ns,fun g=>?_,fun g hg=>?_⟩
 ·have:=qb f y fs; omega
 ·show j_ ((cn f y fs).lookup g) (if g=f then some u else mA g)
  rw [eo];by_cases q:g=f
  ·rw [if_pos q,if_pos q]; exact ry
  ·rw [if_neg q,if_neg q]; exact r g
 ·by_cases q:g=f
  ·rw [q]; exact (pE f y fs).1
  ·refine (pE f y fs).2 g (wi g fun z=>hg ?_);show (if g=f then some u else mA g)=none
   rw [if_neg q]; exact z
theorem Inv.made (I:Inv X J3 σ H s):Inv X J3 σ (upd (upd H s.heap.objs.size (.own (s.heap.objs.size+1))) (s.heap.objs.size+1) (.ins C s.heap.objs.size []))
  { s with heap:=(s.heap.push nB).push (p5 C s.heap.objs.size) }:=by
 have e1:(s.heap.push nB).get? s.heap.objs.size=some nB:=cr s.heap rfl;have e2:((s.heap.push nB).push (p5 C s.heap.objs.size)).get? (s.heap.objs.size+1)=some (p5 C s.heap.objs.size):=by
  have:=cr (s.heap.push nB) (o:=p5 C s.heap.objs.size) rfl;rwa [nA] at this
 have e3:(s.heap.push nB).Ns s.heap.objs.size (fun _=>none):=⟨nB,#[],_,e1,rfl,(fun e he=>absurd he (by simp)),fun _=>rfl⟩;have I1:=I.laid (a:=s.heap.objs.size) (o:=.own (s.heap.objs.size+1)) (h':=s.heap.push nB) (t':=s.toks) (fun b u q=>bd _ q) (aD _) ⟨_,e1⟩;refine I1.laid (a:=s.heap.objs.size+1) (o:=.ins C s.heap.objs.size []) (t':=s.toks) (fun b u q=>bd _ q) (Nat.le_of_eq (nA _ _)) ?_;have ne:s.heap.objs.size≠s.heap.objs.size+1:=cQ (Nat.lt_succ_self _);refine ⟨by rw [af ne,aa],c8 _,ne,e2,fun _=>none,(Heap.Ns1.of_empty e3).at fun o q=>bd _ q,fun _=>iD,fun y hy=>absurd rfl hy⟩
theorem FX {prog:bF}{w:World}{env:Env}{e:Expr}{f:Str}{pos:Pos}{s:Shared}{Q:Zc}(hb:qU e f env (eval e env)=eval e env)
  (h:wpAny (model prog w) A (eval e env) (fun o s₁=>wpAny (model prog w) A (getAttr o f true) Q E s₁) E s):wpAny (model prog w) A (eval (.Attribute e f pos) env) Q E s :=
 Attribute_any_ h (by rw [arm_eval_Attribute,hb])
end
def fD (K:Za) (ta:TE) (f:Str):TE:=fun σ H Q=>ta σ H fun x H1=>∃a C dx fs v,x=.ref a/\H1 a=some (.ins C dx fs)/\BM K C/\dA K C f/\fs.lookup f=some v/\Q v H1
def nS (K:Za) (ta tv:TE) (f:Str):TS:=fun D σ H=>tv σ H fun y H1=>ta σ H1 fun x H2=>∃a C dx fs,x=.ref a/\H2 a=some (.ins C dx fs)/\BM K C/\dA K C f/\fs.length<1000 /\
 D.nx σ (upd H2 a (.ins C dx (cn f y fs)))
section
variable {X:Cx}{o e value:Expr}{f:Str}{pos pos' J7:Pos}{ta tv:TE}
theorem bW (he:PE X e ta) (hb:qU e f X.env (eval e X.env)=eval e X.env):PE X (.Attribute e f pos) (fD X.K ta f):=by
 intro J3 s σ H Q I h;refine FX hb (cf (he J3 s σ H _ I h) fun u s1 ⟨x,H1,I1,rx,a,C,dx,fs,v,ex,ea,c,n,l,q⟩=>?_);subst ex;obtain rfl:u=Value.ref a:=rx;exact Ah I1 ea c n l fun u' s2 I2 ru=>⟨v,H1,I2,ru,q⟩
theorem fZ (ha:PE X o ta) (hv:PE X value tv) (hs:pY value (some (.Attribute o f pos')) pos.line X.env=pure false):PS X (.Assign [.Attribute o f pos'] value pos) (nS X.K ta tv f):=by
 intro J3 s σ H D I h;refine plainObj_wpAny_Assign_Attribute (cf (hv J3 s σ H _ I h) fun u s1 ⟨y,H1,I1,ry,q⟩=>cf (ha J3 s1 σ H1 _ I1 q) fun ov s2 ⟨x,H2,I2,rx,a,C,dx,fs,ex,ea,c,n,l,q2⟩=>?_) hs;subst ex;obtain rfl:ov=Value.ref a:=rx;exact zE I2 ea c n l ry fun s3 I3=>⟨σ,_,I3,q2⟩
end
section
variable {X:Cx}{J3:Zd}{σ:St}{H:Hp}{s:Shared}{A:Around}{E:Zc}{Q:Zc}{c:Value}{b:Bool}
inductive mQ (K:Za) (H:Hp):V->Value->Prop where
 | non:mQ K H .non (.type "NoneType")
 | bl (x:Bool):mQ K H (.bl x) (.type "bool")
 | int (i:Int):mQ K H (.int i) (.type "int")
 | str (x:Str):mQ K H (.str x) (.type "str")
 | flt (x:UInt64):mQ K H (.flt x) (.type "float")
 | lst {a:Addr}{xs:List V}(e:H a=some (.lst xs)):mQ K H (.ref a) (.type "list")
 | frz {a:Addr}{o:Obj}{xs:List V}(e:H a=some (.frz o (.lst xs))):mQ K H (.ref a) (.type "list")
 | tup {a:Addr}{xs:List V}(e:H a=some (.tup xs)):mQ K H (.ref a) (.type "tuple")
 | dK {a:Addr}{kvs:List (dX×V)}(e:H a=some (.dK kvs)):mQ K H (.ref a) (.type "dict")
 | dT {a:Addr}{kvs:List (TK×V)}(e:H a=some (.dT kvs)):mQ K H (.ref a) (.type "dict")
 | ins {a C dx:Addr}{fs:List (Str×V)}(e:H a=some (.ins C dx fs)) (cl:BM K C) (ha:c7 K (.ref C) "__class__"=some (some (.builtin "object.__class__")))
   (hn:PySem.W.specialIn K (.builtin "object.__class__") "__get__"=some (some (.builtin "getset_descriptor.__get__"))) (htk:PySem.W.takesIn K (.builtin "object.__class__")=some true)
   (hm:PySem.W.mroIn K C (.type "object")=some true):mQ K H (.ref a) (.ref C)
theorem Cz {x:V}{u t:Value}(I:Inv X J3 σ H s) (rx:RelV x u) (ty:mQ X.K H x t) (e:AK X.K t c=some b) (h:∀tk,Q (.bool b) { s with toks:=tk }) :
  wpAny (model X.prog X.w) A (call (.builtin "isinstance") [u,c]) Q E s:=by
 cases ty with
 | non=>cases (show u=Value.none from rx); exact i5 PySem.W.kitx_none I.kIn iD e (fun z=>nomatch z) h
 | bl y=>cases (show u=Value.bool y from rx); exact i5 PySem.W.kitx_bool I.kIn iD e (fun z=>nomatch z) h
 | int i=>obtain ⟨t,q⟩:=(show ∃t,u=Value.int i t from rx); cases q; exact i5 PySem.W.kitx_int I.kIn iD e (fun z=>nomatch z) h
 | str y=>obtain ⟨t,q⟩:=(show ∃t,u=Value.str y t from rx); cases q; exact i5 PySem.W.kitx_str I.kIn iD e (fun z=>nomatch z) h
 | flt y=>obtain ⟨t,q⟩:=(show ∃t,u=Value.float y t from rx); cases q; exact i5 PySem.W.kitx_float I.kIn iD e (fun z=>nomatch z) h
 | @lst a xs ea =>
  cases (show u=Value.ref a from rx);obtain ⟨_,_,n,_,h1⟩:=(show bO X.prog X.w X.K H s.heap a (.lst xs) from I.hok a _ ea);exact i5 PySem.W.kitx_list I.kIn ⟨_,h1,rfl⟩ e (fun z=>nomatch z) h
 | @frz a ob xs ea =>
  cases (show u=Value.ref a from rx);obtain ⟨_,_,_,n,_,h1⟩:=(show bO X.prog X.w X.K H s.heap a (.frz ob (.lst xs)) from I.hok a _ ea);exact i5 PySem.W.kitx_list I.kIn ⟨_,h1,rfl⟩ e (fun z=>nomatch z) h
 | @tup a xs ea =>
  cases (show u=Value.ref a from rx);obtain ⟨_,_,_,p⟩:=(show bO X.prog X.w X.K H s.heap a (.tup xs) from I.hok a _ ea);obtain ⟨o,h1,h2,_⟩:=p;exact i5 PySem.W.kitx_tuple I.kIn ⟨o,h1,h2⟩ e (fun z=>nomatch z) h
 | @dK a kvs ea =>
  cases (show u=Value.ref a from rx);obtain ⟨_,_,vs,_,p⟩:=(show bO X.prog X.w X.K H s.heap a (.dK kvs) from I.hok a _ ea);obtain ⟨o,es,ep,h1,h2,_⟩:=p;exact i5 PySem.W.kitx_dict I.kIn ⟨o,h1,h2.1⟩ e (fun z=>nomatch z) h
 | @dT a kvs ea =>
  cases (show u=Value.ref a from rx);obtain ⟨_,_,xs,_,o,es,ep,h1,h2,_⟩:=(show bO X.prog X.w X.K H s.heap a (.dT kvs) from I.hok a _ ea);exact i5 PySem.W.kitx_dict I.kIn ⟨o,h1,h2.1⟩ e (fun z=>nomatch z) h
 | @ins a C dx fs ea cl ha hn htk hm =>
  cases (show u=Value.ref a from rx);obtain ⟨mA,O,_⟩:=qP I.hok ea;obtain ⟨od,J,_⟩:=O.look;exact i5 (PySem.W.kitx_own (cl.get _) cl.hd ha hn htk hm) I.kIn J e (fun z=>nomatch z) h
end
end L2
namespace L2
open PySem PySem.Spec PyProof.Rows
structure eG (k:Nat) (A:Around):Prop where
 hd:A.handled=none
 dp:A.depth+3 * k+5<recursionLimit
 un:A.units+16 * k+200<cLine
theorem eG.mono {j k:Nat}{A:Around}(r:eG k A) (h:j<=k):eG j A:=⟨r.hd,by have:=r.dp; omega,by have:=r.un; omega⟩
theorem eG.deeper {k:Nat}{A:Around}(r:eG (k+1) A) (env:Env):eG k (A.deeper env) :=
 ⟨r.hd,by have:=r.dp; show A.depth+1+3 * k+5<_; omega,by have:=r.un; show A.units+3+16 * k+200<_; omega⟩
theorem z5 {A:Around}{C:Addr}{us:Zf}{kw:List (Str×Value)}:(A.under (.builtin "type.__call__" ⟨.ref C::us,kw⟩)).depth=A.depth+1:=by
 first | rfl | simp [Around.under,Code.weight,Code.isCreation,Code.isGuard,Code.isCaller,Code.frames,Code.isFrame,guardIds]
theorem z0 {A:Around}{C:Addr}{us:Zf}{kw:List (Str×Value)}:(A.under (.builtin "type.__call__" ⟨.ref C::us,kw⟩)).units=A.units+1:=by
 first | rfl | simp [Around.under,Code.cUnits,Code.frames,Code.isFrame]
theorem eG.make {k:Nat}{A:Around}(r:eG (k+1) A) (C:Addr) (us:Zf) (kw:List (Str×Value)):eG k (A.under (.builtin "type.__call__" ⟨.ref C::us,kw⟩)) :=
 ⟨r.hd,by have:=r.dp; rw [z5]; omega,by have:=r.un; rw [z0]; omega⟩
theorem eG.depth {k:Nat}{A:Around}(r:eG k A):A.depth<recursionLimit:=by have:=r.dp; omega
theorem eG.units {k:Nat}{A:Around}(r:eG k A):A.units+64<cLine:=by have:=r.un; omega
def bj:TA:=fun _ H Q=>Q [] H
def aq (ta:TE) (tr:TA):TA:=fun σ H Q=>ta σ H fun x H1=>tr σ H1 fun xs H2=>Q (x::xs) H2
abbrev aA (a:TE):TA:=aq a bj
abbrev aS (a b:TE):TA:=aq a (aq b bj)
abbrev eX (a b c:TE):TA:=aq a (aq b (aq c bj))
section
variable {X:Cx}{e:Expr}{es:List Expr}{te:TE}{t:TA}{pos:Pos}
theorem b_:PA X [] bj:=fun _ _ _ _ H Q I h=>Calls.spliced_nil ⟨[],H,I,.nil,h⟩
theorem bZ (ha:PE X e te) (hr:PA X es t) (hs:aI (e::es) X.env=(false,eval e X.env)::aI es X.env:=by rfl):PA X (e::es) (aq te t):=by
 intro pos J3 s σ H Q I h;rw [hs];show wpAny _ _ (spliced ((false,eval e X.env)::backTo pos (aI es X.env))) _ _ s;refine AJ (cf (ha J3 s σ H _ I h) fun u s1 ⟨x,H1,I1,r1,q1⟩=>?_);exact cf (hr pos J3 s1 σ H1 _ I1 q1) fun us s2 ⟨xs,H2,I2,r2,q2⟩=>⟨x::xs,H2,I2,.cons r1 r2,q2⟩
def bB (t:TA):TE:=fun σ H Q=>t σ H fun xs H1=>xs.length<=aj/\∀p,H1 p=none->Q (.ref p) (upd H1 p (.tup xs))
def cY (t:TA):TE:=fun σ H Q=>t σ H fun xs H1=>xs.length<=aj/\∀p,H1 p=none->Q (.ref p) (upd H1 p (.lst xs))
theorem aK {x1}(h:PA X es t):PE X (.Tuple es x1 pos) (bB t):=by
 intro J3 s σ H Q I hq;refine wpAny_Tuple_spliced (cf (h pos J3 s σ H _ I hq) fun us s1 ⟨xs,H1,I1,r,z,q⟩=>⟨by rw [<-r.length]; exact z,?_⟩);have hf:H1 s1.heap.objs.size=none:=I1.hok.fresh (aD _);refine ⟨.ref s1.heap.objs.size,upd H1 s1.heap.objs.size (.tup xs),I1.laid (t':=s1.toks) (fun b u e=>bd _ e) (aD _) ?_,rfl,q _ hf⟩;exact ⟨z,us,r,⟨_,cr _ rfl,rfl,_,rfl⟩⟩
theorem ba (h:PA X es t):PE X (.List es pos) (cY t):=by
 intro J3 s σ H Q I hq;refine wpAny_List_spliced (cf (h pos J3 s σ H _ I hq) fun us s1 ⟨xs,H1,I1,r,z,q⟩=>⟨by rw [<-r.length]; exact z,?_⟩);have hf:H1 s1.heap.objs.size=none:=I1.hok.fresh (aD _);refine ⟨.ref s1.heap.objs.size,upd H1 s1.heap.objs.size (.lst xs),I1.laid (t':=s1.toks) (fun b u e=>bd _ e) (aD _) ?_,rfl,q _ hf⟩;exact ⟨z,us,0,r,cr _ rfl⟩
end
abbrev Sp:=List V->Hp->VK->XK->Prop
abbrev C_:=List Env->Hp->Shared->XK->Value->Shared->Prop
structure AE (P:bF) (w:World) (K:Za) (mg:Str->Option Value) (base:Heap) (A:Around) (outer:List Env) (s:Shared) (H:Hp):Prop where
 frames:A.frames=some outer
 mod:Mod K mg base
 bs:∀b o,base.get? b=some o->s.heap.get? b=some o/\H b=none
 bsz:base.objs.size<=s.heap.objs.size
 funs:s.heap.FunFrames base outer
 frf:∀b∈C6 outer,H b=none
 hok:lI P w K H s.heap
 bare:nC s.gens
def CE (outer:List Env) (P:bF) (w:World) (K:Za) (H:Hp) (s:Shared) (Q:VK) (u:Value) (s':Shared):Prop :=
 ∃v H',s'.os=s.os/\nC s'.gens/\Un (C6 outer) [] H H' s.heap s'.heap/\lI P w K H' s'.heap/\RelV v u/\Q v H'
def CR (CX:C_) (outer:List Env) (P:bF) (w:World) (K:Za) (H:Hp) (s:Shared) (Q:VK) (E:XK) (r:Result) (s':Shared):Prop :=
 match r with
 | .ok (.ret u)=>CE outer P w K H s Q u s'
 | .ok _=>False
 | .error e=>CX outer H s E e s'
structure lU (P:bF) (w:World) (K:Za) (mg:Str->Option Value) (base:Heap) (CX:C_) (k:Nat) (f:Addr) (fd:kb) (ps:Zb) (sp:Sp):Prop where
 len:∀vs H Q E,sp vs H Q E->vs.length=ps.length
 run:∀(A:Around) (outer:List Env) (s:Shared) (H:Hp) (args:Args) (us:Zf) (vs:List V) (Q:VK) (E:XK),eG k A->AE P w K mg base A outer s H->qT s fd args (ps.zip us)->aV vs us->sp vs H Q E ->
  zzl77 (model P w) A (.call (.ref f) args) (CR CX outer P w K H s Q E) s
theorem AE.make {P:bF}{w:World}{K:Za}{mg:Str->Option Value}{base:Heap}{A:Around}{outer:List Env}{s:Shared}{H:Hp}(e:AE P w K mg base A outer s H) (C:Addr) (us:Zf) (kw:List (Str×Value)) :
  AE P w K mg base (A.under (.builtin "type.__call__" ⟨.ref C::us,kw⟩)) outer s H:=⟨by first | exact e.frames | (simpa [Around.under,Code.envs,Code.isFrame,pushEnvs] using e.frames),e.mod,e.bs,e.bsz,e.funs,e.frf,e.hok,e.bare⟩
section
variable {X:Cx}{J3:Zd}{σ:St}{H:Hp}{s s':Shared}
theorem Inv.env0 (I:Inv X J3 σ H s):AE X.prog X.w X.K X.mg X.base X.A X.stack s H :=
 ⟨I.ok.frames,I.ok.mod,I.bs,bP I.ok.bsz I.sz,I.stack,I.stkFree,I.hok,I.bare⟩
theorem Inv.after {Q:VK}{u:Value}(I:Inv X J3 σ H s) (h:CE X.stack X.prog X.w X.K H s Q u s'):EP X J3 σ Q u s':=by
 obtain ⟨v,H',os,bare,un,hok,r,q⟩:=h;obtain ⟨hh,g,d,t,os'⟩:=s';obtain rfl:os'=s.os:=os;exact ⟨v,H',I.call (h':=hh) (g':=g) (d':=d) (t':=t) (ch:=[]) un hok bare (fun b z=>absurd z (by simp)),r,q⟩
end
def Gj (sp:Sp) (dvs:List V) (E:XK) (t:TA):TE:=fun σ H Q=>t σ H fun vs H1=>sp (vs++dvs) H1 Q E
def c_ (C:Addr) (m:Str) (sp:Sp) (dvs:List V) (E:XK) (ta:TE) (t:TA):TE:=fun σ H Q=>ta σ H fun x H1=>∃a dx fs,x=.ref a/\H1 a=some (.ins C dx fs)/\fs.lookup m=none /\
 t σ H1 fun vs H2=>sp (x::(vs++dvs)) H2 Q E
def xA (C:Addr) (sp:Sp) (dvs:List V) (E:XK) (t:TA):TE:=fun σ H Q=>t σ H fun vs H1=>∀x dx,H1 x=none->H1 dx=none->dx≠x ->
 sp (.ref x::(vs++dvs)) (upd (upd H1 dx (.own x)) x (.ins C dx [])) (fun v H2=>v=.non/\Q (.ref x) H2) E
def Binds (K:Za) (fd:kb) (ps:Zb) (ds:Zf):Prop :=
 ∀(s:Shared) (us:Zf),K.In s.heap->(us++ds).length=ps.length->qT s fd ⟨us,[]⟩ (ps.zip (us++ds))
theorem Binds.all {K:Za}{fd:kb}{ps:Zb}(h:∀us:List Value,us.length=ps.length->bindArgs fd ⟨us,[]⟩=pure (ps.zip us)):Binds K fd ps []:=fun s us _ hl=>by
 rw [fV] at hl ⊢;exact .of_eq (h us hl)
def mT (CX:C_) (X:Cx) (E:XK):Prop:=∀(J3:Zd) (σ:St) (H:Hp) (s:Shared) (e:Value) (s':Shared),Inv X J3 σ H s->CX X.stack H s E e s'->X.xe e s'
section
variable {X:Cx}{CX:C_}{k:Nat}{f C:Addr}{fd:kb}{ps:Zb}{sp:Sp}{dvs:List V}{ds:Zf}{E:XK}{x m:Str}{p pos J5:Pos}{e o:Expr}{es:List Expr}{ta:TE}{t:TA}
theorem zF {J3:Zd}{σ:St}{H:Hp}{s:Shared}{Q:VK}{us:Zf}{vs:List V}(F:lU X.prog X.w X.K X.mg X.base CX k f fd ps sp) (hr:eG k X.A) (hb:Binds X.K fd ps ds) (hd:aV dvs ds) (hx:mT CX X E)
  (I:Inv X J3 σ H s) (r:aV vs us) (h:sp (vs++dvs) H Q E):wpAny (model X.prog X.w) X.A (call (.ref f) us) (EP X J3 σ Q) X.xe s:=by
 have r2:aV (vs++dvs) (us++ds):=r.append hd;have hl:(us++ds).length=ps.length:=by rw [<-r2.length]; exact F.len _ _ _ _ h
 refine wpAny_call (AI (F.run X.A X.stack s H ⟨us,[]⟩ (us++ds) (vs++dvs) Q E hr I.env0 (hb s us I.kIn hl) r2 h) fun r s' hq=>?_);cases r with
 | error e=>exact hx J3 σ H s e s' I hq
 | ok fl =>
  cases fl with
  | ret u=>exact I.after hq
  | next=>exact i6 hq
  | brk=>exact i6 hq
  | cont=>exact i6 hq
theorem FG (F:lU X.prog X.w X.K X.mg X.base CX k f fd ps sp) (hr:eG k X.A) (hg:Gl X x) (hm:X.mg x=some (.ref f)) (hk:h_ X.K (.ref f)=true) (hb:Binds X.K fd ps ds) (hd:aV dvs ds) (hx:mT CX X E)
  (ha:PA X (e::es) t) (hdb:(x == ("__debug__":Str))=false:=by decide) (he:aI (e::es) X.env=(false,eval e X.env)::aI es X.env:=by rfl) (hpl:(backTo pos (aI es X.env)).any (·.1)=false:=by rfl) :
  PE X (.Call (.Name x p) (e::es) [] pos) (Gj sp dvs E t):=by
 intro J3 s σ H Q I h;refine AH (ww I hg hm ?_ hdb);refine PySem.W.callWith_K (h₀:=X.base) I.ok.mod.kin hk (cf (ha pos J3 s σ H _ I h) fun us s1 ⟨vs,H1,I1,r,q⟩=>⟨I1.kIn,?_⟩) he hpl;exact zF F hr hb hd hx I1 r q
theorem FA {pl:Sem Bool}(he:PE X o ta) (c:BM X.K C) (hm:Ge X.K C m f) (F:lU X.prog X.w X.K X.mg X.base CX k f fd ps sp) (hr:eG k X.A) (hb:Binds X.K fd ps ds) (hd:aV dvs ds) (hx:mT CX X E) (ha:PA X (e::es) t)
  (hst:aI (e::es) X.env=(false,eval e X.env)::aI es X.env:=by rfl) (hpl:(backTo pos (aI es X.env)).any (·.1)=false:=by rfl)
  (ht:eval (.Call (.Attribute o m J5) (e::es) [] pos) X.env=(do
   let ov <- eval o X.env
   pZ J5.atName
   let (f,first) <- ke [ov] (pW ov m pl)
   ug pos f first (backTo pos (aI (e::es) X.env)) (nz pos (ny [] X.env))):=by rfl) :
  PE X (.Call (.Attribute o m J5) (e::es) [] pos) (c_ C m sp dvs E ta t):=by
 intro J3 s σ H Q I h;refine PySem.W.methodCall_KW (pl:=pl) (cf (he J3 s σ H _ I h) fun u s1 ⟨x,H1,I1,rx,a,dx,fs,ex,ea,l,q⟩=>?_) ht;subst ex;obtain rfl:u=Value.ref a:=rx;refine sM I1 ea c hm l ?_;refine PySem.W.callWith_K (first:=[.ref a]) (h₀:=X.base) I.ok.mod.kin hm.kp (cf (ha pos J3 s1 σ H1 _ I1 q) fun us s2 ⟨vs,H2,I2,r,q2⟩=>⟨I2.kIn,?_⟩) hst hpl
 exact zF (us:=.ref a::us) (vs:=.ref a::vs) F hr hb hd hx I2 (.cons rfl r) q2
theorem DQ {pl:Sem Bool}(he:PE X o ta) (c:BM X.K C) (hm:Ge X.K C m f) (F:lU X.prog X.w X.K X.mg X.base CX k f fd ps sp) (hr:eG k X.A) (hb:Binds X.K fd ps ds) (hd:aV dvs ds) (hx:mT CX X E)
  (ht:eval (.Call (.Attribute o m J5) [] [] pos) X.env=(do
   let ov <- eval o X.env
   pZ J5.atName
   let (f,first) <- ke [ov] (pW ov m pl)
   ug pos f first (backTo pos (aI [] X.env)) (nz pos (ny [] X.env))):=by rfl) :
  PE X (.Call (.Attribute o m J5) [] [] pos) (c_ C m sp dvs E ta bj):=by
 intro J3 s σ H Q I h;refine PySem.W.methodCall_KW (pl:=pl) (cf (he J3 s σ H _ I h) fun u s1 ⟨x,H1,I1,rx,a,dx,fs,ex,ea,l,q⟩=>?_) ht;subst ex;obtain rfl:u=Value.ref a:=rx;refine sM I1 ea c hm l ?_;exact PySem.W.callWith_K0 (first:=[.ref a]) I1.kIn hm.kp (zF (us:=[.ref a]) (vs:=[.ref a]) F hr hb hd hx I1 (.cons rfl .nil) q)
structure Mk (K:Za) (C f:Addr):Prop where
 makes:qV K C=true
 init:c7 K (.ref C) "__init__"=some (some (.ref f))
 fn:xg K (.ref f)=true
 kp:h_ K (.ref C)=true
theorem Dp {J3:Zd}{σ:St}{H:Hp}{s:Shared}{Q:VK}{us:Zf}{vs:List V}(M:Mk X.K C f) (F:lU X.prog X.w X.K X.mg X.base CX k f fd ps sp) (hr:eG (k+1) X.A) (hb:Binds X.K fd ps ds) (hd:aV dvs ds)
  (hx:mT CX X E) (I:Inv X J3 σ H s) (r:aV vs us)
  (h:∀x dx,H x=none->H dx=none->dx≠x->sp (.ref x::(vs++dvs)) (upd (upd H dx (.own x)) x (.ins C dx [])) (fun v H2=>v=.non/\Q (.ref x) H2) E) :
  wpAny (model X.prog X.w) X.A (call (.ref C) us) (EP X J3 σ Q) X.xe s:=by
 have hq:=h (s.heap.objs.size+1) s.heap.objs.size (I.hok.fresh (lX _)) (I.hok.fresh (aD _)) (cQ (Nat.lt_succ_self _));have I2:=Inv.made (C:=C) I;have r2:aV (V.ref (s.heap.objs.size+1)::(vs++dvs)) (Value.ref (s.heap.objs.size+1)::(us++ds)):=.cons rfl (r.append hd);have hl:(Value.ref (s.heap.objs.size+1)::us++ds).length=ps.length:=by
  have e:=r2.length;rw [F.len _ _ _ _ hq] at e;exact e.symm
 refine wpAny_call (Ea (f:=f) I.kIn M.makes M.init (beq_iff_eq.mp M.fn) (AI (F.run _ X.stack _ _ ⟨Value.ref (s.heap.objs.size+1)::us,[]⟩ (Value.ref (s.heap.objs.size+1)::(us++ds)) _ _ E (hr.make C us [])
  (I2.env0.make C us []) (hb _ (Value.ref (s.heap.objs.size+1)::us) I2.kIn hl) r2 hq) fun r s' hq'=>?_))
 cases r with
 | error e=>exact hx J3 σ _ _ e s' I2 hq'
 | ok fl =>
  cases fl with
  | ret u =>
   obtain ⟨v,H',I3,rv,ev,q3⟩:=I2.after hq';subst ev;exact ⟨rv,⟨V.ref (s.heap.objs.size+1),H',I3,rfl,q3⟩⟩
  | next=>exact i6 hq'
  | brk=>exact i6 hq'
  | cont=>exact i6 hq'
theorem FB (M:Mk X.K C f) (F:lU X.prog X.w X.K X.mg X.base CX k f fd ps sp) (hr:eG (k+1) X.A) (hg:Gl X x) (hm:X.mg x=some (.ref C)) (hb:Binds X.K fd ps ds) (hd:aV dvs ds) (hx:mT CX X E)
  (ha:PA X (e::es) t) (hdb:(x == ("__debug__":Str))=false:=by decide) (he:aI (e::es) X.env=(false,eval e X.env)::aI es X.env:=by rfl) (hpl:(backTo pos (aI es X.env)).any (·.1)=false:=by rfl) :
  PE X (.Call (.Name x p) (e::es) [] pos) (xA C sp dvs E t):=by
 intro J3 s σ H Q I h;refine AH (ww I hg hm ?_ hdb);refine PySem.W.callWith_K (h₀:=X.base) I.ok.mod.kin M.kp (cf (ha pos J3 s σ H _ I h) fun us s1 ⟨vs,H1,I1,r,q⟩=>⟨I1.kIn,?_⟩) he hpl;exact Dp M F hr hb hd hx I1 r q
end
structure jS (N P:Zb) (sc:Scope):Prop where
 kind:sc.kind=.function
 co:sc.isCoroutine=false
 gen:sc.isGenerator=false
 nd:N.Nodup
 pre:N.take P.length=P
 par:∀x∈P,sc.names.lookup x=some .local∨sc.names.lookup x=some .cell
 nofree:∀y∈sc.names,y.2≠.free
theorem uV {kindOf:Str->Option i4}{x:Str}:∀{binds:List (Str×Value)}{m:Str->Option Value},(∀v,(x,v)∉binds)->bindL kindOf binds m x=m x
 | [],_,_=>rfl
 | (n,v)::r,m,h=>by
  unfold bindL;rw [uV fun w hw=>h w (eO _ hw)];split
  ·have:x≠n:=by rintro rfl; exact h v cy
   simp [this]
  ·rfl
theorem uX {kindOf:Str->Option i4}{x:Str}:∀{binds:List (Str×Value)}{m:Str->Option Value},(∀v,(x,v)∉binds)->bindC kindOf binds m x=m x
 | [],_,_=>rfl
 | (n,v)::r,m,h=>by
  unfold bindC;rw [uX fun w hw=>h w (eO _ hw)];split
  ·rfl
  ·have:x≠n:=by rintro rfl; exact h v cy
   simp [this]
theorem uW {kindOf:Str->Option i4}{x:Str}{v:Value}:∀{P:Zb}{vs:Zf}{i:Nat}{m:Str->Option Value},P.Nodup->P[i]?=some x->vs[i]?=some v->kindOf x=some .local ->
  bindL kindOf (P.zip vs) m x=some v
 | [],_,_,_,_,h,_,_=>by simp at h
 | _::_,[],_,_,_,_,h,_=>by simp at h
 | p::P,w::vs,0,m,nd,h1,h2,hk=>by
  simp at h1 h2; subst h1; subst h2;show bindL kindOf ((p,w)::P.zip vs) m p=_;unfold bindL;rw [uV fun v hv=>(lW.mp nd).1 (List.of_mem_zip hv).1,if_pos hk];simp
 | p::P,w::vs,i+1,m,nd,h1,h2,hk=>by
  show bindL kindOf ((p,w)::P.zip vs) m x=_;unfold bindL;exact uW (i:=i) (lW.mp nd).2 (by simpa using h1) (by simpa using h2) hk
theorem uY {kindOf:Str->Option i4}{x:Str}{v:Value}:∀{P:Zb}{vs:Zf}{i:Nat}{m:Str->Option Value},P.Nodup->P[i]?=some x->vs[i]?=some v->kindOf x≠some .local ->
  bindC kindOf (P.zip vs) m x=some v
 | [],_,_,_,_,h,_,_=>by simp at h
 | _::_,[],_,_,_,_,h,_=>by simp at h
 | p::P,w::vs,0,m,nd,h1,h2,hk=>by
  simp at h1 h2; subst h1; subst h2;show bindC kindOf ((p,w)::P.zip vs) m p=_;unfold bindC;rw [uX fun v hv=>(lW.mp nd).1 (List.of_mem_zip hv).1,if_neg hk];simp
 | p::P,w::vs,i+1,m,nd,h1,h2,hk=>by
  show bindC kindOf ((p,w)::P.zip vs) m x=_;unfold bindC;exact uY (i:=i) (lW.mp nd).2 (by simpa using h1) (by simpa using h2) hk
def start (N:Zb) (vs:List V):St:=vs.map some++List.replicate (N.length-vs.length) none
def Ao (CX:C_) (P:bF) (w:World) (K:Za) (mg:Str->Option Value) (base:Heap) (N:Zb) (qual:Str) (scope:Scope) (f:Addr) (cd:Value) (A:Around) (outer:List Env) (s:Shared) (H:Hp) (E:XK):Cx where
 prog:=P
 w:=w
 K:=K
 mg:=mg
 base:=base
 A:=A.deeper (envOfC qual scope s.heap.objs.size f cd)
 N:=N
 s₀:=s
 H₀:=H
 env:=envOfC qual scope s.heap.objs.size f cd
 outer:=outer
 stack:=envOfC qual scope s.heap.objs.size f cd::outer
 ex:=[]
 calm:=true
 fn:=fun _=>true
 pn:=[]
 xe:=fun e s'=>wpAny (model P w) (A.deeper (envOfC qual scope s.heap.objs.size f cd)) (leaving (envOfC qual scope s.heap.objs.size f cd) e) (fun _ s''=>CX outer H s E e s'') (fun e' s''=>CX outer H s E e' s'') s'
theorem yL {sc:Scope}{n:Nat}{x:Str}(h:sc.names.lookup x=some .cell):∃c,(cellsFrom n sc.names []).lookup x=some c:=by
 have q:=PySem.W.cellsFrom_some sc.names n [] (.inl h);exact AG.mp q
theorem CB {CX:C_}{P:bF}{w:World}{K:Za}{mg:Str->Option Value}{base:Heap}{N ps:Zb}{qual:Str}{scope:Scope}{f:Addr}{cd:Value}{A:Around}{outer:List Env}{s s1:Shared}{H:Hp}{E:XK}{us:Zf}{vs:List V}
  (S:jS N ps scope) (hd:A.handled=none) (e0:AE P w K mg base A outer s H) (hl:vs.length=ps.length) (r:aV vs us)
  (x:InCallC s s.heap.objs.size (bindL (envOfC qual scope s.heap.objs.size f cd).kindOf (ps.zip us) fun _=>none) (cellsFrom (s.heap.objs.size+1) scope.names []) (bindC (envOfC qual scope s.heap.objs.size f cd).kindOf (ps.zip us) fun _=>none) s1) :
  Inv (Ao CX P w K mg base N qual scope f cd A outer s H E) [] (start N vs) H s1:=by
 have hpl:ps.length<=N.length:=by have:=congrArg List.length S.pre; rw [aJ] at this; omega
 obtain ⟨h1,tk,rfl,hk⟩:=x.done;have noA:∀b:Addr,b∉(Ao CX P w K mg base N qual scope f cd A outer s H E).ex:=fun b z=>absurd (show b∈([]:Ze) from z) (by simp);refine ⟨⟨e0.mod,S.kind,rfl,rfl,aD _,fun y z c h1 h2=>?_,fun y hy=>?_,fun y c _ h=>?_,fun _=>hd,Around.frames_deeper e0.frames,.inr ⟨rfl,rfl⟩,fun b z=>absurd z (noA b),e0.bs,e0.bsz,fun b _ _=>noA b,fun b z=>absurd z (noA b),e0.funs,e0.frf⟩,
  rfl,e0.bare,Un.kept hk,⟨_,x.toInCall.ns,fun i y v h1 h2 h3=>?_⟩,fun y c h=>⟨_,x.cell y c h⟩,e0.hok.fresh (aD _),fun y c h=>?_,fun p hp=>absurd (show p∈([]:Zd) from hp) (by simp),e0.hok.kept hk,?_⟩
 ·exact name_of_addr x.apart (rL h1) (rL h2)
 ·have hy:scope.names.lookup y=some .cell∨scope.names.lookup y=some .free:=hy;rcases hy with hy | hy
  ·exact yL hy
  ·exact absurd rfl (S.nofree _ (rL hy))
 ·exact dR (x.above y c (rL h))
 ·have hi:i<vs.length:=by
   unfold start at h2;by_cases hi:i<vs.length
   ·exact hi
   ·rw [kB (by simpa using hi)] at h2;rw [List.getElem?_replicate] at h2;split at h2 <;> cases h2
  have ha:vs[i]?=some v:=by
   unfold start at h2;rw [cS (by simpa using hi),bQ] at h2;cases e:vs[i]? with
   | none=>rw [e] at h2; cases h2
   | some a=>rw [e] at h2; cases h2; rfl
  obtain ⟨u,hu,rv⟩:=r.get ha;have hp:ps[i]?=some y:=by
   rw [<-S.pre,List.getElem?_take_of_lt (by omega)]; exact h1
  have ndP:ps.Nodup:=by rw [<-S.pre]; exact S.nd.sublist (List.take_sublist _ _)
  refine ⟨u,rv,?_⟩;rcases S.par y (aO hp) with k | k
  ·exact .inl ⟨k,uW ndP hp hu k⟩
  ·obtain ⟨c,e⟩:=yL (n:=s.heap.objs.size+1) k;refine .inr ⟨.inl k,c,e,?_⟩;have q:=x.cell y c e;rw [uY ndP hp hu (by show scope.names.lookup y≠_; rw [k]; decide)] at q;exact q
 ·exact e0.hok.fresh (dR (x.above y c (rL h)))
 ·unfold start;show _=N.length;rw [ax,ai,List.length_replicate];omega
theorem Ht {CX:C_}{P:bF}{w:World}{K:Za}{mg:Str->Option Value}{base:Heap}{k:Nat}{f:Addr}{name qual:Str}{params:Arguments}{body:List Stmt}{scope:Scope}{dV kV doc pm cdv ct oc:Value}{an od:Option Addr}
  {osl:Array (Option Value)}{N ps:Zb}{sp:Sp}(lk:K.lookup f=some ⟨oc,od,.func (ii name qual params body scope dV kV doc pm an cdv ct),osl⟩) (hcd:mB K cdv qual=true) (S:jS N ps scope)
  (len:∀vs H Q E,sp vs H Q E->vs.length=ps.length)
  (hbody:∀(A:Around) (outer:List Env) (s:Shared) (H:Hp) (vs:List V) (Q:VK) (E:XK),eG k (A.deeper (envOfC qual scope s.heap.objs.size f cdv))->sp vs H Q E ->
   ∃t,y3 (Ao CX P w K mg base N qual scope f cdv A outer s H E) body t/\t (bC Q) (start N vs) H) :
  lU P w K mg base CX (k+1) f (ii name qual params body scope dV kV doc pm an cdv ct) ps sp:=by
 refine ⟨len,fun A outer s H args us vs Q E hr e0 hb r hsp=>?_⟩;have hl:=len _ _ _ _ hsp;have KX:K.In s.heap:=e0.mod.kin.keeps fun b o e=>(e0.bs b o e).1;have lim:s.heap.NoLimit:=e0.mod.nolimit.keeps fun b o e=>(e0.bs b o e).1;have hkind:∀y∈ps.zip us,scope.names.lookup y.1=some .local∨(scope.names.lookup y.1=some .cell/\((cellsFrom (s.heap.objs.size+1) scope.names []).lookup y.1).isSome=true):=fun ⟨n,v⟩ hy=>by
  rcases S.par n (List.of_mem_zip hy).1 with q | q
  ·exact .inl q
  ·exact .inr ⟨q,PySem.W.cellsFrom_some _ _ _ (.inl q)⟩
 refine codeAny_call_function hr.depth (KX _ _ lk) rfl S.co S.gen rfl (PySem.W.codeRec_of KX hcd) (hb _ _ _ _ ?_);refine wpAny_newFunctionEnv_cells S.kind hkind fun env he s1 x=>?_;subst he;refine ⟨lim.keeps x.toInCall.keep,codeAny_func ?_⟩;obtain ⟨t,ht,hq⟩:=hbody A outer s H vs Q E (hr.deeper _) hsp;have I:Inv (Ao CX P w K mg base N qual scope f cdv A outer s H E) [] (start N vs) H s1:=CB S hr.hd e0 hl r x;refine i7 (ht [] s1 (start N vs) H _ I hq) (fun fl s' hs=>?_) fun e s' hs=>hs;have fin:∀{σ':St}{H':Hp}{v:V}{u:Value},Inv (Ao CX P w K mg base N qual scope f cdv A outer s H E) [] σ' H' s'->RelV v u->Q v H'->CE outer P w K H s Q u s' :=
  fun {σ' H' v u} J rv q=>⟨v,H',J.os,J.bare,J.base,J.hok,rv,q⟩
 cases fl with
 | ret u =>
  obtain ⟨v,σ',H',J,rv,q⟩:=hs;exact fin J rv q
 | next =>
  obtain ⟨σ',H',J,q⟩:=hs;exact fin (v:=V.non) (u:=Value.none) J rfl q
 | brk =>
  obtain ⟨_,_,_,q⟩:=hs;exact i6 q
 | cont =>
  obtain ⟨_,_,_,q⟩:=hs;exact i6 q
end L2
namespace L2
open PySem PySem.Spec PyProof.Rows
section
variable {X:Cx}{x:Str}{p pos:Pos}{e:Expr}{es:List Expr}{t:TA}{id T:String}{r:List V->Hp->VK->Prop}
def eZ (r:List V->Hp->VK->Prop) (t:TA):TE:=fun σ H Q=>t σ H fun vs H1=>r vs H1 Q
theorem xW (hc:fN X (.builtin id) r) (hg:Gl X x) (hm:X.mg x=none) (hv:kg x=some (.builtin id)) (ha:PA X (e::es) t) (hn:x≠"__name__":=by decide) (hdb:(x == ("__debug__":Str))=false:=by decide)
  (he:aI (e::es) X.env=(false,eval e X.env)::aI es X.env:=by rfl) (hpl:(backTo pos (aI es X.env)).any (·.1)=false:=by rfl):PE X (.Call (.Name x p) (e::es) [] pos) (eZ r t):=by
 intro J3 s σ H Q I h;refine AH (pD I hg hm hv ?_ hn hdb);exact PyProof.Rows.callWith_builtin1 (cf (ha pos J3 s σ H _ I h) fun us s1 ⟨vs,H1,I1,r1,q1⟩=>hc J3 s1 σ H1 vs us Q I1 r1 q1) he hpl
theorem lr (hc:fN X (.type T) r) (hg:Gl X x) (hm:X.mg x=none) (hv:kg x=some (.type T)) (ha:PA X (e::es) t) (hn:x≠"__name__":=by decide) (hdb:(x == ("__debug__":Str))=false:=by decide)
  (he:aI (e::es) X.env=(false,eval e X.env)::aI es X.env:=by rfl) (hpl:(backTo pos (aI es X.env)).any (·.1)=false:=by rfl):PE X (.Call (.Name x p) (e::es) [] pos) (eZ r t):=by
 intro J3 s σ H Q I h;refine AH (pD I hg hm hv ?_ hn hdb);exact AN (cf (ha pos J3 s σ H _ I h) fun us s1 ⟨vs,H1,I1,r1,q1⟩=>hc J3 s1 σ H1 vs us Q I1 r1 q1) he hpl
end
end L2
namespace HT
open PySem PyProof.Rows
def lexLt:List Int->List Int->Bool
 | [],[]=>false
 | [],_::_=>true
 | _::_,[]=>false
 | x::xs,y::ys=>if x=y then lexLt xs ys else decide (x<y)
theorem lexLt_cons (x y:Int) (xs ys:List Int):lexLt (x::xs) (y::ys)=if x=y then lexLt xs ys else decide (x<y):=rfl
theorem eqAt_int (A:Around) (s:Shared) (a:Int) (t:Tok) (c:Int) (u:Tok):∃e,bA A s (.int a t) (.int c u) e/\(e=true↔a=c) :=
 ⟨(a == c),bA.int_int a t c u,by simp⟩
theorem rcLt_int (A:Around) (s:Shared) (a:Int) (t:Tok) (c:Int) (u:Tok) (prog:bF) (w:World) (E:Zc) (Q:Zc) (h:Q (.bool (decide (a<c))) s) :
  wpAny (model prog w) A (richCompare .Lt (.int a t) (.int c u)) Q E s :=
 (PyProof.Rows.lt_int h:wpAny (model prog w) A (dY .Lt (.int a t) (.int c u)) Q E s)
section
variable {prog:bF}{w:World}{A:Around}{E:Zc}{s:Shared}
def sIx (n d:Nat):Option Int->Nat
 | none=>d
 | some v=>if v<0 then (v+(n:Int)).toNat else min v.toNat n
theorem sIx_none (n d:Nat):sIx n d none=d:=rfl
theorem sIx_nat (n d k:Nat):sIx n d (some (k:Int))=min k n:=by
 show (if (k:Int)<0 then ((k:Int)+(n:Int)).toNat else min (k:Int).toNat n)=min k n
 rw [if_neg (by omega),iR]
theorem sIx_le (n d:Nat) (hd:d<=n) (o:Option Int):sIx n d o<=n:=by
 cases o with
 | none=>exact hd
 | some v =>
  show (if v<0 then (v+(n:Int)).toNat else min v.toNat n)<=n
  by_cases hv:v<0
  ·rw [if_pos hv]; omega
  ·rw [if_neg hv]; exact Nat.min_le_right _ _
theorem clip_eq (v:Int) (n d:Nat):(if v<0 then max (v+(n:Int)) 0 else min v (n:Int))=((sIx n d (some v):Nat):Int):=by
 show (if v<0 then max (v+(n:Int)) 0 else min v (n:Int))=(((if v<0 then (v+(n:Int)).toNat else min v.toNat n):Nat):Int)
 by_cases hv:v<0
 ·simp only [if_pos hv]; omega
 ·simp only [if_neg hv]; omega
end
end HT
namespace L2
open PySem PySem.Spec PyProof.Rows
abbrev TO:=St->Hp->(Option Int->Hp->Prop)->Prop
def PO (X:Cx) (e:Option Expr) (t:TO):Prop :=
 ∀(J3:Zd) (s:Shared) (σ:St) (H:Hp) (Q:Option Int->Hp->Prop),Inv X J3 σ H s->t σ H Q ->
  wpAny (model X.prog X.w) X.A (evalPart e X.env) (fun u s'=>∃o H',Inv X J3 σ H' s'/\IsPart u o/\Q o H') X.xe s
def fC:TO:=fun _ H Q=>Q none H
def gy (t:TE):TO:=fun σ H Q=>t σ H fun x H1=>∃i,x=.int i/\Q (some i) H1
theorem intsAre_of {ns:List Int}:∀{us:Zf},aV (ns.map V.int) us->fB us ns:=by
 induction ns with
 | nil=>intro us r; rw [vO] at r; cases r; exact .nil
 | cons n ns ih =>
  intro us r;rw [aZ] at r;cases r with
  | cons r1 r2 =>
   obtain ⟨t,e⟩:=r1;subst e;exact .cons n t (ih r2)
section
variable {X:Cx}{e:Expr}{te:TE}{lo hi:Option Expr}{tl th:TO}{pos p2:Pos}
theorem gv:PO X none fC:=by
 intro J3 s σ H Q I h;rw [evalPart_none];exact aG ⟨none,H,I,.none,h⟩
theorem cZ (h:PE X e te):PO X (some e) (gy te):=by
 intro J3 s σ H Q I hw;rw [evalPart_some];refine cf (h J3 s σ H _ I hw) fun u s1 ⟨x,H1,I1,r1,q1⟩=>?_;obtain ⟨i,rfl,q⟩:=q1;obtain ⟨t,rfl⟩:=r1;exact ⟨some i,H1,I1,.int i t,q⟩
def SlR (X:Cx) (r:V->Option Int->Option Int->Hp->VK->Prop):Prop :=
 ∀(J3:Zd) (s:Shared) (σ:St) (H:Hp) (x:V) (v vl vu:Value) (lo hi:Option Int) (sl:Addr) (Q:VK),Inv X J3 σ H s->RelV x v->s.heap.IsSliceOf sl vl vu .none->IsPart vl lo->IsPart vu hi->r x lo hi H Q ->
  ∃T id,typeLookup (.type T) "__getitem__"=pure (some (.builtin id))/\s.TypeIs v T/\wpAny (model X.prog X.w) X.A (mz v (.ref sl)) (EP X J3 σ Q) X.xe s
def A0 (r:V->Option Int->Option Int->Hp->VK->Prop) (te:TE) (tl th:TO):TE:=fun σ H Q=>te σ H fun x H1=>tl σ H1 fun l H2=>th σ H2 fun u H3=>r x l u H3 Q
theorem db {r:V->Option Int->Option Int->Hp->VK->Prop}(hr:SlR X r) (he:PE X e te) (hl:PO X lo tl) (hu:PO X hi th):PE X (.Subscript e (.Slice lo hi none p2) pos) (A0 r te tl th):=by
 intro J3 s σ H Q I h;refine Subscript_ (cf (he J3 s σ H _ I h) fun v s1 ⟨x,H1,I1,r1,q1⟩=>?_);refine wpAny_Slice (cf (hl J3 s1 σ H1 _ I1 q1) fun vl s2 ⟨l,H2,I2,pl,q2⟩=>cf (hu J3 s2 σ H2 _ I2 q2) fun vu s3 ⟨u,H3,I3,pu,q3⟩=>?_);rw [evalPart_none];refine aG ?_;have I4:Inv X J3 σ H3 { s3 with heap:=s3.heap.push { cls:=.type "slice",data:=.fields #[vl,vu,.none] } }:=I3.kept (t':=s3.toks) fun b ob q=>bd _ q;obtain ⟨T,id,hT,ht,hg⟩:=hr J3 { s3 with heap:=s3.heap.push { cls:=.type "slice",data:=.fields #[vl,vu,.none] } } σ H3 x v vl vu l u s3.heap.objs.size Q I4 r1 (Heap.IsSliceOf.new ..) pl pu q3;show wpAny (model X.prog X.w) X.A (subscriptTail e (.Slice lo hi none p2) v (.ref s3.heap.objs.size)) (EP X J3 σ Q) X.xe { s3 with heap:=s3.heap.push { cls:=.type "slice",data:=.fields #[vl,vu,.none] } };exact tail_any (ops:=[.ref s3.heap.objs.size,v]) ht hT hg (by with_unfolding_all rfl)
def gF (xs:List V) (lo hi:Option Int):List V:=(xs.drop (HT.sIx xs.length 0 lo)).take (HT.sIx xs.length xs.length hi-HT.sIx xs.length 0 lo)
theorem yH (xs:List V) (lo hi:Option Int):(gF xs lo hi).length<=xs.length:=by
 unfold gF;rw [aJ,fA];omega
end
end L2
namespace L2
open PySem PySem.Spec PyProof.Rows
def ES (n:Nat) (i:Int):Option Nat:=if 0<=i then (if i<n then some i.toNat else none) else if -(n:Int)<=i then some (i+n).toNat else none
def pI {α:Type}(xs:List α) (i:Int):Option α:=(ES xs.length i).bind fun j=>xs[j]?
theorem wE {n:Nat}{i:Int}{j:Nat}(h:ES n i=some j):vN i n=some j/\j<n/\-(n:Int)<=i/\i<n:=by
 unfold ES at h;by_cases h0:0<=i
 ·rw [if_pos h0] at h;by_cases h1:i<n
  ·rw [if_pos h1] at h;have e:i.toNat=j:=eI h;exact ⟨by rw [seqIndex_of h0 h1,e],by omega,by omega,h1⟩
  ·rw [if_neg h1] at h; cases h
 ·rw [if_neg h0] at h;by_cases h1:-(n:Int)<=i
  ·rw [if_pos h1] at h;have e:(i+n).toNat=j:=eI h;exact ⟨by rw [seqIndex_neg (by omega) h1,e],by omega,h1,by omega⟩
  ·rw [if_neg h1] at h; cases h
theorem wT {α:Type}{xs:List α}{i:Int}{v:α}(h:pI xs i=some v):∃j,vN i xs.length=some j/\xs[j]?=some v/\j<xs.length/\-(xs.length:Int)<=i/\i<xs.length:=by
 unfold pI at h;cases e:ES xs.length i with
 | none=>rw [e] at h; cases h
 | some j =>
  rw [e] at h;obtain ⟨h1,h2,h3,h4⟩:=wE e;exact ⟨j,h1,h,h2,h3,h4⟩
theorem bc {α:Type}{xs:List α}{j:Nat}{v:α}(h:xs[j]?=some v):pI xs (j:Int)=some v:=by
 have hj:j<xs.length:=(bE.mp h).1;have e:ES xs.length (j:Int)=some j:=by
  unfold ES;rw [if_pos (by omega),if_pos (by omega)]; simp
 unfold pI; rw [e]; exact h
def F_ (b:Expr):Prop:=∀o i,vM b false o i=operate [o,i] (mz o i)
def Gf (X:Cx) (r:R2):Prop :=
 ∀(value slice:Expr) (J3:Zd) (s:Shared) (σ:St) (H:Hp) (x y:V) (v u:Value) (Q:VK),Inv X J3 σ H s->RelV x v->RelV y u->r x y H Q ->
  vM slice false v u=operate [v,u] (mz v u)->wpAny (model X.prog X.w) X.A (subscriptTail value slice v u) (EP X J3 σ Q) X.xe s
def MtR (X:Cx) (id:String) (r:V->List V->Hp->VK->Prop):Prop :=
 ∀(J3:Zd) (s:Shared) (σ:St) (H:Hp) (x:V) (xs:List V) (v:Value) (us:Zf) (Q:VK),Inv X J3 σ H s->RelV x v->aV xs us->r x xs H Q ->
  wpAny (model X.prog X.w) X.A (call (.builtin id) (v::us)) (EP X J3 σ Q) X.xe s
section
variable {X:Cx}{a b:Expr}{ta tb:TE}{pos:Pos}
theorem Gf.or {r r':R2}(h:Gf X r) (h':Gf X r'):Gf X (fun x y H Q=>r x y H Q∨r' x y H Q):=by
 intro value slice J3 s σ H x y v u Q I rx ry q hs;rcases q with q | q
 ·exact h value slice J3 s σ H x y v u Q I rx ry q hs
 ·exact h' value slice J3 s σ H x y v u Q I rx ry q hs
theorem Bg {r:R2}(hr:Gf X r) (ha:PE X a ta) (hb:PE X b tb) (hs:F_ b):PE X (.Subscript a b pos) (aL r ta tb):=by
 intro J3 s σ H Q I h;exact Subscript_ (G4 ha hb I h fun v u s2 x y H2 I2 rx ry q=>hr a b J3 s2 σ H2 x y v u Q I2 rx ry q (hs _ _))
def cT (K:Za):R2:=fun x y H Q=>∃p xs i v,x=.ref p/\y=.int i/\aB K H p xs/\pI xs i=some v/\Q v H
def jH (K:Za):R2:=fun x y H Q=>∃p xs i v,x=.ref p/\y=.int i/\bL K H p xs/\pI xs i=some v/\Q v H
def DF:R2:=fun x y H Q=>∃z i c,x=.str z/\y=.int i/\z.length<=aj/\pI z.cps.toList i=some c/\Q (.str ⟨#[c]⟩) H
theorem Bv:Gf X (cT X.K):=by
 intro value slice J3 s σ H x y v u Q I rx ry h hs;obtain ⟨p,xs,i,z,rfl,rfl,hq,he,q⟩:=h;cases rx;obtain ⟨t,rfl⟩:=ry;obtain ⟨its,r,pl,hz⟩:=I.list hq;obtain ⟨j,h1,h2,h3,h4,h5⟩:=wT he;obtain ⟨w,ew,rw'⟩:=r.get h2;have hl:=r.length;have hn:=pC;have fin:EP X J3 σ Q w s:=⟨z,H,I,rw',q⟩;by_cases h0:0<=i
 ·have hj:i.toNat=j:=by
   rw [seqIndex_of h0 h5] at h1;exact eI h1
  exact item_listR pl.isList h0 (by omega) (by rw [hj]; simpa using ew) fin hs
 ·have hj:(i+(its.toArray.size:Int)).toNat=j:=by
   rw [seqIndex_neg (by omega) h4] at h1;rw [bt,<-hl];exact eI h1
  exact subscriptTail_builtinR (x:=w) pl.isList.typeIs slot_list_getitem.lookup
   (wpAny_getItem_list_neg (Q:=fun r s'=>r=w/\EP X J3 σ Q r s') pl.isList (by omega) (by rw [bt] <;> omega) (by omega) (by rw [hj]; simpa using ew) ⟨rfl,fin⟩) hs
theorem Eh:Gf X (jH X.K):=by
 intro value slice J3 s σ H x y v u Q I rx ry h hs;obtain ⟨p,xs,i,z,rfl,rfl,hq,he,q⟩:=h;cases rx;obtain ⟨t,rfl⟩:=ry;obtain ⟨its,r,pl,hz⟩:=I.tuple hq;obtain ⟨j,h1,h2,h3,h4,h5⟩:=wT he;obtain ⟨w,ew,rw'⟩:=r.get h2;have hl:=r.length;have hn:=pC;have fin:EP X J3 σ Q w s:=⟨z,H,I,rw',q⟩;exact subscriptTail_builtinR (x:=w) pl.typeIs slot_tuple_getitem.lookup
  (getItem_tuple (j:=j) (Q:=fun r s'=>r=w/\EP X J3 σ Q r s') pl (by omega) (by omega) (by rw [bt,<-hl]; exact h1) (by simpa using ew) ⟨rfl,fin⟩) hs
theorem Ei:Gf X DF:=by
 intro value slice J3 s σ H x y v u Q I rx ry h hs;obtain ⟨z,i,c,rfl,rfl,hz,he,q⟩:=h;obtain ⟨t,rfl⟩:=rx;obtain ⟨t',rfl⟩:=ry;obtain ⟨j,h1,h2,h3,h4,h5⟩:=wT he;have hl:z.cps.toList.length=z.length:=by simp [Str.length]
 rw [hl] at h1 h4 h5;have hn:=pC;exact tail_any (typeIs_str s z t) slot_str_getitem.lookup (getItem_str (c:=c) (by
  have e1:decide (i < -(2 ^ 63:Int))=false:=zzr0 (by omega);have e2:decide (i ≥ 2 ^ 63)=false:=zzr0 (by omega);rw [e1,e2,Bool.or_false]) (by rw [h1]; simpa using h2) ⟨.str ⟨#[c]⟩,H,I.tok _,⟨_,rfl⟩,q⟩) hs
def uy (K:Za):R2:=fun x y H Q=>cT K x y H Q∨jH K x y H Q∨DF x y H Q
theorem GX:Gf X (uy X.K):=Bv.or (Eh.or Ei)
theorem zZ (its:Zf) (n j:Nat) (u:Value):rK (·.setIfInBounds j u) { cls:=.type "list",data:=.seq its.toArray n }={ cls:=.type "list",data:=.seq (its.set j u).toArray n }:=by
 simp [rK]
theorem Inv.lst {J3:Zd}{σ:St}{H:Hp}{s:Shared}{p:Addr}{xs:List V}(I:Inv X J3 σ H s) (h:H p=some (.lst xs)) :
  ∃(its:Zf) (n:Nat),aV xs its/\s.heap.get? p=some { cls:=.type "list",data:=.seq its.toArray n }/\xs.length<=aj:=by
 obtain ⟨z,its,n,r,e⟩:=I.hok p _ h;exact ⟨its,n,r,e,z⟩
theorem Inv.lstUpd {J3:Zd}{σ:St}{H:Hp}{s:Shared}{p:Addr}{xs ys:List V}{its its':Zf}{n n':Nat}{f:Obj->Obj}(I:Inv X J3 σ H s) (h:H p=some (.lst xs))
  (ho:s.heap.get? p=some { cls:=.type "list",data:=.seq its.toArray n }) (hf:f { cls:=.type "list",data:=.seq its.toArray n }={ cls:=.type "list",data:=.seq its'.toArray n' }) (r:aV ys its') (hz:ys.length<=aj) (t:Nat) :
  Inv X J3 σ (upd H p (.lst ys)) { s with heap:=s.heap.update p f,toks:=t }:=by
 have e:(s.heap.update p f).get? p=some { cls:=.type "list",data:=.seq its'.toArray n' }:=by
  rw [vL f ho (by rw [hf] <;> rfl),hf]
 refine I.write (x:=p) (e:=p) (by rw [h]; trivial) (.inl rfl) (fun b u hb q=>(Heap.get?_update_other _ _ (c9 hb)).trans q) ⟨_,e⟩ ?_;exact ⟨hz,its',n',r,e⟩
def sr:V->V->V->Hp->(Hp->Prop)->Prop:=fun o i v H Q=>∃p xs k j,o=.ref p/\i=.int k/\H p=some (.lst xs)/\ES xs.length k=some j/\Q (upd H p (.lst (xs.set j v)))
theorem kH:Hy X sr:=by
 intro J3 s σ H o i v ov iv u Q I ro ri rv h;obtain ⟨p,xs,k,j,rfl,rfl,hp,hj,q⟩:=h;cases ro;obtain ⟨t,rfl⟩:=ri;obtain ⟨its,n,r,ho,hz⟩:=I.lst hp;obtain ⟨h1,h2,h3,h4⟩:=wE hj;have hl:=r.length;have hn:=pC;have I':Inv X J3 σ (upd H p (.lst (xs.set j v))) { s with heap:=s.heap.update p (rK (·.setIfInBounds j u)) } :=
  I.lstUpd hp ho (zZ its n j u) (r.set rv j) (by rw [List.length_set]; exact hz) s.toks
 by_cases h0:0<=k
 ·have hk:k.toNat=j:=by
   rw [seqIndex_of h0 h4] at h1;exact eI h1
  exact PySem.W.ki_setAt ho h0 (by omega) (by rw [bt,<-hl]; exact h4) (by rw [hk]; exact ⟨_,I',q⟩)
 ·have hk:(k+(its.toArray.size:Int)).toNat=j:=by
   rw [seqIndex_neg (by omega) h3] at h1;rw [bt,<-hl];exact eI h1
  exact PySem.W.ki_setBack ho (by omega) (by rw [bt,<-hl]; exact h3) (by omega) (by rw [hk]; exact ⟨_,I',q⟩)
theorem wc (lo hi:Option Int) (n:Nat):(my lo hi none n).1=((HT.sIx n 0 lo:Nat):Int)/\(my lo hi none n).2.1=((HT.sIx n n hi:Nat):Int)/\(my lo hi none n).2.2=1:=by
 refine ⟨?_,?_,rfl⟩
 ·cases lo with
  | none=>simp [my,HT.sIx]
  | some i =>
   simp only [my,HT.sIx,Option.getD_none,show (1:Int) > 0 by decide,if_true];by_cases h:i<0
   ·simp only [h,if_true] <;> omega
   ·simp only [h,if_false] <;> omega
 ·cases hi with
  | none=>simp [my,HT.sIx]
  | some i =>
   simp only [my,HT.sIx,Option.getD_none,show (1:Int) > 0 by decide,if_true];by_cases h:i<0
   ·simp only [h,if_true] <;> omega
   ·simp only [h,if_false] <;> omega
theorem tN (its:Zf) (lo hi:Option Int):slicePick its.toArray lo hi none=((its.drop (HT.sIx its.length 0 lo)).take (HT.sIx its.length its.length hi-HT.sIx its.length 0 lo)).toArray:=by
 obtain ⟨h1,h2,h3⟩:=wc lo hi its.toArray.size;unfold slicePick;rw [h1,h2,h3];simp only [sliceRange_one,pick_run,bt] <;> rfl
def so (K:Za):V->Option Int->Option Int->Hp->VK->Prop:=fun x lo hi H Q=>∃a xs,x=.ref a/\aB K H a xs/\∀p,H p=none->Q (.ref p) (upd H p (.lst (gF xs lo hi)))
theorem gu:SlR X (so X.K):=by
 intro J3 s σ H x v vl vu lo hi sl Q I rx hs pl pu h;obtain ⟨a,xs,rfl,hx,q⟩:=h;cases rx;obtain ⟨its,r,ht,hz⟩:=I.list hx;have hlen:=r.length;refine ⟨"list",_,slot_list_getitem.lookup,ht.isList.typeIs,?_⟩;refine wpAny_getItem_list_slice ht.isList hs pl pu .none (by simp) ?_ (by rw [bt] <;> omega);rw [tN,<-hlen];refine ⟨.ref s.heap.objs.size,_,I.laid (t':=s.toks) (o:=.lst (gF xs lo hi)) (fun b ob q=>bd _ q) (aD _) ?_,rfl,q _ (I.hok.fresh (aD _))⟩;exact ⟨bP (yH xs lo hi) hz,_,0,(r.drop (HT.sIx xs.length 0 lo)).take (HT.sIx xs.length xs.length hi-HT.sIx xs.length 0 lo),cr _ rfl⟩
theorem wR:fN X (.builtin "len") (fun xs H Q=>∃p ys,xs=[.ref p]/\(aB X.K H p ys∨bL X.K H p ys)/\Q (.int ys.length) H):=by
 intro J3 s σ H xs us Q I r h;obtain ⟨p,ys,rfl,hq,q⟩:=h;obtain ⟨u,rfl,rx⟩:=vals1 r;cases rx;have hn:=pC;rcases hq with hq | hq
 ·obtain ⟨its,r',pl,hz⟩:=I.list hq;have hlen:=r'.length;exact Calls.call_len_list pl.isList (by simp only [bt] <;> omega) ⟨.int ys.length,H,I.tok _,⟨s.toks+1,by rw [bt,hlen]⟩,q⟩
 ·obtain ⟨its,r',pl,hz⟩:=I.tuple hq;have hlen:=r'.length;exact len_tuple pl (by simp only [bt] <;> omega) ⟨.int ys.length,H,I.tok _,⟨s.toks+1,by rw [bt,hlen]⟩,q⟩
theorem wQ:fN X (.builtin "len") (fun xs H Q=>∃z,xs=[.str z]/\z.length<=aj/\Q (.int z.length) H):=by
 intro J3 s σ H xs us Q I r h;obtain ⟨z,rfl,hz,q⟩:=h;obtain ⟨u,rfl,t,rfl⟩:=vals1 r;have hn:=pC;exact len_str (by omega) ⟨.int z.length,H,I.tok _,⟨_,rfl⟩,q⟩
theorem fN.or {f:Value}{r r':List V->Hp->VK->Prop}(h:fN X f r) (h':fN X f r'):fN X f (fun xs H Q=>r xs H Q∨r' xs H Q):=by
 intro J3 s σ H xs us Q I rs q;rcases q with q | q
 ·exact h J3 s σ H xs us Q I rs q
 ·exact h' J3 s σ H xs us Q I rs q
theorem wP:fN X (.type "list") (fun xs H Q=>∃p ys,xs=[.ref p]/\(aB X.K H p ys∨bL X.K H p ys)/\∀l,H l=none->Q (.ref l) (upd H l (.lst ys))):=by
 intro J3 s σ H xs us Q I r h;obtain ⟨p,ys,rfl,hq,q⟩:=h;obtain ⟨u,rfl,rx⟩:=vals1 r;cases rx;have fin:∀(its:Zf),aV ys its->ys.length<=aj->∀(h':Heap) (c':Nat),(∀b o',s.heap.get? b=some o'->h'.get? b=some o') ->
   h'.get? s.heap.objs.size=some { cls:=.type "list",dict:=none,data:=.seq its.toArray c',slots:=#[] }->EP X J3 σ Q (.ref s.heap.objs.size) { s with heap:=h' }:=fun its r' hz h' c' kp e =>
  ⟨.ref s.heap.objs.size,_,I.laid (t':=s.toks) kp (aD _) (show bO X.prog X.w X.K _ h' _ (.lst ys) from ⟨hz,its,c',r',e⟩),rfl,q _ (I.hok.fresh (aD _))⟩
 rcases hq with hq | hq
 ·obtain ⟨its,r',pl,hz⟩:=I.list hq;have hlen:=r'.length;obtain ⟨o,ho,hc,n,hd⟩:=pl.isList;exact call_list_seq p (.inl rfl) ho hc hd (fun h' c' kp e=>fin its r' hz h' c' kp e) (by simp only [bt] <;> omega)
 ·obtain ⟨its,r',pl,hz⟩:=I.tuple hq;have hlen:=r'.length;obtain ⟨o,ho,hc,n,hd⟩:=pl;exact call_list_seq p (.inr rfl) ho hc hd (fun h' c' kp e=>fin its r' hz h' c' kp e) (by simp only [bt] <;> omega)
theorem mh:fN X (.type "tuple") (fun xs H Q=>∃p ys,xs=[.ref p]/\((aB X.K H p ys/\∀l,H l=none->Q (.ref l) (upd H l (.tup ys)))∨(bL X.K H p ys/\Q (.ref p) H))):=by
 intro J3 s σ H xs us Q I r h;obtain ⟨p,ys,rfl,h⟩:=h;obtain ⟨u,rfl,rx⟩:=vals1 r;cases rx;rcases h with ⟨hq,q⟩ | ⟨hq,q⟩
 ·obtain ⟨its,r',pl,hz⟩:=I.list hq;have hlen:=r'.length;refine call_tuple_list pl.isList (fun h' kp=>?_) (by simp only [bt] <;> omega);have I1:Inv X J3 σ H { s with heap:=h' }:=I.kept (t':=s.toks) kp;have I2:Inv X J3 σ (upd H h'.objs.size (.tup ys)) { s with heap:=h'.push { cls:=.type "tuple",data:=.seq its.toArray } } :=
   I1.laid (t':=s.toks) (fun b o e=>bd _ e) (aD _) (show bO X.prog X.w X.K _ _ _ (.tup ys) from ⟨hz,its,r',IsTup.new _ _⟩)
  exact ⟨.ref h'.objs.size,_,I2,rfl,q _ (I1.hok.fresh (aD _))⟩
 ·obtain ⟨its,r',pl,hz⟩:=I.tuple hq;exact call_tuple_same pl ⟨.ref p,H,I,rfl,q⟩
def tyV (K:Za) (T:String) (x:V) (H:Hp):Prop:=match x with
 | .str _=>T="str"
 | .int _=>T="int"
 | .ref p=>(T="list"/\∃xs,aB K H p xs)∨(T="tuple"/\∃o,K.lookup p=some o/\o.cls=.type "tuple"/\o.dict=none) ∨
   (T="dict"/\((∃kvs,H p=some (.dK kvs))∨∃kvs,H p=some (.dT kvs)))∨(T="set"/\∃S n,H p=some (.set S n))
 | _=>False
theorem Dh {J3:Zd}{σ:St}{H:Hp}{s:Shared}{T:String}{x:V}{v:Value}(I:Inv X J3 σ H s) (r:RelV x v) (ty:tyV X.K T x H) :
  s.TypeIs v T/\∀a,v=.ref a->∃ob,s.heap.get? a=some ob/\ob.dict=none:=by
 cases x with
 | str z =>
  obtain ⟨t,rfl⟩:=r;cases (show T="str" from ty);exact ⟨typeIs_str s z t,fun _ e=>nomatch e⟩
 | int i =>
  obtain ⟨t,rfl⟩:=r;cases (show T="int" from ty);exact ⟨typeIs_int s i t,fun _ e=>nomatch e⟩
 | ref p =>
  cases r;rcases ty with ⟨rfl,xs,hq⟩ | ⟨rfl,o,hk,hc,hd⟩ | ⟨rfl,hk⟩ | ⟨rfl,S,n,hk⟩
  ·obtain ⟨its,_,pl,_⟩:=I.list hq;refine ⟨pl.isList.typeIs,fun a e=>?_⟩;cases e;obtain ⟨o,n,e,c,hd,_⟩:=pl;exact ⟨o,e,hd⟩
  ·refine ⟨⟨o,I.kIn p o hk,hc⟩,fun a e=>?_⟩;cases e;exact ⟨o,I.kIn _ o hk,hd⟩
  ·have z:∃o,s.heap.get? p=some o/\o.ExactDict:=by
    rcases hk with ⟨kvs,hk⟩ | ⟨kvs,hk⟩
    ·obtain ⟨_,_,_,_,o,_,_,e,ex,_⟩:=I.hok p _ hk;exact ⟨o,e,ex⟩
    ·obtain ⟨_,_,_,_,o,_,_,e,ex,_⟩:=I.hok p _ hk;exact ⟨o,e,ex⟩
   obtain ⟨o,e,ex⟩:=z;refine ⟨⟨o,e,ex.1⟩,fun a e2=>?_⟩;cases e2;exact ⟨o,e,ex.2.1⟩
  ·obtain ⟨o,_,_,_,e,ex,_⟩:=I.hok p _ hk;refine ⟨⟨o,e,ex.1⟩,fun a e2=>?_⟩;cases e2;exact ⟨o,e,ex.2.1⟩
 | _=>exact i6 ty
def Fd (K:Za) (T:String) (r:V->List V->Hp->VK->Prop) (to:TE):TE:=fun σ H Q=>to σ H fun x H1=>tyV K T x H1/\r x [] H1 Q
def r9 (K:Za) (T:String) (r:V->List V->Hp->VK->Prop) (to:TE) (t:TA):TE:=fun σ H Q=>to σ H fun x H1=>tyV K T x H1/\t σ H1 fun xs H2=>r x xs H2 Q
variable {o e:Expr}{es:List Expr}{to:TE}{t:TA}{name:Str}{J5 J4:Pos}{T id:String}{r:V->List V->Hp->VK->Prop}
theorem zU (pa:PlainAttrs T) (slot:Slot T name id) (hty:typeOf (.builtin id)=pure (.type "method_descriptor")) (hm:MtR X id r) (ho:PE X o to)
  (hbase:qU o name X.env (eval o X.env)=eval o X.env:=by rfl) (hline:(J5.endLine == J4.line)=true:=by rfl):PE X (.Call (.Attribute o name J5) [] [] J4) (Fd X.K T r to):=by
 intro J3 s σ H Q I h;refine wpAny_Call_method0_late hbase hline (cf (ho J3 s σ H _ I h) fun v s1 ⟨x,H1,I1,r1,ty,q1⟩=>?_);obtain ⟨h1,h2⟩:=Dh I1 r1 ty;exact ⟨T,id,pa,slot,hty,h1,h2,rJ rfl (PySem.evalArgs_none (hm J3 s1 σ H1 x [] v [] Q I1 r1 .nil q1))⟩
theorem fj (pa:PlainAttrs T) (slot:Slot T name id) (hty:typeOf (.builtin id)=pure (.type "method_descriptor")) (hm:MtR X id r) (ho:PE X o to) (ha:PA X (e::es) t)
  (hbase:qU o name X.env (eval o X.env)=eval o X.env:=by rfl)
  (hfew:((backTo J4 (aI (e::es) X.env)).all (fun x=>!x.1) && (nz J4 (ny [] X.env)).all (fun x=>x.1.isSome)
   && decide ((e::es).length+([]:List oW).length+(if ([]:List oW).isEmpty then 0 else 1)<30))=true:=by rfl)
  (hline:(J5.endLine == J4.line)=true:=by rfl) (hs:aI (e::es) X.env=(false,eval e X.env)::aI es X.env:=by rfl) (hplain:(backTo J4 (aI es X.env)).any (·.1)=false:=by rfl) :
  PE X (.Call (.Attribute o name J5) (e::es) [] J4) (r9 X.K T r to t):=by
 intro J3 s σ H Q I h;refine wpAny_Call_method_late hbase hfew hline rfl (cf (ho J3 s σ H _ I h) fun v s1 ⟨x,H1,I1,r1,ty,q1⟩=>?_);obtain ⟨h1,h2⟩:=Dh I1 r1 ty;refine ⟨T,id,pa,slot,hty,h1,h2,?_⟩;have hA:=ha J4 J3 s1 σ H1 _ I1 q1;rw [hs] at hA ⊢;refine rJ (by show (false || (backTo J4 (aI es X.env)).any (·.1))=false; rw [hplain] <;> rfl) (Calls.evalArgs_plain ?_);exact cf hA fun us s2 ⟨vs,H2,I2,r2,q2⟩=>hm J3 s2 σ H2 x vs v us Q I2 r1 r2 q2
end
end L2
namespace L2
open PySem PySem.Spec PyProof.Rows
def Gz (X:Cx) (id:String) (r:V->List V->Hp->VK->Prop):Prop :=
 ∀(J3:Zd) (s:Shared) (σ:St) (H:Hp) (x:V) (xs:List V) (v:Value) (us:Zf) (Q:VK),Inv X J3 σ H s->RelV x v->aV xs us->r x xs H Q ->
  wpAny (model X.prog X.w) X.A (call (.builtin id) (v::us)) (EP X J3 σ Q) X.xe s
theorem aV.one:∀{x:V}{us:Zf},aV [x] us->∃u,us=[u]/\RelV x u
 | _,_,.cons r .nil=>⟨_,rfl,r⟩
theorem aV.two:∀{x y:V}{us:Zf},aV [x,y] us->∃u v,us=[u,v]/\RelV x u/\RelV y v
 | _,_,_,.cons r (.cons q .nil)=>⟨_,_,rfl,r,q⟩
theorem aV.zero:∀{us:Zf},aV [] us->us=[]
 | _,.nil=>rfl
theorem aV.dropLast {xs:List V}{us:Zf}(h:aV xs us):aV xs.dropLast us.dropLast:=by
 induction h with
 | nil=>exact .nil
 | cons r t ih =>
  cases t with
  | nil=>exact .nil
  | cons q t'=>exact .cons r ih
theorem aV.eraseIdx:∀{xs:List V}{us:Zf}(i:Nat),aV xs us->aV (xs.eraseIdx i) (us.eraseIdx i)
 | _,_,_,.nil=>.nil
 | _,_,0,.cons _ t=>t
 | _,_,i+1,.cons r t=>.cons r (aV.eraseIdx i t)
theorem aV.reverse {xs:List V}{us:Zf}(h:aV xs us):aV xs.reverse us.reverse:=by
 induction h with
 | nil=>exact .nil
 | cons r t ih=>rw [vK,vK]; exact aV.append ih (.cons r .nil)
theorem Ak {α:Type}(l:List α):l.eraseIdx (l.length-1)=l.dropLast:=by
 induction l with
 | nil=>rfl
 | cons a r ih =>
  cases r with
  | nil=>rfl
  | cons b r =>
   have e:(a::b::r).length-1=((b::r).length-1)+1:=by
    have h1:(a::b::r).length=r.length+2:=rfl;have h2:(b::r).length=r.length+1:=rfl;omega
   rw [e,List.eraseIdx_cons_succ,ih]
   all_goals rfl
theorem uK {α:Type}:∀(l:List α) (i:Nat),(l.eraseIdx i).length<=l.length
 | [],_=>aD _
 | _::_,0=>lX _
 | _::r,i+1=>Nat.succ_le_succ (uK r i)
section
variable {X:Cx}{J3:Zd}{σ:St}{H:Hp}{s:Shared}{l b:Addr}{xs ys zs:List V}
theorem Inv.lset {its its':Zf}{n:Nat}{f:Array Value->Array Value}{t':Nat}(I:Inv X J3 σ H s) (hH:H l=some (.lst xs))
  (e:s.heap.get? l=some { cls:=.type "list",data:=.seq its.toArray n }) (hf:f its.toArray=its'.toArray) (hv:aV ys its') (hz:ys.length<=aj) :
  Inv X J3 σ (upd H l (.lst ys)) { s with heap:=s.heap.update l (rK f),toks:=t' }:=by
 have q:=PySem.IsL.update e f;rw [hf] at q;refine I.write (x:=l) (e:=l) (by rw [hH]; exact trivial) (.inl rfl) (fun b' u hb hu=>(Heap.get?_update_other s.heap (rK f) (c9 hb)).trans hu) ⟨_,q⟩ ?_;exact ⟨hz,its',_,hv,q⟩
theorem Inv.lnew {its:Zf}{t':Nat}(I:Inv X J3 σ H s) (hv:aV ys its) (hz:ys.length<=aj) :
  Inv X J3 σ (upd H s.heap.objs.size (.lst ys)) { s with heap:=s.heap.push { cls:=.type "list",data:=.seq its.toArray },toks:=t' } :=
 I.laid (fun _ _ q=>bd _ q) (aD _) ⟨hz,its,0,hv,cr _ rfl⟩
theorem Inv.fresh (I:Inv X J3 σ H s):H s.heap.objs.size=none:=I.hok.fresh (aD _)
theorem Inv.lstM (I:Inv X J3 σ H s) (hH:H l=some (.lst xs)):xs.length<=aj/\∃(its:Zf) (n:Nat),aV xs its/\xs.length=its.length/\s.heap.get? l=some { cls:=.type "list",data:=.seq its.toArray n }:=by
 obtain ⟨z,its,n,r,e⟩:=I.hok l _ hH;exact ⟨z,its,n,r,r.length,e⟩
theorem DU {n:Nat}(h:n<=aj):bV.List.listTooLong n=false:=by
 unfold bV.List.listTooLong;exact zzr0 (by omega)
end
section
variable {X:Cx}
def cG:V->List V->Hp->VK->Prop:=fun x vs H Q=>∃l xs y,x=.ref l/\vs=[y]/\H l=some (.lst xs)/\xs.length<aj/\Q .non (upd H l (.lst (xs++[y])))
theorem bU:Gz X "list.append" cG:=by
 intro J3 s σ H x vs v us Q I rx rv h;obtain ⟨l,xs,y,rfl,rfl,hH,hz,q⟩:=h;cases rx;obtain ⟨u,rfl,ru⟩:=rv.one;obtain ⟨z,its,n,r,hl,e⟩:=I.lstM hH;refine mx F.slot_list_append ⟨_,e,rfl⟩ F.entry_list_append (F.args_list_append_2 _ _) (PySem.list_append l its.toArray n u (by rw [bt]; omega)) ⟨e,?_⟩;refine ⟨.non,_,I.lset (its':=its++[u]) hH e (by simp) (r.append (.cons ru .nil)) ?_,rfl,q⟩;rw [ax,oU];omega
def Bd:V->List V->Hp->VK->Prop:=fun x vs H Q=>∃l b xs zs,x=.ref l/\vs=[.ref b]/\H l=some (.lst xs)/\H b=some (.lst zs)/\xs.length+zs.length<=aj/\Q .non (upd H l (.lst (xs++zs)))
theorem Cp:Gz X "list.extend" Bd:=by
 intro J3 s σ H x vs v us Q I rx rv h;obtain ⟨l,b,xs,zs,rfl,rfl,hH,hB,hz,q⟩:=h;cases rx;obtain ⟨u,rfl,ru⟩:=rv.one;cases ru;obtain ⟨z,its,n,r,hl,e⟩:=I.lstM hH;obtain ⟨z2,its2,n2,r2,hl2,e2⟩:=I.lstM hB;have hsz:its.toArray.size+its2.toArray.size<=aj:=by rw [bt,bt]; omega
 have hlong:¬(!its.toArray.isEmpty && bV.List.listTooLong (its.toArray.size+its2.toArray.size))=true:=by
  rw [DU hsz,vJ];exact fW
 refine mx F.slot_list_extend ⟨_,e,rfl⟩ F.entry_list_extend (F.args_list_extend_2 _ _)
  (AutoSeq1.list_extend_list_list_0 l its.toArray n b its2.toArray n2 hlong (by rw [bt]; omega) (by omega)) ⟨e,e2,?_⟩
 refine ⟨.non,_,I.lset (its':=its++its2) hH e (by simp) (r.append r2) ?_,rfl,q⟩;rw [ax];omega
def GH:V->List V->Hp->VK->Prop:=fun x vs H Q=>∃l xs y,x=.ref l/\vs=[]/\H l=some (.lst xs)/\xs[xs.length-1]?=some y/\Q y (upd H l (.lst xs.dropLast))
theorem D_:Gz X "list.pop" GH:=by
 intro J3 s σ H x vs v us Q I rx rv h;obtain ⟨l,xs,y,rfl,rfl,hH,hy,q⟩:=h;cases rx;have hus:=rv.zero;subst hus;obtain ⟨z,its,n,r,hl,e⟩:=I.lstM hH;obtain ⟨u,hu,ru⟩:=r.get hy;have hy':its.toArray[its.toArray.size-1]?=some u:=by
  show its.toArray[its.length-1]?=some u;rw [<-Array.getElem?_toList,<-hl];exact hu
 refine mx F.slot_list_pop ⟨_,e,rfl⟩ F.entry_list_pop (F.args_list_pop_1 _) (MeetsSeq.list_pop_last l its.toArray n u hy' (by rw [bt]; omega)) ⟨e,?_⟩;refine ⟨y,_,I.lset (its':=its.dropLast) hH e ?_ r.dropLast ?_,ru,q⟩
 ·show its.toArray.eraseIdxIfInBounds (its.toArray.size-1)=its.dropLast.toArray;rw [bt,List.eraseIdxIfInBounds_toArray,Ak]
 ·rw [List.length_dropLast];omega
def DE:V->List V->Hp->VK->Prop:=fun x vs H Q=>∃l xs i k y,x=.ref l/\vs=[.int i]/\H l=some (.lst xs)/\-(2 ^ 63)<=i/\i<2 ^ 63/\vN i xs.length=some k/\xs[k]?=some y/\Q y (upd H l (.lst (xs.eraseIdx k)))
theorem D0:Gz X "list.pop" DE:=by
 intro J3 s σ H x vs v us Q I rx rv h;obtain ⟨l,xs,i,k,y,rfl,rfl,hH,h1,h2,hk,hy,q⟩:=h;cases rx;obtain ⟨u,rfl,ru⟩:=rv.one;obtain ⟨t,rfl⟩:=ru;obtain ⟨z,its,n,r,hl,e⟩:=I.lstM hH;obtain ⟨w,hw,rw'⟩:=r.get hy;refine mx F.slot_list_pop ⟨_,e,rfl⟩ F.entry_list_pop (F.args_list_pop_2 _ _)
  (MeetsSeq.list_pop_at l its.toArray n i t k w (fitsIndex_both h1 h2) (by rw [bt,<-hl]; exact hk) (by rw [<-Array.getElem?_toList]; exact hw) (by rw [bt]; omega)) ⟨e,?_⟩
 refine ⟨y,_,I.lset (its':=its.eraseIdx k) hH e ?_ (r.eraseIdx k) ?_,rw',q⟩
 ·show its.toArray.eraseIdxIfInBounds k=(its.eraseIdx k).toArray;rw [List.eraseIdxIfInBounds_toArray]
 ·have:=uK xs k;omega
def xS:V->List V->Hp->VK->Prop:=fun x vs H Q=>∃l xs,x=.ref l/\vs=[]/\H l=some (.lst xs)/\Q .non (upd H l (.lst xs.reverse))
theorem zX:Gz X "list.reverse" xS:=by
 intro J3 s σ H x vs v us Q I rx rv h;obtain ⟨l,xs,rfl,rfl,hH,q⟩:=h;cases rx;have hus:=rv.zero;subst hus;obtain ⟨z,its,n,r,hl,e⟩:=I.lstM hH;refine mx F.slot_list_reverse ⟨_,e,rfl⟩ F.entry_list_reverse (F.args_list_reverse_1 _) (AutoSeq1.list_reverse_list_0 l its.toArray n (by rw [bt]; omega)) ⟨e,?_⟩;refine ⟨.non,_,I.lset (its':=its.reverse) hH e (by simp) r.reverse ?_,rfl,q⟩;rw [List.length_reverse];omega
def pe:R2:=fun x y H Q=>∃l b xs zs,x=.ref l/\y=.ref b/\H l=some (.lst xs)/\H b=some (.lst zs)/\xs.length+zs.length<=aj/\∀p,H p=none->Q (.ref p) (upd H p (.lst (xs++zs)))
theorem gM:nv X (pX .Add) pe:=by
 intro J3 s σ H x y v u Q I rx ry h;obtain ⟨l,b,xs,zs,rfl,rfl,hH,hB,hz,q⟩:=h;cases rx;cases ry;obtain ⟨z,its,n,r,hl,e⟩:=I.lstM hH;obtain ⟨z2,its2,n2,r2,hl2,e2⟩:=I.lstM hB;refine PySem.P.add_list e e2 ?_ (by rw [bt,bt]; omega);have ea:its.toArray++its2.toArray=(its++its2).toArray:=by simp
 rw [ea];exact ⟨.ref _,_,I.lnew (t':=s.toks) (r.append r2) (by rw [ax]; omega),rfl,q _ I.fresh⟩
end
end L2
namespace L2
open PySem PySem.Spec PyProof.Rows
section
variable {κ:Type} [DecidableEq κ]
def bG (kvs:List (κ×V)) (k:κ):Option V:=(kvs.find? fun kv=>decide (kv.1=k)).map (·.2)
def cI (kvs:List (κ×V)) (k:κ) (v:V):List (κ×V) :=
 if (kvs.any fun kv=>decide (kv.1=k))=true then kvs.map (fun kv=>if kv.1=k then (kv.1,v) else kv) else kvs++[(k,v)]
theorem cb {p:κ×V}{r:List (κ×V)}{k:κ}(e:p.1=k):bG (p::r) k=some p.2:=by simp [bG,kA,e]
theorem b9 {p:κ×V}{r:List (κ×V)}{k:κ}(e:¬p.1=k):bG (p::r) k=bG r k:=by simp [bG,kA,e]
theorem i9 (k:κ):∀kvs:List (κ×V),(kvs.any fun kv=>decide (kv.1=k))=(bG kvs k).isSome
 | []=>rfl
 | p::r=>by
  rw [mw];by_cases e:p.1=k
  ·simp only [cb e,zzr1 e,Bool.true_or,Option.isSome_some]
  ·rw [b9 e,zzr0 e,Bool.false_or]; exact i9 k r
theorem xo (k j:κ) (y:V):∀kvs:List (κ×V),bG (kvs.map fun kv=>if kv.1=k then (kv.1,y) else kv) j=(bG kvs j).map fun x=>if j=k then y else x
 | []=>rfl
 | p::r=>by
  have ih:=xo k j y r;rw [aZ];by_cases h:p.1=k
  ·rw [if_pos h];by_cases e:p.1=j
   ·rw [cb (p:=(p.1,y)) e,cb e,rH,if_pos (e.symm.trans h)]
   ·rw [b9 (p:=(p.1,y)) e,b9 e,ih]
  ·rw [if_neg h];by_cases e:p.1=j
   ·rw [cb (p:=p) e,cb e,rH,if_neg (fun z=>h (e.trans z))]
   ·rw [b9 (p:=p) e,b9 e,ih]
theorem um (k j:κ) (y:V):∀kvs:List (κ×V),bG kvs k=none->bG (kvs++[(k,y)]) j=if j=k then some y else bG kvs j
 | [],_=>by
  by_cases e:k=j
  ·rw [if_pos e.symm]; exact cb (p:=(k,y)) e
  ·rw [if_neg (fun z=>e z.symm)]; exact b9 (p:=(k,y)) e
 | p::r,hn=>by
  rw [rG];have hk:¬p.1=k:=fun z=>by rw [cb z] at hn; cases hn
  rw [b9 hk] at hn;have ih:=um k j y r hn;by_cases e:p.1=j
  ·rw [cb e,cb e,if_neg (fun z=>hk (e.trans z))]
  ·rw [b9 e,b9 e,ih]
theorem xn (kvs:List (κ×V)) (k j:κ) (y:V):bG (cI kvs k y) j=if j=k then some y else bG kvs j:=by
 unfold cI;by_cases a:(kvs.any fun kv=>decide (kv.1=k))=true
 ·rw [if_pos a,xo];rw [i9] at a;by_cases e:j=k
  ·obtain ⟨x,hx⟩:=AG.mp a;rw [if_pos e,e,hx,rH,if_pos rfl]
  ·rw [if_neg e];cases bG kvs j with
   | none=>rfl
   | some x=>rw [rH,if_neg e]
 ·rw [if_neg a];refine um k j y kvs ?_;rw [i9] at a;cases q:bG kvs k with
  | none=>rfl
  | some x=>rw [q] at a; exact (a rfl).elim
theorem iI (kvs:List (κ×V)) (k:κ) (v:V):(cI kvs k v).length<=kvs.length+1:=by
 unfold cI;split
 ·rw [ai]; omega
 ·rw [ax,dQ,vI]; omega
theorem fH {kvs:List (κ×V)}{k:κ}(v:V) (h:bG kvs k=none):cI kvs k v=kvs++[(k,v)]:=by
 unfold cI;rw [i9,h];exact if_neg (by decide)
theorem j_.isSome_eq {o:Option V}{u:Option Value}(r:j_ o u):o.isSome=u.isSome:=by
 cases o with
 | none=>cases u with
  | none=>rfl
  | some _=>exact (show False from r).elim
 | some _=>cases u with
  | none=>exact (show False from r).elim
  | some _=>rfl
theorem j_.getD {o:Option V}{u:Option Value}{d:V}{d':Value}(r:j_ o u) (rd:RelV d d'):RelV (o.getD d) (u.getD d'):=by
 cases o with
 | none=>cases u with
  | none=>exact rd
  | some _=>exact (show False from r).elim
 | some _=>cases u with
  | none=>exact (show False from r).elim
  | some _=>exact r
theorem KV.val {kvs:List (κ×V)}{vs:List (κ×Value)}(r:KV kvs vs) (k:κ):j_ (bG kvs k) (mv vs k):=by
 unfold KV at r
 induction r with
 | nil=>exact iD
 | @cons p q ps qs h t ih =>
  obtain ⟨h1,h2⟩:=h;by_cases e:p.1=k
  ·have e':q.1=k:=h1.symm.trans e;have b:mv (q::qs) k=some q.2:=by simp [mv,kA,e']
   rw [cb e,b]; exact h2
  ·have e':¬q.1=k:=fun z=>e (h1.trans z);have b:mv (q::qs) k=mv qs k:=by simp [mv,kA,e']
   rw [b9 e,b]; exact ih
theorem KV.any {kvs:List (κ×V)}{vs:List (κ×Value)}(r:KV kvs vs) (k:κ):(kvs.any fun kv=>decide (kv.1=k))=vs.any fun kv=>decide (kv.1=k):=by
 unfold KV at r
 induction r with
 | nil=>rfl
 | cons h t ih=>rw [mw,mw,ih,h.1]
theorem KV.repl {kvs:List (κ×V)}{vs:List (κ×Value)}(r:KV kvs vs) (k:κ) {y:V}{u:Value}(ry:RelV y u) :
  KV (kvs.map fun kv=>if kv.1=k then (kv.1,y) else kv) (vs.map fun kv=>if kv.1=k then (kv.1,u) else kv):=by
 unfold KV at r ⊢
 induction r with
 | nil=>exact .nil
 | @cons p q ps qs h t ih =>
  rw [aZ,aZ];refine .cons ?_ ih;obtain ⟨h1,h2⟩:=h;by_cases e:p.1=k
  ·rw [if_pos e,if_pos (h1.symm.trans e)]; exact ⟨h1,ry⟩
  ·rw [if_neg e,if_neg (fun z=>e (h1.trans z))]; exact ⟨h1,h2⟩
theorem KV.put {kvs:List (κ×V)}{vs:List (κ×Value)}(r:KV kvs vs) (k:κ) {y:V}{u:Value}(ry:RelV y u):KV (cI kvs k y) (stored vs k u):=by
 unfold cI stored;rw [r.any k];by_cases e:(vs.any fun kv=>decide (kv.1=k))=true
 ·rw [if_pos e,if_pos e]; exact r.repl k ry
 ·rw [if_neg e,if_neg e]; exact cK r ⟨rfl,ry⟩
theorem KV.length {kvs:List (κ×V)}{vs:List (κ×Value)}(r:KV kvs vs):kvs.length=vs.length:=Paired.length r
end
theorem jo {P:bF}{w:World}{k:dX}{u:Value}(r:RelV (kV k) u):(bM P w).is k u=true:=by
 cases k with
 | inl i=>obtain ⟨t,e⟩:=(show ∃t,u=Value.int i t from r); subst e; exact yf P w i t
 | inr x=>obtain ⟨t,e⟩:=(show ∃t,u=Value.str x t from r); subst e; exact ye P w x t
abbrev KT (K:Za) (H:Hp):List (TK×V)->List (TK×Addr×Value)->Prop:=Paired fun p q=>p.1=q.1/\mR K H p.1 (.ref q.2.1)/\p.1.depth<=8/\RelV p.2 q.2.2
theorem KT.val {K:Za}{H:Hp}{kvs:List (TK×V)}{xs:List (TK×Addr×Value)}(r:KT K H kvs xs) (k:TK):j_ (bG kvs k) ((atKey xs k).map (·.2)):=by
 induction r with
 | nil=>exact iD
 | @cons p q ps qs h t ih =>
  obtain ⟨h1,_,_,h2⟩:=h;by_cases e:p.1=k
  ·have e':q.1=k:=h1.symm.trans e;have b:atKey (q::qs) k=some q.2:=by simp [atKey,kA,e']
   rw [cb e,b]; exact h2
  ·have e':¬q.1=k:=fun z=>e (h1.trans z);have b:atKey (q::qs) k=atKey qs k:=by simp [atKey,kA,e']
   rw [b9 e,b]; exact ih
theorem KT.repl {K:Za}{H:Hp}{kvs:List (TK×V)}{xs:List (TK×Addr×Value)}(r:KT K H kvs xs) (k:TK) {y:V}{u:Value}(ry:RelV y u) :
  KT K H (kvs.map fun kv=>if kv.1=k then (kv.1,y) else kv) (xs.map (putAt k u)):=by
 induction r with
 | nil=>exact .nil
 | @cons p q ps qs h t ih =>
  rw [aZ,aZ];refine .cons ?_ ih;obtain ⟨h1,h2,h3⟩:=h;unfold putAt;by_cases e:p.1=k
  ·rw [if_pos e,if_pos (h1.symm.trans e)]; exact ⟨h1,h2,h3.1,ry⟩
  ·rw [if_neg e,if_neg (fun z=>e (h1.trans z))]; exact ⟨h1,h2,h3⟩
theorem KT.put {K:Za}{H:Hp}{kvs:List (TK×V)}{xs:List (TK×Addr×Value)}(r:KT K H kvs xs) (k:TK) {b:Addr}{y:V}{u:Value}(hb:mR K H k (.ref b)) (h8:k.depth<=8) (ry:RelV y u) :
  KT K H (cI kvs k y) (storedH xs k b u):=by
 have e:(kvs.any fun kv=>decide (kv.1=k))=(atKey xs k).isSome:=by
  rw [i9,(r.val k).isSome_eq,Option.isSome_map]
 unfold cI storedH;rw [e];by_cases q:(atKey xs k).isSome=true
 ·rw [if_pos q,if_pos q]; exact r.repl k ry
 ·rw [if_neg q,if_neg q]; exact cK r ⟨rfl,hb,h8,ry⟩
theorem KT.keeps {K:Za}{H H':Hp}{kvs:List (TK×V)}{xs:List (TK×Addr×Value)}(r:KT K H kvs xs) (ht:∀b ys,H b=some (.tup ys)->H' b=some (.tup ys)):KT K H' kvs xs :=
 Paired.mapP r fun _ _ z=>⟨z.1,mR.keeps ht 8 z.2.2.1 z.2.1,z.2.2⟩
section
variable {P:bF}{w:World}{K:Za}{H:Hp}{h:Heap}{a:Addr}
theorem Gk {u:HO}(ok:lI P w K H h) (e:Rd H a u):bO P w K H h a u:=e.ok ok
theorem oo {kvs:List (dX×V)}(ok:lI P w K H h) (e:Rd H a (.dK kvs)):kvs.length<=aj/\(a == fT)=false/\∃vs,KV kvs vs/\h.DictOf (bM P w) a vs :=
 show bO P w K H h a (.dK kvs) from Gk ok e
theorem Hw {kvs:List (dX×V)}(ok:lI P w K H h) (e:H a=some (.dK kvs)):kvs.length<=aj/\(a == fT)=false/\∃vs,KV kvs vs/\h.DictOf (bM P w) a vs:=oo ok (.inl e)
theorem GB (ok:lI P w K H h) (kin:K.In h):∀(d:Nat) {k:TK}{v:V}{u:Value},k.depth<=d->mR K H k v->RelV v u->lQ h k u:=by
 have key:∀(d:Nat) (ih:∀{k:TK}{v:V}{u:Value},k.depth<=d->mR K H k v->RelV v u->lQ h k u) (ks:List TK) (vs:List V) (us:Zf),TK.depths ks<=d->TKCs K H ks vs->aV vs us->TAts h ks us:=by
  intro d ih ks
  induction ks with
  | nil =>
   intro vs us _ hx r;have e:vs=[]:=hx;subst e;cases r
   rfl
  | cons k ks ihl =>
   intro vs us hd hx r;obtain ⟨v,vs',rfl,h1,h2⟩:=hx;cases r with
   | @cons _ u _ us' r1 r2 =>
    have hd':max k.depth (TK.depths ks)<=d:=hd;exact ⟨u,us',rfl,ih (by omega) h1 r1,ihl vs' us' (by omega) h2 r2⟩
 intro d
 induction d with
 | zero =>
  intro k v u hd hx r;cases k with
  | t l=>exact absurd hd (by show ¬(TK.depths l+1<=0); omega)
  | k b =>
   have e:v=kV b:=hx;subst e;exact jo (P:=P) (w:=w) r
 | succ d ih =>
  intro k v u hd hx r;cases k with
  | k b =>
   have e:v=kV b:=hx;subst e;exact jo (P:=P) (w:=w) r
  | t l =>
   obtain ⟨b,xs,rfl,hb,hi⟩:=hx;cases (show u=Value.ref b from r);obtain ⟨its,rv,ob,h1,h2,n,h3⟩:∃its:List Value,aV xs its/\IsTup h b its.toArray:=by
    rcases hb with hb | ⟨o,its,n,hk,hc,hs,hz,r⟩
    ·obtain ⟨_,its,rv,p⟩:=(show bO P w K H h b (.tup xs) from ok b _ hb);exact ⟨its,rv,p⟩
    ·exact ⟨its.toList,r,o,kin b o hk,hc,n,by simpa using hs⟩
   exact ⟨b,ob,its.toArray,n,rfl,h1,h2,h3,by simpa using key d (fun h1=>ih h1) l xs its (by have:TK.depths l+1<=d+1:=hd; omega) hi rv⟩
theorem sI {k:TK}(ok:lI P w K H h) (kin:K.In h) (e:mR K H k (.ref a)) (h8:k.depth<=8):(dE P w).is h k a:=⟨GB ok kin 8 h8 e rfl,h8⟩
theorem qi {kvs:List (TK×V)}(ok:lI P w K H h) (kin:K.In h) (e:Rd H a (.dT kvs)):kvs.length<=aj/\(a == fT)=false /\
  ∃xs,KT K H kvs xs/\h.DictOfH (dE P w) a xs:=by
 obtain ⟨z,y,xs,r,o,es,ep,h1,h2,h3,h4,h5⟩:=(show bO P w K H h a (.dT kvs) from Gk ok e);refine ⟨z,y,xs,r,o,es,ep,h1,h2,h3,h4,fun x hx=>?_,h5⟩;have all:∀{l:List (TK×V)}{m:List (TK×Addr×Value)},KT K H l m->∀x∈m,(dE P w).is h x.1 x.2.1:=by
  intro l m q
  induction q with
  | nil=>intro x hx; exact nomatch hx
  | @cons p q ps qs hq t ih =>
   intro x hx;rcases cP.mp hx with e | hx
   ·subst e;exact sI ok kin (by rw [<-hq.1]; exact hq.2.1) (by rw [<-hq.1]; exact hq.2.2.1)
   ·exact ih x hx
 exact all r x hx
theorem By {kvs:List (TK×V)}(ok:lI P w K H h) (kin:K.In h) (e:H a=some (.dT kvs)):kvs.length<=aj/\(a == fT)=false /\
  ∃xs,KT K H kvs xs/\h.DictOfH (dE P w) a xs:=qi ok kin (.inl e)
end
mutual
def k5 (K:Za) (H:Hp):TK->V->Prop
 | .k a,v=>v=kV a
 | .t l,v=>∃b xs,v=.ref b/\bL K H b xs/\TKIns K H l xs
def TKIns (K:Za) (H:Hp):List TK->List V->Prop
 | [],vs=>vs=[]
 | k::r,vs=>∃v us,vs=v::us/\k5 K H k v/\TKIns K H r us
end
theorem cV.isIn {K:Za}{H:Hp}:∀(d:Nat) {k:TK}{v:V},k.depth<=d->cV H k v->k5 K H k v:=by
 have key:∀(d:Nat) (ih:∀{k:TK}{v:V},k.depth<=d->cV H k v->k5 K H k v) (xs:List TK) (vs:List V),TK.depths xs<=d->TKAts H xs vs->TKIns K H xs vs:=by
  intro d ih xs
  induction xs with
  | nil=>intro vs _ hx; exact hx
  | cons x xs ihl =>
   intro vs hd hx;obtain ⟨v,us,rfl,hx1,hx2⟩:=hx;have hd':max x.depth (TK.depths xs)<=d:=hd;exact ⟨v,us,rfl,ih (by omega) hx1,ihl us (by omega) hx2⟩
 intro d
 induction d with
 | zero =>
  intro k v hd hx;cases k with
  | t l=>exact absurd hd (by show ¬(TK.depths l+1<=0); omega)
  | k a=>exact hx
 | succ d ih =>
  intro k v hd hx;cases k with
  | k a=>exact hx
  | t l =>
   obtain ⟨b,xs,rfl,hb,hi⟩:=hx;exact ⟨b,xs,rfl,bL.of hb,key d (fun h1=>ih h1) l xs (by have:TK.depths l+1<=d+1:=hd; omega) hi⟩
theorem EZ {X:Cx}{J3:Zd}{σ:St}{H:Hp}{s:Shared}(I:Inv X J3 σ H s):∀(d:Nat) {k:TK}{v:V}{u:Value},k.depth<=d->k5 X.K H k v->RelV v u->lQ s.heap k u:=by
 have key:∀(d:Nat) (ih:∀{k:TK}{v:V}{u:Value},k.depth<=d->k5 X.K H k v->RelV v u->lQ s.heap k u) (ks:List TK) (vs:List V) (us:Zf),TK.depths ks<=d->TKIns X.K H ks vs->aV vs us->TAts s.heap ks us:=by
  intro d ih ks
  induction ks with
  | nil =>
   intro vs us _ hx r;have e:vs=[]:=hx;subst e;cases r
   rfl
  | cons k ks ihl =>
   intro vs us hd hx r;obtain ⟨v,vs',rfl,h1,h2⟩:=hx;cases r with
   | @cons _ u _ us' r1 r2 =>
    have hd':max k.depth (TK.depths ks)<=d:=hd;exact ⟨u,us',rfl,ih (by omega) h1 r1,ihl vs' us' (by omega) h2 r2⟩
 intro d
 induction d with
 | zero =>
  intro k v u hd hx r;cases k with
  | t l=>exact absurd hd (by show ¬(TK.depths l+1<=0); omega)
  | k b =>
   have e:v=kV b:=hx;subst e;exact jo (P:=X.prog) (w:=X.w) r
 | succ d ih =>
  intro k v u hd hx r;cases k with
  | k b =>
   have e:v=kV b:=hx;subst e;exact jo (P:=X.prog) (w:=X.w) r
  | t l =>
   obtain ⟨b,xs,rfl,hb,hi⟩:=hx;cases (show u=Value.ref b from r);obtain ⟨its,rv,⟨ob,h1,h2,n,h3⟩,_⟩:=I.tuple hb;exact ⟨b,ob,its.toArray,n,rfl,h1,h2,h3,by simpa using key d (fun h1=>ih h1) l xs its (by have:TK.depths l+1<=d+1:=hd; omega) hi rv⟩
theorem sJ {X:Cx}{J3:Zd}{σ:St}{H:Hp}{s:Shared}{k:TK}{b:Addr}(I:Inv X J3 σ H s) (e:k5 X.K H k (.ref b)) (h8:k.depth<=8):(dE X.prog X.w).is s.heap k b:=⟨EZ I 8 h8 e rfl,h8⟩
theorem fg {P:bF}{w:World}{A:Around}(hu:A.units+16<cLine):(dE P w).room A.in1:=by
 show A.units+1+8<cLine;omega
def jT (K:Za) (H:Hp) (a:Addr) (y:V) (r:Option V):Prop :=
 (∃kvs k,Rd H a (.dK kvs)/\y=kV k/\r=bG kvs k)∨∃kvs k b,Rd H a (.dT kvs)/\y=.ref b/\k5 K H k (.ref b)/\k.depth<=8/\r=bG kvs k
def HI (H:Hp) (a:Addr) (y v:V) (H':Hp):Prop :=
 (∃kvs k,H a=some (.dK kvs)/\y=kV k/\kvs.length<aj/\H'=upd H a (.dK (cI kvs k v))) ∨
 ∃kvs k b,H a=some (.dT kvs)/\y=.ref b/\cV H k (.ref b)/\k.depth<=8/\kvs.length<aj/\H'=upd H a (.dT (cI kvs k v))
section
variable {X:Cx}{J3:Zd}{σ:St}{H:Hp}{s:Shared}{a:Addr}{y v:V}{u r:Value}{o:Option V}{A:Around}{E:Zc}
theorem Inv.big (I:Inv X J3 σ H s):fT<s.heap.objs.size:=by
 have h:bX<s.heap.objs.size:=(I.mod.glob.keeps I.bk).lt;exact Nat.lt_trans (by decide) h
theorem CL {Q:Zc}(hu:A.units+16<cLine) (I:Inv X J3 σ H s) (g:jT X.K H a y (some v)) (ry:RelV y u) (h:∀w' s',Inv X J3 σ H s'->RelV v w'->Q w' s') :
  wpAny (model X.prog X.w) A (mz (.ref a) u) Q E s:=by
 rcases g with ⟨kvs,k,e,ey,l⟩ | ⟨kvs,k,b,e,ey,eb,e8,l⟩
 ·subst ey;obtain ⟨z,hd,vs,rel,dd⟩:=oo I.hok e;obtain ⟨w',hw,rw'⟩:=j_.some_of (v:=v) (o:=mv vs k) (by rw [l]; exact rel.val k);exact wpAny_getItem_of (jo ry) dd.mapOf hw (h w' _ (I.tok _) rw')
 ·subst ey;cases (show u=Value.ref b from ry);obtain ⟨z,hd,xs,rel,dd⟩:=qi I.hok I.kIn e;obtain ⟨w',hw,rw'⟩:=j_.some_of (v:=v) (o:=(atKey xs k).map (·.2)) (by rw [l]; exact rel.val k);obtain ⟨p,hp,hp2⟩:=mn.mp hw;refine wpAny_getItem_heap (fg hu) (sJ I eb e8) dd hp ?_;rw [hp2];exact h w' _ (I.tok _) rw'
theorem d_in {Q:Zc}(hu:A.units+16<cLine) (I:Inv X J3 σ H s) (g:jT X.K H a y o) (ry:RelV y u) (h:∀s',Inv X J3 σ H s'->Q (.bool o.isSome) s') :
  wpAny (model X.prog X.w) A (dY .In u (.ref a)) Q E s:=by
 rcases g with ⟨kvs,k,e,ey,l⟩ | ⟨kvs,k,b,e,ey,eb,e8,l⟩
 ·subst ey;obtain ⟨z,hd,vs,rel,dd⟩:=oo I.hok e;refine wpAny_in_of (jo ry) hd dd.mapOf ?_;rw [<-(rel.val k).isSome_eq,<-l];exact h _ (I.tok _)
 ·subst ey;cases (show u=Value.ref b from ry);obtain ⟨z,hd,xs,rel,dd⟩:=qi I.hok I.kIn e;refine wpAny_in_heap (fg hu) (sJ I eb e8) hd dd ?_;have q:=(rel.val k).isSome_eq;rw [Option.isSome_map] at q;rw [<-q,<-l];exact h _ (I.tok _)
theorem FS {Q:Zc}(hu:A.units+16<cLine) (I:Inv X J3 σ H s) (g:jT X.K H a y o) (ry:RelV y u) (h:∀s',Inv X J3 σ H s'->Q (.bool (!o.isSome)) s') :
  wpAny (model X.prog X.w) A (dY .NotIn u (.ref a)) Q E s:=by
 rcases g with ⟨kvs,k,e,ey,l⟩ | ⟨kvs,k,b,e,ey,eb,e8,l⟩
 ·subst ey;obtain ⟨z,hd,vs,rel,dd⟩:=oo I.hok e;refine wpAny_notIn_of (jo ry) hd dd.mapOf ?_;rw [<-(rel.val k).isSome_eq,<-l];exact h _ (I.tok _)
 ·subst ey;cases (show u=Value.ref b from ry);obtain ⟨z,hd,xs,rel,dd⟩:=qi I.hok I.kIn e;refine wpAny_notIn_heap (fg hu) (sJ I eb e8) hd dd ?_;have q:=(rel.val k).isSome_eq;rw [Option.isSome_map] at q;rw [<-q,<-l];exact h _ (I.tok _)
theorem oq {h':Heap}{t':Nat}{ob:HO}(I:Inv X J3 σ H s) (mu:Hz (H a)) (hs:ff a s.heap h') (he:∃q,h'.get? a=some q) (new:bO X.prog X.w X.K (upd H a ob) h' a ob) :
  Inv X J3 σ (upd H a ob) { s with heap:=h',toks:=t' } :=
 I.write (x:=a) (e:=a) mu (.inl rfl) (fun b q hb z=>(hs.2 b hb).trans z) he new
theorem Et {P:bF}{w:World}{K:Za}{H':Hp}{h':Heap}{kvs:List (dX×V)}{vs:List (dX×Value)}(z:kvs.length<=aj) (hd:(a == fT)=false) (rel:KV kvs vs) (dd:h'.DictOf (bM P w) a vs) :
  bO P w K H' h' a (.dK kvs):=⟨z,hd,vs,rel,dd⟩
theorem CK {H':Hp}{Q:Unit->Shared->Prop}(hu:A.units+16<cLine) (I:Inv X J3 σ H s) (g:HI H a y v H') (ry:RelV y u) (rv:RelV v r) (h:∀s',Inv X J3 σ H' s'->Q () s') :
  wpAny (model X.prog X.w) A (setItem (.ref a) u r) Q E s:=by
 rcases g with ⟨kvs,k,e,ey,l,eH⟩ | ⟨kvs,k,b,e,ey,eb,e8,l,eH⟩
 ·subst ey eH;obtain ⟨z,hd,vs,rel,dd⟩:=Hw I.hok e;have hz:vs.length<=aj:=by rw [<-rel.length]; exact z
  have hl:(cI kvs k v).length<=aj:=by have:=iI kvs k v; omega
  refine wpAny_setItem_pairs (hsz:=hz) (jo ry) dd fun h' dd' hs=>h _ ?_;have he:∃q,h'.get? a=some q:=let ⟨q,_,_,hq,_⟩:=dd'; ⟨q,hq⟩;exact oq I (by rw [e]; exact iD) hs he (Et hl hd (rel.put k rv) dd')
 ·subst ey eH;cases (show u=Value.ref b from ry);obtain ⟨z,hd,xs,rel,dd⟩:=By I.hok I.kIn e;have hz:xs.length<=aj:=by rw [<-Paired.length rel]; exact z
  have hl:(cI kvs k v).length<=aj:=by have:=iI kvs k v; omega
  refine wpAny_setItem_heap (hsz:=hz) (fg hu) (sI I.hok I.kIn (cV.c 8 e8 eb) e8) dd fun h' dd' hs=>h _ ?_;obtain ⟨q,es,ep,hq,h2,h3,h4,_,h5⟩:=dd';refine oq I (by rw [e]; exact iD) hs ⟨q,hq⟩ ⟨hl,hd,_,(rel.put k (cV.c 8 e8 eb) e8 rv).keeps fun c ys ec=>?_,q,es,ep,hq,h2,h3,h4,h5⟩;rw [af (Bq ec e (fun z=>nomatch z))];exact ec
theorem An {b:Addr}{kvs:List (TK×V)}{k:TK}{Q:Unit->Shared->Prop}(hu:A.units+16<cLine) (I:Inv X J3 σ H s) (e:H a=some (.dT kvs)) (eb:mR X.K H k (.ref b)) (e8:k.depth<=8) (l:kvs.length<aj) (ry:RelV (.ref b) u) (rv:RelV v r) (h:∀s',Inv X J3 σ (upd H a (.dT (cI kvs k v))) s'->Q () s') :
  wpAny (model X.prog X.w) A (setItem (.ref a) u r) Q E s:=by
 cases (show u=Value.ref b from ry);obtain ⟨z,hd,xs,rel,dd⟩:=By I.hok I.kIn e;have hz:xs.length<=aj:=by rw [<-Paired.length rel]; exact z
 have hl:(cI kvs k v).length<=aj:=by have:=iI kvs k v; omega
 refine wpAny_setItem_heap (hsz:=hz) (fg hu) (sI I.hok I.kIn (eb) e8) dd fun h' dd' hs=>h _ ?_;obtain ⟨q,es,ep,hq,h2,h3,h4,_,h5⟩:=dd';refine oq I (by rw [e]; exact iD) hs ⟨q,hq⟩ ⟨hl,hd,_,(rel.put k (eb) e8 rv).keeps fun c ys ec=>?_,q,es,ep,hq,h2,h3,h4,h5⟩;rw [af (Bq ec e (fun z=>nomatch z))];exact ec
end
def CV (i:Expr):Prop:=∀ov iv,vM i false ov iv=operate [ov,iv] (mz ov iv)
theorem Fe {prog:bF}{w:World}{A:Around}{E:Zc}{s:Shared}{env:Env}{value slice:Expr}{pos:Pos}{T id:String}{Q:Zc}
  (hl:typeLookup (.type T) "__getitem__"=pure (some (.builtin id))) (hs:CV slice)
  (h:wpAny (model prog w) A (eval value env) (fun o s₁=>wpAny (model prog w) A (eval slice env) (fun i s₂=>s₂.TypeIs o T/\wpAny (model prog w) A (mz o i) Q E s₂) E s₁) E s) :
  wpAny (model prog w) A (eval (.Subscript value slice pos) env) Q E s:=by
 refine Subscript_ (i7 h (fun o s₁ h₁=>i7 h₁ (fun i s₂ h₂=>?_) fun _ _ x=>x) fun _ _ x=>x);obtain ⟨hT,h₂⟩:=h₂;unfold subscriptTail;refine ak ?_;rw [getitemInPython_of_ne hT.not_modules];refine ak (EU hT hl ?_);have fin:wpAny (model prog w) A (vM slice false o i) (fun r s₃=>wpAny (model prog w) A (letTemporaryGo value o r >>= fun _=>pure r) Q E s₃) E s₂:=by
  rw [hs o i];exact wpAny_operating (i7 h₂ (fun r s₃ h₃=>ak (wpAny_letTemporaryGo (aG h₃))) fun _ _ x=>x)
 first
  | exact aG (ak fin)
  | exact ak (aG (ak fin))
  | exact ak fin
theorem yF {X:Cx}{J3:Zd}{σ:St}{H:Hp}{s:Shared}{a:Addr}{y:V}{o:Option V}(I:Inv X J3 σ H s) (g:jT X.K H a y o):s.TypeIs (.ref a) "dict":=by
 rcases g with ⟨kvs,k,e,_,_⟩ | ⟨kvs,k,b,e,_,_,_⟩
 ·obtain ⟨_,_,vs,_,dd⟩:=oo I.hok e;exact dd.typeIs
 ·obtain ⟨_,_,xs,_,dd⟩:=qi I.hok I.kIn e;exact dd.typeIs
def gS (K:Za) (td ty:TE):TE:=fun σ H Q=>td σ H fun x H1=>ty σ H1 fun y H2=>∃a v,x=.ref a/\jT K H2 a y (some v)/\Q v H2
def zB (K:Za) (ty td:TE):TE:=fun σ H Q=>ty σ H fun y H1=>td σ H1 fun x H2=>∃a o,x=.ref a/\jT K H2 a y o/\Q (.bl o.isSome) H2
def fE (K:Za) (ty td:TE):TE:=fun σ H Q=>ty σ H fun y H1=>td σ H1 fun x H2=>∃a o,x=.ref a/\jT K H2 a y o/\Q (.bl (!o.isSome)) H2
def ma (td ty tv:TE):TS:=fun D σ H=>tv σ H fun v H1=>td σ H1 fun x H2=>ty σ H2 fun y H3=>∃a H4,x=.ref a/\HI H3 a y v H4/\D.nx σ H4
section
variable {X:Cx}{o i e value:Expr}{pos pos' J7:Pos}{td ty tv:TE}
theorem eS (hu:X.A.units+16<cLine) (ho:PE X o td) (hi:PE X i ty) (hs:CV i):PE X (.Subscript o i pos) (gS X.K td ty):=by
 intro J3 s σ H Q I h;refine Fe PySem.F.slot_dict_getitem.lookup hs (cf (ho J3 s σ H _ I h) fun u s1 ⟨x,H1,I1,rx,q1⟩=>cf (hi J3 s1 σ H1 _ I1 q1) fun iv s2 ⟨y,H2,I2,ry,a,v,ex,g,q2⟩=>?_);subst ex;obtain rfl:u=Value.ref a:=rx;exact ⟨yF I2 g,CL hu I2 g ry fun w' s3 I3 rw'=>⟨v,H2,I3,rw',q2⟩⟩
theorem pi (hu:X.A.units+16<cLine) (hi:PE X i ty) (ho:PE X o td):PC X .In i o (zB X.K ty td):=by
 intro J3 s σ H Q I h;refine cf (hi J3 s σ H _ I h) fun iv s1 ⟨y,H1,I1,ry,q1⟩=>cf (ho J3 s1 σ H1 _ I1 q1) fun u s2 ⟨x,H2,I2,rx,a,ov,ex,g,q2⟩=>?_;subst ex;obtain rfl:u=Value.ref a:=rx;exact d_in hu I2 g ry fun s3 I3=>⟨.bl ov.isSome,H2,I3,rfl,q2⟩
theorem fk (hu:X.A.units+16<cLine) (hi:PE X i ty) (ho:PE X o td):PC X .NotIn i o (fE X.K ty td):=by
 intro J3 s σ H Q I h;refine cf (hi J3 s σ H _ I h) fun iv s1 ⟨y,H1,I1,ry,q1⟩=>cf (ho J3 s1 σ H1 _ I1 q1) fun u s2 ⟨x,H2,I2,rx,a,ov,ex,g,q2⟩=>?_;subst ex;obtain rfl:u=Value.ref a:=rx;exact FS hu I2 g ry fun s3 I3=>⟨.bl (!ov.isSome),H2,I3,rfl,q2⟩
theorem gZ (hu:X.A.units+16<cLine) (ho:PE X o td) (hi:PE X i ty) (hv:PE X value tv) (hs:pY value (some (.Subscript o i pos')) pos.line X.env=pure false) :
  PS X (.Assign [.Subscript o i pos'] value pos) (ma td ty tv):=by
 intro J3 s σ H D I h;refine wpAny_Assign_Subscript (cf (hv J3 s σ H _ I h) fun r s1 ⟨v,H1,I1,rv,q1⟩=>cf (ho J3 s1 σ H1 _ I1 q1) fun u s2 ⟨x,H2,I2,rx,q2⟩=>cf (hi J3 s2 σ H2 _ I2 q2) fun iv s3 ⟨y,H3,I3,ry,a,H4,ex,g,q3⟩=>?_) hs;subst ex;obtain rfl:u=Value.ref a:=rx;exact CK hu I3 g ry rv fun s4 I4=>⟨σ,H4,I4,q3⟩
end
theorem Eu {P:bF}{w:World}{K:Za}{H:Hp}(h:Heap) (hb:fT<h.objs.size):bO P w K H (h.push { cls:=.type "dict",data:=.dict #[] }) h.objs.size (.dK []) :=
 ⟨c8 _,beq_eq_false_iff_ne.mpr (c9 (cQ hb)),[],.nil,Heap.DictOf.new h⟩
theorem yE {P:bF}{w:World}{K:Za}{H:Hp}(h:Heap) (hb:fT<h.objs.size):bO P w K H (h.push { cls:=.type "dict",data:=.dict #[] }) h.objs.size (.dT []) :=
 ⟨c8 _,beq_eq_false_iff_ne.mpr (c9 (cQ hb)),[],.nil,_,#[],0,cr _ rfl,⟨rfl,rfl,rfl⟩,rfl,rfl,oT⟩
def o9:TE:=fun _ H Q=>∀p,H p=none->Q (.ref p) (upd H p (.dK []))
def o8:TE:=fun _ H Q=>∀p,H p=none->Q (.ref p) (upd H p (.dT []))
section
variable {X:Cx}{pos:Pos}
theorem kM:PE X (.Dict [] [] pos) o9:=fun J3 s σ H Q I h =>
 wpAny_Dict_empty ⟨.ref s.heap.objs.size,_,I.laid (a:=s.heap.objs.size) (o:=.dK []) (t':=s.toks) (fun _ _ q=>bd _ q) (aD _) (Eu s.heap I.big),rfl,h _ (I.hok.fresh (aD _))⟩
theorem kL:PE X (.Dict [] [] pos) o8:=fun J3 s σ H Q I h =>
 wpAny_Dict_empty ⟨.ref s.heap.objs.size,_,I.laid (a:=s.heap.objs.size) (o:=.dT []) (t':=s.toks) (fun _ _ q=>bd _ q) (aD _) (yE s.heap I.big),rfl,h _ (I.hok.fresh (aD _))⟩
end
def iT (kvs more:List (dX×V)):List (dX×V):=more.foldl (fun acc kv=>cI acc kv.1 kv.2) kvs
theorem KV.merge:∀{more:List (dX×V)}{rs:List (dX×Value)}{kvs:List (dX×V)}{vs:List (dX×Value)},KV more rs->KV kvs vs->KV (iT kvs more) (merged vs rs):=by
 intro more rs kvs vs r;unfold KV at r
 induction r generalizing kvs vs with
 | nil=>intro q; exact q
 | @cons p q ps qs h t ih =>
  intro r0;have e:KV (cI kvs p.1 p.2) (stored vs q.1 q.2):=by
   have:=r0.put p.1 h.2;rw [<-h.1]; exact this
  exact ih e
theorem me:∀(more kvs:List (dX×V)),(iT kvs more).length<=kvs.length+more.length
 | [],kvs=>by show kvs.length<=kvs.length+0; omega
 | p::r,kvs=>by
  have h1:=me r (cI kvs p.1 p.2);have h2:=iI kvs p.1 p.2;show (iT (cI kvs p.1 p.2) r).length<=_;rw [dQ]; omega
structure M1 (X:Cx) (o:Expr) (m:Str) (J5:Pos) (e:Expr) (J4:Pos):Prop where
 base:qU o m X.env (eval o X.env)=eval o X.env
 few:((backTo J4 (aI [e] X.env)).all (fun x=>!x.1) && (nz J4 (ny [] X.env)).all (fun x=>x.1.isSome)
  && decide (([e]:List Expr).length+([]:List oW).length+(if ([]:List oW).isEmpty then 0 else 1)<30))=true
 line:(J5.endLine == J4.line)=true
 trees:backTo J4 (aI [e] X.env)=[(false,eval e X.env)]
structure M2 (X:Cx) (o:Expr) (m:Str) (J5:Pos) (e f:Expr) (J4:Pos):Prop where
 base:qU o m X.env (eval o X.env)=eval o X.env
 few:((backTo J4 (aI [e,f] X.env)).all (fun x=>!x.1) && (nz J4 (ny [] X.env)).all (fun x=>x.1.isSome)
  && decide (([e,f]:List Expr).length+([]:List oW).length+(if ([]:List oW).isEmpty then 0 else 1)<30))=true
 line:(J5.endLine == J4.line)=true
 trees:backTo J4 (aI [e,f] X.env)=[(false,eval e X.env),(false,eval f X.env)]
def H_ (H:Hp) (a:Addr):Prop:=(∃kvs,Rd H a (.dK kvs))∨∃kvs,Rd H a (.dT kvs)
theorem Ej {X:Cx}{J3:Zd}{σ:St}{H:Hp}{s:Shared}{a:Addr}(I:Inv X J3 σ H s) (d:H_ H a) :
  s.TypeIs (.ref a) "dict"/\(∀b,Value.ref a=.ref b->∃ob,s.heap.get? b=some ob/\ob.dict=none)/\(a == fT)=false:=by
 rcases d with ⟨kvs,e⟩ | ⟨kvs,e⟩
 ·obtain ⟨_,hd,vs,_,dd⟩:=oo I.hok e;refine ⟨dd.typeIs,fun b q=>?_,hd⟩;cases q;obtain ⟨ob,_,_,h1,h2,_⟩:=dd;exact ⟨ob,h1,h2.2.1⟩
 ·obtain ⟨_,hd,xs,_,dd⟩:=qi I.hok I.kIn e;refine ⟨dd.typeIs,fun b q=>?_,hd⟩;cases q;obtain ⟨ob,_,_,h1,h2,_⟩:=dd;exact ⟨ob,h1,h2.2.1⟩
section
variable {X:Cx}{J3:Zd}{σ:St}{H:Hp}{s:Shared}{a:Addr}{y d:V}{u r:Value}{o:Option V}{A:Around}{E:Zc}
theorem G3 {Q:Zc}(hu:A.units+16<cLine) (I:Inv X J3 σ H s) (g:jT X.K H a y o) (ry:RelV y u) (h:∀w' s',Inv X J3 σ H s'->RelV (o.getD .non) w'->Q w' s') :
  wpAny (model X.prog X.w) A (call (.builtin "dict.get") [.ref a,u]) Q E s:=by
 rcases g with ⟨kvs,k,e,ey,l⟩ | ⟨kvs,k,b,e,ey,eb,e8,l⟩
 ·subst ey;obtain ⟨z,hd,vs,rel,dd⟩:=oo I.hok e;refine rF oS dd.typeIs vH (PySem.F.args_dict_get_2 _ _) (meets_dict_get (bM X.prog X.w) a (jo ry) hd) ⟨_,dd.mapOf,h _ _ (I.tok _) ?_⟩;rw [l];exact (rel.val k).getD rfl
 ·subst ey;cases (show u=Value.ref b from ry);obtain ⟨z,hd,xs,rel,dd⟩:=qi I.hok I.kIn e;refine rF oS dd.typeIs vH (PySem.F.args_dict_get_2 _ _) (meetsH_dict_get (dE X.prog X.w) a b hd) ⟨fg hu,k,xs,sJ I eb e8,dd,h _ _ (I.tok _) ?_⟩;rw [l];exact (rel.val k).getD rfl
theorem G1 {Q:Zc}(hu:A.units+16<cLine) (I:Inv X J3 σ H s) (g:jT X.K H a y o) (ry:RelV y u) (rd:RelV d r) (h:∀w' s',Inv X J3 σ H s'->RelV (o.getD d) w'->Q w' s') :
  wpAny (model X.prog X.w) A (call (.builtin "dict.get") [.ref a,u,r]) Q E s:=by
 rcases g with ⟨kvs,k,e,ey,l⟩ | ⟨kvs,k,b,e,ey,eb,e8,l⟩
 ·subst ey;obtain ⟨z,hd,vs,rel,dd⟩:=oo I.hok e;refine rF oS dd.typeIs vH (PySem.F.args_dict_get_3 _ _ _) (meets_dict_get_default (bM X.prog X.w) a (jo ry) hd r) ⟨_,dd.mapOf,h _ _ (I.tok _) ?_⟩;rw [l];exact (rel.val k).getD rd
 ·subst ey;cases (show u=Value.ref b from ry);obtain ⟨z,hd,xs,rel,dd⟩:=qi I.hok I.kIn e;refine rF oS dd.typeIs vH (PySem.F.args_dict_get_3 _ _ _) (meetsH_dict_get_default (dE X.prog X.w) a b hd r) ⟨fg hu,k,xs,sJ I eb e8,dd,h _ _ (I.tok _) ?_⟩;rw [l];exact (rel.val k).getD rd
end
def v8 (K:Za) (td ty:TE):TE:=fun σ H Q=>td σ H fun x H1=>∃a,x=.ref a/\H_ H1 a/\ty σ H1 fun y H2=>∃o,jT K H2 a y o/\Q (o.getD .non) H2
def r8 (K:Za) (td ty tx:TE):TE:=fun σ H Q=>td σ H fun x H1=>∃a,x=.ref a/\H_ H1 a/\ty σ H1 fun y H2=>tx σ H2 fun z H3=>∃o,jT K H3 a y o/\Q (o.getD z) H3
section
variable {X:Cx}{o e f:Expr}{J5 J4:Pos}{td ty tx:TE}
theorem xV (hu:X.A.units+16<cLine) (ho:PE X o td) (he:PE X e ty) (m:M1 X o "get" J5 e J4):PE X (.Call (.Attribute o "get" J5) [e] [] J4) (v8 X.K td ty):=by
 intro J3 s σ H Q I h;refine wpAny_Call_method m.base m.few m.line PySem.F.plainAttrs_dict oS PySem.F.type_dict_get (cf (ho J3 s σ H _ I h) fun u s1 ⟨x,H1,I1,rx,a,ex,d,q1⟩=>?_);subst ex;obtain rfl:u=Value.ref a:=rx;obtain ⟨t1,t2,_⟩:=Ej I1 d;refine ⟨t1,t2,?_⟩;rw [m.trees];refine rJ rfl (Calls.evalArgs_plain (AJ (cf (he J3 s1 σ H1 _ I1 q1) fun iv s2 ⟨y,H2,I2,ry,ov,g,q2⟩=>Calls.spliced_nil ?_)));exact G3 hu I2 g ry fun w' s3 I3 rw'=>⟨_,H2,I3,rw',q2⟩
theorem nZ (hu:X.A.units+16<cLine) (ho:PE X o td) (he:PE X e ty) (hf:PE X f tx) (m:M2 X o "get" J5 e f J4):PE X (.Call (.Attribute o "get" J5) [e,f] [] J4) (r8 X.K td ty tx):=by
 intro J3 s σ H Q I h;refine wpAny_Call_method m.base m.few m.line PySem.F.plainAttrs_dict oS PySem.F.type_dict_get (cf (ho J3 s σ H _ I h) fun u s1 ⟨x,H1,I1,rx,a,ex,d,q1⟩=>?_);subst ex;obtain rfl:u=Value.ref a:=rx;obtain ⟨t1,t2,_⟩:=Ej I1 d;refine ⟨t1,t2,?_⟩;rw [m.trees];refine rJ rfl (Calls.evalArgs_plain (AJ (cf (he J3 s1 σ H1 _ I1 q1) fun iv s2 ⟨y,H2,I2,ry,q2⟩ =>
  AJ (cf (hf J3 s2 σ H2 _ I2 q2) fun fv s3 ⟨z,H3,I3,rz,ov,g,q3⟩=>Calls.spliced_nil ?_))))
 exact G1 hu I3 g ry rz fun w' s4 I4 rw'=>⟨_,H3,I4,rw',q3⟩
end
end L2
namespace Att
open PySem PySem.W PySem.Calls PyProof.Rows
theorem ints_of_wellAll {P:Params}{h:Heap}:∀(ns:List Int) (vs:Zf),WellAll P h vs (ns.map WData.int)->fB vs ns:=by
 intro ns
 induction ns with
 | nil =>
  intro vs w;rw [vO] at w;cases w;exact .nil
 | cons n ns ih =>
  intro vs w;rw [aZ] at w;cases w with
  | cons a b =>
   cases a;exact .cons _ _ (ih _ b)
theorem script_of {l:OpenLaw}{n:Nat}(hn:l.most=some n) {P:Params}{h:Heap}{args:List WData}{vals:Zf}
  (hpre:l.row.toRowW.claim.pre args=true) (hwl:WellAll P h vals args) :
  ∃a vs ns,vals=[Value.ref a]/\args=[WData.list (ns.map WData.int)]/\h.get? a=some { cls:=.type "list",data:=.seq vs.toArray }/\fB vs ns/\ns.length<=n:=by
 have hsh:WShape.hasAll [] args [.list .int]=true:=(pre_splitW hpre).1;have hc:l.pre.holds [] { args:=args }=true:=(pre_splitW hpre).2;obtain ⟨d,r,rfl,h1,h2⟩:=hasAllW_cons hsh;obtain rfl:=hasAllW_nil h2;obtain ⟨xs,rfl,h3⟩:=hasW_list h1;obtain ⟨ns,rfl⟩:=items_int h3;have hlen:ns.length<=n:=by
  unfold OpenLaw.pre at hc;have h4:(WTm.not (.lt (.lit (.int (n:Int))) (.len (.arg 0)))).holds [] { args:=[.list (ns.map .int)] }=true:=by
   have h4:=(holds_andW hc).1;rw [hn] at h4;exact h4
  have h5:=condW_of h4 (w_not (w_lt w_lit (w_len_list (w_arg rfl))));rw [ai] at h5;refine Nat.le_of_not_lt fun q=>?_;have q':(n:Int)<((ns.length:Nat):Int):=by omega
  first
   | (rw [zzr1 q'] at h5; exact absurd h5 (by decide))
   | (simp at h5; omega)
 cases hwl with
 | cons w1 w2 =>
  cases w2;cases w1 with
  | list ho hall=>exact ⟨_,_,ns,rfl,rfl,ho,ints_of_wellAll ns _ hall,hlen⟩
theorem post_true (l:OpenLaw) (args:List WData):l.row.toRowW.claim.post args (.bool true) args=true :=
 postW_of (r:=l.row.toRowW) (X:=(true == true))
  (show WShape.has [] (.bool true) .bool=true by first | rfl | decide | simp [WShape.has,WShape.arms,WShape.armsAll])
  (show (WTm.eq .res (.lit (.bool true))).value [] { args:=args,res:=some (.bool true),after:=args }=some (.bool (true == true)) from w_eq_bool (w_res rfl) w_lit) rfl
theorem attach_call {l:OpenLaw}{n:Nat}{q:bF}{loose:Zb}{XP:(Str->Option Value)->Heap->Prop}{YP:World->Heap->Prop}{d:DefRec}
  (hn:l.most=some n) (hdf:d.params.defaults=[])
  (call:∀(w:World) (s₀ s₁:Shared) (mg mb:Str->Option Value) (fa:Addr) (o:Obj) (pm cd doc:Value) (a:Addr) (vs:Zf) (ns:List Int),
   Ground q loose [] XP w s₀ mg mb s₁.heap->YP w s₁.heap ->
   s₁.heap.get? fa=some o->o.data=.func (docDef d.name d.params d.body d.scope pm cd doc)->s₁.heap.CodeRec cd d.name->mg d.name=some (.ref fa) ->
   s₁.heap.get? a=some { cls:=.type "list",data:=.seq vs.toArray }->fB vs ns->ns.length<=n->s₁.gens=#[] ->
   zzl77 (model l.prog w) ky (.call (.ref fa) ⟨[.ref a],[]⟩) (fun r s'=>r=.ok (.ret (.bool true))/\OldK s₁.heap s'.heap/\s'.os=s₁.os/\nC s'.gens) s₁) :
  WalkO q loose XP YP l.row.toRowW d [] (fun f vs=>PySem.call f vs):=by
 intro w s₀ s₁ mg mb G Y fa o pm cd doc dV kV ho hd hcd hD hmg hg args vals as hpre hlay hrd hwl hlo;obtain rfl:dV=.none:=Dflts.none hD hdf;obtain rfl:kV=.none:=Dflts.noKw hD;obtain ⟨a,vs,ns,rfl,rfl,hobj,hints,hlen⟩:=script_of hn hpre hwl;refine enter_call (AI (call w s₀ s₁ mg mb fa o pm cd doc a vs ns G Y ho (fd_plain hd) hcd hmg hobj hints hlen hg) fun r s' hq=>?_);obtain ⟨rfl,h2,h3,h4⟩:=hq;exact ⟨.inl ⟨.bool true,.bool true,[],rfl,fun _=>rfl,.bool true,post_true l _,fun _=>⟨List.Pairwise.nil,fun _ hm=>(nomatch hm)⟩⟩,h2,h3,h4⟩
end Att
namespace L2
open PySem PySem.Spec PyProof.Rows
theorem uk:∀{vs:Zf}{ns:List Int},fB vs ns->aV (ns.map V.int) vs
 | _,_,.nil=>.nil
 | _,_,.cons n t h=>.cons ⟨t,rfl⟩ (uk h)
def Ga (H:Hp):Prop:=∀b,H b=none∨∃o xs,H b=some (.frz o (.lst xs))
theorem Ee {P:bF}{w:World}{K:Za}{mg mb:Str->Option Value}{CX:C_}{k:Nat}{fa a:Addr}{fd:kb}{x:Str}{sp:Sp}{s₁:Shared}{vs:Zf}{ns:List Int}
  (KX:K.In s₁.heap) (hns:s₁.heap.Ns bX mg) (hb:s₁.heap.Ns builtinsNs mb) (hbb:∀x:Str,x≠"__name__"->mb x=kg x) (hlim:s₁.heap.NoLimit) (hg:s₁.gens=#[])
  (ha:s₁.heap.get? a=some { cls:=.type "list",data:=.seq vs.toArray }) (hi:fB vs ns) (hl:ns.length<=aj) (hr:eG k ky)
  (F:∀base:Heap,K.In base->base.Ns bX mg->lU P w K mg base CX k fa fd [x] sp) (hbind:∀(s:Shared) (u:Value),qT s fd ⟨[u],[]⟩ [(x,u)])
  (hsp:∀H:Hp,Ga H->aB K H a (ns.map V.int)->sp [.ref a] H (fun v _=>v=.bl true) fun _ _ _=>False)
  (hCX:∀H e s',CX [] H s₁ (fun _ _ _=>False) e s'->False) :
  zzl77 (model P w) ky (.call (.ref fa) ⟨[.ref a],[]⟩) (fun r s'=>r=.ok (.ret (.bool true))/\OldK s₁.heap s'.heap/\s'.os=s₁.os/\nC s'.gens) s₁:=by
 have rv:=uk hi;have lenV:=hi.length;have core:∀H:Hp,Ga H->aB K H a (ns.map V.int)->lI P w K H s₁.heap->(∀b,H b≠none->b=a)->(H a≠none->K.lookup a=none) ->
   zzl77 (model P w) ky (.call (.ref fa) ⟨[.ref a],[]⟩) (fun r s'=>r=.ok (.ret (.bool true))/\OldK s₁.heap s'.heap/\s'.os=s₁.os/\nC s'.gens) s₁:=by
  intro H hO hS hok hA hK;have base_of:∀{b:Addr}{o:Obj},s₁.heap.get? b=some o->H b=none->(wI s₁.heap H).get? b=some o:=fun e n=>El e n;have noA:∀{b:Addr}{o:Obj}{es:Array iQ}{ep:Nat},s₁.heap.get? b=some o->o.data=.dict es ep->H b=none:=fun {b o es ep} e d=>by
   cases q:H b with
   | none=>rfl
   | some u =>
    have e':b=a:=hA b (by rw [q]; simp);subst e';rw [ha] at e; cases e;have d':Data.seq vs.toArray _=Data.dict es ep:=d;cases d'
  have nsK:∀{b:Addr}{m:Str->Option Value},s₁.heap.Ns b m->(wI s₁.heap H).Ns b m:=fun {b m} ⟨o,es,ep,e,d,r⟩=>⟨o,es,ep,base_of e (noA e d),d,r⟩;have hKb:K.In (wI s₁.heap H):=fun b o e=>base_of (KX b o e) (by
   cases q:H b with
   | none=>rfl
   | some u =>
    have e':b=a:=hA b (by rw [q]; simp);subst e';rw [hK (by rw [q]; simp)] at e; cases e)
  have hM:Mod K mg (wI s₁.heap H):=⟨hKb,nsK hns,⟨mb,nsK hb,hbb⟩,let ⟨mc,h1,h2⟩:=hlim; ⟨mc,nsK h1,h2⟩⟩;have e0:AE P w K mg (wI s₁.heap H) ky [] s₁ H:=⟨rfl,hM,fun b o e=>FJ e,Nat.le_of_eq (CD _ _),trivial,fun b hb=>absurd (show b∈([]:Ze) from hb) (by simp),hok,.of_eq hg⟩;refine AI ((F _ hKb (nsK hns)).run ky [] s₁ H ⟨[.ref a],[]⟩ [.ref a] [.ref a] _ _ hr e0 (hbind s₁ (.ref a)) (.cons rfl .nil) (hsp H hO hS)) fun r s' h=>?_;cases r with
  | error e=>exact (hCX H e s' h).elim
  | ok fl =>
   cases fl with
   | next=>exact i6 h
   | brk=>exact i6 h
   | cont=>exact i6 h
   | ret u =>
    obtain ⟨v,H',os,bare,un,hok',r',q⟩:=h;have q':v=.bl true:=q;subst q';obtain rfl:u=Value.bool true:=r';refine ⟨rfl,OldK.of_keep fun b o e=>?_,os,bare⟩;cases q:H b with
    | none=>exact un.keep b o e q (by intro z; exact absurd (show b∈([]:Ze) from z) (by simp)) (by simp)
    | some u =>
     rcases hO b with z | ⟨ob,xs,z⟩
     ·rw [q] at z; cases z
     ·have z2:=un.frzs b ob _ z;obtain ⟨e1,_⟩:=hok b _ z;obtain ⟨e2,_⟩:=hok' b _ z2;rw [e] at e1; cases e1;exact e2
 cases hk:K.lookup a with
 | some o =>
  have e:=KX a o hk;rw [ha] at e;cases e;refine core (fun _=>none) (fun _=>.inl rfl) (.inr ⟨_,vs.toArray,_,hk,rfl,rfl,rfl,by rw [bt,lenV]; exact hl,by simpa using rv⟩) (fun b u z=>by have z':(none:Option HO)=some u:=z; cases z') (fun b z=>absurd rfl z) fun z=>absurd rfl z
 | none =>
  refine core (fun b=>if b=a then some (.frz { cls:=.type "list",data:=.seq vs.toArray } (.lst (ns.map V.int))) else none) (fun b=>?_) (.inl (.inr ⟨{ cls:=.type "list",data:=.seq vs.toArray },if_pos rfl⟩)) (fun b u z=>?_) (fun b z=>?_) fun _=>hk
  ·by_cases hb:b=a
   ·exact .inr ⟨_,_,if_pos hb⟩
   ·exact .inl (if_neg hb)
  ·by_cases hb:b=a
   ·have z':=(if_pos hb).symm.trans z;cases z';subst hb;exact ⟨ha,by rw [ai]; exact hl,vs,_,rv,ha⟩
   ·have z':=(if_neg hb).symm.trans z;cases z'
  ·by_cases hb:b=a
   ·exact hb
   ·exact absurd (if_neg hb) z
end L2
namespace L2
open PySem PySem.Spec PyProof.Rows
theorem EW {l:PySem.W.OpenLaw}{n k:Nat}{q:bF}{loose:Zb}{XP:(Str->Option Value)->Heap->Prop}{YP:World->Heap->Prop}{d:DefRec}{K:Params->Za}{CX:World->C_}{sp:World->Sp}{x:Str}
  (hn:l.most=some n) (hn2:n<=aj) (hdf:d.params.defaults=[]) (hr:eG k ky)
  (hY:∀(w:World) (h:Heap),YP w h->(K w.params).In h)
  (F:∀(w:World) (mg:Str->Option Value) (fa:Addr) (h:Heap),(K w.params).In h->h.Ns bX mg->mg d.name=some (.ref fa) ->
   ∃fd:kb,(∀(s:Shared) (u:Value),qT s fd ⟨[u],[]⟩ [(x,u)]) /\
    ∀base:Heap,(K w.params).In base->base.Ns bX mg->lU l.prog w (K w.params) mg base (CX w) k fa fd [x] (sp w))
  (hsp:∀(w:World) (H:Hp) (a:Addr) (ns:List Int),ns.length<=n->Ga H->aB (K w.params) H a (ns.map V.int)->sp w [.ref a] H (fun v _=>v=.bl true) fun _ _ _=>False)
  (hCX:∀(w:World) (H:Hp) (s:Shared) (e:Value) (s':Shared),CX w [] H s (fun _ _ _=>False) e s'->False) :
  PySem.W.WalkO q loose XP YP l.row.toRowW d [] (fun f vs=>PySem.call f vs):=by
 refine Att.attach_call hn hdf fun w s₀ s₁ mg mb fa o pm cd doc a vs ns G Y ho hd hcd hmg hobj hints hlen hg=>?_;have KX:=hY w _ Y;obtain ⟨fd,hb,hF⟩:=F w mg fa _ KX G.T.g hmg;exact Ee KX G.T.g G.T.b G.T.builtins G.T.nolimit hg hobj hints (bP hlen hn2) hr hF hb (fun H hO hS=>hsp w H a ns hlen hO hS) fun H e s'=>hCX w H s₁ e s'
theorem walk_ofK {l:PySem.W.OpenLaw}{n k:Nat}{q:bF}{loose:Zb}{XP:(Str->Option Value)->Heap->Prop}{YP:World->Heap->Prop}{d:DefRec}{K:Params->Za}{CX:C_}{sp:Za->Sp}{x:Str}
  (hn:l.most=some n) (hn2:n<=aj) (hdf:d.params.defaults=[]) (hr:eG k ky)
  (hY:∀(w:World) (h:Heap),YP w h->(K w.params).In h)
  (F:∀(w:World) (mg:Str->Option Value) (fa:Addr) (h:Heap),(K w.params).In h->h.Ns bX mg->mg d.name=some (.ref fa) ->
   ∃fd:kb,(∀(s:Shared) (u:Value),qT s fd ⟨[u],[]⟩ [(x,u)]) /\
    ∀base:Heap,(K w.params).In base->base.Ns bX mg->lU l.prog w (K w.params) mg base CX k fa fd [x] (sp (K w.params)))
  (hsp:∀(K:Za) (H:Hp) (a:Addr) (ns:List Int),ns.length<=n->Ga H->aB K H a (ns.map V.int)->sp K [.ref a] H (fun v _=>v=.bl true) fun _ _ _=>False)
  (hCX:∀(H:Hp) (s:Shared) (e:Value) (s':Shared),CX [] H s (fun _ _ _=>False) e s'->False) :
  PySem.W.WalkO q loose XP YP l.row.toRowW d [] (fun f vs=>PySem.call f vs) :=
 EW (K:=K) (CX:=fun _=>CX) (sp:=fun w=>sp (K w.params)) hn hn2 hdf hr hY F (fun w H a ns h1 h2 h3=>hsp (K w.params) H a ns h1 h2 h3) fun _ H s e s'=>hCX H s e s'
end L2
namespace L2
open PySem PySem.Spec PyProof.Rows
def fJ (s:Stmt) (j:Nat):Stmt:=match s with
 | .ClassDef _ _ _ body _ _ _ _ _ _ _=>body.getD j (.Pass ⟨0,0,0,0⟩)
 | _=>.Pass ⟨0,0,0,0⟩
def g_ (s:Stmt):Arguments:=match s with
 | .FunctionDef _ a _ _ _ _ _ _ _ _=>a
 | _=>{ posonlyargs:=[],args:=[],vararg:=none,kwonlyargs:=[],kw_defaults:=[],kwarg:=none,defaults:=[] }
def fK (s:Stmt):List Stmt:=match s with
 | .FunctionDef _ _ b _ _ _ _ _ _ _=>b
 | _=>[]
def bT (s:Stmt):Scope:=match s with
 | .FunctionDef _ _ _ _ _ _ sc _ _ _=>sc
 | _=>{ kind:=.function,names:=[],isGenerator:=false,isCoroutine:=false }
abbrev CX0:C_:=fun _ _ _ _ _ _=>False
abbrev E0:XK:=fun _ _ _=>False
abbrev aM (sp:Sp) (a:TA):TE:=Gj sp [] E0 a
theorem Bj {X:Cx}:mT CX0 X E0:=fun _ _ _ _ _ _ _ h=>h.elim
structure He (K:Za) (x qual:Str) (st:Stmt) (f:Addr) (fd:kb):Prop where
 ex:∃(oc:Value) (od:Option Addr) (kV doc pm:Value) (an:Option Addr) (cdv ct:Value) (osl:Array (Option Value)),
  fd=ii x qual (g_ st) (fK st) (bT st) .none kV doc pm an cdv ct/\K.lookup f=some ⟨oc,od,.func fd,osl⟩/\mB K cdv qual=true
 kp:h_ K (.ref f)=true
section
variable {P:bF}{w:World}{K:Za}{mg:Str->Option Value}{base:Heap}
theorem He.ok {x qual:Str}{st:Stmt}{f:Addr}{fd:kb}{N ps:Zb}{k:Nat}{sp:Sp}(F:He K x qual st f fd) (S:jS N ps (bT st)) (len:∀vs H Q E,sp vs H Q E->vs.length=ps.length)
  (hbody:∀(cdv:Value) (A:Around) (outer:List Env) (s:Shared) (H:Hp) (vs:List V) (Q:VK) (E:XK),eG k (A.deeper (envOfC qual (bT st) s.heap.objs.size f cdv))->sp vs H Q E ->
   ∃t,y3 (Ao CX0 P w K mg base N qual (bT st) f cdv A outer s H E).nox (fK st) t/\t (bC Q) (start N vs) H):lU P w K mg base CX0 (k+1) f fd ps sp:=by
 obtain ⟨oc,od,kV,doc,pm,an,cdv,ct,osl,rfl,lk,hcd⟩:=F.ex;refine Ht lk hcd S len fun A outer s H vs Q E hr hsp=>?_;obtain ⟨t,h,q⟩:=hbody cdv A outer s H vs Q E hr hsp;exact ⟨t,h.nox,q⟩
theorem He.binds {x qual:Str}{st:Stmt}{f:Addr}{fd:kb}{ps:Zb}(F:He K x qual st f fd)
  (h:∀(kV doc pm:Value) (an:Option Addr) (cdv ct:Value) (us:Zf),us.length=ps.length->bindArgs (ii x qual (g_ st) (fK st) (bT st) .none kV doc pm an cdv ct) ⟨us,[]⟩=pure (ps.zip us)):Binds K fd ps []:=by
 obtain ⟨oc,od,kV,doc,pm,an,cdv,ct,osl,rfl,lk,hcd⟩:=F.ex;exact .all (h kV doc pm an cdv ct)
theorem Eo {x qual:Str}{st:Stmt}{f:Addr}{oc:Value}{od an:Option Addr}{osl:Array (Option Value)}{kV doc pm cdv ct:Value}(l:K.lookup f=some ⟨oc,od,.func (ii x qual (g_ st) (fK st) (bT st) .none kV doc pm an cdv ct),osl⟩)
  (c:mB K cdv qual=true) (k:h_ K (.ref f)=true):He K x qual st f (ii x qual (g_ st) (fK st) (bT st) .none kV doc pm an cdv ct):=⟨⟨oc,od,kV,doc,pm,an,cdv,ct,osl,rfl,l,c⟩,k⟩
end
theorem Bw {A:Around}{k:Nat}(hr:eG k A):A.units+16<cLine:=Nat.lt_of_le_of_lt (Nat.add_le_add_left (by decide:16<=64) _) hr.units
theorem av {n:Nat}(h:n<=1000):n<aj:=Nat.lt_of_le_of_lt h (by decide)
section
variable {X:Cx}
theorem pv (i:Nat) {x:Str}{pos:Pos}(hN:X.N[i]?=some x:=by rfl) (hv:HS X.env.scope x:=by first | exact Or.inl rfl | exact Or.inr (Or.inl rfl) | exact Or.inr (Or.inr rfl)) (hd:(x == ("__debug__":Str))=false:=by decide)
  (hcd:(x == ("__classdict__":Str))=false:=by decide):PE X (.Name x pos) (mJ i):=GN hN hv hd hcd
end
theorem cC {A B:Prop}(h:B):if false=true then A else B:=by
 rw [if_neg fW];exact h
theorem dO {A B:Prop}(h:A):if true=true then A else B:=by
 rw [if_pos rfl];exact h
theorem gD {c A B:Prop} [Decidable c] (h1:c->A) (h2:¬c->B):if c then A else B:=by
 by_cases h:c
 ·rw [if_pos h];exact h1 h
 ·rw [if_neg h];exact h2 h
def ac (H H':Hp):Prop:=∀b o,H b=some o->H' b=some o
theorem ac.refl (H:Hp):ac H H:=fun _ _ h=>h
theorem ac.trans {H H1 H2:Hp}(a:ac H H1) (b:ac H1 H2):ac H H2:=fun c o h=>b c o (a c o h)
theorem ac.free {H H':Hp}(e:ac H H') {l:Addr}(h:H' l=Option.none):H l=Option.none:=by
 cases q:H l with
 | none=>rfl
 | some o =>
  rw [e l o q] at h;cases h
theorem ac.seq {K:Za}{H H':Hp}{a:Addr}{xs:List V}(e:ac H H') (h:aB K H a xs):aB K H' a xs:=by
 rcases h with (h | ⟨o,h⟩) | h
 ·exact .inl (.inl (e _ _ h))
 ·exact .inl (.inr ⟨o,e _ _ h⟩)
 ·exact .inr h
section
variable {prog:bF}{w:World}{A:Around}{R:Result->Shared->Prop}{s:Shared}
abbrev XF:Value->Shared->Prop:=fun _ _=>False
abbrev Ag (ifs:List Expr) (env:Env):Sem Bool:=forIn ifs true fun c r=>if r=true then do let ok <- isTrue c env (eval c env); pure (vG ok) else pure (vG r)
theorem wO {elt target iter:Expr}{ifs:List Expr}{scope:Scope}{pos:Pos}{it acc:Value}{env:Env}(I:Nat->Shared->Prop)
  (turn:∀n s,I n s->wpAny (model prog w) A (pyNext it) (fun r s₁=>match r with
   | none=>R (.ok .next) s₁
   | some v=>wpAny (model prog w) A (AR target it v) (fun _ s₁'=>wpAny (model prog w) A (assign target env v) (fun _ s₂ =>
     wpAny (model prog w) A (Ag ifs env) (fun ok s₃ =>
      if ok=true then wpAny (model prog w) A (eval elt env) (fun x s₄ =>
       wpAny (model prog w) A (call (.builtin "list.append") [acc,x]) (fun _ s₅=>∃m,m<n/\I m s₅) XF s₄) XF s₃
      else ∃m,m<n/\I m s₃) XF s₂) XF s₁') XF s₁) XF s)
  (n:Nat) (h:I n s):zzl77 (model prog w) A (.compLoop (.ListComp elt [⟨target,iter,ifs,0⟩] scope pos) 0 it acc env) R s:=by
 refine codeAny_loop rfl I (fun n s hI=>?_) n h;show wpAny _ A ((compTurn (.ListComp elt [⟨target,iter,ifs,0⟩] scope pos) 0 it acc env).onRaise (fun x=>do noteFrame x env; theTreesLotGoes x)) _ _ s
 refine wpAny_noted ?_;rw [compTurn_list];refine ak (AS (ak (i7 (turn n s hI) (fun r s₁ h₁=>?_) fun _ _ h'=>h'.elim)));cases r with
 | none=>exact aG h₁
 | some v =>
  refine ak (i7 h₁ (fun _ s₁' h₁'=>?_) fun _ _ h'=>h'.elim);refine ak (i7 h₁' (fun _ s₂ h₂=>ak (i7 h₂ (fun ok s₃ h₃=>?_) fun _ _ h'=>h'.elim)) fun _ _ h'=>h'.elim);cases ok with
  | false=>exact aG ⟨rfl,h₃⟩
  | true =>
   exact ak (ak (i7 h₃ (fun x s₄ h₄=>ak (i7 h₄ (fun _ s₅ h₅=>aG (aG ⟨rfl,h₅⟩)) fun _ _ h'=>h'.elim)) fun _ _ h'=>h'.elim))
end
theorem mP {env:Env}:∀(names:List (Str×i4)) (cs0:List (Str×Addr)),(∀y∈names,y.2=.free->∃c,env.cells.lookup y.1=some c)->(∀x c,cs0.lookup x=some c->env.cells.lookup x=some c) ->
  ∃cs:List (Str×Addr),(forIn names cs0 fun (x:Str×i4) (r:List (Str×Addr))=>if (x.2 == kq)=true then (cellOf env x.1 >>= fun c=>(pure (vG ((x.1,c)::r)):Sem (ForInStep (List (Str×Addr))))) else pure (vG r))=pure cs /\
   (∀x c,cs.lookup x=some c->env.cells.lookup x=some c)/\(∀x,(cs0.lookup x).isSome=true->(cs.lookup x).isSome=true)/\∀y∈names,y.2=.free->(cs.lookup y.1).isSome=true
 | [],cs0,_,h0=>⟨cs0,rfl,h0,fun _ h=>h,fun _ h=>nomatch h⟩
 | (n,k)::r,cs0,has,h0=>by
  have hr:∀y∈r,y.2=.free->∃c,env.cells.lookup y.1=some c:=fun y hy=>has y (eO _ hy);by_cases hk:k=.free
  ·subst hk;obtain ⟨c,hc⟩:=has (n,.free) cy rfl;obtain ⟨cs,e,p1,p2,p3⟩:=mP r ((n,c)::cs0) hr (fun x d hd=>by
    rw [ig] at hd;cases hx:x == n with
    | true =>
     rw [hx] at hd;have:x=n:=by simpa using hx
     subst this;cases hd;exact hc
    | false=>rw [hx] at hd; exact h0 x d hd)
   have hself:(((n,c)::cs0).lookup n).isSome=true:=by rw [ig,beq_self_eq_true]; rfl
   have hmono:∀x,(cs0.lookup x).isSome=true->(((n,c)::cs0).lookup x).isSome=true:=fun x hx=>by
    rw [ig];cases x == n with
    | true=>rfl
    | false=>exact hx
   refine ⟨cs,?_,p1,fun x hx=>p2 x (hmono x hx),fun y hy hf=>?_⟩
   ·rw [oR];have hcell:cellOf env n=pure c:=by unfold cellOf; rw [hc]
    simp only [beq_self_eq_true,if_true,hcell];exact e
   ·rcases cP.mp hy with rfl | hy
    ·exact p2 _ hself
    ·exact p3 y hy hf
  ·obtain ⟨cs,e,p1,p2,p3⟩:=mP r cs0 hr h0;refine ⟨cs,?_,p1,p2,fun y hy hf=>?_⟩
   ·rw [oR];have hb:(k == kq)=false:=by simpa using hk
    simp only [hb,kz,if_false];exact e
   ·rcases cP.mp hy with rfl | hy
    ·exact absurd hf hk
    ·exact p3 y hy hf
theorem sT {env:Env}{scope:Scope}(has:∀y∈scope.names,y.2=.free->∃c,env.cells.lookup y.1=some c) :
  ∃cs:List (Str×Addr),closureFor scope env=pure cs/\(∀x c,cs.lookup x=some c->env.cells.lookup x=some c)/\∀y∈scope.names,y.2=.free->(cs.lookup y.1).isSome=true:=by
 obtain ⟨cs,e,p1,_,p3⟩:=mP (env:=env) scope.names [] has (fun _ _ h=>nomatch h);refine ⟨cs,?_,p1,p3⟩;unfold closureFor
 first
  | exact e
  | (simp only [bind_pure]; exact e)
  | (rw [show (forIn scope.names [] _:Sem (List (Str×Addr)))=pure cs from e]; rfl)
def dz (X:Cx) (N:Zb) (scope:Scope) (C:Addr) (cl:List (Str×Addr)) (s₀:Shared) (H₀:Hp) (ex:Ze) (pn:Zd):Cx where
 prog:=X.prog
 w:=X.w
 K:=X.K
 mg:=X.mg
 base:=X.base
 A:=X.A
 N:=N
 s₀:=s₀
 H₀:=H₀
 env:=compEnvC scope cl C X.env
 outer:=X.stack
 stack:=X.stack
 ex:=ex
 fn:=fun _=>false
 calm:=X.calm
 pn:=pn
 xe:=XF
def lH (sc scope:Scope) (k:Nat) (N XN:Zb) (fi:List Nat):Bool :=
 decide (scope.kind=.function) &&
 (scope.names.all fun y=>decide (y.2≠.cell) && (decide (y.2≠.local) || decide (scope.names.lookup y.1=some .local)) && (decide (y.2≠.free) || decide (sc.names.lookup y.1=some .cell) || decide (sc.names.lookup y.1=some .free))) &&
 decide (N.length=k+fi.length) &&
 ((i8 fi.length).all fun j=>match fi[j]? with
  | some i=>match N[k+j]?,XN[i]? with
   | some x,some y=>decide (x=y) && decide (scope.names.lookup x=some .free)
   | _,_=>false
  | none=>false)
structure m_ (sc scope:Scope) (k:Nat) (N XN:Zb) (fi:List Nat):Prop where
 kind:scope.kind=.function
 cell:∀y∈scope.names,y.2≠.cell
 nm:∀y∈scope.names,y.2=.local->scope.names.lookup y.1=some .local
 fr:∀y∈scope.names,y.2=.free->sc.names.lookup y.1=some .cell∨sc.names.lookup y.1=some .free
 len:N.length=k+fi.length
 sl:∀j i,fi[j]?=some i->∃x,N[k+j]?=some x/\XN[i]?=some x/\scope.names.lookup x=some .free
theorem m_.of {sc scope:Scope}{k:Nat}{N XN:Zb}{fi:List Nat}(h:lH sc scope k N XN fi=true):m_ sc scope k N XN fi:=by
 unfold lH at h;simp only [vF,List.all_eq_true,Bool.or_eq_true,decide_eq_true_eq] at h;obtain ⟨⟨⟨h1,h2⟩,h3⟩,h4⟩:=h;refine ⟨h1,fun y hy=>(h2 y hy).1.1,fun y hy e=>((h2 y hy).1.2).resolve_left fun z=>z e,fun y hy e=>?_,h3,fun j i e=>?_⟩
 ·rcases (h2 y hy).2 with (z | z) | z
  ·exact absurd e z
  ·exact .inl z
  ·exact .inr z
 ·have hj:j<fi.length:=(bE.mp e).1;have q:=h4 j (List.mem_range.mpr hj);rw [e] at q;dsimp only at q;cases a:N[k+j]? with
  | none=>rw [a] at q; cases q
  | some x =>
   cases b:XN[i]? with
   | none=>rw [a,b] at q; cases q
   | some y =>
    rw [a,b] at q;simp only [vF,decide_eq_true_eq] at q;exact ⟨x,rfl,by rw [q.1],q.2⟩
theorem gU {env:Env}:∀{names:List (Str×i4)}{x:Str},names.lookup x=some .free ->
  (names.map fun (n,k)=>if (k == kq && env.scope.kind == .function && env.kindOf n == some .cell) then (n,i4.cell) else (n,k)).lookup x=some .cell ∨
  (names.map fun (n,k)=>if (k == kq && env.scope.kind == .function && env.kindOf n == some .cell) then (n,i4.cell) else (n,k)).lookup x=some .free
 | [],_,h=>by simp at h
 | (n,k)::r,x,h=>by
  have ih:=@gU env r x;simp only [aZ];cases hx:x == n with
  | true =>
   simp only [ig,hx] at h;cases h;by_cases hc:(kq == kq && env.scope.kind == .function && env.kindOf n == some .cell)=true
   ·left; rw [if_pos hc]; simp [ig,hx]
   ·right; rw [if_neg hc]; simp [ig,hx]
  | false =>
   simp only [ig,hx] at h;by_cases hc:(k == kq && env.scope.kind == .function && env.kindOf n == some .cell)=true
   ·rw [if_pos hc]; simp only [ig,hx]; exact ih h
   ·rw [if_neg hc]; simp only [ig,hx]; exact ih h
def dw (k:Nat) (fi:List Nat) (σ:St):St:=List.replicate k none++fi.map fun i=>(σ[i]?).join
theorem Aq (k:Nat) (fi:List Nat) (σ:St):(dw k fi σ).length=k+fi.length:=by simp [dw]
theorem sS {k:Nat}{fi:List Nat}{σ:St}{i:Nat}{v:V}(h:(dw k fi σ)[i]?=some (some v)):∃j t,i=k+j/\fi[j]?=some t/\σ[t]?=some (some v):=by
 unfold dw at h;by_cases hi:i<k
 ·rw [cS (by simpa using hi),List.getElem?_replicate_of_lt hi] at h;cases h
 ·rw [kB (by simp; omega),List.length_replicate,bQ] at h;refine ⟨i-k,?_⟩;cases e:fi[i-k]? with
  | none=>rw [e] at h; cases h
  | some t =>
   rw [e] at h;simp only [rH] at h;refine ⟨t,by omega,rfl,?_⟩;have h':=eI h;cases e2:σ[t]? with
   | none=>rw [e2] at h'; cases h'
   | some o=>rw [e2] at h'; simp only [Option.join] at h'; first | (rw [h']) | (subst h'; rfl) | (simpa using h')
def yQ (k:Nat) (g:TG):Prop:=∀x σ H Q,g x σ H Q->g x σ H fun σ2 H2=>Q σ2 H2/\σ2.length=σ.length/\∀i,k<=i->σ2[i]?=σ[i]?
def BI (k:Nat) (g:C8):Prop:=∀x σ H Q,g x σ H Q->g x σ H fun σ2 H2=>Q σ2 H2/\σ2.length=σ.length/\∀i,k<=i->σ2[i]?=σ[i]?
theorem bw {k i:Nat}(h:i<k):yQ k (dU i):=fun x σ H Q q=>⟨q,by simp,fun j hj=>by rw [List.getElem?_set_ne (by omega)]⟩
theorem xX {k:Nat}:BI k g8:=fun x σ H Q ⟨e,q⟩=>⟨e,q,rfl,fun _ _=>rfl⟩
def EL (g:TG):Prop:=∀x σ H Q Q',(∀σ2 H2,Q σ2 H2->Q' σ2 H2)->g x σ H Q->g x σ H Q'
def xa (g:C8):Prop:=∀x σ H Q Q',(∀σ2 H2,Q σ2 H2->Q' σ2 H2)->g x σ H Q->g x σ H Q'
theorem eE {i:Nat}:EL (dU i):=fun _ _ _ _ _ f q=>f _ _ q
theorem jn:xa g8:=fun _ _ _ _ _ f ⟨e,q⟩=>⟨e,f _ _ q⟩
theorem jK {g:TG}{u:C8}(h1:EL g) (h2:xa u):xa (aY g u):=fun _ _ _ _ _ f ⟨v,r,e,q⟩=>⟨v,r,e,h1 _ _ _ _ _ (fun _ _ q=>h2 _ _ _ _ _ f q) q⟩
theorem jj {k:Nat}{g:TG}{u:C8}(h1:yQ k g) (m1:EL g) (h2:BI k u) (m2:xa u):BI k (aY g u):=fun x σ H Q ⟨v,r,e,q⟩ =>
 ⟨v,r,e,m1 _ _ _ _ _ (fun σ2 H2 ⟨q,l,s⟩=>m2 _ _ _ _ _ (fun σ3 H3 ⟨q',l',s'⟩=>⟨q',l'.trans l,fun i hi=>(s' i hi).trans (s i hi)⟩) (h2 _ _ _ _ q)) (h1 _ _ _ _ q)⟩
theorem Bl {K:Za}{k n:Nat}{t:C8}(h:BI k t):yQ k (ir K n t):=fun x σ H Q ⟨a,xs,e,hs,hl,q⟩=>⟨a,xs,e,hs,hl,h _ _ _ _ q⟩
def Gy (X:Cx) (ifs:List Expr) (t:TT):Prop :=
 ∀(J3:Zd) (s:Shared) (σ:St) (H:Hp) (Q:Bool->Hp->Prop),Inv X J3 σ H s->t σ H Q->wpAny (model X.prog X.w) X.A (Ag ifs X.env) (TP X J3 σ Q) X.xe s
def jA:TT:=fun _ H Q=>Q true H
theorem cA {X:Cx}:Gy X [] jA:=fun J3 s σ H Q I h=>aG ⟨H,I,h⟩
theorem qO {X:Cx}{c:Expr}{t:TT}(h:PT X c t):Gy X [c] t:=by
 intro J3 s σ H Q I hw;unfold Ag;rw [oR];simp only [if_true];refine ak (ak (cf (h J3 s σ H Q I hw) fun b s1 q=>aG ?_));exact aG q
def d4 (k:Nat) (fi:List Nat) (wi:TI) (g:TG) (tc:TT) (te:TE):TE:=fun σ H Q=>wi σ H fun J H1=>∀l,H1 l=none->∃W:Nat->Nat->List V->Hp->Prop,(∃m,W 0 m [] (upd H1 l (.lst [])))/\∀i m vs H2,W i m vs H2->H2 l=some (.lst vs) /\
 ((J.stop i H2/\Q (.ref l) H2)∨(J.go i H2/\∀x H3,J.yld i H2 x H3->g x (dw k fi σ) H3 fun σ2 H4=>tc σ2 H4 fun b H5 =>
  if b=true then te σ2 H5 fun v H6=>H6 l=some (.lst vs)/\vs.length<aj/\∃m',m'<m/\W (i+1) m' (vs++[v]) (upd H6 l (.lst (vs++[v]))) else ∃m',m'<m/\W (i+1) m' vs H5))
section
variable {X:Cx}{J3:Zd}{σ:St}
theorem FW {k:Nat}{N:Zb}{scope:Scope}{fi:List Nat}{H:Hp}{s:Shared}{cl:List (Str×Addr)}{fp:Ze}(S:m_ X.env.scope scope k N X.N fi) (I:Inv X J3 σ H s)
  (hcl:∀x c,cl.lookup x=some c->X.env.cells.lookup x=some c) (hcf:∀y∈scope.names,y.2=.free->(cl.lookup y.1).isSome=true) (hf:∀b∈fp,m9 X J3 H b) (hlt:∀b∈fp,b<s.heap.objs.size) :
  (dz X N scope s.heap.objs.size cl s H fp (X.pn++J3)).Ok where
 mod:=I.ok.mod
 kind:=S.kind
 glob:=I.ok.glob
 blt:=I.ok.blt
 above:=aD _
 inj:=fun x y c e1 e2=>I.ok.inj x y c (hcl x c e1) (hcl y c e2)
 has:=fun x h=>by
  have key:∃y∈scope.names,y.1=x/\y.2=.free:=by
   have h':(relabel scope X.env).names.lookup x=some .cell∨(relabel scope X.env).names.lookup x=some .free:=h;have mem:∀(l:List (Str×i4)) (kd:i4),l.lookup x=some kd->(x,kd)∈l:=by
    intro l
    induction l with
    | nil=>intro kd e; cases e
    | cons a r ih =>
     intro kd e;obtain ⟨n,k'⟩:=a;rw [ig] at e;cases hx:x == n with
     | true =>
      rw [hx] at e;have:x=n:=by simpa using hx
      subst this;cases e;exact cy
     | false=>rw [hx] at e; exact eO _ (ih kd e)
   have back:∀kd,(x,kd)∈(relabel scope X.env).names->kd=.cell∨kd=.free->∃y∈scope.names,y.1=x/\y.2=.free:=by
    intro kd hm hk;obtain ⟨⟨n,k'⟩,hy,e⟩:=ay.mp hm;dsimp only at e;by_cases hc:(k' == kq && X.env.scope.kind == .function && X.env.kindOf n == some .cell)=true
    ·have hk':k'=.free:=by
      simp only [vF] at hc;simpa using hc.1.1
     rw [if_pos hc] at e;cases e;exact ⟨_,hy,rfl,hk'⟩
    ·rw [if_neg hc] at e;cases e;rcases hk with rfl | rfl
     ·exact absurd rfl (S.cell _ hy)
     ·exact ⟨_,hy,rfl,rfl⟩
   rcases h' with h' | h'
   ·exact back _ (mem _ _ h') (.inl rfl)
   ·exact back _ (mem _ _ h') (.inr rfl)
  obtain ⟨y,hy,rfl,hk⟩:=key;exact AG.mp (hcf y hy hk)
 cab:=fun x c h=>by cases h
 hd:=I.ok.hd
 frames:=I.ok.frames
 stk:=.inl rfl
 exf:=fun b hb=>⟨cQ (hlt b hb),fun x c e=>(hf b hb).2.2.2.2.1 x c (hcl x c e)⟩
 bs:=I.bs
 bsz:=bP I.ok.bsz I.sz
 noex:=fun b o e hb=>by
  rcases (hf b hb).2.2.2.1 with z | z
  ·exact I.ok.noex b o e z
  ·exact absurd (ib (aT (I.ok.bs b o e).1) z) (p4 _)
 exfs:=fun b hb z=>by
  obtain ⟨_,f1,f2,_⟩:=hf b hb;rcases cP.mp (I.stkSub b z) with q | q
  ·exact f1 q
  ·exact f2 q
 funs:=I.stack
 frf:=I.stkFree
theorem EC {k:Nat}{N:Zb}{scope:Scope}{fi:List Nat}{H:Hp}{s:Shared}{cl:List (Str×Addr)}{fp:Ze}{h₁:Heap}{t':Nat}{m:Str->Option Value}(S:m_ X.env.scope scope k N X.N fi) (I:Inv X J3 σ H s)
  (hcl:∀x c,cl.lookup x=some c->X.env.cells.lookup x=some c) (hcf:∀y∈scope.names,y.2=.free->(cl.lookup y.1).isSome=true) (hf:∀b∈fp,m9 X J3 H b) (hlt:∀b∈fp,b<s.heap.objs.size)
  (hn:h₁.Ns s.heap.objs.size m) (old:∀b o,s.heap.get? b=some o->h₁.get? b=some o) :
  Inv (dz X N scope s.heap.objs.size cl s H fp (X.pn++J3)) [] (dw k fi σ) H { s with heap:=h₁,toks:=t' }:=by
 have memOf:∀(l:List (Str×i4)) (x:Str) (kd:i4),l.lookup x=some kd->(x,kd)∈l:=by
  intro l
  induction l with
  | nil=>intro x kd e; cases e
  | cons a r ih =>
   intro x kd e;obtain ⟨n,k'⟩:=a;rw [ig] at e;cases hx:x == n with
   | true =>
    rw [hx] at e;have:x=n:=by simpa using hx
    subst this;cases e;exact cy
   | false=>rw [hx] at e; exact eO _ (ih x kd e)
 refine ⟨FW S I hcl hcf hf hlt,rfl,I.bare,Un.kept old,⟨m,hn,fun i x v e1 e2 e3=>?_⟩,fun x c e=>?_,I.hok.fresh (aD _),fun x c e=>I.freeC x c (hcl x c e),fun p hp=>?_,I.hok.kept old,?_⟩
 ·obtain ⟨j,t,rfl,ht,hv⟩:=sS e2;obtain ⟨y,hy,hXN,hfr⟩:=S.sl j t ht;have e1':N[k+j]?=some x:=e1;rw [hy] at e1';cases e1';have hmem:=memOf _ _ _ hfr;obtain ⟨c,hc⟩:=AG.mp (hcf _ hmem rfl);have hX:=hcl _ _ hc;obtain ⟨mX,hnX,hlX⟩:=I.loc;have kX:=S.fr _ hmem rfl;obtain ⟨u,ru,lk⟩:=hlX t x v hXN hv (by rcases kX with z | z; exact .inr (.inl z); exact .inr (.inr z));refine ⟨u,ru,.inr ⟨?_,c,hc,?_⟩⟩
  ·exact gU hfr
  ·rcases lk with ⟨z,_⟩ | ⟨_,c',e',q⟩
   ·have z':X.env.scope.names.lookup x=some .local:=z;rcases kX with kX | kX <;> rw [z'] at kX <;> cases kX
   ·rw [hX] at e';cases e';obtain ⟨o,ho,hd⟩:=q;exact ⟨o,old _ o ho,hd⟩
 ·obtain ⟨v,o,ho,hd⟩:=I.cell x c (hcl x c e);exact ⟨v,o,old _ o ho,hd⟩
 ·rw [fV] at hp;obtain ⟨e,n,ne,nf,d⟩:=I.pin p hp;refine ⟨old _ _ e,n,cQ (aT e),fun z=>?_,d⟩;rcases cP.mp (I.stkSub _ z) with q | q
  ·exact ne q
  ·exact nf q
 ·rw [Aq];exact S.len.symm
structure xb (X:Cx) (J3:Zd) (H:Hp) (C:Addr):Prop where
 free:H C=none
 loc:C≠X.env.locals
 young:X.s₀.heap.objs.size<=C
 cells:∀x c,X.env.cells.lookup x=some c->c≠C
 pin:∀p∈X.pn++J3,p.1≠C
theorem sR {elt iter tg:Expr}{ifs:List Expr}{scope:Scope}{pos:Pos}{k:Nat}{N:Zb}{fi:List Nat}{cl:List (Str×Addr)}{g:TG}{tc:TT}{te:TE}{it:Addr}{fp:Ze}{tn:Nat->Heap->Prop}{J:It}{H2:Hp}{s2:Shared}{Q:VK}
  {E:Zc}{RR:Value->Addr->Result->Shared->Prop}
  (S:m_ X.env.scope scope k N X.N fi) (hc:X.calm=true) (hcl:∀x c,cl.lookup x=some c->X.env.cells.lookup x=some c) (hcf:∀y∈scope.names,y.2=.free->(cl.lookup y.1).isSome=true)
  (hg:∀C cl s₀ H₀ ex pn,PG (dz X N scope C cl s₀ H₀ ex pn) tg g) (ho:yQ k g) (ht:∀C cl s₀ H₀ ex pn,Gy (dz X N scope C cl s₀ H₀ ex pn) ifs tc) (he:∀C cl s₀ H₀ ex pn,PE (dz X N scope C cl s₀ H₀ ex pn) elt te)
  (I2:Inv X J3 σ H2 s2) (T:qC X.prog X.w X.K tg J fp it tn) (st2:tn 0 s2.heap) (f2:∀b∈fp,m9 X J3 H2 b)
  (hw:∀l,H2 l=none->∃W:Nat->Nat->List V->Hp->Prop,(∃m,W 0 m [] (upd H2 l (.lst [])))/\∀i m vs H2,W i m vs H2->H2 l=some (.lst vs) /\
   ((J.stop i H2/\Q (.ref l) H2)∨(J.go i H2/\∀x H3,J.yld i H2 x H3->g x (dw k fi σ) H3 fun σ2 H4=>tc σ2 H4 fun b H5 =>
    if b=true then te σ2 H5 fun v H6=>H6 l=some (.lst vs)/\vs.length<aj/\∃m',m'<m/\W (i+1) m' (vs++[v]) (upd H6 l (.lst (vs++[v]))) else ∃m',m'<m/\W (i+1) m' vs H5)))
  (hR:∀D C H' s' m',Inv X J3 σ H' s'->s'.heap.Ns C m'->xb X J3 H' C->Q (.ref D) H'->RR (.ref D) C (.ok .next) s') :
  wpAny (model X.prog X.w) X.A (newList []) (fun acc s₃=>wpAny (model X.prog X.w) X.A (newFunctionEnv scope X.env.globals cl [] X.env.qual none .none (some X.env)) (fun cenv s₄ =>
   zzl77 (model X.prog X.w) X.A (.compStart (.ListComp elt [⟨tg,iter,ifs,0⟩] scope pos) 0 (.ref it) acc { cenv with scope:=relabel scope X.env }) (RR acc cenv.locals) s₄) E s₃) E s2:=by
 have hfresh:H2 s2.heap.objs.size=none:=I2.fresh;obtain ⟨W,⟨m0,w0⟩,turn⟩:=hw _ hfresh;refine iP (wpAny_newFunctionEnv S.cell (by intro y hy; simp at hy) (fun h₁ hns₁ hsb₁=>?_) S.kind);dsimp only at hns₁ hsb₁ ⊢;have I3:Inv X J3 σ (upd H2 s2.heap.objs.size (.lst [])) { s2 with heap:=s2.heap.push { cls:=.type "list",data:=.seq ([]:Zf).toArray },toks:=s2.toks }:=I2.lnew (ys:=[]) .nil (c8 _);generalize hs3:({ s2 with heap:=s2.heap.push { cls:=.type "list",data:=.seq ([]:Zf).toArray },toks:=s2.toks }:Shared)=s3 at I3;have hh3:s3.heap=s2.heap.push { cls:=.type "list",data:=.seq ([]:Zf).toArray }:=by rw [<-hs3]
 have hsz:s3.heap.objs.size=s2.heap.objs.size+1:=by rw [hh3,nA]
 have hlt:∀b∈fp,b<s2.heap.objs.size:=fun b hb=>by
  obtain ⟨o,e,_⟩:=T.obj 0 _ st2 b hb;exact aT e
 have f3:∀b∈fp,m9 X J3 (upd H2 s2.heap.objs.size (.lst [])) b:=fun b hb=>⟨by rw [af (cQ (hlt b hb))]; exact (f2 b hb).1,(f2 b hb).2⟩;have hlt3:∀b∈fp,b<s3.heap.objs.size:=fun b hb=>by rw [hsz]; exact Nat.lt_succ_of_lt (hlt b hb)
 have old:∀b o,s3.heap.get? b=some o->h₁.get? b=some o:=fun b o e=>by
  have hb:b≠s3.heap.objs.size:=cQ (aT e);rw [hh3] at e hb;exact hsb₁.extBut b o hb (bd _ e)
 have hns:h₁.Ns s3.heap.objs.size (fun x=>([]:List (Str×Value)).reverse.lookup x):=by rw [hh3]; exact hns₁
 have I4:Inv (dz X N scope s3.heap.objs.size cl s3 (upd H2 s2.heap.objs.size (.lst [])) fp (X.pn++J3)) [] (dw k fi σ) (upd H2 s2.heap.objs.size (.lst [])) { s3 with heap:=h₁,toks:=s2.toks+([]:List (Str×Value)).length } :=
  EC S I3 hcl hcf f3 hlt3 hns old
 have st4:tn 0 h₁:=T.keep _ _ _ st2 fun b hb o e=>old b o (by rw [hh3]; exact bd _ e);generalize hY:dz X N scope s3.heap.objs.size cl s3 (upd H2 s2.heap.objs.size (.lst [])) fp (X.pn++J3)=Y at I4;have yp:Y.prog=X.prog:=by rw [<-hY]; rfl
 have yw:Y.w=X.w:=by rw [<-hY]; rfl
 have yK:Y.K=X.K:=by rw [<-hY]; rfl
 have yA:Y.A=X.A:=by rw [<-hY]; rfl
 have yx:Y.xe=XF:=by rw [<-hY]; rfl
 have yc:Y.calm=true:=by rw [<-hY]; exact hc
 have gY:PG Y tg g:=by rw [<-hY]; exact hg _ _ _ _ _ _
 have tY:Gy Y ifs tc:=by rw [<-hY]; exact ht _ _ _ _ _ _
 have eY:PE Y elt te:=by rw [<-hY]; exact he _ _ _ _ _ _
 have yenv:Y.env=compEnvC scope cl s3.heap.objs.size X.env:=by rw [<-hY]; rfl
 have fY:∀{H':Hp},(∀b∈fp,H' b=none)->∀b∈fp,m9 Y [] H' b:=fun hn b hb=>by
  obtain ⟨f0,f1,f2',f3',f4,f5⟩:=f3 b hb;rw [<-hY];refine ⟨hn b hb,cQ (hlt3 b hb),fun z=>?_,.inl hb,fun x c e=>f4 x c (hcl x c e),fun p hp=>?_⟩
  ·rcases cP.mp (I3.stkSub _ z) with q | q
   ·exact f1 q
   ·exact f2' q
  ·rw [fV] at hp;exact f5 p hp
 have loop:∀s4:Shared,s4={ s3 with heap:=h₁,toks:=s2.toks+([]:List (Str×Value)).length } ->
   zzl77 (model X.prog X.w) X.A (.compLoop (.ListComp elt [⟨tg,iter,ifs,0⟩] scope pos) 0 (.ref it) (.ref s2.heap.objs.size) Y.env) (RR (.ref s2.heap.objs.size) s3.heap.objs.size) s4:=by
  rintro s4 rfl;refine wO (fun n s'=>∃i vs H',Inv Y [] (dw k fi σ) H' s'/\tn i s'.heap/\(∀b∈fp,H' b=none)/\W i n vs H') ?_ m0 ⟨0,[],_,I4,st4,fun b hb=>(f3 b hb).1,w0⟩;rintro n s5 ⟨i,vs,H5,I5,st5,fr5,w5⟩;obtain ⟨hl5,hcase⟩:=turn i n vs H5 w5;rcases hcase with ⟨stop,q⟩ | ⟨go,step⟩
  ·have d:=T.done Y yp yw yK yc i [] s5 _ H5 XF I5 (fY fr5) st5 stop;rw [yA] at d;refine cf d fun r s6 ⟨hr,I6⟩=>?_;subst hr;have hu:Un (C6 X.stack) fp (upd H2 s2.heap.objs.size (.lst [])) H5 s3.heap s6.heap:=by have:=I6.base; rw [<-hY] at this; exact this
   have ho6:s6.os=s3.os:=by have:=I6.os; rw [<-hY] at this; exact this
   have hok6:lI X.prog X.w X.K H5 s6.heap:=by have:=I6.hok; rw [<-hY] at this; exact this
   have hC6:H5 s3.heap.objs.size=none:=by have:=I6.free; rw [<-hY] at this; exact this
   obtain ⟨m6,hn6,_⟩:=I6.loc;have hn6':s6.heap.Ns s3.heap.objs.size m6:=by rw [<-hY] at hn6; exact hn6
   have IX:Inv X J3 σ H5 s6:=I3.call' ho6 hu hok6 I6.bare fun b hb=>by
    obtain ⟨f0,f1,f2',f3',f4,f5⟩:=f3 b hb;exact ⟨f3',f1,f4,f5⟩
   refine hR _ _ H5 s6 m6 IX hn6' ⟨hC6,fS I3.lt,I3.sz,fun x c e z=>?_,fun p hp z=>?_⟩ q
   ·obtain ⟨v,o,ho,_⟩:=I3.cell x c e;exact absurd (aT ho) (by rw [z]; exact p4 _)
   ·exact absurd (aT (I3.pin p hp).1) (by rw [z]; exact p4 _)
  ·have d:=T.item Y yp yw yK yc i [] s5 _ H5 XF I5 (fY fr5) st5 go;rw [yA] at d;refine cf d fun r s6 ⟨u,hr,h6⟩=>?_;subst hr;refine cf h6 fun _ s7 ⟨x,H7,I7,r7,y7,st7,fr7⟩=>?_;have I7':=I7.pinned (fY fr7) (T.obj _ _ st7);have a7:=gY _ s7 _ H7 x u _ I7' r7 (ho _ _ _ _ (step x H7 y7));rw [yp,yw,yA,yx] at a7;refine cf a7 fun _ s8 ⟨σ8,H8,I8,q8,l8,k8⟩=>?_;have a8:=tY _ s8 σ8 H8 _ I8 q8;rw [yp,yw,yA,yx] at a8;have again:∀{H9:Hp}{s9:Shared}{vs':List V}{m':Nat},Inv Y ([]++sw fp s7.heap) σ8 H9 s9->m'<n->W (i+1) m' vs' H9->∃m,m<n/\∃i vs H',Inv Y [] (dw k fi σ) H' s9/\tn i s9.heap/\(∀b∈fp,H' b=none)/\W i m vs H':=fun {H9 s9 vs' m'} I9 hm w9=>by
    refine ⟨m',hm,i+1,vs',H9,(I9.unpinned).weak l8.symm (fun j v e=>?_),T.keep _ _ _ st7 fun b hb o e=>(I9.pin (b,o) (cX _ (cX _ (jL hb e)))).1,fun b hb=>?_,w9⟩
    ·obtain ⟨j',t,rfl,_,_⟩:=sS e;rw [k8 _ (Nat.le_add_right _ _)];exact e
    ·obtain ⟨o,e,_⟩:=T.obj _ _ st7 b hb;exact (I9.pin (b,o) (cX _ (cX _ (jL hb e)))).2.1
   refine cf a8 fun b s9 ⟨H9,I9,q9⟩=>?_;cases b with
   | false =>
    rw [if_neg fW] at q9 ⊢;obtain ⟨m',hm,w9⟩:=q9;exact again I9 hm w9
   | true =>
    rw [if_pos rfl] at q9 ⊢;have a9:=eY _ s9 σ8 H9 _ I9 q9;rw [yp,yw,yA,yx] at a9;refine cf a9 fun y s10 ⟨v,H10,I10,r10,hl10,hsz10,m',hm,w10⟩=>?_;have a10:=bU (X:=Y) _ s10 σ8 H10 (.ref s2.heap.objs.size) [v] (.ref s2.heap.objs.size) [y] (fun z H'=>z=.non/\H'=upd H10 s2.heap.objs.size (.lst (vs++[v]))) I10 rfl (.cons r10 .nil) ⟨_,vs,v,rfl,rfl,hl10,hsz10,rfl,rfl⟩;rw [yp,yw,yA,yx] at a10;refine cf a10 fun _ s11 ⟨_,H11,I11,_,_,e11⟩=>?_;subst e11;exact again I11 hm w10
 have hstart:=codeAny_compStart_list (prog:=X.prog) (w:=X.w) (A:=X.A) (elt:=elt) (target:=tg) (iter:=iter) (ifs:=ifs) (rest:=[]) (scope:=scope) (pos:=pos) (it:=.ref it) (acc:=.ref s2.heap.objs.size) (env:=Y.env) (loop _ rfl) (T.self _ 0 _ _ _ st4 (loop _ rfl));rw [yenv] at hstart;rw [<-hs3] at hstart;exact hstart
end
section
variable {X:Cx}
theorem xb.turned {J3:Zd}{σ:St}{H:Hp}{s:Shared}{C:Addr}{h':Heap}(c:xb X J3 H C) (I:Inv X J3 σ H s) (hs:ff C s.heap h'):Inv X J3 σ H { s with heap:=h' } :=
 I.turned (t':=s.toks) (fun b o hb e=>hs.extBut b o hb e) c.free c.loc (.inr c.young) c.cells c.pin
theorem FE {elt iter tg:Expr}{ifs:List Expr}{scope:Scope}{pos:Pos}{k:Nat}{N:Zb}{fi:List Nat}{wi:TI}{g:TG}{tc:TT}{te:TE}(hS:lH X.env.scope scope k N X.N fi=true) (hc:X.calm=true) (hi:PI X tg iter wi)
  (hg:∀C cl s₀ H₀ ex pn,PG (dz X N scope C cl s₀ H₀ ex pn) tg g) (ho:yQ k g) (ht:∀C cl s₀ H₀ ex pn,Gy (dz X N scope C cl s₀ H₀ ex pn) ifs tc) (he:∀C cl s₀ H₀ ex pn,PE (dz X N scope C cl s₀ H₀ ex pn) elt te)
  (hs:∀x,xi iter X.env x=pure x:=by intro _; rfl):PE X (.ListComp elt [⟨tg,iter,ifs,0⟩] scope pos) (d4 k fi wi g tc te):=by
 intro J3 s σ H Q I h;have S:=m_.of hS;obtain ⟨cl,hclos,hcl,hcf⟩:=sT (env:=X.env) (scope:=scope) fun y hy e=>I.ok.has y.1 (S.fr y hy e);rw [eval_ListComp];refine wpAny_comprehension_free (use:=none) rfl hs hclos S.kind S.nm (cf (hi J3 s σ H _ I h) fun v s1 h1=>cf h1 fun itv s2 h2=>?_);obtain ⟨it,fp,tn,J,H2,e,I2,T,st2,f2,hw⟩:=h2;subst e;refine sR (RR:=fun acc C=>compPost (model X.prog X.w) X.A X.xe none (EP X J3 σ Q) acc C) S hc hcl hcf hg ho ht he I2 T st2 f2 hw ?_;intro D C H' s' m' I' hn ce q;exact ⟨m',hn,fun h' hs'=>⟨.ref D,H',ce.turned I' hs',rfl,q⟩⟩
theorem zS {elt iter tg:Expr}{ifs:List Expr}{scope:Scope}{pos spos py:Pos}{k:Nat}{N:Zb}{fi:List Nat}{wi:TI}{g:TG}{tc:TT}{te:TE}{j:Nat}{y:Str}(hN:X.N.Nodup) (hj:X.N[j]?=some y) (hy:Loc X.env.scope y) (hS:lH X.env.scope scope k N X.N fi=true) (hc:X.calm=true) (hi:PI X tg iter wi)
  (hg:∀C cl s₀ H₀ ex pn,PG (dz X N scope C cl s₀ H₀ ex pn) tg g) (ho:yQ k g) (ht:∀C cl s₀ H₀ ex pn,Gy (dz X N scope C cl s₀ H₀ ex pn) ifs tc) (he:∀C cl s₀ H₀ ex pn,PE (dz X N scope C cl s₀ H₀ ex pn) elt te)
  (hsw:pY (.ListComp elt [⟨tg,iter,ifs,0⟩] scope pos) (some (.Name y py)) spos.line X.env=pure true:=by rfl)
  (hs:∀x,xi iter X.env x=pure x:=by intro _; rfl) (hf:X.fn y=true∨X.env.scope.names.lookup y=some .local:=by first | exact .inl rfl | exact .inr rfl | assumption) :
  PS X (.Assign [.Name y py] (.ListComp elt [⟨tg,iter,ifs,0⟩] scope pos) spos) (aN (d4 k fi wi g tc te) (dU j)):=by
 intro J3 s σ H D I h;have S:=m_.of hS;obtain ⟨cl,hclos,hcl,hcf⟩:=sT (env:=X.env) (scope:=scope) fun y hy e=>I.ok.has y.1 (S.fr y hy e);rw [exec_Assign_Name_used _ _ _ _ hsw];refine ak (AS (ak ?_));show wpAny _ X.A (do let _ <- comprehension (.ListComp elt [⟨tg,iter,ifs,0⟩] scope pos) scope X.env _ (newList []) false (eval iter X.env) (some (assign (.Name y py) X.env))) _ _ s
 refine ak (i7 (wpAny_comprehension_free (use:=some (assign (.Name y py) X.env)) (Q:=fun _ s'=>SP X J3 D .next s') rfl hs hclos S.kind S.nm
  (cf (hi J3 s σ H _ I h) fun v s1 h1=>cf h1 fun itv s2 h2=>?_)) (fun _ s' hq=>aG (aG hq)) fun _ _ e=>e)
 obtain ⟨it,fp,tn,J,H2,e,I2,T,st2,f2,hw⟩:=h2;subst e;refine sR (RR:=fun acc C=>compPost (model X.prog X.w) X.A X.xe (some (assign (.Name y py) X.env)) (fun _ s'=>SP X J3 D .next s') acc C) (Q:=fun x H1=>dU j x σ H1 D.nx) S hc hcl hcf hg ho ht he I2 T st2 f2 hw ?_;intro A C H' s' m' I' hn ce q;show wpAny _ X.A (assign (.Name y py) X.env (.ref A)) _ _ _;refine wpAny_assign_Name (uv I' hN hj hy (v:=.ref A) rfl (fun s'' I'' hsb=>?_) hf);obtain ⟨a,hsa,ha⟩:=hsb;have hCa:C≠a:=by
  rcases ha with z | z
  ·rw [z]; exact ce.loc
  ·exact c9 (ce.cells y a z)
 refine ⟨m',hn.sameBut hsa hCa,fun h' hs'=>?_⟩;exact ⟨_,H',ce.turned I'' hs',q⟩
end
theorem Inv.turnedNew {X:Cx}{J3:Zd}{σ:St}{H:Hp}{s:Shared}{h2:Heap}{t':Nat}{ch:Ze}{o:HO}(I:Inv X J3 σ H s) (hf:∀b∈ch,m9 X J3 H b)
  (k:∀b q,b∉ch->s.heap.get? b=some q->h2.get? b=some q) (hq:∃q,h2.get? s.heap.objs.size=some q) (hno:∀y,o≠.own y) (new:bO X.prog X.w X.K (upd H s.heap.objs.size o) h2 s.heap.objs.size o) :
  Inv X J3 σ (upd H s.heap.objs.size o) { s with heap:=h2,toks:=t' }:=by
 have hn0:H s.heap.objs.size=none:=I.fresh;have nsz:∀b q,s.heap.get? b=some q->b≠s.heap.objs.size:=fun b q e=>cQ (aT e);have tr:∀b u,H b=some u->b∉ch:=fun b u e z=>by rw [(hf b z).1] at e; cases e
 refine I.step (g':=s.gens) (d':=s.drawn) (ch:=ch) (fun b hb=>?_) (fun b q _ _ hc e _=>k b q hc e) (fun b q _ _ hc e _=>⟨q.slots,k b q hc e⟩) (fun b q _ e n=>by rw [af (nsz b q e)]; exact n) (fun b q hc e=>⟨q,k b q hc e⟩)
  (fun b xs e=>by rw [af (ae e hn0)]; exact e) (fun b q u e=>by rw [af (ae e hn0)]; exact e) (fun b ps e=>⟨#[],by rw [af (ae e hn0),e]; simp⟩) (fun m hm=>?_) (fun b u e=>?_) I.bare
 ·obtain ⟨f0,f1,f2,f3,f4,f5⟩:=hf b hb;exact ⟨f3,f1,f4,f5⟩
 ·obtain ⟨q,es,ep,ho,r⟩:=hm;exact ⟨q,es,ep,k _ q (fun z=>(hf _ z).2.1 rfl) ho,r⟩
 ·by_cases hb:b=s.heap.objs.size
  ·subst hb; rw [aa] at e; cases e; exact new
  ·rw [af hb] at e;refine (I.hok b u e).stay (fun c v hc q=>k c v ?_ q) (fun c q=>by rw [af (ae q hn0)]; exact q) fun c xs q=>by rw [af (ae q hn0)]; exact q
   rcases hc with z | z
   ·subst z; exact tr _ _ e
   ·exact tr _ _ z
def HE (K:Za) (a:Addr):It :=
 ⟨fun i H=>∃xs x,aB K H a xs/\xs[i]?=some x,fun i H x H'=>∃p v,x=.ref p/\H p=none/\(∀xs,aB K H a xs->xs[i]?=some v)/\H'=upd H p (.tup [.int i,v]),fun i H=>∃xs,aB K H a xs/\xs.length<=i⟩
theorem BS {P:bF}{w:World}{K:Za}{es:List Expr}{kx:Nat}{J7:Pos}(a e it:Addr) (hne:e≠it) :
  qC P w K (.Tuple es kx J7) (HE K a) [e,it] e (fun i h=>(∃old,IsEnum h e it i old)/\h.IsListIter it a i) where
 mem:=by simp
 obj:=fun i h st b hb=>by
  obtain ⟨⟨old,he⟩,o,ho,hc,hd⟩:=st;rcases cP.mp hb with z | z
  ·subst z; exact ⟨_,he,fun v z=>by cases z⟩
  ·have z':b=it:=by simpa using z
   subst z';exact ⟨o,ho,fun v z=>by rw [hd] at z; cases z⟩
 keep:=fun i h h' st k=>⟨let ⟨old,he⟩:=st.1; ⟨old,k e (by simp) _ he⟩,st.2.at fun o e=>k it (by simp) o e⟩
 item:=by
  intro X hP hw hK hc i J3 s σ H E I hf st hg;subst hP hw hK;obtain ⟨⟨old,he⟩,hit⟩:=st;obtain ⟨xs,x,hq,hx⟩:=hg;obtain ⟨its,rv,p,hz⟩:=I.list hq;obtain ⟨u,hu,ru⟩:=rv.get hx;obtain ⟨e0,e1,e2,e3,e4,e5⟩:=hf e (by simp);obtain ⟨f0,f1,f2,f3,f4,f5⟩:=hf it (by simp);refine wpAny_pyNext_enum_item he hit p.isList (x:=u) (by simpa using hu) hne fun h' ho' hit' ht' hsz' hk'=>?_;refine ⟨_,rfl,wpAny_letOwnedTupleGo_enum (s:={ s with heap:=h',toks:=s.toks+1 }) ho' fun h2 he2 hs2=>?_⟩;have hs2':ff e h' h2:=hs2;have hpe:s.heap.objs.size≠e:=fS (aT he);have ht2:h2.get? s.heap.objs.size=some { cls:=.type "tuple",data:=.seq #[.int i s.toks,u] }:=hs2'.extBut _ _ hpe ht';have hn0:H s.heap.objs.size=none:=I.fresh;have hue:upd H s.heap.objs.size (.tup [.int i,x]) e=none:=by rw [af (c9 hpe)]; exact e0
  have hpi:s.heap.objs.size≠it:=by
   obtain ⟨o,ho,_⟩:=hit;exact fS (aT ho)
  have hui:upd H s.heap.objs.size (.tup [.int i,x]) it=none:=by rw [af (c9 hpi)]; exact f0
  have I2:Inv X J3 σ (upd H s.heap.objs.size (.tup [.int i,x])) { s with heap:=h2,toks:=s.toks+1 }:=by
   refine I.turnedNew (ch:=[e,it]) hf (fun b o hb q=>?_) ⟨_,ht2⟩ (fun _ z=>nomatch z) ⟨by show 2<=aj; decide,[.int i s.toks,u],.cons ⟨_,rfl⟩ (.cons ru .nil),⟨_,ht2,rfl,_,rfl⟩⟩;have nb1:b≠e:=fun z=>hb (by simp [z]);have nb2:b≠it:=fun z=>hb (by simp [z]);exact hs2'.extBut _ _ nb1 (hk' b o nb1 nb2 q)
  refine ⟨.ref s.heap.objs.size,_,I2,rfl,⟨_,x,rfl,hn0,fun ys hy=>by rw [I.list_inj hy hq]; exact hx,rfl⟩,⟨⟨u,by simpa using he2⟩,hit'.at fun o y=>(hs2'.2 it (c9 hne)).trans y⟩,fun b hb=>?_⟩;rcases cP.mp hb with z | z
  ·subst z; exact hue
  ·have z':b=it:=by simpa using z
   subst z'; exact hui
 done:=by
  intro X hP hw hK hc i J3 s σ H E I hf st hg;subst hP hw hK;obtain ⟨⟨old,he⟩,hit⟩:=st;obtain ⟨xs,hq,hx⟩:=hg;obtain ⟨its,rv,p,hz⟩:=I.list hq;obtain ⟨f0,f1,f2,f3,f4,f5⟩:=hf it (by simp);have hl:=rv.length;exact wpAny_pyNext_enum_end (I.ok.hd hc) he hit p.isList (by simp; omega) fun h' eb=>⟨rfl,I.turned (t':=s.toks) (fun b o hb e=>eb b o hb e) f0 f1 f3 f4 f5⟩
 self:=fun _ _ _ _ _ st h=>let ⟨_,he⟩:=st.1; wpAny_pyIter_enum he h
section
variable {X:Cx}{p pos:Pos}{es:List Expr}{kx:Nat}{J7:Pos}
def uP (K:Za) (ta:TA):TI:=fun σ H R=>ta σ H fun vs H1=>∃a,vs=[.ref a]/\(∃xs,aB K H1 a xs)/\R (HE K a) H1
theorem nY {a:Expr}{ta:TA}(hg:Gl X "enumerate") (hm:X.mg "enumerate"=none) (ha:PA X [a] ta) (hs:aI [a] X.env=[(false,eval a X.env)]:=by rfl):PI X (.Tuple es kx J7) (.Call (.Name "enumerate" p) [a] [] pos) (uP X.K ta):=by
 intro J3 s σ H R I h;refine Call_ (pD I hg hm boot_enumerate (AN (cf (ha pos J3 s σ H _ I h) fun us s1 ⟨vs,H1,I1,r1,q1⟩=>?_) hs rfl));obtain ⟨l,e,⟨xs,hq⟩,q⟩:=q1;subst e;obtain ⟨u,rfl,ru⟩:=vals1 r1;cases ru;obtain ⟨its,rv,pl,hz⟩:=I1.list hq;refine call_enumerate_list pl.isList fun h' he hit hsz hk=>?_;refine wpAny_pyIter_enum (s:={ s1 with heap:=h' }) he ?_;have hk':∀b o,s1.heap.get? b=some o->h'.get? b=some o:=hk;have I2:Inv X J3 σ H1 { s1 with heap:=h' }:=I1.kept (t':=s1.toks) hk';refine ⟨_,[s1.heap.objs.size+1,s1.heap.objs.size],_,_,H1,rfl,I2,BS l _ _ (Nat.succ_ne_self _),⟨⟨_,he⟩,hit⟩,fun b hb=>?_,q⟩;have hb':s1.heap.objs.size<=b:=by
  rcases cP.mp hb with z | z
  ·rw [z]; exact lX _
  ·have z':b=s1.heap.objs.size:=by simpa using z
   rw [z']; exact aD _
 exact I1.fpOk hb' (I1.hok.fresh hb')
end
def HZ (x:Str):It:=⟨fun i _=>i<x.cps.size,fun i H y H'=>H'=H/\∃c,x.cps[i]?=some c/\y=.str ⟨#[c]⟩,fun i _=>x.cps.size<=i⟩
theorem y_ {P:bF}{w:World}{K:Za}{tg:Expr}(x:Str) (t:Tok) (it:Addr):qC P w K tg (HZ x) [it] it (fun i h=>h.IsStrIter it "str_ascii_iterator" x t i) where
 mem:=by simp
 obj:=fun i h st b hb=>by
  have e:b=it:=by simpa using hb
  subst e;obtain ⟨o,e,c,d⟩:=st;exact ⟨o,e,fun v z=>by rw [d] at z; cases z⟩
 keep:=fun i h h' st k=>by
  obtain ⟨o,e,c,d⟩:=st;exact ⟨o,k it (by simp) o e,c,d⟩
 item:=by
  intro X hP hw hK hc i J3 s σ H E I hf st hg;subst hP hw hK;have hlt:i<x.cps.size:=hg;obtain ⟨f0,f1,f2,f3,f4,f5⟩:=hf it (by simp);have hx:x.cps[i]?=some x.cps[i]:=by simp [hlt]
  refine wpAny_pyNext_ascii_item st hx fun h' st' sb=>?_;have I1:Inv X J3 σ H { s with heap:=h',toks:=s.toks+1 }:=I.turned (t':=s.toks+1) (fun b o hb e=>(sb.2 b hb).trans e) f0 f1 f3 f4 f5;obtain ⟨o,e,c,d⟩:=id st';exact ⟨_,rfl,uQ (s:={ s with heap:=h',toks:=s.toks+1 }) e c d (by decide) ⟨.str ⟨#[x.cps[i]]⟩,H,I1,⟨_,rfl⟩,⟨rfl,_,hx,rfl⟩,st',fun b hb=>(hf b hb).1⟩⟩
 done:=by
  intro X hP hw hK hc i J3 s σ H E I hf st hg;subst hP hw hK;have hge:x.cps.size<=i:=hg;obtain ⟨f0,f1,f2,f3,f4,f5⟩:=hf it (by simp);exact wpAny_pyNext_ascii_end (I.ok.hd hc) st (by simp; omega) fun h' eb=>⟨rfl,I.turned (t':=s.toks) (fun b o hb e=>eb b o hb e) f0 f1 f3 f4 f5⟩
 self:=fun _ _ _ _ _ st h=>wpAny_pyIter_striter_ascii st h
theorem BQ {P:bF}{w:World}{K:Za}{tg:Expr}(x:Str) (t:Tok) (it:Addr):qC P w K tg (HZ x) [it] it (fun i h=>h.IsStrIter it "str_iterator" x t i) where
 mem:=by simp
 obj:=fun i h st b hb=>by
  have e:b=it:=by simpa using hb
  subst e;obtain ⟨o,e,c,d⟩:=st;exact ⟨o,e,fun v z=>by rw [d] at z; cases z⟩
 keep:=fun i h h' st k=>by
  obtain ⟨o,e,c,d⟩:=st;exact ⟨o,k it (by simp) o e,c,d⟩
 item:=by
  intro X hP hw hK hc i J3 s σ H E I hf st hg;subst hP hw hK;have hlt:i<x.cps.size:=hg;obtain ⟨f0,f1,f2,f3,f4,f5⟩:=hf it (by simp);have hx:x.cps[i]?=some x.cps[i]:=by simp [hlt]
  refine wpAny_pyNext_wide_item st hx fun h' st' sb=>?_;have I1:Inv X J3 σ H { s with heap:=h',toks:=s.toks+1 }:=I.turned (t':=s.toks+1) (fun b o hb e=>(sb.2 b hb).trans e) f0 f1 f3 f4 f5;obtain ⟨o,e,c,d⟩:=id st';exact ⟨_,rfl,uQ (s:={ s with heap:=h',toks:=s.toks+1 }) e c d (by decide) ⟨.str ⟨#[x.cps[i]]⟩,H,I1,⟨_,rfl⟩,⟨rfl,_,hx,rfl⟩,st',fun b hb=>(hf b hb).1⟩⟩
 done:=by
  intro X hP hw hK hc i J3 s σ H E I hf st hg;subst hP hw hK;have hge:x.cps.size<=i:=hg;obtain ⟨f0,f1,f2,f3,f4,f5⟩:=hf it (by simp);exact wpAny_pyNext_wide_end (I.ok.hd hc) st (by simp; omega) fun h' eb=>⟨rfl,I.turned (t':=s.toks) (fun b o hb e=>eb b o hb e) f0 f1 f3 f4 f5⟩
 self:=fun _ _ _ _ _ st h=>wpAny_pyIter_striter_wide st h
section
variable {X:Cx}{p pos:Pos}{tg:Expr}
def Hr (tl:TE):TI:=fun σ H R=>tl σ H fun v H1=>∃x,v=.str x/\R (HZ x) H1
theorem GK {l:Expr}{tl:TE}(hl:PE X l tl):PI X tg l (Hr tl):=by
 intro J3 s σ H R I h;refine cf (hl J3 s σ H _ I h) fun v s1 ⟨y,H1,I1,r1,q1⟩=>?_;obtain ⟨x,e,q⟩:=q1;subst e;obtain ⟨t,rfl⟩:=r1;have fin:∀b∈[s1.heap.objs.size],m9 X J3 H1 b:=fun b hb=>by
  have e:b=s1.heap.objs.size:=by simpa using hb
  subst e;exact I1.fpOk (aD _) (I1.hok.fresh (aD _))
 cases ha:x.cps.all (·<128)
 ·refine wpAny_pyIter_wide ha ?_;exact ⟨s1.heap.objs.size,[s1.heap.objs.size],_,_,H1,rfl,I1.kept (t':=s1.toks) fun b o e=>bd _ e,BQ x t _,⟨_,cr _ rfl,rfl,rfl⟩,fin,q⟩
 ·refine wpAny_pyIter_ascii ha ?_;exact ⟨s1.heap.objs.size,[s1.heap.objs.size],_,_,H1,rfl,I1.kept (t':=s1.toks) fun b o e=>bd _ e,y_ x t _,⟨_,cr _ rfl,rfl,rfl⟩,fin,q⟩
end
def HC (K:Za) (a b:Addr):It :=
  ⟨fun i H=>∃xs ys x y,aB K H a xs/\aB K H b ys/\xs[i]?=some x/\ys[i]?=some y,
   fun i H x H'=>∃p u v,x=.ref p/\H p=none/\(∀xs,aB K H a xs->xs[i]?=some u)/\(∀ys,aB K H b ys->ys[i]?=some v)/\H'=upd H p (.tup [u,v]),
   fun i H=>∃xs ys,aB K H a xs/\aB K H b ys/\(xs.length<=i∨ys.length<=i)⟩
theorem Di {P:bF}{w:World}{K:Za}{es:List Expr}{kx:Nat}{J7:Pos}(a b z TI TO i1 i2:Addr) (D:oQ z TI TO i1 i2 a b) :
  qC P w K (.Tuple es kx J7) (HC K a b) [z,TI,TO,i1,i2] z (fun i h=>IsZip h z TI TO .none/\IsPair h TI (.ref i1) (.ref i2)/\(∃a b,IsPair h TO a b)/\h.IsListIter i1 a i/\h.IsListIter i2 b i) where
 mem:=by simp
 obj:=fun i h st c hc=>by
  obtain ⟨hz,hTI,⟨u,v,hTO⟩,h1,h2⟩:=st;simp only [cP,rE,or_false] at hc;rcases hc with rfl | rfl | rfl | rfl | rfl
  ·exact ⟨_,hz,fun v z=>by cases z⟩
  ·exact ⟨_,hTI,fun v z=>by cases z⟩
  ·exact ⟨_,hTO,fun v z=>by cases z⟩
  ·obtain ⟨o,e,c,d⟩:=h1;exact ⟨o,e,fun v z=>by rw [d] at z; cases z⟩
  ·obtain ⟨o,e,c,d⟩:=h2;exact ⟨o,e,fun v z=>by rw [d] at z; cases z⟩
 keep:=fun i h h' st k=>by
  obtain ⟨hz,hTI,⟨u,v,hTO⟩,h1,h2⟩:=st;exact ⟨k z (by simp) _ hz,k TI (by simp) _ hTI,⟨u,v,k TO (by simp) _ hTO⟩,h1.at fun o e=>k i1 (by simp) o e,h2.at fun o e=>k i2 (by simp) o e⟩
 item:=by
  intro X hP hw hK hc i J3 s σ H E I hf st hg;subst hP hw hK;obtain ⟨hz,hTI,⟨u0,v0,hTO⟩,h1,h2⟩:=st;obtain ⟨xs,ys,x,y,hqx,hqy,hx,hy⟩:=hg;obtain ⟨its,rx,px,zx⟩:=I.list hqx;obtain ⟨jts,ry,py,zy⟩:=I.list hqy;obtain ⟨u,hu,ru⟩:=rx.get hx;obtain ⟨v,hv,rv⟩:=ry.get hy;refine wpAny_pyNext_zip_item D hz hTI hTO h1 h2 px.isList py.isList (x:=u) (y:=v) (by simpa using hu) (by simpa using hv) fun h' a1 a2 a3 a4 a5 a6 hk=>?_;refine ⟨_,rfl,wpAny_letOwnedTupleGo_zip (s:={ s with heap:=h' }) a1 fun h2' hz2 hs2=>?_⟩;have hs2':ff z h' h2':=hs2;have nsz:s.heap.objs.size≠z:=fS (aT hz);have nsTO:s.heap.objs.size≠TO:=fS (aT hTO);have nsTI:s.heap.objs.size≠TI:=fS (aT hTI);have nsi1:s.heap.objs.size≠i1:=by obtain ⟨o,ho,_⟩:=h1; exact fS (aT ho)
  have nsi2:s.heap.objs.size≠i2:=by obtain ⟨o,ho,_⟩:=h2; exact fS (aT ho)
  have ht2:IsPair h2' s.heap.objs.size u v:=hs2'.extBut _ _ nsz a5;have I2:Inv X J3 σ (upd H s.heap.objs.size (.tup [x,y])) { s with heap:=h2',toks:=s.toks }:=by
   refine I.turnedNew (ch:=[z,TI,TO,i1,i2]) hf (fun c o hc q=>?_) ⟨_,ht2⟩ (fun _ z=>nomatch z) ⟨by show 2<=aj; decide,[u,v],.cons ru (.cons rv .nil),⟨_,ht2,rfl,_,rfl⟩⟩;have n1:c≠z:=fun q=>hc (by simp [q]);exact hs2'.extBut _ _ n1 (hk c o n1 (fun q=>hc (by simp [q])) (fun q=>hc (by simp [q])) (fun q=>hc (by simp [q])) q)
  refine ⟨.ref s.heap.objs.size,_,I2,rfl,⟨_,x,y,rfl,I.fresh,fun zs hz=>by rw [I.list_inj hz hqx]; exact hx,fun zs hz=>by rw [I.list_inj hz hqy]; exact hy,rfl⟩,⟨hz2,hs2'.extBut _ _ D.TIz (hk _ _ D.TIz D.TITO D.TIi1 D.TIi2 hTI),⟨_,_,hs2'.extBut _ _ D.TOz a2⟩,a3.at fun o e=>hs2'.extBut _ _ D.i1z e,a4.at fun o e=>hs2'.extBut _ _ D.i2z e⟩,fun c hc=>?_⟩;have hcn:=(hf c hc).1;simp only [cP,rE,or_false] at hc;have ne:c≠s.heap.objs.size:=by
   rcases hc with rfl | rfl | rfl | rfl | rfl
   ·exact nsz.symm
   ·exact nsTI.symm
   ·exact nsTO.symm
   ·exact nsi1.symm
   ·exact nsi2.symm
  rw [af ne]; exact hcn
 done:=by
  intro X hP hw hK hc i J3 s σ H E I hf st hg;subst hP hw hK;obtain ⟨hz,hTI,⟨u0,v0,hTO⟩,h1,h2⟩:=st;obtain ⟨xs,ys,hqx,hqy,hend⟩:=hg;obtain ⟨its,rx,px,zx⟩:=I.list hqx;obtain ⟨jts,ry,py,zy⟩:=I.list hqy;have lx:=rx.length;have ly:=ry.length;refine wpAny_pyNext_zip_end (I.ok.hd hc) D hz hTI hTO h1 h2 px.isList py.isList (by rcases hend with q | q; exact .inl (by simp; omega); exact .inr (by simp; omega)) fun h' hk=>⟨rfl,?_⟩;have tr:∀c q,H c=some q->c∉[z,TI,TO,i1,i2]:=fun c q e m=>by rw [(hf c m).1] at e; cases e
  have kk:∀c o,c∉[z,TI,TO,i1,i2]->s.heap.get? c=some o->h'.get? c=some o:=fun c o hc q=>hk c o (fun q=>hc (by simp [q])) (fun q=>hc (by simp [q])) (fun q=>hc (by simp [q])) (fun q=>hc (by simp [q])) q;refine I.step (g':=s.gens) (d':=s.drawn) (t':=s.toks) (ch:=[z,TI,TO,i1,i2]) (fun c hc=>?_) (fun c o _ _ hc e _=>kk c o hc e) (fun c o _ _ hc e _=>⟨o.slots,kk c o hc e⟩) (fun _ _ _ _ n=>n) (fun c o hc e=>⟨o,kk c o hc e⟩) (fun _ _ e=>e) (fun _ _ _ e=>e) (fun c ps e=>⟨#[],by rw [e]; simp⟩) (fun m hm=>?_) (fun c q e=>?_) I.bare
  ·obtain ⟨f0,f1,f2,f3,f4,f5⟩:=hf c hc;exact ⟨f3,f1,f4,f5⟩
  ·obtain ⟨q,es',ep,ho,r⟩:=hm;exact ⟨q,es',ep,kk _ q (fun z=>(hf _ z).2.1 rfl) ho,r⟩
  ·refine (I.hok c q e).stay (fun d v hd q'=>kk d v ?_ q') (fun _ q=>q) fun _ _ q=>q;rcases hd with z | z
   ·subst z; exact tr _ _ e
   ·exact tr _ _ z
 self:=fun _ _ _ _ _ st h=>vE st.1 h
section
variable {prog:bF}{w:World}{A:Around}{E:Zc}{s:Shared}
theorem jJ {it t:Addr}{i:Nat}{items:Array Value}{x:Value}{Q:Zc}(st:s.heap.IsTupleIter it t i) (tt:s.heap.IsTuple t items) (hx:items[i]?=some x)
  (k:∀h',h'.IsTupleIter it t (i+1)->ff it s.heap h'->Q x { s with heap:=h' }):wpAny (model prog w) A (ko (.ref it)) Q E s:=by
 obtain ⟨oi,gi,ci,di⟩:=id st;obtain ⟨ot,gt,_,nt,dt⟩:=tt;unfold ko;refine ak (km (name:=kj "__next__") st.typeIs vD
  (oF vD st.typeIs F.entry_tuple_iterator_next ?_ (F.args_tuple_iterator_next_1 _)))
 show wpAny _ _ (field (.ref it) 0 >>= _) _ _ s;refine ak (eL gi di (x:=.ref t) rfl ?_);show wpAny _ _ (if (Value.ref t == Value.none)=true then _ else _) _ _ s
 rw [if_neg (show ¬((Value.ref t == Value.none)=true) from fW)];show wpAny _ _ (field (.ref it) 1 >>= _) _ _ s;refine ak (eL gi di (x:=.int i 0) rfl ?_);show wpAny _ _ (seqItems? (.ref t) >>= _) _ _ s;refine ak (lZ gt dt ?_);simp only [iR,hx];refine ak (rD gi di (by simp) (aG ⟨x,rfl,aG (k _ ?_ (ki ..))⟩));exact ⟨_,vL _ gi (Obj.isFreed_of_fields (vC di _)),(Obj.cls_mapFields ..).trans ci,by
  rw [vC di]; simp [rawInt]⟩
theorem p7 {it t:Addr}{i:Nat}{items:Array Value}{Q:Zc}(hh:A.handled=none) (st:s.heap.IsTupleIter it t i) (tt:s.heap.IsTuple t items) (hx:items[i]?=none)
  (k:∀h' e,Heap.ExtBut it s.heap h'->(∃o,h'.get? e=some o/\o.cls=.type "StopIteration")->E (.ref e) { s with heap:=h' }):wpAny (model prog w) A (ko (.ref it)) Q E s:=by
 obtain ⟨oi,gi,ci,di⟩:=id st;obtain ⟨ot,gt,_,nt,dt⟩:=tt;unfold ko;refine ak (km (name:=kj "__next__") st.typeIs vD
  (oF vD st.typeIs F.entry_tuple_iterator_next ?_ (F.args_tuple_iterator_next_1 _)))
 show wpAny _ _ (field (.ref it) 0 >>= _) _ _ s;refine ak (eL gi di (x:=.ref t) rfl ?_);show wpAny _ _ (if (Value.ref t == Value.none)=true then _ else _) _ _ s
 rw [if_neg (show ¬((Value.ref t == Value.none)=true) from fW)];show wpAny _ _ (field (.ref it) 1 >>= _) _ _ s;refine ak (eL gi di (x:=.int i 0) rfl ?_);show wpAny _ _ (seqItems? (.ref t) >>= _) _ _ s;refine ak (lZ gt dt ?_);simp only [iR,hx];refine ak (xf (ak (rD gi di (by simp) ?_)));show wpAny _ _ (newExc (.type "StopIteration") [] >>= _) _ _ _;refine ak ?_;simp only [newExc,newTuple];refine ak (iP ?_ (by size_fits));refine ak (m:=oP _ _) (wpAny_of_eq (a:=Value.none) (by first | rfl | (simp only [oP]; rfl)) ?_)
 refine iP ?_ (by size_fits);simp only [raiseNew];refine ak (wpAny_handled ?_)
 first | rw [show A.in1.handled=none from hh] | rw [hh]
 refine ak (aG (wpAny_throw ?_));exact k _ _ (((ki ..).extBut.push _).push _) ⟨_,cr _ rfl,rfl⟩
theorem BO {z TI TO i1 i2 l1 l2:Addr}{k1 k2:Nat}{xs ys:Array Value}{x y a b:Value}{Q:Zc}(D:oQ z TI TO i1 i2 l1 l2)
  (gz:IsZip s.heap z TI TO .none) (gI:IsPair s.heap TI (.ref i1) (.ref i2)) (gO:IsPair s.heap TO a b)
  (g1:s.heap.IsTupleIter i1 l1 k1) (g2:s.heap.IsTupleIter i2 l2 k2) (t1:s.heap.IsTuple l1 xs) (t2:s.heap.IsTuple l2 ys) (hx:xs[k1]?=some x) (hy:ys[k2]?=some y)
  (k:∀h',IsZip h' z TI TO (rawInt s.heap.objs.size)->IsPair h' TO x y->h'.IsTupleIter i1 l1 (k1+1)->h'.IsTupleIter i2 l2 (k2+1)->IsPair h' s.heap.objs.size x y->h'.objs.size=s.heap.objs.size+1 ->
   (∀c o,c≠z->c≠TO->c≠i1->c≠i2->s.heap.get? c=some o->h'.get? c=some o)->Q (.ref s.heap.objs.size) { s with heap:=h' }) :
  wpAny (model prog w) A (bV.«zip.__next__» ⟨[.ref z],[]⟩) (fun fin s'=>∃v,fin=.done (.ret v)/\Q v s') E s:=by
 show wpAny _ _ (field (.ref z) 2 >>= _) _ _ _;refine ak (eL gz rfl (x:=.bool false) rfl ?_);show wpAny _ _ (field (.ref z) 3 >>= _) _ _ _;refine ak (eL gz rfl (x:=.ref TI) rfl ?_);refine ak (lZ gI rfl ?_);show wpAny _ _ (vB (.ref z) >>= _) _ _ _;refine ak ?_;unfold vB;refine ak (eL gz rfl (x:=.none) rfl (aG ?_));simp only [if_true];refine ak (xf ?_);refine ak (eL gz rfl (x:=.ref TO) rfl ?_);refine ak (ie gz (by simp) fun m₁ gz₁ u₁=>?_)
 replace gz₁:IsZip m₁ z TI TO .ellipsis:=gz₁
 refine ak ?_;simp only [List.zipIdx_cons,List.zipIdx_nil,oR,List.forIn_nil];refine ak (ak (vA ?_));show wpAny _ _ (ko (.ref i1) >>= _) _ _ _;refine ak (jJ (g1.extBut u₁.extBut D.i1z) (t1.extBut u₁.extBut D.l1z) hx fun m₂ g1₂ u₂=>aG ?_);have gO₂:IsPair m₂ TO a b:=u₂.extBut _ _ D.TOi1 (u₁.extBut _ _ D.TOz gO);refine ak (lZ gO₂ rfl ?_);refine ak (wpAny_updateSeq_pair gO₂ fun m₃ gO₃ u₃=>?_)
 replace gO₃:IsPair m₃ TO x b:=gO₃
 refine ak (vz (aG ?_));refine ak (ak (vA ?_));show wpAny _ _ (ko (.ref i2) >>= _) _ _ _;refine ak (jJ (((g2.extBut u₁.extBut D.i2z).extBut u₂.extBut D.i12.symm).extBut u₃.extBut D.TOi2.symm)
  (((t2.extBut u₁.extBut D.l2z).extBut u₂.extBut D.l2i1).extBut u₃.extBut D.l2TO) hy fun m₄ g2₄ u₄=>aG ?_)
 have gO₄:IsPair m₄ TO x b:=u₄.extBut _ _ D.TOi2 gO₃;refine ak (lZ gO₄ rfl ?_);refine ak (wpAny_updateSeq_pair gO₄ fun m₅ gO₅ u₅=>?_)
 replace gO₅:IsPair m₅ TO x y:=gO₅
 refine ak (vz (aG (aG ?_)));refine ak (lZ gO₅ rfl ?_);refine ak (wpAny_newTuple ?_);have esz:m₅.objs.size=s.heap.objs.size:=by rw [u₅.1,u₄.1,u₃.1,u₂.1,u₁.1]
 have gz₅:IsZip m₅ z TI TO .ellipsis:=u₅.extBut _ _ D.TOz.symm (u₄.extBut _ _ D.i2z.symm (u₃.extBut _ _ D.TOz.symm (u₂.extBut _ _ D.i1z.symm gz₁)));have kp₅:∀c o,c≠z->c≠TO->c≠i1->c≠i2->s.heap.get? c=some o->m₅.get? c=some o:=fun c o c1 c2 c3 c4 e =>
  u₅.extBut _ _ c2 (u₄.extBut _ _ c4 (u₃.extBut _ _ c2 (u₂.extBut _ _ c3 (u₁.extBut _ _ c1 e))))
 have g1₅:m₅.IsTupleIter i1 l1 (k1+1):=((g1₂.extBut u₃.extBut D.TOi1.symm).extBut u₄.extBut D.i12).extBut u₅.extBut D.TOi1.symm;have g2₅:m₅.IsTupleIter i2 l2 (k2+1):=g2₄.extBut u₅.extBut D.TOi2.symm;have zlt:z<m₅.objs.size:=aT gz₅;show wpAny _ _ (bV.SmallTypes.ownedTupleHandOut (.ref z) (.ref m₅.objs.size) >>= _) _ _ _;refine ak ?_;unfold bV.SmallTypes.ownedTupleHandOut;have gz₆:IsZip (m₅.push { cls:=.type "tuple",data:=.seq #[x,y] }) z TI TO .ellipsis:=bd _ gz₅;refine ak (ie gz₆ (by simp) fun m₇ gz₇ u₇=>?_)
 replace gz₇:IsZip m₇ z TI TO (rawInt m₅.objs.size):=gz₇
 refine ie gz₇ (by simp) fun m₈ gz₈ u₈=>?_
 replace gz₈:IsZip m₈ z TI TO (rawInt m₅.objs.size):=gz₈
 have up:∀c o,c≠z->m₅.get? c=some o->m₈.get? c=some o:=fun c o c1 e=>u₈.extBut _ _ c1 (u₇.extBut _ _ c1 (bd _ e));have gT₈:IsPair m₈ m₅.objs.size x y:=u₈.extBut _ _ (fS zlt) (u₇.extBut _ _ (fS zlt) (cr _ rfl));have ez8:m₈.objs.size=m₅.objs.size+1:=by rw [u₈.1,u₇.1,nA]
 rw [esz] at gz₈ gT₈ ez8;refine aG ⟨_,rfl,?_⟩;show Q (.ref m₅.objs.size) _;rw [esz];refine k m₈ gz₈ (up _ _ D.TOz gO₅) ?_ ?_ gT₈ ez8 fun c o c1 c2 c3 c4 e=>up c o c1 (kp₅ c o c1 c2 c3 c4 e)
 ·obtain ⟨o,e,r⟩:=g1₅;exact ⟨o,up _ o D.i1z e,r⟩
 ·obtain ⟨o,e,r⟩:=g2₅;exact ⟨o,up _ o D.i2z e,r⟩
theorem Dc {z TI TO i1 i2 l1 l2:Addr}{k1 k2:Nat}{xs ys:Array Value}{a b:Value}{Q:Fin->Shared->Prop}(hh:A.handled=none) (D:oQ z TI TO i1 i2 l1 l2)
  (gz:IsZip s.heap z TI TO .none) (gI:IsPair s.heap TI (.ref i1) (.ref i2)) (gO:IsPair s.heap TO a b)
  (g1:s.heap.IsTupleIter i1 l1 k1) (g2:s.heap.IsTupleIter i2 l2 k2) (t1:s.heap.IsTuple l1 xs) (t2:s.heap.IsTuple l2 ys) (fin:xs[k1]?=none∨ys[k2]?=none)
  (k:∀h' e,(∀c o,c≠z->c≠TO->c≠i1->c≠i2->s.heap.get? c=some o->h'.get? c=some o)->(∃o,h'.get? e=some o/\o.cls=.type "StopIteration")->E (.ref e) { s with heap:=h' }) :
  wpAny (model prog w) A (bV.«zip.__next__» ⟨[.ref z],[]⟩) Q E s:=by
 show wpAny _ _ (field (.ref z) 2 >>= _) _ _ _;refine ak (eL gz rfl (x:=.bool false) rfl ?_);show wpAny _ _ (field (.ref z) 3 >>= _) _ _ _;refine ak (eL gz rfl (x:=.ref TI) rfl ?_);refine ak (lZ gI rfl ?_);show wpAny _ _ (vB (.ref z) >>= _) _ _ _;refine ak ?_;unfold vB;refine ak (eL gz rfl (x:=.none) rfl (aG ?_));simp only [if_true];refine ak (xf ?_);refine ak (eL gz rfl (x:=.ref TO) rfl ?_);refine ak (ie gz (by simp) fun m₁ gz₁ u₁=>?_)
 replace gz₁:IsZip m₁ z TI TO .ellipsis:=gz₁
 refine ak ?_;simp only [List.zipIdx_cons,List.zipIdx_nil,oR,List.forIn_nil];refine ak (ak (vA ?_));show wpAny _ _ (ko (.ref i1) >>= _) _ _ _;cases hx:xs[k1]? with
 | none =>
  refine ak (p7 hh (g1.extBut u₁.extBut D.i1z) (t1.extBut u₁.extBut D.l1z) hx fun m₂ e u₂ he=>?_);obtain ⟨oe,ge,ce⟩:=he;have gz₂:IsZip m₂ z TI TO .ellipsis:=u₂ _ _ D.i1z.symm gz₁;have nez:e≠z:=fun q=>by subst q; rw [gz₂] at ge; cases ge; simp at ce
  refine ie gz₂ (by simp) fun m₃ _ u₃=>k m₃ e (fun c o c1 _ c3 _ q=>u₃.extBut _ _ c1 (u₂ _ _ c3 (u₁.extBut _ _ c1 q))) ⟨oe,u₃.extBut _ _ nez ge,ce⟩
 | some x =>
  have hy:ys[k2]?=none:=by rcases fin with q | q; rw [hx] at q; cases q; exact q
  refine ak (jJ (g1.extBut u₁.extBut D.i1z) (t1.extBut u₁.extBut D.l1z) hx fun m₂ g1₂ u₂=>aG ?_);have gO₂:IsPair m₂ TO a b:=u₂.extBut _ _ D.TOi1 (u₁.extBut _ _ D.TOz gO);refine ak (lZ gO₂ rfl ?_);refine ak (wpAny_updateSeq_pair gO₂ fun m₃ gO₃ u₃=>?_);refine ak (vz (aG ?_));refine ak (ak (vA ?_));show wpAny _ _ (ko (.ref i2) >>= _) _ _ _;refine ak (p7 hh (((g2.extBut u₁.extBut D.i2z).extBut u₂.extBut D.i12.symm).extBut u₃.extBut D.TOi2.symm)
   (((t2.extBut u₁.extBut D.l2z).extBut u₂.extBut D.l2i1).extBut u₃.extBut D.l2TO) hy fun m₄ e u₄ he=>?_)
  obtain ⟨oe,ge,ce⟩:=he;have gz₄:IsZip m₄ z TI TO .ellipsis:=u₄ _ _ D.i2z.symm (u₃.extBut _ _ D.TOz.symm (u₂.extBut _ _ D.i1z.symm gz₁));have nez:e≠z:=fun q=>by subst q; rw [gz₄] at ge; cases ge; simp at ce
  refine ie gz₄ (by simp) fun m₅ _ u₅=>k m₅ e (fun c o c1 c2 c3 c4 q=>u₅.extBut _ _ c1 (u₄ _ _ c4 (u₃.extBut _ _ c2 (u₂.extBut _ _ c3 (u₁.extBut _ _ c1 q))))) ⟨oe,u₅.extBut _ _ nez ge,ce⟩
theorem tZ {z TI TO i1 i2 l1 l2:Addr}{k1 k2:Nat}{xs ys:Array Value}{x y a b:Value}{Q:Option Value->Shared->Prop}(D:oQ z TI TO i1 i2 l1 l2)
  (gz:IsZip s.heap z TI TO .none) (gI:IsPair s.heap TI (.ref i1) (.ref i2)) (gO:IsPair s.heap TO a b)
  (g1:s.heap.IsTupleIter i1 l1 k1) (g2:s.heap.IsTupleIter i2 l2 k2) (t1:s.heap.IsTuple l1 xs) (t2:s.heap.IsTuple l2 ys) (hx:xs[k1]?=some x) (hy:ys[k2]?=some y)
  (k:∀h',IsZip h' z TI TO (rawInt s.heap.objs.size)->IsPair h' TO x y->h'.IsTupleIter i1 l1 (k1+1)->h'.IsTupleIter i2 l2 (k2+1)->IsPair h' s.heap.objs.size x y->h'.objs.size=s.heap.objs.size+1 ->
   (∀c o,c≠z->c≠TO->c≠i1->c≠i2->s.heap.get? c=some o->h'.get? c=some o)->Q (some (.ref s.heap.objs.size)) { s with heap:=h' }) :
  wpAny (model prog w) A (pyNext (.ref z)) Q E s:=by
 have hT:s.TypeIs (.ref z) "zip":=⟨_,gz,rfl⟩;unfold pyNext;exact ak (oO (km (name:=kj "__next__") hT vy
  (oF vy hT F.entry_zip_next
   (BO D gz gI gO g1 g2 t1 t2 hx hy fun h' a1 a2 a3 a4 a5 a6 a7=>aG (k h' a1 a2 a3 a4 a5 a6 a7)) (F.args_zip_next_1 _))))
theorem wr {z TI TO i1 i2 l1 l2:Addr}{k1 k2:Nat}{xs ys:Array Value}{a b:Value}{Q:Option Value->Shared->Prop}(hh:A.handled=none) (D:oQ z TI TO i1 i2 l1 l2)
  (gz:IsZip s.heap z TI TO .none) (gI:IsPair s.heap TI (.ref i1) (.ref i2)) (gO:IsPair s.heap TO a b)
  (g1:s.heap.IsTupleIter i1 l1 k1) (g2:s.heap.IsTupleIter i2 l2 k2) (t1:s.heap.IsTuple l1 xs) (t2:s.heap.IsTuple l2 ys) (fin:xs[k1]?=none∨ys[k2]?=none)
  (k:∀h',(∀c o,c≠z->c≠TO->c≠i1->c≠i2->s.heap.get? c=some o->h'.get? c=some o)->Q none { s with heap:=h' }):wpAny (model prog w) A (pyNext (.ref z)) Q E s:=by
 have hT:s.TypeIs (.ref z) "zip":=⟨_,gz,rfl⟩;unfold pyNext;refine ak (oO (km (name:=kj "__next__") hT vy
  (oF vy hT F.entry_zip_next (Dc hh D gz gI gO g1 g2 t1 t2 fin fun h' e kp he=>?_) (F.args_zip_next_1 _))))
 obtain ⟨o,ho,hc⟩:=he;refine ak (xk (T:="StopIteration") (b:=true) ⟨o,ho,hc⟩ isSubtype_stop ?_);exact aG (k _ kp)
end
abbrev HP (h:Heap) (l1:Addr):Heap:=h.push { cls:=.type "tuple_iterator",data:=.fields #[.ref l1,.int 0 0] }
abbrev HN (h:Heap) (l1 l2:Addr):Heap:=(HP h l1).push { cls:=.type "tuple_iterator",data:=.fields #[.ref l2,.int 0 0] }
abbrev HM (h:Heap) (l1 l2:Addr):Heap:=(HN h l1 l2).push { cls:=.type "tuple",data:=.seq #[.ref h.objs.size,.ref (HP h l1).objs.size] }
abbrev HL (h:Heap) (l1 l2:Addr):Heap:=(HM h l1 l2).push { cls:=.type "tuple",data:=.seq #[.none,.none] }
abbrev Ha (h:Heap) (l1 l2:Addr):Heap:=(HL h l1 l2).push { cls:=.type "zip",data:=.fields #[.none,.bool false,.bool false,.ref (HN h l1 l2).objs.size,.ref (HM h l1 l2).objs.size] }
theorem zY (l1 l2:Addr) (xs ys:Array Value) :
  Meets (bV.«zip.__new__» ⟨[.type "zip",.ref l1,.ref l2],[]⟩) (fun _ R s=>s.heap.IsTuple l1 xs/\s.heap.IsTuple l2 ys /\
   R (.ok (.ret (.ref (HL s.heap l1 l2).objs.size))) { s with heap:=Ha s.heap l1 l2 }) :=
 .of_wp fun prog w A R s h=>by
  obtain ⟨hp,g,d,tk,os⟩:=s; obtain ⟨q1,q2,h⟩:=h;have hsub:=sub_zip;have T1:Heap.IsTuple (Shared.heap ⟨hp,g,d,tk,os⟩) l1 xs:=q1;have T2:Heap.IsTuple (Shared.heap ⟨hp.push { cls:=.type "tuple_iterator",data:=.fields #[.ref l1,.int 0 0] },g,d,tk,os⟩) l2 ys:=Heap.IsTuple.push q2 _
  wp_walk using AO T1,AO T2
  exact ⟨_,rfl,h⟩
section
variable {prog:bF}{w:World}{A:Around}{E:Zc}{s:Shared}
theorem CQ {l1 l2:Addr}{xs ys:Array Value}{Q:Zc}(t1:s.heap.IsTuple l1 xs) (t2:s.heap.IsTuple l2 ys)
  (k:∀h',IsZip h' (s.heap.objs.size+4) (s.heap.objs.size+2) (s.heap.objs.size+3) .none->IsPair h' (s.heap.objs.size+2) (.ref s.heap.objs.size) (.ref (s.heap.objs.size+1)) ->
   IsPair h' (s.heap.objs.size+3) .none .none->h'.IsTupleIter s.heap.objs.size l1 0->h'.IsTupleIter (s.heap.objs.size+1) l2 0->(∀c o,s.heap.get? c=some o->h'.get? c=some o)->Q (.ref (s.heap.objs.size+4)) { s with heap:=h' }) :
  wpAny (model prog w) A (call (.type "zip") [.ref l1,.ref l2]) Q E s:=by
 refine callType_new F.called_zip (by decide) (F.typeCall_zip_2 _ _) (F.newCall_zip_2 _ _) (fun obj=>F.args_object_init_3 obj _ _) F.entry_zip_new
  (zY l1 l2 xs ys) ⟨t1,t2,?_⟩
 have z1:(HP s.heap l1).objs.size=s.heap.objs.size+1:=nA ..;have z2:(HN s.heap l1 l2).objs.size=s.heap.objs.size+2:=by rw [nA,z1]
 have z3:(HM s.heap l1 l2).objs.size=s.heap.objs.size+3:=by rw [nA,z2]
 have z4:(HL s.heap l1 l2).objs.size=s.heap.objs.size+4:=by rw [nA,z3]
 have g5:(Ha s.heap l1 l2).get? (HL s.heap l1 l2).objs.size=some _:=cr _ rfl;have g4:(Ha s.heap l1 l2).get? (HM s.heap l1 l2).objs.size=some _:=bd _ (cr _ rfl);have g3:(Ha s.heap l1 l2).get? (HN s.heap l1 l2).objs.size=some _:=bd _ (bd _ (cr _ rfl));have g2:(Ha s.heap l1 l2).get? (HP s.heap l1).objs.size=some _:=bd _ (bd _ (bd _ (cr _ rfl)));have g1:(Ha s.heap l1 l2).get? s.heap.objs.size=some _:=bd _ (bd _ (bd _ (bd _ (cr _ rfl))));show _/\_;rw [z2,z3,z4] at g5;rw [z1,z2] at g3;rw [z3] at g4;rw [z1] at g2;rw [z4];exact ⟨⟨_,g5,rfl⟩,k _ g5 g3 g4 ⟨_,g1,rfl,rfl⟩ ⟨_,g2,rfl,rfl⟩ fun c o x =>
  bd _ (bd _ (bd _ (bd _ (bd _ x))))⟩
end
def HB (K:Za) (a b:Addr):It :=
  ⟨fun i H=>∃xs ys x y,bL K H a xs/\bL K H b ys/\xs[i]?=some x/\ys[i]?=some y,
   fun i H x H'=>∃p u v,x=.ref p/\H p=none/\(∀xs,bL K H a xs->xs[i]?=some u)/\(∀ys,bL K H b ys->ys[i]?=some v)/\H'=upd H p (.tup [u,v]),
   fun i H=>∃xs ys,bL K H a xs/\bL K H b ys/\(xs.length<=i∨ys.length<=i)⟩
theorem BP {P:bF}{w:World}{K:Za}{es:List Expr}{kx:Nat}{J7:Pos}(a b z TI TO i1 i2:Addr) (D:oQ z TI TO i1 i2 a b) :
  qC P w K (.Tuple es kx J7) (HB K a b) [z,TI,TO,i1,i2] z (fun i h=>IsZip h z TI TO .none/\IsPair h TI (.ref i1) (.ref i2)/\(∃a b,IsPair h TO a b)/\h.IsTupleIter i1 a i/\h.IsTupleIter i2 b i) where
 mem:=by simp
 obj:=fun i h st c hc=>by
  obtain ⟨hz,hTI,⟨u,v,hTO⟩,h1,h2⟩:=st;simp only [cP,rE,or_false] at hc;rcases hc with rfl | rfl | rfl | rfl | rfl
  ·exact ⟨_,hz,fun v z=>by cases z⟩
  ·exact ⟨_,hTI,fun v z=>by cases z⟩
  ·exact ⟨_,hTO,fun v z=>by cases z⟩
  ·obtain ⟨o,e,c,d⟩:=h1;exact ⟨o,e,fun v z=>by rw [d] at z; cases z⟩
  ·obtain ⟨o,e,c,d⟩:=h2;exact ⟨o,e,fun v z=>by rw [d] at z; cases z⟩
 keep:=fun i h h' st k=>by
  obtain ⟨hz,hTI,⟨u,v,hTO⟩,⟨o1,e1,r1⟩,⟨o2,e2,r2⟩⟩:=st;exact ⟨k z (by simp) _ hz,k TI (by simp) _ hTI,⟨u,v,k TO (by simp) _ hTO⟩,⟨o1,k i1 (by simp) o1 e1,r1⟩,⟨o2,k i2 (by simp) o2 e2,r2⟩⟩
 item:=by
  intro X hP hw hK hc i J3 s σ H E I hf st hg;subst hP hw hK;obtain ⟨hz,hTI,⟨u0,v0,hTO⟩,h1,h2⟩:=st;obtain ⟨xs,ys,x,y,hqx,hqy,hx,hy⟩:=hg;obtain ⟨its,rx,px,zx⟩:=I.tuple hqx;obtain ⟨jts,ry,py,zy⟩:=I.tuple hqy;obtain ⟨u,hu,ru⟩:=rx.get hx;obtain ⟨v,hv,rv⟩:=ry.get hy;refine tZ D hz hTI hTO h1 h2 (xs:=its.toArray) (ys:=jts.toArray) px py (x:=u) (y:=v) (by simpa using hu) (by simpa using hv) fun h' a1 a2 a3 a4 a5 a6 hk=>?_;refine ⟨_,rfl,wpAny_letOwnedTupleGo_zip (s:={ s with heap:=h' }) a1 fun h2' hz2 hs2=>?_⟩;have hs2':ff z h' h2':=hs2;have nsz:s.heap.objs.size≠z:=fS (aT hz);have nsTO:s.heap.objs.size≠TO:=fS (aT hTO);have nsTI:s.heap.objs.size≠TI:=fS (aT hTI);have nsi1:s.heap.objs.size≠i1:=by obtain ⟨o,ho,_⟩:=h1; exact fS (aT ho)
  have nsi2:s.heap.objs.size≠i2:=by obtain ⟨o,ho,_⟩:=h2; exact fS (aT ho)
  have ht2:IsPair h2' s.heap.objs.size u v:=hs2'.extBut _ _ nsz a5;have I2:Inv X J3 σ (upd H s.heap.objs.size (.tup [x,y])) { s with heap:=h2',toks:=s.toks }:=by
   refine I.turnedNew (ch:=[z,TI,TO,i1,i2]) hf (fun c o hc q=>?_) ⟨_,ht2⟩ (fun _ z=>nomatch z) ⟨by show 2<=aj; decide,[u,v],.cons ru (.cons rv .nil),⟨_,ht2,rfl,_,rfl⟩⟩;have n1:c≠z:=fun q=>hc (by simp [q]);exact hs2'.extBut _ _ n1 (hk c o n1 (fun q=>hc (by simp [q])) (fun q=>hc (by simp [q])) (fun q=>hc (by simp [q])) q)
  have a3':h2'.IsTupleIter i1 a (i+1):=by obtain ⟨o,e,r⟩:=a3; exact ⟨o,hs2'.extBut _ _ D.i1z e,r⟩
  have a4':h2'.IsTupleIter i2 b (i+1):=by obtain ⟨o,e,r⟩:=a4; exact ⟨o,hs2'.extBut _ _ D.i2z e,r⟩
  refine ⟨.ref s.heap.objs.size,_,I2,rfl,⟨_,x,y,rfl,I.fresh,fun zs hz=>by rw [I.tuple_inj hz hqx]; exact hx,fun zs hz=>by rw [I.tuple_inj hz hqy]; exact hy,rfl⟩,⟨hz2,hs2'.extBut _ _ D.TIz (hk _ _ D.TIz D.TITO D.TIi1 D.TIi2 hTI),⟨_,_,hs2'.extBut _ _ D.TOz a2⟩,a3',a4'⟩,fun c hc=>?_⟩;have hcn:=(hf c hc).1;simp only [cP,rE,or_false] at hc;have ne:c≠s.heap.objs.size:=by
   rcases hc with rfl | rfl | rfl | rfl | rfl
   ·exact nsz.symm
   ·exact nsTI.symm
   ·exact nsTO.symm
   ·exact nsi1.symm
   ·exact nsi2.symm
  rw [af ne]; exact hcn
 done:=by
  intro X hP hw hK hc i J3 s σ H E I hf st hg;subst hP hw hK;obtain ⟨hz,hTI,⟨u0,v0,hTO⟩,h1,h2⟩:=st;obtain ⟨xs,ys,hqx,hqy,hend⟩:=hg;obtain ⟨its,rx,px,zx⟩:=I.tuple hqx;obtain ⟨jts,ry,py,zy⟩:=I.tuple hqy;have lx:=rx.length;have ly:=ry.length;refine wr (I.ok.hd hc) D hz hTI hTO h1 h2 (xs:=its.toArray) (ys:=jts.toArray) px py (by rcases hend with q | q; exact .inl (by simp; omega); exact .inr (by simp; omega)) fun h' hk=>⟨rfl,?_⟩;have tr:∀c q,H c=some q->c∉[z,TI,TO,i1,i2]:=fun c q e m=>by rw [(hf c m).1] at e; cases e
  have kk:∀c o,c∉[z,TI,TO,i1,i2]->s.heap.get? c=some o->h'.get? c=some o:=fun c o hc q=>hk c o (fun q=>hc (by simp [q])) (fun q=>hc (by simp [q])) (fun q=>hc (by simp [q])) (fun q=>hc (by simp [q])) q;refine I.step (g':=s.gens) (d':=s.drawn) (t':=s.toks) (ch:=[z,TI,TO,i1,i2]) (fun c hc=>?_) (fun c o _ _ hc e _=>kk c o hc e) (fun c o _ _ hc e _=>⟨o.slots,kk c o hc e⟩) (fun _ _ _ _ n=>n) (fun c o hc e=>⟨o,kk c o hc e⟩) (fun _ _ e=>e) (fun _ _ _ e=>e) (fun c ps e=>⟨#[],by rw [e]; simp⟩) (fun m hm=>?_) (fun c q e=>?_) I.bare
  ·obtain ⟨f0,f1,f2,f3,f4,f5⟩:=hf c hc;exact ⟨f3,f1,f4,f5⟩
  ·obtain ⟨q,es',ep,ho,r⟩:=hm;exact ⟨q,es',ep,kk _ q (fun z=>(hf _ z).2.1 rfl) ho,r⟩
  ·refine (I.hok c q e).stay (fun d v hd q'=>kk d v ?_ q') (fun _ q=>q) fun _ _ q=>q;rcases hd with z | z
   ·subst z; exact tr _ _ e
   ·exact tr _ _ z
 self:=fun _ _ _ _ _ st h=>vE st.1 h
section
variable {X:Cx}{p pos:Pos}{es:List Expr}{kx:Nat}{J7:Pos}
def Gr (K:Za) (ta:TA):TI:=fun σ H R=>ta σ H fun vs H1=>∃a b,vs=[.ref a,.ref b]/\(((∃xs,aB K H1 a xs)/\(∃ys,aB K H1 b ys)/\R (HC K a b) H1)∨((∃xs,bL K H1 a xs)/\(∃ys,bL K H1 b ys)/\R (HB K a b) H1))
theorem Fy {a b:Expr}{ta:TA}(hg:Gl X "zip") (hm:X.mg "zip"=none) (ha:PA X [a,b] ta) (hs:aI [a,b] X.env=[(false,eval a X.env),(false,eval b X.env)]:=by rfl) (hs2:aI [b] X.env=[(false,eval b X.env)]:=by rfl) :
  PI X (.Tuple es kx J7) (.Call (.Name "zip" p) [a,b] [] pos) (Gr X.K ta):=by
 intro J3 s σ H R I h;refine Call_ (pD I hg hm boot_zip (AN (cf (ha pos J3 s σ H _ I h) fun us s1 ⟨vs,H1,I1,r1,q1⟩=>?_) (by rw [hs,hs2]) (by rw [hs2]; rfl)));obtain ⟨l1,l2,e,q⟩:=q1;subst e;obtain ⟨u,v,rfl,ru,rv⟩:=vals2 r1;cases ru;cases rv;have fin:∀b∈[s1.heap.objs.size+4,s1.heap.objs.size+2,s1.heap.objs.size+3,s1.heap.objs.size,s1.heap.objs.size+1],m9 X J3 H1 b:=fun b hb=>by
  have hb':s1.heap.objs.size<=b:=by
   simp only [cP,rE,or_false] at hb;rcases hb with rfl | rfl | rfl | rfl | rfl <;> omega
  exact I1.fpOk hb' (I1.hok.fresh hb')
 rcases q with ⟨⟨xs,hx⟩,⟨ys,hy⟩,q⟩ | ⟨⟨xs,hx⟩,⟨ys,hy⟩,q⟩
 ·obtain ⟨its,rx,px,zx⟩:=I1.list hx;obtain ⟨jts,ry,py,zy⟩:=I1.list hy;obtain ⟨o1,n1,e1,_⟩:=id px;obtain ⟨o2,n2,e2,_⟩:=id py;refine call_zip_2 px.isList py.isList fun h' a1 a2 a3 a4 a5 a6 hk=>?_;refine vE (s:={ s1 with heap:=h' }) a1 ?_;have hk':∀b o,s1.heap.get? b=some o->h'.get? b=some o:=hk;have I2:Inv X J3 σ H1 { s1 with heap:=h' }:=I1.kept (t':=s1.toks) hk';exact ⟨_,_,_,_,H1,rfl,I2,Di l1 l2 _ _ _ _ _ (zipApart_new (aT e1) (aT e2)),⟨a1,a2,⟨_,_,a3⟩,a4,a5⟩,fin,q⟩
 ·obtain ⟨its,rx,px,zx⟩:=I1.tuple hx;obtain ⟨jts,ry,py,zy⟩:=I1.tuple hy;obtain ⟨o1,e1,_⟩:=id px;obtain ⟨o2,e2,_⟩:=id py;refine CQ (xs:=its.toArray) (ys:=jts.toArray) px py fun h' a1 a2 a3 a4 a5 hk=>?_;refine vE (s:={ s1 with heap:=h' }) a1 ?_;have hk':∀b o,s1.heap.get? b=some o->h'.get? b=some o:=hk;have I2:Inv X J3 σ H1 { s1 with heap:=h' }:=I1.kept (t':=s1.toks) hk';exact ⟨_,_,_,_,H1,rfl,I2,BP l1 l2 _ _ _ _ _ (zipApart_new (aT e1) (aT e2)),⟨a1,a2,⟨_,_,a3⟩,a4,a5⟩,fin,q⟩
end
inductive DT where
 | k (a:dX)
 | t (l:List DT)
 | s (l:List DT)
mutual
def Gx:(x y:DT)->Decidable (x=y)
 | .k a,.k b=>if h:a=b then Decidable.isTrue (by rw [h]) else Decidable.isFalse fun e=>h (by injection e)
 | .t l,.t m=>match decDTs l m with
  | Decidable.isTrue h=>Decidable.isTrue (by rw [h])
  | Decidable.isFalse h=>Decidable.isFalse fun e=>h (by injection e)
 | .s l,.s m=>match decDTs l m with
  | Decidable.isTrue h=>Decidable.isTrue (by rw [h])
  | Decidable.isFalse h=>Decidable.isFalse fun e=>h (by injection e)
 | .k _,.t _=>Decidable.isFalse nofun
 | .k _,.s _=>Decidable.isFalse nofun
 | .t _,.k _=>Decidable.isFalse nofun
 | .t _,.s _=>Decidable.isFalse nofun
 | .s _,.k _=>Decidable.isFalse nofun
 | .s _,.t _=>Decidable.isFalse nofun
def decDTs:(x y:List DT)->Decidable (x=y)
 | [],[]=>Decidable.isTrue rfl
 | [],_::_=>Decidable.isFalse nofun
 | _::_,[]=>Decidable.isFalse nofun
 | a::l,b::m=>match Gx a b with
  | Decidable.isTrue h=>match decDTs l m with
   | Decidable.isTrue h'=>Decidable.isTrue (by rw [h,h'])
   | Decidable.isFalse h'=>Decidable.isFalse fun e=>h' (by injection e)
  | Decidable.isFalse h=>Decidable.isFalse fun e=>h (by injection e)
end
instance:DecidableEq DT:=Gx
mutual
def DT.depth:DT->Nat
 | .k _=>0
 | .t l=>DT.depths l+1
 | .s l=>DT.depths l+1
def DT.depths:List DT->Nat
 | []=>0
 | a::r=>max (DT.depth a) (DT.depths r)
end
mutual
def oE (h:Heap):DT->Value->Prop
 | .k a,v=>cu a v=true
 | .t l,v=>∃a items,v=.ref a/\h.IsTuple a items/\DAts h l items.toList
 | .s l,v=>∃a items,v=.ref a/\h.IsList a items/\DAts h l items.toList
def DAts (h:Heap):List DT->List Value->Prop
 | [],vs=>vs=[]
 | k::r,vs=>∃v us,vs=v::us/\oE h k v/\DAts h r us
end
theorem DAts.length {h:Heap}:∀{xs:List DT}{vs:Zf},DAts h xs vs->xs.length=vs.length
 | [],vs,e=>by have e':vs=[]:=e; rw [e']; rfl
 | x::xs,vs,e=>by
  obtain ⟨v,us,rfl,_,h2⟩:=e;simp [DAts.length h2]
theorem DAts.get {h:Heap}:∀{xs:List DT}{vs:Zf}{i:Nat}{v:Value},DAts h xs vs->vs[i]?=some v->∃x,xs[i]?=some x/\oE h x v
 | [],vs,i,v,e,q=>by have e':vs=[]:=e; subst e'; simp at q
 | x::xs,vs,i,v,e,q=>by
  obtain ⟨u,us,rfl,h1,h2⟩:=e;cases i with
  | zero =>
   simp at q; subst q;exact ⟨x,rfl,h1⟩
  | succ i =>
   obtain ⟨y,e1,e2⟩:=DAts.get h2 (i:=i) (v:=v) (by simpa using q);exact ⟨y,by simpa using e1,e2⟩
theorem DT.depths_get {l:List DT}{x:DT}{i d:Nat}(h:DT.depths l<=d) (e:l[i]?=some x):x.depth<=d:=by
 induction l generalizing i with
 | nil=>simp at e
 | cons a r ih =>
  have h':max a.depth (DT.depths r)<=d:=h;cases i with
  | zero=>simp at e; subst e; omega
  | succ i=>exact ih (by omega) (by simpa using e)
theorem Af {h:Heap}{a:Addr}{i j:Array Value}(x:h.IsList a i) (y:h.IsList a j):i=j:=by
 obtain ⟨o,ho,_,n,hd⟩:=x;obtain ⟨o',ho',_,n',hd'⟩:=y;rw [ho] at ho'; cases ho';rw [hd] at hd'; injection hd'
theorem yt {h:Heap}{a:Addr}{i j:Array Value}(x:h.IsTuple a i) (y:h.IsTuple a j):i=j:=by
 obtain ⟨o,ho,_,n,hd⟩:=x;obtain ⟨o',ho',_,n',hd'⟩:=y;rw [ho] at ho'; cases ho';rw [hd] at hd'; injection hd'
theorem jp {h:Heap}{a:Addr}{i j:Array Value}(x:h.IsList a i) (y:h.IsTuple a j):False:=by
 obtain ⟨o,ho,hc,_⟩:=x;obtain ⟨o',ho',hc',_⟩:=y;rw [ho] at ho'; cases ho';rw [hc] at hc'; simp at hc'
theorem uN {a b:dX}{v:Value}(h1:cu a v=true) (h2:cu b v=true):a=b:=by
 rcases ap h1 with ⟨i,t,rfl,rfl⟩ | ⟨i,t,rfl,rfl⟩
 ·rcases ap h2 with ⟨j,u,rfl,e⟩ | ⟨j,u,rfl,e⟩
  ·cases e; rfl
  ·cases e
 ·rcases ap h2 with ⟨j,u,rfl,e⟩ | ⟨j,u,rfl,e⟩
  ·cases e
  ·cases e; rfl
theorem h7 {a:dX}{b:Addr}(h:cu a (.ref b)=true):False:=by
 rcases ap h with ⟨_,_,_,e⟩ | ⟨_,_,_,e⟩ <;> cases e
theorem oE.inj {h:Heap}:∀(d:Nat) {x y:DT}{v:Value},x.depth<=d->oE h x v->oE h y v->x=y:=by
 have key:∀(d:Nat) (ih:∀{x y:DT}{v:Value},x.depth<=d->oE h x v->oE h y v->x=y) (xs ys:List DT) (vs:Zf),DT.depths xs<=d->DAts h xs vs->DAts h ys vs->xs=ys:=by
  intro d ih xs
  induction xs with
  | nil =>
   intro ys vs _ hx hy;have hx':vs=[]:=hx;subst hx';cases ys with
   | nil=>rfl
   | cons y ys=>obtain ⟨_,_,e,_⟩:=hy; cases e
  | cons x xs ihl =>
   intro ys vs hd hx hy;obtain ⟨v,us,rfl,hx1,hx2⟩:=hx;cases ys with
   | nil=>have hy':v::us=[]:=hy; cases hy'
   | cons y ys =>
    obtain ⟨v',us',e,hy1,hy2⟩:=hy;cases e;have hd':max x.depth (DT.depths xs)<=d:=hd;rw [ih (by omega) hx1 hy1,ihl ys us (by omega) hx2 hy2]
 intro d
 induction d with
 | zero =>
  intro x y v hd hx hy;cases x with
  | t l=>exact absurd hd (by show ¬(DT.depths l+1<=0); omega)
  | s l=>exact absurd hd (by show ¬(DT.depths l+1<=0); omega)
  | k a =>
   cases y with
   | k b=>rw [uN hx hy]
   | t l=>obtain ⟨b,_,rfl,_⟩:=hy; exact (h7 hx).elim
   | s l=>obtain ⟨b,_,rfl,_⟩:=hy; exact (h7 hx).elim
 | succ d ih =>
  intro x y v hd hx hy;cases x with
  | k a =>
   cases y with
   | k b=>rw [uN hx hy]
   | t l=>obtain ⟨b,_,rfl,_⟩:=hy; exact (h7 hx).elim
   | s l=>obtain ⟨b,_,rfl,_⟩:=hy; exact (h7 hx).elim
  | t l =>
   obtain ⟨a,i,rfl,hi,hx⟩:=hx;cases y with
   | k b=>exact (h7 hy).elim
   | t m =>
    obtain ⟨a',j,e,hj,hy⟩:=hy;cases e;rw [yt hj hi] at hy;rw [key d (fun h1=>ih h1) l m i.toList (by have:DT.depths l+1<=d+1:=hd; omega) hx hy]
   | s m =>
    obtain ⟨a',j,e,hj,hy⟩:=hy;cases e;exact (jp hj hi).elim
  | s l =>
   obtain ⟨a,i,rfl,hi,hx⟩:=hx;cases y with
   | k b=>exact (h7 hy).elim
   | s m =>
    obtain ⟨a',j,e,hj,hy⟩:=hy;cases e;rw [Af hj hi] at hy;rw [key d (fun h1=>ih h1) l m i.toList (by have:DT.depths l+1<=d+1:=hd; omega) hx hy]
   | t m =>
    obtain ⟨a',j,e,hj,hy⟩:=hy;cases e;exact (jp hi hj).elim
theorem fL {l m:List DT}(hl:l.length=m.length):((i8 l.length).all fun j=>decide (l[j]?=m[j]?))=decide (l=m):=by
 by_cases e:l=m
 ·subst e; simp
 ·rw [zzr0 e];rw [List.all_eq_false];apply rC;intro h;apply e;apply List.ext_getElem?;intro i;by_cases hi:i<l.length
  ·apply rC;intro hne;exact h ⟨i,List.mem_range.mpr hi,by simpa using hne⟩
  ·rw [eW (by omega),eW (by omega)]
section
variable {s:Shared}
theorem Gs:∀(d:Nat) {A:Around}{x y:DT}{u v:Value},x.depth<=d->y.depth<=d->A.units+d<cLine->oE s.heap x u->oE s.heap y v->bA A s u v (decide (x=y)):=by
 have leaves:∀{A:Around}{a b:dX}{u v:Value},cu a u=true->cu b v=true->bA A s u v (decide (DT.k a=DT.k b)):=by
  intro A a b u v h1 h2;have hd:decide (DT.k a=DT.k b)=decide (a=b):=by
   by_cases e:a=b
   ·subst e; simp
   ·have:¬(DT.k a=DT.k b):=fun z=>e (by injection z);rw [zzr0 this,zzr0 e]
  rw [hd];rcases ap h1 with ⟨i,t,rfl,rfl⟩ | ⟨i,t,rfl,rfl⟩
  ·rcases ap h2 with ⟨j,u,rfl,rfl⟩ | ⟨j,u,rfl,rfl⟩
   ·rw [wC]; exact bA.int_int i t j u
   ·rw [wB]; exact bA.int_str i t j u
  ·rcases ap h2 with ⟨j,u,rfl,rfl⟩ | ⟨j,u,rfl,rfl⟩
   ·rw [wA]; exact bA.str_int i t j u
   ·rw [wz];have:=bA.str_str (A:=A) (s:=s) i t j u;rwa [show (i == j)=decide (i=j) from by by_cases e:i=j <;> simp [e]] at this
 have kt:∀{A:Around}{a:dX}{u:Value}{b:Addr}{items:Array Value},A.units<cLine->cu a u=true->s.heap.IsTuple b items->bA A s u (.ref b) false/\bA A s (.ref b) u false:=by
  intro A a u b items hu h1 ht;rcases ap h1 with ⟨i,t,rfl,rfl⟩ | ⟨i,t,rfl,rfl⟩
  ·exact ⟨bA.int_tuple i t ht hu,bA.tuple_int i t ht hu⟩
  ·exact ⟨bA.str_tuple i t ht hu,bA.tuple_str i t ht hu⟩
 have kl:∀{A:Around}{a:dX}{u:Value}{b:Addr}{items:Array Value},A.units<cLine->cu a u=true->s.heap.IsList b items->bA A s u (.ref b) false/\bA A s (.ref b) u false:=by
  intro A a u b items hu h1 ht;rcases ap h1 with ⟨i,t,rfl,rfl⟩ | ⟨i,t,rfl,rfl⟩
  ·exact ⟨bA.int_list i t ht hu,bA.list_int i t ht hu⟩
  ·exact ⟨bA.str_list i t ht hu,bA.list_str i t ht hu⟩
 intro d
 induction d with
 | zero =>
  intro A x y u v hdx hdy hu hx hy;cases x with
  | t l=>exact absurd hdx (by show ¬(DT.depths l+1<=0); omega)
  | s l=>exact absurd hdx (by show ¬(DT.depths l+1<=0); omega)
  | k a =>
   cases y with
   | t l=>exact absurd hdy (by show ¬(DT.depths l+1<=0); omega)
   | s l=>exact absurd hdy (by show ¬(DT.depths l+1<=0); omega)
   | k b=>exact leaves hx hy
 | succ d ih =>
  intro A x y u v hdx hdy hu hx hy;have items:∀{l m:List DT}{i j:Array Value},DT.depths l<=d->DT.depths m<=d->DAts s.heap l i.toList->DAts s.heap m j.toList->∀n (h1:n<i.size) (h2:n<j.size),bA A.in1 s i[n] j[n] (decide (l[n]?=m[n]?)):=by
   intro l m i j hl hm hi hj n h1 h2;obtain ⟨x,ex,hx⟩:=hi.get (i:=n) (v:=i[n]) (by simp [h1]);obtain ⟨y,ey,hy⟩:=hj.get (i:=n) (v:=j[n]) (by simp [h2]);rw [ex,ey];have hd:decide ((some x:Option DT)=some y)=decide (x=y):=by
    by_cases e:x=y
    ·subst e; simp
    ·rw [zzr0 e,zzr0 fun z=>e (eI z)]
   rw [hd];exact ih (DT.depths_get hl ex) (DT.depths_get hm ey) (by show A.units+1+d<cLine; omega) hx hy
  cases x with
  | k a =>
   cases y with
   | k b=>exact leaves hx hy
   | t l =>
    obtain ⟨b,i,rfl,hi,_⟩:=hy;rw [zzr0 (by intro z; cases z)];exact (kt (by omega) hx hi).1
   | s l =>
    obtain ⟨b,i,rfl,hi,_⟩:=hy;rw [zzr0 (by intro z; cases z)];exact (kl (by omega) hx hi).1
  | t l =>
   have hl:DT.depths l<=d:=by have:DT.depths l+1<=d+1:=hdx; omega
   have hx0:=hx;obtain ⟨a,i,rfl,hi,hx⟩:=hx;cases y with
   | k b =>
    rw [zzr0 (by intro z; cases z)];exact (kt (by omega) hy hi).2
   | s m =>
    obtain ⟨b,j,rfl,hj,_⟩:=hy;rw [zzr0 (by intro z; cases z)];exact bA.tuple_list hi hj (by omega)
   | t m =>
    have hm:DT.depths m<=d:=by have:DT.depths m+1<=d+1:=hdy; omega
    have hy0:=hy;obtain ⟨b,j,rfl,hj,hy⟩:=hy;by_cases hab:a=b
    ·subst hab;have e:DT.t l=DT.t m:=oE.inj _ (aD _) hx0 hy0;rw [zzr1 e];exact bA.same _
    ·have r:=SeqAt.RcAt.tuples (A:=A) hi hj (by omega) (items hl hm hx hy);have li:=hx.length;have lj:=hy.length;simp only [lY] at li lj;have q:((i8 (min i.size j.size)).all (fun n=>decide (l[n]?=m[n]?)) && i.size == j.size)=decide (DT.t l=DT.t m):=by
      by_cases e:l.length=m.length
      ·have e1:i.size=j.size:=by omega
       rw [<-e1,Nat.min_self,<-li,fL e];by_cases e2:l=m
       ·subst e2; simp
       ·have:¬(DT.t l=DT.t m):=fun z=>e2 (by injection z);rw [zzr0 this,zzr0 e2]; rfl
      ·have e1:(i.size == j.size)=false:=by simp; omega
       have:¬(DT.t l=DT.t m):=fun z=>e (by injection z with z; rw [z]);rw [e1,zzr0 this,vJ]
     rw [q] at r;exact .of_refs hab r
  | s l =>
   have hl:DT.depths l<=d:=by have:DT.depths l+1<=d+1:=hdx; omega
   have hx0:=hx;obtain ⟨a,i,rfl,hi,hx⟩:=hx;cases y with
   | k b =>
    rw [zzr0 (by intro z; cases z)];exact (kl (by omega) hy hi).2
   | t m =>
    obtain ⟨b,j,rfl,hj,_⟩:=hy;rw [zzr0 (by intro z; cases z)];exact bA.list_tuple hi hj (by omega)
   | s m =>
    have hm:DT.depths m<=d:=by have:DT.depths m+1<=d+1:=hdy; omega
    have hy0:=hy;obtain ⟨b,j,rfl,hj,hy⟩:=hy;by_cases hab:a=b
    ·subst hab;have e:DT.s l=DT.s m:=oE.inj _ (aD _) hx0 hy0;rw [zzr1 e];exact bA.same _
    ·have li:=hx.length;have lj:=hy.length;simp only [lY] at li lj;by_cases e:l.length=m.length
     ·have r:=SeqAt.RcAt.lists (A:=A) hi hj (by omega) (by omega) (items hl hm hx hy);rw [<-li,fL e] at r;have q:decide (l=m)=decide (DT.s l=DT.s m):=by
       by_cases e2:l=m
       ·subst e2; simp
       ·have:¬(DT.s l=DT.s m):=fun z=>e2 (by injection z);rw [zzr0 this,zzr0 e2]
      rw [q] at r;exact .of_refs hab r
     ·have:¬(DT.s l=DT.s m):=fun z=>e (by injection z with z; rw [z]);rw [zzr0 this];exact .of_refs hab (SeqAt.RcAt.lists_lengths hi hj (by simp; omega) (by omega))
end
theorem BA (a b:dX):decide (DT.k a=DT.k b)=decide (a=b):=by
 by_cases e:a=b
 ·subst e; simp
 ·rw [zzr0 e,zzr0 fun z=>e (by injection z)]
theorem Gu (l m:List DT):decide (DT.t l=DT.t m)=decide (l=m):=by
 by_cases e:l=m
 ·subst e; simp
 ·rw [zzr0 e,zzr0 fun z=>e (by injection z)]
theorem Gv (l m:List DT):decide (DT.s l=DT.s m)=decide (l=m):=by
 by_cases e:l=m
 ·subst e; simp
 ·rw [zzr0 e,zzr0 fun z=>e (by injection z)]
theorem Ev (x y:DT):decide ((some x:Option DT)=some y)=decide (x=y):=by
 by_cases e:x=y
 ·subst e; simp
 ·rw [zzr0 e,zzr0 fun z=>e (eI z)]
section
variable {A:Around}{s:Shared}
theorem on {d:Nat}(hu:A.units+1+d<cLine) {l m:List DT}{i j:Array Value}(hl:DT.depths l<=d) (hm:DT.depths m<=d) (hi:DAts s.heap l i.toList) (hj:DAts s.heap m j.toList) :
  ∀n (h1:n<i.size) (h2:n<j.size),bA A.in1 s i[n] j[n] (decide (l[n]?=m[n]?)):=by
 intro n h1 h2;obtain ⟨x,ex,hx⟩:=hi.get (i:=n) (v:=i[n]) (by simp [h1]);obtain ⟨y,ey,hy⟩:=hj.get (i:=n) (v:=j[n]) (by simp [h2]);rw [ex,ey,Ev];exact Gs d (DT.depths_get hl ex) (DT.depths_get hm ey) hu hx hy
theorem AV {l m:List DT}{i j:Array Value}(hi:DAts s.heap l i.toList) (hj:DAts s.heap m j.toList):((i8 (min i.size j.size)).all (fun n=>decide (l[n]?=m[n]?)) && i.size == j.size)=decide (l=m):=by
 have li:=hi.length;have lj:=hj.length;simp only [lY] at li lj;by_cases e:l.length=m.length
 ·have e1:i.size=j.size:=by omega
  rw [<-e1,Nat.min_self,<-li,fL e];simp
 ·have e1:(i.size == j.size)=false:=by simp; omega
  rw [e1,zzr0 fun z=>e (by rw [z]),vJ]
theorem Hu {x y:DT}{u v:Value}(dx:x.depth<=8) (dy:y.depth<=8) (hu:A.units+16<cLine) (hx:oE s.heap x u) (hy:oE s.heap y v):SeqAt.RcAt A s u v (decide (x=y)):=by
 cases x with
 | k a =>
  rcases ap (show cu a u=true from hx) with ⟨i,t,rfl,rfl⟩ | ⟨i,t,rfl,rfl⟩
  ·cases y with
   | k b =>
    rw [BA];rcases ap (show cu b v=true from hy) with ⟨j,t',rfl,rfl⟩ | ⟨j,t',rfl,rfl⟩
    ·rw [wC]; exact SeqAt.RcAt.int_int i t j t'
    ·rw [wB]; exact SeqAt.RcAt.int_str i t j t'
   | t m=>obtain ⟨b,j,rfl,hj,_⟩:=hy; rw [zzr0 (by intro z; cases z)]; exact SeqAt.RcAt.int_tuple i t hj (by omega)
   | s m=>obtain ⟨b,j,rfl,hj,_⟩:=hy; rw [zzr0 (by intro z; cases z)]; exact SeqAt.RcAt.int_list i t hj (by omega)
  ·cases y with
   | k b =>
    rw [BA];rcases ap (show cu b v=true from hy) with ⟨j,t',rfl,rfl⟩ | ⟨j,t',rfl,rfl⟩
    ·rw [wA]; exact SeqAt.RcAt.str_int i t j t'
    ·rw [wz];have:=SeqAt.RcAt.str_str (A:=A) (s:=s) i t j t';rwa [show (i == j)=decide (i=j) from by by_cases e:i=j <;> simp [e]] at this
   | t m=>obtain ⟨b,j,rfl,hj,_⟩:=hy; rw [zzr0 (by intro z; cases z)]; exact SeqAt.RcAt.str_tuple i t hj (by omega)
   | s m=>obtain ⟨b,j,rfl,hj,_⟩:=hy; rw [zzr0 (by intro z; cases z)]; exact SeqAt.RcAt.str_list i t hj (by omega)
 | t l =>
  obtain ⟨a,i,rfl,hi,hx⟩:=hx;have dl:DT.depths l<=7:=by have:DT.depths l+1<=8:=dx; omega
  cases y with
  | k b =>
   rw [zzr0 (by intro z; cases z)];rcases ap (show cu b v=true from hy) with ⟨j,t',rfl,rfl⟩ | ⟨j,t',rfl,rfl⟩
   ·exact SeqAt.RcAt.tuple_int j t' hi (by omega)
   ·exact SeqAt.RcAt.tuple_str j t' hi (by omega)
  | t m =>
   obtain ⟨b,j,rfl,hj,hy⟩:=hy;have dm:DT.depths m<=7:=by have:DT.depths m+1<=8:=dy; omega
   have r:=SeqAt.RcAt.tuples (A:=A) hi hj (by omega) (on (by omega) dl dm hx hy);rw [AV hx hy] at r;rw [Gu]; exact r
  | s m=>obtain ⟨b,j,rfl,hj,_⟩:=hy; rw [zzr0 (by intro z; cases z)]; exact SeqAt.RcAt.tuple_list hi hj (by omega)
 | s l =>
  obtain ⟨a,i,rfl,hi,hx⟩:=hx;have dl:DT.depths l<=7:=by have:DT.depths l+1<=8:=dx; omega
  cases y with
  | k b =>
   rw [zzr0 (by intro z; cases z)];rcases ap (show cu b v=true from hy) with ⟨j,t',rfl,rfl⟩ | ⟨j,t',rfl,rfl⟩
   ·exact SeqAt.RcAt.list_int j t' hi (by omega)
   ·exact SeqAt.RcAt.list_str j t' hi (by omega)
  | t m=>obtain ⟨b,j,rfl,hj,_⟩:=hy; rw [zzr0 (by intro z; cases z)]; exact SeqAt.RcAt.list_tuple hi hj (by omega)
  | s m =>
   obtain ⟨b,j,rfl,hj,hy⟩:=hy;have dm:DT.depths m<=7:=by have:DT.depths m+1<=8:=dy; omega
   have li:=hx.length;have lj:=hy.length;simp only [lY] at li lj;rw [Gv];by_cases e:l.length=m.length
   ·have r:=SeqAt.RcAt.lists (A:=A) hi hj (by omega) (by omega) (on (by omega) dl dm hx hy);rw [<-li,fL e] at r;exact r
   ·rw [zzr0 fun z=>e (by rw [z])];exact SeqAt.RcAt.lists_lengths hi hj (by simp; omega) (by omega)
theorem Hv {x y:DT}{u v:Value}(dx:x.depth<=8) (dy:y.depth<=8) (hu:A.units+16<cLine) (hx:oE s.heap x u) (hy:oE s.heap y v):SeqAt.RcNeAt A s u v (!decide (x=y)):=by
 cases x with
 | k a =>
  rcases ap (show cu a u=true from hx) with ⟨i,t,rfl,rfl⟩ | ⟨i,t,rfl,rfl⟩
  ·cases y with
   | k b =>
    rw [BA];rcases ap (show cu b v=true from hy) with ⟨j,t',rfl,rfl⟩ | ⟨j,t',rfl,rfl⟩
    ·rw [wC]; exact SeqAt.RcNeAt.int_int i t j t'
    ·rw [wB]; exact SeqAt.RcNeAt.int_str i t j t'
   | t m=>obtain ⟨b,j,rfl,hj,_⟩:=hy; rw [zzr0 (by intro z; cases z)]; exact SeqAt.RcNeAt.int_tuple i t hj (by omega)
   | s m=>obtain ⟨b,j,rfl,hj,_⟩:=hy; rw [zzr0 (by intro z; cases z)]; exact SeqAt.RcNeAt.int_list i t hj (by omega)
  ·cases y with
   | k b =>
    rw [BA];rcases ap (show cu b v=true from hy) with ⟨j,t',rfl,rfl⟩ | ⟨j,t',rfl,rfl⟩
    ·rw [wA]; exact SeqAt.RcNeAt.str_int i t j t'
    ·rw [wz];have:=SeqAt.RcNeAt.str_str (A:=A) (s:=s) i t j t';rwa [show (i == j)=decide (i=j) from by by_cases e:i=j <;> simp [e]] at this
   | t m=>obtain ⟨b,j,rfl,hj,_⟩:=hy; rw [zzr0 (by intro z; cases z)]; exact SeqAt.RcNeAt.str_tuple i t hj (by omega)
   | s m=>obtain ⟨b,j,rfl,hj,_⟩:=hy; rw [zzr0 (by intro z; cases z)]; exact SeqAt.RcNeAt.str_list i t hj (by omega)
 | t l =>
  obtain ⟨a,i,rfl,hi,hx⟩:=hx;have dl:DT.depths l<=7:=by have:DT.depths l+1<=8:=dx; omega
  cases y with
  | k b =>
   rw [zzr0 (by intro z; cases z)];rcases ap (show cu b v=true from hy) with ⟨j,t',rfl,rfl⟩ | ⟨j,t',rfl,rfl⟩
   ·exact SeqAt.RcNeAt.tuple_int j t' hi (by omega)
   ·exact SeqAt.RcNeAt.tuple_str j t' hi (by omega)
  | t m =>
   obtain ⟨b,j,rfl,hj,hy⟩:=hy;have dm:DT.depths m<=7:=by have:DT.depths m+1<=8:=dy; omega
   have r:=SeqAt.RcNeAt.tuples (A:=A) hi hj (by omega) (on (by omega) dl dm hx hy);rw [AV hx hy] at r;rw [Gu]; exact r
  | s m=>obtain ⟨b,j,rfl,hj,_⟩:=hy; rw [zzr0 (by intro z; cases z)]; exact SeqAt.RcNeAt.tuple_list hi hj (by omega)
 | s l =>
  obtain ⟨a,i,rfl,hi,hx⟩:=hx;have dl:DT.depths l<=7:=by have:DT.depths l+1<=8:=dx; omega
  cases y with
  | k b =>
   rw [zzr0 (by intro z; cases z)];rcases ap (show cu b v=true from hy) with ⟨j,t',rfl,rfl⟩ | ⟨j,t',rfl,rfl⟩
   ·exact SeqAt.RcNeAt.list_int j t' hi (by omega)
   ·exact SeqAt.RcNeAt.list_str j t' hi (by omega)
  | t m=>obtain ⟨b,j,rfl,hj,_⟩:=hy; rw [zzr0 (by intro z; cases z)]; exact SeqAt.RcNeAt.list_tuple hi hj (by omega)
  | s m =>
   obtain ⟨b,j,rfl,hj,hy⟩:=hy;have dm:DT.depths m<=7:=by have:DT.depths m+1<=8:=dy; omega
   have li:=hx.length;have lj:=hy.length;simp only [lY] at li lj;rw [Gv];by_cases e:l.length=m.length
   ·have r:=SeqAt.RcNeAt.lists (A:=A) hi hj (by omega) (by omega) (on (by omega) dl dm hx hy);rw [<-li,fL e] at r;exact r
   ·rw [zzr0 fun z=>e (by rw [z])];exact SeqAt.RcNeAt.lists_lengths hi hj (by simp; omega) (by omega)
end
mutual
def ka (K:Za) (H:Hp):DT->V->Prop
 | .k a,v=>v=kV a
 | .t l,v=>∃b xs,v=.ref b/\bL K H b xs/\DIns K H l xs
 | .s l,v=>∃b xs,v=.ref b/\aB K H b xs/\DIns K H l xs
def DIns (K:Za) (H:Hp):List DT->List V->Prop
 | [],vs=>vs=[]
 | k::r,vs=>∃v us,vs=v::us/\ka K H k v/\DIns K H r us
end
section
variable {X:Cx}{J3:Zd}{σ:St}{H:Hp}{s:Shared}
theorem kU (I:Inv X J3 σ H s):∀(d:Nat) {k:DT}{v:V}{u:Value},k.depth<=d->ka X.K H k v->RelV v u->oE s.heap k u:=by
 have key:∀(d:Nat) (ih:∀{k:DT}{v:V}{u:Value},k.depth<=d->ka X.K H k v->RelV v u->oE s.heap k u) (ks:List DT) (vs:List V) (us:Zf),DT.depths ks<=d->DIns X.K H ks vs->aV vs us->DAts s.heap ks us:=by
  intro d ih ks
  induction ks with
  | nil =>
   intro vs us _ hx r;have e:vs=[]:=hx;subst e;cases r
   rfl
  | cons k ks ihl =>
   intro vs us hd hx r;obtain ⟨v,vs',rfl,h1,h2⟩:=hx;cases r with
   | @cons _ u _ us' r1 r2 =>
    have hd':max k.depth (DT.depths ks)<=d:=hd;exact ⟨u,us',rfl,ih (by omega) h1 r1,ihl vs' us' (by omega) h2 r2⟩
 intro d
 induction d with
 | zero =>
  intro k v u hd hx r;cases k with
  | t l=>exact absurd hd (by show ¬(DT.depths l+1<=0); omega)
  | s l=>exact absurd hd (by show ¬(DT.depths l+1<=0); omega)
  | k b =>
   have e:v=kV b:=hx;subst e;exact jo (P:=X.prog) (w:=X.w) r
 | succ d ih =>
  intro k v u hd hx r;cases k with
  | k b =>
   have e:v=kV b:=hx;subst e;exact jo (P:=X.prog) (w:=X.w) r
  | t l =>
   obtain ⟨b,xs,rfl,hb,hi⟩:=hx;cases (show u=Value.ref b from r);obtain ⟨its,rv,ht,_⟩:=I.tuple hb;exact ⟨b,its.toArray,rfl,ht,by simpa using key d (fun h1=>ih h1) l xs its (by have:DT.depths l+1<=d+1:=hd; omega) hi rv⟩
  | s l =>
   obtain ⟨b,xs,rfl,hb,hi⟩:=hx;cases (show u=Value.ref b from r);obtain ⟨its,rv,ht,_⟩:=I.list hb;exact ⟨b,its.toArray,rfl,ht.isList,by simpa using key d (fun h1=>ih h1) l xs its (by have:DT.depths l+1<=d+1:=hd; omega) hi rv⟩
theorem lG (I:Inv X J3 σ H s):∀{ks:List DT}{vs:List V}{us:Zf},DT.depths ks<=8->DIns X.K H ks vs->aV vs us->DAts s.heap ks us
 | [],vs,us,_,hx,r=>by
  have e:vs=[]:=hx;subst e;cases r
  rfl
 | k::ks,vs,us,hd,hx,r=>by
  obtain ⟨v,vs',rfl,h1,h2⟩:=hx;cases r with
  | @cons _ u _ us' r1 r2 =>
   have hd':max k.depth (DT.depths ks)<=8:=hd;exact ⟨u,us',rfl,kU I 8 (by omega) h1 r1,lG I (by omega) h2 r2⟩
end
def tW (K:Za):R2:=fun x y H Q=>∃d e:DT,ka K H d x/\ka K H e y/\d.depth<=8/\e.depth<=8/\Q (.bl (decide (d=e))) H
def wk (K:Za):R2:=fun x y H Q=>∃d e:DT,ka K H d x/\ka K H e y/\d.depth<=8/\e.depth<=8/\Q (.bl (!decide (d=e))) H
section
variable {X:Cx}
theorem mN (hu:X.A.units+16<cLine):nv X (dY .Eq) (tW X.K):=by
 intro J3 s σ H x y v u Q I rx ry h;obtain ⟨d,e,hx,hy,dx,dy,q⟩:=h;exact Hu dx dy hu (kU I 8 dx hx rx) (kU I 8 dy hy ry) X.prog X.w X.xe _ ⟨.bl _,H,I,rfl,q⟩
theorem pj (hu:X.A.units+16<cLine):nv X (dY .NotEq) (wk X.K):=by
 intro J3 s σ H x y v u Q I rx ry h;obtain ⟨d,e,hx,hy,dx,dy,q⟩:=h;exact Hv dx dy hu (kU I 8 dx hx rx) (kU I 8 dy hy ry) X.prog X.w X.xe _ ⟨.bl _,H,I,rfl,q⟩
def wm (K:Za) (neg:Bool):R2:=fun x y H Q=>∃(d:DT) (ds:List DT) (p:Addr) (xs:List V),ka K H d x/\y=.ref p/\(aB K H p xs∨bL K H p xs)/\DIns K H ds xs/\d.depth<=8/\DT.depths ds<=8/\Q (.bl (if neg then !decide (d∈ds) else decide (d∈ds))) H
open Classical in
theorem ox {h:Heap}{d:DT}(d8:d.depth<=8):∀{ds:List DT}{us:Zf},DAts h ds us->DT.depths ds<=8->us.any (fun u=>@decide (oE h d u) (propDecidable _))=decide (d∈ds)
 | [],us,e,_=>by
  have e':us=[]:=e;subst e'
  rfl
 | x::ds,us,e,hd=>by
  obtain ⟨u,us',rfl,h1,h2⟩:=e;have hd':max x.depth (DT.depths ds)<=8:=hd;rw [mw,ox d8 h2 (by omega)];by_cases q:d=x
  ·subst q;simp [h1]
  ·have n:¬oE h d u:=fun z=>q (oE.inj 8 d8 z h1);simp [n,q]
open Classical in
theorem pq {A:Around}{s:Shared}{d:DT}{v:Value}(d8:d.depth<=8) (hu:A.units+8<cLine) (hd:oE s.heap d v):∀{ds:List DT}{us:Zf},DAts s.heap ds us->DT.depths ds<=8->∀u∈us,bA A s u v (@decide (oE s.heap d u) (propDecidable _))
 | [],us,e,_,u,hm=>by
  have e':us=[]:=e;subst e';cases hm
 | x::ds,us,e,h8,u,hm=>by
  obtain ⟨u',us',rfl,h1,h2⟩:=e;have h8':max x.depth (DT.depths ds)<=8:=h8;rcases cP.mp hm with rfl | hm
  ·have q:=Gs 8 (A:=A) (by omega) d8 hu h1 hd;by_cases z:x=d
   ·subst z;rw [zzr1 h1];rwa [zzr1 rfl] at q
   ·have n:¬oE s.heap d u:=fun w=>z (oE.inj 8 d8 w h1).symm;rw [zzr0 n];rwa [zzr0 z] at q
  ·exact pq d8 hu hd h2 (by omega) u hm
theorem GS (hu:X.A.units+16<cLine):nv X (dY .In) (wm X.K false):=by
 intro J3 s σ H x y v u Q I rx ry h;obtain ⟨d,ds,p,xs,hx,rfl,hq,hds,d8,ds8,q⟩:=h;cases ry;have hd:=kU I 8 d8 hx rx;have hu':X.A.in1.units+8<cLine:=by show X.A.units+1+8<cLine; omega
 rcases hq with hq | hq
 ·obtain ⟨its,r,pl,hz⟩:=I.list hq;have hi:=lG I ds8 hds r;refine SeqAt.in_listAt _ pl.isList (fun w hw=>pq d8 hu' hd hi ds8 w (by simpa using hw)) ⟨.bl _,H,I,rfl,?_⟩;rw [vx,ox d8 hi ds8];exact q
 ·obtain ⟨its,r,pl,hz⟩:=I.tuple hq;have hi:=lG I ds8 hds r;refine SeqAt.in_tupleAt _ pl (fun w hw=>pq d8 hu' hd hi ds8 w (by simpa using hw)) ⟨.bl _,H,I,rfl,?_⟩;rw [vx,ox d8 hi ds8];exact q
theorem lA (hu:X.A.units+16<cLine):nv X (dY .NotIn) (wm X.K true):=by
 intro J3 s σ H x y v u Q I rx ry h;obtain ⟨d,ds,p,xs,hx,rfl,hq,hds,d8,ds8,q⟩:=h;cases ry;have hd:=kU I 8 d8 hx rx;have hu':X.A.in1.units+8<cLine:=by show X.A.units+1+8<cLine; omega
 rcases hq with hq | hq
 ·obtain ⟨its,r,pl,hz⟩:=I.list hq;have hi:=lG I ds8 hds r;refine SeqAt.notIn_listAt _ pl.isList (fun w hw=>pq d8 hu' hd hi ds8 w (by simpa using hw)) ⟨.bl _,H,I,rfl,?_⟩;rw [vx,ox d8 hi ds8];exact q
 ·obtain ⟨its,r,pl,hz⟩:=I.tuple hq;have hi:=lG I ds8 hds r;refine SeqAt.notIn_tupleAt _ pl (fun w hw=>pq d8 hu' hd hi ds8 w (by simpa using hw)) ⟨.bl _,H,I,rfl,?_⟩;rw [vx,ox d8 hi ds8];exact q
end
def sQ (z:Str) (lo hi:Option Int):Str:=⟨((z.cps.toList.drop (HT.sIx z.length 0 lo)).take (HT.sIx z.length z.length hi-HT.sIx z.length 0 lo)).toArray⟩
theorem sliceRange_one (a b:Nat):sliceRange (a:Int) (b:Int) 1=(i8 (b-a)).map (fun k=>a+k):=by
 unfold sliceRange;simp only [show (1:Int) > 0 from by decide,if_true];by_cases h:(a:Int)<(b:Int)
 ·have e:(if (a:Int)<(b:Int) then ((b:Int)-a+1-1) / 1 else 0).toNat=b-a:=by rw [if_pos h]; omega
  rw [e];exact List.map_congr_left fun k _=>by omega
 ·have e:(if (a:Int)<(b:Int) then ((b:Int)-a+1-1) / 1 else 0).toNat=b-a:=by rw [if_neg h]; omega
  rw [e];exact List.map_congr_left fun k _=>by omega
theorem yJ (v:Option Int) (n d:Nat):(match v with | none=>(d:Int) | some i=>max 0 (min (if i<0 then i+(n:Int) else i) (n:Int)))=((HT.sIx n d v:Nat):Int):=by
 cases v with
 | none=>rfl
 | some i =>
  rw [<-HT.clip_eq i n d];dsimp only;by_cases h:i<0
  ·rw [if_pos h,if_pos h]; omega
  ·rw [if_neg h,if_neg h]; omega
theorem nP (lo hi:Option Int) (n:Nat):rB lo hi 1 n=(i8 (HT.sIx n n hi-HT.sIx n 0 lo)).map (fun k=>HT.sIx n 0 lo+k):=by
 have e1:=yJ lo n 0;have e2:=yJ hi n n;rw [<-sliceRange_one,<-e1,<-e2];unfold rB;simp only [show (1:Int) > 0 from by decide,if_true];cases lo <;> cases hi <;> rfl
theorem B1 (z:Str) (lo hi:Option Int):Txt.slice z lo hi=sQ z lo hi:=by
 have ha:HT.sIx z.length 0 lo<=z.length:=HT.sIx_le _ _ (c8 _) _;have hb:HT.sIx z.length z.length hi<=z.length:=HT.sIx_le _ _ (aD _) _;have hlen:z.cps.toList.length=z.length:=by simp [Str.length]
 have pick:(rB lo hi 1 z.length).filterMap (z.cps[·]?)=(z.cps.toList.drop (HT.sIx z.length 0 lo)).take (HT.sIx z.length z.length hi-HT.sIx z.length 0 lo):=by
  rw [nP];generalize HT.sIx z.length 0 lo=a at *;generalize HT.sIx z.length z.length hi=b at *;have h:=StrLaws.picks z.cps.toList (b-a) a (by omega);simpa using h
 unfold Txt.slice;by_cases h:((1:Int) == 1 && (rB lo hi 1 z.length).length == z.length)=true
 ·rw [if_pos h];have hl:(rB lo hi 1 z.length).length=z.length:=by simpa using h
  rw [nP,ai,rA] at hl;unfold sQ;have a0:HT.sIx z.length 0 lo=0:=by omega
  have bn:HT.sIx z.length z.length hi-HT.sIx z.length 0 lo=z.cps.toList.length:=by omega
  rw [bn,a0,jx,bm]
 ·rw [if_neg h];unfold sQ;rw [pick]
section
variable {X:Cx}
def Fv:V->Option Int->Option Int->Hp->VK->Prop:=fun x lo hi H Q=>∃z,x=.str z/\z.length<=aj/\Q (.str (sQ z lo hi)) H
theorem zD:SlR X Fv:=by
 intro J3 s σ H x v vl vu lo hi sl Q I rx hs pl pu h;obtain ⟨z,rfl,hz,q⟩:=h;obtain ⟨t,rfl⟩:=rx;rw [<-B1] at q;refine ⟨"str",_,F.slot_str_getitem.lookup,typeIs_str _ _ _,?_⟩;obtain ⟨o,ho,hc,hd⟩:=hs;have fin:∀(l u:Option (Int×Tok)),vl=partValue l->vu=partValue u->lo=l.map (·.1)->hi=u.map (·.1)->wpAny (model X.prog X.w) X.A (mz (.str z t) (.ref sl)) (EP X J3 σ Q) X.xe s:=by
  rintro l u rfl rfl rfl rfl;refine wpAny_getItem_str_slice (l:=l) (u:=u) (st:=none) ⟨o,ho,hc,hd⟩ rfl (post_val_or_str ⟨bP (Txt.slice_le z _ _) hz,fun t' k=>⟨.str _,H,I.tok _,⟨_,rfl⟩,q⟩⟩)
 cases pl with
 | none =>
  cases pu with
  | none=>exact fin none none rfl rfl rfl rfl
  | int j u=>exact fin none (some (j,u)) rfl rfl rfl rfl
 | int i t' =>
  cases pu with
  | none=>exact fin (some (i,t')) none rfl rfl rfl rfl
  | int j u=>exact fin (some (i,t')) (some (j,u)) rfl rfl rfl rfl
def Go (K:Za):V->List V->Hp->VK->Prop:=fun x vs H Q=>∃z p ys,x=.str z/\vs=[.ref p]/\aB K H p (ys.map V.str)/\(ys.map (·.length)).sum+ys.length * z.length<=16777216/\Q (.str (vw z ys)) H
theorem Ff {ys:Zb}:∀{us:Zf},aV (ys.map V.str) us->StrsAre us ys:=by
 induction ys with
 | nil=>intro us r; cases r; exact .nil
 | cons y ys ih =>
  intro us r;cases r with
  | cons r1 r2 =>
   obtain ⟨t,rfl⟩:=r1;exact .cons _ _ (ih r2)
theorem FK:Gz X "str.join" (Go X.K):=by
 intro J3 s σ H x vs v us Q I rx rv h;obtain ⟨z,p,ys,rfl,rfl,hq,hz,q⟩:=h;obtain ⟨t,rfl⟩:=rx;obtain ⟨u,rfl,ru⟩:=rv.one;cases ru;obtain ⟨its,r,pl,_⟩:=I.list hq;exact join_list pl.isList (by simpa using Ff r) hz fun t' k=>⟨.str _,H,I.tok _,⟨_,rfl⟩,q⟩
end
section
variable {X:Cx}
def TyX (K:Za) (H:Hp) (x:V) (t:Value):Prop:=mQ K H x t∨(∃a xs,x=.ref a/\t=.type "tuple"/\bL K H a xs)∨(∃a xs,x=.ref a/\t=.type "list"/\aB K H a xs)
theorem Ae {J3:Zd}{σ:St}{H:Hp}{s:Shared}{A:Around}{E:Zc}{Q:Zc}{c:Value}{b:Bool}{x:V}{u t:Value}(I:Inv X J3 σ H s) (rx:RelV x u) (ty:TyX X.K H x t) (e:AK X.K t c=some b) (h:∀tk,Q (.bool b) { s with toks:=tk }) :
  wpAny (model X.prog X.w) A (call (.builtin "isinstance") [u,c]) Q E s:=by
 rcases ty with ty | ⟨a,xs,rfl,rfl,q⟩ | ⟨a,xs,rfl,rfl,q⟩
 ·exact Cz I rx ty e h
 ·cases (show u=Value.ref a from rx);obtain ⟨its,rv,p,hz⟩:=I.tuple q;obtain ⟨o,h1,h2,_⟩:=p;exact i5 PySem.W.kitx_tuple I.kIn ⟨o,h1,h2⟩ e (fun z=>nomatch z) h
 ·cases (show u=Value.ref a from rx);obtain ⟨its,rv,p,hz⟩:=I.list q;obtain ⟨o,n,h1,h2,_⟩:=p;exact i5 PySem.W.kitx_list I.kIn ⟨o,h1,h2⟩ e (fun z=>nomatch z) h
theorem ED:fN X (.builtin "isinstance") (fun xs H Q=>∃x c t b,xs=[x,.ty c]/\TyX X.K H x t/\AK X.K t (.type c)=some b/\Q (.bl b) H):=by
 intro J3 s σ H xs us Q I r h;obtain ⟨x,c,t,b,rfl,ty,hk,q⟩:=h;obtain ⟨u,v,rfl,ru,rv⟩:=vals2 r;cases (show v=Value.type c from rv);exact Ae I ru ty hk fun tk=>⟨.bl b,H,I.tok _,rfl,q⟩
theorem EF {bs:List Bool}{us:Zf}(r:aV (bs.map V.bl) us) {i:Nat}{v:Value}(h:us[i]?=some v):v=.bool ((bs[i]?).getD false)/\i<bs.length:=by
 have hi:i<us.length:=(bE.mp h).1;have hl:=r.length;rw [ai] at hl;have hb:i<bs.length:=by omega
 obtain ⟨u,hu,ru⟩:=r.get (i:=i) (x:=V.bl bs[i]) (by simp [hb]);rw [h] at hu;cases hu;refine ⟨?_,hb⟩;rw [br hb];exact ru
theorem wW (bs:List Bool):((i8 bs.length).all fun i=>(bs[i]?).getD false)=bs.all id:=by
 induction bs with
 | nil=>rfl
 | cons b bs ih =>
  rw [dQ,List.range_succ_eq_map,List.all_cons,List.all_map,List.all_cons,<-ih]
  rfl
theorem wV (bs:List Bool):((i8 bs.length).any fun i=>(bs[i]?).getD false)=bs.any id:=by
 induction bs with
 | nil=>rfl
 | cons b bs ih =>
  rw [dQ,List.range_succ_eq_map,mw,List.any_map,mw,<-ih]
  rfl
theorem qj (hc:X.calm=true):fN X (.builtin "all") (fun xs H Q=>∃(p:Addr) (bs:List Bool),xs=[.ref p]/\aB X.K H p (bs.map V.bl)/\Q (.bl (bs.all id)) H):=by
 intro J3 s σ H xs us Q I r h;obtain ⟨p,bs,rfl,hq,q⟩:=h;obtain ⟨u,rfl,ru⟩:=vals1 r;cases ru;obtain ⟨its,rv,pl,hz⟩:=I.list hq;obtain ⟨o,n,ho,_⟩:=id pl;have hl:=rv.length;rw [ai] at hl;refine call_all_walk (xj pl.isList ?_);refine ⟨s.heap.objs.size,_,_,_,_,_,fun i=>(bs[i]?).getD false,rfl,Walks.list (prog:=X.prog) (w:=X.w) (A:=X.A.in1) (I.ok.hd hc) s.heap.objs.size p (cQ (aT ho)) its.toArray,⟨⟨_,cr _ rfl,rfl,rfl⟩,pl.isList.push _⟩,?_,?_⟩
 ·intro i v s' Q' E' hv hq';obtain ⟨e,_⟩:=EF rv (i:=i) (v:=v) (by simpa using hv);rw [e];exact p6 hq'
 ·intro h' tk hk;have I':Inv X J3 σ H { s with heap:=h',toks:=tk }:=I.kept fun b o e=>hk b o (by simp; exact cQ (aT e)) (bd _ e);rw [bt,<-hl,wW];exact ⟨.bl _,H,I',rfl,q⟩
theorem yM (hc:X.calm=true):fN X (.builtin "any") (fun xs H Q=>∃(p:Addr) (bs:List Bool),xs=[.ref p]/\aB X.K H p (bs.map V.bl)/\Q (.bl (bs.any id)) H):=by
 intro J3 s σ H xs us Q I r h;obtain ⟨p,bs,rfl,hq,q⟩:=h;obtain ⟨u,rfl,ru⟩:=vals1 r;cases ru;obtain ⟨its,rv,pl,hz⟩:=I.list hq;obtain ⟨o,n,ho,_⟩:=id pl;have hl:=rv.length;rw [ai] at hl;refine call_any_walk (xj pl.isList ?_);refine ⟨s.heap.objs.size,_,_,_,_,_,fun i=>(bs[i]?).getD false,rfl,Walks.list (prog:=X.prog) (w:=X.w) (A:=X.A.in1) (I.ok.hd hc) s.heap.objs.size p (cQ (aT ho)) its.toArray,⟨⟨_,cr _ rfl,rfl,rfl⟩,pl.isList.push _⟩,?_,?_⟩
 ·intro i v s' Q' E' hv hq';obtain ⟨e,_⟩:=EF rv (i:=i) (v:=v) (by simpa using hv);rw [e];exact p6 hq'
 ·intro h' tk hk;have I':Inv X J3 σ H { s with heap:=h',toks:=tk }:=I.kept fun b o e=>hk b o (by simp; exact cQ (aT e)) (bd _ e);rw [bt,<-hl,wV];exact ⟨.bl _,H,I',rfl,q⟩
theorem zW:nv X (dY .In) (fun x y H Q=>∃c j,x=.str ⟨#[c]⟩/\y=.str j/\Q (.bl (decide (c∈j.cps.toList))) H):=by
 intro J3 s σ H x y v u Q I rx ry h;obtain ⟨c,j,rfl,rfl,q⟩:=h;rw [<-StrLaws.found_one] at q;exact Cj J3 s σ H _ _ v u Q I rx ry ⟨_,_,rfl,rfl,q⟩
theorem sU (hc:X.calm=true):fN X (.type "list") (fun xs H Q=>∃(d:Addr) (kvs:List (dX×V)),xs=[.ref d]/\Rd H d (.dK kvs)/\∀l,H l=none->Q (.ref l) (upd H l (.lst (kvs.map fun kv=>kV kv.1)))):=by
 intro J3 s σ H xs us Q I r h;obtain ⟨d,kvs,rfl,hd,q⟩:=h;obtain ⟨u,rfl,ru⟩:=vals1 r;cases ru;obtain ⟨z,hsys,vs,rel,dd⟩:=oo I.hok hd;obtain ⟨ep,hat⟩:=dd.dictAt;have hl:=rel.length;refine PySem.W.kdl_call (PySem.W.kdl_dict (knd:=bM X.prog X.w) (kvs:=vs) (ep:=ep) hsys) (I.ok.hd hc) hat (by rw [<-hl]; exact z) fun h' tk acc c hk hD hacc=>?_;have hv:aV (kvs.map fun kv=>kV kv.1) acc.toList:=by
  obtain ⟨hn,hP⟩:=hacc;have key:∀(a:Zf) (ks:List (dX×V)) (ws:List (dX×Value)),KV ks ws->a.length=ws.length->(∀(j:Nat) (v:Value),a[j]?=some v->∃k x,ws[j]?=some (k,x)/\(bM X.prog X.w).is k v=true)->aV (ks.map fun kv=>kV kv.1) a:=by
   intro a ks ws rl
   induction rl generalizing a with
   | nil=>intro ha _; cases a with
    | nil=>exact .nil
    | cons _ _=>cases ha
   | @cons p w' ps ws' hp _ ih =>
    intro ha hj;cases a with
    | nil=>cases ha
    | cons v a =>
     obtain ⟨k,x,e,hk⟩:=hj 0 v rfl;have e':w'=(k,x):=by simpa using e
     refine .cons ?_ (ih a (by simpa using ha) fun j v hv=>by simpa using hj (j+1) v (by simpa using hv));have ek:p.1=k:=by rw [hp.1,e']
     show RelV (kV p.1) v;rw [ek];rcases ap (show cu k v=true from hk) with ⟨i,t,rfl,rfl⟩ | ⟨i,t,rfl,rfl⟩
     ·exact ⟨t,rfl⟩
     ·exact ⟨t,rfl⟩
  exact key acc.toList kvs vs rel (by rw [lY]; exact hn) fun j v hv=>hP j v (by rw [<-Array.getElem?_toList]; exact hv)
 refine ⟨.ref s.heap.objs.size,_,I.laid (o:=.lst (kvs.map fun kv=>kV kv.1)) hk (aD _) ⟨by rw [ai]; exact z,acc.toList,c,hv,by rw [Array.toArray_toList]; exact hD⟩,rfl,q _ I.fresh⟩
end
section
variable {prog:bF}{w:World}{K:Type} [DecidableEq K] {knd:HeapKind prog w K}{A:Around}{E:Zc}{s:Shared}
theorem rN {d a:Addr}{xs:List (K×Addr×Value)}{k:K}{v:Value}{Q:Zc}(hu:knd.room A) (hkey:knd.is s.heap k a) (hm:s.heap.DictOfH knd d xs)
  (there:∀p,atKey xs k=some p->Q p.2 { s with toks:=s.toks+knd.draws k })
  (new:atKey xs k=none->∀h',h'.DictOfH knd d (xs++[(k,a,v)])->ff d s.heap h'->Q v { s with heap:=h',toks:=s.toks+knd.draws k })
  (hsz:xs.length<=aj):wpAny (model prog w) A (dictSetDefault d (.ref a) v) Q E s:=by
 obtain ⟨o,es,ep,ho,hc,hd,he,his,hn⟩:=hm;unfold dictSetDefault
 try with_reducible refine kr ?_
 refine ak (knd.pyHash hu hkey ?_);refine ak (wpAny_dictFind_heap (s:={ s with toks:=s.toks+knd.draws k }) hu hkey ho hd he his hn ?_ ?_)
 ·intro hno;have hnot:k∉xs.map (·.1):=not_mem_keys_of_get hno;refine ak (xf (ak (wpAny_updateDictKeys (hz:=by have e:=size_of_entries he; omega) (s:={ s with toks:=s.toks+knd.draws k }) ho hd (aG (new (atKey_none_of_get hno) _ ⟨_,_,ep+1,vL _ ho (Obj.isFreed_of_dict (Obj.data_mapDictKeys hd _)),
   hc.mapDictKeys _,Obj.data_mapDictKeys hd _,?_,?_,?_⟩ (ki ..))))))
  ·simp [he,entryOfKey]
  ·intro x hx;rcases aW.mp hx with hx | hx
   ·exact knd.keeps (his x hx) ho hd (ki ..)
   ·simp only [bz] at hx;subst hx;exact knd.keeps hkey ho hd (ki ..)
  ·rw [au,ck];refine ⟨hn,by simp,?_⟩;intro x hx y hy;simp only [aZ,vO,bz] at hy;subst hy;exact fun e=>hnot (e ▸ hx)
 ·intro j p hj;refine ak (mr (s:={ s with toks:=s.toks+knd.draws k }) ho hd ?_);rw [entry_at he j,hj];exact ak (xf (aG (there p (atKey_of_get hn hj))))
theorem n_ (knd:HeapKind prog w K) (d a:Addr) (hd:(d == fT)=false) (dflt:Value) :
  MeetsIn prog w (bV.«dict.setdefault» ⟨[.ref d,.ref a,dflt],[]⟩) (fun A R s=>knd.room A.in1/\∃k xs,knd.is s.heap k a/\s.heap.DictOfH knd d xs/\xs.length<=aj /\
   (∀p,atKey xs k=some p->R (.ok (.ret p.2)) { s with toks:=s.toks+knd.draws k }) /\
   (atKey xs k=none->∀h',h'.DictOfH knd d (xs++[(k,a,dflt)])->ff d s.heap h'->R (.ok (.ret dflt)) { s with heap:=h',toks:=s.toks+knd.draws k })) :=
 .of_wp fun A R s ⟨hu,k,xs,hkey,hm,hz,h1,h2⟩=>by
  unfold bV.«dict.setdefault»;refine ak ?_;unfold bV.Dict.keyAndDefault;refine ak (vv hm.typeIs ?_);show wpAny _ _ (pure (d,Value.ref a,some dflt)) _ _ s;refine aG ?_;show wpAny _ _ (if (d == fT)=true then _ else (dictSetDefault d (.ref a) dflt >>= _)) _ _ s
  rw [if_neg (by rw [hd]; exact fW)];exact ak (rN hu hkey hm (fun p hp=>aG ⟨p.2,rfl,h1 p hp⟩) (fun hn h' hm' hs'=>aG ⟨dflt,rfl,h2 hn h' hm' hs'⟩) hz)
end
section
variable {X:Cx}
def Bb:V->List V->Hp->VK->Prop:=fun x vs H Q=>∃(d b:Addr) (kvs:List (TK×V)) (k:TK) (z:V),x=.ref d/\vs=[.ref b,z]/\H d=some (.dT kvs)/\cV H k (.ref b)/\k.depth<=8/\kvs.length<aj /\
 (∀v,bG kvs k=some v->Q v H)/\(bG kvs k=none->Q z (upd H d (.dT (kvs++[(k,z)]))))
theorem Cn (hu:X.A.units+16<cLine):Gz X "dict.setdefault" Bb:=by
 intro J3 s σ H x vs v us Q I rx rv h;obtain ⟨d,b,kvs,k,z,rfl,rfl,hd,hb,h8,hz,q1,q2⟩:=h;cases rx;obtain ⟨u,v,rfl,ru,rz⟩:=rv.two;cases ru;obtain ⟨_,hsys,xs,rel,dd⟩:=By I.hok I.kIn hd;have hl:kvs.length=xs.length:=Paired.length rel;refine rF PySem.F.slot_dict_setdefault dd.typeIs PySem.F.entry_dict_setdefault (PySem.F.args_dict_setdefault_3 _ _ _) (n_ (dE X.prog X.w) d b hsys v)
  ⟨fg hu,k,xs,sI I.hok I.kIn (cV.c 8 h8 hb) h8,dd,by omega,fun p hp=>?_,fun hn h' dd' hs=>?_⟩
 ·have e:=rel.val k;rw [hp] at e;cases e2:bG kvs k with
  | none=>rw [e2] at e; exact e.elim
  | some y =>
   rw [e2] at e;exact ⟨y,H,I.tok _,e,q1 y e2⟩
 ·have e:=rel.val k;rw [hn] at e;have e2:bG kvs k=none:=by
   cases e2:bG kvs k with
   | none=>rfl
   | some y=>rw [e2] at e; exact e.elim
  obtain ⟨o,es,ep,hq,h2,h3,h4,_,h5⟩:=dd';refine ⟨z,_,oq (ob:=.dT (kvs++[(k,z)])) I (by rw [hd]; exact iD) hs ⟨o,hq⟩ ⟨by rw [ax,oU]; omega,hsys,_,KT.keeps (kvs:=kvs++[(k,z)]) (xs:=xs++[(k,b,v)]) (cK rel ⟨rfl,cV.c 8 h8 hb,h8,rz⟩) fun c ys ec=>?_,o,es,ep,hq,h2,h3,h4,h5⟩,rz,q2 e2⟩;rw [af (Bq ec hd (fun z=>nomatch z))];exact ec
end
theorem kT:entryFor table "dict.update.loop"=some bV.«dict.update.loop»:=entryFor_of_fast (by kernel_rfl)
theorem fI:plainId "dict.update.loop"=true:=by decide +kernel
theorem wq:typeLookup (.type "list") "keys"=pure none:=am_miss_of_fast (by decide +kernel)
section
variable {prog:bF}{w:World}{A:Around}{E:Zc}{s:Shared}
theorem Cq {a:Addr}{o:Obj}{xs:Array Value}{k:Nat}{Q:Option Value->Shared->Prop}(hx:s.heap.get? a=some o) (hc:o.cls=.type "list") (hdat:o.data=.seq xs k) (hd:o.dict=none) (hA:A.handled=none)
  (h:∀h' tk,(∀b ob,s.heap.get? b=some ob->h'.get? b=some ob)->Q none { s with heap:=h',toks:=tk }):wpAny (model prog w) A (getAttr? (.ref a) "keys") Q E s:=by
 obtain ⟨c,dct,dat,sl⟩:=o;simp only at hc hdat hd;subst hc hdat hd;obtain ⟨hp,g,d,tk,os⟩:=s;have hT:∀tk',(⟨hp,g,d,tk',os⟩:Shared).TypeIs (.ref a) "list":=fun _=>⟨_,hx,rfl⟩;have f1:=sub_AttributeError;have f3:=F.slot_list_getattribute.lookup;have f4:=F.slot_list_getattribute.bind (.ref a);have f5:=am_list_getattr_none;unfold getAttr? getAttrBy? getAttrBy
 repeat (any_goals (first | assumption | exact hT _ | ((with_reducible show wpAny _ _ (call (Value.builtin "list.__getattribute__") _ _) _ _ _); refine mx F.slot_list_getattribute (hT _) am_entry_list_getattribute (F.args_list_getattribute_2 _ _) (meets_getattribute_miss_list a xs k sl "keys" _ wq (by decide +kernel) (by decide +kernel)) ⟨hx,hA,fun h' tk' e hx'=>?_⟩) | wp_step))
 obtain ⟨t',u',he⟩:=hx'.there;show wpAny _ _ (getattributeRaised _ _ _ _ _ _ _) _ _ _;unfold getattributeRaised hookOrError attributeErrorLeaves
 repeat (any_goals (first | assumption | wp_step))
 all_goals first | exact h _ _ hx'.keeps | trace_state
def Av (h:Heap) (u:Value) (kv:dX×Value):Prop:=∃t ku,u=.ref t/\h.IsTuple t #[ku,kv.2]/\cu kv.1 ku=true
theorem zC {κ:Type} [DecidableEq κ] (kvs:List (κ×Value)) (k:κ) (v:Value):(stored kvs k v).length<=kvs.length+1:=by
 unfold stored;split
 ·rw [ai]; omega
 ·rw [ax,oU]; exact aD _
theorem Df {R:Result->Shared->Prop}(hh:A.handled=none) {D it l:Addr}{items:Array Value}{ps:List (dX×Value)}(hDi:D≠it) (hli:l≠it) (hlD:l≠D) (hps:ps.length=items.size) :
  ∀(n i:Nat) (s:Shared) (acc:List (dX×Value)),items.size-i=n->i<=items.size->acc.length+(items.size-i)<=aj->s.heap.IsListIter it l i->s.heap.IsList l items->s.heap.DictOf (bM prog w) D acc ->
   (∀(j:Nat) (u:Value) (kv:dX×Value),items[j]?=some u->ps[j]?=some kv->Av s.heap u kv) ->
   (∀h' tk,h'.DictOf (bM prog w) D (merged acc (ps.drop i))->(∀b o,b≠D->b≠it->s.heap.get? b=some o->h'.get? b=some o)->R (.ok (.ret .none)) { s with heap:=h',toks:=tk }) ->
   zzl77 (model prog w) A (.builtin "dict.update.loop" ⟨[.ref D,.ref it,rawInt i,.none],[]⟩) R s:=by
 intro n
 induction n with
 | zero =>
  intro i s acc hn hi hz hit hl hD hp hR;have e:i=items.size:=by omega
  subst e;refine vt kT ?_;rw [vq fI _];show wpAny _ A.in1 (pyNext (.ref it) >>= _) _ _ s;refine ak (wpAny_pyNext_list_end hh hit hl (by simp) fun h' eb=>?_);show wpAny _ _ (bV.Dict.addKeywords D [] >>= _) _ _ _;refine ak (aG (aG ?_));have hD':h'.DictOf (bM prog w) D acc:=hD.extBut eb hDi;have q:=hR h' s.toks (by rw [vp (by omega)]; exact hD') fun b o _ hb e=>eb b o hb e;exact q
 | succ n ih =>
  intro i s acc hn hi hz hit hl hD hp hR;have hlt:i<items.size:=by omega
  refine vt kT ?_;rw [vq fI _];show wpAny _ A.in1 (pyNext (.ref it) >>= _) _ _ s;have hu:items[i]?=some items[i]:=by simp [hlt]
  have hk:ps[i]?=some ps[i]:=br (by omega);obtain ⟨t,ku,eu,ht,hku⟩:=hp i _ _ hu hk;refine ak (wpAny_pyNext_list_item hit hl (x:=items[i]) hu fun h1 hit1 hs1=>?_);rw [eu];have hs1':ff it s.heap h1:=hs1;have nt:t≠it:=by
   rintro rfl;obtain ⟨o,ho,hc,_⟩:=ht;obtain ⟨o',ho',hc',_⟩:=hit;rw [ho] at ho'; cases ho';rw [hc] at hc'; simp at hc'
  have ht1:h1.IsTuple t #[ku,ps[i].2]:=ht.extBut hs1'.extBut nt;have hT1:Shared.TypeIs { s with heap:=h1 } (.ref t) "tuple":=ht1.typeIs (s:={ s with heap:=h1 });obtain ⟨ot,got,hct,nt',hdt⟩:=id ht1;refine ak (kr ?_);refine ak (wpAny_tryCatch ?_);unfold bV.Dict.pairItems;refine ak (wpAny_typeOf hT1 ?_);rw [if_pos (by decide)];refine ak (lZ got hdt (aG ?_));show wpAny _ _ (ke [ku,ps[i].2] (dictSet D ku ps[i].2)) _ _ _;have hD1:h1.DictOf (bM prog w) D acc:=hD.extBut hs1'.extBut hDi;refine kr (wpAny_dictSet_pairs (knd:=bM prog w) (k:=ps[i].1) hku hD1 (fun h2 hD2 hs2=>?_) (by omega));have hs2':ff D h1 h2:=hs2;show wpAny _ _ (again _) _ _ _;refine aG ⟨vo fI _,?_⟩;have hl1:h1.IsList l items:=hl.extBut hs1'.extBut hli;have kp:∀b o,b≠D->b≠it->s.heap.get? b=some o->h2.get? b=some o:=fun b o h1 h2 e=>hs2'.extBut b o h1 (hs1'.extBut b o h2 e);refine ih (i+1) _ (stored acc ps[i].1 ps[i].2) (by omega) hlt (by have:=zC acc ps[i].1 ps[i].2; omega) (hit1.extBut hs2'.extBut (c9 hDi)) (hl1.extBut hs2'.extBut hlD) hD2 (fun j u kv h1 h2=>?_) fun h' tk hD' kp'=>?_
  ·obtain ⟨t2,ku2,e2,ht2,hk2⟩:=hp j u kv h1 h2;have n1:t2≠it:=by
    rintro rfl;obtain ⟨o,ho,hc,_⟩:=ht2;obtain ⟨o',ho',hc',_⟩:=hit;rw [ho] at ho'; cases ho';rw [hc] at hc'; simp at hc'
   have n2:t2≠D:=by
    rintro rfl;obtain ⟨o,ho,hc,_⟩:=ht2;obtain ⟨o',_,_,ho',hc',_⟩:=hD;rw [ho] at ho'; cases ho';have:=hc'.1;rw [hc] at this; simp at this
   obtain ⟨o,ho,r⟩:=ht2;exact ⟨t2,ku2,e2,⟨o,kp _ o n2 n1 ho,r⟩,hk2⟩
  ·refine hR h' tk ?_ fun b o h1 h2 e=>kp' b o h1 h2 (kp b o h1 h2 e);have ed:ps.drop i=ps[i]::ps.drop (i+1):=rq (by omega);rw [ed];exact hD'
theorem qz {l:Addr}{o:Obj}{items:Array Value}{n:Nat}{ps:List (dX×Value)}{Q:Zc}(hh:A.handled=none) (ho:s.heap.get? l=some o) (hc:o.cls=.type "list") (hdt:o.data=.seq items n) (hod:o.dict=none)
  (hps:ps.length=items.size) (hp:∀(j:Nat) (u:Value) (kv:dX×Value),items[j]?=some u->ps[j]?=some kv->Av s.heap u kv) (hz:items.size<=aj)
  (h:∀h' tk,h'.DictOf (bM prog w) s.heap.objs.size (merged [] ps)->(∀b o,s.heap.get? b=some o->h'.get? b=some o)->Q (.ref s.heap.objs.size) { s with heap:=h',toks:=tk }) :
  wpAny (model prog w) A (call (.type "dict") [.ref l]) Q E s:=by
 refine callType_codes (Q₁:=fun obj s₁=>obj=.ref s.heap.objs.size/\s₁={ s with heap:=s.heap.push { cls:=.type "dict",data:=.dict #[] } }) F.kt_called_dict (F.kt_typeCall_dict_1 _) F.entry_dict_init (kt_code_dict_new _ ⟨rfl,rfl⟩) ?_;rintro obj s₁ ⟨rfl,rfl⟩;have hnew:(s.heap.push { cls:=.type "dict",data:=.dict #[] }).DictOf (bM prog w) s.heap.objs.size []:=Heap.DictOf.new s.heap;have ho1:(s.heap.push { cls:=.type "dict",data:=.dict #[] }).get? l=some o:=bd _ ho;have hlt:l<s.heap.objs.size:=aT ho;refine ⟨hnew.typeIs,F.args_dict_init_2 _ _,?_⟩;unfold bV.«dict.__init__»;refine ak ?_;unfold bV.Dict.selfAndRest;refine ak (vv hnew.typeIs ?_);show wpAny _ _ (pure (s.heap.objs.size,[Value.ref l])) _ _ _;refine aG ?_;show wpAny _ _ (bV.Dict.updateFrom "dict.__init__" s.heap.objs.size (.ref l) [] .none) _ _ _;unfold bV.Dict.updateFrom;have hTl:Shared.TypeIs { s with heap:=s.heap.push { cls:=.type "dict",data:=.dict #[] } } (.ref l) "list":=⟨o,ho1,hc⟩;refine ak (wpAny_typeOf hTl ?_);rw [if_pos (by decide)];refine ak (Cq ho1 hc hdt hod hh fun h1 tk1 k1=>?_);have k1':∀b ob,(s.heap.push { cls:=.type "dict",data:=.dict #[] }).get? b=some ob->h1.get? b=some ob:=k1;rw [if_pos (by rfl:(none:Option Value).isNone=true)];refine ak (xf ?_);have hl1:h1.IsList l items:=⟨o,k1' _ _ ho1,hc,n,hdt⟩;refine ak (xj (s:={ s with heap:=h1,toks:=tk1 }) hl1 ?_);have hD1:h1.DictOf (bM prog w) s.heap.objs.size []:=by
  obtain ⟨od,es,ep,g,r⟩:=hnew;exact ⟨od,es,ep,k1' _ _ g,r⟩
 have hDlt:s.heap.objs.size<h1.objs.size:=by
  obtain ⟨od,es,ep,g,r⟩:=hD1;exact aT g
 refine aG ⟨vo fI _,?_⟩;refine Df (A:=A.in1) (prog:=prog) (w:=w) hh (D:=s.heap.objs.size) (it:=h1.objs.size) (l:=l) (items:=items) (ps:=ps) (cQ hDlt) (cQ (Nat.lt_trans hlt hDlt)) (cQ hlt) hps items.size 0 _ [] (Nat.sub_zero _) (c8 _) (by rw [vI]; omega)
  ⟨_,cr _ rfl,rfl,rfl⟩ (hl1.push _) (hD1.push _) (fun j u kv a b=>?_) fun h' tk hD' kp=>?_
 ·obtain ⟨t,ku,e,ht,hk⟩:=hp j u kv a b;obtain ⟨ot,g,r⟩:=ht;exact ⟨t,ku,e,⟨ot,bd _ (k1' _ _ (bd _ g)),r⟩,hk⟩
 ·rw [jx] at hD';refine ⟨rfl,h h' tk hD' fun b ob e=>kp b ob (cQ (aT e)) (cQ (Nat.lt_trans (aT e) hDlt)) (bd _ (k1' _ _ (bd _ e)))⟩
end
section
variable {X:Cx}
theorem wS (hc:X.calm=true):fN X (.type "dict") (fun xs H Q=>∃(l:Addr) (ts:Ze) (kvs:List (dX×V)),xs=[.ref l]/\aB X.K H l (ts.map V.ref)/\ts.length=kvs.length /\
  (∀(j:Nat) (t:Addr) (kv:dX×V),ts[j]?=some t->kvs[j]?=some kv->H t=some (.tup [kV kv.1,kv.2]))/\∀p,H p=none->Q (.ref p) (upd H p (.dK (iT [] kvs)))):=by
 intro J3 s σ H xs us Q I r h;obtain ⟨l,ts,kvs,rfl,hl,hlen,ht,q⟩:=h;obtain ⟨u,rfl,ru⟩:=vals1 r;cases ru;obtain ⟨its,rv,⟨o,n,ho,hcl,hod,hdt⟩,hz⟩:=I.list hl;have key:∀(ts:Ze) (kvs:List (dX×V)),ts.length=kvs.length->(∀(j:Nat) (t:Addr) (kv:dX×V),ts[j]?=some t->kvs[j]?=some kv->H t=some (.tup [kV kv.1,kv.2]))->∃ps:List (dX×Value),KV kvs ps/\∀(j:Nat) (t:Addr) (kv:dX×Value),ts[j]?=some t->ps[j]?=some kv->Av s.heap (.ref t) kv:=by
  intro ts
  induction ts with
  | nil =>
   intro kvs hl _;cases kvs with
   | nil=>exact ⟨[],.nil,fun j t kv e=>by simp at e⟩
   | cons _ _=>cases hl
  | cons t ts ih =>
   intro kvs hl ht;cases kvs with
   | nil=>cases hl
   | cons kv kvs =>
    obtain ⟨ps,r1,r2⟩:=ih kvs (by simpa using hl) fun j t' kv' a b=>ht (j+1) t' kv' (by simpa using a) (by simpa using b);obtain ⟨_,itt,rt,p⟩:=(show bO X.prog X.w X.K H s.heap t (.tup [kV kv.1,kv.2]) from I.hok t _ (ht 0 t kv rfl rfl));obtain ⟨a,b,e,ra,rb⟩:=rt.two;subst e;refine ⟨(kv.1,b)::ps,.cons ⟨rfl,rb⟩ r1,fun j t' kv' h1 h2=>?_⟩;cases j with
    | zero =>
     simp at h1 h2;subst h1 h2;exact ⟨t,a,rfl,p,jo (P:=X.prog) (w:=X.w) ra⟩
    | succ j=>exact r2 j t' kv' (by simpa using h1) (by simpa using h2)
 obtain ⟨ps,rel,pa⟩:=key ts kvs hlen ht;have hl1:=rv.length;rw [ai] at hl1;have hl2:=rel.length;refine qz (prog:=X.prog) (w:=X.w) (ps:=ps) (I.ok.hd hc) ho hcl hdt hod (by rw [bt]; omega) (fun j u kv a b=>?_) (by rw [bt,<-hl1]; rw [ai] at hz; exact hz) fun h' tk hD kp=>?_
 ·have a':its[j]?=some u:=by simpa using a
  have hj:j<ts.length:=by
   have:=(bE.mp a').1;omega
  obtain ⟨u',e1,r1⟩:=rv.get (i:=j) (x:=V.ref ts[j]) (by simp [hj]);rw [a'] at e1;cases e1;cases (show u=Value.ref ts[j] from r1);exact pa j ts[j] kv (by simp [hj]) b
 ·have hm:(iT [] kvs).length<=aj:=by
   have h1:=me kvs [];rw [vI] at h1;rw [ai] at hz;omega
  exact ⟨.ref s.heap.objs.size,_,I.laid (o:=.dK (iT [] kvs)) kp (aD _) (Et hm (beq_eq_false_iff_ne.mpr (c9 (cQ I.big))) (rel.merge .nil) hD),rfl,q _ I.fresh⟩
end
abbrev eP:R2:=C3 fun i j=>.int (i+j)
abbrev kI:R2:=rI EO fun i j=>.int (i * j)
abbrev iH:R2:=rI (fun _ j=>0<j) fun i j=>.int (i % j)
abbrev DH:R2:=rI HK fun i j=>.int (i / j)
abbrev Gn:R2:=rI HJ fun i j=>.int (i ^ j.toNat)
abbrev zP:R2:=C3 fun i j=>.bl (decide (i<j))
abbrev rLeI:R2:=C3 fun i j=>.bl (decide (i<=j))
abbrev DG:R2:=C3 fun i j=>.bl (decide (j<i))
abbrev rGeI:R2:=C3 fun i j=>.bl (decide (j<=i))
abbrev Gp:R2:=fun x y H Q=>∃i j,x=.str i/\y=.str j/\i.length+j.length<=aj/\Q (.str (i++j)) H
abbrev rInS:R2:=fun x y H Q=>∃c j,x=.str ⟨#[c]⟩/\y=.str j/\Q (.bl (decide (c∈j.cps.toList))) H
abbrev rIsi (K:Za):List V->Hp->VK->Prop:=fun xs H Q=>∃x c t b,xs=[x,.ty c]/\TyX K H x t/\AK K t (.type c)=some b/\Q (.bl b) H
abbrev Hl (K:Za):List V->Hp->VK->Prop:=fun xs H Q=>∃(p:Addr) (bs:List Bool),xs=[.ref p]/\aB K H p (bs.map V.bl)/\Q (.bl (bs.all id)) H
abbrev rAny (K:Za):List V->Hp->VK->Prop:=fun xs H Q=>∃(p:Addr) (bs:List Bool),xs=[.ref p]/\aB K H p (bs.map V.bl)/\Q (.bl (bs.any id)) H
abbrev Gm (K:Za):List V->Hp->VK->Prop:=fun xs H Q=>∃p ys,xs=[.ref p]/\((aB K H p ys/\∀l,H l=none->Q (.ref l) (upd H l (.tup ys)))∨(bL K H p ys/\Q (.ref p) H))
abbrev Fx (K:Za):List V->Hp->VK->Prop:=fun xs H Q=>∃(l:Addr) (ts:Ze) (kvs:List (dX×V)),xs=[.ref l]/\aB K H l (ts.map V.ref)/\ts.length=kvs.length /\
  (∀(j:Nat) (t:Addr) (kv:dX×V),ts[j]?=some t->kvs[j]?=some kv->H t=some (.tup [kV kv.1,kv.2]))/\∀p,H p=none->Q (.ref p) (upd H p (.dK (iT [] kvs)))
abbrev da (K:Za):List V->Hp->VK->Prop:=fun xs H Q =>
 (∃p ys,xs=[.ref p]/\(aB K H p ys∨bL K H p ys)/\∀l,H l=none->Q (.ref l) (upd H l (.lst ys))) ∨
 (∃(d:Addr) (kvs:List (dX×V)),xs=[.ref d]/\Rd H d (.dK kvs)/\∀l,H l=none->Q (.ref l) (upd H l (.lst (kvs.map fun kv=>kV kv.1))))
abbrev d9 (K:Za):List V->Hp->VK->Prop:=fun xs H Q =>
 (∃p ys,xs=[.ref p]/\(aB K H p ys∨bL K H p ys)/\Q (.int ys.length) H)∨(∃z,xs=[.str z]/\z.length<=aj/\Q (.int z.length) H)
theorem EE:kg "isinstance"=some (.builtin "isinstance"):=by decide +kernel
theorem As:kg "list"=some (.type "list"):=by decide +kernel
theorem kZ:kg "tuple"=some (.type "tuple"):=by decide +kernel
theorem At:kg "dict"=some (.type "dict"):=by decide +kernel
section
variable {X:Cx}{p pos:Pos}
theorem CT:fN X (.builtin "len") (d9 X.K):=wR.or wQ
theorem Ar (hc:X.calm=true):fN X (.type "list") (da X.K):=wP.or (sU hc)
theorem xU (hg:Gl X "tuple") (hm:X.mg "tuple"=none):PE X (.Name "tuple" pos) (tC (.ty "tuple")):=FH hg hm kZ rfl
end
def Gc (mg:Str->Option Value) (x:Str) (v:V):Prop:=∃u,mg x=some u/\RelV v u
theorem ji {X:Cx}{x:Str}{v:V}{pos:Pos}(hg:Gl X x) (h:Gc X.mg x v) (hd:(x == ("__debug__":Str))=false:=by decide):PE X (.Name x pos) (tC v):=by
 obtain ⟨u,hm,r⟩:=h;exact FD hg hm r hd
structure iz (P:bF) (w:World) (K:Za) (mg:Str->Option Value) (base:Heap) (x:Str) (ps:Zb) (k:Nat) (sp:Sp):Prop where
 ex:∃f fd,lU P w K mg base CX0 k f fd ps sp/\mg x=some (.ref f)/\h_ K (.ref f)=true/\Binds K fd ps []
structure HX (P:bF) (w:World) (K:Za) (mg:Str->Option Value) (base:Heap) (x:Str) (C:Addr) (ps:Zb) (k:Nat) (sp:Sp):Prop where
 ex:∃f fd,lU P w K mg base CX0 k f fd ps sp/\mg x=some (.ref C)/\Mk K C f/\Binds K fd ps []
structure BK (P:bF) (w:World) (K:Za) (mg:Str->Option Value) (base:Heap) (C:Addr) (m:Str) (ps:Zb) (k:Nat) (sp:Sp):Prop where
 ex:∃f fd,lU P w K mg base CX0 k f fd ps sp/\BM K C/\Ge K C m f/\Binds K fd ps []
section
variable {X:Cx}{k:Nat}{ps:Zb}{sp:Sp}{x m:Str}{C:Addr}{p pos J5:Pos}{o e:Expr}{es:List Expr}{t:TA}{ta:TE}
theorem Hm (D:iz X.prog X.w X.K X.mg X.base x ps k sp) (hr:eG k X.A) (hg:Gl X x) (ha:PA X (e::es) t) (hdb:(x == ("__debug__":Str))=false:=by decide)
  (he:aI (e::es) X.env=(false,eval e X.env)::aI es X.env:=by rfl) (hpl:(backTo pos (aI es X.env)).any (·.1)=false:=by rfl) :
  PE X (.Call (.Name x p) (e::es) [] pos) (aM sp t):=by
 obtain ⟨f,fd,F,hm,hk,hb⟩:=D.ex;exact FG F hr hg hm hk hb .nil Bj ha hdb he hpl
theorem zT (D:HX X.prog X.w X.K X.mg X.base x C ps k sp) (hr:eG (k+1) X.A) (hg:Gl X x) (ha:PA X (e::es) t) (hdb:(x == ("__debug__":Str))=false:=by decide)
  (he:aI (e::es) X.env=(false,eval e X.env)::aI es X.env:=by rfl) (hpl:(backTo pos (aI es X.env)).any (·.1)=false:=by rfl) :
  PE X (.Call (.Name x p) (e::es) [] pos) (xA C sp [] E0 t):=by
 obtain ⟨f,fd,F,hm,M,hb⟩:=D.ex;exact FB M F hr hg hm hb .nil Bj ha hdb he hpl
theorem GP {pl:Sem Bool}(M:BK X.prog X.w X.K X.mg X.base C m ps k sp) (hr:eG k X.A) (he:PE X o ta) (ha:PA X (e::es) t)
  (hst:aI (e::es) X.env=(false,eval e X.env)::aI es X.env:=by rfl) (hpl:(backTo pos (aI es X.env)).any (·.1)=false:=by rfl)
  (ht:eval (.Call (.Attribute o m J5) (e::es) [] pos) X.env=(do
   let ov <- eval o X.env
   pZ J5.atName
   let (f,first) <- ke [ov] (pW ov m pl)
   ug pos f first (backTo pos (aI (e::es) X.env)) (nz pos (ny [] X.env))):=by rfl) :
  PE X (.Call (.Attribute o m J5) (e::es) [] pos) (c_ C m sp [] E0 ta t):=by
 obtain ⟨f,fd,F,c,hm,hb⟩:=M.ex;exact FA he c hm F hr hb .nil Bj ha hst hpl ht
theorem Fz {pl:Sem Bool}(M:BK X.prog X.w X.K X.mg X.base C m ps k sp) (hr:eG k X.A) (he:PE X o ta)
  (ht:eval (.Call (.Attribute o m J5) [] [] pos) X.env=(do
   let ov <- eval o X.env
   pZ J5.atName
   let (f,first) <- ke [ov] (pW ov m pl)
   ug pos f first (backTo pos (aI [] X.env)) (nz pos (ny [] X.env))):=by rfl) :
  PE X (.Call (.Attribute o m J5) [] [] pos) (c_ C m sp [] E0 ta bj):=by
 obtain ⟨f,fd,F,c,hm,hb⟩:=M.ex;exact DQ he c hm F hr hb .nil Bj ht
end
def Hs (K:Za) (tl:TE):TI:=fun σ H R=>tl σ H fun x H1=>∃a,x=.ref a/\(((∃xs,aB K H1 a xs)/\R (ET K a) H1)∨((∃xs,bL K H1 a xs)/\R (G7 K a) H1))
theorem GL {X:Cx}{tg l:Expr}{tl:TE}(hl:PE X l tl):PI X tg l (Hs X.K tl):=by
 intro J3 s σ H R I h;refine cf (hl J3 s σ H _ I h) fun v s1 ⟨x,H1,I1,r1,q1⟩=>?_;obtain ⟨a,e,q⟩:=q1;subst e;cases r1;have fin:∀b∈[s1.heap.objs.size],m9 X J3 H1 b:=fun b hb=>by
  have e:b=s1.heap.objs.size:=by simpa using hb
  subst e;exact I1.fpOk (aD _) (I1.hok.fresh (aD _))
 rcases q with ⟨⟨xs,hq⟩,q⟩ | ⟨⟨xs,hq⟩,q⟩
 ·obtain ⟨its,rv,p,hz⟩:=I1.list hq;refine xj p.isList ?_;exact ⟨s1.heap.objs.size,[s1.heap.objs.size],_,_,H1,rfl,I1.kept (t':=s1.toks) fun b o e=>bd _ e,uo a _,⟨_,cr _ rfl,rfl,rfl⟩,fin,q⟩
 ·obtain ⟨its,rv,p,hz⟩:=I1.tuple hq;refine AO p ?_;exact ⟨s1.heap.objs.size,[s1.heap.objs.size],_,_,H1,rfl,I1.kept (t':=s1.toks) fun b o e=>bd _ e,rO a _,⟨_,cr _ rfl,rfl,rfl⟩,fin,q⟩
theorem kS {K:Za}{a:Addr}{xs:List V}{g:TG}{tb:TS}{D:lV}{σ:St}{H:Hp}(Pv:Nat->St->Hp->Prop) (h0:Pv 0 σ H) (hl:∀i σ H,i<=xs.length->Pv i σ H->aB K H a xs)
  (hs:∀i x σ H p,xs[i]?=some x->Pv i σ H->H p=none->g (.ref p) σ (upd H p (.tup [.int i,x])) fun σ2 H2=>tb { D with nx:=Pv (i+1),ct:=Pv (i+1),bk:=D.nx } σ2 H2) (hd:∀σ H,Pv xs.length σ H->D.nx σ H) :
  ∃W:Nat->Nat->St->Hp->Prop,(∃m,W 0 m σ H)/\∀i m σ H,W i m σ H ->
   ((HE K a).stop i H/\D.nx σ H)∨((HE K a).go i H/\∃N:St->Hp->Prop,(∀σ' H',N σ' H'->∃m',m'<m/\W (i+1) m' σ' H')/\∀x H',(HE K a).yld i H x H'->g x σ H' fun σ2 H2=>tb { D with nx:=N,ct:=N,bk:=D.nx } σ2 H2):=by
 refine ⟨fun i m σ H=>m=xs.length-i/\i<=xs.length/\Pv i σ H,⟨xs.length,by simp,c8 _,h0⟩,?_⟩;rintro i m σ H ⟨rfl,hi,p⟩;have q:=hl i σ H hi p;by_cases hlt:i<xs.length
 ·refine .inr ⟨⟨xs,xs[i],q,by simp [hlt]⟩,Pv (i+1),fun σ' H' p'=>⟨xs.length-(i+1),by omega,rfl,hlt,p'⟩,fun x H' y=>?_⟩;obtain ⟨t,v,rfl,hn,hv,rfl⟩:=y;exact hs i v σ H t (hv xs q) p hn
 ·have e:i=xs.length:=by omega
  subst e;exact .inl ⟨⟨xs,q,aD _⟩,hd σ H p⟩
def Wc (n:Nat) (Pv:Nat->List V->Hp->Prop):Nat->Nat->List V->Hp->Prop:=fun i m vs H=>m=n-i/\i<=n/\Pv i vs H
theorem tX {n i:Nat}{Pv:Nat->List V->Hp->Prop}{vs:List V}{H:Hp}(hi:i<n) (p:Pv (i+1) vs H):∃m',m'<n-i/\Wc n Pv (i+1) m' vs H:=⟨n-(i+1),by omega,rfl,hi,p⟩
abbrev fM (k:Nat) (fi:List Nat) (σ:St) (J:It) (g:TG) (tc:TT) (te:TE) (H1:Hp) (l:Addr) (Q:Hp->Prop):Prop :=
 ∃W:Nat->Nat->List V->Hp->Prop,(∃m,W 0 m [] (upd H1 l (.lst [])))/\∀i m vs H2,W i m vs H2->H2 l=some (.lst vs) /\
  ((J.stop i H2/\Q H2)∨(J.go i H2/\∀x H3,J.yld i H2 x H3->g x (dw k fi σ) H3 fun σ2 H4=>tc σ2 H4 fun b H5 =>
   if b=true then te σ2 H5 fun v H6=>H6 l=some (.lst vs)/\vs.length<aj/\∃m',m'<m/\W (i+1) m' (vs++[v]) (upd H6 l (.lst (vs++[v]))) else ∃m',m'<m/\W (i+1) m' vs H5))
theorem kW {k:Nat}{fi:List Nat}{J:It}{g:TG}{tc:TT}{te:TE}{σ:St}{H1:Hp}{Q:Hp->Prop}{l:Addr}(n:Nat) (Pv:Nat->List V->Hp->Prop) (h0:Pv 0 [] (upd H1 l (.lst [])))
  (hl:∀i vs H,i<=n->Pv i vs H->H l=some (.lst vs)) (hgo:∀i vs H,i<n->Pv i vs H->J.go i H) (hst:∀vs H,Pv n vs H->J.stop n H/\Q H)
  (hs:∀i vs H x H3,i<n->Pv i vs H->J.yld i H x H3->g x (dw k fi σ) H3 fun σ2 H4=>tc σ2 H4 fun b H5 =>
   if b=true then te σ2 H5 fun v H6=>H6 l=some (.lst vs)/\vs.length<aj/\∃m',m'<n-i/\Wc n Pv (i+1) m' (vs++[v]) (upd H6 l (.lst (vs++[v]))) else ∃m',m'<n-i/\Wc n Pv (i+1) m' vs H5) :
  fM k fi σ J g tc te H1 l Q:=by
 refine ⟨Wc n Pv,⟨n,by simp [Wc],c8 _,h0⟩,?_⟩;rintro i m vs H ⟨rfl,hi,p⟩;refine ⟨hl i vs H hi p,?_⟩;by_cases hlt:i<n
 ·exact .inr ⟨hgo i vs H hlt p,fun x H3 y=>hs i vs H x H3 hlt p y⟩
 ·have e:i=n:=by omega
  subst e;exact .inl (hst vs H p)
section
variable {K:Za}{k:Nat}{fi:List Nat}{g:TG}{tc:TT}{te:TE}{σ:St}{H1:Hp}{Q:Hp->Prop}{l:Addr}
theorem dg {a:Addr}{xs:List V}(Pv:Nat->List V->Hp->Prop) (h0:Pv 0 [] (upd H1 l (.lst [])))
  (hl:∀i vs H,i<=xs.length->Pv i vs H->H l=some (.lst vs)/\aB K H a xs) (hd:∀vs H,Pv xs.length vs H->Q H)
  (hs:∀i vs H x,xs[i]?=some x->i<xs.length->Pv i vs H->g x (dw k fi σ) H fun σ2 H4=>tc σ2 H4 fun b H5 =>
   if b=true then te σ2 H5 fun v H6=>H6 l=some (.lst vs)/\vs.length<aj/\∃m',m'<xs.length-i/\Wc xs.length Pv (i+1) m' (vs++[v]) (upd H6 l (.lst (vs++[v]))) else ∃m',m'<xs.length-i/\Wc xs.length Pv (i+1) m' vs H5) :
  fM k fi σ (ET K a) g tc te H1 l Q:=by
 refine kW xs.length Pv h0 (fun i vs H hi p=>(hl i vs H hi p).1) (fun i vs H hi p=>⟨xs,xs[i],(hl i vs H (dR hi) p).2,by simp [hi]⟩) (fun vs H p=>⟨⟨xs,(hl _ vs H (aD _) p).2,aD _⟩,hd vs H p⟩) fun i vs H x H3 hi p y=>?_;obtain ⟨rfl,y⟩:=y;exact hs i vs _ x (y xs (hl i vs _ (dR hi) p).2) hi p
theorem EA {a:Addr}{xs:List V}(Pv:Nat->List V->Hp->Prop) (h0:Pv 0 [] (upd H1 l (.lst [])))
  (hl:∀i vs H,i<=xs.length->Pv i vs H->H l=some (.lst vs)/\bL K H a xs) (hd:∀vs H,Pv xs.length vs H->Q H)
  (hs:∀i vs H x,xs[i]?=some x->i<xs.length->Pv i vs H->g x (dw k fi σ) H fun σ2 H4=>tc σ2 H4 fun b H5 =>
   if b=true then te σ2 H5 fun v H6=>H6 l=some (.lst vs)/\vs.length<aj/\∃m',m'<xs.length-i/\Wc xs.length Pv (i+1) m' (vs++[v]) (upd H6 l (.lst (vs++[v]))) else ∃m',m'<xs.length-i/\Wc xs.length Pv (i+1) m' vs H5) :
  fM k fi σ (G7 K a) g tc te H1 l Q:=by
 refine kW xs.length Pv h0 (fun i vs H hi p=>(hl i vs H hi p).1) (fun i vs H hi p=>⟨xs,xs[i],(hl i vs H (dR hi) p).2,by simp [hi]⟩) (fun vs H p=>⟨⟨xs,(hl _ vs H (aD _) p).2,aD _⟩,hd vs H p⟩) fun i vs H x H3 hi p y=>?_;obtain ⟨rfl,y⟩:=y;exact hs i vs _ x (y xs (hl i vs _ (dR hi) p).2) hi p
theorem Ap {lo:Int}{n:Nat}(Pv:Nat->List V->Hp->Prop) (h0:Pv 0 [] (upd H1 l (.lst [])))
  (hl:∀i vs H,i<=n->Pv i vs H->H l=some (.lst vs)) (hd:∀vs H,Pv n vs H->Q H)
  (hs:∀i vs H,i<n->Pv i vs H->g (.int (lo+i)) (dw k fi σ) H fun σ2 H4=>tc σ2 H4 fun b H5 =>
   if b=true then te σ2 H5 fun v H6=>H6 l=some (.lst vs)/\vs.length<aj/\∃m',m'<n-i/\Wc n Pv (i+1) m' (vs++[v]) (upd H6 l (.lst (vs++[v]))) else ∃m',m'<n-i/\Wc n Pv (i+1) m' vs H5) :
  fM k fi σ (G9 lo n) g tc te H1 l Q:=by
 refine kW n Pv h0 hl (fun i vs H hi p=>hi) (fun vs H p=>⟨aD _,hd vs H p⟩) fun i vs H x H3 hi p y=>?_;obtain ⟨rfl,rfl⟩:=y;exact hs i vs _ hi p
theorem EB {x:Str}(Pv:Nat->List V->Hp->Prop) (h0:Pv 0 [] (upd H1 l (.lst [])))
  (hl:∀i vs H,i<=x.cps.size->Pv i vs H->H l=some (.lst vs)) (hd:∀vs H,Pv x.cps.size vs H->Q H)
  (hs:∀i vs H c,x.cps[i]?=some c->i<x.cps.size->Pv i vs H->g (.str ⟨#[c]⟩) (dw k fi σ) H fun σ2 H4=>tc σ2 H4 fun b H5 =>
   if b=true then te σ2 H5 fun v H6=>H6 l=some (.lst vs)/\vs.length<aj/\∃m',m'<x.cps.size-i/\Wc x.cps.size Pv (i+1) m' (vs++[v]) (upd H6 l (.lst (vs++[v]))) else ∃m',m'<x.cps.size-i/\Wc x.cps.size Pv (i+1) m' vs H5) :
  fM k fi σ (HZ x) g tc te H1 l Q:=by
 refine kW x.cps.size Pv h0 hl (fun i vs H hi p=>hi) (fun vs H p=>⟨aD _,hd vs H p⟩) fun i vs H y H3 hi p yl=>?_;obtain ⟨rfl,c,hc,rfl⟩:=yl;exact hs i vs _ c hc hi p
end
theorem gN {j:Nat}{x:V}{σ:St}{H:Hp}{Q:St->Hp->Prop}(h:Q (σ.set j (some x)) H):dU j x σ H Q:=h
theorem rM {σ:St}{H:Hp}{A B:Hp->Prop}(h:A H):jA σ H (fun b H5=>if b=true then A H5 else B H5):=by
 show (if (true:Bool)=true then A H else B H)
 exact h
theorem uB {α β:Type}{F:α->β->Prop}:∀{l₁:List α}{l₂:List β},Paired F l₁ l₂->∀{i:Nat}{a:α}{b:β},l₁[i]?=some a->l₂[i]?=some b->F a b
 | _,_,.nil,_,_,_,h,_=>by simp at h
 | _,_,.cons r t,0,_,_,h,h'=>by simp at h h'; subst h h'; exact r
 | _,_,.cons r t,i+1,_,_,h,h'=>by simp at h h'; exact uB t h h'
end L2
namespace L2
open PySem PySem.W
def pb (K:Za) (td ty tv:TE):TS:=fun D σ H=>tv σ H fun v H1=>td σ H1 fun x H2=>ty σ H2 fun y H3 =>
 ∃(a b:Addr) (kvs:List (TK×V)) (k:TK),x=.ref a/\y=.ref b/\H3 a=some (.dT kvs)/\mR K H3 k (.ref b)/\k.depth<=8/\kvs.length<aj/\D.nx σ (upd H3 a (.dT (cI kvs k v)))
section
variable {X:Cx}{o i value:Expr}{pos pos':Pos}{td ty tv:TE}
theorem nX (hu:X.A.units+16<cLine) (ho:PE X o td) (hi:PE X i ty) (hv:PE X value tv) (hs:pY value (some (.Subscript o i pos')) pos.line X.env=pure false) :
  PS X (.Assign [.Subscript o i pos'] value pos) (pb X.K td ty tv):=by
 intro J3 s σ H D I h;refine wpAny_Assign_Subscript (cf (hv J3 s σ H _ I h) fun r s1 ⟨v,H1,I1,rv,q1⟩=>cf (ho J3 s1 σ H1 _ I1 q1) fun u s2 ⟨x,H2,I2,rx,q2⟩=>cf (hi J3 s2 σ H2 _ I2 q2) fun iv s3 ⟨y,H3,I3,ry,a,b,kvs,k,ex,ey,e,eb,e8,l,q3⟩=>?_) hs;subst ex;subst ey;obtain rfl:u=Value.ref a:=rx;exact An hu I3 e eb e8 l ry rv fun s4 I4=>⟨σ,_,I4,q3⟩
end
theorem uu {K:Za}{H:Hp}:∀xs:List Str,TKCs K H (xs.map fun x=>TK.k (.inr x)) (xs.map V.str)
 | []=>by show TKCs K H [] []; unfold TKCs; rfl
 | x::xs=>by
  rw [aZ,aZ];unfold TKCs;refine ⟨_,_,rfl,?_,uu xs⟩;unfold mR
  rfl
theorem xu {K:Za}{H:Hp}{a:Addr}{xs:Zb}(h:bJ K H a (xs.map V.str)):mR K H (.t (xs.map fun x=>TK.k (.inr x))) (.ref a):=by
 unfold mR;exact ⟨a,_,rfl,h,uu xs⟩
end L2
end

section
set_option Elab.async false
set_option linter.all false
set_option maxRecDepth 100000
namespace L2
open PySem PySem.Spec PyProof.Rows PySem.W
def Gh:Expr->List Str
 | .Name x _=>[x]
 | .Tuple es _ _=>es.filterMap fun e=>match e with | .Name x _=>some x | _=>none
 | _=>[]
theorem bK {X:Cx}{b:List Stmt}{t:TS}{D:lV}{σ:St}{H:Hp}(r:t D σ H) (p:y3 X b t):∃t,y3 X b t/\t D σ H:=⟨t,p,r⟩
section
variable {X:Cx}{k k0:Nat}{ps:Zb}{sp:Sp}{x m:Str}{C:Addr}{p pos J5:Pos}{o e a b:Expr}{es:List Expr}{t:TA}{ta tb te:TE}
theorem qf (hr:eG k0 X.A) (D:iz X.prog X.w X.K X.mg X.base x ps k sp) (ha:PA X (e::es) t) (hk:k<=k0:=by decide) (hg:Gl X x:=by rfl) (hdb:(x == ("__debug__":Str))=false:=by decide)
  (he:aI (e::es) X.env=(false,eval e X.env)::aI es X.env:=by rfl) (hpl:(backTo pos (aI es X.env)).any (·.1)=false:=by rfl) :
  PE X (.Call (.Name x p) (e::es) [] pos) (aM sp t):=Hm D (hr.mono hk) hg ha hdb he hpl
theorem qm {pl:Sem Bool}(hr:eG k0 X.A) (M:BK X.prog X.w X.K X.mg X.base C m ps k sp) (he:PE X o ta) (ha:PA X (e::es) t) (hk:k<=k0:=by decide)
  (hst:aI (e::es) X.env=(false,eval e X.env)::aI es X.env:=by rfl) (hpl:(backTo pos (aI es X.env)).any (·.1)=false:=by rfl)
  (ht:eval (.Call (.Attribute o m J5) (e::es) [] pos) X.env=(do
   let ov <- eval o X.env
   pZ J5.atName
   let (f,first) <- ke [ov] (pW ov m pl)
   ug pos f first (backTo pos (aI (e::es) X.env)) (nz pos (ny [] X.env))):=by rfl) :
  PE X (.Call (.Attribute o m J5) (e::es) [] pos) (c_ C m sp [] E0 ta t):=GP (pl:=pl) M (hr.mono hk) he ha hst hpl ht
theorem DK {pl:Sem Bool}(hr:eG k0 X.A) (M:BK X.prog X.w X.K X.mg X.base C m ps k sp) (he:PE X o ta) (hk:k<=k0:=by decide)
  (ht:eval (.Call (.Attribute o m J5) [] [] pos) X.env=(do
   let ov <- eval o X.env
   pZ J5.atName
   let (f,first) <- ke [ov] (pW ov m pl)
   ug pos f first (backTo pos (aI [] X.env)) (nz pos (ny [] X.env))):=by rfl) :
  PE X (.Call (.Attribute o m J5) [] [] pos) (c_ C m sp [] E0 ta bj):=Fz (pl:=pl) M (hr.mono hk) he ht
theorem xl (ha:PE X a ta) (hb:PE X b tb) (hs:CV b:=by exact fun _ _=>rfl):PE X (.Subscript a b pos) (aL (cT X.K) ta tb):=Bg Bv ha hb hs
theorem xt (ha:PE X a ta) (hb:PE X b tb) (hs:CV b:=by exact fun _ _=>rfl):PE X (.Subscript a b pos) (aL (jH X.K) ta tb):=Bg Eh ha hb hs
theorem xq (ha:PE X a ta) (hb:PE X b tb) (hs:CV b:=by exact fun _ _=>rfl):PE X (.Subscript a b pos) (aL (uy X.K) ta tb):=Bg GX ha hb hs
theorem xs' (ha:PE X a ta) (hb:PE X b tb) (hs:CV b:=by exact fun _ _=>rfl):PE X (.Subscript a b pos) (aL DF ta tb):=Bg Ei ha hb hs
theorem i0 {op:CmpOp}{r:R2}(ho:nv X (dY op) r) (ha:PE X a ta) (hb:PE X b tb) (hm:j6 op b=false:=by exact DV _):PT X (.Compare a [op] [b] pos) (aX (aL r ta tb)):=Be ho ha hb hm
theorem Hb {op:CmpOp}{r:R2}(ho:nv X (dY op) r) (ha:PE X a ta) (hb:PE X b tb) (hm:j6 op b=false:=by exact DV _):PE X (.Compare a [op] [b] pos) (aL r ta tb):=Bh ho ha hb hm
theorem Hg {op:CmpOp}{r:R2}(ho:nv X (dY op) r) (ha:PE X a ta) (hb:PE X b tb) (hm:j6 op b=false:=by with_unfolding_all rfl):PT X (.Compare a [op] [b] pos) (aX (aL r ta tb)):=Be ho ha hb hm
theorem eci {op:CmpOp}{r:R2}(ho:nv X (dY op) r) (ha:PE X a ta) (hb:PE X b tb) (hm:j6 op b=false:=by with_unfolding_all rfl):PE X (.Compare a [op] [b] pos) (aL r ta tb):=Bh ho ha hb hm
theorem qB {id:String}{r:List V->Hp->VK->Prop}(hc:fN X (.builtin id) r) (hm:X.mg x=none) (hv:kg x=some (.builtin id)) (ha:PA X (e::es) t) (hg:Gl X x:=by rfl) (hn:x≠"__name__":=by decide) (hdb:(x == ("__debug__":Str))=false:=by decide)
  (he:aI (e::es) X.env=(false,eval e X.env)::aI es X.env:=by rfl) (hpl:(backTo pos (aI es X.env)).any (·.1)=false:=by rfl):PE X (.Call (.Name x p) (e::es) [] pos) (eZ r t):=xW hc hg hm hv ha hn hdb he hpl
theorem qL (hc:X.calm=true) (hm:X.mg "list"=none) (ha:PA X (e::es) t) (hg:Gl X "list":=by rfl)
  (he:aI (e::es) X.env=(false,eval e X.env)::aI es X.env:=by rfl) (hpl:(backTo pos (aI es X.env)).any (·.1)=false:=by rfl):PE X (.Call (.Name "list" p) (e::es) [] pos) (eZ (da X.K) t):=lr (Ar hc) hg hm As ha (by decide) (by decide) he hpl
theorem ql (hm:X.mg "len"=none) (ha:PA X (e::es) t) (hg:Gl X "len":=by rfl)
  (he:aI (e::es) X.env=(false,eval e X.env)::aI es X.env:=by rfl) (hpl:(backTo pos (aI es X.env)).any (·.1)=false:=by rfl):PE X (.Call (.Name "len" p) (e::es) [] pos) (eZ (d9 X.K) t):=xW CT hg hm PySem.boot_len ha (by decide) (by decide) he hpl
theorem qs (i:Nat) {pos':Pos}(hN:X.N.Nodup) (he:PE X e te) (hi:X.N[i]?=some x:=by rfl) (hx:Loc X.env.scope x:=by first | exact Or.inl rfl | exact Or.inr rfl) (hs:pY e (some (.Name x pos')) pos.line X.env=pure false:=by rfl) (hf:X.fn x=true∨X.env.scope.names.lookup x=some .local:=by first | exact .inl rfl | exact .inr rfl | assumption) :
  PS X (.Assign [.Name x pos'] e pos) (aN te (dU i)):=GI hN hi hx he hs hf
theorem gn (i:Nat) (hN:X.N.Nodup) (hi:X.N[i]?=some x:=by rfl) (hx:Loc X.env.scope x:=by first | exact Or.inl rfl | exact Or.inr rfl) (hf:X.fn x=true∨X.env.scope.names.lookup x=some .local:=by first | exact .inl rfl | exact .inr rfl | assumption):PG X (.Name x pos) (dU i):=Bf hN hi hx hf
theorem gc (i:Nat) (hN:X.N.Nodup:=by exact of_decide_eq_true (by with_unfolding_all rfl)) (hi:X.N[i]?=some x:=by rfl) (hx:Loc X.env.scope x:=by exact Or.inl rfl) (hf:X.fn x=true∨X.env.scope.names.lookup x=some .local:=by first | exact .inl rfl | exact .inr rfl | assumption):PG X (.Name x pos) (dU i):=Bf hN hi hx hf
theorem a1 (ha:PE X a ta) (hs:aI [a] X.env=(false,eval a X.env)::aI [] X.env:=by rfl):PA X [a] (aq ta bj):=bZ ha b_ hs
theorem a2 (ha:PE X a ta) (hb:PE X b tb) (hs:aI [a,b] X.env=(false,eval a X.env)::aI [b] X.env:=by rfl) (hs2:aI [b] X.env=(false,eval b X.env)::aI [] X.env:=by rfl):PA X [a,b] (aq ta (aq tb bj)):=bZ ha (bZ hb b_ hs2) hs
theorem a3 {c:Expr}{tc:TE}(ha:PE X a ta) (hb:PE X b tb) (hc:PE X c tc) (hs:aI [a,b,c] X.env=(false,eval a X.env)::aI [b,c] X.env:=by rfl) (hs1:aI [b,c] X.env=(false,eval b X.env)::aI [c] X.env:=by rfl) (hs2:aI [c] X.env=(false,eval c X.env)::aI [] X.env:=by rfl):PA X [a,b,c] (aq ta (aq tb (aq tc bj))):=bZ ha (a2 hb hc hs1 hs2) hs
variable {elt iter tg:Expr}{ifs:List Expr}{scope:Scope}{fi:List Nat}{wi:TI}{g:TG}{tc:TT}
theorem qc (hi:PI X tg iter wi) (ho:yQ k g)
  (h:∀C cl s₀ H₀ ex pn,PG (dz X (Gh tg++fi.map fun i=>X.N.getD i "") scope C cl s₀ H₀ ex pn) tg g/\Gy (dz X (Gh tg++fi.map fun i=>X.N.getD i "") scope C cl s₀ H₀ ex pn) ifs tc/\PE (dz X (Gh tg++fi.map fun i=>X.N.getD i "") scope C cl s₀ H₀ ex pn) elt te)
  (hS:lH X.env.scope scope k (Gh tg++fi.map fun i=>X.N.getD i "") X.N fi=true:=by with_unfolding_all rfl) (hc:X.calm=true:=by rfl)
  (hs:∀x,xi iter X.env x=pure x:=by intro _; rfl):PE X (.ListComp elt [⟨tg,iter,ifs,0⟩] scope pos) (d4 k fi wi g tc te) :=
 FE hS hc hi (fun _ _ _ _ _ _=>(h _ _ _ _ _ _).1) ho (fun _ _ _ _ _ _=>(h _ _ _ _ _ _).2.1) (fun _ _ _ _ _ _=>(h _ _ _ _ _ _).2.2) hs
theorem qsc (j:Nat) {y:Str}{spos py:Pos}(hN:X.N.Nodup) (hi:PI X tg iter wi) (ho:yQ k g)
  (h:∀C cl s₀ H₀ ex pn,PG (dz X (Gh tg++fi.map fun i=>X.N.getD i "") scope C cl s₀ H₀ ex pn) tg g/\Gy (dz X (Gh tg++fi.map fun i=>X.N.getD i "") scope C cl s₀ H₀ ex pn) ifs tc/\PE (dz X (Gh tg++fi.map fun i=>X.N.getD i "") scope C cl s₀ H₀ ex pn) elt te)
  (hj:X.N[j]?=some y:=by rfl) (hy:Loc X.env.scope y:=by first | exact Or.inl rfl | exact Or.inr rfl)
  (hS:lH X.env.scope scope k (Gh tg++fi.map fun i=>X.N.getD i "") X.N fi=true:=by with_unfolding_all rfl) (hc:X.calm=true:=by rfl)
  (hsw:pY (.ListComp elt [⟨tg,iter,ifs,0⟩] scope pos) (some (.Name y py)) spos.line X.env=pure true:=by rfl)
  (hs:∀x,xi iter X.env x=pure x:=by intro _; rfl) (hf:X.fn y=true∨X.env.scope.names.lookup y=some .local:=by first | exact .inl rfl | exact .inr rfl | assumption) :
  PS X (.Assign [.Name y py] (.ListComp elt [⟨tg,iter,ifs,0⟩] scope pos) spos) (aN (d4 k fi wi g tc te) (dU j)) :=
 zS hN hj hy hS hc hi (fun _ _ _ _ _ _=>(h _ _ _ _ _ _).1) ho (fun _ _ _ _ _ _=>(h _ _ _ _ _ _).2.1) (fun _ _ _ _ _ _=>(h _ _ _ _ _ _).2.2) hsw hs hf
end
end L2
end

section
set_option Elab.async false
set_option linter.all false
set_option maxRecDepth 100000
namespace L2
open PySem PySem.Spec PyProof.Rows
structure t6 (h:Heap) (d:Addr) (es:Array iQ) (ep:Nat):Prop where
 ex:∃o,h.get? d=some o/\o.ExactDict/\o.data=.dict es ep
section
variable {prog:bF}{w:World}{A:Around}{E:Zc}{s:Shared}{d v it:Addr}{es:Array iQ}{ep i:Nat}
theorem t6.ty (h:t6 s.heap d es ep):s.TypeIs (.ref d) "dict":=let ⟨o,ho,e,_⟩:=h.ex; ⟨o,ho,e.1⟩
theorem Ch {Q:Zc}(h:t6 s.heap d es ep) (hd:(d == fT)=false) (q:Q (.ref s.heap.objs.size) { s with heap:=s.heap.push { cls:=.type "dict_items",data:=.fields #[.ref d] } }) :
  wpAny (model prog w) A (call (.builtin "dict.items") [.ref d]) Q E s:=by
 refine oF F.slot_dict_items h.ty F.entry_dict_items ?_ (F.args_dict_items_1 _);unfold bV.«dict.items» bV.Dict.noArgs;refine ak <| ak <| vv h.ty <| ?_;refine aG (show wpAny _ _ (vm d >>= _) _ _ s from ?_);unfold vm;rw [if_neg (fun z=>by rw [hd] at z; cases z)];exact ak <| aG <| ak <| iP <| aG ⟨_,rfl,q⟩
theorem DC {Q:Zc}(hv:s.heap.IsItemsView v d) (h:t6 s.heap d es ep)
  (q:∀h',ic h' s.heap.objs.size d 0 es.size ep .none .none->(∀b o,s.heap.get? b=some o->h'.get? b=some o)->Q (.ref s.heap.objs.size) { s with heap:=h' }):wpAny (model prog w) A (pyIter (.ref v)) Q E s:=by
 obtain ⟨ov,hov,hcv,hdv⟩:=id hv;obtain ⟨o,ho,hx,hdat⟩:=h.ex;refine wpAny_pyIter_slot hv.typeIs F.slot_dict_items_iter <| oF F.slot_dict_items_iter hv.typeIs F.entry_dict_items_iter ?_ (F.args_dict_items_iter_1 _);unfold bV.«dict_items.__iter__» bV.Dict_items.dictOf bV.Dict_items.newIterator;refine ak <| aG <| ak <| ak <| eL hov hdv (x:=.ref d) rfl <| aG <| ak <| ak <| mr ho hdat <| ak <| oN ho hdat ?_;simp only [show rm "dict_itemiterator"=true by decide,if_true];refine iP (aG ⟨_,rfl,"dict_itemiterator",_,⟨_,cr _ rfl,rfl⟩,rk.lookup,?_⟩) ?_
 ·refine q _ ?_ fun b o e=>bd _ e;simpa [rawInt,ic,bV.Dict_items.ownedTupleFields] using cr s.heap (o:={ cls:=.type "dict_itemiterator",data:=.fields #[.none,.bool false,.ref d,.int 0 0,.int es.size 0,.int ep 0,.none,.none] }) rfl
 ·simp only [sizeOk,bV.Dict_items.ownedTupleFields,bt,ax,dQ,vI,j5]; omega
theorem DA {ok ov:Value}{Q:Option Value->Shared->Prop}(hit:ic s.heap it d i es.size ep ok ov) (h:t6 s.heap d es ep) (hi:i<es.size)
  (q:∀h',IsItemIterOut h' it d (i+1) es.size ep es[i].key es[i].val s.heap.objs.size->h'.get? s.heap.objs.size=some { cls:=.type "tuple",data:=.seq #[es[i].key,es[i].val] } ->
   (∀b o,b≠it->s.heap.get? b=some o->h'.get? b=some o)->Q (some (.ref s.heap.objs.size)) { s with heap:=h' }):wpAny (model prog w) A (pyNext (.ref it)) Q E s:=by
 obtain ⟨o,ho,hx,hdat⟩:=h.ex;obtain ⟨hp,g,dr,tk,os⟩:=s;have ty:∀{h':Heap}{ok ov:Value}{j:Nat},ic h' it d j es.size ep ok ov->Shared.TypeIs ⟨h',g,dr,tk,os⟩ (.ref it) "dict_itemiterator":=fun x=>⟨_,x,rfl⟩;have hT:=ty hit;have own:rm "dict_itemiterator"=true:=by decide
 unfold pyNext;refine ak <| oO <| km (name:=kj "__next__") hT rk <| oF rk hT F.entry_dict_itemiterator_next ?_ (F.args_dict_itemiterator_next_1 _);refine ak <| aG <| ak <| ak ?_
 first | refine ak <| vk hT <| aG ?_ | refine ak <| vj hT <| aG ?_
 refine ak <| vi hit rfl ?_;simp only [own,if_true];show wpAny _ _ (if (Value.ref d == Value.none)=true then _ else _) _ _ _
 rw [if_neg (show ¬((Value.ref d == Value.none)=true) from fW)];refine ak <| aG <| ak <| mr ho hdat ?_;rw [if_neg (by simp)];refine ak <| aG <| ak <| oN ho hdat ?_;rw [if_neg (by simp)];refine aG ?_;simp only [show ¬((i:Int)<0) from by omega,if_false,iR,Array.getElem?_eq_getElem hi];refine ak ?_
 first | refine ak <| vk hT <| aG ?_ | refine ak <| vj hT <| aG ?_
 refine ak <| wpAny_isOneOf_itemiter hT ?_;show wpAny _ _ (vh (.ref it) 3 (rawInt ((i:Int)+1)) >>= _) _ _ ⟨hp,g,dr,tk,os⟩;refine ak <| ie hit (by simp) fun h1 e1 s1=>?_;have s1:ff it hp h1:=s1;have e1:ic h1 it d (i+1) es.size ep ok ov:=by
  have z:((i+1:Nat):Int)=(i:Int)+1:=by omega
  unfold ic; rw [z]; simpa [rawInt] using e1
 have T1:=ty e1;refine ak <| kr <| ak <| wpAny_isOneOf_itemiter T1 <| ak <| wpAny_isOneOf_itemiter T1 ?_;show wpAny _ _ (bV.Dict_items.pairFromOwner (.ref it) 6 es[i].key es[i].val) _ _ ⟨h1,g,dr,tk,os⟩;unfold bV.Dict_items.pairFromOwner;refine ak <| wpAny_newTuple ?_;have e2:ic (h1.push { cls:=.type "tuple",data:=.seq #[es[i].key,es[i].val] }) it d (i+1) es.size ep ok ov:=bd _ e1;have z1:h1.objs.size=hp.objs.size:=s1.1;have t2:(h1.push { cls:=.type "tuple",data:=.seq #[es[i].key,es[i].val] }).get? hp.objs.size=some { cls:=.type "tuple",data:=.seq #[es[i].key,es[i].val] }:=by rw [<-z1]; exact cr _ rfl
 have k2:∀b o,b≠it->hp.get? b=some o->(h1.push { cls:=.type "tuple",data:=.seq #[es[i].key,es[i].val] }).get? b=some o:=fun b o hb e=>bd _ (s1.extBut b o hb e);rw [z1];generalize h1.push { cls:=.type "tuple",data:=.seq #[es[i].key,es[i].val] }=h2 at e2 t2 k2;show wpAny _ _ (bV.Dict_items.ownedTupleIsFree (.ref it) >>= _) _ _ ⟨h2,g,dr,tk,os⟩;have lt:it<hp.objs.size:=aT hit;have ne:hp.objs.size≠it:=fS lt;refine ak ?_;unfold bV.Dict_items.ownedTupleIsFree;refine ak <| eL e2 rfl (x:=.none) rfl <| aG ?_;simp only [if_true];refine ak <| eL e2 rfl (x:=ok) rfl <| ak <| eL e2 rfl (x:=ov) rfl <| ak <| ie e2 (by simp) fun h3 e3 s3=>?_;have s3:ff it h2 h3:=s3;have e3:ic h3 it d (i+1) es.size ep es[i].key ov:=e3;refine ak <| ie e3 (by simp) fun h4 e4 s4=>?_;have s4:ff it h3 h4:=s4;have e4:ic h4 it d (i+1) es.size ep es[i].key es[i].val:=e4;refine ak <| ie e4 (by simp) fun h5 e5 s5=>?_;have s5:ff it h4 h5:=s5;have e5:IsItemIterOut h5 it d (i+1) es.size ep es[i].key es[i].val hp.objs.size:=e5;refine ak <| ie e5 (by simp) fun h6 e6 s6=>?_;have s6:ff it h5 h6:=s6;have e6:IsItemIterOut h6 it d (i+1) es.size ep es[i].key es[i].val hp.objs.size:=e6;have up:∀b o,b≠it->h2.get? b=some o->h6.get? b=some o:=fun b o hb e=>s6.extBut b o hb <| s5.extBut b o hb <| s4.extBut b o hb <| s3.extBut b o hb e;exact ak <| vz <| aG <| aG ⟨_,rfl,aG <| q h6 e6 (up _ _ ne t2) fun b o hb e=>up b o hb (k2 b o hb e)⟩
theorem Ft {ok ov:Value}{Q:Option Value->Shared->Prop}(hh:A.handled=none) (hit:ic s.heap it d i es.size ep ok ov) (h:t6 s.heap d es ep) (hi:es.size<=i)
  (q:∀h',Heap.ExtBut it s.heap h'->Q none { s with heap:=h' }):wpAny (model prog w) A (pyNext (.ref it)) Q E s:=by
 obtain ⟨o,ho,hx,hdat⟩:=h.ex;have hT:s.TypeIs (.ref it) "dict_itemiterator":=⟨_,hit,rfl⟩;have own:rm "dict_itemiterator"=true:=by decide
 unfold pyNext;refine ak <| oO <| km (name:=kj "__next__") hT rk <| oF rk hT F.entry_dict_itemiterator_next ?_ (F.args_dict_itemiterator_next_1 _);refine ak <| aG <| ak <| ak ?_
 first | refine ak <| vk hT <| aG ?_ | refine ak <| vj hT <| aG ?_
 refine ak <| vi hit rfl ?_;simp only [own,if_true];show wpAny _ _ (if (Value.ref d == Value.none)=true then _ else _) _ _ _
 rw [if_neg (show ¬((Value.ref d == Value.none)=true) from fW)];refine ak <| aG <| ak <| mr ho hdat ?_;rw [if_neg (by simp)];refine ak <| aG <| ak <| oN ho hdat ?_;rw [if_neg (by simp)];refine aG ?_;simp only [show ¬((i:Int)<0) from by omega,if_false,iR,Array.getElem?_eq_none hi];refine ak ?_
 first | refine ak <| vk hT <| aG ?_ | refine ak <| vj hT <| aG ?_
 show wpAny _ _ (vh (.ref it) 2 .none >>= _) _ _ s;refine ak <| rD hit rfl (by simp) ?_;show wpAny _ _ (newExc (.type "StopIteration") [] >>= _) _ _ _;refine ak ?_;simp only [newExc,newTuple];refine ak <| iP ?_ (by size_fits);refine ak (m:=oP _ _) <| wpAny_of_eq (a:=Value.none) (by first | rfl | (simp only [oP]; rfl)) <| iP ?_ (by size_fits)
 simp only [raiseNew];refine ak <| wpAny_handled ?_;rw [show A.in1.handled=none from hh];refine ak <| aG <| wpAny_throw ?_;refine ak (xk (b:=true) (T:="StopIteration") ⟨_,cr _ rfl,rfl⟩ isSubtype_stop (aG (q _ (((ki ..).extBut.push _).push _))))
end
def Gg (d:Addr) (o:Obj) (u:HO) (n:Nat) (ent:Nat->Hp->V->V->Prop):It :=
 ⟨fun i H=>H d=some (.frz o u)/\i<n,fun i H x H'=>∃p a b,H p=none/\x=.ref p/\ent i H a b/\H'=upd H p (.tup [a,b]),fun i H=>H d=some (.frz o u)/\n<=i⟩
structure EN (P:bF) (w:World) (K:Za) (d:Addr) (o:Obj) (u:HO) (n:Nat) (ent:Nat->Hp->V->V->Prop) (es:Array iQ) (ep:Nat):Prop where
 ex:o.ExactDict
 dat:o.data=.dict es ep
 sz:es.size=n
 get:∀{H:Hp}{h:Heap}{i:Nat}(hi:i<es.size),lI P w K H h->H d=some (.frz o u)->∃a b,ent i H a b/\RelV a es[i].key/\RelV b es[i].val
theorem y9 {P:bF}{w:World}{K:Za}{xs:List Expr}{kx:Nat}{J7:Pos}{d it:Addr}{o:Obj}{u:HO}{n:Nat}{ent:Nat->Hp->V->V->Prop}{es:Array iQ}{ep:Nat}(X0:EN P w K d o u n ent es ep) :
  qC P w K (.Tuple xs kx J7) (Gg d o u n ent) [it] it (fun i h=>∃ok ov,ic h it d i n ep ok ov) where
 mem:=by simp
 obj:=fun i h ⟨ok,ov,st⟩ b hb=>by
  have e:b=it:=by simpa using hb
  subst e;exact ⟨_,st,fun v z=>by cases z⟩
 keep:=fun i h h' ⟨ok,ov,st⟩ k=>⟨ok,ov,k it (by simp) _ st⟩
 item:=by
  intro X hP hw hK hc i J3 s σ H E I hf ⟨ok,ov,st⟩ hg;subst hP hw hK;obtain ⟨hd,hi⟩:=hg;have hi':i<es.size:=by rw [X0.sz]; exact hi
  obtain ⟨g,ou⟩:=(show bO X.prog X.w X.K H s.heap d (.frz o u) from I.hok d _ hd);obtain ⟨a,b,en,ra,rb⟩:=X0.get hi' I.hok hd;obtain ⟨f0,f1,f2,f3,f4,f5⟩:=hf it (by simp);rw [<-X0.sz] at st;refine DA st ⟨o,g,X0.ex,X0.dat⟩ hi' fun h' ho' ht' hk'=>?_;refine ⟨_,rfl,wpAny_letOwnedTupleGo_items (s:={ s with heap:=h' }) ho' fun h2 he2 hs2=>?_⟩;have hs2':ff it h' h2:=hs2;have hpe:s.heap.objs.size≠it:=fS (aT st);have ht2:h2.get? s.heap.objs.size=some { cls:=.type "tuple",data:=.seq #[es[i].key,es[i].val] }:=hs2'.extBut _ _ hpe ht';have hn0:H s.heap.objs.size=none:=I.fresh;have I2:Inv X J3 σ (upd H s.heap.objs.size (.tup [a,b])) { s with heap:=h2,toks:=s.toks }:=by
   refine I.turnedNew (ch:=[it]) hf (fun c o hb q=>?_) ⟨_,ht2⟩ (fun _ z=>nomatch z) ⟨by show 2<=aj; decide,[es[i].key,es[i].val],.cons ra (.cons rb .nil),⟨_,ht2,rfl,_,rfl⟩⟩;have nb1:c≠it:=fun z=>hb (by simp [z]);exact hs2'.extBut _ _ nb1 (hk' c o nb1 q)
  refine ⟨.ref s.heap.objs.size,_,I2,rfl,⟨_,a,b,hn0,rfl,en,rfl⟩,⟨_,_,by rw [<-X0.sz]; exact he2⟩,fun c hb=>?_⟩;have e:c=it:=by simpa using hb
  subst e;rw [af (c9 hpe)];exact f0
 done:=by
  intro X hP hw hK hc i J3 s σ H E I hf ⟨ok,ov,st⟩ hg;subst hP hw hK;obtain ⟨hd,hi⟩:=hg;obtain ⟨g,ou⟩:=(show bO X.prog X.w X.K H s.heap d (.frz o u) from I.hok d _ hd);obtain ⟨f0,f1,f2,f3,f4,f5⟩:=hf it (by simp);rw [<-X0.sz] at st;exact Ft (I.ok.hd hc) st ⟨o,g,X0.ex,X0.dat⟩ (by rw [X0.sz]; exact hi) fun h' eb=>⟨rfl,I.turned (t':=s.toks) (fun b o hb e=>eb b o hb e) f0 f1 f3 f4 f5⟩
 self:=fun _ _ _ _ _ ⟨_,_,st⟩ h=>PySem.W.kcp_self st h
def Al (K:Za) (kvs:List (TK×V)):Nat->Hp->V->V->Prop:=fun i H a b=>∃k,kvs[i]?=some (k,b)/\mR K H k a
theorem lE {P:bF}{w:World}{K:Za}{H:Hp}{h:Heap}{d:Addr}{o:Obj}{kvs:List (TK×V)}(hok:lI P w K H h) (e:H d=some (.frz o (.dT kvs))) :
  (d == fT)=false/\∃es ep,EN P w K d o (.dT kvs) kvs.length (Al K kvs) es ep:=by
 obtain ⟨g,z,hsys,xs,rel,o',es,ep,ho',ex,hd,hes,nd⟩:=(show bO P w K H h d (.frz o (.dT kvs)) from hok d _ e);rw [g] at ho';cases ho';have hl:es.size=xs.length:=by rw [<-lY,hes,ai]
 refine ⟨hsys,es,ep,ex,hd,by rw [hl,Paired.length rel],fun {H' h' i} hi hok' e'=>?_⟩;obtain ⟨g',z',hsys',xs',rel',o'',es',ep',ho'',ex',hd',hes',nd'⟩:=(show bO P w K H' h' d (.frz o (.dT kvs)) from hok' d _ e');rw [g'] at ho'';cases ho'';rw [hd] at hd';cases hd';have hl':es.size=xs'.length:=by rw [<-lY,hes',ai]
 have hi':i<xs'.length:=by omega
 have hk:i<kvs.length:=by rw [Paired.length rel']; exact hi'
 have hp:=uB rel' (i:=i) (a:=kvs[i]) (b:=xs'[i]) (by simp [hk]) (by simp [hi']);have he:es[i]=entryOfKey (dE P w) xs'[i]:=by
  have:es.toList[i]?=some es[i]:=by simp [hi]
  rw [hes',bQ,br hi'] at this;injection this with this;exact this.symm
 refine ⟨.ref xs'[i].2.1,kvs[i].2,⟨kvs[i].1,by simp [hk],hp.2.1⟩,?_,?_⟩
 ·rw [he]; exact rfl
 ·rw [he]; exact hp.2.2.2
def wH (K:Za) (tl:TE):TI:=fun σ H R=>tl σ H fun x H1=>∃d kvs,x=.ref d /\
 ((H1 d=some (.dT kvs)/\∀o,R (Gg d o (.dT kvs) kvs.length (Al K kvs)) (upd H1 d (.frz o (.dT kvs))))∨∃o,H1 d=some (.frz o (.dT kvs))/\R (Gg d o (.dT kvs) kvs.length (Al K kvs)) H1)
section
variable {X:Cx}{J3:Zd}{σ:St}{l:Expr}{tl:TE}{J5 J4 J7:Pos}{xs:List Expr}{kx:Nat}
theorem sK {R:It->Hp->Prop}{H2:Hp}{s1:Shared}{d:Addr}{o:Obj}{u:HO}{n:Nat}{ent:Nat->Hp->V->V->Prop}{es:Array iQ}{ep:Nat}(X0:EN X.prog X.w X.K d o u n ent es ep) (hsys:(d == fT)=false) (I2:Inv X J3 σ H2 s1) (e:H2 d=some (.frz o u)) (q:R (Gg d o u n ent) H2) :
  MethodOn X.prog X.w X.A "items" J4 (.ref d) [] (fun v s2=>wpAny (model X.prog X.w) X.A (pyIter v) (HV X J3 σ (.Tuple xs kx J7) R) X.xe s2) X.xe s1:=by
 obtain ⟨g,_⟩:=(show bO X.prog X.w X.K H2 s1.heap d (.frz o u) from I2.hok d _ e);have raw:t6 s1.heap d es ep:=⟨o,g,X0.ex,X0.dat⟩;refine ⟨"dict","dict.items",F.plainAttrs_dict,F.slot_dict_items,F.type_dict_items,raw.ty,fun a z=>?_,rJ rfl (PySem.evalArgs_none (Ch raw hsys ?_))⟩
 ·cases z; exact ⟨o,g,X0.ex.2.1⟩
 refine DC (s:={ s1 with heap:=s1.heap.push { cls:=.type "dict_items",data:=.fields #[.ref d] } }) ⟨_,cr _ rfl,rfl,rfl⟩ ⟨o,bd _ g,X0.ex,X0.dat⟩ fun h' hit hk=>?_;have I3:Inv X J3 σ H2 { s1 with heap:=h',toks:=s1.toks }:=I2.kept (t':=s1.toks) fun b o e=>hk b o (bd _ e);refine ⟨_,[_],_,_,H2,rfl,I3,y9 X0,⟨_,_,by rw [<-X0.sz]; exact hit⟩,fun b hb=>?_,q⟩;have e:b=(s1.heap.push { cls:=.type "dict_items",data:=.fields #[.ref d] }).objs.size:=by simpa using hb
 subst e;have z:s1.heap.objs.size<=(s1.heap.push { cls:=.type "dict_items",data:=.fields #[.ref d] }).objs.size:=by rw [nA]; exact lX _
 exact I2.fpOk z (I2.hok.fresh z)
theorem uz (hl:PE X l tl) (hbase:qU l "items" X.env (eval l X.env)=eval l X.env:=by rfl) (hline:(J5.endLine == J4.line)=true:=by rfl):PI X (.Tuple xs kx J7) (.Call (.Attribute l "items" J5) [] [] J4) (wH X.K tl):=by
 intro J3 s σ H R I h;refine wpAny_Call_method0_late hbase hline (cf (hl J3 s σ H _ I h) fun v s1 ⟨x,H1,I1,r1,d,kvs,ex,q⟩=>?_);subst ex;cases r1;rcases q with ⟨e,q⟩ | ⟨o,e,q⟩
 ·obtain ⟨z,hsys,xs',rel,o,es,ep,ho,r⟩:=id (show bO X.prog X.w X.K H1 s1.heap d (.dT kvs) from I1.hok d _ e);have I2:Inv X J3 σ (upd H1 d (.frz o (.dT kvs))) { s1 with heap:=s1.heap,toks:=s1.toks } :=
   I1.write (x:=d) (e:=d) (t':=s1.toks) (by rw [e]; trivial) (.inl rfl) (fun _ _ _ q=>q) ⟨o,ho⟩ ⟨ho,z,hsys,xs',Paired.mapP rel (fun p q r=>⟨r.1,mR.keeps (fun b ys eb=>by rw [af (fun z=>by rw [z,e] at eb; cases eb)]; exact eb) 8 r.2.2.1 r.2.1,r.2.2⟩),o,es,ep,ho,r⟩
  obtain ⟨hsys',es',ep',X0⟩:=lE I2.hok (aa (H:=H1) (a:=d));exact sK X0 hsys' I2 aa (q o)
 ·obtain ⟨hsys',es',ep',X0⟩:=lE I1.hok e;exact sK X0 hsys' I1 e q
end
def v2 (K:Za) (tk tv:TE):TE:=fun σ H Q=>∀p,H p=none->tk σ (upd H p (.dT [])) fun x H1=>tv σ H1 fun y H2=>H2 p=some (.dT [])/\∃b k,x=.ref b/\mR K H2 k (.ref b)/\k.depth<=8/\Q (.ref p) (upd H2 p (.dT [(k,y)]))
theorem uA {X:Cx}{pos:Pos}{k v:Expr}{tk tv:TE}(hu:X.A.units+16<cLine) (hk:PE X k tk) (hv:PE X v tv):PE X (.Dict [some k] [v] pos) (v2 X.K tk tv):=by
 intro J3 s σ H Q I q;have hn:=I.hok.fresh (aD s.heap.objs.size);have I1:=I.laid (a:=s.heap.objs.size) (o:=.dT []) (h':=s.heap.push { cls:=.type "dict",data:=.dict #[] }) (t':=s.toks) (fun _ _ q=>bd _ q) (aD _) (yE s.heap I.big);rw [arm_eval_Dict,zip_pairTrees [some k] [v] X.env pos rfl rfl,dictDisplay_pairs (pairTrees [some k] [v] X.env pos) (by unfold pairTrees; simp) (by show 1<17; decide)];refine ak (AS (ak ?_));unfold subDict;refine ak (wpAny_alloc ?_);refine ak (kr ?_);rw [if_pos (show (pairTrees [some k] [v] X.env pos).length<=15 from by show 1<=15; decide)];refine ak (pairTrees_cons_walk (cf (hk J3 _ σ _ _ I1 (q _ hn)) fun u s1 ⟨x,H1,I1,rx,q1⟩=>cf (hv J3 s1 σ H1 _ I1 q1) fun r s2 ⟨y,H2,I2,ry,e,b,kk,ex,eb,e8,q2⟩=>pairTrees_nil_walk ?_));subst ex;cases rx;refine kr ?_;obtain ⟨z,hd,xs,rel,dd⟩:=By I2.hok I2.kIn e;cases rel;rw [oR];refine ak (ak (ak (wpAny_dictSet_heap (hsz:=c8 _) (show (dE X.prog X.w).room X.A from by show X.A.units+8<cLine; omega) (sI I2.hok I2.kIn eb e8) dd fun h' dd' hs=>aG ?_)));show wpAny _ _ (forIn [] PUnit.unit _) _ _ _;rw [List.forIn_nil];refine aG (aG (aG (aG ⟨.ref s.heap.objs.size,_,?_,rfl,q2⟩)));obtain ⟨q,es,ep,hq,h2,h3,h4,_,h5⟩:=dd';refine oq I2 (by rw [e]; exact iD) hs ⟨q,hq⟩ ⟨by show 1<=aj; decide,hd,_,((KT.put (kvs:=[]) .nil kk eb e8 ry)).keeps fun c ys ec=>?_,q,es,ep,hq,h2,h3,h4,h5⟩;rw [af (Bq ec e (fun z=>nomatch z))];exact ec
section
variable {prog:bF}{w:World}{A:Around}{E:Zc}{s:Shared}{d v it:Addr}{es:Array iQ}{ep i:Nat}
theorem Cg {Q:Zc}(hd:(d == fT)=false) (h:t6 s.heap d es ep)
  (q:∀h',h'.IsKeyIter s.heap.objs.size d 0 es.size ep->(∀b o,s.heap.get? b=some o->h'.get? b=some o)->Q (.ref s.heap.objs.size) { s with heap:=h' }):wpAny (model prog w) A (pyIter (.ref d)) Q E s:=by
 obtain ⟨o,ho,hx,hdat⟩:=h.ex;refine wpAny_pyIter_slot h.ty F.slot_dict_iter <| oF F.slot_dict_iter h.ty F.entry_dict_iter ?_ (F.args_dict_iter_1 _);unfold bV.«dict.__iter__»;refine ak ?_;unfold bV.Dict.dictSlotNone;refine ak <| vv h.ty <| ?_;refine aG (show wpAny _ _ (vm d >>= _) _ _ s from ?_);unfold vm;rw [if_neg (fun z=>by rw [hd] at z; cases z)];refine ak <| aG <| ak <| mr ho hdat <| ak <| oN ho hdat ?_;refine ak (iP (aG ⟨_,rfl,"dict_keyiterator",_,⟨_,cr _ rfl,rfl⟩,rj.lookup,?_⟩));exact q _ ⟨_,cr _ rfl,rfl,by simp [rawInt]⟩ fun b o e=>bd _ e
theorem Ce {Q:Option Value->Shared->Prop}(hit:s.heap.IsKeyIter it d i es.size ep) (h:t6 s.heap d es ep) (hi:i<es.size)
  (q:∀h',h'.IsKeyIter it d (i+1) es.size ep->ff it s.heap h'->Q (some es[i].key) { s with heap:=h' }):wpAny (model prog w) A (pyNext (.ref it)) Q E s:=by
 obtain ⟨ov,hov,hcv,hdv⟩:=id hit;obtain ⟨o,ho,hx,hdat⟩:=h.ex;have hT:=hit.typeIs;unfold pyNext;refine ak <| oO <| km (name:=kj "__next__") hT rj <| oF rj hT F.entry_dict_keyiterator_next ?_ (F.args_dict_keyiterator_next_1 _);refine ak <| aG <| ak <| ak ?_
 first | refine ak <| vg hT <| aG ?_ | refine ak <| vf hT <| aG ?_
 refine ak <| vi hov hdv ?_;simp only [show rm "dict_keyiterator"=false by decide,kz,if_false];show wpAny _ _ (if (Value.ref d == Value.none)=true then _ else _) _ _ _
 rw [if_neg (show ¬((Value.ref d == Value.none)=true) from fW)];refine ak <| aG <| ak <| mr ho hdat ?_;rw [if_neg (by simp)];refine ak <| aG <| ak <| oN ho hdat ?_;rw [if_neg (by simp)];refine aG ?_;simp only [show ¬((i:Int)<0) from by omega,if_false,iR,Array.getElem?_eq_getElem hi];refine ak ?_
 first | refine ak <| vg hT <| aG ?_ | refine ak <| vf hT <| aG ?_
 refine ak <| wpAny_isOneOf_keyiter hT ?_;show wpAny _ _ (vh (.ref it) 1 (rawInt ((i:Int)+1)) >>= _) _ _ s;refine ak <| rD hov hdv (by simp) ?_;have n1:(s.heap.update it (Obj.mapFields (·.setIfInBounds 1 (rawInt ((i:Int)+1))))).IsKeyIter it d (i+1) es.size ep:=⟨_,vL _ hov (Obj.isFreed_of_fields (vC hdv _)),(Obj.cls_mapFields ..).trans hcv,by rw [vC hdv]; simp [rawInt]⟩;have T1:=Heap.IsKeyIter.typeIs (s:={ s with heap:=s.heap.update it (Obj.mapFields (·.setIfInBounds 1 (rawInt ((i:Int)+1)))) }) n1;refine ak <| kr <| ak <| wpAny_isOneOf_keyiter T1 ?_;show wpAny _ _ (pure es[i].key) _ _ _;exact aG <| aG ⟨_,rfl,aG <| q _ n1 (ki ..)⟩
theorem DB {Q:Option Value->Shared->Prop}(hh:A.handled=none) (hit:s.heap.IsKeyIter it d i es.size ep) (h:t6 s.heap d es ep) (hi:es.size<=i)
  (q:∀h',Heap.ExtBut it s.heap h'->Q none { s with heap:=h' }):wpAny (model prog w) A (pyNext (.ref it)) Q E s:=by
 obtain ⟨ov,hov,hcv,hdv⟩:=id hit;obtain ⟨o,ho,hx,hdat⟩:=h.ex;have hT:=hit.typeIs;unfold pyNext;refine ak <| oO <| km (name:=kj "__next__") hT rj <| oF rj hT F.entry_dict_keyiterator_next ?_ (F.args_dict_keyiterator_next_1 _);refine ak <| aG <| ak <| ak ?_
 first | refine ak <| vg hT <| aG ?_ | refine ak <| vf hT <| aG ?_
 refine ak <| vi hov hdv ?_;simp only [show rm "dict_keyiterator"=false by decide,kz,if_false];show wpAny _ _ (if (Value.ref d == Value.none)=true then _ else _) _ _ _
 rw [if_neg (show ¬((Value.ref d == Value.none)=true) from fW)];refine ak <| aG <| ak <| mr ho hdat ?_;rw [if_neg (by simp)];refine ak <| aG <| ak <| oN ho hdat ?_;rw [if_neg (by simp)];refine aG ?_;simp only [show ¬((i:Int)<0) from by omega,if_false,iR,Array.getElem?_eq_none hi];refine ak ?_
 first | refine ak <| vg hT <| aG ?_ | refine ak <| vf hT <| aG ?_
 show wpAny _ _ (vh (.ref it) 0 .none >>= _) _ _ s;refine ak <| rD hov hdv (by simp) ?_;show wpAny _ _ (newExc (.type "StopIteration") [] >>= _) _ _ _;refine ak ?_;simp only [newExc,newTuple];refine ak <| iP ?_ (by size_fits);refine ak (m:=oP _ _) <| wpAny_of_eq (a:=Value.none) (by first | rfl | (simp only [oP]; rfl)) <| iP ?_ (by size_fits)
 simp only [raiseNew];refine ak <| wpAny_handled ?_;rw [show A.in1.handled=none from hh];refine ak <| aG <| wpAny_throw ?_;refine ak (xk (b:=true) (T:="StopIteration") ⟨_,cr _ rfl,rfl⟩ isSubtype_stop (aG (q _ (((ki ..).extBut.push _).push _))))
end
def HD (d:Addr) (o:Obj) (u:HO) (n:Nat) (ent:Nat->Hp->V->V->Prop):It :=
 ⟨fun i H=>H d=some (.frz o u)/\i<n,fun i H x H'=>H'=H/\∃b,ent i H x b,fun i H=>H d=some (.frz o u)/\n<=i⟩
theorem BR {P:bF}{w:World}{K:Za}{tg:Expr}{d it:Addr}{o:Obj}{u:HO}{n:Nat}{ent:Nat->Hp->V->V->Prop}{es:Array iQ}{ep:Nat}(X0:EN P w K d o u n ent es ep) :
  qC P w K tg (HD d o u n ent) [it] it (fun i h=>h.IsKeyIter it d i n ep) where
 mem:=by simp
 obj:=fun i h st b hb=>by
  have e:b=it:=by simpa using hb
  subst e;obtain ⟨o,e,c,d⟩:=st;exact ⟨o,e,fun v z=>by rw [d] at z; cases z⟩
 keep:=fun i h h' st k=>st.at fun o e=>k it (by simp) o e
 item:=by
  intro X hP hw hK hc i J3 s σ H E I hf st hg;subst hP hw hK;obtain ⟨hd,hi⟩:=hg;have hi':i<es.size:=by rw [X0.sz]; exact hi
  obtain ⟨g,ou⟩:=(show bO X.prog X.w X.K H s.heap d (.frz o u) from I.hok d _ hd);obtain ⟨a,b,en,ra,rb⟩:=X0.get hi' I.hok hd;obtain ⟨f0,f1,f2,f3,f4,f5⟩:=hf it (by simp);rw [<-X0.sz] at st;refine Ce st ⟨o,g,X0.ex,X0.dat⟩ hi' fun h' st' sb=>?_;have I1:Inv X J3 σ H { s with heap:=h' }:=I.turned (t':=s.toks) (fun b o hb e=>(sb.2 b hb).trans e) f0 f1 f3 f4 f5;obtain ⟨oi,e,c,dd⟩:=id st';exact ⟨_,rfl,uQ (s:={ s with heap:=h' }) e c dd (by decide) ⟨a,H,I1,ra,⟨rfl,b,en⟩,by rw [<-X0.sz]; exact st',fun b hb=>(hf b hb).1⟩⟩
 done:=by
  intro X hP hw hK hc i J3 s σ H E I hf st hg;subst hP hw hK;obtain ⟨hd,hi⟩:=hg;obtain ⟨g,ou⟩:=(show bO X.prog X.w X.K H s.heap d (.frz o u) from I.hok d _ hd);obtain ⟨f0,f1,f2,f3,f4,f5⟩:=hf it (by simp);rw [<-X0.sz] at st;exact DB (I.ok.hd hc) st ⟨o,g,X0.ex,X0.dat⟩ (by rw [X0.sz]; exact hi) fun h' eb=>⟨rfl,I.turned (t':=s.toks) (fun b o hb e=>eb b o hb e) f0 f1 f3 f4 f5⟩
 self:=fun _ _ _ _ _ st h=>wpAny_pyIter_keyiter st h
def Ek (K:Za) (tl:TE):TI:=fun σ H R=>tl σ H fun x H1=>∃d kvs,x=.ref d /\
 ((H1 d=some (.dT kvs)/\∀o,R (HD d o (.dT kvs) kvs.length (Al K kvs)) (upd H1 d (.frz o (.dT kvs))))∨∃o,H1 d=some (.frz o (.dT kvs))/\R (HD d o (.dT kvs) kvs.length (Al K kvs)) H1)
section
variable {X:Cx}{J3:Zd}{σ:St}{l tg:Expr}{tl:TE}
theorem uM {R:It->Hp->Prop}{H2:Hp}{s1:Shared}{d:Addr}{o:Obj}{u:HO}{n:Nat}{ent:Nat->Hp->V->V->Prop}{es:Array iQ}{ep:Nat}(X0:EN X.prog X.w X.K d o u n ent es ep) (hsys:(d == fT)=false) (I2:Inv X J3 σ H2 s1) (e:H2 d=some (.frz o u)) (q:R (HD d o u n ent) H2) :
  wpAny (model X.prog X.w) X.A (pyIter (.ref d)) (HV X J3 σ tg R) X.xe s1:=by
 obtain ⟨g,_⟩:=(show bO X.prog X.w X.K H2 s1.heap d (.frz o u) from I2.hok d _ e);refine Cg hsys ⟨o,g,X0.ex,X0.dat⟩ fun h' hit hk=>?_;have I3:Inv X J3 σ H2 { s1 with heap:=h',toks:=s1.toks }:=I2.kept (t':=s1.toks) hk;refine ⟨_,[_],_,_,H2,rfl,I3,BR X0,by rw [<-X0.sz]; exact hit,fun b hb=>?_,q⟩;have e:b=s1.heap.objs.size:=by simpa using hb
 subst e;exact I2.fpOk (aD _) (I2.hok.fresh (aD _))
theorem DO (hl:PE X l tl):PI X tg l (Ek X.K tl):=by
 intro J3 s σ H R I h;refine cf (hl J3 s σ H _ I h) fun v s1 ⟨x,H1,I1,r1,d,kvs,ex,q⟩=>?_;subst ex;cases r1;rcases q with ⟨e,q⟩ | ⟨o,e,q⟩
 ·obtain ⟨z,hsys,xs',rel,o,es,ep,ho,r⟩:=id (show bO X.prog X.w X.K H1 s1.heap d (.dT kvs) from I1.hok d _ e);have I2:Inv X J3 σ (upd H1 d (.frz o (.dT kvs))) { s1 with heap:=s1.heap,toks:=s1.toks } :=
   I1.write (x:=d) (e:=d) (t':=s1.toks) (by rw [e]; trivial) (.inl rfl) (fun _ _ _ q=>q) ⟨o,ho⟩ ⟨ho,z,hsys,xs',Paired.mapP rel (fun p q r=>⟨r.1,mR.keeps (fun b ys eb=>by rw [af (fun z=>by rw [z,e] at eb; cases eb)]; exact eb) 8 r.2.2.1 r.2.1,r.2.2⟩),o,es,ep,ho,r⟩
  obtain ⟨hsys',es',ep',X0⟩:=lE I2.hok (aa (H:=H1) (a:=d));exact uM X0 hsys' I2 aa (q o)
 ·obtain ⟨hsys',es',ep',X0⟩:=lE I1.hok e;exact uM X0 hsys' I1 e q
end
end L2
end

section
set_option Elab.async false
set_option linter.all false
set_option maxRecDepth 100000
namespace HT
open PySem PySem.Spec PyProof.Rows
end HT
namespace L2
open PySem PySem.Spec PyProof.Rows
end L2
namespace HT
open PySem PySem.Spec PyProof.Rows
end HT
namespace L2
open PySem PySem.Spec PyProof.Rows
end L2
end

section
set_option Elab.async false
set_option linter.all false
set_option maxRecDepth 100000
namespace HT
open PySem PyProof.Rows
section
open PySem.SeqAt
open PySem.AutoSeq1 (wpAny_loadPart')
open PySem.MeetsSeq PySem.MeetsSeq2 PySem.MeetsSeq3
theorem ints_drop {its:Zf}{i:Nat}{ns:List Int}(h:fB (its.drop i) ns):(ns=[]/\its.length<=i)∨∃a t r,its[i]?=some (.int a t)/\ns=a::r/\fB (its.drop (i+1)) r:=by
 rcases dZ i its.length with z | z
 ·rw [rq z] at h;generalize e:its[i]=v at h;cases h with
  | cons a t h'=>exact .inr ⟨a,t,_,by rw [br z,e],rfl,h'⟩
 ·rw [List.drop_eq_nil_of_le z] at h;cases h;exact .inl ⟨rfl,z⟩
theorem lt_loop (l b:Addr) (its its2:Zf) (n n2:Nat) (dd dd2:Option Addr) (sl sl2:Array (Option Value)):∀(ns ms:List Int) (i:Nat),fB (its.drop i) ns->fB (its2.drop i) ms->its.length+ms.length=its2.length+ns.length ->
  Meets (bV.«list.__eq__.loop» ⟨[.ref l,.ref b,rawInt i,rawInt 0],[]⟩)
   (fun _ R s=>s.heap.get? l=some { cls:=.type "list",dict:=dd,data:=.seq its.toArray n,slots:=sl }/\s.heap.get? b=some { cls:=.type "list",dict:=dd2,data:=.seq its2.toArray n2,slots:=sl2 }/\R (.ok (.ret (.bool (lexLt ns ms)))) s):=by
 intro ns
 induction ns with
 | nil =>
  intro ms i h1 h2 hz prog w A R s h;obtain ⟨hp,g,d,tk,os⟩:=s; obtain ⟨hl,hb,h⟩:=h
  wp_walk using gL hl,gL hb
  rcases ints_drop h1 with ⟨_,z⟩ | ⟨_,_,_,_,e,_⟩
  ·have e1:its.toArray[((i:Nat):Int).toNat]?=none:=by simp; omega
   rw [e1]
   wp_walk using gL hl,gL hb
   show R (.ok (.ret (.bool (decide (its.toArray.size<its2.toArray.size))))) _;have e2:decide (its.toArray.size<its2.toArray.size)=lexLt [] ms:=by
    simp only [bt];cases ms with
    | nil=>exact zzr0 (by simp at hz; omega)
    | cons m ms=>exact zzr1 (by simp at hz; omega)
   rw [e2]; exact h
  ·cases e
 | cons a ns ih =>
  intro ms i h1 h2 hz prog w A R s h;obtain ⟨hp,g,d,tk,os⟩:=s; obtain ⟨hl,hb,h⟩:=h
  wp_walk using gL hl,gL hb
  rcases ints_drop h1 with ⟨e,_⟩ | ⟨a',t,r,g1,e,h1'⟩
  ·cases e
  cases e;have e1:its.toArray[((i:Nat):Int).toNat]?=some (.int a t):=by simpa using g1
  rw [e1];rcases ints_drop h2 with ⟨e,z⟩ | ⟨c,u,r2,g2,e,h2'⟩
  ·subst e;have e2:its2.toArray[((i:Nat):Int).toNat]?=none:=by simp; omega
   rw [e2]
   wp_walk using gL hl,gL hb
   show R (.ok (.ret (.bool (decide (its.toArray.size<its2.toArray.size))))) _;rw [zzr0 (by simp only [bt]; simp at hz; omega)];exact h
  subst e;have e2:its2.toArray[((i:Nat):Int).toNat]?=some (.int c u):=by simpa using g2
  rw [e2];rw [lexLt_cons] at h;obtain ⟨e,he,hiff⟩:=eqAt_int A.in1 ⟨hp,g,d,tk,os⟩ a t c u;refine ak (he prog w _ _ ?_);have hc:((i:Int)+1)=((i+1:Nat):Int):=by push_cast; rfl
  cases e with
  | true =>
   rw [if_pos (hiff.mp rfl)] at h
   wp_walk
   rw [hc];exact ⟨vo plain_eq_loop _,vt entry_eq_loop (by
    rw [vq plain_eq_loop _];exact ih r2 (i+1) h1' h2' (by simp at hz; omega) prog w A R _ ⟨hl,hb,h⟩)⟩
  | false =>
   rw [if_neg (fun q=>absurd (hiff.mpr q) fW)] at h
   wp_walk using gL hl,gL hb
   rw [e1,e2];have hri:=rcLt_int A.in1 ⟨hp,g,d,tk,os⟩ a t c u prog w
   wp_walk using hri
   exact h
theorem list_lt_ints (l b:Addr) (its its2:Zf) (n n2:Nat) (dd dd2:Option Addr) (sl sl2:Array (Option Value)) (ns ms:List Int) (h1:fB its ns) (h2:fB its2 ms) :
  Meets (bV.«list.__lt__» ⟨[.ref l,.ref b],[]⟩)
   (fun _ R s=>s.heap.get? l=some { cls:=.type "list",dict:=dd,data:=.seq its.toArray n,slots:=sl }/\s.heap.get? b=some { cls:=.type "list",dict:=dd2,data:=.seq its2.toArray n2,slots:=sl2 }/\R (.ok (.ret (.bool (lexLt ns ms)))) s):=by
 intro prog w A R s h;obtain ⟨hp,g,d,tk,os⟩:=s; obtain ⟨hl,hb,h⟩:=h;have f2:=AutoSeq1.sub_list_list
 wp_walk using gL hl,gL hb
 exact ⟨vo plain_eq_loop _,vt entry_eq_loop (by
  rw [vq plain_eq_loop _];exact lt_loop l b its its2 n n2 dd dd2 sl sl2 ns ms 0 h1 h2 (by rw [<-h1.length,<-h2.length]; omega) prog w A R _ ⟨hl,hb,h⟩)⟩
end
end HT
namespace L2
open PySem PySem.Spec PyProof.Rows
section
variable {X:Cx}
def Hk (K:Za):R2:=fun x y H Q=>∃a b ns ms,x=.ref a/\y=.ref b/\aB K H a (ns.map V.int)/\aB K H b (ms.map V.int)/\Q (.bl (HT.lexLt ns ms)) H
theorem GR (hu:X.A.units+16<cLine):nv X (dY .Lt) (Hk X.K):=by
 intro J3 s σ H x y v u Q I rx ry h;obtain ⟨a,b,ns,ms,rfl,rfl,ha,hb,q⟩:=h;cases rx;cases ry;obtain ⟨its,r1,p1,_⟩:=I.list ha;obtain ⟨its2,r2,p2,_⟩:=I.list hb;have i1:fB its ns:=intsAre_of r1;have i2:fB its2 ms:=intsAre_of r2;obtain ⟨⟨cls,dd,data,sl⟩,n,ho,hc,hd,he⟩:=id p1;obtain ⟨⟨cls2,dd2,data2,sl2⟩,n2,ho2,hc2,hd2,he2⟩:=id p2;simp only at hc hd hc2 hd2 he he2;subst hc hd hc2 hd2 he he2;exact richCompare_meets_room (op:=.Lt) ⟨_,ho,rfl⟩ ⟨_,ho2,rfl⟩ PySem.F.slot_list_lt PySem.F.entry_list_lt (PySem.F.args_list_lt_2 _ _) (HT.list_lt_ints a b its its2 n n2 none none sl sl2 ns ms i1 i2)
  ⟨ho,ho2,show Value.bool (HT.lexLt ns ms)≠Value.notImplemented/\_ from ⟨(fun x=>nomatch x),.bl _,H,I,rfl,q⟩⟩ (by omega)
def Bc (K:Za):V->List V->Hp->VK->Prop:=fun x vs H Q=>∃l y xs d ds j,x=.ref l/\vs=[y]/\H l=some (.lst xs)/\DIns K H ds xs/\ka K H d y/\d.depth<=8/\DT.depths ds<=8/\xs.length<=1000/\ds[j]?=some d/\(∀m,m<j->ds[m]?≠some d)/\Q (.int (j:Nat)) H
theorem yG {h:Heap}:∀{ks:List DT}{us:Zf}{i:Nat}{k:DT},DAts h ks us->ks[i]?=some k->∃u,us[i]?=some u/\oE h k u
 | [],_,_,_,_,e=>by cases e
 | k::ks,us,0,_,q,e=>by
  obtain ⟨v,us',rfl,h1,_⟩:=q;cases e;exact ⟨v,rfl,h1⟩
 | k::ks,us,i+1,_,q,e=>by
  obtain ⟨v,us',rfl,_,h2⟩:=q;rw [List.getElem?_cons_succ] at e;obtain ⟨u,h3,h4⟩:=yG h2 e;exact ⟨u,by rw [List.getElem?_cons_succ]; exact h3,h4⟩
open Classical in
theorem Co (hu:X.A.units+16<cLine):Gz X "list.index" (Bc X.K):=by
 intro J3 s σ H x vs v us Q I rx rv h;obtain ⟨l,y,xs,d,ds,j,rfl,rfl,hH,hds,hd,d8,ds8,hz,hj,hno,q⟩:=h;cases rx;obtain ⟨u,rfl,ru⟩:=rv.one;obtain ⟨z,its,n,r,hl,e⟩:=I.lstM hH;have hu':X.A.in1.units+8<cLine:=by show X.A.units+1+8<cLine; omega
 have dv:=kU I 8 d8 hd ru;have hi:=lG I ds8 hds r;have lz:ds.length=its.length:=DAts.length hi;have jl:j<its.length:=by rw [<-lz]; exact (bE.1 hj).1
 have at_:∀m (hm:m<its.length),oE s.heap (ds[m]'(by omega)) its[m]:=fun m hm=>by
  obtain ⟨w,hw,q⟩:=yG hi (i:=m) (br (by omega));rw [br hm] at hw;injection hw with hw;rw [hw]; exact q
 refine mx F.slot_list_index ⟨_,e,rfl⟩ F.entry_list_index (F.args_list_index_2 _ _)
  (SeqAt.list_indexAt l its.toArray n none #[] u (fun w=>@decide (oE s.heap d w) (propDecidable _)) j (by simpa using jl) (by omega) ?_ ?_) ⟨e,fun w hw=>pq d8 hu' dv hi ds8 w (by simpa using hw),?_⟩
 ·refine zzr1 ?_;have:=at_ j jl;rw [(bE.1 hj).2] at this;simpa using this
 ·intro m hm lt;have hm':m<its.length:=by simpa using hm
  refine zzr0 fun q=>hno m lt ?_;have e1:=oE.inj 8 d8 (by simpa using q) (at_ m hm');rw [br (by omega),<-e1]
 ·exact ⟨.int (j:Nat),H,I.tok _,⟨_,rfl⟩,q⟩
end
abbrev Hj:List V->Hp->VK->Prop:=fun xs H Q=>∃i j,xs=[.int i,.int j]/\Q (.int (if j > i then j else i)) H
end L2
end
set_option Elab.async false
set_option linter.all false
set_option maxRecDepth 100000
set_option maxHeartbeats 4000000
namespace Mum
open PySem PySem.Spec PyProof.Rows L2
def vX (K:Za) :TS :=
 ao (cH (aX (aL rGeI V0 (aL Gn (tC (.int 10)) (tC (.int 18))))) (bu V0) (bR))
 (ao (aN (aL iH (aL eP (aL eP (aL kI (aL iH V0 (tC (.int 1000000007))) (tC (.int 69069))) (aL kI V1 (tC (.int 40503)))) (tC (.int 977))) (tC (.int 2147483629))) U2)
 (ao (aN (aL iH (aL eP (aL eP (aL kI V2 V2) (aL kI V1 (tC (.int 7919)))) (aL iH V0 (tC (.int 65537)))) (tC (.int 2147483587))) U3)
 (ao (aN (aL iH (aL eP (aL eP (aL kI V3 V3) (aL kI V2 (tC (.int 31)))) (tC (.int 5))) (tC (.int 2147483563))) U4)
 (bu (aL eP (aL kI (aL eP (aL kI V2 (tC (.int 2147483659))) V3) (tC (.int 2147483693))) V4)))))
def w6:List Str:=["cell","at","one","two","three"]
def zg (K:Za) :TS :=
 ao (aN (eZ (da K) (aA (A0 (so K) V0 (fC) (gy (tC (.int 12)))))) U1)
 (ao (fx (uP K (aA (A0 (so K) V0 (gy (tC (.int 12))) (gy (tC (.int 63)))))) (ir K 2 (aY U2 (aY U3 (g8)))) (aN (aL eP (aL (cT K) V1 (aL iH V2 (tC (.int 12)))) V3) (Ai V1 (aL iH V2 (tC (.int 12))) sr)))
 (bu (cY (eX V1 (tC (.int 0)) (tC (.int 0))))))
def AB:List Str:=["script","cells","k","cell"]
def zi (K:Za) :TS :=
 ao (aN (tC (.int 0)) (Ai V0 (tC (.int 2)) sr))
 (bu V0)
def AD:List Str:=["pen"]
def zf (K:Za) (sp_law_spread:Sp):TS :=
 ao (cH (aX (aL zP (aL (cT K) V0 (tC (.int 2))) V1)) (ao (aN (aL (cT K) V0 (tC (.int 1))) U2)
 (ao (aN (tC (.int 0)) U3)
 (ao (cH (aX (aL zP V2 (eZ (d9 K) (aA (aL (cT K) V0 (tC (.int 0))))))) (aN (aL (cT K) (aL (cT K) V0 (tC (.int 0))) V2) U3) (cH (aX (aL DG (eZ (d9 K) (aA (aL (cT K) V0 (tC (.int 0))))) (tC (.int 0)))) (aN (aL iH (aL (cT K) (aL (cT K) V0 (tC (.int 0))) (aL iH (aL eP (aL kI V2 (tC (.int 5))) (tC (.int 3))) (eZ (d9 K) (aA (aL (cT K) V0 (tC (.int 0))))))) (aL eP (aL Gn (tC (.int 10)) (tC (.int 17))) V2)) U3) (bR)))
 (ao (aN (aL eP V2 (tC (.int 1))) (Ai V0 (tC (.int 1)) sr))
 (aN (aM sp_law_spread (aS V3 V2)) (Ai V0 (tC (.int 2)) sr)))))) (bR))
 (ao (aN (aL iH (aL (cT K) V0 (tC (.int 2))) V1) U4)
 (ao (aN (aL DH (aL (cT K) V0 (tC (.int 2))) V1) (Ai V0 (tC (.int 2)) sr))
 (bu V4)))
def AA:List Str:=["pen","many","at","cell","found"]
def xx (K:Za) (sp_law_take:Sp):TS :=
 ao (aN (tC (.str "abcdefghijklmnopqrstuvwxyz")) U2)
 (ao (aN (r9 K "str" (Go K) (tC (.str "")) (aq (d4 1 [2,0] (uO (aA (tC (.int 7)))) U0 (jA) (aL DF V1 (aM sp_law_take (aS V2 (tC (.int 26)))))) bj)) U3)
 (ao (aN (aM sp_law_take (aS V0 (tC (.int 3)))) U4)
 (ao (aN (aM sp_law_take (aS V0 (tC (.int 26)))) U5)
 (ao (aN (aM sp_law_take (aS V0 (tC (.int 8)))) U6)
 (ao (aN (cY (bj)) U7)
 (ao (fx (uO (aA V1)) U8 (ao (aN (aL DF V2 (aL iH (aL eP V5 (aL kI (tC (.int 3)) V8)) (tC (.int 26)))) U9)
 (ao (aN (A0 Fv V3 (fC) (gy (aL iH (aL eP V6 (aL kI V8 (aL iH V4 (tC (.int 2))))) (tC (.int 8))))) Hx)
 (ao (aN (aL (cT K) (cY (eX (tC (.int 0)) (eZ (d9 K) (aA C7)) (aL DH (eZ (d9 K) (aA C7)) (tC (.int 2))))) V4) U11)
 (bH (r9 K "list" cG V7 (aA (aL Gp (aL Gp (A0 Fv C7 (fC) (gy V11)) V9) (A0 Fv C7 (gy V11) (fC))))))))))
 (bu V7)))))))
def yT:List Str:=["pen","many","letters","base","way","turn","size","found","k","sign","part","at"]
def BW (K:Za) :TS :=
 cH (aX (aL (wm K true) V1 V0)) (bH (r9 K "list" cG V0 (aA V1))) (bR)
def CW:List Str:=["doors","door"]
def oZ (K:Za) (sp_law_take:Sp) (sp_law_put:Sp):TS :=
 ao (aN (cY (bj)) U5)
 (ao (aN (aM sp_law_take (aS V0 (tC (.int 2)))) U6)
 (ao (fx (uP K (aA V3)) (ir K 2 (aY U7 (aY U8 (g8)))) (ao (fx (uO (aq (aL (cT K) (cY (aq (tC (.int 0)) (eX (tC (.int 1)) (tC (.int 1)) (tC (.int 2))))) (aM sp_law_take (aS V0 (tC (.int 4))))) bj)) U9 (ao (aN (bB (aq (tC (.str "say")) (aq (aL (cT K) V2 (aM sp_law_take (aS V0 (eZ (d9 K) (aA V2))))) bj))) Hx)
 (bH (aM sp_law_put (aq V5 (aq (bB (aq V8 (aq C7 (aq (aL (cT K) V3 (aM sp_law_take (aS V0 (eZ (d9 K) (aA V3))))) bj)))) bj))))))
 (ao (fx (cD K V1) U11 (fx (uO (aq (aL (cT K) (cY (aq V4 (eX (tC (.int 1)) (tC (.int 1)) (tC (.int 2))))) (aM sp_law_take (aS V0 (tC (.int 4))))) bj)) U9 (bH (aM sp_law_put (aq V5 (aq (bB (aq V8 (aq (bB (aS (tC (.str "ask")) V11)) (aq (aL (cT K) V3 (aM sp_law_take (aS V0 (eZ (d9 K) (aA V3))))) bj)))) bj))))))
 (ao (aN (aL (cT K) (cY (aq (A0 (so K) V3 (gy (aL eP V7 (tC (.int 1)))) (fC)) (aA (A0 (so K) V3 (fC) (gy V7))))) V6) U12)
 (cH (r_ (aX (aL (wk K) V12 (cY (bj)))) (aX (aL zQ (aM sp_law_take (aS V0 (tC (.int 3)))) (tC (.int 0))))) (bH (aM sp_law_put (aq V5 (aq (bB (aq V8 (aq (bB (aA (tC (.str "still")))) (aq (aL (uy K) V12 (aM sp_law_take (aS V0 (eZ (d9 K) (aA V12))))) bj)))) bj)))) (bR))))))
 (bu V5)))
def pL:List Str:=["pen","asks","says","rooms","full","doors","down","k","room","turn","sign","ask","later"]
def xy (K:Za) (sp_law_draw_doors:Sp) (sp_law_names:Sp) (sp_law_take:Sp) (sp_law_anew:Sp):TS :=
 ao (bH (aM sp_law_anew (aA V0)))
 (ao (aN (aM sp_law_names (aS V0 (tC (.int 8)))) U3)
 (ao (aN (A0 (so K) V3 (fC) (gy (aL eP (tC (.int 1)) (aL (cT K) (cY (aq (tC (.int 0)) (aq (tC (.int 1)) (aq (tC (.int 1)) (eX (tC (.int 2)) (tC (.int 2)) (tC (.int 3))))))) (aM sp_law_take (aS V0 (tC (.int 6)))))))) U4)
 (ao (aN (A0 (so K) V3 (gy (tC (.int 4))) (gy (aL eP (tC (.int 5)) (aL (cT K) (cY (aq (tC (.int 0)) (aq (tC (.int 1)) (aq (tC (.int 1)) (eX (tC (.int 2)) (tC (.int 2)) (tC (.int 3))))))) (aM sp_law_take (aS V0 (tC (.int 6)))))))) U5)
 (ao (aN (aM sp_law_names (aS V0 (aL eP (tC (.int 1)) (aM sp_law_take (aq V0 (aA V1)))))) U6)
 (ao (aN (aM sp_law_draw_doors (aq V0 (aq V4 (eX V5 V6 V2)))) U7)
 (bu (bB (aq V4 (eX V5 V6 V7)))))))))
def yU:List Str:=["pen","most","full","words","asks","says","rooms","doors"]
def tE (K:Za) (C_Machine:Addr) (sp_Machine_init:Sp):TS :=
 bu (xA C_Machine sp_Machine_init [] E0 (aq (eZ (da K) (aA (aL (uy K) V0 (tC (.int 0))))) (aq (eZ (da K) (aA (aL (uy K) V0 (tC (.int 1))))) (aq (eZ (da K) (aA (aL (uy K) V0 (tC (.int 2))))) (aq (eZ (da K) (aA (aL (uy K) V0 (tC (.int 3))))) bj)))))
def ue:List Str:=["told"]
def BY (K:Za) :TS :=
 bu (A6 (aL Fw V0 (tC (.str ""))) (A6 (aL rLeI (eZ (d9 K) (aA V0)) (tC (.int 8))) (eZ (Hl K) (aA (d4 1 [] (Hr V0) U0 (jA) (aL rInS V0 (tC (.str "abcdefghijklmnopqrstuvwxyz"))))))))
def CZ:List Str:=["text"]
def BZ (K:Za) :TS :=
 ao (aN (o9) U1)
 (ao (fx (cD K V0) U2 (ma V1 V2 (tC (.bl true))))
 (bu V1))
def C0:List Str:=["things","keys","thing"]
def mC (K:Za) (sp_is_name:Sp) (sp_as_keys:Sp):TS :=
 ao (cH (aX (aL zQ (eZ (d9 K) (aA V0)) (tC (.int 0)))) (bu (tC (.int 0))) (bR))
 (ao (aN (aM sp_as_keys (aA V2)) U3)
 (ao (fx (uP K (aA V0)) (ir K 2 (aY U4 (aY U5 (g8)))) (ao (cH (A2 (aX (aL zQ V4 V1)) (A2 (tB (zB K V5 V3)) (Fc (tB (aM sp_is_name (aA V5)))))) (bu V4) (bR))
 (ma V3 V5 (tC (.bl true)))))
 (bu (tC .non))))
def mU:List Str:=["names","most","taken","ahead","number","name"]
def vZ (K:Za) (a_STILL:Addr):TS :=
 bu (aL pe (aL pe (d4 1 [] (cD K V0) U0 (jA) (bB (aS (tC (.str "ask")) V0))) (d4 1 [] (cD K V1) U0 (jA) (bB (aS (tC (.str "say")) V0)))) (cY (aA (tC (.ref a_STILL)))))
def w_:List Str:=["asks","says"]
def mD (K:Za) (sp_as_keys:Sp):TS :=
 ao (aN (aM sp_as_keys (aA V1)) U3)
 (ao (aN (o8) U4)
 (ao (fx (uP K (aA V0)) (ir K 2 (aY U5 (aY U6 (g8)))) (ao (cH (A2 (aX (aL zQ V5 (tC (.int 2000)))) (tB (zB K V6 V4))) (bu V5) (bR))
 (ao (cH (A2 (tB (fE K (aL (uy K) V6 (tC (.int 0))) V3)) (A2 (aX (aL (wm K true) (aL (uy K) V6 (tC (.int 1))) V2)) (tB (fE K (aL (uy K) V6 (tC (.int 2))) V3)))) (bu V5) (bR))
 (ma V4 V6 (tC (.bl true))))))
 (bu (tC .non))))
def mV:List Str:=["doors","rooms","signs","own_rooms","ahead","number","door"]
def iA (K:Za) :TS :=
 ao (aN (o8) U1)
 (ao (fx (cD K V0) (ir K 3 (aY U2 (aY U3 (aY U4 (g8))))) (bH (r9 K "list" cG (r9 K "dict" Bb V1 (aS (bB (aq V2 (aA V3))) (cY (bj)))) (aA V4))))
 (bu V1))
def iC:List Str:=["doors","goals","start","sign","goal"]
def rP (K:Za) (a_STILL:Addr):TS :=
 ao (aN (o9) U2)
 (ao (aN (cY (aA V1)) U3)
 (ao (mI (aX (aL DG (eZ (d9 K) (aA V3)) (tC (.int 0)))) (ao (aN (Fd K "list" GH V3) U4)
 (fx (Hs K (r8 K V0 (bB (aS V4 (tC (.ref a_STILL)))) (bB (bj)))) U5 (cH (tB (fE K V5 V2)) (ao (ma V2 V5 (tC (.bl true)))
 (bH (r9 K "list" cG V3 (aA V5)))) (bR)))))
 (bu V2)))
def sX:List Str:=["goals","room","led","waiting","here","goal"]
def nD (K:Za) :TS :=
 ao (fx (uP K (aA V0)) (ir K 2 (aY U2 (aY U3 (g8)))) (cH (tB (zB K V3 (gS K V1 V3))) (bu V2) (bR)))
 (bu (tC .non))
def oz:List Str:=["rooms","led","number","room"]
def xv (K:Za) :TS :=
 cH (tB (Dk V1)) (rT) (bR)
def yR:List Str:=["part","number"]
def vV (K:Za) (sp_need_none:Sp) (sp_first_wrong_door:Sp) (sp_door_signs:Sp) (sp_first_wrong_name:Sp):TS :=
 ao (bH (aM sp_need_none (aS (tC (.str "asks")) (aM sp_first_wrong_name (eX V0 (tC (.int 4)) (cY (bj)))))))
 (ao (bH (aM sp_need_none (aS (tC (.str "says")) (aM sp_first_wrong_name (eX V1 (tC (.int 4)) V0)))))
 (ao (bH (aM sp_need_none (aS (tC (.str "rooms")) (aM sp_first_wrong_name (eX V2 (tC (.int 150)) (cY (bj)))))))
 (bH (aM sp_need_none (aq (tC (.str "doors")) (aA (aM sp_first_wrong_door (eX V3 V2 (aM sp_door_signs (aS V0 V1))))))))))
def wY:List Str:=["asks","says","rooms","doors"]
def o5 (K:Za) :TS :=
 ao (aN (o9) U2)
 (ao (fx (cD K V0) U3 (ma V2 V3 (cY (bj))))
 (ao (fx (cD K V1) U4 (bH (r9 K "list" cG (gS K V2 (aL (uy K) V4 (tC (.int 0)))) (aA V4))))
 (bu V2)))
def pN:List Str:=["rooms","doors","leaving","room","door"]
def o0 (K:Za) :TS :=
 bu (eZ (Hl K) (aq (d4 1 [] (cD K V0) U0 (jA) (aL zQ (aL (uy K) (aL (uy K) V0 (tC (.int 1))) (tC (.int 0))) (tC (.str "ask")))) bj))
def pM:List Str:=["doors"]
def mG (K:Za) (sp_need_none:Sp) (sp_first_led_round:Sp) (sp_led_by_still:Sp) (sp_goals_by_start_and_sign:Sp) (sp_as_keys:Sp) (sp_has_asks_alone:Sp) (sp_doors_by_start:Sp) (sp_need_parts:Sp):TS :=
 ao (bH (aM sp_need_parts (aq V1 (eX V2 V3 V4))))
 (ao (nS K V0 (eZ (da K) (aA V1)) "own_asks")
 (ao (nS K V0 (eZ (da K) (aA V2)) "own_says")
 (ao (nS K V0 (eZ (da K) (aA V3)) "own_rooms")
 (ao (nS K V0 (eZ (da K) (aA V4)) "own_doors")
 (ao (nS K V0 (aM sp_doors_by_start (aS V3 V4)) "leaving")
 (ao (nS K V0 (aM sp_as_keys (aq (d4 1 [0] (cD K V3) U0 (tB (aM sp_has_asks_alone (aA (gS K (fD K V1 "leaving") V0)))) V0) bj)) "quiet")
 (ao (nS K V0 (aM sp_goals_by_start_and_sign (aA V4)) "sign_goals")
 (ao (nS K V0 (eZ (Fx K) (aq (d4 1 [0] (cD K V3) U0 (jA) (bB (aS V0 (aM sp_led_by_still (aq (fD K V1 "sign_goals") (aA V0)))))) bj)) "still_led")
 (bH (aM sp_need_none (aS (tC (.str "still")) (aM sp_first_led_round (aq V3 (aA (fD K V0 "still_led")))))))))))))))
def mZ:List Str:=["self","asks","says","rooms","doors"]
def mF (K:Za) :TS :=
 bu (zB K V1 (fD K V0 "quiet"))
def mY:List Str:=["self","room"]
def l_ (K:Za) (sp_with_still:Sp) (C_Machine:Addr) (sp_Machine_goals:Sp) (a_HUSH:Addr) (sp_Machine_is_quiet:Sp):TS :=
 ao (cH (aX (aL (tW K) V2 (tC (.ref a_HUSH)))) (bu (eZ (Gm K) (aA (d4 1 [0] (G0 K V1) U0 (tB (c_ C_Machine "is_quiet" sp_Machine_is_quiet [] E0 V1 (aA V0))) V0)))) (bR))
 (ao (aN (cY (bj)) U3)
 (ao (fx (G0 K V1) U4 (bH (r9 K "list" Bd V3 (aA (c_ C_Machine "goals" sp_Machine_goals [] E0 V0 (aS V4 V2))))))
 (bu (aM sp_with_still (aS V0 V3)))))
def mi:List Str:=["M","face","sign","goals","room"]
def cM (p:Addr) (H H':Hp):Prop:=∀b o,H b=some o->b≠p->H' b=some o
theorem cM.refl (p:Addr) (H:Hp):cM p H H:=fun _ _ h _=>h
theorem cM.trans {p:Addr}{H H1 H2:Hp}(a:cM p H H1) (b:cM p H1 H2):cM p H H2:=fun c o h n=>b c o (a c o h n) n
theorem ac.exB {p:Addr}{H H':Hp}(a:ac H H'):cM p H H':=fun b o h _=>a b o h
theorem cM.upd (p:Addr) (H:Hp) (o:HO):cM p H (upd H p o):=fun b u h n=>by rw [af n]; exact h
theorem ac.new {H:Hp}{a:Addr}{o:HO}(h:H a=none):ac H (upd H a o):=fun b u e=>by rw [af (ae e h)]; exact e
theorem cM.free {p:Addr}{H H':Hp}(e:cM p H H') {u:HO}(hp:H' p=some u) {l:Addr}(h:H' l=none):H l=none:=by
 cases q:H l with
 | none=>rfl
 | some o =>
  by_cases z:l=p
  ·subst z; rw [hp] at h; cases h
  ·rw [e l o q z] at h; cases h
theorem kp {H:Hp}{a b:Addr}{o x:HO}(h:H b=some o) (n:H a=none):upd H a x b=some o:=by rw [af (ae h n)]; exact h
structure BH (H:Hp) (p c:Addr) (at_ rest:Int) (ns:List Int):Prop where
 pen:H p=some (.lst [.ref c,.int at_,.int rest])
 cells:H c=some (.lst (ns.map V.int))
 at0:0<=at_
 rest0:0<=rest
theorem BH.ne {H:Hp}{p c:Addr}{a r:Int}{ns:List Int}(h:BH H p c a r ns):c≠p:=by
 intro e;have h1:=h.pen;have h2:=h.cells;rw [e,h1] at h2;injection h2 with h2;injection h2 with h2;cases ns with
 | nil=>cases h2
 | cons n ns=>injection h2 with h2; cases h2
def ga (H:Hp) (p c:Addr):Prop:=∃a r ns,BH H p c a r ns
theorem ga.ex {H H':Hp}{p c:Addr}(h:ga H p c) (e:ac H H'):ga H' p c:=by
 obtain ⟨a,r,ns,h1,h2,h3,h4⟩:=h;exact ⟨a,r,ns,e _ _ h1,e _ _ h2,h3,h4⟩
theorem ga.pen {H:Hp}{p c:Addr}(h:ga H p c):∃o,H p=some o:=by
 obtain ⟨a,r,ns,h1,_⟩:=h;exact ⟨_,h1⟩
theorem ga.cell {H:Hp}{p c:Addr}(h:ga H p c):∃o,H c=some o:=by
 obtain ⟨a,r,ns,_,h1,_⟩:=h;exact ⟨_,h1⟩
theorem ga.upd {H:Hp}{p c l:Addr}{o:HO}(h:ga H p c) (h1:p≠l) (h2:c≠l):ga (upd H l o) p c:=by
 obtain ⟨a,r,ns,g1,g2,g3,g4⟩:=h;exact ⟨a,r,ns,by rw [af h1]; exact g1,by rw [af h2]; exact g2,g3,g4⟩
theorem ga.nep {H:Hp}{p c l:Addr}(h:ga H p c) (hl:H l=none):p≠l:=let ⟨_,e⟩:=h.pen; ae e hl
theorem ga.nec {H:Hp}{p c l:Addr}(h:ga H p c) (hl:H l=none):c≠l:=let ⟨_,e⟩:=h.cell; ae e hl
theorem cM.new {p:Addr}{H:Hp}{a:Addr}{o:HO}(h:H a=none):cM p H (L2.upd H a o):=fun b u e _=>by rw [af (ae e h)]; exact e
inductive lg  (vs:List V) (H:Hp) (Q:VK) (E:XK):Prop
 | mk (c a:Int):(vs=[.int c,.int a])->(0<=a)->(∀r:Int,0<=r->Q (.int r) H)->lg  vs H Q E
theorem ow {i j:Int}(h1:-(2 ^ 64)<j) (h2:j<2 ^ 64):EO i j:=.inr ⟨h1,h2⟩
theorem Cb {K:Za}{vs:List V}{H:Hp}{Q:VK}{E:XK}(h:lg vs H Q E):vX K (bC Q) (start w6 vs) H:=by
 obtain ⟨c,a,rfl,ha,k⟩:=h;refine ⟨_,rfl,_,_,rfl,rfl,⟨by decide,by decide,by decide⟩,_,_,rfl,rfl,_,rfl,?_⟩;refine gD (fun h=>?_) (fun _=>?_)
 ·refine ⟨_,rfl,k _ ?_⟩;have:=of_decide_eq_true h;have e:((10:Int) ^ (18:Int).toNat)=1000000000000000000:=by decide
  omega
 ·have one:∀z:Int,0<=z % 2147483629/\z % 2147483629<2147483629:=fun z=>⟨oM _ (by decide),oK _ (by decide)⟩;have two:∀z:Int,0<=z % 2147483587/\z % 2147483587<2147483587:=fun z=>⟨oM _ (by decide),oK _ (by decide)⟩;have three:∀z:Int,0<=z % 2147483563/\z % 2147483563<2147483563:=fun z=>⟨oM _ (by decide),oK _ (by decide)⟩;refine ⟨_,rfl,_,_,rfl,rfl,(by show (0:Int)<1000000007; decide),_,_,rfl,rfl,ow (by decide) (by decide),_,rfl,_,_,rfl,rfl,ow (by decide) (by decide),_,_,rfl,rfl,_,_,rfl,rfl,_,_,rfl,rfl,(by show (0:Int)<2147483629; decide),?_⟩;generalize hz1:(c % 1000000007 * 69069+a * 40503+977)=z1;obtain ⟨o1,o2⟩:=one z1;generalize z1 % 2147483629=o at o1 o2 ⊢;refine ⟨_,rfl,_,rfl,_,_,rfl,rfl,ow (by omega) (by omega),_,rfl,_,_,rfl,rfl,ow (by decide) (by decide),_,_,rfl,rfl,_,rfl,_,_,rfl,rfl,(by show (0:Int)<65537; decide),_,_,rfl,rfl,_,_,rfl,rfl,(by show (0:Int)<2147483587; decide),?_⟩;generalize hz2:(o * o+a * 7919+c % 65537)=z2;obtain ⟨p1,p2⟩:=two z2;generalize z2 % 2147483587=q at p1 p2 ⊢;refine ⟨_,rfl,_,rfl,_,_,rfl,rfl,ow (by omega) (by omega),_,rfl,_,_,rfl,rfl,ow (by decide) (by decide),_,_,rfl,rfl,_,_,rfl,rfl,_,_,rfl,rfl,(by show (0:Int)<2147483563; decide),?_⟩;generalize hz3:(q * q+o * 31+5)=z3;obtain ⟨r1,r2⟩:=three z3;generalize z3 % 2147483563=r at r1 r2 ⊢;refine ⟨_,rfl,_,_,rfl,rfl,ow (by decide) (by decide),_,rfl,_,_,rfl,rfl,_,_,rfl,rfl,ow (by decide) (by decide),_,rfl,_,_,rfl,rfl,k _ ?_⟩;omega
def qM:Sp:=fun vs H Q _=>∃p c,vs=[.ref p]/\ga H p c/\∀H',ga H' p c->cM p H H'->Q (.ref p) H'
theorem Fs {K:Za}{vs:List V}{H:Hp}{Q:VK}{E:XK}(h:qM vs H Q E):zi K (bC Q) (start AD vs) H:=by
 obtain ⟨p,c,rfl,⟨a,r,ns,h⟩,k⟩:=h;refine ⟨_,rfl,p,_,_,_,rfl,rfl,h.pen,rfl,_,rfl,k _ ⟨a,0,ns,aa,?_,h.at0,Int.le_refl 0⟩ (cM.upd _ _ _)⟩;rw [af h.ne]; exact h.cells
theorem BE {ns:List Int}{a:Int}(h0:0<=a) (h1:a<ns.length):∃z,pI (ns.map V.int) a=some (.int z):=by
 obtain ⟨n,rfl⟩:=iO h0;have hn:n<ns.length:=by omega
 exact ⟨ns[n],bc (by simp [hn])⟩
inductive eR  (vs:List V) (H:Hp) (Q:VK) (E:XK):Prop
 | mk (p c:Addr) (m:Int):(vs=[.ref p,.int m])->(ga H p c)->(0<m)->(m<1073741824)->(∀(r:Int) (H':Hp),0<=r->r<m->ga H' p c->cM p H H'->Q (.int r) H')->eR  vs H Q E
theorem dj {H:Hp}{Q:VK}{E:XK}{p c:Addr}{m:Int}(hp:ga H p c) (m0:0<m) (m1:m<1073741824) (k:∀(r:Int) (H':Hp),0<=r->r<m->ga H' p c->cM p H H'->Q (.int r) H'):eR [.ref p,.int m] H Q E:=by
 exact ⟨p,c,m,rfl,hp,m0,m1,k⟩
theorem Fk {K:Za}{vs:List V}{H:Hp}{Q:VK}{E:XK}(h:eR vs H Q E):zf K lg (bC Q) (start AA vs) H:=by
 obtain ⟨p,c,m,rfl,⟨a,r,ns,h⟩,hm,hm2,k⟩:=h;have fin:∀(H':Hp) (a' r':Int) (x y:Option V),BH H' p c a' r' ns->cM p H H' ->
   (ao (aN (aL iH (aL (cT K) V0 (tC (.int 2))) V1) U4) (ao (aN (aL DH (aL (cT K) V0 (tC (.int 2))) V1) (Ai V0 (tC (.int 2)) sr)) (bu V4)))
    (bC Q) [some (.ref p),some (.int m),x,y,none] H':=by
  intro H' a' r' x y h' ex;refine ⟨_,rfl,p,_,2,_,rfl,rfl,aB.of h'.pen,rfl,_,rfl,_,_,rfl,rfl,hm,?_⟩;refine ⟨_,rfl,p,_,2,_,rfl,rfl,aB.of h'.pen,rfl,_,rfl,_,_,rfl,rfl,⟨hm,hm2⟩,_,rfl,p,_,_,_,rfl,rfl,h'.pen,rfl,?_⟩;refine ⟨_,rfl,k _ _ (oM _ (by omega)) (oK _ hm) ⟨a',_,ns,aa,?_,h'.at0,Int.ediv_nonneg h'.rest0 (by omega)⟩ (ex.trans (cM.upd _ _ _))⟩;rw [af h'.ne]; exact h'.cells
 refine ⟨_,rfl,p,_,2,_,rfl,rfl,aB.of h.pen,rfl,_,rfl,_,_,rfl,rfl,_,rfl,?_⟩;refine gD (fun h1=>?_) (fun h1=>?_)
 ·-- at=pen[1]; cell=0; if at<len(pen[0])
  refine ⟨_,rfl,p,_,1,_,rfl,rfl,aB.of h.pen,rfl,?_⟩;have la:(V.int ((ns.map V.int).length:Nat))=V.int (ns.length:Nat):=by rw [ai]
  refine ⟨_,rfl,_,rfl,p,_,0,_,rfl,rfl,aB.of h.pen,rfl,.inl ⟨c,_,rfl,.inl (aB.of h.cells),_,_,rfl,la,_,rfl,?_⟩⟩;refine gD (fun h2=>?_) (fun h2=>?_)
  ·obtain ⟨z,hz⟩:=BE (ns:=ns) h.at0 (of_decide_eq_true h2);refine ⟨_,rfl,p,_,0,_,rfl,rfl,aB.of h.pen,rfl,_,rfl,c,_,_,_,rfl,rfl,aB.of h.cells,hz,?_⟩;refine ⟨_,rfl,_,_,rfl,rfl,_,rfl,p,_,_,_,rfl,rfl,h.pen,rfl,?_⟩;refine ⟨_,rfl,_,rfl,_,_,rfl,h.at0,fun q hq=>⟨_,rfl,p,_,_,_,rfl,rfl,aa,rfl,?_⟩⟩;rw [qG];refine fin _ (a+1) q _ _ ⟨aa,by rw [af h.ne]; exact h.cells,by have:=h.at0; omega,hq⟩ (cM.upd _ _ _)
  ·refine ⟨_,rfl,p,_,0,_,rfl,rfl,aB.of h.pen,rfl,.inl ⟨c,_,rfl,.inl (aB.of h.cells),_,_,la,rfl,_,rfl,?_⟩⟩;refine gD (fun h3=>?_) (fun h3=>?_)
   ·have hl:(0:Int)<ns.length:=of_decide_eq_true h3;obtain ⟨z,hz⟩:=BE (ns:=ns) (a:=(a * 5+3) % (ns.length:Int)) (oM _ (by omega)) (oK _ hl);refine ⟨_,rfl,p,_,0,_,rfl,rfl,aB.of h.pen,rfl,_,rfl,_,_,rfl,rfl,ow (by decide) (by decide),_,_,rfl,rfl,_,rfl,p,_,0,_,rfl,rfl,aB.of h.pen,rfl,.inl ⟨c,_,rfl,.inl (aB.of h.cells),_,_,rfl,la,hl,c,_,_,_,rfl,rfl,aB.of h.cells,hz,?_⟩⟩;refine ⟨_,_,rfl,rfl,⟨by decide,by decide,by decide⟩,_,rfl,_,_,rfl,rfl,_,_,rfl,rfl,?_,?_⟩
    ·have e:((10:Int) ^ (17:Int).toNat)=100000000000000000:=by decide
     have:=h.at0;show (0:Int)<10 ^ (17:Int).toNat+a;omega
    refine ⟨_,rfl,_,_,rfl,rfl,_,rfl,p,_,_,_,rfl,rfl,h.pen,rfl,?_⟩;refine ⟨_,rfl,_,rfl,_,_,rfl,h.at0,fun q hq=>⟨_,rfl,p,_,_,_,rfl,rfl,aa,rfl,?_⟩⟩;rw [qG];refine fin _ (a+1) q _ _ ⟨aa,by rw [af h.ne]; exact h.cells,by have:=h.at0; omega,hq⟩ (cM.upd _ _ _)
   ·refine ⟨_,rfl,_,_,rfl,rfl,_,rfl,p,_,_,_,rfl,rfl,h.pen,rfl,?_⟩;refine ⟨_,rfl,_,rfl,_,_,rfl,h.at0,fun q hq=>⟨_,rfl,p,_,_,_,rfl,rfl,aa,rfl,?_⟩⟩;rw [qG];refine fin _ (a+1) q _ _ ⟨aa,by rw [af h.ne]; exact h.cells,by have:=h.at0; omega,hq⟩ (cM.upd _ _ _)
 ·exact fin H a r _ _ h (cM.refl _ _)
inductive qH (K:Za) (vs:List V) (H:Hp) (Q:VK) (E:XK):Prop
 | mk (a:Addr) (ns:List Int):(vs=[.ref a])->(aB K H a (ns.map V.int))->(ns.length<=63)->(∀(p c:Addr) (H':Hp),H p=none->ga H' p c->ac H H'->Q (.ref p) H')->qH K vs H Q E
theorem uT (ns:List Int) (lo hi:Option Int):∃ms:List Int,gF (ns.map V.int) lo hi=ms.map V.int/\ms.length=(gF (ns.map V.int) lo hi).length:=by
 refine ⟨(ns.drop (HT.sIx (ns.map V.int).length 0 lo)).take (HT.sIx (ns.map V.int).length (ns.map V.int).length hi-HT.sIx (ns.map V.int).length 0 lo),?_,?_⟩
 ·unfold gF; rw [mq,ve]
 ·unfold gF; rw [aJ,aJ,fA,fA,ai]
theorem Fm {K:Za}{vs:List V}{H:Hp}{Q:VK}{E:XK}(h:qH K vs H Q E):zg K (bC Q) (start AB vs) H:=by
 obtain ⟨a,ns,rfl,hs,hn,k⟩:=h;obtain ⟨c0,e0,l0⟩:=uT ns none (some 12);obtain ⟨c1,e1,l1⟩:=uT ns (some 12) (some 63);have hlen:c1≠[]->c0.length=12:=by
  intro hne;have hc1:0<c1.length:=by cases c1 with | nil=>exact absurd rfl hne | cons _ _=>simp
  rw [l1] at hc1;rw [l0];unfold gF at hc1 ⊢;rw [aJ,fA,ai] at hc1;rw [aJ,fA,ai];have s1:HT.sIx ns.length 0 (some 12)=min 12 ns.length:=HT.sIx_nat _ _ 12;have s2:HT.sIx ns.length ns.length (some 12)=min 12 ns.length:=HT.sIx_nat _ _ 12;rw [HT.sIx_none,s2];rw [s1] at hc1;omega
 refine ⟨_,rfl,_,rfl,a,_,rfl,hs,fun q hq=>.inl ⟨q,_,rfl,.inl (aB.of aa),fun c hc=>?_⟩⟩;rw [e0] at hc ⊢;have hcH:H c=none:=by
  have:c≠q:=fun z=>by subst z; rw [aa] at hc; cases hc
  rw [af this] at hc; exact hc
 have hS:ac H (upd (upd H q (.lst (c0.map V.int))) c (.lst (c0.map V.int))):=(ac.new hq).trans (ac.new hc);refine ⟨_,rfl,_,rfl,_,rfl,a,_,rfl,hS.seq hs,fun r hr=>⟨r,rfl,⟨_,aB.of aa⟩,?_⟩⟩;rw [e1];have hcr:c≠r:=ae aa hr;refine kS (xs:=c1.map V.int) (fun i σ H'=>∃(ms:List Int) (x y:Option V),σ=[some (.ref a),some (.ref c),x,y]/\H' c=some (.lst (ms.map V.int))/\ms.length=c0.length/\H' r=some (.lst (c1.map V.int))/\ac H H')
  ⟨c0,none,none,rfl,kp aa hr,rfl,aa,hS.trans (ac.new hr)⟩ (fun i σ H' _ ⟨ms,x,y,_,_,_,h,_⟩=>aB.of h) ?_ ?_
 ·rintro i x σ H' t hi ⟨ms,u,v,rfl,hcell,hml,hr',hS'⟩ ht;have hi':i<c1.length:=by
   have:=(bE.mp hi).1;rwa [ai] at this
  have h12:=hlen (fun z=>by rw [z] at hi'; simp at hi');obtain ⟨z,rfl⟩:∃z,x=V.int z:=by
   rw [bQ,br hi'] at hi;exact ⟨_,(eI hi).symm⟩
  have hcell1:upd H' t (.tup [.int i,.int z]) c=some (.lst (ms.map V.int)):=kp hcell ht;have hidx:(i:Int) % 12=((i % 12:Nat):Int):=by omega
  have hlt:i % 12<ms.length:=by omega
  refine ⟨t,_,rfl,bL.of aa,rfl,_,_,rfl,_,_,rfl,rfl,?_⟩;have hat:pI (ms.map V.int) ((i:Int) % 12)=some (.int ms[i % 12]):=by rw [hidx]; exact bc (by simp [hlt])
  refine ⟨_,rfl,_,rfl,_,_,rfl,rfl,(by show (0:Int)<12; decide),c,_,_,_,rfl,rfl,aB.of hcell1,hat,_,rfl,_,_,rfl,rfl,_,rfl,_,rfl,_,_,rfl,rfl,(by show (0:Int)<12; decide),c,_,_,i % 12,rfl,rfl,hcell1,?_,?_⟩
  ·rw [hidx];unfold ES;rw [if_pos (by omega),if_pos (by rw [ai]; omega)];rw [iR]
  ·refine ⟨ms.set (i % 12) (ms[i % 12]+z),_,_,rfl,?_,by rw [List.length_set]; exact hml,?_,?_⟩
   ·rw [aa,List.map_set]
   ·rw [af hcr.symm]; exact kp hr' ht
   ·intro b o e;rw [af (ae e hcH)];exact kp (hS' b o e) ht
 ·rintro σ H' ⟨ms,x,y,rfl,hcell,hml,hr',hS'⟩;refine ⟨_,rfl,(by show 3<=aj; decide),fun p hp=>k p c _ (hS'.free hp) ⟨0,0,ms,aa,kp hcell hp,Int.le_refl _,Int.le_refl _⟩ (hS'.trans (ac.new hp))⟩
def wv (c:Nat):Prop:=97<=c/\c<=122
structure pO (w:Str):Prop where
 lo:1<=w.length
 hi:w.length<=8
 al:∀c∈w.cps.toList,wv c
theorem BG:∀n:Nat,n<26->(("abcdefghijklmnopqrstuvwxyz":Str).cps.toList)[n]?=some (97+n):=by decide +kernel
theorem BF:("abcdefghijklmnopqrstuvwxyz":Str).length<=aj:=by decide +kernel
theorem EK {r:Int}(h0:0<=r) (h1:r<26):pI (("abcdefghijklmnopqrstuvwxyz":Str).cps.toList) r=some (97+r.toNat):=by
 obtain ⟨n,rfl⟩:=iO h0;rw [iR];exact bc (BG n (by omega))
theorem t4 (cs:List Nat):∀acc:Array Nat,((cs.map fun c=>(⟨#[c]⟩:Str)).foldl (fun acc p=>acc++("":Str).cps++p.cps) acc).toList=acc.toList++cs:=by
 have e:("":Str).cps=#[]:=by decide +kernel
 induction cs with
 | nil=>intro acc; simp
 | cons c cs ih =>
  intro acc;rw [aZ,gK,ih,e];simp
theorem Ad (cs:List Nat):(vw "" (cs.map fun c=>(⟨#[c]⟩:Str))).cps.toList=cs:=by
 unfold vw bV.Str.glued;cases cs with
 | nil=>rfl
 | cons c cs =>
  rw [aZ];show ((cs.map fun c=>(⟨#[c]⟩:Str)).foldl (fun acc p=>acc++("":Str).cps++p.cps) #[c]).toList=_;rw [t4]
  rfl
theorem Fg {a b:Str}(h:a.cps.toList=b.cps.toList):a=b:=by
 cases a with | mk x=>cases b with | mk y=>exact congrArg Str.mk (Array.toList_inj.mp h)
theorem eQ (a:Str):a.length=a.cps.toList.length:=by simp [Str.length]
theorem wU (a b:Str):(a++b).cps.toList=a.cps.toList++b.cps.toList:=by
 show (a.cps++b.cps).toList=_;simp
theorem Ex (z:Str) (m:Nat):(sQ z none (some (m:Int))).cps.toList=z.cps.toList.take m:=by
 unfold sQ;rw [HT.sIx_none,HT.sIx_nat,jx,Nat.sub_zero,eQ];show List.take _ _=_;rw [List.take_eq_take_iff];omega
theorem Ey (z:Str) (m:Nat):(sQ z (some (m:Int)) none).cps.toList=z.cps.toList.drop m:=by
 unfold sQ;rw [HT.sIx_none,HT.sIx_nat,eQ];show List.take _ _=_;rw [List.take_of_length_le (by rw [fA]; omega)];by_cases h:m<=z.cps.toList.length
 ·rw [vd h]
 ·rw [Nat.min_eq_right (by omega),List.drop_length,vp (by omega)]
def eM (way size k:Nat):Nat:=(size+k * (way % 2)) % 8
def yY (way m:Nat):Nat:=if way=0 then 0 else if way=1 then m else m / 2
def l9 (b:List Nat) (way turn size k:Nat):List Nat :=
 (b.take (eM way size k)).take (yY way (eM way size k))++[97+(turn+3 * k) % 26]++(b.take (eM way size k)).drop (yY way (eM way size k))
def xm (b:List Nat) (way turn size k:Nat):Str:=⟨(l9 b way turn size k).toArray⟩
theorem oX {b:List Nat}(hb:b.length=7) (way turn size k:Nat):(l9 b way turn size k).length=eM way size k+1:=by
 have h8:eM way size k<8:=rh _ (by decide);unfold l9;rw [ax,ax,aJ,fA,aJ,hb];have:yY way (eM way size k)<=eM way size k:=by unfold yY; split; omega; split; omega; omega
 simp;omega
theorem EV {b:List Nat}(hb:b.length=7) (hl:∀c∈b,wv c) (way turn size k:Nat):pO (xm b way turn size k):=by
 have h8:eM way size k<8:=rh _ (by decide);have hlen:=oX hb way turn size k;have e:(xm b way turn size k).cps.toList=l9 b way turn size k:=by simp [xm]
 refine ⟨?_,?_,?_⟩
 ·rw [eQ,e]; omega
 ·rw [eQ,e]; omega
 ·rw [e];intro c hc;unfold l9 at hc;rcases aW.mp hc with hc | hc
  ·rcases aW.mp hc with hc | hc
   ·exact hl c (eK (eK hc))
   ·have:c=97+(turn+3 * k) % 26:=by simpa using hc
    subst this;have:(turn+3 * k) % 26<26:=rh _ (by decide);exact ⟨by omega,by omega⟩
  ·exact hl c (eK (List.mem_of_mem_drop hc))
theorem Dd {b:List Nat}(hb:b.length=7) {way turn size:Nat}(hw:way<3) {j k:Nat}(hj:j<26) (hk:k<26) (h:xm b way turn size j=xm b way turn size k):j=k:=by
 have h8:∀i,eM way size i<8:=fun i=>rh _ (by decide);have e:l9 b way turn size j=l9 b way turn size k:=by
  have:=congrArg (fun s=>Str.cps s |>.toList) h;simpa [xm] using this
 have el:eM way size j=eM way size k:=by
  have:=congrArg List.length e;rw [oX hb,oX hb] at this;omega
 have key:97+(turn+3 * j) % 26=97+(turn+3 * k) % 26:=by
  have hat:∀i,yY way (eM way size i)<=eM way size i:=fun i=>by unfold yY; split; omega; split; omega; omega
  have get:∀i,(l9 b way turn size i)[yY way (eM way size i)]?=some (97+(turn+3 * i) % 26):=by
   intro i;unfold l9;have hl:((b.take (eM way size i)).take (yY way (eM way size i))).length=yY way (eM way size i):=by
    rw [aJ,aJ,hb];have:=h8 i;have:=hat i;omega
   rw [cJ,kB (by omega),hl,Nat.sub_self]
   rfl
  have g1:=get j;have g2:=get k;rw [e,el] at g1;rw [g1] at g2;exact eI g2
 omega
def jP (ws:Zb):Prop:=ws.Nodup/\∀w∈ws,pO w
def jy (b:List Nat) (way turn size n:Nat):List Str:=(i8 n).map (xm b way turn size)
theorem y6 {b:List Nat}(hb:b.length=7) (hl:∀c∈b,wv c) {way turn size n:Nat}(hw:way<3) (hn:n<=26):jP (jy b way turn size n):=by
 refine ⟨?_,fun w hm=>?_⟩
 ·unfold jy;rw [oJ,List.pairwise_map];refine (List.nodup_range (n:=n)).imp_of_mem ?_;intro j k hj hk hne h;exact hne (Dd hb hw (by have:=List.mem_range.mp hj; omega) (by have:=List.mem_range.mp hk; omega) h)
 ·obtain ⟨k,_,rfl⟩:=ay.mp hm;exact EV hb hl _ _ _ _
inductive kG  (vs:List V) (H:Hp) (Q:VK) (E:XK):Prop
 | mk (p c:Addr) (n:Nat):(vs=[.ref p,.int n])->(ga H p c)->(n<=26)->(∀(l:Addr) (ws:Zb) (H':Hp),jP ws->ws.length=n->H l=none->H' l=some (.lst (ws.map V.str))->ga H' p c->cM p H H'->Q (.ref l) H')->kG  vs H Q E
theorem Dv {K:Za}{vs:List V}{H:Hp}{Q:VK}{E:XK}(h:kG vs H Q E):xx K eR (bC Q) (start yT vs) H:=by
 obtain ⟨p,c,n,rfl,hp,hn,k⟩:=h;refine ⟨rfl,7,rfl,by decide,by decide,fun l hl=>?_⟩;refine Ap (lo:=0) (n:=Int.toNat 7) (fun i vs H'=>∃cs:List Nat,vs=cs.map (fun c=>V.str ⟨#[c]⟩)/\cs.length=i/\(∀c∈cs,wv c)/\ga H' p c/\cM p H H'/\H' l=some (.lst vs))
  ⟨[],rfl,rfl,(fun _ h=>nomatch h),hp.ex (ac.new hl),cM.new hl,aa⟩ (fun i vs H' _ ⟨_,_,_,_,_,_,h⟩=>h) ?_ ?_
 rotate_left
 ·rintro i vs H' hi ⟨cs,rfl,hlen,hlet,hp',hex,hl'⟩;have hlp:=hp.nep hl;have hlc:=hp.nec hl;refine gN (rM ?_);refine ⟨_,rfl,_,rfl,dj hp' (by decide) (by decide) fun r H2 h0 h1 hp2 hex2=>⟨_,r,_,rfl,rfl,BF,EK h0 h1,?_⟩⟩;have hl2:=hex2 l _ hl' hlp.symm;refine ⟨hl2,by rw [ai,hlen]; exact av (by omega),tX hi ⟨cs++[97+r.toNat],by rw [au]; rfl,by rw [ax,hlen]; rfl,?_,hp2.upd hlp hlc,?_,aa⟩⟩
  ·intro x hc;rcases aW.mp hc with hc | hc
   ·exact hlet x hc
   ·have:x=97+r.toNat:=by simpa using hc
    subst this;exact ⟨by omega,by omega⟩
  ·intro b o' e nb;rw [af (ae e hl)];exact hex2 b o' (hex b o' e nb) nb
 ·rintro vs H1 ⟨cs,rfl,hlen,hlet,hp1,hex1,hl1⟩;refine ⟨"",l,cs.map fun c=>(⟨#[c]⟩:Str),rfl,rfl,aB.of (by rw [hl1,rf]; rfl),?_,?_⟩
  ·have e0:("":Str).length=0:=by decide +kernel
   rw [e0,Nat.mul_zero,rf];have:∀cs:List Nat,(cs.map ((fun x=>Str.length x) ∘ fun c=>(⟨#[c]⟩:Str))).sum=cs.length:=by
    intro cs
    induction cs with
    | nil=>rfl
    | cons c cs ih=>rw [aZ,List.sum_cons,ih,dQ]; show 1+_=_; omega
   rw [this,hlen]; decide
  refine ⟨_,rfl,dj hp1 (by decide) (by decide) fun way H2 w0 w1 hp2 hex2=>?_⟩;refine ⟨_,rfl,dj hp2 (by decide) (by decide) fun turn H3 t0 t1 hp3 hex3=>?_⟩;refine ⟨_,rfl,dj hp3 (by decide) (by decide) fun size H4 s0 s1 hp4 hex4=>?_⟩;have ex4:cM p H H4:=((hex1.trans hex2).trans hex3).trans hex4;obtain ⟨wy,rfl⟩:=iO w0;obtain ⟨tn,rfl⟩:=iO t0;obtain ⟨sz,rfl⟩:=iO s0;have hb:=Ad cs;generalize vw "" (cs.map fun c=>(⟨#[c]⟩:Str))=base at hb ⊢;refine ⟨(by show 0<=aj; decide),fun f hf=>?_⟩;obtain ⟨op,hop⟩:=hp4.pen;have hfH:H f=none:=ex4.free hop hf;have hfp:=hp.nep hfH;have hfc:=hp.nec hfH;refine ⟨_,rfl,n,rfl,by omega,by omega,lF (lo:=0) (n:=((n:Int)).toNat) (fun i σ H'=>∃(a b c' d:Option V),σ=[some (.ref p),some (.int n),some (.str "abcdefghijklmnopqrstuvwxyz"),some (.str base),some (.int wy),some (.int tn),some (.int sz),some (.ref f),a,b,c',d] /\
   ga H' p c/\cM p H H'/\H' f=some (.lst ((jy cs wy tn sz i).map V.str)))
   ⟨_,_,_,_,rfl,hp4.upd hfp hfc,ex4.trans (cM.new hf),aa⟩ ?_ ?_⟩
  ·rintro i σ H' hi ⟨a,b,c',d,rfl,hp',hex',hf'⟩;have hi':i<n:=by omega
   have hwy:wy<3:=by omega
   have e26:((tn:Int)+3 * (0+(i:Int))) % 26=(((tn+3 * i) % 26:Nat):Int):=by omega
   refine ⟨_,rfl,_,rfl,_,rfl,_,_,rfl,rfl,.inl ⟨by decide,by decide⟩,_,_,rfl,rfl,_,_,rfl,rfl,(by show (0:Int)<26; decide),_,_,_,rfl,rfl,BF,EK (oM _ (by decide)) (oK _ (by decide)),?_⟩;have blen:base.length<=aj:=by rw [eQ,hb,hlen]; decide
   have e8:((sz:Int)+(0+(i:Int)) * ((wy:Int) % 2)) % 8=((eM wy sz i:Nat):Int):=by
    unfold eM;have:wy=0∨wy=1∨wy=2:=by omega
    rcases this with rfl | rfl | rfl <;> simp <;> omega
   refine ⟨_,rfl,_,rfl,_,rfl,_,rfl,_,_,rfl,rfl,(by show (0:Int)<2; decide),_,_,rfl,rfl,.inr ⟨by omega,by omega⟩,_,_,rfl,rfl,_,_,rfl,rfl,(by show (0:Int)<8; decide),_,rfl,base,rfl,blen,?_⟩;rw [e8];have hpart:=Ex base (eM wy sz i);rw [hb] at hpart;generalize sQ base none (some ((eM wy sz i:Nat):Int))=part at hpart ⊢;have h8:eM wy sz i<8:=rh _ (by decide);have plen:part.length=eM wy sz i:=by rw [eQ,hpart,aJ,hlen]; omega
   have pz:part.length<=aj:=by rw [plen]; exact dR (av (by omega))
   refine ⟨_,rfl,.inr ⟨part,rfl,pz,_,rfl,.inr ⟨part,rfl,pz,_,_,rfl,rfl,⟨by decide,by decide⟩,(by show 3<=aj; decide),fun q hq=>?_⟩⟩⟩;have hqH:H q=none:=by
    obtain ⟨op',hop'⟩:=hp'.pen;exact hex'.free hop' hq
   have hat:pI [V.int 0,V.int (part.length:Nat),V.int ((part.length:Int) / 2)] (wy:Int)=some (.int (yY wy (eM wy sz i):Nat)):=by
    rw [plen];have:wy=0∨wy=1∨wy=2:=by omega
    rcases this with rfl | rfl | rfl
    ·rfl
    ·rfl
    ·show some (V.int (((eM 2 sz i:Nat):Int) / 2))=some (V.int ((yY 2 (eM 2 sz i):Nat):Int));have:yY 2 (eM 2 sz i)=eM 2 sz i / 2:=rfl;rw [this];congr 2
   refine ⟨_,rfl,q,_,_,_,rfl,rfl,aB.of aa,hat,?_⟩;have hf2:upd H' q (.lst [V.int 0,V.int (part.length:Nat),V.int ((part.length:Int) / 2)]) f=some (.lst ((jy cs wy tn sz i).map V.str)):=kp hf' hq;have c1:=Ex part (yY wy (eM wy sz i));have c2:=Ey part (yY wy (eM wy sz i));have l1:(sQ part none (some ((yY wy (eM wy sz i):Nat):Int))).length<=8:=by rw [eQ,c1,aJ,hpart,aJ,hlen]; omega
   have l2:(sQ part (some ((yY wy (eM wy sz i):Nat):Int)) none).length<=8:=by rw [eQ,c2,fA,hpart,aJ,hlen]; omega
   refine ⟨_,rfl,.inl ⟨rfl,_,aB.of hf2⟩,_,rfl,_,rfl,_,rfl,part,rfl,pz,_,rfl,_,_,rfl,rfl,?_,_,rfl,_,rfl,_,rfl,part,rfl,pz,_,_,rfl,rfl,?_,f,_,_,rfl,rfl,hf2,?_,?_⟩
   ·have:Str.length ⟨#[97+(((tn:Int)+3 * (0+(i:Int))) % 26).toNat]⟩=1:=rfl;rw [this];exact dR (av (by omega))
   ·rw [eQ,wU,ax,<-eQ,<-eQ];have:Str.length ⟨#[97+(((tn:Int)+3 * (0+(i:Int))) % 26).toNat]⟩=1:=rfl;rw [this];exact dR (av (by omega))
   ·rw [ai];unfold jy;rw [ai,rA];exact av (by omega)
   ·refine ⟨_,_,_,_,rfl,(hp'.upd (hp.nep hqH) (hp.nec hqH)).upd hfp hfc,?_,?_⟩
    ·intro b' o' e nb;rw [af (ae e hfH)];exact kp (hex' b' o' e nb) hq
    ·rw [aa];unfold jy;rw [List.range_succ,au,au];congr 3;show [V.str _]=[V.str _];congr 2;refine Fg ?_;rw [wU,wU,c1,c2,hpart,e26,iR];simp [xm,l9]
  ·rintro σ H' ⟨a,b,c',d,rfl,hp',hex',hf'⟩;have en:((n:Int)).toNat=n:=by omega
   rw [en] at hf';exact ⟨_,rfl,k f _ H' (y6 hlen hlet (by omega) hn) (by unfold jy; rw [ai,rA]) hfH hf' hp' hex'⟩
structure am where
 a:Str
 sg:List Str
 b:Str
deriving DecidableEq
def SignAt (H:Hp) (s:Addr) (sg:Zb):Prop:=H s=some (.tup (sg.map V.str))
def gb (H:Hp) (t:Addr) (d:am):Prop:=∃s,H t=some (.tup [.str d.a,.ref s,.str d.b])/\SignAt H s d.sg
def hE (H H':Hp):Prop:=∀b xs,H b=some (.tup xs)->H' b=some (.tup xs)
theorem gb.kt {H H':Hp}{t:Addr}{d:am}(k:hE H H') (h:gb H t d):gb H' t d:=by
 obtain ⟨s,h1,h2⟩:=h;exact ⟨s,k _ _ h1,k _ _ h2⟩
theorem cM.kt {p:Addr}{H H':Hp}{xs:List V}(e:cM p H H') (hp:H p=some (.lst xs)):hE H H':=fun b ys h=>e b _ h (fun z=>by rw [z,hp] at h; cases h)
theorem ac.kt {H H':Hp}(e:ac H H'):hE H H':=fun b ys h=>e b _ h
theorem hE.trans {H H1 H2:Hp}(a:hE H H1) (b:hE H1 H2):hE H H2:=fun x xs h=>b x xs (a x xs h)
theorem cL {H:Hp}{l:Addr}{xs:List V}{o:HO}(h:H l=some (.lst xs)):hE H (upd H l o):=fun b ys e=>by
 rw [af (fun z=>by rw [z,h] at e; cases e)]; exact e
abbrev cw (H:Hp) (ts:Ze) (ds:List am):Prop:=Paired (gb H) ts ds
theorem Paired.get {α β:Type}{R:α->β->Prop}:∀{xs:List α}{ys:List β}{i:Nat}{y:β},Paired R xs ys->ys[i]?=some y->∃x,xs[i]?=some x/\R x y
 | _,_,i,y,.nil,h=>by simp at h
 | _,_,0,y,.cons r t,h=>by simp at h; subst h; exact ⟨_,rfl,r⟩
 | _,_,i+1,y,.cons r t,h=>by
  simp at h;obtain ⟨x,h1,h2⟩:=Paired.get t h;exact ⟨x,by simpa using h1,h2⟩
theorem Paired.getL {α β:Type}{R:α->β->Prop}:∀{xs:List α}{ys:List β}{i:Nat}{x:α},Paired R xs ys->xs[i]?=some x->∃y,ys[i]?=some y/\R x y
 | _,_,i,y,.nil,h=>by simp at h
 | _,_,0,y,.cons r t,h=>by simp at h; subst h; exact ⟨_,rfl,r⟩
 | _,_,i+1,y,.cons r t,h=>by
  simp at h;obtain ⟨x,h1,h2⟩:=Paired.getL t h;exact ⟨x,by simpa using h1,h2⟩
theorem cw.kt {H H':Hp}{ts:Ze}{ds:List am}(k:hE H H') (h:cw H ts ds):cw H' ts ds:=Paired.mapP h fun _ _ r=>r.kt k
theorem GA {H:Hp}{a:Addr}{o:HO}(h:H a=some o):upd H a o=H:=by
 funext b;by_cases e:b=a
 ·subst e; rw [aa,h]
 ·rw [af e]
def ix (x:Str):DT:=.k (.inr x)
def wN (d:am):DT:=.t [ix d.a,.t (d.sg.map ix),ix d.b]
theorem nT {x y:Str}(h:ix x=ix y):x=y:=by
 unfold ix at h;injection h with h;injection h
theorem gC:∀{x y:Zb},x.map ix=y.map ix->x=y
 | [],[],_=>rfl
 | [],_::_,h=>by cases h
 | _::_,[],h=>by cases h
 | a::x,b::y,h=>by
  rw [aZ,aZ] at h;injection h with h1 h2;rw [nT h1,gC h2]
theorem FV {x y:am}(h:wN x=wN y):x=y:=by
 unfold wN at h;injection h with h;injection h with h1 h;injection h with h2 h;injection h with h3 h;injection h2 with h2;cases x; cases y;simp only at *;rw [nT h1,gC h2,nT h3]
theorem gE (xs:Zb):DT.depths (xs.map ix)=0:=by
 induction xs with
 | nil=>rfl
 | cons x xs ih=>rw [aZ]; show max (DT.depth (ix x)) (DT.depths _)=0; rw [ih]; rfl
theorem wM (d:am):(wN d).depth=2:=by
 show DT.depths [ix d.a,.t (d.sg.map ix),ix d.b]+1=2;show max (DT.depth (ix d.a)) (max (DT.depths (d.sg.map ix)+1) (max (DT.depth (ix d.b)) 0))+1=2;rw [gE]
 rfl
theorem CJ (ds:List am):DT.depths (ds.map wN)<=8:=by
 induction ds with
 | nil=>exact c8 _
 | cons x xs ih=>rw [aZ]; show max (DT.depth (wN x)) (DT.depths _)<=8; rw [wM]; omega
theorem pH {K:Za}{H:Hp}:∀xs:List Str,DIns K H (xs.map ix) (xs.map V.str)
 | []=>by show DIns K H [] []; unfold DIns; rfl
 | x::xs=>by
  rw [aZ,aZ];unfold DIns;refine ⟨_,_,rfl,?_,pH xs⟩;unfold ix ka
  rfl
theorem sP {K:Za}{H:Hp}(x:Str):ka K H (ix x) (.str x):=by unfold ix ka; rfl
theorem cF {K:Za}{H:Hp}{s:Addr}{sg:Zb}(h:bL K H s (sg.map V.str)):ka K H (.t (sg.map ix)) (.ref s):=by
 unfold ka;exact ⟨s,_,rfl,h,pH _⟩
theorem gb.dIn {K:Za}{H:Hp}{t:Addr}{d:am}(h:gb H t d):ka K H (wN d) (.ref t):=by
 obtain ⟨s,h1,h2⟩:=h;unfold wN;unfold ka;refine ⟨t,_,rfl,bL.of h1,?_⟩;unfold DIns;refine ⟨_,_,rfl,sP _,?_⟩;unfold DIns;refine ⟨_,_,rfl,cF (bL.of h2),?_⟩;unfold DIns;refine ⟨_,_,rfl,sP _,?_⟩;unfold DIns
 rfl
theorem cw.dIns {K:Za}{H:Hp}:∀{ts:Ze}{ds:List am},cw H ts ds->DIns K H (ds.map wN) (ts.map V.ref)
 | _,_,.nil=>by show DIns K H [] []; unfold DIns; rfl
 | _,_,.cons r t=>by
  rw [aZ,aZ];unfold DIns;exact ⟨_,_,rfl,r.dIn,cw.dIns t⟩
theorem Bt {d:am}{ds:List am}:wN d∈ds.map wN↔d∈ds:=by
 constructor
 ·intro h;obtain ⟨x,hx,e⟩:=ay.mp h;rw [<-FV e]; exact hx
 ·exact kh
def kK (ds:List am) (d:am):List am:=if d∈ds then ds else ds++[d]
inductive jE  (vs:List V) (H:Hp) (Q:VK) (E:XK):Prop
 | mk (l t:Addr) (ts:Ze) (ds:List am) (d:am):(vs=[.ref l,.ref t])->(H l=some (.lst (ts.map V.ref)))->(cw H ts ds)->(gb H t d)->(ds.length<=1000)->(∀ts':List Addr,cw H ts' (kK ds d)->Q .non (upd H l (.lst (ts'.map V.ref))))->jE  vs H Q E
theorem GF {K:Za}{vs:List V}{H:Hp}{Q:VK}{E:XK}(h:jE vs H Q E):BW K (bC Q) (start CW vs) H:=by
 obtain ⟨l,t,ts,ds,d,rfl,hl,hd,ht,hz,k⟩:=h;refine ⟨_,rfl,_,rfl,wN d,ds.map wN,l,_,ht.dIn,rfl,.inl (aB.of hl),hd.dIns,by rw [wM]; decide,CJ ds,_,rfl,?_⟩;by_cases hm:d∈ds
 ·rw [if_pos rfl,zzr1 (Bt.mpr hm)];refine cC ?_;have:=k ts (by unfold kK; rw [if_pos hm]; exact hd);rw [GA hl] at this;exact this
 ·rw [if_pos rfl,zzr0 (fun z=>hm (Bt.mp z))];refine dO ?_;refine ⟨_,rfl,.inl ⟨rfl,_,aB.of hl⟩,_,rfl,l,_,_,rfl,rfl,hl,?_,?_⟩
  ·rw [ai,Paired.length hd];exact av hz
  ·have:=k (ts++[t]) (by unfold kK; rw [if_neg hm]; exact cK hd ht);rw [au] at this;exact this
structure DI (R:am->Prop) (H0:Hp) (p c l:Addr) (m:Nat) (H:Hp):Prop where
 pen:ga H p c
 ds:∃ts ds,H l=some (.lst (ts.map V.ref))/\cw H ts ds/\ds.Nodup/\(∀d∈ds,R d)/\ds.length<=m
 ex:cM p H0 H
 fr:H0 l=none
 pl:p≠l
 cl:c≠l
section
variable {R:am->Prop}{H0 H H':Hp}{p c l:Addr}{m:Nat}
theorem ga.lst {H:Hp}{p c:Addr}(h:ga H p c):∃xs,H p=some (.lst xs):=by
 obtain ⟨a,r,ns,h1,_⟩:=h;exact ⟨_,h1⟩
theorem DI.took (h:DI R H0 p c l m H) (hp:ga H' p c) (e:cM p H H'):DI R H0 p c l m H':=by
 obtain ⟨ts,ds,h1,h2,h3⟩:=h.ds;obtain ⟨xs,hx⟩:=h.pen.lst;exact ⟨hp,⟨ts,ds,e _ _ h1 h.pl.symm,h2.kt (e.kt hx),h3⟩,h.ex.trans e,h.fr,h.pl,h.cl⟩
theorem DI.new (h:DI R H0 p c l m H) {q:Addr}{o:HO}(hq:H q=none):DI R H0 p c l m (upd H q o) :=
 h.took (h.pen.ex (ac.new hq)) (cM.new hq)
theorem DI.up (h:DI R H0 p c l m H) {n:Nat}(hn:m<=n):DI R H0 p c l n H:=by
 obtain ⟨ts,ds,h1,h2,h3,h4,h5⟩:=h.ds;exact ⟨h.pen,⟨ts,ds,h1,h2,h3,h4,bP h5 hn⟩,h.ex,h.fr,h.pl,h.cl⟩
theorem DI.put (h:DI R H0 p c l m H) {t:Addr}{d:am}{Q:VK}{E:XK}(ht:gb H t d) (hR:R d) (hm:m<=1000) (k:∀H',DI R H0 p c l (m+1) H'->Q .non H'):jE [.ref l,.ref t] H Q E:=by
 obtain ⟨ts,ds,h1,h2,h3,h4,h5⟩:=h.ds;refine ⟨l,t,ts,ds,d,rfl,h1,h2,ht,bP h5 hm,fun ts' h'=>k _ ⟨h.pen.upd h.pl h.cl,⟨ts',kK ds d,aa,h'.kt (cL h1),?_,?_,?_⟩,?_,h.fr,h.pl,h.cl⟩⟩
 ·unfold kK;split
  ·exact h3
  ·next hn =>
   rw [ck];refine ⟨h3,by simp,?_⟩;intro a ha b hb e;have:b=d:=by simpa using hb
   subst this;exact hn (e ▸ ha)
 ·intro x hx;unfold kK at hx;split at hx
  ·exact h4 x hx
  ·rcases aW.mp hx with hx | hx
   ·exact h4 x hx
   ·have:x=d:=by simpa using hx
    rw [this]; exact hR
 ·unfold kK;split
  ·omega
  ·rw [ax]; show ds.length+1<=m+1; omega
 ·intro b o e n;rw [af (ae e h.fr)];exact h.ex b o e n
end
theorem ga.ne_strs {H:Hp}{p c a:Addr}{ws:Zb}(hp:ga H p c) (ha:H a=some (.lst (ws.map V.str))):a≠p:=by
 intro e;obtain ⟨x,y,ns,h1,_⟩:=hp;rw [e,h1] at ha;injection ha with ha;injection ha with ha;cases ws with
 | nil=>cases ha
 | cons w ws=>injection ha with ha; cases ha
theorem iG {K:Za}{r:R2}(hr:∀x y H Q,cT K x y H Q->r x y H Q) {σ:L2.St}{H:Hp}{Q:VK}{p c a:Addr}{j:Nat}{ws:Zb}(h0:σ[0]?=some (some (.ref p))) (hj:σ[j]?=some (some (.ref a))) (hp:ga H p c)
  (ha:H a=some (.lst (ws.map V.str))) (hne:ws≠[]) (hlen:ws.length<=1000) (k:∀w∈ws,∀H',ga H' p c->cM p H H'->Q (.str w) H') :
  ∃v,σ[j]?=some (some v)/\∃v0,σ[0]?=some (some v0)/\∃v1,σ[j]?=some (some v1)/\d9 K [v1] H fun y H1=>eR [v0,y] H1 (fun y H2=>r v y H2 Q) E0:=by
 have hl:0<ws.length:=by cases ws with | nil=>exact absurd rfl hne | cons _ _=>simp
 have la:(V.int ((ws.map V.str).length:Nat))=V.int (ws.length:Nat):=by rw [ai]
 have hpa:=hp.ne_strs ha;have fin:∀(x:Int) (H':Hp),0<=x->x<(ws.length:Int)->ga H' p c->cM p H H'->cT K (.ref a) (.int x) H' Q:=by
  intro x H' x0 x1 hp' ex;obtain ⟨n,rfl⟩:=iO x0;have hn:n<ws.length:=by omega
  exact ⟨a,_,(n:Int),.str ws[n],rfl,rfl,aB.of (ex _ _ ha hpa),bc (by simp [hn]),k _ (jw hn) H' hp' ex⟩
 exact ⟨_,hj,_,h0,_,hj,.inl ⟨a,_,rfl,.inl (aB.of ha),by rw [la]; exact dj hp (by omega) (by omega) fun x H' x0 x1 hp' ex=>hr _ _ _ _ (fin x H' x0 x1 hp' ex)⟩⟩
def Up (up:Bool) (J2:Zb) (a b:Str):Prop:=∃i j:Nat,J2[i]?=some a/\J2[j]?=some b/\(if up=true then i<j else j<i)
structure k_ (J0 J1 J2:Zb) (up:Bool) (d:am):Prop where
 a:d.a∈J2
 b:d.b∈J2
 sg:(∃w∈J0,d.sg=[("ask":Str),w])∨(∃w∈J1,d.sg=[("say":Str),w])∨(d.sg=[("still":Str)]/\Up up J2 d.a d.b)
def ar:List Str:=[("still":Str)]
structure yW (J0 J1 J2:Zb) (d:am):Prop where
 a:d.a∈J2
 b:d.b∈J2
 sg:(∃w∈J0,d.sg=[("ask":Str),w])∨(∃w∈J1,d.sg=[("say":Str),w])∨d.sg=ar
theorem k_.d {J0 J1 J2:Zb}{up:Bool}{d:am}(h:k_ J0 J1 J2 up d):yW J0 J1 J2 d:=⟨h.a,h.b,h.sg.imp id (Or.imp id And.left)⟩
inductive Reach (ds:List am) (a:Str):Str->Prop
 | one {b:Str}(h:(⟨a,ar,b⟩:am)∈ds):Reach ds a b
 | step {b c:Str}(r:Reach ds a b) (h:(⟨b,ar,c⟩:am)∈ds):Reach ds a c
theorem qQ {J2:Zb}(nd:J2.Nodup) {i j:Nat}{a:Str}(hi:J2[i]?=some a) (hj:J2[j]?=some a):i=j:=by
 obtain ⟨h1,e1⟩:=bE.mp hi;obtain ⟨h2,e2⟩:=bE.mp hj;have pw:=List.pairwise_iff_getElem.mp nd;rcases vc i j with h | h | h
 ·exact absurd (e1.trans e2.symm) (pw i j h1 h2 h)
 ·exact h
 ·exact absurd (e2.trans e1.symm) (pw j i h2 h1 h)
theorem Up.trans {up:Bool}{J2:Zb}(nd:J2.Nodup) {a b c:Str}(h1:Up up J2 a b) (h2:Up up J2 b c):Up up J2 a c:=by
 obtain ⟨i,j,e1,e2,h⟩:=h1;obtain ⟨j',k,e3,e4,h'⟩:=h2;have:=qQ nd e2 e3;subst this;refine ⟨i,k,e1,e4,?_⟩;cases up
 ·simp at h h' ⊢; omega
 ·simp at h h' ⊢; omega
theorem Up.irr {up:Bool}{J2:Zb}(nd:J2.Nodup) {a:Str}(h:Up up J2 a a):False:=by
 obtain ⟨i,j,e1,e2,h⟩:=h;have:=qQ nd e1 e2;subst this;cases up
 ·simp at h
 ·simp at h
theorem Dg {J0 J1 J2:Zb}{ds:List am}{up:Bool}(nd:J2.Nodup) (m:∀d∈ds,k_ J0 J1 J2 up d) {a b:Str}(h:Reach ds a b):Up up J2 a b:=by
 have edge:∀{a b:Str},(⟨a,ar,b⟩:am)∈ds->Up up J2 a b:=by
  intro a b h;rcases (m _ h).sg with ⟨w,_,e⟩ | ⟨w,_,e⟩ | ⟨_,e⟩
  ·cases e
  ·cases e
  ·exact e
 induction h with
 | one h=>exact edge h
 | step r h ih=>exact ih.trans nd (edge h)
inductive gl  (vs:List V) (H:Hp) (Q:VK) (E:XK):Prop
 | mk (p c l1 l2 l3:Addr) (J0 J1 J2:Zb) (full:Int):(vs=[.ref p,.ref l1,.ref l2,.ref l3,.int full])->(ga H p c)->(H l1=some (.lst (J0.map V.str)))->(H l2=some (.lst (J1.map V.str)))->(H l3=some (.lst (J2.map V.str)))->(J0.length<=4)->(J1≠[])->(J1.length<=4)->(J2≠[])->(J2.length<=26)->(0<=full)->(full<=2)->(∀(l:Addr) (ts:Ze) (ds:List am) (up:Bool) (H':Hp),H l=none->H' l=some (.lst (ts.map V.ref))->cw H' ts ds->ds.Nodup->(∀d∈ds,k_ J0 J1 J2 up d)->ds.length<=600->ga H' p c->cM p H H'->Q (.ref l) H')->gl  vs H Q E
theorem at4 {x r:Int}(x0:0<=x) (x2:x<=2) (r0:0<=r) (r4:r<4):∃j:Int,pI [V.int x,.int 1,.int 1,.int 2] r=some (.int j)/\0<=j/\j<=2:=by
 have:r=0∨r=1∨r=2∨r=3:=by omega
 rcases this with rfl | rfl | rfl | rfl
 ·exact ⟨x,rfl,x0,x2⟩
 ·exact ⟨1,rfl,by decide,by decide⟩
 ·exact ⟨1,rfl,by decide,by decide⟩
 ·exact ⟨2,rfl,by decide,by decide⟩
theorem uU (ws:Zb) (k:Nat):gF (ws.map V.str) (some (k:Int)) none=(ws.drop k).map V.str:=by
 unfold gF;rw [HT.sIx_none,HT.sIx_nat,ai,List.take_of_length_le (by rw [fA,ai]; omega),ve];by_cases h:k<=ws.length
 ·rw [vd h]
 ·rw [Nat.min_eq_right (by omega),vp (by simp),vp (by rw [ai]; omega)]
theorem qS (ws:Zb) (k:Nat):gF (ws.map V.str) none (some (k:Int))=(ws.take k).map V.str:=by
 unfold gF;rw [HT.sIx_none,HT.sIx_nat,ai,jx,Nat.sub_zero,mq,List.take_eq_take_iff,ai];omega
theorem sO {K:Za}{H:Hp}{a:Addr}{ws:Zb}(h:aB K H a (ws.map V.str)):ka K H (.s (ws.map ix)) (.ref a):=by
 unfold ka;exact ⟨a,_,rfl,h,pH _⟩
theorem FU {K:Za}{H:Hp}{a:Addr}(h:aB K H a []):ka K H (.s []) (.ref a):=by
 unfold ka;refine ⟨a,_,rfl,h,?_⟩;unfold DIns
 rfl
theorem tT {K:Za}{vs:List V}{H:Hp}{Q:VK}{E:XK}(h:gl vs H Q E):oZ K eR jE (bC Q) (start pL vs) H:=by
 obtain ⟨p,c,l1,l2,l3,J0,J1,J2,full,rfl,hp,h1,h2,h3,ha,hs0,hs,hr0,hr,f0,f2,k⟩:=h;have n1:=hp.ne_strs h1;have n2:=hp.ne_strs h2;have n3:=hp.ne_strs h3;refine ⟨(by show 0<=aj; decide),fun l hl=>?_⟩;have hpl:=hp.nep hl;have hcl:=hp.nec hl;refine ⟨_,rfl,dj (hp.ex (ac.new hl)) (by decide) (by decide) fun dn H1 d0 d1 hp1 ex1=>?_⟩;generalize hG:k_ J0 J1 J2 (decide (dn=0))=G;have base:DI G H p c l 0 H1:=⟨hp1,⟨[],[],ex1 _ _ aa hpl.symm,.nil,oT,by simp,c8 _⟩,(cM.new hl).trans ex1,hl,hpl,hcl⟩;refine ⟨_,rfl,l3,rfl,⟨_,aB.of (base.ex _ _ h3 n3)⟩,?_⟩;refine kS (xs:=J2.map V.str) (fun i σ H'=>∃a7 a8 a9 a10 a11 a12:Option V,σ=[some (.ref p),some (.ref l1),some (.ref l2),some (.ref l3),some (.int full),some (.ref l),some (.int dn),a7,a8,a9,a10,a11,a12]/\DI G H p c l (11 * i) H')
  ⟨_,_,_,_,_,_,rfl,base⟩ (fun i σ H' _ ⟨_,_,_,_,_,_,_,D⟩=>aB.of (D.ex _ _ h3 n3)) ?_ ?_
 ·rintro i x σ H' t hi ⟨a7,a8,a9,a10,a11,a12,rfl,D⟩ ht;obtain ⟨room,hroom,rfl⟩:∃room,J2[i]?=some room/\x=V.str room:=by
   rw [bQ] at hi;cases q:J2[i]? with
   | none=>rw [q] at hi; cases hi
   | some r=>rw [q] at hi; exact ⟨r,rfl,(eI hi).symm⟩
  have hiL:i<J2.length:=(bE.mp hroom).1;have hmem:room∈J2:=aO hroom;refine ⟨t,_,rfl,bL.of aa,rfl,_,_,rfl,_,_,rfl,rfl,?_⟩;have D1:=D.new ht (o:=.tup [.int i,.str room]);refine ⟨(by show 4<=aj; decide),fun q hq=>⟨_,rfl,dj (D1.new hq).pen (by decide) (by decide) fun r H2 r0 r1 hp2 ex2=>?_⟩⟩;obtain ⟨j,hj,j0,j2⟩:=at4 (x:=0) (by decide) (by decide) r0 r1;have D2:=(D1.new hq).took hp2 ex2;refine ⟨q,_,_,_,rfl,rfl,aB.of (ex2 q _ aa (D1.pen.nep hq).symm),hj,j,rfl,by omega,by omega,?_⟩;refine lF (lo:=0) (n:=j.toNat) (fun i' σ H''=>∃a9 a10:Option V,σ=[some (.ref p),some (.ref l1),some (.ref l2),some (.ref l3),some (.int full),some (.ref l),some (.int dn),some (.int i),some (.str room),a9,a10,a11,a12]/\DI G H p c l (11 * i+i') H'')
   ⟨_,_,rfl,D2⟩ ?_ ?_
  ·rintro i' σ H3 hi' ⟨a9,a10,rfl,D3⟩;refine iG (fun _ _ _ _ h=>h) rfl rfl D3.pen (D3.ex _ _ h2 n2) hs0 (by omega) fun w hw H4 hp4 ex4=>?_;have D4:=D3.took hp4 ex4;refine ⟨(by show 2<=aj; decide),fun sg hsg=>?_⟩;have D5:=D4.new hsg (o:=.tup [.str "say",.str w]);refine ⟨_,rfl,_,rfl,_,rfl,iG (fun _ _ _ _ h=>h) rfl rfl D5.pen (D5.ex _ _ h3 n3) hr0 (by omega) fun w2 hw2 H6 hp6 ex6=>?_⟩;have D6:=D5.took hp6 ex6;refine ⟨(by show 3<=aj; decide),fun dr hdr=>?_⟩;have D7:=D6.new hdr (o:=.tup [.str room,.ref sg,.str w2]);have hsg6:H6 sg=some (.tup [.str "say",.str w]):=ex6 _ _ aa (D4.pen.nep hsg).symm;refine D7.put (d:=⟨room,["say",w],w2⟩) ⟨sg,aa,kp hsg6 hdr⟩ ?_ (by omega) fun H8 D8=>⟨_,_,rfl,D8⟩;rw [<-hG];exact ⟨hmem,hw2,.inr (.inl ⟨w,hw,rfl⟩)⟩
  rintro σ H3 ⟨a9,a10,rfl,D3'⟩;have D3:DI G H p c l (11 * i+2) H3:=D3'.up (by omega);clear D3';refine ⟨_,rfl,l1,rfl,⟨_,aB.of (D3.ex _ _ h1 n1)⟩,?_⟩;refine cg (xs:=J0.map V.str) (fun i' σ H''=>∃a9 a11:Option V,σ=[some (.ref p),some (.ref l1),some (.ref l2),some (.ref l3),some (.int full),some (.ref l),some (.int dn),some (.int i),some (.str room),a9,a10,a11,a12]/\DI G H p c l (11 * i+2+2 * i') H'')
   ⟨_,_,rfl,D3⟩ (fun i σ H' _ ⟨_,_,_,D⟩=>aB.of (D.ex _ _ h1 n1)) ?_ ?_
  ·rintro i' x σ H4 hi' ⟨a9,a11,rfl,D4⟩;obtain ⟨ask,hask,rfl⟩:∃ask,J0[i']?=some ask/\x=V.str ask:=by
    rw [bQ] at hi';cases q:J0[i']? with
    | none=>rw [q] at hi'; cases hi'
    | some r=>rw [q] at hi'; exact ⟨r,rfl,(eI hi').symm⟩
   have hi2:i'<J0.length:=(bE.mp hask).1;have hm2:ask∈J0:=aO hask;refine ⟨_,rfl,(by show 4<=aj; decide),fun q hq=>⟨_,rfl,dj (D4.new hq).pen (by decide) (by decide) fun r H5 r0 r1 hp5 ex5=>?_⟩⟩;obtain ⟨j,hj,j0,j2⟩:=at4 f0 f2 r0 r1;have D5:=(D4.new hq).took hp5 ex5;refine ⟨q,_,_,_,rfl,rfl,aB.of (ex5 q _ aa (D4.pen.nep hq).symm),hj,j,rfl,by omega,by omega,?_⟩;refine lF (lo:=0) (n:=j.toNat) (fun i'' σ H''=>∃a9:Option V,σ=[some (.ref p),some (.ref l1),some (.ref l2),some (.ref l3),some (.int full),some (.ref l),some (.int dn),some (.int i),some (.str room),a9,a10,some (.str ask),a12]/\DI G H p c l (11 * i+2+2 * i'+i'') H'')
    ⟨_,rfl,D5⟩ ?_ ?_
   ·rintro i'' σ H6 hi'' ⟨a9,rfl,D6⟩;refine ⟨_,rfl,_,rfl,_,rfl,(by show 2<=aj; decide),fun sg hsg=>?_⟩;have D7:=D6.new hsg (o:=.tup [.str "ask",.str ask]);refine iG (fun _ _ _ _ h=>h) rfl rfl D7.pen (D7.ex _ _ h3 n3) hr0 (by omega) fun w2 hw2 H8 hp8 ex8=>?_;have D8:=D7.took hp8 ex8;refine ⟨(by show 3<=aj; decide),fun dr hdr=>?_⟩;have D9:=D8.new hdr (o:=.tup [.str room,.ref sg,.str w2]);have hsg8:H8 sg=some (.tup [.str "ask",.str ask]):=ex8 _ _ aa (D6.pen.nep hsg).symm;refine D9.put (d:=⟨room,["ask",ask],w2⟩) ⟨sg,aa,kp hsg8 hdr⟩ ?_ (by omega) fun H8 D8=>⟨_,rfl,D8⟩;rw [<-hG];exact ⟨hmem,hw2,.inl ⟨ask,hm2,rfl⟩⟩
   ·rintro σ H6 ⟨a9,rfl,D6⟩;exact ⟨_,_,rfl,D6.up (by omega)⟩
  rintro σ H4 ⟨a9,a11,rfl,D4'⟩;have D4:DI G H p c l (11 * i+10) H4:=D4'.up (by rw [ai]; omega);clear D4';have hnext:∀(H9:Hp) (a12:Option V),DI G H p c l (11 * i+11) H9->∃a7 a8 a9' a10' a11' a12':Option V,[some (.ref p),some (.ref l1),some (.ref l2),some (.ref l3),some (.int full),some (.ref l),some (.int dn),some (.int i),some (.str room),a9,a10,a11,a12] =
    [some (.ref p),some (.ref l1),some (.ref l2),some (.ref l3),some (.int full),some (.ref l),some (.int dn),a7,a8,a9',a10',a11',a12']/\DI G H p c l (11 * (i+1)) H9:=fun H9 a12 D9=>⟨_,_,_,_,_,_,rfl,D9.up (by omega)⟩
  refine ⟨_,rfl,_,rfl,_,_,rfl,rfl,_,rfl,l3,_,rfl,aB.of (D4.ex _ _ h3 n3),fun q1 hq1=>?_⟩;have D5:=D4.new hq1 (o:=.lst (gF (J2.map V.str) (some ((i:Int)+1)) none));refine ⟨_,rfl,_,rfl,_,rfl,l3,_,rfl,aB.of (D5.ex _ _ h3 n3),fun q2 hq2=>?_⟩;have e1:gF (J2.map V.str) (some ((i:Int)+1)) none=(J2.drop (i+1)).map V.str:=uU J2 (i+1);rw [qS];have D6:=D5.new hq2 (o:=.lst ((J2.take i).map V.str));refine ⟨(by show 2<=aj; decide),fun q3 hq3=>?_⟩;have D7:=D6.new hq3 (o:=.lst [.ref q1,.ref q2]);obtain ⟨lt,q,hq,hlt,hgood⟩:∃(lt:Zb) (q:Addr),pI [V.ref q1,.ref q2] dn=some (.ref q) /\
    upd (upd (upd H4 q1 (.lst (gF (J2.map V.str) (some ((i:Int)+1)) none))) q2 (.lst ((J2.take i).map V.str))) q3 (.lst [.ref q1,.ref q2]) q=some (.lst (lt.map V.str))/\lt.length<=26 /\
    ∀w∈lt,w∈J2/\Up (decide (dn=0)) J2 room w:=by
   have:dn=0∨dn=1:=by omega
   rcases this with rfl | rfl
   ·refine ⟨J2.drop (i+1),q1,rfl,?_,by rw [fA]; omega,fun w hw=>⟨List.mem_of_mem_drop hw,?_⟩⟩
    ·refine (kp (kp aa hq2) hq3).trans ?_;rw [e1]
    ·obtain ⟨n,hn⟩:=eJ hw;rw [List.getElem?_drop] at hn;exact ⟨i,i+1+n,hroom,hn,by rw [if_pos (by decide)]; omega⟩
   ·refine ⟨J2.take i,q2,rfl,?_,by rw [aJ]; omega,fun w hw=>⟨eK hw,?_⟩⟩
    ·exact kp aa hq3
    ·obtain ⟨n,hn⟩:=eJ hw;have hnl:n<i:=by
      have:=(bE.mp hn).1;rw [aJ] at this;omega
     rw [List.getElem?_take_of_lt hnl] at hn;exact ⟨i,n,hroom,hn,by rw [if_neg (by decide)]; omega⟩
  refine ⟨_,rfl,q3,_,_,_,rfl,rfl,aB.of aa,hq,?_⟩;generalize upd (upd (upd H4 q1 (.lst (gF (J2.map V.str) (some ((i:Int)+1)) none))) q2 (.lst ((J2.take i).map V.str))) q3 (.lst [.ref q1,.ref q2])=H7 at D7 hlt ⊢;refine ⟨_,rfl,(by show 0<=aj; decide),fun e he=>⟨.s (lt.map ix),.s [],sO (aB.of (kp hlt he)),FU (aB.of aa),?_,by decide,_,rfl,?_⟩⟩
  ·show DT.depths (lt.map ix)+1<=8;rw [gE]; decide
  have D8:=D7.new he (o:=.lst []);by_cases hz:lt=[]
  ·have ez:(!decide (DT.s (lt.map ix)=DT.s []))=false:=by rw [hz,zzr1 (by rfl)]; rfl
   rw [ez];exact cC (cC (hnext _ _ (D8.up (by omega))))
  ·have ez:(!decide (DT.s (lt.map ix)=DT.s []))=true:=by
    rw [zzr0 (fun z=>hz (gC (y:=[]) (by injection z)))]; rfl
   rw [ez];refine dO ?_;refine ⟨_,rfl,dj D8.pen (by decide) (by decide) fun r H9 r0 r1 hp9 ex9=>⟨rfl,_,rfl,?_⟩⟩;have D9:=D8.took hp9 ex9;refine gD (fun _=>?_) (fun _=>hnext _ _ (D9.up (by omega)));refine ⟨_,rfl,_,rfl,(by show 1<=aj; decide),fun sg hsg=>?_⟩;have D10:=D9.new hsg (o:=.tup [.str "still"]);have hlt10:upd H9 sg (.tup [.str "still"]) q=some (.lst (lt.map V.str)):=kp (ex9 _ _ (kp hlt he) (D8.pen.ne_strs (kp hlt he))) hsg;refine iG (fun _ _ _ _ h=>.inl h) rfl rfl D10.pen hlt10 hz (by omega) fun w2 hw2 H11 hp11 ex11=>?_;have D11:=D10.took hp11 ex11;refine ⟨(by show 3<=aj; decide),fun dr hdr=>?_⟩;have D12:=D11.new hdr (o:=.tup [.str room,.ref sg,.str w2]);have hsg11:H11 sg=some (.tup [.str "still"]):=ex11 _ _ aa (D9.pen.nep hsg).symm;refine D12.put (d:=⟨room,[("still":Str)],w2⟩) ⟨sg,aa,kp hsg11 hdr⟩ ?_ (by omega) fun H13 D13=>hnext _ _ D13;rw [<-hG];exact ⟨hmem,(hgood.2 w2 hw2).1,.inr (.inr ⟨rfl,(hgood.2 w2 hw2).2⟩)⟩
 ·rintro σ H' ⟨a7,a8,a9,a10,a11,a12,rfl,D⟩;obtain ⟨ts,ds,g1,g2,g3,g4,g5⟩:=D.ds;rw [ai] at g5;rw [<-hG] at g4;exact ⟨_,rfl,k l ts ds _ H' hl g1 g2 g3 g4 (by omega) D.pen D.ex⟩
structure aH (J0 J1 J2:Zb) (ds:List am):Prop where
 okA:jP J0
 okS:jP J1
 apart:∀w∈J1,w∉J0
 okR:jP J2
 asks0:J0≠[]
 says0:J1≠[]
 rooms0:J2≠[]
 asks4:J0.length<=4
 says4:J1.length<=4
 rooms26:J2.length<=150
 nodup:ds.Nodup
 good:∀d∈ds,yW J0 J1 J2 d
 few:ds.length<=1000
 noround:∀r,¬Reach ds r r
structure js (H:Hp) (t l1 l2 l3 l4:Addr) (ts:Ze) (J0 J1 J2:Zb) (ds:List am):Prop where
 t:H t=some (.tup [.ref l1,.ref l2,.ref l3,.ref l4])
 a1:H l1=some (.lst (J0.map V.str))
 a2:H l2=some (.lst (J1.map V.str))
 a3:H l3=some (.lst (J2.map V.str))
 a4:H l4=some (.lst (ts.map V.ref))
 ds:cw H ts ds
theorem ga.ne_refs {H:Hp}{p c a:Addr}{ts:Ze}(hp:ga H p c) (ha:H a=some (.lst (ts.map V.ref))):a≠p:=by
 intro e;obtain ⟨x,y,ns,h1,_⟩:=hp;rw [e,h1] at ha;injection ha with ha;injection ha with ha;cases ts with
 | nil=>cases ha
 | cons w ws =>
  injection ha with _ ha;cases ws with
  | nil=>cases ha
  | cons w ws=>injection ha with ha; cases ha
theorem js.ex {H H':Hp}{p c t l1 l2 l3 l4:Addr}{ts:Ze}{J0 J1 J2:Zb}{ds:List am}(h:js H t l1 l2 l3 l4 ts J0 J1 J2 ds) (hp:ga H p c) (e:cM p H H'):js H' t l1 l2 l3 l4 ts J0 J1 J2 ds:=by
 obtain ⟨xs,hx⟩:=hp.lst;exact ⟨e.kt hx _ _ h.t,e _ _ h.a1 (hp.ne_strs h.a1),e _ _ h.a2 (hp.ne_strs h.a2),e _ _ h.a3 (hp.ne_strs h.a3),e _ _ h.a4 (hp.ne_refs h.a4),h.ds.kt (e.kt hx)⟩
theorem js.same {H H':Hp}{t l1 l2 l3 l4:Addr}{ts:Ze}{J0 J1 J2:Zb}{ds:List am}(h:js H t l1 l2 l3 l4 ts J0 J1 J2 ds) (e:ac H H'):js H' t l1 l2 l3 l4 ts J0 J1 J2 ds :=
 ⟨e _ _ h.t,e _ _ h.a1,e _ _ h.a2,e _ _ h.a3,e _ _ h.a4,h.ds.kt (ac.kt e)⟩
inductive nL  (vs:List V) (H:Hp) (Q:VK) (E:XK):Prop
 | mk (p c:Addr) (most full:Int):(vs=[.ref p,.int most,.int full])->(ga H p c)->(0<most)->(most<=25)->(0<=full)->(full<=2)->(∀(t l1 l2 l3 l4:Addr) (ts:Ze) (J0 J1 J2:Zb) (ds:List am) (H':Hp),js H' t l1 l2 l3 l4 ts J0 J1 J2 ds->aH J0 J1 J2 ds->J2.length<=most.toNat->ds.length<=600->ga H' p c->cM p H H'->Q (.ref t) H')->nL  vs H Q E
theorem at6 {r:Int}(r0:0<=r) (r6:r<6):∃n:Nat,pI [V.int 0,.int 1,.int 1,.int 2,.int 2,.int 3] r=some (.int n)/\n<=3:=by
 have:r=0∨r=1∨r=2∨r=3∨r=4∨r=5:=by omega
 rcases this with rfl | rfl | rfl | rfl | rfl | rfl
 ·exact ⟨0,rfl,by decide⟩
 ·exact ⟨1,rfl,by decide⟩
 ·exact ⟨1,rfl,by decide⟩
 ·exact ⟨2,rfl,by decide⟩
 ·exact ⟨2,rfl,by decide⟩
 ·exact ⟨3,rfl,by decide⟩
theorem Ez {ws:Zb}(hw:ws.length=8) {n:Nat}(hn:n<=3):gF (ws.map V.str) (some 4) (some (5+(n:Int)))=((ws.drop 4).take (1+n)).map V.str:=by
 unfold gF;have s1:HT.sIx (ws.map V.str).length 0 (some 4)=min 4 (ws.map V.str).length:=HT.sIx_nat _ _ 4;have s2:HT.sIx (ws.map V.str).length (ws.map V.str).length (some (5+(n:Int)))=min (5+n) (ws.map V.str).length:=HT.sIx_nat _ _ (5+n);rw [s1,s2,ai,hw,mq,ve];have e1:min 4 8=4:=by decide
 have e2:min (5+n) 8-4=1+n:=by omega
 rw [e1,e2]
theorem Dw {K:Za}{vs:List V}{H:Hp}{Q:VK}{E:XK}(h:nL vs H Q E):xy K gl kG eR qM (bC Q) (start yU vs) H:=by
 obtain ⟨p,c,most,full,rfl,hp,m0,m1,f0,f2,k⟩:=h;refine ⟨_,rfl,p,c,rfl,hp,fun H1 hp1 ex1=>?_⟩;refine ⟨_,rfl,p,c,8,rfl,hp1,by decide,fun lw ws H2 ok len fr hl hp2 ex2=>?_⟩;have e2:=ex1.trans ex2;have nw:=hp2.ne_strs hl;refine ⟨_,rfl,(by show 6<=aj; decide),fun q hq=>⟨_,rfl,dj (hp2.ex (ac.new hq)) (by decide) (by decide) fun r H3 r0 r1 hp3 ex3=>?_⟩⟩;obtain ⟨n,hn,n3⟩:=at6 r0 r1;have hl3:H3 lw=some (.lst (ws.map V.str)):=ex3 _ _ (kp hl hq) nw;refine ⟨q,_,_,_,rfl,rfl,aB.of (ex3 _ _ aa (hp2.nep hq).symm),hn,_,_,rfl,rfl,_,rfl,lw,_,rfl,aB.of hl3,fun l1 hl1=>?_⟩;have ea:gF (ws.map V.str) none (some (1+(n:Int)))=(ws.take (1+n)).map V.str:=qS ws (1+n);rw [ea];have e3:cM p H H3:=e2.trans ((cM.new hq).trans ex3);have hp4:ga (upd H3 l1 (.lst ((ws.take (1+n)).map V.str))) p c:=hp3.ex (ac.new hl1);have e4:cM p H (upd H3 l1 (.lst ((ws.take (1+n)).map V.str))):=e3.trans (cM.new hl1);have hl4:upd H3 l1 (.lst ((ws.take (1+n)).map V.str)) lw=some (.lst (ws.map V.str)):=kp hl3 hl1;have ha4:upd H3 l1 (.lst ((ws.take (1+n)).map V.str)) l1=some (.lst ((ws.take (1+n)).map V.str)):=aa;generalize upd H3 l1 (.lst ((ws.take (1+n)).map V.str))=H4 at hp4 e4 hl4 ha4 ⊢;refine ⟨_,rfl,_,rfl,(by show 6<=aj; decide),fun q hq=>⟨_,rfl,dj (hp4.ex (ac.new hq)) (by decide) (by decide) fun r H5 r0 r1 hp5 ex5=>?_⟩⟩;obtain ⟨m,hm,m3⟩:=at6 r0 r1;have hl5:H5 lw=some (.lst (ws.map V.str)):=ex5 _ _ (kp hl4 hq) nw;have ha5:H5 l1=some (.lst ((ws.take (1+n)).map V.str)):=ex5 _ _ (kp ha4 hq) (hp4.ne_strs ha4);refine ⟨q,_,_,_,rfl,rfl,aB.of (ex5 _ _ aa (hp4.nep hq).symm),hm,_,_,rfl,rfl,_,rfl,lw,_,rfl,aB.of hl5,fun l2 hl2=>?_⟩;rw [Ez len m3];have e5:cM p H H5:=e4.trans ((cM.new hq).trans ex5);have hp6:ga (upd H5 l2 (.lst (((ws.drop 4).take (1+m)).map V.str))) p c:=hp5.ex (ac.new hl2);have e6:cM p H (upd H5 l2 (.lst (((ws.drop 4).take (1+m)).map V.str))):=e5.trans (cM.new hl2);have ha6:upd H5 l2 (.lst (((ws.drop 4).take (1+m)).map V.str)) l1=some (.lst ((ws.take (1+n)).map V.str)):=kp ha5 hl2;have hb6:upd H5 l2 (.lst (((ws.drop 4).take (1+m)).map V.str)) l2=some (.lst (((ws.drop 4).take (1+m)).map V.str)):=aa;generalize upd H5 l2 (.lst (((ws.drop 4).take (1+m)).map V.str))=H6 at hp6 e6 ha6 hb6 ⊢;refine ⟨_,rfl,_,rfl,_,rfl,dj hp6 m0 (by omega) fun r H7 r0 r1 hp7 ex7=>?_⟩;obtain ⟨rn,rfl⟩:=iO r0;have ha7:=ex7 _ _ ha6 (hp6.ne_strs ha6);have hb7:=ex7 _ _ hb6 (hp6.ne_strs hb6);refine ⟨_,_,rfl,rfl,p,c,1+rn,rfl,hp7,by omega,fun l3 J2 H8 okr lenr fr3 hl3' hp8 ex8=>?_⟩;have ha8:=ex8 _ _ ha7 (hp7.ne_strs ha7);have hb8:=ex8 _ _ hb7 (hp7.ne_strs hb7);have hs0:(ws.drop 4).take (1+m)≠[]:=by
  intro z;have:=congrArg List.length z;rw [aJ,fA,len] at this;simp at this
 have ha0:ws.take (1+n)≠[]:=by
  intro z;have:=congrArg List.length z;rw [aJ,len] at this;simp at this
 have hr0:J2≠[]:=by
  intro z;rw [z] at lenr;simp at lenr;omega
 refine ⟨_,rfl,_,rfl,_,rfl,_,rfl,_,rfl,p,c,l1,l2,l3,_,_,J2,full,rfl,hp8,ha8,hb8,hl3',by rw [aJ]; omega,hs0,by rw [aJ]; omega,hr0,by omega,f0,f2,fun l4 ts ds up H9 fr4 hl4' hds nod good few hp9 ex9=>?_⟩;have ha9:=ex9 _ _ ha8 (hp8.ne_strs ha8);have hb9:=ex9 _ _ hb8 (hp8.ne_strs hb8);have hc9:=ex9 _ _ hl3' (hp8.ne_strs hl3');refine ⟨_,rfl,_,rfl,_,rfl,_,rfl,(by show 4<=aj; decide),fun t ht=>k t l1 l2 l3 l4 ts _ _ J2 ds _ ⟨aa,kp ha9 ht,kp hb9 ht,kp hc9 ht,kp hl4' ht,hds.kt (ac.kt (ac.new ht))⟩ ?_ ?_ few (hp9.ex (ac.new ht)) ?_⟩
 ·refine ⟨⟨?_,fun w h=>ok.2 w (eK h)⟩,⟨?_,fun w h=>ok.2 w (List.mem_of_mem_drop (eK h))⟩,?_,okr,ha0,hs0,hr0,by rw [aJ]; omega,by rw [aJ]; omega,by omega,nod,fun d hd=>(good d hd).d,by omega,fun r z=>(Dg okr.1 good z).irr okr.1⟩
  ·exact ok.1.sublist (List.take_sublist _ _)
  ·exact ok.1.sublist ((List.take_sublist _ _).trans (List.drop_sublist _ _))
  ·intro w h1 h2;have h3:w∈ws.drop 4:=eK h1;have h4:w∈ws.take 4:=by
    have:ws.take (1+n)=(ws.take 4).take (1+n):=by rw [List.take_take]; congr 1; omega
    rw [this] at h2;exact eK h2
   have:=ok.1;rw [<-re 4 ws,ck] at this;exact this.2.2 w h4 w h3 rfl
 ·omega
 ·exact (((e6.trans ex7).trans ex8).trans ex9).trans (cM.new ht)
theorem bv {ws:Zb}{i:Nat}{x:V}(h:(ws.map V.str)[i]?=some x):∃w,ws[i]?=some w/\x=.str w:=by
 rw [bQ] at h;cases q:ws[i]? with
 | none=>rw [q] at h; cases h
 | some r=>rw [q] at h; exact ⟨r,rfl,(eI h).symm⟩
theorem take_snoc {α:Type}{ws:List α}{i:Nat}{w:α}(h:ws[i]?=some w):ws.take (i+1)=ws.take i++[w]:=by
 obtain ⟨hi,rfl⟩:=bE.mp h;rw [List.take_succ_eq_append_getElem hi]
def n6 (w:Str):Bool:=!decide (w=("":Str)) && (decide (w.length<=8) && w.cps.toList.all fun c=>decide (c∈("abcdefghijklmnopqrstuvwxyz":Str).cps.toList))
theorem pO.b {w:Str}(h:pO w):n6 w=true:=by
 unfold n6;have h1:¬(w=("":Str)):=fun e=>by
  have:=h.lo;rw [e] at this;exact absurd this (by decide +kernel)
 rw [zzr0 h1,zzr1 h.hi,Bool.not_false,rc,rc,List.all_eq_true];intro c hc;obtain ⟨c1,c2⟩:=h.al c hc;refine zzr1 ?_;have:=BG (c-97) (by omega);have e:97+(c-97)=c:=by omega
 rw [e] at this;exact aO this
inductive sp_is_name  (vs:List V) (H:Hp) (Q:VK) (E:XK):Prop
 | mk (w:Str):(vs=[.str w])->(w.length<=1000)->(∀H',ac H H'->Q (.bl (n6 w)) H')->sp_is_name  vs H Q E
theorem zN {K:Za}{vs:List V}{H:Hp}{Q:VK}{E:XK}(h:sp_is_name vs H Q E):BY K (bC Q) (start CZ vs) H:=by
 obtain ⟨w,rfl,hz,k⟩:=h;refine ⟨_,rfl,rfl,_,rfl,?_⟩;have ed:(!decide (V.str w=V.str ("":Str)))=!decide (w=("":Str)):=by
  congr 1;by_cases e:w=("":Str)
  ·rw [zzr1 e,zzr1 (by rw [e])]
  ·rw [zzr0 e,zzr0 (fun z=>e (by injection z))]
 rw [ed];refine gD (fun h1=>?_) (fun h1=>?_)
 ·refine ⟨_,rfl,.inr ⟨w,rfl,dR (av hz),_,_,rfl,rfl,_,rfl,?_⟩⟩;refine gD (fun h2=>?_) (fun h2=>?_)
  ·refine ⟨_,rfl,w,rfl,fun l hl=>?_⟩;refine EB (fun i vs H'=>vs=((w.cps.toList.take i).map fun c=>V.bl (decide (c∈("abcdefghijklmnopqrstuvwxyz":Str).cps.toList)))/\ac H H'/\H' l=some (.lst vs))
    ⟨rfl,ac.new hl,aa⟩ (fun i vs H' _ h=>h.2.2) ?_ ?_
   ·rintro vs H' ⟨rfl,hS,hl'⟩;refine ⟨l,w.cps.toList.map fun c=>decide (c∈("abcdefghijklmnopqrstuvwxyz":Str).cps.toList),rfl,aB.of ?_,?_⟩
    ·rw [hl',rf];have:w.cps.toList.take w.cps.size=w.cps.toList:=by
      rw [List.take_of_length_le]; simp
     rw [this]
     rfl
    ·have:=k H' hS;have h2':decide (w.length<=8)=true:=zzr1 (by have:=of_decide_eq_true h2; omega);unfold n6 at this;rw [h1,h2',rc,rc] at this;rw [List.all_map];exact this
   ·rintro i vs H' c hc hi ⟨rfl,hS,hl'⟩;refine gN (rM ?_);refine ⟨_,rfl,c,_,rfl,rfl,hl',?_,tX hi ⟨?_,?_,aa⟩⟩
    ·rw [ai,aJ];have:w.length=w.cps.toList.length:=eQ w;exact av (by omega)
    ·rw [take_snoc (by rw [<-hc]; simp),au]
     rfl
    ·intro b o e;rw [af (ae e hl)];exact hS b o e
  ·have:=k H (ac.refl H);have h2':decide (w.length<=8)=false:=zzr0 (fun z=>h2 (zzr1 (by omega)));unfold n6 at this;rw [h1,h2',rc,AQ] at this;exact this
 ·have:=k H (ac.refl H);unfold n6 at this;rw [Bool.eq_false_iff.mpr h1,AQ] at this;exact this
def aQ (ws:Zb):List (dX×V):=ws.foldl (fun acc w=>cI acc (.inr w) (.bl true)) []
theorem dh (ws:Zb) (w:Str):aQ (ws++[w])=cI (aQ ws) (.inr w) (.bl true):=by
 unfold aQ;rw [fz]
 rfl
theorem xT {κ:Type} [DecidableEq κ] (kvs:List (κ×V)) (k:κ) (v:V):(cI kvs k v).length<=kvs.length+1:=by
 unfold cI;split
 ·rw [ai]; omega
 ·rw [ax]; exact aD _
theorem i_ {α:Type}(P:List α->Prop) (h0:P []) (hs:∀ws w,P ws->P (ws++[w])) (ws:List α):P ws:=by
 have:∀n (ws:List α),ws.length=n->P ws:=by
  intro n
  induction n with
  | zero=>intro ws h; rw [List.length_eq_zero_iff.mp h]; exact h0
  | succ n ih =>
   intro ws h;have hne:ws≠[]:=fun z=>by rw [z] at h; cases h
   rw [<-vb hne];exact hs _ _ (ih _ (by rw [List.length_dropLast,h]; rfl))
 exact this _ ws rfl
theorem jM (ws:Zb):(aQ ws).length<=ws.length:=by
 refine i_ (fun ws=>(aQ ws).length<=ws.length) (aD _) (fun ws w h=>?_) ws;show (aQ (ws++[w])).length<=(ws++[w]).length;rw [dh,ax];have:=xT (aQ ws) (.inr w) (.bl true);show _<=ws.length+1;omega
theorem sG (ws:Zb) (x:Str):bG (aQ ws) (.inr x)=if x∈ws then some (.bl true) else none:=by
 refine i_ (fun ws=>bG (aQ ws) (.inr x)=if x∈ws then some (.bl true) else none) rfl (fun ws w h=>?_) ws
 show bG (aQ (ws++[w])) (.inr x)=_;rw [dh,xn,h];by_cases e:x=w
 ·subst e;rw [if_pos rfl,if_pos (by simp)]
 ·have e1:¬((Sum.inr x:dX)=.inr w):=fun z=>e (by injection z);rw [if_neg e1];by_cases m:x∈ws
  ·rw [if_pos m,if_pos (cx _ m)]
  ·rw [if_neg m,if_neg (fun z=>by rcases aW.mp z with z | z; exact m z; exact e (by simpa using z))]
theorem eF (ws:Zb) (x:Str):(bG (aQ ws) (.inr x)).isSome=decide (x∈ws):=by
 rw [sG];by_cases m:x∈ws
 ·rw [if_pos m,zzr1 m]; rfl
 ·rw [if_neg m,zzr0 m]; rfl
inductive sp_as_keys (K:Za) (vs:List V) (H:Hp) (Q:VK) (E:XK):Prop
 | mk (l:Addr) (ws:Zb):(vs=[.ref l])->(aB K H l (ws.map V.str))->(ws.length<=1000)->(∀d,H d=none->Q (.ref d) (upd H d (.dK (aQ ws))))->sp_as_keys K vs H Q E
theorem zO {K:Za}{vs:List V}{H:Hp}{Q:VK}{E:XK}(h:sp_as_keys K vs H Q E):BZ K (bC Q) (start C0 vs) H:=by
 obtain ⟨l,ws,rfl,hl,hz,k⟩:=h;refine fun d hd=>?_;have key:∀kvs,aB K (upd H d (.dK kvs)) l (ws.map V.str):=fun kvs=>(ac.new hd).seq hl;refine ⟨_,rfl,l,rfl,⟨_,key _⟩,?_⟩;refine cg (xs:=ws.map V.str) (fun i σ H'=>∃x,σ=[some (.ref l),some (.ref d),x]/\H'=upd H d (.dK (aQ (ws.take i)))) ⟨_,rfl,rfl⟩ (fun i σ H' _ ⟨_,_,e⟩=>by rw [e]; exact key _) ?_ ?_
 ·rintro i x σ H' hi ⟨y,rfl,rfl⟩;obtain ⟨w,hw,rfl⟩:=bv hi;have hlen:(aQ (ws.take i)).length<aj:=av (bP (jM _) (by rw [aJ]; omega));refine ⟨_,rfl,_,rfl,d,_,rfl,.inl ⟨_,.inr w,aa,rfl,hlen,rfl⟩,_,rfl,?_⟩;rw [qG,take_snoc hw,dh]
 ·rintro σ H' ⟨x,rfl,rfl⟩;rw [ai,bm];exact ⟨_,rfl,k d hd⟩
def En (most:Nat):Nat->List Str->List Str->Option Nat
 | _,_,[]=>none
 | i,ahead,n::ns=>if i=most∨n∈ahead∨n6 n=false then some i else En most (i+1) (ahead++[n]) ns
def cE (names:Zb) (most:Nat) (taken:Zb):Option Nat:=if names=[] then some 0 else En most 0 taken names
def oV:Option Nat->V
 | none=>.non
 | some i=>.int i
inductive sp_first_wrong_name (K:Za) (vs:List V) (H:Hp) (Q:VK) (E:XK):Prop
 | mk (l t:Addr) (names taken:Zb) (most:Nat):(vs=[.ref l,.int most,.ref t])->(aB K H l (names.map V.str))->(aB K H t (taken.map V.str))->(names.length+taken.length<=1000)->((∀w∈names,w.length<=1000))->(∀H',ac H H'->Q (oV (cE names most taken)) H')->sp_first_wrong_name K vs H Q E
theorem pJ {K:Za}{H:Hp}{Q:VK}{E:XK}{l:Addr}{ws:Zb}(hl:aB K H l (ws.map V.str)) (hz:ws.length<=1000) (k:∀d,H d=none->Q (.ref d) (upd H d (.dK (aQ ws)))):sp_as_keys K [.ref l] H Q E:=by
 exact ⟨l,ws,rfl,hl,hz,k⟩
theorem CA {H:Hp}{Q:VK}{E:XK}{w:Str}(hz:w.length<=1000) (k:∀H',ac H H'->Q (.bl (n6 w)) H'):sp_is_name [.str w] H Q E:=by
 exact ⟨w,rfl,hz,k⟩
theorem lO {K:Za}{vs:List V}{H:Hp}{Q:VK}{E:XK}(h:sp_first_wrong_name K vs H Q E):mC K sp_is_name (sp_as_keys K) (bC Q) (start mU vs) H:=by
 obtain ⟨l,t,names,taken,most,rfl,hl,ht,hz,hw,k⟩:=h;refine ⟨_,rfl,.inl ⟨l,_,rfl,.inl hl,rfl,_,rfl,?_⟩⟩;by_cases h0:names=[]
 ·subst h0;refine dO ?_;have:=k H (ac.refl H);exact this
 have e0:decide (V.int ((names.map V.str).length:Nat)=V.int 0)=false:=zzr0 (fun z=>h0 (by
  injection z with z;rw [ai] at z;exact List.length_eq_zero_iff.mp (by omega)))
 rw [e0];refine cC ?_;have hk:∀H',ac H H'->Q (oV (En most 0 taken names)) H':=by
  unfold cE at k;rw [if_neg h0] at k;exact k
 refine ⟨_,rfl,pJ ht (by omega) fun d hd=>?_⟩;refine ⟨_,rfl,l,rfl,⟨_,(ac.new hd).seq hl⟩,?_⟩;refine kS (xs:=names.map V.str) (fun i σ H'=>∃x y,σ=[some (.ref l),some (.int most),some (.ref t),some (.ref d),x,y]/\ac H H'/\H' d=some (.dK (aQ (taken++names.take i)))/\En most i (taken++names.take i) (names.drop i)=En most 0 taken names)
  ⟨_,_,rfl,ac.new hd,by rw [q_,fV]; exact aa,by rw [q_,fV,jx]⟩ (fun i σ H' _ ⟨_,_,_,hS,_⟩=>hS.seq hl) ?_ ?_
 ·rintro i x σ H' q hi ⟨x4,x5,rfl,hS,hd',hf⟩ hq;obtain ⟨w,hw',rfl⟩:=bv hi;have hil:i<names.length:=(bE.mp hw').1;have ed:names.drop i=w::names.drop (i+1):=by
   rw [rq hil];congr 1;exact (bE.mp hw').2
  rw [ed] at hf;have hd2:upd H' q (.tup [.int i,.str w]) d=some (.dK (aQ (taken++names.take i))):=kp hd' hq;have hS2:ac H (upd H' q (.tup [.int i,.str w])):=hS.trans (ac.new hq);have hww:w.length<=1000:=hw w (aO hw');refine ⟨q,_,rfl,bL.of aa,rfl,_,_,rfl,_,_,rfl,rfl,?_⟩;generalize upd H' q (.tup [.int i,.str w])=H2 at hd2 hS2 ⊢;refine ⟨_,rfl,_,rfl,rfl,_,rfl,?_⟩;by_cases c1:i=most
  ·have e1:decide (V.int (i:Nat)=V.int (most:Nat))=true:=zzr1 (by rw [c1]);rw [e1];refine dO (dO ?_);refine ⟨_,rfl,?_⟩;have:=hk H2 hS2;rw [<-hf] at this;unfold En at this;rw [if_pos (.inl c1)] at this;exact this
  have e1:decide (V.int (i:Nat)=V.int (most:Nat))=false:=zzr0 (fun z=>c1 (by injection z with z; omega));rw [e1];refine cC ?_;refine ⟨_,rfl,_,rfl,d,_,rfl,.inl ⟨_,.inr w,.inl hd2,rfl,rfl⟩,_,rfl,?_⟩;rw [eF];by_cases c2:w∈taken++names.take i
  ·rw [zzr1 c2];refine dO (dO ?_);refine ⟨_,rfl,?_⟩;have:=hk H2 hS2;rw [<-hf] at this;unfold En at this;rw [if_pos (.inr (.inl c2))] at this;exact this
  rw [zzr0 c2];refine cC ?_;refine ⟨_,rfl,CA hww fun H3 hS3=>⟨_,rfl,?_⟩⟩;have hd3:=hS3 _ _ hd2;cases c3:n6 w with
  | false =>
   refine dO ?_;refine ⟨_,rfl,?_⟩;have:=hk H3 (hS2.trans hS3);rw [<-hf] at this;unfold En at this;rw [if_pos (.inr (.inr c3))] at this;exact this
  | true =>
   refine cC ?_;have hlen:(aQ (taken++names.take i)).length<aj:=av (bP (jM _) (by rw [ax,aJ]; omega));refine ⟨_,rfl,_,rfl,d,_,rfl,.inl ⟨_,.inr w,hd3,rfl,hlen,rfl⟩,_,_,rfl,?_,?_,?_⟩
   ·intro b o e;rw [af (ae e hd)];exact hS3 _ _ (hS2 _ _ e)
   ·rw [aa,take_snoc hw',<-cJ,dh]
   ·rw [<-hf,take_snoc hw',<-cJ]
    conv=>rhs; unfold En
    rw [if_neg];rintro (z | z | z)
    ·exact c1 z
    ·exact c2 z
    ·rw [c3] at z; cases z
 ·rintro σ H' ⟨x,y,rfl,hS,_,hf⟩;rw [ai,List.drop_length] at hf;have:=hk H' hS;rw [<-hf] at this;exact this
theorem yB {most:Nat}:∀(ns ahead:Zb) (i:Nat),i+ns.length<=most->(ahead++ns).Nodup->(∀w∈ns,pO w)->En most i ahead ns=none
 | [],_,_,_,_,_=>rfl
 | n::ns,ahead,i,h1,h2,h3=>by
  rw [dQ] at h1;unfold En;rw [if_neg]
  ·refine yB ns (ahead++[n]) (i+1) (by omega) (by rw [cJ]; exact h2) fun w hw=>h3 w (eO _ hw)
  ·rintro (z | z | z)
   ·omega
   ·rw [ck] at h2;exact h2.2.2 n z n (cy) rfl
   ·rw [(h3 n cy).b] at z; cases z
theorem gQ {most:Nat}{ns taken:Zb}(h0:ns≠[]) (h1:ns.length<=most) (h2:(taken++ns).Nodup) (h3:∀w∈ns,pO w):cE ns most taken=none:=by
 unfold cE;rw [if_neg h0];exact yB ns taken 0 (by omega) h2 h3
theorem fX {n:Nat}(h:n<=9000):n<aj:=Nat.lt_of_le_of_lt h (by decide)
def nR (x:Str):TK:=.k (.inr x)
def jq (sg:Zb):TK:=.t (sg.map nR)
def BD (d:am):TK:=.t [nR d.a,jq d.sg,nR d.b]
theorem qN {x y:Str}(h:nR x=nR y):x=y:=by
 unfold nR at h;injection h with h;injection h
theorem p8:∀{x y:Zb},x.map nR=y.map nR->x=y
 | [],[],_=>rfl
 | [],_::_,h=>by cases h
 | _::_,[],h=>by cases h
 | a::x,b::y,h=>by
  rw [aZ,aZ] at h;injection h with h1 h2;rw [qN h1,p8 h2]
theorem lD {x y:Zb}(h:jq x=jq y):x=y:=by
 unfold jq at h;injection h with h;exact p8 h
theorem FT {x y:am}(h:BD x=BD y):x=y:=by
 unfold BD at h;injection h with h;injection h with h1 h;injection h with h2 h;injection h with h3 h;cases x; cases y;simp only at *;rw [qN h1,lD h2,qN h3]
theorem za (xs:Zb):TK.depths (xs.map nR)=0:=by
 induction xs with
 | nil=>rfl
 | cons x xs ih=>rw [aZ]; show max (TK.depth (nR x)) (TK.depths _)=0; rw [ih]; rfl
theorem uq (sg:Zb):(jq sg).depth=1:=by
 show TK.depths (sg.map nR)+1=1;rw [za]
theorem ur (d:am):(BD d).depth=2:=by
 show max (TK.depth (nR d.a)) (max (TK.depth (jq d.sg)) (max (TK.depth (nR d.b)) 0))+1=2;rw [uq]
 rfl
theorem AZ {H:Hp}:∀xs:List Str,TKAts H (xs.map nR) (xs.map V.str)
 | []=>by show TKAts H [] []; unfold TKAts; rfl
 | x::xs=>by
  rw [aZ,aZ];unfold TKAts;refine ⟨_,_,rfl,?_,AZ xs⟩;unfold nR cV
  rfl
theorem vS {H:Hp}(x:Str):cV H (nR x) (.str x):=by unfold nR cV; rfl
theorem SignAt.tk {H:Hp}{s:Addr}{sg:Zb}(h:SignAt H s sg):cV H (jq sg) (.ref s):=by
 unfold jq cV;exact ⟨s,_,rfl,h,AZ _⟩
theorem gb.tk {H:Hp}{t:Addr}{d:am}(h:gb H t d):cV H (BD d) (.ref t):=by
 obtain ⟨s,h1,h2⟩:=h;unfold BD cV;refine ⟨t,_,rfl,h1,?_⟩;unfold TKAts;refine ⟨_,_,rfl,vS _,?_⟩;unfold TKAts;refine ⟨_,_,rfl,SignAt.tk h2,?_⟩;unfold TKAts;refine ⟨_,_,rfl,vS _,?_⟩;unfold TKAts
 rfl
section
variable {κ:Type} [DecidableEq κ]
def j7 (ks:List κ):List (κ×V):=ks.foldl (fun acc k=>cI acc k (.bl true)) []
theorem mO (ws:List κ) (w:κ):j7 (ws++[w])=cI (j7 ws) w (.bl true):=by
 unfold j7;rw [fz]
 rfl
theorem Cv (ws:List κ):(j7 ws).length<=ws.length:=by
 refine i_ (fun ws=>(j7 ws).length<=ws.length) (aD _) (fun ws w h=>?_) ws;show (j7 (ws++[w])).length<=(ws++[w]).length;rw [mO,ax];have:=xT (j7 ws) w (.bl true);show _<=ws.length+1;omega
theorem Ef (ws:List κ) (x:κ):(bG (j7 ws) x).isSome=decide (x∈ws):=by
 refine i_ (fun ws=>(bG (j7 ws) x).isSome=decide (x∈ws)) rfl (fun ws w h=>?_) ws;show (bG (j7 (ws++[w])) x).isSome=_;rw [mO,xn];by_cases e:x=w
 ·subst e;rw [if_pos rfl,zzr1 (by simp)]
  rfl
 ·rw [if_neg e,h];by_cases m:x∈ws
  ·rw [zzr1 m,zzr1 (cx _ m)]
  ·rw [zzr0 m,zzr0 (fun z=>by rcases aW.mp z with z | z; exact m z; exact e (by simpa using z))]
end
theorem Bs {d:am}{ds:List am}:BD d∈ds.map BD↔d∈ds:=by
 constructor
 ·intro h;obtain ⟨x,hx,e⟩:=ay.mp h;rw [<-FT e]; exact hx
 ·exact kh
def mS (K:Za) (H:Hp) (v:V) (sg:Zb):Prop:=∃s,v=.ref s/\bL K H s (sg.map V.str)
theorem ac.sqT {K:Za}{H H':Hp}{a:Addr}{xs:List V}(e:ac H H') (h:bL K H a xs):bL K H' a xs:=by
 rcases h with (h | ⟨o,h⟩) | h
 ·exact .inl (.inl (e _ _ h))
 ·exact .inl (.inr ⟨o,e _ _ h⟩)
 ·exact .inr h
theorem Signs.same {K:Za}{H H':Hp}(e:ac H H') {xs:List V}{sgs:List (List Str)}(h:Paired (mS K H) xs sgs):Paired (mS K H') xs sgs :=
 Paired.mapP h fun _ _ ⟨s,h1,h2⟩=>⟨s,h1,ac.sqT e h2⟩
def oC (sg:Zb):DT:=.t (sg.map ix)
theorem wK {x y:Zb}(h:oC x=oC y):x=y:=by
 unfold oC at h;injection h with h;exact gC h
theorem dW (sg:Zb):(oC sg).depth=1:=by
 show DT.depths (sg.map ix)+1=1;rw [gE]
theorem CI (sgs:List (List Str)):DT.depths (sgs.map oC)<=8:=by
 induction sgs with
 | nil=>exact c8 _
 | cons x xs ih=>rw [aZ]; show max (DT.depth (oC x)) (DT.depths _)<=8; rw [dW]; omega
theorem Signs.dIns {K:Za}{H:Hp}:∀{xs:List V}{sgs:List (List Str)},Paired (mS K H) xs sgs->DIns K H (sgs.map oC) xs
 | _,_,.nil=>by show DIns K H [] []; unfold DIns; rfl
 | _,_,.cons ⟨s,e,r⟩ t=>by
  rw [aZ];unfold DIns;refine ⟨_,_,rfl,?_,Signs.dIns t⟩;rw [e];exact cF r
theorem Br {d:Zb}{ds:List (List Str)}:oC d∈ds.map oC↔d∈ds:=by
 constructor
 ·intro h;obtain ⟨x,hx,e⟩:=ay.mp h;rw [<-wK e]; exact hx
 ·exact kh
theorem Paired.app {α β:Type}{R:α->β->Prop}:∀{a:List α}{b:List β}{c:List α}{d:List β},Paired R a b->Paired R c d->Paired R (a++c) (b++d)
 | _,_,_,_,.nil,h=>h
 | _,_,_,_,.cons r t,h=>.cons r (Paired.app t h)
def cj (w:Str):List Str:=[("ask":Str),w]
def nQ (w:Str):List Str:=[("say":Str),w]
def jr (J0 J1:Zb):List (List Str):=J0.map cj++J1.map nQ++[ar]
theorem si {K:Za}{kw:Str}{σ:L2.St}{H:Hp}{a l:Addr}{ws:Zb}{Q:Hp->Prop}(ha:H a=some (.lst (ws.map V.str))) (hl:H l=none) (hz:ws.length<=1000)
  (k:∀(xs:List V) (H':Hp),Paired (mS K H') xs (ws.map fun w=>[kw,w])->ac H H'->H' l=some (.lst xs)->Q H') :
  fM 1 [] σ (ET K a) U0 jA (bB (aS (tC (.str kw)) V0)) H l Q:=by
 refine dg (xs:=ws.map V.str) (fun i vs H'=>Paired (mS K H') vs ((ws.take i).map fun w=>[kw,w])/\ac H H'/\H' l=some (.lst vs))
  ⟨.nil,ac.new hl,aa⟩ (fun i vs H' _ ⟨_,hS,h'⟩=>⟨h',aB.of (hS _ _ ha)⟩) ?_ ?_
 ·rintro vs H' ⟨h1,h2,h3⟩;rw [ai,bm] at h1;exact k vs H' h1 h2 h3
 ·rintro i vs H' x hx hi ⟨h1,h2,h3⟩;obtain ⟨w,hw,rfl⟩:=bv hx;refine gN (rM ?_);refine ⟨_,rfl,(by show 2<=aj; decide),fun t ht=>⟨kp h3 ht,?_,tX hi ⟨?_,?_,aa⟩⟩⟩
  ·rw [Paired.length h1,ai,aJ]; exact av (by omega)
  ·rw [take_snoc hw,au];have hS2:hE (upd H' t (.tup [.str kw,.str w])) (upd (upd H' t (.tup [.str kw,.str w])) l (.lst (vs++[.ref t]))):=cL (kp h3 ht);have hS3:hE H' (upd (upd H' t (.tup [.str kw,.str w])) l (.lst (vs++[.ref t]))):=(ac.kt (ac.new ht)).trans hS2;refine Paired.app (Paired.mapP h1 fun v sg ⟨s,e1,e2⟩=>⟨s,e1,?_⟩) (.cons ⟨t,rfl,bL.of (hS2 _ _ aa)⟩ .nil);rcases e2 with (e2 | ⟨o,e2⟩) | e2
   ·exact .inl (.inl (hS3 _ _ e2))
   ·refine .inl (.inr ⟨o,?_⟩);rw [af (fun z=>by rw [z,h3] at e2; cases e2)];exact kp e2 ht
   ·exact .inr e2
  ·intro b o e;rw [af (ae e hl)];exact kp (h2 _ _ e) ht
inductive sp_door_signs (K:Za) (vs:List V) (H:Hp) (Q:VK) (E:XK):Prop
 | mk (l1 l2:Addr) (J0 J1:Zb):(vs=[.ref l1,.ref l2])->(H l1=some (.lst (J0.map V.str)))->(H l2=some (.lst (J1.map V.str)))->(J0.length<=100)->(J1.length<=100)->(∀(l:Addr) (xs:List V) (H':Hp),Paired (mS K H') xs (jr J0 J1)->ac H H'->H' l=some (.lst xs)->Q (.ref l) H')->sp_door_signs K vs H Q E
theorem tV {K:Za}{st:Addr}(hst:∀H,bL K H st (ar.map V.str)) {vs:List V}{H:Hp}{Q:VK}{E:XK}(h:sp_door_signs K vs H Q E):vZ K st (bC Q) (start w_ vs) H:=by
 obtain ⟨l1,l2,J0,J1,rfl,h1,h2,z1,z2,k⟩:=h;refine ⟨_,rfl,l1,rfl,⟨_,aB.of h1⟩,fun a ha=>?_⟩;refine si h1 ha (by omega) fun xs1 H1 p1 s1 g1=>?_;refine ⟨_,rfl,l2,rfl,⟨_,aB.of (s1 _ _ h2)⟩,fun b hb=>?_⟩;refine si (s1 _ _ h2) hb (by omega) fun xs2 H2 p2 s2 g2=>?_;have len1:xs1.length<=100:=by rw [Paired.length p1,ai]; exact z1
 have len2:xs2.length<=100:=by rw [Paired.length p2,ai]; exact z2
 refine ⟨a,b,xs1,xs2,rfl,rfl,s2 _ _ g1,g2,dR (av (by omega)),fun c hc=>?_⟩;refine ⟨(by show 1<=aj; decide),fun d hd=>?_⟩;refine ⟨c,d,_,_,rfl,rfl,kp aa hd,aa,?_,fun e he=>k e _ _ ?_ ?_ aa⟩
 ·rw [ax];show _+1<=aj;exact dR (av (by omega))
 ·have sx:ac H2 (upd (upd (upd H2 c (.lst (xs1++xs2))) d (.lst [.ref st])) e (.lst (xs1++xs2++[.ref st]))):=((ac.new hc).trans (ac.new hd)).trans (ac.new he);exact Paired.app (Paired.app (Signs.same (s2.trans sx) p1) (Signs.same sx p2)) (.cons ⟨st,rfl,hst _⟩ .nil)
 ·exact (((s1.trans s2).trans (ac.new hc)).trans (ac.new hd)).trans (ac.new he)
def FP (J2:Zb) (sgs:List (List Str)):Nat->List am->List am->Option Nat
 | _,_,[]=>none
 | i,ahead,d::ds=>if i=2000∨d∈ahead∨d.a∉J2∨d.sg∉sgs∨d.b∉J2 then some i else FP J2 sgs (i+1) (ahead++[d]) ds
inductive sp_first_wrong_door (K:Za) (vs:List V) (H:Hp) (Q:VK) (E:XK):Prop
 | mk (l l3 sl:Addr) (ts:Ze) (ds:List am) (J2:Zb) (xs:List V) (sgs:List (List Str)):(vs=[.ref l,.ref l3,.ref sl])->(H l=some (.lst (ts.map V.ref)))->(cw H ts ds)->(H l3=some (.lst (J2.map V.str)))->(J2.length<=1000)->(H sl=some (.lst xs))->(Paired (mS K H) xs sgs)->(ds.length<=9000)->(∀H',ac H H'->Q (oV (FP J2 sgs 0 [] ds)) H')->sp_first_wrong_door K vs H Q E
theorem d6 {ws:Ze}{i:Nat}{x:V}(h:(ws.map V.ref)[i]?=some x):∃w,ws[i]?=some w/\x=.ref w:=by
 rw [bQ] at h;cases q:ws[i]? with
 | none=>rw [q] at h; cases h
 | some r=>rw [q] at h; exact ⟨r,rfl,(eI h).symm⟩
theorem lP {K:Za}{vs:List V}{H:Hp}{Q:VK}{E:XK}(h:sp_first_wrong_door K vs H Q E):mD K (sp_as_keys K) (bC Q) (start mV vs) H:=by
 obtain ⟨l,l3,sl,ts,ds,J2,xs,sgs,rfl,hl,hds,h3,hr,hsl,hsg,hz,k⟩:=h;refine ⟨_,rfl,pJ (aB.of h3) hr fun d hd=>?_⟩;refine fun e he=>?_;have hS0:ac H (upd (upd H d (.dK (aQ J2))) e (.dT [])):=(ac.new hd).trans (ac.new he);have heH:H e=none:=(ac.new hd).free he;refine ⟨_,rfl,l,rfl,⟨_,aB.of (hS0 _ _ hl)⟩,?_⟩;refine kS (xs:=ts.map V.ref) (fun i σ H'=>∃x y,σ=[some (.ref l),some (.ref l3),some (.ref sl),some (.ref d),some (.ref e),x,y]/\ac H H'/\H' d=some (.dK (aQ J2))/\H' e=some (.dT (j7 ((ds.take i).map BD)))/\FP J2 sgs i (ds.take i) (ds.drop i)=FP J2 sgs 0 [] ds)
  ⟨_,_,rfl,hS0,kp aa he,aa,rfl⟩ (fun i σ H' _ ⟨_,_,_,hS,_⟩=>aB.of (hS _ _ hl)) ?_ ?_
 ·rintro i x σ H' q hi ⟨x5,x6,rfl,hS,hd',he',hf⟩ hq;obtain ⟨t,ht,rfl⟩:=d6 hi;obtain ⟨dr,hdr,hat⟩:=Paired.getL hds ht;have hil:i<ds.length:=(bE.mp hdr).1;have ed:ds.drop i=dr::ds.drop (i+1):=by
   rw [rq hil];congr 1;exact (bE.mp hdr).2
  rw [ed] at hf;have hS2:ac H (upd H' q (.tup [.int i,.ref t])):=hS.trans (ac.new hq);have hd2:upd H' q (.tup [.int i,.ref t]) d=_:=kp hd' hq;have he2:upd H' q (.tup [.int i,.ref t]) e=_:=kp he' hq;refine ⟨q,_,rfl,bL.of aa,rfl,_,_,rfl,_,_,rfl,rfl,?_⟩;generalize upd H' q (.tup [.int i,.ref t])=H2 at hd2 he2 hS2 ⊢;have hat2:=hat.kt (ac.kt hS2);have hin:k5 K H2 (BD dr) (.ref t):=cV.isIn 8 (by rw [ur]; decide) hat2.tk;have hd8:(BD dr).depth<=8:=by rw [ur]; decide
  obtain ⟨s,ht2,hs2⟩:=hat2;have bad:(i=2000∨dr∈ds.take i∨dr.a∉J2∨dr.sg∉sgs∨dr.b∉J2)->Q (.int i) H2:=by
   intro c;have:=k H2 hS2;rw [<-hf] at this;unfold FP at this;rw [if_pos c] at this;exact this
  refine ⟨_,rfl,rfl,_,rfl,?_⟩;by_cases c1:i=2000
  ·have e1:decide (V.int (i:Nat)=V.int 2000)=true:=zzr1 (by rw [c1]; rfl);rw [e1];exact dO (dO ⟨_,rfl,bad (.inl c1)⟩)
  have e1:decide (V.int (i:Nat)=V.int 2000)=false:=zzr0 (fun z=>c1 (by injection z with z; omega));rw [e1];refine cC ?_;refine ⟨_,rfl,_,rfl,e,_,rfl,.inr ⟨_,BD dr,t,.inl he2,rfl,hin,hd8,rfl⟩,_,rfl,?_⟩;rw [Ef];by_cases c2:dr∈ds.take i
  ·rw [zzr1 (Bs.mpr c2)];exact dO ⟨_,rfl,bad (.inr (.inl c2))⟩
  rw [zzr0 (fun z=>c2 (Bs.mp z))];refine cC ?_;refine ⟨_,rfl,.inr (.inl ⟨t,_,0,_,rfl,rfl,bL.of ht2,rfl,_,rfl,d,_,rfl,.inl ⟨_,.inr dr.a,.inl hd2,rfl,rfl⟩,_,rfl,?_⟩)⟩;rw [eF];by_cases c3:dr.a∈J2;rotate_left
  ·rw [zzr0 c3];exact dO (dO ⟨_,rfl,bad (.inr (.inr (.inl c3)))⟩)
  rw [zzr1 c3];refine cC ?_;refine ⟨_,rfl,.inr (.inl ⟨t,_,1,_,rfl,rfl,bL.of ht2,rfl,_,rfl,oC dr.sg,sgs.map oC,sl,xs,cF (bL.of hs2),rfl,.inl (aB.of (hS2 _ _ hsl)),Signs.dIns (Signs.same hS2 hsg),by rw [dW]; decide,CI _,_,rfl,?_⟩)⟩;rw [if_pos rfl];by_cases c4:dr.sg∈sgs;rotate_left
  ·rw [zzr0 (fun z=>c4 (Br.mp z))];exact dO (dO ⟨_,rfl,bad (.inr (.inr (.inr (.inl c4))))⟩)
  rw [zzr1 (Br.mpr c4)];refine cC ?_;refine ⟨_,rfl,.inr (.inl ⟨t,_,2,_,rfl,rfl,bL.of ht2,rfl,_,rfl,d,_,rfl,.inl ⟨_,.inr dr.b,.inl hd2,rfl,rfl⟩,_,rfl,?_⟩)⟩;rw [eF];by_cases c5:dr.b∈J2;rotate_left
  ·rw [zzr0 c5];exact dO ⟨_,rfl,bad (.inr (.inr (.inr (.inr c5))))⟩
  rw [zzr1 c5];refine cC ?_;have hlen:(j7 ((ds.take i).map BD)).length<aj:=fX (bP (Cv _) (by rw [ai,aJ]; omega));refine ⟨_,rfl,_,rfl,e,_,rfl,.inr ⟨_,BD dr,t,he2,rfl,gb.tk ⟨s,ht2,hs2⟩,hd8,hlen,rfl⟩,_,_,rfl,?_,?_,?_,?_⟩
  ·intro b o q;rw [af (ae q heH)];exact hS2 _ _ q
  ·rw [af (fun z=>by rw [z,he2] at hd2; cases hd2)]; exact hd2
  ·rw [aa,take_snoc hdr,au];exact congrArg (fun z=>some (HO.dT z)) (mO _ _).symm
  ·rw [<-hf,take_snoc hdr]
   conv=>rhs; unfold FP
   rw [if_neg];rintro (z | z | z | z | z)
   ·exact c1 z
   ·exact c2 z
   ·exact z c3
   ·exact z c4
   ·exact z c5
 ·rintro σ H' ⟨x,y,rfl,hS,_,_,hf⟩;have:=k H' hS;rw [<-hf,ai,Paired.length hds,List.drop_length] at this;exact this
theorem yC {J2:Zb}{sgs:List (List Str)}:∀(ds ahead:List am) (i:Nat),i+ds.length<=2000->(ahead++ds).Nodup->(∀d∈ds,d.a∈J2/\d.sg∈sgs/\d.b∈J2)->FP J2 sgs i ahead ds=none
 | [],_,_,_,_,_=>rfl
 | n::ns,ahead,i,h1,h2,h3=>by
  rw [dQ] at h1;unfold FP;rw [if_neg]
  ·refine yC ns (ahead++[n]) (i+1) (by omega) (by rw [cJ]; exact h2) fun w hw=>h3 w (eO _ hw)
  ·have:=h3 n cy;rintro (z | z | z | z | z)
   ·omega
   ·rw [ck] at h2;exact h2.2.2 n z n (cy) rfl
   ·exact z this.1
   ·exact z this.2.1
   ·exact z this.2.2
inductive sp_need_none  (vs:List V) (H:Hp) (Q:VK) (E:XK):Prop
 | mk (x:V):(vs=[x,.non])->(Q .non H)->sp_need_none  vs H Q E
theorem wf {K:Za}{vs:List V}{H:Hp}{Q:VK}{E:XK}(h:sp_need_none vs H Q E):xv K (bC Q) (start yR vs) H:=by
 obtain ⟨x,rfl,k⟩:=h;refine ⟨_,rfl,_,rfl,?_⟩;have e:(!decide (V.non=V.non))=false:=by rw [zzr1 rfl]; rfl
 rw [e];exact cC k
structure Lists (H:Hp) (l1 l2 l3 l4:Addr) (ts:Ze) (J0 J1 J2:Zb) (ds:List am):Prop where
 a1:H l1=some (.lst (J0.map V.str))
 a2:H l2=some (.lst (J1.map V.str))
 a3:H l3=some (.lst (J2.map V.str))
 a4:H l4=some (.lst (ts.map V.ref))
 ds:cw H ts ds
theorem Lists.same {H H':Hp}{l1 l2 l3 l4:Addr}{ts:Ze}{J0 J1 J2:Zb}{ds:List am}(h:Lists H l1 l2 l3 l4 ts J0 J1 J2 ds) (e:ac H H'):Lists H' l1 l2 l3 l4 ts J0 J1 J2 ds :=
 ⟨e _ _ h.a1,e _ _ h.a2,e _ _ h.a3,e _ _ h.a4,h.ds.kt (ac.kt e)⟩
inductive sp_need_parts  (vs:List V) (H:Hp) (Q:VK) (E:XK):Prop
 | mk (l1 l2 l3 l4:Addr) (ts:Ze) (J0 J1 J2:Zb) (ds:List am):(vs=[.ref l1,.ref l2,.ref l3,.ref l4])->(Lists H l1 l2 l3 l4 ts J0 J1 J2 ds)->(aH J0 J1 J2 ds)->(∀H',ac H H'->Q .non H')->sp_need_parts  vs H Q E
theorem aH.signs {J0 J1 J2:Zb}{ds:List am}(m:aH J0 J1 J2 ds):∀d∈ds,d.a∈J2/\d.sg∈jr J0 J1/\d.b∈J2:=by
 intro d hd;have g:=m.good d hd;refine ⟨g.a,?_,g.b⟩;unfold jr;rcases g.sg with ⟨w,hw,e⟩ | ⟨w,hw,e⟩ | e
 ·rw [e]; exact cx _ (cx _ (ay.mpr ⟨w,hw,rfl⟩))
 ·rw [e]; exact cx _ (cX _ (ay.mpr ⟨w,hw,rfl⟩))
 ·rw [e]; exact cX _ (by simp [ar])
theorem pk {ws:Zb}(h:jP ws):∀w∈ws,w.length<=1000:=fun w hw=>bP (h.2 w hw).hi (by decide)
theorem tQ {K:Za}{vs:List V}{H:Hp}{Q:VK}{E:XK}(h:sp_need_parts vs H Q E):vV K sp_need_none (sp_first_wrong_door K) (sp_door_signs K) (sp_first_wrong_name K) (bC Q) (start wY vs) H:=by
 obtain ⟨l1,l2,l3,l4,ts,J0,J1,J2,ds,rfl,L,m,k⟩:=h;have w1:cE J0 4 []=none:=gQ m.asks0 m.asks4 m.okA.1 m.okA.2;have w2:cE J1 4 J0=none:=gQ m.says0 m.says4 (by
  rw [ck];exact ⟨m.okA.1,m.okS.1,fun a ha b hb e=>m.apart b hb (e ▸ ha)⟩) m.okS.2
 have w3:cE J2 150 []=none:=gQ m.rooms0 (by have:=m.rooms26; omega) m.okR.1 m.okR.2;have w4:FP J2 (jr J0 J1) 0 [] ds=none:=yC ds [] 0 (by have:=m.few; omega) m.nodup m.signs;have z1:=m.asks4;have z2:=m.says4;have z3:=m.rooms26;have z4:=m.few;refine ⟨_,rfl,(by show 0<=aj; decide),fun e he=>⟨l1,e,J0,[],4,rfl,aB.of (kp L.a1 he),aB.of aa,by simp; omega,pk m.okA,fun H1 s1=>?_⟩⟩;rw [w1];refine ⟨_,rfl,?_⟩;have S1:=(ac.new he).trans s1;refine ⟨_,rfl,_,rfl,l2,l1,J1,J0,4,rfl,aB.of (S1 _ _ L.a2),aB.of (S1 _ _ L.a1),by omega,pk m.okS,fun H2 s2=>?_⟩;rw [w2];refine ⟨_,rfl,?_⟩;have S2:=S1.trans s2;refine ⟨_,rfl,(by show 0<=aj; decide),fun e he=>⟨l3,e,J2,[],150,rfl,aB.of (kp (S2 _ _ L.a3) he),aB.of aa,by simp; omega,pk m.okR,fun H3 s3=>?_⟩⟩;rw [w3];refine ⟨_,rfl,?_⟩;have S3:=(S2.trans (ac.new he)).trans s3;refine ⟨_,rfl,_,rfl,_,rfl,_,rfl,l1,l2,J0,J1,rfl,S3 _ _ L.a1,S3 _ _ L.a2,by omega,by omega,fun sl xs H4 hx s4 hsl=>?_⟩;have S4:=S3.trans s4;have L4:=L.same S4;refine ⟨l4,l3,sl,ts,ds,J2,xs,jr J0 J1,rfl,L4.a4,L4.ds,L4.a3,by omega,hsl,hx,by omega,fun H5 s5=>?_⟩;rw [w4];exact ⟨_,rfl,k H5 (S4.trans s5)⟩
section
variable {κ ι:Type} [DecidableEq κ] {e:ι->κ}
def dI (e:ι->κ) (ps:List (ι×Addr)):List (κ×V):=ps.map fun x=>(e x.1,V.ref x.2)
theorem lC (inj:∀x y,e x=e y->x=y) {i:ι}:∀{ps:List (ι×Addr)},i∉ps.map (·.1)->bG (dI e ps) (e i)=none
 | [],_=>rfl
 | x::ps,h=>by
  rw [aZ,cP] at h;show bG ((e x.1,V.ref x.2)::dI e ps) (e i)=none;rw [b9 (fun z=>h (.inl (inj _ _ z).symm))];exact lC inj (fun z=>h (.inr z))
theorem dS (inj:∀x y,e x=e y->x=y) {i:ι}{a:Addr}:∀{ps:List (ι×Addr)},(ps.map (·.1)).Nodup->(i,a)∈ps->bG (dI e ps) (e i)=some (.ref a)
 | [],_,h=>by cases h
 | x::ps,nd,h=>by
  rw [aZ,lW] at nd;show bG ((e x.1,V.ref x.2)::dI e ps) (e i)=_;rcases cP.mp h with h | h
  ·rw [<-h]; exact cb rfl
  ·rw [b9 (fun z=>nd.1 (by rw [inj _ _ z]; exact ay.mpr ⟨_,h,rfl⟩))];exact dS inj nd.2 h
theorem uL (ps:List (ι×Addr)) (i:ι) (a:Addr):dI e (ps++[(i,a)])=dI e ps++[(e i,.ref a)]:=by
 unfold dI;rw [au]
 rfl
end
structure DL {ι:Type}(H0 H:Hp) (d:Addr) (ps:List (ι×Addr)):Prop where
 nd:(ps.map (·.1)).Nodup
 na:(ps.map (·.2)).Nodup
 fr:∀x∈ps,H0 x.2=none
 frd:H0 d=none
 ned:∀x∈ps,x.2≠d
 same:ac H0 H
theorem DL.snoc {ι:Type}{H0 H H':Hp}{d:Addr}{ps:List (ι×Addr)}{i:ι}{a:Addr}(h:DL H0 H d ps) (hi:i∉ps.map (·.1)) (ha:∀x∈ps,x.2≠a) (fr:H0 a=none) (nd:a≠d) (s:ac H0 H'):DL H0 H' d (ps++[(i,a)]):=by
 refine ⟨?_,?_,?_,h.frd,?_,s⟩
 ·rw [au,ck];refine ⟨h.nd,by simp,fun x hx y hy e=>?_⟩;have:y=i:=by simpa using hy
  exact hi (by rw [<-this,<-e]; exact hx)
 ·rw [au,ck];refine ⟨h.na,by simp,fun x hx y hy e=>?_⟩;have:y=a:=by simpa using hy
  obtain ⟨z,hz,rfl⟩:=ay.mp hx;exact ha z hz (e.trans this)
 ·intro x hx;rcases aW.mp hx with hx | hx
  ·exact h.fr x hx
  ·have:x=(i,a):=by simpa using hx
   rw [this]; exact fr
 ·intro x hx;rcases aW.mp hx with hx | hx
  ·exact h.ned x hx
  ·have:x=(i,a):=by simpa using hx
   rw [this]; exact nd
theorem DZ {ι:Type}:∀{ps:List (ι×Addr)},(ps.map (·.2)).Nodup->∀{x y:ι×Addr},x∈ps->y∈ps->x.2=y.2->x=y
 | [],_,x,_,h,_,_=>by cases h
 | p::ps,nd,x,y,hx,hy,e=>by
  rw [aZ,lW] at nd;rcases cP.mp hx with hx' | hx' <;> rcases cP.mp hy with hy' | hy'
  ·rw [hx',hy']
  ·exact absurd (ay.mpr ⟨y,hy',by rw [<-e,hx']⟩) nd.1
  ·exact absurd (ay.mpr ⟨x,hx',by rw [e,hy']⟩) nd.1
  ·exact DZ nd.2 hx' hy' e
theorem g6:∀x y:Str,(Sum.inr x:dX)=Sum.inr y->x=y:=fun x y h=>by injection h
def bh (ds:List am) (r:Str):List am:=ds.filter fun d=>decide (d.a=r)
inductive sp_doors_by_start  (vs:List V) (H:Hp) (Q:VK) (E:XK):Prop
 | mk (l3 l4:Addr) (ts:Ze) (J2:Zb) (ds:List am):(vs=[.ref l3,.ref l4])->(H l3=some (.lst (J2.map V.str)))->(H l4=some (.lst (ts.map V.ref)))->(cw H ts ds)->(J2.Nodup)->(J2.length<=1000)->(ds.length<=9000)->((∀d∈ds,d.a∈J2))->(∀(d:Addr) (ps:List (Str×Addr)) (H':Hp),ps.map (·.1)=J2->H' d=some (.dK (dI Sum.inr ps))->(∀x∈ps,∃us,H' x.2=some (.lst (us.map V.ref))/\cw H' us (bh ds x.1))->ac H H'->Q (.ref d) H')->sp_doors_by_start  vs H Q E
theorem nV {K:Za}{vs:List V}{H:Hp}{Q:VK}{E:XK}(h:sp_doors_by_start vs H Q E):o5 K (bC Q) (start pN vs) H:=by
 obtain ⟨l3,l4,ts,J2,ds,rfl,h3,h4,hds,nod,hz,hz2,hin,k⟩:=h;refine fun d hd=>?_;refine ⟨_,rfl,l3,rfl,⟨_,aB.of (kp h3 hd)⟩,?_⟩;refine cg (xs:=J2.map V.str) (fun i σ H'=>∃x y,σ=[some (.ref l3),some (.ref l4),some (.ref d),x,y]/\∃ps:List (Str×Addr),ps.map (·.1)=J2.take i/\H' d=some (.dK (dI Sum.inr ps))/\DL H H' d ps/\∀x∈ps,H' x.2=some (.lst []))
  ⟨_,_,rfl,[],rfl,aa,⟨by simp,by simp,by simp,hd,by simp,ac.new hd⟩,by simp⟩ (fun i σ H' _ ⟨_,_,_,_,_,_,D,_⟩=>aB.of (D.same _ _ h3)) ?_ ?_
 ·rintro i x σ H' hi ⟨x3,x4,rfl,ps,hps,hd',D,hls⟩;obtain ⟨w,hw,rfl⟩:=bv hi;have hnew:w∉ps.map (·.1):=by
   rw [hps];intro z;have:=nod;rw [<-re (i+1) J2,take_snoc hw,ck] at this;have:=this.1;rw [ck] at this;exact this.2.2 w z w (by simp) rfl
  refine ⟨(by show 0<=aj; decide),fun a ha=>?_⟩;have hlen:(dI (Sum.inr:Str->dX) ps).length<aj:=av (by
   unfold dI;rw [ai,<-ai (f:=(·.1)) (as:=ps),hps,aJ]; omega)
  have haH:H a=none:=D.same.free ha;have nda:a≠d:=(ae hd' ha).symm;have hneA:∀x∈ps,x.2≠a:=fun x hx=>ae (hls x hx) ha;refine ⟨_,rfl,_,rfl,d,_,rfl,.inl ⟨_,.inr w,kp hd' ha,rfl,hlen,rfl⟩,_,_,rfl,ps++[(w,a)],?_,?_,?_,?_⟩
  ·rw [au,hps,take_snoc hw]; rfl
  ·rw [aa,fH _ (lC g6 hnew),uL]
  ·refine D.snoc hnew hneA haH nda ?_;intro b o q;rw [af (ae q hd)];exact kp (D.same _ _ q) ha
  ·intro x hx;rcases aW.mp hx with hx | hx
   ·rw [af (D.ned x hx)];exact kp (hls x hx) ha
   ·have:x=(w,a):=by simpa using hx
    rw [this,af nda];exact aa
 ·rintro σ H1 ⟨x3,x4,rfl,ps,hps,hd1,D1,hls⟩;rw [ai,bm] at hps;refine ⟨_,rfl,l4,rfl,⟨_,aB.of (D1.same _ _ h4)⟩,?_⟩;refine cg (xs:=ts.map V.ref) (fun i σ H'=>∃x4,σ=[some (.ref l3),some (.ref l4),some (.ref d),x3,x4]/\H' d=some (.dK (dI Sum.inr ps))/\DL H H' d ps/\∀x∈ps,∃us,H' x.2=some (.lst (us.map V.ref))/\cw H' us (bh (ds.take i) x.1))
   ⟨_,rfl,hd1,D1,fun x hx=>⟨[],hls x hx,.nil⟩⟩ (fun i σ H' _ ⟨_,_,_,D,_⟩=>aB.of (D.same _ _ h4)) ?_ ?_
  ·rintro i x σ H' hi ⟨x4,rfl,hd',D,hls⟩;obtain ⟨t,ht,rfl⟩:=d6 hi;obtain ⟨dr,hdr,hat⟩:=Paired.getL hds ht;have hat':=hat.kt (ac.kt D.same);have hat2:=hat';obtain ⟨s,ht2,hs2⟩:=hat';have hmem:dr.a∈ps.map (·.1):=by rw [hps]; exact hin dr (aO hdr)
   obtain ⟨⟨r,a⟩,hra,er⟩:=ay.mp hmem;obtain rfl:r=dr.a:=er;obtain ⟨us,hus,hdo⟩:=hls _ hra;have hil:i<ds.length:=(bE.mp hdr).1;have hlu:us.length<=9000:=by
    rw [Paired.length hdo];refine bP (gJ _ _) ?_;rw [aJ]; omega
   have KT:hE H' (upd H' a (.lst (us.map V.ref++[.ref t]))):=cL hus;refine ⟨_,rfl,_,rfl,.inr (.inl ⟨t,_,0,_,rfl,rfl,bL.of ht2,rfl,d,.ref a,rfl,.inl ⟨_,.inr dr.a,.inl hd',rfl,(dS g6 D.nd hra).symm⟩,.inl ⟨rfl,_,aB.of hus⟩,_,rfl,a,_,_,rfl,rfl,hus,?_,_,rfl,?_,?_,?_⟩)⟩
   ·rw [ai]; exact fX hlu
   ·rw [af (D.ned _ hra).symm]; exact hd'
   ·refine ⟨D.nd,D.na,D.fr,D.frd,D.ned,fun b o q=>?_⟩;rw [af (ae q (D.fr _ hra))];exact D.same _ _ q
   ·intro x hx;have hfl:∀r',bh (ds.take (i+1)) r'=bh (ds.take i) r'++(if dr.a=r' then [dr] else []):=by
     intro r';unfold bh;rw [take_snoc hdr,qZ];congr 1;by_cases c:dr.a=r'
     ·rw [if_pos c]; simp [c]
     ·rw [if_neg c]; simp [c]
    by_cases c:x.2=a
    ·have ex:=DZ D.na hx hra c;subst ex;refine ⟨us++[t],?_,?_⟩
     ·show upd H' a _ a=_;rw [aa,au]; rfl
     ·rw [hfl];show cw _ _ (bh (ds.take i) dr.a++(if dr.a=dr.a then [dr] else []))
      rw [if_pos rfl];exact Paired.app (hdo.kt KT) (.cons (hat2.kt KT) .nil)
    ·obtain ⟨us',h1,h2⟩:=hls x hx;have hne:¬(dr.a=x.1):=fun z=>by
      have e1:=dS (e:=(Sum.inr:Str->dX)) g6 D.nd hra;have e2:=dS (e:=(Sum.inr:Str->dX)) (i:=x.1) (a:=x.2) g6 D.nd hx;rw [<-z,e1] at e2;injection e2 with e2;injection e2 with e2;exact c e2.symm
     refine ⟨us',by rw [af c]; exact h1,?_⟩;rw [hfl,if_neg hne,fV];exact h2.kt KT
  ·rintro σ H' ⟨x4,rfl,hd',D,hls⟩;rw [ai,Paired.length hds,bm] at hls;exact ⟨_,rfl,k d ps H' hps hd' hls D.same⟩
def mf (d:am):Bool:=match d.sg with
 | s::_=>decide (s=("ask":Str))
 | []=>false
inductive sp_has_asks_alone  (vs:List V) (H:Hp) (Q:VK) (E:XK):Prop
 | mk (a:Addr) (us:Ze) (ds:List am):(vs=[.ref a])->(H a=some (.lst (us.map V.ref)))->(cw H us ds)->(ds.length<=9000)->((∀d∈ds,d.sg≠[]))->(∀H',ac H H'->Q (.bl (ds.all mf)) H')->sp_has_asks_alone  vs H Q E
theorem nU {K:Za}{vs:List V}{H:Hp}{Q:VK}{E:XK}(h:sp_has_asks_alone vs H Q E):o0 K (bC Q) (start pM vs) H:=by
 obtain ⟨a,us,ds,rfl,ha,hds,hz,hne,k⟩:=h;refine ⟨_,rfl,a,rfl,⟨_,aB.of ha⟩,fun l hl=>?_⟩;refine dg (xs:=us.map V.ref) (fun i vs H'=>vs=(ds.take i).map (fun d=>V.bl (mf d))/\ac H H'/\H' l=some (.lst vs))
  ⟨rfl,ac.new hl,aa⟩ (fun i vs H' _ ⟨_,hS,h'⟩=>⟨h',aB.of (hS _ _ ha)⟩) ?_ ?_
 ·rintro vs H' ⟨rfl,hS,h'⟩;rw [ai,Paired.length hds,bm] at h';refine ⟨l,ds.map mf,rfl,aB.of (by rw [h',rf]; rfl),?_⟩;rw [List.all_map];exact k H' hS
 ·rintro i vs H' x hx hi ⟨rfl,hS,h'⟩;obtain ⟨t,ht,rfl⟩:=d6 hx;obtain ⟨dr,hdr,hat⟩:=Paired.getL hds ht;obtain ⟨s,ht2,hs2⟩:=hat.kt (ac.kt hS);have hmem:=aO hdr;obtain ⟨s0,rest,hsg⟩:∃s0 rest,dr.sg=s0::rest:=by
   cases q:dr.sg with
   | nil=>exact absurd q (hne dr hmem)
   | cons x y=>exact ⟨x,y,rfl⟩
  unfold SignAt at hs2;rw [hsg] at hs2;refine gN (rM ?_);refine ⟨_,rfl,.inr (.inl ⟨t,_,1,_,rfl,rfl,bL.of ht2,rfl,.inr (.inl ⟨s,_,0,.str s0,rfl,rfl,bL.of hs2,bc (j:=0) rfl,rfl,h',?_,tX hi ⟨?_,?_,aa⟩⟩)⟩)⟩
  ·rw [ai,aJ]; exact fX (by omega)
  ·rw [take_snoc hdr,au];congr 1;show [V.bl _]=[V.bl _];congr 2;unfold mf;rw [hsg];show decide (V.str s0=V.str _)=decide (s0=_);by_cases c:s0=("ask":Str)
   ·rw [zzr1 c,zzr1 (by rw [c])]
   ·rw [zzr0 c,zzr0 (fun z=>c (by injection z))]
  ·intro b o e;rw [af (ae e hl)];exact hS _ _ e
def tm (x:Str×List Str):TK:=.t [nR x.1,jq x.2]
theorem gX:∀x y:Str×List Str,tm x=tm y->x=y:=by
 intro x y h;unfold tm at h;injection h with h;injection h with h1 h;injection h with h2 h;cases x; cases y;simp only at *;rw [qN h1,lD h2]
theorem lp (x:Str×List Str):(tm x).depth<=8:=by
 show max (TK.depth (nR x.1)) (max (TK.depth (jq x.2)) 0)+1<=8;rw [uq];show max 0 (max 1 0)+1<=8
 decide
def a_ (ds:List am) (x:Str×List Str):List Str:=(ds.filter fun d=>decide (d.a=x.1/\d.sg=x.2)).map (·.b)
theorem wJ (ds:List am) (d:am) (x:Str×List Str):a_ (ds++[d]) x=a_ ds x++(if (d.a,d.sg)=x then [d.b] else []):=by
 unfold a_;rw [qZ,au];congr 1;by_cases c:(d.a,d.sg)=x
 ·subst c;simp
 ·rw [if_neg c];have:¬(d.a=x.1/\d.sg=x.2):=fun z=>c (by cases x; simp only at z; rw [z.1,z.2]);simp [List.filter_cons];intro h1 h2;exact this ⟨h1,h2⟩
theorem kR {ds:List am}{x:Str×List Str}(h:∀d∈ds,(d.a,d.sg)≠x):a_ ds x=[]:=by
 unfold a_;rw [List.map_eq_nil_iff,List.filter_eq_nil_iff];intro d hd;have:¬(d.a=x.1/\d.sg=x.2):=fun z=>h d hd (by cases x; simp only at z; rw [z.1,z.2]);simp;intro h1 h2;exact this ⟨h1,h2⟩
theorem em {ds:List am}{x:Str×List Str}{b:Str}:b∈a_ ds x↔(⟨x.1,x.2,b⟩:am)∈ds:=by
 unfold a_;rw [ay];constructor
 ·rintro ⟨d,hd,rfl⟩;rw [b0] at hd;obtain ⟨h1,h2⟩:=hd;obtain ⟨h3,h4⟩:=of_decide_eq_true h2;cases d;simp only at h3 h4;rw [<-h3,<-h4]; exact h1
 ·intro h;exact ⟨_,b0.mpr ⟨h,zzr1 ⟨rfl,rfl⟩⟩,rfl⟩
structure iL (H:Hp) (g:Addr) (ps:List ((Str×List Str)×Addr)) (ds:List am):Prop where
 nd:(ps.map (·.1)).Nodup
 g:H g=some (.dT (dI tm ps))
 ls:∀x∈ps,H x.2=some (.lst ((a_ ds x.1).map V.str))
 all:∀d∈ds,(d.a,d.sg)∈ps.map (·.1)
theorem iL.same {H H':Hp}{g:Addr}{ps:List ((Str×List Str)×Addr)}{ds:List am}(h:iL H g ps ds) (s:ac H H'):iL H' g ps ds:=⟨h.nd,s _ _ h.g,fun x hx=>s _ _ (h.ls x hx),h.all⟩
inductive nM  (vs:List V) (H:Hp) (Q:VK) (E:XK):Prop
 | mk (l4:Addr) (ts:Ze) (ds:List am):(vs=[.ref l4])->(H l4=some (.lst (ts.map V.ref)))->(cw H ts ds)->(ds.length<=9000)->(∀(g:Addr) (ps:List ((Str×List Str)×Addr)) (H':Hp),iL H' g ps ds->ac H H'->Q (.ref g) H')->nM  vs H Q E
theorem im {K:Za}{vs:List V}{H:Hp}{Q:VK}{E:XK}(h:nM vs H Q E):iA K (bC Q) (start iC vs) H:=by
 obtain ⟨l4,ts,ds,rfl,h4,hds,hz,k⟩:=h;refine fun g hg=>?_;refine ⟨_,rfl,l4,rfl,⟨_,aB.of (kp h4 hg)⟩,?_⟩;refine cg (xs:=ts.map V.ref) (fun i σ H'=>∃x y z,σ=[some (.ref l4),some (.ref g),x,y,z]/\∃ps:List ((Str×List Str)×Addr),DL H H' g ps/\H' g=some (.dT (dI tm ps))/\ps.length<=i/\(∀x∈ps,H' x.2=some (.lst ((a_ (ds.take i) x.1).map V.str)))/\∀d∈ds.take i,(d.a,d.sg)∈ps.map (·.1))
  ⟨_,_,_,rfl,[],⟨by simp,by simp,by simp,hg,by simp,ac.new hg⟩,aa,by simp,by simp,by simp⟩ (fun i σ H' _ ⟨_,_,_,_,_,D,_⟩=>aB.of (D.same _ _ h4)) ?_ ?_
 ·rintro i x σ H' hi ⟨x2,x3,x4,rfl,ps,D,hg',hlen,hls,hall⟩;obtain ⟨t,ht,rfl⟩:=d6 hi;obtain ⟨dr,hdr,hat⟩:=Paired.getL hds ht;have hil:i<ds.length:=(bE.mp hdr).1;obtain ⟨s,ht2,hs2⟩:=hat.kt (ac.kt D.same);refine ⟨t,_,rfl,bL.of ht2,rfl,_,_,rfl,_,_,rfl,_,_,rfl,rfl,?_⟩;refine ⟨_,rfl,.inr (.inr (.inl ⟨rfl,.inr ⟨_,hg'⟩⟩)),_,rfl,_,rfl,(by show 2<=aj; decide),fun kt hkt=>⟨(by show 0<=aj; decide),fun nl hnl=>?_⟩⟩;have S2:ac H' (upd (upd H' kt (.tup [.str dr.a,.ref s])) nl (.lst [])):=(ac.new hkt).trans (ac.new hnl);have hkt2:upd (upd H' kt (.tup [.str dr.a,.ref s])) nl (.lst []) kt=some (.tup [.str dr.a,.ref s]):=kp aa hnl;have hnl2:upd (upd H' kt (.tup [.str dr.a,.ref s])) nl (.lst []) nl=some (.lst []):=aa;have hnlH':H' nl=none:=(ac.new hkt).free hnl;generalize upd (upd H' kt (.tup [.str dr.a,.ref s])) nl (.lst [])=H2 at S2 hkt2 hnl2 ⊢;have htk:cV H2 (tm (dr.a,dr.sg)) (.ref kt):=by
   unfold tm cV;refine ⟨kt,_,rfl,hkt2,?_⟩;unfold TKAts;refine ⟨_,_,rfl,vS _,?_⟩;unfold TKAts;refine ⟨_,_,rfl,SignAt.tk (S2 _ _ hs2),?_⟩;unfold TKAts
   rfl
  have hlk:(dI tm ps).length<aj:=fX (by unfold dI; rw [ai]; omega);have hgo:∀x,a_ (ds.take (i+1)) x=a_ (ds.take i) x++(if (dr.a,dr.sg)=x then [dr.b] else []):=fun x=>by rw [take_snoc hdr,wJ]
  have hgl:∀x,(a_ (ds.take i) x).length<=9000:=fun x=>by
   unfold a_;rw [ai];refine bP (gJ _ _) ?_;rw [aJ]; omega
  refine ⟨g,kt,_,tm (dr.a,dr.sg),.ref nl,rfl,rfl,S2 _ _ hg',htk,lp _,hlk,fun v hv=>?_,fun hv=>?_⟩
  ·-- there already
   have hmem:(dr.a,dr.sg)∈ps.map (·.1):=by
    refine rC fun z=>?_;rw [lC gX z] at hv;cases hv
   obtain ⟨⟨r,a⟩,hra,er⟩:=ay.mp hmem;obtain rfl:r=(dr.a,dr.sg):=er;rw [dS gX D.nd hra] at hv;injection hv with hv;subst hv;have hla:=S2 _ _ (hls _ hra);refine ⟨.inl ⟨rfl,_,aB.of hla⟩,_,rfl,a,_,_,rfl,rfl,hla,by rw [ai]; exact fX (hgl _),_,_,_,rfl,ps,⟨D.nd,D.na,D.fr,D.frd,D.ned,fun b o q=>?_⟩,?_,by omega,?_,?_⟩
   ·rw [af (ae q (D.fr _ hra))];exact S2 _ _ (D.same _ _ q)
   ·rw [af (D.ned _ hra).symm]; exact S2 _ _ hg'
   ·intro x hx;by_cases c:x.2=a
    ·have ex:=DZ D.na hx hra c;subst ex;show upd H2 a _ a=_;rw [aa,hgo,if_pos rfl,au]; rfl
    ·have hne:¬((dr.a,dr.sg)=x.1):=fun z=>by
      have e1:=dS (e:=tm) gX D.nd hra;have e2:=dS (e:=tm) (i:=x.1) (a:=x.2) gX D.nd hx;rw [<-z,e1] at e2;injection e2 with e2;injection e2 with e2;exact c e2.symm
     rw [af c,hgo,if_neg hne,fV];exact S2 _ _ (hls x hx)
   ·intro d hd;rw [take_snoc hdr] at hd;rcases aW.mp hd with hd | hd
    ·exact hall d hd
    ·have:d=dr:=by simpa using hd
     rw [this]; exact hmem
  ·-- a new list
   have hnew:(dr.a,dr.sg)∉ps.map (·.1):=by
    intro z;obtain ⟨⟨r,a⟩,hra,er⟩:=ay.mp z;obtain rfl:r=(dr.a,dr.sg):=er;rw [dS gX D.nd hra] at hv;cases hv
   have hgne:nl≠g:=(ae hg' hnlH').symm;have hnl3:upd H2 g (.dT (dI tm ps++[(tm (dr.a,dr.sg),.ref nl)])) nl=some (.lst []):=by rw [af hgne]; exact hnl2
   refine ⟨.inl ⟨rfl,_,aB.of hnl3⟩,_,rfl,nl,_,_,rfl,rfl,hnl3,(by show 0<aj; decide),_,_,_,rfl,ps++[((dr.a,dr.sg),nl)],?_,?_,?_,?_,?_⟩
   ·refine D.snoc hnew (fun x hx=>ae (hls x hx) hnlH') (D.same.free hnlH') hgne ?_;intro b o q;rw [af (ae q (D.same.free hnlH')),af (ae q hg)];exact S2 _ _ (D.same _ _ q)
   ·rw [af hgne.symm,aa,uL]
   ·rw [ax]; show _+1<=_; omega
   ·intro x hx;rcases aW.mp hx with hx | hx
    ·have hne:¬((dr.a,dr.sg)=x.1):=fun z=>hnew (by rw [z]; exact ay.mpr ⟨x,hx,rfl⟩);rw [af (ae (hls x hx) hnlH'),af (D.ned x hx),hgo,if_neg hne,fV];exact S2 _ _ (hls x hx)
    ·have:x=((dr.a,dr.sg),nl):=by simpa using hx
     subst this;have hnil:a_ (ds.take i) (dr.a,dr.sg)=[]:=kR fun d hd z=>hnew (by rw [<-z]; exact hall d hd);show upd _ nl _ nl=_;rw [aa,hgo,if_pos rfl,hnil]
     rfl
   ·intro d hd;rw [au];rw [take_snoc hdr] at hd;rcases aW.mp hd with hd | hd
    ·exact cx _ (hall d hd)
    ·have:d=dr:=by simpa using hd
     rw [this]; exact cX _ (by simp)
 ·rintro σ H' ⟨x2,x3,x4,rfl,ps,D,hg',hlen,hls,hall⟩;rw [ai,Paired.length hds,bm] at hls hall;exact ⟨_,rfl,k g ps H' ⟨D.nd,hg',hls,hall⟩ D.same⟩
theorem kP:∀{L R:Zb},L.Nodup->(∀y∈L,y∈R)->L.length<=R.length
 | [],_,_,_=>c8 _
 | x::L,R,nd,h=>by
  rw [lW] at nd;have hx:=h x cy;have:=kP (L:=L) (R:=R.erase x) nd.2 fun y hy=>(List.mem_erase_of_ne (fun e:y=x=>nd.1 (by rw [<-e]; exact hy))).mpr (h y (eO _ hy));rw [List.length_erase_of_mem hx] at this;have:0<R.length:=List.length_pos_of_mem hx;rw [dQ];omega
theorem Reach.in_ {ds:List am}{a b:Str}{J2:Zb}(hr:∀d∈ds,d.b∈J2) (h:Reach ds a b):b∈J2:=by
 cases h with
 | one h=>exact hr _ h
 | step r h=>exact hr _ h
inductive wa  (vs:List V) (H:Hp) (Q:VK) (E:XK):Prop
 | mk (g:Addr) (room:Str) (ps:List ((Str×List Str)×Addr)) (ds:List am) (J2:Zb):(vs=[.ref g,.str room])->(iL H g ps ds)->((∀d∈ds,d.b∈J2))->(J2.length<=1000)->(∀(d:Addr) (L:Zb) (H':Hp),H' d=some (.dK (aQ L))->L.Nodup->(∀w,w∈L↔Reach ds room w)->H d=none->ac H H'->Q (.ref d) H')->wa  vs H Q E
structure Hd (H0 H:Hp) (ds:List am) (room:Str) (d w:Addr) (L W:Zb) (open_:Str->Prop):Prop where
 d:H d=some (.dK (aQ L))
 w:H w=some (.lst (W.map V.str))
 same:ac H0 H
 nd:L.Nodup
 sound:∀y∈L,Reach ds room y
 wait:∀y∈W,y=room∨y∈L
 closed:∀y,(y=room∨y∈L)->y∉W->¬open_ y->∀c∈a_ ds (y,ar),c∈L
theorem qy {K:Za}{st:Addr}(hst:∀H,bL K H st (ar.map V.str)) {vs:List V}{H:Hp}{Q:VK}{E:XK}(h:wa vs H Q E):rP K st (bC Q) (start sX vs) H:=by
 obtain ⟨g,room,ps,ds,J2,rfl,G,hin,hz,k⟩:=h;refine fun d hd=>?_;refine ⟨_,rfl,(by show 1<=aj; decide),fun w hw=>?_⟩;have hwH:H w=none:=(ac.new hd).free hw;have hdw:d≠w:=ae aa hw;refine ⟨fun m σ H'=>∃(L W:Zb) (x y:Option V),σ=[some (.ref g),some (.str room),some (.ref d),some (.ref w),x,y]/\Hd H H' ds room d w L W (fun _=>False)/\m=2 * (J2.length-L.length)+W.length/\m<=2 * J2.length+1,
  ⟨_,[],[room],_,_,rfl,⟨kp aa hw,aa,(ac.new hd).trans (ac.new hw),oT,by simp,by simp,?_⟩,rfl,aD _⟩,?_⟩
 ·intro y hy hn;rcases hy with rfl | hy
  ·simp at hn
  ·cases hy
 rintro m σ H1 ⟨L,W,x4,x5,rfl,D,rfl,hbound⟩;have lenL:∀{L':Zb},L'.Nodup->(∀y∈L',Reach ds room y)->L'.length<=J2.length:=fun nd sd=>kP nd fun y hy=>(sd y hy).in_ hin;refine ⟨_,rfl,.inl ⟨w,_,rfl,.inl (aB.of D.w),_,_,rfl,rfl,_,rfl,?_⟩⟩;refine gD (fun hpos=>?_) (fun hpos=>?_)
 ·have hne:W≠[]:=by
   intro z;rw [z] at hpos;exact absurd (of_decide_eq_true hpos) (by decide)
  obtain ⟨W',here,rfl⟩:∃W' here,W=W'++[here]:=⟨W.dropLast,W.getLast hne,(vb hne).symm⟩;have hhere:here=room∨here∈L:=D.wait here (by simp);refine ⟨fun σ' H'=>∃(L' W2:Zb) (x y:Option V),σ'=[some (.ref g),some (.str room),some (.ref d),some (.ref w),x,y]/\Hd H H' ds room d w L' W2 (fun _=>False)/\2 * (J2.length-L'.length)+W2.length<2 * (J2.length-L.length)+(W'++[here]).length,
   fun σ' H' ⟨L',W2,x,y,e,D',hm⟩=>⟨_,hm,L',W2,x,y,e,D',rfl,by omega⟩,?_⟩
  have hlast:((W'++[here]).map V.str)[((W'++[here]).map V.str).length-1]?=some (.str here):=by simp
  have hdrop:((W'++[here]).map V.str).dropLast=W'.map V.str:=by rw [au]; simp
  refine ⟨_,rfl,.inl ⟨rfl,_,aB.of D.w⟩,w,_,_,rfl,rfl,D.w,hlast,?_⟩;rw [hdrop];have hd1:upd H1 w (.lst (W'.map V.str)) d=some (.dK (aQ L)):=by rw [af hdw]; exact D.d
  have hw1:upd H1 w (.lst (W'.map V.str)) w=some (.lst (W'.map V.str)):=aa;have S1:ac H (upd H1 w (.lst (W'.map V.str))):=fun b o q=>by rw [af (ae q hwH)]; exact D.same _ _ q
  generalize upd H1 w (.lst (W'.map V.str))=H2 at hd1 hw1 S1 ⊢;have G2:=G.same S1;refine ⟨_,rfl,g,rfl,.inr ⟨_,.inl G2.g⟩,_,rfl,(by show 2<=aj; decide),fun kt hkt=>⟨(by show 0<=aj; decide),fun et het=>⟨bG (dI tm ps) (tm (here,ar)),.inr ⟨_,tm (here,ar),kt,.inl ?_,rfl,?_,lp _,rfl⟩,?_⟩⟩⟩
  ·exact kp (kp G2.g hkt) het
  ·unfold tm k5;refine ⟨kt,_,rfl,bL.of (kp aa het),?_⟩;unfold TKIns;refine ⟨_,_,rfl,?_,?_⟩
   ·unfold nR k5; rfl
   unfold TKIns;refine ⟨_,_,rfl,?_,?_⟩
   ·unfold jq k5;refine ⟨st,_,rfl,hst _,?_⟩;unfold ar;show TKIns K _ [nR _] [V.str _];unfold TKIns;refine ⟨_,_,rfl,?_,?_⟩
    ·unfold nR k5; rfl
    unfold TKIns; rfl
   unfold TKIns; rfl
  have S3:ac H2 (upd (upd H2 kt (.tup [.str here,.ref st])) et (.tup [])):=(ac.new hkt).trans (ac.new het);have het3:upd (upd H2 kt (.tup [.str here,.ref st])) et (.tup []) et=some (.tup []):=aa;generalize upd (upd H2 kt (.tup [.str here,.ref st])) et (.tup [])=H3 at S3 het3 ⊢;have D3:Hd H H3 ds room d w L W' (fun y=>y=here):=⟨S3 _ _ hd1,S3 _ _ hw1,S1.trans S3,D.nd,D.sound,fun y hy=>D.wait y (cx _ hy),fun y hy hn ho=>D.closed y hy (fun z=>by rcases aW.mp z with z | z; exact hn z; exact ho (by simpa using z)) (fun z=>z)⟩;have hm3:2 * (J2.length-L.length)+W'.length<2 * (J2.length-L.length)+(W'++[here]).length:=by rw [ax]; show _<_+(_+1); omega
  have fin:∀(H4:Hp) (L' W2:Zb) (x y:Option V),Hd H H4 ds room d w L' W2 (fun y=>y=here)->(∀c∈a_ ds (here,ar),c∈L')->2 * (J2.length-L'.length)+W2.length<2 * (J2.length-L.length)+(W'++[here]).length ->
    ∃(L' W2:Zb) (x' y':Option V),[some (V.ref g),some (.str room),some (.ref d),some (.ref w),x,y]=[some (.ref g),some (.str room),some (.ref d),some (.ref w),x',y']/\Hd H H4 ds room d w L' W2 (fun _=>False)/\2 * (J2.length-L'.length)+W2.length<2 * (J2.length-L.length)+(W'++[here]).length:=by
   intro H4 L' W2 x y D4 hc hm;refine ⟨L',W2,x,y,rfl,⟨D4.d,D4.w,D4.same,D4.nd,D4.sound,D4.wait,fun y hy hn _=>?_⟩,hm⟩;by_cases e:y=here
   ·rw [e]; exact hc
   ·exact D4.closed y hy hn e
  by_cases hmem:(here,ar)∈ps.map (·.1)
  ·obtain ⟨⟨r,a⟩,hra,er⟩:=ay.mp hmem;obtain rfl:r=(here,ar):=er;rw [dS gX G.nd hra];have hla:=G.ls _ hra;refine ⟨a,rfl,.inl ⟨⟨_,aB.of ((S1.trans S3) _ _ hla)⟩,?_⟩⟩;refine cg (xs:=(a_ ds (here,ar)).map V.str) (fun j σ H'=>∃(L' W2:Zb) (y:Option V),σ=[some (.ref g),some (.str room),some (.ref d),some (.ref w),some (.str here),y]/\Hd H H' ds room d w L' W2 (fun y=>y=here)/\(here=room∨here∈L')/\(∀c∈(a_ ds (here,ar)).take j,c∈L') /\
     2 * (J2.length-L'.length)+W2.length<2 * (J2.length-L.length)+(W'++[here]).length)
    ⟨L,W',_,rfl,D3,hhere,by simp,hm3⟩ (fun j σ H' _ ⟨_,_,_,_,D',_⟩=>aB.of (D'.same _ _ hla)) ?_ ?_
   ·rintro j x σ H4 hj ⟨L',W2,y,rfl,D4,hh,hc,hm⟩;obtain ⟨goal,hgoal,rfl⟩:=bv hj;have hedge:(⟨here,ar,goal⟩:am)∈ds:=em.mp (aO hgoal);have hreach:Reach ds room goal:=by
     rcases hh with hh | hh
     ·rw [hh] at hedge; exact .one hedge
     ·exact .step (D4.sound _ hh) hedge
    have hlen':=lenL D4.nd D4.sound;refine ⟨_,rfl,_,rfl,d,_,rfl,.inl ⟨_,.inr goal,.inl D4.d,rfl,rfl⟩,_,rfl,?_⟩;rw [eF];by_cases c:goal∈L'
    ·rw [zzr1 c];refine cC ⟨L',W2,_,rfl,D4,hh,?_,hm⟩;intro c' hc';rw [take_snoc hgoal] at hc';rcases aW.mp hc' with h | h
     ·exact hc c' h
     ·have:c'=goal:=by simpa using h
      rw [this]; exact c
    ·rw [zzr0 c];refine dO ?_;have nd':(L'++[goal]).Nodup:=by
      rw [ck];refine ⟨D4.nd,by simp,fun a ha b hb e=>?_⟩;have:b=goal:=by simpa using hb
      exact c (by rw [<-this,<-e]; exact ha)
     have sd':∀y∈L'++[goal],Reach ds room y:=by
      intro y hy;rcases aW.mp hy with hy | hy
      ·exact D4.sound y hy
      ·have:y=goal:=by simpa using hy
       rw [this]; exact hreach
     have hlen2:=lenL nd' sd';rw [ax] at hlen2;have hlen3:L'.length+1<=J2.length:=hlen2;have hWl:W2.length<=9000:=by omega
     refine ⟨_,rfl,_,rfl,d,_,rfl,.inl ⟨_,.inr goal,D4.d,rfl,av (bP (jM _) (by omega)),rfl⟩,?_⟩;have hw5:upd H4 d (.dK (cI (aQ L') (.inr goal) (.bl true))) w=some (.lst (W2.map V.str)):=by rw [af hdw.symm]; exact D4.w
     refine ⟨_,rfl,.inl ⟨rfl,_,aB.of hw5⟩,_,rfl,w,_,_,rfl,rfl,hw5,by rw [ai]; exact fX hWl,L'++[goal],W2++[goal],_,rfl,⟨?_,?_,?_,nd',sd',?_,?_⟩,?_,?_,?_⟩
     ·rw [af hdw,aa,dh]
     ·rw [aa,au]; rfl
     ·intro b o q;rw [af (ae q hwH),af (ae q hd)];exact D4.same _ _ q
     ·intro y hy;rcases aW.mp hy with hy | hy
      ·rcases D4.wait y hy with h | h
       ·exact .inl h
       ·exact .inr (cx _ h)
      ·exact .inr (cX _ hy)
     ·intro y hy hn ho c' hc';have hn1:y∉W2:=fun z=>hn (cx _ z);have hyg:y≠goal:=fun z=>hn (cX _ (by simp [z]));refine cx _ (D4.closed y ?_ hn1 ho c' hc');rcases hy with hy | hy
      ·exact .inl hy
      ·rcases aW.mp hy with hy | hy
       ·exact .inr hy
       ·exact absurd (by simpa using hy) hyg
     ·rcases hh with h | h
      ·exact .inl h
      ·exact .inr (cx _ h)
     ·intro c' hc';rw [take_snoc hgoal] at hc';rcases aW.mp hc' with h | h
      ·exact cx _ (hc c' h)
      ·exact cX _ h
     ·rw [ax,ax];show 2 * (J2.length-(L'.length+1))+(W2.length+1)<_;omega
   ·rintro σ H4 ⟨L',W2,y,rfl,D4,hh,hc,hm⟩;rw [ai,bm] at hc;exact fin H4 L' W2 _ _ D4 hc hm
  ·rw [lC gX hmem];refine ⟨et,rfl,.inr ⟨⟨_,bL.of het3⟩,?_⟩⟩;have hnil:a_ ds (here,ar)=[]:=kR fun x hx z=>hmem (by rw [<-z]; exact G.all x hx);refine Bx (xs:=[]) (fun j σ H'=>σ=[some (.ref g),some (.str room),some (.ref d),some (.ref w),some (.str here),x5]/\H'=H3) ⟨rfl,rfl⟩ (fun j σ H' _ ⟨_,e⟩=>by rw [e]; exact bL.of het3) (fun j x σ H' hj=>by cases hj) ?_;rintro σ H' ⟨rfl,rfl⟩;exact fin _ L W' _ _ D3 (by rw [hnil]; simp) hm3
 ·have hnil:W=[]:=by
   cases W with
   | nil=>rfl
   | cons a W=>exact absurd (zzr1 (by rw [ai,dQ]; omega)) hpos
  subst hnil;refine ⟨_,rfl,k d L H1 D.d D.nd (fun w=>⟨D.sound w,fun hr=>?_⟩) hd D.same⟩
  induction hr with
  | one h=>exact D.closed room (.inl rfl) (by simp) (fun z=>z) _ (em.mpr h)
  | step r h ih=>exact D.closed _ (.inr ih) (by simp) (fun z=>z) _ (em.mpr h)
inductive sp_first_led_round  (vs:List V) (H:Hp) (Q:VK) (E:XK):Prop
 | mk (l3 d:Addr) (J2:Zb) (ps:List (Str×Addr)):(vs=[.ref l3,.ref d])->(H l3=some (.lst (J2.map V.str)))->(H d=some (.dK (dI Sum.inr ps)))->(ps.map (·.1)=J2)->(J2.Nodup)->((∀x∈ps,∃L,H x.2=some (.dK (aQ L))/\x.1∉L))->(∀H',ac H H'->Q .non H')->sp_first_led_round  vs H Q E
theorem mM {K:Za}{vs:List V}{H:Hp}{Q:VK}{E:XK}(h:sp_first_led_round vs H Q E):nD K (bC Q) (start oz vs) H:=by
 obtain ⟨l3,d,J2,ps,rfl,h3,hd,hps,nod,hL,k⟩:=h;refine ⟨_,rfl,l3,rfl,⟨_,aB.of h3⟩,?_⟩;refine kS (xs:=J2.map V.str) (fun i σ H'=>∃x y,σ=[some (.ref l3),some (.ref d),x,y]/\ac H H') ⟨_,_,rfl,ac.refl H⟩ (fun i σ H' _ ⟨_,_,_,S⟩=>aB.of (S _ _ h3)) ?_ ?_
 ·rintro i x σ H' t hi ⟨x2,x3,rfl,S⟩ ht;obtain ⟨w,hw,rfl⟩:=bv hi;refine ⟨t,_,rfl,bL.of aa,rfl,_,_,rfl,_,_,rfl,rfl,?_⟩;have S2:ac H (upd H' t (.tup [.int i,.str w])):=S.trans (ac.new ht);generalize upd H' t (.tup [.int i,.str w])=H2 at S2 ⊢;have hmem:w∈ps.map (·.1):=by rw [hps]; exact aO hw
  obtain ⟨⟨r,a⟩,hra,er⟩:=ay.mp hmem;obtain rfl:r=w:=er;obtain ⟨L,hLa,hn⟩:=hL _ hra;refine ⟨_,rfl,_,rfl,_,rfl,d,.ref a,rfl,.inl ⟨_,.inr r,.inl (S2 _ _ hd),rfl,(dS g6 (by rw [hps]; exact nod) hra).symm⟩,a,_,rfl,.inl ⟨_,.inr r,.inl (S2 _ _ hLa),rfl,rfl⟩,_,rfl,?_⟩;rw [eF,zzr0 hn];exact cC ⟨_,_,rfl,S2⟩
 ·rintro σ H' ⟨x,y,rfl,S⟩;exact k H' S
abbrev lk (f:Str) (fs:List (Str×V)):Option V:=fs.lookup f
def eN (ds:List am) (r:Str):Bool:=(bh ds r).all mf
structure be (C:Addr) (H:Hp) (x:Addr) (J0 J1 J2:Zb) (ds:List am):Prop where
 at_:∃(dx:Addr) (fs:List (Str×V)) (o1 o2 o3 o4 lv qu sg sl:Addr) (ts:Ze) (lps:List (Str×Addr)) (gps:List ((Str×List Str)×Addr)) (sps:List (Str×Addr)),
  H x=some (.ins C dx fs)/\lk "is_quiet" fs=none/\lk "goals" fs=none/\lk "led_from" fs=none/\lk "rooms" fs=none /\
  lk "own_asks" fs=some (.ref o1)/\lk "own_says" fs=some (.ref o2)/\lk "own_rooms" fs=some (.ref o3)/\lk "own_doors" fs=some (.ref o4) /\
  lk "leaving" fs=some (.ref lv)/\lk "quiet" fs=some (.ref qu)/\lk "sign_goals" fs=some (.ref sg)/\lk "still_led" fs=some (.ref sl) /\
  Lists H o1 o2 o3 o4 ts J0 J1 J2 ds /\
  lps.map (·.1)=J2/\H lv=some (.dK (dI Sum.inr lps))/\(∀x∈lps,∃us,H x.2=some (.lst (us.map V.ref))/\cw H us (bh ds x.1)) /\
  H qu=some (.dK (aQ (J2.filter (eN ds))))/\iL H sg gps ds /\
  sps.map (·.1)=J2/\H sl=some (.dK (dI Sum.inr sps))/\(∀x∈sps,∃L,H x.2=some (.dK (aQ L))/\L.Nodup/\∀w,w∈L↔Reach ds x.1 w)
 ok:aH J0 J1 J2 ds
 more:∃(dx:Addr) (fs:List (Str×V)),H x=some (.ins C dx fs)/\lk "asks" fs=none/\lk "says" fs=none/\lk "doors" fs=none/\lk "doors_from" fs=none
theorem dH (f:Str) (v:V):∀fs:List (Str×V),(cn f v fs).length<=fs.length+1
 | []=>aD _
 | (g,x)::r=>by
  unfold cn;split
  ·exact lX _
  ·rw [dQ,dQ];have:=dH f v r;omega
theorem sE:∀(ps qs:List (Str×Addr)),((qs++ps).map (·.1)).Nodup->iT (dI Sum.inr qs) (dI Sum.inr ps)=dI Sum.inr (qs++ps)
 | [],qs,_=>by rw [fV]; rfl
 | p::ps,qs,nd=>by
  show iT (cI (dI Sum.inr qs) (Sum.inr p.1) (.ref p.2)) (dI Sum.inr ps)=_;have e:qs++p::ps=(qs++[p])++ps:=by simp
  rw [e] at nd ⊢;have hnew:p.1∉qs.map (·.1):=by
   rw [au,au,ck] at nd;have:=nd.1;rw [ck] at this;intro z;exact this.2.2 _ z _ (by simp) rfl
  rw [fH _ (lC g6 hnew)];have:=sE ps (qs++[p]) nd;rw [<-this];have e2:dI (Sum.inr:Str->dX) (qs++[p])=dI Sum.inr qs++[(Sum.inr p.1,V.ref p.2)]:=by
   unfold dI; rw [au]; rfl
  rw [e2]
inductive qJ (C:Addr) (vs:List V) (H:Hp) (Q:VK) (E:XK):Prop
 | mk (x dx l1 l2 l3 l4:Addr) (ts:Ze) (J0 J1 J2:Zb) (ds:List am):(vs=[.ref x,.ref l1,.ref l2,.ref l3,.ref l4])->(H x=some (.ins C dx []))->(Lists H l1 l2 l3 l4 ts J0 J1 J2 ds)->(aH J0 J1 J2 ds)->(∀H',be C H' x J0 J1 J2 ds->cM x H H'->Q .non H')->qJ C vs H Q E
theorem Lists.exI {H H':Hp}{x C dx:Addr}{fs:List (Str×V)}{l1 l2 l3 l4:Addr}{ts:Ze}{J0 J1 J2:Zb}{ds:List am}(h:Lists H l1 l2 l3 l4 ts J0 J1 J2 ds) (hx:H x=some (.ins C dx fs)) (e:cM x H H'):Lists H' l1 l2 l3 l4 ts J0 J1 J2 ds:=by
 have ne:∀{b:Addr}{xs:List V},H b=some (.lst xs)->b≠x:=fun hb z=>by rw [z,hx] at hb; cases hb
 exact ⟨e _ _ h.a1 (ne h.a1),e _ _ h.a2 (ne h.a2),e _ _ h.a3 (ne h.a3),e _ _ h.a4 (ne h.a4),h.ds.kt fun b xs hb=>e _ _ hb fun z=>by rw [z,hx] at hb; cases hb⟩
theorem cM.ktI {H H':Hp}{x C dx:Addr}{fs:List (Str×V)}(e:cM x H H') (hx:H x=some (.ins C dx fs)):hE H H':=fun b xs hb=>e _ _ hb fun z=>by rw [z,hx] at hb; cases hb
theorem cM.neI {H:Hp}{x C dx:Addr}{fs:List (Str×V)}(hx:H x=some (.ins C dx fs)) {b:Addr}{xs:List V}(hb:H b=some (.lst xs)):b≠x:=fun z=>by rw [z,hx] at hb; cases hb
theorem DY {H:Hp}{x C dx:Addr}{fs:List (Str×V)}(hx:H x=some (.ins C dx fs)) {b:Addr}{kvs:List (dX×V)}(hb:H b=some (.dK kvs)):b≠x:=fun z=>by rw [z,hx] at hb; cases hb
theorem Gq {H:Hp}{x C dx:Addr}{fs:List (Str×V)}(hx:H x=some (.ins C dx fs)) {b:Addr}{kvs:List (TK×V)}(hb:H b=some (.dT kvs)):b≠x:=fun z=>by rw [z,hx] at hb; cases hb
structure MC (K:Za) (C:Addr):Prop where
 cls:BM K C
 a1:dA K C "own_asks"
 a2:dA K C "own_says"
 a3:dA K C "own_rooms"
 a4:dA K C "own_doors"
 a5:dA K C "leaving"
 a6:dA K C "quiet"
 a7:dA K C "sign_goals"
 a8:dA K C "still_led"
theorem pG {H:Hp}{x C dx:Addr}{fs:List (Str×V)}(f:Str) (y:V) (hx:H x=some (.ins C dx fs)):∃H',H'=upd H x (.ins C dx (cn f y fs))/\H' x=some (.ins C dx (cn f y fs))/\cM x H H' :=
 ⟨_,rfl,aa,cM.upd _ _ _⟩
theorem fo {p:Str->Bool}{ws:Zb}{i:Nat}{w:Str}(h:ws[i]?=some w):(ws.take (i+1)).filter p=(ws.take i).filter p++(if p w=true then [w] else []):=by
 rw [take_snoc h,qZ];congr 1;by_cases c:p w=true
 ·rw [if_pos c]; simp [c]
 ·rw [if_neg c]; simp [c]
theorem z_ (ds:List am) (r:Str):(bh ds r).length<=ds.length:=gJ _ _
theorem aH.sg0 {J0 J1 J2:Zb}{ds:List am}(m:aH J0 J1 J2 ds) {r:Str}:∀d∈bh ds r,d.sg≠[]:=by
 intro d hd;have:=m.good d (b0.mp hd).1;rcases this.sg with ⟨w,_,e⟩ | ⟨w,_,e⟩ | e <;> rw [e] <;> exact List.cons_ne_nil _ _
theorem Fo {K:Za}{C:Addr}(M:MC K C) {vs:List V}{H:Hp}{Q:VK}{E:XK}(h:qJ C vs H Q E) :
  mG K sp_need_none sp_first_led_round wa nM (sp_as_keys K) sp_has_asks_alone sp_doors_by_start sp_need_parts (bC Q) (start mZ vs) H:=by
 obtain ⟨x,dx,l1,l2,l3,l4,ts,J0,J1,J2,ds,rfl,hx,L,m,k⟩:=h;have z3:=m.rooms26;have z4:=m.few;refine ⟨_,rfl,_,rfl,_,rfl,_,rfl,l1,l2,l3,l4,ts,J0,J1,J2,ds,rfl,L,m,fun H1 S1=>?_⟩;have hx1:=S1 _ _ hx;have L1:=L.same S1;have E1:cM x H H1:=ac.exB S1;refine ⟨_,rfl,.inl ⟨l1,_,rfl,.inl (aB.of L1.a1),fun o1 ho1=>⟨_,rfl,x,C,dx,_,rfl,kp hx1 ho1,M.cls,M.a1,(by show 0<1000; decide),?_⟩⟩⟩;obtain ⟨H2,e2,hx2,F2⟩:=pG "own_asks" (.ref o1) (kp (x:=.lst (J0.map V.str)) hx1 ho1);rw [<-e2];have n1:o1≠x:=(ae hx1 ho1).symm;have f1:=F2 _ _ aa n1;have E2:cM x H1 H2:=(cM.new ho1).trans F2;have L2':=L1.exI hx1 E2;have len2:(cn ("own_asks":Str) (.ref o1) []).length<=1:=dH _ _ _;clear e2 F2;refine ⟨_,rfl,.inl ⟨l2,_,rfl,.inl (aB.of L2'.a2),fun o2 ho2=>⟨_,rfl,x,C,dx,_,rfl,kp hx2 ho2,M.cls,M.a2,by omega,?_⟩⟩⟩;obtain ⟨H3,e3,hx3,F3⟩:=pG "own_says" (.ref o2) (kp (x:=.lst (J1.map V.str)) hx2 ho2);rw [<-e3];have n2:o2≠x:=(ae hx2 ho2).symm;have f2:=F3 _ _ aa n2;have E3:cM x H2 H3:=(cM.new ho2).trans F3;have L3:=L2'.exI hx2 E3;have len3:=dH ("own_says":Str) (.ref o2) (cn ("own_asks":Str) (.ref o1) []);clear e3 F3;refine ⟨_,rfl,.inl ⟨l3,_,rfl,.inl (aB.of L3.a3),fun o3 ho3=>⟨_,rfl,x,C,dx,_,rfl,kp hx3 ho3,M.cls,M.a3,by omega,?_⟩⟩⟩;obtain ⟨H4,e4,hx4,F4⟩:=pG "own_rooms" (.ref o3) (kp (x:=.lst (J2.map V.str)) hx3 ho3);rw [<-e4];have n3:o3≠x:=(ae hx3 ho3).symm;have f3:=F4 _ _ aa n3;have E4:cM x H3 H4:=(cM.new ho3).trans F4;have L4:=L3.exI hx3 E4;have len4:=dH ("own_rooms":Str) (.ref o3) (cn ("own_says":Str) (.ref o2) (cn ("own_asks":Str) (.ref o1) []));clear e4 F4;refine ⟨_,rfl,.inl ⟨l4,_,rfl,.inl (aB.of L4.a4),fun o4 ho4=>⟨_,rfl,x,C,dx,_,rfl,kp hx4 ho4,M.cls,M.a4,by omega,?_⟩⟩⟩;obtain ⟨H5,e5,hx5,F5⟩:=pG "own_doors" (.ref o4) (kp (x:=.lst (ts.map V.ref)) hx4 ho4);rw [<-e5];have n4:o4≠x:=(ae hx4 ho4).symm;have f4:=F5 _ _ aa n4;have E5:cM x H4 H5:=(cM.new ho4).trans F5;have L5:=L4.exI hx4 E5;generalize hfs4:cn ("own_doors":Str) (.ref o4) (cn ("own_rooms":Str) (.ref o3) (cn ("own_says":Str) (.ref o2) (cn ("own_asks":Str) (.ref o1) [])))=fs4 at hx5;have len5:fs4.length<=4:=by
  rw [<-hfs4];have:=dH ("own_doors":Str) (.ref o4) (cn ("own_rooms":Str) (.ref o3) (cn ("own_says":Str) (.ref o2) (cn ("own_asks":Str) (.ref o1) [])));omega
 clear e5 F5;refine ⟨_,rfl,_,rfl,l3,l4,ts,J2,ds,rfl,L5.a3,L5.a4,L5.ds,m.okR.1,by omega,by omega,fun d hd=>(m.good d hd).a,fun lv lps H6' hlps flv' hlv' S6=>⟨_,rfl,x,C,dx,fs4,rfl,S6 _ _ hx5,M.cls,M.a5,by omega,?_⟩⟩;obtain ⟨H6,e6,hx6,F6⟩:=pG "leaving" (.ref lv) (S6 _ _ hx5);rw [<-e6];have E6:cM x H5 H6:=(ac.exB S6).trans F6;have L6:=L5.exI hx5 E6;have flv:=F6 _ _ flv' (DY (S6 _ _ hx5) flv');have hlv:∀y∈lps,∃us,H6 y.2=some (.lst (us.map V.ref))/\cw H6 us (bh ds y.1):=fun y hy=>by
  obtain ⟨us,g1,g2⟩:=hlv' y hy;exact ⟨us,F6 _ _ g1 (cM.neI (S6 _ _ hx5) g1),g2.kt (F6.ktI (S6 _ _ hx5))⟩
 have ndl:(lps.map (·.1)).Nodup:=by rw [hlps]; exact m.okR.1
 have len6:=dH ("leaving":Str) (.ref lv) fs4;have lk5:lk "leaving" (cn ("leaving":Str) (.ref lv) fs4)=some (.ref lv):=by
  show j4 _ _=_;rw [eo,if_pos rfl]
 clear e6 F6 flv' hlv';refine ⟨_,rfl,l3,rfl,⟨_,aB.of L6.a3⟩,fun f hf=>?_⟩;refine dg (xs:=J2.map V.str) (fun i vs H'=>vs=((J2.take i).filter (eN ds)).map V.str/\ac H6 H'/\H' f=some (.lst vs)) ⟨rfl,ac.new hf,aa⟩ (fun i vs H' _ ⟨_,S,h'⟩=>⟨h',aB.of (S _ _ L6.a3)⟩) ?_ ?_;rotate_left
 ·rintro i vs H' x' hx' hi ⟨rfl,S,f'⟩;obtain ⟨r,hr,rfl⟩:=bv hx';obtain ⟨⟨r',a⟩,hra,er⟩:=ay.mp (show r∈lps.map (·.1) by rw [hlps]; exact aO hr);obtain rfl:r'=r:=er;obtain ⟨us,hus,hdo⟩:=hlv _ hra;refine gN ?_;refine ⟨_,rfl,x,C,dx,_,.ref lv,rfl,S _ _ hx6,M.cls,M.a5,lk5,_,rfl,lv,.ref a,rfl,.inl ⟨_,.inr r',.inl (S _ _ flv),rfl,(dS g6 ndl hra).symm⟩,a,us,bh ds r',rfl,S _ _ hus,hdo.kt (ac.kt S),bP (z_ _ _) (by omega),m.sg0,fun H'' S''=>⟨_,rfl,?_⟩⟩;have hlen:(((J2.take i).filter (eN ds)).map V.str).length<aj:=by
   rw [ai];refine av (bP (gJ _ _) ?_);rw [aJ]; omega
  refine gD (fun hq=>?_) (fun hq=>?_)
  ·refine ⟨_,rfl,S'' _ _ f',hlen,tX hi ⟨?_,?_,aa⟩⟩
   ·rw [fo hr,if_pos (show eN ds r'=true from hq),au]; rfl
   ·intro b o q;rw [af (ae q hf)];exact S'' _ _ (S _ _ q)
  ·refine tX hi ⟨?_,S.trans S'',?_⟩
   ·rw [fo hr,if_neg (show ¬eN ds r'=true from hq),fV]
   ·exact S'' _ _ f'
 rintro vs H7' ⟨rfl,S7,f7⟩;rw [ai,bm] at f7;refine pJ (ws:=J2.filter (eN ds)) (aB.of f7) (bP (gJ _ _) (by omega)) fun qu hqu=>⟨_,rfl,x,C,dx,_,rfl,kp (S7 _ _ hx6) hqu,M.cls,M.a6,by omega,?_⟩;obtain ⟨H7,e7,hx7,F7⟩:=pG "quiet" (.ref qu) (kp (x:=.dK (aQ (J2.filter (eN ds)))) (S7 _ _ hx6) hqu);rw [<-e7];have n7:qu≠x:=(ae (S7 _ _ hx6) hqu).symm;have fqu:=F7 _ _ aa n7;have E7:cM x H6 H7:=((ac.exB S7).trans (cM.new hqu)).trans F7;have L7:=L6.exI hx6 E7;have len7:=dH ("quiet":Str) (.ref qu) (cn ("leaving":Str) (.ref lv) fs4);clear e7 F7;refine ⟨_,rfl,l4,ts,ds,rfl,L7.a4,L7.ds,by omega,fun sg gps H8' G' S8=>⟨_,rfl,x,C,dx,_,rfl,S8 _ _ hx7,M.cls,M.a7,by omega,?_⟩⟩;obtain ⟨H8,e8,hx8,F8⟩:=pG "sign_goals" (.ref sg) (S8 _ _ hx7);rw [<-e8];have E8:cM x H7 H8:=(ac.exB S8).trans F8;have L8:=L7.exI hx7 E8;have G8:iL H8 sg gps ds:=⟨G'.nd,F8 _ _ G'.g (Gq (S8 _ _ hx7) G'.g),fun y hy=>F8 _ _ (G'.ls y hy) (cM.neI (S8 _ _ hx7) (G'.ls y hy)),G'.all⟩;have len8:=dH ("sign_goals":Str) (.ref sg) (cn ("quiet":Str) (.ref qu) (cn ("leaving":Str) (.ref lv) fs4));have lk7:lk "sign_goals" (cn ("sign_goals":Str) (.ref sg) (cn ("quiet":Str) (.ref qu) (cn ("leaving":Str) (.ref lv) fs4)))=some (.ref sg):=by
  show j4 _ _=_;rw [eo,if_pos rfl]
 clear e8 F8 G';refine ⟨_,rfl,l3,rfl,⟨_,aB.of L8.a3⟩,fun f2' hf2=>?_⟩;refine dg (xs:=J2.map V.str) (fun i vs H'=>∃(us:Ze) (pl:List (Str×Addr)),vs=us.map V.ref/\Paired (fun t (p:Str×Addr)=>H' t=some (.tup [.str p.1,.ref p.2])) us pl/\pl.map (·.1)=J2.take i/\(∀p∈pl,∃L,H' p.2=some (.dK (aQ L))/\L.Nodup/\∀w,w∈L↔Reach ds p.1 w)/\ac H8 H'/\H' f2'=some (.lst vs))
  ⟨[],[],rfl,.nil,rfl,by simp,ac.new hf2,aa⟩ (fun i vs H' _ ⟨_,_,_,_,_,_,S,h'⟩=>⟨h',aB.of (S _ _ L8.a3)⟩) ?_ ?_
 rotate_left
 ·rintro i vs H' x' hx' hi ⟨us,pl,rfl,hpa,hpl,hle,S,f'⟩;obtain ⟨r,hr,rfl⟩:=bv hx';have hilen:us.length<=150:=by
   rw [Paired.length hpa,<-ai (f:=(·.1)) (as:=pl),hpl,aJ]; omega
  refine gN (rM ?_);refine ⟨_,rfl,_,rfl,x,C,dx,_,.ref sg,rfl,S _ _ hx8,M.cls,M.a7,lk7,_,rfl,sg,r,gps,ds,J2,rfl,G8.same S,fun d hd=>(m.good d hd).b,by omega,fun ld Lr H'' hld nd hLr hfr S''=>⟨(by show 2<=aj; decide),fun t ht=>⟨?_,?_,tX hi ⟨us++[t],pl++[(r,ld)],?_,?_,?_,?_,?_,aa⟩⟩⟩⟩
  ·exact kp (S'' _ _ f') ht
  ·rw [ai]; exact av (by omega)
  ·rw [au]; rfl
  ·have KT:hE (upd H'' t (.tup [.str r,.ref ld])) (upd (upd H'' t (.tup [.str r,.ref ld])) f2' (.lst (us.map V.ref++[.ref t]))):=cL (kp (S'' _ _ f') ht);exact Paired.app (Paired.mapP hpa fun t' p' e=>KT _ _ (kp (S'' _ _ e) ht)) (.cons (KT _ _ aa) .nil)
  ·rw [au,hpl,take_snoc hr]; rfl
  ·have ned:∀{b:Addr}{kvs:List (dX×V)},upd H'' t (.tup [.str r,.ref ld]) b=some (.dK kvs)->b≠f2':=fun hb z=>by rw [z,kp (S'' _ _ f') ht] at hb; cases hb
   intro p hp;rcases aW.mp hp with hp | hp
   ·obtain ⟨L0,g1,g2⟩:=hle p hp;refine ⟨L0,?_,g2⟩;have:=kp (x:=.tup [.str r,.ref ld]) (S'' _ _ g1) ht;rw [af (ned this)]; exact this
   ·have:p=(r,ld):=by simpa using hp
    subst this;refine ⟨Lr,?_,nd,hLr⟩;have:=kp (x:=.tup [.str r,.ref ld]) hld ht;rw [af (ned this)]; exact this
  ·intro b o q;rw [af (ae q hf2)];exact kp (S'' _ _ (S _ _ q)) ht
 rintro vs H9' ⟨us,sps,rfl,hpa,hsps,hled,S9,f9⟩;rw [ai,bm] at hsps;have nds:(sps.map (·.1)).Nodup:=by rw [hsps]; exact m.okR.1
 refine ⟨f2',us,dI Sum.inr sps,rfl,aB.of f9,?_,?_,fun sl hsl=>⟨_,rfl,x,C,dx,_,rfl,kp (S9 _ _ hx8) hsl,M.cls,M.a8,by omega,?_⟩⟩
 ·rw [Paired.length hpa]; unfold dI; rw [ai]
 ·intro j t kv hj hkv;obtain ⟨p,hp,e⟩:=Paired.getL hpa hj;unfold dI at hkv;rw [bQ,hp] at hkv;have:=eI hkv;rw [<-this];exact e
 have emerge:iT [] (dI Sum.inr sps)=dI Sum.inr sps:=sE sps [] nds;rw [emerge];obtain ⟨H9,e9,hx9,F9⟩:=pG "still_led" (.ref sl) (kp (x:=.dK (dI Sum.inr sps)) (S9 _ _ hx8) hsl);rw [<-e9];have n9:sl≠x:=(ae (S9 _ _ hx8) hsl).symm;have fsl:=F9 _ _ aa n9;have E9:cM x H8 H9:=((ac.exB S9).trans (cM.new hsl)).trans F9;have L9:=L8.exI hx8 E9;have hled9:∀p∈sps,∃L,H9 p.2=some (.dK (aQ L))/\L.Nodup/\∀w,w∈L↔Reach ds p.1 w:=fun p hp=>by
  obtain ⟨L0,g1,g2⟩:=hled p hp;have g3:=kp (x:=.dK (dI Sum.inr sps)) g1 hsl;exact ⟨L0,F9 _ _ g3 (DY (kp (S9 _ _ hx8) hsl) g3),g2⟩
 clear e9 F9;have lk8:lk "still_led" (cn ("still_led":Str) (.ref sl) (cn ("sign_goals":Str) (.ref sg) (cn ("quiet":Str) (.ref qu) (cn ("leaving":Str) (.ref lv) fs4))))=some (.ref sl):=by
  show j4 _ _=_;rw [eo,if_pos rfl]
 refine ⟨_,rfl,_,rfl,x,C,dx,_,.ref sl,rfl,hx9,M.cls,M.a8,lk8,l3,sl,J2,sps,rfl,L9.a3,fsl,hsps,m.okR.1,fun p hp=>?_,fun H10 S10=>⟨_,rfl,k H10 ?_ ?_⟩⟩
 ·obtain ⟨L0,g1,g2,g3⟩:=hled9 p hp;exact ⟨L0,g1,fun z=>m.noround _ ((g3 _).mp z)⟩
 ·have X69:cM x H6 H9:=(E7.trans E8).trans E9;have X59:=((E6.trans E7).trans E8).trans E9;have Y:∀{b:Addr}{o:HO},H9 b=some o->H10 b=some o:=fun h=>S10 _ _ h;have LL:Lists H5 o1 o2 o3 o4 ts J0 J1 J2 ds:=⟨(E3.trans (E4.trans E5)) _ _ f1 n1,(E4.trans E5) _ _ f2 n2,E5 _ _ f3 n3,f4,L5.ds⟩;refine ⟨⟨dx,_,o1,o2,o3,o4,lv,qu,sg,sl,ts,lps,gps,sps,Y hx9,?_,?_,?_,?_,?_,?_,?_,?_,?_,?_,?_,lk8,(LL.exI hx5 X59).same S10,hlps,?_,?_,?_,?_,hsps,Y fsl,fun p hp=>?_⟩,m,⟨dx,_,Y hx9,?_,?_,?_,?_⟩⟩
  rotate_right 9
  ·exact Y (X69 _ _ flv (DY hx6 flv))
  ·intro y hy;obtain ⟨us',g1,g2⟩:=hlv y hy;exact ⟨us',Y (X69 _ _ g1 (cM.neI hx6 g1)),(g2.kt (X69.ktI hx6)).kt (ac.kt S10)⟩
  ·exact Y ((E8.trans E9) _ _ fqu n7)
  ·exact iL.same ⟨G8.nd,E9 _ _ G8.g (Gq hx8 G8.g),fun y hy=>E9 _ _ (G8.ls y hy) (cM.neI hx8 (G8.ls y hy)),G8.all⟩ S10
  ·obtain ⟨L0,g1,g2⟩:=hled9 p hp;exact ⟨L0,Y g1,g2⟩
  all_goals (show j4 _ _=_; subst hfs4; repeat (rw [eo]; first | rw [if_pos rfl] | rw [if_neg (by decide +kernel)]))
  all_goals rfl
 ·exact ((((((((E1.trans E2).trans E3).trans E4).trans E5).trans E6).trans E7).trans E8).trans E9).trans (ac.exB S10)
theorem FQ (a b:Str):decide (ix a=ix b)=decide (a=b):=by
 by_cases e:a=b
 ·rw [zzr1 e,zzr1 (by rw [e])]
 ·rw [zzr0 e,zzr0 (fun z=>e (nT z))]
theorem be.by {C:Addr}{H H':Hp}{x:Addr}{J0 J1 J2:Zb}{ds:List am}(h:be C H x J0 J1 J2 ds)
  (hs:∀b ws,H b=some (.lst (List.map V.str ws))->H' b=some (.lst (List.map V.str ws))) (hr:∀b ts,H b=some (.lst (List.map V.ref ts))->H' b=some (.lst (List.map V.ref ts))) (ht:hE H H')
  (hd:∀b kvs,H b=some (.dK kvs)->H' b=some (.dK kvs)) (hT:∀b kvs,H b=some (.dT kvs)->H' b=some (.dT kvs)) (hi:∀b C dx fs,H b=some (.ins C dx fs)->H' b=some (.ins C dx fs)):be C H' x J0 J1 J2 ds:=by
 obtain ⟨dx,fs,o1,o2,o3,o4,lv,qu,sg,sl,ts,lps,gps,sps,g1,a1,a2,a3,a4,b1,b2,b3,b4,b5,b6,b7,b8,L,c1,c2,c3,c4,G,d1,d2,d3⟩:=h.at_;refine ⟨⟨dx,fs,o1,o2,o3,o4,lv,qu,sg,sl,ts,lps,gps,sps,hi _ _ _ _ g1,a1,a2,a3,a4,b1,b2,b3,b4,b5,b6,b7,b8,⟨hs _ _ L.a1,hs _ _ L.a2,hs _ _ L.a3,hr _ _ L.a4,L.ds.kt ht⟩,c1,hd _ _ c2,fun y hy=>?_,hd _ _ c4,⟨G.nd,hT _ _ G.g,fun y hy=>hs _ _ (G.ls y hy),G.all⟩,d1,hd _ _ d2,fun y hy=>?_⟩,h.ok,by obtain ⟨dx,fs,g,r⟩:=h.more; exact ⟨dx,fs,hi _ _ _ _ g,r⟩⟩
 ·obtain ⟨us,e1,e2⟩:=c3 y hy;exact ⟨us,hr _ _ e1,e2.kt ht⟩
 ·obtain ⟨L0,e1,e2⟩:=d3 y hy;exact ⟨L0,hd _ _ e1,e2⟩
theorem be.same {C:Addr}{H H':Hp}{x:Addr}{J0 J1 J2:Zb}{ds:List am}(h:be C H x J0 J1 J2 ds) (S:ac H H'):be C H' x J0 J1 J2 ds :=
 h.by (fun _ _ e=>S _ _ e) (fun _ _ e=>S _ _ e) (ac.kt S) (fun _ _ e=>S _ _ e) (fun _ _ e=>S _ _ e) (fun _ _ _ _ e=>S _ _ e)
inductive gB (C:Addr) (vs:List V) (H:Hp) (Q:VK) (E:XK):Prop
 | mk (x:Addr) (w:Str) (J0 J1 J2:Zb) (ds:List am):(vs=[.ref x,.str w])->(be C H x J0 J1 J2 ds)->(Q (.bl (decide (w∈J2.filter (eN ds)))) H)->gB C vs H Q E
theorem xR {K:Za}{C:Addr}(M:MC K C) {vs:List V}{H:Hp}{Q:VK}{E:XK}(h:gB C vs H Q E):mF K (bC Q) (start mY vs) H:=by
 obtain ⟨x,w,J0,J1,J2,ds,rfl,h,k⟩:=h;obtain ⟨dx,fs,o1,o2,o3,o4,lv,qu,sg,sl,ts,lps,gps,sps,g1,a1,a2,a3,a4,b1,b2,b3,b4,b5,b6,b7,b8,L,c1,c2,c3,c4,_⟩:=h.at_;refine ⟨_,rfl,_,rfl,x,C,dx,fs,.ref qu,rfl,g1,M.cls,M.a6,b6,qu,_,rfl,.inl ⟨_,.inr w,.inl c4,rfl,rfl⟩,?_⟩;rw [eF];exact k
def bN:List Str:=[("hush":Str)]
inductive jG (C:Addr) (vs:List V) (H:Hp) (Q:VK) (E:XK):Prop
 | mk (t l1 l2 l3 l4:Addr) (ts:Ze) (J0 J1 J2:Zb) (ds:List am):(vs=[.ref t])->(js H t l1 l2 l3 l4 ts J0 J1 J2 ds)->(aH J0 J1 J2 ds)->(∀(x:Addr) (H':Hp),be C H' x J0 J1 J2 ds->ac H H'->Q (.ref x) H')->jG C vs H Q E
theorem zM {K:Za}{C:Addr}{vs:List V}{H:Hp}{Q:VK}{E:XK}(h:jG C vs H Q E):tE K C (qJ C) (bC Q) (start ue vs) H:=by
 obtain ⟨t,l1,l2,l3,l4,ts,J0,J1,J2,ds,rfl,T,m,k⟩:=h;refine ⟨_,rfl,.inr (.inl ⟨t,_,0,_,rfl,rfl,bL.of T.t,rfl,.inl ⟨l1,_,rfl,.inl (aB.of T.a1),fun m1 h1=>?_⟩⟩)⟩;have T1:=T.same (ac.new (o:=.lst (J0.map V.str)) h1);refine ⟨_,rfl,.inr (.inl ⟨t,_,1,_,rfl,rfl,bL.of T1.t,rfl,.inl ⟨l2,_,rfl,.inl (aB.of T1.a2),fun m2 h2=>?_⟩⟩)⟩;have T2:=T1.same (ac.new (o:=.lst (J1.map V.str)) h2);refine ⟨_,rfl,.inr (.inl ⟨t,_,2,_,rfl,rfl,bL.of T2.t,rfl,.inl ⟨l3,_,rfl,.inl (aB.of T2.a3),fun m3 h3=>?_⟩⟩)⟩;have T3:=T2.same (ac.new (o:=.lst (J2.map V.str)) h3);refine ⟨_,rfl,.inr (.inl ⟨t,_,3,_,rfl,rfl,bL.of T3.t,rfl,.inl ⟨l4,_,rfl,.inl (aB.of T3.a4),fun m4 h4=>?_⟩⟩)⟩;have T4:=T3.same (ac.new (o:=.lst (ts.map V.ref)) h4);have S4:=(((ac.new (o:=.lst (J0.map V.str)) h1).trans (ac.new (o:=.lst (J1.map V.str)) h2)).trans (ac.new (o:=.lst (J2.map V.str)) h3)).trans (ac.new (o:=.lst (ts.map V.ref)) h4);refine fun x dx hx hdx hne=>?_;have S5:ac H (upd (upd (upd (upd (upd (upd H m1 (.lst (J0.map V.str))) m2 (.lst (J1.map V.str))) m3 (.lst (J2.map V.str))) m4 (.lst (ts.map V.ref))) dx (.own x)) x (.ins C dx [])) :=
  (S4.trans (ac.new hdx)).trans (ac.new (by rw [af hne.symm]; exact hx))
 have hxx:upd (upd (upd (upd (upd H m1 (.lst (J0.map V.str))) m2 (.lst (J1.map V.str))) m3 (.lst (J2.map V.str))) m4 (.lst (ts.map V.ref))) dx (.own x) x=none:=by rw [af hne.symm]; exact hx
 refine ⟨x,dx,m1,m2,m3,m4,ts,J0,J1,J2,ds,rfl,aa,⟨?_,?_,?_,?_,T.ds.kt (ac.kt S5)⟩,m,fun H' M ex=>⟨rfl,k x H' M fun b o q=>?_⟩⟩
 ·exact kp (kp (kp (kp (kp aa h2) h3) h4) hdx) hxx
 ·exact kp (kp (kp (kp aa h3) h4) hdx) hxx
 ·exact kp (kp (kp aa h4) hdx) hxx
 ·exact kp (kp aa hdx) hxx
 ·have hq:=S5 _ _ q;exact ex _ _ hq (ae (S4.trans (ac.new hdx) _ _ q) hxx)
def wu (ds:List am):List Str:=(ds.filter fun d=>!mf d).map (·.a)
theorem su (ds:List am) (r:Str):eN ds r=decide (r∉wu ds):=by
 unfold eN wu bh;rw [ui,List.all_eq_true,decide_eq_true_iff];constructor
 ·intro h z;obtain ⟨d,hd,rfl⟩:=ay.mp z;rw [b0] at hd;have:=h d (b0.mpr ⟨hd.1,zzr1 rfl⟩);rw [this] at hd;exact absurd hd.2 (by decide)
 ·intro h d hd;rw [b0] at hd;cases q:mf d with
  | true=>rfl
  | false =>
   refine absurd (ay.mpr ⟨d,b0.mpr ⟨hd.1,by rw [q]; rfl⟩,?_⟩) h;exact of_decide_eq_true hd.2
theorem lB {w:Str}{ws:Zb}:ix w∈ws.map ix↔w∈ws:=by
 constructor
 ·intro h;obtain ⟨x,hx,e⟩:=ay.mp h;rw [<-nT e]; exact hx
 ·exact kh
def vU (K:Za) (C_Machine:Addr) (sp_Machine_rooms:Sp) (sp_Machine_led_from:Sp):TS :=
 ao (aN (o9) U2)
 (ao (fx (cD K V1) U3 (cH (tB (fE K V3 V2)) (ao (ma V2 V3 (tC (.bl true)))
 (fx (cD K (c_ C_Machine "led_from" sp_Machine_led_from [] E0 V0 (aA V3))) U4 (ma V2 V4 (tC (.bl true))))) (bR)))
 (bu (eZ (Gm K) (aA (d4 1 [2] (cD K (c_ C_Machine "rooms" sp_Machine_rooms [] E0 V0 bj)) U0 (tB (zB K V0 V1)) V0)))))
def wX:List Str:=["M","rooms","found","room","led"]
def qq (K:Za) :TS :=
 bu (eZ (da K) (aA (fD K V0 "own_rooms")))
def qE:List Str:=["self"]
def mE (K:Za) :TS :=
 bu (eZ (da K) (aA (r8 K (fD K V0 "still_led") V1 (bB (bj)))))
def mW:List Str:=["self","room"]
def qr (K:Za) :TS :=
 bu (eZ (da K) (aA (r8 K (fD K V0 "sign_goals") (bB (aS V1 V2)) (bB (bj)))))
def qF:List Str:=["self","room","sign"]
def rQ (K:Za) :TS :=
 ao (aN (eZ (da K) (aA V1)) U2)
 (ao (aN (tC (.int 0)) U3)
 (ao (mI (aX (aL zP V3 (eZ (d9 K) (aA V2)))) (ao (fx (cD K V0) (ir K 3 (aY U4 (aY U5 (aY U6 (g8))))) (cH (r_ (aX (aL (tW K) V4 (aL (uy K) V2 V3))) (r_ (aX (aL (tW K) V5 (bB (aA (tC (.str "still")))))) (aX (aL (wm K true) V6 V2)))) (bH (r9 K "list" cG V2 (aA V6))) (bR)))
 (aN (aL eP V3 (tC (.int 1))) U3)))
 (bu V2)))
def sY:List Str:=["doors","rooms","found","at","room","sign","other"]
inductive ik (C:Addr) (vs:List V) (H:Hp) (Q:VK) (E:XK):Prop
 | mk (x:Addr) (J0 J1 J2:Zb) (ds:List am):(vs=[.ref x])->(be C H x J0 J1 J2 ds)->(∀l,H l=none->Q (.ref l) (upd H l (.lst (J2.map V.str))))->ik C vs H Q E
theorem Dt {K:Za}{C:Addr}(M:MC K C) {vs:List V}{H:Hp}{Q:VK}{E:XK}(h:ik C vs H Q E):qq K (bC Q) (start qE vs) H:=by
 obtain ⟨x,J0,J1,J2,ds,rfl,h,k⟩:=h;obtain ⟨dx,fs,o1,o2,o3,o4,lv,qu,sg,sl,ts,lps,gps,sps,g1,a1,a2,a3,a4,b1,b2,b3,b4,b5,b6,b7,b8,L,_⟩:=h.at_;exact ⟨_,rfl,x,C,dx,fs,.ref o3,rfl,g1,M.cls,M.a3,b3,.inl ⟨o3,_,rfl,.inl (aB.of L.a3),k⟩⟩
theorem yr:∀{L:Zb},L.Nodup->(aQ L).map (fun kv=>kV kv.1)=L.map V.str:=by
 intro L;refine i_ (fun L=>L.Nodup->(aQ L).map (fun kv=>kV kv.1)=L.map V.str) (fun _=>rfl) (fun ws w ih nd=>?_) L;rw [ck] at nd;have hn:bG (aQ ws) (.inr w)=none:=by
  rw [sG,if_neg (fun z=>nd.2.2 w z w (by simp) rfl)]
 show (aQ (ws++[w])).map _=_;rw [dh,fH _ hn,au,ih nd.1,au]
 rfl
inductive gA (C:Addr) (vs:List V) (H:Hp) (Q:VK) (E:XK):Prop
 | mk (x:Addr) (r:Str) (J0 J1 J2:Zb) (ds:List am):(vs=[.ref x,.str r])->(be C H x J0 J1 J2 ds)->(r∈J2)->(∀(l:Addr) (L:Zb) (H':Hp),H' l=some (.lst (L.map V.str))->L.Nodup->(∀w,w∈L↔Reach ds r w)->H l=none->ac H H'->Q (.ref l) H')->gA C vs H Q E
theorem xQ {K:Za}{C:Addr}(M:MC K C) {vs:List V}{H:Hp}{Q:VK}{E:XK}(h:gA C vs H Q E):mE K (bC Q) (start mW vs) H:=by
 obtain ⟨x,r,J0,J1,J2,ds,rfl,h,hr,k⟩:=h;obtain ⟨dx,fs,o1,o2,o3,o4,lv,qu,sg,sl,ts,lps,gps,sps,g1,a1,a2,a3,a4,b1,b2,b3,b4,b5,b6,b7,b8,L,c1,c2,c3,c4,G,d1,d2,d3⟩:=h.at_;have nod:=h.ok.okR.1;obtain ⟨⟨r',a⟩,hra,er⟩:=ay.mp (show r∈sps.map (·.1) by rw [d1]; exact hr);obtain rfl:r'=r:=er;obtain ⟨L0,e1,e2,e3⟩:=d3 _ hra;refine ⟨_,rfl,x,C,dx,fs,.ref sl,rfl,g1,M.cls,M.a8,b8,sl,rfl,.inl ⟨_,.inl d2⟩,_,rfl,(by show 0<=aj; decide),fun et het=>⟨_,.inl ⟨_,.inr r',.inl (kp d2 het),rfl,rfl⟩,?_⟩⟩;rw [dS g6 (by rw [d1]; exact nod) hra];refine .inr ⟨a,_,rfl,.inl (kp e1 het),fun l hl=>k l L0 _ ?_ e2 e3 ((ac.new het).free hl) ((ac.new het).trans (ac.new hl))⟩;rw [aa,yr e2]
inductive hW (C:Addr) (vs:List V) (H:Hp) (Q:VK) (E:XK):Prop
 | mk (x s:Addr) (r:Str) (sg J0 J1 J2:Zb) (ds:List am):(vs=[.ref x,.str r,.ref s])->(be C H x J0 J1 J2 ds)->(H s=some (.tup (sg.map V.str)))->(∀(l:Addr) (H':Hp),H' l=some (.lst ((a_ ds (r,sg)).map V.str))->H l=none->ac H H'->Q (.ref l) H')->hW C vs H Q E
theorem Cc {K:Za}{C:Addr}(M:MC K C) {vs:List V}{H:Hp}{Q:VK}{E:XK}(h:hW C vs H Q E):qr K (bC Q) (start qF vs) H:=by
 obtain ⟨x,s,r,sgn,J0,J1,J2,ds,rfl,h,hs,k⟩:=h;obtain ⟨dx,fs,o1,o2,o3,o4,lv,qu,sg,sl,ts,lps,gps,sps,g1,a1,a2,a3,a4,b1,b2,b3,b4,b5,b6,b7,b8,L,c1,c2,c3,c4,G,d1,d2,d3⟩:=h.at_;have nod:=h.ok.okR.1;refine ⟨_,rfl,x,C,dx,fs,.ref sg,rfl,g1,M.cls,M.a7,b7,sg,rfl,.inr ⟨_,.inl G.g⟩,_,rfl,_,rfl,(by show 2<=aj; decide),fun kt hkt=>⟨(by show 0<=aj; decide),fun et het=>⟨bG (dI tm gps) (tm (r,sgn)),.inr ⟨_,tm (r,sgn),kt,.inl (kp (kp G.g hkt) het),rfl,?_,lp _,rfl⟩,?_⟩⟩⟩
 ·refine cV.isIn 8 (lp _) ?_;unfold tm cV;refine ⟨kt,_,rfl,kp aa het,?_⟩;unfold TKAts;refine ⟨_,_,rfl,vS _,?_⟩;unfold TKAts;refine ⟨_,_,rfl,SignAt.tk (kp (kp hs hkt) het),?_⟩;unfold TKAts
  rfl
 have S2:ac H (upd (upd H kt (.tup [.str r,.ref s])) et (.tup [])):=(ac.new hkt).trans (ac.new het);by_cases hmem:(r,sgn)∈gps.map (·.1)
 ·obtain ⟨⟨y,a⟩,hra,er⟩:=ay.mp hmem;obtain rfl:y=(r,sgn):=er;rw [dS gX G.nd hra];exact .inl ⟨a,_,rfl,.inl (aB.of (S2 _ _ (G.ls _ hra))),fun l hl=>k l _ aa (S2.free hl) (S2.trans (ac.new hl))⟩
 ·rw [lC gX hmem];have hnil:a_ ds (r,sgn)=[]:=kR fun y hy z=>hmem (by rw [<-z]; exact G.all y hy);refine .inl ⟨et,[],rfl,.inr (bL.of aa),fun l hl=>k l _ ?_ (S2.free hl) (S2.trans (ac.new hl))⟩;rw [hnil];exact aa
theorem Reach.trans {ds:List am}{a b c:Str}(h1:Reach ds a b) (h2:Reach ds b c):Reach ds a c:=by
 induction h2 with
 | one h=>exact .step h1 h
 | step r h ih=>exact .step ih h
def hJ (ds:List am) (gs:Zb) (w:Str):Prop:=∃g∈gs,w=g∨Reach ds g w
theorem hJ.in_ {ds:List am}{gs J2:Zb}{w:Str}(hg:∀g∈gs,g∈J2) (hd:∀d∈ds,d.b∈J2) (h:hJ ds gs w):w∈J2:=by
 obtain ⟨g,h1,rfl | h2⟩:=h
 ·exact hg _ h1
 ·exact h2.in_ hd
def qA (F:Zb) (w:Str):List Str:=if w∈F then F else F++[w]
theorem yq (F:Zb):∀kv∈aQ F,kv.2=.bl true:=by
 refine i_ (fun F=>∀kv∈aQ F,kv.2=.bl true) (by intro kv h; cases h) (fun ws w ih=>?_) F;intro kv hkv;rw [dh] at hkv;unfold cI at hkv;split at hkv
 ·obtain ⟨x,hx,rfl⟩:=ay.mp hkv;split
  ·rfl
  ·exact ih x hx
 ·rcases aW.mp hkv with h | h
  ·exact ih kv h
  ·have:kv=(.inr w,.bl true):=by simpa using h
   rw [this]
theorem sH (F:Zb) (w:Str):cI (aQ F) (.inr w) (.bl true)=aQ (qA F w):=by
 unfold qA;by_cases c:w∈F
 ·rw [if_pos c];have h1:((aQ F).any fun kv=>decide (kv.1=(.inr w:dX)))=true:=by
   rw [i9,eF,zzr1 c]
  unfold cI;rw [if_pos h1];have:∀l:List (dX×V),(∀kv∈l,kv.2=.bl true)->l.map (fun kv=>if kv.1=(.inr w:dX) then (kv.1,V.bl true) else kv)=l:=by
   intro l
   induction l with
   | nil=>intro _; rfl
   | cons x l ih =>
    intro h;rw [aZ,ih fun kv hkv=>h kv (eO _ hkv)];congr 1;split
    ·rw [<-h x cy]
    ·rfl
  exact this _ (yq F)
 ·rw [if_neg c,dh]
theorem sV {F:Zb}(h:F.Nodup) (w:Str):(qA F w).Nodup:=by
 unfold qA;split
 ·exact h
 ·next c =>
  rw [ck];refine ⟨h,by simp,fun a ha b hb e=>?_⟩;have:b=w:=by simpa using hb
  exact c (by rw [<-this,<-e]; exact ha)
theorem yg {F:Zb}{w y:Str}:y∈qA F w↔y∈F∨y=w:=by
 unfold qA;split
 ·next c=>exact ⟨.inl,fun h=>h.elim id fun e=>by rw [e]; exact c⟩
 ·rw [aW]; simp
inductive sp_with_still (C:Addr) (vs:List V) (H:Hp) (Q:VK) (E:XK):Prop
 | mk (x l:Addr) (gs J0 J1 J2:Zb) (ds:List am):(vs=[.ref x,.ref l])->(be C H x J0 J1 J2 ds)->(H l=some (.lst (gs.map V.str)))->((∀g∈gs,g∈J2))->(∀(t:Addr) (F:Zb) (H':Hp),H' t=some (.tup ((J2.filter fun r=>decide (r∈F)).map V.str))->(∀w,w∈F↔hJ ds gs w)->ac H H'->Q (.ref t) H')->sp_with_still C vs H Q E
theorem tP {K:Za}{C:Addr}{vs:List V}{H:Hp}{Q:VK}{E:XK}(h:sp_with_still C vs H Q E):vU K C (ik C) (gA C) (bC Q) (start wX vs) H:=by
 obtain ⟨x,l,gs,J0,J1,J2,ds,rfl,M,hl,hg,k⟩:=h;have hdb:∀d∈ds,d.b∈J2:=fun d hd=>(M.ok.good d hd).b;have z3:=M.ok.rooms26;refine fun d hd=>?_;refine ⟨_,rfl,l,rfl,⟨_,aB.of (kp hl hd)⟩,?_⟩;refine cg (xs:=gs.map V.str) (fun i σ H'=>∃(F:Zb) (x3 x4:Option V),σ=[some (.ref x),some (.ref l),some (.ref d),x3,x4]/\H' d=some (.dK (aQ F))/\ac H H'/\F.Nodup/\∀w,w∈F↔hJ ds (gs.take i) w)
  ⟨[],_,_,rfl,aa,ac.new hd,oT,fun w=>⟨fun h=>(by cases h),fun ⟨g,h,_⟩=>(by cases h)⟩⟩ (fun i σ H' _ ⟨_,_,_,_,_,S,_⟩=>aB.of (S _ _ hl)) ?_ ?_
 ·rintro i y σ H1 hi ⟨F,x3,x4,rfl,hd1,S1,nd,hF⟩;obtain ⟨r,hr,rfl⟩:=bv hi;have hrm:r∈J2:=hg r (aO hr);have hsub:∀w∈F,w∈J2:=fun w hw=>((hF w).mp hw).in_ (fun g hg'=>hg g (eK hg')) hdb;refine ⟨_,rfl,_,rfl,d,_,rfl,.inl ⟨_,.inr r,.inl hd1,rfl,rfl⟩,_,rfl,?_⟩;rw [eF];have hstep:∀w,hJ ds (gs.take (i+1)) w↔(hJ ds (gs.take i) w∨w=r∨Reach ds r w):=by
   intro w;rw [take_snoc hr];constructor
   ·rintro ⟨g,hg',h⟩;rcases aW.mp hg' with hg' | hg'
    ·exact .inl ⟨g,hg',h⟩
    ·have:g=r:=by simpa using hg'
     subst this;exact .inr h
   ·rintro (⟨g,hg',h⟩ | h)
    ·exact ⟨g,cx _ hg',h⟩
    ·exact ⟨r,cX _ (by simp),h⟩
  by_cases c:r∈F
  ·rw [zzr1 c];refine cC ⟨F,_,_,rfl,hd1,S1,nd,fun w=>?_⟩;rw [hstep,hF];refine ⟨.inl,fun h=>h.elim id fun h=>?_⟩;obtain ⟨g,hg',hgr⟩:=(hF r).mp c;rcases h with h | h
   ·rw [h]; exact ⟨g,hg',hgr⟩
   ·refine ⟨g,hg',.inr ?_⟩;rcases hgr with e | hgr
    ·rw [<-e]; exact h
    ·exact hgr.trans h
  ·rw [zzr0 c];refine dO ?_;have hlen:∀{F:Zb},F.Nodup->(∀w∈F,w∈J2)->(aQ F).length<aj:=fun nd hs=>av (bP (jM _) (bP (kP nd hs) (by omega)));refine ⟨_,rfl,_,rfl,d,_,rfl,.inl ⟨_,.inr r,hd1,rfl,hlen nd hsub,rfl⟩,?_⟩;rw [sH];have S2:ac H (upd H1 d (.dK (aQ (qA F r)))):=fun b o q=>by rw [af (ae q hd)]; exact S1 _ _ q
   have hd2:upd H1 d (.dK (aQ (qA F r))) d=some (.dK (aQ (qA F r))):=aa;generalize upd H1 d (.dK (aQ (qA F r)))=H2 at S2 hd2 ⊢;have M2:=M.same S2;obtain ⟨dx,fs,o1,o2,o3,o4,lv,qu,sg,sl,ts,lps,gps,sps,g1,a1,a2,a3,a4,_⟩:=M2.at_;refine ⟨_,rfl,x,dx,fs,rfl,g1,a3,_,rfl,x,r,J0,J1,J2,ds,rfl,M2,hrm,fun ll L H3 hll ndL hL frl S3=>⟨ll,rfl,⟨_,aB.of hll⟩,?_⟩⟩;have hd3:=S3 _ _ hd2;have llH:H ll=none:=S2.free frl;have lld:ll≠d:=fun z=>by rw [z,hd2] at frl; cases frl
   refine cg (xs:=L.map V.str) (fun j σ H'=>∃(F':Zb) (x4:Option V),σ=[some (.ref x),some (.ref l),some (.ref d),some (.str r),x4]/\H' d=some (.dK (aQ F'))/\H' ll=some (.lst (L.map V.str))/\ac H H'/\F'.Nodup/\∀w,w∈F'↔(hJ ds (gs.take i) w∨w=r∨w∈L.take j))
    ⟨qA F r,_,rfl,hd3,hll,S2.trans S3,sV nd r,fun w=>?_⟩ (fun j σ H' _ ⟨_,_,_,_,h,_⟩=>aB.of h) ?_ ?_
   ·rw [yg,hF]; simp
   ·rintro j y σ H4 hj ⟨F',x4',rfl,hd4,hll4,S4,nd4,hF4⟩;obtain ⟨v,hv,rfl⟩:=bv hj;have hsub4:∀w∈F',w∈J2:=by
     intro w hw;rcases (hF4 w).mp hw with h | h | h
     ·exact h.in_ (fun g hg'=>hg g (eK hg')) hdb
     ·rw [h]; exact hrm
     ·exact ((hL w).mp (eK h)).in_ hdb
    refine ⟨_,rfl,_,rfl,d,_,rfl,.inl ⟨_,.inr v,hd4,rfl,hlen nd4 hsub4,rfl⟩,qA F' v,_,rfl,?_,?_,?_,sV nd4 v,fun w=>?_⟩
    ·rw [aa,sH]
    ·rw [af lld]; exact hll4
    ·intro b o q;rw [af (ae q hd)]; exact S4 _ _ q
    ·rw [yg,hF4,take_snoc hv,aW];simp only [bz];constructor
     ·rintro ((h | h | h) | h)
      ·exact .inl h
      ·exact .inr (.inl h)
      ·exact .inr (.inr (.inl h))
      ·exact .inr (.inr (.inr h))
     ·rintro (h | h | h | h)
      ·exact .inl (.inl h)
      ·exact .inl (.inr (.inl h))
      ·exact .inl (.inr (.inr h))
      ·exact .inr h
   ·rintro σ H4 ⟨F',x4',rfl,hd4,hll4,S4,nd4,hF4⟩;rw [ai,bm] at hF4;refine ⟨F',_,_,rfl,hd4,S4,nd4,fun w=>?_⟩;rw [hstep,hF4,hL]
 ·rintro σ H1 ⟨F,x3,x4,rfl,hd1,S1,nd,hF⟩;rw [ai,bm] at hF;have M1:=M.same S1;obtain ⟨dx,fs,o1,o2,o3,o4,lv,qu,sg,sl,ts,lps,gps,sps,g1,a1,a2,a3,a4,_⟩:=M1.at_;refine ⟨_,rfl,x,dx,fs,rfl,g1,a4,x,J0,J1,J2,ds,rfl,M1,fun rl hrl=>⟨rl,rfl,⟨_,aB.of aa⟩,fun f hf=>?_⟩⟩;have S2:ac H (upd H1 rl (.lst (J2.map V.str))):=S1.trans (ac.new hrl);have hd2:upd H1 rl (.lst (J2.map V.str)) d=some (.dK (aQ F)):=kp hd1 hrl;have hrl2:upd H1 rl (.lst (J2.map V.str)) rl=some (.lst (J2.map V.str)):=aa;generalize upd H1 rl (.lst (J2.map V.str))=H2 at S2 hd2 hrl2 hf ⊢;refine dg (xs:=J2.map V.str) (fun i vs H'=>vs=((J2.take i).filter fun r=>decide (r∈F)).map V.str/\ac H2 H'/\H' f=some (.lst vs)) ⟨rfl,ac.new hf,aa⟩ (fun i vs H' _ ⟨_,S,h'⟩=>⟨h',aB.of (S _ _ hrl2)⟩) ?_ ?_
  ·rintro vs H' ⟨rfl,S,f'⟩;rw [ai,bm] at f';exact ⟨f,_,rfl,.inl ⟨aB.of f',fun t ht=>k t F _ aa hF (S2.trans (S.trans (ac.new ht)))⟩⟩
  ·rintro i vs H' x' hx' hi ⟨rfl,S,f'⟩;obtain ⟨r,hr,rfl⟩:=bv hx';refine gN ?_;refine ⟨_,rfl,_,rfl,d,_,rfl,.inl ⟨_,.inr r,.inl (S _ _ hd2),rfl,rfl⟩,_,rfl,?_⟩;rw [eF];have hlen:(((J2.take i).filter fun r=>decide (r∈F)).map V.str).length<aj:=by
    rw [ai];refine av (bP (gJ _ _) ?_);rw [aJ]; omega
   refine gD (fun hq=>?_) (fun hq=>?_)
   ·refine ⟨_,rfl,f',hlen,tX hi ⟨?_,?_,aa⟩⟩
    ·rw [fo hr,if_pos hq,au]; rfl
    ·intro b o q;rw [af (ae q hf)];exact S _ _ q
   ·refine tX hi ⟨?_,S,f'⟩;rw [fo hr,if_neg hq,fV]
inductive fh (K:Za) (vs:List V) (H:Hp) (Q:VK) (E:XK):Prop
 | mk (l4 l:Addr) (ts:Ze) (ds:List am) (gs J2:Zb):(vs=[.ref l4,.ref l])->(H l4=some (.lst (ts.map V.ref)))->(cw H ts ds)->(H l=some (.lst (gs.map V.str)))->((∀d∈ds,d.b∈J2))->(J2.length<=1000)->(gs.length<=1000)->(∀(f:Addr) (F:Zb) (H':Hp),H' f=some (.lst (F.map V.str))->(∀w,w∈F↔hJ ds gs w)->F.length<=2000->H f=none->ac H H'->Q (.ref f) H')->fh K vs H Q E
structure SO (H0 H:Hp) (ds:List am) (gs:Zb) (f:Addr) (X:Zb):Prop where
 f:H f=some (.lst ((gs++X).map V.str))
 same:ac H0 H
 nd:X.Nodup
 new:∀y∈X,y∉gs
 sound:∀y∈X,hJ ds gs y
theorem hJ.step {ds:List am}{gs:Zb}{a b:Str}(h:hJ ds gs a) (e:(⟨a,ar,b⟩:am)∈ds):hJ ds gs b:=by
 obtain ⟨g,hg,rfl | h⟩:=h
 ·exact ⟨_,hg,.inr (.one e)⟩
 ·exact ⟨g,hg,.inr (.step h e)⟩
theorem qR (a b:Zb):decide (oC a=oC b)=decide (a=b):=by
 by_cases e:a=b
 ·rw [zzr1 e,zzr1 (by rw [e])]
 ·rw [zzr0 e,zzr0 (fun z=>e (wK z))]
theorem xN {K:Za}{vs:List V}{H:Hp}{Q:VK}{E:XK}(h:fh K vs H Q E):rQ K (bC Q) (start sY vs) H:=by
 obtain ⟨l4,l,ts,ds,gs,J2,rfl,h4,hds,hl,hin,hz,hz2,k⟩:=h;refine ⟨_,rfl,.inl ⟨l,_,rfl,.inl (aB.of hl),fun f hf=>?_⟩⟩;have lenX:∀{X:Zb},X.Nodup->(∀y∈X,y∉gs)->(∀y∈X,hJ ds gs y)->X.length<=J2.length:=fun nd nw sd=>kP nd fun y hy=>by
  obtain ⟨g,hg,e | h⟩:=sd y hy
  ·exact absurd (by rw [e]; exact hg) (nw y hy)
  ·exact h.in_ hin
 refine ⟨fun m σ H'=>∃(X:Zb) (at_:Nat) (x y z:Option V),σ=[some (.ref l4),some (.ref l),some (.ref f),some (.int at_),x,y,z]/\SO H H' ds gs f X/\at_<=(gs++X).length/\(∀i y,i<at_->(gs++X)[i]?=some y->∀c,(⟨y,ar,c⟩:am)∈ds->c∈gs++X)/\m=gs.length+J2.length-at_,
  ⟨_,[],0,_,_,_,rfl,⟨by rw [fV]; exact aa,ac.new hf,oT,by simp,by simp⟩,c8 _,fun i y h=>by omega,rfl⟩,?_⟩
 rintro m σ H1 ⟨X,at_,x4,x5,x6,rfl,D,hat,hcl,rfl⟩;have hXl:=lenX D.nd D.new D.sound;refine ⟨_,rfl,_,rfl,.inl ⟨f,_,rfl,.inl (aB.of D.f),_,_,rfl,rfl,_,rfl,?_⟩⟩;refine gD (fun hlt=>?_) (fun hlt=>?_)
 ·have hlt':at_<(gs++X).length:=by
   have:=of_decide_eq_true hlt;rw [ai] at this;omega
  have hat0:at_<gs.length+J2.length:=by rw [ax] at hlt'; omega
  generalize hhere:(gs++X)[at_]=here;have hget:(gs++X)[at_]?=some here:=by rw [<-hhere]; exact br hlt'
  have hfrom:∀{Y:Zb}{y:Str},(∀y∈Y,hJ ds gs y)->y∈gs++Y->hJ ds gs y:=fun sd hy=>by
   rcases aW.mp hy with hy | hy
   ·exact ⟨_,hy,.inl rfl⟩
   ·exact sd _ hy
  refine ⟨fun σ' H'=>∃(X':Zb) (x y z:Option V),σ'=[some (.ref l4),some (.ref l),some (.ref f),some (.int ((at_+1:Nat):Int)),x,y,z]/\SO H H' ds gs f X'/\at_+1<=(gs++X').length/\(∀i y,i<at_+1->(gs++X')[i]?=some y->∀c,(⟨y,ar,c⟩:am)∈ds->c∈gs++X'),
   fun σ' H' ⟨X',x,y,z,e,D',h1,h2⟩=>⟨_,(by omega:gs.length+J2.length-(at_+1)<gs.length+J2.length-at_),X',at_+1,x,y,z,e,D',h1,h2,rfl⟩,?_⟩
  refine ⟨_,rfl,l4,rfl,⟨_,aB.of (D.same _ _ h4)⟩,?_⟩;refine cg (xs:=ts.map V.ref) (fun j σ H'=>∃(X' Y:Zb) (x y z:Option V),σ=[some (.ref l4),some (.ref l),some (.ref f),some (.int at_),x,y,z]/\X'=X++Y/\SO H H' ds gs f X'/\∀d∈ds.take j,d.a=here->d.sg=ar->d.b∈gs++X')
   ⟨X,[],_,_,_,rfl,by simp,D,by simp⟩ (fun j σ H' _ ⟨_,_,_,_,_,_,_,D',_⟩=>aB.of (D'.same _ _ h4)) ?_ ?_
  ·rintro j y σ H2 hj ⟨X',Y,x4',x5',x6',rfl,rfl,D2,hdone⟩;obtain ⟨t,ht,rfl⟩:=d6 hj;obtain ⟨dr,hdr,hatd⟩:=Paired.getL hds ht;obtain ⟨s,ht2,hs2⟩:=hatd.kt (ac.kt D2.same);have hmem:=aO hdr;have hXl2:=lenX D2.nd D2.new D2.sound;have hget2:(gs++(X++Y))[at_]?=some here:=by
    rw [<-cJ,cS hlt']; exact hget
   refine ⟨t,_,rfl,bL.of ht2,rfl,_,_,rfl,_,_,rfl,_,_,rfl,rfl,?_⟩;have nextI:∀(H3:Hp) (X3 Y3:Zb) (q4 q5 q6:Option V),X3=X++Y3->SO H H3 ds gs f X3->(∀y∈X++Y,y∈X3)->(dr.a=here->dr.sg=ar->dr.b∈gs++X3) ->
     ∃(X' Y:Zb) (x y z:Option V),[some (.ref l4),some (.ref l),some (.ref f),some (.int at_),q4,q5,q6]=[some (.ref l4),some (.ref l),some (.ref f),some (.int at_),x,y,z]/\X'=X++Y/\SO H H3 ds gs f X'/\∀d∈ds.take (j+1),d.a=here->d.sg=ar->d.b∈gs++X':=by
    intro H3 X3 Y3 q4 q5 q6 e D3 hsub hnew;refine ⟨X3,Y3,q4,q5,q6,rfl,e,D3,fun d hd e1 e2=>?_⟩;rw [take_snoc hdr] at hd;rcases aW.mp hd with hd | hd
    ·rcases aW.mp (hdone d hd e1 e2) with h | h
     ·exact cx _ h
     ·exact cX _ (hsub _ h)
    ·have:d=dr:=by simpa using hd
     subst this;exact hnew e1 e2
   refine ⟨_,rfl,_,rfl,_,rfl,.inl ⟨f,_,_,_,rfl,rfl,aB.of D2.f,bc (j:=at_) (by rw [bQ,hget2]; rfl),ix dr.a,ix here,sP _,sP _,(by show 0<=8; decide),(by show 0<=8; decide),_,rfl,?_⟩⟩;rw [FQ];by_cases c1:dr.a=here;rotate_left
   ·rw [zzr0 c1];exact cC (cC (nextI H2 _ _ _ _ _ rfl D2 (fun _ h=>h) fun e=>absurd e c1))
   rw [zzr1 c1];refine dO ?_;refine ⟨_,rfl,(by show 1<=aj; decide),fun st hst=>⟨oC dr.sg,oC ar,cF (bL.of (kp hs2 hst)),cF (bL.of aa),by rw [dW]; decide,by rw [dW]; decide,_,rfl,?_⟩⟩;rw [qR];have D3:SO H (upd H2 st (.tup [.str "still"])) ds gs f (X++Y):=⟨kp D2.f hst,D2.same.trans (ac.new hst),D2.nd,D2.new,D2.sound⟩;have hstS:H st=none:=D2.same.free hst;generalize upd H2 st (.tup [.str "still"])=H3 at D3 ⊢;by_cases c2:dr.sg=ar;rotate_left
   ·rw [zzr0 c2];exact cC (cC (nextI H3 _ _ _ _ _ rfl D3 (fun _ h=>h) fun _ e=>absurd e c2))
   rw [zzr1 c2];refine dO ?_;refine ⟨_,rfl,_,rfl,ix dr.b,(gs++(X++Y)).map ix,f,_,sP _,rfl,.inl (aB.of D3.f),pH _,(by show 0<=8; decide),by rw [gE]; decide,_,rfl,?_⟩;rw [if_pos rfl];by_cases c3:dr.b∈gs++(X++Y)
   ·rw [zzr1 (lB.mpr c3)];exact cC (nextI H3 _ _ _ _ _ rfl D3 (fun _ h=>h) fun _ _=>c3)
   rw [zzr0 (fun z=>c3 (lB.mp z))];refine dO ?_;refine ⟨_,rfl,.inl ⟨rfl,_,aB.of D3.f⟩,_,rfl,f,_,_,rfl,rfl,D3.f,by rw [ai,ax]; exact fX (by omega),?_⟩;have hedge:(⟨here,ar,dr.b⟩:am)∈ds:=by
    have:dr=⟨here,ar,dr.b⟩:=by cases dr; simp only at c1 c2; rw [c1,c2]
    rw [<-this]; exact hmem
   refine nextI _ (X++(Y++[dr.b])) _ _ _ _ rfl ⟨?_,?_,?_,?_,?_⟩ ?_ ?_
   ·rw [aa];have:gs++(X++(Y++[dr.b]))=gs++(X++Y)++[dr.b]:=by simp
    rw [this,au (l₂:=[dr.b])]
    rfl
   ·intro b o q;rw [af (ae q hf)]; exact D3.same _ _ q
   ·rw [<-cJ,ck];refine ⟨D3.nd,by simp,fun a ha b hb e=>?_⟩;have:b=dr.b:=by simpa using hb
    exact c3 (cX _ (by rw [<-this,<-e]; exact ha))
   ·intro y hy;rw [<-cJ] at hy;rcases aW.mp hy with hy | hy
    ·exact D3.new y hy
    ·have:y=dr.b:=by simpa using hy
     rw [this];exact fun z=>c3 (cx _ z)
   ·intro y hy;rw [<-cJ] at hy;rcases aW.mp hy with hy | hy
    ·exact D3.sound y hy
    ·have:y=dr.b:=by simpa using hy
     rw [this];exact (hfrom D.sound (aO hget)).step hedge
   ·intro y hy;rw [<-cJ];exact cx _ hy
   ·intro _ _;exact cX _ (by simp)
  ·rintro σ H2 ⟨X',Y,x4',x5',x6',rfl,rfl,D2,hdone⟩;rw [ai,Paired.length hds,bm] at hdone;refine ⟨_,rfl,_,_,rfl,rfl,X++Y,_,_,_,rfl,D2,?_,fun i y hi hy c hc=>?_⟩
   ·rw [<-cJ,ax]; omega
   ·by_cases e:i=at_
    ·subst e;rw [<-cJ,cS hlt',hget] at hy;have:=eI hy;subst this;exact hdone _ hc rfl rfl
    ·have hi':i<at_:=by omega
     rw [<-cJ,cS (by omega)] at hy;have:=hcl i y hi' hy c hc;rw [<-cJ];exact cx _ this
 ·have hend:at_=(gs++X).length:=by
   have:¬(at_<(gs++X).length):=fun z=>hlt (zzr1 (by rw [ai]; omega));omega
  refine ⟨_,rfl,k f (gs++X) H1 D.f (fun w=>⟨fun hw=>?_,fun hw=>?_⟩) (by rw [ax]; omega) hf D.same⟩
  ·rcases aW.mp hw with hw | hw
   ·exact ⟨_,hw,.inl rfl⟩
   ·exact D.sound _ hw
  ·have closed:∀y∈gs++X,∀c,(⟨y,ar,c⟩:am)∈ds->c∈gs++X:=fun y hy c hc=>by
    obtain ⟨n,hn⟩:=eJ hy;exact hcl n y (by rw [hend]; exact (bE.mp hn).1) hn c hc
   obtain ⟨g,hg,rfl | h⟩:=hw
   ·exact cx _ hg
   ·induction h with
    | one e=>exact closed _ (cx _ hg) _ e
    | step r e ih=>exact closed _ ih _ e

theorem zG {ds:List am}{a b:Str}(h:¬hJ ds [b] a) {x y:Str}(r:Reach (ds++[⟨a,ar,b⟩]) x y):Reach ds x y∨((x=a∨Reach ds x a)/\(y=b∨Reach ds b y)):=by
 have edge:∀{u v:Str},(⟨u,ar,v⟩:am)∈ds++[⟨a,ar,b⟩]->(⟨u,ar,v⟩:am)∈ds∨(u=a/\v=b):=by
  intro u v e;rcases aW.mp e with e | e
  ·exact .inl e
  ·have:(⟨u,ar,v⟩:am)=⟨a,ar,b⟩:=by simpa using e
   injection this with h1 h2 h3;exact .inr ⟨h1,h3⟩
 induction r with
 | one e =>
  rcases edge e with e | ⟨rfl,rfl⟩
  ·exact .inl (.one e)
  ·exact .inr ⟨.inl rfl,.inl rfl⟩
 | step r e0 ih =>
  rcases edge e0 with e | ⟨rfl,rfl⟩
  ·rcases ih with ih | ⟨h1,h2⟩
   ·exact .inl (.step ih e)
   ·refine .inr ⟨h1,.inr ?_⟩;rcases h2 with h2 | h2
    ·exact .one (by rw [<-h2]; exact e)
    ·exact .step h2 e
  ·rcases ih with ih | ⟨h1,h2⟩
   ·exact .inr ⟨.inr ih,.inl rfl⟩
   ·exact absurd ⟨_,by simp,h2⟩ h
theorem wo {ds:List am}{a b:Str}(hn:∀r,¬Reach ds r r) (h:¬hJ ds [b] a):∀r,¬Reach (ds++[⟨a,ar,b⟩]) r r:=by
 intro r z;have no:¬(a=b∨Reach ds b a):=fun z=>h ⟨b,by simp,z⟩;rcases zG h z with z | ⟨h1,h2⟩
 ·exact hn r z
 ·rcases h1 with rfl | h1
  ·exact no h2
  ·rcases h2 with rfl | h2
   ·exact no (.inr h1)
   ·exact no (.inr (h2.trans h1))
theorem aH.putStill {J0 J1 J2:Zb}{ds:List am}{a b:Str}(m:aH J0 J1 J2 ds) (ha:a∈J2) (hb:b∈J2) (h:¬hJ ds [b] a) (hf:ds.length<=699):aH J0 J1 J2 (kK ds ⟨a,ar,b⟩):=by
 unfold kK;split
 ·exact m
 ·next hn =>
  refine { m with nodup:=?_,good:=?_,few:=?_,noround:=wo m.noround h }
  ·rw [ck];refine ⟨m.nodup,by simp,fun x hx y hy e=>?_⟩;have:y=⟨a,ar,b⟩:=by simpa using hy
   subst this;exact hn (e ▸ hx)
  ·intro d hd;rcases aW.mp hd with hd | hd
   ·exact m.good d hd
   ·have:d=⟨a,ar,b⟩:=by simpa using hd
    subst this;exact ⟨ha,hb,.inr (.inr rfl)⟩
  ·rw [ax]; show ds.length+1<=1000; omega
theorem sv (ds:List am) (d:am):(kK ds d).length<=ds.length+1:=by
 unfold kK;split
 ·omega
 ·rw [ax]; exact aD _
def de (ds:List am) (sg:Zb) (J6:Zb):List Str:=J6.flatMap fun r=>a_ ds (r,sg)
theorem t5 {ds:List am}{sg J6:Zb}{i:Nat}{r:Str}(h:J6[i]?=some r):de ds sg (J6.take (i+1))=de ds sg (J6.take i)++a_ ds (r,sg):=by
 unfold de;rw [take_snoc h,va];simp
theorem qh (ds:List am) (x:Str×List Str):(a_ ds x).length<=ds.length:=by
 unfold a_;rw [ai];exact gJ _ _
theorem ol (ds:List am) (sg:Zb):∀J6:List Str,(de ds sg J6).length<=J6.length * ds.length
 | []=>c8 _
 | r::J6=>by
  show ((a_ ds (r,sg))++de ds sg J6).length<=(J6.length+1) * ds.length;rw [ax,u_];have h1:=qh ds (r,sg);have h2:=ol ds sg J6;omega
theorem wt {ds:List am}{sg J6:Zb}{b:Str}:b∈de ds sg J6↔∃r∈J6,(⟨r,sg,b⟩:am)∈ds:=by
 unfold de;rw [oI];constructor
 ·rintro ⟨r,hr,h⟩;exact ⟨r,hr,em.mp h⟩
 ·rintro ⟨r,hr,h⟩;exact ⟨r,hr,em.mpr h⟩
inductive nO (C:Addr) (vs:List V) (H:Hp) (Q:VK) (E:XK):Prop
 | mk (x t s:Addr) (J6 sg J0 J1 J2:Zb) (ds:List am):(vs=[.ref x,.ref t,.ref s])->(be C H x J0 J1 J2 ds)->(H t=some (.tup (J6.map V.str)))->(H s=some (.tup (sg.map V.str)))->(sg≠bN)->(J6.length<=1000)->(∀(t':Addr) (F:Zb) (H':Hp),H' t'=some (.tup ((J2.filter fun r=>decide (r∈F)).map V.str))->(∀w,w∈F↔hJ ds (de ds sg J6) w)->ac H H'->Q (.ref t') H')->nO C vs H Q E
theorem wj {K:Za}{C hu:Addr}(hhu:∀H,bL K H hu (bN.map V.str)) {sp2:Sp}{vs:List V}{H:Hp}{Q:VK}{E:XK}(h:nO C vs H Q E) :
  l_ K (sp_with_still C) C (hW C) hu sp2 (bC Q) (start mi vs) H:=by
 obtain ⟨x,t,s,J6,sg,J0,J1,J2,ds,rfl,M,ht,hs,hne,hz,k⟩:=h;have hdb:∀d∈ds,d.b∈J2:=fun d hd=>(M.ok.good d hd).b;have z4:=M.ok.few;refine ⟨_,rfl,oC sg,oC bN,cF (bL.of hs),cF (hhu _),by rw [dW]; decide,by rw [dW]; decide,_,rfl,?_⟩;rw [qR,zzr0 hne];refine cC ?_;refine ⟨(by show 0<=aj; decide),fun g hg=>?_⟩;refine ⟨_,rfl,t,rfl,⟨_,bL.of (kp ht hg)⟩,?_⟩;refine Bx (xs:=J6.map V.str) (fun i σ H'=>∃x4:Option V,σ=[some (.ref x),some (.ref t),some (.ref s),some (.ref g),x4]/\H' g=some (.lst ((de ds sg (J6.take i)).map V.str))/\ac H H')
  ⟨_,rfl,aa,ac.new hg⟩ (fun i σ H' _ ⟨_,_,_,S⟩=>bL.of (S _ _ ht)) ?_ ?_
 ·rintro i y σ H1 hi ⟨x4,rfl,hg1,S1⟩;obtain ⟨r,hr,rfl⟩:=bv hi;have M1:=M.same S1;obtain ⟨dx,fs,o1,o2,o3,o4,lv,qu,sgA,sl,ts,lps,gps,sps,g1,a1,a2,a3,a4,_⟩:=M1.at_;refine ⟨_,rfl,.inl ⟨rfl,_,aB.of hg1⟩,_,rfl,x,dx,fs,rfl,g1,a2,_,rfl,_,rfl,x,s,r,sg,J0,J1,J2,ds,rfl,M1,S1 _ _ hs,fun l H2 hl fr S2=>?_⟩;have hg2:=S2 _ _ hg1;have hlen:((de ds sg (J6.take i)).map V.str).length+((a_ ds (r,sg)).map V.str).length<=aj:=by
   rw [ai,ai];have h1:=ol ds sg (J6.take i);have h2:=qh ds (r,sg);have h3:(J6.take i).length * ds.length<=1000 * 1000:=oH (by rw [aJ]; omega) z4;have:(1001000:Nat)<=aj:=by decide
   omega
  refine ⟨g,l,_,_,rfl,rfl,hg2,hl,hlen,_,rfl,?_,?_⟩
  ·rw [aa,t5 hr,au]
  ·intro b o q;rw [af (ae q hg)];exact S2 _ _ (S1 _ _ q)
 ·rintro σ H1 ⟨x4,rfl,hg1,S1⟩;rw [ai,bm] at hg1;refine ⟨_,rfl,_,rfl,x,g,de ds sg J6,J0,J1,J2,ds,rfl,M.same S1,hg1,fun w hw=>?_,fun t' F H' h1 h2 S2=>k t' F H' h1 h2 (S1.trans S2)⟩;obtain ⟨r,_,h⟩:=wt.mp hw;exact hdb _ h
theorem jN {ds:List am}{i:Nat}{d:am}{p:am->Bool}(h:ds[i]?=some d):(ds.take (i+1)).filter p=(ds.take i).filter p++(if p d=true then [d] else []):=by
 rw [take_snoc h,qZ];congr 1;by_cases c:p d=true
 ·rw [if_pos c]; simp [c]
 ·rw [if_neg c]; simp [c]
def vY (K:Za) (sp_with_still:Sp) (C_Machine:Addr) (sp_Machine_rooms:Sp):TS :=
 bu (aM sp_with_still (aS V0 (A0 (so K) (c_ C_Machine "rooms" sp_Machine_rooms [] E0 V0 bj) (fC) (gy (tC (.int 1))))))
def w8:List Str:=["M"]
def tD (K:Za) (sp_law_take:Sp) (sp_law_names:Sp):TS :=
 ao (aN V1 (ir K 4 (aY U2 (aY U3 (aY U4 (aY U5 (g8)))))))
 (ao (aN (o9) U6)
 (ao (fx (Gr K (aq V4 (aA (aM sp_law_names (aS V0 (eZ (d9 K) (aA V4))))))) (ir K 2 (aY U7 (aY U8 (g8)))) (ma V6 V7 V8))
 (ao (aN (d4 1 [6] (cD K V4) U0 (jA) (gS K V1 V0)) U9)
 (ao (aN (aL eP (tC (.int 1)) (aM sp_law_take (aS V0 (eZ (d9 K) (aA V4))))) Hx)
 (ao (aN (aL pe (aL pe (A0 (so K) V9 (fC) (gy (tC (.int 1)))) (A0 (so K) V9 (gy C7) (fC))) (A0 (so K) V9 (gy (tC (.int 1))) (gy C7))) U9)
 (ao (aN (d4 3 [6] (cD K V5) (ir K 3 (aY U0 (aY U1 (aY U2 (g8))))) (jA) (bB (eX (gS K V3 V0) V1 (gS K V3 V2)))) U5)
 (bu (bB (aq V2 (eX V3 V9 V5))))))))))
def ud:List Str:=["pen","told","asks","says","rooms","doors","names","room","name","some","at"]
inductive dJ (C:Addr) (vs:List V) (H:Hp) (Q:VK) (E:XK):Prop
 | mk (x:Addr) (J0 J1 J2:Zb) (ds:List am):(vs=[.ref x])->(be C H x J0 J1 J2 ds)->(∀(t':Addr) (F:Zb) (H':Hp),H' t'=some (.tup ((J2.filter fun r=>decide (r∈F)).map V.str))->(∀w,w∈F↔hJ ds (J2.take 1) w)->ac H H'->Q (.ref t') H')->dJ C vs H Q E
theorem tS {K:Za}{C:Addr}{vs:List V}{H:Hp}{Q:VK}{E:XK}(h:dJ C vs H Q E):vY K (sp_with_still C) C (ik C) (bC Q) (start w8 vs) H:=by
 obtain ⟨x,J0,J1,J2,ds,rfl,M,k⟩:=h;obtain ⟨dx,fs,o1,o2,o3,o4,lv,qu,sgA,sl,ts,lps,gps,sps,g1,a1,a2,a3,a4,_⟩:=M.at_;have c1:gF (J2.map V.str) none (some 1)=(J2.take 1).map V.str:=qS J2 1;refine ⟨_,rfl,_,rfl,x,dx,fs,rfl,g1,a4,x,J0,J1,J2,ds,rfl,M,fun rl hrl=>⟨_,rfl,rl,_,rfl,aB.of aa,fun l hl=>?_⟩⟩;rw [c1];have S:ac H (upd (upd H rl (.lst (J2.map V.str))) l (.lst ((J2.take 1).map V.str))):=(ac.new hrl).trans (ac.new hl);exact ⟨x,l,J2.take 1,J0,J1,J2,ds,rfl,M.same S,aa,fun g hg=>eK hg,fun t' F H' h1 h2 S2=>k t' F H' h1 h2 (S.trans S2)⟩
theorem Ep {K:Za}{a b:Addr}{xs ys:List V}{g:TG}{tb:TS}{D:lV}{σ:L2.St}{H:Hp}(hxy:xs.length=ys.length) (Pv:Nat->L2.St->Hp->Prop) (h0:Pv 0 σ H) (hl:∀i σ H,i<=xs.length->Pv i σ H->aB K H a xs/\aB K H b ys)
  (hs:∀i x y σ H p,xs[i]?=some x->ys[i]?=some y->Pv i σ H->H p=none->g (.ref p) σ (upd H p (.tup [x,y])) fun σ2 H2=>tb { D with nx:=Pv (i+1),ct:=Pv (i+1),bk:=D.nx } σ2 H2) (hd:∀σ H,Pv xs.length σ H->D.nx σ H) :
  ∃W:Nat->Nat->L2.St->Hp->Prop,(∃m,W 0 m σ H)/\∀i m σ H,W i m σ H ->
   ((HC K a b).stop i H/\D.nx σ H)∨((HC K a b).go i H/\∃N:L2.St->Hp->Prop,(∀σ' H',N σ' H'->∃m',m'<m/\W (i+1) m' σ' H')/\∀x H',(HC K a b).yld i H x H'->g x σ H' fun σ2 H2=>tb { D with nx:=N,ct:=N,bk:=D.nx } σ2 H2):=by
 refine ⟨fun i m σ H=>m=xs.length-i/\i<=xs.length/\Pv i σ H,⟨xs.length,by simp,c8 _,h0⟩,?_⟩;rintro i m σ H ⟨rfl,hi,p⟩;obtain ⟨q1,q2⟩:=hl i σ H hi p;by_cases hlt:i<xs.length
 ·have hlt2:i<ys.length:=by omega
  refine .inr ⟨⟨xs,ys,xs[i],ys[i],q1,q2,by simp [hlt],by simp [hlt2]⟩,Pv (i+1),fun σ' H' p'=>⟨xs.length-(i+1),by omega,rfl,hlt,p'⟩,fun x H' y=>?_⟩;obtain ⟨t,u,v,rfl,hn,hu,hv,rfl⟩:=y;exact hs i u v σ H t (hu xs q1) (hv ys q2) p hn
 ·have e:i=xs.length:=by omega
  subst e;exact .inl ⟨⟨xs,ys,q1,q2,.inl (aD _)⟩,hd σ H p⟩
def C4 (ps:List (Str×Str)):List (dX×V):=ps.map fun x=>(.inr x.1,.str x.2)
def EQ:List (Str×Str)->Str->Str
 | [],r=>r
 | (a,b)::ps,r=>if a=r then b else EQ ps r
theorem Bo {r:Str}:∀{ps:List (Str×Str)},r∈ps.map (·.1)->bG (C4 ps) (.inr r:dX)=some (.str (EQ ps r))
 | [],h=>by cases h
 | (a,b)::ps,h=>by
  unfold C4 bG EQ;rw [aZ,kA];by_cases c:a=r
  ·rw [if_pos c,zzr1 (by rw [c])]
   rfl
  ·rw [if_neg c,zzr0 (fun z=>c (by injection z))];have:r∈ps.map (·.1):=by
    rcases cP.mp h with z | z
    ·exact absurd z.symm c
    ·exact z
   exact Bo this
theorem yd {r:Str}:∀{ps:List (Str×Str)},r∉ps.map (·.1)->bG (C4 ps) (.inr r:dX)=none
 | [],_=>rfl
 | (a,b)::ps,h=>by
  unfold C4 bG;rw [aZ,kA,zzr0 (fun z=>h (by injection z with z; rw [aZ]; exact cP.mpr (.inl z.symm)))];exact yd fun z=>h (by rw [aZ]; exact eO _ z)
theorem DW {ps:List (Str×Str)}{r w:Str}(h:r∉ps.map (·.1)):cI (C4 ps) (.inr r) (.str w)=C4 (ps++[(r,w)]):=by
 rw [fH _ (yd h)];unfold C4;rw [au]
 rfl
theorem vP:∀{rs ws:Zb},ws.length=rs.length->(rs.zip ws).map (·.1)=rs
 | [],_,_=>by simp
 | _::_,[],h=>by cases h
 | r::rs,w::ws,h=>by
  rw [List.zip_cons_cons,aZ,vP (by simpa using h)]
theorem Ba:∀{rs ws:Zb},rs.Nodup->ws.length=rs.length->rs.map (EQ (rs.zip ws))=ws
 | [],[],_,_=>rfl
 | [],_::_,_,h=>by cases h
 | _::_,[],_,h=>by cases h
 | r::rs,w::ws,nd,h=>by
  rw [List.zip_cons_cons,aZ];have nd':=lW.mp nd;have e1:EQ ((r,w)::rs.zip ws) r=w:=by unfold EQ; rw [if_pos rfl]
  have e2:rs.map (EQ ((r,w)::rs.zip ws))=rs.map (EQ (rs.zip ws)):=by
   refine List.map_congr_left fun x hx=>?_;show (if r=x then w else EQ (rs.zip ws) x)=_
   rw [if_neg (fun z=>nd'.1 (by rw [z]; exact hx))]
  rw [e1,e2,Ba nd'.2 (by simpa using h)]
def tO (f:Str->Str) (d:am):am:=⟨f d.a,d.sg,f d.b⟩
theorem GZ {J2 ws:Zb}{f:Str->Str}(hf:J2.map f=ws) (nd:ws.Nodup) {a b:Str}(ha:a∈J2) (hb:b∈J2) (e:f a=f b):a=b:=by
 obtain ⟨i,hi⟩:=eJ ha;obtain ⟨j,hj⟩:=eJ hb;have h1:ws[i]?=some (f a):=by rw [<-hf,bQ,hi]; rfl
 have h2:ws[j]?=some (f a):=by rw [<-hf,bQ,hj,e]; rfl
 have:=qQ nd h1 h2;subst this;rw [hi] at hj;exact eI hj
theorem B_ {J2:Zb}{f:Str->Str}{ds:List am}(inj:∀a∈J2,∀b∈J2,f a=f b->a=b) (hin:∀d∈ds,d.a∈J2/\d.b∈J2) {x y:Str}(h:Reach (ds.map (tO f)) x y) :
  ∃a∈J2,∃b∈J2,x=f a/\y=f b/\Reach ds a b:=by
 have edge:∀{u v:Str},(⟨u,ar,v⟩:am)∈ds.map (tO f)->∃a b,(⟨a,ar,b⟩:am)∈ds/\u=f a/\v=f b:=by
  intro u v e;obtain ⟨⟨a,s,b⟩,hd,e⟩:=ay.mp e;unfold tO at e;injection e with e1 e2 e3;simp only at e2;subst e2;exact ⟨a,b,hd,e1.symm,e3.symm⟩
 induction h with
 | one e =>
  obtain ⟨a,b,hd,rfl,rfl⟩:=edge e;exact ⟨a,(hin _ hd).1,b,(hin _ hd).2,rfl,rfl,.one hd⟩
 | step r e ih =>
  obtain ⟨a,ha,b,hb,e1,e2,hr⟩:=ih;obtain ⟨a',b',hd,e3,rfl⟩:=edge e;have:b=a':=inj b hb a' (hin _ hd).1 (e2.symm.trans e3);subst this;exact ⟨a,ha,b',(hin _ hd).2,e1,rfl,.step hr hd⟩
theorem aH.renamed {J0 J1 J2 ws rooms':Zb}{ds:List am}{f:Str->Str}(m:aH J0 J1 J2 ds) (okw:jP ws) (hf:J2.map f=ws) (hp:rooms'.Perm ws):aH J0 J1 rooms' (ds.map (tO f)):=by
 have hlen:rooms'.length=J2.length:=by rw [hp.length_eq,<-hf,ai]
 have inj:∀a∈J2,∀b∈J2,f a=f b->a=b:=fun a ha b hb e=>GZ hf okw.1 ha hb e;have hin:∀d∈ds,d.a∈J2/\d.b∈J2:=fun d hd=>⟨(m.good d hd).a,(m.good d hd).b⟩;have hmem:∀a∈J2,f a∈rooms':=fun a ha=>hp.mem_iff.mpr (by rw [<-hf]; exact kh ha);refine { m with okR:=⟨hp.nodup_iff.mpr okw.1,fun w hw=>okw.2 w (hp.mem_iff.mp hw)⟩,rooms0:=?_,rooms26:=by rw [hlen]; exact m.rooms26,nodup:=?_,good:=?_,few:=by rw [ai]; exact m.few,noround:=?_ }
 ·intro z;rw [z] at hlen;exact m.rooms0 (List.eq_nil_of_length_eq_zero hlen.symm)
 ·refine List.Pairwise.map _ ?_ (List.Pairwise.and_mem.mp m.nodup);rintro ⟨a,s,b⟩ ⟨a',s',b'⟩ ⟨h1,h2,hne⟩ e;unfold tO at e;injection e with e1 e2 e3;simp only at e1 e2 e3;refine hne ?_;rw [inj a (hin _ h1).1 a' (hin _ h2).1 e1,e2,inj b (hin _ h1).2 b' (hin _ h2).2 e3]
 ·intro d hd;obtain ⟨d0,hd0,rfl⟩:=ay.mp hd;exact ⟨hmem _ (hin _ hd0).1,hmem _ (hin _ hd0).2,(m.good d0 hd0).sg⟩
 ·intro r z;obtain ⟨a,ha,b,hb,e1,e2,hr⟩:=B_ inj hin z;have:=inj a ha b hb (e1.symm.trans e2);subst this;exact m.noround a hr
theorem CM (ws:Zb) {j k:Nat}(hj:j<=k) (hk:k<=ws.length):gF (ws.map V.str) (some (j:Int)) (some (k:Int))=((ws.drop j).take (k-j)).map V.str:=by
 unfold gF;rw [HT.sIx_nat,HT.sIx_nat,ai,vd hk,vd (bP hj hk),mq,ve]
theorem xp (ws:Zb) (n:Nat):(ws.take 1++ws.drop (1+n)++(ws.drop 1).take (1+n-1)).Perm ws:=by
 have e:ws.drop (1+n)=(ws.drop 1).drop n:=by rw [List.drop_drop]
 have e2:1+n-1=n:=by omega
 rw [e,e2,cJ];have h:ws=ws.take 1++((ws.drop 1).take n++(ws.drop 1).drop n):=by rw [re,re]
 exact (List.Perm.append_left _ List.perm_append_comm).trans (by rw [<-h])
theorem FR (o:Str) (L:Zb):decide (ix o∈L.map ix)=decide (o∈L):=by
 by_cases c:o∈L
 ·rw [zzr1 (lB.mpr c),zzr1 c]
 ·rw [zzr0 (fun z=>c (lB.mp z)),zzr0 c]
theorem bL.same {K:Za}{H H':Hp}{a:Addr}{xs:List V}(S:ac H H') (h:bL K H a xs):bL K H' a xs:=by
 rcases h with (h | ⟨o,h⟩) | h
 ·exact .inl (.inl (S _ _ h))
 ·exact .inl (.inr ⟨o,S _ _ h⟩)
 ·exact .inr h
theorem aB.same {K:Za}{H H':Hp}{a:Addr}{xs:List V}(S:ac H H') (h:aB K H a xs):aB K H' a xs:=by
 rcases h with (h | ⟨o,h⟩) | h
 ·exact .inl (.inl (S _ _ h))
 ·exact .inl (.inr ⟨o,S _ _ h⟩)
 ·exact .inr h
mutual
theorem ka.same {K:Za}{H H':Hp}(S:ac H H'):∀{d:DT}{v:V},ka K H d v->ka K H' d v
 | .k a,v,h=>by unfold ka at h ⊢; exact h
 | .t l,v,h=>by
  unfold ka at h ⊢;obtain ⟨b,xs,e,q,r⟩:=h;exact ⟨b,xs,e,bL.same S q,DIns.same S r⟩
 | .s l,v,h=>by
  unfold ka at h ⊢;obtain ⟨b,xs,e,q,r⟩:=h;exact ⟨b,xs,e,aB.same S q,DIns.same S r⟩
theorem DIns.same {K:Za}{H H':Hp}(S:ac H H'):∀{ds:List DT}{vs:List V},DIns K H ds vs->DIns K H' ds vs
 | [],vs,h=>by unfold DIns at h ⊢; exact h
 | d::ds,vs,h=>by
  unfold DIns at h ⊢;obtain ⟨v,us,e,q,r⟩:=h;exact ⟨v,us,e,ka.same S q,DIns.same S r⟩
end
def xw (K:Za) :TS :=
 bu (aL pe (aL pe (d4 1 [] (cD K (aL (uy K) V0 (tC (.int 0)))) U0 (jA) (bB (aS (tC (.str "ask")) V0))) (d4 1 [] (cD K (aL (uy K) V0 (tC (.int 1)))) U0 (jA) (bB (aS (tC (.str "say")) V0)))) (cY (aA (bB (aA (tC (.str "hush")))))))
def yS:List Str:=["told"]
open Classical in
def closF (J2:Zb) (ds:List am) (gs:Zb):List Str:=J2.filter fun r=>decide (hJ ds gs r)
open Classical in
theorem yI {J2 F gs:Zb}{ds:List am}(hF:∀w,w∈F↔hJ ds gs w):J2.filter (fun r=>decide (r∈F))=closF J2 ds gs:=by
 unfold closF;refine List.filter_congr fun r _=>?_;by_cases c:r∈F
 ·rw [zzr1 c,zzr1 ((hF r).mp c)]
 ·rw [zzr0 c,zzr0 fun z=>c ((hF r).mpr z)]
theorem CP {J2 gs:Zb}{ds:List am}:∀r∈closF J2 ds gs,r∈J2:=fun r h=>(b0.mp h).1
def behF (J2:Zb) (ds:List am) (J6 sg:Zb):List Str:=if sg=bN then J6.filter (fun r=>decide (r∉wu ds)) else closF J2 ds (de ds sg J6)
theorem EH {J2 J6 sg:Zb}{ds:List am}(hf:∀r∈J6,r∈J2):∀r∈behF J2 ds J6 sg,r∈J2:=by
 intro r h;unfold behF at h;split at h
 ·exact hf r (b0.mp h).1
 ·exact CP r h
theorem DJ {J2:Zb}{ds:List am}{fc:Zb}(hfc:∀r∈fc,r∈J2):(fc.filter fun r=>decide (r∈J2.filter (eN ds)))=fc.filter fun r=>decide (r∉wu ds):=by
 refine List.filter_congr fun r hr=>?_;rw [<-su];cases q:eN ds r with
 | true=>exact zzr1 (b0.mpr ⟨hfc r hr,q⟩)
 | false=>exact zzr0 (fun z=>by rw [(b0.mp z).2] at q; cases q)
inductive qK (K:Za) (C:Addr) (vs:List V) (H:Hp) (Q:VK) (E:XK):Prop
 | mk (x t s:Addr) (J6 sg J0 J1 J2:Zb) (ds:List am):(vs=[.ref x,.ref t,.ref s])->(be C H x J0 J1 J2 ds)->(H t=some (.tup (J6.map V.str)))->(bL K H s (sg.map V.str))->((sg=bN∨H s=some (.tup (sg.map V.str))))->((∀r∈J6,r∈J2))->(J6.length<=1000)->(∀(t':Addr) (H':Hp),H' t'=some (.tup ((behF J2 ds J6 sg).map V.str))->ac H H'->Q (.ref t') H')->qK K C vs H Q E
theorem Fp {K:Za}{C hu:Addr}(hhu:∀H,bL K H hu (bN.map V.str)) {vs:List V}{H:Hp}{Q:VK}{E:XK}(h:qK K C vs H Q E) :
  l_ K (sp_with_still C) C (hW C) hu (gB C) (bC Q) (start mi vs) H:=by
 obtain ⟨x,t,s,J6,sg,J0,J1,J2,ds,rfl,M,ht,hs,hor,hsub,hz,k⟩:=h;by_cases hh:sg=bN;rotate_left
 ·refine wj (E:=E) hhu ⟨x,t,s,J6,sg,J0,J1,J2,ds,rfl,M,ht,hor.resolve_left hh,hh,hz,fun t' F H' h1 hF S=>k t' H' ?_ S⟩;rw [h1,yI hF];unfold behF;rw [if_neg hh]
 subst hh;refine ⟨_,rfl,oC bN,oC bN,cF hs,cF (hhu _),by rw [dW]; decide,by rw [dW]; decide,_,rfl,?_⟩;rw [zzr1 rfl];refine dO ?_;refine ⟨_,rfl,t,rfl,⟨_,bL.of ht⟩,fun f hf=>?_⟩;refine EA (xs:=J6.map V.str) (fun i vs H'=>vs=((J6.take i).filter fun r=>decide (r∈J2.filter (eN ds))).map V.str/\ac H H'/\H' f=some (.lst vs)) ⟨rfl,ac.new hf,aa⟩ (fun i vs H' _ ⟨_,S,h'⟩=>⟨h',bL.of (S _ _ ht)⟩) ?_ ?_
 ·rintro vs H' ⟨rfl,S,f'⟩;rw [ai,bm] at f';refine ⟨f,_,rfl,.inl ⟨aB.of f',fun t' ht'=>k t' _ ?_ (S.trans (ac.new ht'))⟩⟩;rw [aa,DJ hsub];unfold behF;rw [if_pos rfl]
 ·rintro i vs H' x' hx' hi ⟨rfl,S,f'⟩;obtain ⟨r,hr,rfl⟩:=bv hx';have M':=M.same S;obtain ⟨dx,fs,o1,o2,o3,o4,lv,qu,sgA,sl,ts,lps,gps,sps,g1,a1,_⟩:=M'.at_;refine gN ?_;refine ⟨_,rfl,x,dx,fs,rfl,g1,a1,_,rfl,x,r,J0,J1,J2,ds,rfl,M',_,rfl,?_⟩;have hlen:(((J6.take i).filter fun r=>decide (r∈J2.filter (eN ds))).map V.str).length<aj:=by
   rw [ai];refine av (bP (gJ _ _) ?_);rw [aJ]; omega
  refine gD (fun hq=>?_) (fun hq=>?_)
  ·refine ⟨_,rfl,f',hlen,tX hi ⟨?_,?_,aa⟩⟩
   ·rw [fo hr,if_pos hq,au]; rfl
   ·intro b o q;rw [af (ae q hf)];exact S _ _ q
  ·refine tX hi ⟨?_,S,f'⟩;rw [fo hr,if_neg hq,fV]
theorem sN (ds:List am):DT.depths (ds.map wN)<=2:=by
 induction ds with
 | nil=>exact c8 _
 | cons x xs ih=>rw [aZ]; show max (DT.depth (wN x)) (DT.depths _)<=2; rw [wM]; omega
theorem uw {J0 J1 J2:Zb}{dr:am}(g:yW J0 J1 J2 dr):∃s0 rest,dr.sg=s0::rest/\(!decide (V.str s0=V.str ("ask":Str)))=!mf dr:=by
 obtain ⟨s0,rest,hsg⟩:∃s0 rest,dr.sg=s0::rest:=by
  rcases g.sg with ⟨w,_,e⟩ | ⟨w,_,e⟩ | e <;> exact ⟨_,_,e⟩
 refine ⟨s0,rest,hsg,?_⟩;unfold mf;rw [hsg];congr 1;show _=decide (s0=("ask":Str));by_cases c:s0=("ask":Str)
 ·rw [zzr1 c,zzr1 (by rw [c])]
 ·rw [zzr0 c,zzr0 (fun z=>c (by injection z))]
abbrev lR (H:Hp) (us:Ze) (L:List (List Str)):Prop:=Paired (SignAt H) us L
theorem lR.kt {H H':Hp}{us:Ze}{L:List (List Str)}(k:hE H H') (h:lR H us L):lR H' us L:=Paired.mapP h fun _ _ r=>k _ _ r
theorem lR.dIns {K:Za}{H:Hp}:∀{us:Ze}{L:List (List Str)},lR H us L->DIns K H (L.map oC) (us.map V.ref)
 | _,_,.nil=>by show DIns K H [] []; unfold DIns; rfl
 | _,_,.cons r t=>by
  rw [aZ,aZ];unfold DIns;exact ⟨_,_,rfl,cF (bL.of r),lR.dIns t⟩
theorem Am (L:List (List Str)):DT.depths (L.map oC)<=1:=by
 induction L with
 | nil=>exact c8 _
 | cons x xs ih=>rw [aZ]; show max (DT.depth (oC x)) (DT.depths _)<=1; rw [dW]; omega
def az (J0 J1:Zb):List (List Str):=J0.map cj++J1.map nQ++[bN]
inductive nI  (vs:List V) (H:Hp) (Q:VK) (E:XK):Prop
 | mk (t l1 l2 l3 l4:Addr) (ts:Ze) (J0 J1 J2:Zb) (ds:List am):(vs=[.ref t])->(js H t l1 l2 l3 l4 ts J0 J1 J2 ds)->(aH J0 J1 J2 ds)->(∀(l:Addr) (us:Ze) (H':Hp),H' l=some (.lst (us.map V.ref))->lR H' us (az J0 J1)->H l=none->ac H H'->Q (.ref l) H')->nI  vs H Q E
theorem jO {K:Za}{σ:L2.St}{H:Hp}{a l:Addr}{ws:Zb}{kd:Str}{Q:Hp->Prop}(ha:H a=some (.lst (ws.map V.str))) (hz:ws.length<=1000) (hl:H l=none)
  (k:∀(us:Ze) (H':Hp),H' l=some (.lst (us.map V.ref))->lR H' us (ws.map fun w=>[kd,w])->ac H H'->Q H') :
  fM 1 [] σ (ET K a) U0 jA (bB (aS (tC (.str kd)) V0)) H l Q:=by
 refine dg (xs:=ws.map V.str) (fun i vs H'=>∃us:List Addr,vs=us.map V.ref/\ac H H'/\H' l=some (.lst vs)/\lR H' us ((ws.take i).map fun w=>[kd,w])) ⟨[],rfl,ac.new hl,aa,.nil⟩ (fun i vs H' _ ⟨_,_,S,h',_⟩=>⟨h',aB.of (S _ _ ha)⟩) ?_ ?_
 ·rintro vs H' ⟨us,rfl,S,h',hP⟩;rw [ai,bm] at hP;exact k us H' h' hP S
 ·rintro i vs H' x' hx' hi ⟨us,rfl,S,f',hP⟩;obtain ⟨w,hw,rfl⟩:=bv hx';refine gN (rM ?_);refine ⟨_,rfl,(by show 2<=aj; decide),fun u hu=>⟨kp f' hu,?_,tX hi ⟨us++[u],by rw [au]; rfl,?_,aa,?_⟩⟩⟩
  ·rw [ai,Paired.length hP,ai,aJ];exact av (by omega)
  ·intro b o q;rw [af (ae q hl)];exact kp (S _ _ q) hu
  ·rw [take_snoc hw,au];have hk:hE H' (upd (upd H' u (.tup [.str kd,.str w])) l (.lst (us.map V.ref++[.ref u]))):=(ac.kt (ac.new hu)).trans (cL (kp f' hu));exact cK (lR.kt hk hP) ((cL (kp f' hu)) _ _ aa)
theorem Dr {K:Za}{vs:List V}{H:Hp}{Q:VK}{E:XK}(h:nI vs H Q E):xw K (bC Q) (start yS vs) H:=by
 obtain ⟨t,l1,l2,l3,l4,ts,J0,J1,J2,ds,rfl,T,m,k⟩:=h;have z1:=m.asks4;have z2:=m.says4;refine ⟨_,rfl,.inr (.inl ⟨t,_,0,_,rfl,rfl,bL.of T.t,rfl,l1,rfl,⟨_,aB.of T.a1⟩,fun la hla=>?_⟩)⟩;refine jO (kd:="ask") T.a1 (by omega) hla fun ua H1 h1 hP1 S1=>?_;have T1:=T.same S1;refine ⟨_,rfl,.inr (.inl ⟨t,_,1,_,rfl,rfl,bL.of T1.t,rfl,l2,rfl,⟨_,aB.of T1.a2⟩,fun ls hls=>?_⟩)⟩;refine jO (kd:="say") T1.a2 (by omega) hls fun us H2 h2 hP2 S2=>?_;have h12:=S2 _ _ h1;have hP12:=lR.kt (ac.kt S2) hP1;refine ⟨la,ls,_,_,rfl,rfl,h12,h2,?_,fun c1 hc1=>?_⟩
 ·rw [ai,ai,Paired.length hP1,Paired.length hP2,ai,ai];exact dR (av (by omega))
 refine ⟨(by show 1<=aj; decide),fun hh hhh=>⟨(by show 1<=aj; decide),fun hl hhl=>?_⟩⟩;refine ⟨c1,hl,_,_,rfl,rfl,kp (kp aa hhh) hhl,aa,?_,fun r hr=>?_⟩
 ·rw [ax,ai,ai,Paired.length hP1,Paired.length hP2,ai,ai];exact dR (av (by show _+1<=1000; omega))
 have S3:=(((ac.new (o:=.lst (ua.map V.ref++us.map V.ref)) hc1).trans (ac.new (o:=.tup [.str "hush"]) hhh)).trans (ac.new (o:=.lst [.ref hh]) hhl)).trans (ac.new (o:=.lst (ua.map V.ref++us.map V.ref++[.ref hh])) hr);refine k r (ua++us++[hh]) _ ?_ ?_ ?_ ((S1.trans S2).trans S3)
 ·rw [aa,au,au]; rfl
 ·refine Paired.app (Paired.app (lR.kt (ac.kt S3) hP12) (lR.kt (ac.kt S3) hP2)) (.cons ?_ .nil);exact kp (kp aa hhl) hr
 ·exact (((S1.trans S2).trans ((ac.new hc1).trans (ac.new hhh))).trans (ac.new hhl)).free hr
theorem Paired.takeP {α β:Type}{R:α->β->Prop}:∀(n:Nat) {xs:List α}{ys:List β},Paired R xs ys->Paired R (xs.take n) (ys.take n)
 | 0,_,_,_=>by rw [q_,q_]; exact .nil
 | _+1,_,_,.nil=>.nil
 | n+1,_,_,.cons r t=>.cons r (Paired.takeP n t)
def rS (K:Za) :TS :=
 bu (eZ (da K) (aA (fD K V0 "own_asks")))
def s_:List Str:=["self"]
def rR (K:Za) :TS :=
 bu (eZ (da K) (aA (fD K V0 "own_says")))
def sZ:List Str:=["self"]
def kD (K:Za) :TS :=
 bu (eZ (da K) (aA (r8 K (fD K V0 "leaving") V1 (bB (bj)))))
def k9:List Str:=["self","room"]
theorem mL {C x:Addr}{H:Hp}{J0 J1 J2:Zb}{ds:List am}(h:be C H x J0 J1 J2 ds):∃(dx:Addr) (fs:List (Str×V)) (o1 o2 lv:Addr) (lps:List (Str×Addr)),H x=some (.ins C dx fs)/\lk "asks" fs=none/\lk "says" fs=none/\lk "doors_from" fs=none/\lk "is_quiet" fs=none/\lk "own_asks" fs=some (.ref o1)/\lk "own_says" fs=some (.ref o2)/\lk "leaving" fs=some (.ref lv) /\
  H o1=some (.lst (J0.map V.str))/\H o2=some (.lst (J1.map V.str))/\lps.map (·.1)=J2/\H lv=some (.dK (dI Sum.inr lps))/\(∀x∈lps,∃us,H x.2=some (.lst (us.map V.ref))/\cw H us (bh ds x.1)):=by
 obtain ⟨dx,fs,o1,o2,o3,o4,lv,qu,sg,sl,ts,lps,gps,sps,g1,a1,a2,a3,a4,b1,b2,b3,b4,b5,b6,b7,b8,L,c1,c2,c3,c4,G,d1,d2,d3⟩:=h.at_;obtain ⟨dx',fs',g1',e1,e2,e3,e4⟩:=h.more;rw [g1] at g1';cases g1';exact ⟨dx,fs,o1,o2,lv,lps,g1,e1,e2,e4,a1,b1,b2,b5,L.a1,L.a2,c1,c2,c3⟩
inductive ln (C:Addr) (vs:List V) (H:Hp) (Q:VK) (E:XK):Prop
 | mk (x:Addr) (J0 J1 J2:Zb) (ds:List am):(vs=[.ref x])->(be C H x J0 J1 J2 ds)->(∀l,H l=none->Q (.ref l) (upd H l (.lst (J0.map V.str))))->ln C vs H Q E
theorem Fq {K:Za}{C:Addr}(M:MC K C) {vs:List V}{H:Hp}{Q:VK}{E:XK}(h:ln C vs H Q E):rS K (bC Q) (start s_ vs) H:=by
 obtain ⟨x,J0,J1,J2,ds,rfl,h,k⟩:=h;obtain ⟨dx,fs,o1,o2,lv,lps,g1,a1,a2,a3,a4,b1,b2,b3,c1,c2,_⟩:=mL h;exact ⟨_,rfl,x,C,dx,fs,.ref o1,rfl,g1,M.cls,M.a1,b1,.inl ⟨o1,_,rfl,.inl (aB.of c1),k⟩⟩
inductive nJ (C:Addr) (vs:List V) (H:Hp) (Q:VK) (E:XK):Prop
 | mk (x:Addr) (J0 J1 J2:Zb) (ds:List am):(vs=[.ref x])->(be C H x J0 J1 J2 ds)->(∀l,H l=none->Q (.ref l) (upd H l (.lst (J1.map V.str))))->nJ C vs H Q E
theorem Fl {K:Za}{C:Addr}(M:MC K C) {vs:List V}{H:Hp}{Q:VK}{E:XK}(h:nJ C vs H Q E):rR K (bC Q) (start sZ vs) H:=by
 obtain ⟨x,J0,J1,J2,ds,rfl,h,k⟩:=h;obtain ⟨dx,fs,o1,o2,lv,lps,g1,a1,a2,a3,a4,b1,b2,b3,c1,c2,_⟩:=mL h;exact ⟨_,rfl,x,C,dx,fs,.ref o2,rfl,g1,M.cls,M.a2,b2,.inl ⟨o2,_,rfl,.inl (aB.of c2),k⟩⟩
inductive gp (C:Addr) (vs:List V) (H:Hp) (Q:VK) (E:XK):Prop
 | mk (x:Addr) (r:Str) (J0 J1 J2:Zb) (ds:List am):(vs=[.ref x,.str r])->(be C H x J0 J1 J2 ds)->(r∈J2)->(∀(l:Addr) (us:Ze) (H':Hp),H' l=some (.lst (us.map V.ref))->cw H' us (bh ds r)->H l=none->ac H H'->Q (.ref l) H')->gp C vs H Q E
theorem tU {K:Za}{C:Addr}(M:MC K C) {vs:List V}{H:Hp}{Q:VK}{E:XK}(h:gp C vs H Q E):kD K (bC Q) (start k9 vs) H:=by
 obtain ⟨x,r,J0,J1,J2,ds,rfl,h,hr,k⟩:=h;obtain ⟨dx,fs,o1,o2,lv,lps,g1,a1,a2,a3,a4,b1,b2,b3,c1,c2,c3,c4,c5⟩:=mL h;have nod:=h.ok.okR.1;obtain ⟨⟨r',a⟩,hra,er⟩:=ay.mp (show r∈lps.map (·.1) by rw [c3]; exact hr);obtain rfl:r'=r:=er;obtain ⟨us,e1,e2⟩:=c5 _ hra;refine ⟨_,rfl,x,C,dx,fs,.ref lv,rfl,g1,M.cls,M.a5,b3,lv,rfl,.inl ⟨_,.inl c4⟩,_,rfl,(by show 0<=aj; decide),fun et het=>⟨_,.inl ⟨_,.inr r',.inl (kp c4 het),rfl,rfl⟩,?_⟩⟩;rw [dS g6 (by rw [c3]; exact nod) hra];have S1:ac H (upd H et (.tup [])):=ac.new het;refine .inl ⟨a,_,rfl,.inl (aB.of (S1 _ _ e1)),fun l hl=>k l us _ aa ?_ (S1.free hl) (S1.trans (ac.new hl))⟩;exact e2.kt (ac.kt (S1.trans (ac.new hl)))

theorem FM {n j:Nat}(h:j<n):ES n (j:Int)=some j:=by
 unfold ES;rw [if_pos (Int.natCast_nonneg j),if_pos (by omega)]
 rfl
theorem Reach.mono {ds ds':List am}(h:∀a b,(⟨a,ar,b⟩:am)∈ds->(⟨a,ar,b⟩:am)∈ds') {a b:Str}(r:Reach ds a b):Reach ds' a b:=by
 induction r with
 | one e=>exact .one (h _ _ e)
 | step _ e ih=>exact .step ih (h _ _ e)
theorem DX {K:Za}{H:Hp}{l q:Addr}{ts:Ze}{ds:List am}{Q:VK}(hl:H l=some (.lst (ts.map V.ref))) (hd:cw H ts ds) (hq:H q=some (.lst [])) (h1:ds≠[]->Q (.bl true) H) (h2:ds=[]->Q (.bl false) H):wk K (.ref l) (.ref q) H Q:=by
 refine ⟨.s (ds.map wN),.s [],(by unfold ka; exact ⟨l,_,rfl,aB.of hl,hd.dIns⟩),(by unfold ka; exact ⟨q,_,rfl,aB.of hq,by unfold DIns; rfl⟩),?_,(by decide),?_⟩
 ·show DT.depths _+1<=8;have:=sN ds;omega
 ·by_cases c:ds=[]
  ·subst c;rw [zzr1 (show DT.s (([]:List am).map wN)=DT.s [] from rfl)];exact h2 rfl
  ·rw [zzr0 (fun z=>c (by injection z with z; exact List.map_eq_nil_iff.mp z))];exact h1 c
def E_ (K:Za) (C_Machine:Addr) (sp_Machine_led_from:Sp) (sp_Machine_goals:Sp):TS :=
 bu (eZ (rAny K) (aq (d4 1 [0,2] (cD K (aL pe (cY (aA V1)) (c_ C_Machine "led_from" sp_Machine_led_from [] E0 V0 (aA V1)))) U0 (jA) (aL DG (eZ (d9 K) (aq (c_ C_Machine "goals" sp_Machine_goals [] E0 V1 (aS V0 (bB (aq (tC (.str "ask")) (aA V2))))) bj)) (tC (.int 0)))) bj))
def Gb:List Str:=["I","room","ask"]
def tz (K:Za) (sp_law_put:Sp) (sp_law_take:Sp) (sp_law_still_on:Sp):TS :=
 ao (aN V1 (ir K 4 (aY U2 (aY U3 (aY U4 (aY U5 (g8)))))))
 (ao (aN (eZ (da K) (aA V5)) U5)
 (ao (fx (cD K V4) U6 (fx (cD K V2) U7 (ao (aN (aM sp_law_still_on (aS V5 (cY (aA V6)))) U8)
 (cH (aX (aL (tW K) (d4 1 [8,7] (cD K V5) U0 (r_ (aX (aL (wm K false) (aL (uy K) V0 (tC (.int 0))) V1)) (aX (aL (tW K) (aL (uy K) V0 (tC (.int 1))) (bB (aS (tC (.str "ask")) V2))))) V0) (cY (bj)))) (ao (aN (aL (cT K) (cY (aq V6 (aq (aL (cT K) V4 (aM sp_law_take (aS V0 (eZ (d9 K) (aA V4))))) bj))) (aM sp_law_take (aS V0 (tC (.int 2))))) U9)
 (bH (aM sp_law_put (aq V5 (aq (bB (eX V6 (bB (aS (tC (.str "ask")) V7)) V9)) bj))))) (bR)))))
 (bu (bB (aq V2 (eX V3 V4 V5))))))
def uc:List Str:=["pen","told","asks","says","rooms","doors","room","ask","there","other"]
def fu (ds:List am) (r a:Str):Prop:=∃h,(h=r∨Reach ds r h)/\∃b,(⟨h,cj a,b⟩:am)∈ds
open Classical in
def takesB (ds:List am) (r a:Str):Bool:=decide (fu ds r a)
theorem kC {ds:List am}{r a:Str}:takesB ds r a=true↔fu ds r a:=by unfold takesB; exact @decide_eq_true_iff _ (Classical.propDecidable _)
theorem vT {ds:List am}{r a:Str}:takesB ds r a=false↔¬fu ds r a:=by unfold takesB; exact @decide_eq_false_iff_not _ (Classical.propDecidable _)
theorem qg {ds:List am}{h:Str}{sg:Zb}:0<(a_ ds (h,sg)).length↔∃b,(⟨h,sg,b⟩:am)∈ds:=by
 rw [List.length_pos_iff_exists_mem];constructor
 ·rintro ⟨b,hb⟩; exact ⟨b,em.mp hb⟩
 ·rintro ⟨b,hb⟩; exact ⟨b,em.mpr hb⟩
theorem BV {ds:List am}{r a:Str}{L:Zb}(hL:∀w,w∈L↔Reach ds r w):((r::L).map fun h=>decide ((0:Int)<(a_ ds (h,cj a)).length)).any id=takesB ds r a:=by
 rw [ui,kC,List.any_eq_true];constructor
 ·rintro ⟨b,hb,e⟩;obtain ⟨h,hh,rfl⟩:=ay.mp hb;have:=of_decide_eq_true e;refine ⟨h,?_,qg.mp (by omega)⟩;rcases cP.mp hh with e | e
  ·exact .inl e
  ·exact .inr ((hL h).mp e)
 ·rintro ⟨h,hh,hb⟩;refine ⟨true,ay.mpr ⟨h,?_,zzr1 (by have:=qg.mpr hb; omega)⟩,rfl⟩;rcases hh with e | e
  ·rw [e]; exact cy
  ·exact eO _ ((hL h).mpr e)
inductive je (C:Addr) (vs:List V) (H:Hp) (Q:VK) (E:XK):Prop
 | mk (x:Addr) (r a:Str) (J0 J1 J2:Zb) (ds:List am):(vs=[.ref x,.str r,.str a])->(be C H x J0 J1 J2 ds)->(r∈J2)->(∀H',ac H H'->Q (.bl (takesB ds r a)) H')->je C vs H Q E
theorem Dq {K:Za}{C:Addr}{vs:List V}{H:Hp}{Q:VK}{E:XK}(h:je C vs H Q E):E_ K C (gA C) (hW C) (bC Q) (start Gb vs) H:=by
 obtain ⟨x,r,a,J0,J1,J2,ds,rfl,M,hr,k⟩:=h;refine ⟨_,rfl,(by show 1<=aj; decide),fun l1 hl1=>?_⟩;have S1:ac H (upd H l1 (.lst [.str r])):=ac.new hl1;have e1:upd H l1 (.lst [.str r]) l1=some (.lst [.str r]):=aa;generalize upd H l1 (.lst [.str r])=H1 at S1 e1 ⊢;have M1:=M.same S1;obtain ⟨dx,fs,o1,o2,o3,o4,lv,qu,sgA,sl,ts,lps,gps,sps,g1,a1,a2,a3,a4,_⟩:=id M1.at_;refine ⟨_,rfl,x,dx,fs,rfl,g1,a3,_,rfl,x,r,J0,J1,J2,ds,rfl,M1,hr,fun l2 L H2 e2 nd hL _ S2=>?_⟩;have hin:∀w∈L,w∈J2:=fun w hw=>((hL w).mp hw).in_ fun d hd=>(M.ok.good d hd).b;have zL:=kP nd hin;have z3:=M.ok.rooms26;refine ⟨l1,l2,_,_,rfl,rfl,S2 _ _ e1,e2,by rw [ai]; show 1+L.length<=aj; exact dR (av (by omega)),fun l3 hl3=>?_⟩;have eq:([.str r]++L.map V.str:List V)=(r::L).map V.str:=rfl;rw [eq];have S3:ac H (upd H2 l3 (.lst ((r::L).map V.str))):=(S1.trans S2).trans (ac.new hl3);have e3:upd H2 l3 (.lst ((r::L).map V.str)) l3=some (.lst ((r::L).map V.str)):=aa;generalize upd H2 l3 (.lst ((r::L).map V.str))=H3 at S3 e3 ⊢;refine ⟨l3,rfl,⟨_,aB.of e3⟩,fun q hq=>?_⟩;refine dg (xs:=(r::L).map V.str) (fun i vs H'=>vs=(((r::L).take i).map fun h=>decide ((0:Int)<(a_ ds (h,cj a)).length)).map V.bl/\ac H3 H'/\H' q=some (.lst vs)) ⟨rfl,ac.new hq,aa⟩ (fun i vs H' _ ⟨_,S,h⟩=>⟨h,aB.of (S _ _ e3)⟩) ?_ ?_
 ·rintro vs H' ⟨rfl,S,h⟩;rw [ai,bm] at h;refine ⟨q,_,rfl,aB.of h,?_⟩;rw [BV hL];exact k H' (S3.trans S)
 ·rintro i vs H' y hy hi ⟨rfl,S,h⟩;obtain ⟨w,hw,rfl⟩:=bv hy;refine gN (rM ?_);have M':=M.same (S3.trans S);obtain ⟨dx,fs,o1,o2,o3,o4,lv,qu,sgA,sl,ts,lps,gps,sps,g1,a1,a2,a3,a4,_⟩:=id M'.at_;refine ⟨_,rfl,x,dx,fs,rfl,g1,a2,_,rfl,_,rfl,(by show 2<=aj; decide),fun s hs=>?_⟩;have S4:ac H' (upd H' s (.tup ((cj a).map V.str))):=ac.new hs;refine ⟨x,s,w,cj a,J0,J1,J2,ds,rfl,M'.same S4,aa,fun g H5 hg _ S5=>?_⟩;have S45:=S4.trans S5;refine .inl ⟨g,_,rfl,.inl (aB.of hg),_,_,rfl,rfl,S45 _ _ h,?_,?_⟩
  ·rw [ai,ai,aJ]; exact av (by rw [dQ]; omega)
  refine tX hi ⟨?_,fun b o e=>?_,aa⟩
  ·rw [take_snoc hw,au,au];show _++[V.bl (decide ((0:Int)<(((a_ ds (w,cj a)).map V.str).length:Nat)))]=_;rw [ai]; rfl
  ·rw [af (ae e hq)]; exact S45 _ _ (S _ _ e)
theorem Bp {K:Za}{H:Hp}{l m:Addr}{a b:Zb}{Q:VK}(hl:H l=some (.lst (a.map V.str))) (hm:H m=some (.lst (b.map V.str))) (k:Q (.bl (!decide (a=b))) H):wk K (.ref l) (.ref m) H Q:=by
 refine ⟨.s (a.map ix),.s (b.map ix),sO (aB.of hl),sO (aB.of hm),?_,?_,?_⟩
 ·show DT.depths _+1<=8; rw [gE]; decide
 ·show DT.depths _+1<=8; rw [gE]; decide
 ·rw [decide_eq_decide.mpr (show DT.s (a.map ix)=DT.s (b.map ix)↔a=b from ⟨fun h=>gC (by injection h),fun h=>by rw [h]⟩)]; exact k
def yO (F:Zb) (a:Str) (d:am):Bool:=decide (d.a∈F) && decide (d.sg=cj a)
theorem yN {ds:List am}{F:Zb}{r a:Str}(hF:∀w,w∈F↔hJ ds [r] w):ds.filter (yO F a)=[]↔takesB ds r a=false:=by
 rw [vT,List.filter_eq_nil_iff];constructor
 ·rintro h ⟨w,hw,b,hb⟩;refine h _ hb ?_;unfold yO;rw [zzr1,zzr1]
  ·rfl
  ·rfl
  ·exact (hF w).mpr ⟨r,cy,hw⟩
 ·intro n d hd q;unfold yO at q;rw [vF] at q;have q1:=of_decide_eq_true q.1;have q2:=of_decide_eq_true q.2;obtain ⟨g,hg,e⟩:=(hF _).mp q1;have:g=r:=by simpa using hg
  subst this;obtain ⟨x,sg,b⟩:=d;exact n ⟨x,e,b,by rw [<-q2]; exact hd⟩
theorem EJ {K:Za}{σ:L2.St}{jt ja:Nat}{l4 f l:Addr}{ts:Ze}{ds:List am}{F:Zb}{a:Str}{H1:Hp}{Q:Hp->Prop}(st:σ[jt]?=some (some (.ref f))) (sa:σ[ja]?=some (some (.str a)))
  (h4:H1 l4=some (.lst (ts.map V.ref))) (hd:cw H1 ts ds) (hf:H1 f=some (.lst (F.map V.str))) (z:ds.length<=1000) (hl:H1 l=none)
  (k:∀(us:Ze) (H':Hp),H' l=some (.lst (us.map V.ref))->cw H' us (ds.filter (yO F a))->ac H1 H'->Q H') :
  fM 1 [jt,ja] σ (ET K l4) U0 (r_ (aX (aL (wm K false) (aL (uy K) V0 (tC (.int 0))) V1)) (aX (aL (tW K) (aL (uy K) V0 (tC (.int 1))) (bB (aS (tC (.str "ask")) V2))))) V0 H1 l Q:=by
 have cs:dw 1 [jt,ja] σ=[none,some (.ref f),some (.str a)]:=by simp [dw,st,sa]
 refine dg (xs:=ts.map V.ref) (fun i vs H'=>∃us:List Addr,vs=us.map V.ref/\cw H' us ((ds.take i).filter (yO F a))/\ac H1 H'/\H' l=some (.lst vs))
  ⟨[],rfl,.nil,ac.new hl,aa⟩ (fun i vs H' _ ⟨_,_,_,S,h'⟩=>⟨h',aB.of (S _ _ h4)⟩) ?_ ?_
 ·rintro vs H' ⟨us,rfl,D,S,h'⟩;rw [ai,Paired.length hd,bm] at D;exact k us H' h' D S
 ·rintro i vs H' y hy hi ⟨us,rfl,D,S,h'⟩;obtain ⟨u,hu,rfl⟩:=d6 hy;obtain ⟨dr,hdr,hat⟩:=Paired.getL hd hu;obtain ⟨sb,ht2,hs2⟩:=hat.kt (ac.kt S);have hi':i<ds.length:=(bE.mp hdr).1;have zu:us.length<=i:=by
   have:=Paired.length D;rw [this];refine bP (gJ _ _) ?_;rw [aJ]; omega
  rw [cs];refine gN ?_;refine ⟨_,rfl,.inr (.inl ⟨u,_,0,_,rfl,rfl,bL.of ht2,rfl,_,rfl,ix dr.a,F.map ix,f,_,sP _,rfl,.inl (aB.of (S _ _ hf)),pH _,(by show 0<=8; decide),by rw [gE]; decide,_,rfl,?_⟩)⟩;rw [if_neg fW,FR];by_cases c1:dr.a∈F;rotate_left
  ·rw [zzr0 c1];refine cC (cC (tX hi ⟨us,rfl,?_,S,h'⟩));rw [jN hdr,if_neg (by unfold yO; rw [zzr0 c1,AQ]; decide),fV]; exact D
  rw [zzr1 c1];refine dO ?_;refine ⟨_,rfl,.inr (.inl ⟨u,_,1,_,rfl,rfl,bL.of ht2,rfl,_,rfl,(by show 2<=aj; decide),fun s hs=>?_⟩)⟩;have S2:ac H' (upd H' s (.tup ((cj a).map V.str))):=ac.new hs;have e2:upd H' s (.tup ((cj a).map V.str)) s=some (.tup ((cj a).map V.str)):=aa;have e2':(.tup [.str "ask",.str a]:HO)=.tup ((cj a).map V.str):=rfl;rw [e2'];generalize upd H' s (.tup ((cj a).map V.str))=H2 at S2 e2 ⊢;have D2:=D.kt (ac.kt S2);refine ⟨oC dr.sg,oC (cj a),cF (bL.of (S2 _ _ hs2)),cF (bL.of e2),by rw [dW]; decide,by rw [dW]; decide,_,rfl,?_⟩;rw [qR];by_cases c2:dr.sg=cj a;rotate_left
  ·rw [zzr0 c2];refine cC (tX hi ⟨us,rfl,?_,S.trans S2,S2 _ _ h'⟩);rw [jN hdr,if_neg (by unfold yO; rw [zzr0 c2,vJ]; decide),fV]; exact D2
  rw [zzr1 c2];refine dO ?_;have S3:ac H1 (upd H2 l (.lst (us.map V.ref++[.ref u]))):=fun b o q=>by
   rw [af (ae q hl)];exact S2 _ _ (S _ _ q)
  have kt:hE H2 (upd H2 l (.lst (us.map V.ref++[.ref u]))):=fun b xs q=>by
   rw [af (fun z=>by rw [z,S2 _ _ h'] at q; cases q)]; exact q
  refine ⟨_,rfl,S2 _ _ h',by rw [ai]; exact av (by omega),tX hi ⟨us++[u],by rw [au]; rfl,?_,S3,aa⟩⟩;rw [jN hdr,if_pos (by unfold yO; rw [zzr1 c1,zzr1 c2]; rfl)];exact cK (D2.kt kt) ⟨sb,kt _ _ (S2 _ _ ht2),kt _ _ (S2 _ _ hs2)⟩
theorem Es {K:Za}{H:Hp}{l q:Addr}{ts:Ze}{ds:List am}{Q:VK}(hl:H l=some (.lst (ts.map V.ref))) (hd:cw H ts ds) (hq:H q=some (.lst [])) (h:Q (.bl (decide (ds=[]))) H):tW K (.ref l) (.ref q) H Q:=by
 refine ⟨.s (ds.map wN),.s [],(by unfold ka; exact ⟨l,_,rfl,aB.of hl,hd.dIns⟩),(by unfold ka; exact ⟨q,_,rfl,aB.of hq,by unfold DIns; rfl⟩),?_,(by decide),?_⟩
 ·show DT.depths _+1<=8;have:=sN ds;omega
 ·rw [decide_eq_decide.mpr (show DT.s (ds.map wN)=DT.s []↔ds=[] from ⟨fun z=>List.map_eq_nil_iff.mp (by injection z),fun z=>by rw [z]; rfl⟩)];exact h
theorem Reach.unask {ds:List am}{d:am}(n:d.sg≠ar) {a b:Str}(r:Reach (ds++[d]) a b):Reach ds a b:=by
 have key:∀{x y:Str},(⟨x,ar,y⟩:am)∈ds++[d]->(⟨x,ar,y⟩:am)∈ds:=fun q=>by
  rcases aW.mp q with q | q
  ·exact q
  ·have e:=bz.mp q;exact absurd (by rw [<-e]) n
 induction r with
 | one q=>exact .one (key q)
 | step _ q ih=>exact .step ih (key q)
theorem fu.mono {ds es:List am}(h:∀d∈ds,d∈es) {r a:Str}:fu ds r a->fu es r a:=fun ⟨w,hw,b,hb⟩=>⟨w,hw.imp id (Reach.mono fun x y=>h _),b,h _ hb⟩
theorem mem_putD {ds:List am}{d x:am}:x∈kK ds d↔x∈ds∨x=d:=by
 unfold kK;split
 ·rename_i h; exact ⟨.inl,fun z=>z.elim id fun e=>by rw [e]; exact h⟩
 ·simp
theorem aH.putOne {J0 J1 J2:Zb}{ds:List am}{d:am}(m:aH J0 J1 J2 ds) (g:yW J0 J1 J2 d) (n:d.sg≠ar) (z:ds.length+1<=1000):aH J0 J1 J2 (kK ds d):=by
 refine ⟨m.okA,m.okS,m.apart,m.okR,m.asks0,m.says0,m.rooms0,m.asks4,m.says4,m.rooms26,?_,fun x hx=>?_,?_,fun r q=>?_⟩
 ·unfold kK;split
  ·exact m.nodup
  ·rename_i h;rw [ck];exact ⟨m.nodup,by simp,fun a ha b hb e=>h (by rw [<-bz.1 hb,<-e]; exact ha)⟩
 ·rcases mem_putD.mp hx with h | h
  ·exact m.good x h
  ·rw [h]; exact g
 ·have:=sv ds d; omega
 ·refine m.noround r ?_;unfold kK at q;split at q
  ·exact q
  ·exact q.unask n
theorem uZ (a:Str):cj a≠ar:=by unfold cj ar; intro h; injection h with _ h; cases h
structure TX (H0:Hp) (p c l:Addr) (R:List am->Prop) (H:Hp):Prop where
 pen:ga H p c
 ds:∃ts ds,H l=some (.lst (ts.map V.ref))/\cw H ts ds/\R ds
 ex:cM p H0 H
 fr:H0 l=none
 pl:p≠l
 cl:c≠l
section
variable {H0 H H':Hp}{p c l:Addr}{R R':List am->Prop}
theorem TX.took (h:TX H0 p c l R H) (hp:ga H' p c) (e:cM p H H'):TX H0 p c l R H':=by
 obtain ⟨ts,ds,h1,h2,h3⟩:=h.ds;obtain ⟨xs,hx⟩:=h.pen.lst;exact ⟨hp,⟨ts,ds,e _ _ h1 h.pl.symm,h2.kt (e.kt hx),h3⟩,h.ex.trans e,h.fr,h.pl,h.cl⟩
theorem TX.same (h:TX H0 p c l R H) (S:ac H H'):TX H0 p c l R H':=h.took (h.pen.ex S) (ac.exB S)
theorem TX.imp (h:TX H0 p c l R H) (q:∀ds,R ds->R' ds):TX H0 p c l R' H:=by
 obtain ⟨ts,ds,h1,h2,h3⟩:=h.ds;exact ⟨h.pen,⟨ts,ds,h1,h2,q _ h3⟩,h.ex,h.fr,h.pl,h.cl⟩
theorem TX.put {ts:Ze}{ds:List am}(h:TX H0 p c l R H) (hl:∃xs,H l=some (.lst xs)) (hd:cw H ts ds) (r:R' ds):TX H0 p c l R' (upd H l (.lst (ts.map V.ref))):=by
 obtain ⟨xs,hx⟩:=hl;refine ⟨h.pen.upd h.pl h.cl,⟨ts,ds,aa,hd.kt fun b ys q=>?_,r⟩,fun b o q n=>?_,h.fr,h.pl,h.cl⟩
 ·rw [af (fun z=>by rw [z,hx] at q; cases q)]; exact q
 ·rw [af (ae q h.fr)]; exact h.ex _ _ q n
end
def WR (J0 J1 J2:Zb) (D:List (Str×Str)) (n:Nat) (ds:List am):Prop:=aH J0 J1 J2 ds/\ds.length<=n/\∀x∈D,fu ds x.1 x.2
theorem WR.up {J0 J1 J2:Zb}{D:List (Str×Str)}{n n':Nat}{ds:List am}(h:WR J0 J1 J2 D n ds) (z:n<=n'):WR J0 J1 J2 D n' ds:=⟨h.1,bP h.2.1 z,h.2.2⟩
inductive jC  (vs:List V) (H:Hp) (Q:VK) (E:XK):Prop
 | mk (p c t l1 l2 l3 l4:Addr) (ts:Ze) (J0 J1 J2:Zb) (ds:List am):(vs=[.ref p,.ref t])->(ga H p c)->(js H t l1 l2 l3 l4 ts J0 J1 J2 ds)->(aH J0 J1 J2 ds)->(J2.length<=26)->(ds.length<=800)->(∀(t' l4':Addr) (ts':Ze) (ds':List am) (H':Hp),js H' t' l1 l2 l3 l4' ts' J0 J1 J2 ds'->aH J0 J1 J2 ds'->(∀r∈J2,∀a∈J0,fu ds' r a)->ds'.length<=ds.length+4 * J2.length->ga H' p c->cM p H H'->Q (.ref t') H')->jC  vs H Q E
theorem zH {K:Za}{vs:List V}{H:Hp}{Q:VK}{E:XK}(h:jC vs H Q E):tz K jE eR (fh K) (bC Q) (start uc vs) H:=by
 obtain ⟨p,c,t,l1,l2,l3,l4,ts,J0,J1,J2,ds,rfl,hp,T,m,z26,z8,k⟩:=h;have a4:=m.asks4;refine ⟨_,rfl,t,_,rfl,bL.of T.t,rfl,_,_,rfl,_,_,rfl,_,_,rfl,_,_,rfl,rfl,?_⟩;refine ⟨_,rfl,.inl ⟨l4,_,rfl,.inl (aB.of T.a4),fun f hf=>?_⟩⟩;have B0:TX H p c f (WR J0 J1 J2 [] ds.length) (upd H f (.lst (ts.map V.ref))):=⟨hp.ex (ac.new hf),⟨ts,ds,aa,T.ds.kt (ac.kt (ac.new hf)),m,aD _,by simp⟩,cM.new hf,hf,hp.nep hf,hp.nec hf⟩;generalize upd H f (.lst (ts.map V.ref))=H1 at B0 ⊢;have keep:∀{H':Hp}{R:List am->Prop},TX H p c f R H'->H' l1=some (.lst (J0.map V.str))/\H' l2=some (.lst (J1.map V.str))/\H' l3=some (.lst (J2.map V.str)):=fun B =>
  ⟨B.ex _ _ T.a1 (hp.ne_strs T.a1),B.ex _ _ T.a2 (hp.ne_strs T.a2),B.ex _ _ T.a3 (hp.ne_strs T.a3)⟩
 refine ⟨_,rfl,l3,rfl,⟨_,aB.of (keep B0).2.2⟩,?_⟩;refine cg (xs:=J2.map V.str) (fun i σ H'=>∃a6 a7 a8 a9:Option V,σ=[some (.ref p),some (.ref t),some (.ref l1),some (.ref l2),some (.ref l3),some (.ref f),a6,a7,a8,a9]/\TX H p c f (WR J0 J1 J2 ((J2.take i).flatMap fun r=>J0.map fun a=>(r,a)) (ds.length+4 * i)) H')
  ⟨_,_,_,_,rfl,B0⟩ (fun i σ H' _ ⟨_,_,_,_,_,B⟩=>aB.of (keep B).2.2) ?_ ?_
 ·rintro i v σ H2 hi ⟨a6,a7,a8,a9,rfl,B2⟩;obtain ⟨r,hr,rfl⟩:=bv hi;have hir:i<J2.length:=(bE.mp hr).1;have hrm:=aO hr;refine ⟨_,rfl,l1,rfl,⟨_,aB.of (keep B2).1⟩,?_⟩;refine cg (xs:=J0.map V.str) (fun j σ H'=>∃a7 a8 a9:Option V,σ=[some (.ref p),some (.ref t),some (.ref l1),some (.ref l2),some (.ref l3),some (.ref f),some (.str r),a7,a8,a9]/\TX H p c f (WR J0 J1 J2 ((J2.take i).flatMap (fun r=>J0.map fun a=>(r,a))++(J0.take j).map fun a=>(r,a)) (ds.length+4 * i+j)) H')
   ⟨_,_,_,rfl,B2.imp fun ds h=>by simpa using h⟩ (fun i σ H' _ ⟨_,_,_,_,B⟩=>aB.of (keep B).1) ?_ ?_
  ·rintro j v σ H3 hj ⟨a7,a8,a9,rfl,B3⟩;obtain ⟨a,ha,rfl⟩:=bv hj;have hja:j<J0.length:=(bE.mp ha).1;have ham:=aO ha;have fin:∀es n,WR J0 J1 J2 ((J2.take i).flatMap (fun r=>J0.map fun a=>(r,a))++(J0.take j).map fun a=>(r,a)) n es->fu es r a->WR J0 J1 J2 ((J2.take i).flatMap (fun r=>J0.map fun a=>(r,a))++(J0.take (j+1)).map fun a=>(r,a)) n es:=fun es n w tk=>by
    refine ⟨w.1,w.2.1,fun x hx=>?_⟩;rw [take_snoc ha,au,<-cJ] at hx;rcases aW.mp hx with h | h
    ·exact w.2.2 x h
    ·have:x=(r,a):=by simpa using h
     rw [this]; exact tk
   refine ⟨_,rfl,_,rfl,(by show 1<=aj; decide),fun q hq=>?_⟩;have B4:=B3.same (ac.new (o:=.lst [.str r]) hq);have q4:upd H3 q (.lst [.str r]) q=some (.lst [.str r]):=aa;generalize upd H3 q (.lst [.str r])=H4 at B4 q4 ⊢;obtain ⟨us,es,g1,g2,g3⟩:=B4.ds;refine ⟨f,q,us,es,[r],J2,rfl,g1,g2,q4,fun d hd=>(g3.1.good d hd).b,by omega,(by show 1<=1000; decide),fun th F H5 hth hF _ _ S5=>?_⟩;have B5:=B4.same S5;have f5:=S5 _ _ g1;have d5:=g2.kt (ac.kt S5);refine ⟨_,rfl,f,rfl,⟨_,aB.of f5⟩,fun l hl=>?_⟩;refine EJ (K:=K) (jt:=8) (ja:=7) rfl rfl f5 d5 hth g3.1.few hl fun vs H6 h6 D6 S6=>⟨(by show 0<=aj; decide),fun e he=>?_⟩;refine Es (kp h6 he) (D6.kt (ac.kt (ac.new he))) aa ⟨_,rfl,?_⟩;have S7:ac H5 (upd H6 e (.lst [])):=S6.trans (ac.new he);generalize upd H6 e (.lst [])=H7 at S7 ⊢;have f7:=S7 _ _ f5;have d7:=d5.kt (ac.kt S7);have B7:TX H p c f (fun ds'=>ds'=es) H7:=by
    have B:=B5.same S7;exact ⟨B.pen,⟨us,es,f7,d7,rfl⟩,B.ex,B.fr,B.pl,B.cl⟩
   cases q:takesB es r a with
   | true =>
    rw [zzr0 (fun z=>by rw [yN hF,q] at z; cases z)];exact cC ⟨_,_,_,rfl,B7.imp fun ds' e=>by rw [e]; exact fin _ _ (g3.up (by omega)) (kC.mp q)⟩
   | false =>
    rw [zzr1 ((yN hF).mpr q)];refine dO ?_;have l37:=(keep B7).2.2;refine ⟨_,rfl,_,rfl,_,rfl,_,rfl,.inl ⟨l3,_,rfl,.inl (aB.of l37),?_⟩⟩;rw [ai];refine dj B7.pen (by omega) (by omega) fun x H8 x0 x1 hp8 ex8=>?_;obtain ⟨n,rfl⟩:=iO x0;have B8:=B7.took hp8 ex8;obtain ⟨w,hw⟩:∃w,J2[n]?=some w:=⟨_,br (by omega)⟩;refine ⟨l3,_,(n:Int),.str w,rfl,rfl,aB.of (keep B8).2.2,bc (j:=n) (by rw [bQ,hw]; rfl),(by show 2<=aj; decide),fun u hu=>?_⟩;have B9:=B8.same (ac.new (o:=.lst [.str r,.str w]) hu);have u9:upd H8 u (.lst [.str r,.str w]) u=some (.lst ([r,w].map V.str)):=aa;generalize upd H8 u (.lst [.str r,.str w])=H9 at B9 u9 ⊢;refine ⟨_,rfl,dj B9.pen (by decide) (by decide) fun y H10 y0 y1 hp10 ex10=>?_⟩;have B10:=B9.took hp10 ex10;obtain ⟨g,hg,hgm⟩:∃g,pI ([r,w].map V.str) y=some (.str g)/\g∈J2:=by
     have:y=0∨y=1:=by omega
     rcases this with rfl | rfl
     ·exact ⟨r,rfl,hrm⟩
     ·exact ⟨w,rfl,aO hw⟩
    refine ⟨u,_,y,.str g,rfl,rfl,aB.of (ex10 _ _ u9 (B9.pen.ne_strs u9)),hg,?_⟩;refine ⟨_,rfl,_,rfl,_,rfl,(by show 2<=aj; decide),fun s hs=>⟨_,rfl,(by show 3<=aj; decide),fun d hd=>?_⟩⟩;have S12:ac H10 (upd (upd H10 s (.tup [.str "ask",.str a])) d (.tup [.str r,.ref s,.str g])):=(ac.new hs).trans (ac.new hd);have at12:gb (upd (upd H10 s (.tup [.str "ask",.str a])) d (.tup [.str r,.ref s,.str g])) d ⟨r,cj a,g⟩:=⟨s,aa,kp aa hd⟩;generalize upd (upd H10 s (.tup [.str "ask",.str a])) d (.tup [.str r,.ref s,.str g])=H12 at S12 at12 ⊢;have B12:=B10.same S12;obtain ⟨us',es',k1,k2,rfl⟩:=id B12.ds;have zz:=g3.2.1;have good:yW J0 J1 J2 ⟨r,cj a,g⟩:=⟨hrm,hgm,.inl ⟨a,ham,rfl⟩⟩;refine ⟨f,d,us',_,⟨r,cj a,g⟩,rfl,k1,k2,at12,g3.1.few,fun us2 D2=>?_⟩;refine ⟨_,_,_,rfl,B12.put ⟨_,k1⟩ D2 (fin _ _ ⟨g3.1.putOne good (uZ a) (by omega),?_,fun x hx=>(g3.2.2 x hx).mono fun y hy=>mem_putD.mpr (.inl hy)⟩ ⟨r,.inl rfl,g,mem_putD.mpr (.inr rfl)⟩)⟩;have:=sv es' ⟨r,cj a,g⟩;omega
  ·rintro σ H3 ⟨a7,a8,a9,rfl,B3⟩;refine ⟨_,_,_,_,rfl,B3.imp fun es h=>?_⟩;rw [ai] at h;refine ⟨h.1,by have:=h.2.1; omega,fun x hx=>h.2.2 x ?_⟩;rw [take_snoc hr,va] at hx;rw [bm];simpa using hx
 ·rintro σ H2 ⟨a6,a7,a8,a9,rfl,B2⟩;rw [ai,bm] at B2;obtain ⟨us,es,g1,g2,g3⟩:=B2.ds;obtain ⟨q1,q2,q3⟩:=keep B2;refine ⟨_,rfl,_,rfl,_,rfl,_,rfl,(by show 4<=aj; decide),fun t' ht'=>?_⟩;have S3:=ac.new (o:=.tup [.ref l1,.ref l2,.ref l3,.ref f]) ht';exact k t' f us es _ ⟨aa,S3 _ _ q1,S3 _ _ q2,S3 _ _ q3,S3 _ _ g1,g2.kt (ac.kt S3)⟩ g3.1 (fun r hr a ha=>g3.2.2 (r,a) (oI.mpr ⟨r,hr,ay.mpr ⟨a,ha,rfl⟩⟩)) g3.2.1 (B2.pen.ex S3) (B2.ex.trans (ac.exB S3))
def oY (K:Za) (C_Machine:Addr) (sp_Machine_asks:Sp) (sp_Machine_says:Sp) (a_HUSH:Addr):TS :=
 bu (aL pe (aL pe (d4 1 [] (cD K (c_ C_Machine "asks" sp_Machine_asks [] E0 V0 bj)) U0 (jA) (bB (aS (tC (.str "ask")) V0))) (d4 1 [] (cD K (c_ C_Machine "says" sp_Machine_says [] E0 V0 bj)) U0 (jA) (bB (aS (tC (.str "say")) V0)))) (cY (aA (tC (.ref a_HUSH)))))
def pK:List Str:=["M"]
def zc (K:Za) (sp_signs_in_order:Sp) (sp_face_behind:Sp):TS :=
 ao (aN (o8) U2)
 (ao (fx (cD K (aM sp_signs_in_order (aA V0))) U3 (ao (aN (aM sp_face_behind (eX V0 V1 V3)) U4)
 (cH (aX (aL DG (eZ (d9 K) (aA V4)) (tC (.int 0)))) (pb K V2 V3 V4) (bR))))
 (bu V2))
def Ay:List Str:=["M","face","steps","sign","behind"]
def lJ (K:Za) :TS :=
 ao (cH (tB (fE K V1 (fD K V0 "numbers"))) (ao (cH (aX (aL zQ (eZ (d9 K) (aA (fD K V0 "faces"))) (tC (.int 400)))) (rT) (bR))
 (ao (ma (fD K V0 "numbers") V1 (eZ (d9 K) (aA (fD K V0 "faces"))))
 (ao (bH (r9 K "list" cG (fD K V0 "faces") (aA V1)))
 (bH (r9 K "list" cG (fD K V0 "first_stories") (aA V2)))))) (bR))
 (bu (gS K (fD K V0 "numbers") V1))
def lS:List Str:=["self","face","story"]
def iS (K:Za) (sp_steps_at:Sp) (C_FaceMap:Addr) (sp_FaceMap_number_at:Sp):TS :=
 ao (aN (o8) U2)
 (ao (fx (wH K (aM sp_steps_at (aS (fD K V0 "machine") (aL (cT K) (fD K V0 "faces") V1)))) (ir K 2 (aY U3 (aY U4 (g8)))) (pb K V2 V3 (c_ C_FaceMap "number_at" sp_FaceMap_number_at [] E0 V0 (aS V4 (aL pe (aL (cT K) (fD K V0 "first_stories") V1) (cY (aA V3)))))))
 (bu V2))
def iU:List Str:=["self","number","steps","sign","face"]
def mH (K:Za) (C_FaceMap:Addr) (sp_FaceMap_numbered_steps:Sp) (sp_FaceMap_number_at:Sp) (dJ:Sp):TS :=
 ao (nS K V0 V1 "machine")
 (ao (nS K V0 (cY (bj)) "faces")
 (ao (nS K V0 (cY (bj)) "first_stories")
 (ao (nS K V0 (o8) "numbers")
 (ao (nS K V0 (cY (bj)) "steps")
 (ao (bH (c_ C_FaceMap "number_at" sp_FaceMap_number_at [] E0 V0 (aS (aM dJ (aA V1)) (cY (bj)))))
 (mI (aX (aL zP (eZ (d9 K) (aA (fD K V0 "steps"))) (eZ (d9 K) (aA (fD K V0 "faces"))))) (bH (r9 K "list" cG (fD K V0 "steps") (aq (c_ C_FaceMap "numbered_steps" sp_FaceMap_numbered_steps [] E0 V0 (aA (eZ (d9 K) (aA (fD K V0 "steps"))))) bj)))))))))
def m8:List Str:=["self","M"]
abbrev Sg:=List Str
def stepsF (J0 J1 J2:Zb) (ds:List am) (J6:Zb):List (Sg×List Str):=((az J0 J1).map fun sg=>(sg,behF J2 ds J6 sg)).filter fun p=>decide (p.2≠[])
structure fU where
 fs:List (List Str)
 ss:List (List Sg)
def fU.add (m:fU) (f:Zb) (s:List Sg):fU:=if f∈m.fs then m else ⟨m.fs++[f],m.ss++[s]⟩
def Bn (s:List Sg) (q:fU×List (Sg×Nat)) (p:Sg×List Str):fU×List (Sg×Nat):=(q.1.add p.2 (s++[p.1]),q.2++[(p.1,(q.1.add p.2 (s++[p.1])).fs.idxOf p.2)])
def d_ (s:List Sg) (m:fU) (L:List (Sg×List Str)):fU×List (Sg×Nat):=L.foldl (Bn s) (m,[])
abbrev pQ:=fU×List (List (Sg×Nat))
def initF (J2:Zb) (ds:List am):pQ:=((⟨[],[]⟩:fU).add (closF J2 ds (J2.take 1)) [],[])
def nextF (J0 J1 J2:Zb) (ds:List am) (S:pQ):pQ :=
 ((d_ (S.1.ss.getD S.2.length []) S.1 (stepsF J0 J1 J2 ds (S.1.fs.getD S.2.length []))).1,S.2++[(d_ (S.1.ss.getD S.2.length []) S.1 (stepsF J0 J1 J2 ds (S.1.fs.getD S.2.length []))).2])
def itF (J0 J1 J2:Zb) (ds:List am):Nat->pQ
 | 0=>initF J2 ds
 | k+1=>nextF J0 J1 J2 ds (itF J0 J1 J2 ds k)
def jd:List Str->List (List Str)
 | []=>[[]]
 | r::rs=>(jd rs).map (r::·)++jd rs
theorem jc:∀rs:List Str,(jd rs).length=2 ^ rs.length
 | []=>rfl
 | r::rs=>by
  show ((jd rs).map (r::·)++jd rs).length=2 ^ (rs.length+1);rw [ax,ai,jc rs,Nat.pow_succ]; omega
theorem jb (p:Str->Bool):∀rs:List Str,rs.filter p∈jd rs
 | []=>by show []∈[[]]; simp
 | r::rs=>by
  show (r::rs).filter p∈(jd rs).map (r::·)++jd rs;have ih:=jb p rs;rw [List.filter_cons];split
  ·exact cx _ (kh ih)
  ·exact cX _ ih
theorem hZ {α:Type} [DecidableEq α]:∀{L R:List α},L.Nodup->(∀y∈L,y∈R)->L.length<=R.length
 | [],_,_,_=>c8 _
 | x::L,R,h,hs=>by
  rw [lW] at h;have hx:x∈R:=hs x cy;have h1:∀y∈L,y∈R.erase x:=fun y hy=>(List.mem_erase_of_ne (fun e=>h.1 (by rw [<-e]; exact hy))).2 (hs y (eO _ hy));have h2:=hZ h.2 h1;rw [List.length_erase_of_mem hx] at h2;have h3:0<R.length:=List.length_pos_of_mem hx;rw [dQ]; omega
def jR (J2 f:Zb):Prop:=∃p:Str->Bool,f=J2.filter p
theorem wF {J2 f sg:Zb}{ds:List am}(h:jR J2 f):jR J2 (behF J2 ds f sg):=by
 classical
 unfold behF;split
 ·obtain ⟨p,rfl⟩:=h;rw [List.filter_filter];exact ⟨_,rfl⟩
 ·unfold closF;exact ⟨_,rfl⟩
theorem pF {J2:Zb}{ds:List am}{gs:Zb}:jR J2 (closF J2 ds gs):=by
 classical
 unfold closF;exact ⟨_,rfl⟩
theorem jR.sub {J2 f:Zb}(h:jR J2 f):∀r∈f,r∈J2:=by
 obtain ⟨p,rfl⟩:=h;exact fun r hr=>(b0.1 hr).1
theorem jR.len {J2 f:Zb}(h:jR J2 f):f.length<=J2.length:=by
 obtain ⟨p,rfl⟩:=h;exact gJ _ _
structure Good (J2:Zb) (m:fU):Prop where
 nd:m.fs.Nodup
 len:m.ss.length=m.fs.length
 isF:∀f∈m.fs,jR J2 f
 sl:∀(i:Nat) (s:List Sg),m.ss[i]?=some s->s.length<=i
theorem Good.few {J2:Zb}{m:fU}(g:Good J2 m) (hr:J2.length<=8):m.fs.length<=256:=by
 have h:=hZ g.nd (R:=jd J2) (fun f hf=>by obtain ⟨p,rfl⟩:=g.isF f hf; exact jb p J2);rw [jc] at h;have:2 ^ J2.length<=2 ^ 8:=u8 (by decide) hr;omega
theorem fU.add_in {m:fU}{f:Zb}{s:List Sg}(h:f∈m.fs):m.add f s=m:=if_pos h
theorem fU.add_new {m:fU}{f:Zb}{s:List Sg}(h:¬f∈m.fs):m.add f s=⟨m.fs++[f],m.ss++[s]⟩:=if_neg h
theorem Good.add {J2 f:Zb}{m:fU}{s:List Sg}(g:Good J2 m) (h:jR J2 f) (hs:s.length<=m.fs.length):Good J2 (m.add f s):=by
 by_cases c:f∈m.fs
 ·rw [fU.add_in c]; exact g
 ·rw [fU.add_new c];refine ⟨?_,?_,?_,?_⟩;rotate_left 3
  ·intro i s' e
   change (m.ss++[s])[i]?=some s' at e
   rcases dZ i m.ss.length with z | z
   ·rw [cS z] at e;exact g.sl i s' e
   ·rw [kB z] at e;have h0:i-m.ss.length=0:=by
     rcases u7 (i-m.ss.length) with q | q
     ·exact q
     ·rw [eW (by show 1<=_; omega)] at e; cases e
    rw [h0] at e;injection e with e;rw [<-e];have:=g.len;omega
  ·rw [ck];exact ⟨g.nd,by simp,fun x hx y hy e=>c (by rw [bz.1 hy] at e; rw [<-e]; exact hx)⟩
  ·show (m.ss++[s]).length=(m.fs++[f]).length;rw [ax,ax,g.len]; rfl
  ·intro x hx;rcases aW.1 hx with hx | hx
   ·exact g.isF x hx
   ·rw [bz.1 hx]; exact h
theorem FY {m:fU}{f:Zb}{s:List Sg}:f∈(m.add f s).fs:=by
 by_cases c:f∈m.fs
 ·rw [fU.add_in c]; exact c
 ·rw [fU.add_new c]; simp
def oA (m m':fU):Prop:=(∃r,m'.fs=m.fs++r)/\∃r,m'.ss=m.ss++r
theorem oA.refl (m:fU):oA m m:=⟨⟨[],(fV _).symm⟩,⟨[],(fV _).symm⟩⟩
theorem oA.trans {a b c:fU}(h:oA a b) (k:oA b c):oA a c:=by
 obtain ⟨⟨r,e⟩,⟨s,f⟩⟩:=h;obtain ⟨⟨r',e'⟩,⟨s',f'⟩⟩:=k;exact ⟨⟨r++r',by rw [e',e,cJ]⟩,⟨s++s',by rw [f',f,cJ]⟩⟩
theorem yv {m:fU}{f:Zb}{s:List Sg}:oA m (m.add f s):=by
 by_cases c:f∈m.fs
 ·rw [fU.add_in c]; exact .refl _
 ·rw [fU.add_new c]; exact ⟨⟨[f],rfl⟩,⟨[s],rfl⟩⟩
theorem jm (s:List Sg) (m:fU) (L:List (Sg×List Str)) (p:Sg×List Str):d_ s m (L++[p])=Bn s (d_ s m L) p:=by
 unfold d_; rw [fz]; rfl
theorem oA.at {m m':fU}(h:oA m m') {i:Nat}{f:Zb}(e:m.fs[i]?=some f):m'.fs[i]?=some f:=by
 obtain ⟨⟨r,q⟩,_⟩:=h;rw [q,cS (by rcases dZ i m.fs.length with z | z; exact z; rw [eW z] at e; cases e),e]
theorem uD {J2:Zb}{s:List Sg}{m:fU}(g:Good J2 m) (hs:s.length<m.fs.length) (L:List (Sg×List Str)) (hL:∀p∈L,jR J2 p.2) :
  Good J2 (d_ s m L).1/\oA m (d_ s m L).1/\Paired (fun (a:Sg×Nat) (p:Sg×List Str)=>a.1=p.1/\(d_ s m L).1.fs[a.2]?=some p.2) (d_ s m L).2 L:=by
 have key:∀n,n<=L.length->Good J2 (d_ s m (L.take n)).1/\oA m (d_ s m (L.take n)).1/\Paired (fun (a:Sg×Nat) (p:Sg×List Str)=>a.1=p.1/\(d_ s m (L.take n)).1.fs[a.2]?=some p.2) (d_ s m (L.take n)).2 (L.take n):=by
  intro n
  induction n with
  | zero=>intro _; exact ⟨g,.refl _,.nil⟩
  | succ n ih =>
   intro hn;obtain ⟨h1,h2,h3⟩:=ih (by omega);have hp:L[n]?=some L[n]:=br (by omega);rw [take_snoc hp,jm];have hf:=hL L[n] (jw _);have hl:m.fs.length<=(d_ s m (L.take n)).1.fs.length:=by
    obtain ⟨⟨r,q⟩,_⟩:=h2;rw [q,ax]; omega
   refine ⟨h1.add hf (by rw [ax]; show _+1<=_; omega),h2.trans yv,?_⟩;refine cK (Paired.mapP h3 fun a p r=>⟨r.1,yv.at r.2⟩) ⟨rfl,?_⟩;show (fU.add _ _ _).fs[(fU.add _ _ _).fs.idxOf L[n].2]?=some L[n].2;have hm:=FY (m:=(d_ s m (L.take n)).1) (f:=L[n].2) (s:=s++[L[n].1]);have hi:=List.idxOf_lt_length_of_mem hm;rw [br hi,List.getElem_idxOf]
 have:=key L.length (aD _);rw [bm] at this;exact this
structure pP (J0 J1 J2:Zb) (ds:List am) (S:pQ):Prop where
 good:Good J2 S.1
 le:S.2.length<=S.1.fs.length
 zero:S.1.fs[0]?=some (closF J2 ds (J2.take 1))
 st:∀(i:Nat) (l:List (Sg×Nat)),S.2[i]?=some l->∃f,S.1.fs[i]?=some f/\Paired (fun (a:Sg×Nat) (p:Sg×List Str)=>a.1=p.1/\S.1.fs[a.2]?=some p.2) l (stepsF J0 J1 J2 ds f)
theorem sf {J0 J1 J2 f:Zb}{ds:List am}(h:jR J2 f):∀p∈stepsF J0 J1 J2 ds f,jR J2 p.2:=by
 intro p hp;obtain ⟨sg,_,rfl⟩:=ay.1 (b0.1 hp).1;exact wF h
theorem CH {J0 J1 J2:Zb}{ds:List am}:pP J0 J1 J2 ds (initF J2 ds):=by
 have e:(⟨[],[]⟩:fU).add (closF J2 ds (J2.take 1)) []=⟨[closF J2 ds (J2.take 1)],[[]]⟩:=fU.add_new (by simp);refine ⟨?_,c8 _,?_,fun i l h=>?_⟩
 ·exact Good.add (m:=⟨[],[]⟩) ⟨oT,rfl,(fun f hf=>nomatch hf),(fun i s (e:([]:List (List Sg))[i]?=some s)=>by rw [List.getElem?_nil] at e; cases e)⟩ pF (c8 _)
 ·show ((⟨[],[]⟩:fU).add _ _).fs[0]?=_;rw [e]; rfl
 ·simp [initF] at h
theorem CG {J0 J1 J2:Zb}{ds:List am}{S:pQ}(h:pP J0 J1 J2 ds S) (lt:S.2.length<S.1.fs.length):pP J0 J1 J2 ds (nextF J0 J1 J2 ds S):=by
 have e0:S.1.fs[S.2.length]?=some S.1.fs[S.2.length]:=by simp [lt]
 have hd:S.1.fs.getD S.2.length []=S.1.fs[S.2.length]:=by simp [lt]
 have hF:=h.good.isF S.1.fs[S.2.length] (jw _);obtain ⟨g,gr,pr⟩:=uD (s:=S.1.ss.getD S.2.length []) h.good (by
  have l2:S.2.length<S.1.ss.length:=by rw [h.good.len]; exact lt
  have e:S.1.ss[S.2.length]?=some (S.1.ss[S.2.length]'l2):=br l2;have:=h.good.sl _ _ e;rw [qY,e];show (S.1.ss[S.2.length]'l2).length<_;omega) (stepsF J0 J1 J2 ds S.1.fs[S.2.length]) (sf hF)
 unfold nextF;rw [hd];generalize d_ (S.1.ss.getD S.2.length []) S.1 (stepsF J0 J1 J2 ds S.1.fs[S.2.length])=q at g gr pr;refine ⟨g,?_,gr.at h.zero,fun i l hl=>?_⟩
 ·obtain ⟨⟨r,e⟩,_⟩:=gr;show (S.2++[q.2]).length<=q.1.fs.length;rw [e,ax,ax];show S.2.length+1<=_;omega
 ·change (S.2++[q.2])[i]?=some l at hl
  rcases vc i S.2.length with c | c | c
  ·rw [cS c] at hl;obtain ⟨f,e,p⟩:=h.st i l hl;exact ⟨f,gr.at e,Paired.mapP p fun a p r=>⟨r.1,gr.at r.2⟩⟩
  ·subst c;rw [kB (aD _),Nat.sub_self] at hl;injection hl with hl;subst hl;exact ⟨S.1.fs[S.2.length],gr.at e0,pr⟩
  ·rw [kB (dR c)] at hl;obtain ⟨k,hk⟩:=Nat.exists_eq_succ_of_ne_zero (show i-S.2.length≠0 by omega);rw [hk] at hl;cases hl
def FZ (hu:Addr) (H:Hp) (u:Addr) (sg:Zb):Prop:=H u=some (.tup (sg.map V.str))∨(u=hu/\sg=bN)
theorem FZ.same {hu:Addr}{H H':Hp}{u:Addr}{sg:Zb}(h:FZ hu H u sg) (S:ac H H'):FZ hu H' u sg:=h.imp (S _ _) id
theorem AX {K:Za}{a:Addr}{xs:List V}(h:∀H,bL K H a xs) (H:Hp):bJ K H a xs:=by
 rcases h (fun _=>none) with (h | ⟨o,h⟩) | h
 ·cases h
 ·cases h
 ·exact .inr h
section
variable {K:Za}{hu:Addr}(hh:∀H,bL K H hu (bN.map V.str))
include hh
theorem FZ.tup {H:Hp}{u:Addr}{sg:Zb}(h:FZ hu H u sg):bJ K H u (sg.map V.str):=by
 rcases h with h | ⟨rfl,rfl⟩
 ·exact .inl h
 ·exact AX hh H
theorem FZ.sq {H:Hp}{u:Addr}{sg:Zb}(h:FZ hu H u sg):bL K H u (sg.map V.str):=by
 rcases h with h | ⟨rfl,rfl⟩
 ·exact bL.of h
 ·exact hh H
end
inductive v_ (C hu:Addr) (vs:List V) (H:Hp) (Q:VK) (E:XK):Prop
 | mk (x:Addr) (J0 J1 J2:Zb) (ds:List am):(vs=[.ref x])->(be C H x J0 J1 J2 ds)->(∀(l:Addr) (us:Ze) (H':Hp),H' l=some (.lst (us.map V.ref))->Paired (FZ hu H') us (az J0 J1)->ac H H'->Q (.ref l) H')->v_ C hu vs H Q E
theorem GD {K:Za}{C hu:Addr}{vs:List V}{H:Hp}{Q:VK}{E:XK}(h:v_ C hu vs H Q E):oY K C (ln C) (nJ C) hu (bC Q) (start pK vs) H:=by
 obtain ⟨x,J0,J1,J2,ds,rfl,M,k⟩:=h;have z1:=M.ok.asks4;have z2:=M.ok.says4;obtain ⟨dx,fs,o1,o2,lv,lps,g1,a1,a2,_⟩:=mL M;refine ⟨_,rfl,x,dx,fs,rfl,g1,a1,x,J0,J1,J2,ds,rfl,M,fun w1 hw1=>⟨w1,rfl,⟨_,aB.of aa⟩,fun la hla=>?_⟩⟩;have S0:ac H (upd H w1 (.lst (J0.map V.str))):=ac.new hw1;refine jO (kd:="ask") (ws:=J0) aa (by omega) hla fun ua H1 h1 hP1 S1=>?_;have M1:=M.same (S0.trans S1);obtain ⟨dx,fs,o1,o2,lv,lps,g1,a1,a2,_⟩:=mL M1;refine ⟨_,rfl,x,dx,fs,rfl,g1,a2,x,J0,J1,J2,ds,rfl,M1,fun w2 hw2=>⟨w2,rfl,⟨_,aB.of aa⟩,fun ls hls=>?_⟩⟩;have S2:ac H1 (upd H1 w2 (.lst (J1.map V.str))):=ac.new hw2;refine jO (kd:="say") (ws:=J1) aa (by omega) hls fun us H2 h2 hP2 S3=>?_;have S23:=S2.trans S3;have h12:=S23 _ _ h1;have hP12:=lR.kt (ac.kt S23) hP1;refine ⟨la,ls,_,_,rfl,rfl,h12,h2,?_,fun c1 hc1=>?_⟩
 ·rw [ai,ai,Paired.length hP1,Paired.length hP2,ai,ai];exact dR (av (by omega))
 refine ⟨(by show 1<=aj; decide),fun hl hhl=>?_⟩;refine ⟨c1,hl,_,_,rfl,rfl,kp aa hhl,aa,?_,fun r hr=>?_⟩
 ·rw [ax,ai,ai,Paired.length hP1,Paired.length hP2,ai,ai];exact dR (av (by show _+1<=1000; omega))
 have S4:=((ac.new (o:=.lst (ua.map V.ref++us.map V.ref)) hc1).trans (ac.new (o:=.lst [.ref hu]) hhl)).trans (ac.new (o:=.lst (ua.map V.ref++us.map V.ref++[.ref hu])) hr);refine k r (ua++us++[hu]) _ ?_ ?_ (((S0.trans S1).trans S23).trans S4)
 ·rw [aa,au,au]; rfl
 ·exact Paired.app (Paired.app (Paired.mapP (lR.kt (ac.kt S4) hP12) fun _ _ r=>.inl r) (Paired.mapP (lR.kt (ac.kt S4) hP2) fun _ _ r=>.inl r)) (.cons (.inr ⟨rfl,rfl⟩) .nil)
theorem eB {J0 J1 J2:Zb}{ds:List am}(m:aH J0 J1 J2 ds):(az J0 J1).Nodup:=by
 unfold az;have i1:∀a b:Str,cj a=cj b->a=b:=fun a b h=>by unfold cj at h; injection h with _ h; injection h
 have i2:∀a b:Str,nQ a=nQ b->a=b:=fun a b h=>by unfold nQ at h; injection h with _ h; injection h
 have nd:∀{f:Str->List Str}{l:Zb},(∀a b,f a=f b->a=b)->l.Nodup->(l.map f).Nodup:=by
  intro f l hf hl;rw [oJ,List.pairwise_map];exact (oJ.1 hl).imp fun h e=>h (hf _ _ e)
 rw [ck,ck];refine ⟨⟨nd i1 m.okA.1,nd i2 m.okS.1,?_⟩,by simp,?_⟩
 ·intro x hx y hy e;obtain ⟨a,_,rfl⟩:=ay.1 hx;obtain ⟨b,_,rfl⟩:=ay.1 hy;unfold cj nQ at e;injection e with e _;exact absurd e (by decide)
 ·intro x hx y hy e;rw [bz.1 hy] at e;rcases aW.1 hx with hx | hx
  ·obtain ⟨a,_,rfl⟩:=ay.1 hx;unfold cj bN at e;injection e with _ e;cases e
  ·obtain ⟨a,_,rfl⟩:=ay.1 hx;unfold nQ bN at e;injection e with _ e;cases e
abbrev Au (H:Hp) (kvs:List (TK×V)) (L:List (Sg×List Str)):Prop:=Paired (fun (kv:TK×V) (p:Sg×List Str)=>kv.1=jq p.1/\∃u,kv.2=.ref u/\H u=some (.tup (p.2.map V.str))) kvs L
theorem vQ {κ:Type} [DecidableEq κ] {kvs:List (κ×V)}{k:κ}(h:∀kv∈kvs,kv.1≠k):bG kvs k=none:=by
 unfold bG;rw [List.find?_eq_none.2 fun kv hkv=>by simpa using h kv hkv]
 rfl
theorem dL (sg:Zb):(jq sg).depth<=8:=by
 have:∀l:List Str,TK.depths (l.map nR)=0:=by
  intro l
  induction l with
  | nil=>rfl
  | cons a l ih=>show max (TK.depth (nR a)) (TK.depths _)=0; rw [ih]; rfl
 show TK.depths (sg.map nR)+1<=8;rw [this]; decide
def stG (J2:Zb) (ds:List am) (J6:Zb) (L:List (List Str)):List (Sg×List Str):=(L.map fun sg=>(sg,behF J2 ds J6 sg)).filter fun p=>decide (p.2≠[])
theorem xJ (J2:Zb) (ds:List am) (J6:Zb) (L:List (List Str)) (sg:Zb):stG J2 ds J6 (L++[sg])=stG J2 ds J6 L++if behF J2 ds J6 sg=[] then [] else [(sg,behF J2 ds J6 sg)]:=by
 unfold stG;rw [au,qZ];congr 1;by_cases c:behF J2 ds J6 sg=[]
 ·rw [if_pos c]; simp [c]
 ·rw [if_neg c]; simp [c]
theorem Fh {J2:Zb}{ds:List am}{J6:Zb}{L:List (List Str)}{p:Sg×List Str}(h:p∈stG J2 ds J6 L):p.1∈L:=by
 obtain ⟨sg,hs,rfl⟩:=ay.1 (b0.1 h).1;exact hs
theorem A9 {J2:Zb}{ds:List am}{J6:Zb}{L:List (List Str)}:(stG J2 ds J6 L).length<=L.length:=by
 unfold stG;exact bP (gJ _ _) (by rw [ai]; exact aD _)
theorem Au.kt {H H':Hp}{kvs:List (TK×V)}{L:List (Sg×List Str)}(k:hE H H') (h:Au H kvs L):Au H' kvs L:=Paired.mapP h fun _ _ ⟨e,u,e2,r⟩=>⟨e,u,e2,k _ _ r⟩
theorem Au.no {H:Hp}{kvs:List (TK×V)}{L:List (Sg×List Str)}(h:Au H kvs L) {sg:Sg}(n:∀p∈L,p.1≠sg):bG kvs (jq sg)=none:=by
 refine vQ ?_
 induction h with
 | nil=>intro kv hk; exact nomatch hk
 | @cons a b as bs r t ih =>
  intro kv hk;rcases cP.1 hk with rfl | hk
  ·rw [r.1]; exact fun e=>n b cy (lD e)
  ·exact ih (fun p hp=>n p (eO _ hp)) kv hk
theorem n8 {α:Type}{L:List α}(nd:L.Nodup) {i:Nat}{x:α}(e:L[i]?=some x):¬x∈L.take i:=by
 intro h;obtain ⟨j,hj,ej⟩:=u6 h;rw [aJ] at hj;have hi:i<L.length:=by rcases dZ i L.length with z | z; exact z; rw [eW z] at e; cases e
 rw [List.getElem_take] at ej;rw [br hi] at e;injection e with e;exact List.pairwise_iff_getElem.1 (oJ.1 nd) j i (by omega) hi (by omega) (ej.trans e.symm)
theorem C5 {H:Hp}{d:Addr}{kvs:List (TK×V)}{o:HO}(h:H d=some (.dT kvs)):hE H (upd H d o):=fun b xs e=>by rw [af (fun z=>by rw [z,h] at e; cases e)]; exact e
theorem CC {b:Bool}{P X Y:Prop}(h:b=true↔P) (h1:P->X) (h2:¬P->Y):if b=true then X else Y:=by
 cases b with
 | true=>exact h1 (h.1 rfl)
 | false=>exact h2 fun z=>by cases h.2 z
inductive jD (C:Addr) (vs:List V) (H:Hp) (Q:VK) (E:XK):Prop
 | mk (x t:Addr) (J6 J0 J1 J2:Zb) (ds:List am):(vs=[.ref x,.ref t])->(be C H x J0 J1 J2 ds)->(H t=some (.tup (J6.map V.str)))->((∀r∈J6,r∈J2))->(J6.length<=1000)->(∀(d:Addr) (kvs:List (TK×V)) (H':Hp),H' d=some (.dT kvs)->Au H' kvs (stepsF J0 J1 J2 ds J6)->H d=none->ac H H'->Q (.ref d) H')->jD C vs H Q E
theorem zJ {K:Za}{C hu:Addr}(hh:∀H,bL K H hu (bN.map V.str)) {vs:List V}{H:Hp}{Q:VK}{E:XK}(h:jD C vs H Q E):zc K (v_ C hu) (qK K C) (bC Q) (start Ay vs) H:=by
 obtain ⟨x,t,J6,J0,J1,J2,ds,rfl,M,ht,hsub,hz,k⟩:=h;have z1:=M.ok.asks4;have z2:=M.ok.says4;have zl:(az J0 J1).length<=9:=by unfold az; rw [ax,ax,ai,ai]; show _+1<=9; omega
 have nd:=eB M.ok;refine fun d hd=>?_;have S0:ac H (upd H d (.dT [])):=ac.new hd;refine ⟨_,rfl,x,J0,J1,J2,ds,rfl,M.same S0,fun l us H1 hl hP S1=>⟨l,rfl,⟨_,aB.of hl⟩,?_⟩⟩;refine cg (xs:=us.map V.ref) (fun i σ H'=>∃(kvs:List (TK×V)) (x3 x4:Option V),σ=[some (.ref x),some (.ref t),some (.ref d),x3,x4]/\H' d=some (.dT kvs)/\ac H H'/\(∀b o,H1 b=some o->b≠d->H' b=some o)/\Au H' kvs (stG J2 ds J6 ((az J0 J1).take i)))
  ⟨[],_,_,rfl,S1 _ _ aa,S0.trans S1,fun _ _ e _=>e,.nil⟩ (fun i σ H' _ ⟨_,_,_,_,_,_,S,_⟩=>aB.of (S _ _ hl fun e=>by subst e; have:=S1 _ _ (aa (H:=H) (a:=l) (o:=.dT [])); rw [hl] at this; cases this)) ?_ ?_
 ·rintro i y σ H2 hi ⟨kvs,x3,x4,rfl,h2,S2,S12,st⟩;obtain ⟨u,hu',rfl⟩:=d6 hi;obtain ⟨sg,hsg,hat⟩:=Paired.getL hP hu';have hat2:FZ hu H2 u sg:=hat.imp (fun e=>S12 _ _ e fun z=>by subst z; have:=S1 _ _ (aa (H:=H) (a:=u) (o:=.dT [])); rw [e] at this; cases this) id;refine ⟨_,rfl,_,rfl,_,rfl,x,t,u,J6,sg,J0,J1,J2,ds,rfl,M.same S2,S2 _ _ ht,hat2.sq hh,hat2.symm.imp (fun e=>e.2) id,hsub,hz,fun f H3 hf S3=>?_⟩;have h3:=S3 _ _ h2;refine ⟨_,rfl,.inl ⟨f,_,rfl,.inr (bL.of hf),_,_,rfl,rfl,?_⟩⟩;refine ⟨_,rfl,?_⟩;have hat3:=hat2.same S3;have S13:∀b o,H1 b=some o->b≠d->H3 b=some o:=fun b o e n=>S3 _ _ (S12 b o e n);have st3:=st.kt (ac.kt S3);refine CC (P:=behF J2 ds J6 sg≠[]) ?_ (fun c=>?_) (fun c=>?_)
  ·rw [ai];constructor
   ·intro h z; rw [z] at h; exact absurd h (by decide)
   ·intro h; exact zzr1 (by have:=List.length_pos_iff.mpr h; omega)
  rotate_left
  ·have c:=Classical.not_not.1 c;refine ⟨kvs,_,_,rfl,h3,S2.trans S3,S13,?_⟩;rw [take_snoc hsg,xJ,if_pos c,fV];exact st3
  ·have no:bG kvs (jq sg)=none:=st3.no fun p hp e=>by
    have h1:=Fh hp;rw [e] at h1;exact n8 nd hsg h1
   have ll:kvs.length<aj:=by
    rw [Paired.length st];refine av ?_;have h1:=A9 (J2:=J2) (ds:=ds) (J6:=J6) (L:=(az J0 J1).take i);rw [aJ] at h1;omega
   refine ⟨_,rfl,_,rfl,_,rfl,d,u,kvs,jq sg,rfl,rfl,h3,xu (hat3.tup hh),dL sg,ll,_,_,_,rfl,aa,?_,?_,?_⟩
   ·intro b o e;rw [af (ae e hd)];exact S3 _ _ (S2 _ _ e)
   ·intro b o e n;rw [af n];exact S13 b o e n
   ·rw [fH _ no,take_snoc hsg,xJ,if_neg c];have kt:hE H3 (upd H3 d (.dT (kvs++[(jq sg,.ref f)]))):=C5 h3;exact cK (st3.kt kt) ⟨rfl,f,rfl,kt _ _ hf⟩
 ·rintro σ H2 ⟨kvs,x3,x4,rfl,h2,S2,_,st⟩;rw [ai,Paired.length hP,bm] at st;exact ⟨_,rfl,k d kvs H2 h2 st hd S2⟩
def n5:Nat->List (List Str)->List (TK×V)
 | _,[]=>[]
 | n,f::r=>(jq f,.int (n:Nat))::n5 (n+1) r
theorem uE (f:Zb):∀(fs:List (List Str)) (n:Nat),n5 n (fs++[f])=n5 n fs++[(jq f,.int ((n+fs.length:Nat)))]
 | [],n=>rfl
 | x::r,n=>by
  show _::n5 (n+1) (r++[f])=_::(n5 (n+1) r++_);rw [uE f r (n+1),dQ,show n+1+r.length=n+(r.length+1) by omega]
theorem x_:∀(fs:List (List Str)) (n:Nat),(n5 n fs).length=fs.length
 | [],n=>rfl
 | x::r,n=>by show _+1=_+1; rw [x_ r (n+1)]
theorem kO (f:Zb):∀(fs:List (List Str)) (n:Nat),bG (n5 n fs) (jq f)=if f∈fs then some (.int ((n+fs.idxOf f:Nat))) else none
 | [],n=>rfl
 | x::r,n=>by
  by_cases c:x=f
  ·subst c;rw [if_pos cy];show bG ((jq x,_)::_) _=_;rw [cb rfl];rw [List.idxOf_cons_self]; rfl
  ·show bG ((jq x,_)::_) _=_;rw [b9 (fun e=>c (lD e)),kO f r (n+1)];by_cases d:f∈r
   ·rw [if_pos d,if_pos (eO _ d)];have e:(x::r).idxOf f=r.idxOf f+1:=by rw [List.idxOf_cons,show (x == f)=false from beq_false_of_ne c]; rfl
    rw [e,show n+1+r.idxOf f=n+(r.idxOf f+1) by omega]
   ·rw [if_neg d,if_neg (by simp [c9 c,d])]
abbrev iK (K:Za) (H:Hp) (w:Addr) (s:List Sg):Prop:=∃gs:List Addr,H w=some (.lst (gs.map V.ref))/\Paired (fun g (sg:Sg)=>bJ K H g (sg.map V.str)) gs s
structure FC (K:Za) (C:Addr):Prop where
 cls:BM K C
 a1:dA K C "machine"
 a2:dA K C "faces"
 a3:dA K C "first_stories"
 a4:dA K C "numbers"
 a5:dA K C "steps"
def HH (C:Addr) (H:Hp) (x M fa sa na ta:Addr):Prop:=∃(dx:Addr) (fs:List (Str×V)),H x=some (.ins C dx fs)/\lk "machine" fs=some (.ref M)/\lk "faces" fs=some (.ref fa)/\lk "first_stories" fs=some (.ref sa)/\lk "numbers" fs=some (.ref na)/\lk "steps" fs=some (.ref ta)/\lk "number_at" fs=none/\lk "numbered_steps" fs=none
structure gG (K:Za) (C:Addr) (H:Hp) (x M fa sa na ta:Addr) (us ws:Ze) (m:fU):Prop where
 ob:HH C H x M fa sa na ta
 hfa:H fa=some (.lst (us.map V.ref))
 faces:Paired (fun u (f:Zb)=>H u=some (.tup (f.map V.str))) us m.fs
 hsa:H sa=some (.lst (ws.map V.ref))
 stories:Paired (fun w s=>(w≠fa/\w≠sa/\w≠ta)/\iK K H w s) ws m.ss
 hna:H na=some (.dT (n5 0 m.fs))
 ne:fa≠sa/\fa≠ta/\sa≠ta
theorem bJ.kt {K:Za}{H H':Hp}{a:Addr}{xs:List V}(k:hE H H') (h:bJ K H a xs):bJ K H' a xs:=h.keeps k
theorem iK.kt {K:Za}{H H':Hp}{w:Addr}{s:List Sg}(k:hE H H') (e:∀o,H w=some o->H' w=some o) (h:iK K H w s):iK K H' w s:=by
 obtain ⟨gs,h1,h2⟩:=h;exact ⟨gs,e _ h1,Paired.mapP h2 fun _ _ r=>bJ.kt k r⟩
def G_ (fa sa na:Addr) (H H':Hp):Prop:=∀b o,H b=some o->b≠fa->b≠sa->b≠na->H' b=some o
theorem G_.refl (fa sa na:Addr) (H:Hp):G_ fa sa na H H:=fun _ _ e _ _ _=>e
theorem gG.same {K:Za}{C x M fa sa na ta:Addr}{us ws:Ze}{m:fU}{H H':Hp}(h:gG K C H x M fa sa na ta us ws m) (S:ac H H'):gG K C H' x M fa sa na ta us ws m:=by
 obtain ⟨⟨dx,fs,g,r⟩,h1,h2,h3,h4,h5,h6⟩:=h;exact ⟨⟨dx,fs,S _ _ g,r⟩,S _ _ h1,Paired.mapP h2 fun _ _ r=>S _ _ r,S _ _ h3,Paired.mapP h4 fun _ _ r=>⟨r.1,r.2.kt (ac.kt S) fun o e=>S _ _ e⟩,S _ _ h5,h6⟩
theorem gG.move {K:Za}{C x M fa sa na ta:Addr}{us ws:Ze}{m:fU}{H:Hp}{d:Addr}{o:HO}{kvs:List (TK×V)}(h:gG K C H x M fa sa na ta us ws m) (hd:H d=some (.dT kvs)) (n:d≠na):gG K C (upd H d o) x M fa sa na ta us ws m:=by
 have k:hE H (upd H d o):=C5 hd;obtain ⟨⟨dx,fs,g,r⟩,h1,h2,h3,h4,h5,h6⟩:=h;refine ⟨⟨dx,fs,by rw [af (fun z=>by rw [z,hd] at g; cases g)]; exact g,r⟩,by rw [af (fun z=>by rw [z,hd] at h1; cases h1)]; exact h1,Paired.mapP h2 fun _ _ r=>k _ _ r,by rw [af (fun z=>by rw [z,hd] at h3; cases h3)]; exact h3,Paired.mapP h4 fun w s r=>⟨r.1,?_⟩,by rw [af n.symm]; exact h5,h6⟩;obtain ⟨gs,g1,g2⟩:=r.2;exact ⟨gs,by rw [af (fun z=>by rw [z,hd] at g1; cases g1)]; exact g1,Paired.mapP g2 fun _ _ r=>bJ.kt k r⟩
inductive kF (K:Za) (C:Addr) (vs:List V) (H:Hp) (Q:VK) (E:XK):Prop
 | mk (x M fa sa na ta u st:Addr) (us ws:Ze) (m:fU) (J6:Zb) (story:List Sg):(vs=[.ref x,.ref u,.ref st])->(gG K C H x M fa sa na ta us ws m)->(H u=some (.tup (J6.map V.str)))->(iK K H st story)->((st≠fa/\st≠sa/\st≠ta))->(m.fs.length<400)->(m.ss.length<400)->(∀(us' ws':Ze) (H':Hp),gG K C H' x M fa sa na ta us' ws' (m.add J6 story)->G_ fa sa na H H'->Q (.int (((m.add J6 story).fs.idxOf J6:Nat))) H')->kF K C vs H Q E
theorem Du {K:Za}{C:Addr}(c:FC K C) {vs:List V}{H:Hp}{Q:VK}{E:XK}(h:kF K C vs H Q E):lJ K (bC Q) (start lS vs) H:=by
 obtain ⟨x,M,fa,sa,na,ta,u,st,us,ws,m,J6,story,rfl,F,hu,hst,ns,z1,z2,k⟩:=h;obtain ⟨dx,fs,g,l1,l2,l3,l4,l5,l6,l7⟩:=F.ob;have tk:k5 K H (jq J6) (.ref u):=cV.isIn 8 (dL J6) (SignAt.tk hu);have g1:jT K H na (.ref u) (bG (n5 0 m.fs) (jq J6)):=.inr ⟨_,_,_,.inl F.hna,rfl,tk,dL J6,rfl⟩;refine ⟨_,rfl,_,rfl,x,C,dx,fs,.ref na,rfl,g,c.cls,c.a4,l4,na,_,rfl,g1,_,rfl,?_⟩;rw [kO];refine CC (P:=¬J6∈m.fs) (by by_cases c:J6∈m.fs <;> simp [c]) (fun nin=>?_) (fun nin=>?_);rotate_left
 ·have hin:=Classical.not_not.1 nin;have e:=fU.add_in (s:=story) hin;refine ⟨_,rfl,x,C,dx,fs,.ref na,rfl,g,c.cls,c.a4,l4,_,rfl,na,.int ((m.fs.idxOf J6:Nat)),rfl,?_,?_⟩
  ·rw [kO,if_pos hin,u5] at g1;exact g1
  ·have:=k us ws H (by rw [e]; exact F) (.refl _ _ _ _);rw [e] at this;exact this
 have e:=fU.add_new (s:=story) nin;have zl:(us.map V.ref).length=m.fs.length:=by rw [ai,Paired.length F.faces]
 have zs:(ws.map V.ref).length=m.ss.length:=by rw [ai,Paired.length F.stories]
 refine ⟨_,rfl,x,C,dx,fs,.ref fa,rfl,g,c.cls,c.a2,l2,.inl ⟨fa,_,rfl,.inl (aB.of F.hfa),rfl,_,rfl,?_⟩⟩;refine CC (P:=False) (by rw [zl]; simp; omega) (fun z=>z.elim) fun _=>?_;have tka:cV H (jq J6) (.ref u):=SignAt.tk hu;refine ⟨_,rfl,x,C,dx,fs,.ref fa,rfl,g,c.cls,c.a2,l2,.inl ⟨fa,_,rfl,.inl (aB.of F.hfa),_,rfl,x,C,dx,fs,.ref na,rfl,g,c.cls,c.a4,l4,_,rfl,na,_,rfl,.inr ⟨_,_,u,F.hna,rfl,tka,dL J6,?_,rfl⟩,?_⟩⟩
 ·rw [x_]; exact av (by omega)
 rw [fH _ (by rw [kO,if_neg nin]),zl];have e1:n5 0 m.fs++[(jq J6,V.int (m.fs.length:Nat))]=n5 0 (m.fs++[J6]):=by rw [uE,u5]
 rw [e1];have kna:hE H (upd H na (.dT (n5 0 (m.fs++[J6])))):=C5 F.hna;generalize hH1:upd H na (.dT (n5 0 (m.fs++[J6])))=H1 at kna ⊢;have nx:x≠na:=fun z=>by rw [z,F.hna] at g; cases g
 have nxf:x≠fa:=fun z=>by rw [z,F.hfa] at g; cases g
 have nxs:x≠sa:=fun z=>by rw [z,F.hsa] at g; cases g
 have nfa:fa≠na:=fun z=>by have:=F.hfa; rw [z,F.hna] at this; cases this
 have nsa:sa≠na:=fun z=>by have:=F.hsa; rw [z,F.hna] at this; cases this
 have fa1:H1 fa=some (.lst (us.map V.ref)):=by rw [<-hH1,af nfa]; exact F.hfa
 have sa1:H1 sa=some (.lst (ws.map V.ref)):=by rw [<-hH1,af nsa]; exact F.hsa
 have g1':H1 x=some (.ins C dx fs):=by rw [<-hH1,af nx]; exact g
 refine ⟨_,rfl,x,C,dx,fs,.ref fa,rfl,g1',c.cls,c.a2,l2,.inl ⟨rfl,_,aB.of fa1⟩,_,rfl,fa,_,.ref u,rfl,rfl,fa1,?_,?_⟩
 ·rw [zl]; exact av (by omega)
 generalize hH2:upd H1 fa (.lst (us.map V.ref++[.ref u]))=H2;have k2:hE H1 H2:=by rw [<-hH2]; exact cL fa1
 have sa2:H2 sa=some (.lst (ws.map V.ref)):=by rw [<-hH2,af F.ne.1.symm]; exact sa1
 have g2:H2 x=some (.ins C dx fs):=by rw [<-hH2,af nxf]; exact g1'
 refine ⟨_,rfl,x,C,dx,fs,.ref sa,rfl,g2,c.cls,c.a3,l3,.inl ⟨rfl,_,aB.of sa2⟩,_,rfl,sa,_,.ref st,rfl,rfl,sa2,?_,?_⟩
 ·rw [zs]; exact av (by omega)
 generalize hH3:upd H2 sa (.lst (ws.map V.ref++[.ref st]))=H3;have k3:hE H2 H3:=by rw [<-hH3]; exact cL sa2
 have kt:hE H H3:=(kna.trans k2).trans k3;have ex:G_ fa sa na H H3:=fun b o e n1 n2 n3=>by rw [<-hH3,af n2,<-hH2,af n1,<-hH1,af n3]; exact e
 have g3:H3 x=some (.ins C dx fs):=ex _ _ g nxf nxs nx;have na3:H3 na=some (.dT (n5 0 (m.fs++[J6]))):=by rw [<-hH3,af nsa.symm,<-hH2,af nfa.symm,<-hH1,aa]
 have fa3:H3 fa=some (.lst ((us++[u]).map V.ref)):=by rw [<-hH3,af F.ne.1,<-hH2,aa,au]; rfl
 have sa3:H3 sa=some (.lst ((ws++[st]).map V.ref)):=by rw [<-hH3,aa,au]; rfl
 have sto:∀{w:Addr}{s:List Sg},(w≠fa/\w≠sa/\w≠ta)->iK K H w s->iK K H3 w s:=fun n r=>by
  obtain ⟨gs,q1,q2⟩:=r;exact ⟨gs,ex _ _ q1 n.1 n.2.1 (fun z=>by rw [z,F.hna] at q1; cases q1),Paired.mapP q2 fun _ _ r=>bJ.kt kt r⟩
 have F3:gG K C H3 x M fa sa na ta (us++[u]) (ws++[st]) (m.add J6 story):=by
  rw [e];exact ⟨⟨dx,fs,g3,l1,l2,l3,l4,l5,l6,l7⟩,fa3,cK (Paired.mapP F.faces fun _ _ r=>kt _ _ r) (kt _ _ hu),sa3,cK (Paired.mapP F.stories fun _ _ r=>⟨r.1,sto r.1 r.2⟩) ⟨ns,sto ns hst⟩,na3,F.ne⟩
 have tk3:k5 K H3 (jq J6) (.ref u):=cV.isIn 8 (dL J6) (SignAt.tk (kt _ _ hu));have hin:J6∈m.fs++[J6]:=by simp
 have g5:jT K H3 na (.ref u) (some (.int ((m.add J6 story).fs.idxOf J6:Nat))):=by
  refine .inr ⟨_,jq J6,u,.inl na3,rfl,tk3,dL J6,?_⟩;rw [kO,if_pos hin,u5,e]
 exact ⟨_,rfl,x,C,dx,fs,.ref na,rfl,g3,c.cls,c.a4,l4,_,rfl,na,_,rfl,g5,k _ _ H3 F3 ex⟩
theorem uR {d:Addr}{o:Obj}{u:HO}{n:Nat}{ent:Nat->Hp->V->V->Prop}{g:TG}{tb:TS}{D:lV}{σ:L2.St}{H:Hp}(Pv:Nat->L2.St->Hp->Prop) (h0:Pv 0 σ H) (hl:∀i σ H,i<=n->Pv i σ H->H d=some (.frz o u))
  (hs:∀i σ H p a b,i<n->Pv i σ H->H p=none->ent i H a b->g (.ref p) σ (upd H p (.tup [a,b])) fun σ2 H2=>tb { D with nx:=Pv (i+1),ct:=Pv (i+1),bk:=D.nx } σ2 H2) (hd:∀σ H,Pv n σ H->D.nx σ H) :
  ∃W:Nat->Nat->L2.St->Hp->Prop,(∃m,W 0 m σ H)/\∀i m σ H,W i m σ H ->
   ((Gg d o u n ent).stop i H/\D.nx σ H)∨((Gg d o u n ent).go i H/\∃N:L2.St->Hp->Prop,(∀σ' H',N σ' H'->∃m',m'<m/\W (i+1) m' σ' H')/\∀x H',(Gg d o u n ent).yld i H x H'->g x σ H' fun σ2 H2=>tb { D with nx:=N,ct:=N,bk:=D.nx } σ2 H2):=by
 refine ⟨fun i m σ H=>m=n-i/\i<=n/\Pv i σ H,⟨n,by simp,c8 _,h0⟩,?_⟩;rintro i m σ H ⟨rfl,hi,p⟩;have q:=hl i σ H hi p;by_cases lt:i<n
 ·refine .inr ⟨⟨q,lt⟩,Pv (i+1),fun σ' H' p'=>⟨n-(i+1),by omega,rfl,lt,p'⟩,fun x H' y=>?_⟩;obtain ⟨t,a,b,hn,rfl,en,rfl⟩:=y;exact hs i σ H t a b lt p hn en
 ·have e:i=n:=by omega
  subst e;exact .inl ⟨⟨q,aD _⟩,hd σ H p⟩
def stK (l:List (Sg×Nat)):List (TK×V):=l.map fun a=>(jq a.1,.int (a.2:Nat))
def C2 (L:Ze) (H H':Hp):Prop:=∀b o,H b=some o->b∉L->H' b=some o
theorem C2.refl (L:Ze) (H:Hp):C2 L H H:=fun _ _ e _=>e
theorem C2.trans {L:Ze}{H H1 H2:Hp}(a:C2 L H H1) (b:C2 L H1 H2):C2 L H H2:=fun c o e n=>b c o (a c o e n) n
theorem ac.exL {L:Ze}{H H':Hp}(S:ac H H'):C2 L H H':=fun b o e _=>S b o e
theorem G_.exL {fa sa na:Addr}{L:Ze}{H H':Hp}(a:G_ fa sa na H H') (s:fa∈L/\sa∈L/\na∈L):C2 L H H':=fun b o e n=>a b o e (fun z=>n (z ▸ s.1)) (fun z=>n (z ▸ s.2.1)) (fun z=>n (z ▸ s.2.2))
theorem C2.upd {L:Ze}{H:Hp}{d:Addr}{o:HO}(h:d∈L):C2 L H (upd H d o):=fun b u e n=>by rw [af (fun z:b=d=>n (by rw [z]; exact h))]; exact e
theorem Good.grow_len {J2:Zb}{m:fU}(g:Good J2 m) (hr:J2.length<=8):m.fs.length<400/\m.ss.length<400:=by
 have h1:=g.few hr;have h2:=g.len;omega
theorem ut {K:Za}{H:Hp}:∀{sg:Zb}{xs:List V},TKCs K H (sg.map nR) xs->xs=sg.map V.str
 | [],xs,h=>by rw [vO] at h; unfold TKCs at h; exact h
 | s::sg,xs,h=>by
  rw [aZ] at h;unfold TKCs at h;obtain ⟨v,us,rfl,h1,h2⟩:=h;unfold nR mR at h1;rw [h1,ut h2]
  rfl
theorem xr {K:Za}{H:Hp}{sg:Zb}{a:V}(h:mR K H (jq sg) a):∃b,a=.ref b/\bJ K H b (sg.map V.str):=by
 unfold jq mR at h;obtain ⟨b,xs,rfl,h1,h2⟩:=h;rw [ut h2] at h1;exact ⟨b,rfl,h1⟩
theorem v9 {J0 J1 J2 J6:Zb}{ds:List am}(m:aH J0 J1 J2 ds):((stepsF J0 J1 J2 ds J6).map (·.1)).Nodup:=by
 have nd:=eB m;unfold stepsF;refine List.Nodup.sublist (List.Sublist.map _ List.filter_sublist) ?_;rw [rf];have e:((fun p:Sg×List Str=>p.1) ∘ fun sg=>(sg,behF J2 ds J6 sg))=id:=rfl;rw [e,List.map_id];exact nd
theorem uC (s:List Sg) (m:fU) (L:List (Sg×List Str)):(d_ s m L).2.map (·.1)=L.map (·.1):=by
 have key:∀n,n<=L.length->(d_ s m (L.take n)).2.map (·.1)=(L.take n).map (·.1):=by
  intro n
  induction n with
  | zero=>intro _; rfl
  | succ n ih =>
   intro hn;have hp:L[n]?=some L[n]:=br (by omega);rw [take_snoc hp,jm];show ((d_ s m (L.take n)).2++[(L[n].1,_)]).map (fun a:Sg×Nat=>a.1)=_;rw [au,au,ih (by omega)]
   rfl
 have:=key L.length (aD _);rw [bm] at this;exact this
theorem oA.atS {m m':fU}(h:oA m m') {i:Nat}{f:List Sg}(e:m.ss[i]?=some f):m'.ss[i]?=some f:=by
 obtain ⟨_,⟨r,q⟩⟩:=h;rw [q,cS (by rcases dZ i m.ss.length with z | z; exact z; rw [eW z] at e; cases e),e]
theorem gG.ex3 {K:Za}{C x M fa sa na ta:Addr}{us ws:Ze}{m:fU}{H H':Hp}(h:gG K C H x M fa sa na ta us ws m) (e:G_ fa sa na H H'):hE H H':=fun b xs q =>
 e b _ q (fun z=>by rw [z,h.hfa] at q; cases q) (fun z=>by rw [z,h.hsa] at q; cases q) (fun z=>by rw [z,h.hna] at q; cases q)
inductive iF (K:Za) (C Cm:Addr) (vs:List V) (H:Hp) (Q:VK) (E:XK):Prop
 | mk (x M fa sa na ta:Addr) (us ws:Ze) (m:fU) (n:Nat) (J0 J1 J2:Zb) (ds:List am):(vs=[.ref x,.int (n:Nat)])->(gG K C H x M fa sa na ta us ws m)->(be Cm H M J0 J1 J2 ds)->(Good J2 m)->(J2.length<=8)->(n<m.fs.length)->((∃vs,H ta=some (.lst vs)))->(∀(d:Addr) (us' ws':Ze) (H':Hp),gG K C H' x M fa sa na ta us' ws' (d_ (m.ss.getD n []) m (stepsF J0 J1 J2 ds (m.fs.getD n []))).1->H' d=some (.dT (stK (d_ (m.ss.getD n []) m (stepsF J0 J1 J2 ds (m.fs.getD n []))).2))->H d=none->C2 [fa,sa,na] H H'->Q (.ref d) H')->iF K C Cm vs H Q E
theorem xP {K:Za}{C Cm:Addr}(c:FC K C) {vs:List V}{H:Hp}{Q:VK}{E:XK}(h:iF K C Cm vs H Q E):iS K (jD Cm) C (kF K C) (bC Q) (start iU vs) H:=by
 obtain ⟨x,M,fa,sa,na,ta,us,ws,m,n,J0,J1,J2,ds,rfl,F,MA,gd,hr,hn,⟨tvs,hta⟩,k⟩:=h;have hfn:m.fs[n]?=some m.fs[n]:=br hn;have hsn:n<m.ss.length:=by rw [gd.len]; exact hn
 have hss:m.ss[n]?=some m.ss[n]:=br hsn;have ef:m.fs.getD n []=m.fs[n]:=by simp [hn]
 have es:m.ss.getD n []=m.ss[n]:=by simp [hsn]
 rw [ef,es] at k;have hF:=gd.isF m.fs[n] (jw _);have hFl:=hF.len;obtain ⟨u,hu,hut⟩:=Paired.get F.faces hfn;obtain ⟨w,hw,hwn,hwt⟩:=Paired.get F.stories hss;have atw:pI (ws.map V.ref) n=some (.ref w):=bc (by rw [bQ,hw]; rfl);have atu:pI (us.map V.ref) n=some (.ref u):=bc (by rw [bQ,hu]; rfl);refine fun d hd=>?_;have S0:ac H (upd H d (.dT [])):=ac.new hd;have F0:=F.same S0;obtain ⟨dx,fs,g,l1,l2,l3,l4,l5,l6,l7⟩:=F0.ob;refine ⟨_,rfl,x,C,dx,fs,.ref M,rfl,g,c.cls,c.a1,l1,_,rfl,x,C,dx,fs,.ref fa,rfl,g,c.cls,c.a2,l2,_,rfl,fa,_,_,_,rfl,rfl,aB.of F0.hfa,atu,M,u,m.fs[n],J0,J1,J2,ds,rfl,MA.same S0,S0 _ _ hut,hF.sub,by omega,fun d0 kvs H1 hd0 st hd0' S1=>?_⟩;have F1:=F0.same S1;have nd0:d0≠d:=fun z=>by rw [z,aa] at hd0'; cases hd0'
 have fr:∀{b:Addr}{o:HO},H b=some o->b≠d0:=fun e=>ae (S0 _ _ e) hd0';have frd:∀{b:Addr}{o:HO},H b=some o->b≠d:=fun e=>ae e hd;obtain ⟨dx',fs',gx,_⟩:=F.ob;refine ⟨d0,kvs,rfl,.inl ⟨hd0,fun o=>?_⟩⟩;have F2:=F1.move (o:=.frz o (.dT kvs)) hd0 (c9 (fr F.hna));have kt12:hE H1 (upd H1 d0 (.frz o (.dT kvs))):=C5 hd0;have d2:upd H1 d0 (.frz o (.dT kvs)) d=some (.dT []):=by rw [af nd0.symm]; exact S1 _ _ aa
 have ta2:upd H1 d0 (.frz o (.dT kvs)) ta=some (.lst tvs):=by rw [af (fr hta)]; exact S1 _ _ (S0 _ _ hta)
 have f2:upd H1 d0 (.frz o (.dT kvs)) d0=some (.frz o (.dT kvs)):=aa;have e02:∀b o',H b=some o'->upd H1 d0 (.frz o (.dT kvs)) b=some o':=fun b o' e=>by rw [af (fr e)]; exact S1 _ _ (S0 _ _ e)
 have st2:=st.kt kt12;generalize upd H1 d0 (.frz o (.dT kvs))=H2 at F2 kt12 d2 ta2 f2 st2 e02 ⊢;have hLF:∀p∈stepsF J0 J1 J2 ds m.fs[n],jR J2 p.2:=sf hF;have zL:(stepsF J0 J1 J2 ds m.fs[n]).length<=9:=by
  have z1:=MA.ok.asks4;have z2:=MA.ok.says4;refine bP (A9 (L:=az J0 J1)) ?_;unfold az; rw [ax,ax,ai,ai]; show _+1<=9; omega
 have ndL:=v9 (J6:=m.fs[n]) MA.ok;generalize stepsF J0 J1 J2 ds m.fs[n]=L at st st2 hLF ndL zL k ⊢;have gq:∀i,Good J2 (d_ m.ss[n] m (L.take i)).1/\oA m (d_ m.ss[n] m (L.take i)).1:=fun i=>by
  obtain ⟨h1,h2,_⟩:=uD (s:=m.ss[n]) gd (by have:=gd.sl _ _ hss; omega) (L.take i) fun p hp=>hLF p (eK hp);exact ⟨h1,h2⟩
 have nfd:fa≠d:=frd F.hfa;have nsd:sa≠d:=frd F.hsa;have nnd:na≠d:=frd F.hna;refine uR (fun i σ H'=>∃(us' ws':Ze) (x3 x4:Option V),σ=[some (.ref x),some (.int (n:Nat)),some (.ref d),x3,x4]/\gG K C H' x M fa sa na ta us' ws' (d_ m.ss[n] m (L.take i)).1/\H' d=some (.dT (stK (d_ m.ss[n] m (L.take i)).2))/\C2 [fa,sa,na,d] H2 H'/\hE H2 H')
  ⟨us,ws,_,_,rfl,F2,d2,.refl _ _,fun _ _ e=>e⟩ ?_ ?_ ?_
 ·rintro i σ H' _ ⟨_,_,_,_,_,_,_,ex,_⟩;exact ex _ _ f2 (by simp [c9 (fr F.hfa),c9 (fr F.hsa),c9 (fr F.hna),nd0])
 ·rintro i σ H3 p a b hi ⟨us',ws',x3,x4,rfl,F3,d3,ex3,kt3⟩ hp ⟨key,ek,tkc⟩;obtain ⟨pr,hpr,rfl,uf,rfl,huf⟩:=Paired.getL st2 ek;obtain ⟨sga,rfl,hsga⟩:=xr tkc;obtain ⟨gd3,gr3⟩:=gq i;obtain ⟨z1,z2⟩:=gd3.grow_len hr;obtain ⟨w',hw',hwn',gs,hg1,hg2⟩:=Paired.get F3.stories (gr3.atS hss);have atw':pI (ws'.map V.ref) n=some (.ref w'):=bc (by rw [bQ,hw']; rfl);have Sp:ac H3 (upd H3 p (.tup [.ref sga,.ref uf])):=ac.new hp;have hp4:upd H3 p (.tup [.ref sga,.ref uf]) p=some (.tup [.ref sga,.ref uf]):=aa;generalize upd H3 p (.tup [.ref sga,.ref uf])=H4 at Sp hp4 ⊢;refine ⟨p,_,rfl,bL.of hp4,rfl,_,_,rfl,_,_,rfl,rfl,?_⟩;have F4:=F3.same Sp;obtain ⟨dx4,fs4,g4,m1,m2,m3,m4,m5,m6,m7⟩:=F4.ob;have hw4:=Sp _ _ hg1;refine ⟨_,rfl,x,dx4,fs4,rfl,g4,m6,_,rfl,_,rfl,x,C,dx4,fs4,.ref sa,rfl,g4,c.cls,c.a3,m3,_,rfl,sa,_,_,_,rfl,rfl,aB.of F4.hsa,atw',_,rfl,(by show 1<=aj; decide),fun ll hll=>?_⟩;have Sl:ac H4 (upd H4 ll (.lst [.ref sga])):=ac.new hll;have hl5:upd H4 ll (.lst [.ref sga]) ll=some (.lst [.ref sga]):=aa;generalize upd H4 ll (.lst [.ref sga])=H5 at Sl hl5 ⊢;have zw:gs.length<=400:=by rw [Paired.length hg2]; have:=gd.sl _ _ hss; have:=gd.few hr; omega
  refine ⟨w',ll,_,_,rfl,rfl,Sl _ _ hw4,hl5,(by rw [ai]; exact dR (av (by show _+1<=1000; omega))),fun p2 hp2=>?_⟩;have S2:ac H5 (upd H5 p2 (.lst (gs.map V.ref++[.ref sga]))):=ac.new hp2;have hp6:upd H5 p2 (.lst (gs.map V.ref++[.ref sga])) p2=some (.lst ((gs++[sga]).map V.ref)):=by rw [aa,au]; rfl
  generalize upd H5 p2 (.lst (gs.map V.ref++[.ref sga]))=H6 at S2 hp6 ⊢;have S36:ac H3 H6:=(Sp.trans Sl).trans S2;have F6:=F3.same S36;have ta3:H3 ta=some (.lst tvs):=ex3 _ _ ta2 (by simp [F.ne.2.1.symm,F.ne.2.2.symm,frd hta]; exact fun z=>by rw [z,F.hna] at hta; cases hta);have np:∀{b:Addr}{o:HO},H3 b=some o->p2≠b:=fun e=>c9 (ae (Sl _ _ (Sp _ _ e)) hp2);have sto:iK K H6 p2 (m.ss[n]++[pr.1]):=⟨gs++[sga],hp6,cK (Paired.mapP hg2 fun _ _ r=>bJ.kt (ac.kt S36) r) (bJ.kt (ac.kt S36) hsga)⟩;refine ⟨x,M,fa,sa,na,ta,uf,p2,us',ws',_,pr.2,m.ss[n]++[pr.1],rfl,F6,S36 _ _ (kt3 _ _ huf),sto,⟨np F3.hfa,np F3.hsa,np ta3⟩,z1,z2,fun us'' ws'' H7 F7 e7=>?_⟩;have k67:=F6.ex3 e7;have k37:hE H3 H7:=(ac.kt S36).trans k67;have d7:H7 d=some (.dT (stK (d_ m.ss[n] m (L.take i)).2)):=e7 _ _ (S36 _ _ d3) nfd.symm nsd.symm nnd.symm;have ek7:bG (stK (d_ m.ss[n] m (L.take i)).2) (jq pr.1)=none:=by
   refine vQ fun kv hkv e=>?_;obtain ⟨q,hq,rfl⟩:=ay.1 hkv;have h1:q.1∈(L.take i).map (·.1):=by rw [<-uC m.ss[n] m]; exact kh hq
   rw [lD e,mq] at h1;exact n8 ndL (by rw [bQ,hpr]; rfl) h1
  have l7:(stK (d_ m.ss[n] m (L.take i)).2).length<aj:=by
   have h1:=congrArg List.length (uC m.ss[n] m (L.take i));rw [ai,ai,aJ] at h1;unfold stK;rw [ai,h1];exact av (by omega)
  refine ⟨_,rfl,_,rfl,d,sga,_,jq pr.1,rfl,rfl,d7,xu (bJ.kt k37 hsga),dL _,l7,us'',ws'',_,_,rfl,?_,?_,?_,?_⟩
  ·rw [take_snoc hpr,jm];exact F7.move d7 (c9 nnd)
  ·rw [aa,fH _ ek7,take_snoc hpr,jm];show _=some (HO.dT (stK ((d_ m.ss[n] m (L.take i)).2++[_])));unfold stK;rw [au]
   rfl
  ·exact (ex3.trans (ac.exL S36)).trans ((e7.exL ⟨by simp,by simp,by simp⟩).trans (C2.upd (by simp)))
  ·exact (kt3.trans k37).trans (C5 d7)
 ·rintro σ H3 ⟨us',ws',x3,x4,rfl,F3,d3,ex3,kt3⟩;rw [Paired.length st,bm] at F3 d3;refine ⟨_,rfl,k d us' ws' H3 F3 d3 hd fun b o' e nb=>ex3 _ _ (e02 _ _ e) ?_⟩;simp at nb ⊢;exact ⟨nb.1,nb.2.1,nb.2.2,frd e⟩
abbrev oy (H0:Hp) (na:Addr) (H:Hp) (ts:Ze) (st:List (List (Sg×Nat))):Prop:=Paired (fun d l=>H0 d=none/\d≠na/\H d=some (.dT (stK l))) ts st
inductive lh (K:Za) (C Cm:Addr) (vs:List V) (H:Hp) (Q:VK) (E:XK):Prop
 | mk (H0:Hp) (x dx M:Addr) (J0 J1 J2:Zb) (ds:List am):(vs=[.ref x,.ref M])->(H x=some (.ins C dx []))->(be Cm H0 M J0 J1 J2 ds)->(H0 x=none)->(ac H0 H)->(J2.length<=8)->(∀(fa sa na ta:Addr) (us ws ts:Ze) (S:pQ) (j:Nat) (H':Hp),gG K C H' x M fa sa na ta us ws S.1->H' ta=some (.lst (ts.map V.ref))->oy H0 na H' ts S.2->pP J0 J1 J2 ds S->S.2.length=S.1.fs.length->S=itF J0 J1 J2 ds j->ac H0 H'->Q .non H')->lh K C Cm vs H Q E
theorem gG.moveT {K:Za}{C x M fa sa na ta:Addr}{us ws:Ze}{m:fU}{H:Hp}{xs ys:List V}(h:gG K C H x M fa sa na ta us ws m) (ht:H ta=some (.lst xs)):gG K C (upd H ta (.lst ys)) x M fa sa na ta us ws m:=by
 have k:hE H (upd H ta (.lst ys)):=cL ht;obtain ⟨⟨dx,fs,g,r⟩,h1,h2,h3,h4,h5,h6⟩:=h;refine ⟨⟨dx,fs,by rw [af (fun z=>by rw [z,ht] at g; cases g)]; exact g,r⟩,by rw [af h6.2.1]; exact h1,Paired.mapP h2 fun _ _ r=>k _ _ r,by rw [af h6.2.2]; exact h3,Paired.mapP h4 fun w s r=>⟨r.1,?_⟩,by rw [af (fun z=>by rw [z,ht] at h5; cases h5)]; exact h5,h6⟩;obtain ⟨gs,g1,g2⟩:=r.2;exact ⟨gs,by rw [af r.1.2.2]; exact g1,Paired.mapP g2 fun _ _ r=>bJ.kt k r⟩
theorem Cd {K:Za}{C Cm:Addr}(c:FC K C) {vs:List V}{H:Hp}{Q:VK}{E:XK}(h:lh K C Cm vs H Q E):mH K C (iF K C Cm) (kF K C) (dJ Cm) (bC Q) (start m8 vs) H:=by
 obtain ⟨H0,x,dx,M,J0,J1,J2,ds,rfl,hx,MA,hx0,S0,hr,k⟩:=h;have up:∀{H1 H2:Hp}{o:HO},ac H0 H1->H2=upd H1 x o->ac H0 H2:=fun S e b o q=>by rw [e,af (ae q hx0)]; exact S _ _ q
 refine ⟨_,rfl,_,rfl,x,C,dx,[],rfl,hx,c.cls,c.a1,(by decide),?_⟩;obtain ⟨H1,e1,hx1,X1⟩:=pG "machine" (.ref M) hx;rw [<-e1];have S1:=up S0 e1;have len1:(cn ("machine":Str) (.ref M) []).length<=1:=dH _ _ _;refine ⟨(by show 0<=aj; decide),fun fa hfa=>⟨_,rfl,x,C,dx,_,rfl,kp hx1 hfa,c.cls,c.a2,by omega,?_⟩⟩;obtain ⟨H2,e2,hx2,X2⟩:=pG "faces" (.ref fa) (kp (x:=.lst []) hx1 hfa);rw [<-e2];have S2:=up (S1.trans (ac.new hfa)) e2;have nf:fa≠x:=(ae hx1 hfa).symm;have fa2:=X2 _ _ aa nf;have len2:=dH ("faces":Str) (.ref fa) (cn ("machine":Str) (.ref M) []);refine ⟨(by show 0<=aj; decide),fun sa hsa=>⟨_,rfl,x,C,dx,_,rfl,kp hx2 hsa,c.cls,c.a3,by omega,?_⟩⟩;obtain ⟨H3,e3,hx3,X3⟩:=pG "first_stories" (.ref sa) (kp (x:=.lst []) hx2 hsa);rw [<-e3];have S3:=up (S2.trans (ac.new hsa)) e3;have ns:sa≠x:=(ae hx2 hsa).symm;have sa3:=X3 _ _ aa ns;have fa3:=X3 _ _ (kp (x:=.lst []) fa2 hsa) nf;have nfs:fa≠sa:=ae fa2 hsa;have len3:=dH ("first_stories":Str) (.ref sa) (cn ("faces":Str) (.ref fa) (cn ("machine":Str) (.ref M) []));refine fun na hna=>⟨_,rfl,x,C,dx,_,rfl,kp hx3 hna,c.cls,c.a4,by omega,?_⟩;obtain ⟨H4,e4,hx4,X4⟩:=pG "numbers" (.ref na) (kp (x:=.dT []) hx3 hna);rw [<-e4];have S4:=up (S3.trans (ac.new hna)) e4;have nn:na≠x:=(ae hx3 hna).symm;have na4:=X4 _ _ aa nn;have fa4:=X4 _ _ (kp (x:=.dT []) fa3 hna) nf;have sa4:=X4 _ _ (kp (x:=.dT []) sa3 hna) ns;have len4:=dH ("numbers":Str) (.ref na) (cn ("first_stories":Str) (.ref sa) (cn ("faces":Str) (.ref fa) (cn ("machine":Str) (.ref M) [])));refine ⟨(by show 0<=aj; decide),fun ta hta=>⟨_,rfl,x,C,dx,_,rfl,kp hx4 hta,c.cls,c.a5,by omega,?_⟩⟩;obtain ⟨H5,e5,hx5,X5⟩:=pG "steps" (.ref ta) (kp (x:=.lst []) hx4 hta);rw [<-e5];have S5:=up (S4.trans (ac.new hta)) e5;have nt:ta≠x:=(ae hx4 hta).symm;have ta5:=X5 _ _ aa nt;have fa5:=X5 _ _ (kp (x:=.lst []) fa4 hta) nf;have sa5:=X5 _ _ (kp (x:=.lst []) sa4 hta) ns;have na5:=X5 _ _ (kp (x:=.lst []) na4 hta) nn;have F5:gG K C H5 x M fa sa na ta [] [] ⟨[],[]⟩:=by
  refine ⟨⟨dx,_,hx5,?_,?_,?_,?_,?_,?_,?_⟩,fa5,.nil,sa5,.nil,na5,nfs,ae fa4 hta,ae sa4 hta⟩
  all_goals (show j4 _ _=_; repeat (rw [eo]; first | rw [if_pos rfl] | rw [if_neg (by decide +kernel)]))
  all_goals rfl
 clear e1 hx1 X1 len1 e2 hx2 X2 fa2 len2 e3 hx3 X3 sa3 fa3 len3 e4 hx4 X4 na4 fa4 sa4 len4 e5 hx5 X5 up;obtain ⟨dx5,fs5,g5,l1,l2,l3,l4,l5,l6,l7⟩:=id F5.ob;have M5:=MA.same S5;refine ⟨_,rfl,x,dx5,fs5,rfl,g5,l6,_,rfl,M,J0,J1,J2,ds,rfl,M5,fun f0 FF H6 hf0 hF S6=>⟨(by show 0<=aj; decide),fun st hst=>?_⟩⟩;rw [yI hF] at hf0;have S7:ac H6 (upd H6 st (.lst [])):=ac.new hst;have st7:upd H6 st (.lst []) st=some (.lst []):=aa;generalize upd H6 st (.lst [])=H7 at S7 st7 ⊢;have S57:ac H5 H7:=ac.trans S6 S7;have F7:=F5.same S57;have np:∀{b:Addr}{o:HO},H5 b=some o->st≠b:=fun e=>c9 (ae (S6 _ _ e) hst);refine ⟨x,M,fa,sa,na,ta,f0,st,[],[],⟨[],[]⟩,_,[],rfl,F7,S7 _ _ hf0,⟨[],st7,.nil⟩,⟨np fa5,np sa5,np ta5⟩,(by show 0<400; decide),(by show 0<400; decide),fun us ws H8 F8 e8=>?_⟩;have nta:ta≠na:=fun z=>by rw [z,na5] at ta5; cases ta5
 have ta8:H8 ta=some (.lst (([]:Ze).map V.ref)):=e8 _ _ (S57 _ _ ta5) F5.ne.2.1.symm F5.ne.2.2.symm nta;have in0:∀{b:Addr}{o:HO},H0 b=some o->b≠fa/\b≠sa/\b≠na:=fun e=>⟨ae (S1 _ _ e) hfa,ae (S2 _ _ e) hsa,ae (S3 _ _ e) hna⟩;have S08:ac H0 H8:=fun b o e=>by
  obtain ⟨n1,n2,n3⟩:=in0 e;exact e8 _ _ (S57 _ _ (S5 _ _ e)) n1 n2 n3
 refine ⟨fun m σ H'=>σ=[some (.ref x),some (.ref M)]/\∃(us ws ts:Ze) (j:Nat),m=300-j/\gG K C H' x M fa sa na ta us ws (itF J0 J1 J2 ds j).1/\H' ta=some (.lst (ts.map V.ref))/\oy H0 na H' ts (itF J0 J1 J2 ds j).2/\pP J0 J1 J2 ds (itF J0 J1 J2 ds j)/\(itF J0 J1 J2 ds j).2.length=j/\ac H0 H',⟨300,rfl,us,ws,[],0,rfl,F8,ta8,.nil,CH,rfl,S08⟩,?_⟩;rintro m σ H9 ⟨rfl,us9,ws9,ts,j,rfl,F9,ta9,st9,ok9,lj,S09⟩;obtain ⟨dx9,fs9,g9,m1,m2,m3,m4,m5,m6,m7⟩:=id F9.ob;refine ⟨_,rfl,x,C,dx9,fs9,.ref ta,rfl,g9,c.cls,c.a5,m5,.inl ⟨ta,_,rfl,.inl (aB.of ta9),_,rfl,x,C,dx9,fs9,.ref fa,rfl,g9,c.cls,c.a2,m2,.inl ⟨fa,_,rfl,.inl (aB.of F9.hfa),_,_,rfl,rfl,_,rfl,?_⟩⟩⟩;have z1:(ts.map V.ref).length=j:=by rw [ai,Paired.length st9,lj]
 have z2:(us9.map V.ref).length=(itF J0 J1 J2 ds j).1.fs.length:=by rw [ai,Paired.length F9.faces]
 have z3:=ok9.good.few hr;refine CC (P:=j<(itF J0 J1 J2 ds j).1.fs.length) (by rw [z1,z2]; simp) (fun lt=>?_) (fun ge=>?_)
 ·have tX:nextF J0 J1 J2 ds (itF J0 J1 J2 ds j)=itF J0 J1 J2 ds (j+1):=rfl;have ok10:pP J0 J1 J2 ds (itF J0 J1 J2 ds (j+1)):=CG ok9 (by rw [lj]; exact lt);have fr9:∀{b:Addr}{o:HO},H9 b=some o->∀{d:Addr},H9 d=none->d≠b:=fun e d h=>c9 (ae e h);refine ⟨fun σ' H'=>σ'=[some (.ref x),some (.ref M)]/\∃(us ws ts:Ze),gG K C H' x M fa sa na ta us ws (itF J0 J1 J2 ds (j+1)).1/\H' ta=some (.lst (ts.map V.ref))/\oy H0 na H' ts (itF J0 J1 J2 ds (j+1)).2/\ac H0 H',fun σ' H' ⟨e,us,ws,ts,q1,q2,q3,q4⟩=>⟨300-(j+1),by omega,e,us,ws,ts,j+1,rfl,q1,q2,q3,ok10,?_,q4⟩,?_⟩
  ·show (_++[_]).length=j+1;rw [ax,lj]; rfl
  refine ⟨_,rfl,x,C,dx9,fs9,.ref ta,rfl,g9,c.cls,c.a5,m5,.inl ⟨rfl,_,aB.of ta9⟩,_,rfl,x,dx9,fs9,rfl,g9,m7,_,rfl,x,C,dx9,fs9,.ref ta,rfl,g9,c.cls,c.a5,m5,.inl ⟨ta,_,rfl,.inl (aB.of ta9),?_⟩⟩;refine ⟨x,M,fa,sa,na,ta,us9,ws9,_,j,J0,J1,J2,ds,by rw [z1]; rfl,F9,MA.same S09,ok9.good,hr,lt,⟨_,ta9⟩,fun d us' ws' H10 F10 hd hdn ex=>?_⟩;have nta9:ta∉[fa,sa,na]:=by simp [F9.ne.2.1.symm,F9.ne.2.2.symm,nta]
  have ta10:=ex _ _ ta9 nta9;have S010:ac H0 H10:=fun b o e=>by
   obtain ⟨n1,n2,n3⟩:=in0 e;exact ex _ _ (S09 _ _ e) (by simp [n1,n2,n3])
  have st10:oy H0 na H10 ts (itF J0 J1 J2 ds j).2:=Paired.mapP st9 fun d l ⟨q1,q2,q3⟩=>⟨q1,q2,ex _ _ q3 (by
   simp [q2];exact ⟨(fun z=>by rw [z,F9.hfa] at q3; cases q3),(fun z=>by rw [z,F9.hsa] at q3; cases q3)⟩)⟩
  have d0:H0 d=none:=S09.free hdn;have ndt:d≠ta:=fr9 ta9 hdn;refine ⟨ta,_,.ref d,rfl,rfl,ta10,?_,rfl,us',ws',ts++[d],?_,?_,?_,?_⟩
  ·rw [z1]; exact av (by omega)
  ·have e:(itF J0 J1 J2 ds (j+1)).1=(d_ ((itF J0 J1 J2 ds j).1.ss.getD j []) (itF J0 J1 J2 ds j).1 (stepsF J0 J1 J2 ds ((itF J0 J1 J2 ds j).1.fs.getD j []))).1:=by
    show (nextF J0 J1 J2 ds (itF J0 J1 J2 ds j)).1=_;unfold nextF; rw [lj]
   rw [e];exact F10.moveT ta10
  ·rw [aa,au]; rfl
  ·have e:(itF J0 J1 J2 ds (j+1)).2=(itF J0 J1 J2 ds j).2++[(d_ ((itF J0 J1 J2 ds j).1.ss.getD j []) (itF J0 J1 J2 ds j).1 (stepsF J0 J1 J2 ds ((itF J0 J1 J2 ds j).1.fs.getD j []))).2]:=by
    show (nextF J0 J1 J2 ds (itF J0 J1 J2 ds j)).2=_;unfold nextF; rw [lj]
   rw [e];exact cK (Paired.mapP st10 fun d l ⟨q1,q2,q3⟩=>⟨q1,q2,by rw [af (fun z=>by rw [z,ta10] at q3; cases q3)]; exact q3⟩) ⟨d0,fr9 F9.hna hdn,by rw [af ndt]; exact hd⟩
  ·intro b o e;have h1:=S010 _ _ e;rw [af (fun z=>?_)]
   ·exact h1
   ·have h4:=S4 _ _ e;rw [z,hta] at h4; cases h4
 ·have e:=ok9.le;exact k fa sa na ta us9 ws9 ts _ j H9 F9 ta9 st9 ok9 (by omega) rfl S09
abbrev yZ (H0 H:Hp) (ts:Ze) (st:List (List (Sg×Nat))):Prop:=Paired (fun d l=>H0 d=none/\Rd H d (.dT (stK l))) ts st
theorem Rd.same {H H':Hp}{a:Addr}{u:HO}(S:ac H H') (h:Rd H a u):Rd H' a u:=by
 rcases h with h | ⟨o,h⟩
 ·exact .inl (S _ _ h)
 ·exact .inr ⟨o,S _ _ h⟩
theorem Rd.frz {H:Hp}{a d:Addr}{k kvs:List (TK×V)}{o:Obj}(hd:H d=some (.dT kvs)) (h:Rd H a (.dT k)):Rd (upd H d (.frz o (.dT kvs))) a (.dT k):=by
 by_cases z:a=d
 ·subst z;rcases h with h | ⟨q,h⟩
  ·rw [hd] at h; cases h; exact .inr ⟨o,aa⟩
  ·rw [hd] at h; cases h
 ·rcases h with h | ⟨q,h⟩
  ·exact .inl (by rw [af z]; exact h)
  ·exact .inr ⟨q,by rw [af z]; exact h⟩
def HF (J:It) (g:TG) (tb:TS) (D:lV) (σ:L2.St) (H:Hp):Prop:=∃W:Nat->Nat->L2.St->Hp->Prop,(∃m,W 0 m σ H)/\∀i m σ H,W i m σ H ->
 (J.stop i H/\D.nx σ H)∨(J.go i H/\∃N:L2.St->Hp->Prop,(∀σ' H',N σ' H'->∃m',m'<m/\W (i+1) m' σ' H')/\∀x H',J.yld i H x H'->g x σ H' fun σ2 H2=>tb { D with nx:=N,ct:=N,bk:=D.nx } σ2 H2)
theorem AY {K:Za}{H:Hp}:∀xs:List Str,TKIns K H (xs.map nR) (xs.map V.str)
 | []=>by show TKIns K H [] []; unfold TKIns; rfl
 | x::xs=>by
  rw [aZ,aZ];unfold TKIns;refine ⟨_,_,rfl,?_,AY xs⟩;unfold nR k5
  rfl
theorem bJ.sq {K:Za}{H:Hp}{a:Addr}{xs:List V}(h:bJ K H a xs):bL K H a xs:=h.imp .inl id
theorem vR {K:Za}{H:Hp}{a:Addr}{f:Zb}(h:bJ K H a (f.map V.str)):k5 K H (jq f) (.ref a):=by
 unfold jq k5;exact ⟨a,_,rfl,bJ.sq h,AY f⟩
def zb (K:Za) :TS :=
 ao (aN (cY (bj)) U2)
 (ao (mI (tB (Dk (gS K V0 V1))) (ao (aN (gS K V0 V1) (ir K 2 (aY U1 (aY U3 (g8)))))
 (bH (r9 K "list" cG V2 (aA V3)))))
 (ao (bH (Fd K "list" xS V2))
 (bu V2)))
def Ax:List Str:=["came","place","story","sign"]
def tw (K:Za) (sp_story_to:Sp):TS :=
 ao (aN (v2 K (bB (aS (tC (.int 0)) (tC (.int 0)))) (tC .non)) U2)
 (ao (aN (cY (aA (bB (aS (tC (.int 0)) (tC (.int 0)))))) U3)
 (ao (aN (tC (.int 0)) U4)
 (ao (mI (aX (aL zP V4 (eZ (d9 K) (aA V3)))) (ao (aN (aL (cT K) V3 V4) U5)
 (ao (Hh 4 (tC (.int 1)) (ipI fun i j=>i+j))
 (ao (aN (aL (cT K) V0 (aL (jH K) V5 (tC (.int 0)))) U6)
 (fx (wH K (aL (cT K) V1 (aL (jH K) V5 (tC (.int 1))))) (ir K 2 (aY U7 (aY U8 (g8)))) (cH (tB (fE K V7 V6)) (cH (aX (aL Fw (aL (jH K) V7 (tC (.int 0))) (tC (.str "ask")))) (bu (bB (aS (aM sp_story_to (aq V2 (aA V5))) V7))) (bR)) (cH (tB (fE K (bB (aS (gS K V6 V7) V8)) V2)) (ao (pb K V2 (bB (aS (gS K V6 V7) V8)) (bB (aS V5 V7)))
 (bH (r9 K "list" cG V3 (aA (bB (aS (gS K V6 V7) V8)))))) (bR))))))))
 (bu (tC .non)))))
def ub:List Str:=["model_steps","machine_steps","came","pairs","looked","here","wanted","sign","goal"]
def tp (K:Za) (C_Machine:Addr) (sp_Machine_is_quiet:Sp) (a_HUSH:Addr) (sp_Machine_doors_from:Sp) (a_STILL:Addr):TS :=
 ao (aN (cY (bj)) U4)
 (ao (fx (cD K (c_ C_Machine "doors_from" sp_Machine_doors_from [] E0 V0 (aA V1))) (ir K 3 (aY U5 (aY U6 (aY U7 (g8))))) (cH (aX (aL (tW K) V6 (tC (.ref a_STILL)))) (bH (r9 K "list" cG V4 (aA (bB (aS V7 V2))))) (cH (A2 (tB (zB K V6 V3)) (aX (aL zQ (aL (jH K) V6 (tC (.int 0))) (tC (.str "say"))))) (bH (r9 K "list" cG V4 (aA (bB (aS V7 (v8 K V3 V6)))))) (bR))))
 (ao (cH (tB (c_ C_Machine "is_quiet" sp_Machine_is_quiet [] E0 V0 (aA V1))) (bH (r9 K "list" cG V4 (aq (bB (aS V1 (v8 K V3 (tC (.ref a_HUSH))))) bj))) (bR))
 (bu V4)))
def t8:List Str:=["I","room","face","steps","rows","start","sign","goal"]
def ze (K:Za) (sp_rows_needed:Sp) (C_Machine:Addr) (sp_Machine_rooms:Sp):TS :=
 ao (aN (bB (aS (aL (cT K) (c_ C_Machine "rooms" sp_Machine_rooms [] E0 V1 bj) (tC (.int 0))) (tC (.int 0)))) U2)
 (ao (aN (v2 K V2 (tC (.bl true))) U3)
 (ao (aN (cY (aA V2)) U4)
 (ao (mI (aX (aL DG (eZ (d9 K) (aA V4)) (tC (.int 0)))) (ao (aN (Fd K "list" GH V4) (ir K 2 (aY U5 (aY U6 (g8)))))
 (fx (cD K (aM sp_rows_needed (aq V1 (eX V5 V6 (aL (cT K) (fD K V0 "steps") V6))))) U7 (cH (tB (fE K V7 V3)) (ao (pb K V3 V7 (tC (.bl true)))
 (bH (r9 K "list" cG V4 (aA V7)))) (bR)))))
 (bu (d4 2 [0] (Ek K V3) (ir K 2 (aY U0 (aY U1 (g8)))) (jA) (bB (aS V0 (aL (cT K) (fD K V2 "faces") V1))))))))
def Az:List Str:=["model","I","first","rows","waiting","room","number","row"]
def Fb (K:Za) (sp_paper_of:Sp) (sp_least_fault:Sp) (C_FaceMap:Addr) (sp_FaceMap_init:Sp) (sp_need_taker:Sp):TS :=
 ao (bH (aM sp_need_taker (aS V0 V1)))
 (ao (aN (xA C_FaceMap sp_FaceMap_init [] E0 (aA V0)) U2)
 (ao (aN (aM sp_least_fault (aS (fD K V2 "steps") (fD K (xA C_FaceMap sp_FaceMap_init [] E0 (aA V1)) "steps"))) U3)
 (ao (cH (tB (Dl V3)) (bu (bB (aS (tC (.str "keeps")) (aM sp_paper_of (aq V2 (aA V1)))))) (bR))
 (ao (aN V3 (ir K 2 (aY U4 (aY U5 (g8)))))
 (bu (bB (eX (tC (.str "fault")) V4 V5)))))))
def Gd:List Str:=["M","I","model","fault","story","sign"]
abbrev Pr:=Nat×Nat
structure bb where
 key:Pr
 from_:Option (Pr×Sg)
 story:List Sg
def iq (P:List bb) (k:Pr):Bool:=P.any fun c=>decide (c.key=k)
def bx (l:List (Sg×Nat)) (sg:Sg):Option Nat:=(l.find? fun p=>decide (p.1=sg)).map (·.2)
def eA (wanted:List (Sg×Nat)) (here:bb) (q:List bb×Option Sg) (p:Sg×Nat):List bb×Option Sg :=
 match q.2 with
 | some _=>q
 | none=>match bx wanted p.1 with
  | none=>if p.1.head?=some ("ask":Str) then q else (q.1,some p.1)
  | some w=>if iq q.1 (w,p.2)=true then q else (q.1++[⟨(w,p.2),some (here.key,p.1),here.story++[p.1]⟩],none)
def bY (wanted:List (Sg×Nat)) (here:bb) (P:List bb) (l:List (Sg×Nat)):List bb×Option Sg:=l.foldl (eA wanted here) (P,none)
structure pR (ms ws:List (List (Sg×Nat))) (P:List bb):Prop where
 zero:∃r,P=⟨(0,0),none,[]⟩::r
 nd:(P.map (·.key)).Nodup
 back:∀(i:Nat) (c:bb),P[i]?=some c->i=0∨∃(j:Nat) (b:bb) (sg:Sg),j<i/\P[j]?=some b/\c.from_=some (b.key,sg)/\c.story=b.story++[sg]/\bx (ws.getD b.key.1 []) sg=some c.key.1/\(sg,c.key.2)∈ms.getD b.key.2 []
theorem kQ {P:List bb}{k:Pr}:iq P k=true↔k∈P.map (·.key):=by
 unfold iq;rw [List.any_eq_true,ay];exact ⟨fun ⟨c,h,e⟩=>⟨c,h,of_decide_eq_true e⟩,fun ⟨c,h,e⟩=>⟨c,h,zzr1 e⟩⟩
theorem CO (ms ws:List (List (Sg×Nat))):pR ms ws [⟨(0,0),none,[]⟩]:=by
 refine ⟨⟨[],rfl⟩,by simp,fun i c h=>?_⟩;rcases u7 i with z | z
 ·exact .inl z
 ·rw [eW (by show 1<=i; exact z)] at h; cases h
theorem pR.add {ms ws:List (List (Sg×Nat))}{P:List bb}(h:pR ms ws P) {j:Nat}{b:bb}{sg:Sg}{w g:Nat}(hj:P[j]?=some b) (hn:iq P (w,g)=false) (hw:bx (ws.getD b.key.1 []) sg=some w) (hg:(sg,g)∈ms.getD b.key.2 []) :
  pR ms ws (P++[⟨(w,g),some (b.key,sg),b.story++[sg]⟩]):=by
 have lt:j<P.length:=by
  rcases dZ j P.length with z | z
  ·exact z
  ·rw [eW z] at hj; cases hj
 obtain ⟨r,e⟩:=h.zero;refine ⟨⟨r++[⟨(w,g),some (b.key,sg),b.story++[sg]⟩],by rw [e]; rfl⟩,?_,fun i c hc=>?_⟩
 ·rw [au,ck];refine ⟨h.nd,by simp,fun x hx y hy z=>?_⟩;have:iq P (w,g)=true:=kQ.2 (by rw [<-show y=(w,g) from by simpa using hy,<-z]; exact hx);rw [hn] at this; cases this
 ·rcases dZ i P.length with z | z
  ·rw [cS z] at hc;rcases h.back i c hc with q | ⟨j',b',sg',q1,q2,q3⟩
   ·exact .inl q
   ·exact .inr ⟨j',b',sg',q1,by rw [cS (by omega)]; exact q2,q3⟩
  ·rw [kB z] at hc;have h0:i-P.length=0:=by
    rcases u7 (i-P.length) with q | q
    ·exact q
    ·rw [eW (by show 1<=_; exact q)] at hc; cases hc
   rw [h0] at hc;injection hc with hc;subst hc;exact .inr ⟨j,b,sg,by omega,by rw [cS lt]; exact hj,rfl,rfl,hw,hg⟩
theorem Ed {ms ws:List (List (Sg×Nat))}{P:List bb}(h:pR ms ws P) {j:Nat}{b:bb}(hj:P[j]?=some b) (l:List (Sg×Nat)) (hl:∀p∈l,p∈ms.getD b.key.2 []) :
  (∃r,(bY (ws.getD b.key.1 []) b P l).1=P++r)/\pR ms ws (bY (ws.getD b.key.1 []) b P l).1/\∀sg,(bY (ws.getD b.key.1 []) b P l).2=some sg->(∃g,(sg,g)∈l)/\bx (ws.getD b.key.1 []) sg=none/\sg.head?≠some ("ask":Str):=by
 have key:∀n,n<=l.length->(∃r,(bY (ws.getD b.key.1 []) b P (l.take n)).1=P++r)/\pR ms ws (bY (ws.getD b.key.1 []) b P (l.take n)).1/\∀sg,(bY (ws.getD b.key.1 []) b P (l.take n)).2=some sg->(∃g,(sg,g)∈l)/\bx (ws.getD b.key.1 []) sg=none/\sg.head?≠some ("ask":Str):=by
  intro n
  induction n with
  | zero=>intro _; exact ⟨⟨[],(fV _).symm⟩,h,fun sg e=>by cases e⟩
  | succ n ih =>
   intro hn;obtain ⟨⟨r,e1⟩,h2,h3⟩:=ih (by omega);have hp:l[n]?=some l[n]:=br (by omega);have es:bY (ws.getD b.key.1 []) b P (l.take (n+1))=eA (ws.getD b.key.1 []) b (bY (ws.getD b.key.1 []) b P (l.take n)) l[n]:=by
    unfold bY; rw [take_snoc hp,fz]; rfl
   rw [es];generalize bY (ws.getD b.key.1 []) b P (l.take n)=q at e1 h2 h3;have hm:l[n]∈l:=jw _;generalize l[n]=p at hm;unfold eA;cases e2:q.2 with
   | some s=>exact ⟨⟨r,e1⟩,h2,fun sg e=>h3 sg e⟩
   | none =>
    cases e3:bx (ws.getD b.key.1 []) p.1 with
    | none =>
     by_cases c:p.1.head?=some ("ask":Str)
     ·simp only [c,if_true];exact ⟨⟨r,e1⟩,h2,fun sg e=>h3 sg e⟩
     ·simp only [c,if_false];refine ⟨⟨r,e1⟩,h2,fun sg e=>?_⟩;injection e with e;subst e;exact ⟨⟨p.2,hm⟩,e3,c⟩
    | some w =>
     cases e4:iq q.1 (w,p.2) with
     | true =>
      simp only [e4,if_true];exact ⟨⟨r,e1⟩,h2,fun sg e=>h3 sg e⟩
     | false =>
      simp only [e4,kz,if_false];refine ⟨⟨r++[⟨(w,p.2),some (b.key,p.1),b.story++[p.1]⟩],by rw [e1,cJ]⟩,h2.add (j:=j) (b:=b) ?_ e4 e3 (hl p hm),fun sg e=>by cases e⟩;rw [e1,cS (by rcases dZ j P.length with z | z; exact z; rw [eW z] at hj; cases hj)];exact hj
 have:=key l.length (aD _);rw [bm] at this;exact this
def nq (k:Pr):TK:=.t [.k (.inl (k.1:Int)),.k (.inl (k.2:Int))]
theorem Bk {a b:Pr}(h:nq a=nq b):a=b:=by
 unfold nq at h;injection h with h;injection h with h1 h2;injection h2 with h2 _;injection h1 with h1;injection h2 with h2;injection h1 with h1;injection h2 with h2;obtain ⟨a1,a2⟩:=a;obtain ⟨b1,b2⟩:=b;simp only at h1 h2;rw [show a1=b1 by omega,show a2=b2 by omega]
theorem fq (k:Pr):(nq k).depth<=8:=by
 show max 0 (max 0 0)+1<=8
 decide
abbrev k7 (H:Hp) (a:Addr) (k:Pr):Prop:=H a=some (.tup [.int (k.1:Nat),.int (k.2:Nat)])
theorem k7.tk {H:Hp}{a:Addr}{k:Pr}(h:k7 H a k):cV H (nq k) (.ref a):=by
 unfold nq cV;refine ⟨a,_,rfl,h,?_⟩;unfold TKAts;refine ⟨_,_,rfl,?_,?_⟩
 ·unfold cV; rfl
 unfold TKAts;refine ⟨_,_,rfl,?_,?_⟩
 ·unfold cV; rfl
 unfold TKAts
 rfl
def oB (K:Za) (H:Hp) (c:bb) (v:V):Prop:=match c.from_ with
 | none=>v=.non
 | some (k,sg)=>∃t ha g,v=.ref t/\H t=some (.tup [.ref ha,.ref g])/\k7 H ha k/\bJ K H g (sg.map V.str)
theorem oB.kt {K:Za}{H H':Hp}{c:bb}{v:V}(k:hE H H') (h:oB K H c v):oB K H' c v:=by
 unfold oB at h ⊢;cases e:c.from_ with
 | none=>rw [e] at h; exact h
 | some p =>
  rw [e] at h;obtain ⟨t,ha,g,h1,h2,h3,h4⟩:=h;exact ⟨t,ha,g,h1,k _ _ h2,k _ _ h3,bJ.kt k h4⟩
abbrev gR (K:Za) (H:Hp) (kvs:List (TK×V)) (P:List bb):Prop:=Paired (fun (kv:TK×V) (c:bb)=>kv.1=nq c.key/\oB K H c kv.2) kvs P
theorem gR.kt {K:Za}{H H':Hp}{kvs:List (TK×V)}{P:List bb}(k:hE H H') (h:gR K H kvs P):gR K H' kvs P:=Paired.mapP h fun _ _ r=>⟨r.1,r.2.kt k⟩
theorem gR.val {K:Za}{H:Hp}:∀{kvs:List (TK×V)}{P:List bb},gR K H kvs P->(P.map (·.key)).Nodup->∀{i:Nat}{c:bb},P[i]?=some c->∃v,bG kvs (nq c.key)=some v/\oB K H c v
 | _,_,.nil,_,i,c,h=>by simp at h
 | _,_,.cons (a:=kv) (b:=b) r t,nd,0,c,h=>by
  injection h with h;subst h;exact ⟨kv.2,cb r.1,r.2⟩
 | _,_,.cons (a:=kv) (b:=b) r t,nd,i+1,c,h=>by
  rw [aZ,lW] at nd;rw [List.getElem?_cons_succ] at h;obtain ⟨v,h1,h2⟩:=gR.val t nd.2 (i:=i) h;refine ⟨v,?_,h2⟩;rw [b9,h1];intro z;rw [r.1] at z;exact nd.1 (by rw [Bk z]; exact kh (f:=(·.key)) (aO h))
theorem gR.none {K:Za}{H:Hp}{kvs:List (TK×V)}{P:List bb}(h:gR K H kvs P) {k:Pr}(n:iq P k=false):bG kvs (nq k)=.none:=by
 refine vQ ?_
 induction h with
 | nil=>intro kv hk; exact nomatch hk
 | @cons a b as bs r t ih =>
  intro kv hk;have n':decide (b.key=k)=false/\iq bs k=false:=by
   unfold iq at n ⊢;rw [mw,Bool.or_eq_false_iff] at n;exact n
  rcases cP.1 hk with rfl | hk
  ·rw [r.1]; exact fun e=>of_decide_eq_false n'.1 (Bk e)
  ·exact ih n'.2 kv hk
theorem Paired.rev {α β:Type}{R:α->β->Prop}:∀{a:List α}{b:List β},Paired R a b->Paired R a.reverse b.reverse
 | _,_,.nil=>.nil
 | _,_,.cons r t=>by
  rw [vK,vK];exact Paired.app (Paired.rev t) (.cons r .nil)
inductive e_ (K:Za) (vs:List V) (H:Hp) (Q:VK) (E:XK):Prop
 | mk (cd pa:Addr) (kvs:List (TK×V)) (ms ws:List (List (Sg×Nat))) (P:List bb) (i:Nat) (c:bb):(vs=[.ref cd,.ref pa])->(H cd=some (.dT kvs))->(gR K H kvs P)->(pR ms ws P)->(P[i]?=some c)->(k7 H pa c.key)->(P.length<=100000)->(∀(l:Addr) (gs:Ze) (H':Hp),H' l=some (.lst (gs.map V.ref))->Paired (fun g (sg:Sg)=>bJ K H' g (sg.map V.str)) gs c.story->H l=none->ac H H'->Q (.ref l) H')->e_ K vs H Q E
theorem zI {K:Za}{vs:List V}{H:Hp}{Q:VK}{E:XK}(h:e_ K vs H Q E):zb K (bC Q) (start Ax vs) H:=by
 obtain ⟨cd,pa,kvs,ms,ws,P,i,c,rfl,hcd,hP,ok,hc,hpa,hz,k⟩:=h;refine ⟨(by show 0<=aj; decide),fun l hl=>?_⟩;have hi:i<P.length:=by
  rcases dZ i P.length with z | z
  ·exact z
  ·rw [eW z] at hc; cases hc
 refine ⟨fun m σ H'=>∃(pa:Addr) (c':bb) (gs:Ze) (L:List Sg) (x3:Option V),σ=[some (.ref cd),some (.ref pa),some (.ref l),x3]/\P[m]?=some c'/\H' l=some (.lst (gs.map V.ref))/\Paired (fun g (sg:Sg)=>bJ K H' g (sg.map V.str)) gs L/\c.story=c'.story++L.reverse/\k7 H' pa c'.key/\L.length+m<=i/\ac H H',
  ⟨i,pa,c,[],[],_,rfl,hc,aa,.nil,(fV _).symm,kp hpa hl,by simp,ac.new hl⟩,?_⟩
 rintro m σ H1 ⟨pa,c',gs,L,x3,rfl,hc',hl1,hg,es,hpa1,hlen,S1⟩;have P1:=hP.kt (ac.kt S1);have cd1:=S1 _ _ hcd;obtain ⟨v,hv,cv⟩:=P1.val ok.nd hc';have g1:jT K H1 cd (.ref pa) (some v):=.inr ⟨_,nq c'.key,pa,.inl cd1,rfl,cV.isIn 8 (fq _) hpa1.tk,fq _,hv.symm⟩;refine ⟨_,rfl,_,rfl,cd,v,rfl,g1,_,rfl,?_⟩;unfold oB at cv;cases ef:c'.from_ with
 | none =>
  rw [ef] at cv;subst cv;refine cC ?_;have m0:m=0:=by
   rcases ok.back m c' hc' with q | ⟨j,b,sg,_,_,q,_⟩
   ·exact q
   ·rw [ef] at q; cases q
  subst m0;obtain ⟨r,er⟩:=ok.zero;rw [er] at hc';injection hc' with hc';have es':c.story=L.reverse:=by rw [es,<-hc']; rfl
  refine ⟨_,rfl,.inl ⟨rfl,_,aB.of hl1⟩,l,_,rfl,rfl,hl1,?_⟩;have kt:hE H1 (upd H1 l (.lst (gs.map V.ref).reverse)):=cL hl1;refine ⟨_,rfl,k l gs.reverse _ (by rw [aa,List.map_reverse]) ?_ hl fun b o e=>by rw [af (ae e hl)]; exact S1 _ _ e⟩;rw [es'];exact Paired.rev (Paired.mapP hg fun _ _ r=>bJ.kt kt r)
 | some kp' =>
  obtain ⟨kk,sg⟩:=kp';rw [ef] at cv;obtain ⟨t,ha,g,rfl,ht,hha,hgs⟩:=cv;refine dO ?_;have par:∃(j:Nat) (b:bb),j<m/\P[j]?=some b/\b.key=kk/\c'.story=b.story++[sg]:=by
   rcases ok.back m c' hc' with q | ⟨j,b,sg',lt,hb,q,e,_⟩
   ·subst q;obtain ⟨r,er⟩:=ok.zero;rw [er] at hc';injection hc' with hc';rw [<-hc'] at ef;cases ef
   ·rw [ef] at q;injection q with q;injection q with q1 q2;subst q2;exact ⟨j,b,lt,hb,q1.symm,e⟩
  obtain ⟨j,b,lt,hb,rfl,eb⟩:=par;refine ⟨fun σ' H'=>∃(pa:Addr) (gs:Ze) (x3:Option V),σ'=[some (.ref cd),some (.ref pa),some (.ref l),x3]/\H' l=some (.lst (gs.map V.ref))/\Paired (fun g (sg:Sg)=>bJ K H' g (sg.map V.str)) gs (L++[sg])/\k7 H' pa b.key/\ac H H',fun σ' H' ⟨pa,gs,x3,q1,q2,q3,q4,q5⟩=>⟨j,lt,pa,b,gs,L++[sg],x3,q1,hb,q2,q3,?_,q4,?_,q5⟩,?_⟩
  ·rw [es,eb,List.reverse_append,cJ]; rfl
  ·rw [ax]; show L.length+1+j<=i; omega
  refine ⟨_,rfl,_,rfl,cd,_,rfl,g1,t,_,rfl,bL.of ht,rfl,_,_,rfl,_,_,rfl,rfl,?_⟩;refine ⟨_,rfl,.inl ⟨rfl,_,aB.of hl1⟩,_,rfl,l,_,.ref g,rfl,rfl,hl1,?_,ha,gs++[g],_,rfl,?_,?_,?_,?_⟩
  ·rw [ai,Paired.length hg,j5]; omega
  ·rw [aa,au]; rfl
  ·have kt:hE H1 (upd H1 l (.lst (gs.map V.ref++[.ref g]))):=cL hl1;exact cK (Paired.mapP hg fun _ _ r=>bJ.kt kt r) (bJ.kt kt hgs)
  ·exact cL hl1 _ _ hha
  ·intro b' o e;rw [af (ae e hl)];exact S1 _ _ e
theorem Ci {P:List Pr}{a b:Nat}(nd:P.Nodup) (h:∀p∈P,p.1<a/\p.2<b):P.length<=a * b:=by
 have h1:=hZ (L:=P.map fun p=>p.1 * b+p.2) (R:=i8 (a * b)) ?_ ?_
 ·rw [ai,rA] at h1; exact h1
 ·rw [oJ,List.pairwise_map];refine List.Pairwise.imp_of_mem (fun {x y} hx hy hne e=>hne ?_) (oJ.1 nd);obtain ⟨x1,x2⟩:=x;obtain ⟨y1,y2⟩:=y;have hx:=(h _ hx).2;have hy:=(h _ hy).2;simp only at hx hy e;have bp:0<b:=by omega
  have e1:x1=y1:=by
   have:=congrArg (· / b) e;simp only [Nat.add_comm (x1 * b),Nat.add_comm (y1 * b),Nat.add_mul_div_right _ _ bp,Nat.div_eq_of_lt hx,Nat.div_eq_of_lt hy,u5] at this;exact this
  subst e1;rw [show x2=y2 by omega]
 ·intro x hx;obtain ⟨p,hp,rfl⟩:=ay.1 hx;obtain ⟨h2,h3⟩:=h p hp;rw [List.mem_range];have:(p.1+1) * b<=a * b:=Nat.mul_le_mul_right b h2;rw [u_] at this;omega
def j8 (ms ws:List (List (Sg×Nat))) (P:List bb) (c:bb):Prop:=∀p∈ms.getD c.key.2 [],match bx (ws.getD c.key.1 []) p.1 with
 | none=>p.1.head?=some ("ask":Str)
 | some w=>iq P (w,p.2)=true
theorem yu {P r:List bb}{k:Pr}(h:iq P k=true):iq (P++r) k=true:=by
 unfold iq at h ⊢;rw [List.any_append,h]; rfl
theorem j8.mono {ms ws:List (List (Sg×Nat))}{P r:List bb}{c:bb}(h:j8 ms ws P c):j8 ms ws (P++r) c:=fun p hp=>by
 have:=h p hp;cases e:bx (ws.getD c.key.1 []) p.1 with
 | none=>rw [e] at this; exact this
 | some w=>rw [e] at this; exact yu this
theorem z7 {ws:List (List (Sg×Nat))}{P:List bb}{b:bb}(l:List (Sg×Nat)) (h:(bY (ws.getD b.key.1 []) b P l).2=none):∀p∈l,match bx (ws.getD b.key.1 []) p.1 with
 | none=>p.1.head?=some ("ask":Str)
 | some w=>iq (bY (ws.getD b.key.1 []) b P l).1 (w,p.2)=true:=by
 have key:∀n,n<=l.length->(bY (ws.getD b.key.1 []) b P (l.take n)).2=none->∀p∈l.take n,match bx (ws.getD b.key.1 []) p.1 with
  | none=>p.1.head?=some ("ask":Str)
  | some w=>iq (bY (ws.getD b.key.1 []) b P (l.take n)).1 (w,p.2)=true:=by
  intro n
  induction n with
  | zero=>intro _ _ p hp; rw [q_] at hp; exact nomatch hp
  | succ n ih =>
   intro hn;have hp:l[n]?=some l[n]:=br (by omega);have es:bY (ws.getD b.key.1 []) b P (l.take (n+1))=eA (ws.getD b.key.1 []) b (bY (ws.getD b.key.1 []) b P (l.take n)) l[n]:=by
    unfold bY; rw [take_snoc hp,fz]; rfl
   rw [es,take_snoc hp];have ih:=ih (by omega);generalize bY (ws.getD b.key.1 []) b P (l.take n)=q at ih;generalize l[n]=p at *;intro h0 x hx;have q0:q.2=none:=by
    unfold eA at h0;cases e:q.2 with
    | none=>rfl
    | some s=>rw [e] at h0; simp only at h0; rw [e] at h0; exact h0
   unfold eA at h0 ⊢;rw [q0] at h0 ⊢;rcases aW.1 hx with hx | hx
   ·have:=ih q0 x hx;cases e:bx (ws.getD b.key.1 []) x.1 with
    | none=>rw [e] at this; exact this
    | some w =>
     rw [e] at this;simp only at this ⊢;cases e3:bx (ws.getD b.key.1 []) p.1 with
     | none =>
      by_cases c:p.1.head?=some ("ask":Str)
      ·simp only [c,if_true]; exact this
      ·simp only [c,if_false]; exact this
     | some w' =>
      cases e4:iq q.1 (w',p.2) with
      | true=>simp only [e4,if_true]; exact this
      | false=>simp only [e4,kz,if_false]; exact yu this
   ·have:x=p:=by simpa using hx
    subst this;cases e3:bx (ws.getD b.key.1 []) x.1 with
    | none =>
     rw [e3] at h0;by_cases c:x.1.head?=some ("ask":Str)
     ·exact c
     ·simp only [c,if_false] at h0; cases h0
    | some w =>
     simp only;cases e4:iq q.1 (w,x.2) with
     | true=>simp only [e4,if_true]
     | false =>
      simp only [e4,kz,if_false];exact kQ.2 (by rw [au]; exact cX _ (by simp))
 have:=key l.length (aD _);rw [bm] at this;exact this h
theorem pB {l:List (Sg×Nat)}{sg:Sg}:bG (stK l) (jq sg)=(bx l sg).map fun n=>V.int (n:Nat):=by
 unfold bx stK
 induction l with
 | nil=>rfl
 | cons p l ih =>
  rw [aZ];by_cases c:p.1=sg
  ·rw [cb (by show jq p.1=jq sg; rw [c]),List.find?_cons_of_pos (by simpa using c)]; rfl
  ·rw [b9 (fun z=>c (lD z)),List.find?_cons_of_neg (by simpa using c),ih]
structure lT (H0 H:Hp) (a1 a2:Addr) (ts1 ts2:Ze) (ws ms:List (List (Sg×Nat))):Prop where
 h1:H a1=some (.lst (ts1.map V.ref))
 h2:H a2=some (.lst (ts2.map V.ref))
 r1:yZ H0 H ts1 ws
 r2:yZ H0 H ts2 ms
 S:ac H0 H
theorem lT.same {H0 H H':Hp}{a1 a2:Addr}{ts1 ts2:Ze}{ws ms:List (List (Sg×Nat))}(h:lT H0 H a1 a2 ts1 ts2 ws ms) (S:ac H H'):lT H0 H' a1 a2 ts1 ts2 ws ms :=
 ⟨S _ _ h.h1,S _ _ h.h2,Paired.mapP h.r1 fun _ _ r=>⟨r.1,Rd.same S r.2⟩,Paired.mapP h.r2 fun _ _ r=>⟨r.1,Rd.same S r.2⟩,h.S.trans S⟩
theorem Rd.ne {H:Hp}{a d:Addr}{k:List (TK×V)}{o:HO}(n:a≠d) (h:Rd H a (.dT k)):Rd (upd H d o) a (.dT k):=by
 rcases h with h | ⟨q,h⟩
 ·exact .inl (by rw [af n]; exact h)
 ·exact .inr ⟨q,by rw [af n]; exact h⟩
theorem lT.own {H0 H:Hp}{a1 a2 d:Addr}{o:HO}{ts1 ts2:Ze}{ws ms:List (List (Sg×Nat))}(h:lT H0 H a1 a2 ts1 ts2 ws ms) (d0:H0 d=none) (n1:a1≠d) (n2:a2≠d) (m1:∀t∈ts1,t≠d) (m2:∀t∈ts2,t≠d):lT H0 (upd H d o) a1 a2 ts1 ts2 ws ms:=by
 have mem:∀{ts:Ze}{st:List (List (Sg×Nat))},yZ H0 H ts st->(∀t∈ts,t≠d)->yZ H0 (upd H d o) ts st:=by
  intro ts st r
  induction r with
  | nil=>intro _; exact .nil
  | @cons a b as bs q t ih=>intro m; exact .cons ⟨q.1,Rd.ne (m a cy) q.2⟩ (ih fun x hx=>m x (eO _ hx))
 exact ⟨by rw [af n1]; exact h.h1,by rw [af n2]; exact h.h2,mem h.r1 m1,mem h.r2 m2,fun b q e=>by rw [af (ae e d0)]; exact h.S _ _ e⟩
theorem lT.frz {H0 H:Hp}{a1 a2 d:Addr}{o:Obj}{kvs:List (TK×V)}{ts1 ts2:Ze}{ws ms:List (List (Sg×Nat))}(h:lT H0 H a1 a2 ts1 ts2 ws ms) (d0:H0 d=none) (hd:H d=some (.dT kvs)):lT H0 (upd H d (.frz o (.dT kvs))) a1 a2 ts1 ts2 ws ms :=
 ⟨by rw [af (fun z=>by have:=h.h1; rw [z,hd] at this; cases this)]; exact h.h1,by rw [af (fun z=>by have:=h.h2; rw [z,hd] at this; cases this)]; exact h.h2,
  Paired.mapP h.r1 fun _ _ r=>⟨r.1,Rd.frz hd r.2⟩,Paired.mapP h.r2 fun _ _ r=>⟨r.1,Rd.frz hd r.2⟩,fun b q e=>by rw [af (ae e d0)]; exact h.S _ _ e⟩
theorem yZ.ne {H0 H:Hp}{d:Addr}{ts:Ze}{st:List (List (Sg×Nat))}(h:yZ H0 H ts st) (n:∀k,¬Rd H d (.dT k)):∀t∈ts,t≠d:=by
 induction h with
 | nil=>intro t ht; exact nomatch ht
 | @cons a b as bs q t ih =>
  intro x hx;rcases cP.1 hx with rfl | hx
  ·intro z; subst z; exact n _ q.2
  ·exact ih x hx
structure hC (K:Za) (H0 H:Hp) (a1 a2 cd pl:Addr) (ts1 ts2 prs:Ze) (kvs:List (TK×V)) (ws ms:List (List (Sg×Nat))) (P:List bb):Prop where
 i:lT H0 H a1 a2 ts1 ts2 ws ms
 hcd:H cd=some (.dT kvs)
 came:gR K H kvs P
 hpl:H pl=some (.lst (prs.map V.ref))
 hprs:Paired (fun a (c:bb)=>k7 H a c.key) prs P
 ok:pR ms ws P
 rg:∀c∈P,c.key.1<ts1.length/\c.key.2<ts2.length
 c0:H0 cd=none
 p0:H0 pl=none
 nc1:∀t∈ts1,t≠cd
 nc2:∀t∈ts2,t≠cd
 np1:a1≠pl
 np2:a2≠pl
theorem hC.same {K:Za}{H0 H H':Hp}{a1 a2 cd pl:Addr}{ts1 ts2 prs:Ze}{kvs:List (TK×V)}{ws ms:List (List (Sg×Nat))}{P:List bb}(h:hC K H0 H a1 a2 cd pl ts1 ts2 prs kvs ws ms P) (S:ac H H'):hC K H0 H' a1 a2 cd pl ts1 ts2 prs kvs ws ms P :=
 ⟨h.i.same S,S _ _ h.hcd,h.came.kt (ac.kt S),S _ _ h.hpl,Paired.mapP h.hprs fun _ _ r=>S _ _ r,h.ok,h.rg,h.c0,h.p0,h.nc1,h.nc2,h.np1,h.np2⟩
theorem hC.few2 {K:Za}{H0 H:Hp}{a1 a2 cd pl:Addr}{ts1 ts2 prs:Ze}{kvs:List (TK×V)}{ws ms:List (List (Sg×Nat))}{P:List bb}(h:hC K H0 H a1 a2 cd pl ts1 ts2 prs kvs ws ms P):P.length<=ts1.length * ts2.length:=by
 have:=Ci (P:=P.map (·.key)) (a:=ts1.length) (b:=ts2.length) h.ok.nd fun p hp=>by
  obtain ⟨c,hc,rfl⟩:=ay.1 hp;exact h.rg c hc
 rw [ai] at this;exact this
theorem hC.few {K:Za}{H0 H:Hp}{a1 a2 cd pl:Addr}{ts1 ts2 prs:Ze}{kvs:List (TK×V)}{ws ms:List (List (Sg×Nat))}{P:List bb}(h:hC K H0 H a1 a2 cd pl ts1 ts2 prs kvs ws ms P) (z1:ts1.length<=256) (z2:ts2.length<=256):P.length<=65536:=by
 have:=h.few2;have h2:ts1.length * ts2.length<=256 * 256:=oH z1 z2;omega
theorem hC.frz {K:Za}{H0 H:Hp}{a1 a2 cd pl d:Addr}{o:Obj}{ts1 ts2 prs:Ze}{kvs kd:List (TK×V)}{ws ms:List (List (Sg×Nat))}{P:List bb}(h:hC K H0 H a1 a2 cd pl ts1 ts2 prs kvs ws ms P) (d0:H0 d=none) (hd:H d=some (.dT kd)) (n:d≠cd):hC K H0 (upd H d (.frz o (.dT kd))) a1 a2 cd pl ts1 ts2 prs kvs ws ms P :=
 ⟨h.i.frz d0 hd,by rw [af n.symm]; exact h.hcd,h.came.kt (C5 hd),by rw [af (fun z=>by have:=h.hpl; rw [z,hd] at this; cases this)]; exact h.hpl,Paired.mapP h.hprs fun _ _ r=>C5 hd _ _ r,h.ok,h.rg,h.c0,h.p0,h.nc1,h.nc2,h.np1,h.np2⟩
theorem hC.add {K:Za}{H0 H:Hp}{a1 a2 cd pl:Addr}{ts1 ts2 prs:Ze}{kvs:List (TK×V)}{ws ms:List (List (Sg×Nat))}{P:List bb}(h:hC K H0 H a1 a2 cd pl ts1 ts2 prs kvs ws ms P) {c:bb}{v:V}{pa:Addr}(hn:iq P c.key=false) (hv:oB K H c v) (hpa:k7 H pa c.key) (ok:pR ms ws (P++[c])) (rg:c.key.1<ts1.length/\c.key.2<ts2.length) :
  hC K H0 (upd (upd H cd (.dT (cI kvs (nq c.key) v))) pl (.lst (prs.map V.ref++[.ref pa]))) a1 a2 cd pl ts1 ts2 (prs++[pa]) (kvs++[(nq c.key,v)]) ws ms (P++[c]):=by
 have npc:pl≠cd:=fun z=>by have:=h.hpl; rw [z,h.hcd] at this; cases this
 have k1:hE H (upd H cd (.dT (cI kvs (nq c.key) v))):=C5 h.hcd;have pl1:upd H cd (.dT (cI kvs (nq c.key) v)) pl=some (.lst (prs.map V.ref)):=by rw [af npc]; exact h.hpl
 have k2:hE H (upd (upd H cd (.dT (cI kvs (nq c.key) v))) pl (.lst (prs.map V.ref++[.ref pa]))):=k1.trans (cL pl1);have na1:a1≠cd:=fun z=>by have:=h.i.h1; rw [z,h.hcd] at this; cases this
 have na2:a2≠cd:=fun z=>by have:=h.i.h2; rw [z,h.hcd] at this; cases this
 have i1:=h.i.own (o:=.dT (cI kvs (nq c.key) v)) h.c0 na1 na2 h.nc1 h.nc2;have nr:∀k,¬Rd (upd H cd (.dT (cI kvs (nq c.key) v))) pl (.dT k):=fun k r=>by
  rcases r with r | ⟨o,r⟩
  ·rw [pl1] at r; cases r
  ·rw [pl1] at r; cases r
 refine ⟨i1.own h.p0 h.np1 h.np2 (yZ.ne i1.r1 nr) (yZ.ne i1.r2 nr),?_,?_,?_,?_,ok,?_,h.c0,h.p0,h.nc1,h.nc2,h.np1,h.np2⟩
 ·rw [af npc.symm,aa,fH _ (h.came.none hn)]
 ·exact cK (h.came.kt k2) ⟨rfl,hv.kt k2⟩
 ·rw [aa,au]; rfl
 ·exact cK (Paired.mapP h.hprs fun _ _ r=>k2 _ _ r) (k2 _ _ hpa)
 ·intro x hx;rcases aW.1 hx with hx | hx
  ·exact h.rg x hx
  ·rw [bz.1 hx]; exact rg
structure HY (ts1 ts2:Ze) (ws ms:List (List (Sg×Nat))):Prop where
 z1:ts1.length<=256
 z2:ts2.length<=256
 c1:∀i,∀p∈ws.getD i [],p.2<ts1.length
 c2:∀i,∀p∈ms.getD i [],p.2<ts2.length
 ne:∀i,∀p∈ms.getD i [],p.1≠[]
theorem ym {l:List (Sg×Nat)}{sg:Sg}{w:Nat}(h:bx l sg=some w):(sg,w)∈l:=by
 unfold bx at h;obtain ⟨p,hp,e⟩:=mn.1 h;have h1:=List.find?_some hp;have h2:=List.mem_of_find?_eq_some hp;obtain ⟨a,b⟩:=p;have h1:a=sg:=of_decide_eq_true h1;subst h1;have e:b=w:=e;subst e;exact h2
theorem De {H:Hp}{a b:Addr}{x y:HO}(n:a≠b):upd (upd H a x) b y=upd (upd H b y) a x:=by
 funext c;unfold upd;by_cases h1:c=b
 ·by_cases h2:c=a
  ·exact absurd (h2.symm.trans h1) n
  ·simp [h1,h2,n.symm]
 ·by_cases h2:c=a
  ·simp [h1,h2,n]
  ·simp [h1,h2]
theorem gR.has {K:Za}{H:Hp}{kvs:List (TK×V)}{P:List bb}(h:gR K H kvs P) (nd:(P.map (·.key)).Nodup) (k:Pr):(bG kvs (nq k)).isSome=iq P k:=by
 cases e:iq P k with
 | false=>rw [h.none e]; rfl
 | true =>
  obtain ⟨c,hc,rfl⟩:=ay.1 (kQ.1 e);obtain ⟨i,hi,ei⟩:=u6 hc;obtain ⟨v,h1,_⟩:=h.val nd (i:=i) (c:=c) (by rw [br hi,ei]);rw [h1]; rfl
def z9 (K:Za) (sp:Sp):TS :=
 cH (tB (fE K V7 V6)) (cH (aX (aL Fw (aL (jH K) V7 (tC (.int 0))) (tC (.str "ask")))) (bu (bB (aS (aM sp (aq V2 (aA V5))) V7))) (bR)) (cH (tB (fE K (bB (aS (gS K V6 V7) V8)) V2)) (ao (pb K V2 (bB (aS (gS K V6 V7) V8)) (bB (aS V5 V7)))
 (bH (r9 K "list" cG V3 (aA (bB (aS (gS K V6 V7) V8)))))) (bR))
section
variable {K:Za}{H0:Hp}{a1 a2 cd pl ha wd md:Addr}{ts1 ts2:Ze}{ws ms:List (List (Sg×Nat))}{n:Nat}{b:bb}{wl l:List (Sg×Nat)}{o:Obj}{D:lV}
theorem FL (C:HY ts1 ts2 ws ms) {H H':Hp}{prs:Ze}{kvs:List (TK×V)}{P:List bb}{p:Sg×Nat}{sb pp:Addr}{x7 x8:Option V}(A:hC K H0 H a1 a2 cd pl ts1 ts2 prs kvs ws ms P) (hb:P[n]?=some b) (hha:k7 H ha b.key) (hwd:Rd H wd (.dT (stK wl))) (ewl:wl=ws.getD b.key.1 []) (hp:p∈ms.getD b.key.2 []) (hsb:bJ K H sb (p.1.map V.str)) (nwc:wd≠cd)
  (fault:∀(t lst:Addr) (gs:Ze) (H2:Hp),bx wl p.1=none->p.1.head?≠some ("ask":Str)->H2 t=some (.tup [.ref lst,.ref sb])->H2 lst=some (.lst (gs.map V.ref))->Paired (fun g (sg:Sg)=>bJ K H2 g (sg.map V.str)) gs b.story->bJ K H2 sb (p.1.map V.str)->H0 t=none->H0 lst=none->lT H0 H2 a1 a2 ts1 ts2 ws ms->D.rt (.ref t) H2)
  (next:∀(prs':Ze) (kvs':List (TK×V)) (H2:Hp),(eA wl b (P,none) p).2=none->hC K H0 H2 a1 a2 cd pl ts1 ts2 prs' kvs' ws ms (eA wl b (P,none) p).1->(∀x u,H x=some u->x≠cd->x≠pl->H2 x=some u)->D.nx [some (.ref a1),some (.ref a2),some (.ref cd),some (.ref pl),some (.int ((n:Int)+1)),some (.ref ha),some (.ref wd),some (.ref sb),some (.int (p.2:Nat))] H2) :
  z9 K (e_ K) D [some (.ref a1),some (.ref a2),some (.ref cd),some (.ref pl),some (.int ((n:Int)+1)),some (.ref ha),some (.ref wd),some (.ref sb),some (.int (p.2:Nat))] H:=by
 have few:=A.few C.z1 C.z2;have gw:∀{H:Hp},Rd H wd (.dT (stK wl))->bJ K H sb (p.1.map V.str)->jT K H wd (.ref sb) ((bx wl p.1).map fun n=>V.int (n:Nat)):=fun hwd hsb=>.inr ⟨_,jq p.1,sb,hwd,rfl,vR hsb,dL _,pB.symm⟩;refine ⟨_,rfl,_,rfl,wd,_,rfl,gw hwd hsb,_,rfl,?_⟩;cases e:bx wl p.1 with
 | none =>
  refine dO ?_;obtain ⟨s0,rest,es⟩:=List.exists_cons_of_ne_nil (C.ne _ p hp);have at0:pI (p.1.map V.str) 0=some (.str s0):=by rw [es]; exact bc (j:=0) rfl
  refine ⟨_,rfl,sb,_,0,_,rfl,rfl,bJ.sq hsb,at0,rfl,_,rfl,?_⟩;refine CC (P:=p.1.head?≠some ("ask":Str)) (by rw [es]; simp) (fun c=>?_) (fun c=>?_)
  ·refine ⟨_,rfl,_,rfl,cd,ha,kvs,ms,ws,P,n,b,rfl,A.hcd,A.came,A.ok,hb,hha,by omega,fun lst gs H2 hl hg hl0 S2=>⟨_,rfl,(by show 2<=aj; decide),fun t ht=>?_⟩⟩;have S3:ac H2 (upd H2 t (.tup [.ref lst,.ref sb])):=ac.new ht;exact fault t lst gs _ e c aa (S3 _ _ hl) (Paired.mapP hg fun _ _ r=>bJ.kt (ac.kt S3) r) (bJ.kt ((ac.kt S2).trans (ac.kt S3)) hsb) ((A.i.S.trans S2).free ht) (A.i.S.free hl0) (A.i.same (S2.trans S3))
  ·have c':=Classical.not_not.1 c;have e1:eA wl b (P,none) p=(P,none):=by unfold eA; simp only [e,c',if_true]
   exact next prs kvs H (by rw [e1]) (by rw [e1]; exact A) fun x u q _ _=>q
 | some w =>
  refine cC ?_;have gw1:∀{H:Hp},Rd H wd (.dT (stK wl))->bJ K H sb (p.1.map V.str)->jT K H wd (.ref sb) (some (.int (w:Nat))):=fun h1 h2=>by
   have:=gw h1 h2;rw [e] at this;exact this
  have hw:=ym e;rw [ewl] at hw;have rg:w<ts1.length/\p.2<ts2.length:=⟨C.c1 _ _ hw,C.c2 _ _ hp⟩;have l2:([V.int (w:Nat),V.int (p.2:Nat)]:List V).length<=aj:=by show 2<=aj; decide
  refine ⟨_,rfl,_,rfl,wd,_,rfl,gw1 hwd hsb,_,rfl,l2,fun p1 hp1=>?_⟩;have S1:ac H (upd H p1 (.tup [.int (w:Nat),.int (p.2:Nat)])):=ac.new hp1;have pr1:k7 (upd H p1 (.tup [.int (w:Nat),.int (p.2:Nat)])) p1 (w,p.2):=aa;generalize upd H p1 (.tup [.int (w:Nat),.int (p.2:Nat)])=H1 at S1 pr1 ⊢;have A1:=A.same S1;refine ⟨_,rfl,cd,_,rfl,.inr ⟨_,nq (w,p.2),p1,.inl A1.hcd,rfl,cV.isIn 8 (fq _) pr1.tk,fq _,rfl⟩,_,rfl,?_⟩;rw [A1.came.has A1.ok.nd];cases eh:iq P (w,p.2) with
  | true =>
   refine cC ?_;have e1:eA wl b (P,none) p=(P,none):=by unfold eA; simp only [e,eh,if_true]
   exact next prs kvs H1 (by rw [e1]) (by rw [e1]; exact A1) fun x u q _ _=>S1 _ _ q
  | false =>
   refine dO ?_;have e1:eA wl b (P,none) p=(P++[⟨(w,p.2),some (b.key,p.1),b.story++[p.1]⟩],none):=by unfold eA; simp only [e,eh,kz,if_false]
   refine ⟨_,rfl,_,rfl,(by show 2<=aj; decide),fun t ht=>⟨_,rfl,_,rfl,_,rfl,wd,_,rfl,gw1 (Rd.same (S1.trans (ac.new ht)) hwd) (bJ.kt (ac.kt (S1.trans (ac.new ht))) hsb),_,rfl,l2,fun p2 hp2=>?_⟩⟩;have S2:ac H1 (upd H1 t (.tup [.ref ha,.ref sb])):=ac.new ht;have t2:upd H1 t (.tup [.ref ha,.ref sb]) t=some (.tup [.ref ha,.ref sb]):=aa;generalize upd H1 t (.tup [.ref ha,.ref sb])=H2 at S2 t2 hp2 ⊢;have S3:ac H2 (upd H2 p2 (.tup [.int (w:Nat),.int (p.2:Nat)])):=ac.new hp2;have pr3:k7 (upd H2 p2 (.tup [.int (w:Nat),.int (p.2:Nat)])) p2 (w,p.2):=aa;generalize upd H2 p2 (.tup [.int (w:Nat),.int (p.2:Nat)])=H3 at S3 pr3 ⊢;have S03:=(S1.trans S2).trans S3;have A3:=A.same S03;have lk:kvs.length<aj:=by rw [Paired.length A.came,j5]; omega
   refine ⟨cd,p2,kvs,nq (w,p.2),rfl,rfl,A3.hcd,cV.c 8 (fq _) pr3.tk,fq _,lk,?_⟩;have npc:pl≠cd:=fun z=>by have:=A.hpl; rw [z,A.hcd] at this; cases this
   have pl4:upd H3 cd (.dT (cI kvs (nq (w,p.2)) (.ref t))) pl=some (.lst (prs.map V.ref)):=by rw [af npc]; exact A3.hpl
   have wd4:Rd (upd H3 cd (.dT (cI kvs (nq (w,p.2)) (.ref t)))) wd (.dT (stK wl)):=Rd.ne nwc (Rd.same S03 hwd);refine ⟨_,rfl,.inl ⟨rfl,_,aB.of pl4⟩,_,rfl,_,rfl,wd,_,rfl,gw1 wd4 (bJ.kt ((ac.kt S03).trans (C5 A3.hcd)) hsb),_,rfl,l2,fun p3 hp3=>?_⟩;have ncp:cd≠p3:=fun z=>by rw [<-z,aa] at hp3; cases hp3
   have hp3':H3 p3=none:=by rw [af ncp.symm] at hp3; exact hp3
   rw [De ncp];have S4:ac H3 (upd H3 p3 (.tup [.int (w:Nat),.int (p.2:Nat)])):=ac.new hp3';have pr4:k7 (upd H3 p3 (.tup [.int (w:Nat),.int (p.2:Nat)])) p3 (w,p.2):=aa;generalize upd H3 p3 (.tup [.int (w:Nat),.int (p.2:Nat)])=H4 at S4 pr4 ⊢;have A4:=A3.same S4;have S04:=S03.trans S4;have pl5:upd H4 cd (.dT (cI kvs (nq (w,p.2)) (.ref t))) pl=some (.lst (prs.map V.ref)):=by rw [af npc]; exact A4.hpl
   refine ⟨pl,_,.ref p3,rfl,rfl,pl5,?_,?_⟩
   ·rw [ai,Paired.length A.hprs,j5]; omega
   have cv:oB K H4 ⟨(w,p.2),some (b.key,p.1),b.story++[p.1]⟩ (.ref t):=⟨t,ha,sb,rfl,S4 _ _ (S3 _ _ t2),S04 _ _ hha,bJ.kt (ac.kt S04) hsb⟩;refine next (prs++[p3]) (kvs++[(nq (w,p.2),.ref t)]) _ (by rw [e1]) ?_ fun x u q n1 n2=>by rw [af n2,af n1]; exact S04 _ _ q
   rw [e1];exact A4.add (c:=⟨(w,p.2),some (b.key,p.1),b.story++[p.1]⟩) eh cv pr4 (A.ok.add hb eh (by rw [<-ewl]; exact e) hp) rg
end
def gP (ms ws:List (List (Sg×Nat))):Nat->List bb×Option (List Sg×Sg)
 | 0=>([⟨(0,0),none,[]⟩],none)
 | n+1=>match (gP ms ws n).2 with
  | some _=>gP ms ws n
  | none=>match (gP ms ws n).1[n]? with
   | none=>gP ms ws n
   | some c=>((bY (ws.getD c.key.1 []) c (gP ms ws n).1 (ms.getD c.key.2 [])).1,(bY (ws.getD c.key.1 []) c (gP ms ws n).1 (ms.getD c.key.2 [])).2.map fun sg=>(c.story,sg))
theorem yo {ms ws:List (List (Sg×Nat))}{n:Nat}{P:List bb}{c:bb}(h:gP ms ws n=(P,none)) (hc:P[n]?=some c):gP ms ws (n+1)=((bY (ws.getD c.key.1 []) c P (ms.getD c.key.2 [])).1,(bY (ws.getD c.key.1 []) c P (ms.getD c.key.2 [])).2.map fun sg=>(c.story,sg)):=by
 show (match (gP ms ws n).2 with | some _=>_ | none=>_)=_
 rw [h];simp only [hc]
theorem qa (w:List (Sg×Nat)) (b:bb):∀(l:List (Sg×Nat)) (q:List bb×Option Sg) (s:Sg),q.2=some s->(l.foldl (eA w b) q).2=some s
 | [],_,_,h=>h
 | p::l,q,s,h=>by
  rw [gK];have e:eA w b q p=q:=by unfold eA; rw [h]
  rw [e];exact qa w b l q s h
theorem yn {w:List (Sg×Nat)}{b:bb}{P:List bb}{l:List (Sg×Nat)}{i:Nat}{p:Sg×Nat}(h:(bY w b P (l.take i)).2=none) (hp:l[i]?=some p) (h1:bx w p.1=none) (h2:p.1.head?≠some ("ask":Str)):(bY w b P l).2=some p.1:=by
 have e:l=l.take i++p::l.drop (i+1):=by
  obtain ⟨hi,ei⟩:=bE.1 hp;rw [<-ei,List.getElem_cons_drop hi,re]
 unfold bY at h ⊢;rw [e,fz,gK];refine qa w b _ _ _ ?_;generalize (l.take i).foldl (eA w b) (P,none)=q at h;unfold eA;simp only [h,h1,h2,if_false]
theorem yZ.rd {H0 H:Hp}{ts:Ze}{st:List (List (Sg×Nat))}(h:yZ H0 H ts st) {i:Nat}{d:Addr}(e:ts[i]?=some d):H0 d=none/\Rd H d (.dT (stK (st.getD i []))):=by
 obtain ⟨l,hl,h0,hr⟩:=Paired.getL h e;have:st.getD i []=l:=by rw [qY,hl]; rfl
 rw [this];exact ⟨h0,hr⟩
theorem GV {K:Za}{H0:Hp}{a1 a2 cd pl ha wd md:Addr}{ts1 ts2:Ze}{ws ms:List (List (Sg×Nat))}{n:Nat}{b:bb}{o:Obj}{D:lV}(C:HY ts1 ts2 ws ms) {H:Hp}{prs:Ze}{kvs:List (TK×V)}{P:List bb}{x7 x8:Option V}(A:hC K H0 H a1 a2 cd pl ts1 ts2 prs kvs ws ms P) (hb:P[n]?=some b) (hha:k7 H ha b.key)
  (ewd:ts1[b.key.1]?=some wd) (emd:ts2[b.key.2]?=some md) (hmd:H md=some (.frz o (.dT (stK (ms.getD b.key.2 [])))))
  (fault:∀(P':List bb) (p:Sg×Nat) (sb t lst:Addr) (gs:Ze) (H2:Hp),pR ms ws P'->(∃r,P'=P++r)->(bY (ws.getD b.key.1 []) b P (ms.getD b.key.2 [])).2=some p.1->p∈ms.getD b.key.2 []->bx (ws.getD b.key.1 []) p.1=none->p.1.head?≠some ("ask":Str)->H2 t=some (.tup [.ref lst,.ref sb])->H2 lst=some (.lst (gs.map V.ref))->Paired (fun g (sg:Sg)=>bJ K H2 g (sg.map V.str)) gs b.story->bJ K H2 sb (p.1.map V.str)->H0 t=none->H0 lst=none->lT H0 H2 a1 a2 ts1 ts2 ws ms->D.rt (.ref t) H2)
  (next:∀(P':List bb) (prs':Ze) (kvs':List (TK×V)) (x7 x8:Option V) (H2:Hp),(∃r,P'=P++r)->bY (ws.getD b.key.1 []) b P (ms.getD b.key.2 [])=(P',none)->j8 ms ws P' b->hC K H0 H2 a1 a2 cd pl ts1 ts2 prs' kvs' ws ms P'->D.nx [some (.ref a1),some (.ref a2),some (.ref cd),some (.ref pl),some (.int ((n:Int)+1)),some (.ref ha),some (.ref wd),x7,x8] H2) :
  HF (Gg md o (.dT (stK (ms.getD b.key.2 []))) (stK (ms.getD b.key.2 [])).length (Al K (stK (ms.getD b.key.2 [])))) (ir K 2 (aY U7 (aY U8 (g8)))) (z9 K (e_ K)) D [some (.ref a1),some (.ref a2),some (.ref cd),some (.ref pl),some (.int ((n:Int)+1)),some (.ref ha),some (.ref wd),x7,x8] H:=by
 have ell:(stK (ms.getD b.key.2 [])).length=(ms.getD b.key.2 []).length:=by unfold stK; rw [ai]
 have lfok:=fun i=>Ed A.ok hb ((ms.getD b.key.2 []).take i) fun p hp=>eK hp;have lt:n<P.length:=by
  rcases dZ n P.length with z | z
  ·exact z
  ·rw [eW z] at hb; cases hb
 refine uR (fun i σ H'=>∃(prs':Ze) (kvs':List (TK×V)) (x7 x8:Option V),σ=[some (.ref a1),some (.ref a2),some (.ref cd),some (.ref pl),some (.int ((n:Int)+1)),some (.ref ha),some (.ref wd),x7,x8]/\(bY (ws.getD b.key.1 []) b P ((ms.getD b.key.2 []).take i)).2=none/\hC K H0 H' a1 a2 cd pl ts1 ts2 prs' kvs' ws ms (bY (ws.getD b.key.1 []) b P ((ms.getD b.key.2 []).take i)).1/\H' md=some (.frz o (.dT (stK (ms.getD b.key.2 []))))/\k7 H' ha b.key)
  ⟨prs,kvs,_,_,rfl,rfl,A,hmd,hha⟩ ?_ ?_ ?_
 ·rintro i σ H' _ ⟨_,_,_,_,_,_,_,h,_⟩;exact h
 ·rintro i σ H3 pp a v hi ⟨prs',kvs',x7,x8,rfl,q0,A3,md3,ha3⟩ hpp ⟨key,ek,tkc⟩;unfold stK at ek;rw [bQ] at ek;obtain ⟨p,hp,ep⟩:=mn.1 ek;cases ep;obtain ⟨sb,rfl,hsb⟩:=xr tkc;have S:ac H3 (upd H3 pp (.tup [.ref sb,.int (p.2:Nat)])):=ac.new hpp;have hpp4:upd H3 pp (.tup [.ref sb,.int (p.2:Nat)]) pp=some (.tup [.ref sb,.int (p.2:Nat)]):=aa;generalize upd H3 pp (.tup [.ref sb,.int (p.2:Nat)])=H4 at S hpp4 ⊢;refine ⟨pp,_,rfl,bL.of hpp4,rfl,_,_,rfl,_,_,rfl,rfl,?_⟩;have A4:=A3.same S;obtain ⟨⟨r,er⟩,okr,_⟩:=lfok i;have es:bY (ws.getD b.key.1 []) b P ((ms.getD b.key.2 []).take (i+1))=eA (ws.getD b.key.1 []) b (bY (ws.getD b.key.1 []) b P ((ms.getD b.key.2 []).take i)) p:=by
   unfold bY; rw [take_snoc hp,fz]; rfl
  have e2:bY (ws.getD b.key.1 []) b P ((ms.getD b.key.2 []).take i)=((bY (ws.getD b.key.1 []) b P ((ms.getD b.key.2 []).take i)).1,none):=by rw [<-q0]
  have hb4:(bY (ws.getD b.key.1 []) b P ((ms.getD b.key.2 []).take i)).1[n]?=some b:=by rw [er,cS lt]; exact hb
  obtain ⟨w0,hwd⟩:=yZ.rd A4.i.r1 ewd;have ncm:md≠cd:=A.nc2 md (aO emd);have ncw:wd≠cd:=A.nc1 wd (aO ewd);refine FL C (n:=n) (b:=b) (p:=p) (sb:=sb) (x7:=none) (x8:=none) (pp:=pp) (H':=H4) A4 hb4 (S _ _ ha3) hwd rfl (aO hp) (bJ.kt (ac.kt S) hsb) ncw ?_ ?_
  ·intro t lst gs H2 f1 f2 f3 f4 f5 f6 f7 f8 f9;exact fault _ p sb t lst gs H2 okr ⟨r,er⟩ (yn q0 hp f1 f2) (aO hp) f1 f2 f3 f4 f5 f6 f7 f8 f9
  ·intro prs'' kvs'' H2 g1 g2 g3;rw [es,e2];refine ⟨prs'',kvs'',_,_,rfl,g1,g2,?_,?_⟩
   ·refine g3 _ _ (S _ _ md3) ncm fun z=>?_;have:=A4.hpl;rw [<-z,S _ _ md3] at this; cases this
   ·refine g3 _ _ (S _ _ ha3) (fun z=>?_) fun z=>?_
    ·have:=A4.hcd; rw [<-z,S _ _ ha3] at this; cases this
    ·have:=A4.hpl; rw [<-z,S _ _ ha3] at this; cases this
 ·rintro σ H3 ⟨prs',kvs',x7,x8,rfl,q0,A3,md3,ha3⟩;rw [ell,bm] at q0 A3;obtain ⟨⟨r,er⟩,_⟩:=lfok (ms.getD b.key.2 []).length;rw [bm] at er;exact next _ prs' kvs' x7 x8 H3 ⟨r,er⟩ (by rw [<-q0]) (fun p hp=>z7 _ q0 p hp) A3
inductive gk (K:Za) (vs:List V) (H:Hp) (Q:VK) (E:XK):Prop
 | mk (H0:Hp) (a1 a2:Addr) (ts1 ts2:Ze) (ws ms:List (List (Sg×Nat))):(vs=[.ref a1,.ref a2])->(lT H0 H a1 a2 ts1 ts2 ws ms)->(HY ts1 ts2 ws ms)->(0<ts1.length)->(0<ts2.length)->((∀(P:List bb) (H':Hp),pR ms ws P->gP ms ws P.length=(P,none)->P.length<=ts1.length * ts2.length->(∀c∈P,j8 ms ws P c)->lT H0 H' a1 a2 ts1 ts2 ws ms->Q .non H'))->(∀(P:List bb) (i:Nat) (c:bb) (p:Sg×Nat) (sb t lst:Addr) (gs:Ze) (H':Hp),pR ms ws P->(gP ms ws (i+1)).2=some (c.story,p.1)->i<ts1.length * ts2.length->P[i]?=some c->(∀(j:Nat) (c':bb),j<i->P[j]?=some c'->j8 ms ws P c')->p∈ms.getD c.key.2 []->bx (ws.getD c.key.1 []) p.1=none->p.1.head?≠some ("ask":Str)->H' t=some (.tup [.ref lst,.ref sb])->H' lst=some (.lst (gs.map V.ref))->Paired (fun g (sg:Sg)=>bJ K H' g (sg.map V.str)) gs c.story->bJ K H' sb (p.1.map V.str)->H0 t=none->H0 lst=none->lT H0 H' a1 a2 ts1 ts2 ws ms->Q (.ref t) H')->gk K vs H Q E
theorem tR {K:Za}{vs:List V}{H:Hp}{Q:VK}{E:XK}(h:gk K vs H Q E):tw K (e_ K) (bC Q) (start ub vs) H:=by
 obtain ⟨H0,a1,a2,ts1,ts2,ws,ms,rfl,I,C,z1,z2,kn,kf⟩:=h;have l2:([V.int 0,V.int 0]:List V).length<=aj:=by show 2<=aj; decide
 refine fun cd hcd=>⟨l2,fun p0 hp0=>?_⟩;have S1:ac H (upd H cd (.dT [])):=ac.new hcd;have S2:ac (upd H cd (.dT [])) (upd (upd H cd (.dT [])) p0 (.tup [.int 0,.int 0])):=ac.new hp0;have cd2:=S2 _ _ (aa (H:=H) (a:=cd) (o:=.dT []));have pr2:k7 (upd (upd H cd (.dT [])) p0 (.tup [.int 0,.int 0])) p0 (0,0):=aa;have I2:=I.same (S1.trans S2);have c0:H0 cd=none:=I.S.free hcd;have nc:∀{ts:Ze}{st:List (List (Sg×Nat))},yZ H0 H ts st->∀t∈ts,t≠cd:=fun r=>yZ.ne r fun k q=>by
  rcases q with q | ⟨o,q⟩
  ·rw [hcd] at q; cases q
  ·rw [hcd] at q; cases q
 have nc1:=nc I.r1;have nc2:=nc I.r2;have na1:a1≠cd:=ae I.h1 hcd;have na2:a2≠cd:=ae I.h2 hcd;generalize upd (upd H cd (.dT [])) p0 (.tup [.int 0,.int 0])=H2 at cd2 pr2 I2 ⊢;refine ⟨cd2,p0,nq (0,0),rfl,cV.c 8 (fq _) pr2.tk,fq _,?_⟩;have I3:=I2.own (o:=.dT [(nq (0,0),.non)]) c0 na1 na2 nc1 nc2;have cd3:upd H2 cd (.dT [(nq (0,0),.non)]) cd=some (.dT [(nq (0,0),.non)]):=aa;generalize upd H2 cd (.dT [(nq (0,0),.non)])=H3 at I3 cd3 ⊢;refine ⟨l2,fun p1 hp1=>⟨(by show 1<=aj; decide),fun pl hpl=>?_⟩⟩;have S4:ac H3 (upd H3 p1 (.tup [.int 0,.int 0])):=ac.new hp1;have pr4:k7 (upd H3 p1 (.tup [.int 0,.int 0])) p1 (0,0):=aa;generalize upd H3 p1 (.tup [.int 0,.int 0])=H4 at S4 pr4 hpl ⊢;have S5:ac H4 (upd H4 pl (.lst [.ref p1])):=ac.new hpl;have pl5:upd H4 pl (.lst [.ref p1]) pl=some (.lst (([p1]:Ze).map V.ref)):=aa;have I5:=(I3.same S4).same S5;have A5:hC K H0 (upd H4 pl (.lst [.ref p1])) a1 a2 cd pl ts1 ts2 [p1] [(nq (0,0),.non)] ws ms [⟨(0,0),none,[]⟩]:=by
  refine ⟨I5,S5 _ _ (S4 _ _ cd3),.cons ⟨rfl,rfl⟩ .nil,pl5,.cons (S5 _ _ pr4) .nil,CO ms ws,fun c hc=>?_,c0,(I3.same S4).S.free hpl,nc1,nc2,ae (I3.same S4).h1 hpl,ae (I3.same S4).h2 hpl⟩;rw [bz.1 hc]; exact ⟨z1,z2⟩
 generalize upd H4 pl (.lst [.ref p1])=H5 at A5 ⊢;clear S1 S2 cd2 pr2 I2 I3 cd3 S4 pr4 S5 pl5 I5;refine ⟨fun m σ H'=>∃(n:Nat) (P:List bb) (prs:Ze) (kvs:List (TK×V)) (x5 x6 x7 x8:Option V),m=70000-n/\n<=P.length/\σ=[some (.ref a1),some (.ref a2),some (.ref cd),some (.ref pl),some (.int (n:Int)),x5,x6,x7,x8]/\hC K H0 H' a1 a2 cd pl ts1 ts2 prs kvs ws ms P/\gP ms ws n=(P,none)/\∀(j:Nat) (c:bb),j<n->P[j]?=some c->j8 ms ws P c,
  ⟨70000,0,_,_,_,_,_,_,_,rfl,c8 _,rfl,A5,rfl,fun j c hj=>by omega⟩,?_⟩
 rintro m σ H6 ⟨n,P,prs,kvs,x5,x6,x7,x8,rfl,hn,rfl,A,eit,rows⟩;have few:=A.few C.z1 C.z2;have few2:=A.few2;refine ⟨_,rfl,_,rfl,.inl ⟨pl,_,rfl,.inl (aB.of A.hpl),_,_,rfl,rfl,_,rfl,?_⟩⟩;have zp:(prs.map V.ref).length=P.length:=by rw [ai,Paired.length A.hprs]
 refine CC (P:=n<P.length) (by rw [zp]; simp) (fun lt=>?_) (fun ge=>?_);rotate_left
 ·have e:n=P.length:=by omega
  refine kn P H6 A.ok (by rw [<-e]; exact eit) few2 (fun c hc=>?_) A.i;obtain ⟨j,hj,ej⟩:=u6 hc;exact rows j c (by omega) (by rw [br hj,ej])
 have hb:P[n]?=some P[n]:=br lt;obtain ⟨ha,eha,hha⟩:=Paired.get A.hprs hb;have hrg:=A.rg P[n] (jw _);generalize P[n]=b at hb hha hrg;have ath:pI (prs.map V.ref) n=some (.ref ha):=bc (by rw [bQ,eha]; rfl);have ewd:ts1[b.key.1]?=some ts1[b.key.1]:=br hrg.1;have emd:ts2[b.key.2]?=some ts2[b.key.2]:=br hrg.2;have atw:pI (ts1.map V.ref) (b.key.1:Nat)=some (.ref ts1[b.key.1]):=bc (by rw [bQ,ewd]; rfl);have atm:pI (ts2.map V.ref) (b.key.2:Nat)=some (.ref ts2[b.key.2]):=bc (by rw [bQ,emd]; rfl);generalize ts1[b.key.1]=wd at ewd atw;generalize ts2[b.key.2]=md at emd atm;have ncm:md≠cd:=A.nc2 md (aO emd);refine ⟨fun σ' H'=>∃m',m'<70000-n/\∃(n:Nat) (P:List bb) (prs:Ze) (kvs:List (TK×V)) (x5 x6 x7 x8:Option V),m'=70000-n/\n<=P.length/\σ'=[some (.ref a1),some (.ref a2),some (.ref cd),some (.ref pl),some (.int (n:Int)),x5,x6,x7,x8]/\hC K H0 H' a1 a2 cd pl ts1 ts2 prs kvs ws ms P/\gP ms ws n=(P,none)/\∀(j:Nat) (c:bb),j<n->P[j]?=some c->j8 ms ws P c,fun σ' H' h=>h,?_⟩;refine ⟨_,rfl,_,rfl,pl,_,_,_,rfl,rfl,aB.of A.hpl,ath,?_⟩;refine ⟨_,rfl,_,_,rfl,rfl,?_⟩;refine ⟨_,rfl,_,rfl,ha,_,0,_,rfl,rfl,bL.of hha,bc (j:=0) rfl,a1,_,_,_,rfl,rfl,aB.of A.i.h1,atw,?_⟩;refine ⟨_,rfl,_,rfl,ha,_,1,_,rfl,rfl,bL.of hha,bc (j:=1) rfl,a2,_,_,_,rfl,rfl,aB.of A.i.h2,atm,md,stK (ms.getD b.key.2 []),rfl,?_⟩;obtain ⟨md0,hmd⟩:=yZ.rd A.i.r2 emd;have up:∀{P':List bb},(∃r,P'=P++r)->(∀(j:Nat) (c:bb),j<n->P'[j]?=some c->j8 ms ws P' c)/\P'[n]?=some b/\n+1<=P'.length:=by
  rintro P' ⟨r,rfl⟩;refine ⟨fun j c hj hc=>?_,by rw [cS lt]; exact hb,by rw [ax]; omega⟩;rw [cS (by omega)] at hc;exact (rows j c hj hc).mono
 have fin:∀{H7:Hp}{o:Obj},hC K H0 H7 a1 a2 cd pl ts1 ts2 prs kvs ws ms P->k7 H7 ha b.key->H7 md=some (.frz o (.dT (stK (ms.getD b.key.2 []))))->HF (Gg md o (.dT (stK (ms.getD b.key.2 []))) (stK (ms.getD b.key.2 [])).length (Al K (stK (ms.getD b.key.2 [])))) (ir K 2 (aY U7 (aY U8 (g8)))) (z9 K (e_ K)) { nx:=fun σ' H'=>∃m',m'<70000-n/\∃(n:Nat) (P:List bb) (prs:Ze) (kvs:List (TK×V)) (x5 x6 x7 x8:Option V),m'=70000-n/\n<=P.length/\σ'=[some (.ref a1),some (.ref a2),some (.ref cd),some (.ref pl),some (.int (n:Int)),x5,x6,x7,x8]/\hC K H0 H' a1 a2 cd pl ts1 ts2 prs kvs ws ms P/\gP ms ws n=(P,none)/\∀(j:Nat) (c:bb),j<n->P[j]?=some c->j8 ms ws P c,rt:=Q,ct:=fun σ' H'=>∃m',m'<70000-n/\∃(n:Nat) (P:List bb) (prs:Ze) (kvs:List (TK×V)) (x5 x6 x7 x8:Option V),m'=70000-n/\n<=P.length/\σ'=[some (.ref a1),some (.ref a2),some (.ref cd),some (.ref pl),some (.int (n:Int)),x5,x6,x7,x8]/\hC K H0 H' a1 a2 cd pl ts1 ts2 prs kvs ws ms P/\gP ms ws n=(P,none)/\∀(j:Nat) (c:bb),j<n->P[j]?=some c->j8 ms ws P c,bk:=fun σ H'=>bu (tC .non) (bC Q) σ H' } [some (.ref a1),some (.ref a2),some (.ref cd),some (.ref pl),some (.int ((n:Int)+1)),some (.ref ha),some (.ref wd),x7,x8] H7:=by
  intro H7 o A7 ha7 md7;refine GV C A7 hb ha7 ewd emd md7 ?_ ?_
  ·intro P' p sb t lst gs H2 ok' ex fr f0 f1 f2 f3 f4 f5 f6 f7 f8 f9;obtain ⟨u1,u2,_⟩:=up ex;exact kf P' n b p sb t lst gs H2 ok' (by rw [yo eit hb,fr]; rfl) (by omega) u2 u1 f0 f1 f2 f3 f4 f5 f6 f7 f8 f9
  ·intro P' prs' kvs' x7 x8 H2 ex fr ro A';obtain ⟨u1,u2,u3⟩:=up ex;refine ⟨70000-(n+1),by omega,n+1,P',prs',kvs',_,_,x7,x8,rfl,u3,by rw [show ((n+1:Nat):Int)=(n:Int)+1 from by omega],A',by rw [yo eit hb,fr]; rfl,fun j c hj hc=>?_⟩;rcases dZ j n with z | z
   ·exact u1 j c z hc
   ·have:j=n:=by omega
    subst this;rw [u2] at hc;injection hc with hc;subst hc;exact ro
 rcases hmd with e | ⟨o,e⟩
 ·exact .inl ⟨e,fun o=>fin (A.frz md0 e ncm) (C5 e _ _ hha) aa⟩
 ·exact .inr ⟨o,e,fin A hha e⟩
def xZ:Option Nat->V
 | none=>.non
 | some n=>.int (n:Nat)
def df (fc:Nat) (st:List (Sg×Nat)) (d:am):List (Str×Option Nat) :=
 if d.sg=ar then [(d.b,some fc)] else if (bx st d.sg).isSome=true∨d.sg.head?=some ("say":Str) then [(d.b,bx st d.sg)] else []
def sk (J2:Zb) (ds:List am) (room:Str) (fc:Nat) (st:List (Sg×Nat)):List (Str×Option Nat) :=
 (bh ds room).flatMap (df fc st)++if room∈J2.filter (eN ds) then [(room,bx st bN)] else []
abbrev iu (H:Hp) (us:Ze) (L:List (Str×Option Nat)):Prop:=Paired (fun u (r:Str×Option Nat)=>H u=some (.tup [.str r.1,xZ r.2])) us L
theorem iu.kt {H H':Hp}{us:Ze}{L:List (Str×Option Nat)}(k:hE H H') (h:iu H us L):iu H' us L:=Paired.mapP h fun _ _ r=>k _ _ r
theorem wL (fc:Nat) (st:List (Sg×Nat)) (d:am):(df fc st d).length<=1:=by
 unfold df;split
 ·exact aD _
 ·split
  ·exact aD _
  ·exact c8 _
theorem sj (fc:Nat) (st:List (Sg×Nat)):∀L:List am,(L.flatMap (df fc st)).length<=L.length
 | []=>aD _
 | d::L=>by
  rw [qX,ax,dQ];have:=wL fc st d;have:=sj fc st L;omega
inductive nK (K:Za) (C:Addr) (vs:List V) (H:Hp) (Q:VK) (E:XK):Prop
 | mk (x sd:Addr) (room:Str) (fc:Nat) (st:List (Sg×Nat)) (J0 J1 J2:Zb) (ds:List am):(vs=[.ref x,.str room,.int (fc:Nat),.ref sd])->(be C H x J0 J1 J2 ds)->(room∈J2)->(Rd H sd (.dT (stK st)))->(∀(l:Addr) (us:Ze) (H':Hp),H' l=some (.lst (us.map V.ref))->iu H' us (sk J2 ds room fc st)->H l=none->ac H H'->Q (.ref l) H')->nK K C vs H Q E
theorem xY {l:List (Sg×Nat)}{sg:Sg}:((bx l sg).map fun n=>V.int (n:Nat)).getD .non=xZ (bx l sg):=by
 cases bx l sg <;> rfl
theorem Ds {K:Za}{C hu sa:Addr}(hh:∀H,bL K H hu (bN.map V.str)) (hs:∀H,bL K H sa (ar.map V.str)) {vs:List V}{H:Hp}{Q:VK}{E:XK}(h:nK K C vs H Q E):tp K C (gB C) hu (gp C) sa (bC Q) (start t8 vs) H:=by
 obtain ⟨x,sd,room,fc,st,J0,J1,J2,ds,rfl,M,hr,hsd,k⟩:=h;have z4:=M.ok.few;refine ⟨(by show 0<=aj; decide),fun l hl=>?_⟩;have S0:ac H (upd H l (.lst [])):=ac.new hl;obtain ⟨dx,fs,o1,o2,lv,lps,g1,a1,a2,a3,a4,_⟩:=mL (M.same S0);refine ⟨_,rfl,x,dx,fs,rfl,g1,a3,_,rfl,x,room,J0,J1,J2,ds,rfl,M.same S0,hr,fun dl du H1 hdl hD hdl0 S1=>⟨dl,rfl,⟨_,aB.of hdl⟩,?_⟩⟩;have lz:(bh ds room).length<=1000:=bP (gJ _ _) (by omega);have ndl:dl≠l:=fun z=>by rw [z,aa] at hdl0; cases hdl0
 refine cg (xs:=du.map V.ref) (fun i σ H'=>∃(us:Ze) (x5 x6 x7:Option V),σ=[some (.ref x),some (.str room),some (.int (fc:Nat)),some (.ref sd),some (.ref l),x5,x6,x7]/\H' l=some (.lst (us.map V.ref))/\iu H' us (((bh ds room).take i).flatMap (df fc st))/\ac H H'/\∀b o,H1 b=some o->b≠l->H' b=some o)
  ⟨[],_,_,_,rfl,S1 _ _ aa,.nil,S0.trans S1,fun _ _ e _=>e⟩ (fun i σ H' _ ⟨_,_,_,_,_,_,_,_,e⟩=>aB.of (e _ _ hdl ndl)) ?_ ?_
 ·rintro i y σ H2 hi ⟨us,x5,x6,x7,rfl,hl2,hR,S2,e2⟩;obtain ⟨u,hu',rfl⟩:=d6 hi;obtain ⟨d,hd,hat⟩:=Paired.getL hD hu';have k12:hE H1 H2:=fun b xs e=>e2 _ _ e fun z=>by have:=S1 _ _ (aa (H:=H) (a:=l) (o:=.lst [])); rw [<-z,e] at this; cases this
  obtain ⟨sb,ht2,hs2⟩:=hat.kt k12;have hgood:=M.ok.good d (b0.1 (aO hd)).1;obtain ⟨s0,rest,hsg,_⟩:=uw hgood;have il:i<(bh ds room).length:=(bE.mp hd).1;have ul:us.length<=1000:=by
   rw [Paired.length hR];refine bP (sj fc st _) ?_;rw [aJ]; omega
  have sd2:Rd H2 sd (.dT (stK st)):=Rd.same S2 hsd;have row:∀{H3:Hp}(r:Str×Option Nat) (p:Addr),ac H2 H3->H3 p=none->df fc st d=[r]->∃(us':Ze) (x5 x6 x7:Option V),([some (.ref x),some (.str room),some (.int (fc:Nat)),some (.ref sd),some (.ref l),some (.str d.a),some (.ref sb),some (.str d.b)]:L2.St)=[some (.ref x),some (.str room),some (.int (fc:Nat)),some (.ref sd),some (.ref l),x5,x6,x7]/\upd (upd H3 p (.tup [.str r.1,xZ r.2])) l (.lst (us.map V.ref++[.ref p])) l=some (.lst (us'.map V.ref))/\iu (upd (upd H3 p (.tup [.str r.1,xZ r.2])) l (.lst (us.map V.ref++[.ref p]))) us' (((bh ds room).take (i+1)).flatMap (df fc st))/\ac H (upd (upd H3 p (.tup [.str r.1,xZ r.2])) l (.lst (us.map V.ref++[.ref p])))/\∀b o,H1 b=some o->b≠l->upd (upd H3 p (.tup [.str r.1,xZ r.2])) l (.lst (us.map V.ref++[.ref p])) b=some o:=by
   intro H3 r p S3 hp er;have hk:hE H2 (upd (upd H3 p (.tup [.str r.1,xZ r.2])) l (.lst (us.map V.ref++[.ref p]))):=((ac.kt S3).trans (ac.kt (ac.new hp))).trans (cL (kp (S3 _ _ hl2) hp));refine ⟨us++[p],_,_,_,rfl,by rw [aa,au]; rfl,?_,fun b o e=>by rw [af (ae e hl)]; exact kp (S3 _ _ (S2 _ _ e)) hp,fun b o e nb=>by rw [af nb]; exact kp (S3 _ _ (e2 _ _ e nb)) hp⟩;rw [take_snoc hd,va,qX,er];refine cK (iu.kt hk hR) ?_;rw [af (ae (S3 _ _ hl2) hp).symm];exact aa
  refine ⟨u,_,rfl,bL.of ht2,rfl,_,_,rfl,_,_,rfl,_,_,rfl,rfl,?_⟩;refine ⟨_,rfl,oC d.sg,oC ar,cF (bL.of hs2),cF (hs H2),by rw [dW]; decide,by rw [dW]; decide,_,rfl,?_⟩;rw [qR];refine CC (P:=d.sg=ar) (by simp) (fun c=>?_) (fun c=>?_)
  ·refine ⟨_,rfl,.inl ⟨rfl,_,aB.of hl2⟩,_,rfl,_,rfl,(by show 2<=aj; decide),fun p hp=>⟨l,_,.ref p,rfl,rfl,kp hl2 hp,by rw [ai]; exact av ul,?_⟩⟩;exact row (d.b,some fc) p (.refl _) hp (by unfold df; rw [if_pos c])
  ·have gd:jT K H2 sd (.ref sb) ((bx st d.sg).map fun n=>V.int (n:Nat)):=.inr ⟨_,jq d.sg,sb,sd2,rfl,vR (.inl hs2),dL _,pB.symm⟩;have isd:H_ H2 sd:=.inr ⟨_,sd2⟩;have at0:pI (d.sg.map V.str) 0=some (.str s0):=by rw [hsg]; exact bc (j:=0) rfl
   have put:(bx st d.sg).isSome=true∨d.sg.head?=some ("say":Str)->bH (r9 K "list" cG V4 (aA (bB (aS V7 (v8 K V3 V6))))) { nx:=fun σ H'=>∃(us:Ze) (x5 x6 x7:Option V),σ=[some (.ref x),some (.str room),some (.int (fc:Nat)),some (.ref sd),some (.ref l),x5,x6,x7]/\H' l=some (.lst (us.map V.ref))/\iu H' us (((bh ds room).take (i+1)).flatMap (df fc st))/\ac H H'/\∀b o,H1 b=some o->b≠l->H' b=some o,rt:=Q } [some (.ref x),some (.str room),some (.int (fc:Nat)),some (.ref sd),some (.ref l),some (.str d.a),some (.ref sb),some (.str d.b)] H2:=by
    intro cc;refine ⟨_,rfl,.inl ⟨rfl,_,aB.of hl2⟩,_,rfl,_,rfl,sd,rfl,isd,_,rfl,_,gd,?_⟩;rw [xY];refine ⟨(by show 2<=aj; decide),fun p hp=>⟨l,_,.ref p,rfl,rfl,kp hl2 hp,by rw [ai]; exact av ul,?_⟩⟩;exact row (d.b,bx st d.sg) p (.refl _) hp (by unfold df; rw [if_neg c,if_pos cc])
   refine ⟨_,rfl,_,rfl,sd,_,rfl,gd,_,rfl,?_⟩;cases hv:bx st d.sg with
   | some w=>exact dO (dO (put (.inl (by rw [hv]; rfl))))
   | none =>
    refine cC ?_;refine ⟨_,rfl,sb,_,0,_,rfl,rfl,bL.of hs2,at0,rfl,_,rfl,?_⟩;refine CC (P:=d.sg.head?=some ("say":Str)) (by rw [hsg]; simp) (fun c2=>put (.inr c2)) (fun c2=>?_);refine ⟨us,_,_,_,rfl,hl2,?_,S2,e2⟩;have er:df fc st d=[]:=by
     unfold df;rw [if_neg c,if_neg];rintro (z | z)
     ·rw [hv] at z; cases z
     ·exact c2 z
    rw [take_snoc hd,va,qX,er];simpa using hR
 ·rintro σ H2 ⟨us,x5,x6,x7,rfl,hl2,hR,S2,e2⟩;rw [ai,Paired.length hD,bm] at hR;have M2:=M.same S2;obtain ⟨dx,fs,o1,o2,lv,lps,g1,a1,a2,a3,a4,_⟩:=mL M2;have ul:us.length<=1000:=by
   rw [Paired.length hR];exact bP (sj fc st _) lz
  have sd2:Rd H2 sd (.dT (stK st)):=Rd.same S2 hsd;refine ⟨_,rfl,x,dx,fs,rfl,g1,a4,_,rfl,x,room,J0,J1,J2,ds,rfl,M2,_,rfl,?_⟩;refine CC (P:=room∈J2.filter (eN ds)) (by simp) (fun c=>?_) (fun c=>?_)
  ·have gd:jT K H2 sd (.ref hu) ((bx st bN).map fun n=>V.int (n:Nat)):=.inr ⟨_,jq bN,hu,sd2,rfl,vR (AX hh H2),dL _,pB.symm⟩;refine ⟨_,rfl,.inl ⟨rfl,_,aB.of hl2⟩,_,rfl,_,rfl,sd,rfl,.inr ⟨_,sd2⟩,_,gd,?_⟩;rw [xY];refine ⟨(by show 2<=aj; decide),fun p hp=>⟨l,_,.ref p,rfl,rfl,kp hl2 hp,by rw [ai]; exact av ul,?_⟩⟩;have hk:hE H2 (upd (upd H2 p (.tup [.str room,xZ (bx st bN)])) l (.lst (us.map V.ref++[.ref p]))):=(ac.kt (ac.new hp)).trans (cL (kp hl2 hp));refine ⟨_,rfl,k l (us++[p]) _ (by rw [aa,au]; rfl) ?_ hl fun b o e=>by rw [af (ae e hl)]; exact kp (S2 _ _ e) hp⟩;unfold sk;rw [if_pos c];refine cK (iu.kt hk hR) ?_;rw [af (ae hl2 hp).symm];exact aa
  ·refine ⟨_,rfl,k l us H2 hl2 ?_ hl S2⟩;unfold sk;rw [if_neg c,fV];exact hR
def yP (ds:List am) (f:Zb):Prop:=∀d∈ds,d.sg=ar->d.a∈f->d.b∈f
theorem o_ {J2 gs:Zb}{ds:List am}(hb:∀d∈ds,d.b∈J2):yP ds (closF J2 ds gs):=by
 classical
 intro d hd hs ha;unfold closF at ha ⊢;rw [b0] at ha ⊢;obtain ⟨a,sg,b⟩:=d;have hs:sg=ar:=hs;subst hs;exact ⟨hb _ hd,zzr1 (hJ.step (of_decide_eq_true ha.2) hd)⟩
theorem xK {J2 f sg:Zb}{ds:List am}(hb:∀d∈ds,d.b∈J2):yP ds (behF J2 ds f sg):=by
 unfold behF;split
 ·intro d hd hs ha;have h:=of_decide_eq_true (b0.1 ha).2;refine absurd (ay.2 ⟨d,b0.2 ⟨hd,?_⟩,rfl⟩) h;unfold mf;rw [hs]
  decide
 ·exact o_ hb
theorem DS {s:List Sg}{m:fU}(L:List (Sg×List Str)):∀f∈(d_ s m L).1.fs,f∈m.fs∨∃p∈L,f=p.2:=by
 have key:∀n,n<=L.length->∀f∈(d_ s m (L.take n)).1.fs,f∈m.fs∨∃p∈L,f=p.2:=by
  intro n
  induction n with
  | zero=>intro _ f hf; exact .inl hf
  | succ n ih =>
   intro hn f hf;have hp:L[n]?=some L[n]:=br (by omega);rw [take_snoc hp,jm] at hf;have hf:f∈((d_ s m (L.take n)).1.add L[n].2 (s++[L[n].1])).fs:=hf;by_cases c:L[n].2∈(d_ s m (L.take n)).1.fs
   ·rw [fU.add_in c] at hf;exact ih (by omega) f hf
   ·rw [fU.add_new c] at hf;rcases aW.1 hf with hf | hf
    ·exact ih (by omega) f hf
    ·exact .inr ⟨L[n],jw _,bz.1 hf⟩
 have:=key L.length (aD _);rw [bm] at this;exact this
theorem A_ {J0 J1 J2:Zb}{ds:List am}(hb:∀d∈ds,d.b∈J2):∀k,∀f∈(itF J0 J1 J2 ds k).1.fs,yP ds f
 | 0,f,hf=>by
  have e:(⟨[],[]⟩:fU).add (closF J2 ds (J2.take 1)) []=⟨[closF J2 ds (J2.take 1)],[[]]⟩:=fU.add_new (fun z=>nomatch z);have hf:f∈((⟨[],[]⟩:fU).add (closF J2 ds (J2.take 1)) []).fs:=hf;rw [e] at hf;rw [bz.1 hf];exact o_ hb
 | k+1,f,hf=>by
  rcases DS _ f hf with h | ⟨p,hp,rfl⟩
  ·exact A_ hb k f h
  ·obtain ⟨sg,_,rfl⟩:=ay.1 (b0.1 hp).1;exact xK hb
theorem yy {J2 f:Zb}{ds:List am}{d:am}(hd:d∈ds) (hr:d.b∈J2) (ha:d.a∈f) (hn:d.sg≠bN):d.b∈behF J2 ds f d.sg:=by
 classical
 unfold behF;rw [if_neg hn];unfold closF;refine b0.2 ⟨hr,zzr1 ⟨d.b,?_,.inl rfl⟩⟩;unfold de;rw [oI];refine ⟨d.a,ha,?_⟩;unfold a_;exact ay.2 ⟨d,b0.2 ⟨hd,zzr1 ⟨rfl,rfl⟩⟩,rfl⟩
def u4 (P:List bb) (SI:pQ) (room:Str) (num:Nat):Prop:=∃c∈P,c.key.1=num/\∃F,SI.1.fs[c.key.2]?=some F/\room∈F
section
variable {J0 J1 J2:Zb}{ds:List am}{SI:pQ}{ws:List (List (Sg×Nat))}{P:List bb}(m:aH J0 J1 J2 ds) (ok:pP J0 J1 J2 ds SI) (le:SI.2.length=SI.1.fs.length) (ro:∀c∈P,j8 SI.2 ws P c)
include m ok le ro
theorem xI {c:bb}(hc:c∈P) {F:Zb}(hF:SI.1.fs[c.key.2]?=some F) {sg:Sg}(hs:sg∈az J0 J1) {r:Str}(hr:r∈behF J2 ds F sg) :
  (bx (ws.getD c.key.1 []) sg=none->sg.head?=some ("ask":Str))/\∀w,bx (ws.getD c.key.1 []) sg=some w->u4 P SI r w:=by
 have lt:c.key.2<SI.2.length:=by
  rw [le];rcases dZ c.key.2 SI.1.fs.length with z | z
  ·exact z
  ·rw [eW z] at hF; cases hF
 have hl:SI.2[c.key.2]?=some SI.2[c.key.2]:=br lt;obtain ⟨f,hf,pr⟩:=ok.st _ _ hl;rw [hF] at hf;injection hf with hf;subst hf;have hm:(sg,behF J2 ds F sg)∈stepsF J0 J1 J2 ds F:=b0.2 ⟨ay.2 ⟨sg,hs,rfl⟩,zzr1 fun z=>by rw [show behF J2 ds F sg=[] from z] at hr; cases hr⟩;obtain ⟨k,hk,ek⟩:=u6 hm;obtain ⟨a,ha,e1,e2⟩:=Paired.get pr (i:=k) (y:=(sg,behF J2 ds F sg)) (by rw [br hk,ek]);have hp:a∈SI.2.getD c.key.2 []:=by
  rw [qY,hl];exact aO ha
 have row:=ro c hc a hp;rw [e1] at row;constructor
 ·intro z;rw [show bx (ws.getD c.key.1 []) (sg,behF J2 ds F sg).1=none from z] at row;exact row
 ·intro w z;rw [show bx (ws.getD c.key.1 []) (sg,behF J2 ds F sg).1=some w from z] at row;obtain ⟨c',hc',ec⟩:=ay.1 (kQ.1 row);exact ⟨c',hc',by rw [ec],behF J2 ds F sg,by rw [ec]; exact e2,hr⟩
theorem Fj (sh:∀f∈SI.1.fs,yP ds f) {room:Str}{num:Nat}(h:u4 P SI room num):∀r∈sk J2 ds room num (ws.getD num []),∃n',r.2=some n'/\u4 P SI r.1 n':=by
 obtain ⟨c,hc,rfl,F,hF,hroom⟩:=h;intro r hr;unfold sk at hr;rcases aW.1 hr with hr | hr
 ·obtain ⟨d,hd,hrd⟩:=oI.1 hr;have hd1:d∈ds:=(b0.1 hd).1;have hda:d.a=room:=of_decide_eq_true (b0.1 hd).2;have good:=m.good d hd1;unfold df at hrd;split at hrd
  ·rename_i c1;rw [bz.1 hrd];exact ⟨_,rfl,c,hc,rfl,F,hF,sh F (aO hF) d hd1 c1 (by rw [hda]; exact hroom)⟩
  ·rename_i c1;split at hrd
   ·rename_i c2;rw [bz.1 hrd];have hsg:d.sg∈az J0 J1/\d.sg≠bN:=by
     unfold az;rcases good.sg with ⟨w,hw,e⟩ | ⟨w,hw,e⟩ | e
     ·exact ⟨cx _ (cx _ (ay.2 ⟨w,hw,e.symm⟩)),by rw [e]; unfold bN; intro z; injection z with _ z; cases z⟩
     ·exact ⟨cx _ (cX _ (ay.2 ⟨w,hw,e.symm⟩)),by rw [e]; unfold bN; intro z; injection z with _ z; cases z⟩
     ·exact absurd e c1
    obtain ⟨s1,s2⟩:=xI m ok le ro hc hF hsg.1 (yy hd1 good.b (by rw [hda]; exact hroom) hsg.2);cases e:bx (ws.getD c.key.1 []) d.sg with
    | some w=>exact ⟨w,rfl,s2 w e⟩
    | none =>
     have h1:=s1 e;rcases c2 with z | z
     ·rw [e] at z; cases z
     ·rw [h1] at z; exact absurd z (by decide)
   ·cases hrd
 ·split at hr
  ·rename_i q;rw [bz.1 hr];have hq:=(b0.1 q).2;rw [su] at hq;have hb:room∈behF J2 ds F bN:=by
    unfold behF;rw [if_pos rfl];exact b0.2 ⟨hroom,hq⟩
   obtain ⟨s1,s2⟩:=xI m ok le ro hc hF (sg:=bN) (by unfold az; exact cX _ cy) hb;cases e:bx (ws.getD c.key.1 []) bN with
   | some w=>exact ⟨w,rfl,s2 w e⟩
   | none=>exact absurd (s1 e) (by decide)
  ·cases hr
end
theorem CN {k:Nat}{fi:List Nat}{d l:Addr}{o:Obj}{u:HO}{n:Nat}{ent:Nat->Hp->V->V->Prop}{g:TG}{tc:TT}{te:TE}{σ:L2.St}{H1:Hp}{Q:Hp->Prop}(Pv:Nat->List V->Hp->Prop) (h0:Pv 0 [] (upd H1 l (.lst [])))
  (hl:∀i vs H,i<=n->Pv i vs H->H l=some (.lst vs)/\H d=some (.frz o u)) (hd:∀vs H,Pv n vs H->Q H)
  (hs:∀i vs H a b,i<n->Pv i vs H->ent i H a b->g a (dw k fi σ) H fun σ2 H4=>tc σ2 H4 fun b H5 =>
   if b=true then te σ2 H5 fun v H6=>H6 l=some (.lst vs)/\vs.length<aj/\∃m',m'<n-i/\Wc n Pv (i+1) m' (vs++[v]) (upd H6 l (.lst (vs++[v]))) else ∃m',m'<n-i/\Wc n Pv (i+1) m' vs H5) :
  fM k fi σ (HD d o u n ent) g tc te H1 l Q:=by
 refine kW n Pv h0 (fun i vs H hi p=>(hl i vs H hi p).1) (fun i vs H hi p=>⟨(hl i vs H (dR hi) p).2,hi⟩) (fun vs H p=>⟨⟨(hl n vs H (aD _) p).2,aD _⟩,hd vs H p⟩) fun i vs H x H3 hi p y=>?_;obtain ⟨rfl,b,en⟩:=y;exact hs i vs _ x b hi p en
abbrev Row:=Str×Nat
def pd (r:Row):TK:=.t [.k (.inr r.1),.k (.inl (r.2:Int))]
theorem Fu {a b:Row}(h:pd a=pd b):a=b:=by
 unfold pd at h;injection h with h;injection h with h1 h2;injection h2 with h2 _;injection h1 with h1;injection h2 with h2;injection h1 with h1;injection h2 with h2;obtain ⟨a1,a2⟩:=a;obtain ⟨b1,b2⟩:=b;simp only at h1 h2;rw [h1,show a2=b2 by omega]
theorem h9 (k:Row):(pd k).depth<=8:=by
 show max 0 (max 0 0)+1<=8
 decide
abbrev sW (H:Hp) (a:Addr) (k:Row):Prop:=H a=some (.tup [.str k.1,.int (k.2:Nat)])
theorem sW.tk {H:Hp}{a:Addr}{k:Row}(h:sW H a k):cV H (pd k) (.ref a):=by
 unfold pd cV;refine ⟨a,_,rfl,h,?_⟩;unfold TKAts;refine ⟨_,_,rfl,?_,?_⟩
 ·unfold cV; rfl
 unfold TKAts;refine ⟨_,_,rfl,?_,?_⟩
 ·unfold cV; rfl
 unfold TKAts
 rfl
theorem EX {K:Za}{H:Hp}{k:Row}{a:V}(h:mR K H (pd k) a):∃b,a=.ref b/\bJ K H b [.str k.1,.int (k.2:Nat)]:=by
 unfold pd mR at h;obtain ⟨b,xs,rfl,h1,h2⟩:=h;unfold TKCs at h2;obtain ⟨v,us,rfl,h3,h4⟩:=h2;unfold TKCs at h4;obtain ⟨v',us',rfl,h5,h6⟩:=h4;unfold TKCs at h6;unfold mR at h3 h5;subst h3 h5 h6;exact ⟨b,rfl,h1⟩
def sF (L:List Row):List (TK×V):=L.map fun r=>(pd r,.bl true)
theorem wx (r:Row):∀L:List Row,(bG (sF L) (pd r)).isSome=decide (r∈L)
 | []=>rfl
 | x::L=>by
  show (bG ((pd x,V.bl true)::sF L) (pd r)).isSome=_;by_cases c:x=r
  ·rw [cb (by show pd x=pd r; rw [c])];simp [c]
  ·rw [b9 (fun z=>c (Fu z)),wx r L];simp [c9 c]
theorem xM {J2:Zb}{n:Nat}{L:List Row}(nd:L.Nodup) (h:∀r∈L,r.1∈J2/\r.2<n):L.length<=J2.length * n:=by
 have h1:=hZ nd (R:=J2.flatMap fun x=>(i8 n).map fun i=>(x,i)) fun r hr=>by
  obtain ⟨h2,h3⟩:=h r hr;exact oI.2 ⟨r.1,h2,ay.2 ⟨r.2,List.mem_range.2 h3,rfl⟩⟩
 have:∀l:List Str,(l.flatMap fun x=>(i8 n).map fun i=>(x,i)).length=l.length * n:=by
  intro l
  induction l with
  | nil=>simp
  | cons x l ih=>rw [qX,ax,ih,ai,rA,dQ,u_]; omega
 rw [this] at h1;exact h1
structure RowP (J2:Zb) (ds:List am) (ws:List (List (Sg×Nat))) (n:Nat) (R:Row->Prop):Prop where
 rg:∀r,R r->r.1∈J2/\r.2<n
 next:∀r,R r->∀x∈sk J2 ds r.1 r.2 (ws.getD r.2 []),∃n',x.2=some n'/\R (x.1,n')
structure qD (H0 H:Hp) (rd wl:Addr) (ps:Ze) (L W:List Row) (R:Row->Prop):Prop where
 hrd:H rd=some (.dT (sF L))
 hwl:H wl=some (.lst (ps.map V.ref))
 hps:Paired (fun a r=>sW H a r) ps W
 nd:L.Nodup
 all:∀r∈L,R r
 sub:∀r∈W,r∈L
 S:ac H0 H
 r0:H0 rd=none
 w0:H0 wl=none
theorem qD.same {H0 H H':Hp}{rd wl:Addr}{ps:Ze}{L W:List Row}{R:Row->Prop}(h:qD H0 H rd wl ps L W R) (S:ac H H'):qD H0 H' rd wl ps L W R :=
 ⟨S _ _ h.hrd,S _ _ h.hwl,Paired.mapP h.hps fun _ _ r=>S _ _ r,h.nd,h.all,h.sub,h.S.trans S,h.r0,h.w0⟩
theorem qD.add {H0 H:Hp}{rd wl u:Addr}{ps:Ze}{L W:List Row}{R:Row->Prop}(h:qD H0 H rd wl ps L W R) {r:Row}(hu:sW H u r) (hn:¬r∈L) (hr:R r) :
  qD H0 (upd (upd H rd (.dT (cI (sF L) (pd r) (.bl true)))) wl (.lst (ps.map V.ref++[.ref u]))) rd wl (ps++[u]) (L++[r]) (W++[r]) R:=by
 have nwr:wl≠rd:=fun z=>by have:=h.hwl; rw [z,h.hrd] at this; cases this
 have k1:hE H (upd H rd (.dT (cI (sF L) (pd r) (.bl true)))):=C5 h.hrd;have wl1:upd H rd (.dT (cI (sF L) (pd r) (.bl true))) wl=some (.lst (ps.map V.ref)):=by rw [af nwr]; exact h.hwl
 have k2:=k1.trans (cL (o:=.lst (ps.map V.ref++[.ref u])) wl1);have vn:bG (sF L) (pd r)=none:=by
  have:=wx r L;rw [zzr0 hn] at this;cases e:bG (sF L) (pd r) with
  | none=>rfl
  | some v=>rw [e] at this; cases this
 refine ⟨?_,?_,cK (Paired.mapP h.hps fun _ _ q=>k2 _ _ q) (k2 _ _ hu),?_,?_,?_,?_,h.r0,h.w0⟩
 ·rw [af nwr.symm,aa,fH _ vn];unfold sF;rw [au]; rfl
 ·rw [aa,au]; rfl
 ·rw [ck];exact ⟨h.nd,by simp,fun a ha b hb e=>hn (by rw [<-bz.1 hb,<-e]; exact ha)⟩
 ·intro x hx;rcases aW.1 hx with hx | hx
  ·exact h.all x hx
  ·rw [bz.1 hx]; exact hr
 ·intro x hx;rcases aW.1 hx with hx | hx
  ·exact cx _ (h.sub x hx)
  ·exact cX _ hx
 ·intro b q e;rw [af (ae e h.w0),af (ae e h.r0)];exact h.S _ _ e
inductive jF (K:Za) (C Cm:Addr) (vs:List V) (H:Hp) (Q:VK) (E:XK):Prop
 | mk (H0:Hp) (mo I M fa sa na ta:Addr) (us ws' ts:Ze) (m:fU) (ws:List (List (Sg×Nat))) (J0 J1 J2:Zb) (ds:List am) (R:Row->Prop) (f0:Str):(vs=[.ref mo,.ref I])->(gG K C H mo M fa sa na ta us ws' m)->(H ta=some (.lst (ts.map V.ref)))->(yZ H0 H ts ws)->(be Cm H I J0 J1 J2 ds)->(RowP J2 ds ws ts.length R)->(ts.length=m.fs.length)->(ts.length<=256)->(J2[0]?=some f0)->(R (f0,0))->(∀(l:Addr) (ps:Ze) (L:List Row) (H':Hp),H' l=some (.lst (ps.map V.ref))->Paired (fun u (r:Row)=>∃ft f,H' u=some (.tup [.str r.1,.ref ft])/\m.fs[r.2]?=some f/\H' ft=some (.tup (f.map V.str))) ps L->L.Nodup->(∀r∈L,R r)->H l=none->ac H H'->Q (.ref l) H')->jF K C Cm vs H Q E
theorem zK {K:Za}{C Cm:Addr}(c:FC K C) {vs:List V}{H:Hp}{Q:VK}{E:XK}(h:jF K C Cm vs H Q E):ze K (nK K Cm) Cm (ik Cm) (bC Q) (start Az vs) H:=by
 obtain ⟨H0,mo,I,M,fa,sa,na,ta,us,ws',ts,m,ws,J0,J1,J2,ds,R,f0,rfl,F,hta,st,MA,rp,zt,z256,hf0,hR0,k⟩:=h;have z3:=MA.ok.rooms26;obtain ⟨dx,fs,o1,o2,o3,o4,lv,qu,sg,sl,tt,lps,gps,sps,g1,a1,a2,a3,a4,_⟩:=MA.at_;have at0:pI (J2.map V.str) 0=some (.str f0):=bc (j:=0) (by rw [bQ,hf0]; rfl);have lt0:=(rp.rg _ hR0).2;refine ⟨_,rfl,I,dx,fs,rfl,g1,a4,I,J0,J1,J2,ds,rfl,MA,fun rl hrl=>⟨rl,_,0,_,rfl,rfl,aB.of aa,at0,(by show 2<=aj; decide),fun p0 hp0=>?_⟩⟩;have S1:ac H (upd (upd H rl (.lst (J2.map V.str))) p0 (.tup [.str f0,.int 0])):=(ac.new hrl).trans (ac.new hp0);have r1:sW (upd (upd H rl (.lst (J2.map V.str))) p0 (.tup [.str f0,.int 0])) p0 (f0,0):=aa;generalize upd (upd H rl (.lst (J2.map V.str))) p0 (.tup [.str f0,.int 0])=H1 at S1 r1 ⊢;refine fun rd hrd=>⟨_,rfl,aa,p0,pd (f0,0),rfl,cV.c 8 (h9 _) (sW.tk (kp r1 hrd)),h9 _,?_⟩;have S2:ac H1 (upd (upd H1 rd (.dT [])) rd (.dT [(pd (f0,0),.bl true)])):=fun b o e=>by rw [af (ae e hrd)]; exact kp e hrd
 have rd2:upd (upd H1 rd (.dT [])) rd (.dT [(pd (f0,0),.bl true)]) rd=some (.dT (sF [(f0,0)])):=aa;generalize upd (upd H1 rd (.dT [])) rd (.dT [(pd (f0,0),.bl true)])=H2 at S2 rd2 ⊢;refine ⟨_,rfl,(by show 1<=aj; decide),fun wl hwl=>?_⟩;have S3:ac H2 (upd H2 wl (.lst [.ref p0])):=ac.new hwl;have A3:qD H (upd H2 wl (.lst [.ref p0])) rd wl [p0] [(f0,0)] [(f0,0)] R :=
  ⟨S3 _ _ rd2,aa,.cons (S3 _ _ (S2 _ _ r1)) .nil,by simp,fun r hr=>by rw [bz.1 hr]; exact hR0,fun r hr=>hr,(S1.trans S2).trans S3,S1.free hrd,(S1.trans S2).free hwl⟩
 generalize upd H2 wl (.lst [.ref p0])=H3 at S3 A3 ⊢;have few:∀{H':Hp}{ps:Ze}{L W:List Row},qD H H' rd wl ps L W R->L.length<=40000:=fun A=>by
  have h1:=xM A.nd fun r hr=>rp.rg r (A.all r hr);have h2:J2.length * ts.length<=150 * 256:=oH z3 z256;omega
 refine ⟨fun mm σ H'=>∃(ps:Ze) (L W:List Row) (x5 x6 x7:Option V),mm=2 * (40000-L.length)+W.length/\mm<=80000/\σ=[some (.ref mo),some (.ref I),some (.ref p0),some (.ref rd),some (.ref wl),x5,x6,x7]/\qD H H' rd wl ps L W R,⟨_,[p0],[(f0,0)],[(f0,0)],_,_,_,rfl,(by show 2 * (40000-1)+1<=80000; decide),rfl,A3⟩,?_⟩;rintro mm σ H4 ⟨ps,L,W,x5,x6,x7,rfl,hmm,rfl,A⟩;have fw:=few A;refine ⟨_,rfl,.inl ⟨wl,_,rfl,.inl (aB.of A.hwl),_,_,rfl,rfl,_,rfl,?_⟩⟩;have zp:(ps.map V.ref).length=W.length:=by rw [ai,Paired.length A.hps]
 refine CC (P:=0<W.length) (by rw [zp]; simp) (fun pos=>?_) (fun nil=>?_)
 ·have hr:W[W.length-1]?=some W[W.length-1]:=br (by omega);obtain ⟨a,ea,hat⟩:=Paired.get A.hps hr;have hrL:=A.sub W[W.length-1] (jw _);have hRr:=A.all _ hrL;have hrg:=rp.rg _ hRr;have hnext:=rp.next _ hRr;generalize W[W.length-1]=r at hr hat hrL hRr hrg hnext;have last:(ps.map V.ref)[(ps.map V.ref).length-1]?=some (.ref a):=by rw [zp,bQ,ea]; rfl
  have kt:hE H4 (upd H4 wl (.lst (ps.map V.ref).dropLast)):=cL A.hwl;have nwr:wl≠rd:=fun z=>by have:=A.hwl; rw [z,A.hrd] at this; cases this
  have A5:qD H (upd H4 wl (.lst (ps.map V.ref).dropLast)) rd wl (ps.take (W.length-1)) L (W.take (W.length-1)) R:=by
   refine ⟨by rw [af nwr.symm]; exact A.hrd,?_,Paired.mapP (Paired.takeP _ A.hps) fun _ _ q=>kt _ _ q,A.nd,A.all,fun x hx=>A.sub x (eK hx),fun b q e=>by rw [af (ae e A.w0)]; exact A.S _ _ e,A.r0,A.w0⟩;rw [aa,List.dropLast_eq_take,zp,mq]
  have hat5:=kt _ _ hat;have zw:(W.take (W.length-1)).length=W.length-1:=by rw [aJ]; omega
  refine ⟨fun σ' H'=>∃m',m'<2 * (40000-L.length)+W.length/\∃(ps:Ze) (L W:List Row) (x5 x6 x7:Option V),m'=2 * (40000-L.length)+W.length/\m'<=80000/\σ'=[some (.ref mo),some (.ref I),some (.ref p0),some (.ref rd),some (.ref wl),x5,x6,x7]/\qD H H' rd wl ps L W R,fun σ' H' h=>h,?_⟩;refine ⟨_,rfl,.inl ⟨rfl,_,aB.of A.hwl⟩,wl,_,.ref a,rfl,rfl,A.hwl,last,a,_,rfl,bL.of hat5,rfl,_,_,rfl,_,_,rfl,rfl,?_⟩;generalize upd H4 wl (.lst (ps.map V.ref).dropLast)=H5 at A5 hat5 kt ⊢;have F5:=F.same A5.S;obtain ⟨dx5,fs5,g5,m1,m2,m3,m4,m5,_⟩:=F5.ob;have ed:ts[r.2]?=some (ts[r.2]'hrg.2):=br hrg.2;have atd:pI (ts.map V.ref) (r.2:Nat)=some (.ref (ts[r.2]'hrg.2)):=bc (by rw [bQ,ed]; rfl);obtain ⟨_,hrd5⟩:=yZ.rd st ed;generalize ts[r.2]'hrg.2=sd at ed atd hrd5;refine ⟨_,rfl,_,rfl,_,rfl,_,rfl,mo,C,dx5,fs5,.ref ta,rfl,g5,c.cls,c.a5,m5,_,rfl,ta,_,_,_,rfl,rfl,aB.of (A5.S _ _ hta),atd,I,sd,r.1,r.2,ws.getD r.2 [],J0,J1,J2,ds,rfl,MA.same A5.S,hrg.1,Rd.same A5.S hrd5,fun nl nu H6 hnl hR6 hnl0 S6=>⟨nl,rfl,⟨_,aB.of hnl⟩,?_⟩⟩;have nnw:nl≠wl:=c9 (ae A5.hwl hnl0);refine cg (xs:=nu.map V.ref) (fun i σ H'=>∃(ps:Ze) (L' W':List Row) (x7:Option V),σ=[some (.ref mo),some (.ref I),some (.ref p0),some (.ref rd),some (.ref wl),some (.str r.1),some (.int (r.2:Nat)),x7]/\qD H H' rd wl ps L' W' R/\2 * (40000-L'.length)+W'.length<2 * (40000-L.length)+W.length/\H' nl=some (.lst (nu.map V.ref))/\iu H' nu (sk J2 ds r.1 r.2 (ws.getD r.2 [])))
   ⟨_,_,_,_,rfl,A5.same S6,by rw [zw]; omega,hnl,hR6⟩ (fun i σ H' _ ⟨_,_,_,_,_,_,_,q,_⟩=>aB.of q) ?_ ?_
  ·rintro i y σ H7 hi ⟨ps7,L7,W7,x7,rfl,A7,lt7,nl7,R7⟩;obtain ⟨u,hu,rfl⟩:=d6 hi;obtain ⟨row,hrow,hut⟩:=Paired.getL R7 hu;obtain ⟨n',en,hRn⟩:=hnext row (aO hrow);have hu7:sW H7 u (row.1,n'):=by rw [en] at hut; exact hut
   have gd:jT K H7 rd (.ref u) (bG (sF L7) (pd (row.1,n'))):=.inr ⟨_,pd (row.1,n'),u,.inl A7.hrd,rfl,cV.isIn 8 (h9 _) hu7.tk,h9 _,rfl⟩;refine ⟨_,rfl,_,rfl,rd,_,rfl,gd,_,rfl,?_⟩;rw [wx];have fw7:=few A7;refine CC (P:=¬(row.1,n')∈L7) (by by_cases q:(row.1,n')∈L7 <;> simp [q]) (fun new=>?_) (fun old=>⟨ps7,L7,W7,_,rfl,A7,lt7,nl7,R7⟩);have A8:=A7.add hu7 new hRn;have fw8:=few A8;rw [ax] at fw8;have fw8:L7.length+1<=40000:=fw8;have nwr:wl≠rd:=fun z=>by have:=A7.hwl; rw [z,A7.hrd] at this; cases this
   refine ⟨_,rfl,_,rfl,rd,u,sF L7,pd (row.1,n'),rfl,rfl,A7.hrd,cV.c 8 (h9 _) hu7.tk,h9 _,by unfold sF; rw [ai,j5]; omega,?_⟩;have wl8:upd H7 rd (.dT (cI (sF L7) (pd (row.1,n')) (.bl true))) wl=some (.lst (ps7.map V.ref)):=by rw [af nwr]; exact A7.hwl
   have w7:W7.length<=1000000:=by omega
   refine ⟨_,rfl,.inl ⟨rfl,_,aB.of wl8⟩,_,rfl,wl,_,.ref u,rfl,rfl,wl8,by rw [ai,Paired.length A7.hps,j5]; omega,?_⟩;refine ⟨_,_,_,_,rfl,A8,?_,?_,?_⟩
   ·rw [ax,ax];show 2 * (40000-(L7.length+1))+(W7.length+1)<_;omega
   ·rw [af nnw,af (fun z=>by have:=A7.hrd; rw [<-z,nl7] at this; cases this)]; exact nl7
   ·exact iu.kt ((C5 A7.hrd).trans (cL wl8)) R7
  ·rintro σ H7 ⟨ps7,L7,W7,x7,rfl,A7,lt7,_⟩;exact ⟨_,lt7,ps7,L7,W7,_,_,_,rfl,by omega,rfl,A7⟩
 ·refine ⟨_,rfl,rd,sF L,rfl,.inl ⟨A.hrd,fun o l hl=>?_⟩⟩;have S5:ac H (upd H4 rd (.frz o (.dT (sF L)))):=fun b q e=>by rw [af (ae e A.r0)]; exact A.S _ _ e
  have rd5:upd H4 rd (.frz o (.dT (sF L))) rd=some (.frz o (.dT (sF L))):=aa;generalize upd H4 rd (.frz o (.dT (sF L)))=H5 at S5 rd5 hl ⊢;have el:(sF L).length=L.length:=by unfold sF; rw [ai]
  have nrl:rd≠l:=ae rd5 hl;refine CN (fun i vs H'=>∃qs:List Addr,vs=qs.map V.ref/\H' l=some (.lst vs)/\H' rd=some (.frz o (.dT (sF L)))/\Paired (fun u (r:Row)=>∃ft f,H' u=some (.tup [.str r.1,.ref ft])/\m.fs[r.2]?=some f/\H' ft=some (.tup (f.map V.str))) qs (L.take i)/\ac H H')
   ⟨[],rfl,aa,kp rd5 hl,.nil,S5.trans (ac.new hl)⟩ (fun i vs H' _ ⟨_,_,q1,q2,_⟩=>⟨q1,q2⟩) ?_ ?_
  ·rintro vs H' ⟨qs,rfl,q1,_,q3,q4⟩;rw [el,bm] at q3;exact k l qs L H' q1 q3 A.nd A.all (S5.free hl) q4
  ·rintro i vs H' x b hi ⟨qs,rfl,q1,q2,q3,q4⟩ ⟨key,ek,tkc⟩;unfold sF at ek;rw [bQ] at ek;obtain ⟨r,hr,er⟩:=mn.1 ek;cases er;obtain ⟨rb,rfl,hrb⟩:=EX tkc;have hrg:=rp.rg r (A.all r (aO hr));have F':=F.same q4;obtain ⟨dx',fs',g',m1,m2,_⟩:=F'.ob;have hfn:m.fs[r.2]?=some (m.fs[r.2]'(by omega)):=br (by omega);obtain ⟨u,eu,hut⟩:=Paired.get F'.faces hfn;have atu:pI (us.map V.ref) (r.2:Nat)=some (.ref u):=bc (by rw [bQ,eu]; rfl);refine ⟨rb,_,rfl,bJ.sq hrb,rfl,_,_,rfl,_,_,rfl,rfl,rM ?_⟩;refine ⟨_,rfl,_,rfl,mo,C,dx',fs',.ref fa,rfl,g',c.cls,c.a2,m2,_,rfl,fa,_,_,_,rfl,rfl,aB.of F'.hfa,atu,(by show 2<=aj; decide),fun v hv=>⟨kp q1 hv,?_,tX hi ⟨qs++[v],by rw [au]; rfl,aa,?_,?_,?_⟩⟩⟩
   ·rw [ai,Paired.length q3,aJ,j5]; omega
   ·rw [af (fun z=>by rw [z,q1] at q2; cases q2)]; exact kp q2 hv
   ·rw [take_snoc hr];have hk:hE H' (upd (upd H' v (.tup [.str r.1,.ref u])) l (.lst (qs.map V.ref++[.ref v]))):=(ac.kt (ac.new hv)).trans (cL (kp q1 hv));refine cK (Paired.mapP q3 fun _ _ ⟨ft,f,w1,w2,w3⟩=>⟨ft,f,hk _ _ w1,w2,hk _ _ w3⟩) ⟨u,_,?_,hfn,hk _ _ hut⟩;rw [af (ae q1 hv).symm];exact aa
   ·intro b q e;rw [af (ae e (S5.free hl))];exact kp (q4 _ _ e) hv
def tu (K:Za) (C_Machine:Addr) (sp_Machine_says:Sp) (sp_Machine_asks:Sp):TS :=
 cH (A2 (aX (aL (wk K) (c_ C_Machine "asks" sp_Machine_asks [] E0 V0 bj) (c_ C_Machine "asks" sp_Machine_asks [] E0 V1 bj))) (aX (aL (wk K) (c_ C_Machine "says" sp_Machine_says [] E0 V0 bj) (c_ C_Machine "says" sp_Machine_says [] E0 V1 bj)))) (rT) (bR)
def t_:List Str:=["M","I"]
def jz (K:Za) (C_Machine:Addr) (sp_Machine_rooms:Sp) (sp_Machine_asks:Sp) (je:Sp):TS :=
 fx (cD K (c_ C_Machine "rooms" sp_Machine_rooms [] E0 V0 bj)) U1 (fx (cD K (c_ C_Machine "asks" sp_Machine_asks [] E0 V0 bj)) U2 (cH (Fc (tB (aM je (eX V0 V1 V2)))) (rT) (bR)))
def jQ:List Str:=["I","room","ask"]
def tq (K:Za) (sp_need_all_asks_taken:Sp) (sp_need_match:Sp):TS :=
 ao (bH (aM sp_need_match (aS V0 V1)))
 (bH (aM sp_need_all_asks_taken (aA V1)))
def t9:List Str:=["M","I"]
def vW (K:Za) (sp_law_put:Sp) (sp_law_take:Sp) (sp_law_still_on:Sp):TS :=
 ao (aN V1 (ir K 4 (aY U2 (aY U3 (aY U4 (aY U5 (g8)))))))
 (ao (aN (eZ (da K) (aA V5)) U5)
 (ao (aN (aM sp_law_take (aS V0 (tC (.int 6)))) U6)
 (ao (aN (aM sp_law_take (aq V0 (aA (eZ Hj (aS (tC (.int 1)) (eZ (d9 K) (aA V5))))))) U7)
 (ao (aN (aL (cT K) V4 (aM sp_law_take (aS V0 (eZ (d9 K) (aA V4))))) U8)
 (ao (aN (aL (cT K) V4 (aM sp_law_take (aS V0 (eZ (d9 K) (aA V4))))) U9)
 (ao (cH (aX (aL zQ V6 (tC (.int 0)))) (bH (aM sp_law_put (aq V5 (aq (bB (aq V8 (aq (bB (aq (tC (.str "say")) (aq (aL (cT K) V3 (aM sp_law_take (aS V0 (eZ (d9 K) (aA V3))))) bj))) (aA V9)))) bj)))) (cH (aX (aL zQ V6 (tC (.int 1)))) (bH (aM sp_law_put (aq V5 (aq (bB (aq V8 (aq (bB (aq (tC (.str "ask")) (aq (aL (cT K) V2 (aM sp_law_take (aS V0 (eZ (d9 K) (aA V2))))) bj))) (aA V9)))) bj)))) (cH (r_ (aX (aL zP V6 (tC (.int 4)))) (r_ (aX (aL (wk K) V5 (cY (bj)))) (aX (aL Fw (aL (jH K) (aL (jH K) (aL (cT K) V5 V7) (tC (.int 1))) (tC (.int 0))) (tC (.str "still")))))) (ao (aN (r9 K "list" DE V5 (aA V7)) Hx)
 (cH (aX (aL zQ V6 (tC (.int 3)))) (bH (aM sp_law_put (aq V5 (aq (bB (eX (aL (jH K) C7 (tC (.int 0))) (aL (jH K) C7 (tC (.int 1))) V9)) bj)))) (bR))) (cH (r_ (aX (aL zQ V6 (tC (.int 4)))) (aX (aL (wm K true) V8 (aM sp_law_still_on (aS V5 (cY (aA V9))))))) (bH (aM sp_law_put (aq V5 (aq (bB (eX V8 (bB (aA (tC (.str "still")))) V9)) bj)))) (bR)))))
 (bu (bB (aq V2 (eX V3 V4 V5))))))))))
def wZ:List Str:=["pen","told","asks","says","rooms","doors","way","at","room","other","door"]
def zh (K:Za) (sp_law_take:Sp) (sp_law_renamed:Sp) (sp_law_willing:Sp) (sp_law_turned:Sp) (sp_law_anew:Sp):TS :=
 ao (bH (aM sp_law_anew (aA V0)))
 (ao (fx (uO (aq (aM sp_law_take (aS V0 (aL eP V2 (tC (.int 1))))) bj)) U3 (aN (aM sp_law_turned (aS V0 V1)) U1))
 (ao (aN (aM sp_law_willing (aS V0 V1)) U1)
 (ao (cH (aX (aL zQ (aM sp_law_take (aS V0 (tC (.int 2)))) (tC (.int 0)))) (aN (aM sp_law_renamed (aS V0 V1)) U1) (bR))
 (bu V1))))
def AC:List Str:=["pen","told","most","turn"]
inductive fG (C:Addr) (vs:List V) (H:Hp) (Q:VK) (E:XK):Prop
 | mk (x y:Addr) (J0 J1 J2 rooms':Zb) (ds ds':List am):(vs=[.ref x,.ref y])->(be C H x J0 J1 J2 ds)->(be C H y J0 J1 rooms' ds')->(∀H',ac H H'->Q .non H')->fG C vs H Q E
theorem sn {K:Za}{C:Addr}{vs:List V}{H:Hp}{Q:VK}{E:XK}(h:fG C vs H Q E):tu K C (nJ C) (ln C) (bC Q) (start t_ vs) H:=by
 obtain ⟨x,y,J0,J1,J2,rooms',ds,ds',rfl,M,N,k⟩:=h;obtain ⟨dx,fs,g1,a1,a2,_⟩:=id M.more;obtain ⟨dy,gs,g2,b1,b2,_⟩:=id N.more;refine ⟨_,rfl,x,dx,fs,rfl,g1,a1,x,J0,J1,J2,ds,rfl,M,fun l1 h1=>?_⟩;have S1:ac H (upd H l1 (.lst (J0.map V.str))):=ac.new h1;have e1:upd H l1 (.lst (J0.map V.str)) l1=some (.lst (J0.map V.str)):=aa;generalize upd H l1 (.lst (J0.map V.str))=H1 at S1 e1 ⊢;refine ⟨_,rfl,y,dy,gs,rfl,S1 _ _ g2,b1,y,J0,J1,rooms',ds',rfl,N.same S1,fun l2 h2=>?_⟩;have S2:ac H (upd H1 l2 (.lst (J0.map V.str))):=S1.trans (ac.new h2);refine Bp (kp e1 h2) aa ⟨_,rfl,?_⟩;generalize upd H1 l2 (.lst (J0.map V.str))=H2 at S2 ⊢;rw [zzr1 rfl];refine cC ?_;refine ⟨_,rfl,x,dx,fs,rfl,S2 _ _ g1,a2,x,J0,J1,J2,ds,rfl,M.same S2,fun l3 h3=>?_⟩;have S3:ac H (upd H2 l3 (.lst (J1.map V.str))):=S2.trans (ac.new h3);have e3:upd H2 l3 (.lst (J1.map V.str)) l3=some (.lst (J1.map V.str)):=aa;generalize upd H2 l3 (.lst (J1.map V.str))=H3 at S3 e3 ⊢;refine ⟨_,rfl,y,dy,gs,rfl,S3 _ _ g2,b2,y,J0,J1,rooms',ds',rfl,N.same S3,fun l4 h4=>?_⟩;have S4:ac H (upd H3 l4 (.lst (J1.map V.str))):=S3.trans (ac.new h4);refine Bp (kp e3 h4) aa ⟨_,rfl,?_⟩;rw [zzr1 rfl];exact cC (k _ S4)
inductive gW (C:Addr) (vs:List V) (H:Hp) (Q:VK) (E:XK):Prop
 | mk (x:Addr) (J0 J1 J2:Zb) (ds:List am):(vs=[.ref x])->(be C H x J0 J1 J2 ds)->((∀r∈J2,∀a∈J0,fu ds r a))->(∀H',ac H H'->Q .non H')->gW C vs H Q E
theorem wg {K:Za}{C:Addr}{vs:List V}{H:Hp}{Q:VK}{E:XK}(h:gW C vs H Q E):jz K C (ik C) (ln C) (je C) (bC Q) (start jQ vs) H:=by
 obtain ⟨x,J0,J1,J2,ds,rfl,M,tk,k⟩:=h;obtain ⟨dx,fs,o1,o2,o3,o4,lv,qu,sgA,sl,ts,lps,gps,sps,g1,a1,a2,a3,a4,_⟩:=id M.at_;refine ⟨_,rfl,x,dx,fs,rfl,g1,a4,x,J0,J1,J2,ds,rfl,M,fun l1 h1=>?_⟩;have S1:ac H (upd H l1 (.lst (J2.map V.str))):=ac.new h1;have e1:upd H l1 (.lst (J2.map V.str)) l1=some (.lst (J2.map V.str)):=aa;generalize upd H l1 (.lst (J2.map V.str))=H1 at S1 e1 ⊢;refine ⟨l1,rfl,⟨_,aB.of e1⟩,?_⟩;refine cg (xs:=J2.map V.str) (fun i σ H'=>∃y z,σ=[some (.ref x),y,z]/\ac H1 H') ⟨_,_,rfl,ac.refl _⟩ (fun i σ H' _ ⟨_,_,_,S⟩=>aB.of (S _ _ e1)) ?_ ?_
 ·rintro i v σ H2 hi ⟨y,z,rfl,S2⟩;obtain ⟨r,hr,rfl⟩:=bv hi;have M2:=M.same (S1.trans S2);obtain ⟨dx,fs,g1,a1,_⟩:=id M2.more;refine ⟨_,rfl,x,dx,fs,rfl,g1,a1,x,J0,J1,J2,ds,rfl,M2,fun l2 h2=>?_⟩;have S3:ac H1 (upd H2 l2 (.lst (J0.map V.str))):=S2.trans (ac.new h2);have e2:upd H2 l2 (.lst (J0.map V.str)) l2=some (.lst (J0.map V.str)):=aa;generalize upd H2 l2 (.lst (J0.map V.str))=H3 at S3 e2 ⊢;refine ⟨l2,rfl,⟨_,aB.of e2⟩,?_⟩;refine cg (xs:=J0.map V.str) (fun j σ H'=>∃z,σ=[some (.ref x),some (.str r),z]/\ac H3 H') ⟨_,rfl,ac.refl _⟩ (fun i σ H' _ ⟨_,_,S⟩=>aB.of (S _ _ e2)) ?_ ?_
  ·rintro j v σ H4 hj ⟨z,rfl,S4⟩;obtain ⟨a,ha,rfl⟩:=bv hj;refine ⟨_,rfl,_,rfl,_,rfl,x,r,a,J0,J1,J2,ds,rfl,M.same ((S1.trans S3).trans S4),aO hr,fun H5 S5=>⟨_,rfl,?_⟩⟩;rw [kC.2 (tk r (aO hr) a (aO ha))];exact cC ⟨_,rfl,S4.trans S5⟩
  ·rintro σ H4 ⟨z,rfl,S4⟩;exact ⟨_,_,rfl,S3.trans S4⟩
 ·rintro σ H2 ⟨y,z,rfl,S2⟩;exact k H2 (S1.trans S2)
inductive fF (C:Addr) (vs:List V) (H:Hp) (Q:VK) (E:XK):Prop
 | mk (x y:Addr) (J0 J1 J2 rooms':Zb) (ds ds':List am):(vs=[.ref x,.ref y])->(be C H x J0 J1 J2 ds)->(be C H y J0 J1 rooms' ds')->((∀r∈rooms',∀a∈J0,fu ds' r a))->(∀H',ac H H'->Q .non H')->fF C vs H Q E
theorem sm {K:Za}{C:Addr}{vs:List V}{H:Hp}{Q:VK}{E:XK}(h:fF C vs H Q E):tq K (gW C) (fG C) (bC Q) (start t9 vs) H:=by
 obtain ⟨x,y,J0,J1,J2,rooms',ds,ds',rfl,M,N,tk,k⟩:=h;exact ⟨_,rfl,_,rfl,x,y,J0,J1,J2,rooms',ds,ds',rfl,M,N,fun H1 S1=>⟨_,rfl,y,J0,J1,rooms',ds',rfl,N.same S1,tk,fun H2 S2=>k H2 (S1.trans S2)⟩⟩
theorem aH.out {J0 J1 J2:Zb}{ds:List am}(m:aH J0 J1 J2 ds) (k:Nat):aH J0 J1 J2 (ds.eraseIdx k):=by
 have sub:(ds.eraseIdx k).Sublist ds:=List.eraseIdx_sublist ds k;exact { m with nodup:=m.nodup.sublist sub,good:=fun d hd=>m.good d (sub.mem hd),few:=bP sub.length_le m.few,noround:=fun r z=>m.noround r (z.mono fun x y h=>sub.mem h) }
theorem Paired.out {α β:Type}{R:α->β->Prop}:∀{as:List α}{bs:List β}(k:Nat),Paired R as bs->Paired R (as.eraseIdx k) (bs.eraseIdx k)
 | _,_,_,.nil=>.nil
 | _,_,0,.cons _ t=>t
 | _,_,k+1,.cons r t=>.cons r (Paired.out k t)
theorem uS {α β:Type}(f:α->β):∀(l:List α) (n:Nat),(l.map f).eraseIdx n=(l.eraseIdx n).map f
 | [],_=>rfl
 | _::_,0=>rfl
 | a::l,n+1=>by show f a::_=f a::_; rw [uS f l n]
def TR (J0 J1 J2:Zb) (n:Nat) (ds:List am):Prop:=aH J0 J1 J2 ds/\ds.length<=n
inductive lc  (vs:List V) (H:Hp) (Q:VK) (E:XK):Prop
 | mk (p c t l1 l2 l3 l4:Addr) (ts:Ze) (J0 J1 J2:Zb) (ds:List am):(vs=[.ref p,.ref t])->(ga H p c)->(js H t l1 l2 l3 l4 ts J0 J1 J2 ds)->(aH J0 J1 J2 ds)->(ds.length<=690)->(∀(t' l4':Addr) (ts':Ze) (ds':List am) (H':Hp),js H' t' l1 l2 l3 l4' ts' J0 J1 J2 ds'->aH J0 J1 J2 ds'->ds'.length<=ds.length+1->ga H' p c->cM p H H'->Q (.ref t') H')->lc  vs H Q E
theorem Ca {K:Za}{vs:List V}{H:Hp}{Q:VK}{E:XK}(h:lc vs H Q E):vW K jE eR (fh K) (bC Q) (start wZ vs) H:=by
 obtain ⟨p,c,t,l1,l2,l3,l4,ts,J0,J1,J2,ds,rfl,hp,T,m,z8,k⟩:=h;have a4:=m.asks4;have s4:=m.says4;have r4:=m.rooms26;refine ⟨_,rfl,t,_,rfl,bL.of T.t,rfl,_,_,rfl,_,_,rfl,_,_,rfl,_,_,rfl,rfl,?_⟩;refine ⟨_,rfl,.inl ⟨l4,_,rfl,.inl (aB.of T.a4),fun f hf=>?_⟩⟩;have B0:TX H p c f (fun x=>x=ds) (upd H f (.lst (ts.map V.ref))):=⟨hp.ex (ac.new hf),⟨ts,ds,aa,T.ds.kt (ac.kt (ac.new hf)),rfl⟩,cM.new hf,hf,hp.nep hf,hp.nec hf⟩;generalize upd H f (.lst (ts.map V.ref))=H1 at B0 ⊢;have keep:∀{H':Hp}{R:List am->Prop},TX H p c f R H'->H' l1=some (.lst (J0.map V.str))/\H' l2=some (.lst (J1.map V.str))/\H' l3=some (.lst (J2.map V.str)):=fun B =>
  ⟨B.ex _ _ T.a1 (hp.ne_strs T.a1),B.ex _ _ T.a2 (hp.ne_strs T.a2),B.ex _ _ T.a3 (hp.ne_strs T.a3)⟩
 refine ⟨_,rfl,dj B0.pen (by decide) (by decide) fun way H2 w0 w1 hp2 ex2=>?_⟩;have B2:=B0.took hp2 ex2;obtain ⟨us,es,g1,g2,rfl⟩:=id B2.ds;refine ⟨_,rfl,_,rfl,.inl ⟨f,_,rfl,.inl (aB.of g1),_,_,rfl,?_⟩⟩;have lu:us.length=es.length:=Paired.length g2;refine dj B2.pen (by split <;> omega) (by rw [ai,lu]; split <;> omega) fun at_ H3 n0 n1 hp3 ex3=>?_;have B3:=B2.took hp3 ex3;rw [ai,lu] at n1;refine iG (fun _ _ _ _ h=>h) rfl rfl B3.pen (keep B3).2.2 m.rooms0 (by omega) fun room hroom H4 hp4 ex4=>?_;have B4:=B3.took hp4 ex4;refine iG (fun _ _ _ _ h=>h) rfl rfl B4.pen (keep B4).2.2 m.rooms0 (by omega) fun other hother H5 hp5 ex5=>?_;have B5:=B4.took hp5 ex5;clear B0 B2 B3 B4 hp2 hp3 hp4 hp5 ex2 ex3 ex4 ex5 g1 g2;have fin:∀{H6:Hp}(x10:Option V),TX H p c f (TR J0 J1 J2 (es.length+1)) H6->(bu (bB (aq V2 (eX V3 V4 V5)))) (bC Q) [some (.ref p),some (.ref t),some (.ref l1),some (.ref l2),some (.ref l3),some (.ref f),some (.int way),some (.int at_),some (.str room),some (.str other),x10] H6:=fun x10 B=>by
  obtain ⟨us,fs,g1,g2,g3⟩:=B.ds;obtain ⟨q1,q2,q3⟩:=keep B;refine ⟨_,rfl,_,rfl,_,rfl,_,rfl,(by show 4<=aj; decide),fun t' ht'=>?_⟩;have S3:=ac.new (o:=.tup [.ref l1,.ref l2,.ref l3,.ref f]) ht';exact k t' f us fs _ ⟨aa,S3 _ _ q1,S3 _ _ q2,S3 _ _ q3,S3 _ _ g1,g2.kt (ac.kt S3)⟩ g3.1 g3.2 (B.pen.ex S3) (B.ex.trans (ac.exB S3))
 have put:∀{H6:Hp}{fs:List am}{d:Addr}{x:am}(x10:Option V),TX H p c f (fun y=>y=fs) H6->fs.length<=es.length->gb H6 d x->aH J0 J1 J2 (kK fs x)->jE [.ref f,.ref d] H6 (fun _ H'=>(bu (bB (aq V2 (eX V3 V4 V5)))) (bC Q) [some (.ref p),some (.ref t),some (.ref l1),some (.ref l2),some (.ref l3),some (.ref f),some (.int way),some (.int at_),some (.str room),some (.str other),x10] H') E0:=fun x10 B le hat ok=>by
  obtain ⟨us',fs',k1,k2,rfl⟩:=id B.ds;refine ⟨f,_,us',_,_,rfl,k1,k2,hat,by omega,fun us2 D2=>fin x10 (B.put ⟨_,k1⟩ D2 ⟨ok,?_⟩)⟩;exact bP (sv _ _) (by omega)
 refine ⟨_,rfl,rfl,_,rfl,?_⟩;refine gD (fun _=>?_) (fun _=>?_)
 ·refine ⟨_,rfl,_,rfl,iG (fun _ _ _ _ h=>h) rfl rfl B5.pen (keep B5).2.1 m.says0 (by omega) fun w hw H6 hp6 ex6=>⟨(by show 2<=aj; decide),fun s hs=>⟨_,rfl,(by show 3<=aj; decide),fun d hd=>?_⟩⟩⟩;have B6:=B5.took hp6 ex6;have S:ac H6 (upd (upd H6 s (.tup [.str "say",.str w])) d (.tup [.str room,.ref s,.str other])):=(ac.new hs).trans (ac.new hd);exact put (x:=⟨room,nQ w,other⟩) _ (B6.same S) (aD _) ⟨s,aa,kp aa hd⟩ (m.putOne ⟨hroom,hother,.inr (.inl ⟨w,hw,rfl⟩)⟩ (by unfold nQ ar; intro h; injection h with _ h; cases h) (by omega))
 refine ⟨_,rfl,rfl,_,rfl,?_⟩;refine gD (fun _=>?_) (fun _=>?_)
 ·refine ⟨_,rfl,_,rfl,iG (fun _ _ _ _ h=>h) rfl rfl B5.pen (keep B5).1 m.asks0 (by omega) fun w hw H6 hp6 ex6=>⟨(by show 2<=aj; decide),fun s hs=>⟨_,rfl,(by show 3<=aj; decide),fun d hd=>?_⟩⟩⟩;have B6:=B5.took hp6 ex6;have S:ac H6 (upd (upd H6 s (.tup [.str "ask",.str w])) d (.tup [.str room,.ref s,.str other])):=(ac.new hs).trans (ac.new hd);exact put (x:=⟨room,cj w,other⟩) _ (B6.same S) (aD _) ⟨s,aa,kp aa hd⟩ (m.putOne ⟨hroom,hother,.inl ⟨w,hw,rfl⟩⟩ (uZ w) (by omega))
 have still:∀{H6:Hp},TX H p c f (fun y=>y=es) H6->(cH (r_ (aX (aL zQ V6 (tC (.int 4)))) (aX (aL (wm K true) V8 (aM (fh K) (aS V5 (cY (aA V9))))))) (bH (aM jE (aq V5 (aq (bB (eX V8 (bB (aA (tC (.str "still")))) V9)) bj)))) (bR)) { nx:=(bu (bB (aq V2 (eX V3 V4 V5)))) (bC Q),rt:=Q } [some (.ref p),some (.ref t),some (.ref l1),some (.ref l2),some (.ref l3),some (.ref f),some (.int way),some (.int at_),some (.str room),some (.str other),none] H6:=fun {H6} B=>by
  have idle:TX H p c f (TR J0 J1 J2 (es.length+1)) H6:=B.imp fun y e=>by rw [e]; exact ⟨m,lX _⟩
  refine ⟨_,rfl,rfl,_,rfl,?_⟩;refine gD (fun _=>?_) (fun _=>cC (fin _ idle));refine ⟨_,rfl,_,rfl,_,rfl,(by show 1<=aj; decide),fun bl hbl=>?_⟩;have B7:=B.same (ac.new (o:=.lst [.str other]) hbl);have e7:upd H6 bl (.lst [.str other]) bl=some (.lst [.str other]):=aa;generalize upd H6 bl (.lst [.str other])=H7 at B7 e7 ⊢;obtain ⟨us,fs,g1,g2,rfl⟩:=id B7.ds;refine ⟨f,bl,us,fs,[other],J2,rfl,g1,g2,e7,fun d hd=>(m.good d hd).b,by omega,(by show 1<=1000; decide),fun g F H8 hg hF _ _ S8=>?_⟩;have B8:=B7.same S8;refine ⟨ix room,F.map ix,g,_,sP room,rfl,.inl (aB.of hg),pH _,(by show 0<=8; decide),by rw [gE]; decide,_,rfl,?_⟩;rw [if_pos rfl];by_cases c1:room∈F
  ·rw [zzr1 (lB.mpr c1)];exact cC (fin _ (B8.imp fun y e=>by rw [e]; exact ⟨m,lX _⟩))
  rw [zzr0 (fun z=>c1 (lB.mp z))];refine dO ?_;refine ⟨_,rfl,_,rfl,(by show 1<=aj; decide),fun s hs=>⟨_,rfl,(by show 3<=aj; decide),fun d hd=>?_⟩⟩;have S:ac H8 (upd (upd H8 s (.tup [.str "still"])) d (.tup [.str room,.ref s,.str other])):=(ac.new hs).trans (ac.new hd);exact put (x:=⟨room,ar,other⟩) _ (B8.same S) (aD _) ⟨s,aa,kp aa hd⟩ (m.putStill hroom hother (fun z=>c1 ((hF room).mpr z)) (by omega))
 refine ⟨_,rfl,_,_,rfl,rfl,_,rfl,?_⟩;refine gD (fun _=>?_) (fun _=>cC (still B5));refine ⟨_,rfl,(by show 0<=aj; decide),fun q hq=>?_⟩;have B6:=B5.same (ac.new (o:=.lst []) hq);have e6:upd H5 q (.lst []) q=some (.lst []):=aa;generalize upd H5 q (.lst [])=H6 at B6 e6 ⊢;obtain ⟨us,fs,g1,g2,rfl⟩:=id B6.ds;refine DX g1 g2 e6 (fun c1=>⟨_,rfl,dO ?_⟩) (fun _=>⟨_,rfl,cC (cC (still B6))⟩);have fl:0<fs.length:=List.length_pos_iff.2 c1;have n2:at_<fs.length:=by split at n1 <;> omega
 obtain ⟨n,rfl⟩:=iO n0;have n3:n<fs.length:=by omega
 have hdr:fs[n]?=some fs[n]:=br n3;obtain ⟨u,hu,hat⟩:=Paired.get g2 hdr;generalize fs[n]=dr at hdr hat;have hm:=aO hdr;obtain ⟨sb,ht2,hs2⟩:=hat;obtain ⟨s0,rest,hsg,_⟩:=uw (m.good dr hm);have at0:pI (dr.sg.map V.str) 0=some (.str s0):=by rw [hsg]; exact bc (j:=0) rfl
 have atu:(us.map V.ref)[n]?=some (.ref u):=by rw [bQ,hu]; rfl
 refine ⟨_,rfl,_,rfl,f,_,_,_,rfl,rfl,aB.of g1,bc atu,u,_,1,_,rfl,rfl,bL.of ht2,rfl,sb,_,0,_,rfl,rfl,bL.of hs2,at0,rfl,_,rfl,?_⟩;refine gD (fun c2=>?_) (fun _=>still B6);have ns:dr.sg≠ar:=fun z=>by
  rw [hsg] at z;injection z with z;rw [z] at c2;simp at c2
 have six:vN (n:Int) (us.map V.ref).length=some n:=(wE (FM (by rw [ai,Paired.length g2]; exact n3))).1;refine ⟨_,rfl,.inl ⟨rfl,_,aB.of g1⟩,_,rfl,f,_,_,n,.ref u,rfl,rfl,g1,by omega,by omega,six,atu,?_⟩;have ee:(us.map V.ref).eraseIdx n=(us.eraseIdx n).map V.ref:=uS _ us n;rw [ee];have k6:hE H6 (upd H6 f (.lst ((us.eraseIdx n).map V.ref))):=cL g1;have B7:TX H p c f (fun y=>y=fs.eraseIdx n) (upd H6 f (.lst ((us.eraseIdx n).map V.ref))):=B6.put ⟨_,g1⟩ (Paired.out n g2) rfl;have t7:=k6 _ _ ht2;have s7:=k6 _ _ hs2;generalize upd H6 f (.lst ((us.eraseIdx n).map V.ref))=H7 at B7 t7 s7 ⊢;have m7:=m.out n;have l7:(fs.eraseIdx n).length<=fs.length:=(List.eraseIdx_sublist fs n).length_le;refine ⟨_,rfl,rfl,_,rfl,?_⟩;refine gD (fun _=>?_) (fun _=>fin _ (B7.imp fun y e=>by rw [e]; exact ⟨m7,by omega⟩));refine ⟨_,rfl,_,rfl,u,_,0,_,rfl,rfl,bL.of t7,rfl,_,rfl,u,_,1,_,rfl,rfl,bL.of t7,rfl,_,rfl,(by show 3<=aj; decide),fun d hd=>?_⟩;have S:ac H7 (upd H7 d (.tup [.str dr.a,.ref sb,.str other])):=ac.new hd;exact put (x:=⟨dr.a,dr.sg,other⟩) _ (B7.same S) l7 ⟨sb,aa,S _ _ s7⟩ (m7.putOne ⟨(m.good dr hm).a,hother,(m.good dr hm).sg⟩ ns (by omega))
theorem Reach.ren {ds:List am}{f:Str->Str}{x y:Str}(h:Reach ds x y):Reach (ds.map (tO f)) (f x) (f y):=by
 induction h with
 | one e=>exact .one (ay.2 ⟨_,e,rfl⟩)
 | step _ e ih=>exact .step ih (ay.2 ⟨_,e,rfl⟩)
theorem fu.ren {ds:List am}{f:Str->Str}{r a:Str}:fu ds r a->fu (ds.map (tO f)) (f r) a:=fun ⟨w,hw,b,hb⟩ =>
 ⟨f w,hw.imp (fun e=>by rw [e]) Reach.ren,f b,ay.2 ⟨_,hb,rfl⟩⟩
inductive iE  (vs:List V) (H:Hp) (Q:VK) (E:XK):Prop
 | mk (p c t l1 l2 l3 l4:Addr) (ts:Ze) (J0 J1 J2:Zb) (ds:List am):(vs=[.ref p,.ref t])->(ga H p c)->(js H t l1 l2 l3 l4 ts J0 J1 J2 ds)->(aH J0 J1 J2 ds)->(J2.length<=26)->(∀(t' l3' l4':Addr) (ts':Ze) (rooms':Zb) (f:Str->Str) (H':Hp),js H' t' l1 l2 l3' l4' ts' J0 J1 rooms' (ds.map (tO f))->aH J0 J1 rooms' (ds.map (tO f))->rooms'.Perm (J2.map f)->ga H' p c->cM p H H'->Q (.ref t') H')->iE  vs H Q E
theorem xO {K:Za}{vs:List V}{H:Hp}{Q:VK}{E:XK}(h:iE vs H Q E):tD K eR kG (bC Q) (start ud vs) H:=by
 obtain ⟨p,c,t,l1,l2,l3,l4,ts,J0,J1,J2,ds,rfl,hp,T,m,z3,k⟩:=h;have z4:=m.few;have hr0:0<J2.length:=by
  cases hq:J2 with
  | nil=>exact absurd hq m.rooms0
  | cons _ _=>simp
 refine ⟨_,rfl,t,_,rfl,bL.of T.t,rfl,_,_,rfl,_,_,rfl,_,_,rfl,_,_,rfl,rfl,?_⟩;refine fun d hd=>?_;have dp:=hp.nep hd;have dc:=hp.nec hd;have T1:=T.same (ac.new (o:=.dK []) hd);have hp1:=hp.ex (ac.new (o:=.dK []) hd);have hd1:upd H d (.dK []) d=some (.dK (C4 [])):=aa;have ex1:cM p H (upd H d (.dK [])):=cM.new hd;generalize upd H d (.dK [])=H1 at T1 hp1 hd1 ex1 ⊢;refine ⟨_,rfl,_,rfl,_,rfl,.inl ⟨l3,_,rfl,.inl (aB.of T1.a3),p,c,(J2.map V.str).length,rfl,hp1,by rw [ai]; exact z3,fun lw ws H2 okw lenw frw hlw hp2 ex2=>?_⟩⟩;rw [ai] at lenw;have T2:=T1.ex hp1 ex2;have hd2:=ex2 _ _ hd1 dp.symm;have lwd:lw≠d:=fun z=>by rw [z,hd1] at frw; cases frw
 have lwp:=hp2.ne_strs hlw;refine ⟨l3,lw,rfl,.inl ⟨⟨_,aB.of T2.a3⟩,⟨_,aB.of hlw⟩,?_⟩⟩;have ez:(J2.zip ws).length=J2.length:=by rw [List.length_zip,lenw,Nat.min_self]
 refine Ep (xs:=J2.map V.str) (ys:=ws.map V.str) (by rw [ai,ai,lenw]) (fun i σ H'=>∃x7 x8:Option V,σ=[some (.ref p),some (.ref t),some (.ref l1),some (.ref l2),some (.ref l3),some (.ref l4),some (.ref d),x7,x8,none,none]/\H' d=some (.dK (C4 ((J2.zip ws).take i)))/\H' lw=some (.lst (ws.map V.str))/\ga H' p c/\cM p H H')
  ⟨_,_,rfl,hd2,hlw,hp2,ex1.trans ex2⟩ (fun i σ H' _ ⟨_,_,_,_,h1,_,ex⟩=>⟨aB.of (ex _ _ T.a3 (hp.ne_strs T.a3)),aB.of h1⟩) ?_ ?_
 ·rintro i x y σ H3 q hx hy ⟨x7,x8,rfl,hd3,hlw3,hp3,ex3⟩ hq;obtain ⟨r,hr,rfl⟩:=bv hx;obtain ⟨w,hw,rfl⟩:=bv hy;have hi:i<J2.length:=(bE.mp hr).1;refine ⟨q,_,rfl,bL.of aa,rfl,_,_,rfl,_,_,rfl,rfl,?_⟩;have hlen:(C4 ((J2.zip ws).take i)).length<aj:=by
   unfold C4;rw [ai,aJ];exact av (by omega)
  refine ⟨_,rfl,_,rfl,_,rfl,d,_,rfl,.inl ⟨_,.inr r,kp hd3 hq,rfl,hlen,rfl⟩,_,_,rfl,?_,?_,?_,?_⟩
  ·have hz:(J2.zip ws)[i]?=some (r,w):=by
    rw [List.getElem?_zip_eq_some]; exact ⟨hr,hw⟩
   have hn:r∉((J2.zip ws).take i).map (·.1):=by
    rw [mq,vP lenw];intro z;obtain ⟨j,hj⟩:=eJ z;have hjl:j<i:=by
     have:=(bE.mp hj).1;rw [aJ] at this;omega
    rw [List.getElem?_take_of_lt hjl] at hj;have:=qQ m.okR.1 hj hr;omega
   rw [aa,DW hn,take_snoc hz]
  ·rw [af lwd]; exact kp hlw3 hq
  ·exact (hp3.ex (ac.new hq)).upd dp dc
  ·intro b o e n;rw [af (ae e hd)];exact kp (ex3 _ _ e n) hq
 rintro σ H3 ⟨x7,x8,rfl,hd3,hlw3,hp3,ex3⟩;rw [ai,<-ez,bm] at hd3;have T3:=T.ex hp ex3;generalize hρ:EQ (J2.zip ws)=ρ;have hmap:J2.map ρ=ws:=by rw [<-hρ]; exact Ba m.okR.1 lenw
 have hval:∀r∈J2,bG (C4 (J2.zip ws)) (.inr r:dX)=some (.str (ρ r)):=fun r hr=>by
  rw [<-hρ]; exact Bo (by rw [vP lenw]; exact hr)
 refine ⟨_,rfl,l3,rfl,⟨_,aB.of T3.a3⟩,fun f hf=>?_⟩;refine dg (xs:=J2.map V.str) (fun i vs H'=>vs=((J2.take i).map ρ).map V.str/\ac H3 H'/\H' f=some (.lst vs)) ⟨rfl,ac.new hf,aa⟩ (fun i vs H' _ ⟨_,S,h'⟩=>⟨h',aB.of (S _ _ T3.a3)⟩) ?_ ?_;rotate_left
 ·rintro i vs H' x' hx' hi ⟨rfl,S,f'⟩;obtain ⟨r,hr,rfl⟩:=bv hx';refine gN (rM ?_);refine ⟨_,rfl,_,rfl,d,.str (ρ r),rfl,.inl ⟨_,.inr r,.inl (S _ _ hd3),rfl,(hval r (aO hr)).symm⟩,f',?_,tX hi ⟨?_,?_,aa⟩⟩
  ·rw [ai,ai,aJ];exact av (by omega)
  ·rw [take_snoc hr,au,au]; rfl
  ·intro b o q;rw [af (ae q hf)];exact S _ _ q
 rintro vs H4 ⟨rfl,S4,f4⟩;rw [ai,bm,hmap] at f4;have T4:=T3.same S4;have hp4:=hp3.ex S4;have hd4:=S4 _ _ hd3;refine ⟨_,rfl,_,rfl,.inl ⟨l3,_,rfl,.inl (aB.of T4.a3),dj (m:=((J2.map V.str).length:Nat)) hp4 (by rw [ai]; omega) (by rw [ai]; omega) fun r H5 r0 r1 hp5 ex5=>⟨_,_,rfl,rfl,?_⟩⟩⟩;rw [ai] at r1;obtain ⟨n,rfl⟩:=iO r0;have T5:=T4.ex hp4 ex5;have f5:=ex5 _ _ f4 (hp4.ne_strs f4);have hd5:=ex5 _ _ hd4 dp.symm;have exx5:cM p H H5:=(ex3.trans (ac.exB S4)).trans ex5;have c1:gF (ws.map V.str) none (some 1)=(ws.take 1).map V.str:=qS ws 1;have c2:gF (ws.map V.str) (some (1+(n:Int))) none=(ws.drop (1+n)).map V.str:=uU ws (1+n);have c3:gF (ws.map V.str) (some 1) (some (1+(n:Int)))=((ws.drop 1).take (1+n-1)).map V.str:=CM ws (j:=1) (k:=1+n) (by omega) (by omega);refine ⟨_,rfl,_,rfl,f,_,rfl,aB.of f5,fun q1 hq1=>⟨_,rfl,_,rfl,_,rfl,f,_,rfl,aB.of (kp f5 hq1),fun q2 hq2=>⟨q1,q2,_,_,rfl,rfl,kp aa hq2,aa,?_,fun q3 hq3=>⟨_,rfl,_,rfl,_,rfl,_,rfl,f,_,rfl,aB.of (kp (kp (kp f5 hq1) hq2) hq3),fun q4 hq4=>⟨q3,q4,_,_,rfl,rfl,kp aa hq4,aa,?_,fun q5 hq5=>?_⟩⟩⟩⟩⟩
 ·rw [c1,c2,ai,ai,aJ,fA];exact dR (av (by omega))
 ·rw [c1,c2,c3,ax,ai,ai,ai,aJ,fA,aJ,fA];exact dR (av (by omega))
 rw [c1,c2,c3] at hq5 ⊢;have m1:(ws.take 1).map V.str++(ws.drop (1+n)).map V.str=(ws.take 1++ws.drop (1+n)).map V.str:=au.symm;have m2:(ws.take 1++ws.drop (1+n)).map V.str++((ws.drop 1).take (1+n-1)).map V.str=(ws.take 1++ws.drop (1+n)++(ws.drop 1).take (1+n-1)).map V.str:=au.symm;rw [m1] at hq5 ⊢;rw [m2];have S6:=((((ac.new (o:=.lst ((ws.take 1).map V.str)) hq1).trans (ac.new (o:=.lst ((ws.drop (1+n)).map V.str)) (by rw [<-c1]; exact hq2))).trans (ac.new (o:=.lst ((ws.take 1++ws.drop (1+n)).map V.str)) (by rw [<-c1,<-c2]; exact hq3))).trans (ac.new (o:=.lst (((ws.drop 1).take (1+n-1)).map V.str)) (by rw [au,<-c1,<-c2]; exact hq4))).trans (ac.new (o:=.lst ((ws.take 1++ws.drop (1+n)++(ws.drop 1).take (1+n-1)).map V.str)) hq5);have hperm:=xp ws n;generalize ws.take 1++ws.drop (1+n)++(ws.drop 1).take (1+n-1)=rooms' at S6 hperm hq5 ⊢;have hr':(upd (upd (upd (upd (upd H5 q1 (.lst ((ws.take 1).map V.str))) q2 (.lst ((ws.drop (1+n)).map V.str))) q3 (.lst ((ws.take 1++ws.drop (1+n)).map V.str))) q4 (.lst (((ws.drop 1).take (1+n-1)).map V.str))) q5 (.lst (rooms'.map V.str))) q5=some (.lst (rooms'.map V.str)):=aa;generalize (upd (upd (upd (upd (upd H5 q1 (.lst ((ws.take 1).map V.str))) q2 (.lst ((ws.drop (1+n)).map V.str))) q3 (.lst ((ws.take 1++ws.drop (1+n)).map V.str))) q4 (.lst (((ws.drop 1).take (1+n-1)).map V.str))) q5 (.lst (rooms'.map V.str)))=H6 at S6 hr' ⊢;have T6:=T5.same S6;have hd6:=S6 _ _ hd5;refine ⟨_,rfl,l4,rfl,⟨_,aB.of T6.a4⟩,fun g hg=>?_⟩;refine dg (xs:=ts.map V.ref) (fun i vs H'=>∃us:List Addr,vs=us.map V.ref/\ac H6 H'/\H' g=some (.lst vs)/\cw H' us ((ds.take i).map (tO ρ))) ⟨[],rfl,ac.new hg,aa,.nil⟩ (fun i vs H' _ ⟨_,_,S,h',_⟩=>⟨h',aB.of (S _ _ T6.a4)⟩) ?_ ?_;rotate_left
 ·rintro i vs H' x' hx' hi ⟨us,rfl,S,g',hP⟩;obtain ⟨u,hu,rfl⟩:=d6 hx';obtain ⟨dr,hdr,hatd⟩:=Paired.getL T6.ds hu;obtain ⟨sb,ht2,hs2⟩:=hatd.kt (ac.kt S);have hmem:=aO hdr;have hda:=hval dr.a (m.good dr hmem).a;have hdb:=hval dr.b (m.good dr hmem).b;refine ⟨u,_,rfl,bL.of ht2,rfl,_,_,rfl,_,_,rfl,_,_,rfl,rfl,?_⟩;refine rM ?_;refine ⟨_,rfl,_,rfl,d,.str (ρ dr.a),rfl,.inl ⟨_,.inr dr.a,.inl (S _ _ hd6),rfl,hda.symm⟩,_,rfl,_,rfl,_,rfl,d,.str (ρ dr.b),rfl,.inl ⟨_,.inr dr.b,.inl (S _ _ hd6),rfl,hdb.symm⟩,(by show 3<=aj; decide),fun w hw=>⟨kp g' hw,?_,tX hi ⟨us++[w],by rw [au]; rfl,?_,aa,?_⟩⟩⟩
  ·rw [ai,Paired.length hP,ai,aJ];exact av (by omega)
  ·intro b o q;rw [af (ae q hg)];exact kp (S _ _ q) hw
  ·rw [take_snoc hdr,au];have hk:hE H' (upd (upd H' w (.tup [.str (ρ dr.a),.ref sb,.str (ρ dr.b)])) g (.lst (us.map V.ref++[.ref w]))):=(ac.kt (ac.new hw)).trans (cL (kp g' hw));refine cK (hP.kt hk) ⟨sb,?_,hk _ _ hs2⟩;exact (cL (kp g' hw)) _ _ aa
 rintro vs H7 ⟨us,rfl,S7,g7,hP⟩;rw [ai,Paired.length T.ds,bm] at hP;have T7:=T6.same S7;have hp7:=(hp5.ex S6).ex S7;have ex7:cM p H H7:=exx5.trans (ac.exB (S6.trans S7));refine ⟨_,rfl,_,rfl,_,rfl,_,rfl,(by show 4<=aj; decide),fun t' ht'=>k t' q5 g us rooms' ρ _ ⟨aa,kp T7.a1 ht',kp T7.a2 ht',kp (S7 _ _ hr') ht',kp g7 ht',hP.kt (ac.kt (ac.new ht'))⟩ (m.renamed okw hmap hperm) (by rw [hmap]; exact hperm) (hp7.ex (ac.new ht')) (ex7.trans (cM.new ht'))⟩
inductive qI  (vs:List V) (H:Hp) (Q:VK) (E:XK):Prop
 | mk (p c t l1 l2 l3 l4:Addr) (ts:Ze) (J0 J1 J2:Zb) (ds:List am) (n:Nat):(vs=[.ref p,.ref t,.int (n:Nat)])->(ga H p c)->(js H t l1 l2 l3 l4 ts J0 J1 J2 ds)->(aH J0 J1 J2 ds)->(J2.length<=26)->(ds.length<=650)->(n<=8)->(∀(t' l3' l4':Addr) (ts':Ze) (rooms':Zb) (ds':List am) (H':Hp),js H' t' l1 l2 l3' l4' ts' J0 J1 rooms' ds'->aH J0 J1 rooms' ds'->(∀r∈rooms',∀a∈J0,fu ds' r a)->rooms'.length=J2.length->ds'.length<=ds.length+n+4 * J2.length->ga H' p c->cM p H H'->Q (.ref t') H')->qI  vs H Q E
theorem Fn {K:Za}{vs:List V}{H:Hp}{Q:VK}{E:XK}(h:qI vs H Q E):zh K eR iE jC lc qM (bC Q) (start AC vs) H:=by
 obtain ⟨p,c,t,l1,l2,l3,l4,ts,J0,J1,J2,ds,n,rfl,hp,T,m,z3,z4,zn,k⟩:=h;refine ⟨_,rfl,p,c,rfl,hp,fun H1 hp1 ex1=>?_⟩;have T1:=T.ex hp ex1;refine ⟨_,rfl,_,rfl,_,_,rfl,rfl,dj hp1 (by omega) (by omega) fun x H2 x0 x1 hp2 ex2=>?_⟩;have T2:=T1.ex hp1 ex2;refine ⟨x,rfl,by omega,by omega,?_⟩;refine lF (lo:=0) (n:=x.toNat) (fun i σ H'=>∃(t' l4':Addr) (ts':Ze) (ds':List am) (x3:Option V),σ=[some (.ref p),some (.ref t'),some (.int (n:Nat)),x3]/\js H' t' l1 l2 l3 l4' ts' J0 J1 J2 ds'/\aH J0 J1 J2 ds'/\ds'.length<=ds.length+i/\ga H' p c/\cM p H H')
  ⟨t,l4,ts,ds,_,rfl,T2,m,aD _,hp2,ex1.trans ex2⟩ ?_ ?_
 ·rintro i σ H3 hi ⟨t',l4',ts',ds',x3,rfl,T3,m3,z,hp3,ex3⟩;refine ⟨_,rfl,_,rfl,p,c,t',l1,l2,l3,l4',ts',J0,J1,J2,ds',rfl,hp3,T3,m3,by omega,fun t2 l42 ts2 ds2 H4 T4 m4 z4 hp4 ex4=>?_⟩;exact ⟨t2,l42,ts2,ds2,_,rfl,T4,m4,by omega,hp4,ex3.trans ex4⟩
 ·rintro σ H3 ⟨t',l4',ts',ds',x3,rfl,T3,m3,z,hp3,ex3⟩;refine ⟨_,rfl,_,rfl,p,c,t',l1,l2,l3,l4',ts',J0,J1,J2,ds',rfl,hp3,T3,m3,z3,by omega,fun t2 l42 ts2 ds2 H4 T4 m4 tk4 zw hp4 ex4=>?_⟩;refine ⟨_,rfl,dj hp4 (by decide) (by decide) fun w H5 w0 w1 hp5 ex5=>⟨rfl,_,rfl,?_⟩⟩;have T5:=T4.ex hp4 ex5;refine gD (fun _=>?_) (fun _=>?_)
  ·refine ⟨_,rfl,_,rfl,p,c,t2,l1,l2,l3,l42,ts2,J0,J1,J2,ds2,rfl,hp5,T5,m4,z3,fun t3 l33 l43 ts3 rooms3 f H6 T6 m6 pr hp6 ex6=>⟨_,rfl,?_⟩⟩;refine k t3 l33 l43 ts3 rooms3 _ H6 T6 m6 (fun r hr a ha=>?_) (by rw [pr.length_eq,ai]) (by rw [ai]; omega) hp6 (((ex3.trans ex4).trans ex5).trans ex6);obtain ⟨r0,hr0,rfl⟩:=ay.1 (pr.mem_iff.1 hr);exact (tk4 r0 hr0 a ha).ren
  ·exact ⟨_,rfl,k t2 l3 l42 ts2 J2 ds2 H5 T5 m4 tk4 rfl (by omega) hp5 ((ex3.trans ex4).trans ex5)⟩
abbrev LP:=(List Str×List Str)×List Sg
section
variable (A B:List Str->Sg->List Str)
def cB (here:LP) (q:List LP×Option Sg) (sg:Sg):List LP×Option Sg :=
 match q.2 with
 | some _=>q
 | none=>if sg.head?≠some ("ask":Str)/\A here.1.1 sg=[]/\B here.1.2 sg≠[] then (q.1,some sg)
  else if A here.1.1 sg≠[]/\B here.1.2 sg≠[]/\¬(A here.1.1 sg,B here.1.2 sg)∈q.1.map (·.1) then (q.1++[((A here.1.1 sg,B here.1.2 sg),here.2++[sg])],none) else q
def p9 (here:LP) (L:List LP) (ss:List Sg):List LP×Option Sg:=ss.foldl (cB A B here) (L,none)
def cq (ss:List Sg) (k:List Str×List Str):Nat->List LP×Option (List Sg×Sg)
 | 0=>([(k,[])],none)
 | n+1=>match (cq ss k n).2 with
  | some _=>cq ss k n
  | none=>match (cq ss k n).1[n]? with
   | none=>cq ss k n
   | some c=>((p9 A B c (cq ss k n).1 ss).1,(p9 A B c (cq ss k n).1 ss).2.map fun sg=>(c.2,sg))
end
abbrev Hc (fm fi:List (List Str)) (P:List bb) (L:List LP):Prop:=Paired (fun (c:bb) (x:LP)=>fm[c.key.1]?=some x.1.1/\fi[c.key.2]?=some x.1.2/\c.story=x.2) P L
theorem yz {l:List (List Str)}(nd:l.Nodup) {i j:Nat}{r:Zb}(hi:l[i]?=some r) (hj:l[j]?=some r):i=j:=(List.getElem?_inj (bE.1 hi).1 nd).1 (hi.trans hj.symm)
theorem Hc.has {fm fi:List (List Str)}{P:List bb}{L:List LP}(h:Hc fm fi P L) (n1:fm.Nodup) (n2:fi.Nodup) {w g:Nat}{a b:Zb}(hw:fm[w]?=some a) (hg:fi[g]?=some b):iq P (w,g)=true↔(a,b)∈L.map (·.1):=by
 rw [kQ];constructor
 ·intro z;obtain ⟨c,hc,e⟩:=ay.1 z;obtain ⟨i,hi⟩:=eJ hc;obtain ⟨x,hx,e1,e2,_⟩:=Paired.getL h hi;rw [e] at e1 e2;rw [hw] at e1;rw [hg] at e2;injection e1 with e1;injection e2 with e2;exact ay.2 ⟨x,aO hx,by rw [e1,e2]⟩
 ·intro z;obtain ⟨x,hx,e⟩:=ay.1 z;obtain ⟨i,hi⟩:=eJ hx;obtain ⟨c,hc,e1,e2,_⟩:=Paired.get h hi;rw [e] at e1 e2;refine ay.2 ⟨c,aO hc,?_⟩;have:=yz n1 e1 hw;have:=yz n2 e2 hg;obtain ⟨⟨u,v⟩,_,_⟩:=c
  simp_all
theorem Ct {J0 J1 J2 f:Zb}{ds:List am}{fm:List (List Str)}{l:List (Sg×Nat)}(pr:Paired (fun (a:Sg×Nat) (p:Sg×List Str)=>a.1=p.1/\fm[a.2]?=some p.2) l (stepsF J0 J1 J2 ds f)) {sg:Sg}(hs:sg∈az J0 J1) :
  match bx l sg with | none=>behF J2 ds f sg=[] | some w=>behF J2 ds f sg≠[]/\fm[w]?=some (behF J2 ds f sg):=by
 cases e:bx l sg with
 | some w =>
  obtain ⟨i,hi⟩:=eJ (ym e);obtain ⟨p,hp,e1,e2⟩:=Paired.getL pr hi;have hp:=aO hp;obtain ⟨s,_,e3⟩:=ay.1 (b0.1 hp).1;have h3:=of_decide_eq_true (b0.1 hp).2;rw [<-e3] at e1 e2 h3;have e1:sg=s:=e1;subst e1;exact ⟨h3,e2⟩
 | none =>
  simp only;refine rC fun n=>?_;have hm:(sg,behF J2 ds f sg)∈stepsF J0 J1 J2 ds f:=b0.2 ⟨ay.2 ⟨sg,hs,rfl⟩,zzr1 n⟩;obtain ⟨i,hi⟩:=eJ hm;obtain ⟨a,ha,e1,_⟩:=Paired.get pr hi;unfold bx at e;rw [Option.map_eq_none_iff,List.find?_eq_none] at e;exact e a (aO ha) (zzr1 e1)
section
variable {J0 J1 J2 rooms':Zb}{ds ds':List am}{SM SI:pQ}
theorem we (nm:SM.1.fs.Nodup) (ni:SI.1.fs.Nodup) {wl:List (Sg×Nat)}{c:bb}{x:LP}
  (pm:Paired (fun (a:Sg×Nat) (p:Sg×List Str)=>a.1=p.1/\SM.1.fs[a.2]?=some p.2) wl (stepsF J0 J1 J2 ds x.1.1)) (es:c.story=x.2) :
  ∀(ss:List Sg) (l:List (Sg×Nat)) (q:List bb×Option Sg) (q':List LP×Option Sg),(∀s∈ss,s∈az J0 J1) ->
   Paired (fun (a:Sg×Nat) (p:Sg×List Str)=>a.1=p.1/\SI.1.fs[a.2]?=some p.2) l ((ss.map fun s=>(s,behF rooms' ds' x.1.2 s)).filter fun p=>decide (p.2≠[]))->Hc SM.1.fs SI.1.fs q.1 q'.1->q.2=q'.2 ->
   Hc SM.1.fs SI.1.fs (l.foldl (eA wl c) q).1 (ss.foldl (cB (behF J2 ds) (behF rooms' ds') x) q').1/\(l.foldl (eA wl c) q).2=(ss.foldl (cB (behF J2 ds) (behF rooms' ds') x) q').2
 | [],l,q,q',_,pl,s1,s2=>by
  cases pl;exact ⟨s1,s2⟩
 | s::ss,l,q,q',hs,pl,s1,s2=>by
  have hs':=fun y hy=>hs y (eO _ hy);have hs0:=hs s cy;rw [aZ] at pl;rw [gK];by_cases c1:behF rooms' ds' x.1.2 s=[]
  ·rw [List.filter_cons_of_neg (by simp [c1])] at pl;have e:cB (behF J2 ds) (behF rooms' ds') x q' s=q':=by
    unfold cB;cases q'.2 with
    | some _=>rfl
    | none =>
     simp only;rw [if_neg (fun z=>z.2.2 c1),if_neg (fun z=>z.2.1 c1)]
   rw [e];exact we nm ni pm es ss l q q' hs' pl s1 s2
  rw [List.filter_cons_of_pos (by simp [c1])] at pl;cases pl with
  | @cons a p l ps r t =>
  rw [gK];obtain ⟨e1,e2⟩:=r;have e1:a.1=s:=e1;have e2:SI.1.fs[a.2]?=some (behF rooms' ds' x.1.2 s):=e2;refine we nm ni pm es ss l _ _ hs' t ?_ ?_
  all_goals
   have lk:=Ct pm hs0;unfold eA cB;rw [<-s2,e1];cases q.2 with
   | some _=>first | exact s1 | exact s2
   | none =>
    simp only;cases e3:bx wl s with
    | none =>
     rw [e3] at lk;simp only at lk ⊢;rw [if_neg (c:=behF J2 ds x.1.1 s≠[]/\_) (fun z=>z.1 lk)];by_cases ca:s.head?=some ("ask":Str)
     ·rw [if_pos ca,if_neg (fun z=>z.1 ca)]; first | exact s1 | exact s2
     ·rw [if_neg ca,if_pos ⟨ca,lk,c1⟩]; try exact s1
    | some w =>
     rw [e3] at lk;simp only at lk ⊢;rw [if_neg (c:=s.head?≠_/\_) (fun z=>lk.1 z.2.1)];have hh:=Hc.has s1 nm ni lk.2 e2;by_cases ch:iq q.1 (w,a.2)=true
     ·rw [if_pos ch,if_neg (fun z=>z.2.2 (hh.1 ch))]; first | exact s1 | exact s2
     ·rw [if_neg ch,if_pos ⟨lk.1,c1,fun z=>ch (hh.2 z)⟩]; try exact cK s1 ⟨lk.2,e2,by show c.story++[s]=x.2++[s]; rw [es]⟩
theorem Do (om:pP J0 J1 J2 ds SM) (oi:pP J0 J1 rooms' ds' SI) (lm:SM.2.length=SM.1.fs.length) (li:SI.2.length=SI.1.fs.length) :
  ∀n,Hc SM.1.fs SI.1.fs (gP SI.2 SM.2 n).1 (cq (behF J2 ds) (behF rooms' ds') (az J0 J1) (closF J2 ds (J2.take 1),closF rooms' ds' (rooms'.take 1)) n).1/\(gP SI.2 SM.2 n).2=(cq (behF J2 ds) (behF rooms' ds') (az J0 J1) (closF J2 ds (J2.take 1),closF rooms' ds' (rooms'.take 1)) n).2
 | 0=>⟨.cons ⟨om.zero,oi.zero,rfl⟩ .nil,rfl⟩
 | n+1=>by
  obtain ⟨s1,s2⟩:=Do om oi lm li n;unfold gP cq;generalize gP SI.2 SM.2 n=q at s1 s2;generalize cq (behF J2 ds) (behF rooms' ds') (az J0 J1) (closF J2 ds (J2.take 1),closF rooms' ds' (rooms'.take 1)) n=q' at s1 s2;rw [<-s2];cases e:q.2 with
  | some y=>simp only; exact ⟨s1,s2⟩
  | none =>
   simp only;cases e1:q.1[n]? with
   | none =>
    have e2:q'.1[n]?=none:=by
     rw [List.getElem?_eq_none_iff] at e1 ⊢;rw [<-Paired.length s1]; exact e1
    rw [e2];exact ⟨s1,s2⟩
   | some c =>
    obtain ⟨x,hx,f1,f2,es⟩:=Paired.getL s1 e1;rw [hx];simp only;have row:∀{S:pQ}{rs f:Zb}{es:List am}{i:Nat},pP J0 J1 rs es S->S.2.length=S.1.fs.length->S.1.fs[i]?=some f->Paired (fun (a:Sg×Nat) (p:Sg×List Str)=>a.1=p.1/\S.1.fs[a.2]?=some p.2) (S.2.getD i []) (stepsF J0 J1 rs es f):=by
     intro S rs f es i ok le hf;have lt:i<S.2.length:=by rw [le]; exact (bE.1 hf).1
     have hl:S.2[i]?=some S.2[i]:=br lt;obtain ⟨f',hf',pr⟩:=ok.st _ _ hl;rw [hf] at hf';injection hf' with hf';rw [qY,hl,hf'];exact pr
    have:=we (rooms':=rooms') (ds':=ds') om.good.nd oi.good.nd (row om lm f1) es (az J0 J1) _ (q.1,none) (q'.1,none) (fun _ h=>h) (row oi li f2) s1 rfl;unfold bY p9;rw [this.2,es];exact ⟨this.1,rfl⟩
end
theorem uJ {ms ws:List (List (Sg×Nat))}{n:Nat}{x:List Sg×Sg}(h:(gP ms ws n).2=some x):∀m,(gP ms ws (n+m)).2=some x
 | 0=>h
 | m+1=>by
  have ih:=uJ h m;show (match (gP ms ws (n+m)).2 with | some _=>_ | none=>_:List bb×Option (List Sg×Sg)).2=_
  rw [ih];exact ih
theorem uI {ms ws:List (List (Sg×Nat))}{P:List bb}(h:gP ms ws P.length=(P,none)):∀m,gP ms ws (P.length+m)=(P,none)
 | 0=>h
 | m+1=>by
  have ih:=uI h m;rw [<-Db];unfold gP;rw [ih];simp only;rw [eW (Nat.le_add_right _ _)]
theorem yk {A B:List Str->Sg->List Str}{ss:List Sg}{k:List Str×List Str}:∀n,(∀x∈(cq A B ss k n).1,x.2.length<=n)/\∀x,(cq A B ss k n).2=some x->x.1.length<=n
 | 0=>⟨fun x hx=>by rw [bz.1 (show x∈[(k,([]:List Sg))] from hx)]; exact aD _,fun x h=>nomatch h⟩
 | n+1=>by
  obtain ⟨h1,h2⟩:=yk (A:=A) (B:=B) (ss:=ss) (k:=k) n;unfold cq;generalize cq A B ss k n=q at h1 h2;cases e:q.2 with
  | some y=>simp only; exact ⟨fun x hx=>oG (h1 x hx),fun x h=>oG (h2 x h)⟩
  | none =>
   simp only;cases e1:q.1[n]? with
   | none=>simp only; exact ⟨fun x hx=>oG (h1 x hx),fun x h=>oG (h2 x h)⟩
   | some c =>
    have hc:=h1 c (aO e1);simp only;refine ⟨?_,fun x h=>?_⟩
    ·have:∀(l:List Sg) (r:List LP×Option Sg),(∀x∈r.1,x.2.length<=n+1)->∀x∈(l.foldl (cB A B c) r).1,x.2.length<=n+1:=by
      intro l
      induction l with
      | nil=>intro r h; exact h
      | cons s l ih =>
       intro r h;rw [gK];refine ih _ fun x hx=>?_;unfold cB at hx;cases er:r.2 with
       | some _=>rw [er] at hx; exact h x hx
       | none =>
        rw [er] at hx;simp only at hx;split at hx
        ·exact h x hx
        ·split at hx
         ·rcases aW.1 hx with hx | hx
          ·exact h x hx
          ·rw [bz.1 hx];show (c.2++[s]).length<=n+1;rw [ax]; simpa using hc
         ·exact h x hx
     exact this ss _ fun x hx=>oG (h1 x hx)
    ·obtain ⟨sg,_,e2⟩:=mn.1 h;rw [<-e2];exact oG hc
def leastF (J0 J1 J2 rooms':Zb) (ds ds':List am):Option (List Sg×Sg):=(cq (behF J2 ds) (behF rooms' ds') (az J0 J1) (closF J2 ds (J2.take 1),closF rooms' ds' (rooms'.take 1)) 300).2
theorem gG.part {K:Za}{C x M fa sa na ta:Addr}{us ws:Ze}{m:fU}{H H':Hp}(h:gG K C H x M fa sa na ta us ws m) (e:∀b o,H b=some o->(∀k,o=.dT k->b=na)->H' b=some o):gG K C H' x M fa sa na ta us ws m:=by
 have k:hE H H':=fun b xs q=>e _ _ q fun _ z=>nomatch z;obtain ⟨⟨dx,fs,g,r⟩,h1,h2,h3,h4,h5,h6⟩:=h;refine ⟨⟨dx,fs,e _ _ g fun _ z=>(nomatch z),r⟩,e _ _ h1 fun _ z=>(nomatch z),Paired.mapP h2 fun _ _ r=>k _ _ r,e _ _ h3 fun _ z=>(nomatch z),Paired.mapP h4 fun w s r=>⟨r.1,?_⟩,e _ _ h5 fun _ _=>rfl,h6⟩;obtain ⟨gs,g1,g2⟩:=r.2;exact ⟨gs,e _ _ g1 fun _ z=>(nomatch z),Paired.mapP g2 fun _ _ r=>bJ.kt k r⟩
theorem GC {J0 J1:Zb}{sg:Sg}(h:sg∈az J0 J1):sg≠[]:=by
 unfold az at h;intro z;subst z;rcases aW.1 h with h | h
 ·rcases aW.1 h with h | h
  ·obtain ⟨w,_,e⟩:=ay.1 h; cases e
  ·obtain ⟨w,_,e⟩:=ay.1 h; cases e
 ·have:=bz.1 h; cases this
theorem pP.steps {J0 J1 J2:Zb}{ds:List am}{S:pQ}(ok:pP J0 J1 J2 ds S) {i:Nat}{p:Sg×Nat}(hp:p∈S.2.getD i []):p.2<S.1.fs.length/\p.1≠[]:=by
 rw [qY] at hp;cases e:S.2[i]? with
 | none=>rw [e] at hp; cases hp
 | some l =>
  rw [e] at hp;obtain ⟨f,_,pr⟩:=ok.st i l e;obtain ⟨j,hj⟩:=eJ hp;obtain ⟨q,hq,e1,e2⟩:=Paired.getL pr hj;obtain ⟨s,hs,e3⟩:=ay.1 (b0.1 (aO hq)).1;exact ⟨(bE.1 e2).1,by rw [e1,<-e3]; exact GC hs⟩
theorem Good.few4 {J2:Zb}{m:fU}(g:Good J2 m) (hr:J2.length<=4):m.fs.length<=16:=by
 have h:=hZ g.nd (R:=jd J2) (fun f hf=>by obtain ⟨p,rfl⟩:=g.isF f hf; exact jb p J2);rw [jc] at h;have:2 ^ J2.length<=2 ^ 4:=u8 (by decide) hr;omega
theorem hV {H0 H:Hp}{na:Addr}{ts:Ze}{st:List (List (Sg×Nat))}(h:oy H0 na H ts st):∀t∈ts,H0 t=none/\t≠na/\∃l,H t=some (.dT l):=fun t ht=>by
 obtain ⟨i,hi⟩:=eJ ht;obtain ⟨l,_,r⟩:=Paired.getL h hi;exact ⟨r.1,r.2.1,_,r.2.2⟩
theorem Paired.mapM {α β:Type}{F G:α->β->Prop}:∀{as:List α}{bs:List β},Paired F as bs->(∀a b,a∈as->F a b->G a b)->Paired G as bs
 | _,_,.nil,_=>.nil
 | _,_,.cons r t,h=>.cons (h _ _ cy r) (Mum.Paired.mapM t fun a b ha=>h a b (eO _ ha))
inductive dF (K:Za) (Cm:Addr) (vs:List V) (H:Hp) (Q:VK) (E:XK):Prop
 | mk (x y:Addr) (J0 J1 J2 rooms':Zb) (ds ds':List am):(vs=[.ref x,.ref y])->(be Cm H x J0 J1 J2 ds)->(be Cm H y J0 J1 rooms' ds')->((∀r∈rooms',∀a∈J0,fu ds' r a))->(J2.length<=4)->(rooms'.length<=4)->((leastF J0 J1 J2 rooms' ds ds'=none->∀(u l:Addr) (ps:Ze) (H':Hp),H' u=some (.tup [.str "keeps",.ref l])->H' l=some (.lst (ps.map V.ref))->ps.length<=64->H l=none->ac H H'->Q (.ref u) H'))->(∀(s:List Sg) (g:Sg),leastF J0 J1 J2 rooms' ds ds'=some (s,g)->∀(u l b:Addr) (gs:Ze) (H':Hp),H' u=some (.tup [.str "fault",.ref l,.ref b])->H' l=some (.lst (gs.map V.ref))->Paired (fun g (sg:Sg)=>bJ K H' g (sg.map V.str)) gs s->bJ K H' b (g.map V.str)->H l=none->ac H H'->Q (.ref u) H')->dF K Cm vs H Q E
theorem Eg {K:Za}{Cm:Addr}{H:Hp}{Q:VK}{E:XK}{x y:Addr}{J0 J1 J2 rooms':Zb}{ds ds':List am}(M:be Cm H x J0 J1 J2 ds) (N:be Cm H y J0 J1 rooms' ds') (tk:∀r∈rooms',∀a∈J0,fu ds' r a) (z1:J2.length<=4) (z2:rooms'.length<=4)
  (kn:leastF J0 J1 J2 rooms' ds ds'=none->∀(u l:Addr) (ps:Ze) (H':Hp),H' u=some (.tup [.str "keeps",.ref l])->H' l=some (.lst (ps.map V.ref))->ps.length<=64->H l=none->ac H H'->Q (.ref u) H')
  (kf:∀(s:List Sg) (g:Sg),leastF J0 J1 J2 rooms' ds ds'=some (s,g)->∀(u l b:Addr) (gs:Ze) (H':Hp),H' u=some (.tup [.str "fault",.ref l,.ref b])->H' l=some (.lst (gs.map V.ref))->Paired (fun g (sg:Sg)=>bJ K H' g (sg.map V.str)) gs s->bJ K H' b (g.map V.str)->H l=none->ac H H'->Q (.ref u) H'):dF K Cm [.ref x,.ref y] H Q E:=by
 exact ⟨x,y,J0,J1,J2,rooms',ds,ds',rfl,M,N,tk,z1,z2,kn,kf⟩
theorem Dy {K:Za}{C Cm:Addr}(c:FC K C) {vs:List V}{H:Hp}{Q:VK}{E:XK}(h:dF K Cm vs H Q E):Fb K (jF K C Cm) (gk K) C (lh K C Cm) (fF Cm) (bC Q) (start Gd vs) H:=by
 classical
 obtain ⟨x,y,J0,J1,J2,rooms',ds,ds',rfl,MX,MY,tk,z4,z4',kn,kf⟩:=h;refine ⟨_,rfl,_,rfl,x,y,J0,J1,J2,rooms',ds,ds',rfl,MX,MY,tk,fun H1 S1=>?_⟩;have MX1:=MX.same S1;have MY1:=MY.same S1;refine ⟨_,rfl,fun o1 d1 ho1 hd1 ne1=>?_⟩;have S2:ac H1 (upd (upd H1 d1 (.own o1)) o1 (.ins C d1 [])):=fun b o e=>by rw [af (ae e ho1)]; exact kp e hd1
 refine ⟨H1,o1,d1,x,J0,J1,J2,ds,rfl,aa,MX1,ho1,S2,by omega,fun fa sa na ta us ws ts S j H3 F3 ta3 st3 ok3 len3 _ S3=>⟨rfl,?_⟩⟩;clear S2;obtain ⟨dx1,fs1,g1,l1,l2,l3,l4,l5,l6,l7⟩:=F3.ob;refine ⟨_,rfl,o1,C,dx1,fs1,.ref ta,rfl,g1,c.cls,c.a5,l5,?_⟩;refine ⟨_,rfl,fun o2 d2 ho2 hd2 ne2=>?_⟩;have S4:ac H3 (upd (upd H3 d2 (.own o2)) o2 (.ins C d2 [])):=fun b o e=>by rw [af (ae e ho2)]; exact kp e hd2
 refine ⟨H3,o2,d2,y,J0,J1,rooms',ds',rfl,aa,MY1.same S3,ho2,S4,by omega,fun fa' sa' na' ta' us' ws' ts' SI j' H5 F5 ta5 st5 ok5 len5 itI S5=>⟨rfl,?_⟩⟩;clear S4;obtain ⟨dx2,fs2,g2,m1,m2,m3,m4,m5,m6,m7⟩:=F5.ob;refine ⟨o2,C,dx2,fs2,.ref ta',rfl,g2,c.cls,c.a5,m5,?_⟩
 let H0:Hp:=fun b=>if b∈ts∨b∈ts' then none else H5 b
 have hz:∀{b:Addr},b∈ts∨b∈ts'->H0 b=none:=fun h=>if_pos h;have hk:∀{b:Addr}{o:HO},H5 b=some o->(∀k,o=.dT k->b∉ts/\b∉ts')->H0 b=some o:=fun {b o} e n=>by
  have:¬(b∈ts∨b∈ts'):=fun z=>by
   have hd:∃l,H5 b=some (.dT l):=by
    rcases z with z | z
    ·obtain ⟨_,_,l,hl⟩:=hV st3 b z; exact ⟨l,S5 _ _ hl⟩
    ·exact (hV st5 b z).2.2
   obtain ⟨l,hl⟩:=hd;rw [e] at hl;injection hl with hl;obtain ⟨n1,n2⟩:=n _ hl;exact z.elim n1 n2
  show (if b∈ts∨b∈ts' then none else H5 b)=some o
  rw [if_neg this]; exact e
 have SH:ac H H0:=fun b o e=>by
  have e1:=S3 _ _ (S1 _ _ e);refine hk (S5 _ _ e1) fun k _=>⟨fun z=>?_,fun z=>?_⟩
  ·have:=(hV st3 b z).1; rw [S1 _ _ e] at this; cases this
  ·have:=(hV st5 b z).1; rw [e1] at this; cases this
 have F0:gG K C H0 o1 x fa sa na ta us ws S.1:=(F3.same S5).part fun b o e n=>hk e fun k z=>by
  have:=n k z;subst this;refine ⟨fun z=>(hV st3 b z).2.1 rfl,fun z=>?_⟩;have:=(hV st5 b z).1;rw [F3.hna] at this; cases this
 have ta5':=S5 _ _ ta3;have I:lT H0 H5 ta ta' ts ts' S.2 SI.2:=by
  refine ⟨ta5',ta5,?_,?_,fun b o e=>?_⟩
  ·refine Mum.Paired.mapM st3 fun t _ ht r=>⟨hz (.inl ht),.inl (S5 _ _ r.2.2)⟩
  ·refine Mum.Paired.mapM st5 fun t _ ht r=>⟨hz (.inr ht),.inl r.2.2⟩
  ·have e:(if b∈ts∨b∈ts' then none else H5 b)=some o:=e
   split at e
   ·cases e
   ·exact e
 have zt:ts.length=S.1.fs.length:=by rw [Paired.length st3,len3]
 have zt':ts'.length=SI.1.fs.length:=by rw [Paired.length st5,len5]
 have f16:=ok3.good.few4 z4;have f16':=ok5.good.few4 z4';have pos:∀{rs:Zb}{es:List am}{S:pQ},pP J0 J1 rs es S->0<S.1.fs.length:=fun {rs es S} ok=>by
  rcases u7 S.1.fs.length with z | z
  ·have:=ok.zero; rw [eW (by omega)] at this; cases this
  ·exact z
 have LC:HY ts ts' S.2 SI.2:=⟨by omega,by omega,fun i p hp=>by rw [zt]; exact (ok3.steps hp).1,fun i p hp=>by rw [zt']; exact (ok5.steps hp).1,fun i p hp=>(ok5.steps hp).2⟩;have prod:ts.length * ts'.length<=16 * 16:=oH (by omega) (by omega);have sim:=Do ok3 ok5 len3 len5;refine ⟨H0,ta,ta',ts,ts',S.2,SI.2,rfl,I,LC,by rw [zt]; exact pos ok3,by rw [zt']; exact pos ok5,fun P H6 okP itP lenP ro I6=>?_,fun P i cm p sb t lst gs H6 okP itP lt _ _ _ _ _ ht hl hg hb t0 l0 I6=>?_⟩
 ·refine ⟨_,rfl,_,rfl,?_⟩;rw [zzr1 rfl];refine dO ?_;have lf:leastF J0 J1 J2 rooms' ds ds'=none:=by
   unfold leastF;rw [<-(sim 300).2];have:=uI itP (300-P.length);rw [show P.length+(300-P.length)=300 by omega] at this;rw [this]
  have simP:=(sim P.length).1;rw [itP] at simP;have F6:=F0.same I6.S;have ins:∀r:Row,u4 P SI r.1 r.2->r.1∈rooms'/\r.2<ts.length:=fun r ⟨cm,hc,e,F,hF,hr⟩=>by
   obtain ⟨i,hi⟩:=eJ hc;obtain ⟨w,_,e1,_⟩:=Paired.getL simP hi;refine ⟨(ok5.good.isF F (aO hF)).sub _ hr,?_⟩;rw [zt,<-e];exact (bE.1 e1).1
  have r0:rooms'[0]?=some (rooms'.headD ""):=by
   cases e:rooms' with
   | nil=>exact absurd e MY.ok.rooms0
   | cons a b=>rfl
  have hb:∀d∈ds',d.b∈rooms':=fun d hd=>(MY.ok.good d hd).b;have first:u4 P SI (rooms'.headD "") 0:=by
   obtain ⟨r,e⟩:=okP.zero;refine ⟨⟨(0,0),none,[]⟩,by rw [e]; exact cy,rfl,_,ok5.zero,?_⟩;unfold closF;refine b0.2 ⟨aO r0,zzr1 ⟨rooms'.headD "",?_,.inl rfl⟩⟩;cases e:rooms' with
   | nil=>exact absurd e MY.ok.rooms0
   | cons a b=>exact cy
  have shut:∀f∈SI.1.fs,yP ds' f:=by rw [itI]; exact A_ hb j'
  refine ⟨_,rfl,_,rfl,H0,o1,y,x,fa,sa,na,ta,us,ws,ts,S.1,S.2,J0,J1,rooms',ds',fun r:Row=>u4 P SI r.1 r.2,rooms'.headD "",rfl,F6,I6.h1,I6.r1,(MY.same SH).same I6.S,⟨ins,fun r hr=>Fj MY.ok ok5 len5 ro shut hr⟩,zt,by omega,r0,first,fun l ps L H7 hl pr nd all hl0 S7=>⟨(by show 2<=aj; decide),fun u hu=>?_⟩⟩
  have S8:ac H7 (upd H7 u (.tup [.str "keeps",.ref l])):=ac.new hu;refine kn lf u l ps _ aa (S8 _ _ hl) ?_ ((SH.trans I6.S).free hl0) (((SH.trans I6.S).trans S7).trans S8);rw [Paired.length pr];have:=xM nd fun r hr=>ins r (all r hr);have:rooms'.length * ts.length<=4 * 16:=oH z4' (by omega);omega
 ·refine ⟨_,rfl,_,rfl,?_⟩;rw [zzr0 (fun z=>by cases z)];refine cC ?_;have lf:leastF J0 J1 J2 rooms' ds ds'=some (cm.story,p.1):=by
   unfold leastF;rw [<-(sim 300).2];have:=uJ itP (300-(i+1));rw [show i+1+(300-(i+1))=300 by omega] at this;exact this
  refine ⟨_,rfl,t,_,rfl,bL.of ht,rfl,_,_,rfl,_,_,rfl,rfl,?_⟩;refine ⟨_,rfl,_,rfl,(by show 3<=aj; decide),fun u hu=>?_⟩;have S8:ac H6 (upd H6 u (.tup [.str "fault",.ref lst,.ref sb])):=ac.new hu;exact kf cm.story p.1 lf u lst sb gs _ aa (S8 _ _ hl) (Paired.mapP hg fun _ _ r=>bJ.kt (ac.kt S8) r) (bJ.kt (ac.kt S8) hb) (SH.free l0) ((SH.trans I6.S).trans S8)
abbrev C9:=List Str×List Str
section
variable {A B:List Str->Sg->List Str}
theorem uF {c:LP}{P:C9->Prop}(hp:∀sg,P (A c.1.1 sg,B c.1.2 sg)):∀(l:List Sg) (r:List LP×Option Sg),(∀x∈r.1,P x.1)->(∀x∈(l.foldl (cB A B c) r).1,P x.1)/\(l.foldl (cB A B c) r).1.length<=r.1.length+l.length/\∃w,(l.foldl (cB A B c) r).1=r.1++w
 | [],r,h=>⟨h,aD _,[],(fV _).symm⟩
 | s::l,r,h=>by
  have key:(∀x∈(cB A B c r s).1,P x.1)/\(cB A B c r s).1.length<=r.1.length+1/\∃w,(cB A B c r s).1=r.1++w:=by
   unfold cB;cases er:r.2 with
   | some _=>simp only; exact ⟨h,lX _,[],(fV _).symm⟩
   | none =>
    simp only;split
    ·exact ⟨h,lX _,[],(fV _).symm⟩
    ·split
     ·refine ⟨fun x hx=>?_,by rw [ax]; exact aD _,_,rfl⟩;rcases aW.1 hx with hx | hx
      ·exact h x hx
      ·rw [bz.1 hx]; exact hp s
     ·exact ⟨h,lX _,[],(fV _).symm⟩
  obtain ⟨k1,k2,w,k3⟩:=key;obtain ⟨i1,i2,v,i3⟩:=uF hp l _ k1;rw [gK,dQ];exact ⟨i1,by omega,w++v,by rw [i3,k3,cJ]⟩
theorem p_ {c:LP}:∀(l:List Sg) (q:List LP×Option Sg) (s:Sg),q.2=some s->(l.foldl (cB A B c) q).2=some s
 | [],_,_,h=>h
 | p::l,q,s,h=>by
  rw [gK];have e:cB A B c q p=q:=by unfold cB; rw [h]
  rw [e];exact p_ l q s h
theorem yj {ss:List Sg}{k:C9}{n:Nat}{L:List LP}{c:LP}(h:cq A B ss k n=(L,none)) (hc:L[n]?=some c):cq A B ss k (n+1)=((p9 A B c L ss).1,(p9 A B c L ss).2.map fun sg=>(c.2,sg)):=by
 show (match (cq A B ss k n).2 with | some _=>_ | none=>_)=_
 rw [h];simp only [hc]
theorem uH {ss:List Sg}{k:C9}{n:Nat}{L:List LP}(h:cq A B ss k n=(L,none)) (hc:L[n]?=none):cq A B ss k (n+1)=(L,none):=by
 show (match (cq A B ss k n).2 with | some _=>_ | none=>_)=_
 rw [h];simp only [hc]
theorem pA {ss:List Sg}{k:C9}{n:Nat}{x:List Sg×Sg}(h:(cq A B ss k n).2=some x):∀m,(cq A B ss k (n+m)).2=some x
 | 0=>h
 | m+1=>by
  have ih:=pA h m;show (match (cq A B ss k (n+m)).2 with | some _=>_ | none=>_:List LP×Option (List Sg×Sg)).2=_
  rw [ih];exact ih
end
def BX (K:Za) (sp_law_signs:Sp):TS :=
 ao (aN (aM sp_law_signs (aA V0)) U2)
 (bu (aL pe (cY (aA (eZ (d9 K) (aA V1)))) (d4 1 [2] (cD K V1) U0 (jA) (r9 K "list" (Bc K) V1 (aA V0)))))
def CY:List Str:=["told","story","signs"]
def xz (K:Za) (sp_law_key:Sp):TS :=
 ao (cH (A2 (Fc (tB (eZ (rIsi K) (aS V1 (tC (.ty "tuple")))))) (A2 (aX (aL zP (eZ (d9 K) (aA V1)) (tC (.int 2)))) (r_ (aX (aL Fw (aL (jH K) V1 (tC (.int 0))) (tC (.str "keeps")))) (aX (aL Fw (aL (jH K) V1 (tC (.int 0))) (tC (.str "fault"))))))) (bu (tC .non)) (bR))
 (ao (cH (aX (aL zQ (aL (jH K) V1 (tC (.int 0))) (tC (.str "keeps")))) (bu (cY (bj))) (bR))
 (bu (aM sp_law_key (aq V0 (aq (aL pe (aL (jH K) V1 (tC (.int 1))) (cY (aA (aL (jH K) V1 (tC (.int 2)))))) bj)))))
def yV:List Str:=["told","found"]
def Fa (K:Za) (sp_law_fault:Sp) (dF:Sp) (sp_law_machine:Sp) (sp_law_near:Sp) (sp_law_model:Sp) (sp_law_open:Sp):TS :=
 ao (aN (aM sp_law_open (aA V0)) U1)
 (ao (aN (aM sp_law_model (eX V1 (tC (.int 3)) (tC (.int 0)))) U2)
 (ao (aN (aM sp_law_near (eX V1 V2 (tC (.int 2)))) U3)
 (ao (aN (aM sp_law_near (eX V1 V3 (tC (.int 2)))) U4)
 (ao (aN (aM sp_law_machine (aA V2)) U5)
 (ao (aN (aM sp_law_machine (aA V3)) U6)
 (ao (aN (aM sp_law_machine (aA V4)) U7)
 (ao (cH (A2 (aX (aL Fw (aL (jH K) (aM dF (aS V6 V6)) (tC (.int 0))) (tC (.str "keeps")))) (aX (aL Fw (aL (jH K) (aM dF (aS V7 V7)) (tC (.int 0))) (tC (.str "keeps"))))) (bu (tC (.bl false))) (bR))
 (ao (aN (aM sp_law_fault (aS V2 (aM dF (aq V6 (aA V7))))) U8)
 (ao (aN (aM sp_law_fault (aS V2 (aM dF (aq V5 (aA V6))))) U9)
 (ao (aN (aM sp_law_fault (aS V2 (aM dF (aq V5 (aA V7))))) Hx)
 (ao (cH (A2 (tB (Dl V8)) (A2 (tB (Dl V9)) (tB (Dl C7)))) (bu (tC (.bl false))) (bR))
 (ao (cH (A2 (aX (aL (wk K) V8 (cY (bj)))) (aX (aL (tW K) C7 (cY (bj))))) (bu (tC (.bl true))) (bR))
 (bu (A6 (aL (wk K) V9 (cY (bj))) (Gi (aL (Hk K) C7 V9))))))))))))))))
def BJ:List Str:=["script","pen","told","first","second","model","one","two","between","ahead","behind"]
def DM:List Str:=["script"]
theorem z6:∀xs:List Int,HT.lexLt xs xs=false
 | []=>rfl
 | x::xs=>by rw [HT.lexLt_cons,if_pos rfl]; exact z6 xs
theorem yh:∀{xs ys zs:List Int},HT.lexLt xs ys=true->HT.lexLt ys zs=true->HT.lexLt xs zs=true
 | [],[],_,h,_=>by cases h
 | _::_,[],_,h,_=>by cases h
 | _,_::_,[],_,h=>by cases h
 | [],_::_,_::_,_,_=>rfl
 | x::xs,y::ys,z::zs,h,k=>by
  rw [HT.lexLt_cons] at h k ⊢;by_cases e1:x=y
  ·rw [if_pos e1] at h;by_cases e2:y=z
   ·rw [if_pos e2] at k;rw [if_pos (e1.trans e2)];exact yh h k
   ·rw [if_neg e2] at k;rw [if_neg (fun q=>e2 (e1.symm.trans q)),e1];exact k
  ·rw [if_neg e1] at h;have h':=of_decide_eq_true h;by_cases e2:y=z
   ·rw [if_neg (fun q=>e1 (q.trans e2.symm)),<-e2];exact h
   ·rw [if_neg e2] at k;have k':=of_decide_eq_true k;rw [if_neg (by omega)];exact zzr1 (by omega)
theorem Eb:∀{xs ys:List Int},HT.lexLt xs ys=false->HT.lexLt ys xs=false->xs=ys
 | [],[],_,_=>rfl
 | [],_::_,h,_=>by cases h
 | _::_,[],_,h=>by cases h
 | x::xs,y::ys,h,k=>by
  rw [HT.lexLt_cons] at h k;by_cases e:x=y
  ·rw [if_pos e] at h;rw [if_pos e.symm] at k;rw [e,Eb h k]
  ·rw [if_neg e] at h;rw [if_neg (fun q=>e q.symm)] at k;have:=of_decide_eq_false h;have:=of_decide_eq_false k;omega
theorem Ec:∀{xs ys:List Int}{a b:Int},xs.length=ys.length->HT.lexLt xs ys=true->HT.lexLt (xs++[a]) (ys++[b])=true
 | [],[],_,_,_,h=>by cases h
 | [],_::_,_,_,e,_=>by cases e
 | _::_,[],_,_,e,_=>by cases e
 | x::xs,y::ys,a,b,e,h=>by
  rw [rG,rG];rw [HT.lexLt_cons] at h ⊢;by_cases q:x=y
  ·rw [if_pos q] at h ⊢;exact Ec (by simpa using e) h
  ·rw [if_neg q] at h ⊢;exact h
theorem Bu {a b:Int}:∀xs:List Int,HT.lexLt (xs++[a]) (xs++[b])=decide (a<b)
 | []=>by
  show HT.lexLt [a] [b]=_;rw [HT.lexLt_cons];by_cases e:a=b
  ·rw [if_pos e,zzr0 (by omega)]; rfl
  ·rw [if_neg e]
 | x::xs=>by rw [rG,rG,HT.lexLt_cons,if_pos rfl]; exact Bu xs
def ER (ss:List Sg) (s:List Sg):List Int:=s.map fun x=>((ss.idxOf x:Nat):Int)
def wD (ss:List Sg) (s:List Sg):List Int:=(s.length:Int)::ER ss s
def fy (ss:List Sg) (s t:List Sg):Prop:=HT.lexLt (wD ss s) (wD ss t)=true
section
variable {ss:List Sg}{s t u:List Sg}{a b:Sg}
theorem og:fy ss s t↔s.length<t.length∨(s.length=t.length/\HT.lexLt (ER ss s) (ER ss t)=true):=by
 unfold fy wD;rw [HT.lexLt_cons];by_cases e:s.length=t.length
 ·rw [if_pos (by omega)];exact ⟨fun h=>.inr ⟨e,h⟩,fun h=>h.elim (fun z=>by omega) fun z=>z.2⟩
 ·rw [if_neg (by omega),decide_eq_true_eq];exact ⟨fun h=>.inl (by omega),fun h=>h.elim (fun z=>by omega) fun z=>absurd z.1 e⟩
theorem fy.irr:¬fy ss s s:=fun h=>by unfold fy at h; rw [z6] at h; cases h
theorem fy.trans (h:fy ss s t) (k:fy ss t u):fy ss s u:=yh h k
theorem fy.asym (h:fy ss s t):¬fy ss t s:=fun k=>fy.irr (h.trans k)
theorem Ac (h:¬fy ss s t) (k:¬fy ss t s):wD ss s=wD ss t:=Eb (by simpa [fy] using h) (by simpa [fy] using k)
theorem fy.of_le (h:¬fy ss t s) (k:fy ss t u):fy ss s u:=by
 by_cases c:fy ss s t
 ·exact c.trans k
 ·have:=Ac c h;unfold fy at k ⊢;rw [this]; exact k
theorem fy.le_of (h:fy ss s t) (k:¬fy ss u t):fy ss s u:=by
 by_cases c:fy ss t u
 ·exact h.trans c
 ·have:=Ac c k;unfold fy at h ⊢;rw [<-this]; exact h
theorem fy.app (h:fy ss s t):fy ss (s++[a]) (t++[b]):=by
 rw [og] at h ⊢;rw [ax,ax];rcases h with h | ⟨h1,h2⟩
 ·exact .inl (Nat.add_lt_add_right h _)
 ·refine .inr ⟨by rw [h1]; rfl,?_⟩;unfold ER at h2 ⊢;rw [au,au];exact Ec (by rw [ai,ai]; exact h1) h2
theorem fy.last:fy ss (s++[a]) (s++[b])↔ss.idxOf a<ss.idxOf b:=by
 rw [og,ax,ax];unfold ER;rw [au,au];show _∨(_/\HT.lexLt (_++[((ss.idxOf a:Nat):Int)]) (_++[((ss.idxOf b:Nat):Int)])=true)↔_;rw [Bu,decide_eq_true_eq];exact ⟨fun h=>h.elim (fun z=>by simp at z) fun z=>by omega,fun h=>.inr ⟨rfl,by omega⟩⟩
theorem leS.app (h:¬fy ss t s):¬fy ss (t++[a]) (s++[a]):=fun k=>by
 by_cases c:fy ss s t
 ·exact (c.app (a:=a) (b:=a)).asym k
 ·have e:=Ac c h;unfold wD at e;injection e with e1 e2;rw [og,ax,ax] at k;unfold ER at k e2;rw [au,au,e2] at k;rcases k with k | ⟨_,k⟩
  ·simp only [oU] at k; omega
  ·rw [z6] at k; cases k
theorem fy.short (h:s.length<t.length):fy ss s t:=og.2 (.inl h)
theorem fy.len (h:fy ss s t):s.length<=t.length:=by
 rcases og.1 h with h | h
 ·exact dR h
 ·exact Nat.le_of_eq h.1
end
abbrev sL (g:Sg):Prop:=g.head?=some ("ask":Str)
section
variable (A B:List Str->Sg->List Str) (ss:List Sg) (k:C9)
def qk (x:C9) (g:Sg):Prop:=¬sL g/\A x.1 g=[]/\B x.2 g≠[]
def pc (s:List Sg):C9:=(s.foldl A k.1,s.foldl B k.2)
def Flt (s:List Sg) (g:Sg):Prop:=(∀x∈s,x∈ss)/\g∈ss/\(pc A B k s).1≠[]/\qk A B (pc A B k s) g
structure yX (n:Nat) (L:List LP):Prop where
 run:∀x∈L,pc A B k x.2=x.1/\x.1.1≠[]/\x.1.2≠[]/\∀y∈x.2,y∈ss
 zero:∃r,L=(k,[])::r
 sorted:∀(i j:Nat) (x y:LP),i<j->L[i]?=some x->L[j]?=some y->fy ss x.2 y.2
 from_:∀y∈L,y.2=[]∨∃(i:Nat) (x:LP) (sg:Sg),i<n/\L[i]?=some x/\y.2=x.2++[sg]
 clean:∀(i:Nat) (x:LP),i<n->L[i]?=some x->∀sg∈ss,¬qk A B x.1 sg
 shut:∀(i:Nat) (x:LP),i<n->L[i]?=some x->∀sg∈ss,A x.1.1 sg≠[]->B x.1.2 sg≠[]->∃y∈L,y.1=(A x.1.1 sg,B x.1.2 sg)/\¬fy ss (x.2++[sg]) y.2
end
section
variable {A B:List Str->Sg->List Str}{ss:List Sg}{k:C9}
theorem ux (s:List Sg) (g:Sg):pc A B k (s++[g])=(A (pc A B k s).1 g,B (pc A B k s).2 g):=by
 unfold pc;rw [fz,fz]; rfl
structure gV (A B:List Str->Sg->List Str) (ss:List Sg) (k:C9) (n:Nat) (c:LP) (j:Nat) (L:List LP):Prop where
 run:∀x∈L,pc A B k x.2=x.1/\x.1.1≠[]/\x.1.2≠[]/\∀y∈x.2,y∈ss
 zero:∃r,L=(k,[])::r
 at_:L[n]?=some c
 sorted:∀(i j:Nat) (x y:LP),i<j->L[i]?=some x->L[j]?=some y->fy ss x.2 y.2
 from_:∀y∈L,y.2=[]∨(∃(i:Nat) (x:LP) (sg:Sg),i<n/\L[i]?=some x/\y.2=x.2++[sg])∨∃sg∈ss,ss.idxOf sg<j/\y.2=c.2++[sg]
 clean:∀(i:Nat) (x:LP),i<n->L[i]?=some x->∀sg∈ss,¬qk A B x.1 sg
 shut:∀(i:Nat) (x:LP),i<n->L[i]?=some x->∀sg∈ss,A x.1.1 sg≠[]->B x.1.2 sg≠[]->∃y∈L,y.1=(A x.1.1 sg,B x.1.2 sg)/\¬fy ss (x.2++[sg]) y.2
 clean1:∀sg∈ss,ss.idxOf sg<j->¬qk A B c.1 sg
 shut1:∀sg∈ss,ss.idxOf sg<j->A c.1.1 sg≠[]->B c.1.2 sg≠[]->∃y∈L,y.1=(A c.1.1 sg,B c.1.2 sg)/\¬fy ss (c.2++[sg]) y.2
theorem oj {j:Nat}{sg g:Sg}(hj:ss[j]?=some sg) (hg:g∈ss) (h:ss.idxOf g<j+1):ss.idxOf g<j∨g=sg:=by
 rcases dZ (ss.idxOf g) j with z | z
 ·exact .inl z
 ·have e:ss.idxOf g=j:=by omega
  have hl:ss.idxOf g<ss.length:=ml.2 hg;have:=List.getElem_idxOf hl;rw [<-e,br hl,this] at hj;injection hj with hj;exact .inr hj
theorem wG (nd:ss.Nodup) {j:Nat}{sg:Sg}(hj:ss[j]?=some sg):ss.idxOf sg=j:=by
 obtain ⟨hl,e⟩:=bE.1 hj;rw [<-e];exact nd.idxOf_getElem _ hl
theorem gV.skip {n j:Nat}{c:LP}{L:List LP}(h:gV A B ss k n c j L) {sg:Sg}(hj:ss[j]?=some sg) (nf:¬qk A B c.1 sg) (sh:A c.1.1 sg≠[]->B c.1.2 sg≠[]->∃y∈L,y.1=(A c.1.1 sg,B c.1.2 sg)/\¬fy ss (c.2++[sg]) y.2):gV A B ss k n c (j+1) L:=by
 refine { h with from_:=fun y hy=>?_,clean1:=fun g hg hi=>?_,shut1:=fun g hg hi h1 h2=>?_ }
 ·rcases h.from_ y hy with e | e | ⟨g,gm,hg,e⟩
  ·exact .inl e
  ·exact .inr (.inl e)
  ·exact .inr (.inr ⟨g,gm,by omega,e⟩)
 ·rcases oj hj hg hi with z | z
  ·exact h.clean1 g hg z
  ·rw [z]; exact nf
 ·rcases oj hj hg hi with z | z
  ·exact h.shut1 g hg z h1 h2
  ·subst z; exact sh h1 h2
theorem gV.add (nd:ss.Nodup) {n j:Nat}{c:LP}{L:List LP}(h:gV A B ss k n c j L) {sg:Sg}(hj:ss[j]?=some sg) (ha:A c.1.1 sg≠[]) (hb:B c.1.2 sg≠[]):gV A B ss k n c (j+1) (L++[((A c.1.1 sg,B c.1.2 sg),c.2++[sg])]):=by
 have hs:=aO hj;have ej:=wG nd hj;have hc:=aO h.at_;have lt:n<L.length:=(bE.1 h.at_).1;have up:∀{i:Nat}{x:LP},L[i]?=some x->(L++[((A c.1.1 sg,B c.1.2 sg),c.2++[sg])])[i]?=some x:=fun {i x} e=>by
  rw [cS (bE.1 e).1]; exact e
 have dn:∀{i:Nat}{x:LP},i<n->(L++[((A c.1.1 sg,B c.1.2 sg),c.2++[sg])])[i]?=some x->L[i]?=some x:=fun {i x} hi e=>by
  rw [cS (by omega)] at e; exact e
 have less:∀y∈L,fy ss y.2 (c.2++[sg]):=fun y hy=>by
  rcases h.from_ y hy with e | ⟨i,x,g,hi,hx,e⟩ | ⟨g,gm,hg,e⟩
  ·rw [e]; exact fy.short (by rw [ax]; show 0<_+1; omega)
  ·rw [e]; exact (h.sorted i n x c hi hx h.at_).app
  ·rw [e]; exact fy.last.2 (by omega)
 obtain ⟨r,er⟩:=h.zero;refine ⟨fun x hx=>?_,⟨r++[((A c.1.1 sg,B c.1.2 sg),c.2++[sg])],by rw [er]; rfl⟩,up h.at_,fun i j' x y hij hx hy=>?_,fun y hy=>?_,fun i x hi hx=>h.clean i x hi (dn hi hx),fun i x hi hx g hg h1 h2=>?_,fun g hg hi=>?_,fun g hg hi h1 h2=>?_⟩
 ·rcases aW.1 hx with hx | hx
  ·exact h.run x hx
  ·rw [bz.1 hx];obtain ⟨q1,_,_,q4⟩:=h.run c hc;refine ⟨by rw [ux,q1],ha,hb,fun y hy=>?_⟩;rcases aW.1 hy with hy | hy
   ·exact q4 y hy
   ·rw [bz.1 hy]; exact hs
 ·rcases dZ j' L.length with z | z
  ·rw [cS (by omega)] at hx;rw [cS z] at hy;exact h.sorted i j' x y hij hx hy
  ·have hj:j'<L.length+1:=by
    have:=(bE.1 hy).1;rw [ax] at this; exact this
   have e:j'=L.length:=by omega
   subst e;rw [cS hij] at hx;rw [kB (aD _),Nat.sub_self] at hy;injection hy with hy;subst hy;exact less x (aO hx)
 ·rcases aW.1 hy with hy | hy
  ·rcases h.from_ y hy with e | ⟨i,x,g,hi,hx,e⟩ | ⟨g,gm,hg,e⟩
   ·exact .inl e
   ·exact .inr (.inl ⟨i,x,g,hi,up hx,e⟩)
   ·exact .inr (.inr ⟨g,gm,by omega,e⟩)
  ·rw [bz.1 hy];exact .inr (.inr ⟨sg,hs,by omega,rfl⟩)
 ·obtain ⟨y,hy,e⟩:=h.shut i x hi (dn hi hx) g hg h1 h2;exact ⟨y,cx _ hy,e⟩
 ·rcases oj hj hg hi with z | z
  ·exact h.clean1 g hg z
  ·rw [z]; exact fun q=>ha q.2.1
 ·rcases oj hj hg hi with z | z
  ·obtain ⟨y,hy,e⟩:=h.shut1 g hg z h1 h2;exact ⟨y,cx _ hy,e⟩
  ·subst z;exact ⟨_,cX _ (bz.2 rfl),rfl,fy.irr⟩
theorem gV.next (nd:ss.Nodup) {n j:Nat}{c:LP}{L:List LP}(h:gV A B ss k n c j L) {sg:Sg}(hj:ss[j]?=some sg) :
  (qk A B c.1 sg/\(cB A B c (L,none) sg).2=some sg)∨((cB A B c (L,none) sg).2=none/\gV A B ss k n c (j+1) (cB A B c (L,none) sg).1):=by
 have e:cB A B c (L,none) sg=if ¬sL sg/\A c.1.1 sg=[]/\B c.1.2 sg≠[] then (L,some sg) else if A c.1.1 sg≠[]/\B c.1.2 sg≠[]/\¬(A c.1.1 sg,B c.1.2 sg)∈L.map (·.1) then (L++[((A c.1.1 sg,B c.1.2 sg),c.2++[sg])],none) else (L,none):=rfl
 by_cases c1:¬sL sg/\A c.1.1 sg=[]/\B c.1.2 sg≠[]
 ·rw [e,if_pos c1];exact .inl ⟨c1,rfl⟩
 rw [e,if_neg c1];by_cases c2:A c.1.1 sg≠[]/\B c.1.2 sg≠[]/\¬(A c.1.1 sg,B c.1.2 sg)∈L.map (·.1)
 ·rw [if_pos c2];exact .inr ⟨rfl,h.add nd hj c2.1 c2.2.1⟩
 ·rw [if_neg c2];refine .inr ⟨rfl,h.skip hj c1 fun h1 h2=>?_⟩;have hm:(A c.1.1 sg,B c.1.2 sg)∈L.map (·.1):=rC fun z=>c2 ⟨h1,h2,z⟩;obtain ⟨y,hy,ey⟩:=ay.1 hm;refine ⟨y,hy,ey,?_⟩;rcases h.from_ y hy with e | ⟨i,x,g,hi,hx,e⟩ | ⟨g,gm,hg,e⟩
  ·rw [e]; exact fun z=>by have:=z.len; rw [ax] at this; simp at this
  ·rw [e]; exact ((h.sorted i n x c hi hx h.at_).app).asym
  ·rw [e]; exact (fy.last.2 (by rw [wG nd hj]; exact hg)).asym
theorem gV.row (nd:ss.Nodup) {n:Nat}{c:LP}:∀(m j:Nat) {L:List LP},ss.length-j=m->gV A B ss k n c j L ->
  (∃g∈ss,qk A B c.1 g/\(∀g'∈ss,ss.idxOf g'<ss.idxOf g->¬qk A B c.1 g')/\((ss.drop j).foldl (cB A B c) (L,none)).2=some g)∨(((ss.drop j).foldl (cB A B c) (L,none)).2=none/\gV A B ss k n c ss.length ((ss.drop j).foldl (cB A B c) (L,none)).1)
 | 0,j,L,hm,h=>by
  rw [List.drop_eq_nil_of_le (by omega)];refine .inr ⟨rfl,{ h with from_:=fun y hy=>?_,clean1:=fun g hg _=>h.clean1 g hg ?_,shut1:=fun g hg _=>h.shut1 g hg ?_ }⟩
  ·rcases h.from_ y hy with e | e | ⟨g,gm,hg,e⟩
   ·exact .inl e
   ·exact .inr (.inl e)
   ·exact .inr (.inr ⟨g,gm,ml.2 gm,e⟩)
  ·have:=ml.2 hg; omega
  ·have:=ml.2 hg; omega
 | m+1,j,L,hm,h=>by
  have hl:j<ss.length:=by omega
  have hj:ss[j]?=some ss[j]:=br hl;rw [rq hl,gK];rcases h.next nd hj with ⟨f,e⟩ | ⟨e,h'⟩
  ·refine .inl ⟨ss[j],jw hl,f,fun g' hg' lt=>?_,p_ _ _ _ e⟩;rw [wG nd hj] at lt;exact h.clean1 g' hg' lt
  ·have e2:cB A B c (L,none) ss[j]=((cB A B c (L,none) ss[j]).1,none):=Prod.ext rfl e;rw [e2];exact gV.row nd m (j+1) (by omega) h'
end
section
variable {A B:List Str->Sg->List Str}{ss:List Sg}{k:C9}
theorem yX.row0 {n:Nat}{c:LP}{L:List LP}(h:yX A B ss k n L) (hc:L[n]?=some c):gV A B ss k n c 0 L :=
 ⟨h.run,h.zero,hc,h.sorted,fun y hy=>(h.from_ y hy).imp id .inl,h.clean,h.shut,fun g _ z=>by omega,fun g _ z=>by omega⟩
theorem Cr {n:Nat}(h:(cq A B ss k (n+1)).2=none):(cq A B ss k n).2=none:=by
 cases e:(cq A B ss k n).2 with
 | none=>rfl
 | some x=>rw [pA e 1] at h; cases h
theorem EG (nd:ss.Nodup) (h1:k.1≠[]) (h2:k.2≠[]):∀n,(cq A B ss k n).2=none->yX A B ss k n (cq A B ss k n).1
 | 0,_=>by
  have one:∀{i:Nat}{x:LP},[((k,[]):LP)][i]?=some x->i=0/\x=(k,[]):=fun {i x} e=>by
   have:=(bE.1 e).1;have e0:i=0:=by simpa using this
   subst e0;injection e with e;exact ⟨rfl,e.symm⟩
  refine ⟨fun x hx=>?_,⟨[],rfl⟩,fun i j x y hij hx hy=>?_,fun y hy=>?_,fun i x hi=>by omega,fun i x hi=>by omega⟩
  ·rw [bz.1 hx];exact ⟨rfl,h1,h2,fun y hy=>nomatch hy⟩
  ·have:=(one hx).1; have:=(one hy).1; omega
  ·rw [bz.1 hy]; exact .inl rfl
 | n+1,e=>by
  have e0:=Cr e;have ih:=EG nd h1 h2 n e0;have ep:cq A B ss k n=((cq A B ss k n).1,none):=Prod.ext rfl e0;cases hc:(cq A B ss k n).1[n]? with
  | none =>
   rw [uH ep hc];have no:∀{i:Nat}{x:LP},i<n+1->(cq A B ss k n).1[i]?=some x->i<n:=fun {i x} hi hx=>by
    rcases dZ i n with z | z
    ·exact z
    ·have:i=n:=by omega
     rw [this,hc] at hx; cases hx
   exact { ih with from_:=fun y hy=>(ih.from_ y hy).imp id fun ⟨i,x,g,hi,hx,e⟩=>⟨i,x,g,by omega,hx,e⟩,clean:=fun i x hi hx=>ih.clean i x (no hi hx) hx,shut:=fun i x hi hx=>ih.shut i x (no hi hx) hx }
  | some c =>
   have er:=yj ep hc;rcases gV.row nd _ 0 rfl (ih.row0 hc) with ⟨g,_,_,_,f⟩ | ⟨f,R⟩
   ·rw [er] at e;unfold p9 at e;rw [jx] at f;rw [f] at e; cases e
   ·rw [jx] at R;rw [er];show yX A B ss k (n+1) (p9 A B c (cq A B ss k n).1 ss).1;unfold p9;generalize ss.foldl (cB A B c) ((cq A B ss k n).1,none)=q at R;have at_:∀{i:Nat}{x:LP},i<n+1->q.1[i]?=some x->i<n∨x=c:=fun {i x} hi hx=>by
     rcases dZ i n with z | z
     ·exact .inl z
     ·have:i=n:=by omega
      rw [this,R.at_] at hx;injection hx with hx;exact .inr hx.symm
    refine ⟨R.run,R.zero,R.sorted,fun y hy=>?_,fun i x hi hx g hg=>?_,fun i x hi hx g hg=>?_⟩
    ·rcases R.from_ y hy with e | ⟨i,x,g,hi,hx,e⟩ | ⟨g,_,_,e⟩
     ·exact .inl e
     ·exact .inr ⟨i,x,g,by omega,hx,e⟩
     ·exact .inr ⟨n,c,g,by omega,R.at_,e⟩
    ·rcases at_ hi hx with z | rfl
     ·exact R.clean i x z hx g hg
     ·exact R.clean1 g hg (ml.2 hg)
    ·rcases at_ hi hx with z | rfl
     ·exact R.shut i x z hx g hg
     ·exact R.shut1 g hg (ml.2 hg)
theorem yX.reach {n m:Nat}{L:List LP}(h:yX A B ss k n L) (hA:∀g,A [] g=[]) (hB:∀g,B [] g=[]) (hm:∀(i:Nat) (y:LP),L[i]?=some y->y.2.length<m->i<n):∀(l:Nat) (s:List Sg),s.length=l->l<=m->(∀x∈s,x∈ss)->(pc A B k s).1≠[]->(pc A B k s).2≠[]->∃y∈L,y.1=pc A B k s/\¬fy ss s y.2
 | 0,s,e,_,_,_,_=>by
  rw [List.eq_nil_of_length_eq_zero e];obtain ⟨r,er⟩:=h.zero;exact ⟨(k,[]),by rw [er]; exact cy,rfl,fy.irr⟩
 | l+1,s,e,hl,hs,h1,h2=>by
  obtain ⟨t,g,rfl⟩:∃t g,s=t++[g]:=⟨s.dropLast,s.getLast (fun z=>by rw [z] at e; cases e),(vb _).symm⟩;rw [ux] at h1 h2 ⊢;rw [ax] at e;have et:t.length=l:=by simpa using e
  obtain ⟨y,hy,e1,e2⟩:=yX.reach h hA hB hm l t et (by omega) (fun x hx=>hs x (cx _ hx)) (fun z=>h1 (by show A (pc A B k t).1 g=[]; rw [z]; exact hA g)) (fun z=>h2 (by show B (pc A B k t).2 g=[]; rw [z]; exact hB g));obtain ⟨i,hi⟩:=eJ hy;have yl:y.2.length<=t.length:=by
   rcases dZ t.length y.2.length with z | z
   ·exact absurd (fy.short z) e2
   ·exact z
  rw [<-e1] at h1 h2 ⊢;obtain ⟨z,hz,e3,e4⟩:=h.shut i y (hm i y hi (by omega)) hi g (hs g (cX _ cy)) h1 h2;exact ⟨z,hz,e3,fun q=>leS.app e2 (q.le_of e4)⟩
theorem yi:∀{N:Nat}{x:List Sg×Sg},(cq A B ss k N).2=some x->∃(n:Nat) (c:LP) (L:List LP),cq A B ss k n=(L,none)/\L[n]?=some c/\c.2=x.1/\(ss.foldl (cB A B c) (L,none)).2=some x.2
 | 0,x,h=>by cases h
 | N+1,x,h=>by
  cases e:(cq A B ss k N).2 with
  | some y =>
   have:=pA e 1;rw [h] at this;injection this with this;rw [this];exact yi e
  | none =>
   have ep:cq A B ss k N=((cq A B ss k N).1,none):=Prod.ext rfl e;cases hc:(cq A B ss k N).1[N]? with
   | none=>rw [uH ep hc] at h; cases h
   | some c =>
    rw [yj ep hc] at h;obtain ⟨g,hg,eg⟩:=mn.1 h;exact ⟨N,c,_,ep,hc,by rw [<-eg],by rw [<-eg]; exact hg⟩
theorem Aa (nd:ss.Nodup) (h1:k.1≠[]) (h2:k.2≠[]) (hA:∀g,A [] g=[]) (hB:∀g,B [] g=[]) {N:Nat}{s:List Sg}{g:Sg}(h:(cq A B ss k N).2=some (s,g)):Flt A B ss k s g/\∀s' g',Flt A B ss k s' g'->¬fy ss (s'++[g']) (s++[g]):=by
 obtain ⟨n,c,L,ep,hc,es,ef⟩:=yi h;have es:c.2=s:=es;subst es;have bf:yX A B ss k n L:=by
  have:=EG (A:=A) (B:=B) (ss:=ss) (k:=k) nd h1 h2 n (by rw [ep]);rw [ep] at this;exact this
 have hcm:=aO hc;obtain ⟨q1,q2,q3,q4⟩:=bf.run c hcm;rcases gV.row nd _ 0 rfl (bf.row0 hc) with ⟨g0,hg0,f0,pre,e0⟩ | ⟨e0,_⟩;rotate_left
 ·rw [jx,ef] at e0; cases e0
 rw [jx,ef] at e0;injection e0 with e0;have e0:g=g0:=e0;subst e0;refine ⟨⟨q4,hg0,by rw [q1]; exact q2,by rw [q1]; exact f0⟩,fun s' g' hf lt=>?_⟩;obtain ⟨a1,a2,a3,a4⟩:=hf;have hm:∀(i:Nat) (y:LP),L[i]?=some y->y.2.length<c.2.length->i<n:=fun i y hi hl=>by
  rcases vc i n with z | z | z
  ·exact z
  ·rw [z,hc] at hi;injection hi with hi;rw [hi] at hl; omega
  ·exact absurd (fy.short hl) (bf.sorted n i c y z hc hi).asym
 have hl:s'.length<=c.2.length:=by
  have:=lt.len;rw [ax,ax] at this;simpa using this
 obtain ⟨y,hy,e1,e2⟩:=bf.reach hA hB hm _ s' rfl hl a1 a3 (fun z=>a4.2.2 (by rw [z]; exact hB g'));obtain ⟨i,hi⟩:=eJ hy;rw [<-e1] at a4;have ylt:fy ss (y.2++[g']) (c.2++[g]):=(leS.app e2 |> fun q=>fy.of_le q lt);rcases vc i n with z | z | z
 ·exact bf.clean i y z hi g' a2 a4
 ·rw [z,hc] at hi;injection hi with hi;subst hi;exact pre g' a2 (fy.last.1 ylt) a4
 ·exact (bf.sorted n i c y z hc hi).app.asym ylt
theorem Ab (nd:ss.Nodup) (h1:k.1≠[]) (h2:k.2≠[]) (hA:∀g,A [] g=[]) (hB:∀g,B [] g=[]) {N:Nat}(h:(cq A B ss k N).2=none) (hl:(cq A B ss k N).1.length<=N) (s:List Sg) (g:Sg):¬Flt A B ss k s g:=fun ⟨a1,a2,a3,a4⟩=>by
 have bf:=EG nd h1 h2 N h;obtain ⟨y,hy,e1,_⟩:=bf.reach (m:=s.length) hA hB (fun i y hi _=>by have:=(bE.1 hi).1; omega) _ s rfl (aD _) a1 a3 (fun z=>a4.2.2 (by rw [z]; exact hB g));obtain ⟨i,hi⟩:=eJ hy;rw [<-e1] at a4;exact bf.clean i y (by have:=(bE.1 hi).1; omega) hi g a2 a4
end
theorem k4 {J2 sg:Zb}{ds:List am}:behF J2 ds [] sg=[]:=by
 classical
 unfold behF;split
 ·rfl
 ·unfold closF;rw [List.filter_eq_nil_iff];rintro r _ z;obtain ⟨g,hg,_⟩:=of_decide_eq_true z;exact nomatch hg
theorem kY {J0 J1 J2:Zb}{ds:List am}(m:aH J0 J1 J2 ds):closF J2 ds (J2.take 1)≠[]:=by
 classical
 cases e:J2 with
 | nil=>exact absurd e m.rooms0
 | cons r rs =>
  intro z;have:r∈closF (r::rs) ds ((r::rs).take 1):=by
   unfold closF;exact b0.2 ⟨cy,zzr1 ⟨r,cy,.inl rfl⟩⟩
  rw [z] at this;exact nomatch this
theorem uG {A B:List Str->Sg->List Str}{c:LP}:∀(l:List Sg) (r:List LP×Option Sg),(r.1.map (·.1)).Nodup->((l.foldl (cB A B c) r).1.map (·.1)).Nodup
 | [],_,h=>h
 | s::l,r,h=>by
  rw [gK];refine uG l _ ?_;unfold cB;cases er:r.2 with
  | some _=>exact h
  | none =>
   simp only;split
   ·exact h
   ·split
    ·rename_i q;rw [au,ck];exact ⟨h,by simp,fun a ha b hb e=>by subst e; have hb:a=(A c.1.1 s,B c.1.2 s):=bz.1 hb; subst hb; exact q.2.2 ha⟩
    ·exact h
theorem GU {ss:List Sg}{J2 rooms':Zb}{ds ds':List am}{k:C9}(h1:jR J2 k.1) (h2:jR rooms' k.2) (z1:J2.length<=4) (z2:rooms'.length<=4) (n:Nat):(cq (behF J2 ds) (behF rooms' ds') ss k n).1.length<=256:=by
 have key:∀n,((cq (behF J2 ds) (behF rooms' ds') ss k n).1.map (·.1)).Nodup/\∀x∈(cq (behF J2 ds) (behF rooms' ds') ss k n).1,jR J2 x.1.1/\jR rooms' x.1.2:=by
  intro n
  induction n with
  | zero=>exact ⟨by show ([k]:List C9).Nodup; simp,fun x hx=>by rw [bz.1 (show x∈[(k,([]:List Sg))] from hx)]; exact ⟨h1,h2⟩⟩
  | succ n ih =>
   unfold cq;generalize cq (behF J2 ds) (behF rooms' ds') ss k n=q at ih;cases q.2 with
   | some y=>exact ih
   | none =>
    simp only;cases e1:q.1[n]? with
    | none=>exact ih
    | some c =>
     have hc:=ih.2 c (aO e1);exact ⟨uG ss (q.1,none) ih.1,(uF (P:=fun k=>jR J2 k.1/\jR rooms' k.2) (fun sg=>⟨wF hc.1,wF hc.2⟩) ss (q.1,none) ih.2).1⟩
 obtain ⟨q1,q2⟩:=key n;have h:=hZ q1 (R:=(jd J2).flatMap fun f=>(jd rooms').map fun g=>(f,g)) fun x hx=>by
  obtain ⟨y,hy,rfl⟩:=ay.1 hx;obtain ⟨⟨p,ep⟩,⟨p',ep'⟩⟩:=q2 y hy;exact oI.2 ⟨y.1.1,by rw [ep]; exact jb p J2,ay.2 ⟨y.1.2,by rw [ep']; exact jb p' rooms',rfl⟩⟩
 have len:∀l:List (List Str),(l.flatMap fun f=>(jd rooms').map fun g=>(f,g)).length=l.length * 2 ^ rooms'.length:=by
  intro l
  induction l with
  | nil=>simp
  | cons x l ih=>rw [qX,ax,ih,ai,jc,dQ,u_]; omega
 rw [ai,len,jc] at h;have a1:2 ^ J2.length<=2 ^ 4:=u8 (by decide) z1;have a2:2 ^ rooms'.length<=2 ^ 4:=u8 (by decide) z2;have:2 ^ J2.length * 2 ^ rooms'.length<=16 * 16:=oH a1 a2;omega
abbrev C1 (J0 J1 J2 rooms':Zb) (ds ds':List am):List Sg->Sg->Prop:=Flt (behF J2 ds) (behF rooms' ds') (az J0 J1) (closF J2 ds (J2.take 1),closF rooms' ds' (rooms'.take 1))
section
variable {J0 J1 J2 rooms':Zb}{ds ds':List am}(m:aH J0 J1 J2 ds) (m':aH J0 J1 rooms' ds')
include m m'
theorem iJ {s:List Sg}{g:Sg}(h:leastF J0 J1 J2 rooms' ds ds'=some (s,g)):C1 J0 J1 J2 rooms' ds ds' s g/\∀s' g',C1 J0 J1 J2 rooms' ds ds' s' g'->¬fy (az J0 J1) (s'++[g']) (s++[g]) :=
 Aa (eB m) (kY m) (kY m') (fun _=>k4) (fun _=>k4) h
theorem qe (z1:J2.length<=4) (z2:rooms'.length<=4) (h:leastF J0 J1 J2 rooms' ds ds'=none) (s:List Sg) (g:Sg):¬C1 J0 J1 J2 rooms' ds ds' s g :=
 Ab (eB m) (kY m) (kY m') (fun _=>k4) (fun _=>k4) h (bP (GU pF pF z1 z2 300) (by decide)) s g
end
theorem qd {J0 J1 J2:Zb}{ds:List am}(m:aH J0 J1 J2 ds):leastF J0 J1 J2 J2 ds ds=none:=by
 cases e:leastF J0 J1 J2 J2 ds ds with
 | none=>rfl
 | some x =>
  obtain ⟨⟨_,_,_,f⟩,_⟩:=iJ m m (s:=x.1) (g:=x.2) e;exact absurd f.2.1 f.2.2
theorem BU {J0 J1 J2 f:Zb}{ds:List am}(m:aH J0 J1 J2 ds) (tk:∀r∈J2,∀a∈J0,fu ds r a) (sh:yP ds f) (hf:∀r∈f,r∈J2) (f0:f≠[]) {a:Str}(ha:a∈J0):behF J2 ds f (cj a)≠[]:=by
 obtain ⟨r,rs,rfl⟩:=List.exists_cons_of_ne_nil f0;obtain ⟨w,hw,b,hb⟩:=tk r (hf r cy) a ha;have hwf:w∈r::rs:=by
  rcases hw with rfl | hw
  ·exact cy
  ·have:∀{x:Str},Reach ds r x->x∈r::rs:=fun h=>by
    induction h with
    | one e=>exact sh _ e rfl cy
    | step _ e ih=>exact sh _ e rfl ih
   exact this hw
 intro z;have:b∈behF J2 ds (r::rs) (cj a):=yy (d:=⟨w,cj a,b⟩) hb (m.good _ hb).b hwf (by unfold cj bN; intro h; injection h with _ h; cases h);rw [z] at this;exact nomatch this
theorem EI {J0 J1:Zb}{g:Sg}(h:g∈az J0 J1) (q:sL g):∃a∈J0,g=cj a:=by
 unfold az at h;rcases aW.1 h with h | h
 ·rcases aW.1 h with h | h
  ·obtain ⟨w,hw,e⟩:=ay.1 h; exact ⟨w,hw,e.symm⟩
  ·obtain ⟨w,hw,e⟩:=ay.1 h;subst e;exact absurd (show some ("say":Str)=some ("ask":Str) from q) (by decide)
 ·rw [bz.1 h] at q;exact absurd (show some ("hush":Str)=some ("ask":Str) from q) (by decide)
theorem xL {J2:Zb}{ds:List am}(hb:∀d∈ds,d.b∈J2) (hr:∀r∈J2.take 1,r∈J2):∀(s:List Sg) (f:Zb),yP ds f->(∀r∈f,r∈J2)->yP ds (s.foldl (behF J2 ds) f)/\∀r∈s.foldl (behF J2 ds) f,r∈J2
 | [],f,h1,h2=>⟨h1,h2⟩
 | g::s,f,h1,h2=>by
  rw [gK];exact xL hb hr s _ (xK hb) (EH h2)
theorem yD {J2:Zb}{ds:List am}:∀s:List Sg,s.foldl (behF J2 ds) []=[]
 | []=>rfl
 | g::s=>by rw [gK,k4]; exact yD s
theorem FN {J0 J1 J2 r1 r2:Zb}{ds d1 d2:List am}(m1:aH J0 J1 r1 d1) (tk:∀r∈r1,∀a∈J0,fu d1 r a) (no:∀s g,¬C1 J0 J1 r1 r2 d1 d2 s g) {s:List Sg}{g:Sg}(h:C1 J0 J1 J2 r2 ds d2 s g):C1 J0 J1 J2 r1 ds d1 s g:=by
 obtain ⟨a1,a2,a3,a4,a5,a6⟩:=h;have hb:∀d∈d1,d.b∈r1:=fun d hd=>(m1.good d hd).b;have key:∀(n:Nat) (p q:List Sg),p.length=n->p++q=s++[g]->p.foldl (behF r1 d1) (closF r1 d1 (r1.take 1))≠[]:=by
  intro n
  induction n with
  | zero=>intro p q e _; rw [List.eq_nil_of_length_eq_zero e]; exact kY m1
  | succ n ih =>
   intro p q e epq;obtain ⟨t,x,rfl⟩:∃t x,p=t++[x]:=⟨p.dropLast,p.getLast (fun z=>by rw [z] at e; cases e),(vb _).symm⟩;have et:t.length=n:=by rw [ax] at e; simpa using e
   have ht:=ih t (x::q) et (by rw [<-epq,cJ]; rfl);have all:∀y∈t++[x],y∈az J0 J1:=fun y hy=>by
    have:y∈s++[g]:=by rw [<-epq]; exact cx _ hy
    rcases aW.1 this with z | z
    ·exact a1 y z
    ·rw [bz.1 z]; exact a2
   rw [fz];intro z;have z:behF r1 d1 (t.foldl (behF r1 d1) (closF r1 d1 (r1.take 1))) x=[]:=z;have hx:=all x (cX _ cy);by_cases c:sL x
   ·obtain ⟨a,ha,rfl⟩:=EI hx c;obtain ⟨sh,sub⟩:=xL hb (fun r hr=>eK hr) t _ (o_ hb) (fun r hr=>(b0.1 hr).1);exact BU m1 tk sh sub ht ha z
   ·refine no t x ⟨fun y hy=>all y (cx _ hy),hx,ht,c,z,fun z2=>a6 ?_⟩;have e2:(s++[g]).foldl (behF r2 d2) (closF r2 d2 (r2.take 1))=[]:=by
     rw [<-epq,fz,fz];show q.foldl (behF r2 d2) (behF r2 d2 (t.foldl (behF r2 d2) (closF r2 d2 (r2.take 1))) x)=[];rw [show behF r2 d2 (t.foldl (behF r2 d2) (closF r2 d2 (r2.take 1))) x=[] from z2];exact yD q
    rw [fz] at e2;exact e2
 refine ⟨a1,a2,a3,a4,a5,?_⟩;have:=key _ (s++[g]) [] rfl (fV _);rw [fz] at this;exact this
abbrev CU (K:Za) (H:Hp) (gs:Ze) (s:List Sg):Prop:=Paired (fun g (sg:Sg)=>bJ K H g (sg.map V.str)) gs s
theorem CU.same {K:Za}{H H':Hp}{gs:Ze}{s:List Sg}(S:ac H H') (h:CU K H gs s):CU K H' gs s:=Paired.mapP h fun _ _ r=>bJ.kt (ac.kt S) r
inductive wb (K:Za) (vs:List V) (H:Hp) (Q:VK) (E:XK):Prop
 | mk (t st l1 l2 l3 l4:Addr) (ts gs:Ze) (J0 J1 J2:Zb) (ds:List am) (s:List Sg):(vs=[.ref t,.ref st])->(js H t l1 l2 l3 l4 ts J0 J1 J2 ds)->(aH J0 J1 J2 ds)->(H st=some (.lst (gs.map V.ref)))->(CU K H gs s)->((∀x∈s,x∈az J0 J1))->(s.length<=1000)->(∀(l:Addr) (H':Hp),H' l=some (.lst ((wD (az J0 J1) s).map V.int))->ac H H'->Q (.ref l) H')->wb K vs H Q E
theorem GG {K:Za}{vs:List V}{H:Hp}{Q:VK}{E:XK}(h:wb K vs H Q E):BX K nI (bC Q) (start CY vs) H:=by
 obtain ⟨t,st,l1,l2,l3,l4,ts,gs,J0,J1,J2,ds,s,rfl,T,m,hst,hg,hs,zl,k⟩:=h;have zs:(az J0 J1).length<=9:=by
  unfold az;have:=m.asks4;have:=m.says4;simp only [ax,ai,oU];omega
 refine ⟨_,rfl,t,l1,l2,l3,l4,ts,J0,J1,J2,ds,rfl,T,m,fun sl us H1 hsl hus _ S1=>?_⟩;have st1:=S1 _ _ hst;refine ⟨_,rfl,.inl ⟨st,_,rfl,.inl (aB.of st1),(by show 1<=aj; decide),fun p hp=>?_⟩⟩;have S2:ac H1 (upd H1 p (.lst [.int ((gs.map V.ref).length:Nat)])):=ac.new hp;have p2:upd H1 p (.lst [.int ((gs.map V.ref).length:Nat)]) p=some (.lst [.int ((gs.map V.ref).length:Nat)]):=aa;generalize upd H1 p (.lst [.int ((gs.map V.ref).length:Nat)])=H2 at S2 p2 ⊢;have S12:=S1.trans S2;refine ⟨_,rfl,st,rfl,⟨_,aB.of (S12 _ _ hst)⟩,fun l hl=>?_⟩;refine dg (xs:=gs.map V.ref) (fun i vs H'=>vs=(ER (az J0 J1) (s.take i)).map V.int/\ac H2 H'/\H' l=some (.lst vs)) ⟨rfl,ac.new hl,aa⟩ (fun i vs H' _ ⟨_,S,h'⟩=>⟨h',aB.of (S _ _ (S12 _ _ hst))⟩) ?_ ?_
 ·rintro vs H' ⟨rfl,S,h'⟩;rw [ai,Paired.length hg,bm] at h';refine ⟨p,l,_,_,rfl,rfl,S _ _ p2,h',?_,fun q hq=>k q _ ?_ ((S12.trans S).trans (ac.new hq))⟩
  ·simp only [ER,ai,oU];rw [j5]; omega
  ·rw [aa];unfold wD;rw [ai,Paired.length hg]; rfl
 ·rintro i vs H' y hy hi ⟨rfl,S,h'⟩;obtain ⟨g,hg',rfl⟩:=d6 hy;obtain ⟨sg,hsg,hat⟩:=Paired.getL hg hg';refine gN (rM ?_);have hm:=hs sg (aO hsg);have hx:=ml.2 hm;have sl':=S _ _ (S2 _ _ hsl);have nod:=eB m;refine ⟨_,rfl,.inl ⟨rfl,_,aB.of sl'⟩,_,rfl,sl,_,_,oC sg,(az J0 J1).map oC,(az J0 J1).idxOf sg,rfl,rfl,sl',(hus.kt (ac.kt (S2.trans S))).dIns,cF (bJ.sq (bJ.kt (ac.kt (S12.trans S)) hat)),by rw [dW]; decide,bP (Am _) (by decide),by rw [ai,Paired.length hus]; omega,?_,fun m' lt z=>?_,h',?_,tX hi ⟨?_,fun b o e=>by rw [af (ae e hl)]; exact S _ _ e,aa⟩⟩
  ·rw [bQ,br hx,List.getElem_idxOf hx]; rfl
  ·rw [bQ] at z;obtain ⟨w,hw,e⟩:=mn.1 z;have e:w=sg:=wK e;subst e;have:=wG nod hw;omega
  ·unfold ER;rw [ai,ai,aJ,j5]; omega
  ·unfold ER;rw [take_snoc hsg,au,au]; rfl
def HA (K:Za) (J0 J1:Zb) (H:Hp) (u:Addr):Option (List Sg×Sg)->Prop
 | none=>∃l ps,H u=some (.tup [.str "keeps",.ref l])/\H l=some (.lst (ps:List V))
 | some x=>∃l b gs,H u=some (.tup [.str "fault",.ref l,.ref b])/\H l=some (.lst (gs.map V.ref))/\CU K H gs x.1/\bJ K H b (x.2.map V.str)/\(∀y∈x.1++[x.2],y∈az J0 J1)/\x.1.length<=300
def Aj (ss:List Sg):Option (List Sg×Sg)->List Int
 | none=>[]
 | some x=>wD ss (x.1++[x.2])
inductive nN (K:Za) (vs:List V) (H:Hp) (Q:VK) (E:XK):Prop
 | mk (t u l1 l2 l3 l4:Addr) (ts:Ze) (J0 J1 J2:Zb) (ds:List am) (o:Option (List Sg×Sg)):(vs=[.ref t,.ref u])->(js H t l1 l2 l3 l4 ts J0 J1 J2 ds)->(aH J0 J1 J2 ds)->(HA K J0 J1 H u o)->(∀(l:Addr) (H':Hp),H' l=some (.lst ((Aj (az J0 J1) o).map V.int))->ac H H'->Q (.ref l) H')->nN K vs H Q E
theorem Dz {K:Za}{vs:List V}{H:Hp}{Q:VK}{E:XK}(h:nN K vs H Q E):xz K (wb K) (bC Q) (start yV vs) H:=by
 obtain ⟨t,u,l1,l2,l3,l4,ts,J0,J1,J2,ds,o,rfl,T,m,hk,k⟩:=h;cases o with
 | none =>
  obtain ⟨l,ps,h1,h2⟩:=hk;refine ⟨_,rfl,.ref u,"tuple",_,true,rfl,.inl (mQ.tup h1),rfl,_,rfl,cC ?_⟩;refine ⟨_,rfl,.inl ⟨u,_,rfl,.inr (bL.of h1),_,_,rfl,rfl,_,rfl,?_⟩⟩;refine CC (P:=False) (by simp) (fun z=>z.elim) fun _=>?_;refine ⟨_,rfl,u,_,0,_,rfl,rfl,bL.of h1,bc (j:=0) rfl,rfl,_,rfl,?_⟩;refine gD (fun z=>by simp at z) fun _=>cC ?_;refine ⟨_,rfl,u,_,0,_,rfl,rfl,bL.of h1,bc (j:=0) rfl,rfl,_,rfl,?_⟩;refine gD (fun _=>?_) fun z=>absurd (zzr1 rfl) z;exact ⟨(by show 0<=aj; decide),fun q hq=>k q _ aa (ac.new hq)⟩
 | some x =>
  obtain ⟨l,b,gs,h1,h2,h3,h4,h5,h6⟩:=hk;refine ⟨_,rfl,.ref u,"tuple",_,true,rfl,.inl (mQ.tup h1),rfl,_,rfl,cC ?_⟩;refine ⟨_,rfl,.inl ⟨u,_,rfl,.inr (bL.of h1),_,_,rfl,rfl,_,rfl,?_⟩⟩;refine CC (P:=False) (by simp) (fun z=>z.elim) fun _=>?_;have nk:("fault":Str)≠"keeps":=by decide
  refine ⟨_,rfl,u,_,0,_,rfl,rfl,bL.of h1,bc (j:=0) rfl,rfl,_,rfl,?_⟩;refine gD (fun _=>?_) fun z=>absurd z (by simp [nk]);refine ⟨_,rfl,u,_,0,_,rfl,rfl,bL.of h1,bc (j:=0) rfl,rfl,_,rfl,?_⟩;refine gD (fun z=>by simp at z) fun _=>?_;refine ⟨_,rfl,u,_,0,_,rfl,rfl,bL.of h1,bc (j:=0) rfl,rfl,_,rfl,?_⟩;refine gD (fun z=>absurd z (by simp [nk])) fun _=>?_;refine ⟨_,rfl,_,rfl,u,_,1,_,rfl,rfl,bL.of h1,bc (j:=1) rfl,_,rfl,u,_,2,_,rfl,rfl,bL.of h1,bc (j:=2) rfl,(by show 1<=aj; decide),fun p hp=>⟨l,p,_,_,rfl,rfl,kp h2 hp,aa,?_,fun q hq=>?_⟩⟩
  ·rw [ai,Paired.length h3,j5]; show x.1.length+1<=_; omega
  have S:ac H (upd (upd H p (.lst [.ref b])) q (.lst (gs.map V.ref++[.ref b]))):=(ac.new hp).trans (ac.new hq);refine ⟨t,q,l1,l2,l3,l4,ts,gs++[b],J0,J1,J2,ds,x.1++[x.2],rfl,T.same S,m,by rw [aa,au]; rfl,cK (CU.same S h3) (bJ.kt (ac.kt S) h4),h5,by rw [ax]; show x.1.length+1<=1000; omega,fun l' H' hl' S'=>k l' H' hl' (S.trans S')⟩
theorem oh {K:Za}{C:Addr}{H:Hp}{Q:VK}{E:XK}{x y:Addr}{J0 J1 J2 rooms':Zb}{ds ds':List am}(M:be C H x J0 J1 J2 ds) (N:be C H y J0 J1 rooms' ds') (tk:∀r∈rooms',∀a∈J0,fu ds' r a) (z1:J2.length<=4) (z2:rooms'.length<=4)
  (k:∀(u:Addr) (H':Hp),HA K J0 J1 H' u (leastF J0 J1 J2 rooms' ds ds')->ac H H'->Q (.ref u) H'):dF K C [.ref x,.ref y] H Q E:=by
 refine Eg M N tk z1 z2 (fun lf u l ps H' hu hl _ _ S=>k u H' ?_ S) (fun s g lf u l b gs H' hu hl hg hb _ S=>k u H' ?_ S)
 ·rw [lf]; exact ⟨l,_,hu,hl⟩
 ·rw [lf];obtain ⟨⟨a1,a2,_⟩,_⟩:=iJ M.ok N.ok lf;refine ⟨l,b,gs,hu,hl,hg,hb,fun y hy=>?_,(yk (A:=behF J2 ds) (B:=behF rooms' ds') (ss:=az J0 J1) (k:=(closF J2 ds (J2.take 1),closF rooms' ds' (rooms'.take 1))) 300).2 _ lf⟩;rcases aW.1 hy with z | z
  ·exact a1 y z
  ·rw [bz.1 z]; exact a2
theorem sD {K:Za}{H:Hp}{l q:Addr}{ns:List Int}(hl:H l=some (.lst (ns.map V.int))) (hq:H q=some (.lst [])):∃d e:DT,ka K H d (.ref l)/\ka K H e (.ref q)/\d.depth<=8/\e.depth<=8/\decide (d=e)=decide (ns=[]):=by
 have dep:∀ns:List Int,DT.depths (ns.map fun i=>DT.k (.inl i))=0:=by
  intro ns
  induction ns with
  | nil=>rfl
  | cons n ns ih=>rw [aZ]; show max 0 (DT.depths _)=0; rw [ih]; rfl
 have ins:∀ns:List Int,DIns K H (ns.map fun i=>DT.k (.inl i)) (ns.map V.int):=by
  intro ns
  induction ns with
  | nil=>show DIns K H [] []; unfold DIns; rfl
  | cons n ns ih =>
   rw [aZ,aZ];unfold DIns;refine ⟨_,_,rfl,?_,ih⟩;unfold ka; rfl
 refine ⟨.s (ns.map fun i=>DT.k (.inl i)),.s [],(by unfold ka; exact ⟨l,_,rfl,aB.of hl,ins ns⟩),(by unfold ka; exact ⟨q,_,rfl,aB.of hq,by unfold DIns; rfl⟩),?_,(by decide),decide_eq_decide.2 ⟨fun z=>List.map_eq_nil_iff.mp (by injection z),fun z=>by rw [z]; rfl⟩⟩;show DT.depths _+1<=8;rw [dep]; decide
inductive sp_law26 (K:Za) (vs:List V) (H:Hp) (Q:VK) (E:XK):Prop
 | mk (a:Addr) (ns:List Int):(vs=[.ref a])->(aB K H a (ns.map V.int))->(ns.length<=63)->(∀H',Q (.bl true) H')->sp_law26 K vs H Q E
theorem Dx {K:Za}{C:Addr}{vs:List V}{H:Hp}{Q:VK}{E:XK}(h:sp_law26 K vs H Q E):Fa K (nN K) (dF K C) (jG C) qI nL (qH K) (bC Q) (start BJ vs) H:=by
 obtain ⟨a,ns,rfl,hs,hn,k⟩:=h;refine ⟨_,rfl,a,ns,rfl,hs,hn,fun p c H1 _ hp1 S1=>?_⟩;refine ⟨_,rfl,p,c,3,0,rfl,hp1,by decide,by decide,by decide,by decide,fun t l1 l2 l3 l4 ts J0 J1 J2 ds H2 T m zr zd hp2 ex2=>?_⟩;have zr:J2.length<=3:=zr;refine ⟨_,rfl,_,rfl,p,c,t,l1,l2,l3,l4,ts,J0,J1,J2,ds,2,rfl,hp2,T,m,by omega,by omega,by omega,fun t1 m3 m4 ts1 r1 d1 H3 T1 m1 tk1 len1 zd1 hp3 ex3=>?_⟩;refine ⟨_,rfl,_,rfl,p,c,t1,l1,l2,m3,m4,ts1,J0,J1,r1,d1,2,rfl,hp3,T1,m1,by omega,by omega,by omega,fun t2 n3 n4 ts2 r2 d2 H4 T2 m2 tk2 len2 _ hp4 ex4=>?_⟩;have T4:=(T.ex hp2 ex3).ex hp3 ex4;have T14:=T1.ex hp3 ex4;refine ⟨_,rfl,t,l1,l2,l3,l4,ts,J0,J1,J2,ds,rfl,T4,m,fun x H5 M5 S5=>?_⟩;refine ⟨_,rfl,t1,l1,l2,m3,m4,ts1,J0,J1,r1,d1,rfl,T14.same S5,m1,fun y H6 N6 S6=>?_⟩;have S46:=S5.trans S6;refine ⟨_,rfl,t2,l1,l2,n3,n4,ts2,J0,J1,r2,d2,rfl,T2.same S46,m2,fun w H7 W7 S7=>?_⟩;have M7:=(M5.same S6).same S7;have N7:=N6.same S7;have T7:=T4.same (S46.trans S7);clear S5 S6 S46 S7 M5 N6 T4 T14;refine ⟨_,rfl,_,rfl,oh N7 N7 tk1 (by omega) (by omega) fun u H8 hu S8=>?_⟩;rw [qd m1] at hu;obtain ⟨l,ps,u1,_⟩:=hu;refine ⟨u,_,0,_,rfl,rfl,bL.of u1,bc (j:=0) rfl,rfl,_,rfl,?_⟩;refine gD (fun z=>by simp at z) fun _=>?_;refine ⟨_,rfl,_,rfl,oh (W7.same S8) (W7.same S8) tk2 (by omega) (by omega) fun u H9 hu S9=>?_⟩;rw [qd m2] at hu;obtain ⟨l,ps,u1,_⟩:=hu;refine ⟨u,_,0,_,rfl,rfl,bL.of u1,bc (j:=0) rfl,rfl,_,rfl,?_⟩;refine gD (fun z=>by simp at z) fun _=>?_;have S79:=S8.trans S9;clear u1 S8 S9;refine ⟨_,rfl,_,rfl,_,rfl,oh (N7.same S79) (W7.same S79) tk2 (by omega) (by omega) fun u H10 hu S10=>?_⟩;have S710:=S79.trans S10;refine ⟨t,u,l1,l2,l3,l4,ts,J0,J1,J2,ds,_,rfl,T7.same S710,m,hu,fun b1 H11 hb1 S11=>?_⟩;have S711:=S710.trans S11;refine ⟨_,rfl,_,rfl,_,rfl,oh (M7.same S711) (N7.same S711) tk1 (by omega) (by omega) fun u H12 hu S12=>?_⟩;have S712:=S711.trans S12;refine ⟨t,u,l1,l2,l3,l4,ts,J0,J1,J2,ds,_,rfl,T7.same S712,m,hu,fun b2 H13 hb2 S13=>?_⟩;have S713:=S712.trans S13;refine ⟨_,rfl,_,rfl,_,rfl,oh (M7.same S713) (W7.same S713) tk2 (by omega) (by omega) fun u H14 hu S14=>?_⟩;have S714:=S713.trans S14;refine ⟨t,u,l1,l2,l3,l4,ts,J0,J1,J2,ds,_,rfl,T7.same S714,m,hu,fun b3 H15 hb3 S15=>?_⟩;have S13':=S14.trans S15;have hb2':=S13' _ _ hb2;have hb1':=S13' _ _ (S13 _ _ (S12 _ _ hb1));refine ⟨_,rfl,_,rfl,?_⟩;rw [zzr0 (fun z=>by cases z)];refine cC ⟨_,rfl,_,rfl,?_⟩;rw [zzr0 (fun z=>by cases z)];refine cC ⟨_,rfl,_,rfl,?_⟩;rw [zzr0 (fun z=>by cases z)];refine cC ?_;refine ⟨_,rfl,(by show 0<=aj; decide),fun q hq=>?_⟩;obtain ⟨d,e,q1,q2,q3,q4,q5⟩:=sD (K:=K) (kp (x:=.lst []) hb1' hq) aa;refine ⟨d,e,q1,q2,q3,q4,_,rfl,?_⟩;rw [q5];have fin:∀H',Q (.bl true) H':=k;by_cases c1:Aj (az J0 J1) (leastF J0 J1 r1 r2 d1 d2)=[];rotate_left
 ·rw [zzr0 c1];exact dO (dO (fin _))
 rw [zzr1 c1];refine cC ?_;have S16:ac H15 (upd H15 q (.lst [])):=ac.new hq;generalize upd H15 q (.lst [])=H16 at S16 ⊢;refine ⟨_,rfl,(by show 0<=aj; decide),fun q hq=>?_⟩;obtain ⟨d,e,q1,q2,q3,q4,q5⟩:=sD (K:=K) (kp (x:=.lst []) (S16 _ _ hb3) hq) aa;refine ⟨d,e,q1,q2,q3,q4,_,rfl,?_⟩;rw [q5];by_cases c2:Aj (az J0 J1) (leastF J0 J1 J2 r2 ds d2)=[]
 ·rw [zzr1 c2];exact dO (fin _)
 rw [zzr0 c2];refine cC ?_;have S17:ac H15 (upd H16 q (.lst [])):=S16.trans (ac.new hq);generalize upd H16 q (.lst [])=H17 at S17 ⊢;have n12:leastF J0 J1 r1 r2 d1 d2=none:=by
  cases e:leastF J0 J1 r1 r2 d1 d2 with
  | none=>rfl
  | some x=>rw [e] at c1; cases c1
 obtain ⟨⟨s,g⟩,e3⟩:∃x,leastF J0 J1 J2 r2 ds d2=some x:=by
  cases e:leastF J0 J1 J2 r2 ds d2 with
  | none=>rw [e] at c2; exact absurd rfl c2
  | some x=>exact ⟨x,rfl⟩
 have f3:=(iJ m m2 e3).1;have f2:=FN m1 tk1 (qe m1 m2 (by omega) (by omega) n12) f3;obtain ⟨⟨s',g'⟩,e2⟩:∃x,leastF J0 J1 J2 r1 ds d1=some x:=by
  cases e:leastF J0 J1 J2 r1 ds d1 with
  | none=>exact absurd f2 (qe m m1 (by omega) (by omega) e s g)
  | some x=>exact ⟨x,rfl⟩
 have least:=(iJ m m1 e2).2 s g f2;rw [e2] at hb2';rw [e3] at hb3;refine ⟨_,rfl,(by show 0<=aj; decide),fun q hq=>?_⟩;obtain ⟨d,e,q1,q2,q3,q4,q5⟩:=sD (K:=K) (kp (x:=.lst []) (S17 _ _ hb2') hq) aa;refine ⟨d,e,q1,q2,q3,q4,_,rfl,?_⟩;rw [q5,zzr0 (fun z=>by cases z)];refine dO ?_;have S18:ac H15 (upd H17 q (.lst [])):=S17.trans (ac.new hq);refine ⟨_,rfl,_,rfl,b3,b2,_,_,rfl,rfl,aB.of (S18 _ _ hb3),aB.of (S18 _ _ hb2'),_,rfl,?_⟩;have lf:HT.lexLt (Aj (az J0 J1) (some (s,g))) (Aj (az J0 J1) (some (s',g')))=false:=by
  cases e:HT.lexLt (Aj (az J0 J1) (some (s,g))) (Aj (az J0 J1) (some (s',g'))) with
  | false=>rfl
  | true=>exact absurd e least
 rw [lf];exact fin _
def fR (i:Nat):Stmt:=PySem.Challenge.pw_mumtrial_k26_goes_on.main.body.getD i (.Pass ⟨0,0,0,0⟩)
local macro_rules | `(tactic| walk_at "s")=>`(tactic| exact ⟨rfl,rfl,rfl,by decide +kernel,rfl,by decide +kernel,by decide +kernel⟩)
local macro_rules | `(tactic| walk_at "l")=>`(tactic| (intro _ _ _ _ h; first | exact len_h h | exact len_g h | (cases h; subst_vars; rfl) | (obtain ⟨_,_,h,_⟩:=h; subst h; rfl) | ((repeat obtain ⟨_,h⟩:=h); subst_vars; rfl)))
local macro_rules | `(tactic| walk_at "b")=>`(tactic| (intro _ _ _ _ _ _ us hl; first | (match us,hl with | [_],_=>rfl) | (match us,hl with | [_,_],_=>rfl) | (match us,hl with | [_,_,_],_=>rfl) | (match us,hl with | [_,_,_,_],_=>rfl) | (match us,hl with | [_,_,_,_,_],_=>rfl) | (match us,hl with | [],_=>rfl)))
def HG (K:Za) (x qual:Str) (st:Stmt) (f:Addr):Prop:=∃(oc:Value) (od an:Option Addr) (sl:Array (Option Value)) (kV dc pm cd ct:Value),
 K.lookup f=some ⟨oc,od,.func (ii x qual (g_ st) (fK st) (bT st) .none kV dc pm an cd ct),sl⟩/\mB K cd qual=true/\h_ K (.ref f)=true
theorem Er {K:Za}{x qual:Str}{st:Stmt}{f:Addr}{oc:Value}{od an:Option Addr}{sl:Array (Option Value)}{kV dc pm cd ct:Value}(l:K.lookup f=some ⟨oc,od,.func (ii x qual (g_ st) (fK st) (bT st) .none kV dc pm an cd ct),sl⟩)
  (c:mB K cd qual=true) (k:h_ K (.ref f)=true):HG K x qual st f:=⟨oc,od,an,sl,kV,dc,pm,cd,ct,l,c,k⟩
def iy (K:Za) (x:Str) (st:Stmt):Prop:=∃f,cz K bX x=some (some (.ref f))/\HG K x x st f
theorem fnG_mk {K:Za}{x:Str}{st:Stmt}{f:Addr}{oc:Value}{od an:Option Addr}{sl:Array (Option Value)}{kV dc pm cd ct:Value}(a:cz K bX x=some (some (.ref f))) (l:K.lookup f=some ⟨oc,od,.func (ii x x (g_ st) (fK st) (bT st) .none kV dc pm an cd ct),sl⟩)
  (c:mB K cd x=true) (k:h_ K (.ref f)=true):iy K x st:=⟨f,a,Er l c k⟩
def BL (K:Za) (C:Addr) (m qual:Str) (st:Stmt):Prop:=∃f,c7 K (.ref C) m=some (some (.ref f))/\xg K (.ref f)=true/\HG K m qual st f
theorem fnM_mk {K:Za}{C:Addr}{m qual:Str}{st:Stmt}{f:Addr}{oc:Value}{od an:Option Addr}{sl:Array (Option Value)}{kV dc pm cd ct:Value}(a:c7 K (.ref C) m=some (some (.ref f))) (i:xg K (.ref f)=true)
  (l:K.lookup f=some ⟨oc,od,.func (ii m qual (g_ st) (fK st) (bT st) .none kV dc pm an cd ct),sl⟩) (c:mB K cd qual=true) (k:h_ K (.ref f)=true):BL K C m qual st:=⟨f,a,i,Er l c k⟩
theorem HG.fun_ {K:Za}{x qual:Str}{st:Stmt}{f:Addr}(T:HG K x qual st f):∃fd,He K x qual st f fd:=by
 obtain ⟨oc,od,an,sl,kV,dc,pm,cd,ct,l,c,k⟩:=T;exact ⟨_,Eo (st:=st) l c k⟩
def G5 (K:Za) (a:Addr) (ws:Zb):Prop:=∀H,bL K H a (ws.map V.str)
theorem AW {K:Za}{a:Addr}{ws:Zb}{o:Obj}{its:Array Value}{n:Nat}(l:K.lookup a=some o) (c:o.cls=.type "tuple") (d:o.data=.seq its n) (z:its.size<=aj) (v:aV (ws.map V.str) its.toList):G5 K a ws :=
 fun _=>.inr ⟨o,its,n,l,c,d,z,v⟩
section
variable {P:bF}{w:World}{K:Za}{mg:Str->Option Value}{base h:Heap}{C:Addr}{x qual:Str}{st:Stmt}{N ps:Zb}{k:Nat}{sp:Sp}
abbrev EM (ps:Zb) (sp:Sp):Prop:=∀vs H Q E,sp vs H Q E->vs.length=ps.length
abbrev BodyOk (CX:C_) (P:bF) (w:World) (K:Za) (mg:Str->Option Value) (base:Heap) (qual:Str) (st:Stmt) (N:Zb) (k:Nat) (sp:Sp) (nox:Cx->Cx):Prop:=N.Nodup->∀(f:Addr) (cdv:Value) (A:Around) (outer:List Env) (s:Shared) (H:Hp) (vs:List V) (Q:VK) (E:XK),eG k (A.deeper (envOfC qual (bT st) s.heap.objs.size f cdv))->(A.deeper (envOfC qual (bT st) s.heap.objs.size f cdv)).units+16<cLine->sp vs H Q E ->
 ∃t,y3 (nox (Ao CX P w K mg base N qual (bT st) f cdv A outer s H E)) (fK st) t/\t (bC Q) (start N vs) H
abbrev AF (x qual:Str) (st:Stmt) (ps:Zb):Prop:=∀(kV doc pm:Value) (an:Option Addr) (cdv ct:Value) (us:Zf),us.length=ps.length->bindArgs (ii x qual (g_ st) (fK st) (bT st) .none kV doc pm an cdv ct) ⟨us,[]⟩=pure (ps.zip us)
theorem dG (X:K.In h) (G:h.Ns bX mg) (T:iy K x st) (b:BodyOk CX0 P w K mg base x st N k sp Cx.nox) (bi:AF x x st ps) (S:jS N ps (bT st):=by walk_at "s") (l:EM ps sp:=by walk_at "l"):iz P w K mg base x ps (k+1) sp:=by
 obtain ⟨f,a,t⟩:=T;obtain ⟨fd,F⟩:=t.fun_;exact ⟨f,fd,F.ok S l fun cdv A outer s H vs Q E hr h=>b S.nd f cdv A outer s H vs Q E hr (Bw hr) h,gH X G a,F.kp,F.binds bi⟩
theorem dM (cl:BM K C) (T:BL K C x qual st) (b:BodyOk CX0 P w K mg base qual st N k sp Cx.nox) (bi:AF x qual st ps) (S:jS N ps (bT st):=by walk_at "s") (l:EM ps sp:=by walk_at "l"):BK P w K mg base C x ps (k+1) sp:=by
 obtain ⟨f,a,i,t⟩:=T;obtain ⟨fd,F⟩:=t.fun_;exact ⟨f,fd,F.ok S l fun cdv A outer s H vs Q E hr h=>b S.nd f cdv A outer s H vs Q E hr (Bw hr) h,cl,⟨a,i,F.kp⟩,F.binds bi⟩
theorem dN {y:Str}(cm:mg y=some (.ref C)) (mk:qV K C=true) (kc:h_ K (.ref C)=true) (T:BL K C "__init__" qual st) (b:BodyOk CX0 P w K mg base qual st N k sp Cx.nox) (bi:AF "__init__" qual st ps) (S:jS N ps (bT st):=by walk_at "s") (l:EM ps sp:=by walk_at "l"):HX P w K mg base y C ps (k+1) sp:=by
 obtain ⟨f,a,i,t⟩:=T;obtain ⟨fd,F⟩:=t.fun_;exact ⟨f,fd,F.ok S l fun cdv A outer s H vs Q E hr h=>b S.nd f cdv A outer s H vs Q E hr (Bw hr) h,cm,⟨mk,a,i,kc⟩,F.binds bi⟩
end
structure Zs (mg:Str->Option Value):Prop where
 all:mg "all"=none
 any:mg "any"=none
 dict:mg "dict"=none
 enumerate:mg "enumerate"=none
 isinstance:mg "isinstance"=none
 len:mg "len"=none
 list:mg "list"=none
 max:mg "max"=none
 range:mg "range"=none
 tuple:mg "tuple"=none
 zip:mg "zip"=none
structure Cs (K:Za) (mg:Str->Option Value) (C Cf a_STILL a_HUSH:Addr):Prop where
 LETTERS:Gc mg "LETTERS" (.str "abcdefghijklmnopqrstuvwxyz")
 LONGEST_NAME:Gc mg "LONGEST_NAME" (.int 8)
 MOST_WORDS:Gc mg "MOST_WORDS" (.int 4)
 MOST_ROOMS:Gc mg "MOST_ROOMS" (.int 150)
 MOST_DOORS:Gc mg "MOST_DOORS" (.int 2000)
 MOST_FACES:Gc mg "MOST_FACES" (.int 400)
 STILL:Gc mg "STILL" (.ref a_STILL)
 HUSH:Gc mg "HUSH" (.ref a_HUSH)
 still:G5 K a_STILL ar
 hush:G5 K a_HUSH bN
 mc:MC K C
 cm:mg "Machine"=some (.ref C)
 makes:qV K C=true
 kc:h_ K (.ref C)=true
 fc:FC K Cf
 cmf:mg "FaceMap"=some (.ref Cf)
 makesf:qV K Cf=true
 kcf:h_ K (.ref Cf)=true
structure Ts (K:Za) (C Cf:Addr):Prop where
 f_law_spread:iy K "_law_spread" (fR 47)
 f_law_open:iy K "_law_open" (fR 48)
 f_law_anew:iy K "_law_anew" (fR 49)
 f_law_take:iy K "_law_take" (fR 50)
 f_law_names:iy K "_law_names" (fR 51)
 f_law_put:iy K "_law_put" (fR 52)
 f_law_draw_doors:iy K "_law_draw_doors" (fR 53)
 f_law_model:iy K "_law_model" (fR 54)
 f_is_name:iy K "is_name" (fR 23)
 f_as_keys:iy K "as_keys" (fR 24)
 f_first_wrong_name:iy K "first_wrong_name" (fR 25)
 f_door_signs:iy K "door_signs" (fR 26)
 f_first_wrong_door:iy K "first_wrong_door" (fR 27)
 f_goals_by_start_and_sign:iy K "goals_by_start_and_sign" (fR 28)
 f_led_by_still:iy K "led_by_still" (fR 29)
 f_first_led_round:iy K "first_led_round" (fR 30)
 f_need_none:iy K "need_none" (fR 31)
 f_need_parts:iy K "need_parts" (fR 32)
 f_doors_by_start:iy K "doors_by_start" (fR 33)
 f_has_asks_alone:iy K "has_asks_alone" (fR 34)
 f_Machine___init__:BL K C "__init__" "Machine.__init__" (fJ (fR 35) 0)
 f_law_machine:iy K "_law_machine" (fR 60)
 f_Machine_rooms:BL K C "rooms" "Machine.rooms" (fJ (fR 35) 3)
 f_Machine_led_from:BL K C "led_from" "Machine.led_from" (fJ (fR 35) 8)
 f_with_still:iy K "with_still" (fR 9)
 f_Machine_goals:BL K C "goals" "Machine.goals" (fJ (fR 35) 7)
 f_Machine_is_quiet:BL K C "is_quiet" "Machine.is_quiet" (fJ (fR 35) 5)
 f_law_still_on:iy K "_law_still_on" (fR 55)
 f_law_signs:iy K "_law_signs" (fR 61)
 f_Machine_asks:BL K C "asks" "Machine.asks" (fJ (fR 35) 1)
 f_Machine_says:BL K C "says" "Machine.says" (fJ (fR 35) 2)
 f_first_face:iy K "first_face" (fR 10)
 f_face_behind:iy K "face_behind" (fR 11)
 f_signs_in_order:iy K "signs_in_order" (fR 8)
 f_steps_at:iy K "steps_at" (fR 12)
 f_FaceMap_number_at:BL K Cf "number_at" "FaceMap.number_at" (fJ (fR 15) 1)
 f_FaceMap_numbered_steps:BL K Cf "numbered_steps" "FaceMap.numbered_steps" (fJ (fR 15) 2)
 f_FaceMap___init__:BL K Cf "__init__" "FaceMap.__init__" (fJ (fR 15) 0)
 f_takes:iy K "takes" (fR 38)
 f_need_match:iy K "need_match" (fR 37)
 f_need_all_asks_taken:iy K "need_all_asks_taken" (fR 39)
 f_need_taker:iy K "need_taker" (fR 40)
 f_Machine_doors_from:BL K C "doors_from" "Machine.doors_from" (fJ (fR 35) 6)
 f_story_to:iy K "story_to" (fR 41)
 f_least_fault:iy K "least_fault" (fR 42)
 f_rows_needed:iy K "rows_needed" (fR 43)
 f_paper_of:iy K "paper_of" (fR 44)
 f_keeps:iy K "keeps" (fR 45)
 f_law_willing:iy K "_law_willing" (fR 56)
 f_law_turned:iy K "_law_turned" (fR 57)
 f_law_renamed:iy K "_law_renamed" (fR 58)
 f_law_near:iy K "_law_near" (fR 59)
 f_law_key:iy K "_law_key" (fR 62)
 f_law_fault:iy K "_law_fault" (fR 63)
 f_law26:iy K "law" (fR 64)
section
variable {P:bF}{w:World}{K:Za}{mg:Str->Option Value}{base h:Heap}{C Cf a_STILL a_HUSH:Addr}
section
variable (P:bF) (w:World) (K:Za) (mg:Str->Option Value) (C Cf a_STILL a_HUSH:Addr)
abbrev jY:Prop:=∀base,iz P w K mg base "_law_spread" ["cell","at"] 1 lg
abbrev tf:Prop:=∀base,iz P w K mg base "_law_open" ["script"] 1 (qH K)
abbrev jZ:Prop:=∀base,iz P w K mg base "_law_anew" ["pen"] 1 qM
abbrev dB:Prop:=∀base,iz P w K mg base "_law_take" ["pen","many"] 2 eR
abbrev iN:Prop:=∀base,iz P w K mg base "_law_names" ["pen","many"] 3 kG
abbrev ju:Prop:=∀base,iz P w K mg base "_law_put" ["doors","door"] 1 jE
abbrev gg:Prop:=∀base,iz P w K mg base "_law_draw_doors" ["pen","asks","says","rooms","full"] 3 gl
abbrev qo:Prop:=∀base,iz P w K mg base "_law_model" ["pen","most","full"] 4 nL
abbrev pT:Prop:=∀base,iz P w K mg base "is_name" ["text"] 1 sp_is_name
abbrev jv:Prop:=∀base,iz P w K mg base "as_keys" ["things"] 1 (sp_as_keys K)
abbrev fb:Prop:=∀base,iz P w K mg base "first_wrong_name" ["names","most","taken"] 2 (sp_first_wrong_name K)
abbrev j3:Prop:=∀base,iz P w K mg base "door_signs" ["asks","says"] 1 (sp_door_signs K)
abbrev fe:Prop:=∀base,iz P w K mg base "first_wrong_door" ["doors","rooms","signs"] 2 (sp_first_wrong_door K)
abbrev cN:Prop:=∀base,iz P w K mg base "goals_by_start_and_sign" ["doors"] 1 nM
abbrev iw:Prop:=∀base,iz P w K mg base "led_by_still" ["goals","room"] 1 wa
abbrev fP:Prop:=∀base,iz P w K mg base "first_led_round" ["rooms","led"] 1 sp_first_led_round
abbrev iM:Prop:=∀base,iz P w K mg base "need_none" ["part","number"] 1 sp_need_none
abbrev jV:Prop:=∀base,iz P w K mg base "need_parts" ["asks","says","rooms","doors"] 3 sp_need_parts
abbrev gj:Prop:=∀base,iz P w K mg base "doors_by_start" ["rooms","doors"] 1 sp_doors_by_start
abbrev gh:Prop:=∀base,iz P w K mg base "has_asks_alone" ["doors"] 1 sp_has_asks_alone
abbrev pU:Prop:=∀base,HX P w K mg base "Machine" C ["self","asks","says","rooms","doors"] 4 (qJ C)
abbrev mj:Prop:=∀base,iz P w K mg base "_law_machine" ["told"] 6 (jG C)
abbrev cO:Prop:=∀base,BK P w K mg base C "rooms" ["self"] 1 (ik C)
abbrev dC:Prop:=∀base,BK P w K mg base C "led_from" ["self","room"] 1 (gA C)
abbrev hU:Prop:=∀base,iz P w K mg base "with_still" ["M","rooms"] 2 (sp_with_still C)
abbrev eT:Prop:=∀base,BK P w K mg base C "goals" ["self","room","sign"] 1 (hW C)
abbrev dD:Prop:=∀base,BK P w K mg base C "is_quiet" ["self","room"] 1 (gB C)
abbrev fO:Prop:=∀base,iz P w K mg base "_law_still_on" ["doors","rooms"] 1 (fh K)
abbrev lb:Prop:=∀base,iz P w K mg base "_law_signs" ["told"] 1 nI
abbrev eD:Prop:=∀base,BK P w K mg base C "asks" ["self"] 1 (ln C)
abbrev fQ:Prop:=∀base,BK P w K mg base C "says" ["self"] 1 (nJ C)
abbrev j1:Prop:=∀base,iz P w K mg base "first_face" ["M"] 3 (dJ C)
abbrev iZ:Prop:=∀base,iz P w K mg base "face_behind" ["M","face","sign"] 3 (qK K C)
abbrev gf:Prop:=∀base,iz P w K mg base "signs_in_order" ["M"] 2 (v_ C a_HUSH)
abbrev nh:Prop:=∀base,iz P w K mg base "steps_at" ["M","face"] 4 (jD C)
abbrev c6:Prop:=∀base,BK P w K mg base Cf "number_at" ["self","face","story"] 1 (kF K Cf)
abbrev cW:Prop:=∀base,BK P w K mg base Cf "numbered_steps" ["self","number"] 5 (iF K Cf C)
abbrev pV:Prop:=∀base,HX P w K mg base "FaceMap" Cf ["self","M"] 6 (lh K Cf C)
abbrev xc:Prop:=∀base,iz P w K mg base "takes" ["I","room","ask"] 2 (je C)
abbrev jW:Prop:=∀base,iz P w K mg base "need_match" ["M","I"] 2 (fG C)
abbrev dP:Prop:=∀base,iz P w K mg base "need_all_asks_taken" ["I"] 4 (gW C)
abbrev jU:Prop:=∀base,iz P w K mg base "need_taker" ["M","I"] 5 (fF C)
abbrev eC:Prop:=∀base,BK P w K mg base C "doors_from" ["self","room"] 1 (gp C)
abbrev ng:Prop:=∀base,iz P w K mg base "story_to" ["came","place"] 1 (e_ K)
abbrev iW:Prop:=∀base,iz P w K mg base "least_fault" ["model_steps","machine_steps"] 2 (gk K)
abbrev iV:Prop:=∀base,iz P w K mg base "rows_needed" ["I","room","face","steps"] 2 (nK K C)
abbrev nj:Prop:=∀base,iz P w K mg base "paper_of" ["model","I"] 3 (jF K Cf C)
abbrev BN:Prop:=∀base,iz P w K mg base "keeps" ["M","I"] 8 (dF K C)
abbrev iX:Prop:=∀base,iz P w K mg base "_law_willing" ["pen","told"] 3 jC
abbrev jX:Prop:=∀base,iz P w K mg base "_law_turned" ["pen","told"] 3 lc
abbrev iY:Prop:=∀base,iz P w K mg base "_law_renamed" ["pen","told"] 4 iE
abbrev tj:Prop:=∀base,iz P w K mg base "_law_near" ["pen","told","most"] 5 qI
abbrev pS:Prop:=∀base,iz P w K mg base "_law_key" ["told","story"] 2 (wb K)
abbrev qp:Prop:=∀base,iz P w K mg base "_law_fault" ["told","found"] 3 (nN K)
end
section
variable (X:K.In h) (G:h.Ns bX mg) (z:Zs mg) (c:Cs K mg C Cf a_STILL a_HUSH) (T:Ts K C Cf)
include X G z c T
theorem tK :jY P w K mg:=fun base=>dG X G T.f_law_spread (fun S _ _ _ _ _ _ _ _ _ hr hu h=>bK (Cb (K:=K) h) (ab (bI (i0 Ho (pv 0) (aP DR ah ah)) (ag (aE (pv 0))) aU) (ab (qs 2 S (aP f_ (aP cU (aP cU (aP ip (aP f_ (pv 0) ah) ah) (aP ip (pv 1) ah)) ah) ah)) (ab (qs 3 S (aP f_ (aP cU (aP cU (aP ip (pv 2) (pv 2)) (aP ip (pv 1) ah)) (aP f_ (pv 0) ah)) ah)) (ab (qs 4 S (aP f_ (aP cU (aP cU (aP ip (pv 3) (pv 3)) (aP ip (pv 2) ah)) ah) ah)) (ag (aE (aP cU (aP ip (aP cU (aP ip (pv 2) ah) (pv 3)) ah) (pv 4))))))))) (by walk_at "b")
theorem xF :tf P w K mg:=fun base=>dG X G T.f_law_open (fun S _ _ _ _ _ _ _ _ _ hr hu h=>bK (Fm h) (ab (qs 1 S (qL rfl z.list (a1 (db gu (pv 0) gv (cZ ah))))) (ab (bS bq rfl (nY rfl z.enumerate (a1 (db gu (pv 0) (cZ ah) (cZ ah)))) (dq rfl (aw (gn 2 S) (aw (gn 3 S) cp))) (ag (io (aP cU (xl (pv 1) (aP f_ (pv 2) ah)) (pv 3)) (sy (pv 1) (aP f_ (pv 2) ah) kH)))) (ag (aE (ba (a3 (pv 1) ah ah))))))) (by walk_at "b")
theorem xH :jZ P w K mg:=fun base=>dG X G T.f_law_anew (fun S _ _ _ _ _ _ _ _ _ hr hu h=>bK (Fs (K:=K) h) (ab (io ah (sy (pv 0) ah kH)) (ag (aE (pv 0))))) (by walk_at "b")
theorem xE (D_law_spread:jY P w K mg):dB P w K mg:=fun base=>dG X G T.f_law_take (fun S _ _ _ _ _ _ _ _ _ hr hu h=>bK (Fk h) (ab (bI (i0 sB (xl (pv 0) ah) (pv 1)) (ab (qs 2 S (xl (pv 0) ah)) (ab (qs 3 S ah) (ab (bI (i0 sB (pv 2) (ql z.len (a1 (xl (pv 0) ah)))) (ag (qs 3 S (xl (xl (pv 0) ah) (pv 2)))) (ag (bI (i0 x9 (ql z.len (a1 (xl (pv 0) ah))) ah) (ag (qs 3 S (aP f_ (xl (xl (pv 0) ah) (aP f_ (aP cU (aP ip (pv 2) ah) ah) (ql z.len (a1 (xl (pv 0) ah))))) (aP cU (aP DR ah ah) (pv 2))))) aU))) (ab (io (aP cU (pv 2) ah) (sy (pv 0) ah kH)) (ag (io (qf hr (D_law_spread base) (a2 (pv 3) (pv 2))) (sy (pv 0) ah kH))))))) aU) (ab (qs 4 S (aP f_ (xl (pv 0) ah) (pv 1))) (ab (io (aP Bm (xl (pv 0) ah) (pv 1)) (sy (pv 0) ah kH)) (ag (aE (pv 4))))))) (by walk_at "b") (l:=(fun vs H Q E h=>by obtain ⟨_,_,_,rfl,_⟩:=h; rfl))
theorem v5 (D_law_take:dB P w K mg):iN P w K mg:=fun base=>dG X G T.f_law_names (fun S _ _ _ _ _ _ _ _ _ hr hu h=>bK (Dv h) (ab (qs 2 S bo) (ab (qs 3 S (fj PySem.F.plainAttrs_str PySem.F.slot_str_join PySem.F.type_str_join FK bo (a1 (qc (jh rfl z.range (a1 ah)) (bw (by decide)) fun _ _ _ _ _ _=>⟨gc 0,cA,xs' (pv 1) (qf hr (D_law_take base) (a2 (pv 2) ah))⟩)))) (ab (qs 4 S (qf hr (D_law_take base) (a2 (pv 0) ah))) (ab (qs 5 S (qf hr (D_law_take base) (a2 (pv 0) ah))) (ab (qs 6 S (qf hr (D_law_take base) (a2 (pv 0) ah))) (ab (qs 7 S (ba b_)) (ab (bS bq rfl (jh rfl z.range (a1 (pv 1))) (gn 8 S) (ab (qs 9 S (xs' (pv 2) (aP f_ (aP cU (pv 5) (aP ip ah (pv 8))) ah))) (ab (qs 10 S (db zD (pv 3) gv (cZ (aP f_ (aP cU (pv 6) (aP ip (pv 8) (aP f_ (pv 4) ah))) ah)))) (ab (qs 11 S (xl (ba (a3 ah (ql z.len (a1 (pv 10))) (aP Bm (ql z.len (a1 (pv 10))) ah))) (pv 4))) (ag (aR (fj cR eV eU bU (pv 7) (a1 (aP sC (aP sC (db zD (pv 10) gv (cZ (pv 11))) (pv 9)) (db zD (pv 10) (cZ (pv 11)) gv)))))))))) (ag (aE (pv 7))))))))))) (by walk_at "b")
theorem zj :ju P w K mg:=fun base=>dG X G T.f_law_put (fun S _ _ _ _ _ _ _ _ _ hr hu h=>bK (GF h) (ag (bI (Hg (lA hu) (pv 1) (pv 0)) (ag (aR (fj cR eV eU bU (pv 0) (a1 (pv 1))))) aU))) (by walk_at "b") (l:=(fun vs H Q E h=>by obtain ⟨_,_,_,_,_,rfl,_⟩:=h; rfl))
theorem nF (D_law_take:dB P w K mg) (D_law_put:ju P w K mg):gg P w K mg:=fun base=>dG X G T.f_law_draw_doors (fun S _ _ _ _ _ _ _ _ _ hr hu h=>bK (tT h) (ab (qs 5 S (ba b_)) (ab (qs 6 S (qf hr (D_law_take base) (a2 (pv 0) ah))) (ab (bS bq rfl (nY rfl z.enumerate (a1 (pv 3))) (dq rfl (aw (gn 7 S) (aw (gn 8 S) cp))) (ab (bS bq rfl (jh rfl z.range (a1 (xl (ba (bZ ah (a3 ah ah ah))) (qf hr (D_law_take base) (a2 (pv 0) ah))))) (gn 9 S) (ab (qs 10 S (aK (a2 bo (xl (pv 2) (qf hr (D_law_take base) (a2 (pv 0) (ql z.len (a1 (pv 2))))))))) (ag (aR (qf hr (D_law_put base) (a2 (pv 5) (aK (a3 (pv 8) (pv 10) (xl (pv 3) (qf hr (D_law_take base) (a2 (pv 0) (ql z.len (a1 (pv 3)))))))))))))) (ab (bS bq rfl (bg (pv 1)) (gn 11 S) (ag (bS bq rfl (jh rfl z.range (a1 (xl (ba (bZ (pv 4) (a3 ah ah ah))) (qf hr (D_law_take base) (a2 (pv 0) ah))))) (gn 9 S) (ag (aR (qf hr (D_law_put base) (a2 (pv 5) (aK (a3 (pv 8) (aK (a2 bo (pv 11))) (xl (pv 3) (qf hr (D_law_take base) (a2 (pv 0) (ql z.len (a1 (pv 3))))))))))))))) (ab (qs 12 S (xl (ba (a2 (db gu (pv 3) (cZ (aP cU (pv 7) ah)) gv) (db gu (pv 3) gv (cZ (pv 7))))) (pv 6))) (ag (bI (PW.pt (kJ (i0 (pj hu) (pv 12) (ba b_)) (lq (i0 jk (qf hr (D_law_take base) (a2 (pv 0) ah)) ah)))) (ag (aR (qf hr (D_law_put base) (a2 (pv 5) (aK (a3 (pv 8) (aK (a1 bo)) (xq (pv 12) (qf hr (D_law_take base) (a2 (pv 0) (ql z.len (a1 (pv 12)))))))))))) aU)))))) (ag (aE (pv 5))))))) (by walk_at "b")
theorem v6 (D_law_anew:jZ P w K mg) (D_law_take:dB P w K mg) (D_law_names:iN P w K mg) (D_law_draw_doors:gg P w K mg):qo P w K mg:=fun base=>dG X G T.f_law_model (fun S _ _ _ _ _ _ _ _ _ hr hu h=>bK (Dw h) (ab (aR (qf hr (D_law_anew base) (a1 (pv 0)))) (ab (qs 3 S (qf hr (D_law_names base) (a2 (pv 0) ah))) (ab (qs 4 S (db gu (pv 3) gv (cZ (aP cU ah (xl (ba (bZ ah (bZ ah (bZ ah (a3 ah ah ah))))) (qf hr (D_law_take base) (a2 (pv 0) ah))))))) (ab (qs 5 S (db gu (pv 3) (cZ ah) (cZ (aP cU ah (xl (ba (bZ ah (bZ ah (bZ ah (a3 ah ah ah))))) (qf hr (D_law_take base) (a2 (pv 0) ah))))))) (ab (qs 6 S (qf hr (D_law_names base) (a2 (pv 0) (aP cU ah (qf hr (D_law_take base) (a2 (pv 0) (pv 1))))))) (ab (qs 7 S (qf hr (D_law_draw_doors base) (bZ (pv 0) (bZ (pv 4) (a3 (pv 5) (pv 6) (pv 2)))))) (ag (aE (aK (bZ (pv 4) (a3 (pv 5) (pv 6) (pv 7))))))))))))) (by walk_at "b")
theorem zm :pT P w K mg:=fun base=>dG X G T.f_is_name (fun S _ _ _ _ _ _ _ _ _ hr hu h=>bK (zN h) (ag (aE (zV (Hb sA (pv 0) bo) (zV (Hb Hn (ql z.len (a1 (pv 0))) (ji rfl c.LONGEST_NAME)) (DP (qB (qj rfl) z.all boot_all (a1 (qc (GK (pv 0)) (bw (by decide)) fun _ _ _ _ _ _=>⟨gc 0,cA,eci zW (pv 0) (ji rfl c.LETTERS)⟩))))))))) (by walk_at "b") (l:=(fun vs H Q E h=>by obtain ⟨_,rfl,_⟩:=h; rfl))
theorem zo :jv P w K mg:=fun base=>dG X G T.f_as_keys (fun S _ _ _ _ _ _ _ _ _ hr hu h=>bK (zO h) (ab (qs 1 S kM) (ab (bS bq rfl (bg (pv 0)) (gn 2 S) (ag (gZ hu (pv 1) (pv 2) kN rfl))) (ag (aE (pv 1)))))) (by walk_at "b") (l:=(fun vs H Q E h=>by obtain ⟨_,_,rfl,_⟩:=h; rfl))
theorem lM (D_is_name:pT P w K mg) (D_as_keys:jv P w K mg):fb P w K mg:=fun base=>dG X G T.f_first_wrong_name (fun S _ _ _ _ _ _ _ _ _ hr hu h=>bK (lO h) (ab (bI (i0 jk (ql z.len (a1 (pv 0))) ah) (ag (aE ah)) aU) (ab (qs 3 S (qf hr (D_as_keys base) (a1 (pv 2)))) (ab (bS bq rfl (nY rfl z.enumerate (a1 (pv 0))) (dq rfl (aw (gn 4 S) (aw (gn 5 S) cp))) (ab (bI (PW.pt (jf (i0 jk (pv 4) (pv 1)) (jf (dk (pi hu (pv 5) (pv 3))) (jI (zR (pf (qf hr (D_is_name base) (a1 (pv 5))))))))) (ag (aE (pv 4))) aU) (ag (gZ hu (pv 3) (pv 5) kN rfl)))) (ag (aE ph)))))) (by walk_at "b")
theorem tM :j3 P w K mg:=fun base=>dG X G T.f_door_signs (fun S _ _ _ _ _ _ _ _ _ hr hu h=>bK (tV c.still h) (ag (aE (aP gM (aP gM (qc (bg (pv 0)) (bw (by decide)) fun _ _ _ _ _ _=>⟨gc 0,cA,aK (a2 bo (pv 0))⟩) (qc (bg (pv 1)) (bw (by decide)) fun _ _ _ _ _ _=>⟨gc 0,cA,aK (a2 bo (pv 0))⟩)) (ba (a1 (ji rfl c.STILL))))))) (by walk_at "b")
theorem lN (D_as_keys:jv P w K mg):fe P w K mg:=fun base=>dG X G T.f_first_wrong_door (fun S _ _ _ _ _ _ _ _ _ hr hu h=>bK (lP h) (ab (qs 3 S (qf hr (D_as_keys base) (a1 (pv 1)))) (ab (qs 4 S kL) (ab (bS bq rfl (nY rfl z.enumerate (a1 (pv 0))) (dq rfl (aw (gn 5 S) (aw (gn 6 S) cp))) (ab (bI (PW.pt (jf (i0 jk (pv 5) (ji rfl c.MOST_DOORS)) (jI (dk (pi hu (pv 6) (pv 4)))))) (ag (aE (pv 5))) aU) (ab (bI (PW.pt (jf (dk (fk hu (xq (pv 6) ah) (pv 3))) (jf (Hg (lA hu) (xq (pv 6) ah) (pv 2)) (jI (dk (fk hu (xq (pv 6) ah) (pv 3))))))) (ag (aE (pv 5))) aU) (ag (gZ hu (pv 4) (pv 6) kN rfl))))) (ag (aE ph)))))) (by walk_at "b")
theorem ij :cN P w K mg:=fun base=>dG X G T.f_goals_by_start_and_sign (fun S _ _ _ _ _ _ _ _ _ hr hu h=>bK (im h) (ab (qs 1 S kL) (ab (bS bq rfl (bg (pv 0)) (dq rfl (aw (gn 2 S) (aw (gn 3 S) (aw (gn 4 S) cp)))) (ag (aR (fj cR eV eU bU (fj PySem.F.plainAttrs_dict PySem.F.slot_dict_setdefault PySem.F.type_dict_setdefault (Cn hu) (pv 1) (a2 (aK (a2 (pv 2) (pv 3))) (ba b_))) (a1 (pv 4)))))) (ag (aE (pv 1)))))) (by walk_at "b")
theorem qw :iw P w K mg:=fun base=>dG X G T.f_led_by_still (fun S _ _ _ _ _ _ _ _ _ hr hu h=>bK (qy c.still h) (ab (qs 2 S kM) (ab (qs 3 S (ba (a1 (pv 1)))) (ab (jg bq (i0 x9 (ql z.len (a1 (pv 3))) ah) (ab (qs 4 S (zU cR PySem.F.slot_list_pop PySem.F.type_list_pop D_ (pv 3))) (ag (bS bq rfl (GL (nZ hu (pv 0) (aK (a2 (pv 4) (ji rfl c.STILL))) (aK b_) ⟨rfl,rfl,rfl,rfl⟩)) (gn 5 S) (ag (bI (dk (fk hu (pv 5) (pv 2))) (ab (gZ hu (pv 2) (pv 5) kN rfl) (ag (aR (fj cR eV eU bU (pv 3) (a1 (pv 5)))))) aU)))))) (ag (aE (pv 2))))))) (by walk_at "b")
theorem mK :fP P w K mg:=fun base=>dG X G T.f_first_led_round (fun S _ _ _ _ _ _ _ _ _ hr hu h=>bK (mM h) (ab (bS bq rfl (nY rfl z.enumerate (a1 (pv 0))) (dq rfl (aw (gn 2 S) (aw (gn 3 S) cp))) (ag (bI (dk (pi hu (pv 3) (eS hu (pv 1) (pv 3) (fun _ _=>rfl)))) (ag (aE (pv 2))) aU))) (ag (aE ph)))) (by walk_at "b")
theorem v3 :iM P w K mg:=fun base=>dG X G T.f_need_none (fun S _ _ _ _ _ _ _ _ _ hr hu h=>bK (wf (K:=K) h) (ag (bI (dk (Bi (pv 1))) (ag (nW)) aU))) (by walk_at "b")
theorem tH (D_first_wrong_name:fb P w K mg) (D_door_signs:j3 P w K mg) (D_first_wrong_door:fe P w K mg) (D_need_none:iM P w K mg):jV P w K mg:=fun base=>dG X G T.f_need_parts (fun S _ _ _ _ _ _ _ _ _ hr hu h=>bK (tQ (K:=K) h) (ab (aR (qf hr (D_need_none base) (a2 bo (qf hr (D_first_wrong_name base) (a3 (pv 0) (ji rfl c.MOST_WORDS) (ba b_)))))) (ab (aR (qf hr (D_need_none base) (a2 bo (qf hr (D_first_wrong_name base) (a3 (pv 1) (ji rfl c.MOST_WORDS) (pv 0)))))) (ab (aR (qf hr (D_need_none base) (a2 bo (qf hr (D_first_wrong_name base) (a3 (pv 2) (ji rfl c.MOST_ROOMS) (ba b_)))))) (ag (aR (qf hr (D_need_none base) (a2 bo (qf hr (D_first_wrong_door base) (a3 (pv 3) (pv 2) (qf hr (D_door_signs base) (a2 (pv 0) (pv 1))))))))))))) (by walk_at "b")
theorem nH :gj P w K mg:=fun base=>dG X G T.f_doors_by_start (fun S _ _ _ _ _ _ _ _ _ hr hu h=>bK (nV h) (ab (qs 2 S kM) (ab (bS bq rfl (bg (pv 0)) (gn 3 S) (ag (gZ hu (pv 2) (pv 3) (ba b_) rfl))) (ab (bS bq rfl (bg (pv 1)) (gn 4 S) (ag (aR (fj cR eV eU bU (eS hu (pv 2) (xq (pv 4) ah) (fun _ _=>rfl)) (a1 (pv 4)))))) (ag (aE (pv 2))))))) (by walk_at "b")
theorem nG :gh P w K mg:=fun base=>dG X G T.f_has_asks_alone (fun S _ _ _ _ _ _ _ _ _ hr hu h=>bK (nU h) (ag (aE (qB (qj rfl) z.all boot_all (a1 (qc (bg (pv 0)) (bw (by decide)) fun _ _ _ _ _ _=>⟨gc 0,cA,Hb jk (xq (xq (pv 0) ah) ah) bo⟩)))))) (by walk_at "b")
theorem zq (D_as_keys:jv P w K mg) (D_goals_by_start_and_sign:cN P w K mg) (D_led_by_still:iw P w K mg) (D_first_led_round:fP P w K mg) (D_need_none:iM P w K mg) (D_need_parts:jV P w K mg) (D_doors_by_start:gj P w K mg) (D_has_asks_alone:gh P w K mg):pU P w K mg C:=fun base=>dN c.cm c.makes c.kc T.f_Machine___init__ (fun S _ _ _ _ _ _ _ _ _ hr hu h=>bK (Fo c.mc h) (ab (aR (qf hr (D_need_parts base) (bZ (pv 1) (a3 (pv 2) (pv 3) (pv 4))))) (ab (fZ (pv 0) (qL rfl z.list (a1 (pv 1))) rfl) (ab (fZ (pv 0) (qL rfl z.list (a1 (pv 2))) rfl) (ab (fZ (pv 0) (qL rfl z.list (a1 (pv 3))) rfl) (ab (fZ (pv 0) (qL rfl z.list (a1 (pv 4))) rfl) (ab (fZ (pv 0) (qf hr (D_doors_by_start base) (a2 (pv 3) (pv 4))) rfl) (ab (fZ (pv 0) (qf hr (D_as_keys base) (a1 (qc (bg (pv 3)) (bw (by decide)) fun _ _ _ _ _ _=>⟨gc 0,qO (pf (qf hr (D_has_asks_alone base) (a1 (eS hu (bW (pv 1) rfl) (pv 0) (fun _ _=>rfl))))),pv 0⟩))) rfl) (ab (fZ (pv 0) (qf hr (D_goals_by_start_and_sign base) (a1 (pv 4))) rfl) (ab (fZ (pv 0) (lr (wS rfl) rfl z.dict At (a1 (qc (bg (pv 3)) (bw (by decide)) fun _ _ _ _ _ _=>⟨gc 0,cA,aK (a2 (pv 0) (qf hr (D_led_by_still base) (a2 (bW (pv 1) rfl) (pv 0))))⟩))) rfl) (ag (aR (qf hr (D_need_none base) (a2 bo (qf hr (D_first_led_round base) (a2 (pv 3) (bW (pv 0) rfl))))))))))))))))) (by walk_at "b")
theorem rY (D_Machine:pU P w K mg C):mj P w K mg C:=fun base=>dG X G T.f_law_machine (fun S _ _ _ _ _ _ _ _ _ hr hu h=>bK (zM h) (ag (aE (zT (D_Machine base) (hr.mono (by decide)) rfl (bZ (qL rfl z.list (a1 (xq (pv 0) ah))) (a3 (qL rfl z.list (a1 (xq (pv 0) ah))) (qL rfl z.list (a1 (xq (pv 0) ah))) (qL rfl z.list (a1 (xq (pv 0) ah))))))))) (by walk_at "b")
theorem o6 :cO P w K mg C:=fun base=>dM c.mc.cls T.f_Machine_rooms (fun S _ _ _ _ _ _ _ _ _ hr hu h=>bK (Dt c.mc h) (ag (aE (qL rfl z.list (a1 (bW (pv 0) rfl)))))) (by walk_at "b")
theorem lK :dC P w K mg C:=fun base=>dM c.mc.cls T.f_Machine_led_from (fun S _ _ _ _ _ _ _ _ _ hr hu h=>bK (xQ c.mc h) (ag (aE (qL rfl z.list (a1 (nZ hu (bW (pv 0) rfl) (pv 1) (aK b_) ⟨rfl,rfl,rfl,rfl⟩)))))) (by walk_at "b")
theorem tF (M_Machine_rooms:cO P w K mg C) (M_Machine_led_from:dC P w K mg C):hU P w K mg C:=fun base=>dG X G T.f_with_still (fun S _ _ _ _ _ _ _ _ _ hr hu h=>bK (tP h) (ab (qs 2 S kM) (ab (bS bq rfl (bg (pv 1)) (gn 3 S) (ag (bI (dk (fk hu (pv 3) (pv 2))) (ab (gZ hu (pv 2) (pv 3) kN rfl) (ag (bS bq rfl (bg (qm hr (M_Machine_led_from base) (pv 0) (a1 (pv 3)))) (gn 4 S) (ag (gZ hu (pv 2) (pv 4) kN rfl))))) aU))) (ag (aE (lr mh rfl z.tuple kZ (a1 (qc (bg (DK hr (M_Machine_rooms base) (pv 0))) (bw (by decide)) fun _ _ _ _ _ _=>⟨gc 0,qO (dk (pi hu (pv 0) (pv 1))),pv 0⟩)))))))) (by walk_at "b")
theorem o7 :eT P w K mg C:=fun base=>dM c.mc.cls T.f_Machine_goals (fun S _ _ _ _ _ _ _ _ _ hr hu h=>bK (Cc c.mc h) (ag (aE (qL rfl z.list (a1 (nZ hu (bW (pv 0) rfl) (aK (a2 (pv 1) (pv 2))) (aK b_) ⟨rfl,rfl,rfl,rfl⟩)))))) (by walk_at "b")
theorem lL :dD P w K mg C:=fun base=>dM c.mc.cls T.f_Machine_is_quiet (fun S _ _ _ _ _ _ _ _ _ hr hu h=>bK (xR c.mc h) (ag (aE (GQ (pi hu (pv 1) (bW (pv 0) rfl)))))) (by walk_at "b")
theorem qx :fO P w K mg:=fun base=>dG X G T.f_law_still_on (fun S _ _ _ _ _ _ _ _ _ hr hu h=>bK (xN h) (ab (qs 2 S (qL rfl z.list (a1 (pv 1)))) (ab (qs 3 S ah) (ab (jg bq (i0 sB (pv 3) (ql z.len (a1 (pv 2)))) (ab (bS bq rfl (bg (pv 0)) (dq rfl (aw (gn 4 S) (aw (gn 5 S) (aw (gn 6 S) cp)))) (ag (bI (PW.pt (kJ (i0 (mN hu) (pv 4) (xq (pv 2) (pv 3))) (kJ (i0 (mN hu) (pv 5) (aK (a1 bo))) (lq (Hg (lA hu) (pv 6) (pv 2)))))) (ag (aR (fj cR eV eU bU (pv 2) (a1 (pv 6))))) aU))) (ag (qs 3 S (aP cU (pv 3) ah))))) (ag (aE (pv 2))))))) (by walk_at "b")
theorem v4 :lb P w K mg:=fun base=>dG X G T.f_law_signs (fun S _ _ _ _ _ _ _ _ _ hr hu h=>bK (Dr h) (ag (aE (aP gM (aP gM (qc (bg (xq (pv 0) ah)) (bw (by decide)) fun _ _ _ _ _ _=>⟨gc 0,cA,aK (a2 bo (pv 0))⟩) (qc (bg (xq (pv 0) ah)) (bw (by decide)) fun _ _ _ _ _ _=>⟨gc 0,cA,aK (a2 bo (pv 0))⟩)) (ba (a1 (aK (a1 bo)))))))) (by walk_at "b")
theorem qv :eD P w K mg C:=fun base=>dM c.mc.cls T.f_Machine_asks (fun S _ _ _ _ _ _ _ _ _ hr hu h=>bK (Fq c.mc h) (ag (aE (qL rfl z.list (a1 (bW (pv 0) rfl)))))) (by walk_at "b")
theorem qt :fQ P w K mg C:=fun base=>dM c.mc.cls T.f_Machine_says (fun S _ _ _ _ _ _ _ _ _ hr hu h=>bK (Fl c.mc h) (ag (aE (qL rfl z.list (a1 (bW (pv 0) rfl)))))) (by walk_at "b")
theorem tL (M_Machine_rooms:cO P w K mg C) (D_with_still:hU P w K mg C):j1 P w K mg C:=fun base=>dG X G T.f_first_face (fun S _ _ _ _ _ _ _ _ _ hr hu h=>bK (tS h) (ag (aE (qf hr (D_with_still base) (a2 (pv 0) (db gu (DK hr (M_Machine_rooms base) (pv 0)) gv (cZ ah))))))) (by walk_at "b")
theorem rZ (D_with_still:hU P w K mg C) (M_Machine_goals:eT P w K mg C) (M_Machine_is_quiet:dD P w K mg C):iZ P w K mg C:=fun base=>dG X G T.f_face_behind (fun S _ _ _ _ _ _ _ _ _ hr hu h=>bK (Fp c.hush h) (ab (bI (i0 (mN hu) (pv 2) (ji rfl c.HUSH)) (ag (aE (lr mh rfl z.tuple kZ (a1 (qc (DN (pv 1)) (bw (by decide)) fun _ _ _ _ _ _=>⟨gc 0,qO (pf (qm hr (M_Machine_is_quiet base) (pv 1) (a1 (pv 0)))),pv 0⟩))))) aU) (ab (qs 3 S (ba b_)) (ab (bS bq rfl (DN (pv 1)) (gn 4 S) (ag (aR (fj cR PySem.F.slot_list_extend PySem.F.type_list_extend Cp (pv 3) (a1 (qm hr (M_Machine_goals base) (pv 0) (a2 (pv 4) (pv 2)))))))) (ag (aE (qf hr (D_with_still base) (a2 (pv 0) (pv 3))))))))) (by walk_at "b")
theorem nE (M_Machine_asks:eD P w K mg C) (M_Machine_says:fQ P w K mg C):gf P w K mg C a_HUSH:=fun base=>dG X G T.f_signs_in_order (fun S _ _ _ _ _ _ _ _ _ hr hu h=>bK (GD h) (ag (aE (aP gM (aP gM (qc (bg (DK hr (M_Machine_asks base) (pv 0))) (bw (by decide)) fun _ _ _ _ _ _=>⟨gc 0,cA,aK (a2 bo (pv 0))⟩) (qc (bg (DK hr (M_Machine_says base) (pv 0))) (bw (by decide)) fun _ _ _ _ _ _=>⟨gc 0,cA,aK (a2 bo (pv 0))⟩)) (ba (a1 (ji rfl c.HUSH))))))) (by walk_at "b")
theorem xC (D_face_behind:iZ P w K mg C) (D_signs_in_order:gf P w K mg C a_HUSH):nh P w K mg C:=fun base=>dG X G T.f_steps_at (fun S _ _ _ _ _ _ _ _ _ hr hu h=>bK (zJ c.hush h) (ab (qs 2 S kL) (ab (bS bq rfl (bg (qf hr (D_signs_in_order base) (a1 (pv 0)))) (gn 3 S) (ab (qs 4 S (qf hr (D_face_behind base) (a3 (pv 0) (pv 1) (pv 3)))) (ag (bI (i0 x9 (ql z.len (a1 (pv 4))) ah) (ag (nX hu (pv 2) (pv 3) (pv 4) rfl)) aU)))) (ag (aE (pv 2)))))) (by walk_at "b")
theorem kE :c6 P w K mg Cf:=fun base=>dM c.fc.cls T.f_FaceMap_number_at (fun S _ _ _ _ _ _ _ _ _ hr hu h=>bK (Du c.fc h) (ab (bI (dk (fk hu (pv 1) (bW (pv 0) rfl))) (ab (bI (i0 jk (ql z.len (a1 (bW (pv 0) rfl))) (ji rfl c.MOST_FACES)) (ag (nW)) aU) (ab (gZ hu (bW (pv 0) rfl) (pv 1) (ql z.len (a1 (bW (pv 0) rfl))) rfl) (ab (aR (fj cR eV eU bU (bW (pv 0) rfl) (a1 (pv 1)))) (ag (aR (fj cR eV eU bU (bW (pv 0) rfl) (a1 (pv 2)))))))) aU) (ag (aE (eS hu (bW (pv 0) rfl) (pv 1) (fun _ _=>rfl)))))) (by walk_at "b")
theorem iB (D_steps_at:nh P w K mg C) (M_FaceMap_number_at:c6 P w K mg Cf):cW P w K mg C Cf:=fun base=>dM c.fc.cls T.f_FaceMap_numbered_steps (fun S _ _ _ _ _ _ _ _ _ hr hu h=>bK (xP c.fc h) (ab (qs 2 S kL) (ab (bS bq rfl (uz (qf hr (D_steps_at base) (a2 (bW (pv 0) rfl) (xl (bW (pv 0) rfl) (pv 1))))) (dq rfl (aw (gn 3 S) (aw (gn 4 S) cp))) (ag (nX hu (pv 2) (pv 3) (qm hr (M_FaceMap_number_at base) (pv 0) (a2 (pv 4) (aP gM (xl (bW (pv 0) rfl) (pv 1)) (ba (a1 (pv 3)))))) rfl))) (ag (aE (pv 2)))))) (by walk_at "b")
theorem zA (D_first_face:j1 P w K mg C) (M_FaceMap_number_at:c6 P w K mg Cf) (M_FaceMap_numbered_steps:cW P w K mg C Cf):pV P w K mg C Cf:=fun base=>dN c.cmf c.makesf c.kcf T.f_FaceMap___init__ (fun S _ _ _ _ _ _ _ _ _ hr hu h=>bK (Cd c.fc h) (ab (fZ (pv 0) (pv 1) rfl) (ab (fZ (pv 0) (ba b_) rfl) (ab (fZ (pv 0) (ba b_) rfl) (ab (fZ (pv 0) kL rfl) (ab (fZ (pv 0) (ba b_) rfl) (ab (aR (qm hr (M_FaceMap_number_at base) (pv 0) (a2 (qf hr (D_first_face base) (a1 (pv 1))) (ba b_)))) (ag (jg bq (i0 sB (ql z.len (a1 (bW (pv 0) rfl))) (ql z.len (a1 (bW (pv 0) rfl)))) (ag (aR (fj cR eV eU bU (bW (pv 0) rfl) (a1 (qm hr (M_FaceMap_numbered_steps base) (pv 0) (a1 (ql z.len (a1 (bW (pv 0) rfl)))))))))))))))))) (by walk_at "b")
theorem Dm (M_Machine_led_from:dC P w K mg C) (M_Machine_goals:eT P w K mg C):xc P w K mg C:=fun base=>dG X G T.f_takes (fun S _ _ _ _ _ _ _ _ _ hr hu h=>bK (Dq h) (ag (aE (qB (yM rfl) z.any boot_any (a1 (qc (bg (aP gM (ba (a1 (pv 1))) (qm hr (M_Machine_led_from base) (pv 0) (a1 (pv 1))))) (bw (by decide)) fun _ _ _ _ _ _=>⟨gc 0,cA,Hb x9 (ql z.len (a1 (qm hr (M_Machine_goals base) (pv 1) (a2 (pv 0) (aK (a2 bo (pv 2))))))) ah⟩)))))) (by walk_at "b")
theorem tI (M_Machine_asks:eD P w K mg C) (M_Machine_says:fQ P w K mg C):jW P w K mg C:=fun base=>dG X G T.f_need_match (fun S _ _ _ _ _ _ _ _ _ hr hu h=>bK (sn h) (ag (bI (PW.pt (jf (i0 (pj hu) (DK hr (M_Machine_asks base) (pv 0)) (DK hr (M_Machine_asks base) (pv 1))) (jI (i0 (pj hu) (DK hr (M_Machine_says base) (pv 0)) (DK hr (M_Machine_says base) (pv 1)))))) (ag (nW)) aU))) (by walk_at "b")
theorem jB (M_Machine_rooms:cO P w K mg C) (M_Machine_asks:eD P w K mg C) (D_takes:xc P w K mg C):dP P w K mg C:=fun base=>dG X G T.f_need_all_asks_taken (fun S _ _ _ _ _ _ _ _ _ hr hu h=>bK (wg h) (ag (bS bq rfl (bg (DK hr (M_Machine_rooms base) (pv 0))) (gn 1 S) (ag (bS bq rfl (bg (DK hr (M_Machine_asks base) (pv 0))) (gn 2 S) (ag (bI (zR (pf (qf hr (D_takes base) (a3 (pv 0) (pv 1) (pv 2))))) (ag (nW)) aU))))))) (by walk_at "b")
theorem tG (D_need_match:jW P w K mg C) (D_need_all_asks_taken:dP P w K mg C):jU P w K mg C:=fun base=>dG X G T.f_need_taker (fun S _ _ _ _ _ _ _ _ _ hr hu h=>bK (sm (K:=K) h) (ab (aR (qf hr (D_need_match base) (a2 (pv 0) (pv 1)))) (ag (aR (qf hr (D_need_all_asks_taken base) (a1 (pv 1))))))) (by walk_at "b")
theorem j9 :eC P w K mg C:=fun base=>dM c.mc.cls T.f_Machine_doors_from (fun S _ _ _ _ _ _ _ _ _ hr hu h=>bK (tU c.mc h) (ag (aE (qL rfl z.list (a1 (nZ hu (bW (pv 0) rfl) (pv 1) (aK b_) ⟨rfl,rfl,rfl,rfl⟩)))))) (by walk_at "b")
theorem xB :ng P w K mg:=fun base=>dG X G T.f_story_to (fun S _ _ _ _ _ _ _ _ _ hr hu h=>bK (zI h) (ab (qs 2 S (ba b_)) (ab (jg bq (dk (Bi (eS hu (pv 0) (pv 1) (fun _ _=>rfl)))) (ab (io (eS hu (pv 0) (pv 1) (fun _ _=>rfl)) (dq rfl (aw (gn 1 S) (aw (gn 3 S) cp)))) (ag (aR (fj cR eV eU bU (pv 2) (a1 (pv 3))))))) (ab (aR (zU cR PySem.F.slot_list_reverse PySem.F.type_list_reverse zX (pv 2))) (ag (aE (pv 2))))))) (by walk_at "b")
theorem rV (D_story_to:ng P w K mg):iW P w K mg:=fun base=>dG X G T.f_least_fault (fun S _ _ _ _ _ _ _ _ _ hr hu h=>bK (tR h) (ab (qs 2 S (uA hu (aK (a2 ah ah)) ph)) (ab (qs 3 S (ba (a1 (aK (a2 ah ah))))) (ab (qs 4 S ah) (ab (jg bq (i0 sB (pv 4) (ql z.len (a1 (pv 3)))) (ab (qs 5 S (xl (pv 3) (pv 4))) (ab (GJ (i:=4) S rfl (Or.inl rfl) ah GY) (ab (qs 6 S (xl (pv 0) (xt (pv 5) ah))) (ag (bS bq rfl (uz (xl (pv 1) (xt (pv 5) ah))) (dq rfl (aw (gn 7 S) (aw (gn 8 S) cp))) (ag (bI (dk (fk hu (pv 7) (pv 6))) (ag (bI (i0 sA (xt (pv 7) ah) bo) (ag (aE (aK (a2 (qf hr (D_story_to base) (a2 (pv 2) (pv 5))) (pv 7))))) aU)) (ag (bI (dk (fk hu (aK (a2 (eS hu (pv 6) (pv 7) (fun _ _=>rfl)) (pv 8))) (pv 2))) (ab (nX hu (pv 2) (aK (a2 (eS hu (pv 6) (pv 7) (fun _ _=>rfl)) (pv 8))) (aK (a2 (pv 5) (pv 7))) rfl) (ag (aR (fj cR eV eU bU (pv 3) (a1 (aK (a2 (eS hu (pv 6) (pv 7) (fun _ _=>rfl)) (pv 8)))))))) aU)))))))))) (ag (aE ph))))))) (by walk_at "b")
theorem rU (M_Machine_is_quiet:dD P w K mg C) (M_Machine_doors_from:eC P w K mg C):iV P w K mg C:=fun base=>dG X G T.f_rows_needed (fun S _ _ _ _ _ _ _ _ _ hr hu h=>bK (Ds c.hush c.still h) (ab (qs 4 S (ba b_)) (ab (bS bq rfl (bg (qm hr (M_Machine_doors_from base) (pv 0) (a1 (pv 1)))) (dq rfl (aw (gn 5 S) (aw (gn 6 S) (aw (gn 7 S) cp)))) (ag (bI (i0 (mN hu) (pv 6) (ji rfl c.STILL)) (ag (aR (fj cR eV eU bU (pv 4) (a1 (aK (a2 (pv 7) (pv 2))))))) (ag (bI (PW.pt (jf (dk (pi hu (pv 6) (pv 3))) (jI (i0 jk (xt (pv 6) ah) bo)))) (ag (aR (fj cR eV eU bU (pv 4) (a1 (aK (a2 (pv 7) (xV hu (pv 3) (pv 6) ⟨rfl,rfl,rfl,rfl⟩))))))) aU))))) (ab (bI (pf (qm hr (M_Machine_is_quiet base) (pv 0) (a1 (pv 1)))) (ag (aR (fj cR eV eU bU (pv 4) (a1 (aK (a2 (pv 1) (xV hu (pv 3) (ji rfl c.HUSH) ⟨rfl,rfl,rfl,rfl⟩))))))) aU) (ag (aE (pv 4))))))) (by walk_at "b")
theorem xD (M_Machine_rooms:cO P w K mg C) (D_rows_needed:iV P w K mg C):nj P w K mg C Cf:=fun base=>dG X G T.f_paper_of (fun S _ _ _ _ _ _ _ _ _ hr hu h=>bK (zK c.fc h) (ab (qs 2 S (aK (a2 (xl (DK hr (M_Machine_rooms base) (pv 1)) ah) ah))) (ab (qs 3 S (uA hu (pv 2) kN)) (ab (qs 4 S (ba (a1 (pv 2)))) (ab (jg bq (i0 x9 (ql z.len (a1 (pv 4))) ah) (ab (io (zU cR PySem.F.slot_list_pop PySem.F.type_list_pop D_ (pv 4)) (dq rfl (aw (gn 5 S) (aw (gn 6 S) cp)))) (ag (bS bq rfl (bg (qf hr (D_rows_needed base) (bZ (pv 1) (a3 (pv 5) (pv 6) (xl (bW (pv 0) rfl) (pv 6)))))) (gn 7 S) (ag (bI (dk (fk hu (pv 7) (pv 3))) (ab (nX hu (pv 3) (pv 7) kN rfl) (ag (aR (fj cR eV eU bU (pv 4) (a1 (pv 7)))))) aU)))))) (ag (aE (qc (DO (pv 3)) (Bl (jj (bw (by decide)) eE (jj (bw (by decide)) eE (xX) (jn)) (jK eE (jn)))) fun _ _ _ _ _ _=>⟨dq rfl (aw (gc 0) (aw (gc 1) cp)),cA,aK (a2 (pv 0) (xl (bW (pv 2) rfl) (pv 1)))⟩)))))))) (by walk_at "b")
theorem Dn (D_FaceMap:pV P w K mg C Cf) (D_need_taker:jU P w K mg C) (D_least_fault:iW P w K mg) (D_paper_of:nj P w K mg C Cf):BN P w K mg C:=fun base=>dG X G T.f_keeps (fun S _ _ _ _ _ _ _ _ _ hr hu h=>bK (Dy c.fc h) (ab (aR (qf hr (D_need_taker base) (a2 (pv 0) (pv 1)))) (ab (qs 2 S (zT (D_FaceMap base) (hr.mono (by decide)) rfl (a1 (pv 0)))) (ab (qs 3 S (qf hr (D_least_fault base) (a2 (bW (pv 2) rfl) (bW (zT (D_FaceMap base) (hr.mono (by decide)) rfl (a1 (pv 1))) rfl)))) (ab (bI (dk (wn (pv 3))) (ag (aE (aK (a2 bo (qf hr (D_paper_of base) (a2 (pv 2) (pv 1))))))) aU) (ab (io (pv 3) (dq rfl (aw (gn 4 S) (aw (gn 5 S) cp)))) (ag (aE (aK (a3 bo (pv 4) (pv 5))))))))))) (by walk_at "b") (l:=(fun vs H Q E h=>by obtain ⟨_,_,_,_,_,_,_,_,rfl,_⟩:=h; rfl))
theorem rW (D_law_take:dB P w K mg) (D_law_put:ju P w K mg) (D_law_still_on:fO P w K mg):iX P w K mg:=fun base=>dG X G T.f_law_willing (fun S _ _ _ _ _ _ _ _ _ hr hu h=>bK (zH h) (ab (io (pv 1) (dq rfl (aw (gn 2 S) (aw (gn 3 S) (aw (gn 4 S) (aw (gn 5 S) cp)))))) (ab (qs 5 S (qL rfl z.list (a1 (pv 5)))) (ab (bS bq rfl (bg (pv 4)) (gn 6 S) (ag (bS bq rfl (bg (pv 2)) (gn 7 S) (ab (qs 8 S (qf hr (D_law_still_on base) (a2 (pv 5) (ba (a1 (pv 6)))))) (ag (bI (i0 (mN hu) (qc (bg (pv 5)) (bw (by decide)) fun _ _ _ _ _ _=>⟨gc 0,qO (PW.pt (kJ (Hg (GS hu) (xq (pv 0) ah) (pv 1)) (lq (i0 (mN hu) (xq (pv 0) ah) (aK (a2 bo (pv 2))))))),pv 0⟩) (ba b_)) (ab (qs 9 S (xl (ba (a2 (pv 6) (xl (pv 4) (qf hr (D_law_take base) (a2 (pv 0) (ql z.len (a1 (pv 4)))))))) (qf hr (D_law_take base) (a2 (pv 0) ah)))) (ag (aR (qf hr (D_law_put base) (a2 (pv 5) (aK (a3 (pv 6) (aK (a2 bo (pv 7))) (pv 9)))))))) aU)))))) (ag (aE (aK (bZ (pv 2) (a3 (pv 3) (pv 4) (pv 5)))))))))) (by walk_at "b")
theorem tJ (D_law_take:dB P w K mg) (D_law_put:ju P w K mg) (D_law_still_on:fO P w K mg):jX P w K mg:=fun base=>dG X G T.f_law_turned (fun S _ _ _ _ _ _ _ _ _ hr hu h=>bK (Ca h) (ab (io (pv 1) (dq rfl (aw (gn 2 S) (aw (gn 3 S) (aw (gn 4 S) (aw (gn 5 S) cp)))))) (ab (qs 5 S (qL rfl z.list (a1 (pv 5)))) (ab (qs 6 S (qf hr (D_law_take base) (a2 (pv 0) ah))) (ab (qs 7 S (qf hr (D_law_take base) (a2 (pv 0) (qB (CS rfl) z.max PyProof.Rows.boot_max (a2 ah (ql z.len (a1 (pv 5)))))))) (ab (qs 8 S (xl (pv 4) (qf hr (D_law_take base) (a2 (pv 0) (ql z.len (a1 (pv 4))))))) (ab (qs 9 S (xl (pv 4) (qf hr (D_law_take base) (a2 (pv 0) (ql z.len (a1 (pv 4))))))) (ab (bI (i0 jk (pv 6) ah) (ag (aR (qf hr (D_law_put base) (a2 (pv 5) (aK (a3 (pv 8) (aK (a2 bo (xl (pv 3) (qf hr (D_law_take base) (a2 (pv 0) (ql z.len (a1 (pv 3)))))))) (pv 9))))))) (ag (bI (i0 jk (pv 6) ah) (ag (aR (qf hr (D_law_put base) (a2 (pv 5) (aK (a3 (pv 8) (aK (a2 bo (xl (pv 2) (qf hr (D_law_take base) (a2 (pv 0) (ql z.len (a1 (pv 2)))))))) (pv 9))))))) (ag (bI (PW.pt (kJ (i0 sB (pv 6) ah) (kJ (i0 (pj hu) (pv 5) (ba b_)) (lq (i0 sA (xt (xt (xl (pv 5) (pv 7)) ah) ah) bo))))) (ab (qs 10 S (fj cR PySem.F.slot_list_pop PySem.F.type_list_pop D0 (pv 5) (a1 (pv 7)))) (ag (bI (i0 jk (pv 6) ah) (ag (aR (qf hr (D_law_put base) (a2 (pv 5) (aK (a3 (xt (pv 10) ah) (xt (pv 10) ah) (pv 9))))))) aU))) (ag (bI (PW.pt (kJ (i0 jk (pv 6) ah) (lq (Hg (lA hu) (pv 8) (qf hr (D_law_still_on base) (a2 (pv 5) (ba (a1 (pv 9))))))))) (ag (aR (qf hr (D_law_put base) (a2 (pv 5) (aK (a3 (pv 8) (aK (a1 bo)) (pv 9))))))) aU))))))) (ag (aE (aK (bZ (pv 2) (a3 (pv 3) (pv 4) (pv 5)))))))))))))) (by walk_at "b")
theorem rX (D_law_take:dB P w K mg) (D_law_names:iN P w K mg):iY P w K mg:=fun base=>dG X G T.f_law_renamed (fun S _ _ _ _ _ _ _ _ _ hr hu h=>bK (xO h) (ab (io (pv 1) (dq rfl (aw (gn 2 S) (aw (gn 3 S) (aw (gn 4 S) (aw (gn 5 S) cp)))))) (ab (qs 6 S kM) (ab (bS bq rfl (Fy rfl z.zip (a2 (pv 4) (qf hr (D_law_names base) (a2 (pv 0) (ql z.len (a1 (pv 4))))))) (dq rfl (aw (gn 7 S) (aw (gn 8 S) cp))) (ag (gZ hu (pv 6) (pv 7) (pv 8) rfl))) (ab (qsc 9 S (bg (pv 4)) (bw (by decide)) fun _ _ _ _ _ _=>⟨gc 0,cA,eS hu (pv 1) (pv 0) (fun _ _=>rfl)⟩) (ab (qs 10 S (aP cU ah (qf hr (D_law_take base) (a2 (pv 0) (ql z.len (a1 (pv 4))))))) (ab (qs 9 S (aP gM (aP gM (db gu (pv 9) gv (cZ ah)) (db gu (pv 9) (cZ (pv 10)) gv)) (db gu (pv 9) (cZ ah) (cZ (pv 10))))) (ab (qsc 5 S (bg (pv 5)) (Bl (jj (bw (by decide)) eE (jj (bw (by decide)) eE (jj (bw (by decide)) eE (xX) (jn)) (jK eE (jn))) (jK eE (jK eE (jn))))) fun _ _ _ _ _ _=>⟨dq rfl (aw (gc 0) (aw (gc 1) (aw (gc 2) cp))),cA,aK (a3 (eS hu (pv 3) (pv 0) (fun _ _=>rfl)) (pv 1) (eS hu (pv 3) (pv 2) (fun _ _=>rfl)))⟩) (ag (aE (aK (bZ (pv 2) (a3 (pv 3) (pv 9) (pv 5)))))))))))))) (by walk_at "b")
theorem xG (D_law_anew:jZ P w K mg) (D_law_take:dB P w K mg) (D_law_willing:iX P w K mg) (D_law_turned:jX P w K mg) (D_law_renamed:iY P w K mg):tj P w K mg:=fun base=>dG X G T.f_law_near (fun S _ _ _ _ _ _ _ _ _ hr hu h=>bK (Fn (K:=K) h) (ab (aR (qf hr (D_law_anew base) (a1 (pv 0)))) (ab (bS bq rfl (jh rfl z.range (a1 (qf hr (D_law_take base) (a2 (pv 0) (aP cU (pv 2) ah))))) (gn 3 S) (ag (qs 1 S (qf hr (D_law_turned base) (a2 (pv 0) (pv 1)))))) (ab (qs 1 S (qf hr (D_law_willing base) (a2 (pv 0) (pv 1)))) (ab (bI (i0 jk (qf hr (D_law_take base) (a2 (pv 0) ah)) ah) (ag (qs 1 S (qf hr (D_law_renamed base) (a2 (pv 0) (pv 1))))) aU) (ag (aE (pv 1)))))))) (by walk_at "b")
theorem zk (D_law_signs:lb P w K mg):pS P w K mg:=fun base=>dG X G T.f_law_key (fun S _ _ _ _ _ _ _ _ _ hr hu h=>bK (GG h) (ab (qs 2 S (qf hr (D_law_signs base) (a1 (pv 0)))) (ag (aE (aP gM (ba (a1 (ql z.len (a1 (pv 1))))) (qc (bg (pv 1)) (bw (by decide)) fun _ _ _ _ _ _=>⟨gc 0,cA,fj cR PySem.F.slot_list_index PySem.F.type_list_index (Co hu) (pv 1) (a1 (pv 0))⟩)))))) (by walk_at "b")
theorem v7 (D_law_key:pS P w K mg):qp P w K mg:=fun base=>dG X G T.f_law_fault (fun S _ _ _ _ _ _ _ _ _ hr hu h=>bK (Dz h) (ab (bI (PW.pt (jf (zR (pf (qB ED z.isinstance EE (a2 (pv 1) (xU rfl z.tuple))))) (jf (i0 sB (ql z.len (a1 (pv 1))) ah) (jI (PW.pt (kJ (i0 sA (xt (pv 1) ah) bo) (lq (i0 sA (xt (pv 1) ah) bo)))))))) (ag (aE ph)) aU) (ab (bI (i0 jk (xt (pv 1) ah) bo) (ag (aE (ba b_))) aU) (ag (aE (qf hr (D_law_key base) (a2 (pv 0) (aP gM (xt (pv 1) ah) (ba (a1 (xt (pv 1) ah))))))))))) (by walk_at "b")
end
theorem GW (X:K.In h) (G:h.Ns bX mg) (z:Zs mg) (c:Cs K mg C Cf a_STILL a_HUSH) (T:Ts K C Cf):∃f fd,mg "law"=some (.ref f)/\(∀(s:Shared) (v:Value),qT s fd ⟨[v],[]⟩ [("script",v)])/\∀base:Heap,lU P w K mg base CX0 9 f fd ["script"] (sp_law26 K):=by
 have D_law_spread:jY P w K mg:=tK X G z c T;have D_law_open:tf P w K mg:=xF X G z c T;have D_law_anew:jZ P w K mg:=xH X G z c T;have D_law_take:dB P w K mg:=xE X G z c T D_law_spread;have D_law_names:iN P w K mg:=v5 X G z c T D_law_take;have D_law_put:ju P w K mg:=zj X G z c T;have D_law_draw_doors:gg P w K mg:=nF X G z c T D_law_take D_law_put;have D_law_model:qo P w K mg:=v6 X G z c T D_law_anew D_law_take D_law_names D_law_draw_doors;have D_is_name:pT P w K mg:=zm X G z c T;have D_as_keys:jv P w K mg:=zo X G z c T;have D_first_wrong_name:fb P w K mg:=lM X G z c T D_is_name D_as_keys;have D_door_signs:j3 P w K mg:=tM X G z c T;have D_first_wrong_door:fe P w K mg:=lN X G z c T D_as_keys;have D_goals_by_start_and_sign:cN P w K mg:=ij X G z c T;have D_led_by_still:iw P w K mg:=qw X G z c T;have D_first_led_round:fP P w K mg:=mK X G z c T;have D_need_none:iM P w K mg:=v3 X G z c T;have D_need_parts:jV P w K mg:=tH X G z c T D_first_wrong_name D_door_signs D_first_wrong_door D_need_none;have D_doors_by_start:gj P w K mg:=nH X G z c T;have D_has_asks_alone:gh P w K mg:=nG X G z c T;have D_Machine:pU P w K mg C:=zq X G z c T D_as_keys D_goals_by_start_and_sign D_led_by_still D_first_led_round D_need_none D_need_parts D_doors_by_start D_has_asks_alone;have D_law_machine:mj P w K mg C:=rY X G z c T D_Machine;have M_Machine_rooms:cO P w K mg C:=o6 X G z c T;have M_Machine_led_from:dC P w K mg C:=lK X G z c T;have D_with_still:hU P w K mg C:=tF X G z c T M_Machine_rooms M_Machine_led_from
 have M_Machine_goals:eT P w K mg C:=o7 X G z c T;have M_Machine_is_quiet:dD P w K mg C:=lL X G z c T;have D_law_still_on:fO P w K mg:=qx X G z c T;have D_law_signs:lb P w K mg:=v4 X G z c T;have M_Machine_asks:eD P w K mg C:=qv X G z c T;have M_Machine_says:fQ P w K mg C:=qt X G z c T;have D_first_face:j1 P w K mg C:=tL X G z c T M_Machine_rooms D_with_still;have D_face_behind:iZ P w K mg C:=rZ X G z c T D_with_still M_Machine_goals M_Machine_is_quiet;have D_signs_in_order:gf P w K mg C a_HUSH:=nE X G z c T M_Machine_asks M_Machine_says;have D_steps_at:nh P w K mg C:=xC X G z c T D_face_behind D_signs_in_order;have M_FaceMap_number_at:c6 P w K mg Cf:=kE X G z c T;have M_FaceMap_numbered_steps:cW P w K mg C Cf:=iB X G z c T D_steps_at M_FaceMap_number_at;have D_FaceMap:pV P w K mg C Cf:=zA X G z c T D_first_face M_FaceMap_number_at M_FaceMap_numbered_steps;have D_takes:xc P w K mg C:=Dm X G z c T M_Machine_led_from M_Machine_goals;have D_need_match:jW P w K mg C:=tI X G z c T M_Machine_asks M_Machine_says;have D_need_all_asks_taken:dP P w K mg C:=jB X G z c T M_Machine_rooms M_Machine_asks D_takes;have D_need_taker:jU P w K mg C:=tG X G z c T D_need_match D_need_all_asks_taken;have M_Machine_doors_from:eC P w K mg C:=j9 X G z c T;have D_story_to:ng P w K mg:=xB X G z c T;have D_least_fault:iW P w K mg:=rV X G z c T D_story_to;have D_rows_needed:iV P w K mg C:=rU X G z c T M_Machine_is_quiet M_Machine_doors_from
 have D_paper_of:nj P w K mg C Cf:=xD X G z c T M_Machine_rooms D_rows_needed;have D_keeps:BN P w K mg C:=Dn X G z c T D_FaceMap D_need_taker D_least_fault D_paper_of;have D_law_willing:iX P w K mg:=rW X G z c T D_law_take D_law_put D_law_still_on;have D_law_turned:jX P w K mg:=tJ X G z c T D_law_take D_law_put D_law_still_on;have D_law_renamed:iY P w K mg:=rX X G z c T D_law_take D_law_names;have D_law_near:tj P w K mg:=xG X G z c T D_law_anew D_law_take D_law_willing D_law_turned D_law_renamed;have D_law_key:pS P w K mg:=zk X G z c T D_law_signs;have D_law_fault:qp P w K mg:=v7 X G z c T D_law_key;obtain ⟨f,a,t⟩:=T.f_law26;obtain ⟨oc,od,an,sl,kV,dc,pm,cd,ct,l,c1,k1⟩:=t;have F:=Eo (st:=(fR 64)) l c1 k1;have sc:jS BJ DM (bT (fR 64)):=by walk_at "s"
 have S:=sc.nd;exact ⟨f,_,gH X G a,fun s v=>.of_eq rfl,fun base=>F.ok (k:=8) sc (by walk_at "l") (fun _ _ _ _ _ _ _ _ hr h=>by have hu:=Bw hr; exact bK (Dx (C:=C) h) (ab (qs 1 S (qf hr (D_law_open base) (a1 (pv 0)))) (ab (qs 2 S (qf hr (D_law_model base) (a3 (pv 1) ah ah))) (ab (qs 3 S (qf hr (D_law_near base) (a3 (pv 1) (pv 2) ah))) (ab (qs 4 S (qf hr (D_law_near base) (a3 (pv 1) (pv 3) ah))) (ab (qs 5 S (qf hr (D_law_machine base) (a1 (pv 2)))) (ab (qs 6 S (qf hr (D_law_machine base) (a1 (pv 3)))) (ab (qs 7 S (qf hr (D_law_machine base) (a1 (pv 4)))) (ab (bI (PW.pt (jf (i0 sA (xt (qf hr (D_keeps base) (a2 (pv 6) (pv 6))) ah) bo) (jI (i0 sA (xt (qf hr (D_keeps base) (a2 (pv 7) (pv 7))) ah) bo)))) (ag (aE kN)) aU) (ab (qs 8 S (qf hr (D_law_fault base) (a2 (pv 2) (qf hr (D_keeps base) (a2 (pv 6) (pv 7)))))) (ab (qs 9 S (qf hr (D_law_fault base) (a2 (pv 2) (qf hr (D_keeps base) (a2 (pv 5) (pv 6)))))) (ab (qs 10 S (qf hr (D_law_fault base) (a2 (pv 2) (qf hr (D_keeps base) (a2 (pv 5) (pv 7)))))) (ab (bI (PW.pt (jf (dk (wn (pv 8))) (jf (dk (wn (pv 9))) (jI (dk (wn (pv 10))))))) (ag (aE kN)) aU) (ab (bI (PW.pt (jf (i0 (pj hu) (pv 8) (ba b_)) (jI (i0 (mN hu) (pv 10) (ba b_))))) (ag (aE kN)) aU) (ag (aE (zV (Hb (pj hu) (pv 9) (ba b_)) (DP (GO (Hb (GR hu) (pv 10) (pv 9)))))))))))))))))))))⟩
theorem all_mk {l:PySem.W.OpenLaw}{fa:Addr}{u_LETTERS:Value}{u_LONGEST_NAME:Value}{u_MOST_WORDS:Value}{u_MOST_ROOMS:Value}{u_MOST_DOORS:Value}{u_MOST_FACES:Value}{o_STILL:Obj}{i_STILL:Array Value}{n_STILL:Nat}{o_HUSH:Obj}{i_HUSH:Array Value}{n_HUSH:Nat}(X:K.In h) (G:h.Ns bX mg) (hfa:mg "law"=some (.ref fa))
  (aC:cz K bX "Machine"=some (some (.ref C)))
  (pg:uh K C Str.empty=true)
  (hd:xh K C=true)
  (po:AL K C=true)
  (sa:c7 K (.ref C) "__setattr__"=some (some (.builtin "object.__setattr__")))
  (mk:qV K C=true)
  (kc:h_ K (.ref C)=true)
  (na1:c7 K (.ref C) "own_asks"=some none)
  (na2:c7 K (.ref C) "own_says"=some none)
  (na3:c7 K (.ref C) "own_rooms"=some none)
  (na4:c7 K (.ref C) "own_doors"=some none)
  (na5:c7 K (.ref C) "leaving"=some none)
  (na6:c7 K (.ref C) "quiet"=some none)
  (na7:c7 K (.ref C) "sign_goals"=some none)
  (na8:c7 K (.ref C) "still_led"=some none)
  (aF:cz K bX "FaceMap"=some (some (.ref Cf)))
  (pgF:uh K Cf Str.empty=true)
  (hdF:xh K Cf=true)
  (poF:AL K Cf=true)
  (saF:c7 K (.ref Cf) "__setattr__"=some (some (.builtin "object.__setattr__")))
  (mkF:qV K Cf=true)
  (kcF:h_ K (.ref Cf)=true)
  (nf1:c7 K (.ref Cf) "machine"=some none)
  (nf2:c7 K (.ref Cf) "faces"=some none)
  (nf3:c7 K (.ref Cf) "first_stories"=some none)
  (nf4:c7 K (.ref Cf) "numbers"=some none)
  (nf5:c7 K (.ref Cf) "steps"=some none)
  (z_all:cz K bX "all"=some none)
  (z_any:cz K bX "any"=some none)
  (z_dict:cz K bX "dict"=some none)
  (z_enumerate:cz K bX "enumerate"=some none)
  (z_isinstance:cz K bX "isinstance"=some none)
  (z_len:cz K bX "len"=some none)
  (z_list:cz K bX "list"=some none)
  (z_max:cz K bX "max"=some none)
  (z_range:cz K bX "range"=some none)
  (z_tuple:cz K bX "tuple"=some none)
  (z_zip:cz K bX "zip"=some none)
  (g_LETTERS:cz K bX "LETTERS"=some (some u_LETTERS))
  (r_LETTERS:RelV (.str "abcdefghijklmnopqrstuvwxyz") u_LETTERS)
  (g_LONGEST_NAME:cz K bX "LONGEST_NAME"=some (some u_LONGEST_NAME))
  (r_LONGEST_NAME:RelV (.int 8) u_LONGEST_NAME)
  (g_MOST_WORDS:cz K bX "MOST_WORDS"=some (some u_MOST_WORDS))
  (r_MOST_WORDS:RelV (.int 4) u_MOST_WORDS)
  (g_MOST_ROOMS:cz K bX "MOST_ROOMS"=some (some u_MOST_ROOMS))
  (r_MOST_ROOMS:RelV (.int 150) u_MOST_ROOMS)
  (g_MOST_DOORS:cz K bX "MOST_DOORS"=some (some u_MOST_DOORS))
  (r_MOST_DOORS:RelV (.int 2000) u_MOST_DOORS)
  (g_MOST_FACES:cz K bX "MOST_FACES"=some (some u_MOST_FACES))
  (r_MOST_FACES:RelV (.int 400) u_MOST_FACES)
  (g_STILL:cz K bX "STILL"=some (some (.ref a_STILL)))
  (l_STILL:K.lookup a_STILL=some o_STILL)
  (c_STILL:o_STILL.cls=.type "tuple")
  (d_STILL:o_STILL.data=.seq i_STILL n_STILL)
  (s_STILL:i_STILL.size<=aj)
  (v_STILL:aV (ar.map V.str) i_STILL.toList)
  (g_HUSH:cz K bX "HUSH"=some (some (.ref a_HUSH)))
  (l_HUSH:K.lookup a_HUSH=some o_HUSH)
  (c_HUSH:o_HUSH.cls=.type "tuple")
  (d_HUSH:o_HUSH.data=.seq i_HUSH n_HUSH)
  (s_HUSH:i_HUSH.size<=aj)
  (v_HUSH:aV (bN.map V.str) i_HUSH.toList)
  (T:Ts K C Cf)
 :∃fd:kb,(∀(s:Shared) (v:Value),qT s fd ⟨[v],[]⟩ [("script",v)])/\∀base:Heap,K.In base->base.Ns bX mg->lU l.prog w K mg base CX0 9 fa fd ["script"] (sp_law26 K):=by
 have z:Zs mg:=⟨ia X G z_all,ia X G z_any,ia X G z_dict,ia X G z_enumerate,ia X G z_isinstance,ia X G z_len,ia X G z_list,ia X G z_max,ia X G z_range,ia X G z_tuple,ia X G z_zip⟩;have c:Cs K mg C Cf a_STILL a_HUSH:=⟨⟨_,gH X G g_LETTERS,r_LETTERS⟩,⟨_,gH X G g_LONGEST_NAME,r_LONGEST_NAME⟩,⟨_,gH X G g_MOST_WORDS,r_MOST_WORDS⟩,⟨_,gH X G g_MOST_ROOMS,r_MOST_ROOMS⟩,⟨_,gH X G g_MOST_DOORS,r_MOST_DOORS⟩,⟨_,gH X G g_MOST_FACES,r_MOST_FACES⟩,⟨_,gH X G g_STILL,rfl⟩,⟨_,gH X G g_HUSH,rfl⟩,AW l_STILL c_STILL d_STILL s_STILL v_STILL,AW l_HUSH c_HUSH d_HUSH s_HUSH v_HUSH,⟨⟨pg,hd,po,sa⟩,na1,na2,na3,na4,na5,na6,na7,na8⟩,gH X G aC,mk,kc,⟨⟨pgF,hdF,poF,saF⟩,nf1,nf2,nf3,nf4,nf5⟩,gH X G aF,mkF,kcF⟩;obtain ⟨f,fd,e,b,k⟩:=GW (P:=l.prog) (w:=w) X G z c T;have e0:=hfa.symm.trans e;cases e0;exact ⟨fd,b,fun base _ _=>k base⟩
end
end Mum
namespace PySem.W.Fast
def tw12998310230183521498:=0
def tw9087462943967937193:=0
def tw16521283520713347554:=0
def tw13451914201571743401:=0
def tw4708530918789001732:=0
def tw15747373582426462230:=0
def tw12430397098252230042:=0
def tw13928930614729556556:=0
def tw6215255908637616522:=0
def tw14413469758627776423:=0
def tw16369616032406880600:=0
def tw2430822516706276965:=0
def tw14120445844538973435:=0
def tw620791245584908715:=0
def tw11841213598988165515:=0
def tw15209936798253866523:=0
def tw11643192373853473333:=0
def tw8457413035591267967:=0
def tw6166229234910948681:=0
def tw13025696983092333134:=0
def tw8672959950619635974:=0
def tw13794587502959790054:=0
def tw1143022398338322761:=0
def tw15066815927752886379:=0
def tw10473650045915553303:=0
def tw17627177958960641761:=0
def tw10920426980213904325:=0
def tw619219021610427897:=0
def tw6347700839988026539:=0
def tw12106311811229749660:=0
def tw6281545957933487524:=0
def tw10059616719255472542:=0
def tw10028551558456742729:=0
def tw16002068848003366025:=0
def tw17498846067620971017:=0
def tw3879374495786941632:=0
def tw17314284861988148028:=0
def tw2693879269767969976:=0
def tw7968771024840888170:=0
def tw7515902532724903766:=0
def tw3426038099730400340:=0
def tw2578374988113265804:=0
def tw6529403336526822412:=0
def tw10446250701545610395:=0
def tw14891564712083953919:=0
def tw4207955485266268244:=0
def tw3640421331395647471:=0
def tw6848606443207038868:=0
def tw12139225171531618378:=0
def tw5198663720247699825:=0
def tw9969200436388268208:=0
def tw12138777242472555582:=0
def tw5692691663039941597:=0
def tw16303503811590440818:=0
def tw11359338047222821524:=0
def tw2936394686122214723:=0
def tw16986885010052193372:=0
def tw3948245172881719119:=0
def tw3110261511190367607:=0
def tw14086106735141870055:=0
def tw3721536612943308189:=0
def tw1720535925894917943:=0
def tw14224940582651385219:=0
def tw9182076327916312865:=0
def tw17444385383272153728:=0
def tw10605265870011790025:=0
def tw17256978603521297791:=0
def tw1204375905491317723:=0
def tw8888790161007622221:=0
def tw8113489073029938324:=0
def tw9409123753040417408:=0
def tw18004963997874436887:=0
def tw3803329857186294368:=0
def tw970039159677040814:=0
def tw18433250670315797253:=0
def tw10759417634517830965:=0
def tw11559744094358746609:=0
def tw1486616280547305708:=0
def tw16416345762961952213:=0
def tw7292262984457455913:=0
def tw521608642957979218:=0
def tw17700419682269080129:=0
def tw3578939837749271915:=0
def tw759886388913612572:=0
def tw9471873362113859694:=0
def tw11909159613981627069:=0
def tw12266615932519574641:=0
def tw6085916305750357812:=0
def tw13849846306820769759:=0
def tw4006207180936287858:=0
def tw6399706480727636931:=0
def tw7439992070797727256:=0
def tw10956132163347822093:=0
def tw7481287572481398417:=0
def tw8502261930111095795:=0
def tw5534415627619318800:=0
def tw5631900410723034607:=0
def tw7496679421344899726:=0
def tw17110496499557832341:=0
def tw14995639762952158778:=0
def tw13395743262715739693:=0
def tw1121903122738269053:=0
def tw1203892188382953657:=0
def tw15344728611446326524:=0
def tw14445136672482867558:=0
def tw8972538478812476026:=0
def tw8414030692568361786:=0
def tw14013418401539595006:=0
def tw1765077321240414966:=0
def tw3175595361169584677:=0
def tw15295348816398992384:=0
def tw10951367423217676954:=0
def tw2421726776174660699:=0
def tw16219862309942937324:=0
def tw3695328303367750814:=0
def tw11414758299648522813:=0
def tw16197681077546897693:=0
def tw3193958390975693925:=0
def tw16693919569552578748:=0
def tw4984179117798203885:=0
def tw10416562462711489056:=0
def tw12136104472581861434:=0
def tw13354049092179181017:=0
def tw1465713752554441342:=0
def tw11426703394588358240:=0
def tw14116840649169485353:=0
def tw4515555609558012337:=0
def tw8237034453583227781:=0
def tw11800830508880417440:=0
def tw14292125762325838714:=0
def tw13576140974397732270:=0
def tw12064005804703556649:=0
def tw8214586379817769767:=0
def tw12698497824811624935:=0
def tw5263905300687019722:=0
def tw1770764022240313546:=0
def tw10131668174135883897:=0
def tw6035474752598869098:=0
def tw10326266102863012690:=0
def tw12182060629662074879:=0
def tw14362521219109395327:=0
def tw17375179949975043198:=0
def tw18334711397554866027:=0
def tw110282831991696929:=0
def tw4052828833836728162:=0
def tw5515713698588365173:=0
def tw14707480755170347242:=0
def tw3218444555774501737:=0
def tw12508080507967362871:=0
def tw16273273336854443837:=0
def tw9805051988107750371:=0
def tw6580680421898130436:=0
def tw11230315347283184614:=0
def tw8109580734268042916:=0
def tw3931418853056199420:=0
def tw14591756868105314450:=0
def tw8299126406906915580:=0
def tw14993342310184241502:=0
def tw3987380882167313183:=0
def tw6595874128153827399:=0
def tw16094712063571092814:=0
def tw6828266116886001365:=0
def tw18428727211189896789:=0
def tw16781079962117839723:=0
def tw11071057222714372490:=0
def tw11052737116709431003:=0
def tw7718693975965559277:=0
def tw1151953572106267657:=0
def tw8422768307430220951:=0
def tw6976271817356646023:=0
def tw10603265761180055100:=0
def tw2428235919153198371:=0
def tw9154662511243409244:=0
def tw16222638628297391041:=0
def tw1636316597739166221:=0
def tw18424764167749106863:=0
def tw5363551561935578324:=0
def tw3306466030773658212:=0
def tw13431035243035728314:=0
def tw4948734875924759869:=0
def tw3072701176554015129:=0
def tw6566502777310039466:=0
def tw6403985780682402333:=0
def tw9698376137821202844:=0
def tw14406472173526902804:=0
def tw6523583710456778722:=0
def tw9381292213979476618:=0
def tw6187598884944645988:=0
def tw6023760864675010534:=0
def tw14494103807756880949:=0
def tw12243472030443278162:=0
def tw17479860208294425024:=0
def tw14866631679681316869:=0
def tw232573888031373306:=0
def tw2482685302301514983:=0
def tw10785728889547936266:=0
def tw15734660788166992877:=0
def tw8755579550221605003:=0
def tw5805582469544083983:=0
def tw4544771131313020230:=0
def tw18240285587532934159:=0
def tw18241403470484034560:=0
def tw13540444946862820514:=0
def tw4118100620507058218:=0
def tw13757984176173476499:=0
def tw10304224533531249781:=0
def tw13037348984758874733:=0
def tw4421477635588511319:=0
def tw2982162756084331170:=0
def tw11931015440225785620:=0
def tw17220784116806750707:=0
def tw12374289408526392848:=0
def tw2881813261227144099:=0
def tw11660603272237381401:=0
def tw3090052775020151194:=0
def tw1658821765658218577:=0
def tw296419809243181478:=0
def tw11377450032421788852:=0
def tw13673122533074025405:=0
def tw11967736235046421503:=0
def tw7226087191609392997:=0
def tw10867754092121219178:=0
def tw9436854992017068947:=0
def tw2785754480968019565:=0
def tw2720245528247779330:=0
def tw8158643586224872212:=0
def tw18173858779753474262:=0
def tw10348034106612893332:=0
def tw12481947077461867067:=0
def tw9876008402067088733:=0
def tw6290312741223562265:=0
def tw6260211611364282903:=0
def tw10921790827541160111:=0
def tw5545215477042043612:=0
def tw13786352399257881522:=0
def tw4574300776643694656:=0
def tw6013310242273836853:=0
def tw5319871805299328068:=0
def tw16684798541762924780:=0
def tw15492796528576183439:=0
def tw12829876052515477094:=0
def tw8956882798502780507:=0
def tw7359375594737331524:=0
def tw697366181703209794:=0
def tw15225292944238929503:=0
def tw1895518787168040641:=0
def tw2445682109838204172:=0
def tw17452215005449163401:=0
def tw3143388375282387459:=0
def tw10220915418439135525:=0
def tw17884221869884405778:=0
def tw12914334541911313862:=0
def tw13604444972333152862:=0
def tw4993653839296813628:=0
def tw11508368600935465396:=0
def tw14793460242470009430:=0
def tw3131442042287738454:=0
def tw4698094590958301987:=0
def tw11047056425164013382:=0
def tw14914272020107501737:=0
def tw11991442288224257083:=0
def tw11127726014616521238:=0
def tw2109777804603405053:=0
def tw10969472813317548826:=0
def tw2672205305962626445:=0
def tw3971117422982290228:=0
def tw18097018763772008608:=0
def tw8249968798899603728:=0
def tw2960596762578284819:=0
def tw10170604227273241146:=0
def tw7220388077082450507:=0
def tw3224931473916495541:=0
def tw2430324477039565628:=0
def tw4456125853530372557:=0
def tw10524160548329647457:=0
def tw16381568861040206135:=0
def tw8284907702242607884:=0
def tw9087347571058135156:=0
def tw2591063360276981719:=0
def tw4999393463762628560:=0
def tw1481878792043263096:=0
def tw7702145107992047675:=0
def tw12969043033918367564:=0
def tw15167521029059792698:=0
def tw12615914522452243705:=0
def tw13772392864458560007:=0
def tw8750337796139452320:=0
def tw9766526376983452137:=0
def tw9352107932589839013:=0
def tw12019771420551401850:=0
def tw6705960403286435416:=0
def tw10138987368415918106:=0
def tw7303151651783721401:=0
def tw11032011586785341922:=0
def tw4295103559097128226:=0
def tw257010956252361824:=0
def tw16203984761142207075:=0
def tw5327153559284484260:=0
def tw5866450533823720176:=0
def tw77540039355927721:=0
def tw9056142496619582643:=0
def tw16517768046561688031:=0
def tw12236433594938523378:=0
def tw16817801933798051881:=0
def tw8340237700793255444:=0
def tw4927737040026871257:=0
def tw8804064251836575173:=0
def tw12595284793904372971:=0
def tw1096150099975768520:=0
def tw8946384401809389060:=0
def tw2157893666525941703:=0
def tw9516023709173043068:=0
def tw18235000569492483026:=0
def tw11406231112503113127:=0
def tw14032870309326850441:=0
def tw9824849726966763370:=0
def tw2118571366898450557:=0
def tw6546675316025526244:=0
def tw9905583168066237968:=0
def tw7488260317597298239:=0
def tw8013272943749058796:=0
def tw5310581069026455661:=0
def tw10103823480653561506:=0
def tw10646535521426780515:=0
def tw9481175815901589734:=0
def tw15588607239479232497:=0
def tw7692404648014652831:=0
def tw9307379684474482874:=0
def tw16127818081375459893:=0
def tw9058357521066016250:=0
def tw2271632155952637328:=0
def tw7355994433173705361:=0
def tw6016874663221315705:=0
def tw5221564377309864372:=0
def tw12808448584096573598:=0
def tw14686371079574466523:=0
def tw6848252085360164724:=0
def tw14321329087182161153:=0
def tw17253345232883534210:=0
def tw5924511798023464121:=0
def tw6275183011336794246:=0
def tw9797036782131352022:=0
def tw15503802520122960512:=0
def tw16922203774709438219:=0
def tw17232085107500882279:=0
def tw9157823488338177901:=0
def tw1425247551253609957:=0
def tw5717008417207295065:=0
def tw16315166838561184552:=0
def tw13908271653577072201:=0
def tw5515791725146611295:=0
def tw13650591691012976673:=0
def tw17690321487359925625:=0
def tw4392468447991320819:=0
def tw9199083525376366653:=0
def tw8795851453803565075:=0
def tw3008854756201994664:=0
def tw5099896869599385152:=0
def tw11019903419437820734:=0
def tw664321844825909196:=0
def tw721830408202744869:=0
def tw5059309484163237054:=0
def tw3190922874988591532:=0
def tw4510771721111637710:=0
def tw12565286379028736984:=0
def tw18104536970202983446:=0
def tw3139669799574486934:=0
def tw6554706278464498133:=0
def tw6211200564712203745:=0
def tw12501637112295368031:=0
def tw10419647498073769499:=0
def tw2565692009096374504:=0
def tw17496087195841274859:=0
def tw14224395414165554424:=0
def tw1236553272590088301:=0
def tw9227621115935523353:=0
def tw15454513401647067099:=0
def tw3673989665116064442:=0
def tw16983322259173909109:=0
def tw13940303686378114444:=0
def tw11933626871118889677:=0
def tw3079096464679466639:=0
def tw556638680043194627:=0
def tw2374467974368006301:=0
def tw1051155089024512933:=0
def tw14633160997376765468:=0
def tw10097850258008077621:=0
def tw3702898319776708693:=0
def tw14349078430750990851:=0
def tw6866734821878151272:=0
def tw1409589353923594368:=0
def tw6106538706572471414:=0
def tw12674255216342985070:=0
def tw7082281392590499903:=0
def tw8364788060903290036:=0
def tw5381735303326973804:=0
def tw9149792804581364143:=0
def tw16188246613058651126:=0
def tw6076731195024196165:=0
def tw1522226510873076652:=0
end PySem.W.Fast
open PySem PySem.W PyProof.Rows
set_option maxRecDepth 100000 in
set_option maxHeartbeats 0 in
theorem PySem.Challenge.cw_mumtrial_k26_goes_on_holds : PySem.Challenge.rw_mumtrial_k26_goes_on.Holds := by
 w_on; o_law; k_head; (case hw=>w_witness2)
 k_fill
 refine L2.walk_ofK (l:=PySem.Challenge.rw_mumtrial_k26_goes_on) (n:=63) (k:=9) (x:="script") (CX:=L2.CX0) (sp:=Mum.sp_law26) rfl (by decide) rfl ⟨rfl,by decide,by decide⟩ (fun w h Y=>PySem.W.kIn_of Y) ?F (fun _ _ a ns hl _ hS=>⟨a,ns,rfl,hS,hl,fun _=>rfl⟩) (fun _ _ _ _ z=>z)
 case F =>
  intro w mg fa h KX G hmg;refine' Mum.all_mk KX G hmg ?aC ?pg ?hd ?po ?sa ?mk ?kc ?na1 ?na2 ?na3 ?na4 ?na5 ?na6 ?na7 ?na8 ?aF ?pgF ?hdF ?poF ?saF ?mkF ?kcF ?nf1 ?nf2 ?nf3 ?nf4 ?nf5 ?z_all ?z_any ?z_dict ?z_enumerate ?z_isinstance ?z_len ?z_list ?z_max ?z_range ?z_tuple ?z_zip ?g_LETTERS ?r_LETTERS ?g_LONGEST_NAME ?r_LONGEST_NAME ?g_MOST_WORDS ?r_MOST_WORDS ?g_MOST_ROOMS ?r_MOST_ROOMS ?g_MOST_DOORS ?r_MOST_DOORS ?g_MOST_FACES ?r_MOST_FACES ?g_STILL ?l_STILL ?c_STILL ?d_STILL ?s_STILL ?v_STILL ?g_HUSH ?l_HUSH ?c_HUSH ?d_HUSH ?s_HUSH ?v_HUSH ?T
  (case aC | pg | hd | po | sa | mk | kc | na1 | na2 | na3 | na4 | na5 | na6 | na7 | na8 | aF | pgF | hdF | poF | saF | mkF | kcF | nf1 | nf2 | nf3 | nf4 | nf5 | z_all | z_any | z_dict | z_enumerate | z_isinstance | z_len | z_list | z_max | z_range | z_tuple | z_zip | g_LETTERS=>k_is)
  (case r_LETTERS=>exact ⟨_,rfl⟩)
  (case g_LONGEST_NAME=>k_is)
  (case r_LONGEST_NAME=>exact ⟨_,rfl⟩)
  (case g_MOST_WORDS=>k_is)
  (case r_MOST_WORDS=>exact ⟨_,rfl⟩)
  (case g_MOST_ROOMS=>k_is)
  (case r_MOST_ROOMS=>exact ⟨_,rfl⟩)
  (case g_MOST_DOORS=>k_is)
  (case r_MOST_DOORS=>exact ⟨_,rfl⟩)
  (case g_MOST_FACES=>k_is)
  (case r_MOST_FACES=>exact ⟨_,rfl⟩)
  (case g_STILL | l_STILL=>k_is)
  (case c_STILL | d_STILL=>rfl)
  (case s_STILL=>decide)
  (case v_STILL=>exact .cons ⟨_,rfl⟩ .nil)
  (case g_HUSH | l_HUSH=>k_is)
  (case c_HUSH | d_HUSH=>rfl)
  (case s_HUSH=>decide)
  (case v_HUSH=>exact .cons ⟨_,rfl⟩ .nil)
  (case T=>constructor <;> first | (refine' Mum.fnG_mk ?a ?l ?c ?k; (case a=>k_is); (case l=>k_is); (case c=>k_is); (case k=>k_is)) | (refine' Mum.fnM_mk ?a ?i ?l ?c ?k; (case a=>k_is); (case i=>k_is); (case l=>k_is); (case c=>k_is); (case k=>k_is)))
