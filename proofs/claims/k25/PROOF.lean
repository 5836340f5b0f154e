
import PyProof.Rows.All
import Wide.All
import OpenK.AllK
import Wide.FinOn
import Lean
import PyProof.EqAt
import PyProof.EqKinds
import PyProof.TupleCall
import PyProof.NeKinds
import PyProof.DictIter
import PyProof.DictWalks
import PyProof.RaisesMany
import PyProof.RulesAs
import PyProof.NsDelKeeps
import PyProof.InstStoreFacts
import PyProof.ExcClass3
import PyProof.ExcInit
import KE.KTryMore
import PyProof.AutoSeq1
import PyProof.WalkInts
import PyProof.DictItems
import PyProof.DictItemsLoops
import KE.KPairComp
import PyProof.DictValues
import PyProof.SumAny
import PySem.Challenge.RW_mumtrial_k25_along_stories
noncomputable section
open PySem renaming Program->bW,wpAny_bind->ak,wpAny_specialOf->FM,wpAny_call_entry->pF,wpAny_pure->aI,wpAny_rule->ya,Builtin->b_,wpAny_isInstance->yg,wpAny_holding->k4,wpAny_truthy_bool->sn,wpAny_seqItems->mN,sizeLine->aj,sysModules->gA,mainGlobals->cu,bootBuiltins->oy,starEach->aL,wpAny_mono->jy,compareOp->eD,behindInMarks->kK,standAt->qI,holding->kT,wpAny_execs_nil->BD,swapsWith->qH,assignEach->uY,wpAny_standAt->BC,wpAny_passesOwn->rT,letOwnedTupleGo->BB,wpAny_pyIter_list->yf,wpAny_pyIter_tuple->Bz,foldedSetIterable->ye,binaryOp->qG,sizeLine_eq->gv,getMethod->qF,codeAny->zzl77,attributeBase->rR,FuncData->kS,BindsTo->rQ,codeAny_mono->Bu,wpAny_Call_Name_kw->Bt,callWith->uV,backToKw->on,keywordEach->ol,NameKind->jw,mem_of_lookup->x_,getItem->ny,seqIndex?->wE,subscripted->wD,sliceBounds->nv,Keyword->pS,call_meets->nq,valueAt->ng,call_meetsIn->sv,callerA->k9,DictEntry->jj,wpAny_newObj_type->ji,ZipApart->pO,wpAny_pyIter_zip->wv,wpAny_callSpecial?_slot->kY,wpAny_field->fk,wpAny_setField->so,firstArgMember->pN,wpAny_setField_rec->iG,wpAny_onRaise->wq,wpAny_letGo->wo,wpAny_attempt->pM,wpAny_dictEntries->m_,wpAny_notOrdered_dict->wj,codeAny_builtin->wg,plainId_quiet->wc,IsItemIter->iF,wpAny_dictEpoch->pL,wpAny_typeNameOfWhole_itemiter->wa,wpAny_typeNameOf_itemiter->v_,wpAny_fieldsOf->v9,setField->v8,wpAny_typeNameOfWhole_keyiter->v7,wpAny_typeNameOf_keyiter->v6,wpAny_loadPart'->hV
open PySem.Builtin.Tuple renaming tupleHashOf->zY
open Bool renaming false_ne_true->fN,not_true->BE,false_eq_true->k_,false_and->BA,eq_iff_iff->uX,and_false->wA,and_eq_true->su,true_and->rX
open Nat renaming add_assoc->DQ,le_refl->aE,lt_of_lt_of_le->iD,lt_irrefl->qJ,ne_of_lt->c_,le_trans->bv,le_of_lt->eo,ne_of_gt->gy,zero_le->cV,le_succ->mL,lt_or_ge->eE,min_eq_left->vY,mod_lt->r8,lt_trichotomy->vW,succ_mul->vT,mul_le_mul->pH,pow_le_pow_right->vS,eq_zero_or_pos->vR,zero_add->vP,le_succ_of_le->pG
open List renaming append_nil->fD,range->jz,mem_filter->cj,mem_cons_self->dA,mem_cons_of_mem->fx,mem_cons->c9,mem_append->bd,mem_append_left->cW,getElem?_eq_some_iff->bP,mem_append_right->dk,length_cons->em,lookup->kJ,map_cons->bc,length_map->ai,nodup_cons->mK,length_take->aX,getElem?_append_right->lc,getElem?_append_left->dg,getElem?_map->bZ,mem_of_getElem?->aP,length_append->ay,map_nil->wF,length_drop->fR,size_toArray->bI,reverse_cons->wB,length_singleton->nj,find?_cons->lb,any_cons->nh,cons_append->sA,length_nil->wz,nodup_nil->pR,lookup_cons->iH,forIn_cons->pP,mem_map->aB,not_mem_nil->sr,getElem?_eq_none->fE,any_toArray->wm,length_range->si,drop_zero->j1,take_length->bh,getElem?_eq_getElem->bE,mem_singleton->bF,map_append->aq,nodup_append->cH,drop_of_length_le->we,drop_eq_getElem_cons->sf,map_take->mZ,map_drop->vZ,foldl_cons->jh,mem_of_mem_take->fj,mem_of_mem_drop->vX,append_assoc->df,nodup_iff_pairwise_ne->pK,map_map->rZ,mem_map_of_mem->jZ,getElem_mem->jY,getElem?_of_mem->fh,take_append_drop->rY,foldl_append->jX,take_zero->rW,length_filter_le->de,filter_append->pJ,filter_eq_nil_iff->vV,flatMap_append->vU,mem_flatMap->pI,map_eq_nil_iff->mY,getD_eq_getElem?_getD->rV,getElem_of_mem->vQ,flatMap_cons->rU,idxOf_lt_length_iff->mV
open Option.some renaming inj->fg
open PySem.W renaming instObj->qK,lookIn->Bx,plainGet->uW,hasDictIn->yd,findIn->dF,isFn->yb,plainOver->Bw,makesIn->rS,emptyDict->ow,keepIn->iC,fnOf->iI,codeIn->nz,nsIn->cY,mg_of->hU,mg_none_of->jg
open PySem.Heap renaming lt_size->aY,SameBut->fJ,get?_push_of_some->bu,get?_push_size->cL,size_push->oo,get?_update_self->wC
open PyProof.Rows renaming AllBare->ox,callWith_type1->By,IntsAre->fS
open Ne renaming symm->dz
open Array renaming length_toList->mM
open False renaming elim->jx
open True renaming intro->oq
open PySem.Calls renaming spliced_cons->Bv,callWith_builtin->sC
open Option renaming isSome_iff_exists->Bs,map_some->sB,map_eq_some_iff->mW
open PySem.SeqAt renaming EqAt->bN
open Int renaming toNat_natCast->jk,emod_nonneg->m9,emod_lt_of_pos->m8,eq_ofNat_of_zero_le->iE
open PySem.Obj renaming mapSeq->sD,data_mapFields->wt
open PySem.Paired renaming snoc->cp
open PySem.F renaming slot_dict_get->pQ,entry_dict_get->wx,slot_tuple_iterator_next->wu,slot_zip_next->wn,slot_dict_itemiterator_next->r_,slot_dict_keyiterator_next->r9,plainAttrs_list->cG,slot_list_append->d6,type_list_append->d4
open ForInStep renaming yield->ww
open PySem.NameKind renaming free->k5
open PySem.Builtin.SmallTypes renaming nextOf->kZ,ownedTupleIsFree->wr
open PySem.Str renaming ofString->kW
open PySem.Heap.SameBut renaming update->kU
open Classical renaming byContradiction->sm
open PySem.Builtin.Str renaming strSliceIndices->sj
open PySem.Txt renaming join->wk
open PySem.Around renaming under_plainId->wf
open PySem.Builtin.Dict renaming showsAll->wb
open PySem.Builtin.Dict_items renaming ownsTuple->se
open PySem.PassesOwn renaming never->bw
theorem Q0:0<=PySem.sizeLine:=by decide
theorem Q1:1<=PySem.sizeLine:=by decide
theorem Q2:2<=PySem.sizeLine:=by decide
theorem Q3:3<=PySem.sizeLine:=by decide
theorem Q4:4<=PySem.sizeLine:=by decide
theorem Q6:6<=PySem.sizeLine:=by decide
theorem zzr0 {p:Prop} [Decidable p] (h:¬p):decide p=false:=decide_eq_false h
theorem zzr1 {p:Prop} [Decidable p] (h:p):decide p=true:=decide_eq_true h
abbrev Za:=PySem.W.Frag
abbrev Zb:=List PySem.Str
abbrev Zc:=PySem.Value->PySem.Shared->Prop
abbrev Zd:=List (PySem.Addr×PySem.Obj)
abbrev Ze:=List PySem.Addr
abbrev Zf:=List PySem.Value
section
set_option Elab.async false
set_option linter.all false
set_option maxRecDepth 100000
set_option maxHeartbeats 4000000
namespace L2
open PySem PySem.Spec PyProof.Rows
open Sem (wp)
abbrev eQ:=Sum Int Str
def cM:eQ->Value->Bool
 | .inl k,v=>Value.isInt k v
 | .inr x,v=>Value.isStrOf x v
def Ir (w:World):eQ->Int
 | .inl k=>hashInt k
 | .inr x=>hashStr w x
theorem aw:∀{k:eQ}{v:Value},cM k v=true->(∃i t,k=Sum.inl i/\v=Value.int i t)∨(∃x t,k=Sum.inr x/\v=Value.str x t)
 | .inl i,v,h=>by
  obtain ⟨t,e⟩:=Value.isInt_shape (k:=i) (v:=v) h;exact .inl ⟨i,t,rfl,e⟩
 | .inr x,v,h=>by
  obtain ⟨t,e⟩:=Value.isStrOf_shape (x:=x) (v:=v) h;exact .inr ⟨x,t,rfl,e⟩
theorem Di (i:Int) (t:Tok):cM (.inl i) (.int i t)=true:=by simp [cM,Value.isInt]
theorem Dh (x:Str) (t:Tok):cM (.inr x) (.str x t)=true:=by simp [cM,Value.isStrOf]
theorem xv (a b:Int):decide ((Sum.inl a:eQ)=Sum.inl b)=(a == b):=by
 by_cases e:a=b
 ·subst e; simp
 ·have h:¬(Sum.inl a:eQ)=Sum.inl b:=fun q=>e (Sum.inl.inj q);rw [zzr0 h];exact (beq_eq_false_iff_ne.mpr e).symm
theorem xp (a b:Str):decide ((Sum.inr a:eQ)=Sum.inr b)=decide (a=b):=by
 by_cases e:a=b
 ·subst e; simp
 ·have h:¬(Sum.inr a:eQ)=Sum.inr b:=fun q=>e (Sum.inr.inj q);rw [zzr0 h,zzr0 e]
theorem xu (a:Int) (b:Str):decide ((Sum.inl a:eQ)=Sum.inr b)=false:=zzr0 (fun q=>nomatch q)
theorem xr (a:Str) (b:Int):decide ((Sum.inr a:eQ)=Sum.inl b)=false:=zzr0 (fun q=>nomatch q)
def bY (prog:bW) (w:World):PySem.KeyKind prog w eQ where
 is:=cM
 hash:=Ir w
 inj:=fun v a b ha hb=>by
  rcases aw ha with ⟨i,t,rfl,rfl⟩ | ⟨x,t,rfl,rfl⟩
  ·rcases aw hb with ⟨j,u,rfl,e⟩ | ⟨y,u,rfl,e⟩
   ·injection e with e1 _; rw [e1]
   ·exact nomatch e
  ·rcases aw hb with ⟨j,u,rfl,e⟩ | ⟨y,u,rfl,e⟩
   ·exact nomatch e
   ·injection e with e1 _; rw [e1]
 byValue:=fun k v h=>by
  rcases aw h with ⟨i,t,rfl,rfl⟩ | ⟨x,t,rfl,rfl⟩ <;> rfl
 pyHash:=fun hv h=>by
  rcases aw hv with ⟨i,t,rfl,rfl⟩ | ⟨x,t,rfl,rfl⟩
  ·exact wpAny_pyHash_int h
  ·exact wpAny_pyHash_str h
 eqBool:=fun hu hv h=>by
  rcases aw hu with ⟨i,t,rfl,rfl⟩ | ⟨x,t,rfl,rfl⟩
  ·rcases aw hv with ⟨j,u,rfl,rfl⟩ | ⟨y,u,rfl,rfl⟩
   ·rw [xv] at h; exact wpAny_eqBool_int h
   ·rw [xu] at h; exact bN.int_str i t y u _ _ _ _ h
  ·rcases aw hv with ⟨j,u,rfl,rfl⟩ | ⟨y,u,rfl,rfl⟩
   ·rw [xr] at h; exact bN.str_int x t j u _ _ _ _ h
   ·rw [xp] at h; exact wpAny_eqBool_str h
 «strs»:=fun k x t v h=>by
  rcases aw h with ⟨i,u,rfl,e⟩ | ⟨y,u,rfl,e⟩
  ·exact nomatch e
  ·injection e with e1 _;subst e1;cases v <;> rfl
theorem y6 (prog:bW) (w:World) (i:Int) (t:Tok):(bY prog w).is (.inl i) (.int i t)=true:=Di i t
theorem y4 (prog:bW) (w:World) (x:Str) (t:Tok):(bY prog w).is (.inr x) (.str x t)=true:=Dh x t
end L2
namespace L2
open PySem PySem.Spec PyProof.Rows
open Sem (wp)
inductive TK where
 | k (a:eQ)
 | t (l:List TK)
mutual
def Hg:(x y:TK)->Decidable (x=y)
 | .k a,.k b=>if h:a=b then Decidable.isTrue (by rw [h]) else Decidable.isFalse fun e=>h (by injection e)
 | .t l,.t m=>match decTKs l m with
  | Decidable.isTrue h=>Decidable.isTrue (by rw [h])
  | Decidable.isFalse h=>Decidable.isFalse fun e=>h (by injection e)
 | .k _,.t _=>Decidable.isFalse nofun
 | .t _,.k _=>Decidable.isFalse nofun
def decTKs:(x y:List TK)->Decidable (x=y)
 | [],[]=>Decidable.isTrue rfl
 | [],_::_=>Decidable.isFalse nofun
 | _::_,[]=>Decidable.isFalse nofun
 | a::l,b::m=>match Hg a b with
  | Decidable.isTrue h=>match decTKs l m with
   | Decidable.isTrue h'=>Decidable.isTrue (by rw [h,h'])
   | Decidable.isFalse h'=>Decidable.isFalse fun e=>h' (by injection e)
  | Decidable.isFalse h=>Decidable.isFalse fun e=>h (by injection e)
end
instance:DecidableEq TK:=Hg
mutual
def TK.depth:TK->Nat
 | .k _=>0
 | .t l=>TK.depths l+1
def TK.depths:List TK->Nat
 | []=>0
 | a::r=>max (TK.depth a) (TK.depths r)
end
mutual
def TK.hash (w:World):TK->Int
 | .k a=>Ir w a
 | .t l=>reduceHash (zY (TK.hashs w l))
def TK.hashs (w:World):List TK->List Int
 | []=>[]
 | a::r=>TK.hash w a::TK.hashs w r
end
mutual
def TK.draws:TK->Nat
 | .k _=>1
 | .t l=>TK.drawss l+1
def TK.drawss:List TK->Nat
 | []=>0
 | a::r=>TK.draws a+TK.drawss r
end
mutual
def mF (h:Heap):TK->Value->Prop
 | .k a,v=>cM a v=true
 | .t l,v=>∃a o items n,v=.ref a/\h.get? a=some o/\o.cls=.type "tuple"/\o.data=.seq items n/\TAts h l items.toList
def TAts (h:Heap):List TK->List Value->Prop
 | [],vs=>vs=[]
 | k::r,vs=>∃v us,vs=v::us/\mF h k v/\TAts h r us
end
theorem mF.inj {h:Heap}:∀(d:Nat) {x y:TK}{v:Value},x.depth<=d->mF h x v->mF h y v->x=y:=by
 have key:∀(d:Nat) (ih:∀{x y:TK}{v:Value},x.depth<=d->mF h x v->mF h y v->x=y) (xs ys:List TK) (vs:Zf),TK.depths xs<=d->TAts h xs vs->TAts h ys vs->xs=ys:=by
  intro d ih xs
  induction xs with
  | nil =>
   intro ys vs _ hx hy;have hx':vs=[]:=hx;subst hx';cases ys with
   | nil=>rfl
   | cons y ys=>obtain ⟨_,_,e,_⟩:=hy; cases e
  | cons x xs ihl =>
   intro ys vs hd hx hy;obtain ⟨v,us,rfl,hx1,hx2⟩:=hx;cases ys with
   | nil=>have hy':v::us=[]:=hy; cases hy'
   | cons y ys =>
    obtain ⟨v',us',e,hy1,hy2⟩:=hy;cases e;have hd':max x.depth (TK.depths xs)<=d:=hd;rw [ih (by omega) hx1 hy1,ihl ys us (by omega) hx2 hy2]
 have leaf:∀(a:eQ) (l:List TK) (v:Value),mF h (.k a) v->mF h (.t l) v->False:=by
  intro a l v h1 h2;obtain ⟨b,o,items,n,rfl,_⟩:=h2;rcases aw (show cM a (.ref b)=true from h1) with ⟨_,_,_,e⟩ | ⟨_,_,_,e⟩ <;> cases e
 have kk:∀(a b:eQ) (v:Value),cM a v=true->cM b v=true->a=b:=by
  intro a b v h1 h2;rcases aw h1 with ⟨i,t,rfl,rfl⟩ | ⟨i,t,rfl,rfl⟩
  ·rcases aw h2 with ⟨j,u,rfl,e⟩ | ⟨j,u,rfl,e⟩
   ·cases e; rfl
   ·cases e
  ·rcases aw h2 with ⟨j,u,rfl,e⟩ | ⟨j,u,rfl,e⟩
   ·cases e
   ·cases e; rfl
 intro d
 induction d with
 | zero =>
  intro x y v hd hx hy;cases x with
  | t l=>exact absurd hd (by show ¬(TK.depths l+1<=0); omega)
  | k a =>
   cases y with
   | k b=>rw [kk a b v hx hy]
   | t l=>exact (leaf a l v hx hy).elim
 | succ d ih =>
  intro x y v hd hx hy;cases x with
  | k a =>
   cases y with
   | k b=>rw [kk a b v hx hy]
   | t l=>exact (leaf a l v hx hy).elim
  | t l =>
   cases y with
   | k b=>exact (leaf b l v hy hx).elim
   | t l' =>
    obtain ⟨a,o,items,n,rfl,ho,hc,hdt,hi⟩:=hx;obtain ⟨a',o',items',n',e,ho',hc',hdt',hi'⟩:=hy;cases e;rw [ho] at ho'; cases ho';rw [hdt] at hdt';injection hdt' with e1 _;subst e1;rw [key d (fun h1=>ih h1) l l' items.toList (by have:TK.depths l+1<=d+1:=hd; omega) hi hi']
theorem mF.mono {h h':Heap}(k:∀a o items n,h.get? a=some o->o.cls=.type "tuple"->o.data=.seq items n->h'.get? a=some o):∀(d:Nat) {x:TK}{v:Value},x.depth<=d->mF h x v->mF h' x v:=by
 have key:∀(d:Nat) (ih:∀{x:TK}{v:Value},x.depth<=d->mF h x v->mF h' x v) (xs:List TK) (vs:Zf),TK.depths xs<=d->TAts h xs vs->TAts h' xs vs:=by
  intro d ih xs
  induction xs with
  | nil=>intro vs _ hx; exact hx
  | cons x xs ihl =>
   intro vs hd hx;obtain ⟨v,us,rfl,hx1,hx2⟩:=hx;have hd':max x.depth (TK.depths xs)<=d:=hd;exact ⟨v,us,rfl,ih (by omega) hx1,ihl us (by omega) hx2⟩
 intro d
 induction d with
 | zero =>
  intro x v hd hx;cases x with
  | t l=>exact absurd hd (by show ¬(TK.depths l+1<=0); omega)
  | k a=>exact hx
 | succ d ih =>
  intro x v hd hx;cases x with
  | k a=>exact hx
  | t l =>
   obtain ⟨a,o,items,n,rfl,ho,hc,hdt,hi⟩:=hx;exact ⟨a,o,items,n,rfl,k a o items n ho hc hdt,hc,hdt,key d (fun h1=>ih h1) l _ (by have:TK.depths l+1<=d+1:=hd; omega) hi⟩
section
variable {prog:bW}{w:World}
theorem FQ:∀(d:Nat) {A:Around}{E:Zc}{s:Shared}{k:TK}{v:Value}{Q:Int->Shared->Prop},k.depth<=d->A.units+d<cLine->mF s.heap k v->Q (k.hash w) { s with toks:=s.toks+k.draws } ->
  wpAny (model prog w) A (pyHash v) Q E s:=by
 intro d
 induction d with
 | zero =>
  intro A E s k v Q hd hu hk h;cases k with
  | t l=>exact absurd hd (by show ¬(TK.depths l+1<=0); omega)
  | k a=>exact (bY prog w).pyHash (k:=a) hk h
 | succ d ih =>
  intro A E s k v Q hd hu hk h;cases k with
  | k a=>exact (bY prog w).pyHash (k:=a) hk h
  | t l =>
   obtain ⟨a,o,items,n,rfl,ho,hc,hdt,hi⟩:=hk;have hT:s.TypeIs (.ref a) "tuple":=⟨o,ho,hc⟩;have hdl:TK.depths l<=d:=by have:TK.depths l+1<=d+1:=hd; omega
   unfold pyHash
   first | unfold pyHashByItsType | skip
   first | refine ak (wpAny_cRoomFor_or (.inr (by omega)) ?_) | skip
   refine ak (FM hT F.slot_tuple_hash.lookup ?_);show wpAny _ _ (if (some (Value.builtin "tuple.__hash__") == some Value.none)=true then _ else _) Q E s
   rw [if_neg (by rw [beq_builtin_none]; exact fN)];refine ak (FM hT F.slot_tuple_hash.lookup ?_);show wpAny _ _ (callSpecialIfBoundUnlessNone? (.ref a) "__hash__" _ >>= _) Q E s;refine ak (wpAny_callSpecialIfBoundUnlessNone?_slot hT F.slot_tuple_hash (pF F.slot_tuple_hash hT F.entry_tuple_hash ?_ (F.args_tuple_hash_1 _)));show wpAny _ _ (b_.Tuple.tupleItemsOf (.ref a) >>= _) _ _ s;refine ak (wpAny_tupleItemsOf ho hdt ?_);refine ak ?_;rw [<-Array.forIn_toList];refine wpAny_forIn_list _
    (fun rest (b:Array Int) s'=>∃done left,l=done++left/\TAts s.heap left rest/\b.toList=TK.hashs w done/\s'={ s with toks:=s.toks+TK.drawss done })
    _ ?_ ?_ _ _ ⟨[],l,rfl,hi,rfl,rfl⟩
   ·rintro x rest b s' ⟨done,left,e,hl,hb,rfl⟩;cases left with
    | nil=>have hl':x::rest=[]:=hl; cases hl'
    | cons k' left =>
     obtain ⟨x',rest',e',h1,h2⟩:=hl;cases e';have hdk:k'.depth<=d:=by
      have gen:∀(p:List TK),TK.depths (p++k'::left)<=d->k'.depth<=d:=by
       intro p
       induction p with
       | nil=>intro hp; have hp':max k'.depth (TK.depths left)<=d:=hp; omega
       | cons q p ihp=>intro hp; have hp':max q.depth (TK.depths (p++k'::left))<=d:=hp; exact ihp (by omega)
      exact gen done (by rw [<-e]; exact hdl)
     have hs:TK.hashs w (done++[k'])=TK.hashs w done++[k'.hash w]:=by
      clear e hb
      induction done with
      | nil=>rfl
      | cons q p ihp=>show _::TK.hashs w (p++[k'])=_; rw [ihp]; rfl
     have hdr:TK.drawss (done++[k'])=TK.drawss done+k'.draws:=by
      clear e hb hs
      induction done with
      | nil=>show k'.draws+0=0+k'.draws; omega
      | cons q p ihp=>show q.draws+TK.drawss (p++[k'])=q.draws+TK.drawss p+k'.draws; rw [ihp]; omega
     refine ak (ih (k:=k') hdk (by show A.units+1+d<cLine; omega) h1 ?_)
     first
      | exact aI ⟨done++[k'],left,by rw [e]; simp,h2,by rw [hs]; simp [hb],by rw [hdr]; simp [DQ]⟩
      | exact ak (aI (aI ⟨done++[k'],left,by rw [e]; simp,h2,by rw [hs]; simp [hb],by rw [hdr]; simp [DQ]⟩))
   ·rintro b s' ⟨done,left,e,hl,hb,rfl⟩;cases left with
    | cons k' left=>obtain ⟨_,_,e',_⟩:=hl; cases e'
    | nil =>
     rw [fD] at e;subst e;show wpAny _ _ (retInt (zY b.toList)) _ _ _;rw [hb];refine wpAny_ret_mkInt ?_;have h':Q (reduceHash (zY (TK.hashs w l))) { s with toks:=s.toks+(TK.drawss l+1) }:=h;show wpAny _ _ (if (decide (-(2:Int) ^ 63<=zY (TK.hashs w l)) && decide (zY (TK.hashs w l)<2 ^ 63))=true then _ else _) Q E _
     unfold reduceHash at h';by_cases hr:(decide (-(2:Int) ^ 63<=zY (TK.hashs w l)) && decide (zY (TK.hashs w l)<2 ^ 63))=true
     ·rw [if_pos hr];rw [if_pos hr] at h';exact aI (by simpa [DQ] using h')
     ·rw [if_neg hr];rw [if_neg hr] at h';exact ak (ya (aI (by simpa [DQ] using h')))
theorem CL (d:Nat) (ih:∀{A:Around}{E:Zc}{s:Shared}{x y:TK}{u v:Value}{Q:Bool->Shared->Prop},x.depth<=d->y.depth<=d->A.units+d<cLine->mF s.heap x u->mF s.heap y v->Q (decide (x=y)) s->wpAny (model prog w) A (eqBool u v) Q E s)
  {A:Around}{E:Zc}{s:Shared}{x y:List TK}{a b:Addr}{P:Fin->Shared->Prop}{oa ob:Obj}{xs ys:Array Value}{na nb:Nat}(hx:TK.depths x<=d) (hy:TK.depths y<=d) (hu:A.units+d<cLine)
  (hoa:s.heap.get? a=some oa) (hda:oa.data=.seq xs na) (hia:TAts s.heap x xs.toList) (hob:s.heap.get? b=some ob) (hcb:ob.cls=.type "tuple") (hdb:ob.data=.seq ys nb) (hib:TAts s.heap y ys.toList)
  (h:P (.done (.ret (.bool (decide (x=y))))) s):wpAny (model prog w) A (b_.«tuple.__eq__» ⟨[.ref a,.ref b],[]⟩) P E s:=by
 have hTb:s.TypeIs (.ref b) "tuple":=⟨ob,hob,hcb⟩;show wpAny _ _ (isInstance (.ref b) (.type "tuple") >>= _) _ _ s;refine ak (yg hTb isSubtype_tuple_tuple ?_);simp only [BE,k_,if_false];refine ak (wpAny_tupleItemsOf hoa hda ?_);refine ak (wpAny_tupleItemsOf hob hdb ?_);refine ak ?_;refine wpAny_forIn_list _
  (fun rest r s'=>r.1=none/\s'=s/\∃x' y' xs' ys',rest=List.zip xs' ys'/\TAts s.heap x' xs'/\TAts s.heap y' ys'/\TK.depths x'<=d/\TK.depths y'<=d/\decide (x'=y')=decide (x=y)/\(xs'.length == ys'.length)=(xs.size == ys.size))
  _ ?_ ?_ _ _ ⟨rfl,rfl,x,y,xs.toList,ys.toList,rfl,hia,hib,hx,hy,rfl,by simp⟩
 ·rintro ⟨u,v⟩ rest r s' ⟨hr,rfl,x',y',xs',ys',hz,hx',hy',dx,dy,hdec,hlen⟩;cases x' with
  | nil =>
   have e:xs'=[]:=hx';subst e; simp at hz
  | cons k1 x'' =>
   obtain ⟨u',xs'',rfl,h1,hx''⟩:=hx';cases y' with
   | nil =>
    have e:ys'=[]:=hy';subst e; simp at hz
   | cons k2 y'' =>
    obtain ⟨v',ys'',rfl,h2,hy''⟩:=hy';simp only [List.zip_cons_cons,List.cons.injEq,Prod.mk.injEq] at hz;obtain ⟨⟨rfl,rfl⟩,rfl⟩:=hz;have dx':max k1.depth (TK.depths x'')<=d:=dx;have dy':max k2.depth (TK.depths y'')<=d:=dy;refine ak (ih (x:=k1) (y:=k2) (by omega) (by omega) hu h1 h2 ?_);by_cases hk:k1=k2
    ·subst hk;rw [zzr1 rfl];simp only [BE,k_,if_false];refine aI ⟨rfl,rfl,x'',y'',xs'',ys'',rfl,hx'',hy'',by omega,by omega,?_,by simpa using hlen⟩;rw [<-hdec];by_cases hxy:x''=y''
     ·simp [hxy]
     ·simp [hxy]
    ·rw [zzr0 hk];simp only [Bool.not_false,if_true];have hf:decide (x=y)=false:=by rw [<-hdec]; simp [hk]
     rw [hf] at h;exact ak (aI (aI (aI h)))
 ·rintro ⟨r1,r2⟩ s' ⟨hr,rfl,x',y',xs',ys',hz,hx',hy',dx,dy,hdec,hlen⟩;simp only at hr;subst hr;refine aI ?_;have hfin:(xs.size == ys.size)=decide (x=y):=by
   rw [<-hdec,<-hlen];cases x' with
   | nil =>
    have e:xs'=[]:=hx';subst e;cases y' with
    | nil=>have e:ys'=[]:=hy'; subst e; simp
    | cons _ _=>obtain ⟨_,_,rfl,_⟩:=hy'; simp
   | cons _ _ =>
    obtain ⟨_,_,rfl,_⟩:=hx';cases y' with
    | nil=>have e:ys'=[]:=hy'; subst e; simp
    | cons _ _=>obtain ⟨_,_,rfl,_⟩:=hy'; simp at hz
  show P (.done (.ret (.bool (xs.size == ys.size)))) s';rw [hfin]; exact h
theorem Ig:∀(d:Nat) {A:Around}{E:Zc}{s:Shared}{x y:TK}{u v:Value}{Q:Bool->Shared->Prop},x.depth<=d->y.depth<=d->A.units+d<cLine->mF s.heap x u->mF s.heap y v->Q (decide (x=y)) s ->
  wpAny (model prog w) A (eqBool u v) Q E s:=by
 have mixed1:∀{A:Around}{E:Zc}{s:Shared}{a:eQ}{l:List TK}{u v:Value}{Q:Bool->Shared->Prop},A.units<cLine->mF s.heap (.k a) u->mF s.heap (.t l) v->Q false s->wpAny (model prog w) A (eqBool u v) Q E s:=by
  intro A E s a l u v Q hu hx hy h;obtain ⟨b,o,items,n,rfl,ho,hc,hdt,hi⟩:=hy;have ht:s.heap.IsTuple b items:=⟨o,ho,hc,n,hdt⟩;rcases aw (show cM a u=true from hx) with ⟨i,t,rfl,rfl⟩ | ⟨i,t,rfl,rfl⟩
  ·exact bN.int_tuple i t ht hu prog w E Q h
  ·exact bN.str_tuple i t ht hu prog w E Q h
 have mixed2:∀{A:Around}{E:Zc}{s:Shared}{a:eQ}{l:List TK}{u v:Value}{Q:Bool->Shared->Prop},A.units<cLine->mF s.heap (.t l) u->mF s.heap (.k a) v->Q false s->wpAny (model prog w) A (eqBool u v) Q E s:=by
  intro A E s a l u v Q hu hx hy h;obtain ⟨b,o,items,n,rfl,ho,hc,hdt,hi⟩:=hx;have ht:s.heap.IsTuple b items:=⟨o,ho,hc,n,hdt⟩;rcases aw (show cM a v=true from hy) with ⟨i,t,rfl,rfl⟩ | ⟨i,t,rfl,rfl⟩
  ·exact bN.tuple_int i t ht hu prog w E Q h
  ·exact bN.tuple_str i t ht hu prog w E Q h
 have leaves:∀{A:Around}{E:Zc}{s:Shared}{a b:eQ}{u v:Value}{Q:Bool->Shared->Prop},mF s.heap (.k a) u->mF s.heap (.k b) v->Q (decide (TK.k a=TK.k b)) s->wpAny (model prog w) A (eqBool u v) Q E s:=by
  intro A E s a b u v Q hx hy h;refine (bY prog w).eqBool (a:=a) (b:=b) hx hy ?_;by_cases e:a=b
  ·subst e; simpa using h
  ·have:¬(TK.k a=TK.k b):=fun z=>e (by injection z);rw [zzr0 this] at h;rw [zzr0 e]; exact h
 intro d
 induction d with
 | zero =>
  intro A E s x y u v Q hdx hdy hu hx hy h;cases x with
  | t l=>exact absurd hdx (by show ¬(TK.depths l+1<=0); omega)
  | k a =>
   cases y with
   | t l=>exact absurd hdy (by show ¬(TK.depths l+1<=0); omega)
   | k b=>exact leaves hx hy h
 | succ d ih =>
  intro A E s x y u v Q hdx hdy hu hx hy h;cases x with
  | k a =>
   cases y with
   | k b=>exact leaves hx hy h
   | t l =>
    rw [zzr0 (by intro z; cases z)] at h;exact mixed1 (by omega) hx hy h
  | t l =>
   cases y with
   | k b =>
    rw [zzr0 (by intro z; cases z)] at h;exact mixed2 (by omega) hx hy h
   | t m =>
    have hl:TK.depths l<=d:=by have:TK.depths l+1<=d+1:=hdx; omega
    have hm:TK.depths m<=d:=by have:TK.depths m+1<=d+1:=hdy; omega
    have hx0:=hx;have hy0:=hy;obtain ⟨a,oa,xs,na,rfl,hoa,hca,hda,hia⟩:=hx;obtain ⟨b,ob,ys,nb,rfl,hob,hcb,hdb,hib⟩:=hy;have hTa:s.TypeIs (.ref a) "tuple":=⟨oa,hoa,hca⟩;have hTb:s.TypeIs (.ref b) "tuple":=⟨ob,hob,hcb⟩;have hd':decide (TK.t l=TK.t m)=decide (l=m):=by
     by_cases e:l=m
     ·subst e; simp
     ·have:¬(TK.t l=TK.t m):=fun z=>e (by injection z);rw [zzr0 this,zzr0 e]
    unfold eqBool
    try with_reducible refine k4 ?_
    show wpAny _ _ (if (Value.ref a == Value.ref b)=true then _ else _) Q E s
    by_cases hab:(Value.ref a == Value.ref b)=true
    ·rw [if_pos hab];have e:a=b:=by have:=eq_of_beq hab; injection this
     subst e;have e2:TK.t l=TK.t m:=mF.inj _ (aE _) hx0 hy0;rw [zzr1 e2] at h;exact ak (ya (aI h))
    ·rw [if_neg hab];rw [hd'] at h;exact ak (wpAny_richCompare_same_room (op:=.Eq) hTa hTb F.slot_tuple_eq
      (pF F.slot_tuple_eq hTa F.entry_tuple_eq (CL d (fun h1 h2 h3 h4 h5 h6=>ih h1 h2 h3 h4 h5 h6) hl hm (by show A.units+1+d<cLine; omega) hoa hda hia hob hcb hdb hib ⟨_,rfl,(fun e=>nomatch e),sn h⟩) (F.args_tuple_eq_2 _ _)) (by omega))
theorem DZ:∀(d:Nat) {A:Around}{E:Zc}{s:Shared}{k:TK}{v:Value}{Q:Bool->Shared->Prop},k.depth<=d->mF s.heap k v->Q true s->wpAny (model prog w) A (eqIsQuiet d v) Q E s:=by
 intro d
 induction d with
 | zero =>
  intro A E s k v Q hd hk h;cases k with
  | t l=>exact absurd hd (by show ¬(TK.depths l+1<=0); omega)
  | k a=>rw [eqIsQuiet_byValue _ ((bY prog w).byValue a v hk)]; exact aI h
 | succ d ih =>
  intro A E s k v Q hd hk h;cases k with
  | k a=>rw [eqIsQuiet_byValue _ ((bY prog w).byValue a v hk)]; exact aI h
  | t l =>
   have hl:TK.depths l<=d:=by have:TK.depths l+1<=d+1:=hd; omega
   obtain ⟨a,o,items,n,rfl,ho,hc,hdt,hi⟩:=hk;have hT:s.TypeIs (.ref a) "tuple":=⟨o,ho,hc⟩;unfold eqIsQuiet;refine ak (FM hT F.slot_tuple_eq.lookup ?_);show wpAny _ _ (isInstance (.ref a) (.type "tuple") >>= _) _ _ s;refine ak (yg hT isSubtype_tuple_tuple ?_);simp only [BE,k_,if_false];refine ak (mN ho hdt ?_);refine ak ?_;show wpAny _ _ (forIn items _ _) _ _ s;rw [<-Array.forIn_toList];refine wpAny_forIn_list _ (fun rest r s'=>r.1=none/\s'=s/\∃left,TAts s.heap left rest/\TK.depths left<=d) _ ?_ ?_ _ _ ⟨rfl,rfl,l,hi,hl⟩
   ·rintro v rest r s' ⟨hr,rfl,left,hall,hdl⟩;cases left with
    | nil=>have e:v::rest=[]:=hall; cases e
    | cons k' left =>
     obtain ⟨v',rest',e,h1,h2⟩:=hall;cases e;have hdl':max k'.depth (TK.depths left)<=d:=hdl;refine ak (ih (k:=k') (by omega) h1 ?_);simp only [BE,k_,if_false];exact aI ⟨rfl,rfl,left,h2,by omega⟩
   ·rintro ⟨r1,r2⟩ s' ⟨hr,rfl,_⟩;simp only at hr;subst hr;exact aI h
def dS (prog:bW) (w:World):HeapKind prog w TK where
 is:=fun h k a=>mF h k (.ref a)/\k.depth<=8
 hash:=TK.hash w
 draws:=TK.draws
 room:=fun A=>A.units+8<cLine
 inj:=fun hx hy=>mF.inj 8 hx.2 hx.1 hy.1
 keeps:=fun {h h' k a d o es ep} x ho hd hs=>⟨mF.mono (fun b ob items n hb _ hdb=>(hs.2 b fun e=>by
  subst e;rw [ho] at hb;cases hb;rw [hd] at hdb;cases hdb).trans hb) 8 x.2 x.1,x.2⟩
 pyHash:=fun hu hk h=>FQ 8 hk.2 hu hk.1 h
 eqBool:=fun hu hx hy h=>Ig 8 hx.2 hy.2 hu hx.1 hy.1 h
 quiet:=fun hk h=>DZ 8 hk.2 hk.1 h
end
end L2
namespace L2
open PySem PySem.Spec PyProof.Rows
inductive V where
 | non | bl (b:Bool) | int (i:Int) | str (x:Str) | byt (b:Array UInt8) | flt (b:UInt64) | ref (a:Addr) | ty (n:String)
 deriving DecidableEq
def RelV:V->Value->Prop
 | .non,u=>u=Value.none
 | .bl b,u=>u=Value.bool b
 | .int i,u=>∃t,u=Value.int i t
 | .str x,u=>∃t,u=Value.str x t
 | .byt b,u=>∃t,u=Value.bytes b t
 | .flt b,u=>∃t,u=Value.float b t
 | .ref a,u=>u=Value.ref a
 | .ty n,u=>u=Value.type n
abbrev a_:List V->List Value->Prop:=Paired RelV
theorem a_.length {xs:List V}{us:Zf}(r:a_ xs us):xs.length=us.length:=Paired.length r
theorem a_.get:∀{xs:List V}{us:Zf}{i:Nat}{x:V},a_ xs us->xs[i]?=some x->∃u,us[i]?=some u/\RelV x u
 | _,_,_,_,.nil,e=>by simp at e
 | _,_,0,_,.cons r _,e=>by simp at e; subst e; exact ⟨_,rfl,r⟩
 | _,_,i+1,x,.cons _ t,e=>by
  obtain ⟨u,h1,h2⟩:=a_.get (i:=i) (x:=x) t (by simpa using e);exact ⟨u,by simpa using h1,h2⟩
theorem a_.set {x:V}{u:Value}(r:RelV x u):∀{xs:List V}{us:Zf}(i:Nat),a_ xs us->a_ (xs.set i x) (us.set i u)
 | _,_,_,.nil=>.nil
 | _,_,0,.cons _ t=>.cons r t
 | _,_,i+1,.cons q t=>.cons q (a_.set r i t)
theorem a_.append:∀{xs ys:List V}{us ws:Zf},a_ xs us->a_ ys ws->a_ (xs++ys) (us++ws)
 | _,_,_,_,.nil,s=>s
 | _,_,_,_,.cons r t,s=>.cons r (a_.append t s)
theorem a_.take:∀{xs:List V}{us:Zf}(n:Nat),a_ xs us->a_ (xs.take n) (us.take n)
 | _,_,0,_=>.nil
 | _,_,_+1,.nil=>.nil
 | _,_,n+1,.cons r t=>.cons r (a_.take n t)
theorem a_.drop:∀{xs:List V}{us:Zf}(n:Nat),a_ xs us->a_ (xs.drop n) (us.drop n)
 | _,_,0,r=>r
 | _,_,_+1,.nil=>.nil
 | _,_,n+1,.cons _ t=>a_.drop n t
def kR:Option V->Option Value->Prop
 | some v,some u=>RelV v u
 | none,none=>True
 | _,_=>False
def KV {κ:Type}:List (κ×V)->List (κ×Value)->Prop:=Paired fun (p:κ×V) (q:κ×Value)=>p.1=q.1/\RelV p.2 q.2
def kV:eQ->V
 | .inl i=>.int i
 | .inr x=>.str x
inductive HO where
 | lst (xs:List V)
 | tup (xs:List V)
 | dK (kvs:List (eQ×V)) | dT (kvs:List (TK×V))
 | set (S:Int->Bool) (n:Nat)
 | ins (C dx:Addr) (fs:List (Str×V))
 | own (x:Addr)
 | xd (fs:List (Str×V))
 | met (f x:Addr)
 | rng (lo hi:Int)
 | frz (o:Obj) (u:HO)
 | tbl (ps:Array Value)
 | ext (φ:Heap->Prop)
abbrev Hp:=Addr->Option HO
mutual
def cT (H:Hp):TK->V->Prop
 | .k a,v=>v=kV a
 | .t l,v=>∃b xs,v=.ref b/\H b=some (.tup xs)/\TKAts H l xs
def TKAts (H:Hp):List TK->List V->Prop
 | [],vs=>vs=[]
 | k::r,vs=>∃v us,vs=v::us/\cT H k v/\TKAts H r us
end
def bV (K:Za) (H:Hp) (a:Addr) (xs:List V):Prop :=
 H a=some (.tup xs)∨∃(o:Obj) (its:Array Value) (n:Nat),K.lookup a=some o/\o.cls=.type "tuple"/\o.data=.seq its n/\its.size<=aj/\a_ xs its.toList
theorem bV.keeps {K:Za}{H H':Hp}{a:Addr}{xs:List V}(h:bV K H a xs) (ht:∀b xs,H b=some (.tup xs)->H' b=some (.tup xs)):bV K H' a xs:=h.imp (ht a xs) id
mutual
def nP (K:Za) (H:Hp):TK->V->Prop
 | .k a,v=>v=kV a
 | .t l,v=>∃b xs,v=.ref b/\bV K H b xs/\TKCs K H l xs
def TKCs (K:Za) (H:Hp):List TK->List V->Prop
 | [],vs=>vs=[]
 | k::r,vs=>∃v us,vs=v::us/\nP K H k v/\TKCs K H r us
end
theorem nP.keeps {K:Za}{H H':Hp}(ht:∀b xs,H b=some (.tup xs)->H' b=some (.tup xs)):∀(d:Nat) {k:TK}{v:V},k.depth<=d->nP K H k v->nP K H' k v:=by
 have key:∀(d:Nat) (ih:∀{k:TK}{v:V},k.depth<=d->nP K H k v->nP K H' k v) (xs:List TK) (vs:List V),TK.depths xs<=d->TKCs K H xs vs->TKCs K H' xs vs:=by
  intro d ih xs
  induction xs with
  | nil=>intro vs _ hx; exact hx
  | cons x xs ihl =>
   intro vs hd hx;obtain ⟨v,us,rfl,hx1,hx2⟩:=hx;have hd':max x.depth (TK.depths xs)<=d:=hd;exact ⟨v,us,rfl,ih (by omega) hx1,ihl us (by omega) hx2⟩
 intro d
 induction d with
 | zero =>
  intro k v hd hx;cases k with
  | t l=>exact absurd hd (by show ¬(TK.depths l+1<=0); omega)
  | k a=>exact hx
 | succ d ih =>
  intro k v hd hx;cases k with
  | k a=>exact hx
  | t l =>
   obtain ⟨b,xs,rfl,hb,hi⟩:=hx;exact ⟨b,xs,rfl,hb.keeps ht,key d (fun h1=>ih h1) l xs (by have:TK.depths l+1<=d+1:=hd; omega) hi⟩
theorem cT.c {K:Za}{H:Hp}:∀(d:Nat) {k:TK}{v:V},k.depth<=d->cT H k v->nP K H k v:=by
 have key:∀(d:Nat) (ih:∀{k:TK}{v:V},k.depth<=d->cT H k v->nP K H k v) (xs:List TK) (vs:List V),TK.depths xs<=d->TKAts H xs vs->TKCs K H xs vs:=by
  intro d ih xs
  induction xs with
  | nil=>intro vs _ hx; exact hx
  | cons x xs ihl =>
   intro vs hd hx;obtain ⟨v,us,rfl,hx1,hx2⟩:=hx;have hd':max x.depth (TK.depths xs)<=d:=hd;exact ⟨v,us,rfl,ih (by omega) hx1,ihl us (by omega) hx2⟩
 intro d
 induction d with
 | zero =>
  intro k v hd hx;cases k with
  | t l=>exact absurd hd (by show ¬(TK.depths l+1<=0); omega)
  | k a=>exact hx
 | succ d ih =>
  intro k v hd hx;cases k with
  | k a=>exact hx
  | t l =>
   obtain ⟨b,xs,rfl,hb,hi⟩:=hx;exact ⟨b,xs,rfl,.inl hb,key d (fun h1=>ih h1) l xs (by have:TK.depths l+1<=d+1:=hd; omega) hi⟩
def upd (H:Hp) (a:Addr) (o:HO):Hp:=fun b=>if b=a then some o else H b
theorem aa {H:Hp}{a:Addr}{o:HO}:upd H a o a=some o:=by unfold upd; rw [if_pos rfl]
theorem af {H:Hp}{a b:Addr}{o:HO}(h:b≠a):upd H a o b=H b:=by unfold upd; rw [if_neg h]
theorem rF {H:Hp}{a:Addr}{o u:HO}:upd (upd H a o) a u=upd H a u:=by
 funext b; unfold upd; split <;> rfl
theorem Ca {H:Hp}{a b:Addr}{o u:HO}(h:H a=some o) (h':H b=some u) (d:o≠u):a≠b:=by
 intro e; subst e; rw [h] at h'; exact d (fg h')
theorem ae {H:Hp}{a b:Addr}{o:HO}(h:H a=some o) (h':H b=none):a≠b:=by
 intro e; subst e; rw [h] at h'; cases h'
section
variable (P:bW) (w:World) (K:Za)
def cA (H:Hp) (h:Heap) (a:Addr):HO->Prop
 | .lst xs=>xs.length<=aj/\∃(its:Zf) (n:Nat),a_ xs its/\h.get? a=some { cls:=.type "list",data:=.seq its.toArray n }
 | .tup xs=>xs.length<=aj/\∃its:List Value,a_ xs its/\IsTup h a its.toArray
 | .dK kvs=>kvs.length<=aj/\(a == gA)=false/\∃vs,KV kvs vs/\h.DictOf (bY P w) a vs
 | .dT kvs=>kvs.length<=aj/\(a == gA)=false/\∃xs:List (TK×Addr×Value),
   Paired (fun (p:TK×V) (q:TK×Addr×Value)=>p.1=q.1/\nP K H p.1 (.ref q.2.1)/\p.1.depth<=8/\RelV p.2 q.2.2) kvs xs /\
   ∃o es ep,h.get? a=some o/\o.ExactDict/\o.data=.dict es ep/\es.toList=xs.map (entryOfKey (dS P w))/\(xs.map (·.1)).Nodup
 | .set S n=>h.SetOf (intKind P w) a S n
 | .ins C dx fs=>H dx=some (.own a)/\fs.length<=1000/\dx≠a/\h.get? a=some (qK C dx) /\
   ∃mA,h.Ns1 dx mA/\(∀f,kR (fs.lookup f) (mA f))/\PySem.Within mA (fs.map (·.1))
 | .own _=>∃o,h.get? a=some o
 | .xd fs=>∃mA,h.Ns1 a mA/\∀f,kR (fs.lookup f) (mA f)
 | .rng lo hi=>∃t u v,h.get? a=some { cls:=.type "range",data:=.fields #[.int lo t,.int hi u,.int 1 v] }
 | .frz o u=>h.get? a=some o/\cA H h a u
 | .tbl ps=>h.get? a=some { cls:=.none,data:=.fields ps }
 | .met f x=>h.get? a=some (PySem.W.methodObj (.ref f) (.ref x))
 | .ext φ=>φ h/\(∃o,h.get? a=some o)/\∀h1 h2:Heap,φ h1->(∀o,h1.get? a=some o->h2.get? a=some o)->φ h2
def mq (H:Hp) (h:Heap):Prop:=∀a o,H a=some o->cA P w K H h a o
end
section
variable {P:bW}{w:World}{K:Za}{H H':Hp}{h h':Heap}{a:Addr}{o:HO}
theorem cA.lt (x:cA P w K H h a o):a<h.objs.size:=by
 cases o with
 | lst xs=>obtain ⟨_,_,_,_,e⟩:=x; exact aY e
 | tup xs=>obtain ⟨_,_,_,p⟩:=x; exact p.lt
 | dK kvs=>obtain ⟨_,_,_,_,o,_,_,e,_⟩:=x; exact aY e
 | dT kvs=>obtain ⟨_,_,_,_,o,_,_,e,_⟩:=x; exact aY e
 | set S n=>obtain ⟨o,_,_,_,e,_⟩:=x; exact aY e
 | ins C dx fs=>obtain ⟨_,_,_,e,_⟩:=x; exact aY e
 | own y=>obtain ⟨_,e⟩:=x; exact aY e
 | xd fs=>obtain ⟨_,⟨_,_,_,e,_⟩,_⟩:=x; exact aY e
 | rng lo hi=>obtain ⟨_,_,_,e⟩:=x; exact aY e
 | frz ob u=>obtain ⟨e,_⟩:=x; exact aY e
 | tbl ps=>exact aY (show h.get? a=some _ from x)
 | met f y=>exact aY (show h.get? a=some _ from x)
 | ext φ=>obtain ⟨_,⟨_,e⟩,_⟩:=x; exact aY e
theorem Paired.mapP {α β:Type}{F G:α->β->Prop}:∀{l₁:List α}{l₂:List β},Paired F l₁ l₂->(∀a b,F a b->G a b)->Paired G l₁ l₂
 | _,_,.nil,_=>.nil
 | _,_,.cons r t,f=>.cons (f _ _ r) (Paired.mapP t f)
theorem cA.stay (x:cA P w K H h a o) (k:∀b u,(b=a∨H b=some (.own a))->h.get? b=some u->h'.get? b=some u)
  (ho:∀b,H b=some (.own a)->H' b=some (.own a)) (ht:∀b xs,H b=some (.tup xs)->H' b=some (.tup xs)):cA P w K H' h' a o:=by
 induction o with
 | lst xs=>obtain ⟨z,its,n,r,e⟩:=x; exact ⟨z,its,n,r,k _ _ (.inl rfl) e⟩
 | tup xs=>obtain ⟨z,its,r,ob,e,c⟩:=x; exact ⟨z,its,r,ob,k _ _ (.inl rfl) e,c⟩
 | dK kvs=>obtain ⟨z,y,vs,r,ob,es,ep,e,c⟩:=x; exact ⟨z,y,vs,r,ob,es,ep,k _ _ (.inl rfl) e,c⟩
 | dT kvs =>
  obtain ⟨z,y,xs,r,ob,es,ep,e,c⟩:=x;exact ⟨z,y,xs,Paired.mapP r fun p q z=>⟨z.1,nP.keeps ht 8 z.2.2.1 z.2.1,z.2.2⟩,ob,es,ep,k _ _ (.inl rfl) e,c⟩
 | set S n=>obtain ⟨ob,es,ep,t,e,c⟩:=x; exact ⟨ob,es,ep,t,k _ _ (.inl rfl) e,c⟩
 | ins C dx fs =>
  obtain ⟨d,z,ne,e,mA,⟨od,es,ep,e2,c⟩,r⟩:=x;exact ⟨ho _ d,z,ne,k _ _ (.inl rfl) e,mA,⟨od,es,ep,k _ _ (.inr d) e2,c⟩,r⟩
 | own y=>obtain ⟨ob,e⟩:=x; exact ⟨ob,k _ _ (.inl rfl) e⟩
 | xd fs=>obtain ⟨mA,⟨od,es,ep,e,c⟩,r⟩:=x; exact ⟨mA,⟨od,es,ep,k _ _ (.inl rfl) e,c⟩,r⟩
 | rng lo hi=>obtain ⟨t,u,v,e⟩:=x; exact ⟨t,u,v,k _ _ (.inl rfl) e⟩
 | frz ob u ih=>obtain ⟨e,q⟩:=x; exact ⟨k _ _ (.inl rfl) e,ih q⟩
 | tbl ps =>
  have e:h.get? a=some { cls:=.none,data:=.fields ps }:=x;show h'.get? a=some { cls:=.none,data:=.fields ps };exact k a _ (.inl rfl) e
 | met f y =>
  have e:h.get? a=some (PySem.W.methodObj (.ref f) (.ref y)):=x;show h'.get? a=some (PySem.W.methodObj (.ref f) (.ref y));exact k a _ (.inl rfl) e
 | ext φ=>obtain ⟨p,⟨o,e⟩,st⟩:=x; exact ⟨st _ _ p fun o q=>k _ _ (.inl rfl) q,⟨o,k _ _ (.inl rfl) e⟩,st⟩
theorem mq.lt (x:mq P w K H h) (e:H a=some o):a<h.objs.size:=(x a o e).lt
theorem mq.fresh (x:mq P w K H h) (e:h.objs.size<=a):H a=none:=by
 cases q:H a with
 | none=>rfl
 | some u=>exact absurd (iD (x.lt q) e) (qJ _)
theorem mq.kept (x:mq P w K H h) (k:∀b u,h.get? b=some u->h'.get? b=some u):mq P w K H h':=fun a o e =>
 (x a o e).stay (fun b u _ q=>k b u q) (fun _ q=>q) fun _ _ q=>q
theorem mq.laid (x:mq P w K H h) (k:∀b u,h.get? b=some u->h'.get? b=some u) (hp:h.objs.size<=a) (new:cA P w K (upd H a o) h' a o):mq P w K (upd H a o) h':=fun b u e=>by
 have hn:=x.fresh hp;by_cases hb:b=a
 ·subst hb; rw [aa] at e; cases e; exact new
 ·rw [af hb] at e;exact (x b u e).stay (fun c v _ q=>k c v q) (fun c q=>by rw [af (ae q hn)]; exact q) fun c xs q=>by rw [af (ae q hn)]; exact q
end
def Rd (H:Hp) (a:Addr) (u:HO):Prop:=H a=some u∨∃o,H a=some (.frz o u)
theorem Rd.ok {P:bW}{w:World}{K:Za}{H:Hp}{h:Heap}{a:Addr}{u:HO}(r:Rd H a u) (x:mq P w K H h):cA P w K H h a u:=by
 rcases r with r | ⟨o,r⟩
 ·exact x a u r
 ·obtain ⟨_,q⟩:=x a _ r;exact q
def ID:Option HO->Prop
 | some (.lst _)=>True
 | some (.dK _)=>True
 | some (.dT _)=>True
 | some (.set _ _)=>True
 | some (.ins _ _ _)=>True
 | some (.ext _)=>True
 | _=>False
section
variable {P:bW}{w:World}{K:Za}{H:Hp}{h h':Heap}{x e:Addr}{o':HO}
theorem mq.write (ok:mq P w K H h) (mu:ID (H x)) (he:e=x∨H e=some (.own x)) (k:∀b u,b≠e->h.get? b=some u->h'.get? b=some u) (heo:∃u,h'.get? e=some u)
  (new:cA P w K (upd H x o') h' x o'):mq P w K (upd H x o') h':=fun b u q=>by
 have nown:∀c y,H c=some (.own y)->c≠x:=fun c y r z=>by subst z; rw [r] at mu; exact mu
 have ntup:∀c xs,H c=some (.tup xs)->c≠x:=fun c xs r z=>by subst z; rw [r] at mu; exact mu
 by_cases hb:b=x
 ·subst hb; rw [aa] at q; cases q; exact new
 ·rw [af hb] at q;by_cases hbe:b=e
  ·have q':H b=some (.own x):=by
    rcases he with z | z
    ·exact absurd (hbe.trans z) hb
    ·rw [hbe]; exact z
   rw [q] at q'; cases q';obtain ⟨v,hv⟩:=heo;exact ⟨v,by rw [hbe]; exact hv⟩
  ·refine (ok b u q).stay (fun c v hc r=>k c v ?_ r) (fun c r=>by rw [af (nown c b r)]; exact r) fun c xs r=>by rw [af (ntup c xs r)]; exact r
   rcases hc with rfl | hc
   ·exact hbe
   ·rintro rfl;rcases he with z | z
    ·exact nown c b hc z
    ·rw [hc] at z; cases z; exact hb rfl
end
structure Un (fs ex:Ze) (H H':Hp) (h h':Heap):Prop where
 keep:∀b o,h.get? b=some o->H b=none->b∉fs->b∉ex->h'.get? b=some o
 slot:∀b o,h.get? b=some o->H b=none->b∈fs->b∉ex->∃sl,h'.get? b=some { o with slots:=sl }
 free:∀b o,h.get? b=some o->H b=none->b∉ex->H' b=none
 there:∀b o,h.get? b=some o->b∉ex->∃o',h'.get? b=some o'
 tups:∀b xs,H b=some (.tup xs)->H' b=some (.tup xs)
 frzs:∀b o u,H b=some (.frz o u)->H' b=some (.frz o u)
 tbls:∀b ps,H b=some (.tbl ps)->∃more,H' b=some (.tbl (ps++more))
section
variable {fs fs' ex ex':Ze}{H H1 H2:Hp}{h h1 h2 h':Heap}{a x e:Addr}{o:HO}
theorem Un.any (u:Un fs ex H H1 h h1) {b:Addr}{ob:Obj}(q:h.get? b=some ob) (n:H b=none) (hx:b∉ex):∃sl,h1.get? b=some { ob with slots:=sl }:=by
 by_cases hb:b∈fs
 ·exact u.slot b ob q n hb hx
 ·exact ⟨ob.slots,u.keep b ob q n hb hx⟩
theorem Un.kept (k:∀b u,h.get? b=some u->h'.get? b=some u):Un fs ex H H h h' :=
 ⟨fun b ob q _ _ _=>k b ob q,fun b ob q _ _ _=>⟨ob.slots,k b ob q⟩,fun _ _ _ n _=>n,fun b ob q _=>⟨ob,k b ob q⟩,fun _ _ q=>q,fun _ _ _ q=>q,fun _ ps q=>⟨#[],by rw [q]; simp⟩⟩
theorem Un.refl:Un fs ex H H h h:=Un.kept fun _ _ q=>q
theorem Un.laid (k:∀b u,h.get? b=some u->h'.get? b=some u) (hp:h.objs.size<=a) (hn:H a=none):Un fs ex H (upd H a o) h h' where
 keep:=fun b u q _ _ _=>k b u q
 slot:=fun b u q _ _ _=>⟨u.slots,k b u q⟩
 free:=fun b u q n _=>by rw [af (c_ (iD (aY q) hp))]; exact n
 there:=fun b u q _=>⟨u,k b u q⟩
 tups:=fun b xs q=>by rw [af (ae q hn)]; exact q
 frzs:=fun b u xs q=>by rw [af (ae q hn)]; exact q
 tbls:=fun b ps q=>⟨#[],by rw [af (ae q hn),q]; simp⟩
theorem Un.write (mu:ID (H x)) (he:e=x∨H e=some (.own x)) (k:∀b u,b≠e->h.get? b=some u->h'.get? b=some u) (heo:∃u,h'.get? e=some u):Un fs ex H (upd H x o) h h':=by
 have hx:∀b,H b=none->b≠x:=fun b n z=>by subst z; rw [n] at mu; exact mu
 have hb:∀b,H b=none->b≠e:=fun b n z=>by
  subst z;rcases he with r | r
  ·exact hx b n r
  ·rw [n] at r; cases r
 have hm:∀b u,H b=some u->¬ID (some u)->b≠x:=fun b u q nm z=>by subst z; rw [q] at mu; exact nm mu
 refine ⟨fun b u q n _ _=>k b u (hb b n) q,fun b u q n _ _=>⟨u.slots,k b u (hb b n) q⟩,fun b u q n _=>by rw [af (hx b n)]; exact n,fun b u q _=>?_,
  fun b xs q=>by rw [af (hm b _ q fun z=>z)]; exact q,fun b u xs q=>by rw [af (hm b _ q fun z=>z)]; exact q,fun b ps q=>⟨#[],by rw [af (hm b _ q fun z=>z),q]; simp⟩⟩
 by_cases hbe:b=e
 ·subst hbe; exact heo
 ·exact ⟨u,k b u hbe q⟩
end
def IT (h:Heap) (H:Hp):List Addr:=(jz h.objs.size).filter fun a=>(H a).isSome
def xB (h:Heap) (H:Hp):Heap:=PySem.W.hideAll h (IT h H)
theorem Dm (h:Heap) (H:Hp):(xB h H).objs.size=h.objs.size:=PySem.W.hideAll_size _ _
theorem Fe {h:Heap}{H:Hp}{b:Addr}{o:Obj}(e:h.get? b=some o) (n:H b=none):(xB h H).get? b=some o :=
 PySem.W.hideAll_get _ e fun hm=>by
  have q:(H b).isSome=true:=(cj.mp hm).2;rw [n] at q; simp at q
theorem GB {h:Heap}{H:Hp}{b:Addr}{o:Obj}(e:(xB h H).get? b=some o):h.get? b=some o/\H b=none:=by
 have e':h.get? b=some o:=PySem.W.of_hideAll (IT h H) e;refine ⟨e',?_⟩;cases q:H b with
 | none=>rfl
 | some x =>
  have hm:b∈IT h H:=cj.mpr ⟨List.mem_range.mpr (aY e'),by simp [q]⟩;have z:(xB h H).get? b=none:=PySem.W.hideAll_none (IT h H) hm;rw [z] at e; cases e
end L2
namespace L2
open PySem PySem.Spec PyProof.Rows
structure Mod (K:Za) (mg:Str->Option Value) (base:Heap):Prop where
 kin:K.In base
 glob:base.Ns cu mg
 blt:∃mb,base.Ns builtinsNs mb/\∀x:Str,x≠"__name__"->mb x=oy x
 nolimit:base.NoLimit
structure Cx where
 prog:bW
 w:World
 K:Za
 mg:Str->Option Value
 base:Heap
 A:Around
 N:List Str
 s₀:Shared
 H₀:Hp
 env:Env
 outer:List Env
 stack:List Env
 ex:List Addr
 fn:Str->Bool
 calm:Bool
 pn:List (Addr×Obj)
 xe:Value->Shared->Prop
def DK (l:List Env):List Addr:=l.filterMap (·.frame)
abbrev Cx.fs (X:Cx):List Addr:=DK X.outer
def IV (sc:Scope) (x:Str):Prop:=sc.names.lookup x=some .local∨sc.names.lookup x=some .cell∨sc.names.lookup x=some .free
def Loc (sc:Scope) (x:Str):Prop:=sc.names.lookup x=some .local∨sc.names.lookup x=some .cell
def Look (env:Env) (h:Heap) (m:Str->Option Value) (x:Str) (u:Value):Prop :=
 (env.kindOf x=some .local/\m x=some u)∨((env.kindOf x=some .cell∨env.kindOf x=some .free)/\∃c,env.cells.lookup x=some c/\h.IsCell c (some u))
structure Cx.Ok (X:Cx):Prop where
 mod:Mod X.K X.mg X.base
 kind:X.env.scope.kind=.function
 glob:X.env.globals=cu
 blt:X.env.builtins=builtinsNs
 above:X.s₀.heap.objs.size<=X.env.locals
 inj:∀x y c,X.env.cells.lookup x=some c->X.env.cells.lookup y=some c->x=y
 has:∀x,(X.env.kindOf x=some .cell∨X.env.kindOf x=some .free)->∃c,X.env.cells.lookup x=some c
 cab:∀x c,X.fn x=true->X.env.cells.lookup x=some c->X.s₀.heap.objs.size<=c
 hd:X.calm=true->X.A.handled=none
 frames:X.A.frames=some X.stack
 stk:X.stack=X.outer∨(X.stack=X.env::X.outer/\X.env.frame=some X.env.locals)
 exf:∀b∈X.ex,b≠X.env.locals/\∀x c,X.env.cells.lookup x=some c->c≠b
 bs:∀b o,X.base.get? b=some o->X.s₀.heap.get? b=some o/\X.H₀ b=none
 bsz:X.base.objs.size<=X.s₀.heap.objs.size
 noex:∀b o,X.base.get? b=some o->b∉X.ex
 exfs:∀b∈X.ex,b∉X.fs
 funs:X.s₀.heap.FunFrames X.base X.outer
 frf:∀b∈X.fs,X.H₀ b=none
structure Inv (X:Cx) (J3:Zd) (σ:List (Option V)) (H:Hp) (s:Shared):Prop where
 ok:X.Ok
 os:s.os=X.s₀.os
 bare:ox s.gens
 base:Un X.fs X.ex X.H₀ H X.s₀.heap s.heap
 loc:∃m,s.heap.Ns X.env.locals m/\∀(i:Nat) (x:Str) (v:V),X.N[i]?=some x->σ[i]?=some (some v)->IV X.env.scope x->∃u,RelV v u/\Look X.env s.heap m x u
 cell:∀x c,X.env.cells.lookup x=some c->∃v,s.heap.IsCell c v
 free:H X.env.locals=none
 freeC:∀x c,X.env.cells.lookup x=some c->H c=none
 pin:∀p∈X.pn++J3,s.heap.get? p.1=some p.2/\H p.1=none/\p.1≠X.env.locals/\p.1∉X.fs/\∀v,p.2.data≠.cell v
 hok:mq X.prog X.w X.K H s.heap
 len:σ.length=X.N.length
section
variable {X:Cx}{J3:Zd}{σ:List (Option V)}{H H':Hp}{s:Shared}{h':Heap}
theorem Cx.Ok.nofr (ok:X.Ok) {b:Addr}{o:Obj}(e:X.base.get? b=some o):b∉X.fs:=fun hb=>by
 have:=(ok.funs.mem hb).1;rw [e] at this; cases this
theorem Inv.bs (I:Inv X J3 σ H s):∀b o,X.base.get? b=some o->s.heap.get? b=some o/\H b=none:=fun b o e =>
 ⟨I.base.keep b o (I.ok.bs b o e).1 (I.ok.bs b o e).2 (I.ok.nofr e) (I.ok.noex b o e),I.base.free b o (I.ok.bs b o e).1 (I.ok.bs b o e).2 (I.ok.noex b o e)⟩
theorem Inv.bk (I:Inv X J3 σ H s):∀b o,X.base.get? b=some o->s.heap.get? b=some o:=fun b o e=>(I.bs b o e).1
theorem Inv.mod (I:Inv X J3 σ H s):Mod X.K X.mg X.base:=I.ok.mod
theorem Inv.kIn (I:Inv X J3 σ H s):X.K.In s.heap:=I.ok.mod.kin.keeps I.bk
theorem Inv.fr (I:Inv X J3 σ H s):∃m,Fr X.base X.env.locals s.heap m :=
 let ⟨m,hn,_⟩:=I.loc
 ⟨m,hn,I.bk,bv I.ok.bsz I.ok.above⟩
theorem Inv.lt (I:Inv X J3 σ H s):X.env.locals<s.heap.objs.size:=let ⟨_,hn,_⟩:=I.loc; hn.lt
theorem Inv.sz (I:Inv X J3 σ H s):X.s₀.heap.objs.size<=s.heap.objs.size:=bv I.ok.above (eo I.lt)
theorem Inv.nofs (I:Inv X J3 σ H s) {a:Addr}(h:s.heap.objs.size<=a):a∉X.fs:=fun hb=>by
 obtain ⟨_,o,ho,_⟩:=I.ok.funs.mem hb;exact absurd (iD (aY ho) (bv I.sz h)) (qJ _)
theorem Inv.cne (I:Inv X J3 σ H s):∀x c,X.env.cells.lookup x=some c->c≠X.env.locals:=fun x c e z=>by
 obtain ⟨v,o,ho,hd⟩:=I.cell x c e;obtain ⟨m,⟨o',es,ep,ho',hd',_⟩,_⟩:=I.loc;rw [z,ho'] at ho; cases ho; rw [hd'] at hd; cases hd
theorem Inv.funs (I:Inv X J3 σ H s):s.heap.FunFrames X.base X.outer:=by
 have all:∀(l:List Env),(∀b∈DK l,b∈X.fs)->X.s₀.heap.FunFrames X.base l->s.heap.FunFrames X.base l:=by
  intro l
  induction l with
  | nil=>intro _ _; trivial
  | cons env r ih =>
   intro hs hl;obtain ⟨hk,⟨L,o,hf,hn,ho,hd⟩,hr⟩:=hl;have hL:L∈X.fs:=hs L (by unfold DK; rw [List.filterMap_cons,hf]; exact dA);obtain ⟨sl,e⟩:=I.base.slot L o ho (I.ok.frf L hL) hL fun z=>I.ok.exfs L z hL;exact ⟨hk,⟨L,_,hf,hn,e,hd⟩,ih (fun b hb=>hs b (by unfold DK; rw [List.filterMap_cons,hf]; exact fx _ hb)) hr⟩
 exact all X.outer (fun _ hb=>hb) I.ok.funs
theorem Inv.stack (I:Inv X J3 σ H s):s.heap.FunFrames X.base X.stack:=by
 rcases I.ok.stk with e | ⟨e,hf⟩
 ·rw [e]; exact I.funs
 ·rw [e];obtain ⟨m,hn,_⟩:=I.loc;refine .cons (by rw [I.ok.kind]; decide) hf hn ?_ I.funs;exact Heap.get?_none_of_le (bv I.ok.bsz I.ok.above)
theorem Inv.stkSub (I:Inv X J3 σ H s):∀b∈DK X.stack,b∈X.env.locals::X.fs:=fun b hb=>by
 rcases I.ok.stk with e | ⟨e,hf⟩
 ·rw [e] at hb; exact fx _ hb
 ·rw [e] at hb;unfold DK at hb;rw [List.filterMap_cons,hf] at hb;exact hb
theorem Inv.stkFree (I:Inv X J3 σ H s):∀b∈DK X.stack,H b=none:=fun b hb=>by
 rcases c9.mp (I.stkSub b hb) with e | hb
 ·rw [e]; exact I.free
 ·obtain ⟨_,o,ho,_⟩:=I.ok.funs.mem hb;exact I.base.free b o ho (I.ok.frf b hb) fun z=>I.ok.exfs b z hb
theorem Inv.step {g':Array GenState}{t':Nat}{d':Drawn}{ch:Ze}(I:Inv X J3 σ H s)
  (hch:∀b∈ch,(b∈X.ex∨X.s₀.heap.objs.size<=b)/\b≠X.env.locals/\(∀x c,X.env.cells.lookup x=some c->c≠b)/\∀p∈X.pn++J3,p.1≠b)
  (keep:∀b o,b≠X.env.locals->b∉X.fs->b∉ch->s.heap.get? b=some o->H b=none->h'.get? b=some o)
  (slot:∀b o,b≠X.env.locals->b∈X.fs->b∉ch->s.heap.get? b=some o->H b=none->∃sl,h'.get? b=some { o with slots:=sl }) (free:∀b o,b∉ch->s.heap.get? b=some o->H b=none->H' b=none)
  (there:∀b o,b∉ch->s.heap.get? b=some o->∃o',h'.get? b=some o')
  (tups:∀b xs,H b=some (.tup xs)->H' b=some (.tup xs)) (frzs:∀b o u,H b=some (.frz o u)->H' b=some (.frz o u)) (tbls:∀b ps,H b=some (.tbl ps)->∃more,H' b=some (.tbl (ps++more)))
  (ns:∀m,s.heap.Ns X.env.locals m->h'.Ns X.env.locals m) (hok:mq X.prog X.w X.K H' h') (hg:ox g') :
  Inv X J3 σ H' { s with heap:=h',gens:=g',drawn:=d',toks:=t' }:=by
 have neL:∀b o,X.s₀.heap.get? b=some o->b≠X.env.locals:=fun b o e=>c_ (iD (aY e) I.ok.above);have neC:∀b o,X.s₀.heap.get? b=some o->b∉X.ex->b∉ch:=fun b o e hx hb=>by
  rcases (hch b hb).1 with z | z
  ·exact hx z
  ·exact absurd (iD (aY e) z) (qJ _)
 have cellK:∀x c,X.env.cells.lookup x=some c->∀v,s.heap.IsCell c v->h'.IsCell c v:=fun x c e v ⟨o,ho,hd⟩=>by
  have nch:c∉ch:=fun z=>(hch c z).2.2.1 x c e rfl;by_cases hc:c∈X.fs
  ·obtain ⟨sl,q⟩:=slot c o (I.cne x c e) hc nch ho (I.freeC x c e);exact ⟨_,q,hd⟩
  ·exact ⟨o,keep c o (I.cne x c e) hc nch ho (I.freeC x c e),hd⟩
 refine ⟨I.ok,I.os,hg,⟨fun b o e n hb hx=>?_,fun b o e n hb hx=>?_,fun b o e n hx=>?_,fun b o e hx=>?_,fun b xs e=>tups b xs (I.base.tups b xs e),fun b o xs e=>frzs b o xs (I.base.frzs b o xs e),fun b ps e=>?_⟩,?_,fun x c e=>?_,?_,fun x c e=>?_,fun p hp=>?_,hok,I.len⟩
 ·exact keep b o (neL b o e) hb (neC b o e hx) (I.base.keep b o e n hb hx) (I.base.free b o e n hx)
 ·obtain ⟨sl,e1⟩:=I.base.slot b o e n hb hx;obtain ⟨sl',e2⟩:=slot b _ (neL b o e) hb (neC b o e hx) e1 (I.base.free b o e n hx);exact ⟨sl',e2⟩
 ·obtain ⟨o',e1⟩:=I.base.there b o e hx;exact free b o' (neC b o e hx) e1 (I.base.free b o e n hx)
 ·obtain ⟨o',e1⟩:=I.base.there b o e hx;exact there b o' (neC b o e hx) e1
 ·obtain ⟨m1,e1⟩:=I.base.tbls b ps e;obtain ⟨m2,e2⟩:=tbls b _ e1;exact ⟨m1++m2,by rw [e2,Array.append_assoc]⟩
 ·obtain ⟨m,hn,hl⟩:=I.loc;refine ⟨m,ns m hn,fun i x v e1 e2 e3=>?_⟩;obtain ⟨u,r,l⟩:=hl i x v e1 e2 e3;refine ⟨u,r,?_⟩;rcases l with l | ⟨k,c,e,z⟩
  ·exact .inl l
  ·exact .inr ⟨k,c,e,cellK x c e _ z⟩
 ·obtain ⟨v,z⟩:=I.cell x c e;exact ⟨v,cellK x c e v z⟩
 ·obtain ⟨m,⟨o,_,_,ho,_⟩,_⟩:=I.loc;exact free _ o (fun z=>(hch _ z).2.1 rfl) ho I.free
 ·obtain ⟨v,o,ho,hd⟩:=I.cell x c e;exact free c o (fun z=>(hch c z).2.2.1 x c e rfl) ho (I.freeC x c e)
 ·obtain ⟨e,n,ne,nf,d⟩:=I.pin p hp;have nch:p.1∉ch:=fun z=>(hch p.1 z).2.2.2 p hp rfl;exact ⟨keep p.1 p.2 ne nf nch e n,free p.1 p.2 nch e n,ne,nf,d⟩
theorem Inv.un {t':Nat}(I:Inv X J3 σ H s) (u:Un X.fs [] H H' s.heap h') (hok:mq X.prog X.w X.K H' h'):Inv X J3 σ H' { s with heap:=h',toks:=t' }:=by
 obtain ⟨m,⟨o,es,ep,ho,r⟩,_⟩:=id I.loc;obtain ⟨sl,hL⟩:=u.any ho I.free (by simp);exact I.step (g':=s.gens) (d':=s.drawn) (ch:=[]) (fun _ z=>nomatch z) (fun b o _ hb _ e n=>u.keep b o e n hb (by simp)) (fun b o _ hb _ e n=>u.slot b o e n hb (by simp)) (fun b o _ e n=>u.free b o e n (by simp)) (fun b o _ e=>u.there b o e (by simp)) u.tups u.frzs u.tbls (fun m' hm=>by
  obtain ⟨o',es',ep',ho',r'⟩:=hm;rw [ho] at ho'; cases ho';exact ⟨_,es',ep',hL,r'⟩) hok I.bare
theorem Inv.call {g':Array GenState}{t':Nat}{d':Drawn}{ch:Ze}(I:Inv X J3 σ H s) (u:Un (DK X.stack) ch H H' s.heap h') (hok:mq X.prog X.w X.K H' h') (hg:ox g')
  (hch:∀b∈ch,(b∈X.ex∨X.s₀.heap.objs.size<=b)/\b≠X.env.locals/\(∀x c,X.env.cells.lookup x=some c->c≠b)/\∀p∈X.pn++J3,p.1≠b) :
  Inv X J3 σ H' { s with heap:=h',gens:=g',drawn:=d',toks:=t' }:=by
 obtain ⟨m,⟨o,es,ep,ho,r⟩,_⟩:=id I.loc;obtain ⟨sl,hL⟩:=u.any ho I.free fun z=>(hch _ z).2.1 rfl;exact I.step (ch:=ch) hch (fun b o hL hb hc e n=>u.keep b o e n (fun z=>(c9.mp (I.stkSub b z)).elim hL hb) hc) (fun b o _ _ hc e n=>u.any e n hc) (fun b o hc e n=>u.free b o e n hc) (fun b o hc e=>u.there b o e hc) u.tups u.frzs u.tbls (fun m' hm=>by
  obtain ⟨o',es',ep',ho',r'⟩:=hm;rw [ho] at ho'; cases ho';exact ⟨_,es',ep',hL,r'⟩) hok hg
theorem Inv.turned {t':Nat}{it:Addr}(I:Inv X J3 σ H s) (k:∀b o,b≠it->s.heap.get? b=some o->h'.get? b=some o) (hn:H it=none) (hL:it≠X.env.locals)
  (h1:it∈X.ex∨X.s₀.heap.objs.size<=it) (h2:∀x c,X.env.cells.lookup x=some c->c≠it) (h3:∀p∈X.pn++J3,p.1≠it):Inv X J3 σ H { s with heap:=h',toks:=t' }:=by
 have nit:∀b u,H b=some u->b≠it:=fun b u e z=>by rw [z,hn] at e; cases e
 refine I.step (g':=s.gens) (d':=s.drawn) (ch:=[it]) (fun b hb=>?_) (fun b o _ _ hc e _=>k b o (fun z=>hc (by simp [z])) e) (fun b o _ _ hc e _=>⟨o.slots,k b o (fun z=>hc (by simp [z])) e⟩) (fun _ _ _ _ n=>n)
  (fun b o hc e=>⟨o,k b o (fun z=>hc (by simp [z])) e⟩) (fun _ _ e=>e) (fun _ _ _ e=>e) (fun b ps e=>⟨#[],by rw [e]; simp⟩) (fun m hm=>?_) (fun b u e=>?_) I.bare
 ·have e:b=it:=by simpa using hb
  subst e;exact ⟨h1,hL,h2,h3⟩
 ·obtain ⟨o,es,ep,ho,r⟩:=hm;exact ⟨o,es,ep,k _ o (dz hL) ho,r⟩
 ·refine (I.hok b u e).stay (fun c v hc q=>k c v ?_ q) (fun _ q=>q) fun _ _ q=>q;rcases hc with z | z
  ·rw [z]; exact nit b u e
  ·exact nit c _ z
theorem Inv.tok (I:Inv X J3 σ H s) (t:Nat):Inv X J3 σ H { s with toks:=t }:=I.un (h':=s.heap) (t':=t) Un.refl I.hok
theorem Inv.kept {t':Nat}(I:Inv X J3 σ H s) (k:∀b u,s.heap.get? b=some u->h'.get? b=some u):Inv X J3 σ H { s with heap:=h',toks:=t' }:=I.un (Un.kept k) (I.hok.kept k)
theorem Inv.laid {a:Addr}{o:HO}{t':Nat}(I:Inv X J3 σ H s) (k:∀b u,s.heap.get? b=some u->h'.get? b=some u) (hp:s.heap.objs.size<=a) (new:cA X.prog X.w X.K (upd H a o) h' a o) :
  Inv X J3 σ (upd H a o) { s with heap:=h',toks:=t' }:=I.un (Un.laid k hp (I.hok.fresh hp)) (I.hok.laid k hp new)
theorem Inv.write {x e:Addr}{o:HO}{t':Nat}(I:Inv X J3 σ H s) (mu:ID (H x)) (he:e=x∨H e=some (.own x)) (k:∀b u,b≠e->s.heap.get? b=some u->h'.get? b=some u) (heo:∃u,h'.get? e=some u)
  (new:cA X.prog X.w X.K (upd H x o) h' x o):Inv X J3 σ (upd H x o) { s with heap:=h',toks:=t' }:=I.un (Un.write mu he k heo) (I.hok.write mu he k heo new)
theorem Inv.weak {σ':List (Option V)}(I:Inv X J3 σ H s) (hl:σ'.length=σ.length) (w:∀(i:Nat) v,σ'[i]?=some (some v)->σ[i]?=some (some v)):Inv X J3 σ' H s :=
 ⟨I.ok,I.os,I.bare,I.base,let ⟨m,hn,hl'⟩:=I.loc; ⟨m,hn,fun i x v e1 e2 e3=>hl' i x v e1 (w i v e2) e3⟩,I.cell,I.free,I.freeC,I.pin,I.hok,hl.trans I.len⟩
theorem Inv.pins_of {pins':Zd}(I:Inv X J3 σ H s) (h:∀p∈pins',s.heap.get? p.1=some p.2/\H p.1=none/\p.1≠X.env.locals/\p.1∉X.fs/\∀v,p.2.data≠.cell v):Inv X pins' σ H s :=
 ⟨I.ok,I.os,I.bare,I.base,I.loc,I.cell,I.free,I.freeC,fun p hp=>(bd.mp hp).elim (fun z=>I.pin p (cW _ z)) (h p),I.hok,I.len⟩
theorem yY {N:Zb}(hN:N.Nodup) {i j:Nat}{x:Str}(a:N[i]?=some x) (b:N[j]?=some x):i=j:=by
 obtain ⟨h1,e1⟩:=bP.mp a;obtain ⟨h2,e2⟩:=bP.mp b;exact (List.getElem_inj hN).mp (e1.trans e2.symm)
theorem vd {M:Model}{A:Around}{E:Zc}{i:Nat}{x:Str}{v:V}{u:Value}{Q:Unit->Shared->Prop}(I:Inv X J3 σ H s) (hN:X.N.Nodup) (hi:X.N[i]?=some x) (hx:Loc X.env.scope x) (r:RelV v u)
  (h:∀s',Inv X J3 (σ.set i (some v)) H s'->(∃a,fJ a s.heap s'.heap/\(a=X.env.locals∨X.env.cells.lookup x=some a))->Q () s') (hf:X.fn x=true∨X.env.scope.names.lookup x=some .local:=by first | exact .inl rfl | exact .inr rfl | assumption):wpAny M A (storeName X.env x u) Q E s:=by
 obtain ⟨m,hn,hl⟩:=id I.loc;have hcls:(X.env.scope.kind == .class || (X.env.scope.kind == .module && X.env.locals != X.env.globals))=false:=by rw [I.ok.kind]; rfl
 have hiσ:i<σ.length:=by rw [I.len]; exact (bP.mp hi).1
 have cne:=I.cne;have tracked:∀{a:Addr}{h':Heap},(∃o,s.heap.get? a=some o/\H a=none)->fJ a s.heap h'->mq X.prog X.w X.K H h':=fun {a h'} ha hs b ob e=>by
  obtain ⟨_,_,hfree⟩:=ha;refine (I.hok b ob e).stay (fun c w' hc q=>(hs.2 c ?_).trans q) (fun _ q=>q) fun _ _ q=>q;rintro rfl;rcases hc with rfl | hc
  ·rw [hfree] at e; cases e
  ·rw [hfree] at hc; cases hc
 rcases hx with hk | hk
 ·refine wpAny_storeName_local hk hn (fun h' hn' hs=>?_) hcls;obtain ⟨oL,_,_,hoL,_⟩:=id hn;refine h _ ⟨I.ok,I.os,I.bare,⟨fun b o e n hb hx=>?_,fun b o e n hb hx=>?_,I.base.free,fun b o e hx=>?_,I.base.tups,I.base.frzs,I.base.tbls⟩,⟨_,hn',fun j y v' e1 e2 e3=>?_⟩,fun y c e=>?_,I.free,I.freeC,fun p hp=>?_,tracked ⟨oL,hoL,I.free⟩ hs,by simpa using I.len⟩ ⟨_,hs,.inl rfl⟩
  ·exact (hs.2 b (c_ (iD (aY e) I.ok.above))).trans (I.base.keep b o e n hb hx)
  ·obtain ⟨sl,e1⟩:=I.base.slot b o e n hb hx;exact ⟨sl,(hs.2 b (c_ (iD (aY e) I.ok.above))).trans e1⟩
  ·obtain ⟨o',e1⟩:=I.base.there b o e hx;exact ⟨o',(hs.2 b (c_ (iD (aY e) I.ok.above))).trans e1⟩
  ·by_cases hj:j=i
   ·subst hj;rw [hi] at e1; cases e1;rw [List.getElem?_set_self hiσ] at e2;cases e2;exact ⟨u,r,.inl ⟨hk,by simp⟩⟩
   ·rw [List.getElem?_set_ne (dz hj)] at e2;obtain ⟨u',r',q⟩:=hl j y v' e1 e2 e3;refine ⟨u',r',?_⟩;rcases q with ⟨k,e⟩ | ⟨k,c,e,z⟩
    ·refine .inl ⟨k,?_⟩;have:y≠x:=fun e=>hj (yY hN e1 (e ▸ hi));simp [this,e]
    ·exact .inr ⟨k,c,e,z.sameBut hs (cne y c e)⟩
  ·obtain ⟨w',z⟩:=I.cell y c e;exact ⟨w',z.sameBut hs (cne y c e)⟩
  ·obtain ⟨e,n,ne,nf,d⟩:=I.pin p hp;exact ⟨(hs.2 p.1 ne).trans e,n,ne,nf,d⟩
 ·have hfn:X.fn x=true:=by
   rcases hf with z | z
   ·exact z
   ·rw [z] at hk; cases hk
  obtain ⟨c,hc⟩:=I.ok.has x (.inl hk);obtain ⟨w',z⟩:=I.cell x c hc;refine wpAny_storeName_cell I.ok.kind hk hc z (fun h' hc' hs=>?_);obtain ⟨oc,hoc,hocd⟩:=id z;refine h { s with heap:=h' } ⟨I.ok,I.os,I.bare,⟨fun b o e n hb hx=>?_,fun b o e n hb hx=>?_,I.base.free,fun b o e hx=>?_,I.base.tups,I.base.frzs,I.base.tbls⟩,⟨m,hn.sameBut hs (dz (cne x c hc)),fun j y v' e1 e2 e3=>?_⟩,fun y c' e=>?_,I.free,I.freeC,fun p hp=>?_,tracked ⟨oc,hoc,I.freeC x c hc⟩ hs,by simpa using I.len⟩ ⟨c,hs,.inr hc⟩
  ·exact (hs.2 b (c_ (iD (aY e) (I.ok.cab x c hfn hc)))).trans (I.base.keep b o e n hb hx)
  ·obtain ⟨sl,e1⟩:=I.base.slot b o e n hb hx;exact ⟨sl,(hs.2 b (c_ (iD (aY e) (I.ok.cab x c hfn hc)))).trans e1⟩
  ·obtain ⟨o',e1⟩:=I.base.there b o e hx;exact ⟨o',(hs.2 b (c_ (iD (aY e) (I.ok.cab x c hfn hc)))).trans e1⟩
  ·by_cases hj:j=i
   ·subst hj;rw [hi] at e1; cases e1;rw [List.getElem?_set_self hiσ] at e2;cases e2;exact ⟨u,r,.inr ⟨.inl hk,c,hc,hc'⟩⟩
   ·rw [List.getElem?_set_ne (dz hj)] at e2;obtain ⟨u',r',q⟩:=hl j y v' e1 e2 e3;refine ⟨u',r',?_⟩;rcases q with q | ⟨k,c',e,z'⟩
    ·exact .inl q
    ·refine .inr ⟨k,c',e,z'.sameBut hs ?_⟩;rintro rfl;exact hj (yY hN e1 (I.ok.inj _ _ _ e hc ▸ hi))
  ·by_cases hcc:c'=c
   ·subst hcc; exact ⟨_,hc'⟩
   ·obtain ⟨w2,z2⟩:=I.cell y c' e;exact ⟨w2,z2.sameBut hs hcc⟩
  ·obtain ⟨e,n,ne,nf,d⟩:=I.pin p hp;refine ⟨(hs.2 p.1 ?_).trans e,n,ne,nf,d⟩;intro q;rw [q,hoc] at e;have q':oc=p.2:=fg e;exact d w' (by rw [<-q']; exact hocd)
theorem sU {M:Model}{A:Around}{E:Zc}{i:Nat}{x:Str}{v:V}{u:Value}{Q:Unit->Shared->Prop}(I:Inv X J3 σ H s) (hN:X.N.Nodup) (hi:X.N[i]?=some x) (hx:Loc X.env.scope x) (r:RelV v u)
  (h:∀s',Inv X J3 (σ.set i (some v)) H s'->Q () s') (hf:X.fn x=true∨X.env.scope.names.lookup x=some .local:=by first | exact .inl rfl | exact .inr rfl | assumption):wpAny M A (storeName X.env x u) Q E s :=
 vd I hN hi hx r (fun s' I' _=>h s' I') hf
theorem Inv.call' {s':Shared}{ch:Ze}(I:Inv X J3 σ H s) (ho:s'.os=s.os) (u:Un (DK X.stack) ch H H' s.heap s'.heap) (hok:mq X.prog X.w X.K H' s'.heap) (hg:ox s'.gens)
  (hch:∀b∈ch,(b∈X.ex∨X.s₀.heap.objs.size<=b)/\b≠X.env.locals/\(∀x c,X.env.cells.lookup x=some c->c≠b)/\∀p∈X.pn++J3,p.1≠b):Inv X J3 σ H' s':=by
 obtain ⟨h',g',d',t',o'⟩:=s';have e:o'=s.os:=ho;subst e;exact I.call (g':=g') (t':=t') (d':=d') u hok hg hch
end
abbrev XK:=Value->Option Addr->Hp->Prop
abbrev St:=List (Option V)
abbrev VK:=V->Hp->Prop
abbrev TE:=St->Hp->VK->Prop
abbrev TT:=St->Hp->(Bool->Hp->Prop)->Prop
abbrev TA:=St->Hp->(List V->Hp->Prop)->Prop
structure mJ where
 nx:St->Hp->Prop
 rt:VK
 bk:St->Hp->Prop:=fun _ _=>False
 ct:St->Hp->Prop:=fun _ _=>False
abbrev bJ (Q:VK):mJ:={ nx:=fun _ H=>Q .non H,rt:=Q }
abbrev TS:=mJ->St->Hp->Prop
def EP (X:Cx) (J3:Zd) (σ:St) (Q:VK) (u:Value) (s':Shared):Prop:=∃v H',Inv X J3 σ H' s'/\RelV v u/\Q v H'
def TP (X:Cx) (J3:Zd) (σ:St) (Q:Bool->Hp->Prop) (b:Bool) (s':Shared):Prop:=∃H',Inv X J3 σ H' s'/\Q b H'
def AP (X:Cx) (J3:Zd) (σ:St) (Q:List V->Hp->Prop) (us:Zf) (s':Shared):Prop:=∃vs H',Inv X J3 σ H' s'/\a_ vs us/\Q vs H'
def SP (X:Cx) (J3:Zd) (D:mJ) (f:Flow) (s':Shared):Prop :=
 match f with
 | .next=>∃σ' H',Inv X J3 σ' H' s'/\D.nx σ' H'
 | .brk=>∃σ' H',Inv X J3 σ' H' s'/\D.bk σ' H'
 | .cont=>∃σ' H',Inv X J3 σ' H' s'/\D.ct σ' H'
 | .ret u=>∃v σ' H',Inv X J3 σ' H' s'/\RelV v u/\D.rt v H'
def PE (X:Cx) (e:Expr) (t:TE):Prop :=
 ∀(J3:Zd) (s:Shared) (σ:St) (H:Hp) (Q:VK),Inv X J3 σ H s->t σ H Q->wpAny (model X.prog X.w) X.A (eval e X.env) (EP X J3 σ Q) X.xe s
def PT (X:Cx) (e:Expr) (t:TT):Prop :=
 ∀(J3:Zd) (s:Shared) (σ:St) (H:Hp) (Q:Bool->Hp->Prop),Inv X J3 σ H s->t σ H Q->wpAny (model X.prog X.w) X.A (isTrue e X.env (eval e X.env)) (TP X J3 σ Q) X.xe s
def PW (X:Cx) (e:Expr) (t:TT):Prop :=
 ∀(whole:Sem Value) (J3:Zd) (s:Shared) (σ:St) (H:Hp) (Q:Bool->Hp->Prop),Inv X J3 σ H s->t σ H Q->wpAny (model X.prog X.w) X.A (isTrue e X.env whole) (TP X J3 σ Q) X.xe s
theorem PW.pt {X:Cx}{e:Expr}{t:TT}(h:PW X e t):PT X e t:=h _
def PA (X:Cx) (es:List Expr) (t:TA):Prop :=
 ∀(pos:Pos) (J3:Zd) (s:Shared) (σ:St) (H:Hp) (Q:List V->Hp->Prop),Inv X J3 σ H s->t σ H Q->wpAny (model X.prog X.w) X.A (spliced (backTo pos (aL es X.env))) (AP X J3 σ Q) X.xe s
def PS (X:Cx) (st:Stmt) (t:TS):Prop :=
 ∀(J3:Zd) (s:Shared) (σ:St) (H:Hp) (D:mJ),Inv X J3 σ H s->t D σ H->wpAny (model X.prog X.w) X.A (exec st X.env) (SP X J3 D) X.xe s
def zX (X:Cx) (st:List Stmt) (t:TS):Prop :=
 ∀(J3:Zd) (s:Shared) (σ:St) (H:Hp) (D:mJ),Inv X J3 σ H s->t D σ H->wpAny (model X.prog X.w) X.A (execs st X.env) (SP X J3 D) X.xe s
theorem cF {α:Type}{t:Sem α}{Q Q':α->Shared->Prop}{M:Model}{A:Around}{E:Zc}{s:Shared}(h:wpAny M A t Q E s) (hQ:∀a s,Q a s->Q' a s):wpAny M A t Q' E s:=jy h hQ fun _ _ x=>x
end L2
namespace L2
open PySem PySem.Spec PyProof.Rows
section
variable {X:Cx}
def mv (i:Nat):TE:=fun σ H Q=>∃v,σ[i]?=some (some v)/\Q v H
abbrev V0:TE:=mv 0
abbrev V1:TE:=mv 1
abbrev V2:TE:=mv 2
abbrev V3:TE:=mv 3
abbrev V4:TE:=mv 4
abbrev V5:TE:=mv 5
abbrev V6:TE:=mv 6
abbrev V7:TE:=mv 7
abbrev V8:TE:=mv 8
abbrev V9:TE:=mv 9
abbrev DN:TE:=mv 10
abbrev HY:TE:=mv 11
abbrev DM:TE:=mv 12
abbrev HX:TE:=mv 13
def tC (v:V):TE:=fun _ H Q=>Q v H
theorem Hz {i:Nat}{x:Str}{pos:Pos}(hN:X.N[i]?=some x) (hv:IV X.env.scope x) (hd:(x == ("__debug__":Str))=false:=by decide) (hcd:(x == ("__classdict__":Str))=false:=by decide):PE X (.Name x pos) (mv i):=by
 intro J3 s σ H Q I h;obtain ⟨v,e,h⟩:=h;obtain ⟨m,hn,hl⟩:=I.loc;obtain ⟨u,r,l⟩:=hl i x v hN e hv;have fin:EP X J3 σ Q u s:=⟨v,H,I,r,h⟩;rcases l with ⟨hk,hm⟩ | ⟨hk,c,hc,hcell⟩
 ·exact wpAny_Name (wpAny_loadName_local I.ok.kind hk hn hm fin) hd
 ·rcases hk with hk | hk
  ·exact wpAny_Name (wpAny_loadName_cell I.ok.kind hk hc hcell fin) hd
  ·exact wpAny_Name (wpAny_loadName_free I.ok.kind hk hc hcell fin hcd) hd
theorem ah {i j pos}:PE X (.Constant (.int i) j pos) (tC (.int i)):=fun _ _ _ H _ I h=>wpAny_Constant_int ⟨.int i,H,I.tok _,⟨_,rfl⟩,h⟩
theorem mQ {b j pos}:PE X (.Constant (.bool b) j pos) (tC (.bl b)):=fun _ _ _ H _ I h=>Constant_bool ⟨.bl b,H,I,rfl,h⟩
theorem tz {j pos}:PE X (.Constant .none j pos) (tC .non):=fun _ _ _ H _ I h=>Constant_none ⟨.non,H,I,rfl,h⟩
theorem bA {x j pos}:PE X (.Constant (.str x) j pos) (tC (.str x)):=fun _ _ _ H _ I h=>Calls.Constant_str ⟨.str x,H,I.tok _,⟨_,rfl⟩,h⟩
def Gl (X:Cx) (x:Str):Prop:=X.env.kindOf x=some .globalImplicit
theorem xn {E:Zc}{J3:Zd}{s:Shared}{σ:St}{H:Hp}{x:Str}{u:Value}{pos:Pos}{Q:Zc}(I:Inv X J3 σ H s) (hg:Gl X x) (hm:X.mg x=some u) (h:Q u s)
  (hd:(x == ("__debug__":Str))=false:=by decide):wpAny (model X.prog X.w) X.A (eval (.Name x pos) X.env) Q E s :=
 Calls.Name_function_global I.ok.kind hg (Calls.loadGlobal_global (by rw [I.ok.glob]; exact I.mod.glob.keeps I.bk) hm h) hd
theorem tF {E:Zc}{J3:Zd}{s:Shared}{σ:St}{H:Hp}{x:Str}{u:Value}{pos:Pos}{Q:Zc}(I:Inv X J3 σ H s) (hg:Gl X x) (hm:X.mg x=none) (hv:oy x=some u) (h:Q u s)
  (hn:x≠"__name__":=by decide) (hd:(x == ("__debug__":Str))=false:=by decide):wpAny (model X.prog X.w) X.A (eval (.Name x pos) X.env) Q E s:=by
 obtain ⟨mb,h1,h2⟩:=I.mod.blt;exact Calls.Name_function_global I.ok.kind hg (Calls.loadGlobal_builtin (by rw [I.ok.glob]; exact I.mod.glob.keeps I.bk) hm (by rw [I.ok.blt]; exact h1.keeps I.bk) ((h2 x hn).trans hv) h) hd
theorem Gx {x:Str}{v:V}{u:Value}{pos:Pos}(hg:Gl X x) (hm:X.mg x=some u) (r:RelV v u) (hd:(x == ("__debug__":Str))=false:=by decide):PE X (.Name x pos) (tC v) :=
 fun _ _ _ H _ I h=>xn I hg hm ⟨v,H,I,r,h⟩ hd
variable {a b:Expr}{ta tb:TE}{pos:Pos}
def PC (X:Cx) (op:CmpOp) (a b:Expr) (t:TE):Prop :=
 ∀(J3:Zd) (s:Shared) (σ:St) (H:Hp) (Q:VK),Inv X J3 σ H s->t σ H Q ->
  wpAny (model X.prog X.w) X.A (eval a X.env) (fun v s₁=>wpAny (model X.prog X.w) X.A (eval b X.env) (fun u s₂=>wpAny (model X.prog X.w) X.A (eD op v u) (EP X J3 σ Q) X.xe s₂) X.xe s₁) X.xe s
theorem yZ (b:Expr) {op:CmpOp}(h:op≠.In) (h2:op≠.NotIn):kK op b=false:=by
 have e1:(op == CmpOp.In)=false:=by cases op <;> first | rfl | exact absurd rfl h
 have e2:(op == CmpOp.NotIn)=false:=by cases op <;> first | rfl | exact absurd rfl h2
 cases b <;> simp [kK,e1,e2]
def Ih (ta:TE):TE:=fun σ H Q=>ta σ H fun x H1=>Q (.bl (decide (x=.non))) H1
def Ea (ta:TE):TE:=fun σ H Q=>ta σ H fun x H1=>Q (.bl (!decide (x=.non))) H1
theorem RelV.none_iff {x:V}{v:Value}(r:RelV x v):(v == Value.none)=decide (x=.non):=by
 cases x with
 | non=>cases r; rfl
 | bl _=>cases r; rfl
 | int _=>obtain ⟨t,rfl⟩:=r; rfl
 | str _=>obtain ⟨t,rfl⟩:=r; rfl
 | byt _=>obtain ⟨t,rfl⟩:=r; rfl
 | flt _=>obtain ⟨t,rfl⟩:=r; rfl
 | ref _=>cases r; rfl
 | ty _=>cases r; rfl
theorem HD {j pos'}(ha:PE X a ta):PC X .Is a (.Constant .none j pos') (Ih ta):=by
 intro J3 s σ H Q I h;refine cF (ha J3 s σ H _ I h) fun v s1 ⟨x,H1,I1,r1,q1⟩=>?_;exact Constant_none (is_none_gen ⟨.bl _,H1,I1,by rw [r1.none_iff]; rfl,q1⟩)
theorem BV {j pos'}(ha:PE X a ta):PC X .IsNot a (.Constant .none j pos') (Ea ta):=by
 intro J3 s σ H Q I h;refine cF (ha J3 s σ H _ I h) fun v s1 ⟨x,H1,I1,r1,q1⟩=>?_;exact Constant_none (isnot_none_gen ⟨.bl _,H1,I1,by rw [r1.none_iff]; rfl,q1⟩)
def tB (t:TE):TT:=fun σ H Q=>t σ H fun x H1=>∃c,x=.bl c/\Q c H1
theorem HC {op:CmpOp}{t:TE}(h:PC X op a b t) (h1:kK op b=false:=by first | exact yZ _ (by decide) (by decide) | rfl):PE X (.Compare a [op] [b] pos) t:=fun J3 s σ H Q I hw=>wpAny_Compare1 (h J3 s σ H Q I hw) h1
theorem eI {op:CmpOp}{t:TE}(h:PC X op a b t) (h1:kK op b=false:=by first | exact yZ _ (by decide) (by decide) | rfl):PT X (.Compare a [op] [b] pos) (tB t):=by
 intro J3 s σ H Q I hw;refine wpAny_isTrue_Compare1 (cF (h J3 s σ H _ I hw) fun v s1 h1=>cF h1 fun u s2 h2=>cF h2 fun c s3 ⟨x,H1,I1,r1,q1⟩=>?_) h1;obtain ⟨d,rfl,q⟩:=q1;cases r1;exact sn ⟨H1,I1,q⟩
theorem qa {e:Expr}{t:TE}(h:PE X e t) (he:∀whole,isTrue e X.env whole=(do let v <- whole; qI e.pos; kT [v] (truthy v)):=by intro _; rfl):PT X e (tB t):=by
 intro J3 s σ H Q I hw;refine isTrue_plain (cF (h J3 s σ H _ I hw) fun v s1 ⟨x,H1,I1,r1,q1⟩=>?_) (he _);obtain ⟨d,rfl,q⟩:=q1;cases r1;exact sn ⟨H1,I1,q⟩
variable {tA tB':TT}{rest:List Expr}
def mB (t u:TT):TT:=fun σ H Q=>t σ H fun c H1=>if c=true then u σ H1 Q else Q false H1
def D_ (t u:TT):TT:=fun σ H Q=>t σ H fun c H1=>if c=true then Q true H1 else u σ H1 Q
def Ho (t:TT):TT:=fun σ H Q=>t σ H fun c H1=>Q (!c) H1
theorem ii (ha:PT X a tA):PW X (.BoolOp .And [a] pos) tA:=by
 intro wh J3 s σ H Q I h;refine isTrue_and (cF (ha J3 s σ H Q I h) fun c s1 e=>?_);cases c with
 | true=>exact isTrue_and_nil e
 | false=>exact e
theorem p_ (ha:PT X a tA):PW X (.BoolOp .Or [a] pos) tA:=by
 intro wh J3 s σ H Q I h;refine isTrue_or (cF (ha J3 s σ H Q I h) fun c s1 e=>?_);cases c with
 | false=>exact isTrue_or_nil e
 | true=>exact e
theorem hW (ha:PT X a tA) (hb:PW X (.BoolOp .And (b::rest) pos) tB'):PW X (.BoolOp .And (a::b::rest) pos) (mB tA tB'):=by
 intro wh J3 s σ H Q I h;refine isTrue_and (cF (ha J3 s σ H _ I h) fun c s1 ⟨H1,I1,q1⟩=>?_);cases c with
 | true=>exact hb wh J3 s1 σ H1 Q I1 q1
 | false=>exact ⟨H1,I1,q1⟩
theorem qM (ha:PT X a tA) (hb:PW X (.BoolOp .Or (b::rest) pos) tB'):PW X (.BoolOp .Or (a::b::rest) pos) (D_ tA tB'):=by
 intro wh J3 s σ H Q I h;refine isTrue_or (cF (ha J3 s σ H _ I h) fun c s1 ⟨H1,I1,q1⟩=>?_);cases c with
 | true=>exact ⟨H1,I1,q1⟩
 | false=>exact hb wh J3 s1 σ H1 Q I1 q1
theorem EB (ha:PT X a tA):PT X (.UnaryOp .Not a pos) (Ho tA):=by
 intro J3 s σ H Q I h;exact isTrue_not (ha J3 s σ H (fun c H1=>Q (!c) H1) I h)
def Ed (ta tb:TE):TE:=fun σ H Q=>ta σ H fun x H1=>∃c,x=.bl c/\if c=true then tb σ H1 Q else Q (.bl false) H1
theorem HA {op}{t:TE}(h:PE X a t):PE X (.BoolOp op [a] pos) t:=fun J3 s σ H Q I hw=>BoolOp_one (h J3 s σ H Q I hw)
theorem EG (ha:PE X a ta) (hb:PE X (.BoolOp .And (b::rest) pos) tb):PE X (.BoolOp .And (a::b::rest) pos) (Ed ta tb):=by
 intro J3 s σ H Q I h;refine BoolOp_and (cF (ha J3 s σ H _ I h) fun v s1 ⟨x,H1,I1,r1,q1⟩=>?_);obtain ⟨c,rfl,q1⟩:=q1;cases r1;refine sn ?_;cases c with
 | true=>exact hb J3 s1 σ H1 Q I1 q1
 | false=>exact ⟨.bl false,H1,I1,rfl,q1⟩
end
end L2
namespace L2
open PySem PySem.Spec PyProof.Rows
def az (K:Za) (H:Hp) (a:Addr) (xs:List V):Prop :=
 Rd H a (.lst xs) ∨
  ∃(o:Obj) (its:Array Value) (n:Nat),K.lookup a=some o/\o.cls=.type "list"/\o.dict=none/\o.data=.seq its n/\its.size<=aj/\a_ xs its.toList
def bj (K:Za) (H:Hp) (a:Addr) (xs:List V):Prop :=
 Rd H a (.tup xs) ∨
  ∃(o:Obj) (its:Array Value) (n:Nat),K.lookup a=some o/\o.cls=.type "tuple"/\o.data=.seq its n/\its.size<=aj/\a_ xs its.toList
def absV:Value->Option V
 | .none=>some .non
 | .bool b=>some (.bl b)
 | .int i _=>some (.int i)
 | .str x _=>some (.str x)
 | .bytes b _=>some (.byt b)
 | .float b _=>some (.flt b)
 | .ref a=>some (.ref a)
 | .type n=>some (.ty n)
 | _=>none
theorem RelV.abs {x:V}{u:Value}(r:RelV x u):absV u=some x:=by
 cases x with
 | non=>cases r; rfl
 | bl _=>cases r; rfl
 | int _=>obtain ⟨t,rfl⟩:=r; rfl
 | str _=>obtain ⟨t,rfl⟩:=r; rfl
 | byt _=>obtain ⟨t,rfl⟩:=r; rfl
 | flt _=>obtain ⟨t,rfl⟩:=r; rfl
 | ref _=>cases r; rfl
 | ty _=>cases r; rfl
theorem RelV.inj {x y:V}{u:Value}(r:RelV x u) (q:RelV y u):x=y:=fg (r.abs.symm.trans q.abs)
theorem a_.inj:∀{xs ys:List V}{us:Zf},a_ xs us->a_ ys us->xs=ys
 | _,_,_,.nil,.nil=>rfl
 | _,_,_,.cons r t,.cons r' t'=>by rw [r.inj r',a_.inj t t']
section
variable {X:Cx}{J3:Zd}{σ:St}{H:Hp}{s:Shared}{a:Addr}{xs ys:List V}
theorem az.of {K:Za}(h:H a=some (.lst xs)):az K H a xs:=.inl (.inl h)
theorem bj.of {K:Za}(h:H a=some (.tup xs)):bj K H a xs:=.inl (.inl h)
theorem Inv.list (I:Inv X J3 σ H s) (h:az X.K H a xs):∃its:List Value,a_ xs its/\PlainL s.heap a its.toArray/\xs.length<=aj:=by
 rcases h with h | ⟨o,its,n,hk,hc,hd,hs,hz,r⟩
 ·obtain ⟨z,its,n,r,e⟩:=h.ok I.hok;exact ⟨its,r,⟨_,n,e,rfl,rfl,rfl⟩,z⟩
 ·refine ⟨its.toList,r,⟨o,n,I.kIn a o hk,hc,hd,by simpa using hs⟩,?_⟩;have e:=r.length;simp only [mM] at e;omega
theorem Inv.tuple (I:Inv X J3 σ H s) (h:bj X.K H a xs):∃its:List Value,a_ xs its/\IsTup s.heap a its.toArray/\xs.length<=aj:=by
 rcases h with h | ⟨o,its,n,hk,hc,hs,hz,r⟩
 ·obtain ⟨z,its,r,p⟩:=h.ok I.hok;exact ⟨its,r,p,z⟩
 ·refine ⟨its.toList,r,⟨o,I.kIn a o hk,hc,n,by simpa using hs⟩,?_⟩;have e:=r.length;simp only [mM] at e;omega
theorem Inv.list_inj (I:Inv X J3 σ H s) (h:az X.K H a xs) (h':az X.K H a ys):xs=ys:=by
 obtain ⟨its,r,⟨o,n,e,_,_,d⟩,_⟩:=I.list h;obtain ⟨its',r',⟨o',n',e',_,_,d'⟩,_⟩:=I.list h';rw [e] at e'; cases e';rw [d] at d';injection d' with d1 _;have:its=its':=by simpa using congrArg Array.toList d1
 subst this;exact r.inj r'
theorem Inv.tuple_inj (I:Inv X J3 σ H s) (h:bj X.K H a xs) (h':bj X.K H a ys):xs=ys:=by
 obtain ⟨its,r,⟨o,e,_,n,d⟩,_⟩:=I.tuple h;obtain ⟨its',r',⟨o',e',_,n',d'⟩,_⟩:=I.tuple h';rw [e] at e'; cases e';rw [d] at d';injection d' with d1 _;have:its=its':=by simpa using congrArg Array.toList d1
 subst this;exact r.inj r'
end
abbrev Cx.wish (X:Cx) (E:Zc):Cx:={ X with xe:=E }
abbrev Cx.nox (X:Cx):Cx:=X.wish fun _ _=>False
theorem Cx.Ok.wish {X:Cx}(ok:X.Ok) (E:Zc):(X.wish E).Ok :=
 ⟨ok.mod,ok.kind,ok.glob,ok.blt,ok.above,ok.inj,ok.has,ok.cab,ok.hd,ok.frames,ok.stk,ok.exf,ok.bs,ok.bsz,ok.noex,ok.exfs,ok.funs,ok.frf⟩
theorem Cx.Ok.unwish {X:Cx}{E:Zc}(ok:(X.wish E).Ok):X.Ok :=
 ⟨ok.mod,ok.kind,ok.glob,ok.blt,ok.above,ok.inj,ok.has,ok.cab,ok.hd,ok.frames,ok.stk,ok.exf,ok.bs,ok.bsz,ok.noex,ok.exfs,ok.funs,ok.frf⟩
section
variable {X:Cx}{J3:Zd}{σ:St}{H:Hp}{s:Shared}{E:Zc}
theorem Inv.wish (I:Inv X J3 σ H s) (E:Zc):Inv (X.wish E) J3 σ H s:=⟨I.ok.wish E,I.os,I.bare,I.base,I.loc,I.cell,I.free,I.freeC,I.pin,I.hok,I.len⟩
theorem Inv.unwish (I:Inv (X.wish E) J3 σ H s):Inv X J3 σ H s:=⟨I.ok.unwish,I.os,I.bare,I.base,I.loc,I.cell,I.free,I.freeC,I.pin,I.hok,I.len⟩
theorem SP.unwish {D:mJ}{f:Flow}{s':Shared}(h:SP (X.wish E) J3 D f s'):SP X J3 D f s':=by
 cases f with
 | next=>obtain ⟨σ',H',I,q⟩:=h; exact ⟨σ',H',I.unwish,q⟩
 | brk=>obtain ⟨σ',H',I,q⟩:=h; exact ⟨σ',H',I.unwish,q⟩
 | cont=>obtain ⟨σ',H',I,q⟩:=h; exact ⟨σ',H',I.unwish,q⟩
 | ret u=>obtain ⟨v,σ',H',I,r,q⟩:=h; exact ⟨v,σ',H',I.unwish,r,q⟩
theorem zX.nox {st:List Stmt}{t:TS}(h:zX X.nox st t):zX X st t:=fun J3 s σ H D I hw =>
 jy (h J3 s σ H D (I.wish _) hw) (fun _ _ q=>q.unwish) fun _ _ z=>jx z
end
section
variable {X:Cx}{st:Stmt}{rest:List Stmt}{t u:TS}{e:Expr}{te:TE}{pos:Pos}
def bG:TS:=fun D σ H=>D.nx σ H
def ap (t u:TS):TS:=fun D σ H=>t { D with nx:=u D } σ H
theorem aV:zX X [] bG:=fun _ _ σ H _ I h=>BD ⟨σ,H,I,h⟩
theorem ac (h1:PS X st t) (h2:zX X rest u):zX X (st::rest) (ap t u):=by
 intro J3 s σ H D I h;refine wpAny_execs_cons (cF (h1 J3 s σ H { D with nx:=u D } I h) fun f s1 q=>?_);cases f with
 | next =>
  obtain ⟨σ',H',I',q⟩:=q;exact h2 J3 s1 σ' H' D I' q
 | ret v=>exact q
 | brk=>exact q
 | cont=>exact q
theorem ag (h1:PS X st t):zX X [st] t:=by
 intro J3 s σ H D I h;refine wpAny_execs_cons (cF (h1 J3 s σ H D I h) fun f s1 q=>?_);cases f with
 | next=>exact BD q
 | ret v=>exact q
 | brk=>exact q
 | cont=>exact q
theorem Inv.quiet {J3:Zd}{σ:St}{H:Hp}{s:Shared}(I:Inv X J3 σ H s):interactive X.env=false:=by simp [interactive,I.ok.kind]
def bH (te:TE):TS:=fun D σ H=>te σ H fun _ H1=>D.nx σ H1
theorem aR (he:PE X e te) (hs:qH e none pos.line X.env=pure false:=by rfl):PS X (.Expr e pos) (bH te):=by
 intro J3 s σ H D I h;exact wpAny_Expr_any (cF (he J3 s σ H _ I h) fun v s1 ⟨x,H1,I1,r1,q1⟩=>⟨σ,H1,I1,q1⟩) I.quiet hs
def bB (te:TE):TS:=fun D σ H=>te σ H D.rt
theorem aG (he:PE X e te):PS X (.Return (some e) pos) (bB te):=by
 intro J3 s σ H D I h;exact wpAny_Return_some (cF (he J3 s σ H _ I h) fun v s1 ⟨x,H1,I1,r1,q1⟩=>⟨x,σ,H1,I1,r1,q1⟩)
def cx (c:TT) (t u:TS):TS:=fun D σ H=>c σ H fun b H1=>if b=true then t D σ H1 else u D σ H1
theorem bR {c:Expr}{a b:List Stmt}{tc:TT}(hc:PT X c tc) (ha:zX X a t) (hb:zX X b u):PS X (.If c a b pos) (cx tc t u):=by
 intro J3 s σ H D I h;refine wpAny_If (cF (hc J3 s σ H _ I h) fun d s1 ⟨H1,I1,q1⟩=>?_);cases d with
 | true=>exact ha J3 s1 σ H1 D I1 q1
 | false=>exact hb J3 s1 σ H1 D I1 q1
def sM:TS:=fun _ _ _=>False
theorem oX:PS X st sM:=fun _ _ _ _ _ _ h=>h.elim
end
abbrev TG:=V->St->Hp->(St->Hp->Prop)->Prop
abbrev DO:=List V->St->Hp->(St->Hp->Prop)->Prop
def PG (X:Cx) (target:Expr) (t:TG):Prop :=
 ∀(J3:Zd) (s:Shared) (σ:St) (H:Hp) (v:V) (u:Value) (Q:St->Hp->Prop),Inv X J3 σ H s->RelV v u->t v σ H Q ->
  wpAny (model X.prog X.w) X.A (assign target X.env u) (fun _ s'=>∃σ' H',Inv X J3 σ' H' s'/\Q σ' H') X.xe s
def I0 (X:Cx) (ts:List Expr) (t:DO):Prop :=
 ∀(J3:Zd) (s:Shared) (σ:St) (H:Hp) (vs:List V) (us:Zf) (Q:St->Hp->Prop),Inv X J3 σ H s->a_ vs us->t vs σ H Q ->
  wpAny (model X.prog X.w) X.A (assignInOrder ((uY ts X.env).map (·.2)) us) (fun _ s'=>∃σ' H',Inv X J3 σ' H' s'/\Q σ' H') X.xe s
abbrev HR:=V->V->V->Hp->(Hp->Prop)->Prop
def IC (X:Cx) (t:HR):Prop :=
 ∀(J3:Zd) (s:Shared) (σ:St) (H:Hp) (o i v:V) (ov iv u:Value) (Q:Hp->Prop),Inv X J3 σ H s->RelV o ov->RelV i iv->RelV v u->t o i v H Q ->
  wpAny (model X.prog X.w) X.A (setItem ov iv u) (fun _ s'=>∃H',Inv X J3 σ H' s'/\Q H') X.xe s
abbrev IY:=V->V->Hp->VK->Prop
def PIp (X:Cx) (op:Operator) (t:IY):Prop :=
 ∀(J3:Zd) (s:Shared) (σ:St) (H:Hp) (x y:V) (v u:Value) (Q:VK),Inv X J3 σ H s->RelV x v->RelV y u->t x y H Q ->
  wpAny (model X.prog X.w) X.A (inplaceOp op v u) (EP X J3 σ Q) X.xe s
section
variable {X:Cx}{pos:Pos}
def dX (i:Nat):TG:=fun v σ H Q=>Q (σ.set i (some v)) H
abbrev U0:TG:=dX 0
abbrev U1:TG:=dX 1
abbrev U2:TG:=dX 2
abbrev U3:TG:=dX 3
abbrev U4:TG:=dX 4
abbrev U5:TG:=dX 5
abbrev U6:TG:=dX 6
abbrev U7:TG:=dX 7
abbrev U8:TG:=dX 8
abbrev U9:TG:=dX 9
abbrev H_:TG:=dX 10
abbrev IB:TG:=dX 11
abbrev IW:TG:=dX 12
abbrev HZ:TG:=dX 13
theorem BS {i:Nat}{x:Str}(hN:X.N.Nodup) (hi:X.N[i]?=some x) (hx:Loc X.env.scope x) (hf:X.fn x=true∨X.env.scope.names.lookup x=some .local:=by first | exact .inl rfl | exact .inr rfl | assumption):PG X (.Name x pos) (dX i):=by
 intro J3 s σ H v u Q I r h;exact wpAny_assign_Name (sU I hN hi hx r (fun s' I'=>⟨_,H,I',h⟩) hf)
def fy:DO:=fun vs σ H Q=>vs=[]/\Q σ H
def aN (t:TG) (u:DO):DO:=fun vs σ H Q=>∃v r,vs=v::r/\t v σ H fun σ' H'=>u r σ' H' Q
theorem cg:I0 X [] fy:=by
 intro J3 s σ H vs us Q I r h;obtain ⟨e,h⟩:=h;subst e;cases r;exact assignInOrder_nil ⟨σ,H,I,h⟩
theorem av {e:Expr}{es:List Expr}{t:TG}{u:DO}(h1:PG X e t) (h2:I0 X es u)
  (hs:(uY (e::es) X.env).map (·.2)=assign e X.env::(uY es X.env).map (·.2):=by rfl):I0 X (e::es) (aN t u):=by
 intro J3 s σ H vs us Q I r h;obtain ⟨v,vr,e1,h⟩:=h;subst e1;cases r with
 | cons r rr =>
  rw [hs];refine assignInOrder_cons (cF (h1 J3 s σ H _ _ _ I r h) fun _ s1 ⟨σ1,H1,I1,q1⟩=>?_);exact h2 J3 s1 σ1 H1 _ _ Q I1 rr q1
def fG (K:Za) (n:Nat) (t:DO):TG:=fun v σ H Q=>∃a xs,v=.ref a/\bj K H a xs/\xs.length=n/\t xs σ H Q
theorem cZ {es:List Expr}{k:Nat}{t:DO}{n:Nat}(hc:X.calm=true) (h:I0 X es t)
  (hn:(uY es X.env).length=n:=by rfl) (hst:(uY es X.env).findIdx? (·.1)=none:=by rfl):PG X (.Tuple es k pos) (fG X.K n t):=by
 intro J3 s σ H v u Q I r hw;obtain ⟨a,xs,e1,hq,hl,hw⟩:=hw;subst e1;cases r;obtain ⟨its,rv,ht,hz⟩:=I.tuple hq;refine assign_Tuple_tuple (I.ok.hd hc) ht (by simp [hn,<-hl,rv.length]) hst fun h' hx=>?_;have I1:Inv X J3 σ H { s with heap:=h' }:=I.kept (t':=s.toks) fun b o e=>hx b o (c_ (aY e)) e;exact h J3 _ σ H xs _ Q I1 (by simpa using rv) hw
def AY (to ti:TE) (t:HR):TG:=fun v σ H Q=>to σ H fun o H1=>ti σ H1 fun i H2=>t o i v H2 fun H3=>Q σ H3
theorem tw {o i:Expr}{to ti:TE}{t:HR}(ho:PE X o to) (hi:PE X i ti) (hs:IC X t)
  (ha:∀v,assign (.Subscript o i pos) X.env v=(do
   let ov <- kT [v] (eval o X.env)
   let iv <- kT [v,ov] (eval i X.env)
   qI pos
   kT [v,ov,iv] (setItem ov iv v)
   release [v,ov,iv] []):=by intro _; rfl):PG X (.Subscript o i pos) (AY to ti t):=by
 intro J3 s σ H v u Q I r h;rw [ha];refine ak (k4 (cF (ho J3 s σ H _ I h) fun ov s1 ⟨x,H1,I1,r1,q1⟩=>?_));refine ak (k4 (cF (hi J3 s1 σ H1 _ I1 q1) fun iv s2 ⟨y,H2,I2,r2,q2⟩=>?_));refine ak (BC (ak (k4 (cF (hs J3 s2 σ H2 x y v ov iv u _ I2 r1 r2 r q2) fun _ s3 ⟨H3,I3,q3⟩=>?_))));exact wpAny_release ⟨σ,H3,I3,q3⟩
def aK (te:TE) (g:TG):TS:=fun D σ H=>te σ H fun x H1=>g x σ H1 D.nx
theorem gH {tg e:Expr}{te:TE}{g:TG}(he:PE X e te) (hg:PG X tg g) (hs:swapsWithSole [tg] e pos.line X.env=pure false:=by rfl) (hw:swappedStores [tg] e X.env=pure none:=by rfl)
  (h1:(uY [tg] X.env).map (·.2)=[assign tg X.env]:=by rfl):PS X (.Assign [tg] e pos) (aK te g):=by
 intro J3 s σ H D I h;refine wpAny_Assign_stores (cF (he J3 s σ H _ I h) fun v s1 ⟨x,H1,I1,r1,q1⟩=>?_) hs hw;rw [h1];exact cF (hg J3 s1 σ H1 x v _ I1 r1 q1) fun _ s2 q=>q
theorem Hv {i:Nat}{x:Str}{e:Expr}{te:TE}{pos':Pos}(hN:X.N.Nodup) (hi:X.N[i]?=some x) (hx:Loc X.env.scope x) (he:PE X e te) (hs:qH e (some (.Name x pos')) pos.line X.env=pure false:=by rfl) (hf:X.fn x=true∨X.env.scope.names.lookup x=some .local:=by first | exact .inl rfl | exact .inr rfl | assumption) :
  PS X (.Assign [.Name x pos'] e pos) (aK te (dX i)):=by
 intro J3 s σ H D I h;refine wpAny_Assign_Name (cF (he J3 s σ H _ I h) fun v s1 ⟨y,H1,I1,r1,q1⟩=>?_) hs;exact sU I1 hN hi hx r1 (fun s2 I2=>⟨_,H1,I2,q1⟩) hf
def Ii (i:Nat) (te:TE) (ti:IY):TS:=fun D σ H=>∃x,σ[i]?=some (some x)/\te σ H fun y H1=>ti x y H1 fun z H2=>D.nx (σ.set i (some z)) H2
theorem Hw {i:Nat}{x:Str}{e:Expr}{te:TE}{op:Operator}{ti:IY}{pos':Pos}(hN:X.N.Nodup) (hi:X.N[i]?=some x) (hx:Loc X.env.scope x) (he:PE X e te) (ho:PIp X op ti) (hf:X.fn x=true∨X.env.scope.names.lookup x=some .local:=by first | exact .inl rfl | exact .inr rfl | assumption) :
  PS X (.AugAssign (.Name x pos') op e pos) (Ii i te ti):=by
 intro J3 s σ H D I h;obtain ⟨v,e1,h⟩:=h;obtain ⟨m,hn,hl⟩:=I.loc;have vis:IV X.env.scope x:=by rcases hx with k | k; exact .inl k; exact .inr (.inl k)
 obtain ⟨u,r,l⟩:=hl i x v hi e1 vis;refine wpAny_AugAssign_Name ?_;have go:wpAny (model X.prog X.w) X.A (eval e X.env) (fun w s₂=>wpAny (model X.prog X.w) X.A (inplaceOp op u w) (fun r s₃=>wpAny (model X.prog X.w) X.A (storeName X.env x r) (fun _=>SP X J3 D .next) X.xe s₃) X.xe s₂) X.xe s:=by
  refine cF (he J3 s σ H _ I h) fun w s1 ⟨y,H1,I1,r1,q1⟩=>?_;refine cF (ho J3 s1 σ H1 v y u w _ I1 r r1 q1) fun z s2 ⟨zv,H2,I2,r2,q2⟩=>?_;exact sU I2 hN hi hx r2 (fun s3 I3=>⟨_,H2,I3,q2⟩) hf
 rcases l with ⟨hk,hm⟩ | ⟨hk,c,hc,hcell⟩
 ·exact wpAny_loadName_local I.ok.kind hk hn hm go
 ·rcases hk with hk | hk
  ·exact wpAny_loadName_cell I.ok.kind hk hc hcell go
  ·rcases hx with k | k
   ·have:X.env.scope.names.lookup x=some .free:=hk;rw [k] at this; cases this
   ·have:X.env.scope.names.lookup x=some .free:=hk;rw [k] at this; cases this
def ipI (f:Int->Int->Int):IY:=fun x y H Q=>∃i j,x=.int i/\y=.int j/\Q (.int (f i j)) H
theorem HK:PIp X .Add (ipI fun i j=>i+j):=by
 intro J3 s σ H x y v u Q I r1 r2 h;obtain ⟨i,j,e1,e2,q⟩:=h;subst e1; subst e2;obtain ⟨t,rfl⟩:=r1;obtain ⟨t',rfl⟩:=r2;exact iadd_int ⟨.int _,H,I.tok _,⟨_,rfl⟩,q⟩
end
section
variable {X:Cx}{pos:Pos}
def nG (c:TT) (tb:TS):TS:=fun D σ H=>∃W:Nat->St->Hp->Prop,(∃m,W m σ H)/\∀m σ H,W m σ H ->
 c σ H fun b H1=>if b=true then ∃N:St->Hp->Prop,(∀σ' H',N σ' H'->∃m',m'<m/\W m' σ' H')/\tb { D with nx:=N,ct:=N,bk:=D.nx } σ H1 else D.nx σ H1
theorem jH {c:Expr}{body:List Stmt}{tc:TT}{tb:TS}(hp:PassesOwn (model X.prog X.w) X.A X.env X.xe) (hc:PT X c tc) (hb:zX X body tb):PS X (.While c body [] pos) (nG tc tb):=by
 intro J3 s σ H D I h;obtain ⟨W,⟨m0,w0⟩,turn⟩:=h;refine wpAny_While (codeAny_whileLoop (fun n s'=>∃σ' H',Inv X J3 σ' H' s'/\W n σ' H') ?_ m0 ⟨σ,H,I,w0⟩);rintro n s1 ⟨σ1,H1,I1,w1⟩;refine rT hp (cF (hc J3 s1 σ1 H1 _ I1 (turn n σ1 H1 w1)) fun b s2 ⟨H2,I2,q2⟩=>?_);cases b with
 | true =>
  obtain ⟨N,hN,q2⟩:=q2;rw [if_pos rfl];refine rT hp (cF (hb J3 s2 σ1 H2 _ I2 q2) fun f s3 q3=>?_);cases f with
  | next =>
   obtain ⟨σ3,H3,I3,n3⟩:=q3;obtain ⟨m',hm,w3⟩:=hN σ3 H3 n3;exact ⟨m',hm,σ3,H3,I3,w3⟩
  | cont =>
   obtain ⟨σ3,H3,I3,n3⟩:=q3;obtain ⟨m',hm,w3⟩:=hN σ3 H3 n3;exact ⟨m',hm,σ3,H3,I3,w3⟩
  | brk=>exact q3
  | ret v=>exact q3
 | false =>
  rw [if_neg fN];exact BD ⟨σ1,H2,I2,q2⟩
end
structure It where
 go:Nat->Hp->Prop
 yld:Nat->Hp->V->Hp->Prop
 stop:Nat->Hp->Prop
def nY (X:Cx) (J3:Zd) (H:Hp) (b:Addr):Prop :=
 H b=none/\b≠X.env.locals/\b∉X.fs/\(b∈X.ex∨X.s₀.heap.objs.size<=b)/\(∀x c,X.env.cells.lookup x=some c->c≠b)/\∀p∈X.pn++J3,p.1≠b
theorem Inv.fpOk {X:Cx}{J3:Zd}{σ:St}{H H':Hp}{s:Shared}{b:Addr}(I:Inv X J3 σ H s) (hb:s.heap.objs.size<=b) (hn:H' b=none):nY X J3 H' b:=by
 refine ⟨hn,gy (iD I.lt hb),I.nofs hb,.inr (bv I.sz hb),fun x c e z=>?_,fun p hp z=>?_⟩
 ·obtain ⟨v,q⟩:=I.cell x c e;exact absurd (iD q.lt (by rw [z]; exact hb)) (qJ _)
 ·exact absurd (iD (aY (I.pin p hp).1) (by rw [z]; exact hb)) (qJ _)
structure rB (P:bW) (w:World) (K:Za) (tg:Expr) (J:It) (fp:Ze) (it:Addr) (tn:Nat->Heap->Prop):Prop where
 mem:it∈fp
 obj:∀i h,tn i h->∀b∈fp,∃o,h.get? b=some o/\∀v,o.data≠.cell v
 keep:∀i h h',tn i h->(∀b∈fp,∀o,h.get? b=some o->h'.get? b=some o)->tn i h'
 item:∀(X:Cx),X.prog=P->X.w=w->X.K=K->X.calm=true->∀(i:Nat) (J3:Zd) (s:Shared) (σ:St) (H:Hp) (E:Zc),Inv X J3 σ H s->(∀b∈fp,nY X J3 H b)->tn i s.heap->J.go i H ->
  wpAny (model P w) X.A (pyNext (.ref it)) (fun r s1=>∃u,r=some u /\
   wpAny (model P w) X.A (BB tg (.ref it) u) (fun _ s2=>∃x H',Inv X J3 σ H' s2/\RelV x u/\J.yld i H x H'/\tn (i+1) s2.heap/\∀b∈fp,H' b=none) E s1) E s
 done:∀(X:Cx),X.prog=P->X.w=w->X.K=K->X.calm=true->∀(i:Nat) (J3:Zd) (s:Shared) (σ:St) (H:Hp) (E:Zc),Inv X J3 σ H s->(∀b∈fp,nY X J3 H b)->tn i s.heap->J.stop i H ->
  wpAny (model P w) X.A (pyNext (.ref it)) (fun r s1=>r=none/\Inv X J3 σ H s1) E s
 self:∀(A:Around) (i:Nat) (s:Shared) (Q:Zc) (E:Zc),tn i s.heap->Q (.ref it) s->wpAny (model P w) A (pyIter (.ref it)) Q E s
abbrev TI:=St->Hp->(It->Hp->Prop)->Prop
def IZ (X:Cx) (J3:Zd) (σ:St) (tg:Expr) (R:It->Hp->Prop) (itv:Value) (s2:Shared):Prop :=
 ∃(it:Addr) (fp:Ze) (tn:Nat->Heap->Prop) (J:It) (H':Hp),itv=.ref it/\Inv X J3 σ H' s2/\rB X.prog X.w X.K tg J fp it tn/\tn 0 s2.heap/\(∀b∈fp,nY X J3 H' b)/\R J H'
def PI (X:Cx) (tg iter:Expr) (wi:TI):Prop :=
 ∀(J3:Zd) (s:Shared) (σ:St) (H:Hp) (R:It->Hp->Prop),Inv X J3 σ H s->wi σ H R ->
  wpAny (model X.prog X.w) X.A (eval iter X.env) (fun v s1=>wpAny (model X.prog X.w) X.A (pyIter v) (IZ X J3 σ tg R) X.xe s1) X.xe s
theorem vC {M:Model}{A:Around}{E:Zc}{s:Shared}{tg:Expr}{it:Addr}{u:Value}{o:Obj}{n:String}{vs:Array Value}{Q:Unit->Shared->Prop}(ho:s.heap.get? it=some o) (hc:o.cls=.type n) (hd:o.data=.fields vs)
    (hn:["enumerate","zip","dict_itemiterator","dict_reverseitemiterator","odict_iterator","itertools.zip_longest","itertools.pairwise"].contains n=false) (hQ:Q () s):wpAny M A (BB tg (.ref it) u) Q E s:=by
  unfold BB;cases tg <;> first
    | exact aI hQ
    | (cases u <;> first
        | exact aI hQ
        | (refine ak (wpAny_load ho ?_)
           rw [hc,hd];show wpAny M A (if (["enumerate","zip","dict_itemiterator","dict_reverseitemiterator","odict_iterator","itertools.zip_longest","itertools.pairwise"].contains n && vs[0]? == some (rawInt _))=true then _ else _) Q E s
           rw [if_neg (by intro h; rw [hn,BA] at h; cases h)];exact aI hQ))
def FL (K:Za) (a:Addr):It :=
 ⟨fun i H=>∃xs x,az K H a xs/\xs[i]?=some x,fun i H x H'=>H'=H/\∀xs,az K H a xs->xs[i]?=some x,fun i H=>∃xs,az K H a xs/\xs.length<=i⟩
def HS (K:Za) (a:Addr):It :=
 ⟨fun i H=>∃xs x,bj K H a xs/\xs[i]?=some x,fun i H x H'=>H'=H/\∀xs,bj K H a xs->xs[i]?=some x,fun i H=>∃xs,bj K H a xs/\xs.length<=i⟩
def HU (lo:Int) (n:Nat):It:=⟨fun i _=>i<n,fun i H x H'=>H'=H/\x=.int (lo+i),fun i _=>n<=i⟩
theorem u8 {P:bW}{w:World}{K:Za}{tg:Expr}(a it:Addr):rB P w K tg (FL K a) [it] it (fun i h=>h.IsListIter it a i) where
 mem:=by simp
 obj:=fun i h st b hb=>by
  have e:b=it:=by simpa using hb
  subst e;obtain ⟨o,e,c,d⟩:=st;exact ⟨o,e,fun v z=>by rw [d] at z; cases z⟩
 keep:=fun i h h' st k=>st.at fun o e=>k it (by simp) o e
 item:=by
  intro X hP hw hK hc i J3 s σ H E I hf st hg;subst hP hw hK;obtain ⟨xs,x,hq,hx⟩:=hg;obtain ⟨its,rv,p,hz⟩:=I.list hq;obtain ⟨u,hu,ru⟩:=rv.get hx;obtain ⟨f0,f1,f2,f3,f4,f5⟩:=hf it (by simp);refine wpAny_pyNext_list_item st p.isList (x:=u) (by simpa using hu) fun h' st' sb=>?_;have I1:Inv X J3 σ H { s with heap:=h' }:=I.turned (t':=s.toks) (fun b o hb e=>(sb.2 b hb).trans e) f0 f1 f3 f4 f5;obtain ⟨o,e,c,d⟩:=id st';exact ⟨u,rfl,vC (s:={ s with heap:=h' }) e c d (by decide) ⟨x,H,I1,ru,⟨rfl,fun ys hy=>by rw [I.list_inj hy hq]; exact hx⟩,st',fun b hb=>(hf b hb).1⟩⟩
 done:=by
  intro X hP hw hK hc i J3 s σ H E I hf st hg;subst hP hw hK;obtain ⟨xs,hq,hx⟩:=hg;obtain ⟨its,rv,p,hz⟩:=I.list hq;obtain ⟨f0,f1,f2,f3,f4,f5⟩:=hf it (by simp);have hl:=rv.length;exact wpAny_pyNext_list_end (I.ok.hd hc) st p.isList (by simp; omega) fun h' eb=>⟨rfl,I.turned (t':=s.toks) (fun b o hb e=>eb b o hb e) f0 f1 f3 f4 f5⟩
 self:=fun _ _ _ _ _ st h=>wpAny_pyIter_listiter st h
theorem sG {P:bW}{w:World}{K:Za}{tg:Expr}(a it:Addr):rB P w K tg (HS K a) [it] it (fun i h=>h.IsTupleIter it a i) where
 mem:=by simp
 obj:=fun i h st b hb=>by
  have e:b=it:=by simpa using hb
  subst e;obtain ⟨o,e,c,d⟩:=st;exact ⟨o,e,fun v z=>by rw [d] at z; cases z⟩
 keep:=fun i h h' st k=>st.at fun o e=>k it (by simp) o e
 item:=by
  intro X hP hw hK hc i J3 s σ H E I hf st hg;subst hP hw hK;obtain ⟨xs,x,hq,hx⟩:=hg;obtain ⟨its,rv,p,hz⟩:=I.tuple hq;obtain ⟨u,hu,ru⟩:=rv.get hx;obtain ⟨f0,f1,f2,f3,f4,f5⟩:=hf it (by simp);refine wpAny_pyNext_tuple_item st (show s.heap.IsTuple a its.toArray from p) (x:=u) (by simpa using hu) fun h' st' sb=>?_;have I1:Inv X J3 σ H { s with heap:=h' }:=I.turned (t':=s.toks) (fun b o hb e=>(sb.2 b hb).trans e) f0 f1 f3 f4 f5;obtain ⟨o,e,c,d⟩:=id st';exact ⟨u,rfl,vC (s:={ s with heap:=h' }) e c d (by decide) ⟨x,H,I1,ru,⟨rfl,fun ys hy=>by rw [I.tuple_inj hy hq]; exact hx⟩,st',fun b hb=>(hf b hb).1⟩⟩
 done:=by
  intro X hP hw hK hc i J3 s σ H E I hf st hg;subst hP hw hK;obtain ⟨xs,hq,hx⟩:=hg;obtain ⟨its,rv,p,hz⟩:=I.tuple hq;obtain ⟨f0,f1,f2,f3,f4,f5⟩:=hf it (by simp);have hl:=rv.length;exact wpAny_pyNext_tuple_end (I.ok.hd hc) st (show s.heap.IsTuple a its.toArray from p) (by simp; omega) fun h' eb=>⟨rfl,I.turned (t':=s.toks) (fun b o hb e=>eb b o hb e) f0 f1 f3 f4 f5⟩
 self:=fun _ _ _ _ _ st h=>wpAny_pyIter_tupleiter st h
theorem z5 {P:bW}{w:World}{K:Za}{tg:Expr}(it:Addr) (lo:Int) (n:Nat):rB P w K tg (HU lo n) [it] it (fun i h=>IsRangeIter h it (lo+(i:Nat) * 1) ((n:Int)-(i:Nat)) 1) where
 mem:=by simp
 obj:=fun i h st b hb=>by
  have e:b=it:=by simpa using hb
  subst e;exact ⟨_,st,fun v z=>by
   have z':Data.fields _=Data.cell v:=z;cases z'⟩
 keep:=fun i h h' st k=>k it (by simp) _ st
 item:=by
  intro X hP hw hK hc i J3 s σ H E I hf st hg;subst hP hw hK;obtain ⟨f0,f1,f2,f3,f4,f5⟩:=hf it (by simp);have W:=Walks.range (prog:=X.prog) (w:=X.w) (I.ok.hd hc) it lo 1 n;refine W.item i s _ _ hg st fun v h' tk hv st' kk=>?_;obtain ⟨t,rfl⟩:=hv;have I1:Inv X J3 σ H { s with heap:=h',toks:=tk }:=I.turned (fun b o hb e=>kk b o (by simpa using hb) e) f0 f1 f3 f4 f5;refine ⟨_,rfl,vC (s:={ s with heap:=h',toks:=tk }) (n:="range_iterator") st' rfl rfl (by decide) ⟨.int (lo+i),H,I1,⟨t,?_⟩,⟨rfl,rfl⟩,st',fun b hb=>(hf b hb).1⟩⟩;rw [Int.mul_one]
 done:=by
  intro X hP hw hK hc i J3 s σ H E I hf st hg;subst hP hw hK;obtain ⟨f0,f1,f2,f3,f4,f5⟩:=hf it (by simp);exact wpAny_pyNext_range_end (I.ok.hd hc) st (by have:n<=i:=hg; omega) fun h' eb=>⟨rfl,I.turned (t':=s.toks) (fun b o hb e=>eb b o hb e) f0 f1 f3 f4 f5⟩
 self:=fun _ _ _ _ _ st h=>wpAny_pyIter_rangeiter st h
end L2
namespace L2
open PySem PySem.Spec PyProof.Rows
section
variable {X:Cx}{tg:Expr}
def cb (K:Za) (tl:TE):TI:=fun σ H R=>tl σ H fun x H1=>∃a,x=.ref a/\(∃xs,az K H1 a xs)/\R (FL K a) H1
def GH (K:Za) (tl:TE):TI:=fun σ H R=>tl σ H fun x H1=>∃a,x=.ref a/\(∃xs,bj K H1 a xs)/\R (HS K a) H1
theorem aZ {l:Expr}{tl:TE}(hl:PE X l tl):PI X tg l (cb X.K tl):=by
 intro J3 s σ H R I h;refine cF (hl J3 s σ H _ I h) fun v s1 ⟨x,H1,I1,r1,q1⟩=>?_;obtain ⟨a,e,⟨xs,hq⟩,q⟩:=q1;subst e;cases r1;obtain ⟨its,rv,p,hz⟩:=I1.list hq;refine yf p.isList ?_;refine ⟨s1.heap.objs.size,[s1.heap.objs.size],_,_,H1,rfl,I1.kept (t':=s1.toks) fun b o e=>bu _ e,u8 a _,⟨_,cL _ rfl,rfl,rfl⟩,fun b hb=>?_,q⟩;have e:b=s1.heap.objs.size:=by simpa using hb
 subst e;exact I1.fpOk (aE _) (I1.hok.fresh (aE _))
theorem AC {l:Expr}{tl:TE}(hl:PE X l tl):PI X tg l (GH X.K tl):=by
 intro J3 s σ H R I h;refine cF (hl J3 s σ H _ I h) fun v s1 ⟨x,H1,I1,r1,q1⟩=>?_;obtain ⟨a,e,⟨xs,hq⟩,q⟩:=q1;subst e;cases r1;obtain ⟨its,rv,p,hz⟩:=I1.tuple hq;refine Bz (show s1.heap.IsTuple a its.toArray from p) ?_;refine ⟨s1.heap.objs.size,[s1.heap.objs.size],_,_,H1,rfl,I1.kept (t':=s1.toks) fun b o e=>bu _ e,sG a _,⟨_,cL _ rfl,rfl,rfl⟩,fun b hb=>?_,q⟩;have e:b=s1.heap.objs.size:=by simpa using hb
 subst e;exact I1.fpOk (aE _) (I1.hok.fresh (aE _))
theorem Ev {J3:Zd}{σ:St}{H:Hp}{s:Shared}{R:It->Hp->Prop}{E:Zc}{lo hi:Int}{t u v:Tok}{tk:Nat}(I:Inv X J3 σ H s) (h1:-(2 ^ 62)<=lo) (h2:lo<2 ^ 62) (h3:-(2 ^ 62)<=hi) (h4:hi<2 ^ 62)
  (q:R (HU lo (hi-lo).toNat) H):wpAny (model X.prog X.w) X.A (pyIter (.ref s.heap.objs.size)) (IZ X J3 σ tg R) E { s with heap:=s.heap.push { cls:=.type "range",data:=.fields #[.int lo t,.int hi u,.int 1 v] },toks:=tk }:=by
 refine wpAny_pyIter_range (IsRange.new ..) (small_one h1 h2 h3 h4) ?_;have I1:Inv X J3 σ H { s with heap:=s.heap.push { cls:=.type "range",data:=.fields #[.int lo t,.int hi u,.int 1 v] },toks:=tk }:=I.kept fun b o e=>bu _ e;refine ⟨(s.heap.push { cls:=.type "range",data:=.fields #[.int lo t,.int hi u,.int 1 v] }).objs.size,[(s.heap.push { cls:=.type "range",data:=.fields #[.int lo t,.int hi u,.int 1 v] }).objs.size],_,_,H,rfl,
  I1.kept (t':=tk) fun b o e=>bu _ e,z5 _ lo (hi-lo).toNat,?_,fun b hb=>?_,q⟩
 ·have e1:lo+((0:Nat):Int) * 1=lo:=by simp
  have e2:(((hi-lo).toNat:Nat):Int)-((0:Nat):Int)=b_.Range.rangeSize lo hi 1:=by rw [rangeSize_one]; split <;> omega
  show IsRangeIter _ _ (lo+((0:Nat):Int) * 1) ((((hi-lo).toNat:Nat):Int)-((0:Nat):Int)) 1;rw [e1,e2];exact cL _ rfl
 ·have e:b=(s.heap.push { cls:=.type "range",data:=.fields #[.int lo t,.int hi u,.int 1 v] }).objs.size:=by simpa using hb
  subst e;exact I1.fpOk (aE _) (I1.hok.fresh (aE _))
def vB (ta:TA):TI:=fun σ H R=>ta σ H fun vs H1=>∃j:Int,vs=[.int j]/\-(2 ^ 62)<=j/\j<2 ^ 62/\R (HU 0 j.toNat) H1
theorem jI {a:Expr}{ta:TA}{p pos:Pos}(hg:Gl X "range") (hm:X.mg "range"=none) (ha:PA X [a] ta) (hs:aL [a] X.env=[(false,eval a X.env)]:=by rfl):PI X tg (.Call (.Name "range" p) [a] [] pos) (vB ta):=by
 intro J3 s σ H R I h;refine Call_ (tF I hg hm boot_range (By (cF (ha pos J3 s σ H _ I h) fun us s1 ⟨vs,H1,I1,r1,q1⟩=>?_) hs rfl));obtain ⟨j,e,q1,q2,q⟩:=q1;subst e;cases r1 with
 | cons r rr =>
  cases rr;obtain ⟨t,rfl⟩:=r;exact call_range_1 (Ev I1 (by omega) (by omega) q1 q2 (by simpa using q))
def eC (wi:TI) (g:TG) (tb:TS):TS:=fun D σ H=>wi σ H fun J H1=>∃W:Nat->Nat->St->Hp->Prop,(∃m,W 0 m σ H1)/\∀i m σ H,W i m σ H ->
 (J.stop i H/\D.nx σ H)∨(J.go i H/\∃N:St->Hp->Prop,(∀σ' H',N σ' H'->∃m',m'<m/\W (i+1) m' σ' H')/\∀x H',J.yld i H x H'->g x σ H' fun σ2 H2=>tb { D with nx:=N,ct:=N,bk:=D.nx } σ2 H2)
def tu (fp:Ze) (h:Heap):List (Addr×Obj):=fp.filterMap fun b=>(h.get? b).map fun o=>(b,o)
theorem kg {fp:Ze}{h:Heap}{b:Addr}{o:Obj}(hb:b∈fp) (e:h.get? b=some o):(b,o)∈tu fp h:=List.mem_filterMap.mpr ⟨b,hb,by rw [e]; rfl⟩
theorem C7 {fp:Ze}{h:Heap}{p:Addr×Obj}(hp:p∈tu fp h):p.1∈fp/\h.get? p.1=some p.2:=by
 obtain ⟨b,hb,e⟩:=List.mem_filterMap.mp hp;cases q:h.get? b with
 | none=>rw [q] at e; cases e
 | some o =>
  rw [q] at e;have e':(b,o)=p:=fg e;subst e';exact ⟨hb,q⟩
theorem Inv.pinned {J3:Zd}{σ:St}{H:Hp}{s:Shared}{fp:Ze}(I:Inv X J3 σ H s) (hf:∀b∈fp,nY X J3 H b) (ho:∀b∈fp,∃o,s.heap.get? b=some o/\∀v,o.data≠.cell v):Inv X (J3++tu fp s.heap) σ H s :=
 I.pins_of fun p hp=>(bd.mp hp).elim (fun z=>I.pin p (dk _ z)) fun z=>by
  obtain ⟨hb,e⟩:=C7 z;obtain ⟨f0,f1,f2,_⟩:=hf p.1 hb;obtain ⟨o,e',d⟩:=ho p.1 hb;rw [e] at e'; cases e';exact ⟨e,f0,f1,f2,d⟩
theorem Inv.unpinned {J3 pl:Zd}{σ:St}{H:Hp}{s:Shared}(I:Inv X (J3++pl) σ H s):Inv X J3 σ H s:=I.pins_of fun p hp=>I.pin p (dk _ (cW _ hp))
theorem bS {iter:Expr}{body:List Stmt}{wi:TI}{g:TG}{tb:TS}{pos:Pos}(hp:PassesOwn (model X.prog X.w) X.A X.env X.xe) (hc:X.calm=true) (hi:PI X tg iter wi) (hg:PG X tg g) (hb:zX X body tb)
  (hs:∀x,ye iter X.env x=pure x:=by intro _; rfl):PS X (.For tg iter body [] pos) (eC wi g tb):=by
 intro J3 s σ H D I h;refine wpAny_For (cF (hi J3 s σ H _ I h) fun v s1 h1=>cF h1 fun itv s2 h2=>?_) hs;obtain ⟨it,fp,tn,J,H2,e,I2,T,st2,f2,W,⟨m0,w0⟩,turn⟩:=h2;subst e;have stat:∀{H':Hp},(∀b∈fp,H' b=none)->∀b∈fp,nY X J3 H' b:=fun hn b hb=>⟨hn b hb,(f2 b hb).2⟩;refine codeAny_forLoop_any (fun n s'=>∃i σ' H',Inv X J3 σ' H' s'/\tn i s'.heap/\(∀b∈fp,H' b=none)/\W i n σ' H') ?_ m0 ⟨0,σ,H2,I2,st2,fun b hb=>(f2 b hb).1,w0⟩;rintro n s3 ⟨i,σ3,H3,I3,st3,fr3,w3⟩;rcases turn i n σ3 H3 w3 with ⟨stop,qn⟩ | ⟨go,N,hN,step⟩
 ·refine rT hp (cF (T.done X rfl rfl rfl hc i J3 s3 σ3 H3 X.xe I3 (stat fr3) st3 stop) fun r s4 ⟨hr,I4⟩=>?_);subst hr;exact BD ⟨σ3,H3,I4,qn⟩
 ·refine rT hp (cF (T.item X rfl rfl rfl hc i J3 s3 σ3 H3 X.xe I3 (stat fr3) st3 go) fun r s4 ⟨u,hr,h4⟩=>?_);subst hr;refine rT hp (cF h4 fun _ s5 ⟨x,H5,I5,r5,y5,st5,fr5⟩=>?_);have I5':=I5.pinned (stat fr5) (T.obj _ _ st5);refine rT hp (cF (hg _ s5 σ3 H5 x u _ I5' r5 (step x H5 y5)) fun _ s6 ⟨σ6,H6,I6,q6⟩=>?_);refine rT hp (cF (hb _ s6 σ6 H6 _ I6 q6) fun f s7 q7=>?_);have again:∀{σ7:St}{H7:Hp},Inv X (J3++tu fp s5.heap) σ7 H7 s7->N σ7 H7->∃m,m<n/\∃i σ' H',Inv X J3 σ' H' s7/\tn i s7.heap/\(∀b∈fp,H' b=none)/\W i m σ' H':=fun {σ7 H7} I7 n7=>by
   obtain ⟨m',hm,w7⟩:=hN σ7 H7 n7;refine ⟨m',hm,i+1,σ7,H7,I7.unpinned,T.keep _ _ _ st5 fun b hb o e=>(I7.pin (b,o) (dk _ (dk _ (kg hb e)))).1,fun b hb=>?_,w7⟩;obtain ⟨o,e,d⟩:=T.obj _ _ st5 b hb;exact (I7.pin (b,o) (dk _ (dk _ (kg hb e)))).2.1
  cases f with
  | next=>obtain ⟨σ7,H7,I7,n7⟩:=q7; exact again I7 n7
  | cont=>obtain ⟨σ7,H7,I7,n7⟩:=q7; exact again I7 n7
  | brk=>obtain ⟨σ7,H7,I7,q7⟩:=q7; exact ⟨σ7,H7,I7.unpinned,q7⟩
  | ret v=>obtain ⟨x7,σ7,H7,I7,r7,q7⟩:=q7; exact ⟨x7,σ7,H7,I7.unpinned,r7,q7⟩
end
theorem cn {K:Za}{a:Addr}{xs:List V}{g:TG}{tb:TS}{D:mJ}{σ:St}{H:Hp}(Pv:Nat->St->Hp->Prop) (h0:Pv 0 σ H) (hl:∀i σ H,i<=xs.length->Pv i σ H->az K H a xs)
  (hs:∀i x σ H,xs[i]?=some x->Pv i σ H->g x σ H fun σ2 H2=>tb { D with nx:=Pv (i+1),ct:=Pv (i+1),bk:=D.nx } σ2 H2) (hd:∀σ H,Pv xs.length σ H->D.nx σ H) :
  ∃W:Nat->Nat->St->Hp->Prop,(∃m,W 0 m σ H)/\∀i m σ H,W i m σ H ->
   ((FL K a).stop i H/\D.nx σ H)∨((FL K a).go i H/\∃N:St->Hp->Prop,(∀σ' H',N σ' H'->∃m',m'<m/\W (i+1) m' σ' H')/\∀x H',(FL K a).yld i H x H'->g x σ H' fun σ2 H2=>tb { D with nx:=N,ct:=N,bk:=D.nx } σ2 H2):=by
 refine ⟨fun i m σ H=>m=xs.length-i/\i<=xs.length/\Pv i σ H,⟨xs.length,by simp,cV _,h0⟩,?_⟩;rintro i m σ H ⟨rfl,hi,p⟩;have q:=hl i σ H hi p;by_cases hlt:i<xs.length
 ·refine .inr ⟨⟨xs,xs[i],q,by simp [hlt]⟩,Pv (i+1),fun σ' H' p'=>⟨xs.length-(i+1),by omega,rfl,hlt,p'⟩,fun x H' y=>?_⟩;obtain ⟨e,y⟩:=y;subst e;exact hs i x σ _ (y xs q) p
 ·have e:i=xs.length:=by omega
  subst e;exact .inl ⟨⟨xs,q,aE _⟩,hd σ H p⟩
theorem Ci {K:Za}{a:Addr}{xs:List V}{g:TG}{tb:TS}{D:mJ}{σ:St}{H:Hp}(Pv:Nat->St->Hp->Prop) (h0:Pv 0 σ H) (hl:∀i σ H,i<=xs.length->Pv i σ H->bj K H a xs)
  (hs:∀i x σ H,xs[i]?=some x->Pv i σ H->g x σ H fun σ2 H2=>tb { D with nx:=Pv (i+1),ct:=Pv (i+1),bk:=D.nx } σ2 H2) (hd:∀σ H,Pv xs.length σ H->D.nx σ H) :
  ∃W:Nat->Nat->St->Hp->Prop,(∃m,W 0 m σ H)/\∀i m σ H,W i m σ H ->
   ((HS K a).stop i H/\D.nx σ H)∨((HS K a).go i H/\∃N:St->Hp->Prop,(∀σ' H',N σ' H'->∃m',m'<m/\W (i+1) m' σ' H')/\∀x H',(HS K a).yld i H x H'->g x σ H' fun σ2 H2=>tb { D with nx:=N,ct:=N,bk:=D.nx } σ2 H2):=by
 refine ⟨fun i m σ H=>m=xs.length-i/\i<=xs.length/\Pv i σ H,⟨xs.length,by simp,cV _,h0⟩,?_⟩;rintro i m σ H ⟨rfl,hi,p⟩;have q:=hl i σ H hi p;by_cases hlt:i<xs.length
 ·refine .inr ⟨⟨xs,xs[i],q,by simp [hlt]⟩,Pv (i+1),fun σ' H' p'=>⟨xs.length-(i+1),by omega,rfl,hlt,p'⟩,fun x H' y=>?_⟩;obtain ⟨e,y⟩:=y;subst e;exact hs i x σ _ (y xs q) p
 ·have e:i=xs.length:=by omega
  subst e;exact .inl ⟨⟨xs,q,aE _⟩,hd σ H p⟩
theorem mh {lo:Int}{n:Nat}{g:TG}{tb:TS}{D:mJ}{σ:St}{H:Hp}(Pv:Nat->St->Hp->Prop) (h0:Pv 0 σ H)
  (hs:∀i σ H,i<n->Pv i σ H->g (.int (lo+i)) σ H fun σ2 H2=>tb { D with nx:=Pv (i+1),ct:=Pv (i+1),bk:=D.nx } σ2 H2) (hd:∀σ H,Pv n σ H->D.nx σ H) :
  ∃W:Nat->Nat->St->Hp->Prop,(∃m,W 0 m σ H)/\∀i m σ H,W i m σ H ->
   ((HU lo n).stop i H/\D.nx σ H)∨((HU lo n).go i H/\∃N:St->Hp->Prop,(∀σ' H',N σ' H'->∃m',m'<m/\W (i+1) m' σ' H')/\∀x H',(HU lo n).yld i H x H'->g x σ H' fun σ2 H2=>tb { D with nx:=N,ct:=N,bk:=D.nx } σ2 H2):=by
 refine ⟨fun i m σ H=>m=n-i/\i<=n/\Pv i σ H,⟨n,by simp,cV _,h0⟩,?_⟩;rintro i m σ H ⟨rfl,hi,p⟩;by_cases hlt:i<n
 ·refine .inr ⟨hlt,Pv (i+1),fun σ' H' p'=>⟨n-(i+1),by omega,rfl,hlt,p'⟩,fun x H' y=>?_⟩;obtain ⟨e,y⟩:=y;subst e y;exact hs i σ _ hlt p
 ·have e:i=n:=by omega
  subst e;exact .inl ⟨aE _,hd σ H p⟩
end L2
namespace L2
open PySem PySem.Spec PyProof.Rows
abbrev R2:=V->V->Hp->VK->Prop
def oj (X:Cx) (f:Value->Value->Sem Value) (r:R2):Prop :=
 ∀(J3:Zd) (s:Shared) (σ:St) (H:Hp) (x y:V) (v u:Value) (Q:VK),Inv X J3 σ H s->RelV x v->RelV y u->r x y H Q ->
  wpAny (model X.prog X.w) X.A (f v u) (EP X J3 σ Q) X.xe s
def gE (X:Cx) (f:Value) (r:List V->Hp->VK->Prop):Prop :=
 ∀(J3:Zd) (s:Shared) (σ:St) (H:Hp) (xs:List V) (us:Zf) (Q:VK),Inv X J3 σ H s->a_ xs us->r xs H Q ->
  wpAny (model X.prog X.w) X.A (call f us) (EP X J3 σ Q) X.xe s
def aD (r:R2) (ta tb:TE):TE:=fun σ H Q=>ta σ H fun x H1=>tb σ H1 fun y H2=>r x y H2 Q
def rI (C:Int->Int->Prop) (g:Int->Int->V):R2:=fun x y H Q=>∃i j,x=.int i/\y=.int j/\C i j/\Q (g i j) H
def DH (g:Int->Int->V):R2:=fun x y H Q=>∃i j,x=.int i/\y=.int j/\Q (g i j) H
section
variable {X:Cx}{a b c:Expr}{ta tb tc:TE}{pos:Pos}
theorem HP (ha:PE X a ta) (hb:PE X b tb) {J3:Zd}{s:Shared}{σ:St}{H:Hp}{R:V->V->Hp->Prop}(I:Inv X J3 σ H s)
  (h:ta σ H fun x H1=>tb σ H1 fun y H2=>R x y H2) {Q:Zc}{f:Value->Value->Sem Value}
  (hf:∀v u s2 x y H2,Inv X J3 σ H2 s2->RelV x v->RelV y u->R x y H2->wpAny (model X.prog X.w) X.A (f v u) Q X.xe s2) :
  wpAny (model X.prog X.w) X.A (eval a X.env) (fun v s₁=>wpAny (model X.prog X.w) X.A (eval b X.env) (fun u s₂=>wpAny (model X.prog X.w) X.A (f v u) Q X.xe s₂) X.xe s₁) X.xe s:=by
 refine cF (ha J3 s σ H _ I h) fun v s1 ⟨x,H1,I1,r1,q1⟩=>?_;refine cF (hb J3 s1 σ H1 _ I1 q1) fun u s2 ⟨y,H2,I2,r2,q2⟩=>?_;exact hf v u s2 x y H2 I2 r1 r2 q2
theorem aQ {op:Operator}{r:R2}(ho:oj X (qG op) r) (ha:PE X a ta) (hb:PE X b tb):PE X (.BinOp a op b pos) (aD r ta tb):=by
 intro J3 s σ H Q I h;exact wpAny_BinOp (HP ha hb I h fun v u s2 x y H2 I2 rx ry q=>ho J3 s2 σ H2 x y v u Q I2 rx ry q)
theorem IU {f:Value->Value->Sem Value}{C:Int->Int->Prop}{g:Int->Int->Int}
  (rule:∀(i j:Int) (t u:Tok) (s:Shared) (Q:Zc) (E:Zc),C i j->Q (.int (g i j) s.toks) { s with toks:=s.toks+1 }->wpAny (model X.prog X.w) X.A (f (.int i t) (.int j u)) Q E s) :
  oj X f (rI C fun i j=>.int (g i j)):=by
 intro J3 s σ H x y v u Q I rx ry h;obtain ⟨i,j,rfl,rfl,hc,q⟩:=h;obtain ⟨t,rfl⟩:=rx;obtain ⟨t',rfl⟩:=ry;exact rule i j t t' s _ _ hc ⟨.int (g i j),H,I.tok _,⟨_,rfl⟩,q⟩
theorem opI0 {f:Value->Value->Sem Value}{g:Int->Int->Int}
  (rule:∀(i j:Int) (t u:Tok) (s:Shared) (Q:Zc) (E:Zc),Q (.int (g i j) s.toks) { s with toks:=s.toks+1 }->wpAny (model X.prog X.w) X.A (f (.int i t) (.int j u)) Q E s) :
  oj X f (DH fun i j=>.int (g i j)):=by
 intro J3 s σ H x y v u Q I rx ry h;obtain ⟨i,j,rfl,rfl,q⟩:=h;obtain ⟨t,rfl⟩:=rx;obtain ⟨t',rfl⟩:=ry;exact rule i j t t' s _ _ ⟨.int (g i j),H,I.tok _,⟨_,rfl⟩,q⟩
theorem GA {f:Value->Value->Sem Value}{g:Int->Int->Bool}
  (rule:∀(i j:Int) (t u:Tok) (s:Shared) (Q:Zc) (E:Zc),Q (.bool (g i j)) s->wpAny (model X.prog X.w) X.A (f (.int i t) (.int j u)) Q E s) :
  oj X f (DH fun i j=>.bl (g i j)):=by
 intro J3 s σ H x y v u Q I rx ry h;obtain ⟨i,j,rfl,rfl,q⟩:=h;obtain ⟨t,rfl⟩:=rx;obtain ⟨t',rfl⟩:=ry;exact rule i j t t' s _ _ ⟨.bl (g i j),H,I,rfl,q⟩
def IN (i j:Int):Prop:=0<j/\j<1073741824
def IM (i j:Int):Prop:=0<=j/\j<=1000000/\i.natAbs<2 ^ 64
def FH (i j:Int):Prop:=(-(2 ^ 64)<i/\i<2 ^ 64)∨(-(2 ^ 64)<j/\j<2 ^ 64)
theorem FH.ok {i j:Int}(h:FH i j):IntMulOk i j:=by
 rcases h with ⟨h1,h2⟩ | ⟨h1,h2⟩
 ·exact .of_left (intBits_le_64 h1 h2)
 ·exact .of_right (intBits_le_64 h1 h2)
theorem c6:oj X (qG .Add) (DH fun i j=>.int (i+j)):=opI0 fun _ _ _ _ _ _ _ q=>add_int q
theorem hZ:oj X (qG .Mult) (rI FH fun i j=>.int (i * j)):=IU fun _ _ _ _ _ _ _ hc q=>mul_int q hc.ok
theorem xg:oj X (qG .FloorDiv) (rI IN fun i j=>.int (i / j)):=IU fun i j _ _ _ _ _ hc q=>by
 have h1:(0:Int)<j:=hc.1;have h2:j<1073741824:=hc.2;exact floordiv_int (by omega) (by rw [Int.fdiv_eq_ediv_of_nonneg i (by omega)]; exact q) (.inl (PyProof.noPylong_small (by omega)))
theorem f_:oj X (qG .Mod) (rI (fun _ j=>0<j) fun i j=>.int (i % j)):=IU fun i j _ _ _ _ _ hc q=>by
 have h1:(0:Int)<j:=hc;exact mod_int' (by omega) (by rw [Int.fmod_eq_emod_of_nonneg i (by omega)]; exact q)
theorem EH:oj X (qG .Pow) (rI IM fun i j=>.int (i ^ j.toNat)):=IU fun _ _ _ _ _ _ _ hc q=>pow_int_small hc.1 hc.2.1 hc.2.2 q
end
def Ij:V->V->Bool
 | .non,.non=>true | .non,.int _=>true | .int _,.non=>true | .non,.bl _=>true | .bl _,.non=>true | .non,.str _=>true | .str _,.non=>true
 | .int _,.int _=>true | .bl _,.bl _=>true | .str _,.str _=>true | .byt _,.byt _=>true
 | .int _,.str _=>true | .str _,.int _=>true | .bl _,.str _=>true | .str _,.bl _=>true
 | _,_=>false
def AA:R2:=fun x y H Q=>Ij x y=true/\Q (.bl (decide (x=y))) H
def Hu:R2:=fun x y H Q=>Ij x y=true/\Q (.bl (!decide (x=y))) H
theorem Cp {i j:Int}:decide (V.int i=V.int j)=(i == j):=by
 rw [uX];simp
theorem Fp {i j:Bool}:decide (V.bl i=V.bl j)=(i == j):=by
 rw [uX];simp
theorem Ck {i j:Str}:decide (V.str i=V.str j)=(i == j):=by
 rw [uX];simp
theorem Cq {i j:Array UInt8}:decide (V.byt i=V.byt j)=(i.toList == j.toList):=by
 rw [uX];cases i;cases j;simp
section
variable {X:Cx}{a b c:Expr}{ta tb tc:TE}{pos:Pos}
theorem bU {J3:Zd}{σ:St}{H:Hp}{s:Shared}{Q:VK}{k k':Bool}(I:Inv X J3 σ H s) (q:Q (.bl k) H) (e:k=k'):EP X J3 σ Q (.bool k') s:=by
 subst e;exact ⟨.bl k,H,I,rfl,q⟩
theorem jM:oj X (eD .Eq) AA:=by
 intro J3 s σ H x y v u Q I rx ry h;obtain ⟨hs,q⟩:=h;cases x with
 | non =>
  cases rx;cases y with
  | non=>cases ry; exact PySem.EqNone.eq_none_none (bU I q (by simp))
  | bl j=>cases ry; exact PySem.EqNone.eq_none_bool (bU I q (by simp))
  | int j=>obtain ⟨t',rfl⟩:=ry; exact PySem.EqNone.eq_none_int (bU I q (by simp))
  | str j=>obtain ⟨t',rfl⟩:=ry; exact PySem.EqNone.eq_none_str (bU I q (by simp))
  | _=>exact absurd (show false=true from hs) fN
 | bl i =>
  cases rx;cases y with
  | non=>cases ry; exact PySem.EqNone.eq_bool_none (bU I q (by simp))
  | bl j=>cases ry; exact eq_bool (bU I q Fp)
  | str j=>obtain ⟨t',rfl⟩:=ry; exact PySem.EqMixed.eq_bool_str (bU I q (by simp))
  | _=>exact absurd (show false=true from hs) fN
 | int i =>
  obtain ⟨t,rfl⟩:=rx;cases y with
  | non=>cases ry; exact PySem.EqNone.eq_int_none (bU I q (by simp))
  | int j=>obtain ⟨t',rfl⟩:=ry; exact eq_int (bU I q Cp)
  | str j=>obtain ⟨t',rfl⟩:=ry; exact PySem.EqMixed.eq_int_str (bU I q (by simp))
  | _=>exact absurd (show false=true from hs) fN
 | str i =>
  obtain ⟨t,rfl⟩:=rx;cases y with
  | non=>cases ry; exact PySem.EqNone.eq_str_none (bU I q (by simp))
  | bl j=>cases ry; exact PySem.EqMixed.eq_str_bool (bU I q (by simp))
  | int j=>obtain ⟨t',rfl⟩:=ry; exact PySem.EqMixed.eq_str_int (bU I q (by simp))
  | str j=>obtain ⟨t',rfl⟩:=ry; exact eq_str (bU I q Ck)
  | _=>exact absurd (show false=true from hs) fN
 | byt i =>
  obtain ⟨t,rfl⟩:=rx;cases y with
  | byt j=>obtain ⟨t',rfl⟩:=ry; exact PySem.W.eq_bytes (bU I q Cq)
  | _=>exact absurd (show false=true from hs) fN
 | _=>cases y <;> exact absurd (show false=true from hs) fN
theorem yV:oj X (eD .NotEq) Hu:=by
 intro J3 s σ H x y v u Q I rx ry h;obtain ⟨hs,q⟩:=h;cases x with
 | non =>
  cases rx;cases y with
  | non=>cases ry; exact PySem.EqNone.ne_none_none (bU I q (by simp))
  | bl j=>cases ry; exact PySem.EqNone.ne_none_bool (bU I q (by simp))
  | int j=>obtain ⟨t',rfl⟩:=ry; exact PySem.EqNone.ne_none_int (bU I q (by simp))
  | str j=>obtain ⟨t',rfl⟩:=ry; exact PySem.EqNone.ne_none_str (bU I q (by simp))
  | _=>exact absurd (show false=true from hs) fN
 | bl i =>
  cases rx;cases y with
  | non=>cases ry; exact PySem.EqNone.ne_bool_none (bU I q (by simp))
  | bl j=>cases ry; exact ne_bool (bU I q (congrArg not Fp))
  | str j=>obtain ⟨t',rfl⟩:=ry; exact PySem.EqMixed.ne_bool_str (bU I q (by simp))
  | _=>exact absurd (show false=true from hs) fN
 | int i =>
  obtain ⟨t,rfl⟩:=rx;cases y with
  | non=>cases ry; exact PySem.EqNone.ne_int_none (bU I q (by simp))
  | int j=>obtain ⟨t',rfl⟩:=ry; exact ne_int (bU I q (congrArg not Cp))
  | str j=>obtain ⟨t',rfl⟩:=ry; exact PySem.EqMixed.ne_int_str (bU I q (by simp))
  | _=>exact absurd (show false=true from hs) fN
 | str i =>
  obtain ⟨t,rfl⟩:=rx;cases y with
  | non=>cases ry; exact PySem.EqNone.ne_str_none (bU I q (by simp))
  | bl j=>cases ry; exact PySem.EqMixed.ne_str_bool (bU I q (by simp))
  | int j=>obtain ⟨t',rfl⟩:=ry; exact PySem.EqMixed.ne_str_int (bU I q (by simp))
  | str j=>obtain ⟨t',rfl⟩:=ry; exact ne_str (bU I q (congrArg not Ck))
  | _=>exact absurd (show false=true from hs) fN
 | byt i =>
  obtain ⟨t,rfl⟩:=rx;cases y with
  | byt j=>obtain ⟨t',rfl⟩:=ry; exact PySem.W.ne_bytes (bU I q (congrArg not Cq))
  | _=>exact absurd (show false=true from hs) fN
 | _=>cases y <;> exact absurd (show false=true from hs) fN
theorem vj:oj X (eD .Lt) (DH fun i j=>.bl (decide (i<j))):=GA fun _ _ _ _ _ _ _ q=>lt_int q
theorem Ip:oj X (eD .LtE) (DH fun i j=>.bl (decide (i<=j))):=GA fun _ _ _ _ _ _ _ q=>le_int q
theorem yW:oj X (eD .Gt) (DH fun i j=>.bl (decide (j<i))):=GA fun _ _ _ _ _ _ _ q=>gt_int q
theorem Iq:oj X (eD .GtE) (DH fun i j=>.bl (decide (j<=i))):=GA fun _ _ _ _ _ _ _ q=>ge_int q
theorem C6:oj X (eD .In) (fun x y H Q=>∃i j,x=.str i/\y=.str j/\Q (.bl (!(b_.Str.occurrences j i 0 j.length 1).isEmpty)) H):=by
 intro J3 s σ H x y v u Q I rx ry h;obtain ⟨i,j,rfl,rfl,q⟩:=h;obtain ⟨t,rfl⟩:=rx;obtain ⟨t',rfl⟩:=ry;exact in_str (bU I q rfl)
theorem EK (b:Expr) {op:CmpOp}(h:op≠.In:=by decide) (h2:op≠.NotIn:=by decide):kK op b=false:=by
 have e1:(op == CmpOp.In)=false:=by cases op <;> first | rfl | exact absurd rfl h
 have e2:(op == CmpOp.NotIn)=false:=by cases op <;> first | rfl | exact absurd rfl h2
 cases b <;> simp [kK,e1,e2]
theorem BU {op:CmpOp}{r:R2}(ho:oj X (eD op) r) (ha:PE X a ta) (hb:PE X b tb) (hm:kK op b=false):PE X (.Compare a [op] [b] pos) (aD r ta tb):=by
 intro J3 s σ H Q I h;exact wpAny_Compare1 (HP ha hb I h fun v u s2 x y H2 I2 rx ry q=>ho J3 s2 σ H2 x y v u Q I2 rx ry q) hm
def aO (t:TE):TT:=fun σ H Q=>t σ H fun x H'=>∃k,x=.bl k/\Q k H'
theorem BR {op:CmpOp}{r:R2}(ho:oj X (eD op) r) (ha:PE X a ta) (hb:PE X b tb) (hm:kK op b=false):PT X (.Compare a [op] [b] pos) (aO (aD r ta tb)):=by
 intro J3 s σ H Q I h;refine wpAny_isTrue_Compare1 (cF (ha J3 s σ H _ I h) fun v s1 ⟨x,H1,I1,r1,q1⟩=>cF (hb J3 s1 σ H1 _ I1 q1) fun u s2 ⟨y,H2,I2,r2,q2⟩ =>
  cF (ho J3 s2 σ H2 x y v u _ I2 r1 r2 q2) fun c s3 ⟨z,H3,I3,r3,k,e,q3⟩=>?_) hm
 subst e;cases r3;exact sn ⟨H3,I3,q3⟩
theorem qi:(aj:Nat)<2 ^ 63:=by rw [gv]; decide
theorem tD:oj X (qG .Add) (fun x y H Q=>∃i j,x=.str i/\y=.str j/\i.length+j.length<=aj/\Q (.str (i++j)) H):=by
 intro J3 s σ H x y v u Q I rx ry h;obtain ⟨i,j,rfl,rfl,hz,q⟩:=h;obtain ⟨t,rfl⟩:=rx;obtain ⟨t',rfl⟩:=ry;exact add_str (fun t' tk=>⟨.str (i++j),H,I.tok _,⟨_,rfl⟩,q⟩) hz
theorem vals1 {x:V}{us:Zf}(r:a_ [x] us):∃u,us=[u]/\RelV x u:=by
 cases r with
 | cons r1 r2=>cases r2; exact ⟨_,rfl,r1⟩
theorem vals2 {x y:V}{us:Zf}(r:a_ [x,y] us):∃u w',us=[u,w']/\RelV x u/\RelV y w':=by
 cases r with
 | cons r1 r2 =>
  cases r2 with
  | cons r3 r4=>cases r4; exact ⟨_,_,rfl,r1,r3⟩
theorem Dy (hc:X.calm=true):gE X (.builtin "max") (fun xs H Q=>∃i j,xs=[.int i,.int j]/\Q (.int (if j > i then j else i)) H):=by
 intro J3 s σ H xs us Q I r h;obtain ⟨i,j,rfl,q⟩:=h;obtain ⟨u,w',rfl,⟨t,rfl⟩,⟨t',rfl⟩⟩:=vals2 r;refine max_two_ints (I.ok.hd hc) fun h' tk k=>⟨_,H,I.kept k,?_,q⟩;by_cases hj:j > i
 ·rw [if_pos hj,if_pos hj]; exact ⟨_,rfl⟩
 ·rw [if_neg hj,if_neg hj]; exact ⟨_,rfl⟩
end
end L2
namespace L2
open PySem PySem.Spec PyProof.Rows
structure Bh (h:Heap) (x dx C:Addr) (mA:Str->Option Value):Prop where
 obj:h.get? x=some (qK C dx)
 ns:h.Ns1 dx mA
 ne:dx≠x
theorem De {h:Heap}{dx:Addr}{mA:Str->Option Value}(n:h.Ns1 dx mA):∃od,h.get? dx=some od/\∀name,Bx name od=some (mA name):=by
 obtain ⟨o,es,ep,ho,hd,hk,_,hm⟩:=n;refine ⟨o,ho,fun name=>?_⟩;have e:=hm name;unfold nsFind findBy at e;rw [<-Array.find?_toList] at e;unfold Bx;rw [hd];dsimp only;split
 ·rename_i y q;rw [q] at e;exact congrArg some e
 ·rename_i q;rw [q] at e;have a:es.toList.any (·.refKey)=false:=by
   rw [List.any_eq_false];intro y hy;obtain ⟨z,t,hkey⟩:=hk y (Array.mem_toList_iff.mp hy);simp [jj.refKey,hkey]
  have a':¬es.toList.any (·.refKey)=true:=by rw [a]; exact fN
  rw [if_neg a'];exact congrArg some e
theorem Bh.look {h:Heap}{x dx C:Addr}{mA:Str->Option Value}(I:Bh h x dx C mA):∃od,PySem.W.InstAt h x (qK C dx) C (some od)/\∀name,Bx name od=some (mA name) :=
 let ⟨od,ho,hl⟩:=De I.ns
 ⟨od,⟨I.obj,rfl,rfl,ho⟩,hl⟩
section
variable {prog:bW}{w:World}{A:Around}{E:Zc}{s:Shared}{K:Za}{x dx C f:Addr}{mA:Str->Option Value}{name:Str}{v:Value}
theorem GI {expr:Bool}{Q:Zc}(X:K.In s.heap) (I:Bh s.heap x dx C mA) (hg:uW K C name=true) (hh:yd K C=true)
  (ha:dF K (.ref C) name=some none) (hv:mA name=some v) (hv':PySem.W.handedIn v=true) (h:Q v { s with toks:=s.toks+1 }) :
  wpAny (model prog w) A (getAttr (.ref x) name expr) Q E s:=by
 obtain ⟨od,J,hl⟩:=I.look;exact PySem.W.get_value X J (PySem.W.plainGet_of hg).1 (PySem.W.findObj_own hh ha rfl (by rw [hl,hv])) hv' h
theorem Fg {pl:Sem Bool}{Q:Value×List Value->Shared->Prop}(X:K.In s.heap) (I:Bh s.heap x dx C mA) (hg:uW K C name=true)
  (hf:dF K (.ref C) name=some (some (.ref f))) (ht:yb K (.ref f)=true) (hv:mA name=none) (h:Q (.ref f,[.ref x]) s) :
  wpAny (model prog w) A (qF (.ref x) name pl) Q E s:=by
 obtain ⟨od,J,hl⟩:=I.look;exact PySem.W.method_fn X J (PySem.W.plainGet_of hg).1 (PySem.W.plainGet_of hg).2 hf (beq_iff_eq.mp ht) (by show (Bx name od).map (·.isSome)=some false; rw [hl,hv]; rfl) h
theorem F_ {ns:Zb}{Q:Unit->Shared->Prop}(X:K.In s.heap) (I:Bh s.heap x dx C mA)
  (hs:dF K (.ref C) "__setattr__"=some (some (.builtin "object.__setattr__"))) (hp:Bw K C=true) (ht:PySem.W.takerIn K C name=some none) (hh:yd K C=true)
  (hw:PySem.Within mA ns) (hsz:ns.length<=aj)
  (h:∀h',Bh h' x dx C (fun y=>if y=name then some v else mA y)->fJ dx s.heap h'->Q () { s with heap:=h',toks:=s.toks+2 }) :
  wpAny (model prog w) A (setAttr (.ref x) name v) Q E s:=by
 obtain ⟨od,J,hl⟩:=I.look;refine PySem.W.set_plain X J hs (PySem.W.osa_open (s:={ s with toks:=s.toks+1 }) (r:=none) X J hp ht fun b=>?_);obtain ⟨cd,hc,hd'⟩:=PySem.W.any_some hh;have hx:s.heap.get? x=some ⟨.ref C,some dx,.plain,#[]⟩:=I.obj;refine ak (aI (ak (ak (wpAny_loadPart hx (ak (PySem.W.Looks.here (s:={ s with toks:=s.toks+1 }) (PySem.W.looks_clsIn X hc) ?_))))));rw [hd'];refine aI (a:=some dx) (ak (aI (ak ?_)));refine wpAny_nsSet1 (s:={ s with toks:=s.toks+1 }) I.ns fun h' hn2 hs2=>?_;obtain ⟨oD,esD,epD,hoD,hdD,hcD⟩:=hn2.count (PySem.Within.cons name v hw);refine ak (wpAny_lookBehind hoD (by rw [hdD]; exact pastItsLine_dict (bv hcD (by rw [em]; omega))) ?_);exact aI (h _ ⟨(hs2.2 _ (dz I.ne)).trans I.obj,hn2,I.ne⟩ hs2)
theorem ET {R:Result->Shared->Prop}{vs:Zf}{kw:List (Str×Value)}(X:K.In s.heap) (hm:rS K C=true)
  (hi:dF K (.ref C) "__init__"=some (some (.ref f))) (hf:PySem.W.typeIn K (.ref f)=some (.type "function"))
  (h:zzl77 (model prog w) (A.under (.builtin "type.__call__" ⟨.ref C::vs,kw⟩)) (.call (.ref f) ⟨.ref (s.heap.objs.size+1)::vs,kw⟩) (PySem.W.InitBack (s.heap.objs.size+1) R)
   { s with heap:=(s.heap.push ow).push (qK C s.heap.objs.size) }) :
  zzl77 (model prog w) A (.call (.ref C) ⟨vs,kw⟩) R s:=by
 obtain ⟨hh,g,d,t,os⟩:=s;exact PySem.W.make_core (PySem.W.makes_of X hm) (PySem.W.looks_findIn X hi) (fun self=>PySem.W.bind_fn X self hf) (.inl rfl) h
end
def cI (f:Str) (v:V):List (Str×V)->List (Str×V)
 | []=>[(f,v)]
 | (g,x)::r=>if g=f then (g,v)::r else (g,x)::cI f v r
theorem eM (f g:Str) (v:V):∀fs:List (Str×V),(cI f v fs).lookup g=if g=f then some v else fs.lookup g
 | []=>by
  show kJ g [(f,v)]=_;by_cases h:g=f
  ·have hb:(g == f)=true:=beq_iff_eq.mpr h;simp only [kJ,hb,if_pos h]
  ·have hb:(g == f)=false:=beq_eq_false_iff_ne.mpr h;simp only [kJ,hb,if_neg h]
 | (k,x)::r=>by
  have ih:=eM f g v r;rw [show cI f v ((k,x)::r)=(if k=f then (k,v)::r else (k,x)::cI f v r) from rfl]
  by_cases hk:k=f
  ·rw [if_pos hk];by_cases h:g=k
   ·have hb:(g == k)=true:=beq_iff_eq.mpr h;simp only [kJ,hb,if_pos (h.trans hk)]
   ·have hb:(g == k)=false:=beq_eq_false_iff_ne.mpr h;simp only [kJ,hb,if_neg (fun e:g=f=>h (e.trans hk.symm))]
  ·rw [if_neg hk];by_cases h:g=k
   ·have hb:(g == k)=true:=beq_iff_eq.mpr h;simp only [kJ,hb,if_neg (fun e:g=f=>hk (h.symm.trans e))]
   ·have hb:(g == k)=false:=beq_eq_false_iff_ne.mpr h;simp only [kJ,hb];exact ih
theorem qj (f:Str) (v:V):∀fs:List (Str×V),f∈(cI f v fs).map (·.1)/\∀g,g∈fs.map (·.1)->g∈(cI f v fs).map (·.1)
 | []=>⟨by simp [cI],fun g h=>by simp at h⟩
 | (k,x)::r=>by
  obtain ⟨i1,i2⟩:=qj f v r;rw [show cI f v ((k,x)::r)=(if k=f then (k,v)::r else (k,x)::cI f v r) from rfl]
  by_cases hk:k=f
  ·rw [if_pos hk];subst hk;exact ⟨by simp,fun g h=>by simpa using h⟩
  ·rw [if_neg hk];refine ⟨?_,fun g h=>?_⟩
   ·rw [bc];exact fx _ i1
   ·rw [bc] at h ⊢;rcases c9.mp h with e | e
    ·exact c9.mpr (.inl e)
    ·exact fx _ (i2 g e)
theorem qS (f:Str) (v:V):∀fs:List (Str×V),(cI f v fs).length<=fs.length+1
 | []=>by simp [cI]
 | (k,x)::r=>by
  have ih:=qS f v r;rw [show cI f v ((k,x)::r)=(if k=f then (k,v)::r else (k,x)::cI f v r) from rfl]
  by_cases hk:k=f
  ·rw [if_pos hk,em,em]; omega
  ·rw [if_neg hk,em,em]; omega
theorem kR.some_of {v:V}{o:Option Value}(r:kR (some v) o):∃u,o=some u/\RelV v u:=by
 cases o with
 | none=>exact (show False from r).elim
 | some u=>exact ⟨u,rfl,r⟩
theorem kR.none_of {o:Option Value}(r:kR none o):o=none:=by
 cases o with
 | none=>rfl
 | some u=>exact (show False from r).elim
theorem Dn {v:V}{u:Value}(r:RelV v u):PySem.W.handedIn u=true:=by
 cases v with
 | non=>cases (show u=Value.none from r); rfl
 | bl b=>cases (show u=Value.bool b from r); rfl
 | int i=>obtain ⟨t,e⟩:=(show ∃t,u=Value.int i t from r); cases e; rfl
 | str x=>obtain ⟨t,e⟩:=(show ∃t,u=Value.str x t from r); cases e; rfl
 | byt b=>obtain ⟨t,e⟩:=(show ∃t,u=Value.bytes b t from r); cases e; rfl
 | flt b=>obtain ⟨t,e⟩:=(show ∃t,u=Value.float b t from r); cases e; rfl
 | ref a=>cases (show u=Value.ref a from r); rfl
 | ty n=>cases (show u=Value.type n from r); rfl
section
variable {P:bW}{w:World}{H H':Hp}{h h':Heap}{a C dx:Addr}{fs fs':List (Str×V)}
theorem xy {K:Za}(hok:mq P w K H h) (e:H a=some (.ins C dx fs)):∃mA,Bh h a dx C mA/\(∀f,kR (fs.lookup f) (mA f))/\PySem.Within mA (fs.map (·.1))/\fs.length<=1000/\H dx=some (.own a):=by
 obtain ⟨d,z,ne,ob,mA,n,r,q⟩:=(show cA P w K H h a (.ins C dx fs) from hok a _ e);exact ⟨mA,⟨ob,n,ne⟩,r,q,z,d⟩
end
structure DG (K:Za) (C:Addr):Prop where
 pg:uW K C Str.empty=true
 hd:yd K C=true
 po:Bw K C=true
 sa:dF K (.ref C) "__setattr__"=some (some (.builtin "object.__setattr__"))
theorem DG.get {K:Za}{C:Addr}(c:DG K C) (f:Str):uW K C f=true:=c.pg
def dO (K:Za) (C:Addr) (f:Str):Prop:=dF K (.ref C) f=some none
theorem dO.taker {K:Za}{C:Addr}{f:Str}(n:dO K C f):PySem.W.takerIn K C f=some none:=by
 unfold PySem.W.takerIn;rw [show dF K (.ref C) f=some none from n]
 rfl
structure G0 (K:Za) (C:Addr) (m:Str) (f:Addr):Prop where
 at_:dF K (.ref C) m=some (some (.ref f))
 fn:yb K (.ref f)=true
 kp:iC K (.ref f)=true
section
variable {X:Cx}{J3:Zd}{σ:St}{H:Hp}{s:Shared}{a C dx:Addr}{fs:List (Str×V)}{f:Str}{v:V}{A:Around}{E:Zc}
theorem AX {b:Bool}{Q:Zc}(I:Inv X J3 σ H s) (e:H a=some (.ins C dx fs)) (c:DG X.K C) (n:dO X.K C f) (l:fs.lookup f=some v)
  (h:∀u s',Inv X J3 σ H s'->RelV v u->Q u s'):wpAny (model X.prog X.w) A (getAttr (.ref a) f b) Q E s:=by
 obtain ⟨mA,O,r,_,_,_⟩:=xy I.hok e;obtain ⟨u,hu,ru⟩:=kR.some_of (v:=v) (o:=mA f) (by rw [<-l]; exact r f);exact GI I.kIn O (c.get f) c.hd n hu (Dn ru) (h u _ (I.tok _) ru)
theorem tO {m:Str}{g:Addr}{pl:Sem Bool}{Q:Value×List Value->Shared->Prop}(I:Inv X J3 σ H s) (e:H a=some (.ins C dx fs)) (c:DG X.K C) (k:G0 X.K C m g) (l:fs.lookup m=none)
  (h:Q (.ref g,[.ref a]) s):wpAny (model X.prog X.w) A (qF (.ref a) m pl) Q E s:=by
 obtain ⟨mA,O,r,_,_,_⟩:=xy I.hok e;have hn:mA m=none:=kR.none_of (by rw [<-l]; exact r m);exact Fg I.kIn O (c.get m) k.at_ k.fn hn h
theorem Aq {y:V}{u:Value}{Q:Unit->Shared->Prop}(I:Inv X J3 σ H s) (e:H a=some (.ins C dx fs)) (c:DG X.K C) (n:dO X.K C f) (hl:fs.length<1000) (ry:RelV y u)
  (h:∀s',Inv X J3 σ (upd H a (.ins C dx (cI f y fs))) s'->Q () s'):wpAny (model X.prog X.w) A (setAttr (.ref a) f u) Q E s:=by
 obtain ⟨mA,O,r,wi,_,ho⟩:=xy I.hok e;have hz:(fs.map (·.1)).length<=aj:=by rw [ai,gv]; omega
 refine F_ I.kIn O c.sa c.po n.taker c.hd wi hz fun h' O' sb=>h _ ?_;have hd:∃o,h'.get? dx=some o:=let ⟨o,_,_,e',_⟩:=O'.ns; ⟨o,e'⟩;refine I.write (x:=a) (e:=dx) (by rw [e]; exact oq) (.inr ho) (fun b q hb z=>(sb.2 b hb).trans z) hd ?_;refine ⟨by rw [af O.ne]; exact ho,?_,O.ne,O'.obj,_,O'.ns,fun g=>?_,fun g hg=>?_⟩
 ·have:=qS f y fs; omega
 ·show kR ((cI f y fs).lookup g) (if g=f then some u else mA g)
  rw [eM];by_cases q:g=f
  ·rw [if_pos q,if_pos q]; exact ry
  ·rw [if_neg q,if_neg q]; exact r g
 ·by_cases q:g=f
  ·rw [q]; exact (qj f y fs).1
  ·refine (qj f y fs).2 g (wi g fun z=>hg ?_);show (if g=f then some u else mA g)=none
   rw [if_neg q]; exact z
theorem Inv.made (I:Inv X J3 σ H s):Inv X J3 σ (upd (upd H s.heap.objs.size (.own (s.heap.objs.size+1))) (s.heap.objs.size+1) (.ins C s.heap.objs.size []))
  { s with heap:=(s.heap.push ow).push (qK C s.heap.objs.size) }:=by
 have e1:(s.heap.push ow).get? s.heap.objs.size=some ow:=cL s.heap rfl;have e2:((s.heap.push ow).push (qK C s.heap.objs.size)).get? (s.heap.objs.size+1)=some (qK C s.heap.objs.size):=by
  have:=cL (s.heap.push ow) (o:=qK C s.heap.objs.size) rfl;rwa [oo] at this
 have e3:(s.heap.push ow).Ns s.heap.objs.size (fun _=>none):=⟨ow,#[],_,e1,rfl,(fun e he=>absurd he (by simp)),fun _=>rfl⟩;have I1:=I.laid (a:=s.heap.objs.size) (o:=.own (s.heap.objs.size+1)) (h':=s.heap.push ow) (t':=s.toks) (fun b u q=>bu _ q) (aE _) ⟨_,e1⟩;refine I1.laid (a:=s.heap.objs.size+1) (o:=.ins C s.heap.objs.size []) (t':=s.toks) (fun b u q=>bu _ q) (Nat.le_of_eq (oo _ _)) ?_;have ne:s.heap.objs.size≠s.heap.objs.size+1:=c_ (Nat.lt_succ_self _);refine ⟨by rw [af ne,aa],cV _,ne,e2,fun _=>none,(Heap.Ns1.of_empty e3).at fun o q=>bu _ q,fun _=>oq,fun y hy=>absurd rfl hy⟩
theorem GS {prog:bW}{w:World}{env:Env}{e:Expr}{f:Str}{pos:Pos}{s:Shared}{Q:Zc}(hb:rR e f env (eval e env)=eval e env)
  (h:wpAny (model prog w) A (eval e env) (fun o s₁=>wpAny (model prog w) A (getAttr o f true) Q E s₁) E s):wpAny (model prog w) A (eval (.Attribute e f pos) env) Q E s :=
 Attribute_any_ h (by rw [arm_eval_Attribute,hb])
end
def fT (K:Za) (ta:TE) (f:Str):TE:=fun σ H Q=>ta σ H fun x H1=>∃a C dx fs v,x=.ref a/\H1 a=some (.ins C dx fs)/\DG K C/\dO K C f/\fs.lookup f=some v/\Q v H1
def oQ (K:Za) (ta tv:TE) (f:Str):TS:=fun D σ H=>tv σ H fun y H1=>ta σ H1 fun x H2=>∃a C dx fs,x=.ref a/\H2 a=some (.ins C dx fs)/\DG K C/\dO K C f/\fs.length<1000 /\
 D.nx σ (upd H2 a (.ins C dx (cI f y fs)))
section
variable {X:Cx}{o e value:Expr}{f:Str}{pos pos' J7:Pos}{ta tv:TE}
theorem cf (he:PE X e ta) (hb:rR e f X.env (eval e X.env)=eval e X.env):PE X (.Attribute e f pos) (fT X.K ta f):=by
 intro J3 s σ H Q I h;refine GS hb (cF (he J3 s σ H _ I h) fun u s1 ⟨x,H1,I1,rx,a,C,dx,fs,v,ex,ea,c,n,l,q⟩=>?_);subst ex;obtain rfl:u=Value.ref a:=rx;exact AX I1 ea c n l fun u' s2 I2 ru=>⟨v,H1,I2,ru,q⟩
theorem gG (ha:PE X o ta) (hv:PE X value tv) (hs:qH value (some (.Attribute o f pos')) pos.line X.env=pure false):PS X (.Assign [.Attribute o f pos'] value pos) (oQ X.K ta tv f):=by
 intro J3 s σ H D I h;refine plainObj_wpAny_Assign_Attribute (cF (hv J3 s σ H _ I h) fun u s1 ⟨y,H1,I1,ry,q⟩=>cF (ha J3 s1 σ H1 _ I1 q) fun ov s2 ⟨x,H2,I2,rx,a,C,dx,fs,ex,ea,c,n,l,q2⟩=>?_) hs;subst ex;obtain rfl:ov=Value.ref a:=rx;exact Aq I2 ea c n l ry fun s3 I3=>⟨σ,_,I3,q2⟩
end
end L2
namespace L2
open PySem PySem.Spec PyProof.Rows
structure ff (k:Nat) (A:Around):Prop where
 hd:A.handled=none
 dp:A.depth+3 * k+5<recursionLimit
 un:A.units+16 * k+200<cLine
theorem ff.mono {j k:Nat}{A:Around}(r:ff k A) (h:j<=k):ff j A:=⟨r.hd,by have:=r.dp; omega,by have:=r.un; omega⟩
theorem ff.deeper {k:Nat}{A:Around}(r:ff (k+1) A) (env:Env):ff k (A.deeper env) :=
 ⟨r.hd,by have:=r.dp; show A.depth+1+3 * k+5<_; omega,by have:=r.un; show A.units+3+16 * k+200<_; omega⟩
theorem AK {A:Around}{C:Addr}{us:Zf}{kw:List (Str×Value)}:(A.under (.builtin "type.__call__" ⟨.ref C::us,kw⟩)).depth=A.depth+1:=by
 first | rfl | simp [Around.under,Code.weight,Code.isCreation,Code.isGuard,Code.isCaller,Code.frames,Code.isFrame,guardIds]
theorem AJ {A:Around}{C:Addr}{us:Zf}{kw:List (Str×Value)}:(A.under (.builtin "type.__call__" ⟨.ref C::us,kw⟩)).units=A.units+1:=by
 first | rfl | simp [Around.under,Code.cUnits,Code.frames,Code.isFrame]
theorem ff.make {k:Nat}{A:Around}(r:ff (k+1) A) (C:Addr) (us:Zf) (kw:List (Str×Value)):ff k (A.under (.builtin "type.__call__" ⟨.ref C::us,kw⟩)) :=
 ⟨r.hd,by have:=r.dp; rw [AK]; omega,by have:=r.un; rw [AJ]; omega⟩
theorem ff.depth {k:Nat}{A:Around}(r:ff k A):A.depth<recursionLimit:=by have:=r.dp; omega
theorem ff.units {k:Nat}{A:Around}(r:ff k A):A.units+64<cLine:=by have:=r.un; omega
def aT:TA:=fun _ H Q=>Q [] H
def ar (ta:TE) (tr:TA):TA:=fun σ H Q=>ta σ H fun x H1=>tr σ H1 fun xs H2=>Q (x::xs) H2
abbrev aA (a:TE):TA:=ar a aT
abbrev aS (a b:TE):TA:=ar a (ar b aT)
abbrev eU (a b c:TE):TA:=ar a (ar b (ar c aT))
section
variable {X:Cx}{e:Expr}{es:List Expr}{te:TE}{t:TA}{pos:Pos}
theorem bO:PA X [] aT:=fun _ _ _ _ H Q I h=>Calls.spliced_nil ⟨[],H,I,.nil,h⟩
theorem cy (ha:PE X e te) (hr:PA X es t) (hs:aL (e::es) X.env=(false,eval e X.env)::aL es X.env:=by rfl):PA X (e::es) (ar te t):=by
 intro pos J3 s σ H Q I h;rw [hs];show wpAny _ _ (spliced ((false,eval e X.env)::backTo pos (aL es X.env))) _ _ s;refine Bv (cF (ha J3 s σ H _ I h) fun u s1 ⟨x,H1,I1,r1,q1⟩=>?_);exact cF (hr pos J3 s1 σ H1 _ I1 q1) fun us s2 ⟨xs,H2,I2,r2,q2⟩=>⟨x::xs,H2,I2,.cons r1 r2,q2⟩
def be (t:TA):TE:=fun σ H Q=>t σ H fun xs H1=>xs.length<=aj/\∀p,H1 p=none->Q (.ref p) (upd H1 p (.tup xs))
def cq (t:TA):TE:=fun σ H Q=>t σ H fun xs H1=>xs.length<=aj/\∀p,H1 p=none->Q (.ref p) (upd H1 p (.lst xs))
theorem aH {x1}(h:PA X es t):PE X (.Tuple es x1 pos) (be t):=by
 intro J3 s σ H Q I hq;refine wpAny_Tuple_spliced (cF (h pos J3 s σ H _ I hq) fun us s1 ⟨xs,H1,I1,r,z,q⟩=>⟨by rw [<-r.length]; exact z,?_⟩);have hf:H1 s1.heap.objs.size=none:=I1.hok.fresh (aE _);refine ⟨.ref s1.heap.objs.size,upd H1 s1.heap.objs.size (.tup xs),I1.laid (t':=s1.toks) (fun b u e=>bu _ e) (aE _) ?_,rfl,q _ hf⟩;exact ⟨z,us,r,⟨_,cL _ rfl,rfl,_,rfl⟩⟩
theorem aW (h:PA X es t):PE X (.List es pos) (cq t):=by
 intro J3 s σ H Q I hq;refine wpAny_List_spliced (cF (h pos J3 s σ H _ I hq) fun us s1 ⟨xs,H1,I1,r,z,q⟩=>⟨by rw [<-r.length]; exact z,?_⟩);have hf:H1 s1.heap.objs.size=none:=I1.hok.fresh (aE _);refine ⟨.ref s1.heap.objs.size,upd H1 s1.heap.objs.size (.lst xs),I1.laid (t':=s1.toks) (fun b u e=>bu _ e) (aE _) ?_,rfl,q _ hf⟩;exact ⟨z,us,0,r,cL _ rfl⟩
end
abbrev Sp:=List V->Hp->VK->XK->Prop
abbrev DP:=List Env->Hp->Shared->XK->Value->Shared->Prop
structure Bq (P:bW) (w:World) (K:Za) (mg:Str->Option Value) (base:Heap) (A:Around) (outer:List Env) (s:Shared) (H:Hp):Prop where
 frames:A.frames=some outer
 mod:Mod K mg base
 bs:∀b o,base.get? b=some o->s.heap.get? b=some o/\H b=none
 bsz:base.objs.size<=s.heap.objs.size
 funs:s.heap.FunFrames base outer
 frf:∀b∈DK outer,H b=none
 hok:mq P w K H s.heap
 bare:ox s.gens
def CE (outer:List Env) (P:bW) (w:World) (K:Za) (H:Hp) (s:Shared) (Q:VK) (u:Value) (s':Shared):Prop :=
 ∃v H',s'.os=s.os/\ox s'.gens/\Un (DK outer) [] H H' s.heap s'.heap/\mq P w K H' s'.heap/\RelV v u/\Q v H'
def CR (CX:DP) (outer:List Env) (P:bW) (w:World) (K:Za) (H:Hp) (s:Shared) (Q:VK) (E:XK) (r:Result) (s':Shared):Prop :=
 match r with
 | .ok (.ret u)=>CE outer P w K H s Q u s'
 | .ok _=>False
 | .error e=>CX outer H s E e s'
structure mI (P:bW) (w:World) (K:Za) (mg:Str->Option Value) (base:Heap) (CX:DP) (k:Nat) (f:Addr) (fd:kS) (ps:Zb) (sp:Sp):Prop where
 len:∀vs H Q E,sp vs H Q E->vs.length=ps.length
 run:∀(A:Around) (outer:List Env) (s:Shared) (H:Hp) (args:Args) (us:Zf) (vs:List V) (Q:VK) (E:XK),ff k A->Bq P w K mg base A outer s H->rQ s fd args (ps.zip us)->a_ vs us->sp vs H Q E ->
  zzl77 (model P w) A (.call (.ref f) args) (CR CX outer P w K H s Q E) s
theorem Bq.make {P:bW}{w:World}{K:Za}{mg:Str->Option Value}{base:Heap}{A:Around}{outer:List Env}{s:Shared}{H:Hp}(e:Bq P w K mg base A outer s H) (C:Addr) (us:Zf) (kw:List (Str×Value)) :
  Bq P w K mg base (A.under (.builtin "type.__call__" ⟨.ref C::us,kw⟩)) outer s H:=⟨by first | exact e.frames | (simpa [Around.under,Code.envs,Code.isFrame,pushEnvs] using e.frames),e.mod,e.bs,e.bsz,e.funs,e.frf,e.hok,e.bare⟩
section
variable {X:Cx}{J3:Zd}{σ:St}{H:Hp}{s s':Shared}
theorem Inv.env0 (I:Inv X J3 σ H s):Bq X.prog X.w X.K X.mg X.base X.A X.stack s H :=
 ⟨I.ok.frames,I.ok.mod,I.bs,bv I.ok.bsz I.sz,I.stack,I.stkFree,I.hok,I.bare⟩
theorem Inv.after {Q:VK}{u:Value}(I:Inv X J3 σ H s) (h:CE X.stack X.prog X.w X.K H s Q u s'):EP X J3 σ Q u s':=by
 obtain ⟨v,H',os,bare,un,hok,r,q⟩:=h;obtain ⟨hh,g,d,t,os'⟩:=s';obtain rfl:os'=s.os:=os;exact ⟨v,H',I.call (h':=hh) (g':=g) (d':=d) (t':=t) (ch:=[]) un hok bare (fun b z=>absurd z (by simp)),r,q⟩
end
def G6 (sp:Sp) (dvs:List V) (E:XK) (t:TA):TE:=fun σ H Q=>t σ H fun vs H1=>sp (vs++dvs) H1 Q E
def dB (C:Addr) (m:Str) (sp:Sp) (dvs:List V) (E:XK) (ta:TE) (t:TA):TE:=fun σ H Q=>ta σ H fun x H1=>∃a dx fs,x=.ref a/\H1 a=some (.ins C dx fs)/\fs.lookup m=none /\
 t σ H1 fun vs H2=>sp (x::(vs++dvs)) H2 Q E
def yu (C:Addr) (sp:Sp) (dvs:List V) (E:XK) (t:TA):TE:=fun σ H Q=>t σ H fun vs H1=>∀x dx,H1 x=none->H1 dx=none->dx≠x ->
 sp (.ref x::(vs++dvs)) (upd (upd H1 dx (.own x)) x (.ins C dx [])) (fun v H2=>v=.non/\Q (.ref x) H2) E
def Binds (K:Za) (fd:kS) (ps:Zb) (ds:Zf):Prop :=
 ∀(s:Shared) (us:Zf),K.In s.heap->(us++ds).length=ps.length->rQ s fd ⟨us,[]⟩ (ps.zip (us++ds))
theorem Binds.all {K:Za}{fd:kS}{ps:Zb}(h:∀us:List Value,us.length=ps.length->bindArgs fd ⟨us,[]⟩=pure (ps.zip us)):Binds K fd ps []:=fun s us _ hl=>by
 rw [fD] at hl ⊢;exact .of_eq (h us hl)
def nR (CX:DP) (X:Cx) (E:XK):Prop:=∀(J3:Zd) (σ:St) (H:Hp) (s:Shared) (e:Value) (s':Shared),Inv X J3 σ H s->CX X.stack H s E e s'->X.xe e s'
section
variable {X:Cx}{CX:DP}{k:Nat}{f C:Addr}{fd:kS}{ps:Zb}{sp:Sp}{dvs:List V}{ds:Zf}{E:XK}{x m:Str}{p pos J5:Pos}{e o:Expr}{es:List Expr}{ta:TE}{t:TA}
theorem Ar {J3:Zd}{σ:St}{H:Hp}{s:Shared}{Q:VK}{us:Zf}{vs:List V}(F:mI X.prog X.w X.K X.mg X.base CX k f fd ps sp) (hr:ff k X.A) (hb:Binds X.K fd ps ds) (hd:a_ dvs ds) (hx:nR CX X E)
  (I:Inv X J3 σ H s) (r:a_ vs us) (h:sp (vs++dvs) H Q E):wpAny (model X.prog X.w) X.A (call (.ref f) us) (EP X J3 σ Q) X.xe s:=by
 have r2:a_ (vs++dvs) (us++ds):=r.append hd;have hl:(us++ds).length=ps.length:=by rw [<-r2.length]; exact F.len _ _ _ _ h
 refine wpAny_call (Bu (F.run X.A X.stack s H ⟨us,[]⟩ (us++ds) (vs++dvs) Q E hr I.env0 (hb s us I.kIn hl) r2 h) fun r s' hq=>?_);cases r with
 | error e=>exact hx J3 σ H s e s' I hq
 | ok fl =>
  cases fl with
  | ret u=>exact I.after hq
  | next=>exact jx hq
  | brk=>exact jx hq
  | cont=>exact jx hq
theorem Gz (F:mI X.prog X.w X.K X.mg X.base CX k f fd ps sp) (hr:ff k X.A) (hg:Gl X x) (hm:X.mg x=some (.ref f)) (hk:iC X.K (.ref f)=true) (hb:Binds X.K fd ps ds) (hd:a_ dvs ds) (hx:nR CX X E)
  (ha:PA X (e::es) t) (hdb:(x == ("__debug__":Str))=false:=by decide) (he:aL (e::es) X.env=(false,eval e X.env)::aL es X.env:=by rfl) (hpl:(backTo pos (aL es X.env)).any (·.1)=false:=by rfl) :
  PE X (.Call (.Name x p) (e::es) [] pos) (G6 sp dvs E t):=by
 intro J3 s σ H Q I h;refine Bt (xn I hg hm ?_ hdb);refine PySem.W.callWith_K (h₀:=X.base) I.ok.mod.kin hk (cF (ha pos J3 s σ H _ I h) fun us s1 ⟨vs,H1,I1,r,q⟩=>⟨I1.kIn,?_⟩) he hpl;exact Ar F hr hb hd hx I1 r q
theorem Gv {pl:Sem Bool}(he:PE X o ta) (c:DG X.K C) (hm:G0 X.K C m f) (F:mI X.prog X.w X.K X.mg X.base CX k f fd ps sp) (hr:ff k X.A) (hb:Binds X.K fd ps ds) (hd:a_ dvs ds) (hx:nR CX X E) (ha:PA X (e::es) t)
  (hst:aL (e::es) X.env=(false,eval e X.env)::aL es X.env:=by rfl) (hpl:(backTo pos (aL es X.env)).any (·.1)=false:=by rfl)
  (ht:eval (.Call (.Attribute o m J5) (e::es) [] pos) X.env=(do
   let ov <- eval o X.env
   qI J5.atName
   let (f,first) <- kT [ov] (qF ov m pl)
   uV pos f first (backTo pos (aL (e::es) X.env)) (on pos (ol [] X.env))):=by rfl) :
  PE X (.Call (.Attribute o m J5) (e::es) [] pos) (dB C m sp dvs E ta t):=by
 intro J3 s σ H Q I h;refine PySem.W.methodCall_KW (pl:=pl) (cF (he J3 s σ H _ I h) fun u s1 ⟨x,H1,I1,rx,a,dx,fs,ex,ea,l,q⟩=>?_) ht;subst ex;obtain rfl:u=Value.ref a:=rx;refine tO I1 ea c hm l ?_;refine PySem.W.callWith_K (first:=[.ref a]) (h₀:=X.base) I.ok.mod.kin hm.kp (cF (ha pos J3 s1 σ H1 _ I1 q) fun us s2 ⟨vs,H2,I2,r,q2⟩=>⟨I2.kIn,?_⟩) hst hpl
 exact Ar (us:=.ref a::us) (vs:=.ref a::vs) F hr hb hd hx I2 (.cons rfl r) q2
theorem EF {pl:Sem Bool}(he:PE X o ta) (c:DG X.K C) (hm:G0 X.K C m f) (F:mI X.prog X.w X.K X.mg X.base CX k f fd ps sp) (hr:ff k X.A) (hb:Binds X.K fd ps ds) (hd:a_ dvs ds) (hx:nR CX X E)
  (ht:eval (.Call (.Attribute o m J5) [] [] pos) X.env=(do
   let ov <- eval o X.env
   qI J5.atName
   let (f,first) <- kT [ov] (qF ov m pl)
   uV pos f first (backTo pos (aL [] X.env)) (on pos (ol [] X.env))):=by rfl) :
  PE X (.Call (.Attribute o m J5) [] [] pos) (dB C m sp dvs E ta aT):=by
 intro J3 s σ H Q I h;refine PySem.W.methodCall_KW (pl:=pl) (cF (he J3 s σ H _ I h) fun u s1 ⟨x,H1,I1,rx,a,dx,fs,ex,ea,l,q⟩=>?_) ht;subst ex;obtain rfl:u=Value.ref a:=rx;refine tO I1 ea c hm l ?_;exact PySem.W.callWith_K0 (first:=[.ref a]) I1.kIn hm.kp (Ar (us:=[.ref a]) (vs:=[.ref a]) F hr hb hd hx I1 (.cons rfl .nil) q)
structure Mk (K:Za) (C f:Addr):Prop where
 makes:rS K C=true
 init:dF K (.ref C) "__init__"=some (some (.ref f))
 fn:yb K (.ref f)=true
 kp:iC K (.ref C)=true
theorem Eh {J3:Zd}{σ:St}{H:Hp}{s:Shared}{Q:VK}{us:Zf}{vs:List V}(M:Mk X.K C f) (F:mI X.prog X.w X.K X.mg X.base CX k f fd ps sp) (hr:ff (k+1) X.A) (hb:Binds X.K fd ps ds) (hd:a_ dvs ds)
  (hx:nR CX X E) (I:Inv X J3 σ H s) (r:a_ vs us)
  (h:∀x dx,H x=none->H dx=none->dx≠x->sp (.ref x::(vs++dvs)) (upd (upd H dx (.own x)) x (.ins C dx [])) (fun v H2=>v=.non/\Q (.ref x) H2) E) :
  wpAny (model X.prog X.w) X.A (call (.ref C) us) (EP X J3 σ Q) X.xe s:=by
 have hq:=h (s.heap.objs.size+1) s.heap.objs.size (I.hok.fresh (mL _)) (I.hok.fresh (aE _)) (c_ (Nat.lt_succ_self _));have I2:=Inv.made (C:=C) I;have r2:a_ (V.ref (s.heap.objs.size+1)::(vs++dvs)) (Value.ref (s.heap.objs.size+1)::(us++ds)):=.cons rfl (r.append hd);have hl:(Value.ref (s.heap.objs.size+1)::us++ds).length=ps.length:=by
  have e:=r2.length;rw [F.len _ _ _ _ hq] at e;exact e.symm
 refine wpAny_call (ET (f:=f) I.kIn M.makes M.init (beq_iff_eq.mp M.fn) (Bu (F.run _ X.stack _ _ ⟨Value.ref (s.heap.objs.size+1)::us,[]⟩ (Value.ref (s.heap.objs.size+1)::(us++ds)) _ _ E (hr.make C us [])
  (I2.env0.make C us []) (hb _ (Value.ref (s.heap.objs.size+1)::us) I2.kIn hl) r2 hq) fun r s' hq'=>?_))
 cases r with
 | error e=>exact hx J3 σ _ _ e s' I2 hq'
 | ok fl =>
  cases fl with
  | ret u =>
   obtain ⟨v,H',I3,rv,ev,q3⟩:=I2.after hq';subst ev;exact ⟨rv,⟨V.ref (s.heap.objs.size+1),H',I3,rfl,q3⟩⟩
  | next=>exact jx hq'
  | brk=>exact jx hq'
  | cont=>exact jx hq'
theorem Gw (M:Mk X.K C f) (F:mI X.prog X.w X.K X.mg X.base CX k f fd ps sp) (hr:ff (k+1) X.A) (hg:Gl X x) (hm:X.mg x=some (.ref C)) (hb:Binds X.K fd ps ds) (hd:a_ dvs ds) (hx:nR CX X E)
  (ha:PA X (e::es) t) (hdb:(x == ("__debug__":Str))=false:=by decide) (he:aL (e::es) X.env=(false,eval e X.env)::aL es X.env:=by rfl) (hpl:(backTo pos (aL es X.env)).any (·.1)=false:=by rfl) :
  PE X (.Call (.Name x p) (e::es) [] pos) (yu C sp dvs E t):=by
 intro J3 s σ H Q I h;refine Bt (xn I hg hm ?_ hdb);refine PySem.W.callWith_K (h₀:=X.base) I.ok.mod.kin M.kp (cF (ha pos J3 s σ H _ I h) fun us s1 ⟨vs,H1,I1,r,q⟩=>⟨I1.kIn,?_⟩) he hpl;exact Eh M F hr hb hd hx I1 r q
end
structure ky (N P:Zb) (sc:Scope):Prop where
 kind:sc.kind=.function
 co:sc.isCoroutine=false
 gen:sc.isGenerator=false
 nd:N.Nodup
 pre:N.take P.length=P
 par:∀x∈P,sc.names.lookup x=some .local∨sc.names.lookup x=some .cell
 nofree:∀y∈sc.names,y.2≠.free
theorem vI {kindOf:Str->Option jw}{x:Str}:∀{binds:List (Str×Value)}{m:Str->Option Value},(∀v,(x,v)∉binds)->bindL kindOf binds m x=m x
 | [],_,_=>rfl
 | (n,v)::r,m,h=>by
  unfold bindL;rw [vI fun w hw=>h w (fx _ hw)];split
  ·have:x≠n:=by rintro rfl; exact h v dA
   simp [this]
  ·rfl
theorem vK {kindOf:Str->Option jw}{x:Str}:∀{binds:List (Str×Value)}{m:Str->Option Value},(∀v,(x,v)∉binds)->bindC kindOf binds m x=m x
 | [],_,_=>rfl
 | (n,v)::r,m,h=>by
  unfold bindC;rw [vK fun w hw=>h w (fx _ hw)];split
  ·rfl
  ·have:x≠n:=by rintro rfl; exact h v dA
   simp [this]
theorem vJ {kindOf:Str->Option jw}{x:Str}{v:Value}:∀{P:Zb}{vs:Zf}{i:Nat}{m:Str->Option Value},P.Nodup->P[i]?=some x->vs[i]?=some v->kindOf x=some .local ->
  bindL kindOf (P.zip vs) m x=some v
 | [],_,_,_,_,h,_,_=>by simp at h
 | _::_,[],_,_,_,_,h,_=>by simp at h
 | p::P,w::vs,0,m,nd,h1,h2,hk=>by
  simp at h1 h2; subst h1; subst h2;show bindL kindOf ((p,w)::P.zip vs) m p=_;unfold bindL;rw [vI fun v hv=>(mK.mp nd).1 (List.of_mem_zip hv).1,if_pos hk];simp
 | p::P,w::vs,i+1,m,nd,h1,h2,hk=>by
  show bindL kindOf ((p,w)::P.zip vs) m x=_;unfold bindL;exact vJ (i:=i) (mK.mp nd).2 (by simpa using h1) (by simpa using h2) hk
theorem vL {kindOf:Str->Option jw}{x:Str}{v:Value}:∀{P:Zb}{vs:Zf}{i:Nat}{m:Str->Option Value},P.Nodup->P[i]?=some x->vs[i]?=some v->kindOf x≠some .local ->
  bindC kindOf (P.zip vs) m x=some v
 | [],_,_,_,_,h,_,_=>by simp at h
 | _::_,[],_,_,_,_,h,_=>by simp at h
 | p::P,w::vs,0,m,nd,h1,h2,hk=>by
  simp at h1 h2; subst h1; subst h2;show bindC kindOf ((p,w)::P.zip vs) m p=_;unfold bindC;rw [vK fun v hv=>(mK.mp nd).1 (List.of_mem_zip hv).1,if_neg hk];simp
 | p::P,w::vs,i+1,m,nd,h1,h2,hk=>by
  show bindC kindOf ((p,w)::P.zip vs) m x=_;unfold bindC;exact vL (i:=i) (mK.mp nd).2 (by simpa using h1) (by simpa using h2) hk
def start (N:Zb) (vs:List V):St:=vs.map some++List.replicate (N.length-vs.length) none
def A9 (CX:DP) (P:bW) (w:World) (K:Za) (mg:Str->Option Value) (base:Heap) (N:Zb) (qual:Str) (scope:Scope) (f:Addr) (cd:Value) (A:Around) (outer:List Env) (s:Shared) (H:Hp) (E:XK):Cx where
 prog:=P
 w:=w
 K:=K
 mg:=mg
 base:=base
 A:=A.deeper (envOfC qual scope s.heap.objs.size f cd)
 N:=N
 s₀:=s
 H₀:=H
 env:=envOfC qual scope s.heap.objs.size f cd
 outer:=outer
 stack:=envOfC qual scope s.heap.objs.size f cd::outer
 ex:=[]
 calm:=true
 fn:=fun _=>true
 pn:=[]
 xe:=fun e s'=>wpAny (model P w) (A.deeper (envOfC qual scope s.heap.objs.size f cd)) (leaving (envOfC qual scope s.heap.objs.size f cd) e) (fun _ s''=>CX outer H s E e s'') (fun e' s''=>CX outer H s E e' s'') s'
theorem zJ {sc:Scope}{n:Nat}{x:Str}(h:sc.names.lookup x=some .cell):∃c,(cellsFrom n sc.names []).lookup x=some c:=by
 have q:=PySem.W.cellsFrom_some sc.names n [] (.inl h);exact Bs.mp q
theorem Dk {CX:DP}{P:bW}{w:World}{K:Za}{mg:Str->Option Value}{base:Heap}{N ps:Zb}{qual:Str}{scope:Scope}{f:Addr}{cd:Value}{A:Around}{outer:List Env}{s s1:Shared}{H:Hp}{E:XK}{us:Zf}{vs:List V}
  (S:ky N ps scope) (hd:A.handled=none) (e0:Bq P w K mg base A outer s H) (hl:vs.length=ps.length) (r:a_ vs us)
  (x:InCallC s s.heap.objs.size (bindL (envOfC qual scope s.heap.objs.size f cd).kindOf (ps.zip us) fun _=>none) (cellsFrom (s.heap.objs.size+1) scope.names []) (bindC (envOfC qual scope s.heap.objs.size f cd).kindOf (ps.zip us) fun _=>none) s1) :
  Inv (A9 CX P w K mg base N qual scope f cd A outer s H E) [] (start N vs) H s1:=by
 have hpl:ps.length<=N.length:=by have:=congrArg List.length S.pre; rw [aX] at this; omega
 obtain ⟨h1,tk,rfl,hk⟩:=x.done;have noA:∀b:Addr,b∉(A9 CX P w K mg base N qual scope f cd A outer s H E).ex:=fun b z=>absurd (show b∈([]:Ze) from z) (by simp);refine ⟨⟨e0.mod,S.kind,rfl,rfl,aE _,fun y z c h1 h2=>?_,fun y hy=>?_,fun y c _ h=>?_,fun _=>hd,Around.frames_deeper e0.frames,.inr ⟨rfl,rfl⟩,fun b z=>absurd z (noA b),e0.bs,e0.bsz,fun b _ _=>noA b,fun b z=>absurd z (noA b),e0.funs,e0.frf⟩,
  rfl,e0.bare,Un.kept hk,⟨_,x.toInCall.ns,fun i y v h1 h2 h3=>?_⟩,fun y c h=>⟨_,x.cell y c h⟩,e0.hok.fresh (aE _),fun y c h=>?_,fun p hp=>absurd (show p∈([]:Zd) from hp) (by simp),e0.hok.kept hk,?_⟩
 ·exact name_of_addr x.apart (x_ h1) (x_ h2)
 ·have hy:scope.names.lookup y=some .cell∨scope.names.lookup y=some .free:=hy;rcases hy with hy | hy
  ·exact zJ hy
  ·exact absurd rfl (S.nofree _ (x_ hy))
 ·exact eo (x.above y c (x_ h))
 ·have hi:i<vs.length:=by
   unfold start at h2;by_cases hi:i<vs.length
   ·exact hi
   ·rw [lc (by simpa using hi)] at h2;rw [List.getElem?_replicate] at h2;split at h2 <;> cases h2
  have ha:vs[i]?=some v:=by
   unfold start at h2;rw [dg (by simpa using hi),bZ] at h2;cases e:vs[i]? with
   | none=>rw [e] at h2; cases h2
   | some a=>rw [e] at h2; cases h2; rfl
  obtain ⟨u,hu,rv⟩:=r.get ha;have hp:ps[i]?=some y:=by
   rw [<-S.pre,List.getElem?_take_of_lt (by omega)]; exact h1
  have ndP:ps.Nodup:=by rw [<-S.pre]; exact S.nd.sublist (List.take_sublist _ _)
  refine ⟨u,rv,?_⟩;rcases S.par y (aP hp) with k | k
  ·exact .inl ⟨k,vJ ndP hp hu k⟩
  ·obtain ⟨c,e⟩:=zJ (n:=s.heap.objs.size+1) k;refine .inr ⟨.inl k,c,e,?_⟩;have q:=x.cell y c e;rw [vL ndP hp hu (by show scope.names.lookup y≠_; rw [k]; decide)] at q;exact q
 ·exact e0.hok.fresh (eo (x.above y c (x_ h)))
 ·unfold start;show _=N.length;rw [ay,ai,List.length_replicate];omega
theorem Iw {CX:DP}{P:bW}{w:World}{K:Za}{mg:Str->Option Value}{base:Heap}{k:Nat}{f:Addr}{name qual:Str}{params:Arguments}{body:List Stmt}{scope:Scope}{dV kV doc pm cdv ct oc:Value}{an od:Option Addr}
  {osl:Array (Option Value)}{N ps:Zb}{sp:Sp}(lk:K.lookup f=some ⟨oc,od,.func (iI name qual params body scope dV kV doc pm an cdv ct),osl⟩) (hcd:nz K cdv qual=true) (S:ky N ps scope)
  (len:∀vs H Q E,sp vs H Q E->vs.length=ps.length)
  (hbody:∀(A:Around) (outer:List Env) (s:Shared) (H:Hp) (vs:List V) (Q:VK) (E:XK),ff k (A.deeper (envOfC qual scope s.heap.objs.size f cdv))->sp vs H Q E ->
   ∃t,zX (A9 CX P w K mg base N qual scope f cdv A outer s H E) body t/\t (bJ Q) (start N vs) H) :
  mI P w K mg base CX (k+1) f (iI name qual params body scope dV kV doc pm an cdv ct) ps sp:=by
 refine ⟨len,fun A outer s H args us vs Q E hr e0 hb r hsp=>?_⟩;have hl:=len _ _ _ _ hsp;have KX:K.In s.heap:=e0.mod.kin.keeps fun b o e=>(e0.bs b o e).1;have lim:s.heap.NoLimit:=e0.mod.nolimit.keeps fun b o e=>(e0.bs b o e).1;have hkind:∀y∈ps.zip us,scope.names.lookup y.1=some .local∨(scope.names.lookup y.1=some .cell/\((cellsFrom (s.heap.objs.size+1) scope.names []).lookup y.1).isSome=true):=fun ⟨n,v⟩ hy=>by
  rcases S.par n (List.of_mem_zip hy).1 with q | q
  ·exact .inl q
  ·exact .inr ⟨q,PySem.W.cellsFrom_some _ _ _ (.inl q)⟩
 refine codeAny_call_function hr.depth (KX _ _ lk) rfl S.co S.gen rfl (PySem.W.codeRec_of KX hcd) (hb _ _ _ _ ?_);refine wpAny_newFunctionEnv_cells S.kind hkind fun env he s1 x=>?_;subst he;refine ⟨lim.keeps x.toInCall.keep,codeAny_func ?_⟩;obtain ⟨t,ht,hq⟩:=hbody A outer s H vs Q E (hr.deeper _) hsp;have I:Inv (A9 CX P w K mg base N qual scope f cdv A outer s H E) [] (start N vs) H s1:=Dk S hr.hd e0 hl r x;refine jy (ht [] s1 (start N vs) H _ I hq) (fun fl s' hs=>?_) fun e s' hs=>hs;have fin:∀{σ':St}{H':Hp}{v:V}{u:Value},Inv (A9 CX P w K mg base N qual scope f cdv A outer s H E) [] σ' H' s'->RelV v u->Q v H'->CE outer P w K H s Q u s' :=
  fun {σ' H' v u} J rv q=>⟨v,H',J.os,J.bare,J.base,J.hok,rv,q⟩
 cases fl with
 | ret u =>
  obtain ⟨v,σ',H',J,rv,q⟩:=hs;exact fin J rv q
 | next =>
  obtain ⟨σ',H',J,q⟩:=hs;exact fin (v:=V.non) (u:=Value.none) J rfl q
 | brk =>
  obtain ⟨_,_,_,q⟩:=hs;exact jx q
 | cont =>
  obtain ⟨_,_,_,q⟩:=hs;exact jx q
end L2
namespace L2
open PySem PySem.Spec PyProof.Rows
section
variable {X:Cx}{x:Str}{p pos:Pos}{e:Expr}{es:List Expr}{t:TA}{id T:String}{r:List V->Hp->VK->Prop}
def fu (r:List V->Hp->VK->Prop) (t:TA):TE:=fun σ H Q=>t σ H fun vs H1=>r vs H1 Q
theorem yR (hc:gE X (.builtin id) r) (hg:Gl X x) (hm:X.mg x=none) (hv:oy x=some (.builtin id)) (ha:PA X (e::es) t) (hn:x≠"__name__":=by decide) (hdb:(x == ("__debug__":Str))=false:=by decide)
  (he:aL (e::es) X.env=(false,eval e X.env)::aL es X.env:=by rfl) (hpl:(backTo pos (aL es X.env)).any (·.1)=false:=by rfl):PE X (.Call (.Name x p) (e::es) [] pos) (fu r t):=by
 intro J3 s σ H Q I h;refine Bt (tF I hg hm hv ?_ hn hdb);exact PyProof.Rows.callWith_builtin1 (cF (ha pos J3 s σ H _ I h) fun us s1 ⟨vs,H1,I1,r1,q1⟩=>hc J3 s1 σ H1 vs us Q I1 r1 q1) he hpl
theorem iy (hc:gE X (.type T) r) (hg:Gl X x) (hm:X.mg x=none) (hv:oy x=some (.type T)) (ha:PA X (e::es) t) (hn:x≠"__name__":=by decide) (hdb:(x == ("__debug__":Str))=false:=by decide)
  (he:aL (e::es) X.env=(false,eval e X.env)::aL es X.env:=by rfl) (hpl:(backTo pos (aL es X.env)).any (·.1)=false:=by rfl):PE X (.Call (.Name x p) (e::es) [] pos) (fu r t):=by
 intro J3 s σ H Q I h;refine Bt (tF I hg hm hv ?_ hn hdb);exact By (cF (ha pos J3 s σ H _ I h) fun us s1 ⟨vs,H1,I1,r1,q1⟩=>hc J3 s1 σ H1 vs us Q I1 r1 q1) he hpl
end
end L2
namespace HT
open PySem PyProof.Rows
def lexLt:List Int->List Int->Bool
 | [],[]=>false
 | [],_::_=>true
 | _::_,[]=>false
 | x::xs,y::ys=>if x=y then lexLt xs ys else decide (x<y)
theorem lexLt_cons (x y:Int) (xs ys:List Int):lexLt (x::xs) (y::ys)=if x=y then lexLt xs ys else decide (x<y):=rfl
theorem eqAt_int (A:Around) (s:Shared) (a:Int) (t:Tok) (c:Int) (u:Tok):∃e,bN A s (.int a t) (.int c u) e/\(e=true↔a=c) :=
 ⟨(a == c),bN.int_int a t c u,by simp⟩
theorem rcLt_int (A:Around) (s:Shared) (a:Int) (t:Tok) (c:Int) (u:Tok) (prog:bW) (w:World) (E:Zc) (Q:Zc) (h:Q (.bool (decide (a<c))) s) :
  wpAny (model prog w) A (richCompare .Lt (.int a t) (.int c u)) Q E s :=
 (PyProof.Rows.lt_int h:wpAny (model prog w) A (eD .Lt (.int a t) (.int c u)) Q E s)
section
variable {prog:bW}{w:World}{A:Around}{E:Zc}{s:Shared}
def sIx (n d:Nat):Option Int->Nat
 | none=>d
 | some v=>if v<0 then (v+(n:Int)).toNat else min v.toNat n
theorem sIx_none (n d:Nat):sIx n d none=d:=rfl
theorem sIx_nat (n d k:Nat):sIx n d (some (k:Int))=min k n:=by
 show (if (k:Int)<0 then ((k:Int)+(n:Int)).toNat else min (k:Int).toNat n)=min k n
 rw [if_neg (by omega),jk]
theorem sIx_le (n d:Nat) (hd:d<=n) (o:Option Int):sIx n d o<=n:=by
 cases o with
 | none=>exact hd
 | some v =>
  show (if v<0 then (v+(n:Int)).toNat else min v.toNat n)<=n
  by_cases hv:v<0
  ·rw [if_pos hv]; omega
  ·rw [if_neg hv]; exact Nat.min_le_right _ _
theorem clip_eq (v:Int) (n d:Nat):(if v<0 then max (v+(n:Int)) 0 else min v (n:Int))=((sIx n d (some v):Nat):Int):=by
 show (if v<0 then max (v+(n:Int)) 0 else min v (n:Int))=(((if v<0 then (v+(n:Int)).toNat else min v.toNat n):Nat):Int)
 by_cases hv:v<0
 ·simp only [if_pos hv]; omega
 ·simp only [if_neg hv]; omega
end
end HT
namespace L2
open PySem PySem.Spec PyProof.Rows
abbrev TO:=St->Hp->(Option Int->Hp->Prop)->Prop
def PO (X:Cx) (e:Option Expr) (t:TO):Prop :=
 ∀(J3:Zd) (s:Shared) (σ:St) (H:Hp) (Q:Option Int->Hp->Prop),Inv X J3 σ H s->t σ H Q ->
  wpAny (model X.prog X.w) X.A (evalPart e X.env) (fun u s'=>∃o H',Inv X J3 σ H' s'/\IsPart u o/\Q o H') X.xe s
def da:TO:=fun _ H Q=>Q none H
def eF (t:TE):TO:=fun σ H Q=>t σ H fun x H1=>∃i,x=.int i/\Q (some i) H1
theorem intsAre_of {ns:List Int}:∀{us:Zf},a_ (ns.map V.int) us->fS us ns:=by
 induction ns with
 | nil=>intro us r; rw [wF] at r; cases r; exact .nil
 | cons n ns ih =>
  intro us r;rw [bc] at r;cases r with
  | cons r1 r2 =>
   obtain ⟨t,e⟩:=r1;subst e;exact .cons n t (ih r2)
section
variable {X:Cx}{e:Expr}{te:TE}{lo hi:Option Expr}{tl th:TO}{pos p2:Pos}
theorem eX:PO X none da:=by
 intro J3 s σ H Q I h;rw [evalPart_none];exact aI ⟨none,H,I,.none,h⟩
theorem cJ (h:PE X e te):PO X (some e) (eF te):=by
 intro J3 s σ H Q I hw;rw [evalPart_some];refine cF (h J3 s σ H _ I hw) fun u s1 ⟨x,H1,I1,r1,q1⟩=>?_;obtain ⟨i,rfl,q⟩:=q1;obtain ⟨t,rfl⟩:=r1;exact ⟨some i,H1,I1,.int i t,q⟩
def SlR (X:Cx) (r:V->Option Int->Option Int->Hp->VK->Prop):Prop :=
 ∀(J3:Zd) (s:Shared) (σ:St) (H:Hp) (x:V) (v vl vu:Value) (lo hi:Option Int) (sl:Addr) (Q:VK),Inv X J3 σ H s->RelV x v->s.heap.IsSliceOf sl vl vu .none->IsPart vl lo->IsPart vu hi->r x lo hi H Q ->
  ∃T id,typeLookup (.type T) "__getitem__"=pure (some (.builtin id))/\s.TypeIs v T/\wpAny (model X.prog X.w) X.A (ny v (.ref sl)) (EP X J3 σ Q) X.xe s
def vc (r:V->Option Int->Option Int->Hp->VK->Prop) (te:TE) (tl th:TO):TE:=fun σ H Q=>te σ H fun x H1=>tl σ H1 fun l H2=>th σ H2 fun u H3=>r x l u H3 Q
theorem cE {r:V->Option Int->Option Int->Hp->VK->Prop}(hr:SlR X r) (he:PE X e te) (hl:PO X lo tl) (hu:PO X hi th):PE X (.Subscript e (.Slice lo hi none p2) pos) (vc r te tl th):=by
 intro J3 s σ H Q I h;refine Subscript_ (cF (he J3 s σ H _ I h) fun v s1 ⟨x,H1,I1,r1,q1⟩=>?_);refine wpAny_Slice (cF (hl J3 s1 σ H1 _ I1 q1) fun vl s2 ⟨l,H2,I2,pl,q2⟩=>cF (hu J3 s2 σ H2 _ I2 q2) fun vu s3 ⟨u,H3,I3,pu,q3⟩=>?_);rw [evalPart_none];refine aI ?_;have I4:Inv X J3 σ H3 { s3 with heap:=s3.heap.push { cls:=.type "slice",data:=.fields #[vl,vu,.none] } }:=I3.kept (t':=s3.toks) fun b ob q=>bu _ q;obtain ⟨T,id,hT,ht,hg⟩:=hr J3 { s3 with heap:=s3.heap.push { cls:=.type "slice",data:=.fields #[vl,vu,.none] } } σ H3 x v vl vu l u s3.heap.objs.size Q I4 r1 (Heap.IsSliceOf.new ..) pl pu q3;show wpAny (model X.prog X.w) X.A (subscriptTail e (.Slice lo hi none p2) v (.ref s3.heap.objs.size)) (EP X J3 σ Q) X.xe { s3 with heap:=s3.heap.push { cls:=.type "slice",data:=.fields #[vl,vu,.none] } };exact tail_any (ops:=[.ref s3.heap.objs.size,v]) ht hT hg (by with_unfolding_all rfl)
def fz (xs:List V) (lo hi:Option Int):List V:=(xs.drop (HT.sIx xs.length 0 lo)).take (HT.sIx xs.length xs.length hi-HT.sIx xs.length 0 lo)
theorem lL (xs:List V) (lo hi:Option Int):(fz xs lo hi).length<=xs.length:=by
 unfold fz;rw [aX,fR];omega
end
end L2
namespace L2
open PySem PySem.Spec PyProof.Rows
def FK (n:Nat) (i:Int):Option Nat:=if 0<=i then (if i<n then some i.toNat else none) else if -(n:Int)<=i then some (i+n).toNat else none
def pD {α:Type}(xs:List α) (i:Int):Option α:=(FK xs.length i).bind fun j=>xs[j]?
theorem xw {n:Nat}{i:Int}{j:Nat}(h:FK n i=some j):wE i n=some j/\j<n/\-(n:Int)<=i/\i<n:=by
 unfold FK at h;by_cases h0:0<=i
 ·rw [if_pos h0] at h;by_cases h1:i<n
  ·rw [if_pos h1] at h;have e:i.toNat=j:=fg h;exact ⟨by rw [seqIndex_of h0 h1,e],by omega,by omega,h1⟩
  ·rw [if_neg h1] at h; cases h
 ·rw [if_neg h0] at h;by_cases h1:-(n:Int)<=i
  ·rw [if_pos h1] at h;have e:(i+n).toNat=j:=fg h;exact ⟨by rw [seqIndex_neg (by omega) h1,e],by omega,h1,by omega⟩
  ·rw [if_neg h1] at h; cases h
theorem xL {α:Type}{xs:List α}{i:Int}{v:α}(h:pD xs i=some v):∃j,wE i xs.length=some j/\xs[j]?=some v/\j<xs.length/\-(xs.length:Int)<=i/\i<xs.length:=by
 unfold pD at h;cases e:FK xs.length i with
 | none=>rw [e] at h; cases h
 | some j =>
  rw [e] at h;obtain ⟨h1,h2,h3,h4⟩:=xw e;exact ⟨j,h1,h,h2,h3,h4⟩
theorem bt {α:Type}{xs:List α}{j:Nat}{v:α}(h:xs[j]?=some v):pD xs (j:Int)=some v:=by
 have hj:j<xs.length:=(bP.mp h).1;have e:FK xs.length (j:Int)=some j:=by
  unfold FK;rw [if_pos (by omega),if_pos (by omega)]; simp
 unfold pD; rw [e]; exact h
def GW (b:Expr):Prop:=∀o i,wD b false o i=operate [o,i] (ny o i)
def G1 (X:Cx) (r:R2):Prop :=
 ∀(value slice:Expr) (J3:Zd) (s:Shared) (σ:St) (H:Hp) (x y:V) (v u:Value) (Q:VK),Inv X J3 σ H s->RelV x v->RelV y u->r x y H Q ->
  wD slice false v u=operate [v,u] (ny v u)->wpAny (model X.prog X.w) X.A (subscriptTail value slice v u) (EP X J3 σ Q) X.xe s
def MtR (X:Cx) (id:String) (r:V->List V->Hp->VK->Prop):Prop :=
 ∀(J3:Zd) (s:Shared) (σ:St) (H:Hp) (x:V) (xs:List V) (v:Value) (us:Zf) (Q:VK),Inv X J3 σ H s->RelV x v->a_ xs us->r x xs H Q ->
  wpAny (model X.prog X.w) X.A (call (.builtin id) (v::us)) (EP X J3 σ Q) X.xe s
section
variable {X:Cx}{a b:Expr}{ta tb:TE}{pos:Pos}
theorem G1.or {r r':R2}(h:G1 X r) (h':G1 X r'):G1 X (fun x y H Q=>r x y H Q∨r' x y H Q):=by
 intro value slice J3 s σ H x y v u Q I rx ry q hs;rcases q with q | q
 ·exact h value slice J3 s σ H x y v u Q I rx ry q hs
 ·exact h' value slice J3 s σ H x y v u Q I rx ry q hs
theorem BT {r:R2}(hr:G1 X r) (ha:PE X a ta) (hb:PE X b tb) (hs:GW b):PE X (.Subscript a b pos) (aD r ta tb):=by
 intro J3 s σ H Q I h;exact Subscript_ (HP ha hb I h fun v u s2 x y H2 I2 rx ry q=>hr a b J3 s2 σ H2 x y v u Q I2 rx ry q (hs _ _))
def cU (K:Za):R2:=fun x y H Q=>∃p xs i v,x=.ref p/\y=.int i/\az K H p xs/\pD xs i=some v/\Q v H
def fO (K:Za):R2:=fun x y H Q=>∃p xs i v,x=.ref p/\y=.int i/\bj K H p xs/\pD xs i=some v/\Q v H
def Ex:R2:=fun x y H Q=>∃z i c,x=.str z/\y=.int i/\z.length<=aj/\pD z.cps.toList i=some c/\Q (.str ⟨#[c]⟩) H
theorem Cg:G1 X (cU X.K):=by
 intro value slice J3 s σ H x y v u Q I rx ry h hs;obtain ⟨p,xs,i,z,rfl,rfl,hq,he,q⟩:=h;cases rx;obtain ⟨t,rfl⟩:=ry;obtain ⟨its,r,pl,hz⟩:=I.list hq;obtain ⟨j,h1,h2,h3,h4,h5⟩:=xL he;obtain ⟨w,ew,rw'⟩:=r.get h2;have hl:=r.length;have hn:=qi;have fin:EP X J3 σ Q w s:=⟨z,H,I,rw',q⟩;by_cases h0:0<=i
 ·have hj:i.toNat=j:=by
   rw [seqIndex_of h0 h5] at h1;exact fg h1
  exact item_listR pl.isList h0 (by omega) (by rw [hj]; simpa using ew) fin hs
 ·have hj:(i+(its.toArray.size:Int)).toNat=j:=by
   rw [seqIndex_neg (by omega) h4] at h1;rw [bI,<-hl];exact fg h1
  exact subscriptTail_builtinR (x:=w) pl.isList.typeIs slot_list_getitem.lookup
   (wpAny_getItem_list_neg (Q:=fun r s'=>r=w/\EP X J3 σ Q r s') pl.isList (by omega) (by rw [bI] <;> omega) (by omega) (by rw [hj]; simpa using ew) ⟨rfl,fin⟩) hs
theorem Fa:G1 X (fO X.K):=by
 intro value slice J3 s σ H x y v u Q I rx ry h hs;obtain ⟨p,xs,i,z,rfl,rfl,hq,he,q⟩:=h;cases rx;obtain ⟨t,rfl⟩:=ry;obtain ⟨its,r,pl,hz⟩:=I.tuple hq;obtain ⟨j,h1,h2,h3,h4,h5⟩:=xL he;obtain ⟨w,ew,rw'⟩:=r.get h2;have hl:=r.length;have hn:=qi;have fin:EP X J3 σ Q w s:=⟨z,H,I,rw',q⟩;exact subscriptTail_builtinR (x:=w) pl.typeIs slot_tuple_getitem.lookup
  (getItem_tuple (j:=j) (Q:=fun r s'=>r=w/\EP X J3 σ Q r s') pl (by omega) (by omega) (by rw [bI,<-hl]; exact h1) (by simpa using ew) ⟨rfl,fin⟩) hs
theorem Fb:G1 X Ex:=by
 intro value slice J3 s σ H x y v u Q I rx ry h hs;obtain ⟨z,i,c,rfl,rfl,hz,he,q⟩:=h;obtain ⟨t,rfl⟩:=rx;obtain ⟨t',rfl⟩:=ry;obtain ⟨j,h1,h2,h3,h4,h5⟩:=xL he;have hl:z.cps.toList.length=z.length:=by simp [Str.length]
 rw [hl] at h1 h4 h5;have hn:=qi;exact tail_any (typeIs_str s z t) slot_str_getitem.lookup (getItem_str (c:=c) (by
  have e1:decide (i < -(2 ^ 63:Int))=false:=zzr0 (by omega);have e2:decide (i ≥ 2 ^ 63)=false:=zzr0 (by omega);rw [e1,e2,Bool.or_false]) (by rw [h1]; simpa using h2) ⟨.str ⟨#[c]⟩,H,I.tok _,⟨_,rfl⟩,q⟩) hs
def og (K:Za):R2:=fun x y H Q=>cU K x y H Q∨fO K x y H Q∨Ex x y H Q
theorem HJ:G1 X (og X.K):=Cg.or (Fa.or Fb)
theorem AI (its:Zf) (n j:Nat) (u:Value):sD (·.setIfInBounds j u) { cls:=.type "list",data:=.seq its.toArray n }={ cls:=.type "list",data:=.seq (its.set j u).toArray n }:=by
 simp [sD]
theorem Inv.lst {J3:Zd}{σ:St}{H:Hp}{s:Shared}{p:Addr}{xs:List V}(I:Inv X J3 σ H s) (h:H p=some (.lst xs)) :
  ∃(its:Zf) (n:Nat),a_ xs its/\s.heap.get? p=some { cls:=.type "list",data:=.seq its.toArray n }/\xs.length<=aj:=by
 obtain ⟨z,its,n,r,e⟩:=I.hok p _ h;exact ⟨its,n,r,e,z⟩
theorem Inv.lstUpd {J3:Zd}{σ:St}{H:Hp}{s:Shared}{p:Addr}{xs ys:List V}{its its':Zf}{n n':Nat}{f:Obj->Obj}(I:Inv X J3 σ H s) (h:H p=some (.lst xs))
  (ho:s.heap.get? p=some { cls:=.type "list",data:=.seq its.toArray n }) (hf:f { cls:=.type "list",data:=.seq its.toArray n }={ cls:=.type "list",data:=.seq its'.toArray n' }) (r:a_ ys its') (hz:ys.length<=aj) (t:Nat) :
  Inv X J3 σ (upd H p (.lst ys)) { s with heap:=s.heap.update p f,toks:=t }:=by
 have e:(s.heap.update p f).get? p=some { cls:=.type "list",data:=.seq its'.toArray n' }:=by
  rw [wC f ho (by rw [hf] <;> rfl),hf]
 refine I.write (x:=p) (e:=p) (by rw [h]; trivial) (.inl rfl) (fun b u hb q=>(Heap.get?_update_other _ _ (dz hb)).trans q) ⟨_,e⟩ ?_;exact ⟨hz,its',n',r,e⟩
def tj:V->V->V->Hp->(Hp->Prop)->Prop:=fun o i v H Q=>∃p xs k j,o=.ref p/\i=.int k/\H p=some (.lst xs)/\FK xs.length k=some j/\Q (upd H p (.lst (xs.set j v)))
theorem lB:IC X tj:=by
 intro J3 s σ H o i v ov iv u Q I ro ri rv h;obtain ⟨p,xs,k,j,rfl,rfl,hp,hj,q⟩:=h;cases ro;obtain ⟨t,rfl⟩:=ri;obtain ⟨its,n,r,ho,hz⟩:=I.lst hp;obtain ⟨h1,h2,h3,h4⟩:=xw hj;have hl:=r.length;have hn:=qi;have I':Inv X J3 σ (upd H p (.lst (xs.set j v))) { s with heap:=s.heap.update p (sD (·.setIfInBounds j u)) } :=
  I.lstUpd hp ho (AI its n j u) (r.set rv j) (by rw [List.length_set]; exact hz) s.toks
 by_cases h0:0<=k
 ·have hk:k.toNat=j:=by
   rw [seqIndex_of h0 h4] at h1;exact fg h1
  exact PySem.W.ki_setAt ho h0 (by omega) (by rw [bI,<-hl]; exact h4) (by rw [hk]; exact ⟨_,I',q⟩)
 ·have hk:(k+(its.toArray.size:Int)).toNat=j:=by
   rw [seqIndex_neg (by omega) h3] at h1;rw [bI,<-hl];exact fg h1
  exact PySem.W.ki_setBack ho (by omega) (by rw [bI,<-hl]; exact h3) (by omega) (by rw [hk]; exact ⟨_,I',q⟩)
theorem w8 (lo hi:Option Int) (n:Nat):(nv lo hi none n).1=((HT.sIx n 0 lo:Nat):Int)/\(nv lo hi none n).2.1=((HT.sIx n n hi:Nat):Int)/\(nv lo hi none n).2.2=1:=by
 refine ⟨?_,?_,rfl⟩
 ·cases lo with
  | none=>simp [nv,HT.sIx]
  | some i =>
   simp only [nv,HT.sIx,Option.getD_none,show (1:Int) > 0 by decide,if_true];by_cases h:i<0
   ·simp only [h,if_true] <;> omega
   ·simp only [h,if_false] <;> omega
 ·cases hi with
  | none=>simp [nv,HT.sIx]
  | some i =>
   simp only [nv,HT.sIx,Option.getD_none,show (1:Int) > 0 by decide,if_true];by_cases h:i<0
   ·simp only [h,if_true] <;> omega
   ·simp only [h,if_false] <;> omega
theorem uA (its:Zf) (lo hi:Option Int):slicePick its.toArray lo hi none=((its.drop (HT.sIx its.length 0 lo)).take (HT.sIx its.length its.length hi-HT.sIx its.length 0 lo)).toArray:=by
 obtain ⟨h1,h2,h3⟩:=w8 lo hi its.toArray.size;unfold slicePick;rw [h1,h2,h3];simp only [sliceRange_one,pick_run,bI] <;> rfl
def lC (K:Za):V->Option Int->Option Int->Hp->VK->Prop:=fun x lo hi H Q=>∃a xs,x=.ref a/\az K H a xs/\∀p,H p=none->Q (.ref p) (upd H p (.lst (fz xs lo hi)))
theorem eW:SlR X (lC X.K):=by
 intro J3 s σ H x v vl vu lo hi sl Q I rx hs pl pu h;obtain ⟨a,xs,rfl,hx,q⟩:=h;cases rx;obtain ⟨its,r,ht,hz⟩:=I.list hx;have hlen:=r.length;refine ⟨"list",_,slot_list_getitem.lookup,ht.isList.typeIs,?_⟩;refine wpAny_getItem_list_slice ht.isList hs pl pu .none (by simp) ?_ (by rw [bI] <;> omega);rw [uA,<-hlen];refine ⟨.ref s.heap.objs.size,_,I.laid (t':=s.toks) (o:=.lst (fz xs lo hi)) (fun b ob q=>bu _ q) (aE _) ?_,rfl,q _ (I.hok.fresh (aE _))⟩;exact ⟨bv (lL xs lo hi) hz,_,0,(r.drop (HT.sIx xs.length 0 lo)).take (HT.sIx xs.length xs.length hi-HT.sIx xs.length 0 lo),cL _ rfl⟩
theorem xJ:gE X (.builtin "len") (fun xs H Q=>∃p ys,xs=[.ref p]/\(az X.K H p ys∨bj X.K H p ys)/\Q (.int ys.length) H):=by
 intro J3 s σ H xs us Q I r h;obtain ⟨p,ys,rfl,hq,q⟩:=h;obtain ⟨u,rfl,rx⟩:=vals1 r;cases rx;have hn:=qi;rcases hq with hq | hq
 ·obtain ⟨its,r',pl,hz⟩:=I.list hq;have hlen:=r'.length;exact Calls.call_len_list pl.isList (by simp only [bI] <;> omega) ⟨.int ys.length,H,I.tok _,⟨s.toks+1,by rw [bI,hlen]⟩,q⟩
 ·obtain ⟨its,r',pl,hz⟩:=I.tuple hq;have hlen:=r'.length;exact len_tuple pl (by simp only [bI] <;> omega) ⟨.int ys.length,H,I.tok _,⟨s.toks+1,by rw [bI,hlen]⟩,q⟩
theorem xI:gE X (.builtin "len") (fun xs H Q=>∃z,xs=[.str z]/\z.length<=aj/\Q (.int z.length) H):=by
 intro J3 s σ H xs us Q I r h;obtain ⟨z,rfl,hz,q⟩:=h;obtain ⟨u,rfl,t,rfl⟩:=vals1 r;have hn:=qi;exact len_str (by omega) ⟨.int z.length,H,I.tok _,⟨_,rfl⟩,q⟩
theorem gE.or {f:Value}{r r':List V->Hp->VK->Prop}(h:gE X f r) (h':gE X f r'):gE X f (fun xs H Q=>r xs H Q∨r' xs H Q):=by
 intro J3 s σ H xs us Q I rs q;rcases q with q | q
 ·exact h J3 s σ H xs us Q I rs q
 ·exact h' J3 s σ H xs us Q I rs q
theorem xH:gE X (.type "list") (fun xs H Q=>∃p ys,xs=[.ref p]/\(az X.K H p ys∨bj X.K H p ys)/\∀l,H l=none->Q (.ref l) (upd H l (.lst ys))):=by
 intro J3 s σ H xs us Q I r h;obtain ⟨p,ys,rfl,hq,q⟩:=h;obtain ⟨u,rfl,rx⟩:=vals1 r;cases rx;have fin:∀(its:Zf),a_ ys its->ys.length<=aj->∀(h':Heap) (c':Nat),(∀b o',s.heap.get? b=some o'->h'.get? b=some o') ->
   h'.get? s.heap.objs.size=some { cls:=.type "list",dict:=none,data:=.seq its.toArray c',slots:=#[] }->EP X J3 σ Q (.ref s.heap.objs.size) { s with heap:=h' }:=fun its r' hz h' c' kp e =>
  ⟨.ref s.heap.objs.size,_,I.laid (t':=s.toks) kp (aE _) (show cA X.prog X.w X.K _ h' _ (.lst ys) from ⟨hz,its,c',r',e⟩),rfl,q _ (I.hok.fresh (aE _))⟩
 rcases hq with hq | hq
 ·obtain ⟨its,r',pl,hz⟩:=I.list hq;have hlen:=r'.length;obtain ⟨o,ho,hc,n,hd⟩:=pl.isList;exact call_list_seq p (.inl rfl) ho hc hd (fun h' c' kp e=>fin its r' hz h' c' kp e) (by simp only [bI] <;> omega)
 ·obtain ⟨its,r',pl,hz⟩:=I.tuple hq;have hlen:=r'.length;obtain ⟨o,ho,hc,n,hd⟩:=pl;exact call_list_seq p (.inr rfl) ho hc hd (fun h' c' kp e=>fin its r' hz h' c' kp e) (by simp only [bI] <;> omega)
theorem gX:gE X (.type "tuple") (fun xs H Q=>∃p ys,xs=[.ref p]/\((az X.K H p ys/\∀l,H l=none->Q (.ref l) (upd H l (.tup ys)))∨(bj X.K H p ys/\Q (.ref p) H))):=by
 intro J3 s σ H xs us Q I r h;obtain ⟨p,ys,rfl,h⟩:=h;obtain ⟨u,rfl,rx⟩:=vals1 r;cases rx;rcases h with ⟨hq,q⟩ | ⟨hq,q⟩
 ·obtain ⟨its,r',pl,hz⟩:=I.list hq;have hlen:=r'.length;refine call_tuple_list pl.isList (fun h' kp=>?_) (by simp only [bI] <;> omega);have I1:Inv X J3 σ H { s with heap:=h' }:=I.kept (t':=s.toks) kp;have I2:Inv X J3 σ (upd H h'.objs.size (.tup ys)) { s with heap:=h'.push { cls:=.type "tuple",data:=.seq its.toArray } } :=
   I1.laid (t':=s.toks) (fun b o e=>bu _ e) (aE _) (show cA X.prog X.w X.K _ _ _ (.tup ys) from ⟨hz,its,r',IsTup.new _ _⟩)
  exact ⟨.ref h'.objs.size,_,I2,rfl,q _ (I1.hok.fresh (aE _))⟩
 ·obtain ⟨its,r',pl,hz⟩:=I.tuple hq;exact call_tuple_same pl ⟨.ref p,H,I,rfl,q⟩
def tyV (K:Za) (T:String) (x:V) (H:Hp):Prop:=match x with
 | .str _=>T="str"
 | .int _=>T="int"
 | .ref p=>(T="list"/\∃xs,az K H p xs)∨(T="tuple"/\∃o,K.lookup p=some o/\o.cls=.type "tuple"/\o.dict=none) ∨
   (T="dict"/\((∃kvs,H p=some (.dK kvs))∨∃kvs,H p=some (.dT kvs)))∨(T="set"/\∃S n,H p=some (.set S n))
 | _=>False
theorem DX {J3:Zd}{σ:St}{H:Hp}{s:Shared}{T:String}{x:V}{v:Value}(I:Inv X J3 σ H s) (r:RelV x v) (ty:tyV X.K T x H) :
  s.TypeIs v T/\∀a,v=.ref a->∃ob,s.heap.get? a=some ob/\ob.dict=none:=by
 cases x with
 | str z =>
  obtain ⟨t,rfl⟩:=r;cases (show T="str" from ty);exact ⟨typeIs_str s z t,fun _ e=>nomatch e⟩
 | int i =>
  obtain ⟨t,rfl⟩:=r;cases (show T="int" from ty);exact ⟨typeIs_int s i t,fun _ e=>nomatch e⟩
 | ref p =>
  cases r;rcases ty with ⟨rfl,xs,hq⟩ | ⟨rfl,o,hk,hc,hd⟩ | ⟨rfl,hk⟩ | ⟨rfl,S,n,hk⟩
  ·obtain ⟨its,_,pl,_⟩:=I.list hq;refine ⟨pl.isList.typeIs,fun a e=>?_⟩;cases e;obtain ⟨o,n,e,c,hd,_⟩:=pl;exact ⟨o,e,hd⟩
  ·refine ⟨⟨o,I.kIn p o hk,hc⟩,fun a e=>?_⟩;cases e;exact ⟨o,I.kIn _ o hk,hd⟩
  ·have z:∃o,s.heap.get? p=some o/\o.ExactDict:=by
    rcases hk with ⟨kvs,hk⟩ | ⟨kvs,hk⟩
    ·obtain ⟨_,_,_,_,o,_,_,e,ex,_⟩:=I.hok p _ hk;exact ⟨o,e,ex⟩
    ·obtain ⟨_,_,_,_,o,_,_,e,ex,_⟩:=I.hok p _ hk;exact ⟨o,e,ex⟩
   obtain ⟨o,e,ex⟩:=z;refine ⟨⟨o,e,ex.1⟩,fun a e2=>?_⟩;cases e2;exact ⟨o,e,ex.2.1⟩
  ·obtain ⟨o,_,_,_,e,ex,_⟩:=I.hok p _ hk;refine ⟨⟨o,e,ex.1⟩,fun a e2=>?_⟩;cases e2;exact ⟨o,e,ex.2.1⟩
 | _=>exact jx ty
def FV (K:Za) (T:String) (r:V->List V->Hp->VK->Prop) (to:TE):TE:=fun σ H Q=>to σ H fun x H1=>tyV K T x H1/\r x [] H1 Q
def oG (K:Za) (T:String) (r:V->List V->Hp->VK->Prop) (to:TE) (t:TA):TE:=fun σ H Q=>to σ H fun x H1=>tyV K T x H1/\t σ H1 fun xs H2=>r x xs H2 Q
variable {o e:Expr}{es:List Expr}{to:TE}{t:TA}{name:Str}{J5 J4:Pos}{T id:String}{r:V->List V->Hp->VK->Prop}
theorem AE (pa:PlainAttrs T) (slot:Slot T name id) (hty:typeOf (.builtin id)=pure (.type "method_descriptor")) (hm:MtR X id r) (ho:PE X o to)
  (hbase:rR o name X.env (eval o X.env)=eval o X.env:=by rfl) (hline:(J5.endLine == J4.line)=true:=by rfl):PE X (.Call (.Attribute o name J5) [] [] J4) (FV X.K T r to):=by
 intro J3 s σ H Q I h;refine wpAny_Call_method0_late hbase hline (cF (ho J3 s σ H _ I h) fun v s1 ⟨x,H1,I1,r1,ty,q1⟩=>?_);obtain ⟨h1,h2⟩:=DX I1 r1 ty;exact ⟨T,id,pa,slot,hty,h1,h2,sC rfl (PySem.evalArgs_none (hm J3 s1 σ H1 x [] v [] Q I1 r1 .nil q1))⟩
theorem eJ (pa:PlainAttrs T) (slot:Slot T name id) (hty:typeOf (.builtin id)=pure (.type "method_descriptor")) (hm:MtR X id r) (ho:PE X o to) (ha:PA X (e::es) t)
  (hbase:rR o name X.env (eval o X.env)=eval o X.env:=by rfl)
  (hfew:((backTo J4 (aL (e::es) X.env)).all (fun x=>!x.1) && (on J4 (ol [] X.env)).all (fun x=>x.1.isSome)
   && decide ((e::es).length+([]:List pS).length+(if ([]:List pS).isEmpty then 0 else 1)<30))=true:=by rfl)
  (hline:(J5.endLine == J4.line)=true:=by rfl) (hs:aL (e::es) X.env=(false,eval e X.env)::aL es X.env:=by rfl) (hplain:(backTo J4 (aL es X.env)).any (·.1)=false:=by rfl) :
  PE X (.Call (.Attribute o name J5) (e::es) [] J4) (oG X.K T r to t):=by
 intro J3 s σ H Q I h;refine wpAny_Call_method_late hbase hfew hline rfl (cF (ho J3 s σ H _ I h) fun v s1 ⟨x,H1,I1,r1,ty,q1⟩=>?_);obtain ⟨h1,h2⟩:=DX I1 r1 ty;refine ⟨T,id,pa,slot,hty,h1,h2,?_⟩;have hA:=ha J4 J3 s1 σ H1 _ I1 q1;rw [hs] at hA ⊢;refine sC (by show (false || (backTo J4 (aL es X.env)).any (·.1))=false; rw [hplain] <;> rfl) (Calls.evalArgs_plain ?_);exact cF hA fun us s2 ⟨vs,H2,I2,r2,q2⟩=>hm J3 s2 σ H2 x vs v us Q I2 r1 r2 q2
end
end L2
namespace L2
open PySem PySem.Spec PyProof.Rows
def Hj (X:Cx) (id:String) (r:V->List V->Hp->VK->Prop):Prop :=
 ∀(J3:Zd) (s:Shared) (σ:St) (H:Hp) (x:V) (xs:List V) (v:Value) (us:Zf) (Q:VK),Inv X J3 σ H s->RelV x v->a_ xs us->r x xs H Q ->
  wpAny (model X.prog X.w) X.A (call (.builtin id) (v::us)) (EP X J3 σ Q) X.xe s
theorem a_.one:∀{x:V}{us:Zf},a_ [x] us->∃u,us=[u]/\RelV x u
 | _,_,.cons r .nil=>⟨_,rfl,r⟩
theorem a_.two:∀{x y:V}{us:Zf},a_ [x,y] us->∃u v,us=[u,v]/\RelV x u/\RelV y v
 | _,_,_,.cons r (.cons q .nil)=>⟨_,_,rfl,r,q⟩
theorem a_.zero:∀{us:Zf},a_ [] us->us=[]
 | _,.nil=>rfl
theorem a_.dropLast {xs:List V}{us:Zf}(h:a_ xs us):a_ xs.dropLast us.dropLast:=by
 induction h with
 | nil=>exact .nil
 | cons r t ih =>
  cases t with
  | nil=>exact .nil
  | cons q t'=>exact .cons r ih
theorem a_.eraseIdx:∀{xs:List V}{us:Zf}(i:Nat),a_ xs us->a_ (xs.eraseIdx i) (us.eraseIdx i)
 | _,_,_,.nil=>.nil
 | _,_,0,.cons _ t=>t
 | _,_,i+1,.cons r t=>.cons r (a_.eraseIdx i t)
theorem a_.reverse {xs:List V}{us:Zf}(h:a_ xs us):a_ xs.reverse us.reverse:=by
 induction h with
 | nil=>exact .nil
 | cons r t ih=>rw [wB,wB]; exact a_.append ih (.cons r .nil)
theorem AZ {α:Type}(l:List α):l.eraseIdx (l.length-1)=l.dropLast:=by
 induction l with
 | nil=>rfl
 | cons a r ih =>
  cases r with
  | nil=>rfl
  | cons b r =>
   have e:(a::b::r).length-1=((b::r).length-1)+1:=by
    have h1:(a::b::r).length=r.length+2:=rfl;have h2:(b::r).length=r.length+1:=rfl;omega
   rw [e,List.eraseIdx_cons_succ,ih]
   all_goals rfl
theorem vx {α:Type}:∀(l:List α) (i:Nat),(l.eraseIdx i).length<=l.length
 | [],_=>aE _
 | _::_,0=>mL _
 | _::r,i+1=>Nat.succ_le_succ (vx r i)
section
variable {X:Cx}{J3:Zd}{σ:St}{H:Hp}{s:Shared}{l b:Addr}{xs ys zs:List V}
theorem Inv.lset {its its':Zf}{n:Nat}{f:Array Value->Array Value}{t':Nat}(I:Inv X J3 σ H s) (hH:H l=some (.lst xs))
  (e:s.heap.get? l=some { cls:=.type "list",data:=.seq its.toArray n }) (hf:f its.toArray=its'.toArray) (hv:a_ ys its') (hz:ys.length<=aj) :
  Inv X J3 σ (upd H l (.lst ys)) { s with heap:=s.heap.update l (sD f),toks:=t' }:=by
 have q:=PySem.IsL.update e f;rw [hf] at q;refine I.write (x:=l) (e:=l) (by rw [hH]; exact trivial) (.inl rfl) (fun b' u hb hu=>(Heap.get?_update_other s.heap (sD f) (dz hb)).trans hu) ⟨_,q⟩ ?_;exact ⟨hz,its',_,hv,q⟩
theorem Inv.lnew {its:Zf}{t':Nat}(I:Inv X J3 σ H s) (hv:a_ ys its) (hz:ys.length<=aj) :
  Inv X J3 σ (upd H s.heap.objs.size (.lst ys)) { s with heap:=s.heap.push { cls:=.type "list",data:=.seq its.toArray },toks:=t' } :=
 I.laid (fun _ _ q=>bu _ q) (aE _) ⟨hz,its,0,hv,cL _ rfl⟩
theorem Inv.fresh (I:Inv X J3 σ H s):H s.heap.objs.size=none:=I.hok.fresh (aE _)
theorem Inv.lstM (I:Inv X J3 σ H s) (hH:H l=some (.lst xs)):xs.length<=aj/\∃(its:Zf) (n:Nat),a_ xs its/\xs.length=its.length/\s.heap.get? l=some { cls:=.type "list",data:=.seq its.toArray n }:=by
 obtain ⟨z,its,n,r,e⟩:=I.hok l _ hH;exact ⟨z,its,n,r,r.length,e⟩
theorem EJ {n:Nat}(h:n<=aj):b_.List.listTooLong n=false:=by
 unfold b_.List.listTooLong;exact zzr0 (by omega)
end
section
variable {X:Cx}
def bX:V->List V->Hp->VK->Prop:=fun x vs H Q=>∃l xs y,x=.ref l/\vs=[y]/\H l=some (.lst xs)/\xs.length<aj/\Q .non (upd H l (.lst (xs++[y])))
theorem bL:Hj X "list.append" bX:=by
 intro J3 s σ H x vs v us Q I rx rv h;obtain ⟨l,xs,y,rfl,rfl,hH,hz,q⟩:=h;cases rx;obtain ⟨u,rfl,ru⟩:=rv.one;obtain ⟨z,its,n,r,hl,e⟩:=I.lstM hH;refine nq F.slot_list_append ⟨_,e,rfl⟩ F.entry_list_append (F.args_list_append_2 _ _) (PySem.list_append l its.toArray n u (by rw [bI]; omega)) ⟨e,?_⟩;refine ⟨.non,_,I.lset (its':=its++[u]) hH e (by simp) (r.append (.cons ru .nil)) ?_,rfl,q⟩;rw [ay,nj];omega
def BQ:V->List V->Hp->VK->Prop:=fun x vs H Q=>∃l b xs zs,x=.ref l/\vs=[.ref b]/\H l=some (.lst xs)/\H b=some (.lst zs)/\xs.length+zs.length<=aj/\Q .non (upd H l (.lst (xs++zs)))
theorem C_:Hj X "list.extend" BQ:=by
 intro J3 s σ H x vs v us Q I rx rv h;obtain ⟨l,b,xs,zs,rfl,rfl,hH,hB,hz,q⟩:=h;cases rx;obtain ⟨u,rfl,ru⟩:=rv.one;cases ru;obtain ⟨z,its,n,r,hl,e⟩:=I.lstM hH;obtain ⟨z2,its2,n2,r2,hl2,e2⟩:=I.lstM hB;have hsz:its.toArray.size+its2.toArray.size<=aj:=by rw [bI,bI]; omega
 have hlong:¬(!its.toArray.isEmpty && b_.List.listTooLong (its.toArray.size+its2.toArray.size))=true:=by
  rw [EJ hsz,wA];exact fN
 refine nq F.slot_list_extend ⟨_,e,rfl⟩ F.entry_list_extend (F.args_list_extend_2 _ _)
  (AutoSeq1.list_extend_list_list_0 l its.toArray n b its2.toArray n2 hlong (by rw [bI]; omega) (by omega)) ⟨e,e2,?_⟩
 refine ⟨.non,_,I.lset (its':=its++its2) hH e (by simp) (r.append r2) ?_,rfl,q⟩;rw [ay];omega
def Ht:V->List V->Hp->VK->Prop:=fun x vs H Q=>∃l xs y,x=.ref l/\vs=[]/\H l=some (.lst xs)/\xs[xs.length-1]?=some y/\Q y (upd H l (.lst xs.dropLast))
theorem ES:Hj X "list.pop" Ht:=by
 intro J3 s σ H x vs v us Q I rx rv h;obtain ⟨l,xs,y,rfl,rfl,hH,hy,q⟩:=h;cases rx;have hus:=rv.zero;subst hus;obtain ⟨z,its,n,r,hl,e⟩:=I.lstM hH;obtain ⟨u,hu,ru⟩:=r.get hy;have hy':its.toArray[its.toArray.size-1]?=some u:=by
  show its.toArray[its.length-1]?=some u;rw [<-Array.getElem?_toList,<-hl];exact hu
 refine nq F.slot_list_pop ⟨_,e,rfl⟩ F.entry_list_pop (F.args_list_pop_1 _) (MeetsSeq.list_pop_last l its.toArray n u hy' (by rw [bI]; omega)) ⟨e,?_⟩;refine ⟨y,_,I.lset (its':=its.dropLast) hH e ?_ r.dropLast ?_,ru,q⟩
 ·show its.toArray.eraseIdxIfInBounds (its.toArray.size-1)=its.dropLast.toArray;rw [bI,List.eraseIdxIfInBounds_toArray,AZ]
 ·rw [List.length_dropLast];omega
def Ew:V->List V->Hp->VK->Prop:=fun x vs H Q=>∃l xs i k y,x=.ref l/\vs=[.int i]/\H l=some (.lst xs)/\-(2 ^ 63)<=i/\i<2 ^ 63/\wE i xs.length=some k/\xs[k]?=some y/\Q y (upd H l (.lst (xs.eraseIdx k)))
theorem ER:Hj X "list.pop" Ew:=by
 intro J3 s σ H x vs v us Q I rx rv h;obtain ⟨l,xs,i,k,y,rfl,rfl,hH,h1,h2,hk,hy,q⟩:=h;cases rx;obtain ⟨u,rfl,ru⟩:=rv.one;obtain ⟨t,rfl⟩:=ru;obtain ⟨z,its,n,r,hl,e⟩:=I.lstM hH;obtain ⟨w,hw,rw'⟩:=r.get hy;refine nq F.slot_list_pop ⟨_,e,rfl⟩ F.entry_list_pop (F.args_list_pop_2 _ _)
  (MeetsSeq.list_pop_at l its.toArray n i t k w (fitsIndex_both h1 h2) (by rw [bI,<-hl]; exact hk) (by rw [<-Array.getElem?_toList]; exact hw) (by rw [bI]; omega)) ⟨e,?_⟩
 refine ⟨y,_,I.lset (its':=its.eraseIdx k) hH e ?_ (r.eraseIdx k) ?_,rw',q⟩
 ·show its.toArray.eraseIdxIfInBounds k=(its.eraseIdx k).toArray;rw [List.eraseIdxIfInBounds_toArray]
 ·have:=vx xs k;omega
def yP:V->List V->Hp->VK->Prop:=fun x vs H Q=>∃l xs,x=.ref l/\vs=[]/\H l=some (.lst xs)/\Q .non (upd H l (.lst xs.reverse))
theorem AG:Hj X "list.reverse" yP:=by
 intro J3 s σ H x vs v us Q I rx rv h;obtain ⟨l,xs,rfl,rfl,hH,q⟩:=h;cases rx;have hus:=rv.zero;subst hus;obtain ⟨z,its,n,r,hl,e⟩:=I.lstM hH;refine nq F.slot_list_reverse ⟨_,e,rfl⟩ F.entry_list_reverse (F.args_list_reverse_1 _) (AutoSeq1.list_reverse_list_0 l its.toArray n (by rw [bI]; omega)) ⟨e,?_⟩;refine ⟨.non,_,I.lset (its':=its.reverse) hH e (by simp) r.reverse ?_,rfl,q⟩;rw [List.length_reverse];omega
def kQ:R2:=fun x y H Q=>∃l b xs zs,x=.ref l/\y=.ref b/\H l=some (.lst xs)/\H b=some (.lst zs)/\xs.length+zs.length<=aj/\∀p,H p=none->Q (.ref p) (upd H p (.lst (xs++zs)))
theorem ga:oj X (qG .Add) kQ:=by
 intro J3 s σ H x y v u Q I rx ry h;obtain ⟨l,b,xs,zs,rfl,rfl,hH,hB,hz,q⟩:=h;cases rx;cases ry;obtain ⟨z,its,n,r,hl,e⟩:=I.lstM hH;obtain ⟨z2,its2,n2,r2,hl2,e2⟩:=I.lstM hB;refine PySem.P.add_list e e2 ?_ (by rw [bI,bI]; omega);have ea:its.toArray++its2.toArray=(its++its2).toArray:=by simp
 rw [ea];exact ⟨.ref _,_,I.lnew (t':=s.toks) (r.append r2) (by rw [ay]; omega),rfl,q _ I.fresh⟩
end
end L2
namespace L2
open PySem PySem.Spec PyProof.Rows
section
variable {κ:Type} [DecidableEq κ]
def bQ (kvs:List (κ×V)) (k:κ):Option V:=(kvs.find? fun kv=>decide (kv.1=k)).map (·.2)
def cO (kvs:List (κ×V)) (k:κ) (v:V):List (κ×V) :=
 if (kvs.any fun kv=>decide (kv.1=k))=true then kvs.map (fun kv=>if kv.1=k then (kv.1,v) else kv) else kvs++[(k,v)]
theorem cD {p:κ×V}{r:List (κ×V)}{k:κ}(e:p.1=k):bQ (p::r) k=some p.2:=by simp [bQ,lb,e]
theorem cz {p:κ×V}{r:List (κ×V)}{k:κ}(e:¬p.1=k):bQ (p::r) k=bQ r k:=by simp [bQ,lb,e]
theorem jB (k:κ):∀kvs:List (κ×V),(kvs.any fun kv=>decide (kv.1=k))=(bQ kvs k).isSome
 | []=>rfl
 | p::r=>by
  rw [nh];by_cases e:p.1=k
  ·simp only [cD e,zzr1 e,Bool.true_or,Option.isSome_some]
  ·rw [cz e,zzr0 e,Bool.false_or]; exact jB k r
theorem yj (k j:κ) (y:V):∀kvs:List (κ×V),bQ (kvs.map fun kv=>if kv.1=k then (kv.1,y) else kv) j=(bQ kvs j).map fun x=>if j=k then y else x
 | []=>rfl
 | p::r=>by
  have ih:=yj k j y r;rw [bc];by_cases h:p.1=k
  ·rw [if_pos h];by_cases e:p.1=j
   ·rw [cD (p:=(p.1,y)) e,cD e,sB,if_pos (e.symm.trans h)]
   ·rw [cz (p:=(p.1,y)) e,cz e,ih]
  ·rw [if_neg h];by_cases e:p.1=j
   ·rw [cD (p:=p) e,cD e,sB,if_neg (fun z=>h (e.trans z))]
   ·rw [cz (p:=p) e,cz e,ih]
theorem u7 (k j:κ) (y:V):∀kvs:List (κ×V),bQ kvs k=none->bQ (kvs++[(k,y)]) j=if j=k then some y else bQ kvs j
 | [],_=>by
  by_cases e:k=j
  ·rw [if_pos e.symm]; exact cD (p:=(k,y)) e
  ·rw [if_neg (fun z=>e z.symm)]; exact cz (p:=(k,y)) e
 | p::r,hn=>by
  rw [sA];have hk:¬p.1=k:=fun z=>by rw [cD z] at hn; cases hn
  rw [cz hk] at hn;have ih:=u7 k j y r hn;by_cases e:p.1=j
  ·rw [cD e,cD e,if_neg (fun z=>hk (e.trans z))]
  ·rw [cz e,cz e,ih]
theorem oz (kvs:List (κ×V)) (k j:κ) (y:V):bQ (cO kvs k y) j=if j=k then some y else bQ kvs j:=by
 unfold cO;by_cases a:(kvs.any fun kv=>decide (kv.1=k))=true
 ·rw [if_pos a,yj];rw [jB] at a;by_cases e:j=k
  ·obtain ⟨x,hx⟩:=Bs.mp a;rw [if_pos e,e,hx,sB,if_pos rfl]
  ·rw [if_neg e];cases bQ kvs j with
   | none=>rfl
   | some x=>rw [sB,if_neg e]
 ·rw [if_neg a];refine u7 k j y kvs ?_;rw [jB] at a;cases q:bQ kvs k with
  | none=>rfl
  | some x=>rw [q] at a; exact (a rfl).elim
theorem i6 (kvs:List (κ×V)) (k:κ) (v:V):(cO kvs k v).length<=kvs.length+1:=by
 unfold cO;split
 ·rw [ai]; omega
 ·rw [ay,em,wz]; omega
theorem fX {kvs:List (κ×V)}{k:κ}(v:V) (h:bQ kvs k=none):cO kvs k v=kvs++[(k,v)]:=by
 unfold cO;rw [jB,h];exact if_neg (by decide)
theorem kR.isSome_eq {o:Option V}{u:Option Value}(r:kR o u):o.isSome=u.isSome:=by
 cases o with
 | none=>cases u with
  | none=>rfl
  | some _=>exact (show False from r).elim
 | some _=>cases u with
  | none=>exact (show False from r).elim
  | some _=>rfl
theorem kR.getD {o:Option V}{u:Option Value}{d:V}{d':Value}(r:kR o u) (rd:RelV d d'):RelV (o.getD d) (u.getD d'):=by
 cases o with
 | none=>cases u with
  | none=>exact rd
  | some _=>exact (show False from r).elim
 | some _=>cases u with
  | none=>exact (show False from r).elim
  | some _=>exact r
theorem KV.val {kvs:List (κ×V)}{vs:List (κ×Value)}(r:KV kvs vs) (k:κ):kR (bQ kvs k) (ng vs k):=by
 unfold KV at r
 induction r with
 | nil=>exact oq
 | @cons p q ps qs h t ih =>
  obtain ⟨h1,h2⟩:=h;by_cases e:p.1=k
  ·have e':q.1=k:=h1.symm.trans e;have b:ng (q::qs) k=some q.2:=by simp [ng,lb,e']
   rw [cD e,b]; exact h2
  ·have e':¬q.1=k:=fun z=>e (h1.trans z);have b:ng (q::qs) k=ng qs k:=by simp [ng,lb,e']
   rw [cz e,b]; exact ih
theorem KV.any {kvs:List (κ×V)}{vs:List (κ×Value)}(r:KV kvs vs) (k:κ):(kvs.any fun kv=>decide (kv.1=k))=vs.any fun kv=>decide (kv.1=k):=by
 unfold KV at r
 induction r with
 | nil=>rfl
 | cons h t ih=>rw [nh,nh,ih,h.1]
theorem KV.repl {kvs:List (κ×V)}{vs:List (κ×Value)}(r:KV kvs vs) (k:κ) {y:V}{u:Value}(ry:RelV y u) :
  KV (kvs.map fun kv=>if kv.1=k then (kv.1,y) else kv) (vs.map fun kv=>if kv.1=k then (kv.1,u) else kv):=by
 unfold KV at r ⊢
 induction r with
 | nil=>exact .nil
 | @cons p q ps qs h t ih =>
  rw [bc,bc];refine .cons ?_ ih;obtain ⟨h1,h2⟩:=h;by_cases e:p.1=k
  ·rw [if_pos e,if_pos (h1.symm.trans e)]; exact ⟨h1,ry⟩
  ·rw [if_neg e,if_neg (fun z=>e (h1.trans z))]; exact ⟨h1,h2⟩
theorem KV.put {kvs:List (κ×V)}{vs:List (κ×Value)}(r:KV kvs vs) (k:κ) {y:V}{u:Value}(ry:RelV y u):KV (cO kvs k y) (stored vs k u):=by
 unfold cO stored;rw [r.any k];by_cases e:(vs.any fun kv=>decide (kv.1=k))=true
 ·rw [if_pos e,if_pos e]; exact r.repl k ry
 ·rw [if_neg e,if_neg e]; exact cp r ⟨rfl,ry⟩
theorem KV.length {kvs:List (κ×V)}{vs:List (κ×Value)}(r:KV kvs vs):kvs.length=vs.length:=Paired.length r
end
theorem jP {P:bW}{w:World}{k:eQ}{u:Value}(r:RelV (kV k) u):(bY P w).is k u=true:=by
 cases k with
 | inl i=>obtain ⟨t,e⟩:=(show ∃t,u=Value.int i t from r); subst e; exact y6 P w i t
 | inr x=>obtain ⟨t,e⟩:=(show ∃t,u=Value.str x t from r); subst e; exact y4 P w x t
abbrev KT (K:Za) (H:Hp):List (TK×V)->List (TK×Addr×Value)->Prop:=Paired fun p q=>p.1=q.1/\nP K H p.1 (.ref q.2.1)/\p.1.depth<=8/\RelV p.2 q.2.2
theorem KT.val {K:Za}{H:Hp}{kvs:List (TK×V)}{xs:List (TK×Addr×Value)}(r:KT K H kvs xs) (k:TK):kR (bQ kvs k) ((atKey xs k).map (·.2)):=by
 induction r with
 | nil=>exact oq
 | @cons p q ps qs h t ih =>
  obtain ⟨h1,_,_,h2⟩:=h;by_cases e:p.1=k
  ·have e':q.1=k:=h1.symm.trans e;have b:atKey (q::qs) k=some q.2:=by simp [atKey,lb,e']
   rw [cD e,b]; exact h2
  ·have e':¬q.1=k:=fun z=>e (h1.trans z);have b:atKey (q::qs) k=atKey qs k:=by simp [atKey,lb,e']
   rw [cz e,b]; exact ih
theorem KT.repl {K:Za}{H:Hp}{kvs:List (TK×V)}{xs:List (TK×Addr×Value)}(r:KT K H kvs xs) (k:TK) {y:V}{u:Value}(ry:RelV y u) :
  KT K H (kvs.map fun kv=>if kv.1=k then (kv.1,y) else kv) (xs.map (putAt k u)):=by
 induction r with
 | nil=>exact .nil
 | @cons p q ps qs h t ih =>
  rw [bc,bc];refine .cons ?_ ih;obtain ⟨h1,h2,h3⟩:=h;unfold putAt;by_cases e:p.1=k
  ·rw [if_pos e,if_pos (h1.symm.trans e)]; exact ⟨h1,h2,h3.1,ry⟩
  ·rw [if_neg e,if_neg (fun z=>e (h1.trans z))]; exact ⟨h1,h2,h3⟩
theorem KT.put {K:Za}{H:Hp}{kvs:List (TK×V)}{xs:List (TK×Addr×Value)}(r:KT K H kvs xs) (k:TK) {b:Addr}{y:V}{u:Value}(hb:nP K H k (.ref b)) (h8:k.depth<=8) (ry:RelV y u) :
  KT K H (cO kvs k y) (storedH xs k b u):=by
 have e:(kvs.any fun kv=>decide (kv.1=k))=(atKey xs k).isSome:=by
  rw [jB,(r.val k).isSome_eq,Option.isSome_map]
 unfold cO storedH;rw [e];by_cases q:(atKey xs k).isSome=true
 ·rw [if_pos q,if_pos q]; exact r.repl k ry
 ·rw [if_neg q,if_neg q]; exact cp r ⟨rfl,hb,h8,ry⟩
theorem KT.keeps {K:Za}{H H':Hp}{kvs:List (TK×V)}{xs:List (TK×Addr×Value)}(r:KT K H kvs xs) (ht:∀b ys,H b=some (.tup ys)->H' b=some (.tup ys)):KT K H' kvs xs :=
 Paired.mapP r fun _ _ z=>⟨z.1,nP.keeps ht 8 z.2.2.1 z.2.1,z.2.2⟩
section
variable {P:bW}{w:World}{K:Za}{H:Hp}{h:Heap}{a:Addr}
theorem G7 {u:HO}(ok:mq P w K H h) (e:Rd H a u):cA P w K H h a u:=e.ok ok
theorem pe {kvs:List (eQ×V)}(ok:mq P w K H h) (e:Rd H a (.dK kvs)):kvs.length<=aj/\(a == gA)=false/\∃vs,KV kvs vs/\h.DictOf (bY P w) a vs :=
 show cA P w K H h a (.dK kvs) from G7 ok e
theorem IA {kvs:List (eQ×V)}(ok:mq P w K H h) (e:H a=some (.dK kvs)):kvs.length<=aj/\(a == gA)=false/\∃vs,KV kvs vs/\h.DictOf (bY P w) a vs:=pe ok (.inl e)
theorem Hm (ok:mq P w K H h) (kin:K.In h):∀(d:Nat) {k:TK}{v:V}{u:Value},k.depth<=d->nP K H k v->RelV v u->mF h k u:=by
 have key:∀(d:Nat) (ih:∀{k:TK}{v:V}{u:Value},k.depth<=d->nP K H k v->RelV v u->mF h k u) (ks:List TK) (vs:List V) (us:Zf),TK.depths ks<=d->TKCs K H ks vs->a_ vs us->TAts h ks us:=by
  intro d ih ks
  induction ks with
  | nil =>
   intro vs us _ hx r;have e:vs=[]:=hx;subst e;cases r
   rfl
  | cons k ks ihl =>
   intro vs us hd hx r;obtain ⟨v,vs',rfl,h1,h2⟩:=hx;cases r with
   | @cons _ u _ us' r1 r2 =>
    have hd':max k.depth (TK.depths ks)<=d:=hd;exact ⟨u,us',rfl,ih (by omega) h1 r1,ihl vs' us' (by omega) h2 r2⟩
 intro d
 induction d with
 | zero =>
  intro k v u hd hx r;cases k with
  | t l=>exact absurd hd (by show ¬(TK.depths l+1<=0); omega)
  | k b =>
   have e:v=kV b:=hx;subst e;exact jP (P:=P) (w:=w) r
 | succ d ih =>
  intro k v u hd hx r;cases k with
  | k b =>
   have e:v=kV b:=hx;subst e;exact jP (P:=P) (w:=w) r
  | t l =>
   obtain ⟨b,xs,rfl,hb,hi⟩:=hx;cases (show u=Value.ref b from r);obtain ⟨its,rv,ob,h1,h2,n,h3⟩:∃its:List Value,a_ xs its/\IsTup h b its.toArray:=by
    rcases hb with hb | ⟨o,its,n,hk,hc,hs,hz,r⟩
    ·obtain ⟨_,its,rv,p⟩:=(show cA P w K H h b (.tup xs) from ok b _ hb);exact ⟨its,rv,p⟩
    ·exact ⟨its.toList,r,o,kin b o hk,hc,n,by simpa using hs⟩
   exact ⟨b,ob,its.toArray,n,rfl,h1,h2,h3,by simpa using key d (fun h1=>ih h1) l xs its (by have:TK.depths l+1<=d+1:=hd; omega) hi rv⟩
theorem tJ {k:TK}(ok:mq P w K H h) (kin:K.In h) (e:nP K H k (.ref a)) (h8:k.depth<=8):(dS P w).is h k a:=⟨Hm ok kin 8 h8 e rfl,h8⟩
theorem qX {kvs:List (TK×V)}(ok:mq P w K H h) (kin:K.In h) (e:Rd H a (.dT kvs)):kvs.length<=aj/\(a == gA)=false /\
  ∃xs,KT K H kvs xs/\h.DictOfH (dS P w) a xs:=by
 obtain ⟨z,y,xs,r,o,es,ep,h1,h2,h3,h4,h5⟩:=(show cA P w K H h a (.dT kvs) from G7 ok e);refine ⟨z,y,xs,r,o,es,ep,h1,h2,h3,h4,fun x hx=>?_,h5⟩;have all:∀{l:List (TK×V)}{m:List (TK×Addr×Value)},KT K H l m->∀x∈m,(dS P w).is h x.1 x.2.1:=by
  intro l m q
  induction q with
  | nil=>intro x hx; exact nomatch hx
  | @cons p q ps qs hq t ih =>
   intro x hx;rcases c9.mp hx with e | hx
   ·subst e;exact tJ ok kin (by rw [<-hq.1]; exact hq.2.1) (by rw [<-hq.1]; exact hq.2.2.1)
   ·exact ih x hx
 exact all r x hx
theorem Cj {kvs:List (TK×V)}(ok:mq P w K H h) (kin:K.In h) (e:H a=some (.dT kvs)):kvs.length<=aj/\(a == gA)=false /\
  ∃xs,KT K H kvs xs/\h.DictOfH (dS P w) a xs:=qX ok kin (.inl e)
end
mutual
def lN (K:Za) (H:Hp):TK->V->Prop
 | .k a,v=>v=kV a
 | .t l,v=>∃b xs,v=.ref b/\bj K H b xs/\TKIns K H l xs
def TKIns (K:Za) (H:Hp):List TK->List V->Prop
 | [],vs=>vs=[]
 | k::r,vs=>∃v us,vs=v::us/\lN K H k v/\TKIns K H r us
end
theorem cT.isIn {K:Za}{H:Hp}:∀(d:Nat) {k:TK}{v:V},k.depth<=d->cT H k v->lN K H k v:=by
 have key:∀(d:Nat) (ih:∀{k:TK}{v:V},k.depth<=d->cT H k v->lN K H k v) (xs:List TK) (vs:List V),TK.depths xs<=d->TKAts H xs vs->TKIns K H xs vs:=by
  intro d ih xs
  induction xs with
  | nil=>intro vs _ hx; exact hx
  | cons x xs ihl =>
   intro vs hd hx;obtain ⟨v,us,rfl,hx1,hx2⟩:=hx;have hd':max x.depth (TK.depths xs)<=d:=hd;exact ⟨v,us,rfl,ih (by omega) hx1,ihl us (by omega) hx2⟩
 intro d
 induction d with
 | zero =>
  intro k v hd hx;cases k with
  | t l=>exact absurd hd (by show ¬(TK.depths l+1<=0); omega)
  | k a=>exact hx
 | succ d ih =>
  intro k v hd hx;cases k with
  | k a=>exact hx
  | t l =>
   obtain ⟨b,xs,rfl,hb,hi⟩:=hx;exact ⟨b,xs,rfl,bj.of hb,key d (fun h1=>ih h1) l xs (by have:TK.depths l+1<=d+1:=hd; omega) hi⟩
theorem FR {X:Cx}{J3:Zd}{σ:St}{H:Hp}{s:Shared}(I:Inv X J3 σ H s):∀(d:Nat) {k:TK}{v:V}{u:Value},k.depth<=d->lN X.K H k v->RelV v u->mF s.heap k u:=by
 have key:∀(d:Nat) (ih:∀{k:TK}{v:V}{u:Value},k.depth<=d->lN X.K H k v->RelV v u->mF s.heap k u) (ks:List TK) (vs:List V) (us:Zf),TK.depths ks<=d->TKIns X.K H ks vs->a_ vs us->TAts s.heap ks us:=by
  intro d ih ks
  induction ks with
  | nil =>
   intro vs us _ hx r;have e:vs=[]:=hx;subst e;cases r
   rfl
  | cons k ks ihl =>
   intro vs us hd hx r;obtain ⟨v,vs',rfl,h1,h2⟩:=hx;cases r with
   | @cons _ u _ us' r1 r2 =>
    have hd':max k.depth (TK.depths ks)<=d:=hd;exact ⟨u,us',rfl,ih (by omega) h1 r1,ihl vs' us' (by omega) h2 r2⟩
 intro d
 induction d with
 | zero =>
  intro k v u hd hx r;cases k with
  | t l=>exact absurd hd (by show ¬(TK.depths l+1<=0); omega)
  | k b =>
   have e:v=kV b:=hx;subst e;exact jP (P:=X.prog) (w:=X.w) r
 | succ d ih =>
  intro k v u hd hx r;cases k with
  | k b =>
   have e:v=kV b:=hx;subst e;exact jP (P:=X.prog) (w:=X.w) r
  | t l =>
   obtain ⟨b,xs,rfl,hb,hi⟩:=hx;cases (show u=Value.ref b from r);obtain ⟨its,rv,⟨ob,h1,h2,n,h3⟩,_⟩:=I.tuple hb;exact ⟨b,ob,its.toArray,n,rfl,h1,h2,h3,by simpa using key d (fun h1=>ih h1) l xs its (by have:TK.depths l+1<=d+1:=hd; omega) hi rv⟩
theorem tK {X:Cx}{J3:Zd}{σ:St}{H:Hp}{s:Shared}{k:TK}{b:Addr}(I:Inv X J3 σ H s) (e:lN X.K H k (.ref b)) (h8:k.depth<=8):(dS X.prog X.w).is s.heap k b:=⟨FR I 8 h8 e rfl,h8⟩
theorem fK {P:bW}{w:World}{A:Around}(hu:A.units+16<cLine):(dS P w).room A.in1:=by
 show A.units+1+8<cLine;omega
def kz (K:Za) (H:Hp) (a:Addr) (y:V) (r:Option V):Prop :=
 (∃kvs k,Rd H a (.dK kvs)/\y=kV k/\r=bQ kvs k)∨∃kvs k b,Rd H a (.dT kvs)/\y=.ref b/\lN K H k (.ref b)/\k.depth<=8/\r=bQ kvs k
def IL (H:Hp) (a:Addr) (y v:V) (H':Hp):Prop :=
 (∃kvs k,H a=some (.dK kvs)/\y=kV k/\kvs.length<aj/\H'=upd H a (.dK (cO kvs k v))) ∨
 ∃kvs k b,H a=some (.dT kvs)/\y=.ref b/\cT H k (.ref b)/\k.depth<=8/\kvs.length<aj/\H'=upd H a (.dT (cO kvs k v))
section
variable {X:Cx}{J3:Zd}{σ:St}{H:Hp}{s:Shared}{a:Addr}{y v:V}{u r:Value}{o:Option V}{A:Around}{E:Zc}
theorem Inv.big (I:Inv X J3 σ H s):gA<s.heap.objs.size:=by
 have h:cu<s.heap.objs.size:=(I.mod.glob.keeps I.bk).lt;exact Nat.lt_trans (by decide) h
theorem Dt {Q:Zc}(hu:A.units+16<cLine) (I:Inv X J3 σ H s) (g:kz X.K H a y (some v)) (ry:RelV y u) (h:∀w' s',Inv X J3 σ H s'->RelV v w'->Q w' s') :
  wpAny (model X.prog X.w) A (ny (.ref a) u) Q E s:=by
 rcases g with ⟨kvs,k,e,ey,l⟩ | ⟨kvs,k,b,e,ey,eb,e8,l⟩
 ·subst ey;obtain ⟨z,hd,vs,rel,dd⟩:=pe I.hok e;obtain ⟨w',hw,rw'⟩:=kR.some_of (v:=v) (o:=ng vs k) (by rw [l]; exact rel.val k);exact wpAny_getItem_of (jP ry) dd.mapOf hw (h w' _ (I.tok _) rw')
 ·subst ey;cases (show u=Value.ref b from ry);obtain ⟨z,hd,xs,rel,dd⟩:=qX I.hok I.kIn e;obtain ⟨w',hw,rw'⟩:=kR.some_of (v:=v) (o:=(atKey xs k).map (·.2)) (by rw [l]; exact rel.val k);obtain ⟨p,hp,hp2⟩:=mW.mp hw;refine wpAny_getItem_heap (fK hu) (tK I eb e8) dd hp ?_;rw [hp2];exact h w' _ (I.tok _) rw'
theorem d_in {Q:Zc}(hu:A.units+16<cLine) (I:Inv X J3 σ H s) (g:kz X.K H a y o) (ry:RelV y u) (h:∀s',Inv X J3 σ H s'->Q (.bool o.isSome) s') :
  wpAny (model X.prog X.w) A (eD .In u (.ref a)) Q E s:=by
 rcases g with ⟨kvs,k,e,ey,l⟩ | ⟨kvs,k,b,e,ey,eb,e8,l⟩
 ·subst ey;obtain ⟨z,hd,vs,rel,dd⟩:=pe I.hok e;refine wpAny_in_of (jP ry) hd dd.mapOf ?_;rw [<-(rel.val k).isSome_eq,<-l];exact h _ (I.tok _)
 ·subst ey;cases (show u=Value.ref b from ry);obtain ⟨z,hd,xs,rel,dd⟩:=qX I.hok I.kIn e;refine wpAny_in_heap (fK hu) (tK I eb e8) hd dd ?_;have q:=(rel.val k).isSome_eq;rw [Option.isSome_map] at q;rw [<-q,<-l];exact h _ (I.tok _)
theorem GN {Q:Zc}(hu:A.units+16<cLine) (I:Inv X J3 σ H s) (g:kz X.K H a y o) (ry:RelV y u) (h:∀s',Inv X J3 σ H s'->Q (.bool (!o.isSome)) s') :
  wpAny (model X.prog X.w) A (eD .NotIn u (.ref a)) Q E s:=by
 rcases g with ⟨kvs,k,e,ey,l⟩ | ⟨kvs,k,b,e,ey,eb,e8,l⟩
 ·subst ey;obtain ⟨z,hd,vs,rel,dd⟩:=pe I.hok e;refine wpAny_notIn_of (jP ry) hd dd.mapOf ?_;rw [<-(rel.val k).isSome_eq,<-l];exact h _ (I.tok _)
 ·subst ey;cases (show u=Value.ref b from ry);obtain ⟨z,hd,xs,rel,dd⟩:=qX I.hok I.kIn e;refine wpAny_notIn_heap (fK hu) (tK I eb e8) hd dd ?_;have q:=(rel.val k).isSome_eq;rw [Option.isSome_map] at q;rw [<-q,<-l];exact h _ (I.tok _)
theorem pf {h':Heap}{t':Nat}{ob:HO}(I:Inv X J3 σ H s) (mu:ID (H a)) (hs:fJ a s.heap h') (he:∃q,h'.get? a=some q) (new:cA X.prog X.w X.K (upd H a ob) h' a ob) :
  Inv X J3 σ (upd H a ob) { s with heap:=h',toks:=t' } :=
 I.write (x:=a) (e:=a) mu (.inl rfl) (fun b q hb z=>(hs.2 b hb).trans z) he new
theorem Fm {P:bW}{w:World}{K:Za}{H':Hp}{h':Heap}{kvs:List (eQ×V)}{vs:List (eQ×Value)}(z:kvs.length<=aj) (hd:(a == gA)=false) (rel:KV kvs vs) (dd:h'.DictOf (bY P w) a vs) :
  cA P w K H' h' a (.dK kvs):=⟨z,hd,vs,rel,dd⟩
theorem Ds {H':Hp}{Q:Unit->Shared->Prop}(hu:A.units+16<cLine) (I:Inv X J3 σ H s) (g:IL H a y v H') (ry:RelV y u) (rv:RelV v r) (h:∀s',Inv X J3 σ H' s'->Q () s') :
  wpAny (model X.prog X.w) A (setItem (.ref a) u r) Q E s:=by
 rcases g with ⟨kvs,k,e,ey,l,eH⟩ | ⟨kvs,k,b,e,ey,eb,e8,l,eH⟩
 ·subst ey eH;obtain ⟨z,hd,vs,rel,dd⟩:=IA I.hok e;have hz:vs.length<=aj:=by rw [<-rel.length]; exact z
  have hl:(cO kvs k v).length<=aj:=by have:=i6 kvs k v; omega
  refine wpAny_setItem_pairs (hsz:=hz) (jP ry) dd fun h' dd' hs=>h _ ?_;have he:∃q,h'.get? a=some q:=let ⟨q,_,_,hq,_⟩:=dd'; ⟨q,hq⟩;exact pf I (by rw [e]; exact oq) hs he (Fm hl hd (rel.put k rv) dd')
 ·subst ey eH;cases (show u=Value.ref b from ry);obtain ⟨z,hd,xs,rel,dd⟩:=Cj I.hok I.kIn e;have hz:xs.length<=aj:=by rw [<-Paired.length rel]; exact z
  have hl:(cO kvs k v).length<=aj:=by have:=i6 kvs k v; omega
  refine wpAny_setItem_heap (hsz:=hz) (fK hu) (tJ I.hok I.kIn (cT.c 8 e8 eb) e8) dd fun h' dd' hs=>h _ ?_;obtain ⟨q,es,ep,hq,h2,h3,h4,_,h5⟩:=dd';refine pf I (by rw [e]; exact oq) hs ⟨q,hq⟩ ⟨hl,hd,_,(rel.put k (cT.c 8 e8 eb) e8 rv).keeps fun c ys ec=>?_,q,es,ep,hq,h2,h3,h4,h5⟩;rw [af (Ca ec e (fun z=>nomatch z))];exact ec
theorem A6 {b:Addr}{kvs:List (TK×V)}{k:TK}{Q:Unit->Shared->Prop}(hu:A.units+16<cLine) (I:Inv X J3 σ H s) (e:H a=some (.dT kvs)) (eb:nP X.K H k (.ref b)) (e8:k.depth<=8) (l:kvs.length<aj) (ry:RelV (.ref b) u) (rv:RelV v r) (h:∀s',Inv X J3 σ (upd H a (.dT (cO kvs k v))) s'->Q () s') :
  wpAny (model X.prog X.w) A (setItem (.ref a) u r) Q E s:=by
 cases (show u=Value.ref b from ry);obtain ⟨z,hd,xs,rel,dd⟩:=Cj I.hok I.kIn e;have hz:xs.length<=aj:=by rw [<-Paired.length rel]; exact z
 have hl:(cO kvs k v).length<=aj:=by have:=i6 kvs k v; omega
 refine wpAny_setItem_heap (hsz:=hz) (fK hu) (tJ I.hok I.kIn (eb) e8) dd fun h' dd' hs=>h _ ?_;obtain ⟨q,es,ep,hq,h2,h3,h4,_,h5⟩:=dd';refine pf I (by rw [e]; exact oq) hs ⟨q,hq⟩ ⟨hl,hd,_,(rel.put k (eb) e8 rv).keeps fun c ys ec=>?_,q,es,ep,hq,h2,h3,h4,h5⟩;rw [af (Ca ec e (fun z=>nomatch z))];exact ec
end
def DA (i:Expr):Prop:=∀ov iv,wD i false ov iv=operate [ov,iv] (ny ov iv)
theorem FW {prog:bW}{w:World}{A:Around}{E:Zc}{s:Shared}{env:Env}{value slice:Expr}{pos:Pos}{T id:String}{Q:Zc}
  (hl:typeLookup (.type T) "__getitem__"=pure (some (.builtin id))) (hs:DA slice)
  (h:wpAny (model prog w) A (eval value env) (fun o s₁=>wpAny (model prog w) A (eval slice env) (fun i s₂=>s₂.TypeIs o T/\wpAny (model prog w) A (ny o i) Q E s₂) E s₁) E s) :
  wpAny (model prog w) A (eval (.Subscript value slice pos) env) Q E s:=by
 refine Subscript_ (jy h (fun o s₁ h₁=>jy h₁ (fun i s₂ h₂=>?_) fun _ _ x=>x) fun _ _ x=>x);obtain ⟨hT,h₂⟩:=h₂;unfold subscriptTail;refine ak ?_;rw [getitemInPython_of_ne hT.not_modules];refine ak (FM hT hl ?_);have fin:wpAny (model prog w) A (wD slice false o i) (fun r s₃=>wpAny (model prog w) A (letTemporaryGo value o r >>= fun _=>pure r) Q E s₃) E s₂:=by
  rw [hs o i];exact wpAny_operating (jy h₂ (fun r s₃ h₃=>ak (wpAny_letTemporaryGo (aI h₃))) fun _ _ x=>x)
 first
  | exact aI (ak fin)
  | exact ak (aI (ak fin))
  | exact ak fin
theorem zD {X:Cx}{J3:Zd}{σ:St}{H:Hp}{s:Shared}{a:Addr}{y:V}{o:Option V}(I:Inv X J3 σ H s) (g:kz X.K H a y o):s.TypeIs (.ref a) "dict":=by
 rcases g with ⟨kvs,k,e,_,_⟩ | ⟨kvs,k,b,e,_,_,_⟩
 ·obtain ⟨_,_,vs,_,dd⟩:=pe I.hok e;exact dd.typeIs
 ·obtain ⟨_,_,xs,_,dd⟩:=qX I.hok I.kIn e;exact dd.typeIs
def fU (K:Za) (td ty:TE):TE:=fun σ H Q=>td σ H fun x H1=>ty σ H1 fun y H2=>∃a v,x=.ref a/\kz K H2 a y (some v)/\Q v H2
def An (K:Za) (ty td:TE):TE:=fun σ H Q=>ty σ H fun y H1=>td σ H1 fun x H2=>∃a o,x=.ref a/\kz K H2 a y o/\Q (.bl o.isSome) H2
def eV (K:Za) (ty td:TE):TE:=fun σ H Q=>ty σ H fun y H1=>td σ H1 fun x H2=>∃a o,x=.ref a/\kz K H2 a y o/\Q (.bl (!o.isSome)) H2
def kL (td ty tv:TE):TS:=fun D σ H=>tv σ H fun v H1=>td σ H1 fun x H2=>ty σ H2 fun y H3=>∃a H4,x=.ref a/\IL H3 a y v H4/\D.nx σ H4
section
variable {X:Cx}{o i e value:Expr}{pos pos' J7:Pos}{td ty tv:TE}
theorem eZ (hu:X.A.units+16<cLine) (ho:PE X o td) (hi:PE X i ty) (hs:DA i):PE X (.Subscript o i pos) (fU X.K td ty):=by
 intro J3 s σ H Q I h;refine FW PySem.F.slot_dict_getitem.lookup hs (cF (ho J3 s σ H _ I h) fun u s1 ⟨x,H1,I1,rx,q1⟩=>cF (hi J3 s1 σ H1 _ I1 q1) fun iv s2 ⟨y,H2,I2,ry,a,v,ex,g,q2⟩=>?_);subst ex;obtain rfl:u=Value.ref a:=rx;exact ⟨zD I2 g,Dt hu I2 g ry fun w' s3 I3 rw'=>⟨v,H2,I3,rw',q2⟩⟩
theorem qb (hu:X.A.units+16<cLine) (hi:PE X i ty) (ho:PE X o td):PC X .In i o (An X.K ty td):=by
 intro J3 s σ H Q I h;refine cF (hi J3 s σ H _ I h) fun iv s1 ⟨y,H1,I1,ry,q1⟩=>cF (ho J3 s1 σ H1 _ I1 q1) fun u s2 ⟨x,H2,I2,rx,a,ov,ex,g,q2⟩=>?_;subst ex;obtain rfl:u=Value.ref a:=rx;exact d_in hu I2 g ry fun s3 I3=>⟨.bl ov.isSome,H2,I3,rfl,q2⟩
theorem e_ (hu:X.A.units+16<cLine) (hi:PE X i ty) (ho:PE X o td):PC X .NotIn i o (eV X.K ty td):=by
 intro J3 s σ H Q I h;refine cF (hi J3 s σ H _ I h) fun iv s1 ⟨y,H1,I1,ry,q1⟩=>cF (ho J3 s1 σ H1 _ I1 q1) fun u s2 ⟨x,H2,I2,rx,a,ov,ex,g,q2⟩=>?_;subst ex;obtain rfl:u=Value.ref a:=rx;exact GN hu I2 g ry fun s3 I3=>⟨.bl (!ov.isSome),H2,I3,rfl,q2⟩
theorem gW (hu:X.A.units+16<cLine) (ho:PE X o td) (hi:PE X i ty) (hv:PE X value tv) (hs:qH value (some (.Subscript o i pos')) pos.line X.env=pure false) :
  PS X (.Assign [.Subscript o i pos'] value pos) (kL td ty tv):=by
 intro J3 s σ H D I h;refine wpAny_Assign_Subscript (cF (hv J3 s σ H _ I h) fun r s1 ⟨v,H1,I1,rv,q1⟩=>cF (ho J3 s1 σ H1 _ I1 q1) fun u s2 ⟨x,H2,I2,rx,q2⟩=>cF (hi J3 s2 σ H2 _ I2 q2) fun iv s3 ⟨y,H3,I3,ry,a,H4,ex,g,q3⟩=>?_) hs;subst ex;obtain rfl:u=Value.ref a:=rx;exact Ds hu I3 g ry rv fun s4 I4=>⟨σ,H4,I4,q3⟩
end
theorem Fn {P:bW}{w:World}{K:Za}{H:Hp}(h:Heap) (hb:gA<h.objs.size):cA P w K H (h.push { cls:=.type "dict",data:=.dict #[] }) h.objs.size (.dK []) :=
 ⟨cV _,beq_eq_false_iff_ne.mpr (dz (c_ hb)),[],.nil,Heap.DictOf.new h⟩
theorem zC {P:bW}{w:World}{K:Za}{H:Hp}(h:Heap) (hb:gA<h.objs.size):cA P w K H (h.push { cls:=.type "dict",data:=.dict #[] }) h.objs.size (.dT []) :=
 ⟨cV _,beq_eq_false_iff_ne.mpr (dz (c_ hb)),[],.nil,_,#[],0,cL _ rfl,⟨rfl,rfl,rfl⟩,rfl,rfl,pR⟩
def p4:TE:=fun _ H Q=>∀p,H p=none->Q (.ref p) (upd H p (.dK []))
def lp:TE:=fun _ H Q=>∀p,H p=none->Q (.ref p) (upd H p (.dT []))
section
variable {X:Cx}{pos:Pos}
theorem lE:PE X (.Dict [] [] pos) p4:=fun J3 s σ H Q I h =>
 wpAny_Dict_empty ⟨.ref s.heap.objs.size,_,I.laid (a:=s.heap.objs.size) (o:=.dK []) (t':=s.toks) (fun _ _ q=>bu _ q) (aE _) (Fn s.heap I.big),rfl,h _ (I.hok.fresh (aE _))⟩
theorem jK:PE X (.Dict [] [] pos) lp:=fun J3 s σ H Q I h =>
 wpAny_Dict_empty ⟨.ref s.heap.objs.size,_,I.laid (a:=s.heap.objs.size) (o:=.dT []) (t':=s.toks) (fun _ _ q=>bu _ q) (aE _) (zC s.heap I.big),rfl,h _ (I.hok.fresh (aE _))⟩
end
def jo (kvs more:List (eQ×V)):List (eQ×V):=more.foldl (fun acc kv=>cO acc kv.1 kv.2) kvs
theorem KV.merge:∀{more:List (eQ×V)}{rs:List (eQ×Value)}{kvs:List (eQ×V)}{vs:List (eQ×Value)},KV more rs->KV kvs vs->KV (jo kvs more) (merged vs rs):=by
 intro more rs kvs vs r;unfold KV at r
 induction r generalizing kvs vs with
 | nil=>intro q; exact q
 | @cons p q ps qs h t ih =>
  intro r0;have e:KV (cO kvs p.1 p.2) (stored vs q.1 q.2):=by
   have:=r0.put p.1 h.2;rw [<-h.1]; exact this
  exact ih e
theorem mR:∀(more kvs:List (eQ×V)),(jo kvs more).length<=kvs.length+more.length
 | [],kvs=>by show kvs.length<=kvs.length+0; omega
 | p::r,kvs=>by
  have h1:=mR r (cO kvs p.1 p.2);have h2:=i6 kvs p.1 p.2;show (jo (cO kvs p.1 p.2) r).length<=_;rw [em]; omega
structure M1 (X:Cx) (o:Expr) (m:Str) (J5:Pos) (e:Expr) (J4:Pos):Prop where
 base:rR o m X.env (eval o X.env)=eval o X.env
 few:((backTo J4 (aL [e] X.env)).all (fun x=>!x.1) && (on J4 (ol [] X.env)).all (fun x=>x.1.isSome)
  && decide (([e]:List Expr).length+([]:List pS).length+(if ([]:List pS).isEmpty then 0 else 1)<30))=true
 line:(J5.endLine == J4.line)=true
 trees:backTo J4 (aL [e] X.env)=[(false,eval e X.env)]
structure M2 (X:Cx) (o:Expr) (m:Str) (J5:Pos) (e f:Expr) (J4:Pos):Prop where
 base:rR o m X.env (eval o X.env)=eval o X.env
 few:((backTo J4 (aL [e,f] X.env)).all (fun x=>!x.1) && (on J4 (ol [] X.env)).all (fun x=>x.1.isSome)
  && decide (([e,f]:List Expr).length+([]:List pS).length+(if ([]:List pS).isEmpty then 0 else 1)<30))=true
 line:(J5.endLine == J4.line)=true
 trees:backTo J4 (aL [e,f] X.env)=[(false,eval e X.env),(false,eval f X.env)]
def Jc (H:Hp) (a:Addr):Prop:=(∃kvs,Rd H a (.dK kvs))∨∃kvs,Rd H a (.dT kvs)
theorem Fc {X:Cx}{J3:Zd}{σ:St}{H:Hp}{s:Shared}{a:Addr}(I:Inv X J3 σ H s) (d:Jc H a) :
  s.TypeIs (.ref a) "dict"/\(∀b,Value.ref a=.ref b->∃ob,s.heap.get? b=some ob/\ob.dict=none)/\(a == gA)=false:=by
 rcases d with ⟨kvs,e⟩ | ⟨kvs,e⟩
 ·obtain ⟨_,hd,vs,_,dd⟩:=pe I.hok e;refine ⟨dd.typeIs,fun b q=>?_,hd⟩;cases q;obtain ⟨ob,_,_,h1,h2,_⟩:=dd;exact ⟨ob,h1,h2.2.1⟩
 ·obtain ⟨_,hd,xs,_,dd⟩:=qX I.hok I.kIn e;refine ⟨dd.typeIs,fun b q=>?_,hd⟩;cases q;obtain ⟨ob,_,_,h1,h2,_⟩:=dd;exact ⟨ob,h1,h2.2.1⟩
section
variable {X:Cx}{J3:Zd}{σ:St}{H:Hp}{s:Shared}{a:Addr}{y d:V}{u r:Value}{o:Option V}{A:Around}{E:Zc}
theorem HN {Q:Zc}(hu:A.units+16<cLine) (I:Inv X J3 σ H s) (g:kz X.K H a y o) (ry:RelV y u) (h:∀w' s',Inv X J3 σ H s'->RelV (o.getD .non) w'->Q w' s') :
  wpAny (model X.prog X.w) A (call (.builtin "dict.get") [.ref a,u]) Q E s:=by
 rcases g with ⟨kvs,k,e,ey,l⟩ | ⟨kvs,k,b,e,ey,eb,e8,l⟩
 ·subst ey;obtain ⟨z,hd,vs,rel,dd⟩:=pe I.hok e;refine sv pQ dd.typeIs wx (PySem.F.args_dict_get_2 _ _) (meets_dict_get (bY X.prog X.w) a (jP ry) hd) ⟨_,dd.mapOf,h _ _ (I.tok _) ?_⟩;rw [l];exact (rel.val k).getD rfl
 ·subst ey;cases (show u=Value.ref b from ry);obtain ⟨z,hd,xs,rel,dd⟩:=qX I.hok I.kIn e;refine sv pQ dd.typeIs wx (PySem.F.args_dict_get_2 _ _) (meetsH_dict_get (dS X.prog X.w) a b hd) ⟨fK hu,k,xs,tK I eb e8,dd,h _ _ (I.tok _) ?_⟩;rw [l];exact (rel.val k).getD rfl
theorem HM {Q:Zc}(hu:A.units+16<cLine) (I:Inv X J3 σ H s) (g:kz X.K H a y o) (ry:RelV y u) (rd:RelV d r) (h:∀w' s',Inv X J3 σ H s'->RelV (o.getD d) w'->Q w' s') :
  wpAny (model X.prog X.w) A (call (.builtin "dict.get") [.ref a,u,r]) Q E s:=by
 rcases g with ⟨kvs,k,e,ey,l⟩ | ⟨kvs,k,b,e,ey,eb,e8,l⟩
 ·subst ey;obtain ⟨z,hd,vs,rel,dd⟩:=pe I.hok e;refine sv pQ dd.typeIs wx (PySem.F.args_dict_get_3 _ _ _) (meets_dict_get_default (bY X.prog X.w) a (jP ry) hd r) ⟨_,dd.mapOf,h _ _ (I.tok _) ?_⟩;rw [l];exact (rel.val k).getD rd
 ·subst ey;cases (show u=Value.ref b from ry);obtain ⟨z,hd,xs,rel,dd⟩:=qX I.hok I.kIn e;refine sv pQ dd.typeIs wx (PySem.F.args_dict_get_3 _ _ _) (meetsH_dict_get_default (dS X.prog X.w) a b hd r) ⟨fK hu,k,xs,tK I eb e8,dd,h _ _ (I.tok _) ?_⟩;rw [l];exact (rel.val k).getD rd
end
def wX (K:Za) (td ty:TE):TE:=fun σ H Q=>td σ H fun x H1=>∃a,x=.ref a/\Jc H1 a/\ty σ H1 fun y H2=>∃o,kz K H2 a y o/\Q (o.getD .non) H2
def sT (K:Za) (td ty tx:TE):TE:=fun σ H Q=>td σ H fun x H1=>∃a,x=.ref a/\Jc H1 a/\ty σ H1 fun y H2=>tx σ H2 fun z H3=>∃o,kz K H3 a y o/\Q (o.getD z) H3
section
variable {X:Cx}{o e f:Expr}{J5 J4:Pos}{td ty tx:TE}
theorem yQ (hu:X.A.units+16<cLine) (ho:PE X o td) (he:PE X e ty) (m:M1 X o "get" J5 e J4):PE X (.Call (.Attribute o "get" J5) [e] [] J4) (wX X.K td ty):=by
 intro J3 s σ H Q I h;refine wpAny_Call_method m.base m.few m.line PySem.F.plainAttrs_dict pQ PySem.F.type_dict_get (cF (ho J3 s σ H _ I h) fun u s1 ⟨x,H1,I1,rx,a,ex,d,q1⟩=>?_);subst ex;obtain rfl:u=Value.ref a:=rx;obtain ⟨t1,t2,_⟩:=Fc I1 d;refine ⟨t1,t2,?_⟩;rw [m.trees];refine sC rfl (Calls.evalArgs_plain (Bv (cF (he J3 s1 σ H1 _ I1 q1) fun iv s2 ⟨y,H2,I2,ry,ov,g,q2⟩=>Calls.spliced_nil ?_)));exact HN hu I2 g ry fun w' s3 I3 rw'=>⟨_,H2,I3,rw',q2⟩
theorem oZ (hu:X.A.units+16<cLine) (ho:PE X o td) (he:PE X e ty) (hf:PE X f tx) (m:M2 X o "get" J5 e f J4):PE X (.Call (.Attribute o "get" J5) [e,f] [] J4) (sT X.K td ty tx):=by
 intro J3 s σ H Q I h;refine wpAny_Call_method m.base m.few m.line PySem.F.plainAttrs_dict pQ PySem.F.type_dict_get (cF (ho J3 s σ H _ I h) fun u s1 ⟨x,H1,I1,rx,a,ex,d,q1⟩=>?_);subst ex;obtain rfl:u=Value.ref a:=rx;obtain ⟨t1,t2,_⟩:=Fc I1 d;refine ⟨t1,t2,?_⟩;rw [m.trees];refine sC rfl (Calls.evalArgs_plain (Bv (cF (he J3 s1 σ H1 _ I1 q1) fun iv s2 ⟨y,H2,I2,ry,q2⟩ =>
  Bv (cF (hf J3 s2 σ H2 _ I2 q2) fun fv s3 ⟨z,H3,I3,rz,ov,g,q3⟩=>Calls.spliced_nil ?_))))
 exact HM hu I3 g ry rz fun w' s4 I4 rw'=>⟨_,H3,I4,rw',q3⟩
end
end L2
namespace Att
open PySem PySem.W PySem.Calls PyProof.Rows
theorem ints_of_wellAll {P:Params}{h:Heap}:∀(ns:List Int) (vs:Zf),WellAll P h vs (ns.map WData.int)->fS vs ns:=by
 intro ns
 induction ns with
 | nil =>
  intro vs w;rw [wF] at w;cases w;exact .nil
 | cons n ns ih =>
  intro vs w;rw [bc] at w;cases w with
  | cons a b =>
   cases a;exact .cons _ _ (ih _ b)
theorem script_of {l:OpenLaw}{n:Nat}(hn:l.most=some n) {P:Params}{h:Heap}{args:List WData}{vals:Zf}
  (hpre:l.row.toRowW.claim.pre args=true) (hwl:WellAll P h vals args) :
  ∃a vs ns,vals=[Value.ref a]/\args=[WData.list (ns.map WData.int)]/\h.get? a=some { cls:=.type "list",data:=.seq vs.toArray }/\fS vs ns/\ns.length<=n:=by
 have hsh:WShape.hasAll [] args [.list .int]=true:=(pre_splitW hpre).1;have hc:l.pre.holds [] { args:=args }=true:=(pre_splitW hpre).2;obtain ⟨d,r,rfl,h1,h2⟩:=hasAllW_cons hsh;obtain rfl:=hasAllW_nil h2;obtain ⟨xs,rfl,h3⟩:=hasW_list h1;obtain ⟨ns,rfl⟩:=items_int h3;have hlen:ns.length<=n:=by
  unfold OpenLaw.pre at hc;have h4:(WTm.not (.lt (.lit (.int (n:Int))) (.len (.arg 0)))).holds [] { args:=[.list (ns.map .int)] }=true:=by
   have h4:=(holds_andW hc).1;rw [hn] at h4;exact h4
  have h5:=condW_of h4 (w_not (w_lt w_lit (w_len_list (w_arg rfl))));rw [ai] at h5;refine Nat.le_of_not_lt fun q=>?_;have q':(n:Int)<((ns.length:Nat):Int):=by omega
  first
   | (rw [zzr1 q'] at h5; exact absurd h5 (by decide))
   | (simp at h5; omega)
 cases hwl with
 | cons w1 w2 =>
  cases w2;cases w1 with
  | list ho hall=>exact ⟨_,_,ns,rfl,rfl,ho,ints_of_wellAll ns _ hall,hlen⟩
theorem post_true (l:OpenLaw) (args:List WData):l.row.toRowW.claim.post args (.bool true) args=true :=
 postW_of (r:=l.row.toRowW) (X:=(true == true))
  (show WShape.has [] (.bool true) .bool=true by first | rfl | decide | simp [WShape.has,WShape.arms,WShape.armsAll])
  (show (WTm.eq .res (.lit (.bool true))).value [] { args:=args,res:=some (.bool true),after:=args }=some (.bool (true == true)) from w_eq_bool (w_res rfl) w_lit) rfl
theorem attach_call {l:OpenLaw}{n:Nat}{q:bW}{loose:Zb}{XP:(Str->Option Value)->Heap->Prop}{YP:World->Heap->Prop}{d:DefRec}
  (hn:l.most=some n) (hdf:d.params.defaults=[])
  (call:∀(w:World) (s₀ s₁:Shared) (mg mb:Str->Option Value) (fa:Addr) (o:Obj) (pm cd doc:Value) (a:Addr) (vs:Zf) (ns:List Int),
   Ground q loose [] XP w s₀ mg mb s₁.heap->YP w s₁.heap ->
   s₁.heap.get? fa=some o->o.data=.func (docDef d.name d.params d.body d.scope pm cd doc)->s₁.heap.CodeRec cd d.name->mg d.name=some (.ref fa) ->
   s₁.heap.get? a=some { cls:=.type "list",data:=.seq vs.toArray }->fS vs ns->ns.length<=n->s₁.gens=#[] ->
   zzl77 (model l.prog w) k9 (.call (.ref fa) ⟨[.ref a],[]⟩) (fun r s'=>r=.ok (.ret (.bool true))/\OldK s₁.heap s'.heap/\s'.os=s₁.os/\ox s'.gens) s₁) :
  WalkO q loose XP YP l.row.toRowW d [] (fun f vs=>PySem.call f vs):=by
 intro w s₀ s₁ mg mb G Y fa o pm cd doc dV kV ho hd hcd hD hmg hg args vals as hpre hlay hrd hwl hlo;obtain rfl:dV=.none:=Dflts.none hD hdf;obtain rfl:kV=.none:=Dflts.noKw hD;obtain ⟨a,vs,ns,rfl,rfl,hobj,hints,hlen⟩:=script_of hn hpre hwl;refine enter_call (Bu (call w s₀ s₁ mg mb fa o pm cd doc a vs ns G Y ho (fd_plain hd) hcd hmg hobj hints hlen hg) fun r s' hq=>?_);obtain ⟨rfl,h2,h3,h4⟩:=hq;exact ⟨.inl ⟨.bool true,.bool true,[],rfl,fun _=>rfl,.bool true,post_true l _,fun _=>⟨List.Pairwise.nil,fun _ hm=>(nomatch hm)⟩⟩,h2,h3,h4⟩
end Att
namespace L2
open PySem PySem.Spec PyProof.Rows
theorem uZ:∀{vs:Zf}{ns:List Int},fS vs ns->a_ (ns.map V.int) vs
 | _,_,.nil=>.nil
 | _,_,.cons n t h=>.cons ⟨t,rfl⟩ (uZ h)
def GX (H:Hp):Prop:=∀b,H b=none∨∃o xs,H b=some (.frz o (.lst xs))
theorem EX {P:bW}{w:World}{K:Za}{mg mb:Str->Option Value}{CX:DP}{k:Nat}{fa a:Addr}{fd:kS}{x:Str}{sp:Sp}{s₁:Shared}{vs:Zf}{ns:List Int}
  (KX:K.In s₁.heap) (hns:s₁.heap.Ns cu mg) (hb:s₁.heap.Ns builtinsNs mb) (hbb:∀x:Str,x≠"__name__"->mb x=oy x) (hlim:s₁.heap.NoLimit) (hg:s₁.gens=#[])
  (ha:s₁.heap.get? a=some { cls:=.type "list",data:=.seq vs.toArray }) (hi:fS vs ns) (hl:ns.length<=aj) (hr:ff k k9)
  (F:∀base:Heap,K.In base->base.Ns cu mg->mI P w K mg base CX k fa fd [x] sp) (hbind:∀(s:Shared) (u:Value),rQ s fd ⟨[u],[]⟩ [(x,u)])
  (hsp:∀H:Hp,GX H->az K H a (ns.map V.int)->sp [.ref a] H (fun v _=>v=.bl true) fun _ _ _=>False)
  (hCX:∀H e s',CX [] H s₁ (fun _ _ _=>False) e s'->False) :
  zzl77 (model P w) k9 (.call (.ref fa) ⟨[.ref a],[]⟩) (fun r s'=>r=.ok (.ret (.bool true))/\OldK s₁.heap s'.heap/\s'.os=s₁.os/\ox s'.gens) s₁:=by
 have rv:=uZ hi;have lenV:=hi.length;have core:∀H:Hp,GX H->az K H a (ns.map V.int)->mq P w K H s₁.heap->(∀b,H b≠none->b=a)->(H a≠none->K.lookup a=none) ->
   zzl77 (model P w) k9 (.call (.ref fa) ⟨[.ref a],[]⟩) (fun r s'=>r=.ok (.ret (.bool true))/\OldK s₁.heap s'.heap/\s'.os=s₁.os/\ox s'.gens) s₁:=by
  intro H hO hS hok hA hK;have base_of:∀{b:Addr}{o:Obj},s₁.heap.get? b=some o->H b=none->(xB s₁.heap H).get? b=some o:=fun e n=>Fe e n;have noA:∀{b:Addr}{o:Obj}{es:Array jj}{ep:Nat},s₁.heap.get? b=some o->o.data=.dict es ep->H b=none:=fun {b o es ep} e d=>by
   cases q:H b with
   | none=>rfl
   | some u =>
    have e':b=a:=hA b (by rw [q]; simp);subst e';rw [ha] at e; cases e;have d':Data.seq vs.toArray _=Data.dict es ep:=d;cases d'
  have nsK:∀{b:Addr}{m:Str->Option Value},s₁.heap.Ns b m->(xB s₁.heap H).Ns b m:=fun {b m} ⟨o,es,ep,e,d,r⟩=>⟨o,es,ep,base_of e (noA e d),d,r⟩;have hKb:K.In (xB s₁.heap H):=fun b o e=>base_of (KX b o e) (by
   cases q:H b with
   | none=>rfl
   | some u =>
    have e':b=a:=hA b (by rw [q]; simp);subst e';rw [hK (by rw [q]; simp)] at e; cases e)
  have hM:Mod K mg (xB s₁.heap H):=⟨hKb,nsK hns,⟨mb,nsK hb,hbb⟩,let ⟨mc,h1,h2⟩:=hlim; ⟨mc,nsK h1,h2⟩⟩;have e0:Bq P w K mg (xB s₁.heap H) k9 [] s₁ H:=⟨rfl,hM,fun b o e=>GB e,Nat.le_of_eq (Dm _ _),trivial,fun b hb=>absurd (show b∈([]:Ze) from hb) (by simp),hok,.of_eq hg⟩;refine Bu ((F _ hKb (nsK hns)).run k9 [] s₁ H ⟨[.ref a],[]⟩ [.ref a] [.ref a] _ _ hr e0 (hbind s₁ (.ref a)) (.cons rfl .nil) (hsp H hO hS)) fun r s' h=>?_;cases r with
  | error e=>exact (hCX H e s' h).elim
  | ok fl =>
   cases fl with
   | next=>exact jx h
   | brk=>exact jx h
   | cont=>exact jx h
   | ret u =>
    obtain ⟨v,H',os,bare,un,hok',r',q⟩:=h;have q':v=.bl true:=q;subst q';obtain rfl:u=Value.bool true:=r';refine ⟨rfl,OldK.of_keep fun b o e=>?_,os,bare⟩;cases q:H b with
    | none=>exact un.keep b o e q (by intro z; exact absurd (show b∈([]:Ze) from z) (by simp)) (by simp)
    | some u =>
     rcases hO b with z | ⟨ob,xs,z⟩
     ·rw [q] at z; cases z
     ·have z2:=un.frzs b ob _ z;obtain ⟨e1,_⟩:=hok b _ z;obtain ⟨e2,_⟩:=hok' b _ z2;rw [e] at e1; cases e1;exact e2
 cases hk:K.lookup a with
 | some o =>
  have e:=KX a o hk;rw [ha] at e;cases e;refine core (fun _=>none) (fun _=>.inl rfl) (.inr ⟨_,vs.toArray,_,hk,rfl,rfl,rfl,by rw [bI,lenV]; exact hl,by simpa using rv⟩) (fun b u z=>by have z':(none:Option HO)=some u:=z; cases z') (fun b z=>absurd rfl z) fun z=>absurd rfl z
 | none =>
  refine core (fun b=>if b=a then some (.frz { cls:=.type "list",data:=.seq vs.toArray } (.lst (ns.map V.int))) else none) (fun b=>?_) (.inl (.inr ⟨{ cls:=.type "list",data:=.seq vs.toArray },if_pos rfl⟩)) (fun b u z=>?_) (fun b z=>?_) fun _=>hk
  ·by_cases hb:b=a
   ·exact .inr ⟨_,_,if_pos hb⟩
   ·exact .inl (if_neg hb)
  ·by_cases hb:b=a
   ·have z':=(if_pos hb).symm.trans z;cases z';subst hb;exact ⟨ha,by rw [ai]; exact hl,vs,_,rv,ha⟩
   ·have z':=(if_neg hb).symm.trans z;cases z'
  ·by_cases hb:b=a
   ·exact hb
   ·exact absurd (if_neg hb) z
end L2
namespace L2
open PySem PySem.Spec PyProof.Rows
theorem FO {l:PySem.W.OpenLaw}{n k:Nat}{q:bW}{loose:Zb}{XP:(Str->Option Value)->Heap->Prop}{YP:World->Heap->Prop}{d:DefRec}{K:Params->Za}{CX:World->DP}{sp:World->Sp}{x:Str}
  (hn:l.most=some n) (hn2:n<=aj) (hdf:d.params.defaults=[]) (hr:ff k k9)
  (hY:∀(w:World) (h:Heap),YP w h->(K w.params).In h)
  (F:∀(w:World) (mg:Str->Option Value) (fa:Addr) (h:Heap),(K w.params).In h->h.Ns cu mg->mg d.name=some (.ref fa) ->
   ∃fd:kS,(∀(s:Shared) (u:Value),rQ s fd ⟨[u],[]⟩ [(x,u)]) /\
    ∀base:Heap,(K w.params).In base->base.Ns cu mg->mI l.prog w (K w.params) mg base (CX w) k fa fd [x] (sp w))
  (hsp:∀(w:World) (H:Hp) (a:Addr) (ns:List Int),ns.length<=n->GX H->az (K w.params) H a (ns.map V.int)->sp w [.ref a] H (fun v _=>v=.bl true) fun _ _ _=>False)
  (hCX:∀(w:World) (H:Hp) (s:Shared) (e:Value) (s':Shared),CX w [] H s (fun _ _ _=>False) e s'->False) :
  PySem.W.WalkO q loose XP YP l.row.toRowW d [] (fun f vs=>PySem.call f vs):=by
 refine Att.attach_call hn hdf fun w s₀ s₁ mg mb fa o pm cd doc a vs ns G Y ho hd hcd hmg hobj hints hlen hg=>?_;have KX:=hY w _ Y;obtain ⟨fd,hb,hF⟩:=F w mg fa _ KX G.T.g hmg;exact EX KX G.T.g G.T.b G.T.builtins G.T.nolimit hg hobj hints (bv hlen hn2) hr hF hb (fun H hO hS=>hsp w H a ns hlen hO hS) fun H e s'=>hCX w H s₁ e s'
theorem walk_ofK {l:PySem.W.OpenLaw}{n k:Nat}{q:bW}{loose:Zb}{XP:(Str->Option Value)->Heap->Prop}{YP:World->Heap->Prop}{d:DefRec}{K:Params->Za}{CX:DP}{sp:Za->Sp}{x:Str}
  (hn:l.most=some n) (hn2:n<=aj) (hdf:d.params.defaults=[]) (hr:ff k k9)
  (hY:∀(w:World) (h:Heap),YP w h->(K w.params).In h)
  (F:∀(w:World) (mg:Str->Option Value) (fa:Addr) (h:Heap),(K w.params).In h->h.Ns cu mg->mg d.name=some (.ref fa) ->
   ∃fd:kS,(∀(s:Shared) (u:Value),rQ s fd ⟨[u],[]⟩ [(x,u)]) /\
    ∀base:Heap,(K w.params).In base->base.Ns cu mg->mI l.prog w (K w.params) mg base CX k fa fd [x] (sp (K w.params)))
  (hsp:∀(K:Za) (H:Hp) (a:Addr) (ns:List Int),ns.length<=n->GX H->az K H a (ns.map V.int)->sp K [.ref a] H (fun v _=>v=.bl true) fun _ _ _=>False)
  (hCX:∀(H:Hp) (s:Shared) (e:Value) (s':Shared),CX [] H s (fun _ _ _=>False) e s'->False) :
  PySem.W.WalkO q loose XP YP l.row.toRowW d [] (fun f vs=>PySem.call f vs) :=
 FO (K:=K) (CX:=fun _=>CX) (sp:=fun w=>sp (K w.params)) hn hn2 hdf hr hY F (fun w H a ns h1 h2 h3=>hsp (K w.params) H a ns h1 h2 h3) fun _ H s e s'=>hCX H s e s'
end L2
namespace L2
open PySem PySem.Spec PyProof.Rows
def gf (s:Stmt) (j:Nat):Stmt:=match s with
 | .ClassDef _ _ _ body _ _ _ _ _ _ _=>body.getD j (.Pass ⟨0,0,0,0⟩)
 | _=>.Pass ⟨0,0,0,0⟩
def ik (s:Stmt):Arguments:=match s with
 | .FunctionDef _ a _ _ _ _ _ _ _ _=>a
 | _=>{ posonlyargs:=[],args:=[],vararg:=none,kwonlyargs:=[],kw_defaults:=[],kwarg:=none,defaults:=[] }
def gh (s:Stmt):List Stmt:=match s with
 | .FunctionDef _ _ b _ _ _ _ _ _ _=>b
 | _=>[]
def b9 (s:Stmt):Scope:=match s with
 | .FunctionDef _ _ _ _ _ _ sc _ _ _=>sc
 | _=>{ kind:=.function,names:=[],isGenerator:=false,isCoroutine:=false }
abbrev CX0:DP:=fun _ _ _ _ _ _=>False
abbrev E0:XK:=fun _ _ _=>False
abbrev aM (sp:Sp) (a:TA):TE:=G6 sp [] E0 a
theorem BW {X:Cx}:nR CX0 X E0:=fun _ _ _ _ _ _ _ h=>h.elim
structure Ie (K:Za) (x qual:Str) (st:Stmt) (f:Addr) (fd:kS):Prop where
 ex:∃(oc:Value) (od:Option Addr) (kV doc pm:Value) (an:Option Addr) (cdv ct:Value) (osl:Array (Option Value)),
  fd=iI x qual (ik st) (gh st) (b9 st) .none kV doc pm an cdv ct/\K.lookup f=some ⟨oc,od,.func fd,osl⟩/\nz K cdv qual=true
 kp:iC K (.ref f)=true
section
variable {P:bW}{w:World}{K:Za}{mg:Str->Option Value}{base:Heap}
theorem Ie.ok {x qual:Str}{st:Stmt}{f:Addr}{fd:kS}{N ps:Zb}{k:Nat}{sp:Sp}(F:Ie K x qual st f fd) (S:ky N ps (b9 st)) (len:∀vs H Q E,sp vs H Q E->vs.length=ps.length)
  (hbody:∀(cdv:Value) (A:Around) (outer:List Env) (s:Shared) (H:Hp) (vs:List V) (Q:VK) (E:XK),ff k (A.deeper (envOfC qual (b9 st) s.heap.objs.size f cdv))->sp vs H Q E ->
   ∃t,zX (A9 CX0 P w K mg base N qual (b9 st) f cdv A outer s H E).nox (gh st) t/\t (bJ Q) (start N vs) H):mI P w K mg base CX0 (k+1) f fd ps sp:=by
 obtain ⟨oc,od,kV,doc,pm,an,cdv,ct,osl,rfl,lk,hcd⟩:=F.ex;refine Iw lk hcd S len fun A outer s H vs Q E hr hsp=>?_;obtain ⟨t,h,q⟩:=hbody cdv A outer s H vs Q E hr hsp;exact ⟨t,h.nox,q⟩
theorem Ie.binds {x qual:Str}{st:Stmt}{f:Addr}{fd:kS}{ps:Zb}(F:Ie K x qual st f fd)
  (h:∀(kV doc pm:Value) (an:Option Addr) (cdv ct:Value) (us:Zf),us.length=ps.length->bindArgs (iI x qual (ik st) (gh st) (b9 st) .none kV doc pm an cdv ct) ⟨us,[]⟩=pure (ps.zip us)):Binds K fd ps []:=by
 obtain ⟨oc,od,kV,doc,pm,an,cdv,ct,osl,rfl,lk,hcd⟩:=F.ex;exact .all (h kV doc pm an cdv ct)
theorem Fi {x qual:Str}{st:Stmt}{f:Addr}{oc:Value}{od an:Option Addr}{osl:Array (Option Value)}{kV doc pm cdv ct:Value}(l:K.lookup f=some ⟨oc,od,.func (iI x qual (ik st) (gh st) (b9 st) .none kV doc pm an cdv ct),osl⟩)
  (c:nz K cdv qual=true) (k:iC K (.ref f)=true):Ie K x qual st f (iI x qual (ik st) (gh st) (b9 st) .none kV doc pm an cdv ct):=⟨⟨oc,od,kV,doc,pm,an,cdv,ct,osl,rfl,l,c⟩,k⟩
end
theorem Ch {A:Around}{k:Nat}(hr:ff k A):A.units+16<cLine:=Nat.lt_of_le_of_lt (Nat.add_le_add_left (by decide:16<=64) _) hr.units
theorem au {n:Nat}(h:n<=1000):n<aj:=Nat.lt_of_le_of_lt h (by decide)
section
variable {X:Cx}
theorem pv (i:Nat) {x:Str}{pos:Pos}(hN:X.N[i]?=some x:=by rfl) (hv:IV X.env.scope x:=by first | exact Or.inl rfl | exact Or.inr (Or.inl rfl) | exact Or.inr (Or.inr rfl)) (hd:(x == ("__debug__":Str))=false:=by decide)
  (hcd:(x == ("__classdict__":Str))=false:=by decide):PE X (.Name x pos) (mv i):=Hz hN hv hd hcd
end
theorem ck {A B:Prop}(h:B):if false=true then A else B:=by
 rw [if_neg fN];exact h
theorem dh {A B:Prop}(h:A):if true=true then A else B:=by
 rw [if_pos rfl];exact h
theorem iN {c A B:Prop} [Decidable c] (h1:c->A) (h2:¬c->B):if c then A else B:=by
 by_cases h:c
 ·rw [if_pos h];exact h1 h
 ·rw [if_neg h];exact h2 h
def ab (H H':Hp):Prop:=∀b o,H b=some o->H' b=some o
theorem ab.refl (H:Hp):ab H H:=fun _ _ h=>h
theorem ab.trans {H H1 H2:Hp}(a:ab H H1) (b:ab H1 H2):ab H H2:=fun c o h=>b c o (a c o h)
theorem ab.free {H H':Hp}(e:ab H H') {l:Addr}(h:H' l=Option.none):H l=Option.none:=by
 cases q:H l with
 | none=>rfl
 | some o =>
  rw [e l o q] at h;cases h
theorem ab.seq {K:Za}{H H':Hp}{a:Addr}{xs:List V}(e:ab H H') (h:az K H a xs):az K H' a xs:=by
 rcases h with (h | ⟨o,h⟩) | h
 ·exact .inl (.inl (e _ _ h))
 ·exact .inl (.inr ⟨o,e _ _ h⟩)
 ·exact .inr h
section
variable {prog:bW}{w:World}{A:Around}{R:Result->Shared->Prop}{s:Shared}
abbrev XF:Value->Shared->Prop:=fun _ _=>False
abbrev AW (ifs:List Expr) (env:Env):Sem Bool:=forIn ifs true fun c r=>if r=true then do let ok <- isTrue c env (eval c env); pure (ww ok) else pure (ww r)
theorem xG {elt target iter:Expr}{ifs:List Expr}{scope:Scope}{pos:Pos}{it acc:Value}{env:Env}(I:Nat->Shared->Prop)
  (turn:∀n s,I n s->wpAny (model prog w) A (pyNext it) (fun r s₁=>match r with
   | none=>R (.ok .next) s₁
   | some v=>wpAny (model prog w) A (BB target it v) (fun _ s₁'=>wpAny (model prog w) A (assign target env v) (fun _ s₂ =>
     wpAny (model prog w) A (AW ifs env) (fun ok s₃ =>
      if ok=true then wpAny (model prog w) A (eval elt env) (fun x s₄ =>
       wpAny (model prog w) A (call (.builtin "list.append") [acc,x]) (fun _ s₅=>∃m,m<n/\I m s₅) XF s₄) XF s₃
      else ∃m,m<n/\I m s₃) XF s₂) XF s₁') XF s₁) XF s)
  (n:Nat) (h:I n s):zzl77 (model prog w) A (.compLoop (.ListComp elt [⟨target,iter,ifs,0⟩] scope pos) 0 it acc env) R s:=by
 refine codeAny_loop rfl I (fun n s hI=>?_) n h;show wpAny _ A ((compTurn (.ListComp elt [⟨target,iter,ifs,0⟩] scope pos) 0 it acc env).onRaise (fun x=>do noteFrame x env; theTreesLotGoes x)) _ _ s
 refine wpAny_noted ?_;rw [compTurn_list];refine ak (BC (ak (jy (turn n s hI) (fun r s₁ h₁=>?_) fun _ _ h'=>h'.elim)));cases r with
 | none=>exact aI h₁
 | some v =>
  refine ak (jy h₁ (fun _ s₁' h₁'=>?_) fun _ _ h'=>h'.elim);refine ak (jy h₁' (fun _ s₂ h₂=>ak (jy h₂ (fun ok s₃ h₃=>?_) fun _ _ h'=>h'.elim)) fun _ _ h'=>h'.elim);cases ok with
  | false=>exact aI ⟨rfl,h₃⟩
  | true =>
   exact ak (ak (jy h₃ (fun x s₄ h₄=>ak (jy h₄ (fun _ s₅ h₅=>aI (aI ⟨rfl,h₅⟩)) fun _ _ h'=>h'.elim)) fun _ _ h'=>h'.elim))
end
theorem nO {env:Env}:∀(names:List (Str×jw)) (cs0:List (Str×Addr)),(∀y∈names,y.2=.free->∃c,env.cells.lookup y.1=some c)->(∀x c,cs0.lookup x=some c->env.cells.lookup x=some c) ->
  ∃cs:List (Str×Addr),(forIn names cs0 fun (x:Str×jw) (r:List (Str×Addr))=>if (x.2 == k5)=true then (cellOf env x.1 >>= fun c=>(pure (ww ((x.1,c)::r)):Sem (ForInStep (List (Str×Addr))))) else pure (ww r))=pure cs /\
   (∀x c,cs.lookup x=some c->env.cells.lookup x=some c)/\(∀x,(cs0.lookup x).isSome=true->(cs.lookup x).isSome=true)/\∀y∈names,y.2=.free->(cs.lookup y.1).isSome=true
 | [],cs0,_,h0=>⟨cs0,rfl,h0,fun _ h=>h,fun _ h=>nomatch h⟩
 | (n,k)::r,cs0,has,h0=>by
  have hr:∀y∈r,y.2=.free->∃c,env.cells.lookup y.1=some c:=fun y hy=>has y (fx _ hy);by_cases hk:k=.free
  ·subst hk;obtain ⟨c,hc⟩:=has (n,.free) dA rfl;obtain ⟨cs,e,p1,p2,p3⟩:=nO r ((n,c)::cs0) hr (fun x d hd=>by
    rw [iH] at hd;cases hx:x == n with
    | true =>
     rw [hx] at hd;have:x=n:=by simpa using hx
     subst this;cases hd;exact hc
    | false=>rw [hx] at hd; exact h0 x d hd)
   have hself:(((n,c)::cs0).lookup n).isSome=true:=by rw [iH,beq_self_eq_true]; rfl
   have hmono:∀x,(cs0.lookup x).isSome=true->(((n,c)::cs0).lookup x).isSome=true:=fun x hx=>by
    rw [iH];cases x == n with
    | true=>rfl
    | false=>exact hx
   refine ⟨cs,?_,p1,fun x hx=>p2 x (hmono x hx),fun y hy hf=>?_⟩
   ·rw [pP];have hcell:cellOf env n=pure c:=by unfold cellOf; rw [hc]
    simp only [beq_self_eq_true,if_true,hcell];exact e
   ·rcases c9.mp hy with rfl | hy
    ·exact p2 _ hself
    ·exact p3 y hy hf
  ·obtain ⟨cs,e,p1,p2,p3⟩:=nO r cs0 hr h0;refine ⟨cs,?_,p1,p2,fun y hy hf=>?_⟩
   ·rw [pP];have hb:(k == k5)=false:=by simpa using hk
    simp only [hb,k_,if_false];exact e
   ·rcases c9.mp hy with rfl | hy
    ·exact absurd hf hk
    ·exact p3 y hy hf
theorem tU {env:Env}{scope:Scope}(has:∀y∈scope.names,y.2=.free->∃c,env.cells.lookup y.1=some c) :
  ∃cs:List (Str×Addr),closureFor scope env=pure cs/\(∀x c,cs.lookup x=some c->env.cells.lookup x=some c)/\∀y∈scope.names,y.2=.free->(cs.lookup y.1).isSome=true:=by
 obtain ⟨cs,e,p1,_,p3⟩:=nO (env:=env) scope.names [] has (fun _ _ h=>nomatch h);refine ⟨cs,?_,p1,p3⟩;unfold closureFor
 first
  | exact e
  | (simp only [bind_pure]; exact e)
  | (rw [show (forIn scope.names [] _:Sem (List (Str×Addr)))=pure cs from e]; rfl)
def dL (X:Cx) (N:Zb) (scope:Scope) (C:Addr) (cl:List (Str×Addr)) (s₀:Shared) (H₀:Hp) (ex:Ze) (pn:Zd):Cx where
 prog:=X.prog
 w:=X.w
 K:=X.K
 mg:=X.mg
 base:=X.base
 A:=X.A
 N:=N
 s₀:=s₀
 H₀:=H₀
 env:=compEnvC scope cl C X.env
 outer:=X.stack
 stack:=X.stack
 ex:=ex
 fn:=fun _=>false
 calm:=X.calm
 pn:=pn
 xe:=XF
def mn (sc scope:Scope) (k:Nat) (N XN:Zb) (fi:List Nat):Bool :=
 decide (scope.kind=.function) &&
 (scope.names.all fun y=>decide (y.2≠.cell) && (decide (y.2≠.local) || decide (scope.names.lookup y.1=some .local)) && (decide (y.2≠.free) || decide (sc.names.lookup y.1=some .cell) || decide (sc.names.lookup y.1=some .free))) &&
 decide (N.length=k+fi.length) &&
 ((jz fi.length).all fun j=>match fi[j]? with
  | some i=>match N[k+j]?,XN[i]? with
   | some x,some y=>decide (x=y) && decide (scope.names.lookup x=some .free)
   | _,_=>false
  | none=>false)
structure n5 (sc scope:Scope) (k:Nat) (N XN:Zb) (fi:List Nat):Prop where
 kind:scope.kind=.function
 cell:∀y∈scope.names,y.2≠.cell
 nm:∀y∈scope.names,y.2=.local->scope.names.lookup y.1=some .local
 fr:∀y∈scope.names,y.2=.free->sc.names.lookup y.1=some .cell∨sc.names.lookup y.1=some .free
 len:N.length=k+fi.length
 sl:∀j i,fi[j]?=some i->∃x,N[k+j]?=some x/\XN[i]?=some x/\scope.names.lookup x=some .free
theorem n5.of {sc scope:Scope}{k:Nat}{N XN:Zb}{fi:List Nat}(h:mn sc scope k N XN fi=true):n5 sc scope k N XN fi:=by
 unfold mn at h;simp only [su,List.all_eq_true,Bool.or_eq_true,decide_eq_true_eq] at h;obtain ⟨⟨⟨h1,h2⟩,h3⟩,h4⟩:=h;refine ⟨h1,fun y hy=>(h2 y hy).1.1,fun y hy e=>((h2 y hy).1.2).resolve_left fun z=>z e,fun y hy e=>?_,h3,fun j i e=>?_⟩
 ·rcases (h2 y hy).2 with (z | z) | z
  ·exact absurd e z
  ·exact .inl z
  ·exact .inr z
 ·have hj:j<fi.length:=(bP.mp e).1;have q:=h4 j (List.mem_range.mpr hj);rw [e] at q;dsimp only at q;cases a:N[k+j]? with
  | none=>rw [a] at q; cases q
  | some x =>
   cases b:XN[i]? with
   | none=>rw [a,b] at q; cases q
   | some y =>
    rw [a,b] at q;simp only [su,decide_eq_true_eq] at q;exact ⟨x,rfl,by rw [q.1],q.2⟩
theorem ib {env:Env}:∀{names:List (Str×jw)}{x:Str},names.lookup x=some .free ->
  (names.map fun (n,k)=>if (k == k5 && env.scope.kind == .function && env.kindOf n == some .cell) then (n,jw.cell) else (n,k)).lookup x=some .cell ∨
  (names.map fun (n,k)=>if (k == k5 && env.scope.kind == .function && env.kindOf n == some .cell) then (n,jw.cell) else (n,k)).lookup x=some .free
 | [],_,h=>by simp at h
 | (n,k)::r,x,h=>by
  have ih:=@ib env r x;simp only [bc];cases hx:x == n with
  | true =>
   simp only [iH,hx] at h;cases h;by_cases hc:(k5 == k5 && env.scope.kind == .function && env.kindOf n == some .cell)=true
   ·left; rw [if_pos hc]; simp [iH,hx]
   ·right; rw [if_neg hc]; simp [iH,hx]
  | false =>
   simp only [iH,hx] at h;by_cases hc:(k == k5 && env.scope.kind == .function && env.kindOf n == some .cell)=true
   ·rw [if_pos hc]; simp only [iH,hx]; exact ih h
   ·rw [if_neg hc]; simp only [iH,hx]; exact ih h
def dJ (k:Nat) (fi:List Nat) (σ:St):St:=List.replicate k none++fi.map fun i=>(σ[i]?).join
theorem Ba (k:Nat) (fi:List Nat) (σ:St):(dJ k fi σ).length=k+fi.length:=by simp [dJ]
theorem tT {k:Nat}{fi:List Nat}{σ:St}{i:Nat}{v:V}(h:(dJ k fi σ)[i]?=some (some v)):∃j t,i=k+j/\fi[j]?=some t/\σ[t]?=some (some v):=by
 unfold dJ at h;by_cases hi:i<k
 ·rw [dg (by simpa using hi),List.getElem?_replicate_of_lt hi] at h;cases h
 ·rw [lc (by simp; omega),List.length_replicate,bZ] at h;refine ⟨i-k,?_⟩;cases e:fi[i-k]? with
  | none=>rw [e] at h; cases h
  | some t =>
   rw [e] at h;simp only [sB] at h;refine ⟨t,by omega,rfl,?_⟩;have h':=fg h;cases e2:σ[t]? with
   | none=>rw [e2] at h'; cases h'
   | some o=>rw [e2] at h'; simp only [Option.join] at h'; first | (rw [h']) | (subst h'; rfl) | (simpa using h')
def zO (k:Nat) (g:TG):Prop:=∀x σ H Q,g x σ H Q->g x σ H fun σ2 H2=>Q σ2 H2/\σ2.length=σ.length/\∀i,k<=i->σ2[i]?=σ[i]?
def CA (k:Nat) (g:DO):Prop:=∀x σ H Q,g x σ H Q->g x σ H fun σ2 H2=>Q σ2 H2/\σ2.length=σ.length/\∀i,k<=i->σ2[i]?=σ[i]?
theorem bo {k i:Nat}(h:i<k):zO k (dX i):=fun x σ H Q q=>⟨q,by simp,fun j hj=>by rw [List.getElem?_set_ne (by omega)]⟩
theorem yS {k:Nat}:CA k fy:=fun x σ H Q ⟨e,q⟩=>⟨e,q,rfl,fun _ _=>rfl⟩
def FD (g:TG):Prop:=∀x σ H Q Q',(∀σ2 H2,Q σ2 H2->Q' σ2 H2)->g x σ H Q->g x σ H Q'
def xW (g:DO):Prop:=∀x σ H Q Q',(∀σ2 H2,Q σ2 H2->Q' σ2 H2)->g x σ H Q->g x σ H Q'
theorem fb {i:Nat}:FD (dX i):=fun _ _ _ _ _ f q=>f _ _ q
theorem jO:xW fy:=fun _ _ _ _ _ f ⟨e,q⟩=>⟨e,f _ _ q⟩
theorem ke {g:TG}{u:DO}(h1:FD g) (h2:xW u):xW (aN g u):=fun _ _ _ _ _ f ⟨v,r,e,q⟩=>⟨v,r,e,h1 _ _ _ _ _ (fun _ _ q=>h2 _ _ _ _ _ f q) q⟩
theorem jL {k:Nat}{g:TG}{u:DO}(h1:zO k g) (m1:FD g) (h2:CA k u) (m2:xW u):CA k (aN g u):=fun x σ H Q ⟨v,r,e,q⟩ =>
 ⟨v,r,e,m1 _ _ _ _ _ (fun σ2 H2 ⟨q,l,s⟩=>m2 _ _ _ _ _ (fun σ3 H3 ⟨q',l',s'⟩=>⟨q',l'.trans l,fun i hi=>(s' i hi).trans (s i hi)⟩) (h2 _ _ _ _ q)) (h1 _ _ _ _ q)⟩
theorem BY {K:Za}{k n:Nat}{t:DO}(h:CA k t):zO k (fG K n t):=fun x σ H Q ⟨a,xs,e,hs,hl,q⟩=>⟨a,xs,e,hs,hl,h _ _ _ _ q⟩
def Hi (X:Cx) (ifs:List Expr) (t:TT):Prop :=
 ∀(J3:Zd) (s:Shared) (σ:St) (H:Hp) (Q:Bool->Hp->Prop),Inv X J3 σ H s->t σ H Q->wpAny (model X.prog X.w) X.A (AW ifs X.env) (TP X J3 σ Q) X.xe s
def j5:TT:=fun _ H Q=>Q true H
theorem cQ {X:Cx}:Hi X [] j5:=fun J3 s σ H Q I h=>aI ⟨H,I,h⟩
theorem i5 {X:Cx}{c:Expr}{t:TT}(h:PT X c t):Hi X [c] t:=by
 intro J3 s σ H Q I hw;unfold AW;rw [pP];simp only [if_true];refine ak (ak (cF (h J3 s σ H Q I hw) fun b s1 q=>aI ?_));exact aI q
def dC (k:Nat) (fi:List Nat) (wi:TI) (g:TG) (tc:TT) (te:TE):TE:=fun σ H Q=>wi σ H fun J H1=>∀l,H1 l=none->∃W:Nat->Nat->List V->Hp->Prop,(∃m,W 0 m [] (upd H1 l (.lst [])))/\∀i m vs H2,W i m vs H2->H2 l=some (.lst vs) /\
 ((J.stop i H2/\Q (.ref l) H2)∨(J.go i H2/\∀x H3,J.yld i H2 x H3->g x (dJ k fi σ) H3 fun σ2 H4=>tc σ2 H4 fun b H5 =>
  if b=true then te σ2 H5 fun v H6=>H6 l=some (.lst vs)/\vs.length<aj/\∃m',m'<m/\W (i+1) m' (vs++[v]) (upd H6 l (.lst (vs++[v]))) else ∃m',m'<m/\W (i+1) m' vs H5))
section
variable {X:Cx}{J3:Zd}{σ:St}
theorem GR {k:Nat}{N:Zb}{scope:Scope}{fi:List Nat}{H:Hp}{s:Shared}{cl:List (Str×Addr)}{fp:Ze}(S:n5 X.env.scope scope k N X.N fi) (I:Inv X J3 σ H s)
  (hcl:∀x c,cl.lookup x=some c->X.env.cells.lookup x=some c) (hcf:∀y∈scope.names,y.2=.free->(cl.lookup y.1).isSome=true) (hf:∀b∈fp,nY X J3 H b) (hlt:∀b∈fp,b<s.heap.objs.size) :
  (dL X N scope s.heap.objs.size cl s H fp (X.pn++J3)).Ok where
 mod:=I.ok.mod
 kind:=S.kind
 glob:=I.ok.glob
 blt:=I.ok.blt
 above:=aE _
 inj:=fun x y c e1 e2=>I.ok.inj x y c (hcl x c e1) (hcl y c e2)
 has:=fun x h=>by
  have key:∃y∈scope.names,y.1=x/\y.2=.free:=by
   have h':(relabel scope X.env).names.lookup x=some .cell∨(relabel scope X.env).names.lookup x=some .free:=h;have mem:∀(l:List (Str×jw)) (kd:jw),l.lookup x=some kd->(x,kd)∈l:=by
    intro l
    induction l with
    | nil=>intro kd e; cases e
    | cons a r ih =>
     intro kd e;obtain ⟨n,k'⟩:=a;rw [iH] at e;cases hx:x == n with
     | true =>
      rw [hx] at e;have:x=n:=by simpa using hx
      subst this;cases e;exact dA
     | false=>rw [hx] at e; exact fx _ (ih kd e)
   have back:∀kd,(x,kd)∈(relabel scope X.env).names->kd=.cell∨kd=.free->∃y∈scope.names,y.1=x/\y.2=.free:=by
    intro kd hm hk;obtain ⟨⟨n,k'⟩,hy,e⟩:=aB.mp hm;dsimp only at e;by_cases hc:(k' == k5 && X.env.scope.kind == .function && X.env.kindOf n == some .cell)=true
    ·have hk':k'=.free:=by
      simp only [su] at hc;simpa using hc.1.1
     rw [if_pos hc] at e;cases e;exact ⟨_,hy,rfl,hk'⟩
    ·rw [if_neg hc] at e;cases e;rcases hk with rfl | rfl
     ·exact absurd rfl (S.cell _ hy)
     ·exact ⟨_,hy,rfl,rfl⟩
   rcases h' with h' | h'
   ·exact back _ (mem _ _ h') (.inl rfl)
   ·exact back _ (mem _ _ h') (.inr rfl)
  obtain ⟨y,hy,rfl,hk⟩:=key;exact Bs.mp (hcf y hy hk)
 cab:=fun x c h=>by cases h
 hd:=I.ok.hd
 frames:=I.ok.frames
 stk:=.inl rfl
 exf:=fun b hb=>⟨c_ (hlt b hb),fun x c e=>(hf b hb).2.2.2.2.1 x c (hcl x c e)⟩
 bs:=I.bs
 bsz:=bv I.ok.bsz I.sz
 noex:=fun b o e hb=>by
  rcases (hf b hb).2.2.2.1 with z | z
  ·exact I.ok.noex b o e z
  ·exact absurd (iD (aY (I.ok.bs b o e).1) z) (qJ _)
 exfs:=fun b hb z=>by
  obtain ⟨_,f1,f2,_⟩:=hf b hb;rcases c9.mp (I.stkSub b z) with q | q
  ·exact f1 q
  ·exact f2 q
 funs:=I.stack
 frf:=I.stkFree
theorem Fv {k:Nat}{N:Zb}{scope:Scope}{fi:List Nat}{H:Hp}{s:Shared}{cl:List (Str×Addr)}{fp:Ze}{h₁:Heap}{t':Nat}{m:Str->Option Value}(S:n5 X.env.scope scope k N X.N fi) (I:Inv X J3 σ H s)
  (hcl:∀x c,cl.lookup x=some c->X.env.cells.lookup x=some c) (hcf:∀y∈scope.names,y.2=.free->(cl.lookup y.1).isSome=true) (hf:∀b∈fp,nY X J3 H b) (hlt:∀b∈fp,b<s.heap.objs.size)
  (hn:h₁.Ns s.heap.objs.size m) (old:∀b o,s.heap.get? b=some o->h₁.get? b=some o) :
  Inv (dL X N scope s.heap.objs.size cl s H fp (X.pn++J3)) [] (dJ k fi σ) H { s with heap:=h₁,toks:=t' }:=by
 have memOf:∀(l:List (Str×jw)) (x:Str) (kd:jw),l.lookup x=some kd->(x,kd)∈l:=by
  intro l
  induction l with
  | nil=>intro x kd e; cases e
  | cons a r ih =>
   intro x kd e;obtain ⟨n,k'⟩:=a;rw [iH] at e;cases hx:x == n with
   | true =>
    rw [hx] at e;have:x=n:=by simpa using hx
    subst this;cases e;exact dA
   | false=>rw [hx] at e; exact fx _ (ih x kd e)
 refine ⟨GR S I hcl hcf hf hlt,rfl,I.bare,Un.kept old,⟨m,hn,fun i x v e1 e2 e3=>?_⟩,fun x c e=>?_,I.hok.fresh (aE _),fun x c e=>I.freeC x c (hcl x c e),fun p hp=>?_,I.hok.kept old,?_⟩
 ·obtain ⟨j,t,rfl,ht,hv⟩:=tT e2;obtain ⟨y,hy,hXN,hfr⟩:=S.sl j t ht;have e1':N[k+j]?=some x:=e1;rw [hy] at e1';cases e1';have hmem:=memOf _ _ _ hfr;obtain ⟨c,hc⟩:=Bs.mp (hcf _ hmem rfl);have hX:=hcl _ _ hc;obtain ⟨mX,hnX,hlX⟩:=I.loc;have kX:=S.fr _ hmem rfl;obtain ⟨u,ru,lk⟩:=hlX t x v hXN hv (by rcases kX with z | z; exact .inr (.inl z); exact .inr (.inr z));refine ⟨u,ru,.inr ⟨?_,c,hc,?_⟩⟩
  ·exact ib hfr
  ·rcases lk with ⟨z,_⟩ | ⟨_,c',e',q⟩
   ·have z':X.env.scope.names.lookup x=some .local:=z;rcases kX with kX | kX <;> rw [z'] at kX <;> cases kX
   ·rw [hX] at e';cases e';obtain ⟨o,ho,hd⟩:=q;exact ⟨o,old _ o ho,hd⟩
 ·obtain ⟨v,o,ho,hd⟩:=I.cell x c (hcl x c e);exact ⟨v,o,old _ o ho,hd⟩
 ·rw [fD] at hp;obtain ⟨e,n,ne,nf,d⟩:=I.pin p hp;refine ⟨old _ _ e,n,c_ (aY e),fun z=>?_,d⟩;rcases c9.mp (I.stkSub _ z) with q | q
  ·exact ne q
  ·exact nf q
 ·rw [Ba];exact S.len.symm
structure xY (X:Cx) (J3:Zd) (H:Hp) (C:Addr):Prop where
 free:H C=none
 loc:C≠X.env.locals
 young:X.s₀.heap.objs.size<=C
 cells:∀x c,X.env.cells.lookup x=some c->c≠C
 pin:∀p∈X.pn++J3,p.1≠C
theorem tS {elt iter tg:Expr}{ifs:List Expr}{scope:Scope}{pos:Pos}{k:Nat}{N:Zb}{fi:List Nat}{cl:List (Str×Addr)}{g:TG}{tc:TT}{te:TE}{it:Addr}{fp:Ze}{tn:Nat->Heap->Prop}{J:It}{H2:Hp}{s2:Shared}{Q:VK}
  {E:Zc}{RR:Value->Addr->Result->Shared->Prop}
  (S:n5 X.env.scope scope k N X.N fi) (hc:X.calm=true) (hcl:∀x c,cl.lookup x=some c->X.env.cells.lookup x=some c) (hcf:∀y∈scope.names,y.2=.free->(cl.lookup y.1).isSome=true)
  (hg:∀C cl s₀ H₀ ex pn,PG (dL X N scope C cl s₀ H₀ ex pn) tg g) (ho:zO k g) (ht:∀C cl s₀ H₀ ex pn,Hi (dL X N scope C cl s₀ H₀ ex pn) ifs tc) (he:∀C cl s₀ H₀ ex pn,PE (dL X N scope C cl s₀ H₀ ex pn) elt te)
  (I2:Inv X J3 σ H2 s2) (T:rB X.prog X.w X.K tg J fp it tn) (st2:tn 0 s2.heap) (f2:∀b∈fp,nY X J3 H2 b)
  (hw:∀l,H2 l=none->∃W:Nat->Nat->List V->Hp->Prop,(∃m,W 0 m [] (upd H2 l (.lst [])))/\∀i m vs H2,W i m vs H2->H2 l=some (.lst vs) /\
   ((J.stop i H2/\Q (.ref l) H2)∨(J.go i H2/\∀x H3,J.yld i H2 x H3->g x (dJ k fi σ) H3 fun σ2 H4=>tc σ2 H4 fun b H5 =>
    if b=true then te σ2 H5 fun v H6=>H6 l=some (.lst vs)/\vs.length<aj/\∃m',m'<m/\W (i+1) m' (vs++[v]) (upd H6 l (.lst (vs++[v]))) else ∃m',m'<m/\W (i+1) m' vs H5)))
  (hR:∀D C H' s' m',Inv X J3 σ H' s'->s'.heap.Ns C m'->xY X J3 H' C->Q (.ref D) H'->RR (.ref D) C (.ok .next) s') :
  wpAny (model X.prog X.w) X.A (newList []) (fun acc s₃=>wpAny (model X.prog X.w) X.A (newFunctionEnv scope X.env.globals cl [] X.env.qual none .none (some X.env)) (fun cenv s₄ =>
   zzl77 (model X.prog X.w) X.A (.compStart (.ListComp elt [⟨tg,iter,ifs,0⟩] scope pos) 0 (.ref it) acc { cenv with scope:=relabel scope X.env }) (RR acc cenv.locals) s₄) E s₃) E s2:=by
 have hfresh:H2 s2.heap.objs.size=none:=I2.fresh;obtain ⟨W,⟨m0,w0⟩,turn⟩:=hw _ hfresh;refine ji (wpAny_newFunctionEnv S.cell (by intro y hy; simp at hy) (fun h₁ hns₁ hsb₁=>?_) S.kind);dsimp only at hns₁ hsb₁ ⊢;have I3:Inv X J3 σ (upd H2 s2.heap.objs.size (.lst [])) { s2 with heap:=s2.heap.push { cls:=.type "list",data:=.seq ([]:Zf).toArray },toks:=s2.toks }:=I2.lnew (ys:=[]) .nil (cV _);generalize hs3:({ s2 with heap:=s2.heap.push { cls:=.type "list",data:=.seq ([]:Zf).toArray },toks:=s2.toks }:Shared)=s3 at I3;have hh3:s3.heap=s2.heap.push { cls:=.type "list",data:=.seq ([]:Zf).toArray }:=by rw [<-hs3]
 have hsz:s3.heap.objs.size=s2.heap.objs.size+1:=by rw [hh3,oo]
 have hlt:∀b∈fp,b<s2.heap.objs.size:=fun b hb=>by
  obtain ⟨o,e,_⟩:=T.obj 0 _ st2 b hb;exact aY e
 have f3:∀b∈fp,nY X J3 (upd H2 s2.heap.objs.size (.lst [])) b:=fun b hb=>⟨by rw [af (c_ (hlt b hb))]; exact (f2 b hb).1,(f2 b hb).2⟩;have hlt3:∀b∈fp,b<s3.heap.objs.size:=fun b hb=>by rw [hsz]; exact Nat.lt_succ_of_lt (hlt b hb)
 have old:∀b o,s3.heap.get? b=some o->h₁.get? b=some o:=fun b o e=>by
  have hb:b≠s3.heap.objs.size:=c_ (aY e);rw [hh3] at e hb;exact hsb₁.extBut b o hb (bu _ e)
 have hns:h₁.Ns s3.heap.objs.size (fun x=>([]:List (Str×Value)).reverse.lookup x):=by rw [hh3]; exact hns₁
 have I4:Inv (dL X N scope s3.heap.objs.size cl s3 (upd H2 s2.heap.objs.size (.lst [])) fp (X.pn++J3)) [] (dJ k fi σ) (upd H2 s2.heap.objs.size (.lst [])) { s3 with heap:=h₁,toks:=s2.toks+([]:List (Str×Value)).length } :=
  Fv S I3 hcl hcf f3 hlt3 hns old
 have st4:tn 0 h₁:=T.keep _ _ _ st2 fun b hb o e=>old b o (by rw [hh3]; exact bu _ e);generalize hY:dL X N scope s3.heap.objs.size cl s3 (upd H2 s2.heap.objs.size (.lst [])) fp (X.pn++J3)=Y at I4;have yp:Y.prog=X.prog:=by rw [<-hY]; rfl
 have yw:Y.w=X.w:=by rw [<-hY]; rfl
 have yK:Y.K=X.K:=by rw [<-hY]; rfl
 have yA:Y.A=X.A:=by rw [<-hY]; rfl
 have yx:Y.xe=XF:=by rw [<-hY]; rfl
 have yc:Y.calm=true:=by rw [<-hY]; exact hc
 have gY:PG Y tg g:=by rw [<-hY]; exact hg _ _ _ _ _ _
 have tY:Hi Y ifs tc:=by rw [<-hY]; exact ht _ _ _ _ _ _
 have eY:PE Y elt te:=by rw [<-hY]; exact he _ _ _ _ _ _
 have yenv:Y.env=compEnvC scope cl s3.heap.objs.size X.env:=by rw [<-hY]; rfl
 have fY:∀{H':Hp},(∀b∈fp,H' b=none)->∀b∈fp,nY Y [] H' b:=fun hn b hb=>by
  obtain ⟨f0,f1,f2',f3',f4,f5⟩:=f3 b hb;rw [<-hY];refine ⟨hn b hb,c_ (hlt3 b hb),fun z=>?_,.inl hb,fun x c e=>f4 x c (hcl x c e),fun p hp=>?_⟩
  ·rcases c9.mp (I3.stkSub _ z) with q | q
   ·exact f1 q
   ·exact f2' q
  ·rw [fD] at hp;exact f5 p hp
 have loop:∀s4:Shared,s4={ s3 with heap:=h₁,toks:=s2.toks+([]:List (Str×Value)).length } ->
   zzl77 (model X.prog X.w) X.A (.compLoop (.ListComp elt [⟨tg,iter,ifs,0⟩] scope pos) 0 (.ref it) (.ref s2.heap.objs.size) Y.env) (RR (.ref s2.heap.objs.size) s3.heap.objs.size) s4:=by
  rintro s4 rfl;refine xG (fun n s'=>∃i vs H',Inv Y [] (dJ k fi σ) H' s'/\tn i s'.heap/\(∀b∈fp,H' b=none)/\W i n vs H') ?_ m0 ⟨0,[],_,I4,st4,fun b hb=>(f3 b hb).1,w0⟩;rintro n s5 ⟨i,vs,H5,I5,st5,fr5,w5⟩;obtain ⟨hl5,hcase⟩:=turn i n vs H5 w5;rcases hcase with ⟨stop,q⟩ | ⟨go,step⟩
  ·have d:=T.done Y yp yw yK yc i [] s5 _ H5 XF I5 (fY fr5) st5 stop;rw [yA] at d;refine cF d fun r s6 ⟨hr,I6⟩=>?_;subst hr;have hu:Un (DK X.stack) fp (upd H2 s2.heap.objs.size (.lst [])) H5 s3.heap s6.heap:=by have:=I6.base; rw [<-hY] at this; exact this
   have ho6:s6.os=s3.os:=by have:=I6.os; rw [<-hY] at this; exact this
   have hok6:mq X.prog X.w X.K H5 s6.heap:=by have:=I6.hok; rw [<-hY] at this; exact this
   have hC6:H5 s3.heap.objs.size=none:=by have:=I6.free; rw [<-hY] at this; exact this
   obtain ⟨m6,hn6,_⟩:=I6.loc;have hn6':s6.heap.Ns s3.heap.objs.size m6:=by rw [<-hY] at hn6; exact hn6
   have IX:Inv X J3 σ H5 s6:=I3.call' ho6 hu hok6 I6.bare fun b hb=>by
    obtain ⟨f0,f1,f2',f3',f4,f5⟩:=f3 b hb;exact ⟨f3',f1,f4,f5⟩
   refine hR _ _ H5 s6 m6 IX hn6' ⟨hC6,gy I3.lt,I3.sz,fun x c e z=>?_,fun p hp z=>?_⟩ q
   ·obtain ⟨v,o,ho,_⟩:=I3.cell x c e;exact absurd (aY ho) (by rw [z]; exact qJ _)
   ·exact absurd (aY (I3.pin p hp).1) (by rw [z]; exact qJ _)
  ·have d:=T.item Y yp yw yK yc i [] s5 _ H5 XF I5 (fY fr5) st5 go;rw [yA] at d;refine cF d fun r s6 ⟨u,hr,h6⟩=>?_;subst hr;refine cF h6 fun _ s7 ⟨x,H7,I7,r7,y7,st7,fr7⟩=>?_;have I7':=I7.pinned (fY fr7) (T.obj _ _ st7);have a7:=gY _ s7 _ H7 x u _ I7' r7 (ho _ _ _ _ (step x H7 y7));rw [yp,yw,yA,yx] at a7;refine cF a7 fun _ s8 ⟨σ8,H8,I8,q8,l8,k8⟩=>?_;have a8:=tY _ s8 σ8 H8 _ I8 q8;rw [yp,yw,yA,yx] at a8;have again:∀{H9:Hp}{s9:Shared}{vs':List V}{m':Nat},Inv Y ([]++tu fp s7.heap) σ8 H9 s9->m'<n->W (i+1) m' vs' H9->∃m,m<n/\∃i vs H',Inv Y [] (dJ k fi σ) H' s9/\tn i s9.heap/\(∀b∈fp,H' b=none)/\W i m vs H':=fun {H9 s9 vs' m'} I9 hm w9=>by
    refine ⟨m',hm,i+1,vs',H9,(I9.unpinned).weak l8.symm (fun j v e=>?_),T.keep _ _ _ st7 fun b hb o e=>(I9.pin (b,o) (dk _ (dk _ (kg hb e)))).1,fun b hb=>?_,w9⟩
    ·obtain ⟨j',t,rfl,_,_⟩:=tT e;rw [k8 _ (Nat.le_add_right _ _)];exact e
    ·obtain ⟨o,e,_⟩:=T.obj _ _ st7 b hb;exact (I9.pin (b,o) (dk _ (dk _ (kg hb e)))).2.1
   refine cF a8 fun b s9 ⟨H9,I9,q9⟩=>?_;cases b with
   | false =>
    rw [if_neg fN] at q9 ⊢;obtain ⟨m',hm,w9⟩:=q9;exact again I9 hm w9
   | true =>
    rw [if_pos rfl] at q9 ⊢;have a9:=eY _ s9 σ8 H9 _ I9 q9;rw [yp,yw,yA,yx] at a9;refine cF a9 fun y s10 ⟨v,H10,I10,r10,hl10,hsz10,m',hm,w10⟩=>?_;have a10:=bL (X:=Y) _ s10 σ8 H10 (.ref s2.heap.objs.size) [v] (.ref s2.heap.objs.size) [y] (fun z H'=>z=.non/\H'=upd H10 s2.heap.objs.size (.lst (vs++[v]))) I10 rfl (.cons r10 .nil) ⟨_,vs,v,rfl,rfl,hl10,hsz10,rfl,rfl⟩;rw [yp,yw,yA,yx] at a10;refine cF a10 fun _ s11 ⟨_,H11,I11,_,_,e11⟩=>?_;subst e11;exact again I11 hm w10
 have hstart:=codeAny_compStart_list (prog:=X.prog) (w:=X.w) (A:=X.A) (elt:=elt) (target:=tg) (iter:=iter) (ifs:=ifs) (rest:=[]) (scope:=scope) (pos:=pos) (it:=.ref it) (acc:=.ref s2.heap.objs.size) (env:=Y.env) (loop _ rfl) (T.self _ 0 _ _ _ st4 (loop _ rfl));rw [yenv] at hstart;rw [<-hs3] at hstart;exact hstart
end
section
variable {X:Cx}
theorem xY.turned {J3:Zd}{σ:St}{H:Hp}{s:Shared}{C:Addr}{h':Heap}(c:xY X J3 H C) (I:Inv X J3 σ H s) (hs:fJ C s.heap h'):Inv X J3 σ H { s with heap:=h' } :=
 I.turned (t':=s.toks) (fun b o hb e=>hs.extBut b o hb e) c.free c.loc (.inr c.young) c.cells c.pin
theorem Gy {elt iter tg:Expr}{ifs:List Expr}{scope:Scope}{pos:Pos}{k:Nat}{N:Zb}{fi:List Nat}{wi:TI}{g:TG}{tc:TT}{te:TE}(hS:mn X.env.scope scope k N X.N fi=true) (hc:X.calm=true) (hi:PI X tg iter wi)
  (hg:∀C cl s₀ H₀ ex pn,PG (dL X N scope C cl s₀ H₀ ex pn) tg g) (ho:zO k g) (ht:∀C cl s₀ H₀ ex pn,Hi (dL X N scope C cl s₀ H₀ ex pn) ifs tc) (he:∀C cl s₀ H₀ ex pn,PE (dL X N scope C cl s₀ H₀ ex pn) elt te)
  (hs:∀x,ye iter X.env x=pure x:=by intro _; rfl):PE X (.ListComp elt [⟨tg,iter,ifs,0⟩] scope pos) (dC k fi wi g tc te):=by
 intro J3 s σ H Q I h;have S:=n5.of hS;obtain ⟨cl,hclos,hcl,hcf⟩:=tU (env:=X.env) (scope:=scope) fun y hy e=>I.ok.has y.1 (S.fr y hy e);rw [eval_ListComp];refine wpAny_comprehension_free (use:=none) rfl hs hclos S.kind S.nm (cF (hi J3 s σ H _ I h) fun v s1 h1=>cF h1 fun itv s2 h2=>?_);obtain ⟨it,fp,tn,J,H2,e,I2,T,st2,f2,hw⟩:=h2;subst e;refine tS (RR:=fun acc C=>compPost (model X.prog X.w) X.A X.xe none (EP X J3 σ Q) acc C) S hc hcl hcf hg ho ht he I2 T st2 f2 hw ?_;intro D C H' s' m' I' hn ce q;exact ⟨m',hn,fun h' hs'=>⟨.ref D,H',ce.turned I' hs',rfl,q⟩⟩
theorem AB {elt iter tg:Expr}{ifs:List Expr}{scope:Scope}{pos spos py:Pos}{k:Nat}{N:Zb}{fi:List Nat}{wi:TI}{g:TG}{tc:TT}{te:TE}{j:Nat}{y:Str}(hN:X.N.Nodup) (hj:X.N[j]?=some y) (hy:Loc X.env.scope y) (hS:mn X.env.scope scope k N X.N fi=true) (hc:X.calm=true) (hi:PI X tg iter wi)
  (hg:∀C cl s₀ H₀ ex pn,PG (dL X N scope C cl s₀ H₀ ex pn) tg g) (ho:zO k g) (ht:∀C cl s₀ H₀ ex pn,Hi (dL X N scope C cl s₀ H₀ ex pn) ifs tc) (he:∀C cl s₀ H₀ ex pn,PE (dL X N scope C cl s₀ H₀ ex pn) elt te)
  (hsw:qH (.ListComp elt [⟨tg,iter,ifs,0⟩] scope pos) (some (.Name y py)) spos.line X.env=pure true:=by rfl)
  (hs:∀x,ye iter X.env x=pure x:=by intro _; rfl) (hf:X.fn y=true∨X.env.scope.names.lookup y=some .local:=by first | exact .inl rfl | exact .inr rfl | assumption) :
  PS X (.Assign [.Name y py] (.ListComp elt [⟨tg,iter,ifs,0⟩] scope pos) spos) (aK (dC k fi wi g tc te) (dX j)):=by
 intro J3 s σ H D I h;have S:=n5.of hS;obtain ⟨cl,hclos,hcl,hcf⟩:=tU (env:=X.env) (scope:=scope) fun y hy e=>I.ok.has y.1 (S.fr y hy e);rw [exec_Assign_Name_used _ _ _ _ hsw];refine ak (BC (ak ?_));show wpAny _ X.A (do let _ <- comprehension (.ListComp elt [⟨tg,iter,ifs,0⟩] scope pos) scope X.env _ (newList []) false (eval iter X.env) (some (assign (.Name y py) X.env))) _ _ s
 refine ak (jy (wpAny_comprehension_free (use:=some (assign (.Name y py) X.env)) (Q:=fun _ s'=>SP X J3 D .next s') rfl hs hclos S.kind S.nm
  (cF (hi J3 s σ H _ I h) fun v s1 h1=>cF h1 fun itv s2 h2=>?_)) (fun _ s' hq=>aI (aI hq)) fun _ _ e=>e)
 obtain ⟨it,fp,tn,J,H2,e,I2,T,st2,f2,hw⟩:=h2;subst e;refine tS (RR:=fun acc C=>compPost (model X.prog X.w) X.A X.xe (some (assign (.Name y py) X.env)) (fun _ s'=>SP X J3 D .next s') acc C) (Q:=fun x H1=>dX j x σ H1 D.nx) S hc hcl hcf hg ho ht he I2 T st2 f2 hw ?_;intro A C H' s' m' I' hn ce q;show wpAny _ X.A (assign (.Name y py) X.env (.ref A)) _ _ _;refine wpAny_assign_Name (vd I' hN hj hy (v:=.ref A) rfl (fun s'' I'' hsb=>?_) hf);obtain ⟨a,hsa,ha⟩:=hsb;have hCa:C≠a:=by
  rcases ha with z | z
  ·rw [z]; exact ce.loc
  ·exact dz (ce.cells y a z)
 refine ⟨m',hn.sameBut hsa hCa,fun h' hs'=>?_⟩;exact ⟨_,H',ce.turned I'' hs',q⟩
end
theorem Inv.turnedNew {X:Cx}{J3:Zd}{σ:St}{H:Hp}{s:Shared}{h2:Heap}{t':Nat}{ch:Ze}{o:HO}(I:Inv X J3 σ H s) (hf:∀b∈ch,nY X J3 H b)
  (k:∀b q,b∉ch->s.heap.get? b=some q->h2.get? b=some q) (hq:∃q,h2.get? s.heap.objs.size=some q) (hno:∀y,o≠.own y) (new:cA X.prog X.w X.K (upd H s.heap.objs.size o) h2 s.heap.objs.size o) :
  Inv X J3 σ (upd H s.heap.objs.size o) { s with heap:=h2,toks:=t' }:=by
 have hn0:H s.heap.objs.size=none:=I.fresh;have nsz:∀b q,s.heap.get? b=some q->b≠s.heap.objs.size:=fun b q e=>c_ (aY e);have tr:∀b u,H b=some u->b∉ch:=fun b u e z=>by rw [(hf b z).1] at e; cases e
 refine I.step (g':=s.gens) (d':=s.drawn) (ch:=ch) (fun b hb=>?_) (fun b q _ _ hc e _=>k b q hc e) (fun b q _ _ hc e _=>⟨q.slots,k b q hc e⟩) (fun b q _ e n=>by rw [af (nsz b q e)]; exact n) (fun b q hc e=>⟨q,k b q hc e⟩)
  (fun b xs e=>by rw [af (ae e hn0)]; exact e) (fun b q u e=>by rw [af (ae e hn0)]; exact e) (fun b ps e=>⟨#[],by rw [af (ae e hn0),e]; simp⟩) (fun m hm=>?_) (fun b u e=>?_) I.bare
 ·obtain ⟨f0,f1,f2,f3,f4,f5⟩:=hf b hb;exact ⟨f3,f1,f4,f5⟩
 ·obtain ⟨q,es,ep,ho,r⟩:=hm;exact ⟨q,es,ep,k _ q (fun z=>(hf _ z).2.1 rfl) ho,r⟩
 ·by_cases hb:b=s.heap.objs.size
  ·subst hb; rw [aa] at e; cases e; exact new
  ·rw [af hb] at e;refine (I.hok b u e).stay (fun c v hc q=>k c v ?_ q) (fun c q=>by rw [af (ae q hn0)]; exact q) fun c xs q=>by rw [af (ae q hn0)]; exact q
   rcases hc with z | z
   ·subst z; exact tr _ _ e
   ·exact tr _ _ z
def IH (K:Za) (a:Addr):It :=
 ⟨fun i H=>∃xs x,az K H a xs/\xs[i]?=some x,fun i H x H'=>∃p v,x=.ref p/\H p=none/\(∀xs,az K H a xs->xs[i]?=some v)/\H'=upd H p (.tup [.int i,v]),fun i H=>∃xs,az K H a xs/\xs.length<=i⟩
theorem CK {P:bW}{w:World}{K:Za}{es:List Expr}{kx:Nat}{J7:Pos}(a e it:Addr) (hne:e≠it) :
  rB P w K (.Tuple es kx J7) (IH K a) [e,it] e (fun i h=>(∃old,IsEnum h e it i old)/\h.IsListIter it a i) where
 mem:=by simp
 obj:=fun i h st b hb=>by
  obtain ⟨⟨old,he⟩,o,ho,hc,hd⟩:=st;rcases c9.mp hb with z | z
  ·subst z; exact ⟨_,he,fun v z=>by cases z⟩
  ·have z':b=it:=by simpa using z
   subst z';exact ⟨o,ho,fun v z=>by rw [hd] at z; cases z⟩
 keep:=fun i h h' st k=>⟨let ⟨old,he⟩:=st.1; ⟨old,k e (by simp) _ he⟩,st.2.at fun o e=>k it (by simp) o e⟩
 item:=by
  intro X hP hw hK hc i J3 s σ H E I hf st hg;subst hP hw hK;obtain ⟨⟨old,he⟩,hit⟩:=st;obtain ⟨xs,x,hq,hx⟩:=hg;obtain ⟨its,rv,p,hz⟩:=I.list hq;obtain ⟨u,hu,ru⟩:=rv.get hx;obtain ⟨e0,e1,e2,e3,e4,e5⟩:=hf e (by simp);obtain ⟨f0,f1,f2,f3,f4,f5⟩:=hf it (by simp);refine wpAny_pyNext_enum_item he hit p.isList (x:=u) (by simpa using hu) hne fun h' ho' hit' ht' hsz' hk'=>?_;refine ⟨_,rfl,wpAny_letOwnedTupleGo_enum (s:={ s with heap:=h',toks:=s.toks+1 }) ho' fun h2 he2 hs2=>?_⟩;have hs2':fJ e h' h2:=hs2;have hpe:s.heap.objs.size≠e:=gy (aY he);have ht2:h2.get? s.heap.objs.size=some { cls:=.type "tuple",data:=.seq #[.int i s.toks,u] }:=hs2'.extBut _ _ hpe ht';have hn0:H s.heap.objs.size=none:=I.fresh;have hue:upd H s.heap.objs.size (.tup [.int i,x]) e=none:=by rw [af (dz hpe)]; exact e0
  have hpi:s.heap.objs.size≠it:=by
   obtain ⟨o,ho,_⟩:=hit;exact gy (aY ho)
  have hui:upd H s.heap.objs.size (.tup [.int i,x]) it=none:=by rw [af (dz hpi)]; exact f0
  have I2:Inv X J3 σ (upd H s.heap.objs.size (.tup [.int i,x])) { s with heap:=h2,toks:=s.toks+1 }:=by
   refine I.turnedNew (ch:=[e,it]) hf (fun b o hb q=>?_) ⟨_,ht2⟩ (fun _ z=>nomatch z) ⟨by show 2<=aj; decide,[.int i s.toks,u],.cons ⟨_,rfl⟩ (.cons ru .nil),⟨_,ht2,rfl,_,rfl⟩⟩;have nb1:b≠e:=fun z=>hb (by simp [z]);have nb2:b≠it:=fun z=>hb (by simp [z]);exact hs2'.extBut _ _ nb1 (hk' b o nb1 nb2 q)
  refine ⟨.ref s.heap.objs.size,_,I2,rfl,⟨_,x,rfl,hn0,fun ys hy=>by rw [I.list_inj hy hq]; exact hx,rfl⟩,⟨⟨u,by simpa using he2⟩,hit'.at fun o y=>(hs2'.2 it (dz hne)).trans y⟩,fun b hb=>?_⟩;rcases c9.mp hb with z | z
  ·subst z; exact hue
  ·have z':b=it:=by simpa using z
   subst z'; exact hui
 done:=by
  intro X hP hw hK hc i J3 s σ H E I hf st hg;subst hP hw hK;obtain ⟨⟨old,he⟩,hit⟩:=st;obtain ⟨xs,hq,hx⟩:=hg;obtain ⟨its,rv,p,hz⟩:=I.list hq;obtain ⟨f0,f1,f2,f3,f4,f5⟩:=hf it (by simp);have hl:=rv.length;exact wpAny_pyNext_enum_end (I.ok.hd hc) he hit p.isList (by simp; omega) fun h' eb=>⟨rfl,I.turned (t':=s.toks) (fun b o hb e=>eb b o hb e) f0 f1 f3 f4 f5⟩
 self:=fun _ _ _ _ _ st h=>let ⟨_,he⟩:=st.1; wpAny_pyIter_enum he h
section
variable {X:Cx}{p pos:Pos}{es:List Expr}{kx:Nat}{J7:Pos}
def qU (K:Za) (ta:TA):TI:=fun σ H R=>ta σ H fun vs H1=>∃a,vs=[.ref a]/\(∃xs,az K H1 a xs)/\R (IH K a) H1
theorem lZ {a:Expr}{ta:TA}(hg:Gl X "enumerate") (hm:X.mg "enumerate"=none) (ha:PA X [a] ta) (hs:aL [a] X.env=[(false,eval a X.env)]:=by rfl):PI X (.Tuple es kx J7) (.Call (.Name "enumerate" p) [a] [] pos) (qU X.K ta):=by
 intro J3 s σ H R I h;refine Call_ (tF I hg hm boot_enumerate (By (cF (ha pos J3 s σ H _ I h) fun us s1 ⟨vs,H1,I1,r1,q1⟩=>?_) hs rfl));obtain ⟨l,e,⟨xs,hq⟩,q⟩:=q1;subst e;obtain ⟨u,rfl,ru⟩:=vals1 r1;cases ru;obtain ⟨its,rv,pl,hz⟩:=I1.list hq;refine call_enumerate_list pl.isList fun h' he hit hsz hk=>?_;refine wpAny_pyIter_enum (s:={ s1 with heap:=h' }) he ?_;have hk':∀b o,s1.heap.get? b=some o->h'.get? b=some o:=hk;have I2:Inv X J3 σ H1 { s1 with heap:=h' }:=I1.kept (t':=s1.toks) hk';refine ⟨_,[s1.heap.objs.size+1,s1.heap.objs.size],_,_,H1,rfl,I2,CK l _ _ (Nat.succ_ne_self _),⟨⟨_,he⟩,hit⟩,fun b hb=>?_,q⟩;have hb':s1.heap.objs.size<=b:=by
  rcases c9.mp hb with z | z
  ·rw [z]; exact mL _
  ·have z':b=s1.heap.objs.size:=by simpa using z
   rw [z']; exact aE _
 exact I1.fpOk hb' (I1.hok.fresh hb')
end
def Jb (x:Str):It:=⟨fun i _=>i<x.cps.size,fun i H y H'=>H'=H/\∃c,x.cps[i]?=some c/\y=.str ⟨#[c]⟩,fun i _=>x.cps.size<=i⟩
theorem z7 {P:bW}{w:World}{K:Za}{tg:Expr}(x:Str) (t:Tok) (it:Addr):rB P w K tg (Jb x) [it] it (fun i h=>h.IsStrIter it "str_ascii_iterator" x t i) where
 mem:=by simp
 obj:=fun i h st b hb=>by
  have e:b=it:=by simpa using hb
  subst e;obtain ⟨o,e,c,d⟩:=st;exact ⟨o,e,fun v z=>by rw [d] at z; cases z⟩
 keep:=fun i h h' st k=>by
  obtain ⟨o,e,c,d⟩:=st;exact ⟨o,k it (by simp) o e,c,d⟩
 item:=by
  intro X hP hw hK hc i J3 s σ H E I hf st hg;subst hP hw hK;have hlt:i<x.cps.size:=hg;obtain ⟨f0,f1,f2,f3,f4,f5⟩:=hf it (by simp);have hx:x.cps[i]?=some x.cps[i]:=by simp [hlt]
  refine wpAny_pyNext_ascii_item st hx fun h' st' sb=>?_;have I1:Inv X J3 σ H { s with heap:=h',toks:=s.toks+1 }:=I.turned (t':=s.toks+1) (fun b o hb e=>(sb.2 b hb).trans e) f0 f1 f3 f4 f5;obtain ⟨o,e,c,d⟩:=id st';exact ⟨_,rfl,vC (s:={ s with heap:=h',toks:=s.toks+1 }) e c d (by decide) ⟨.str ⟨#[x.cps[i]]⟩,H,I1,⟨_,rfl⟩,⟨rfl,_,hx,rfl⟩,st',fun b hb=>(hf b hb).1⟩⟩
 done:=by
  intro X hP hw hK hc i J3 s σ H E I hf st hg;subst hP hw hK;have hge:x.cps.size<=i:=hg;obtain ⟨f0,f1,f2,f3,f4,f5⟩:=hf it (by simp);exact wpAny_pyNext_ascii_end (I.ok.hd hc) st (by simp; omega) fun h' eb=>⟨rfl,I.turned (t':=s.toks) (fun b o hb e=>eb b o hb e) f0 f1 f3 f4 f5⟩
 self:=fun _ _ _ _ _ st h=>wpAny_pyIter_striter_ascii st h
theorem CI {P:bW}{w:World}{K:Za}{tg:Expr}(x:Str) (t:Tok) (it:Addr):rB P w K tg (Jb x) [it] it (fun i h=>h.IsStrIter it "str_iterator" x t i) where
 mem:=by simp
 obj:=fun i h st b hb=>by
  have e:b=it:=by simpa using hb
  subst e;obtain ⟨o,e,c,d⟩:=st;exact ⟨o,e,fun v z=>by rw [d] at z; cases z⟩
 keep:=fun i h h' st k=>by
  obtain ⟨o,e,c,d⟩:=st;exact ⟨o,k it (by simp) o e,c,d⟩
 item:=by
  intro X hP hw hK hc i J3 s σ H E I hf st hg;subst hP hw hK;have hlt:i<x.cps.size:=hg;obtain ⟨f0,f1,f2,f3,f4,f5⟩:=hf it (by simp);have hx:x.cps[i]?=some x.cps[i]:=by simp [hlt]
  refine wpAny_pyNext_wide_item st hx fun h' st' sb=>?_;have I1:Inv X J3 σ H { s with heap:=h',toks:=s.toks+1 }:=I.turned (t':=s.toks+1) (fun b o hb e=>(sb.2 b hb).trans e) f0 f1 f3 f4 f5;obtain ⟨o,e,c,d⟩:=id st';exact ⟨_,rfl,vC (s:={ s with heap:=h',toks:=s.toks+1 }) e c d (by decide) ⟨.str ⟨#[x.cps[i]]⟩,H,I1,⟨_,rfl⟩,⟨rfl,_,hx,rfl⟩,st',fun b hb=>(hf b hb).1⟩⟩
 done:=by
  intro X hP hw hK hc i J3 s σ H E I hf st hg;subst hP hw hK;have hge:x.cps.size<=i:=hg;obtain ⟨f0,f1,f2,f3,f4,f5⟩:=hf it (by simp);exact wpAny_pyNext_wide_end (I.ok.hd hc) st (by simp; omega) fun h' eb=>⟨rfl,I.turned (t':=s.toks) (fun b o hb e=>eb b o hb e) f0 f1 f3 f4 f5⟩
 self:=fun _ _ _ _ _ st h=>wpAny_pyIter_striter_wide st h
section
variable {X:Cx}{p pos:Pos}{tg:Expr}
def Iu (tl:TE):TI:=fun σ H R=>tl σ H fun v H1=>∃x,v=.str x/\R (Jb x) H1
theorem Hx {l:Expr}{tl:TE}(hl:PE X l tl):PI X tg l (Iu tl):=by
 intro J3 s σ H R I h;refine cF (hl J3 s σ H _ I h) fun v s1 ⟨y,H1,I1,r1,q1⟩=>?_;obtain ⟨x,e,q⟩:=q1;subst e;obtain ⟨t,rfl⟩:=r1;have fin:∀b∈[s1.heap.objs.size],nY X J3 H1 b:=fun b hb=>by
  have e:b=s1.heap.objs.size:=by simpa using hb
  subst e;exact I1.fpOk (aE _) (I1.hok.fresh (aE _))
 cases ha:x.cps.all (·<128)
 ·refine wpAny_pyIter_wide ha ?_;exact ⟨s1.heap.objs.size,[s1.heap.objs.size],_,_,H1,rfl,I1.kept (t':=s1.toks) fun b o e=>bu _ e,CI x t _,⟨_,cL _ rfl,rfl,rfl⟩,fin,q⟩
 ·refine wpAny_pyIter_ascii ha ?_;exact ⟨s1.heap.objs.size,[s1.heap.objs.size],_,_,H1,rfl,I1.kept (t':=s1.toks) fun b o e=>bu _ e,z7 x t _,⟨_,cL _ rfl,rfl,rfl⟩,fin,q⟩
end
def IF (K:Za) (a b:Addr):It :=
  ⟨fun i H=>∃xs ys x y,az K H a xs/\az K H b ys/\xs[i]?=some x/\ys[i]?=some y,
   fun i H x H'=>∃p u v,x=.ref p/\H p=none/\(∀xs,az K H a xs->xs[i]?=some u)/\(∀ys,az K H b ys->ys[i]?=some v)/\H'=upd H p (.tup [u,v]),
   fun i H=>∃xs ys,az K H a xs/\az K H b ys/\(xs.length<=i∨ys.length<=i)⟩
theorem DY {P:bW}{w:World}{K:Za}{es:List Expr}{kx:Nat}{J7:Pos}(a b z TI TO i1 i2:Addr) (D:pO z TI TO i1 i2 a b) :
  rB P w K (.Tuple es kx J7) (IF K a b) [z,TI,TO,i1,i2] z (fun i h=>IsZip h z TI TO .none/\IsPair h TI (.ref i1) (.ref i2)/\(∃a b,IsPair h TO a b)/\h.IsListIter i1 a i/\h.IsListIter i2 b i) where
 mem:=by simp
 obj:=fun i h st c hc=>by
  obtain ⟨hz,hTI,⟨u,v,hTO⟩,h1,h2⟩:=st;simp only [c9,sr,or_false] at hc;rcases hc with rfl | rfl | rfl | rfl | rfl
  ·exact ⟨_,hz,fun v z=>by cases z⟩
  ·exact ⟨_,hTI,fun v z=>by cases z⟩
  ·exact ⟨_,hTO,fun v z=>by cases z⟩
  ·obtain ⟨o,e,c,d⟩:=h1;exact ⟨o,e,fun v z=>by rw [d] at z; cases z⟩
  ·obtain ⟨o,e,c,d⟩:=h2;exact ⟨o,e,fun v z=>by rw [d] at z; cases z⟩
 keep:=fun i h h' st k=>by
  obtain ⟨hz,hTI,⟨u,v,hTO⟩,h1,h2⟩:=st;exact ⟨k z (by simp) _ hz,k TI (by simp) _ hTI,⟨u,v,k TO (by simp) _ hTO⟩,h1.at fun o e=>k i1 (by simp) o e,h2.at fun o e=>k i2 (by simp) o e⟩
 item:=by
  intro X hP hw hK hc i J3 s σ H E I hf st hg;subst hP hw hK;obtain ⟨hz,hTI,⟨u0,v0,hTO⟩,h1,h2⟩:=st;obtain ⟨xs,ys,x,y,hqx,hqy,hx,hy⟩:=hg;obtain ⟨its,rx,px,zx⟩:=I.list hqx;obtain ⟨jts,ry,py,zy⟩:=I.list hqy;obtain ⟨u,hu,ru⟩:=rx.get hx;obtain ⟨v,hv,rv⟩:=ry.get hy;refine wpAny_pyNext_zip_item D hz hTI hTO h1 h2 px.isList py.isList (x:=u) (y:=v) (by simpa using hu) (by simpa using hv) fun h' a1 a2 a3 a4 a5 a6 hk=>?_;refine ⟨_,rfl,wpAny_letOwnedTupleGo_zip (s:={ s with heap:=h' }) a1 fun h2' hz2 hs2=>?_⟩;have hs2':fJ z h' h2':=hs2;have nsz:s.heap.objs.size≠z:=gy (aY hz);have nsTO:s.heap.objs.size≠TO:=gy (aY hTO);have nsTI:s.heap.objs.size≠TI:=gy (aY hTI);have nsi1:s.heap.objs.size≠i1:=by obtain ⟨o,ho,_⟩:=h1; exact gy (aY ho)
  have nsi2:s.heap.objs.size≠i2:=by obtain ⟨o,ho,_⟩:=h2; exact gy (aY ho)
  have ht2:IsPair h2' s.heap.objs.size u v:=hs2'.extBut _ _ nsz a5;have I2:Inv X J3 σ (upd H s.heap.objs.size (.tup [x,y])) { s with heap:=h2',toks:=s.toks }:=by
   refine I.turnedNew (ch:=[z,TI,TO,i1,i2]) hf (fun c o hc q=>?_) ⟨_,ht2⟩ (fun _ z=>nomatch z) ⟨by show 2<=aj; decide,[u,v],.cons ru (.cons rv .nil),⟨_,ht2,rfl,_,rfl⟩⟩;have n1:c≠z:=fun q=>hc (by simp [q]);exact hs2'.extBut _ _ n1 (hk c o n1 (fun q=>hc (by simp [q])) (fun q=>hc (by simp [q])) (fun q=>hc (by simp [q])) q)
  refine ⟨.ref s.heap.objs.size,_,I2,rfl,⟨_,x,y,rfl,I.fresh,fun zs hz=>by rw [I.list_inj hz hqx]; exact hx,fun zs hz=>by rw [I.list_inj hz hqy]; exact hy,rfl⟩,⟨hz2,hs2'.extBut _ _ D.TIz (hk _ _ D.TIz D.TITO D.TIi1 D.TIi2 hTI),⟨_,_,hs2'.extBut _ _ D.TOz a2⟩,a3.at fun o e=>hs2'.extBut _ _ D.i1z e,a4.at fun o e=>hs2'.extBut _ _ D.i2z e⟩,fun c hc=>?_⟩;have hcn:=(hf c hc).1;simp only [c9,sr,or_false] at hc;have ne:c≠s.heap.objs.size:=by
   rcases hc with rfl | rfl | rfl | rfl | rfl
   ·exact nsz.symm
   ·exact nsTI.symm
   ·exact nsTO.symm
   ·exact nsi1.symm
   ·exact nsi2.symm
  rw [af ne]; exact hcn
 done:=by
  intro X hP hw hK hc i J3 s σ H E I hf st hg;subst hP hw hK;obtain ⟨hz,hTI,⟨u0,v0,hTO⟩,h1,h2⟩:=st;obtain ⟨xs,ys,hqx,hqy,hend⟩:=hg;obtain ⟨its,rx,px,zx⟩:=I.list hqx;obtain ⟨jts,ry,py,zy⟩:=I.list hqy;have lx:=rx.length;have ly:=ry.length;refine wpAny_pyNext_zip_end (I.ok.hd hc) D hz hTI hTO h1 h2 px.isList py.isList (by rcases hend with q | q; exact .inl (by simp; omega); exact .inr (by simp; omega)) fun h' hk=>⟨rfl,?_⟩;have tr:∀c q,H c=some q->c∉[z,TI,TO,i1,i2]:=fun c q e m=>by rw [(hf c m).1] at e; cases e
  have kk:∀c o,c∉[z,TI,TO,i1,i2]->s.heap.get? c=some o->h'.get? c=some o:=fun c o hc q=>hk c o (fun q=>hc (by simp [q])) (fun q=>hc (by simp [q])) (fun q=>hc (by simp [q])) (fun q=>hc (by simp [q])) q;refine I.step (g':=s.gens) (d':=s.drawn) (t':=s.toks) (ch:=[z,TI,TO,i1,i2]) (fun c hc=>?_) (fun c o _ _ hc e _=>kk c o hc e) (fun c o _ _ hc e _=>⟨o.slots,kk c o hc e⟩) (fun _ _ _ _ n=>n) (fun c o hc e=>⟨o,kk c o hc e⟩) (fun _ _ e=>e) (fun _ _ _ e=>e) (fun c ps e=>⟨#[],by rw [e]; simp⟩) (fun m hm=>?_) (fun c q e=>?_) I.bare
  ·obtain ⟨f0,f1,f2,f3,f4,f5⟩:=hf c hc;exact ⟨f3,f1,f4,f5⟩
  ·obtain ⟨q,es',ep,ho,r⟩:=hm;exact ⟨q,es',ep,kk _ q (fun z=>(hf _ z).2.1 rfl) ho,r⟩
  ·refine (I.hok c q e).stay (fun d v hd q'=>kk d v ?_ q') (fun _ q=>q) fun _ _ q=>q;rcases hd with z | z
   ·subst z; exact tr _ _ e
   ·exact tr _ _ z
 self:=fun _ _ _ _ _ st h=>wv st.1 h
section
variable {prog:bW}{w:World}{A:Around}{E:Zc}{s:Shared}
theorem kb {it t:Addr}{i:Nat}{items:Array Value}{x:Value}{Q:Zc}(st:s.heap.IsTupleIter it t i) (tt:s.heap.IsTuple t items) (hx:items[i]?=some x)
  (k:∀h',h'.IsTupleIter it t (i+1)->fJ it s.heap h'->Q x { s with heap:=h' }):wpAny (model prog w) A (kZ (.ref it)) Q E s:=by
 obtain ⟨oi,gi,ci,di⟩:=id st;obtain ⟨ot,gt,_,nt,dt⟩:=tt;unfold kZ;refine ak (kY (name:=kW "__next__") st.typeIs wu
  (pF wu st.typeIs F.entry_tuple_iterator_next ?_ (F.args_tuple_iterator_next_1 _)))
 show wpAny _ _ (field (.ref it) 0 >>= _) _ _ s;refine ak (fk gi di (x:=.ref t) rfl ?_);show wpAny _ _ (if (Value.ref t == Value.none)=true then _ else _) _ _ s
 rw [if_neg (show ¬((Value.ref t == Value.none)=true) from fN)];show wpAny _ _ (field (.ref it) 1 >>= _) _ _ s;refine ak (fk gi di (x:=.int i 0) rfl ?_);show wpAny _ _ (seqItems? (.ref t) >>= _) _ _ s;refine ak (mN gt dt ?_);simp only [jk,hx];refine ak (so gi di (by simp) (aI ⟨x,rfl,aI (k _ ?_ (kU ..))⟩));exact ⟨_,wC _ gi (Obj.isFreed_of_fields (wt di _)),(Obj.cls_mapFields ..).trans ci,by
  rw [wt di]; simp [rawInt]⟩
theorem qN {it t:Addr}{i:Nat}{items:Array Value}{Q:Zc}(hh:A.handled=none) (st:s.heap.IsTupleIter it t i) (tt:s.heap.IsTuple t items) (hx:items[i]?=none)
  (k:∀h' e,Heap.ExtBut it s.heap h'->(∃o,h'.get? e=some o/\o.cls=.type "StopIteration")->E (.ref e) { s with heap:=h' }):wpAny (model prog w) A (kZ (.ref it)) Q E s:=by
 obtain ⟨oi,gi,ci,di⟩:=id st;obtain ⟨ot,gt,_,nt,dt⟩:=tt;unfold kZ;refine ak (kY (name:=kW "__next__") st.typeIs wu
  (pF wu st.typeIs F.entry_tuple_iterator_next ?_ (F.args_tuple_iterator_next_1 _)))
 show wpAny _ _ (field (.ref it) 0 >>= _) _ _ s;refine ak (fk gi di (x:=.ref t) rfl ?_);show wpAny _ _ (if (Value.ref t == Value.none)=true then _ else _) _ _ s
 rw [if_neg (show ¬((Value.ref t == Value.none)=true) from fN)];show wpAny _ _ (field (.ref it) 1 >>= _) _ _ s;refine ak (fk gi di (x:=.int i 0) rfl ?_);show wpAny _ _ (seqItems? (.ref t) >>= _) _ _ s;refine ak (mN gt dt ?_);simp only [jk,hx];refine ak (ya (ak (so gi di (by simp) ?_)));show wpAny _ _ (newExc (.type "StopIteration") [] >>= _) _ _ _;refine ak ?_;simp only [newExc,newTuple];refine ak (ji ?_ (by size_fits));refine ak (m:=pN _ _) (wpAny_of_eq (a:=Value.none) (by first | rfl | (simp only [pN]; rfl)) ?_)
 refine ji ?_ (by size_fits);simp only [raiseNew];refine ak (wpAny_handled ?_)
 first | rw [show A.in1.handled=none from hh] | rw [hh]
 refine ak (aI (wpAny_throw ?_));exact k _ _ (((kU ..).extBut.push _).push _) ⟨_,cL _ rfl,rfl⟩
theorem CG {z TI TO i1 i2 l1 l2:Addr}{k1 k2:Nat}{xs ys:Array Value}{x y a b:Value}{Q:Zc}(D:pO z TI TO i1 i2 l1 l2)
  (gz:IsZip s.heap z TI TO .none) (gI:IsPair s.heap TI (.ref i1) (.ref i2)) (gO:IsPair s.heap TO a b)
  (g1:s.heap.IsTupleIter i1 l1 k1) (g2:s.heap.IsTupleIter i2 l2 k2) (t1:s.heap.IsTuple l1 xs) (t2:s.heap.IsTuple l2 ys) (hx:xs[k1]?=some x) (hy:ys[k2]?=some y)
  (k:∀h',IsZip h' z TI TO (rawInt s.heap.objs.size)->IsPair h' TO x y->h'.IsTupleIter i1 l1 (k1+1)->h'.IsTupleIter i2 l2 (k2+1)->IsPair h' s.heap.objs.size x y->h'.objs.size=s.heap.objs.size+1 ->
   (∀c o,c≠z->c≠TO->c≠i1->c≠i2->s.heap.get? c=some o->h'.get? c=some o)->Q (.ref s.heap.objs.size) { s with heap:=h' }) :
  wpAny (model prog w) A (b_.«zip.__next__» ⟨[.ref z],[]⟩) (fun fin s'=>∃v,fin=.done (.ret v)/\Q v s') E s:=by
 show wpAny _ _ (field (.ref z) 2 >>= _) _ _ _;refine ak (fk gz rfl (x:=.bool false) rfl ?_);show wpAny _ _ (field (.ref z) 3 >>= _) _ _ _;refine ak (fk gz rfl (x:=.ref TI) rfl ?_);refine ak (mN gI rfl ?_);show wpAny _ _ (wr (.ref z) >>= _) _ _ _;refine ak ?_;unfold wr;refine ak (fk gz rfl (x:=.none) rfl (aI ?_));simp only [if_true];refine ak (ya ?_);refine ak (fk gz rfl (x:=.ref TO) rfl ?_);refine ak (iG gz (by simp) fun m₁ gz₁ u₁=>?_)
 replace gz₁:IsZip m₁ z TI TO .ellipsis:=gz₁
 refine ak ?_;simp only [List.zipIdx_cons,List.zipIdx_nil,pP,List.forIn_nil];refine ak (ak (wq ?_));show wpAny _ _ (kZ (.ref i1) >>= _) _ _ _;refine ak (kb (g1.extBut u₁.extBut D.i1z) (t1.extBut u₁.extBut D.l1z) hx fun m₂ g1₂ u₂=>aI ?_);have gO₂:IsPair m₂ TO a b:=u₂.extBut _ _ D.TOi1 (u₁.extBut _ _ D.TOz gO);refine ak (mN gO₂ rfl ?_);refine ak (wpAny_updateSeq_pair gO₂ fun m₃ gO₃ u₃=>?_)
 replace gO₃:IsPair m₃ TO x b:=gO₃
 refine ak (wo (aI ?_));refine ak (ak (wq ?_));show wpAny _ _ (kZ (.ref i2) >>= _) _ _ _;refine ak (kb (((g2.extBut u₁.extBut D.i2z).extBut u₂.extBut D.i12.symm).extBut u₃.extBut D.TOi2.symm)
  (((t2.extBut u₁.extBut D.l2z).extBut u₂.extBut D.l2i1).extBut u₃.extBut D.l2TO) hy fun m₄ g2₄ u₄=>aI ?_)
 have gO₄:IsPair m₄ TO x b:=u₄.extBut _ _ D.TOi2 gO₃;refine ak (mN gO₄ rfl ?_);refine ak (wpAny_updateSeq_pair gO₄ fun m₅ gO₅ u₅=>?_)
 replace gO₅:IsPair m₅ TO x y:=gO₅
 refine ak (wo (aI (aI ?_)));refine ak (mN gO₅ rfl ?_);refine ak (wpAny_newTuple ?_);have esz:m₅.objs.size=s.heap.objs.size:=by rw [u₅.1,u₄.1,u₃.1,u₂.1,u₁.1]
 have gz₅:IsZip m₅ z TI TO .ellipsis:=u₅.extBut _ _ D.TOz.symm (u₄.extBut _ _ D.i2z.symm (u₃.extBut _ _ D.TOz.symm (u₂.extBut _ _ D.i1z.symm gz₁)));have kp₅:∀c o,c≠z->c≠TO->c≠i1->c≠i2->s.heap.get? c=some o->m₅.get? c=some o:=fun c o c1 c2 c3 c4 e =>
  u₅.extBut _ _ c2 (u₄.extBut _ _ c4 (u₃.extBut _ _ c2 (u₂.extBut _ _ c3 (u₁.extBut _ _ c1 e))))
 have g1₅:m₅.IsTupleIter i1 l1 (k1+1):=((g1₂.extBut u₃.extBut D.TOi1.symm).extBut u₄.extBut D.i12).extBut u₅.extBut D.TOi1.symm;have g2₅:m₅.IsTupleIter i2 l2 (k2+1):=g2₄.extBut u₅.extBut D.TOi2.symm;have zlt:z<m₅.objs.size:=aY gz₅;show wpAny _ _ (b_.SmallTypes.ownedTupleHandOut (.ref z) (.ref m₅.objs.size) >>= _) _ _ _;refine ak ?_;unfold b_.SmallTypes.ownedTupleHandOut;have gz₆:IsZip (m₅.push { cls:=.type "tuple",data:=.seq #[x,y] }) z TI TO .ellipsis:=bu _ gz₅;refine ak (iG gz₆ (by simp) fun m₇ gz₇ u₇=>?_)
 replace gz₇:IsZip m₇ z TI TO (rawInt m₅.objs.size):=gz₇
 refine iG gz₇ (by simp) fun m₈ gz₈ u₈=>?_
 replace gz₈:IsZip m₈ z TI TO (rawInt m₅.objs.size):=gz₈
 have up:∀c o,c≠z->m₅.get? c=some o->m₈.get? c=some o:=fun c o c1 e=>u₈.extBut _ _ c1 (u₇.extBut _ _ c1 (bu _ e));have gT₈:IsPair m₈ m₅.objs.size x y:=u₈.extBut _ _ (gy zlt) (u₇.extBut _ _ (gy zlt) (cL _ rfl));have ez8:m₈.objs.size=m₅.objs.size+1:=by rw [u₈.1,u₇.1,oo]
 rw [esz] at gz₈ gT₈ ez8;refine aI ⟨_,rfl,?_⟩;show Q (.ref m₅.objs.size) _;rw [esz];refine k m₈ gz₈ (up _ _ D.TOz gO₅) ?_ ?_ gT₈ ez8 fun c o c1 c2 c3 c4 e=>up c o c1 (kp₅ c o c1 c2 c3 c4 e)
 ·obtain ⟨o,e,r⟩:=g1₅;exact ⟨o,up _ o D.i1z e,r⟩
 ·obtain ⟨o,e,r⟩:=g2₅;exact ⟨o,up _ o D.i2z e,r⟩
theorem DR {z TI TO i1 i2 l1 l2:Addr}{k1 k2:Nat}{xs ys:Array Value}{a b:Value}{Q:Fin->Shared->Prop}(hh:A.handled=none) (D:pO z TI TO i1 i2 l1 l2)
  (gz:IsZip s.heap z TI TO .none) (gI:IsPair s.heap TI (.ref i1) (.ref i2)) (gO:IsPair s.heap TO a b)
  (g1:s.heap.IsTupleIter i1 l1 k1) (g2:s.heap.IsTupleIter i2 l2 k2) (t1:s.heap.IsTuple l1 xs) (t2:s.heap.IsTuple l2 ys) (fin:xs[k1]?=none∨ys[k2]?=none)
  (k:∀h' e,(∀c o,c≠z->c≠TO->c≠i1->c≠i2->s.heap.get? c=some o->h'.get? c=some o)->(∃o,h'.get? e=some o/\o.cls=.type "StopIteration")->E (.ref e) { s with heap:=h' }) :
  wpAny (model prog w) A (b_.«zip.__next__» ⟨[.ref z],[]⟩) Q E s:=by
 show wpAny _ _ (field (.ref z) 2 >>= _) _ _ _;refine ak (fk gz rfl (x:=.bool false) rfl ?_);show wpAny _ _ (field (.ref z) 3 >>= _) _ _ _;refine ak (fk gz rfl (x:=.ref TI) rfl ?_);refine ak (mN gI rfl ?_);show wpAny _ _ (wr (.ref z) >>= _) _ _ _;refine ak ?_;unfold wr;refine ak (fk gz rfl (x:=.none) rfl (aI ?_));simp only [if_true];refine ak (ya ?_);refine ak (fk gz rfl (x:=.ref TO) rfl ?_);refine ak (iG gz (by simp) fun m₁ gz₁ u₁=>?_)
 replace gz₁:IsZip m₁ z TI TO .ellipsis:=gz₁
 refine ak ?_;simp only [List.zipIdx_cons,List.zipIdx_nil,pP,List.forIn_nil];refine ak (ak (wq ?_));show wpAny _ _ (kZ (.ref i1) >>= _) _ _ _;cases hx:xs[k1]? with
 | none =>
  refine ak (qN hh (g1.extBut u₁.extBut D.i1z) (t1.extBut u₁.extBut D.l1z) hx fun m₂ e u₂ he=>?_);obtain ⟨oe,ge,ce⟩:=he;have gz₂:IsZip m₂ z TI TO .ellipsis:=u₂ _ _ D.i1z.symm gz₁;have nez:e≠z:=fun q=>by subst q; rw [gz₂] at ge; cases ge; simp at ce
  refine iG gz₂ (by simp) fun m₃ _ u₃=>k m₃ e (fun c o c1 _ c3 _ q=>u₃.extBut _ _ c1 (u₂ _ _ c3 (u₁.extBut _ _ c1 q))) ⟨oe,u₃.extBut _ _ nez ge,ce⟩
 | some x =>
  have hy:ys[k2]?=none:=by rcases fin with q | q; rw [hx] at q; cases q; exact q
  refine ak (kb (g1.extBut u₁.extBut D.i1z) (t1.extBut u₁.extBut D.l1z) hx fun m₂ g1₂ u₂=>aI ?_);have gO₂:IsPair m₂ TO a b:=u₂.extBut _ _ D.TOi1 (u₁.extBut _ _ D.TOz gO);refine ak (mN gO₂ rfl ?_);refine ak (wpAny_updateSeq_pair gO₂ fun m₃ gO₃ u₃=>?_);refine ak (wo (aI ?_));refine ak (ak (wq ?_));show wpAny _ _ (kZ (.ref i2) >>= _) _ _ _;refine ak (qN hh (((g2.extBut u₁.extBut D.i2z).extBut u₂.extBut D.i12.symm).extBut u₃.extBut D.TOi2.symm)
   (((t2.extBut u₁.extBut D.l2z).extBut u₂.extBut D.l2i1).extBut u₃.extBut D.l2TO) hy fun m₄ e u₄ he=>?_)
  obtain ⟨oe,ge,ce⟩:=he;have gz₄:IsZip m₄ z TI TO .ellipsis:=u₄ _ _ D.i2z.symm (u₃.extBut _ _ D.TOz.symm (u₂.extBut _ _ D.i1z.symm gz₁));have nez:e≠z:=fun q=>by subst q; rw [gz₄] at ge; cases ge; simp at ce
  refine iG gz₄ (by simp) fun m₅ _ u₅=>k m₅ e (fun c o c1 c2 c3 c4 q=>u₅.extBut _ _ c1 (u₄ _ _ c4 (u₃.extBut _ _ c2 (u₂.extBut _ _ c3 (u₁.extBut _ _ c1 q))))) ⟨oe,u₅.extBut _ _ nez ge,ce⟩
theorem uJ {z TI TO i1 i2 l1 l2:Addr}{k1 k2:Nat}{xs ys:Array Value}{x y a b:Value}{Q:Option Value->Shared->Prop}(D:pO z TI TO i1 i2 l1 l2)
  (gz:IsZip s.heap z TI TO .none) (gI:IsPair s.heap TI (.ref i1) (.ref i2)) (gO:IsPair s.heap TO a b)
  (g1:s.heap.IsTupleIter i1 l1 k1) (g2:s.heap.IsTupleIter i2 l2 k2) (t1:s.heap.IsTuple l1 xs) (t2:s.heap.IsTuple l2 ys) (hx:xs[k1]?=some x) (hy:ys[k2]?=some y)
  (k:∀h',IsZip h' z TI TO (rawInt s.heap.objs.size)->IsPair h' TO x y->h'.IsTupleIter i1 l1 (k1+1)->h'.IsTupleIter i2 l2 (k2+1)->IsPair h' s.heap.objs.size x y->h'.objs.size=s.heap.objs.size+1 ->
   (∀c o,c≠z->c≠TO->c≠i1->c≠i2->s.heap.get? c=some o->h'.get? c=some o)->Q (some (.ref s.heap.objs.size)) { s with heap:=h' }) :
  wpAny (model prog w) A (pyNext (.ref z)) Q E s:=by
 have hT:s.TypeIs (.ref z) "zip":=⟨_,gz,rfl⟩;unfold pyNext;exact ak (pM (kY (name:=kW "__next__") hT wn
  (pF wn hT F.entry_zip_next
   (CG D gz gI gO g1 g2 t1 t2 hx hy fun h' a1 a2 a3 a4 a5 a6 a7=>aI (k h' a1 a2 a3 a4 a5 a6 a7)) (F.args_zip_next_1 _))))
theorem xj {z TI TO i1 i2 l1 l2:Addr}{k1 k2:Nat}{xs ys:Array Value}{a b:Value}{Q:Option Value->Shared->Prop}(hh:A.handled=none) (D:pO z TI TO i1 i2 l1 l2)
  (gz:IsZip s.heap z TI TO .none) (gI:IsPair s.heap TI (.ref i1) (.ref i2)) (gO:IsPair s.heap TO a b)
  (g1:s.heap.IsTupleIter i1 l1 k1) (g2:s.heap.IsTupleIter i2 l2 k2) (t1:s.heap.IsTuple l1 xs) (t2:s.heap.IsTuple l2 ys) (fin:xs[k1]?=none∨ys[k2]?=none)
  (k:∀h',(∀c o,c≠z->c≠TO->c≠i1->c≠i2->s.heap.get? c=some o->h'.get? c=some o)->Q none { s with heap:=h' }):wpAny (model prog w) A (pyNext (.ref z)) Q E s:=by
 have hT:s.TypeIs (.ref z) "zip":=⟨_,gz,rfl⟩;unfold pyNext;refine ak (pM (kY (name:=kW "__next__") hT wn
  (pF wn hT F.entry_zip_next (DR hh D gz gI gO g1 g2 t1 t2 fin fun h' e kp he=>?_) (F.args_zip_next_1 _))))
 obtain ⟨o,ho,hc⟩:=he;refine ak (yg (T:="StopIteration") (b:=true) ⟨o,ho,hc⟩ isSubtype_stop ?_);exact aI (k _ kp)
end
abbrev IS (h:Heap) (l1:Addr):Heap:=h.push { cls:=.type "tuple_iterator",data:=.fields #[.ref l1,.int 0 0] }
abbrev IR (h:Heap) (l1 l2:Addr):Heap:=(IS h l1).push { cls:=.type "tuple_iterator",data:=.fields #[.ref l2,.int 0 0] }
abbrev IQ (h:Heap) (l1 l2:Addr):Heap:=(IR h l1 l2).push { cls:=.type "tuple",data:=.seq #[.ref h.objs.size,.ref (IS h l1).objs.size] }
abbrev IP (h:Heap) (l1 l2:Addr):Heap:=(IQ h l1 l2).push { cls:=.type "tuple",data:=.seq #[.none,.none] }
abbrev HW (h:Heap) (l1 l2:Addr):Heap:=(IP h l1 l2).push { cls:=.type "zip",data:=.fields #[.none,.bool false,.bool false,.ref (IR h l1 l2).objs.size,.ref (IQ h l1 l2).objs.size] }
theorem AH (l1 l2:Addr) (xs ys:Array Value) :
  Meets (b_.«zip.__new__» ⟨[.type "zip",.ref l1,.ref l2],[]⟩) (fun _ R s=>s.heap.IsTuple l1 xs/\s.heap.IsTuple l2 ys /\
   R (.ok (.ret (.ref (IP s.heap l1 l2).objs.size))) { s with heap:=HW s.heap l1 l2 }) :=
 .of_wp fun prog w A R s h=>by
  obtain ⟨hp,g,d,tk,os⟩:=s; obtain ⟨q1,q2,h⟩:=h;have hsub:=sub_zip;have T1:Heap.IsTuple (Shared.heap ⟨hp,g,d,tk,os⟩) l1 xs:=q1;have T2:Heap.IsTuple (Shared.heap ⟨hp.push { cls:=.type "tuple_iterator",data:=.fields #[.ref l1,.int 0 0] },g,d,tk,os⟩) l2 ys:=Heap.IsTuple.push q2 _
  wp_walk using Bz T1,Bz T2
  exact ⟨_,rfl,h⟩
section
variable {prog:bW}{w:World}{A:Around}{E:Zc}{s:Shared}
theorem Dx {l1 l2:Addr}{xs ys:Array Value}{Q:Zc}(t1:s.heap.IsTuple l1 xs) (t2:s.heap.IsTuple l2 ys)
  (k:∀h',IsZip h' (s.heap.objs.size+4) (s.heap.objs.size+2) (s.heap.objs.size+3) .none->IsPair h' (s.heap.objs.size+2) (.ref s.heap.objs.size) (.ref (s.heap.objs.size+1)) ->
   IsPair h' (s.heap.objs.size+3) .none .none->h'.IsTupleIter s.heap.objs.size l1 0->h'.IsTupleIter (s.heap.objs.size+1) l2 0->(∀c o,s.heap.get? c=some o->h'.get? c=some o)->Q (.ref (s.heap.objs.size+4)) { s with heap:=h' }) :
  wpAny (model prog w) A (call (.type "zip") [.ref l1,.ref l2]) Q E s:=by
 refine callType_new F.called_zip (by decide) (F.typeCall_zip_2 _ _) (F.newCall_zip_2 _ _) (fun obj=>F.args_object_init_3 obj _ _) F.entry_zip_new
  (AH l1 l2 xs ys) ⟨t1,t2,?_⟩
 have z1:(IS s.heap l1).objs.size=s.heap.objs.size+1:=oo ..;have z2:(IR s.heap l1 l2).objs.size=s.heap.objs.size+2:=by rw [oo,z1]
 have z3:(IQ s.heap l1 l2).objs.size=s.heap.objs.size+3:=by rw [oo,z2]
 have z4:(IP s.heap l1 l2).objs.size=s.heap.objs.size+4:=by rw [oo,z3]
 have g5:(HW s.heap l1 l2).get? (IP s.heap l1 l2).objs.size=some _:=cL _ rfl;have g4:(HW s.heap l1 l2).get? (IQ s.heap l1 l2).objs.size=some _:=bu _ (cL _ rfl);have g3:(HW s.heap l1 l2).get? (IR s.heap l1 l2).objs.size=some _:=bu _ (bu _ (cL _ rfl));have g2:(HW s.heap l1 l2).get? (IS s.heap l1).objs.size=some _:=bu _ (bu _ (bu _ (cL _ rfl)));have g1:(HW s.heap l1 l2).get? s.heap.objs.size=some _:=bu _ (bu _ (bu _ (bu _ (cL _ rfl))));show _/\_;rw [z2,z3,z4] at g5;rw [z1,z2] at g3;rw [z3] at g4;rw [z1] at g2;rw [z4];exact ⟨⟨_,g5,rfl⟩,k _ g5 g3 g4 ⟨_,g1,rfl,rfl⟩ ⟨_,g2,rfl,rfl⟩ fun c o x =>
  bu _ (bu _ (bu _ (bu _ (bu _ x))))⟩
end
def IE (K:Za) (a b:Addr):It :=
  ⟨fun i H=>∃xs ys x y,bj K H a xs/\bj K H b ys/\xs[i]?=some x/\ys[i]?=some y,
   fun i H x H'=>∃p u v,x=.ref p/\H p=none/\(∀xs,bj K H a xs->xs[i]?=some u)/\(∀ys,bj K H b ys->ys[i]?=some v)/\H'=upd H p (.tup [u,v]),
   fun i H=>∃xs ys,bj K H a xs/\bj K H b ys/\(xs.length<=i∨ys.length<=i)⟩
theorem CH {P:bW}{w:World}{K:Za}{es:List Expr}{kx:Nat}{J7:Pos}(a b z TI TO i1 i2:Addr) (D:pO z TI TO i1 i2 a b) :
  rB P w K (.Tuple es kx J7) (IE K a b) [z,TI,TO,i1,i2] z (fun i h=>IsZip h z TI TO .none/\IsPair h TI (.ref i1) (.ref i2)/\(∃a b,IsPair h TO a b)/\h.IsTupleIter i1 a i/\h.IsTupleIter i2 b i) where
 mem:=by simp
 obj:=fun i h st c hc=>by
  obtain ⟨hz,hTI,⟨u,v,hTO⟩,h1,h2⟩:=st;simp only [c9,sr,or_false] at hc;rcases hc with rfl | rfl | rfl | rfl | rfl
  ·exact ⟨_,hz,fun v z=>by cases z⟩
  ·exact ⟨_,hTI,fun v z=>by cases z⟩
  ·exact ⟨_,hTO,fun v z=>by cases z⟩
  ·obtain ⟨o,e,c,d⟩:=h1;exact ⟨o,e,fun v z=>by rw [d] at z; cases z⟩
  ·obtain ⟨o,e,c,d⟩:=h2;exact ⟨o,e,fun v z=>by rw [d] at z; cases z⟩
 keep:=fun i h h' st k=>by
  obtain ⟨hz,hTI,⟨u,v,hTO⟩,⟨o1,e1,r1⟩,⟨o2,e2,r2⟩⟩:=st;exact ⟨k z (by simp) _ hz,k TI (by simp) _ hTI,⟨u,v,k TO (by simp) _ hTO⟩,⟨o1,k i1 (by simp) o1 e1,r1⟩,⟨o2,k i2 (by simp) o2 e2,r2⟩⟩
 item:=by
  intro X hP hw hK hc i J3 s σ H E I hf st hg;subst hP hw hK;obtain ⟨hz,hTI,⟨u0,v0,hTO⟩,h1,h2⟩:=st;obtain ⟨xs,ys,x,y,hqx,hqy,hx,hy⟩:=hg;obtain ⟨its,rx,px,zx⟩:=I.tuple hqx;obtain ⟨jts,ry,py,zy⟩:=I.tuple hqy;obtain ⟨u,hu,ru⟩:=rx.get hx;obtain ⟨v,hv,rv⟩:=ry.get hy;refine uJ D hz hTI hTO h1 h2 (xs:=its.toArray) (ys:=jts.toArray) px py (x:=u) (y:=v) (by simpa using hu) (by simpa using hv) fun h' a1 a2 a3 a4 a5 a6 hk=>?_;refine ⟨_,rfl,wpAny_letOwnedTupleGo_zip (s:={ s with heap:=h' }) a1 fun h2' hz2 hs2=>?_⟩;have hs2':fJ z h' h2':=hs2;have nsz:s.heap.objs.size≠z:=gy (aY hz);have nsTO:s.heap.objs.size≠TO:=gy (aY hTO);have nsTI:s.heap.objs.size≠TI:=gy (aY hTI);have nsi1:s.heap.objs.size≠i1:=by obtain ⟨o,ho,_⟩:=h1; exact gy (aY ho)
  have nsi2:s.heap.objs.size≠i2:=by obtain ⟨o,ho,_⟩:=h2; exact gy (aY ho)
  have ht2:IsPair h2' s.heap.objs.size u v:=hs2'.extBut _ _ nsz a5;have I2:Inv X J3 σ (upd H s.heap.objs.size (.tup [x,y])) { s with heap:=h2',toks:=s.toks }:=by
   refine I.turnedNew (ch:=[z,TI,TO,i1,i2]) hf (fun c o hc q=>?_) ⟨_,ht2⟩ (fun _ z=>nomatch z) ⟨by show 2<=aj; decide,[u,v],.cons ru (.cons rv .nil),⟨_,ht2,rfl,_,rfl⟩⟩;have n1:c≠z:=fun q=>hc (by simp [q]);exact hs2'.extBut _ _ n1 (hk c o n1 (fun q=>hc (by simp [q])) (fun q=>hc (by simp [q])) (fun q=>hc (by simp [q])) q)
  have a3':h2'.IsTupleIter i1 a (i+1):=by obtain ⟨o,e,r⟩:=a3; exact ⟨o,hs2'.extBut _ _ D.i1z e,r⟩
  have a4':h2'.IsTupleIter i2 b (i+1):=by obtain ⟨o,e,r⟩:=a4; exact ⟨o,hs2'.extBut _ _ D.i2z e,r⟩
  refine ⟨.ref s.heap.objs.size,_,I2,rfl,⟨_,x,y,rfl,I.fresh,fun zs hz=>by rw [I.tuple_inj hz hqx]; exact hx,fun zs hz=>by rw [I.tuple_inj hz hqy]; exact hy,rfl⟩,⟨hz2,hs2'.extBut _ _ D.TIz (hk _ _ D.TIz D.TITO D.TIi1 D.TIi2 hTI),⟨_,_,hs2'.extBut _ _ D.TOz a2⟩,a3',a4'⟩,fun c hc=>?_⟩;have hcn:=(hf c hc).1;simp only [c9,sr,or_false] at hc;have ne:c≠s.heap.objs.size:=by
   rcases hc with rfl | rfl | rfl | rfl | rfl
   ·exact nsz.symm
   ·exact nsTI.symm
   ·exact nsTO.symm
   ·exact nsi1.symm
   ·exact nsi2.symm
  rw [af ne]; exact hcn
 done:=by
  intro X hP hw hK hc i J3 s σ H E I hf st hg;subst hP hw hK;obtain ⟨hz,hTI,⟨u0,v0,hTO⟩,h1,h2⟩:=st;obtain ⟨xs,ys,hqx,hqy,hend⟩:=hg;obtain ⟨its,rx,px,zx⟩:=I.tuple hqx;obtain ⟨jts,ry,py,zy⟩:=I.tuple hqy;have lx:=rx.length;have ly:=ry.length;refine xj (I.ok.hd hc) D hz hTI hTO h1 h2 (xs:=its.toArray) (ys:=jts.toArray) px py (by rcases hend with q | q; exact .inl (by simp; omega); exact .inr (by simp; omega)) fun h' hk=>⟨rfl,?_⟩;have tr:∀c q,H c=some q->c∉[z,TI,TO,i1,i2]:=fun c q e m=>by rw [(hf c m).1] at e; cases e
  have kk:∀c o,c∉[z,TI,TO,i1,i2]->s.heap.get? c=some o->h'.get? c=some o:=fun c o hc q=>hk c o (fun q=>hc (by simp [q])) (fun q=>hc (by simp [q])) (fun q=>hc (by simp [q])) (fun q=>hc (by simp [q])) q;refine I.step (g':=s.gens) (d':=s.drawn) (t':=s.toks) (ch:=[z,TI,TO,i1,i2]) (fun c hc=>?_) (fun c o _ _ hc e _=>kk c o hc e) (fun c o _ _ hc e _=>⟨o.slots,kk c o hc e⟩) (fun _ _ _ _ n=>n) (fun c o hc e=>⟨o,kk c o hc e⟩) (fun _ _ e=>e) (fun _ _ _ e=>e) (fun c ps e=>⟨#[],by rw [e]; simp⟩) (fun m hm=>?_) (fun c q e=>?_) I.bare
  ·obtain ⟨f0,f1,f2,f3,f4,f5⟩:=hf c hc;exact ⟨f3,f1,f4,f5⟩
  ·obtain ⟨q,es',ep,ho,r⟩:=hm;exact ⟨q,es',ep,kk _ q (fun z=>(hf _ z).2.1 rfl) ho,r⟩
  ·refine (I.hok c q e).stay (fun d v hd q'=>kk d v ?_ q') (fun _ q=>q) fun _ _ q=>q;rcases hd with z | z
   ·subst z; exact tr _ _ e
   ·exact tr _ _ z
 self:=fun _ _ _ _ _ st h=>wv st.1 h
section
variable {X:Cx}{p pos:Pos}{es:List Expr}{kx:Nat}{J7:Pos}
def Hc (K:Za) (ta:TA):TI:=fun σ H R=>ta σ H fun vs H1=>∃a b,vs=[.ref a,.ref b]/\(((∃xs,az K H1 a xs)/\(∃ys,az K H1 b ys)/\R (IF K a b) H1)∨((∃xs,bj K H1 a xs)/\(∃ys,bj K H1 b ys)/\R (IE K a b) H1))
theorem Gs {a b:Expr}{ta:TA}(hg:Gl X "zip") (hm:X.mg "zip"=none) (ha:PA X [a,b] ta) (hs:aL [a,b] X.env=[(false,eval a X.env),(false,eval b X.env)]:=by rfl) (hs2:aL [b] X.env=[(false,eval b X.env)]:=by rfl) :
  PI X (.Tuple es kx J7) (.Call (.Name "zip" p) [a,b] [] pos) (Hc X.K ta):=by
 intro J3 s σ H R I h;refine Call_ (tF I hg hm boot_zip (By (cF (ha pos J3 s σ H _ I h) fun us s1 ⟨vs,H1,I1,r1,q1⟩=>?_) (by rw [hs,hs2]) (by rw [hs2]; rfl)));obtain ⟨l1,l2,e,q⟩:=q1;subst e;obtain ⟨u,v,rfl,ru,rv⟩:=vals2 r1;cases ru;cases rv;have fin:∀b∈[s1.heap.objs.size+4,s1.heap.objs.size+2,s1.heap.objs.size+3,s1.heap.objs.size,s1.heap.objs.size+1],nY X J3 H1 b:=fun b hb=>by
  have hb':s1.heap.objs.size<=b:=by
   simp only [c9,sr,or_false] at hb;rcases hb with rfl | rfl | rfl | rfl | rfl <;> omega
  exact I1.fpOk hb' (I1.hok.fresh hb')
 rcases q with ⟨⟨xs,hx⟩,⟨ys,hy⟩,q⟩ | ⟨⟨xs,hx⟩,⟨ys,hy⟩,q⟩
 ·obtain ⟨its,rx,px,zx⟩:=I1.list hx;obtain ⟨jts,ry,py,zy⟩:=I1.list hy;obtain ⟨o1,n1,e1,_⟩:=id px;obtain ⟨o2,n2,e2,_⟩:=id py;refine call_zip_2 px.isList py.isList fun h' a1 a2 a3 a4 a5 a6 hk=>?_;refine wv (s:={ s1 with heap:=h' }) a1 ?_;have hk':∀b o,s1.heap.get? b=some o->h'.get? b=some o:=hk;have I2:Inv X J3 σ H1 { s1 with heap:=h' }:=I1.kept (t':=s1.toks) hk';exact ⟨_,_,_,_,H1,rfl,I2,DY l1 l2 _ _ _ _ _ (zipApart_new (aY e1) (aY e2)),⟨a1,a2,⟨_,_,a3⟩,a4,a5⟩,fin,q⟩
 ·obtain ⟨its,rx,px,zx⟩:=I1.tuple hx;obtain ⟨jts,ry,py,zy⟩:=I1.tuple hy;obtain ⟨o1,e1,_⟩:=id px;obtain ⟨o2,e2,_⟩:=id py;refine Dx (xs:=its.toArray) (ys:=jts.toArray) px py fun h' a1 a2 a3 a4 a5 hk=>?_;refine wv (s:={ s1 with heap:=h' }) a1 ?_;have hk':∀b o,s1.heap.get? b=some o->h'.get? b=some o:=hk;have I2:Inv X J3 σ H1 { s1 with heap:=h' }:=I1.kept (t':=s1.toks) hk';exact ⟨_,_,_,_,H1,rfl,I2,CH l1 l2 _ _ _ _ _ (zipApart_new (aY e1) (aY e2)),⟨a1,a2,⟨_,_,a3⟩,a4,a5⟩,fin,q⟩
end
inductive DT where
 | k (a:eQ)
 | t (l:List DT)
 | s (l:List DT)
mutual
def Hh:(x y:DT)->Decidable (x=y)
 | .k a,.k b=>if h:a=b then Decidable.isTrue (by rw [h]) else Decidable.isFalse fun e=>h (by injection e)
 | .t l,.t m=>match decDTs l m with
  | Decidable.isTrue h=>Decidable.isTrue (by rw [h])
  | Decidable.isFalse h=>Decidable.isFalse fun e=>h (by injection e)
 | .s l,.s m=>match decDTs l m with
  | Decidable.isTrue h=>Decidable.isTrue (by rw [h])
  | Decidable.isFalse h=>Decidable.isFalse fun e=>h (by injection e)
 | .k _,.t _=>Decidable.isFalse nofun
 | .k _,.s _=>Decidable.isFalse nofun
 | .t _,.k _=>Decidable.isFalse nofun
 | .t _,.s _=>Decidable.isFalse nofun
 | .s _,.k _=>Decidable.isFalse nofun
 | .s _,.t _=>Decidable.isFalse nofun
def decDTs:(x y:List DT)->Decidable (x=y)
 | [],[]=>Decidable.isTrue rfl
 | [],_::_=>Decidable.isFalse nofun
 | _::_,[]=>Decidable.isFalse nofun
 | a::l,b::m=>match Hh a b with
  | Decidable.isTrue h=>match decDTs l m with
   | Decidable.isTrue h'=>Decidable.isTrue (by rw [h,h'])
   | Decidable.isFalse h'=>Decidable.isFalse fun e=>h' (by injection e)
  | Decidable.isFalse h=>Decidable.isFalse fun e=>h (by injection e)
end
instance:DecidableEq DT:=Hh
mutual
def DT.depth:DT->Nat
 | .k _=>0
 | .t l=>DT.depths l+1
 | .s l=>DT.depths l+1
def DT.depths:List DT->Nat
 | []=>0
 | a::r=>max (DT.depth a) (DT.depths r)
end
mutual
def pE (h:Heap):DT->Value->Prop
 | .k a,v=>cM a v=true
 | .t l,v=>∃a items,v=.ref a/\h.IsTuple a items/\DAts h l items.toList
 | .s l,v=>∃a items,v=.ref a/\h.IsList a items/\DAts h l items.toList
def DAts (h:Heap):List DT->List Value->Prop
 | [],vs=>vs=[]
 | k::r,vs=>∃v us,vs=v::us/\pE h k v/\DAts h r us
end
theorem DAts.length {h:Heap}:∀{xs:List DT}{vs:Zf},DAts h xs vs->xs.length=vs.length
 | [],vs,e=>by have e':vs=[]:=e; rw [e']; rfl
 | x::xs,vs,e=>by
  obtain ⟨v,us,rfl,_,h2⟩:=e;simp [DAts.length h2]
theorem DAts.get {h:Heap}:∀{xs:List DT}{vs:Zf}{i:Nat}{v:Value},DAts h xs vs->vs[i]?=some v->∃x,xs[i]?=some x/\pE h x v
 | [],vs,i,v,e,q=>by have e':vs=[]:=e; subst e'; simp at q
 | x::xs,vs,i,v,e,q=>by
  obtain ⟨u,us,rfl,h1,h2⟩:=e;cases i with
  | zero =>
   simp at q; subst q;exact ⟨x,rfl,h1⟩
  | succ i =>
   obtain ⟨y,e1,e2⟩:=DAts.get h2 (i:=i) (v:=v) (by simpa using q);exact ⟨y,by simpa using e1,e2⟩
theorem DT.depths_get {l:List DT}{x:DT}{i d:Nat}(h:DT.depths l<=d) (e:l[i]?=some x):x.depth<=d:=by
 induction l generalizing i with
 | nil=>simp at e
 | cons a r ih =>
  have h':max a.depth (DT.depths r)<=d:=h;cases i with
  | zero=>simp at e; subst e; omega
  | succ i=>exact ih (by omega) (by simpa using e)
theorem AV {h:Heap}{a:Addr}{i j:Array Value}(x:h.IsList a i) (y:h.IsList a j):i=j:=by
 obtain ⟨o,ho,_,n,hd⟩:=x;obtain ⟨o',ho',_,n',hd'⟩:=y;rw [ho] at ho'; cases ho';rw [hd] at hd'; injection hd'
theorem zk {h:Heap}{a:Addr}{i j:Array Value}(x:h.IsTuple a i) (y:h.IsTuple a j):i=j:=by
 obtain ⟨o,ho,_,n,hd⟩:=x;obtain ⟨o',ho',_,n',hd'⟩:=y;rw [ho] at ho'; cases ho';rw [hd] at hd'; injection hd'
theorem jQ {h:Heap}{a:Addr}{i j:Array Value}(x:h.IsList a i) (y:h.IsTuple a j):False:=by
 obtain ⟨o,ho,hc,_⟩:=x;obtain ⟨o',ho',hc',_⟩:=y;rw [ho] at ho'; cases ho';rw [hc] at hc'; simp at hc'
theorem vA {a b:eQ}{v:Value}(h1:cM a v=true) (h2:cM b v=true):a=b:=by
 rcases aw h1 with ⟨i,t,rfl,rfl⟩ | ⟨i,t,rfl,rfl⟩
 ·rcases aw h2 with ⟨j,u,rfl,e⟩ | ⟨j,u,rfl,e⟩
  ·cases e; rfl
  ·cases e
 ·rcases aw h2 with ⟨j,u,rfl,e⟩ | ⟨j,u,rfl,e⟩
  ·cases e
  ·cases e; rfl
theorem iA {a:eQ}{b:Addr}(h:cM a (.ref b)=true):False:=by
 rcases aw h with ⟨_,_,_,e⟩ | ⟨_,_,_,e⟩ <;> cases e
theorem pE.inj {h:Heap}:∀(d:Nat) {x y:DT}{v:Value},x.depth<=d->pE h x v->pE h y v->x=y:=by
 have key:∀(d:Nat) (ih:∀{x y:DT}{v:Value},x.depth<=d->pE h x v->pE h y v->x=y) (xs ys:List DT) (vs:Zf),DT.depths xs<=d->DAts h xs vs->DAts h ys vs->xs=ys:=by
  intro d ih xs
  induction xs with
  | nil =>
   intro ys vs _ hx hy;have hx':vs=[]:=hx;subst hx';cases ys with
   | nil=>rfl
   | cons y ys=>obtain ⟨_,_,e,_⟩:=hy; cases e
  | cons x xs ihl =>
   intro ys vs hd hx hy;obtain ⟨v,us,rfl,hx1,hx2⟩:=hx;cases ys with
   | nil=>have hy':v::us=[]:=hy; cases hy'
   | cons y ys =>
    obtain ⟨v',us',e,hy1,hy2⟩:=hy;cases e;have hd':max x.depth (DT.depths xs)<=d:=hd;rw [ih (by omega) hx1 hy1,ihl ys us (by omega) hx2 hy2]
 intro d
 induction d with
 | zero =>
  intro x y v hd hx hy;cases x with
  | t l=>exact absurd hd (by show ¬(DT.depths l+1<=0); omega)
  | s l=>exact absurd hd (by show ¬(DT.depths l+1<=0); omega)
  | k a =>
   cases y with
   | k b=>rw [vA hx hy]
   | t l=>obtain ⟨b,_,rfl,_⟩:=hy; exact (iA hx).elim
   | s l=>obtain ⟨b,_,rfl,_⟩:=hy; exact (iA hx).elim
 | succ d ih =>
  intro x y v hd hx hy;cases x with
  | k a =>
   cases y with
   | k b=>rw [vA hx hy]
   | t l=>obtain ⟨b,_,rfl,_⟩:=hy; exact (iA hx).elim
   | s l=>obtain ⟨b,_,rfl,_⟩:=hy; exact (iA hx).elim
  | t l =>
   obtain ⟨a,i,rfl,hi,hx⟩:=hx;cases y with
   | k b=>exact (iA hy).elim
   | t m =>
    obtain ⟨a',j,e,hj,hy⟩:=hy;cases e;rw [zk hj hi] at hy;rw [key d (fun h1=>ih h1) l m i.toList (by have:DT.depths l+1<=d+1:=hd; omega) hx hy]
   | s m =>
    obtain ⟨a',j,e,hj,hy⟩:=hy;cases e;exact (jQ hj hi).elim
  | s l =>
   obtain ⟨a,i,rfl,hi,hx⟩:=hx;cases y with
   | k b=>exact (iA hy).elim
   | s m =>
    obtain ⟨a',j,e,hj,hy⟩:=hy;cases e;rw [AV hj hi] at hy;rw [key d (fun h1=>ih h1) l m i.toList (by have:DT.depths l+1<=d+1:=hd; omega) hx hy]
   | t m =>
    obtain ⟨a',j,e,hj,hy⟩:=hy;cases e;exact (jQ hi hj).elim
theorem gj {l m:List DT}(hl:l.length=m.length):((jz l.length).all fun j=>decide (l[j]?=m[j]?))=decide (l=m):=by
 by_cases e:l=m
 ·subst e; simp
 ·rw [zzr0 e];rw [List.all_eq_false];apply sm;intro h;apply e;apply List.ext_getElem?;intro i;by_cases hi:i<l.length
  ·apply sm;intro hne;exact h ⟨i,List.mem_range.mpr hi,by simpa using hne⟩
  ·rw [fE (by omega),fE (by omega)]
section
variable {s:Shared}
theorem Hd:∀(d:Nat) {A:Around}{x y:DT}{u v:Value},x.depth<=d->y.depth<=d->A.units+d<cLine->pE s.heap x u->pE s.heap y v->bN A s u v (decide (x=y)):=by
 have leaves:∀{A:Around}{a b:eQ}{u v:Value},cM a u=true->cM b v=true->bN A s u v (decide (DT.k a=DT.k b)):=by
  intro A a b u v h1 h2;have hd:decide (DT.k a=DT.k b)=decide (a=b):=by
   by_cases e:a=b
   ·subst e; simp
   ·have:¬(DT.k a=DT.k b):=fun z=>e (by injection z);rw [zzr0 this,zzr0 e]
  rw [hd];rcases aw h1 with ⟨i,t,rfl,rfl⟩ | ⟨i,t,rfl,rfl⟩
  ·rcases aw h2 with ⟨j,u,rfl,rfl⟩ | ⟨j,u,rfl,rfl⟩
   ·rw [xv]; exact bN.int_int i t j u
   ·rw [xu]; exact bN.int_str i t j u
  ·rcases aw h2 with ⟨j,u,rfl,rfl⟩ | ⟨j,u,rfl,rfl⟩
   ·rw [xr]; exact bN.str_int i t j u
   ·rw [xp];have:=bN.str_str (A:=A) (s:=s) i t j u;rwa [show (i == j)=decide (i=j) from by by_cases e:i=j <;> simp [e]] at this
 have kt:∀{A:Around}{a:eQ}{u:Value}{b:Addr}{items:Array Value},A.units<cLine->cM a u=true->s.heap.IsTuple b items->bN A s u (.ref b) false/\bN A s (.ref b) u false:=by
  intro A a u b items hu h1 ht;rcases aw h1 with ⟨i,t,rfl,rfl⟩ | ⟨i,t,rfl,rfl⟩
  ·exact ⟨bN.int_tuple i t ht hu,bN.tuple_int i t ht hu⟩
  ·exact ⟨bN.str_tuple i t ht hu,bN.tuple_str i t ht hu⟩
 have kl:∀{A:Around}{a:eQ}{u:Value}{b:Addr}{items:Array Value},A.units<cLine->cM a u=true->s.heap.IsList b items->bN A s u (.ref b) false/\bN A s (.ref b) u false:=by
  intro A a u b items hu h1 ht;rcases aw h1 with ⟨i,t,rfl,rfl⟩ | ⟨i,t,rfl,rfl⟩
  ·exact ⟨bN.int_list i t ht hu,bN.list_int i t ht hu⟩
  ·exact ⟨bN.str_list i t ht hu,bN.list_str i t ht hu⟩
 intro d
 induction d with
 | zero =>
  intro A x y u v hdx hdy hu hx hy;cases x with
  | t l=>exact absurd hdx (by show ¬(DT.depths l+1<=0); omega)
  | s l=>exact absurd hdx (by show ¬(DT.depths l+1<=0); omega)
  | k a =>
   cases y with
   | t l=>exact absurd hdy (by show ¬(DT.depths l+1<=0); omega)
   | s l=>exact absurd hdy (by show ¬(DT.depths l+1<=0); omega)
   | k b=>exact leaves hx hy
 | succ d ih =>
  intro A x y u v hdx hdy hu hx hy;have items:∀{l m:List DT}{i j:Array Value},DT.depths l<=d->DT.depths m<=d->DAts s.heap l i.toList->DAts s.heap m j.toList->∀n (h1:n<i.size) (h2:n<j.size),bN A.in1 s i[n] j[n] (decide (l[n]?=m[n]?)):=by
   intro l m i j hl hm hi hj n h1 h2;obtain ⟨x,ex,hx⟩:=hi.get (i:=n) (v:=i[n]) (by simp [h1]);obtain ⟨y,ey,hy⟩:=hj.get (i:=n) (v:=j[n]) (by simp [h2]);rw [ex,ey];have hd:decide ((some x:Option DT)=some y)=decide (x=y):=by
    by_cases e:x=y
    ·subst e; simp
    ·rw [zzr0 e,zzr0 fun z=>e (fg z)]
   rw [hd];exact ih (DT.depths_get hl ex) (DT.depths_get hm ey) (by show A.units+1+d<cLine; omega) hx hy
  cases x with
  | k a =>
   cases y with
   | k b=>exact leaves hx hy
   | t l =>
    obtain ⟨b,i,rfl,hi,_⟩:=hy;rw [zzr0 (by intro z; cases z)];exact (kt (by omega) hx hi).1
   | s l =>
    obtain ⟨b,i,rfl,hi,_⟩:=hy;rw [zzr0 (by intro z; cases z)];exact (kl (by omega) hx hi).1
  | t l =>
   have hl:DT.depths l<=d:=by have:DT.depths l+1<=d+1:=hdx; omega
   have hx0:=hx;obtain ⟨a,i,rfl,hi,hx⟩:=hx;cases y with
   | k b =>
    rw [zzr0 (by intro z; cases z)];exact (kt (by omega) hy hi).2
   | s m =>
    obtain ⟨b,j,rfl,hj,_⟩:=hy;rw [zzr0 (by intro z; cases z)];exact bN.tuple_list hi hj (by omega)
   | t m =>
    have hm:DT.depths m<=d:=by have:DT.depths m+1<=d+1:=hdy; omega
    have hy0:=hy;obtain ⟨b,j,rfl,hj,hy⟩:=hy;by_cases hab:a=b
    ·subst hab;have e:DT.t l=DT.t m:=pE.inj _ (aE _) hx0 hy0;rw [zzr1 e];exact bN.same _
    ·have r:=SeqAt.RcAt.tuples (A:=A) hi hj (by omega) (items hl hm hx hy);have li:=hx.length;have lj:=hy.length;simp only [mM] at li lj;have q:((jz (min i.size j.size)).all (fun n=>decide (l[n]?=m[n]?)) && i.size == j.size)=decide (DT.t l=DT.t m):=by
      by_cases e:l.length=m.length
      ·have e1:i.size=j.size:=by omega
       rw [<-e1,Nat.min_self,<-li,gj e];by_cases e2:l=m
       ·subst e2; simp
       ·have:¬(DT.t l=DT.t m):=fun z=>e2 (by injection z);rw [zzr0 this,zzr0 e2]; rfl
      ·have e1:(i.size == j.size)=false:=by simp; omega
       have:¬(DT.t l=DT.t m):=fun z=>e (by injection z with z; rw [z]);rw [e1,zzr0 this,wA]
     rw [q] at r;exact .of_refs hab r
  | s l =>
   have hl:DT.depths l<=d:=by have:DT.depths l+1<=d+1:=hdx; omega
   have hx0:=hx;obtain ⟨a,i,rfl,hi,hx⟩:=hx;cases y with
   | k b =>
    rw [zzr0 (by intro z; cases z)];exact (kl (by omega) hy hi).2
   | t m =>
    obtain ⟨b,j,rfl,hj,_⟩:=hy;rw [zzr0 (by intro z; cases z)];exact bN.list_tuple hi hj (by omega)
   | s m =>
    have hm:DT.depths m<=d:=by have:DT.depths m+1<=d+1:=hdy; omega
    have hy0:=hy;obtain ⟨b,j,rfl,hj,hy⟩:=hy;by_cases hab:a=b
    ·subst hab;have e:DT.s l=DT.s m:=pE.inj _ (aE _) hx0 hy0;rw [zzr1 e];exact bN.same _
    ·have li:=hx.length;have lj:=hy.length;simp only [mM] at li lj;by_cases e:l.length=m.length
     ·have r:=SeqAt.RcAt.lists (A:=A) hi hj (by omega) (by omega) (items hl hm hx hy);rw [<-li,gj e] at r;have q:decide (l=m)=decide (DT.s l=DT.s m):=by
       by_cases e2:l=m
       ·subst e2; simp
       ·have:¬(DT.s l=DT.s m):=fun z=>e2 (by injection z);rw [zzr0 this,zzr0 e2]
      rw [q] at r;exact .of_refs hab r
     ·have:¬(DT.s l=DT.s m):=fun z=>e (by injection z with z; rw [z]);rw [zzr0 this];exact .of_refs hab (SeqAt.RcAt.lists_lengths hi hj (by simp; omega) (by omega))
end
theorem Co (a b:eQ):decide (DT.k a=DT.k b)=decide (a=b):=by
 by_cases e:a=b
 ·subst e; simp
 ·rw [zzr0 e,zzr0 fun z=>e (by injection z)]
theorem He (l m:List DT):decide (DT.t l=DT.t m)=decide (l=m):=by
 by_cases e:l=m
 ·subst e; simp
 ·rw [zzr0 e,zzr0 fun z=>e (by injection z)]
theorem Hf (l m:List DT):decide (DT.s l=DT.s m)=decide (l=m):=by
 by_cases e:l=m
 ·subst e; simp
 ·rw [zzr0 e,zzr0 fun z=>e (by injection z)]
theorem Fo (x y:DT):decide ((some x:Option DT)=some y)=decide (x=y):=by
 by_cases e:x=y
 ·subst e; simp
 ·rw [zzr0 e,zzr0 fun z=>e (fg z)]
section
variable {A:Around}{s:Shared}
theorem pd {d:Nat}(hu:A.units+1+d<cLine) {l m:List DT}{i j:Array Value}(hl:DT.depths l<=d) (hm:DT.depths m<=d) (hi:DAts s.heap l i.toList) (hj:DAts s.heap m j.toList) :
  ∀n (h1:n<i.size) (h2:n<j.size),bN A.in1 s i[n] j[n] (decide (l[n]?=m[n]?)):=by
 intro n h1 h2;obtain ⟨x,ex,hx⟩:=hi.get (i:=n) (v:=i[n]) (by simp [h1]);obtain ⟨y,ey,hy⟩:=hj.get (i:=n) (v:=j[n]) (by simp [h2]);rw [ex,ey,Fo];exact Hd d (DT.depths_get hl ex) (DT.depths_get hm ey) hu hx hy
theorem BF {l m:List DT}{i j:Array Value}(hi:DAts s.heap l i.toList) (hj:DAts s.heap m j.toList):((jz (min i.size j.size)).all (fun n=>decide (l[n]?=m[n]?)) && i.size == j.size)=decide (l=m):=by
 have li:=hi.length;have lj:=hj.length;simp only [mM] at li lj;by_cases e:l.length=m.length
 ·have e1:i.size=j.size:=by omega
  rw [<-e1,Nat.min_self,<-li,gj e];simp
 ·have e1:(i.size == j.size)=false:=by simp; omega
  rw [e1,zzr0 fun z=>e (by rw [z]),wA]
theorem Iy {x y:DT}{u v:Value}(dx:x.depth<=8) (dy:y.depth<=8) (hu:A.units+16<cLine) (hx:pE s.heap x u) (hy:pE s.heap y v):SeqAt.RcAt A s u v (decide (x=y)):=by
 cases x with
 | k a =>
  rcases aw (show cM a u=true from hx) with ⟨i,t,rfl,rfl⟩ | ⟨i,t,rfl,rfl⟩
  ·cases y with
   | k b =>
    rw [Co];rcases aw (show cM b v=true from hy) with ⟨j,t',rfl,rfl⟩ | ⟨j,t',rfl,rfl⟩
    ·rw [xv]; exact SeqAt.RcAt.int_int i t j t'
    ·rw [xu]; exact SeqAt.RcAt.int_str i t j t'
   | t m=>obtain ⟨b,j,rfl,hj,_⟩:=hy; rw [zzr0 (by intro z; cases z)]; exact SeqAt.RcAt.int_tuple i t hj (by omega)
   | s m=>obtain ⟨b,j,rfl,hj,_⟩:=hy; rw [zzr0 (by intro z; cases z)]; exact SeqAt.RcAt.int_list i t hj (by omega)
  ·cases y with
   | k b =>
    rw [Co];rcases aw (show cM b v=true from hy) with ⟨j,t',rfl,rfl⟩ | ⟨j,t',rfl,rfl⟩
    ·rw [xr]; exact SeqAt.RcAt.str_int i t j t'
    ·rw [xp];have:=SeqAt.RcAt.str_str (A:=A) (s:=s) i t j t';rwa [show (i == j)=decide (i=j) from by by_cases e:i=j <;> simp [e]] at this
   | t m=>obtain ⟨b,j,rfl,hj,_⟩:=hy; rw [zzr0 (by intro z; cases z)]; exact SeqAt.RcAt.str_tuple i t hj (by omega)
   | s m=>obtain ⟨b,j,rfl,hj,_⟩:=hy; rw [zzr0 (by intro z; cases z)]; exact SeqAt.RcAt.str_list i t hj (by omega)
 | t l =>
  obtain ⟨a,i,rfl,hi,hx⟩:=hx;have dl:DT.depths l<=7:=by have:DT.depths l+1<=8:=dx; omega
  cases y with
  | k b =>
   rw [zzr0 (by intro z; cases z)];rcases aw (show cM b v=true from hy) with ⟨j,t',rfl,rfl⟩ | ⟨j,t',rfl,rfl⟩
   ·exact SeqAt.RcAt.tuple_int j t' hi (by omega)
   ·exact SeqAt.RcAt.tuple_str j t' hi (by omega)
  | t m =>
   obtain ⟨b,j,rfl,hj,hy⟩:=hy;have dm:DT.depths m<=7:=by have:DT.depths m+1<=8:=dy; omega
   have r:=SeqAt.RcAt.tuples (A:=A) hi hj (by omega) (pd (by omega) dl dm hx hy);rw [BF hx hy] at r;rw [He]; exact r
  | s m=>obtain ⟨b,j,rfl,hj,_⟩:=hy; rw [zzr0 (by intro z; cases z)]; exact SeqAt.RcAt.tuple_list hi hj (by omega)
 | s l =>
  obtain ⟨a,i,rfl,hi,hx⟩:=hx;have dl:DT.depths l<=7:=by have:DT.depths l+1<=8:=dx; omega
  cases y with
  | k b =>
   rw [zzr0 (by intro z; cases z)];rcases aw (show cM b v=true from hy) with ⟨j,t',rfl,rfl⟩ | ⟨j,t',rfl,rfl⟩
   ·exact SeqAt.RcAt.list_int j t' hi (by omega)
   ·exact SeqAt.RcAt.list_str j t' hi (by omega)
  | t m=>obtain ⟨b,j,rfl,hj,_⟩:=hy; rw [zzr0 (by intro z; cases z)]; exact SeqAt.RcAt.list_tuple hi hj (by omega)
  | s m =>
   obtain ⟨b,j,rfl,hj,hy⟩:=hy;have dm:DT.depths m<=7:=by have:DT.depths m+1<=8:=dy; omega
   have li:=hx.length;have lj:=hy.length;simp only [mM] at li lj;rw [Hf];by_cases e:l.length=m.length
   ·have r:=SeqAt.RcAt.lists (A:=A) hi hj (by omega) (by omega) (pd (by omega) dl dm hx hy);rw [<-li,gj e] at r;exact r
   ·rw [zzr0 fun z=>e (by rw [z])];exact SeqAt.RcAt.lists_lengths hi hj (by simp; omega) (by omega)
theorem Iz {x y:DT}{u v:Value}(dx:x.depth<=8) (dy:y.depth<=8) (hu:A.units+16<cLine) (hx:pE s.heap x u) (hy:pE s.heap y v):SeqAt.RcNeAt A s u v (!decide (x=y)):=by
 cases x with
 | k a =>
  rcases aw (show cM a u=true from hx) with ⟨i,t,rfl,rfl⟩ | ⟨i,t,rfl,rfl⟩
  ·cases y with
   | k b =>
    rw [Co];rcases aw (show cM b v=true from hy) with ⟨j,t',rfl,rfl⟩ | ⟨j,t',rfl,rfl⟩
    ·rw [xv]; exact SeqAt.RcNeAt.int_int i t j t'
    ·rw [xu]; exact SeqAt.RcNeAt.int_str i t j t'
   | t m=>obtain ⟨b,j,rfl,hj,_⟩:=hy; rw [zzr0 (by intro z; cases z)]; exact SeqAt.RcNeAt.int_tuple i t hj (by omega)
   | s m=>obtain ⟨b,j,rfl,hj,_⟩:=hy; rw [zzr0 (by intro z; cases z)]; exact SeqAt.RcNeAt.int_list i t hj (by omega)
  ·cases y with
   | k b =>
    rw [Co];rcases aw (show cM b v=true from hy) with ⟨j,t',rfl,rfl⟩ | ⟨j,t',rfl,rfl⟩
    ·rw [xr]; exact SeqAt.RcNeAt.str_int i t j t'
    ·rw [xp];have:=SeqAt.RcNeAt.str_str (A:=A) (s:=s) i t j t';rwa [show (i == j)=decide (i=j) from by by_cases e:i=j <;> simp [e]] at this
   | t m=>obtain ⟨b,j,rfl,hj,_⟩:=hy; rw [zzr0 (by intro z; cases z)]; exact SeqAt.RcNeAt.str_tuple i t hj (by omega)
   | s m=>obtain ⟨b,j,rfl,hj,_⟩:=hy; rw [zzr0 (by intro z; cases z)]; exact SeqAt.RcNeAt.str_list i t hj (by omega)
 | t l =>
  obtain ⟨a,i,rfl,hi,hx⟩:=hx;have dl:DT.depths l<=7:=by have:DT.depths l+1<=8:=dx; omega
  cases y with
  | k b =>
   rw [zzr0 (by intro z; cases z)];rcases aw (show cM b v=true from hy) with ⟨j,t',rfl,rfl⟩ | ⟨j,t',rfl,rfl⟩
   ·exact SeqAt.RcNeAt.tuple_int j t' hi (by omega)
   ·exact SeqAt.RcNeAt.tuple_str j t' hi (by omega)
  | t m =>
   obtain ⟨b,j,rfl,hj,hy⟩:=hy;have dm:DT.depths m<=7:=by have:DT.depths m+1<=8:=dy; omega
   have r:=SeqAt.RcNeAt.tuples (A:=A) hi hj (by omega) (pd (by omega) dl dm hx hy);rw [BF hx hy] at r;rw [He]; exact r
  | s m=>obtain ⟨b,j,rfl,hj,_⟩:=hy; rw [zzr0 (by intro z; cases z)]; exact SeqAt.RcNeAt.tuple_list hi hj (by omega)
 | s l =>
  obtain ⟨a,i,rfl,hi,hx⟩:=hx;have dl:DT.depths l<=7:=by have:DT.depths l+1<=8:=dx; omega
  cases y with
  | k b =>
   rw [zzr0 (by intro z; cases z)];rcases aw (show cM b v=true from hy) with ⟨j,t',rfl,rfl⟩ | ⟨j,t',rfl,rfl⟩
   ·exact SeqAt.RcNeAt.list_int j t' hi (by omega)
   ·exact SeqAt.RcNeAt.list_str j t' hi (by omega)
  | t m=>obtain ⟨b,j,rfl,hj,_⟩:=hy; rw [zzr0 (by intro z; cases z)]; exact SeqAt.RcNeAt.list_tuple hi hj (by omega)
  | s m =>
   obtain ⟨b,j,rfl,hj,hy⟩:=hy;have dm:DT.depths m<=7:=by have:DT.depths m+1<=8:=dy; omega
   have li:=hx.length;have lj:=hy.length;simp only [mM] at li lj;rw [Hf];by_cases e:l.length=m.length
   ·have r:=SeqAt.RcNeAt.lists (A:=A) hi hj (by omega) (by omega) (pd (by omega) dl dm hx hy);rw [<-li,gj e] at r;exact r
   ·rw [zzr0 fun z=>e (by rw [z])];exact SeqAt.RcNeAt.lists_lengths hi hj (by simp; omega) (by omega)
end
mutual
def jc (K:Za) (H:Hp):DT->V->Prop
 | .k a,v=>v=kV a
 | .t l,v=>∃b xs,v=.ref b/\bj K H b xs/\DIns K H l xs
 | .s l,v=>∃b xs,v=.ref b/\az K H b xs/\DIns K H l xs
def DIns (K:Za) (H:Hp):List DT->List V->Prop
 | [],vs=>vs=[]
 | k::r,vs=>∃v us,vs=v::us/\jc K H k v/\DIns K H r us
end
section
variable {X:Cx}{J3:Zd}{σ:St}{H:Hp}{s:Shared}
theorem lK (I:Inv X J3 σ H s):∀(d:Nat) {k:DT}{v:V}{u:Value},k.depth<=d->jc X.K H k v->RelV v u->pE s.heap k u:=by
 have key:∀(d:Nat) (ih:∀{k:DT}{v:V}{u:Value},k.depth<=d->jc X.K H k v->RelV v u->pE s.heap k u) (ks:List DT) (vs:List V) (us:Zf),DT.depths ks<=d->DIns X.K H ks vs->a_ vs us->DAts s.heap ks us:=by
  intro d ih ks
  induction ks with
  | nil =>
   intro vs us _ hx r;have e:vs=[]:=hx;subst e;cases r
   rfl
  | cons k ks ihl =>
   intro vs us hd hx r;obtain ⟨v,vs',rfl,h1,h2⟩:=hx;cases r with
   | @cons _ u _ us' r1 r2 =>
    have hd':max k.depth (DT.depths ks)<=d:=hd;exact ⟨u,us',rfl,ih (by omega) h1 r1,ihl vs' us' (by omega) h2 r2⟩
 intro d
 induction d with
 | zero =>
  intro k v u hd hx r;cases k with
  | t l=>exact absurd hd (by show ¬(DT.depths l+1<=0); omega)
  | s l=>exact absurd hd (by show ¬(DT.depths l+1<=0); omega)
  | k b =>
   have e:v=kV b:=hx;subst e;exact jP (P:=X.prog) (w:=X.w) r
 | succ d ih =>
  intro k v u hd hx r;cases k with
  | k b =>
   have e:v=kV b:=hx;subst e;exact jP (P:=X.prog) (w:=X.w) r
  | t l =>
   obtain ⟨b,xs,rfl,hb,hi⟩:=hx;cases (show u=Value.ref b from r);obtain ⟨its,rv,ht,_⟩:=I.tuple hb;exact ⟨b,its.toArray,rfl,ht,by simpa using key d (fun h1=>ih h1) l xs its (by have:DT.depths l+1<=d+1:=hd; omega) hi rv⟩
  | s l =>
   obtain ⟨b,xs,rfl,hb,hi⟩:=hx;cases (show u=Value.ref b from r);obtain ⟨its,rv,ht,_⟩:=I.list hb;exact ⟨b,its.toArray,rfl,ht.isList,by simpa using key d (fun h1=>ih h1) l xs its (by have:DT.depths l+1<=d+1:=hd; omega) hi rv⟩
theorem ml (I:Inv X J3 σ H s):∀{ks:List DT}{vs:List V}{us:Zf},DT.depths ks<=8->DIns X.K H ks vs->a_ vs us->DAts s.heap ks us
 | [],vs,us,_,hx,r=>by
  have e:vs=[]:=hx;subst e;cases r
  rfl
 | k::ks,vs,us,hd,hx,r=>by
  obtain ⟨v,vs',rfl,h1,h2⟩:=hx;cases r with
  | @cons _ u _ us' r1 r2 =>
   have hd':max k.depth (DT.depths ks)<=8:=hd;exact ⟨u,us',rfl,lK I 8 (by omega) h1 r1,ml I (by omega) h2 r2⟩
end
def jn (K:Za):R2:=fun x y H Q=>∃d e:DT,jc K H d x/\jc K H e y/\d.depth<=8/\e.depth<=8/\Q (.bl (decide (d=e))) H
def p9 (K:Za):R2:=fun x y H Q=>∃d e:DT,jc K H d x/\jc K H e y/\d.depth<=8/\e.depth<=8/\Q (.bl (!decide (d=e))) H
section
variable {X:Cx}
theorem gJ (hu:X.A.units+16<cLine):oj X (eD .Eq) (jn X.K):=by
 intro J3 s σ H x y v u Q I rx ry h;obtain ⟨d,e,hx,hy,dx,dy,q⟩:=h;exact Iy dx dy hu (lK I 8 dx hx rx) (lK I 8 dy hy ry) X.prog X.w X.xe _ ⟨.bl _,H,I,rfl,q⟩
theorem nL (hu:X.A.units+16<cLine):oj X (eD .NotEq) (p9 X.K):=by
 intro J3 s σ H x y v u Q I rx ry h;obtain ⟨d,e,hx,hy,dx,dy,q⟩:=h;exact Iz dx dy hu (lK I 8 dx hx rx) (lK I 8 dy hy ry) X.prog X.w X.xe _ ⟨.bl _,H,I,rfl,q⟩
def oW (K:Za) (neg:Bool):R2:=fun x y H Q=>∃(d:DT) (ds:List DT) (p:Addr) (xs:List V),jc K H d x/\y=.ref p/\(az K H p xs∨bj K H p xs)/\DIns K H ds xs/\d.depth<=8/\DT.depths ds<=8/\Q (.bl (if neg then !decide (d∈ds) else decide (d∈ds))) H
open Classical in
theorem pk {h:Heap}{d:DT}(d8:d.depth<=8):∀{ds:List DT}{us:Zf},DAts h ds us->DT.depths ds<=8->us.any (fun u=>@decide (pE h d u) (propDecidable _))=decide (d∈ds)
 | [],us,e,_=>by
  have e':us=[]:=e;subst e'
  rfl
 | x::ds,us,e,hd=>by
  obtain ⟨u,us',rfl,h1,h2⟩:=e;have hd':max x.depth (DT.depths ds)<=8:=hd;rw [nh,pk d8 h2 (by omega)];by_cases q:d=x
  ·subst q;simp [h1]
  ·have n:¬pE h d u:=fun z=>q (pE.inj 8 d8 z h1);simp [n,q]
open Classical in
theorem qe {A:Around}{s:Shared}{d:DT}{v:Value}(d8:d.depth<=8) (hu:A.units+8<cLine) (hd:pE s.heap d v):∀{ds:List DT}{us:Zf},DAts s.heap ds us->DT.depths ds<=8->∀u∈us,bN A s u v (@decide (pE s.heap d u) (propDecidable _))
 | [],us,e,_,u,hm=>by
  have e':us=[]:=e;subst e';cases hm
 | x::ds,us,e,h8,u,hm=>by
  obtain ⟨u',us',rfl,h1,h2⟩:=e;have h8':max x.depth (DT.depths ds)<=8:=h8;rcases c9.mp hm with rfl | hm
  ·have q:=Hd 8 (A:=A) (by omega) d8 hu h1 hd;by_cases z:x=d
   ·subst z;rw [zzr1 h1];rwa [zzr1 rfl] at q
   ·have n:¬pE s.heap d u:=fun w=>z (pE.inj 8 d8 w h1).symm;rw [zzr0 n];rwa [zzr0 z] at q
  ·exact qe d8 hu hd h2 (by omega) u hm
theorem xf (hu:X.A.units+16<cLine):oj X (eD .In) (oW X.K false):=by
 intro J3 s σ H x y v u Q I rx ry h;obtain ⟨d,ds,p,xs,hx,rfl,hq,hds,d8,ds8,q⟩:=h;cases ry;have hd:=lK I 8 d8 hx rx;have hu':X.A.in1.units+8<cLine:=by show X.A.units+1+8<cLine; omega
 rcases hq with hq | hq
 ·obtain ⟨its,r,pl,hz⟩:=I.list hq;have hi:=ml I ds8 hds r;refine SeqAt.in_listAt _ pl.isList (fun w hw=>qe d8 hu' hd hi ds8 w (by simpa using hw)) ⟨.bl _,H,I,rfl,?_⟩;rw [wm,pk d8 hi ds8];exact q
 ·obtain ⟨its,r,pl,hz⟩:=I.tuple hq;have hi:=ml I ds8 hds r;refine SeqAt.in_tupleAt _ pl (fun w hw=>qe d8 hu' hd hi ds8 w (by simpa using hw)) ⟨.bl _,H,I,rfl,?_⟩;rw [wm,pk d8 hi ds8];exact q
theorem l9 (hu:X.A.units+16<cLine):oj X (eD .NotIn) (oW X.K true):=by
 intro J3 s σ H x y v u Q I rx ry h;obtain ⟨d,ds,p,xs,hx,rfl,hq,hds,d8,ds8,q⟩:=h;cases ry;have hd:=lK I 8 d8 hx rx;have hu':X.A.in1.units+8<cLine:=by show X.A.units+1+8<cLine; omega
 rcases hq with hq | hq
 ·obtain ⟨its,r,pl,hz⟩:=I.list hq;have hi:=ml I ds8 hds r;refine SeqAt.notIn_listAt _ pl.isList (fun w hw=>qe d8 hu' hd hi ds8 w (by simpa using hw)) ⟨.bl _,H,I,rfl,?_⟩;rw [wm,pk d8 hi ds8];exact q
 ·obtain ⟨its,r,pl,hz⟩:=I.tuple hq;have hi:=ml I ds8 hds r;refine SeqAt.notIn_tupleAt _ pl (fun w hw=>qe d8 hu' hd hi ds8 w (by simpa using hw)) ⟨.bl _,H,I,rfl,?_⟩;rw [wm,pk d8 hi ds8];exact q
end
def tR (z:Str) (lo hi:Option Int):Str:=⟨((z.cps.toList.drop (HT.sIx z.length 0 lo)).take (HT.sIx z.length z.length hi-HT.sIx z.length 0 lo)).toArray⟩
theorem sliceRange_one (a b:Nat):sliceRange (a:Int) (b:Int) 1=(jz (b-a)).map (fun k=>a+k):=by
 unfold sliceRange;simp only [show (1:Int) > 0 from by decide,if_true];by_cases h:(a:Int)<(b:Int)
 ·have e:(if (a:Int)<(b:Int) then ((b:Int)-a+1-1) / 1 else 0).toNat=b-a:=by rw [if_pos h]; omega
  rw [e];exact List.map_congr_left fun k _=>by omega
 ·have e:(if (a:Int)<(b:Int) then ((b:Int)-a+1-1) / 1 else 0).toNat=b-a:=by rw [if_neg h]; omega
  rw [e];exact List.map_congr_left fun k _=>by omega
theorem zI (v:Option Int) (n d:Nat):(match v with | none=>(d:Int) | some i=>max 0 (min (if i<0 then i+(n:Int) else i) (n:Int)))=((HT.sIx n d v:Nat):Int):=by
 cases v with
 | none=>rfl
 | some i =>
  rw [<-HT.clip_eq i n d];dsimp only;by_cases h:i<0
  ·rw [if_pos h,if_pos h]; omega
  ·rw [if_neg h,if_neg h]; omega
theorem oN (lo hi:Option Int) (n:Nat):sj lo hi 1 n=(jz (HT.sIx n n hi-HT.sIx n 0 lo)).map (fun k=>HT.sIx n 0 lo+k):=by
 have e1:=zI lo n 0;have e2:=zI hi n n;rw [<-sliceRange_one,<-e1,<-e2];unfold sj;simp only [show (1:Int) > 0 from by decide,if_true];cases lo <;> cases hi <;> rfl
theorem CT (z:Str) (lo hi:Option Int):Txt.slice z lo hi=tR z lo hi:=by
 have ha:HT.sIx z.length 0 lo<=z.length:=HT.sIx_le _ _ (cV _) _;have hb:HT.sIx z.length z.length hi<=z.length:=HT.sIx_le _ _ (aE _) _;have hlen:z.cps.toList.length=z.length:=by simp [Str.length]
 have pick:(sj lo hi 1 z.length).filterMap (z.cps[·]?)=(z.cps.toList.drop (HT.sIx z.length 0 lo)).take (HT.sIx z.length z.length hi-HT.sIx z.length 0 lo):=by
  rw [oN];generalize HT.sIx z.length 0 lo=a at *;generalize HT.sIx z.length z.length hi=b at *;have h:=StrLaws.picks z.cps.toList (b-a) a (by omega);simpa using h
 unfold Txt.slice;by_cases h:((1:Int) == 1 && (sj lo hi 1 z.length).length == z.length)=true
 ·rw [if_pos h];have hl:(sj lo hi 1 z.length).length=z.length:=by simpa using h
  rw [oN,ai,si] at hl;unfold tR;have a0:HT.sIx z.length 0 lo=0:=by omega
  have bn:HT.sIx z.length z.length hi-HT.sIx z.length 0 lo=z.cps.toList.length:=by omega
  rw [bn,a0,j1,bh]
 ·rw [if_neg h];unfold tR;rw [pick]
section
variable {X:Cx}
def Gp:V->Option Int->Option Int->Hp->VK->Prop:=fun x lo hi H Q=>∃z,x=.str z/\z.length<=aj/\Q (.str (tR z lo hi)) H
theorem Ap:SlR X Gp:=by
 intro J3 s σ H x v vl vu lo hi sl Q I rx hs pl pu h;obtain ⟨z,rfl,hz,q⟩:=h;obtain ⟨t,rfl⟩:=rx;rw [<-CT] at q;refine ⟨"str",_,F.slot_str_getitem.lookup,typeIs_str _ _ _,?_⟩;obtain ⟨o,ho,hc,hd⟩:=hs;have fin:∀(l u:Option (Int×Tok)),vl=partValue l->vu=partValue u->lo=l.map (·.1)->hi=u.map (·.1)->wpAny (model X.prog X.w) X.A (ny (.str z t) (.ref sl)) (EP X J3 σ Q) X.xe s:=by
  rintro l u rfl rfl rfl rfl;refine wpAny_getItem_str_slice (l:=l) (u:=u) (st:=none) ⟨o,ho,hc,hd⟩ rfl (post_val_or_str ⟨bv (Txt.slice_le z _ _) hz,fun t' k=>⟨.str _,H,I.tok _,⟨_,rfl⟩,q⟩⟩)
 cases pl with
 | none =>
  cases pu with
  | none=>exact fin none none rfl rfl rfl rfl
  | int j u=>exact fin none (some (j,u)) rfl rfl rfl rfl
 | int i t' =>
  cases pu with
  | none=>exact fin (some (i,t')) none rfl rfl rfl rfl
  | int j u=>exact fin (some (i,t')) (some (j,u)) rfl rfl rfl rfl
def G_ (K:Za):V->List V->Hp->VK->Prop:=fun x vs H Q=>∃z p ys,x=.str z/\vs=[.ref p]/\az K H p (ys.map V.str)/\(ys.map (·.length)).sum+ys.length * z.length<=16777216/\Q (.str (wk z ys)) H
theorem FX {ys:Zb}:∀{us:Zf},a_ (ys.map V.str) us->StrsAre us ys:=by
 induction ys with
 | nil=>intro us r; cases r; exact .nil
 | cons y ys ih =>
  intro us r;cases r with
  | cons r1 r2 =>
   obtain ⟨t,rfl⟩:=r1;exact .cons _ _ (ih r2)
theorem GC:Hj X "str.join" (G_ X.K):=by
 intro J3 s σ H x vs v us Q I rx rv h;obtain ⟨z,p,ys,rfl,rfl,hq,hz,q⟩:=h;obtain ⟨t,rfl⟩:=rx;obtain ⟨u,rfl,ru⟩:=rv.one;cases ru;obtain ⟨its,r,pl,_⟩:=I.list hq;exact join_list pl.isList (by simpa using FX r) hz fun t' k=>⟨.str _,H,I.tok _,⟨_,rfl⟩,q⟩
end
section
variable {X:Cx}
theorem Fw {bs:List Bool}{us:Zf}(r:a_ (bs.map V.bl) us) {i:Nat}{v:Value}(h:us[i]?=some v):v=.bool ((bs[i]?).getD false)/\i<bs.length:=by
 have hi:i<us.length:=(bP.mp h).1;have hl:=r.length;rw [ai] at hl;have hb:i<bs.length:=by omega
 obtain ⟨u,hu,ru⟩:=r.get (i:=i) (x:=V.bl bs[i]) (by simp [hb]);rw [h] at hu;cases hu;refine ⟨?_,hb⟩;rw [bE hb];exact ru
theorem xO (bs:List Bool):((jz bs.length).all fun i=>(bs[i]?).getD false)=bs.all id:=by
 induction bs with
 | nil=>rfl
 | cons b bs ih =>
  rw [em,List.range_succ_eq_map,List.all_cons,List.all_map,List.all_cons,<-ih]
  rfl
theorem xN (bs:List Bool):((jz bs.length).any fun i=>(bs[i]?).getD false)=bs.any id:=by
 induction bs with
 | nil=>rfl
 | cons b bs ih =>
  rw [em,List.range_succ_eq_map,nh,List.any_map,nh,<-ih]
  rfl
theorem qY (hc:X.calm=true):gE X (.builtin "all") (fun xs H Q=>∃(p:Addr) (bs:List Bool),xs=[.ref p]/\az X.K H p (bs.map V.bl)/\Q (.bl (bs.all id)) H):=by
 intro J3 s σ H xs us Q I r h;obtain ⟨p,bs,rfl,hq,q⟩:=h;obtain ⟨u,rfl,ru⟩:=vals1 r;cases ru;obtain ⟨its,rv,pl,hz⟩:=I.list hq;obtain ⟨o,n,ho,_⟩:=id pl;have hl:=rv.length;rw [ai] at hl;refine call_all_walk (yf pl.isList ?_);refine ⟨s.heap.objs.size,_,_,_,_,_,fun i=>(bs[i]?).getD false,rfl,Walks.list (prog:=X.prog) (w:=X.w) (A:=X.A.in1) (I.ok.hd hc) s.heap.objs.size p (c_ (aY ho)) its.toArray,⟨⟨_,cL _ rfl,rfl,rfl⟩,pl.isList.push _⟩,?_,?_⟩
 ·intro i v s' Q' E' hv hq';obtain ⟨e,_⟩:=Fw rv (i:=i) (v:=v) (by simpa using hv);rw [e];exact sn hq'
 ·intro h' tk hk;have I':Inv X J3 σ H { s with heap:=h',toks:=tk }:=I.kept fun b o e=>hk b o (by simp; exact c_ (aY e)) (bu _ e);rw [bI,<-hl,xO];exact ⟨.bl _,H,I',rfl,q⟩
theorem zK (hc:X.calm=true):gE X (.builtin "any") (fun xs H Q=>∃(p:Addr) (bs:List Bool),xs=[.ref p]/\az X.K H p (bs.map V.bl)/\Q (.bl (bs.any id)) H):=by
 intro J3 s σ H xs us Q I r h;obtain ⟨p,bs,rfl,hq,q⟩:=h;obtain ⟨u,rfl,ru⟩:=vals1 r;cases ru;obtain ⟨its,rv,pl,hz⟩:=I.list hq;obtain ⟨o,n,ho,_⟩:=id pl;have hl:=rv.length;rw [ai] at hl;refine call_any_walk (yf pl.isList ?_);refine ⟨s.heap.objs.size,_,_,_,_,_,fun i=>(bs[i]?).getD false,rfl,Walks.list (prog:=X.prog) (w:=X.w) (A:=X.A.in1) (I.ok.hd hc) s.heap.objs.size p (c_ (aY ho)) its.toArray,⟨⟨_,cL _ rfl,rfl,rfl⟩,pl.isList.push _⟩,?_,?_⟩
 ·intro i v s' Q' E' hv hq';obtain ⟨e,_⟩:=Fw rv (i:=i) (v:=v) (by simpa using hv);rw [e];exact sn hq'
 ·intro h' tk hk;have I':Inv X J3 σ H { s with heap:=h',toks:=tk }:=I.kept fun b o e=>hk b o (by simp; exact c_ (aY e)) (bu _ e);rw [bI,<-hl,xN];exact ⟨.bl _,H,I',rfl,q⟩
theorem AF:oj X (eD .In) (fun x y H Q=>∃c j,x=.str ⟨#[c]⟩/\y=.str j/\Q (.bl (decide (c∈j.cps.toList))) H):=by
 intro J3 s σ H x y v u Q I rx ry h;obtain ⟨c,j,rfl,rfl,q⟩:=h;rw [<-StrLaws.found_one] at q;exact C6 J3 s σ H _ _ v u Q I rx ry ⟨_,_,rfl,rfl,q⟩
theorem tW (hc:X.calm=true):gE X (.type "list") (fun xs H Q=>∃(d:Addr) (kvs:List (eQ×V)),xs=[.ref d]/\Rd H d (.dK kvs)/\∀l,H l=none->Q (.ref l) (upd H l (.lst (kvs.map fun kv=>kV kv.1)))):=by
 intro J3 s σ H xs us Q I r h;obtain ⟨d,kvs,rfl,hd,q⟩:=h;obtain ⟨u,rfl,ru⟩:=vals1 r;cases ru;obtain ⟨z,hsys,vs,rel,dd⟩:=pe I.hok hd;obtain ⟨ep,hat⟩:=dd.dictAt;have hl:=rel.length;refine PySem.W.kdl_call (PySem.W.kdl_dict (knd:=bY X.prog X.w) (kvs:=vs) (ep:=ep) hsys) (I.ok.hd hc) hat (by rw [<-hl]; exact z) fun h' tk acc c hk hD hacc=>?_;have hv:a_ (kvs.map fun kv=>kV kv.1) acc.toList:=by
  obtain ⟨hn,hP⟩:=hacc;have key:∀(a:Zf) (ks:List (eQ×V)) (ws:List (eQ×Value)),KV ks ws->a.length=ws.length->(∀(j:Nat) (v:Value),a[j]?=some v->∃k x,ws[j]?=some (k,x)/\(bY X.prog X.w).is k v=true)->a_ (ks.map fun kv=>kV kv.1) a:=by
   intro a ks ws rl
   induction rl generalizing a with
   | nil=>intro ha _; cases a with
    | nil=>exact .nil
    | cons _ _=>cases ha
   | @cons p w' ps ws' hp _ ih =>
    intro ha hj;cases a with
    | nil=>cases ha
    | cons v a =>
     obtain ⟨k,x,e,hk⟩:=hj 0 v rfl;have e':w'=(k,x):=by simpa using e
     refine .cons ?_ (ih a (by simpa using ha) fun j v hv=>by simpa using hj (j+1) v (by simpa using hv));have ek:p.1=k:=by rw [hp.1,e']
     show RelV (kV p.1) v;rw [ek];rcases aw (show cM k v=true from hk) with ⟨i,t,rfl,rfl⟩ | ⟨i,t,rfl,rfl⟩
     ·exact ⟨t,rfl⟩
     ·exact ⟨t,rfl⟩
  exact key acc.toList kvs vs rel (by rw [mM]; exact hn) fun j v hv=>hP j v (by rw [<-Array.getElem?_toList]; exact hv)
 refine ⟨.ref s.heap.objs.size,_,I.laid (o:=.lst (kvs.map fun kv=>kV kv.1)) hk (aE _) ⟨by rw [ai]; exact z,acc.toList,c,hv,by rw [Array.toArray_toList]; exact hD⟩,rfl,q _ I.fresh⟩
end
section
variable {prog:bW}{w:World}{K:Type} [DecidableEq K] {knd:HeapKind prog w K}{A:Around}{E:Zc}{s:Shared}
theorem sF {d a:Addr}{xs:List (K×Addr×Value)}{k:K}{v:Value}{Q:Zc}(hu:knd.room A) (hkey:knd.is s.heap k a) (hm:s.heap.DictOfH knd d xs)
  (there:∀p,atKey xs k=some p->Q p.2 { s with toks:=s.toks+knd.draws k })
  (new:atKey xs k=none->∀h',h'.DictOfH knd d (xs++[(k,a,v)])->fJ d s.heap h'->Q v { s with heap:=h',toks:=s.toks+knd.draws k })
  (hsz:xs.length<=aj):wpAny (model prog w) A (dictSetDefault d (.ref a) v) Q E s:=by
 obtain ⟨o,es,ep,ho,hc,hd,he,his,hn⟩:=hm;unfold dictSetDefault
 try with_reducible refine k4 ?_
 refine ak (knd.pyHash hu hkey ?_);refine ak (wpAny_dictFind_heap (s:={ s with toks:=s.toks+knd.draws k }) hu hkey ho hd he his hn ?_ ?_)
 ·intro hno;have hnot:k∉xs.map (·.1):=not_mem_keys_of_get hno;refine ak (ya (ak (wpAny_updateDictKeys (hz:=by have e:=size_of_entries he; omega) (s:={ s with toks:=s.toks+knd.draws k }) ho hd (aI (new (atKey_none_of_get hno) _ ⟨_,_,ep+1,wC _ ho (Obj.isFreed_of_dict (Obj.data_mapDictKeys hd _)),
   hc.mapDictKeys _,Obj.data_mapDictKeys hd _,?_,?_,?_⟩ (kU ..))))))
  ·simp [he,entryOfKey]
  ·intro x hx;rcases bd.mp hx with hx | hx
   ·exact knd.keeps (his x hx) ho hd (kU ..)
   ·simp only [bF] at hx;subst hx;exact knd.keeps hkey ho hd (kU ..)
  ·rw [aq,cH];refine ⟨hn,by simp,?_⟩;intro x hx y hy;simp only [bc,wF,bF] at hy;subst hy;exact fun e=>hnot (e ▸ hx)
 ·intro j p hj;refine ak (m_ (s:={ s with toks:=s.toks+knd.draws k }) ho hd ?_);rw [entry_at he j,hj];exact ak (ya (aI (there p (atKey_of_get hn hj))))
theorem o9 (knd:HeapKind prog w K) (d a:Addr) (hd:(d == gA)=false) (dflt:Value) :
  MeetsIn prog w (b_.«dict.setdefault» ⟨[.ref d,.ref a,dflt],[]⟩) (fun A R s=>knd.room A.in1/\∃k xs,knd.is s.heap k a/\s.heap.DictOfH knd d xs/\xs.length<=aj /\
   (∀p,atKey xs k=some p->R (.ok (.ret p.2)) { s with toks:=s.toks+knd.draws k }) /\
   (atKey xs k=none->∀h',h'.DictOfH knd d (xs++[(k,a,dflt)])->fJ d s.heap h'->R (.ok (.ret dflt)) { s with heap:=h',toks:=s.toks+knd.draws k })) :=
 .of_wp fun A R s ⟨hu,k,xs,hkey,hm,hz,h1,h2⟩=>by
  unfold b_.«dict.setdefault»;refine ak ?_;unfold b_.Dict.keyAndDefault;refine ak (wj hm.typeIs ?_);show wpAny _ _ (pure (d,Value.ref a,some dflt)) _ _ s;refine aI ?_;show wpAny _ _ (if (d == gA)=true then _ else (dictSetDefault d (.ref a) dflt >>= _)) _ _ s
  rw [if_neg (by rw [hd]; exact fN)];exact ak (sF hu hkey hm (fun p hp=>aI ⟨p.2,rfl,h1 p hp⟩) (fun hn h' hm' hs'=>aI ⟨dflt,rfl,h2 hn h' hm' hs'⟩) hz)
end
section
variable {X:Cx}
def BO:V->List V->Hp->VK->Prop:=fun x vs H Q=>∃(d b:Addr) (kvs:List (TK×V)) (k:TK) (z:V),x=.ref d/\vs=[.ref b,z]/\H d=some (.dT kvs)/\cT H k (.ref b)/\k.depth<=8/\kvs.length<aj /\
 (∀v,bQ kvs k=some v->Q v H)/\(bQ kvs k=none->Q z (upd H d (.dT (kvs++[(k,z)]))))
theorem C8 (hu:X.A.units+16<cLine):Hj X "dict.setdefault" BO:=by
 intro J3 s σ H x vs v us Q I rx rv h;obtain ⟨d,b,kvs,k,z,rfl,rfl,hd,hb,h8,hz,q1,q2⟩:=h;cases rx;obtain ⟨u,v,rfl,ru,rz⟩:=rv.two;cases ru;obtain ⟨_,hsys,xs,rel,dd⟩:=Cj I.hok I.kIn hd;have hl:kvs.length=xs.length:=Paired.length rel;refine sv PySem.F.slot_dict_setdefault dd.typeIs PySem.F.entry_dict_setdefault (PySem.F.args_dict_setdefault_3 _ _ _) (o9 (dS X.prog X.w) d b hsys v)
  ⟨fK hu,k,xs,tJ I.hok I.kIn (cT.c 8 h8 hb) h8,dd,by omega,fun p hp=>?_,fun hn h' dd' hs=>?_⟩
 ·have e:=rel.val k;rw [hp] at e;cases e2:bQ kvs k with
  | none=>rw [e2] at e; exact e.elim
  | some y =>
   rw [e2] at e;exact ⟨y,H,I.tok _,e,q1 y e2⟩
 ·have e:=rel.val k;rw [hn] at e;have e2:bQ kvs k=none:=by
   cases e2:bQ kvs k with
   | none=>rfl
   | some y=>rw [e2] at e; exact e.elim
  obtain ⟨o,es,ep,hq,h2,h3,h4,_,h5⟩:=dd';refine ⟨z,_,pf (ob:=.dT (kvs++[(k,z)])) I (by rw [hd]; exact oq) hs ⟨o,hq⟩ ⟨by rw [ay,nj]; omega,hsys,_,KT.keeps (kvs:=kvs++[(k,z)]) (xs:=xs++[(k,b,v)]) (cp rel ⟨rfl,cT.c 8 h8 hb,h8,rz⟩) fun c ys ec=>?_,o,es,ep,hq,h2,h3,h4,h5⟩,rz,q2 e2⟩;rw [af (Ca ec hd (fun z=>nomatch z))];exact ec
end
theorem lJ:entryFor table "dict.update.loop"=some b_.«dict.update.loop»:=entryFor_of_fast (by kernel_rfl)
theorem fZ:plainId "dict.update.loop"=true:=by decide +kernel
theorem xi:typeLookup (.type "list") "keys"=pure none:=am_miss_of_fast (by decide +kernel)
section
variable {prog:bW}{w:World}{A:Around}{E:Zc}{s:Shared}
theorem Db {a:Addr}{o:Obj}{xs:Array Value}{k:Nat}{Q:Option Value->Shared->Prop}(hx:s.heap.get? a=some o) (hc:o.cls=.type "list") (hdat:o.data=.seq xs k) (hd:o.dict=none) (hA:A.handled=none)
  (h:∀h' tk,(∀b ob,s.heap.get? b=some ob->h'.get? b=some ob)->Q none { s with heap:=h',toks:=tk }):wpAny (model prog w) A (getAttr? (.ref a) "keys") Q E s:=by
 obtain ⟨c,dct,dat,sl⟩:=o;simp only at hc hdat hd;subst hc hdat hd;obtain ⟨hp,g,d,tk,os⟩:=s;have hT:∀tk',(⟨hp,g,d,tk',os⟩:Shared).TypeIs (.ref a) "list":=fun _=>⟨_,hx,rfl⟩;have f1:=sub_AttributeError;have f3:=F.slot_list_getattribute.lookup;have f4:=F.slot_list_getattribute.bind (.ref a);have f5:=am_list_getattr_none;unfold getAttr? getAttrBy? getAttrBy
 repeat (any_goals (first | assumption | exact hT _ | ((with_reducible show wpAny _ _ (call (Value.builtin "list.__getattribute__") _ _) _ _ _); refine nq F.slot_list_getattribute (hT _) am_entry_list_getattribute (F.args_list_getattribute_2 _ _) (meets_getattribute_miss_list a xs k sl "keys" _ xi (by decide +kernel) (by decide +kernel)) ⟨hx,hA,fun h' tk' e hx'=>?_⟩) | wp_step))
 obtain ⟨t',u',he⟩:=hx'.there;show wpAny _ _ (getattributeRaised _ _ _ _ _ _ _) _ _ _;unfold getattributeRaised hookOrError attributeErrorLeaves
 repeat (any_goals (first | assumption | wp_step))
 all_goals first | exact h _ _ hx'.keeps | trace_state
def Bg (h:Heap) (u:Value) (kv:eQ×Value):Prop:=∃t ku,u=.ref t/\h.IsTuple t #[ku,kv.2]/\cM kv.1 ku=true
theorem Ao {κ:Type} [DecidableEq κ] (kvs:List (κ×Value)) (k:κ) (v:Value):(stored kvs k v).length<=kvs.length+1:=by
 unfold stored;split
 ·rw [ai]; omega
 ·rw [ay,nj]; exact aE _
theorem DV {R:Result->Shared->Prop}(hh:A.handled=none) {D it l:Addr}{items:Array Value}{ps:List (eQ×Value)}(hDi:D≠it) (hli:l≠it) (hlD:l≠D) (hps:ps.length=items.size) :
  ∀(n i:Nat) (s:Shared) (acc:List (eQ×Value)),items.size-i=n->i<=items.size->acc.length+(items.size-i)<=aj->s.heap.IsListIter it l i->s.heap.IsList l items->s.heap.DictOf (bY prog w) D acc ->
   (∀(j:Nat) (u:Value) (kv:eQ×Value),items[j]?=some u->ps[j]?=some kv->Bg s.heap u kv) ->
   (∀h' tk,h'.DictOf (bY prog w) D (merged acc (ps.drop i))->(∀b o,b≠D->b≠it->s.heap.get? b=some o->h'.get? b=some o)->R (.ok (.ret .none)) { s with heap:=h',toks:=tk }) ->
   zzl77 (model prog w) A (.builtin "dict.update.loop" ⟨[.ref D,.ref it,rawInt i,.none],[]⟩) R s:=by
 intro n
 induction n with
 | zero =>
  intro i s acc hn hi hz hit hl hD hp hR;have e:i=items.size:=by omega
  subst e;refine wg lJ ?_;rw [wf fZ _];show wpAny _ A.in1 (pyNext (.ref it) >>= _) _ _ s;refine ak (wpAny_pyNext_list_end hh hit hl (by simp) fun h' eb=>?_);show wpAny _ _ (b_.Dict.addKeywords D [] >>= _) _ _ _;refine ak (aI (aI ?_));have hD':h'.DictOf (bY prog w) D acc:=hD.extBut eb hDi;have q:=hR h' s.toks (by rw [we (by omega)]; exact hD') fun b o _ hb e=>eb b o hb e;exact q
 | succ n ih =>
  intro i s acc hn hi hz hit hl hD hp hR;have hlt:i<items.size:=by omega
  refine wg lJ ?_;rw [wf fZ _];show wpAny _ A.in1 (pyNext (.ref it) >>= _) _ _ s;have hu:items[i]?=some items[i]:=by simp [hlt]
  have hk:ps[i]?=some ps[i]:=bE (by omega);obtain ⟨t,ku,eu,ht,hku⟩:=hp i _ _ hu hk;refine ak (wpAny_pyNext_list_item hit hl (x:=items[i]) hu fun h1 hit1 hs1=>?_);rw [eu];have hs1':fJ it s.heap h1:=hs1;have nt:t≠it:=by
   rintro rfl;obtain ⟨o,ho,hc,_⟩:=ht;obtain ⟨o',ho',hc',_⟩:=hit;rw [ho] at ho'; cases ho';rw [hc] at hc'; simp at hc'
  have ht1:h1.IsTuple t #[ku,ps[i].2]:=ht.extBut hs1'.extBut nt;have hT1:Shared.TypeIs { s with heap:=h1 } (.ref t) "tuple":=ht1.typeIs (s:={ s with heap:=h1 });obtain ⟨ot,got,hct,nt',hdt⟩:=id ht1;refine ak (k4 ?_);refine ak (wpAny_tryCatch ?_);unfold b_.Dict.pairItems;refine ak (wpAny_typeOf hT1 ?_);rw [if_pos (by decide)];refine ak (mN got hdt (aI ?_));show wpAny _ _ (kT [ku,ps[i].2] (dictSet D ku ps[i].2)) _ _ _;have hD1:h1.DictOf (bY prog w) D acc:=hD.extBut hs1'.extBut hDi;refine k4 (wpAny_dictSet_pairs (knd:=bY prog w) (k:=ps[i].1) hku hD1 (fun h2 hD2 hs2=>?_) (by omega));have hs2':fJ D h1 h2:=hs2;show wpAny _ _ (again _) _ _ _;refine aI ⟨wc fZ _,?_⟩;have hl1:h1.IsList l items:=hl.extBut hs1'.extBut hli;have kp:∀b o,b≠D->b≠it->s.heap.get? b=some o->h2.get? b=some o:=fun b o h1 h2 e=>hs2'.extBut b o h1 (hs1'.extBut b o h2 e);refine ih (i+1) _ (stored acc ps[i].1 ps[i].2) (by omega) hlt (by have:=Ao acc ps[i].1 ps[i].2; omega) (hit1.extBut hs2'.extBut (dz hDi)) (hl1.extBut hs2'.extBut hlD) hD2 (fun j u kv h1 h2=>?_) fun h' tk hD' kp'=>?_
  ·obtain ⟨t2,ku2,e2,ht2,hk2⟩:=hp j u kv h1 h2;have n1:t2≠it:=by
    rintro rfl;obtain ⟨o,ho,hc,_⟩:=ht2;obtain ⟨o',ho',hc',_⟩:=hit;rw [ho] at ho'; cases ho';rw [hc] at hc'; simp at hc'
   have n2:t2≠D:=by
    rintro rfl;obtain ⟨o,ho,hc,_⟩:=ht2;obtain ⟨o',_,_,ho',hc',_⟩:=hD;rw [ho] at ho'; cases ho';have:=hc'.1;rw [hc] at this; simp at this
   obtain ⟨o,ho,r⟩:=ht2;exact ⟨t2,ku2,e2,⟨o,kp _ o n2 n1 ho,r⟩,hk2⟩
  ·refine hR h' tk ?_ fun b o h1 h2 e=>kp' b o h1 h2 (kp b o h1 h2 e);have ed:ps.drop i=ps[i]::ps.drop (i+1):=sf (by omega);rw [ed];exact hD'
theorem rq {l:Addr}{o:Obj}{items:Array Value}{n:Nat}{ps:List (eQ×Value)}{Q:Zc}(hh:A.handled=none) (ho:s.heap.get? l=some o) (hc:o.cls=.type "list") (hdt:o.data=.seq items n) (hod:o.dict=none)
  (hps:ps.length=items.size) (hp:∀(j:Nat) (u:Value) (kv:eQ×Value),items[j]?=some u->ps[j]?=some kv->Bg s.heap u kv) (hz:items.size<=aj)
  (h:∀h' tk,h'.DictOf (bY prog w) s.heap.objs.size (merged [] ps)->(∀b o,s.heap.get? b=some o->h'.get? b=some o)->Q (.ref s.heap.objs.size) { s with heap:=h',toks:=tk }) :
  wpAny (model prog w) A (call (.type "dict") [.ref l]) Q E s:=by
 refine callType_codes (Q₁:=fun obj s₁=>obj=.ref s.heap.objs.size/\s₁={ s with heap:=s.heap.push { cls:=.type "dict",data:=.dict #[] } }) F.kt_called_dict (F.kt_typeCall_dict_1 _) F.entry_dict_init (kt_code_dict_new _ ⟨rfl,rfl⟩) ?_;rintro obj s₁ ⟨rfl,rfl⟩;have hnew:(s.heap.push { cls:=.type "dict",data:=.dict #[] }).DictOf (bY prog w) s.heap.objs.size []:=Heap.DictOf.new s.heap;have ho1:(s.heap.push { cls:=.type "dict",data:=.dict #[] }).get? l=some o:=bu _ ho;have hlt:l<s.heap.objs.size:=aY ho;refine ⟨hnew.typeIs,F.args_dict_init_2 _ _,?_⟩;unfold b_.«dict.__init__»;refine ak ?_;unfold b_.Dict.selfAndRest;refine ak (wj hnew.typeIs ?_);show wpAny _ _ (pure (s.heap.objs.size,[Value.ref l])) _ _ _;refine aI ?_;show wpAny _ _ (b_.Dict.updateFrom "dict.__init__" s.heap.objs.size (.ref l) [] .none) _ _ _;unfold b_.Dict.updateFrom;have hTl:Shared.TypeIs { s with heap:=s.heap.push { cls:=.type "dict",data:=.dict #[] } } (.ref l) "list":=⟨o,ho1,hc⟩;refine ak (wpAny_typeOf hTl ?_);rw [if_pos (by decide)];refine ak (Db ho1 hc hdt hod hh fun h1 tk1 k1=>?_);have k1':∀b ob,(s.heap.push { cls:=.type "dict",data:=.dict #[] }).get? b=some ob->h1.get? b=some ob:=k1;rw [if_pos (by rfl:(none:Option Value).isNone=true)];refine ak (ya ?_);have hl1:h1.IsList l items:=⟨o,k1' _ _ ho1,hc,n,hdt⟩;refine ak (yf (s:={ s with heap:=h1,toks:=tk1 }) hl1 ?_);have hD1:h1.DictOf (bY prog w) s.heap.objs.size []:=by
  obtain ⟨od,es,ep,g,r⟩:=hnew;exact ⟨od,es,ep,k1' _ _ g,r⟩
 have hDlt:s.heap.objs.size<h1.objs.size:=by
  obtain ⟨od,es,ep,g,r⟩:=hD1;exact aY g
 refine aI ⟨wc fZ _,?_⟩;refine DV (A:=A.in1) (prog:=prog) (w:=w) hh (D:=s.heap.objs.size) (it:=h1.objs.size) (l:=l) (items:=items) (ps:=ps) (c_ hDlt) (c_ (Nat.lt_trans hlt hDlt)) (c_ hlt) hps items.size 0 _ [] (Nat.sub_zero _) (cV _) (by rw [wz]; omega)
  ⟨_,cL _ rfl,rfl,rfl⟩ (hl1.push _) (hD1.push _) (fun j u kv a b=>?_) fun h' tk hD' kp=>?_
 ·obtain ⟨t,ku,e,ht,hk⟩:=hp j u kv a b;obtain ⟨ot,g,r⟩:=ht;exact ⟨t,ku,e,⟨ot,bu _ (k1' _ _ (bu _ g)),r⟩,hk⟩
 ·rw [j1] at hD';refine ⟨rfl,h h' tk hD' fun b ob e=>kp b ob (c_ (aY e)) (c_ (Nat.lt_trans (aY e) hDlt)) (bu _ (k1' _ _ (bu _ e)))⟩
end
section
variable {X:Cx}
theorem xK (hc:X.calm=true):gE X (.type "dict") (fun xs H Q=>∃(l:Addr) (ts:Ze) (kvs:List (eQ×V)),xs=[.ref l]/\az X.K H l (ts.map V.ref)/\ts.length=kvs.length /\
  (∀(j:Nat) (t:Addr) (kv:eQ×V),ts[j]?=some t->kvs[j]?=some kv->H t=some (.tup [kV kv.1,kv.2]))/\∀p,H p=none->Q (.ref p) (upd H p (.dK (jo [] kvs)))):=by
 intro J3 s σ H xs us Q I r h;obtain ⟨l,ts,kvs,rfl,hl,hlen,ht,q⟩:=h;obtain ⟨u,rfl,ru⟩:=vals1 r;cases ru;obtain ⟨its,rv,⟨o,n,ho,hcl,hod,hdt⟩,hz⟩:=I.list hl;have key:∀(ts:Ze) (kvs:List (eQ×V)),ts.length=kvs.length->(∀(j:Nat) (t:Addr) (kv:eQ×V),ts[j]?=some t->kvs[j]?=some kv->H t=some (.tup [kV kv.1,kv.2]))->∃ps:List (eQ×Value),KV kvs ps/\∀(j:Nat) (t:Addr) (kv:eQ×Value),ts[j]?=some t->ps[j]?=some kv->Bg s.heap (.ref t) kv:=by
  intro ts
  induction ts with
  | nil =>
   intro kvs hl _;cases kvs with
   | nil=>exact ⟨[],.nil,fun j t kv e=>by simp at e⟩
   | cons _ _=>cases hl
  | cons t ts ih =>
   intro kvs hl ht;cases kvs with
   | nil=>cases hl
   | cons kv kvs =>
    obtain ⟨ps,r1,r2⟩:=ih kvs (by simpa using hl) fun j t' kv' a b=>ht (j+1) t' kv' (by simpa using a) (by simpa using b);obtain ⟨_,itt,rt,p⟩:=(show cA X.prog X.w X.K H s.heap t (.tup [kV kv.1,kv.2]) from I.hok t _ (ht 0 t kv rfl rfl));obtain ⟨a,b,e,ra,rb⟩:=rt.two;subst e;refine ⟨(kv.1,b)::ps,.cons ⟨rfl,rb⟩ r1,fun j t' kv' h1 h2=>?_⟩;cases j with
    | zero =>
     simp at h1 h2;subst h1 h2;exact ⟨t,a,rfl,p,jP (P:=X.prog) (w:=X.w) ra⟩
    | succ j=>exact r2 j t' kv' (by simpa using h1) (by simpa using h2)
 obtain ⟨ps,rel,pa⟩:=key ts kvs hlen ht;have hl1:=rv.length;rw [ai] at hl1;have hl2:=rel.length;refine rq (prog:=X.prog) (w:=X.w) (ps:=ps) (I.ok.hd hc) ho hcl hdt hod (by rw [bI]; omega) (fun j u kv a b=>?_) (by rw [bI,<-hl1]; rw [ai] at hz; exact hz) fun h' tk hD kp=>?_
 ·have a':its[j]?=some u:=by simpa using a
  have hj:j<ts.length:=by
   have:=(bP.mp a').1;omega
  obtain ⟨u',e1,r1⟩:=rv.get (i:=j) (x:=V.ref ts[j]) (by simp [hj]);rw [a'] at e1;cases e1;cases (show u=Value.ref ts[j] from r1);exact pa j ts[j] kv (by simp [hj]) b
 ·have hm:(jo [] kvs).length<=aj:=by
   have h1:=mR kvs [];rw [wz] at h1;rw [ai] at hz;omega
  exact ⟨.ref s.heap.objs.size,_,I.laid (o:=.dK (jo [] kvs)) kp (aE _) (Fm hm (beq_eq_false_iff_ne.mpr (dz (c_ I.big))) (rel.merge .nil) hD),rfl,q _ I.fresh⟩
end
abbrev eA:R2:=DH fun i j=>.int (i+j)
abbrev i4:R2:=rI FH fun i j=>.int (i * j)
abbrev hC:R2:=rI (fun _ j=>0<j) fun i j=>.int (i % j)
abbrev vf:R2:=rI IN fun i j=>.int (i / j)
abbrev G9:R2:=rI IM fun i j=>.int (i ^ j.toNat)
abbrev C4:R2:=DH fun i j=>.bl (decide (i<j))
abbrev rLeI:R2:=DH fun i j=>.bl (decide (i<=j))
abbrev Ey:R2:=DH fun i j=>.bl (decide (j<i))
abbrev rGeI:R2:=DH fun i j=>.bl (decide (j<=i))
abbrev Ha:R2:=fun x y H Q=>∃i j,x=.str i/\y=.str j/\i.length+j.length<=aj/\Q (.str (i++j)) H
abbrev rInS:R2:=fun x y H Q=>∃c j,x=.str ⟨#[c]⟩/\y=.str j/\Q (.bl (decide (c∈j.cps.toList))) H
abbrev Im (K:Za):List V->Hp->VK->Prop:=fun xs H Q=>∃(p:Addr) (bs:List Bool),xs=[.ref p]/\az K H p (bs.map V.bl)/\Q (.bl (bs.all id)) H
abbrev rAny (K:Za):List V->Hp->VK->Prop:=fun xs H Q=>∃(p:Addr) (bs:List Bool),xs=[.ref p]/\az K H p (bs.map V.bl)/\Q (.bl (bs.any id)) H
abbrev BN (K:Za):List V->Hp->VK->Prop:=fun xs H Q=>∃p ys,xs=[.ref p]/\((az K H p ys/\∀l,H l=none->Q (.ref l) (upd H l (.tup ys)))∨(bj K H p ys/\Q (.ref p) H))
abbrev Gr (K:Za):List V->Hp->VK->Prop:=fun xs H Q=>∃(l:Addr) (ts:Ze) (kvs:List (eQ×V)),xs=[.ref l]/\az K H l (ts.map V.ref)/\ts.length=kvs.length /\
  (∀(j:Nat) (t:Addr) (kv:eQ×V),ts[j]?=some t->kvs[j]?=some kv->H t=some (.tup [kV kv.1,kv.2]))/\∀p,H p=none->Q (.ref p) (upd H p (.dK (jo [] kvs)))
abbrev dD (K:Za):List V->Hp->VK->Prop:=fun xs H Q =>
 (∃p ys,xs=[.ref p]/\(az K H p ys∨bj K H p ys)/\∀l,H l=none->Q (.ref l) (upd H l (.lst ys))) ∨
 (∃(d:Addr) (kvs:List (eQ×V)),xs=[.ref d]/\Rd H d (.dK kvs)/\∀l,H l=none->Q (.ref l) (upd H l (.lst (kvs.map fun kv=>kV kv.1))))
abbrev d9 (K:Za):List V->Hp->VK->Prop:=fun xs H Q =>
 (∃p ys,xs=[.ref p]/\(az K H p ys∨bj K H p ys)/\Q (.int ys.length) H)∨(∃z,xs=[.str z]/\z.length<=aj/\Q (.int z.length) H)
theorem Bc:oy "list"=some (.type "list"):=by decide +kernel
theorem i9:oy "tuple"=some (.type "tuple"):=by decide +kernel
theorem Bd:oy "dict"=some (.type "dict"):=by decide +kernel
section
variable {X:Cx}{p pos:Pos}
theorem Dz:gE X (.builtin "len") (d9 X.K):=xJ.or xI
theorem Bb (hc:X.calm=true):gE X (.type "list") (dD X.K):=xH.or (tW hc)
end
def Gc (mg:Str->Option Value) (x:Str) (v:V):Prop:=∃u,mg x=some u/\RelV v u
theorem jJ {X:Cx}{x:Str}{v:V}{pos:Pos}(hg:Gl X x) (h:Gc X.mg x v) (hd:(x == ("__debug__":Str))=false:=by decide):PE X (.Name x pos) (tC v):=by
 obtain ⟨u,hm,r⟩:=h;exact Gx hg hm r hd
structure ir (P:bW) (w:World) (K:Za) (mg:Str->Option Value) (base:Heap) (x:Str) (ps:Zb) (k:Nat) (sp:Sp):Prop where
 ex:∃f fd,mI P w K mg base CX0 k f fd ps sp/\mg x=some (.ref f)/\iC K (.ref f)=true/\Binds K fd ps []
structure I_ (P:bW) (w:World) (K:Za) (mg:Str->Option Value) (base:Heap) (x:Str) (C:Addr) (ps:Zb) (k:Nat) (sp:Sp):Prop where
 ex:∃f fd,mI P w K mg base CX0 k f fd ps sp/\mg x=some (.ref C)/\Mk K C f/\Binds K fd ps []
structure CC (P:bW) (w:World) (K:Za) (mg:Str->Option Value) (base:Heap) (C:Addr) (m:Str) (ps:Zb) (k:Nat) (sp:Sp):Prop where
 ex:∃f fd,mI P w K mg base CX0 k f fd ps sp/\DG K C/\G0 K C m f/\Binds K fd ps []
section
variable {X:Cx}{k:Nat}{ps:Zb}{sp:Sp}{x m:Str}{C:Addr}{p pos J5:Pos}{o e:Expr}{es:List Expr}{t:TA}{ta:TE}
theorem Io (D:ir X.prog X.w X.K X.mg X.base x ps k sp) (hr:ff k X.A) (hg:Gl X x) (ha:PA X (e::es) t) (hdb:(x == ("__debug__":Str))=false:=by decide)
  (he:aL (e::es) X.env=(false,eval e X.env)::aL es X.env:=by rfl) (hpl:(backTo pos (aL es X.env)).any (·.1)=false:=by rfl) :
  PE X (.Call (.Name x p) (e::es) [] pos) (aM sp t):=by
 obtain ⟨f,fd,F,hm,hk,hb⟩:=D.ex;exact Gz F hr hg hm hk hb .nil BW ha hdb he hpl
theorem AD (D:I_ X.prog X.w X.K X.mg X.base x C ps k sp) (hr:ff (k+1) X.A) (hg:Gl X x) (ha:PA X (e::es) t) (hdb:(x == ("__debug__":Str))=false:=by decide)
  (he:aL (e::es) X.env=(false,eval e X.env)::aL es X.env:=by rfl) (hpl:(backTo pos (aL es X.env)).any (·.1)=false:=by rfl) :
  PE X (.Call (.Name x p) (e::es) [] pos) (yu C sp [] E0 t):=by
 obtain ⟨f,fd,F,hm,M,hb⟩:=D.ex;exact Gw M F hr hg hm hb .nil BW ha hdb he hpl
theorem HB {pl:Sem Bool}(M:CC X.prog X.w X.K X.mg X.base C m ps k sp) (hr:ff k X.A) (he:PE X o ta) (ha:PA X (e::es) t)
  (hst:aL (e::es) X.env=(false,eval e X.env)::aL es X.env:=by rfl) (hpl:(backTo pos (aL es X.env)).any (·.1)=false:=by rfl)
  (ht:eval (.Call (.Attribute o m J5) (e::es) [] pos) X.env=(do
   let ov <- eval o X.env
   qI J5.atName
   let (f,first) <- kT [ov] (qF ov m pl)
   uV pos f first (backTo pos (aL (e::es) X.env)) (on pos (ol [] X.env))):=by rfl) :
  PE X (.Call (.Attribute o m J5) (e::es) [] pos) (dB C m sp [] E0 ta t):=by
 obtain ⟨f,fd,F,c,hm,hb⟩:=M.ex;exact Gv he c hm F hr hb .nil BW ha hst hpl ht
theorem Gu {pl:Sem Bool}(M:CC X.prog X.w X.K X.mg X.base C m ps k sp) (hr:ff k X.A) (he:PE X o ta)
  (ht:eval (.Call (.Attribute o m J5) [] [] pos) X.env=(do
   let ov <- eval o X.env
   qI J5.atName
   let (f,first) <- kT [ov] (qF ov m pl)
   uV pos f first (backTo pos (aL [] X.env)) (on pos (ol [] X.env))):=by rfl) :
  PE X (.Call (.Attribute o m J5) [] [] pos) (dB C m sp [] E0 ta aT):=by
 obtain ⟨f,fd,F,c,hm,hb⟩:=M.ex;exact EF he c hm F hr hb .nil BW ht
end
def Iv (K:Za) (tl:TE):TI:=fun σ H R=>tl σ H fun x H1=>∃a,x=.ref a/\(((∃xs,az K H1 a xs)/\R (FL K a) H1)∨((∃xs,bj K H1 a xs)/\R (HS K a) H1))
theorem Hy {X:Cx}{tg l:Expr}{tl:TE}(hl:PE X l tl):PI X tg l (Iv X.K tl):=by
 intro J3 s σ H R I h;refine cF (hl J3 s σ H _ I h) fun v s1 ⟨x,H1,I1,r1,q1⟩=>?_;obtain ⟨a,e,q⟩:=q1;subst e;cases r1;have fin:∀b∈[s1.heap.objs.size],nY X J3 H1 b:=fun b hb=>by
  have e:b=s1.heap.objs.size:=by simpa using hb
  subst e;exact I1.fpOk (aE _) (I1.hok.fresh (aE _))
 rcases q with ⟨⟨xs,hq⟩,q⟩ | ⟨⟨xs,hq⟩,q⟩
 ·obtain ⟨its,rv,p,hz⟩:=I1.list hq;refine yf p.isList ?_;exact ⟨s1.heap.objs.size,[s1.heap.objs.size],_,_,H1,rfl,I1.kept (t':=s1.toks) fun b o e=>bu _ e,u8 a _,⟨_,cL _ rfl,rfl,rfl⟩,fin,q⟩
 ·obtain ⟨its,rv,p,hz⟩:=I1.tuple hq;refine Bz p ?_;exact ⟨s1.heap.objs.size,[s1.heap.objs.size],_,_,H1,rfl,I1.kept (t':=s1.toks) fun b o e=>bu _ e,sG a _,⟨_,cL _ rfl,rfl,rfl⟩,fin,q⟩
theorem jR {K:Za}{a:Addr}{xs:List V}{g:TG}{tb:TS}{D:mJ}{σ:St}{H:Hp}(Pv:Nat->St->Hp->Prop) (h0:Pv 0 σ H) (hl:∀i σ H,i<=xs.length->Pv i σ H->az K H a xs)
  (hs:∀i x σ H p,xs[i]?=some x->Pv i σ H->H p=none->g (.ref p) σ (upd H p (.tup [.int i,x])) fun σ2 H2=>tb { D with nx:=Pv (i+1),ct:=Pv (i+1),bk:=D.nx } σ2 H2) (hd:∀σ H,Pv xs.length σ H->D.nx σ H) :
  ∃W:Nat->Nat->St->Hp->Prop,(∃m,W 0 m σ H)/\∀i m σ H,W i m σ H ->
   ((IH K a).stop i H/\D.nx σ H)∨((IH K a).go i H/\∃N:St->Hp->Prop,(∀σ' H',N σ' H'->∃m',m'<m/\W (i+1) m' σ' H')/\∀x H',(IH K a).yld i H x H'->g x σ H' fun σ2 H2=>tb { D with nx:=N,ct:=N,bk:=D.nx } σ2 H2):=by
 refine ⟨fun i m σ H=>m=xs.length-i/\i<=xs.length/\Pv i σ H,⟨xs.length,by simp,cV _,h0⟩,?_⟩;rintro i m σ H ⟨rfl,hi,p⟩;have q:=hl i σ H hi p;by_cases hlt:i<xs.length
 ·refine .inr ⟨⟨xs,xs[i],q,by simp [hlt]⟩,Pv (i+1),fun σ' H' p'=>⟨xs.length-(i+1),by omega,rfl,hlt,p'⟩,fun x H' y=>?_⟩;obtain ⟨t,v,rfl,hn,hv,rfl⟩:=y;exact hs i v σ H t (hv xs q) p hn
 ·have e:i=xs.length:=by omega
  subst e;exact .inl ⟨⟨xs,q,aE _⟩,hd σ H p⟩
def Wc (n:Nat) (Pv:Nat->List V->Hp->Prop):Nat->Nat->List V->Hp->Prop:=fun i m vs H=>m=n-i/\i<=n/\Pv i vs H
theorem o0 {n i:Nat}{Pv:Nat->List V->Hp->Prop}{vs:List V}{H:Hp}(hi:i<n) (p:Pv (i+1) vs H):∃m',m'<n-i/\Wc n Pv (i+1) m' vs H:=⟨n-(i+1),by omega,rfl,hi,p⟩
abbrev gk (k:Nat) (fi:List Nat) (σ:St) (J:It) (g:TG) (tc:TT) (te:TE) (H1:Hp) (l:Addr) (Q:Hp->Prop):Prop :=
 ∃W:Nat->Nat->List V->Hp->Prop,(∃m,W 0 m [] (upd H1 l (.lst [])))/\∀i m vs H2,W i m vs H2->H2 l=some (.lst vs) /\
  ((J.stop i H2/\Q H2)∨(J.go i H2/\∀x H3,J.yld i H2 x H3->g x (dJ k fi σ) H3 fun σ2 H4=>tc σ2 H4 fun b H5 =>
   if b=true then te σ2 H5 fun v H6=>H6 l=some (.lst vs)/\vs.length<aj/\∃m',m'<m/\W (i+1) m' (vs++[v]) (upd H6 l (.lst (vs++[v]))) else ∃m',m'<m/\W (i+1) m' vs H5))
theorem lM {k:Nat}{fi:List Nat}{J:It}{g:TG}{tc:TT}{te:TE}{σ:St}{H1:Hp}{Q:Hp->Prop}{l:Addr}(n:Nat) (Pv:Nat->List V->Hp->Prop) (h0:Pv 0 [] (upd H1 l (.lst [])))
  (hl:∀i vs H,i<=n->Pv i vs H->H l=some (.lst vs)) (hgo:∀i vs H,i<n->Pv i vs H->J.go i H) (hst:∀vs H,Pv n vs H->J.stop n H/\Q H)
  (hs:∀i vs H x H3,i<n->Pv i vs H->J.yld i H x H3->g x (dJ k fi σ) H3 fun σ2 H4=>tc σ2 H4 fun b H5 =>
   if b=true then te σ2 H5 fun v H6=>H6 l=some (.lst vs)/\vs.length<aj/\∃m',m'<n-i/\Wc n Pv (i+1) m' (vs++[v]) (upd H6 l (.lst (vs++[v]))) else ∃m',m'<n-i/\Wc n Pv (i+1) m' vs H5) :
  gk k fi σ J g tc te H1 l Q:=by
 refine ⟨Wc n Pv,⟨n,by simp [Wc],cV _,h0⟩,?_⟩;rintro i m vs H ⟨rfl,hi,p⟩;refine ⟨hl i vs H hi p,?_⟩;by_cases hlt:i<n
 ·exact .inr ⟨hgo i vs H hlt p,fun x H3 y=>hs i vs H x H3 hlt p y⟩
 ·have e:i=n:=by omega
  subst e;exact .inl (hst vs H p)
section
variable {K:Za}{k:Nat}{fi:List Nat}{g:TG}{tc:TT}{te:TE}{σ:St}{H1:Hp}{Q:Hp->Prop}{l:Addr}
theorem cC {a:Addr}{xs:List V}(Pv:Nat->List V->Hp->Prop) (h0:Pv 0 [] (upd H1 l (.lst [])))
  (hl:∀i vs H,i<=xs.length->Pv i vs H->H l=some (.lst vs)/\az K H a xs) (hd:∀vs H,Pv xs.length vs H->Q H)
  (hs:∀i vs H x,xs[i]?=some x->i<xs.length->Pv i vs H->g x (dJ k fi σ) H fun σ2 H4=>tc σ2 H4 fun b H5 =>
   if b=true then te σ2 H5 fun v H6=>H6 l=some (.lst vs)/\vs.length<aj/\∃m',m'<xs.length-i/\Wc xs.length Pv (i+1) m' (vs++[v]) (upd H6 l (.lst (vs++[v]))) else ∃m',m'<xs.length-i/\Wc xs.length Pv (i+1) m' vs H5) :
  gk k fi σ (FL K a) g tc te H1 l Q:=by
 refine lM xs.length Pv h0 (fun i vs H hi p=>(hl i vs H hi p).1) (fun i vs H hi p=>⟨xs,xs[i],(hl i vs H (eo hi) p).2,by simp [hi]⟩) (fun vs H p=>⟨⟨xs,(hl _ vs H (aE _) p).2,aE _⟩,hd vs H p⟩) fun i vs H x H3 hi p y=>?_;obtain ⟨rfl,y⟩:=y;exact hs i vs _ x (y xs (hl i vs _ (eo hi) p).2) hi p
theorem zG {a:Addr}{xs:List V}(Pv:Nat->List V->Hp->Prop) (h0:Pv 0 [] (upd H1 l (.lst [])))
  (hl:∀i vs H,i<=xs.length->Pv i vs H->H l=some (.lst vs)/\bj K H a xs) (hd:∀vs H,Pv xs.length vs H->Q H)
  (hs:∀i vs H x,xs[i]?=some x->i<xs.length->Pv i vs H->g x (dJ k fi σ) H fun σ2 H4=>tc σ2 H4 fun b H5 =>
   if b=true then te σ2 H5 fun v H6=>H6 l=some (.lst vs)/\vs.length<aj/\∃m',m'<xs.length-i/\Wc xs.length Pv (i+1) m' (vs++[v]) (upd H6 l (.lst (vs++[v]))) else ∃m',m'<xs.length-i/\Wc xs.length Pv (i+1) m' vs H5) :
  gk k fi σ (HS K a) g tc te H1 l Q:=by
 refine lM xs.length Pv h0 (fun i vs H hi p=>(hl i vs H hi p).1) (fun i vs H hi p=>⟨xs,xs[i],(hl i vs H (eo hi) p).2,by simp [hi]⟩) (fun vs H p=>⟨⟨xs,(hl _ vs H (aE _) p).2,aE _⟩,hd vs H p⟩) fun i vs H x H3 hi p y=>?_;obtain ⟨rfl,y⟩:=y;exact hs i vs _ x (y xs (hl i vs _ (eo hi) p).2) hi p
theorem A_ {lo:Int}{n:Nat}(Pv:Nat->List V->Hp->Prop) (h0:Pv 0 [] (upd H1 l (.lst [])))
  (hl:∀i vs H,i<=n->Pv i vs H->H l=some (.lst vs)) (hd:∀vs H,Pv n vs H->Q H)
  (hs:∀i vs H,i<n->Pv i vs H->g (.int (lo+i)) (dJ k fi σ) H fun σ2 H4=>tc σ2 H4 fun b H5 =>
   if b=true then te σ2 H5 fun v H6=>H6 l=some (.lst vs)/\vs.length<aj/\∃m',m'<n-i/\Wc n Pv (i+1) m' (vs++[v]) (upd H6 l (.lst (vs++[v]))) else ∃m',m'<n-i/\Wc n Pv (i+1) m' vs H5) :
  gk k fi σ (HU lo n) g tc te H1 l Q:=by
 refine lM n Pv h0 hl (fun i vs H hi p=>hi) (fun vs H p=>⟨aE _,hd vs H p⟩) fun i vs H x H3 hi p y=>?_;obtain ⟨rfl,rfl⟩:=y;exact hs i vs _ hi p
theorem Fu {x:Str}(Pv:Nat->List V->Hp->Prop) (h0:Pv 0 [] (upd H1 l (.lst [])))
  (hl:∀i vs H,i<=x.cps.size->Pv i vs H->H l=some (.lst vs)) (hd:∀vs H,Pv x.cps.size vs H->Q H)
  (hs:∀i vs H c,x.cps[i]?=some c->i<x.cps.size->Pv i vs H->g (.str ⟨#[c]⟩) (dJ k fi σ) H fun σ2 H4=>tc σ2 H4 fun b H5 =>
   if b=true then te σ2 H5 fun v H6=>H6 l=some (.lst vs)/\vs.length<aj/\∃m',m'<x.cps.size-i/\Wc x.cps.size Pv (i+1) m' (vs++[v]) (upd H6 l (.lst (vs++[v]))) else ∃m',m'<x.cps.size-i/\Wc x.cps.size Pv (i+1) m' vs H5) :
  gk k fi σ (Jb x) g tc te H1 l Q:=by
 refine lM x.cps.size Pv h0 hl (fun i vs H hi p=>hi) (fun vs H p=>⟨aE _,hd vs H p⟩) fun i vs H y H3 hi p yl=>?_;obtain ⟨rfl,c,hc,rfl⟩:=yl;exact hs i vs _ c hc hi p
end
theorem gN {j:Nat}{x:V}{σ:St}{H:Hp}{Q:St->Hp->Prop}(h:Q (σ.set j (some x)) H):dX j x σ H Q:=h
theorem sE {σ:St}{H:Hp}{A B:Hp->Prop}(h:A H):j5 σ H (fun b H5=>if b=true then A H5 else B H5):=by
 show (if (true:Bool)=true then A H else B H)
 exact h
theorem vi {α β:Type}{F:α->β->Prop}:∀{l₁:List α}{l₂:List β},Paired F l₁ l₂->∀{i:Nat}{a:α}{b:β},l₁[i]?=some a->l₂[i]?=some b->F a b
 | _,_,.nil,_,_,_,h,_=>by simp at h
 | _,_,.cons r t,0,_,_,h,h'=>by simp at h h'; subst h h'; exact r
 | _,_,.cons r t,i+1,_,_,h,h'=>by simp at h h'; exact vi t h h'
end L2
namespace L2
open PySem PySem.W
def p6 (K:Za) (td ty tv:TE):TS:=fun D σ H=>tv σ H fun v H1=>td σ H1 fun x H2=>ty σ H2 fun y H3 =>
 ∃(a b:Addr) (kvs:List (TK×V)) (k:TK),x=.ref a/\y=.ref b/\H3 a=some (.dT kvs)/\nP K H3 k (.ref b)/\k.depth<=8/\kvs.length<aj/\D.nx σ (upd H3 a (.dT (cO kvs k v)))
section
variable {X:Cx}{o i value:Expr}{pos pos':Pos}{td ty tv:TE}
theorem oY (hu:X.A.units+16<cLine) (ho:PE X o td) (hi:PE X i ty) (hv:PE X value tv) (hs:qH value (some (.Subscript o i pos')) pos.line X.env=pure false) :
  PS X (.Assign [.Subscript o i pos'] value pos) (p6 X.K td ty tv):=by
 intro J3 s σ H D I h;refine wpAny_Assign_Subscript (cF (hv J3 s σ H _ I h) fun r s1 ⟨v,H1,I1,rv,q1⟩=>cF (ho J3 s1 σ H1 _ I1 q1) fun u s2 ⟨x,H2,I2,rx,q2⟩=>cF (hi J3 s2 σ H2 _ I2 q2) fun iv s3 ⟨y,H3,I3,ry,a,b,kvs,k,ex,ey,e,eb,e8,l,q3⟩=>?_) hs;subst ex;subst ey;obtain rfl:u=Value.ref a:=rx;exact A6 hu I3 e eb e8 l ry rv fun s4 I4=>⟨σ,_,I4,q3⟩
end
theorem vb {K:Za}{H:Hp}:∀xs:List Str,TKCs K H (xs.map fun x=>TK.k (.inr x)) (xs.map V.str)
 | []=>by show TKCs K H [] []; unfold TKCs; rfl
 | x::xs=>by
  rw [bc,bc];unfold TKCs;refine ⟨_,_,rfl,?_,vb xs⟩;unfold nP
  rfl
theorem yn {K:Za}{H:Hp}{a:Addr}{xs:Zb}(h:bV K H a (xs.map V.str)):nP K H (.t (xs.map fun x=>TK.k (.inr x))) (.ref a):=by
 unfold nP;exact ⟨a,_,rfl,h,vb xs⟩
end L2
end

section
set_option Elab.async false
set_option linter.all false
set_option maxRecDepth 100000
namespace L2
open PySem PySem.Spec PyProof.Rows PySem.W
def G5:Expr->List Str
 | .Name x _=>[x]
 | .Tuple es _ _=>es.filterMap fun e=>match e with | .Name x _=>some x | _=>none
 | _=>[]
theorem bK {X:Cx}{b:List Stmt}{t:TS}{D:mJ}{σ:St}{H:Hp}(r:t D σ H) (p:zX X b t):∃t,zX X b t/\t D σ H:=⟨t,p,r⟩
section
variable {X:Cx}{k k0:Nat}{ps:Zb}{sp:Sp}{x m:Str}{C:Addr}{p pos J5:Pos}{o e a b:Expr}{es:List Expr}{t:TA}{ta tb te:TE}
theorem qf (hr:ff k0 X.A) (D:ir X.prog X.w X.K X.mg X.base x ps k sp) (ha:PA X (e::es) t) (hk:k<=k0:=by decide) (hg:Gl X x:=by rfl) (hdb:(x == ("__debug__":Str))=false:=by decide)
  (he:aL (e::es) X.env=(false,eval e X.env)::aL es X.env:=by rfl) (hpl:(backTo pos (aL es X.env)).any (·.1)=false:=by rfl) :
  PE X (.Call (.Name x p) (e::es) [] pos) (aM sp t):=Io D (hr.mono hk) hg ha hdb he hpl
theorem qm {pl:Sem Bool}(hr:ff k0 X.A) (M:CC X.prog X.w X.K X.mg X.base C m ps k sp) (he:PE X o ta) (ha:PA X (e::es) t) (hk:k<=k0:=by decide)
  (hst:aL (e::es) X.env=(false,eval e X.env)::aL es X.env:=by rfl) (hpl:(backTo pos (aL es X.env)).any (·.1)=false:=by rfl)
  (ht:eval (.Call (.Attribute o m J5) (e::es) [] pos) X.env=(do
   let ov <- eval o X.env
   qI J5.atName
   let (f,first) <- kT [ov] (qF ov m pl)
   uV pos f first (backTo pos (aL (e::es) X.env)) (on pos (ol [] X.env))):=by rfl) :
  PE X (.Call (.Attribute o m J5) (e::es) [] pos) (dB C m sp [] E0 ta t):=HB (pl:=pl) M (hr.mono hk) he ha hst hpl ht
theorem EA {pl:Sem Bool}(hr:ff k0 X.A) (M:CC X.prog X.w X.K X.mg X.base C m ps k sp) (he:PE X o ta) (hk:k<=k0:=by decide)
  (ht:eval (.Call (.Attribute o m J5) [] [] pos) X.env=(do
   let ov <- eval o X.env
   qI J5.atName
   let (f,first) <- kT [ov] (qF ov m pl)
   uV pos f first (backTo pos (aL [] X.env)) (on pos (ol [] X.env))):=by rfl) :
  PE X (.Call (.Attribute o m J5) [] [] pos) (dB C m sp [] E0 ta aT):=Gu (pl:=pl) M (hr.mono hk) he ht
theorem xl (ha:PE X a ta) (hb:PE X b tb) (hs:DA b:=by exact fun _ _=>rfl):PE X (.Subscript a b pos) (aD (cU X.K) ta tb):=BT Cg ha hb hs
theorem xt (ha:PE X a ta) (hb:PE X b tb) (hs:DA b:=by exact fun _ _=>rfl):PE X (.Subscript a b pos) (aD (fO X.K) ta tb):=BT Fa ha hb hs
theorem xq (ha:PE X a ta) (hb:PE X b tb) (hs:DA b:=by exact fun _ _=>rfl):PE X (.Subscript a b pos) (aD (og X.K) ta tb):=BT HJ ha hb hs
theorem xs' (ha:PE X a ta) (hb:PE X b tb) (hs:DA b:=by exact fun _ _=>rfl):PE X (.Subscript a b pos) (aD Ex ta tb):=BT Fb ha hb hs
theorem iJ {op:CmpOp}{r:R2}(ho:oj X (eD op) r) (ha:PE X a ta) (hb:PE X b tb) (hm:kK op b=false:=by exact EK _):PT X (.Compare a [op] [b] pos) (aO (aD r ta tb)):=BR ho ha hb hm
theorem Ix {op:CmpOp}{r:R2}(ho:oj X (eD op) r) (ha:PE X a ta) (hb:PE X b tb) (hm:kK op b=false:=by exact EK _):PE X (.Compare a [op] [b] pos) (aD r ta tb):=BU ho ha hb hm
theorem Hn {op:CmpOp}{r:R2}(ho:oj X (eD op) r) (ha:PE X a ta) (hb:PE X b tb) (hm:kK op b=false:=by with_unfolding_all rfl):PT X (.Compare a [op] [b] pos) (aO (aD r ta tb)):=BR ho ha hb hm
theorem eci {op:CmpOp}{r:R2}(ho:oj X (eD op) r) (ha:PE X a ta) (hb:PE X b tb) (hm:kK op b=false:=by with_unfolding_all rfl):PE X (.Compare a [op] [b] pos) (aD r ta tb):=BU ho ha hb hm
theorem qB {id:String}{r:List V->Hp->VK->Prop}(hc:gE X (.builtin id) r) (hm:X.mg x=none) (hv:oy x=some (.builtin id)) (ha:PA X (e::es) t) (hg:Gl X x:=by rfl) (hn:x≠"__name__":=by decide) (hdb:(x == ("__debug__":Str))=false:=by decide)
  (he:aL (e::es) X.env=(false,eval e X.env)::aL es X.env:=by rfl) (hpl:(backTo pos (aL es X.env)).any (·.1)=false:=by rfl):PE X (.Call (.Name x p) (e::es) [] pos) (fu r t):=yR hc hg hm hv ha hn hdb he hpl
theorem qL (hc:X.calm=true) (hm:X.mg "list"=none) (ha:PA X (e::es) t) (hg:Gl X "list":=by rfl)
  (he:aL (e::es) X.env=(false,eval e X.env)::aL es X.env:=by rfl) (hpl:(backTo pos (aL es X.env)).any (·.1)=false:=by rfl):PE X (.Call (.Name "list" p) (e::es) [] pos) (fu (dD X.K) t):=iy (Bb hc) hg hm Bc ha (by decide) (by decide) he hpl
theorem ql (hm:X.mg "len"=none) (ha:PA X (e::es) t) (hg:Gl X "len":=by rfl)
  (he:aL (e::es) X.env=(false,eval e X.env)::aL es X.env:=by rfl) (hpl:(backTo pos (aL es X.env)).any (·.1)=false:=by rfl):PE X (.Call (.Name "len" p) (e::es) [] pos) (fu (d9 X.K) t):=yR Dz hg hm PySem.boot_len ha (by decide) (by decide) he hpl
theorem qs (i:Nat) {pos':Pos}(hN:X.N.Nodup) (he:PE X e te) (hi:X.N[i]?=some x:=by rfl) (hx:Loc X.env.scope x:=by first | exact Or.inl rfl | exact Or.inr rfl) (hs:qH e (some (.Name x pos')) pos.line X.env=pure false:=by rfl) (hf:X.fn x=true∨X.env.scope.names.lookup x=some .local:=by first | exact .inl rfl | exact .inr rfl | assumption) :
  PS X (.Assign [.Name x pos'] e pos) (aK te (dX i)):=Hv hN hi hx he hs hf
theorem gn (i:Nat) (hN:X.N.Nodup) (hi:X.N[i]?=some x:=by rfl) (hx:Loc X.env.scope x:=by first | exact Or.inl rfl | exact Or.inr rfl) (hf:X.fn x=true∨X.env.scope.names.lookup x=some .local:=by first | exact .inl rfl | exact .inr rfl | assumption):PG X (.Name x pos) (dX i):=BS hN hi hx hf
theorem gc (i:Nat) (hN:X.N.Nodup:=by exact of_decide_eq_true (by with_unfolding_all rfl)) (hi:X.N[i]?=some x:=by rfl) (hx:Loc X.env.scope x:=by exact Or.inl rfl) (hf:X.fn x=true∨X.env.scope.names.lookup x=some .local:=by first | exact .inl rfl | exact .inr rfl | assumption):PG X (.Name x pos) (dX i):=BS hN hi hx hf
theorem a1 (ha:PE X a ta) (hs:aL [a] X.env=(false,eval a X.env)::aL [] X.env:=by rfl):PA X [a] (ar ta aT):=cy ha bO hs
theorem a2 (ha:PE X a ta) (hb:PE X b tb) (hs:aL [a,b] X.env=(false,eval a X.env)::aL [b] X.env:=by rfl) (hs2:aL [b] X.env=(false,eval b X.env)::aL [] X.env:=by rfl):PA X [a,b] (ar ta (ar tb aT)):=cy ha (cy hb bO hs2) hs
theorem a3 {c:Expr}{tc:TE}(ha:PE X a ta) (hb:PE X b tb) (hc:PE X c tc) (hs:aL [a,b,c] X.env=(false,eval a X.env)::aL [b,c] X.env:=by rfl) (hs1:aL [b,c] X.env=(false,eval b X.env)::aL [c] X.env:=by rfl) (hs2:aL [c] X.env=(false,eval c X.env)::aL [] X.env:=by rfl):PA X [a,b,c] (ar ta (ar tb (ar tc aT))):=cy ha (a2 hb hc hs1 hs2) hs
variable {elt iter tg:Expr}{ifs:List Expr}{scope:Scope}{fi:List Nat}{wi:TI}{g:TG}{tc:TT}
theorem qc (hi:PI X tg iter wi) (ho:zO k g)
  (h:∀C cl s₀ H₀ ex pn,PG (dL X (G5 tg++fi.map fun i=>X.N.getD i "") scope C cl s₀ H₀ ex pn) tg g/\Hi (dL X (G5 tg++fi.map fun i=>X.N.getD i "") scope C cl s₀ H₀ ex pn) ifs tc/\PE (dL X (G5 tg++fi.map fun i=>X.N.getD i "") scope C cl s₀ H₀ ex pn) elt te)
  (hS:mn X.env.scope scope k (G5 tg++fi.map fun i=>X.N.getD i "") X.N fi=true:=by with_unfolding_all rfl) (hc:X.calm=true:=by rfl)
  (hs:∀x,ye iter X.env x=pure x:=by intro _; rfl):PE X (.ListComp elt [⟨tg,iter,ifs,0⟩] scope pos) (dC k fi wi g tc te) :=
 Gy hS hc hi (fun _ _ _ _ _ _=>(h _ _ _ _ _ _).1) ho (fun _ _ _ _ _ _=>(h _ _ _ _ _ _).2.1) (fun _ _ _ _ _ _=>(h _ _ _ _ _ _).2.2) hs
theorem qsc (j:Nat) {y:Str}{spos py:Pos}(hN:X.N.Nodup) (hi:PI X tg iter wi) (ho:zO k g)
  (h:∀C cl s₀ H₀ ex pn,PG (dL X (G5 tg++fi.map fun i=>X.N.getD i "") scope C cl s₀ H₀ ex pn) tg g/\Hi (dL X (G5 tg++fi.map fun i=>X.N.getD i "") scope C cl s₀ H₀ ex pn) ifs tc/\PE (dL X (G5 tg++fi.map fun i=>X.N.getD i "") scope C cl s₀ H₀ ex pn) elt te)
  (hj:X.N[j]?=some y:=by rfl) (hy:Loc X.env.scope y:=by first | exact Or.inl rfl | exact Or.inr rfl)
  (hS:mn X.env.scope scope k (G5 tg++fi.map fun i=>X.N.getD i "") X.N fi=true:=by with_unfolding_all rfl) (hc:X.calm=true:=by rfl)
  (hsw:qH (.ListComp elt [⟨tg,iter,ifs,0⟩] scope pos) (some (.Name y py)) spos.line X.env=pure true:=by rfl)
  (hs:∀x,ye iter X.env x=pure x:=by intro _; rfl) (hf:X.fn y=true∨X.env.scope.names.lookup y=some .local:=by first | exact .inl rfl | exact .inr rfl | assumption) :
  PS X (.Assign [.Name y py] (.ListComp elt [⟨tg,iter,ifs,0⟩] scope pos) spos) (aK (dC k fi wi g tc te) (dX j)) :=
 AB hN hj hy hS hc hi (fun _ _ _ _ _ _=>(h _ _ _ _ _ _).1) ho (fun _ _ _ _ _ _=>(h _ _ _ _ _ _).2.1) (fun _ _ _ _ _ _=>(h _ _ _ _ _ _).2.2) hsw hs hf
end
end L2
end

section
set_option Elab.async false
set_option linter.all false
set_option maxRecDepth 100000
namespace L2
open PySem PySem.Spec PyProof.Rows
structure uM (h:Heap) (d:Addr) (es:Array jj) (ep:Nat):Prop where
 ex:∃o,h.get? d=some o/\o.ExactDict/\o.data=.dict es ep
section
variable {prog:bW}{w:World}{A:Around}{E:Zc}{s:Shared}{d v it:Addr}{es:Array jj}{ep i:Nat}
theorem uM.ty (h:uM s.heap d es ep):s.TypeIs (.ref d) "dict":=let ⟨o,ho,e,_⟩:=h.ex; ⟨o,ho,e.1⟩
theorem C3 {Q:Zc}(h:uM s.heap d es ep) (hd:(d == gA)=false) (q:Q (.ref s.heap.objs.size) { s with heap:=s.heap.push { cls:=.type "dict_items",data:=.fields #[.ref d] } }) :
  wpAny (model prog w) A (call (.builtin "dict.items") [.ref d]) Q E s:=by
 refine pF F.slot_dict_items h.ty F.entry_dict_items ?_ (F.args_dict_items_1 _);unfold b_.«dict.items» b_.Dict.noArgs;refine ak <| ak <| wj h.ty <| ?_;refine aI (show wpAny _ _ (wb d >>= _) _ _ s from ?_);unfold wb;rw [if_neg (fun z=>by rw [hd] at z; cases z)];exact ak <| aI <| ak <| ji <| aI ⟨_,rfl,q⟩
theorem Eu {Q:Zc}(hv:s.heap.IsItemsView v d) (h:uM s.heap d es ep)
  (q:∀h',iF h' s.heap.objs.size d 0 es.size ep .none .none->(∀b o,s.heap.get? b=some o->h'.get? b=some o)->Q (.ref s.heap.objs.size) { s with heap:=h' }):wpAny (model prog w) A (pyIter (.ref v)) Q E s:=by
 obtain ⟨ov,hov,hcv,hdv⟩:=id hv;obtain ⟨o,ho,hx,hdat⟩:=h.ex;refine wpAny_pyIter_slot hv.typeIs F.slot_dict_items_iter <| pF F.slot_dict_items_iter hv.typeIs F.entry_dict_items_iter ?_ (F.args_dict_items_iter_1 _);unfold b_.«dict_items.__iter__» b_.Dict_items.dictOf b_.Dict_items.newIterator;refine ak <| aI <| ak <| ak <| fk hov hdv (x:=.ref d) rfl <| aI <| ak <| ak <| m_ ho hdat <| ak <| pL ho hdat ?_;simp only [show se "dict_itemiterator"=true by decide,if_true];refine ji (aI ⟨_,rfl,"dict_itemiterator",_,⟨_,cL _ rfl,rfl⟩,r_.lookup,?_⟩) ?_
 ·refine q _ ?_ fun b o e=>bu _ e;simpa [rawInt,iF,b_.Dict_items.ownedTupleFields] using cL s.heap (o:={ cls:=.type "dict_itemiterator",data:=.fields #[.none,.bool false,.ref d,.int 0 0,.int es.size 0,.int ep 0,.none,.none] }) rfl
 ·simp only [sizeOk,b_.Dict_items.ownedTupleFields,bI,ay,em,wz,gv]; omega
theorem Es {ok ov:Value}{Q:Option Value->Shared->Prop}(hit:iF s.heap it d i es.size ep ok ov) (h:uM s.heap d es ep) (hi:i<es.size)
  (q:∀h',IsItemIterOut h' it d (i+1) es.size ep es[i].key es[i].val s.heap.objs.size->h'.get? s.heap.objs.size=some { cls:=.type "tuple",data:=.seq #[es[i].key,es[i].val] } ->
   (∀b o,b≠it->s.heap.get? b=some o->h'.get? b=some o)->Q (some (.ref s.heap.objs.size)) { s with heap:=h' }):wpAny (model prog w) A (pyNext (.ref it)) Q E s:=by
 obtain ⟨o,ho,hx,hdat⟩:=h.ex;obtain ⟨hp,g,dr,tk,os⟩:=s;have ty:∀{h':Heap}{ok ov:Value}{j:Nat},iF h' it d j es.size ep ok ov->Shared.TypeIs ⟨h',g,dr,tk,os⟩ (.ref it) "dict_itemiterator":=fun x=>⟨_,x,rfl⟩;have hT:=ty hit;have own:se "dict_itemiterator"=true:=by decide
 unfold pyNext;refine ak <| pM <| kY (name:=kW "__next__") hT r_ <| pF r_ hT F.entry_dict_itemiterator_next ?_ (F.args_dict_itemiterator_next_1 _);refine ak <| aI <| ak <| ak ?_
 first | refine ak <| wa hT <| aI ?_ | refine ak <| v_ hT <| aI ?_
 refine ak <| v9 hit rfl ?_;simp only [own,if_true];show wpAny _ _ (if (Value.ref d == Value.none)=true then _ else _) _ _ _
 rw [if_neg (show ¬((Value.ref d == Value.none)=true) from fN)];refine ak <| aI <| ak <| m_ ho hdat ?_;rw [if_neg (by simp)];refine ak <| aI <| ak <| pL ho hdat ?_;rw [if_neg (by simp)];refine aI ?_;simp only [show ¬((i:Int)<0) from by omega,if_false,jk,Array.getElem?_eq_getElem hi];refine ak ?_
 first | refine ak <| wa hT <| aI ?_ | refine ak <| v_ hT <| aI ?_
 refine ak <| wpAny_isOneOf_itemiter hT ?_;show wpAny _ _ (v8 (.ref it) 3 (rawInt ((i:Int)+1)) >>= _) _ _ ⟨hp,g,dr,tk,os⟩;refine ak <| iG hit (by simp) fun h1 e1 s1=>?_;have s1:fJ it hp h1:=s1;have e1:iF h1 it d (i+1) es.size ep ok ov:=by
  have z:((i+1:Nat):Int)=(i:Int)+1:=by omega
  unfold iF; rw [z]; simpa [rawInt] using e1
 have T1:=ty e1;refine ak <| k4 <| ak <| wpAny_isOneOf_itemiter T1 <| ak <| wpAny_isOneOf_itemiter T1 ?_;show wpAny _ _ (b_.Dict_items.pairFromOwner (.ref it) 6 es[i].key es[i].val) _ _ ⟨h1,g,dr,tk,os⟩;unfold b_.Dict_items.pairFromOwner;refine ak <| wpAny_newTuple ?_;have e2:iF (h1.push { cls:=.type "tuple",data:=.seq #[es[i].key,es[i].val] }) it d (i+1) es.size ep ok ov:=bu _ e1;have z1:h1.objs.size=hp.objs.size:=s1.1;have t2:(h1.push { cls:=.type "tuple",data:=.seq #[es[i].key,es[i].val] }).get? hp.objs.size=some { cls:=.type "tuple",data:=.seq #[es[i].key,es[i].val] }:=by rw [<-z1]; exact cL _ rfl
 have k2:∀b o,b≠it->hp.get? b=some o->(h1.push { cls:=.type "tuple",data:=.seq #[es[i].key,es[i].val] }).get? b=some o:=fun b o hb e=>bu _ (s1.extBut b o hb e);rw [z1];generalize h1.push { cls:=.type "tuple",data:=.seq #[es[i].key,es[i].val] }=h2 at e2 t2 k2;show wpAny _ _ (b_.Dict_items.ownedTupleIsFree (.ref it) >>= _) _ _ ⟨h2,g,dr,tk,os⟩;have lt:it<hp.objs.size:=aY hit;have ne:hp.objs.size≠it:=gy lt;refine ak ?_;unfold b_.Dict_items.ownedTupleIsFree;refine ak <| fk e2 rfl (x:=.none) rfl <| aI ?_;simp only [if_true];refine ak <| fk e2 rfl (x:=ok) rfl <| ak <| fk e2 rfl (x:=ov) rfl <| ak <| iG e2 (by simp) fun h3 e3 s3=>?_;have s3:fJ it h2 h3:=s3;have e3:iF h3 it d (i+1) es.size ep es[i].key ov:=e3;refine ak <| iG e3 (by simp) fun h4 e4 s4=>?_;have s4:fJ it h3 h4:=s4;have e4:iF h4 it d (i+1) es.size ep es[i].key es[i].val:=e4;refine ak <| iG e4 (by simp) fun h5 e5 s5=>?_;have s5:fJ it h4 h5:=s5;have e5:IsItemIterOut h5 it d (i+1) es.size ep es[i].key es[i].val hp.objs.size:=e5;refine ak <| iG e5 (by simp) fun h6 e6 s6=>?_;have s6:fJ it h5 h6:=s6;have e6:IsItemIterOut h6 it d (i+1) es.size ep es[i].key es[i].val hp.objs.size:=e6;have up:∀b o,b≠it->h2.get? b=some o->h6.get? b=some o:=fun b o hb e=>s6.extBut b o hb <| s5.extBut b o hb <| s4.extBut b o hb <| s3.extBut b o hb e;exact ak <| wo <| aI <| aI ⟨_,rfl,aI <| q h6 e6 (up _ _ ne t2) fun b o hb e=>up b o hb (k2 b o hb e)⟩
theorem Gn {ok ov:Value}{Q:Option Value->Shared->Prop}(hh:A.handled=none) (hit:iF s.heap it d i es.size ep ok ov) (h:uM s.heap d es ep) (hi:es.size<=i)
  (q:∀h',Heap.ExtBut it s.heap h'->Q none { s with heap:=h' }):wpAny (model prog w) A (pyNext (.ref it)) Q E s:=by
 obtain ⟨o,ho,hx,hdat⟩:=h.ex;have hT:s.TypeIs (.ref it) "dict_itemiterator":=⟨_,hit,rfl⟩;have own:se "dict_itemiterator"=true:=by decide
 unfold pyNext;refine ak <| pM <| kY (name:=kW "__next__") hT r_ <| pF r_ hT F.entry_dict_itemiterator_next ?_ (F.args_dict_itemiterator_next_1 _);refine ak <| aI <| ak <| ak ?_
 first | refine ak <| wa hT <| aI ?_ | refine ak <| v_ hT <| aI ?_
 refine ak <| v9 hit rfl ?_;simp only [own,if_true];show wpAny _ _ (if (Value.ref d == Value.none)=true then _ else _) _ _ _
 rw [if_neg (show ¬((Value.ref d == Value.none)=true) from fN)];refine ak <| aI <| ak <| m_ ho hdat ?_;rw [if_neg (by simp)];refine ak <| aI <| ak <| pL ho hdat ?_;rw [if_neg (by simp)];refine aI ?_;simp only [show ¬((i:Int)<0) from by omega,if_false,jk,Array.getElem?_eq_none hi];refine ak ?_
 first | refine ak <| wa hT <| aI ?_ | refine ak <| v_ hT <| aI ?_
 show wpAny _ _ (v8 (.ref it) 2 .none >>= _) _ _ s;refine ak <| so hit rfl (by simp) ?_;show wpAny _ _ (newExc (.type "StopIteration") [] >>= _) _ _ _;refine ak ?_;simp only [newExc,newTuple];refine ak <| ji ?_ (by size_fits);refine ak (m:=pN _ _) <| wpAny_of_eq (a:=Value.none) (by first | rfl | (simp only [pN]; rfl)) <| ji ?_ (by size_fits)
 simp only [raiseNew];refine ak <| wpAny_handled ?_;rw [show A.in1.handled=none from hh];refine ak <| aI <| wpAny_throw ?_;refine ak (yg (b:=true) (T:="StopIteration") ⟨_,cL _ rfl,rfl⟩ isSubtype_stop (aI (q _ (((kU ..).extBut.push _).push _))))
end
def G3 (d:Addr) (o:Obj) (u:HO) (n:Nat) (ent:Nat->Hp->V->V->Prop):It :=
 ⟨fun i H=>H d=some (.frz o u)/\i<n,fun i H x H'=>∃p a b,H p=none/\x=.ref p/\ent i H a b/\H'=upd H p (.tup [a,b]),fun i H=>H d=some (.frz o u)/\n<=i⟩
structure FG (P:bW) (w:World) (K:Za) (d:Addr) (o:Obj) (u:HO) (n:Nat) (ent:Nat->Hp->V->V->Prop) (es:Array jj) (ep:Nat):Prop where
 ex:o.ExactDict
 dat:o.data=.dict es ep
 sz:es.size=n
 get:∀{H:Hp}{h:Heap}{i:Nat}(hi:i<es.size),mq P w K H h->H d=some (.frz o u)->∃a b,ent i H a b/\RelV a es[i].key/\RelV b es[i].val
theorem z6 {P:bW}{w:World}{K:Za}{xs:List Expr}{kx:Nat}{J7:Pos}{d it:Addr}{o:Obj}{u:HO}{n:Nat}{ent:Nat->Hp->V->V->Prop}{es:Array jj}{ep:Nat}(X0:FG P w K d o u n ent es ep) :
  rB P w K (.Tuple xs kx J7) (G3 d o u n ent) [it] it (fun i h=>∃ok ov,iF h it d i n ep ok ov) where
 mem:=by simp
 obj:=fun i h ⟨ok,ov,st⟩ b hb=>by
  have e:b=it:=by simpa using hb
  subst e;exact ⟨_,st,fun v z=>by cases z⟩
 keep:=fun i h h' ⟨ok,ov,st⟩ k=>⟨ok,ov,k it (by simp) _ st⟩
 item:=by
  intro X hP hw hK hc i J3 s σ H E I hf ⟨ok,ov,st⟩ hg;subst hP hw hK;obtain ⟨hd,hi⟩:=hg;have hi':i<es.size:=by rw [X0.sz]; exact hi
  obtain ⟨g,ou⟩:=(show cA X.prog X.w X.K H s.heap d (.frz o u) from I.hok d _ hd);obtain ⟨a,b,en,ra,rb⟩:=X0.get hi' I.hok hd;obtain ⟨f0,f1,f2,f3,f4,f5⟩:=hf it (by simp);rw [<-X0.sz] at st;refine Es st ⟨o,g,X0.ex,X0.dat⟩ hi' fun h' ho' ht' hk'=>?_;refine ⟨_,rfl,wpAny_letOwnedTupleGo_items (s:={ s with heap:=h' }) ho' fun h2 he2 hs2=>?_⟩;have hs2':fJ it h' h2:=hs2;have hpe:s.heap.objs.size≠it:=gy (aY st);have ht2:h2.get? s.heap.objs.size=some { cls:=.type "tuple",data:=.seq #[es[i].key,es[i].val] }:=hs2'.extBut _ _ hpe ht';have hn0:H s.heap.objs.size=none:=I.fresh;have I2:Inv X J3 σ (upd H s.heap.objs.size (.tup [a,b])) { s with heap:=h2,toks:=s.toks }:=by
   refine I.turnedNew (ch:=[it]) hf (fun c o hb q=>?_) ⟨_,ht2⟩ (fun _ z=>nomatch z) ⟨by show 2<=aj; decide,[es[i].key,es[i].val],.cons ra (.cons rb .nil),⟨_,ht2,rfl,_,rfl⟩⟩;have nb1:c≠it:=fun z=>hb (by simp [z]);exact hs2'.extBut _ _ nb1 (hk' c o nb1 q)
  refine ⟨.ref s.heap.objs.size,_,I2,rfl,⟨_,a,b,hn0,rfl,en,rfl⟩,⟨_,_,by rw [<-X0.sz]; exact he2⟩,fun c hb=>?_⟩;have e:c=it:=by simpa using hb
  subst e;rw [af (dz hpe)];exact f0
 done:=by
  intro X hP hw hK hc i J3 s σ H E I hf ⟨ok,ov,st⟩ hg;subst hP hw hK;obtain ⟨hd,hi⟩:=hg;obtain ⟨g,ou⟩:=(show cA X.prog X.w X.K H s.heap d (.frz o u) from I.hok d _ hd);obtain ⟨f0,f1,f2,f3,f4,f5⟩:=hf it (by simp);rw [<-X0.sz] at st;exact Gn (I.ok.hd hc) st ⟨o,g,X0.ex,X0.dat⟩ (by rw [X0.sz]; exact hi) fun h' eb=>⟨rfl,I.turned (t':=s.toks) (fun b o hb e=>eb b o hb e) f0 f1 f3 f4 f5⟩
 self:=fun _ _ _ _ _ ⟨_,_,st⟩ h=>PySem.W.kcp_self st h
def A0 (K:Za) (kvs:List (TK×V)):Nat->Hp->V->V->Prop:=fun i H a b=>∃k,kvs[i]?=some (k,b)/\nP K H k a
theorem mf {P:bW}{w:World}{K:Za}{H:Hp}{h:Heap}{d:Addr}{o:Obj}{kvs:List (TK×V)}(hok:mq P w K H h) (e:H d=some (.frz o (.dT kvs))) :
  (d == gA)=false/\∃es ep,FG P w K d o (.dT kvs) kvs.length (A0 K kvs) es ep:=by
 obtain ⟨g,z,hsys,xs,rel,o',es,ep,ho',ex,hd,hes,nd⟩:=(show cA P w K H h d (.frz o (.dT kvs)) from hok d _ e);rw [g] at ho';cases ho';have hl:es.size=xs.length:=by rw [<-mM,hes,ai]
 refine ⟨hsys,es,ep,ex,hd,by rw [hl,Paired.length rel],fun {H' h' i} hi hok' e'=>?_⟩;obtain ⟨g',z',hsys',xs',rel',o'',es',ep',ho'',ex',hd',hes',nd'⟩:=(show cA P w K H' h' d (.frz o (.dT kvs)) from hok' d _ e');rw [g'] at ho'';cases ho'';rw [hd] at hd';cases hd';have hl':es.size=xs'.length:=by rw [<-mM,hes',ai]
 have hi':i<xs'.length:=by omega
 have hk:i<kvs.length:=by rw [Paired.length rel']; exact hi'
 have hp:=vi rel' (i:=i) (a:=kvs[i]) (b:=xs'[i]) (by simp [hk]) (by simp [hi']);have he:es[i]=entryOfKey (dS P w) xs'[i]:=by
  have:es.toList[i]?=some es[i]:=by simp [hi]
  rw [hes',bZ,bE hi'] at this;injection this with this;exact this.symm
 refine ⟨.ref xs'[i].2.1,kvs[i].2,⟨kvs[i].1,by simp [hk],hp.2.1⟩,?_,?_⟩
 ·rw [he]; exact rfl
 ·rw [he]; exact hp.2.2.2
def xA (K:Za) (tl:TE):TI:=fun σ H R=>tl σ H fun x H1=>∃d kvs,x=.ref d /\
 ((H1 d=some (.dT kvs)/\∀o,R (G3 d o (.dT kvs) kvs.length (A0 K kvs)) (upd H1 d (.frz o (.dT kvs))))∨∃o,H1 d=some (.frz o (.dT kvs))/\R (G3 d o (.dT kvs) kvs.length (A0 K kvs)) H1)
section
variable {X:Cx}{J3:Zd}{σ:St}{l:Expr}{tl:TE}{J5 J4 J7:Pos}{xs:List Expr}{kx:Nat}
theorem tM {R:It->Hp->Prop}{H2:Hp}{s1:Shared}{d:Addr}{o:Obj}{u:HO}{n:Nat}{ent:Nat->Hp->V->V->Prop}{es:Array jj}{ep:Nat}(X0:FG X.prog X.w X.K d o u n ent es ep) (hsys:(d == gA)=false) (I2:Inv X J3 σ H2 s1) (e:H2 d=some (.frz o u)) (q:R (G3 d o u n ent) H2) :
  MethodOn X.prog X.w X.A "items" J4 (.ref d) [] (fun v s2=>wpAny (model X.prog X.w) X.A (pyIter v) (IZ X J3 σ (.Tuple xs kx J7) R) X.xe s2) X.xe s1:=by
 obtain ⟨g,_⟩:=(show cA X.prog X.w X.K H2 s1.heap d (.frz o u) from I2.hok d _ e);have raw:uM s1.heap d es ep:=⟨o,g,X0.ex,X0.dat⟩;refine ⟨"dict","dict.items",F.plainAttrs_dict,F.slot_dict_items,F.type_dict_items,raw.ty,fun a z=>?_,sC rfl (PySem.evalArgs_none (C3 raw hsys ?_))⟩
 ·cases z; exact ⟨o,g,X0.ex.2.1⟩
 refine Eu (s:={ s1 with heap:=s1.heap.push { cls:=.type "dict_items",data:=.fields #[.ref d] } }) ⟨_,cL _ rfl,rfl,rfl⟩ ⟨o,bu _ g,X0.ex,X0.dat⟩ fun h' hit hk=>?_;have I3:Inv X J3 σ H2 { s1 with heap:=h',toks:=s1.toks }:=I2.kept (t':=s1.toks) fun b o e=>hk b o (bu _ e);refine ⟨_,[_],_,_,H2,rfl,I3,z6 X0,⟨_,_,by rw [<-X0.sz]; exact hit⟩,fun b hb=>?_,q⟩;have e:b=(s1.heap.push { cls:=.type "dict_items",data:=.fields #[.ref d] }).objs.size:=by simpa using hb
 subst e;have z:s1.heap.objs.size<=(s1.heap.push { cls:=.type "dict_items",data:=.fields #[.ref d] }).objs.size:=by rw [oo]; exact mL _
 exact I2.fpOk z (I2.hok.fresh z)
theorem vg (hl:PE X l tl) (hbase:rR l "items" X.env (eval l X.env)=eval l X.env:=by rfl) (hline:(J5.endLine == J4.line)=true:=by rfl):PI X (.Tuple xs kx J7) (.Call (.Attribute l "items" J5) [] [] J4) (xA X.K tl):=by
 intro J3 s σ H R I h;refine wpAny_Call_method0_late hbase hline (cF (hl J3 s σ H _ I h) fun v s1 ⟨x,H1,I1,r1,d,kvs,ex,q⟩=>?_);subst ex;cases r1;rcases q with ⟨e,q⟩ | ⟨o,e,q⟩
 ·obtain ⟨z,hsys,xs',rel,o,es,ep,ho,r⟩:=id (show cA X.prog X.w X.K H1 s1.heap d (.dT kvs) from I1.hok d _ e);have I2:Inv X J3 σ (upd H1 d (.frz o (.dT kvs))) { s1 with heap:=s1.heap,toks:=s1.toks } :=
   I1.write (x:=d) (e:=d) (t':=s1.toks) (by rw [e]; trivial) (.inl rfl) (fun _ _ _ q=>q) ⟨o,ho⟩ ⟨ho,z,hsys,xs',Paired.mapP rel (fun p q r=>⟨r.1,nP.keeps (fun b ys eb=>by rw [af (fun z=>by rw [z,e] at eb; cases eb)]; exact eb) 8 r.2.2.1 r.2.1,r.2.2⟩),o,es,ep,ho,r⟩
  obtain ⟨hsys',es',ep',X0⟩:=mf I2.hok (aa (H:=H1) (a:=d));exact tM X0 hsys' I2 aa (q o)
 ·obtain ⟨hsys',es',ep',X0⟩:=mf I1.hok e;exact tM X0 hsys' I1 e q
end
def wS (K:Za) (tk tv:TE):TE:=fun σ H Q=>∀p,H p=none->tk σ (upd H p (.dT [])) fun x H1=>tv σ H1 fun y H2=>H2 p=some (.dT [])/\∃b k,x=.ref b/\nP K H2 k (.ref b)/\k.depth<=8/\Q (.ref p) (upd H2 p (.dT [(k,y)]))
theorem vh {X:Cx}{pos:Pos}{k v:Expr}{tk tv:TE}(hu:X.A.units+16<cLine) (hk:PE X k tk) (hv:PE X v tv):PE X (.Dict [some k] [v] pos) (wS X.K tk tv):=by
 intro J3 s σ H Q I q;have hn:=I.hok.fresh (aE s.heap.objs.size);have I1:=I.laid (a:=s.heap.objs.size) (o:=.dT []) (h':=s.heap.push { cls:=.type "dict",data:=.dict #[] }) (t':=s.toks) (fun _ _ q=>bu _ q) (aE _) (zC s.heap I.big);rw [arm_eval_Dict,zip_pairTrees [some k] [v] X.env pos rfl rfl,dictDisplay_pairs (pairTrees [some k] [v] X.env pos) (by unfold pairTrees; simp) (by show 1<17; decide)];refine ak (BC (ak ?_));unfold subDict;refine ak (wpAny_alloc ?_);refine ak (k4 ?_);rw [if_pos (show (pairTrees [some k] [v] X.env pos).length<=15 from by show 1<=15; decide)];refine ak (pairTrees_cons_walk (cF (hk J3 _ σ _ _ I1 (q _ hn)) fun u s1 ⟨x,H1,I1,rx,q1⟩=>cF (hv J3 s1 σ H1 _ I1 q1) fun r s2 ⟨y,H2,I2,ry,e,b,kk,ex,eb,e8,q2⟩=>pairTrees_nil_walk ?_));subst ex;cases rx;refine k4 ?_;obtain ⟨z,hd,xs,rel,dd⟩:=Cj I2.hok I2.kIn e;cases rel;rw [pP];refine ak (ak (ak (wpAny_dictSet_heap (hsz:=cV _) (show (dS X.prog X.w).room X.A from by show X.A.units+8<cLine; omega) (tJ I2.hok I2.kIn eb e8) dd fun h' dd' hs=>aI ?_)));show wpAny _ _ (forIn [] PUnit.unit _) _ _ _;rw [List.forIn_nil];refine aI (aI (aI (aI ⟨.ref s.heap.objs.size,_,?_,rfl,q2⟩)));obtain ⟨q,es,ep,hq,h2,h3,h4,_,h5⟩:=dd';refine pf I2 (by rw [e]; exact oq) hs ⟨q,hq⟩ ⟨by show 1<=aj; decide,hd,_,((KT.put (kvs:=[]) .nil kk eb e8 ry)).keeps fun c ys ec=>?_,q,es,ep,hq,h2,h3,h4,h5⟩;rw [af (Ca ec e (fun z=>nomatch z))];exact ec
section
variable {prog:bW}{w:World}{A:Around}{E:Zc}{s:Shared}{d v it:Addr}{es:Array jj}{ep i:Nat}
theorem C2 {Q:Zc}(hd:(d == gA)=false) (h:uM s.heap d es ep)
  (q:∀h',h'.IsKeyIter s.heap.objs.size d 0 es.size ep->(∀b o,s.heap.get? b=some o->h'.get? b=some o)->Q (.ref s.heap.objs.size) { s with heap:=h' }):wpAny (model prog w) A (pyIter (.ref d)) Q E s:=by
 obtain ⟨o,ho,hx,hdat⟩:=h.ex;refine wpAny_pyIter_slot h.ty F.slot_dict_iter <| pF F.slot_dict_iter h.ty F.entry_dict_iter ?_ (F.args_dict_iter_1 _);unfold b_.«dict.__iter__»;refine ak ?_;unfold b_.Dict.dictSlotNone;refine ak <| wj h.ty <| ?_;refine aI (show wpAny _ _ (wb d >>= _) _ _ s from ?_);unfold wb;rw [if_neg (fun z=>by rw [hd] at z; cases z)];refine ak <| aI <| ak <| m_ ho hdat <| ak <| pL ho hdat ?_;refine ak (ji (aI ⟨_,rfl,"dict_keyiterator",_,⟨_,cL _ rfl,rfl⟩,r9.lookup,?_⟩));exact q _ ⟨_,cL _ rfl,rfl,by simp [rawInt]⟩ fun b o e=>bu _ e
theorem C1 {Q:Option Value->Shared->Prop}(hit:s.heap.IsKeyIter it d i es.size ep) (h:uM s.heap d es ep) (hi:i<es.size)
  (q:∀h',h'.IsKeyIter it d (i+1) es.size ep->fJ it s.heap h'->Q (some es[i].key) { s with heap:=h' }):wpAny (model prog w) A (pyNext (.ref it)) Q E s:=by
 obtain ⟨ov,hov,hcv,hdv⟩:=id hit;obtain ⟨o,ho,hx,hdat⟩:=h.ex;have hT:=hit.typeIs;unfold pyNext;refine ak <| pM <| kY (name:=kW "__next__") hT r9 <| pF r9 hT F.entry_dict_keyiterator_next ?_ (F.args_dict_keyiterator_next_1 _);refine ak <| aI <| ak <| ak ?_
 first | refine ak <| v7 hT <| aI ?_ | refine ak <| v6 hT <| aI ?_
 refine ak <| v9 hov hdv ?_;simp only [show se "dict_keyiterator"=false by decide,k_,if_false];show wpAny _ _ (if (Value.ref d == Value.none)=true then _ else _) _ _ _
 rw [if_neg (show ¬((Value.ref d == Value.none)=true) from fN)];refine ak <| aI <| ak <| m_ ho hdat ?_;rw [if_neg (by simp)];refine ak <| aI <| ak <| pL ho hdat ?_;rw [if_neg (by simp)];refine aI ?_;simp only [show ¬((i:Int)<0) from by omega,if_false,jk,Array.getElem?_eq_getElem hi];refine ak ?_
 first | refine ak <| v7 hT <| aI ?_ | refine ak <| v6 hT <| aI ?_
 refine ak <| wpAny_isOneOf_keyiter hT ?_;show wpAny _ _ (v8 (.ref it) 1 (rawInt ((i:Int)+1)) >>= _) _ _ s;refine ak <| so hov hdv (by simp) ?_;have n1:(s.heap.update it (Obj.mapFields (·.setIfInBounds 1 (rawInt ((i:Int)+1))))).IsKeyIter it d (i+1) es.size ep:=⟨_,wC _ hov (Obj.isFreed_of_fields (wt hdv _)),(Obj.cls_mapFields ..).trans hcv,by rw [wt hdv]; simp [rawInt]⟩;have T1:=Heap.IsKeyIter.typeIs (s:={ s with heap:=s.heap.update it (Obj.mapFields (·.setIfInBounds 1 (rawInt ((i:Int)+1)))) }) n1;refine ak <| k4 <| ak <| wpAny_isOneOf_keyiter T1 ?_;show wpAny _ _ (pure es[i].key) _ _ _;exact aI <| aI ⟨_,rfl,aI <| q _ n1 (kU ..)⟩
theorem Et {Q:Option Value->Shared->Prop}(hh:A.handled=none) (hit:s.heap.IsKeyIter it d i es.size ep) (h:uM s.heap d es ep) (hi:es.size<=i)
  (q:∀h',Heap.ExtBut it s.heap h'->Q none { s with heap:=h' }):wpAny (model prog w) A (pyNext (.ref it)) Q E s:=by
 obtain ⟨ov,hov,hcv,hdv⟩:=id hit;obtain ⟨o,ho,hx,hdat⟩:=h.ex;have hT:=hit.typeIs;unfold pyNext;refine ak <| pM <| kY (name:=kW "__next__") hT r9 <| pF r9 hT F.entry_dict_keyiterator_next ?_ (F.args_dict_keyiterator_next_1 _);refine ak <| aI <| ak <| ak ?_
 first | refine ak <| v7 hT <| aI ?_ | refine ak <| v6 hT <| aI ?_
 refine ak <| v9 hov hdv ?_;simp only [show se "dict_keyiterator"=false by decide,k_,if_false];show wpAny _ _ (if (Value.ref d == Value.none)=true then _ else _) _ _ _
 rw [if_neg (show ¬((Value.ref d == Value.none)=true) from fN)];refine ak <| aI <| ak <| m_ ho hdat ?_;rw [if_neg (by simp)];refine ak <| aI <| ak <| pL ho hdat ?_;rw [if_neg (by simp)];refine aI ?_;simp only [show ¬((i:Int)<0) from by omega,if_false,jk,Array.getElem?_eq_none hi];refine ak ?_
 first | refine ak <| v7 hT <| aI ?_ | refine ak <| v6 hT <| aI ?_
 show wpAny _ _ (v8 (.ref it) 0 .none >>= _) _ _ s;refine ak <| so hov hdv (by simp) ?_;show wpAny _ _ (newExc (.type "StopIteration") [] >>= _) _ _ _;refine ak ?_;simp only [newExc,newTuple];refine ak <| ji ?_ (by size_fits);refine ak (m:=pN _ _) <| wpAny_of_eq (a:=Value.none) (by first | rfl | (simp only [pN]; rfl)) <| ji ?_ (by size_fits)
 simp only [raiseNew];refine ak <| wpAny_handled ?_;rw [show A.in1.handled=none from hh];refine ak <| aI <| wpAny_throw ?_;refine ak (yg (b:=true) (T:="StopIteration") ⟨_,cL _ rfl,rfl⟩ isSubtype_stop (aI (q _ (((kU ..).extBut.push _).push _))))
end
def IG (d:Addr) (o:Obj) (u:HO) (n:Nat) (ent:Nat->Hp->V->V->Prop):It :=
 ⟨fun i H=>H d=some (.frz o u)/\i<n,fun i H x H'=>H'=H/\∃b,ent i H x b,fun i H=>H d=some (.frz o u)/\n<=i⟩
theorem CJ {P:bW}{w:World}{K:Za}{tg:Expr}{d it:Addr}{o:Obj}{u:HO}{n:Nat}{ent:Nat->Hp->V->V->Prop}{es:Array jj}{ep:Nat}(X0:FG P w K d o u n ent es ep) :
  rB P w K tg (IG d o u n ent) [it] it (fun i h=>h.IsKeyIter it d i n ep) where
 mem:=by simp
 obj:=fun i h st b hb=>by
  have e:b=it:=by simpa using hb
  subst e;obtain ⟨o,e,c,d⟩:=st;exact ⟨o,e,fun v z=>by rw [d] at z; cases z⟩
 keep:=fun i h h' st k=>st.at fun o e=>k it (by simp) o e
 item:=by
  intro X hP hw hK hc i J3 s σ H E I hf st hg;subst hP hw hK;obtain ⟨hd,hi⟩:=hg;have hi':i<es.size:=by rw [X0.sz]; exact hi
  obtain ⟨g,ou⟩:=(show cA X.prog X.w X.K H s.heap d (.frz o u) from I.hok d _ hd);obtain ⟨a,b,en,ra,rb⟩:=X0.get hi' I.hok hd;obtain ⟨f0,f1,f2,f3,f4,f5⟩:=hf it (by simp);rw [<-X0.sz] at st;refine C1 st ⟨o,g,X0.ex,X0.dat⟩ hi' fun h' st' sb=>?_;have I1:Inv X J3 σ H { s with heap:=h' }:=I.turned (t':=s.toks) (fun b o hb e=>(sb.2 b hb).trans e) f0 f1 f3 f4 f5;obtain ⟨oi,e,c,dd⟩:=id st';exact ⟨_,rfl,vC (s:={ s with heap:=h' }) e c dd (by decide) ⟨a,H,I1,ra,⟨rfl,b,en⟩,by rw [<-X0.sz]; exact st',fun b hb=>(hf b hb).1⟩⟩
 done:=by
  intro X hP hw hK hc i J3 s σ H E I hf st hg;subst hP hw hK;obtain ⟨hd,hi⟩:=hg;obtain ⟨g,ou⟩:=(show cA X.prog X.w X.K H s.heap d (.frz o u) from I.hok d _ hd);obtain ⟨f0,f1,f2,f3,f4,f5⟩:=hf it (by simp);rw [<-X0.sz] at st;exact Et (I.ok.hd hc) st ⟨o,g,X0.ex,X0.dat⟩ (by rw [X0.sz]; exact hi) fun h' eb=>⟨rfl,I.turned (t':=s.toks) (fun b o hb e=>eb b o hb e) f0 f1 f3 f4 f5⟩
 self:=fun _ _ _ _ _ st h=>wpAny_pyIter_keyiter st h
def Fd (K:Za) (tl:TE):TI:=fun σ H R=>tl σ H fun x H1=>∃d kvs,x=.ref d /\
 ((H1 d=some (.dT kvs)/\∀o,R (IG d o (.dT kvs) kvs.length (A0 K kvs)) (upd H1 d (.frz o (.dT kvs))))∨∃o,H1 d=some (.frz o (.dT kvs))/\R (IG d o (.dT kvs) kvs.length (A0 K kvs)) H1)
section
variable {X:Cx}{J3:Zd}{σ:St}{l tg:Expr}{tl:TE}
theorem vz {R:It->Hp->Prop}{H2:Hp}{s1:Shared}{d:Addr}{o:Obj}{u:HO}{n:Nat}{ent:Nat->Hp->V->V->Prop}{es:Array jj}{ep:Nat}(X0:FG X.prog X.w X.K d o u n ent es ep) (hsys:(d == gA)=false) (I2:Inv X J3 σ H2 s1) (e:H2 d=some (.frz o u)) (q:R (IG d o u n ent) H2) :
  wpAny (model X.prog X.w) X.A (pyIter (.ref d)) (IZ X J3 σ tg R) X.xe s1:=by
 obtain ⟨g,_⟩:=(show cA X.prog X.w X.K H2 s1.heap d (.frz o u) from I2.hok d _ e);refine C2 hsys ⟨o,g,X0.ex,X0.dat⟩ fun h' hit hk=>?_;have I3:Inv X J3 σ H2 { s1 with heap:=h',toks:=s1.toks }:=I2.kept (t':=s1.toks) hk;refine ⟨_,[_],_,_,H2,rfl,I3,CJ X0,by rw [<-X0.sz]; exact hit,fun b hb=>?_,q⟩;have e:b=s1.heap.objs.size:=by simpa using hb
 subst e;exact I2.fpOk (aE _) (I2.hok.fresh (aE _))
theorem ED (hl:PE X l tl):PI X tg l (Fd X.K tl):=by
 intro J3 s σ H R I h;refine cF (hl J3 s σ H _ I h) fun v s1 ⟨x,H1,I1,r1,d,kvs,ex,q⟩=>?_;subst ex;cases r1;rcases q with ⟨e,q⟩ | ⟨o,e,q⟩
 ·obtain ⟨z,hsys,xs',rel,o,es,ep,ho,r⟩:=id (show cA X.prog X.w X.K H1 s1.heap d (.dT kvs) from I1.hok d _ e);have I2:Inv X J3 σ (upd H1 d (.frz o (.dT kvs))) { s1 with heap:=s1.heap,toks:=s1.toks } :=
   I1.write (x:=d) (e:=d) (t':=s1.toks) (by rw [e]; trivial) (.inl rfl) (fun _ _ _ q=>q) ⟨o,ho⟩ ⟨ho,z,hsys,xs',Paired.mapP rel (fun p q r=>⟨r.1,nP.keeps (fun b ys eb=>by rw [af (fun z=>by rw [z,e] at eb; cases eb)]; exact eb) 8 r.2.2.1 r.2.1,r.2.2⟩),o,es,ep,ho,r⟩
  obtain ⟨hsys',es',ep',X0⟩:=mf I2.hok (aa (H:=H1) (a:=d));exact vz X0 hsys' I2 aa (q o)
 ·obtain ⟨hsys',es',ep',X0⟩:=mf I1.hok e;exact vz X0 hsys' I1 e q
end
end L2
end

section
set_option Elab.async false
set_option linter.all false
set_option maxRecDepth 100000
namespace HT
open PySem PySem.Spec PyProof.Rows
end HT
namespace L2
open PySem PySem.Spec PyProof.Rows
end L2
namespace HT
open PySem PySem.Spec PyProof.Rows
end HT
namespace L2
open PySem PySem.Spec PyProof.Rows
end L2
end

section
set_option Elab.async false
set_option linter.all false
set_option maxRecDepth 100000
namespace HT
open PySem PyProof.Rows
section
open PySem.SeqAt
open PySem.AutoSeq1 (wpAny_loadPart')
open PySem.MeetsSeq PySem.MeetsSeq2 PySem.MeetsSeq3
theorem ints_drop {its:Zf}{i:Nat}{ns:List Int}(h:fS (its.drop i) ns):(ns=[]/\its.length<=i)∨∃a t r,its[i]?=some (.int a t)/\ns=a::r/\fS (its.drop (i+1)) r:=by
 rcases eE i its.length with z | z
 ·rw [sf z] at h;generalize e:its[i]=v at h;cases h with
  | cons a t h'=>exact .inr ⟨a,t,_,by rw [bE z,e],rfl,h'⟩
 ·rw [List.drop_eq_nil_of_le z] at h;cases h;exact .inl ⟨rfl,z⟩
theorem lt_loop (l b:Addr) (its its2:Zf) (n n2:Nat) (dd dd2:Option Addr) (sl sl2:Array (Option Value)):∀(ns ms:List Int) (i:Nat),fS (its.drop i) ns->fS (its2.drop i) ms->its.length+ms.length=its2.length+ns.length ->
  Meets (b_.«list.__eq__.loop» ⟨[.ref l,.ref b,rawInt i,rawInt 0],[]⟩)
   (fun _ R s=>s.heap.get? l=some { cls:=.type "list",dict:=dd,data:=.seq its.toArray n,slots:=sl }/\s.heap.get? b=some { cls:=.type "list",dict:=dd2,data:=.seq its2.toArray n2,slots:=sl2 }/\R (.ok (.ret (.bool (lexLt ns ms)))) s):=by
 intro ns
 induction ns with
 | nil =>
  intro ms i h1 h2 hz prog w A R s h;obtain ⟨hp,g,d,tk,os⟩:=s; obtain ⟨hl,hb,h⟩:=h
  wp_walk using hV hl,hV hb
  rcases ints_drop h1 with ⟨_,z⟩ | ⟨_,_,_,_,e,_⟩
  ·have e1:its.toArray[((i:Nat):Int).toNat]?=none:=by simp; omega
   rw [e1]
   wp_walk using hV hl,hV hb
   show R (.ok (.ret (.bool (decide (its.toArray.size<its2.toArray.size))))) _;have e2:decide (its.toArray.size<its2.toArray.size)=lexLt [] ms:=by
    simp only [bI];cases ms with
    | nil=>exact zzr0 (by simp at hz; omega)
    | cons m ms=>exact zzr1 (by simp at hz; omega)
   rw [e2]; exact h
  ·cases e
 | cons a ns ih =>
  intro ms i h1 h2 hz prog w A R s h;obtain ⟨hp,g,d,tk,os⟩:=s; obtain ⟨hl,hb,h⟩:=h
  wp_walk using hV hl,hV hb
  rcases ints_drop h1 with ⟨e,_⟩ | ⟨a',t,r,g1,e,h1'⟩
  ·cases e
  cases e;have e1:its.toArray[((i:Nat):Int).toNat]?=some (.int a t):=by simpa using g1
  rw [e1];rcases ints_drop h2 with ⟨e,z⟩ | ⟨c,u,r2,g2,e,h2'⟩
  ·subst e;have e2:its2.toArray[((i:Nat):Int).toNat]?=none:=by simp; omega
   rw [e2]
   wp_walk using hV hl,hV hb
   show R (.ok (.ret (.bool (decide (its.toArray.size<its2.toArray.size))))) _;rw [zzr0 (by simp only [bI]; simp at hz; omega)];exact h
  subst e;have e2:its2.toArray[((i:Nat):Int).toNat]?=some (.int c u):=by simpa using g2
  rw [e2];rw [lexLt_cons] at h;obtain ⟨e,he,hiff⟩:=eqAt_int A.in1 ⟨hp,g,d,tk,os⟩ a t c u;refine ak (he prog w _ _ ?_);have hc:((i:Int)+1)=((i+1:Nat):Int):=by push_cast; rfl
  cases e with
  | true =>
   rw [if_pos (hiff.mp rfl)] at h
   wp_walk
   rw [hc];exact ⟨wc plain_eq_loop _,wg entry_eq_loop (by
    rw [wf plain_eq_loop _];exact ih r2 (i+1) h1' h2' (by simp at hz; omega) prog w A R _ ⟨hl,hb,h⟩)⟩
  | false =>
   rw [if_neg (fun q=>absurd (hiff.mpr q) fN)] at h
   wp_walk using hV hl,hV hb
   rw [e1,e2];have hri:=rcLt_int A.in1 ⟨hp,g,d,tk,os⟩ a t c u prog w
   wp_walk using hri
   exact h
theorem list_lt_ints (l b:Addr) (its its2:Zf) (n n2:Nat) (dd dd2:Option Addr) (sl sl2:Array (Option Value)) (ns ms:List Int) (h1:fS its ns) (h2:fS its2 ms) :
  Meets (b_.«list.__lt__» ⟨[.ref l,.ref b],[]⟩)
   (fun _ R s=>s.heap.get? l=some { cls:=.type "list",dict:=dd,data:=.seq its.toArray n,slots:=sl }/\s.heap.get? b=some { cls:=.type "list",dict:=dd2,data:=.seq its2.toArray n2,slots:=sl2 }/\R (.ok (.ret (.bool (lexLt ns ms)))) s):=by
 intro prog w A R s h;obtain ⟨hp,g,d,tk,os⟩:=s; obtain ⟨hl,hb,h⟩:=h;have f2:=AutoSeq1.sub_list_list
 wp_walk using hV hl,hV hb
 exact ⟨wc plain_eq_loop _,wg entry_eq_loop (by
  rw [wf plain_eq_loop _];exact lt_loop l b its its2 n n2 dd dd2 sl sl2 ns ms 0 h1 h2 (by rw [<-h1.length,<-h2.length]; omega) prog w A R _ ⟨hl,hb,h⟩)⟩
end
end HT
namespace L2
open PySem PySem.Spec PyProof.Rows
section
variable {X:Cx}
def Gq (K:Za):R2:=fun x y H Q=>∃a b ns ms,x=.ref a/\y=.ref b/\az K H a (ns.map V.int)/\az K H b (ms.map V.int)/\Q (.bl (HT.lexLt ns ms)) H
theorem HE (hu:X.A.units+16<cLine):oj X (eD .Lt) (Gq X.K):=by
 intro J3 s σ H x y v u Q I rx ry h;obtain ⟨a,b,ns,ms,rfl,rfl,ha,hb,q⟩:=h;cases rx;cases ry;obtain ⟨its,r1,p1,_⟩:=I.list ha;obtain ⟨its2,r2,p2,_⟩:=I.list hb;have i1:fS its ns:=intsAre_of r1;have i2:fS its2 ms:=intsAre_of r2;obtain ⟨⟨cls,dd,data,sl⟩,n,ho,hc,hd,he⟩:=id p1;obtain ⟨⟨cls2,dd2,data2,sl2⟩,n2,ho2,hc2,hd2,he2⟩:=id p2;simp only at hc hd hc2 hd2 he he2;subst hc hd hc2 hd2 he he2;exact richCompare_meets_room (op:=.Lt) ⟨_,ho,rfl⟩ ⟨_,ho2,rfl⟩ PySem.F.slot_list_lt PySem.F.entry_list_lt (PySem.F.args_list_lt_2 _ _) (HT.list_lt_ints a b its its2 n n2 none none sl sl2 ns ms i1 i2)
  ⟨ho,ho2,show Value.bool (HT.lexLt ns ms)≠Value.notImplemented/\_ from ⟨(fun x=>nomatch x),.bl _,H,I,rfl,q⟩⟩ (by omega)
def BP (K:Za):V->List V->Hp->VK->Prop:=fun x vs H Q=>∃l y xs d ds j,x=.ref l/\vs=[y]/\H l=some (.lst xs)/\DIns K H ds xs/\jc K H d y/\d.depth<=8/\DT.depths ds<=8/\xs.length<=1000/\ds[j]?=some d/\(∀m,m<j->ds[m]?≠some d)/\Q (.int (j:Nat)) H
theorem zF {h:Heap}:∀{ks:List DT}{us:Zf}{i:Nat}{k:DT},DAts h ks us->ks[i]?=some k->∃u,us[i]?=some u/\pE h k u
 | [],_,_,_,_,e=>by cases e
 | k::ks,us,0,_,q,e=>by
  obtain ⟨v,us',rfl,h1,_⟩:=q;cases e;exact ⟨v,rfl,h1⟩
 | k::ks,us,i+1,_,q,e=>by
  obtain ⟨v,us',rfl,_,h2⟩:=q;rw [List.getElem?_cons_succ] at e;obtain ⟨u,h3,h4⟩:=zF h2 e;exact ⟨u,by rw [List.getElem?_cons_succ]; exact h3,h4⟩
open Classical in
theorem C9 (hu:X.A.units+16<cLine):Hj X "list.index" (BP X.K):=by
 intro J3 s σ H x vs v us Q I rx rv h;obtain ⟨l,y,xs,d,ds,j,rfl,rfl,hH,hds,hd,d8,ds8,hz,hj,hno,q⟩:=h;cases rx;obtain ⟨u,rfl,ru⟩:=rv.one;obtain ⟨z,its,n,r,hl,e⟩:=I.lstM hH;have hu':X.A.in1.units+8<cLine:=by show X.A.units+1+8<cLine; omega
 have dv:=lK I 8 d8 hd ru;have hi:=ml I ds8 hds r;have lz:ds.length=its.length:=DAts.length hi;have jl:j<its.length:=by rw [<-lz]; exact (bP.1 hj).1
 have at_:∀m (hm:m<its.length),pE s.heap (ds[m]'(by omega)) its[m]:=fun m hm=>by
  obtain ⟨w,hw,q⟩:=zF hi (i:=m) (bE (by omega));rw [bE hm] at hw;injection hw with hw;rw [hw]; exact q
 refine nq F.slot_list_index ⟨_,e,rfl⟩ F.entry_list_index (F.args_list_index_2 _ _)
  (SeqAt.list_indexAt l its.toArray n none #[] u (fun w=>@decide (pE s.heap d w) (propDecidable _)) j (by simpa using jl) (by omega) ?_ ?_) ⟨e,fun w hw=>qe d8 hu' dv hi ds8 w (by simpa using hw),?_⟩
 ·refine zzr1 ?_;have:=at_ j jl;rw [(bP.1 hj).2] at this;simpa using this
 ·intro m hm lt;have hm':m<its.length:=by simpa using hm
  refine zzr0 fun q=>hno m lt ?_;have e1:=pE.inj 8 d8 (by simpa using q) (at_ m hm');rw [bE (by omega),<-e1]
 ·exact ⟨.int (j:Nat),H,I.tok _,⟨_,rfl⟩,q⟩
end
abbrev Il:List V->Hp->VK->Prop:=fun xs H Q=>∃i j,xs=[.int i,.int j]/\Q (.int (if j > i then j else i)) H
end L2
end
set_option Elab.async false
set_option linter.all false
set_option maxRecDepth 100000
set_option maxHeartbeats 4000000
namespace Mum
open PySem PySem.Spec PyProof.Rows L2
def wO (K:Za) :TS :=
 ap (cx (aO (aD rGeI V0 (aD G9 (tC (.int 10)) (tC (.int 18))))) (bB V0) (bG))
 (ap (aK (aD hC (aD eA (aD eA (aD i4 (aD hC V0 (tC (.int 1000000007))) (tC (.int 69069))) (aD i4 V1 (tC (.int 40503)))) (tC (.int 977))) (tC (.int 2147483629))) U2)
 (ap (aK (aD hC (aD eA (aD eA (aD i4 V2 V2) (aD i4 V1 (tC (.int 7919)))) (aD hC V0 (tC (.int 65537)))) (tC (.int 2147483587))) U3)
 (ap (aK (aD hC (aD eA (aD eA (aD i4 V3 V3) (aD i4 V2 (tC (.int 31)))) (tC (.int 5))) (tC (.int 2147483563))) U4)
 (bB (aD eA (aD i4 (aD eA (aD i4 V2 (tC (.int 2147483659))) V3) (tC (.int 2147483693))) V4)))))
def xS:List Str:=["cell","at","one","two","three"]
def Ad (K:Za) :TS :=
 ap (aK (fu (dD K) (aA (vc (lC K) V0 (da) (eF (tC (.int 12)))))) U1)
 (ap (eC (qU K (aA (vc (lC K) V0 (eF (tC (.int 12))) (eF (tC (.int 63)))))) (fG K 2 (aN U2 (aN U3 (fy)))) (aK (aD eA (aD (cU K) V1 (aD hC V2 (tC (.int 12)))) V3) (AY V1 (aD hC V2 (tC (.int 12))) tj)))
 (bB (cq (eU V1 (tC (.int 0)) (tC (.int 0))))))
def Bm:List Str:=["script","cells","k","cell"]
def Ag (K:Za) :TS :=
 ap (aK (tC (.int 0)) (AY V0 (tC (.int 2)) tj))
 (bB V0)
def Bp:List Str:=["pen"]
def Ac (K:Za) (sp_law_spread:Sp):TS :=
 ap (cx (aO (aD C4 (aD (cU K) V0 (tC (.int 2))) V1)) (ap (aK (aD (cU K) V0 (tC (.int 1))) U2)
 (ap (aK (tC (.int 0)) U3)
 (ap (cx (aO (aD C4 V2 (fu (d9 K) (aA (aD (cU K) V0 (tC (.int 0))))))) (aK (aD (cU K) (aD (cU K) V0 (tC (.int 0))) V2) U3) (cx (aO (aD Ey (fu (d9 K) (aA (aD (cU K) V0 (tC (.int 0))))) (tC (.int 0)))) (aK (aD hC (aD (cU K) (aD (cU K) V0 (tC (.int 0))) (aD hC (aD eA (aD i4 V2 (tC (.int 5))) (tC (.int 3))) (fu (d9 K) (aA (aD (cU K) V0 (tC (.int 0))))))) (aD eA (aD G9 (tC (.int 10)) (tC (.int 17))) V2)) U3) (bG)))
 (ap (aK (aD eA V2 (tC (.int 1))) (AY V0 (tC (.int 1)) tj))
 (aK (aM sp_law_spread (aS V3 V2)) (AY V0 (tC (.int 2)) tj)))))) (bG))
 (ap (aK (aD hC (aD (cU K) V0 (tC (.int 2))) V1) U4)
 (ap (aK (aD vf (aD (cU K) V0 (tC (.int 2))) V1) (AY V0 (tC (.int 2)) tj))
 (bB V4)))
def Bl:List Str:=["pen","many","at","cell","found"]
def yr (K:Za) (sp_law_take:Sp):TS :=
 ap (aK (tC (.str "abcdefghijklmnopqrstuvwxyz")) U2)
 (ap (aK (oG K "str" (G_ K) (tC (.str "")) (ar (dC 1 [2,0] (vB (aA (tC (.int 7)))) U0 (j5) (aD Ex V1 (aM sp_law_take (aS V2 (tC (.int 26)))))) aT)) U3)
 (ap (aK (aM sp_law_take (aS V0 (tC (.int 3)))) U4)
 (ap (aK (aM sp_law_take (aS V0 (tC (.int 26)))) U5)
 (ap (aK (aM sp_law_take (aS V0 (tC (.int 8)))) U6)
 (ap (aK (cq (aT)) U7)
 (ap (eC (vB (aA V1)) U8 (ap (aK (aD Ex V2 (aD hC (aD eA V5 (aD i4 (tC (.int 3)) V8)) (tC (.int 26)))) U9)
 (ap (aK (vc Gp V3 (da) (eF (aD hC (aD eA V6 (aD i4 V8 (aD hC V4 (tC (.int 2))))) (tC (.int 8))))) H_)
 (ap (aK (aD (cU K) (cq (eU (tC (.int 0)) (fu (d9 K) (aA DN)) (aD vf (fu (d9 K) (aA DN)) (tC (.int 2))))) V4) IB)
 (bH (oG K "list" bX V7 (aA (aD Ha (aD Ha (vc Gp DN (da) (eF HY)) V9) (vc Gp DN (eF HY) (da))))))))))
 (bB V7)))))))
def zR:List Str:=["pen","many","letters","base","way","turn","size","found","k","sign","part","at"]
def CN (K:Za) :TS :=
 cx (aO (aD (oW K true) V1 V0)) (bH (oG K "list" bX V0 (aA V1))) (bG)
def DB:List Str:=["doors","door"]
def pV (K:Za) (sp_law_take:Sp) (sp_law_put:Sp):TS :=
 ap (aK (cq (aT)) U5)
 (ap (aK (aM sp_law_take (aS V0 (tC (.int 2)))) U6)
 (ap (eC (qU K (aA V3)) (fG K 2 (aN U7 (aN U8 (fy)))) (ap (eC (vB (ar (aD (cU K) (cq (ar (tC (.int 0)) (eU (tC (.int 1)) (tC (.int 1)) (tC (.int 2))))) (aM sp_law_take (aS V0 (tC (.int 4))))) aT)) U9 (ap (aK (be (ar (tC (.str "say")) (ar (aD (cU K) V2 (aM sp_law_take (aS V0 (fu (d9 K) (aA V2))))) aT))) H_)
 (bH (aM sp_law_put (ar V5 (ar (be (ar V8 (ar DN (ar (aD (cU K) V3 (aM sp_law_take (aS V0 (fu (d9 K) (aA V3))))) aT)))) aT))))))
 (ap (eC (cb K V1) IB (eC (vB (ar (aD (cU K) (cq (ar V4 (eU (tC (.int 1)) (tC (.int 1)) (tC (.int 2))))) (aM sp_law_take (aS V0 (tC (.int 4))))) aT)) U9 (bH (aM sp_law_put (ar V5 (ar (be (ar V8 (ar (be (aS (tC (.str "ask")) HY)) (ar (aD (cU K) V3 (aM sp_law_take (aS V0 (fu (d9 K) (aA V3))))) aT)))) aT))))))
 (ap (aK (aD (cU K) (cq (ar (vc (lC K) V3 (eF (aD eA V7 (tC (.int 1)))) (da)) (aA (vc (lC K) V3 (da) (eF V7))))) V6) IW)
 (cx (mB (aO (aD (p9 K) DM (cq (aT)))) (aO (aD AA (aM sp_law_take (aS V0 (tC (.int 3)))) (tC (.int 0))))) (bH (aM sp_law_put (ar V5 (ar (be (ar V8 (ar (be (aA (tC (.str "still")))) (ar (aD (og K) DM (aM sp_law_take (aS V0 (fu (d9 K) (aA DM))))) aT)))) aT)))) (bG))))))
 (bB V5)))
def qt:List Str:=["pen","asks","says","rooms","full","doors","down","k","room","turn","sign","ask","later"]
def yt (K:Za) (sp_law_draw_doors:Sp) (sp_law_names:Sp) (sp_law_take:Sp) (sp_law_anew:Sp):TS :=
 ap (bH (aM sp_law_anew (aA V0)))
 (ap (aK (aM sp_law_names (aS V0 (tC (.int 8)))) U3)
 (ap (aK (vc (lC K) V3 (da) (eF (aD eA (tC (.int 1)) (aD (cU K) (cq (ar (tC (.int 0)) (ar (tC (.int 1)) (ar (tC (.int 1)) (eU (tC (.int 2)) (tC (.int 2)) (tC (.int 3))))))) (aM sp_law_take (aS V0 (tC (.int 6)))))))) U4)
 (ap (aK (vc (lC K) V3 (eF (tC (.int 4))) (eF (aD eA (tC (.int 5)) (aD (cU K) (cq (ar (tC (.int 0)) (ar (tC (.int 1)) (ar (tC (.int 1)) (eU (tC (.int 2)) (tC (.int 2)) (tC (.int 3))))))) (aM sp_law_take (aS V0 (tC (.int 6)))))))) U5)
 (ap (aK (aM sp_law_names (aS V0 (aD eA (tC (.int 1)) (aM sp_law_take (ar V0 (aA V1)))))) U6)
 (ap (aK (aM sp_law_draw_doors (ar V0 (ar V4 (eU V5 V6 V2)))) U7)
 (bB (be (ar V4 (eU V5 V6 V7)))))))))
def zS:List Str:=["pen","most","full","words","asks","says","rooms","doors"]
def uo (K:Za) (C_Machine:Addr) (sp_Machine_init:Sp):TS :=
 bB (yu C_Machine sp_Machine_init [] E0 (ar (fu (dD K) (aA (aD (og K) V0 (tC (.int 0))))) (ar (fu (dD K) (aA (aD (og K) V0 (tC (.int 1))))) (ar (fu (dD K) (aA (aD (og K) V0 (tC (.int 2))))) (ar (fu (dD K) (aA (aD (og K) V0 (tC (.int 3))))) aT)))))
def uT:List Str:=["told"]
def CP (K:Za) :TS :=
 bB (Ed (aD Hu V0 (tC (.str ""))) (Ed (aD rLeI (fu (d9 K) (aA V0)) (tC (.int 8))) (fu (Im K) (aA (dC 1 [] (Iu V0) U0 (j5) (aD rInS V0 (tC (.str "abcdefghijklmnopqrstuvwxyz"))))))))
def DD:List Str:=["text"]
def CQ (K:Za) :TS :=
 ap (aK (p4) U1)
 (ap (eC (cb K V0) U2 (kL V1 V2 (tC (.bl true))))
 (bB V1))
def DE:List Str:=["things","keys","thing"]
def nA (K:Za) (sp_is_name:Sp) (sp_as_keys:Sp):TS :=
 ap (cx (aO (aD AA (fu (d9 K) (aA V0)) (tC (.int 0)))) (bB (tC (.int 0))) (bG))
 (ap (aK (aM sp_as_keys (aA V2)) U3)
 (ap (eC (qU K (aA V0)) (fG K 2 (aN U4 (aN U5 (fy)))) (ap (cx (D_ (aO (aD AA V4 V1)) (D_ (tB (An K V5 V3)) (Ho (tB (aM sp_is_name (aA V5)))))) (bB V4) (bG))
 (kL V3 V5 (tC (.bl true)))))
 (bB (tC .non))))
def nS:List Str:=["names","most","taken","ahead","number","name"]
def wR (K:Za) (a_STILL:Addr):TS :=
 bB (aD kQ (aD kQ (dC 1 [] (cb K V0) U0 (j5) (be (aS (tC (.str "ask")) V0))) (dC 1 [] (cb K V1) U0 (j5) (be (aS (tC (.str "say")) V0)))) (cq (aA (tC (.ref a_STILL)))))
def xV:List Str:=["asks","says"]
def nB (K:Za) (sp_as_keys:Sp):TS :=
 ap (aK (aM sp_as_keys (aA V1)) U3)
 (ap (aK (lp) U4)
 (ap (eC (qU K (aA V0)) (fG K 2 (aN U5 (aN U6 (fy)))) (ap (cx (D_ (aO (aD AA V5 (tC (.int 2000)))) (tB (An K V6 V4))) (bB V5) (bG))
 (ap (cx (D_ (tB (eV K (aD (og K) V6 (tC (.int 0))) V3)) (D_ (aO (aD (oW K true) (aD (og K) V6 (tC (.int 1))) V2)) (tB (eV K (aD (og K) V6 (tC (.int 2))) V3)))) (bB V5) (bG))
 (kL V4 V6 (tC (.bl true))))))
 (bB (tC .non))))
def nT:List Str:=["doors","rooms","signs","own_rooms","ahead","number","door"]
def iU (K:Za) :TS :=
 ap (aK (lp) U1)
 (ap (eC (cb K V0) (fG K 3 (aN U2 (aN U3 (aN U4 (fy))))) (bH (oG K "list" bX (oG K "dict" BO V1 (aS (be (ar V2 (aA V3))) (cq (aT)))) (aA V4))))
 (bB V1))
def iX:List Str:=["doors","goals","start","sign","goal"]
def sH (K:Za) (a_STILL:Addr):TS :=
 ap (aK (p4) U2)
 (ap (aK (cq (aA V1)) U3)
 (ap (nG (aO (aD Ey (fu (d9 K) (aA V3)) (tC (.int 0)))) (ap (aK (FV K "list" Ht V3) U4)
 (eC (Iv K (sT K V0 (be (aS V4 (tC (.ref a_STILL)))) (be (aT)))) U5 (cx (tB (eV K V5 V2)) (ap (kL V2 V5 (tC (.bl true)))
 (bH (oG K "list" bX V3 (aA V5)))) (bG)))))
 (bB V2)))
def t4:List Str:=["goals","room","led","waiting","here","goal"]
def oA (K:Za) :TS :=
 ap (eC (qU K (aA V0)) (fG K 2 (aN U2 (aN U3 (fy)))) (cx (tB (An K V3 (fU K V1 V3))) (bB V2) (bG)))
 (bB (tC .non))
def pA:List Str:=["rooms","led","number","room"]
def yo (K:Za) :TS :=
 cx (tB (Ea V1)) (sM) (bG)
def zP:List Str:=["part","number"]
def wM (K:Za) (sp_need_none:Sp) (sp_first_wrong_door:Sp) (sp_door_signs:Sp) (sp_first_wrong_name:Sp):TS :=
 ap (bH (aM sp_need_none (aS (tC (.str "asks")) (aM sp_first_wrong_name (eU V0 (tC (.int 4)) (cq (aT)))))))
 (ap (bH (aM sp_need_none (aS (tC (.str "says")) (aM sp_first_wrong_name (eU V1 (tC (.int 4)) V0)))))
 (ap (bH (aM sp_need_none (aS (tC (.str "rooms")) (aM sp_first_wrong_name (eU V2 (tC (.int 150)) (cq (aT)))))))
 (bH (aM sp_need_none (ar (tC (.str "doors")) (aA (aM sp_first_wrong_door (eU V3 V2 (aM sp_door_signs (aS V0 V1))))))))))
def xQ:List Str:=["asks","says","rooms","doors"]
def pX (K:Za) :TS :=
 ap (aK (p4) U2)
 (ap (eC (cb K V0) U3 (kL V2 V3 (cq (aT))))
 (ap (eC (cb K V1) U4 (bH (oG K "list" bX (fU K V2 (aD (og K) V4 (tC (.int 0)))) (aA V4))))
 (bB V2)))
def qw:List Str:=["rooms","doors","leaving","room","door"]
def pW (K:Za) :TS :=
 bB (fu (Im K) (ar (dC 1 [] (cb K V0) U0 (j5) (aD AA (aD (og K) (aD (og K) V0 (tC (.int 1))) (tC (.int 0))) (tC (.str "ask")))) aT))
def qv:List Str:=["doors"]
def nE (K:Za) (sp_need_none:Sp) (sp_first_led_round:Sp) (sp_led_by_still:Sp) (sp_goals_by_start_and_sign:Sp) (sp_as_keys:Sp) (sp_has_asks_alone:Sp) (sp_doors_by_start:Sp) (sp_need_parts:Sp):TS :=
 ap (bH (aM sp_need_parts (ar V1 (eU V2 V3 V4))))
 (ap (oQ K V0 (fu (dD K) (aA V1)) "own_asks")
 (ap (oQ K V0 (fu (dD K) (aA V2)) "own_says")
 (ap (oQ K V0 (fu (dD K) (aA V3)) "own_rooms")
 (ap (oQ K V0 (fu (dD K) (aA V4)) "own_doors")
 (ap (oQ K V0 (aM sp_doors_by_start (aS V3 V4)) "leaving")
 (ap (oQ K V0 (aM sp_as_keys (ar (dC 1 [0] (cb K V3) U0 (tB (aM sp_has_asks_alone (aA (fU K (fT K V1 "leaving") V0)))) V0) aT)) "quiet")
 (ap (oQ K V0 (aM sp_goals_by_start_and_sign (aA V4)) "sign_goals")
 (ap (oQ K V0 (fu (Gr K) (ar (dC 1 [0] (cb K V3) U0 (j5) (be (aS V0 (aM sp_led_by_still (ar (fT K V1 "sign_goals") (aA V0)))))) aT)) "still_led")
 (bH (aM sp_need_none (aS (tC (.str "still")) (aM sp_first_led_round (ar V3 (aA (fT K V0 "still_led")))))))))))))))
def nW:List Str:=["self","asks","says","rooms","doors"]
def nD (K:Za) :TS :=
 bB (An K V1 (fT K V0 "quiet"))
def nV:List Str:=["self","room"]
def mP (K:Za) (sp_with_still:Sp) (C_Machine:Addr) (sp_Machine_goals:Sp) (a_HUSH:Addr) (sp_Machine_is_quiet:Sp):TS :=
 ap (cx (aO (aD (jn K) V2 (tC (.ref a_HUSH)))) (bB (fu (BN K) (aA (dC 1 [0] (GH K V1) U0 (tB (dB C_Machine "is_quiet" sp_Machine_is_quiet [] E0 V1 (aA V0))) V0)))) (bG))
 (ap (aK (cq (aT)) U3)
 (ap (eC (GH K V1) U4 (bH (oG K "list" BQ V3 (aA (dB C_Machine "goals" sp_Machine_goals [] E0 V0 (aS V4 V2))))))
 (bB (aM sp_with_still (aS V0 V3)))))
def mS:List Str:=["M","face","sign","goals","room"]
def cX (p:Addr) (H H':Hp):Prop:=∀b o,H b=some o->b≠p->H' b=some o
theorem cX.refl (p:Addr) (H:Hp):cX p H H:=fun _ _ h _=>h
theorem cX.trans {p:Addr}{H H1 H2:Hp}(a:cX p H H1) (b:cX p H1 H2):cX p H H2:=fun c o h n=>b c o (a c o h n) n
theorem ab.exB {p:Addr}{H H':Hp}(a:ab H H'):cX p H H':=fun b o h _=>a b o h
theorem cX.upd (p:Addr) (H:Hp) (o:HO):cX p H (upd H p o):=fun b u h n=>by rw [af n]; exact h
theorem ab.new {H:Hp}{a:Addr}{o:HO}(h:H a=none):ab H (upd H a o):=fun b u e=>by rw [af (ae e h)]; exact e
theorem cX.free {p:Addr}{H H':Hp}(e:cX p H H') {u:HO}(hp:H' p=some u) {l:Addr}(h:H' l=none):H l=none:=by
 cases q:H l with
 | none=>rfl
 | some o =>
  by_cases z:l=p
  ·subst z; rw [hp] at h; cases h
  ·rw [e l o q z] at h; cases h
theorem kp {H:Hp}{a b:Addr}{o x:HO}(h:H b=some o) (n:H a=none):upd H a x b=some o:=by rw [af (ae h n)]; exact h
structure Cz (H:Hp) (p c:Addr) (at_ rest:Int) (ns:List Int):Prop where
 pen:H p=some (.lst [.ref c,.int at_,.int rest])
 cells:H c=some (.lst (ns.map V.int))
 at0:0<=at_
 rest0:0<=rest
theorem Cz.ne {H:Hp}{p c:Addr}{a r:Int}{ns:List Int}(h:Cz H p c a r ns):c≠p:=by
 intro e;have h1:=h.pen;have h2:=h.cells;rw [e,h1] at h2;injection h2 with h2;injection h2 with h2;cases ns with
 | nil=>cases h2
 | cons n ns=>injection h2 with h2; cases h2
def gC (H:Hp) (p c:Addr):Prop:=∃a r ns,Cz H p c a r ns
theorem gC.ex {H H':Hp}{p c:Addr}(h:gC H p c) (e:ab H H'):gC H' p c:=by
 obtain ⟨a,r,ns,h1,h2,h3,h4⟩:=h;exact ⟨a,r,ns,e _ _ h1,e _ _ h2,h3,h4⟩
theorem gC.pen {H:Hp}{p c:Addr}(h:gC H p c):∃o,H p=some o:=by
 obtain ⟨a,r,ns,h1,_⟩:=h;exact ⟨_,h1⟩
theorem gC.cell {H:Hp}{p c:Addr}(h:gC H p c):∃o,H c=some o:=by
 obtain ⟨a,r,ns,_,h1,_⟩:=h;exact ⟨_,h1⟩
theorem gC.upd {H:Hp}{p c l:Addr}{o:HO}(h:gC H p c) (h1:p≠l) (h2:c≠l):gC (upd H l o) p c:=by
 obtain ⟨a,r,ns,g1,g2,g3,g4⟩:=h;exact ⟨a,r,ns,by rw [af h1]; exact g1,by rw [af h2]; exact g2,g3,g4⟩
theorem gC.nep {H:Hp}{p c l:Addr}(h:gC H p c) (hl:H l=none):p≠l:=let ⟨_,e⟩:=h.pen; ae e hl
theorem gC.nec {H:Hp}{p c l:Addr}(h:gC H p c) (hl:H l=none):c≠l:=let ⟨_,e⟩:=h.cell; ae e hl
theorem cX.new {p:Addr}{H:Hp}{a:Addr}{o:HO}(h:H a=none):cX p H (L2.upd H a o):=fun b u e _=>by rw [af (ae e h)]; exact e
inductive lT  (vs:List V) (H:Hp) (Q:VK) (E:XK):Prop
 | mk (c a:Int):(vs=[.int c,.int a])->(0<=a)->(∀r:Int,0<=r->Q (.int r) H)->lT  vs H Q E
theorem pi {i j:Int}(h1:-(2 ^ 64)<j) (h2:j<2 ^ 64):FH i j:=.inr ⟨h1,h2⟩
theorem CW {K:Za}{vs:List V}{H:Hp}{Q:VK}{E:XK}(h:lT vs H Q E):wO K (bJ Q) (start xS vs) H:=by
 obtain ⟨c,a,rfl,ha,k⟩:=h;refine ⟨_,rfl,_,_,rfl,rfl,⟨by decide,by decide,by decide⟩,_,_,rfl,rfl,_,rfl,?_⟩;refine iN (fun h=>?_) (fun _=>?_)
 ·refine ⟨_,rfl,k _ ?_⟩;have:=of_decide_eq_true h;have e:((10:Int) ^ (18:Int).toNat)=1000000000000000000:=by decide
  omega
 ·have one:∀z:Int,0<=z % 2147483629/\z % 2147483629<2147483629:=fun z=>⟨m9 _ (by decide),m8 _ (by decide)⟩;have two:∀z:Int,0<=z % 2147483587/\z % 2147483587<2147483587:=fun z=>⟨m9 _ (by decide),m8 _ (by decide)⟩;have three:∀z:Int,0<=z % 2147483563/\z % 2147483563<2147483563:=fun z=>⟨m9 _ (by decide),m8 _ (by decide)⟩;refine ⟨_,rfl,_,_,rfl,rfl,(by show (0:Int)<1000000007; decide),_,_,rfl,rfl,pi (by decide) (by decide),_,rfl,_,_,rfl,rfl,pi (by decide) (by decide),_,_,rfl,rfl,_,_,rfl,rfl,_,_,rfl,rfl,(by show (0:Int)<2147483629; decide),?_⟩;generalize hz1:(c % 1000000007 * 69069+a * 40503+977)=z1;obtain ⟨o1,o2⟩:=one z1;generalize z1 % 2147483629=o at o1 o2 ⊢;refine ⟨_,rfl,_,rfl,_,_,rfl,rfl,pi (by omega) (by omega),_,rfl,_,_,rfl,rfl,pi (by decide) (by decide),_,_,rfl,rfl,_,rfl,_,_,rfl,rfl,(by show (0:Int)<65537; decide),_,_,rfl,rfl,_,_,rfl,rfl,(by show (0:Int)<2147483587; decide),?_⟩;generalize hz2:(o * o+a * 7919+c % 65537)=z2;obtain ⟨p1,p2⟩:=two z2;generalize z2 % 2147483587=q at p1 p2 ⊢;refine ⟨_,rfl,_,rfl,_,_,rfl,rfl,pi (by omega) (by omega),_,rfl,_,_,rfl,rfl,pi (by decide) (by decide),_,_,rfl,rfl,_,_,rfl,rfl,_,_,rfl,rfl,(by show (0:Int)<2147483563; decide),?_⟩;generalize hz3:(q * q+o * 31+5)=z3;obtain ⟨r1,r2⟩:=three z3;generalize z3 % 2147483563=r at r1 r2 ⊢;refine ⟨_,rfl,_,_,rfl,rfl,pi (by decide) (by decide),_,rfl,_,_,rfl,rfl,_,_,rfl,rfl,pi (by decide) (by decide),_,rfl,_,_,rfl,rfl,k _ ?_⟩;omega
def rM:Sp:=fun vs H Q _=>∃p c,vs=[.ref p]/\gC H p c/\∀H',gC H' p c->cX p H H'->Q (.ref p) H'
theorem Gm {K:Za}{vs:List V}{H:Hp}{Q:VK}{E:XK}(h:rM vs H Q E):Ag K (bJ Q) (start Bp vs) H:=by
 obtain ⟨p,c,rfl,⟨a,r,ns,h⟩,k⟩:=h;refine ⟨_,rfl,p,_,_,_,rfl,rfl,h.pen,rfl,_,rfl,k _ ⟨a,0,ns,aa,?_,h.at0,Int.le_refl 0⟩ (cX.upd _ _ _)⟩;rw [af h.ne]; exact h.cells
theorem Cv {ns:List Int}{a:Int}(h0:0<=a) (h1:a<ns.length):∃z,pD (ns.map V.int) a=some (.int z):=by
 obtain ⟨n,rfl⟩:=iE h0;have hn:n<ns.length:=by omega
 exact ⟨ns[n],bt (by simp [hn])⟩
inductive fB  (vs:List V) (H:Hp) (Q:VK) (E:XK):Prop
 | mk (p c:Addr) (m:Int):(vs=[.ref p,.int m])->(gC H p c)->(0<m)->(m<1073741824)->(∀(r:Int) (H':Hp),0<=r->r<m->gC H' p c->cX p H H'->Q (.int r) H')->fB  vs H Q E
theorem dI {H:Hp}{Q:VK}{E:XK}{p c:Addr}{m:Int}(hp:gC H p c) (m0:0<m) (m1:m<1073741824) (k:∀(r:Int) (H':Hp),0<=r->r<m->gC H' p c->cX p H H'->Q (.int r) H'):fB [.ref p,.int m] H Q E:=by
 exact ⟨p,c,m,rfl,hp,m0,m1,k⟩
theorem Gb {K:Za}{vs:List V}{H:Hp}{Q:VK}{E:XK}(h:fB vs H Q E):Ac K lT (bJ Q) (start Bl vs) H:=by
 obtain ⟨p,c,m,rfl,⟨a,r,ns,h⟩,hm,hm2,k⟩:=h;have fin:∀(H':Hp) (a' r':Int) (x y:Option V),Cz H' p c a' r' ns->cX p H H' ->
   (ap (aK (aD hC (aD (cU K) V0 (tC (.int 2))) V1) U4) (ap (aK (aD vf (aD (cU K) V0 (tC (.int 2))) V1) (AY V0 (tC (.int 2)) tj)) (bB V4)))
    (bJ Q) [some (.ref p),some (.int m),x,y,none] H':=by
  intro H' a' r' x y h' ex;refine ⟨_,rfl,p,_,2,_,rfl,rfl,az.of h'.pen,rfl,_,rfl,_,_,rfl,rfl,hm,?_⟩;refine ⟨_,rfl,p,_,2,_,rfl,rfl,az.of h'.pen,rfl,_,rfl,_,_,rfl,rfl,⟨hm,hm2⟩,_,rfl,p,_,_,_,rfl,rfl,h'.pen,rfl,?_⟩;refine ⟨_,rfl,k _ _ (m9 _ (by omega)) (m8 _ hm) ⟨a',_,ns,aa,?_,h'.at0,Int.ediv_nonneg h'.rest0 (by omega)⟩ (ex.trans (cX.upd _ _ _))⟩;rw [af h'.ne]; exact h'.cells
 refine ⟨_,rfl,p,_,2,_,rfl,rfl,az.of h.pen,rfl,_,rfl,_,_,rfl,rfl,_,rfl,?_⟩;refine iN (fun h1=>?_) (fun h1=>?_)
 ·-- at=pen[1]; cell=0; if at<len(pen[0])
  refine ⟨_,rfl,p,_,1,_,rfl,rfl,az.of h.pen,rfl,?_⟩;have la:(V.int ((ns.map V.int).length:Nat))=V.int (ns.length:Nat):=by rw [ai]
  refine ⟨_,rfl,_,rfl,p,_,0,_,rfl,rfl,az.of h.pen,rfl,.inl ⟨c,_,rfl,.inl (az.of h.cells),_,_,rfl,la,_,rfl,?_⟩⟩;refine iN (fun h2=>?_) (fun h2=>?_)
  ·obtain ⟨z,hz⟩:=Cv (ns:=ns) h.at0 (of_decide_eq_true h2);refine ⟨_,rfl,p,_,0,_,rfl,rfl,az.of h.pen,rfl,_,rfl,c,_,_,_,rfl,rfl,az.of h.cells,hz,?_⟩;refine ⟨_,rfl,_,_,rfl,rfl,_,rfl,p,_,_,_,rfl,rfl,h.pen,rfl,?_⟩;refine ⟨_,rfl,_,rfl,_,_,rfl,h.at0,fun q hq=>⟨_,rfl,p,_,_,_,rfl,rfl,aa,rfl,?_⟩⟩;rw [rF];refine fin _ (a+1) q _ _ ⟨aa,by rw [af h.ne]; exact h.cells,by have:=h.at0; omega,hq⟩ (cX.upd _ _ _)
  ·refine ⟨_,rfl,p,_,0,_,rfl,rfl,az.of h.pen,rfl,.inl ⟨c,_,rfl,.inl (az.of h.cells),_,_,la,rfl,_,rfl,?_⟩⟩;refine iN (fun h3=>?_) (fun h3=>?_)
   ·have hl:(0:Int)<ns.length:=of_decide_eq_true h3;obtain ⟨z,hz⟩:=Cv (ns:=ns) (a:=(a * 5+3) % (ns.length:Int)) (m9 _ (by omega)) (m8 _ hl);refine ⟨_,rfl,p,_,0,_,rfl,rfl,az.of h.pen,rfl,_,rfl,_,_,rfl,rfl,pi (by decide) (by decide),_,_,rfl,rfl,_,rfl,p,_,0,_,rfl,rfl,az.of h.pen,rfl,.inl ⟨c,_,rfl,.inl (az.of h.cells),_,_,rfl,la,hl,c,_,_,_,rfl,rfl,az.of h.cells,hz,?_⟩⟩;refine ⟨_,_,rfl,rfl,⟨by decide,by decide,by decide⟩,_,rfl,_,_,rfl,rfl,_,_,rfl,rfl,?_,?_⟩
    ·have e:((10:Int) ^ (17:Int).toNat)=100000000000000000:=by decide
     have:=h.at0;show (0:Int)<10 ^ (17:Int).toNat+a;omega
    refine ⟨_,rfl,_,_,rfl,rfl,_,rfl,p,_,_,_,rfl,rfl,h.pen,rfl,?_⟩;refine ⟨_,rfl,_,rfl,_,_,rfl,h.at0,fun q hq=>⟨_,rfl,p,_,_,_,rfl,rfl,aa,rfl,?_⟩⟩;rw [rF];refine fin _ (a+1) q _ _ ⟨aa,by rw [af h.ne]; exact h.cells,by have:=h.at0; omega,hq⟩ (cX.upd _ _ _)
   ·refine ⟨_,rfl,_,_,rfl,rfl,_,rfl,p,_,_,_,rfl,rfl,h.pen,rfl,?_⟩;refine ⟨_,rfl,_,rfl,_,_,rfl,h.at0,fun q hq=>⟨_,rfl,p,_,_,_,rfl,rfl,aa,rfl,?_⟩⟩;rw [rF];refine fin _ (a+1) q _ _ ⟨aa,by rw [af h.ne]; exact h.cells,by have:=h.at0; omega,hq⟩ (cX.upd _ _ _)
 ·exact fin H a r _ _ h (cX.refl _ _)
inductive rG (K:Za) (vs:List V) (H:Hp) (Q:VK) (E:XK):Prop
 | mk (a:Addr) (ns:List Int):(vs=[.ref a])->(az K H a (ns.map V.int))->(ns.length<=63)->(∀(p c:Addr) (H':Hp),H p=none->gC H' p c->ab H H'->Q (.ref p) H')->rG K vs H Q E
theorem vG (ns:List Int) (lo hi:Option Int):∃ms:List Int,fz (ns.map V.int) lo hi=ms.map V.int/\ms.length=(fz (ns.map V.int) lo hi).length:=by
 refine ⟨(ns.drop (HT.sIx (ns.map V.int).length 0 lo)).take (HT.sIx (ns.map V.int).length (ns.map V.int).length hi-HT.sIx (ns.map V.int).length 0 lo),?_,?_⟩
 ·unfold fz; rw [mZ,vZ]
 ·unfold fz; rw [aX,aX,fR,fR,ai]
theorem Ge {K:Za}{vs:List V}{H:Hp}{Q:VK}{E:XK}(h:rG K vs H Q E):Ad K (bJ Q) (start Bm vs) H:=by
 obtain ⟨a,ns,rfl,hs,hn,k⟩:=h;obtain ⟨c0,e0,l0⟩:=vG ns none (some 12);obtain ⟨c1,e1,l1⟩:=vG ns (some 12) (some 63);have hlen:c1≠[]->c0.length=12:=by
  intro hne;have hc1:0<c1.length:=by cases c1 with | nil=>exact absurd rfl hne | cons _ _=>simp
  rw [l1] at hc1;rw [l0];unfold fz at hc1 ⊢;rw [aX,fR,ai] at hc1;rw [aX,fR,ai];have s1:HT.sIx ns.length 0 (some 12)=min 12 ns.length:=HT.sIx_nat _ _ 12;have s2:HT.sIx ns.length ns.length (some 12)=min 12 ns.length:=HT.sIx_nat _ _ 12;rw [HT.sIx_none,s2];rw [s1] at hc1;omega
 refine ⟨_,rfl,_,rfl,a,_,rfl,hs,fun q hq=>.inl ⟨q,_,rfl,.inl (az.of aa),fun c hc=>?_⟩⟩;rw [e0] at hc ⊢;have hcH:H c=none:=by
  have:c≠q:=fun z=>by subst z; rw [aa] at hc; cases hc
  rw [af this] at hc; exact hc
 have hS:ab H (upd (upd H q (.lst (c0.map V.int))) c (.lst (c0.map V.int))):=(ab.new hq).trans (ab.new hc);refine ⟨_,rfl,_,rfl,_,rfl,a,_,rfl,hS.seq hs,fun r hr=>⟨r,rfl,⟨_,az.of aa⟩,?_⟩⟩;rw [e1];have hcr:c≠r:=ae aa hr;refine jR (xs:=c1.map V.int) (fun i σ H'=>∃(ms:List Int) (x y:Option V),σ=[some (.ref a),some (.ref c),x,y]/\H' c=some (.lst (ms.map V.int))/\ms.length=c0.length/\H' r=some (.lst (c1.map V.int))/\ab H H')
  ⟨c0,none,none,rfl,kp aa hr,rfl,aa,hS.trans (ab.new hr)⟩ (fun i σ H' _ ⟨ms,x,y,_,_,_,h,_⟩=>az.of h) ?_ ?_
 ·rintro i x σ H' t hi ⟨ms,u,v,rfl,hcell,hml,hr',hS'⟩ ht;have hi':i<c1.length:=by
   have:=(bP.mp hi).1;rwa [ai] at this
  have h12:=hlen (fun z=>by rw [z] at hi'; simp at hi');obtain ⟨z,rfl⟩:∃z,x=V.int z:=by
   rw [bZ,bE hi'] at hi;exact ⟨_,(fg hi).symm⟩
  have hcell1:upd H' t (.tup [.int i,.int z]) c=some (.lst (ms.map V.int)):=kp hcell ht;have hidx:(i:Int) % 12=((i % 12:Nat):Int):=by omega
  have hlt:i % 12<ms.length:=by omega
  refine ⟨t,_,rfl,bj.of aa,rfl,_,_,rfl,_,_,rfl,rfl,?_⟩;have hat:pD (ms.map V.int) ((i:Int) % 12)=some (.int ms[i % 12]):=by rw [hidx]; exact bt (by simp [hlt])
  refine ⟨_,rfl,_,rfl,_,_,rfl,rfl,(by show (0:Int)<12; decide),c,_,_,_,rfl,rfl,az.of hcell1,hat,_,rfl,_,_,rfl,rfl,_,rfl,_,rfl,_,_,rfl,rfl,(by show (0:Int)<12; decide),c,_,_,i % 12,rfl,rfl,hcell1,?_,?_⟩
  ·rw [hidx];unfold FK;rw [if_pos (by omega),if_pos (by rw [ai]; omega)];rw [jk]
  ·refine ⟨ms.set (i % 12) (ms[i % 12]+z),_,_,rfl,?_,by rw [List.length_set]; exact hml,?_,?_⟩
   ·rw [aa,List.map_set]
   ·rw [af hcr.symm]; exact kp hr' ht
   ·intro b o e;rw [af (ae e hcH)];exact kp (hS' b o e) ht
 ·rintro σ H' ⟨ms,x,y,rfl,hcell,hml,hr',hS'⟩;refine ⟨_,rfl,(by show 3<=aj; decide),fun p hp=>k p c _ (hS'.free hp) ⟨0,0,ms,aa,kp hcell hp,Int.le_refl _,Int.le_refl _⟩ (hS'.trans (ab.new hp))⟩
def xm (c:Nat):Prop:=97<=c/\c<=122
structure qx (w:Str):Prop where
 lo:1<=w.length
 hi:w.length<=8
 al:∀c∈w.cps.toList,xm c
theorem Cy:∀n:Nat,n<26->(("abcdefghijklmnopqrstuvwxyz":Str).cps.toList)[n]?=some (97+n):=by decide +kernel
theorem Cw:("abcdefghijklmnopqrstuvwxyz":Str).length<=aj:=by decide +kernel
theorem Fz {r:Int}(h0:0<=r) (h1:r<26):pD (("abcdefghijklmnopqrstuvwxyz":Str).cps.toList) r=some (97+r.toNat):=by
 obtain ⟨n,rfl⟩:=iE h0;rw [jk];exact bt (Cy n (by omega))
theorem uK (cs:List Nat):∀acc:Array Nat,((cs.map fun c=>(⟨#[c]⟩:Str)).foldl (fun acc p=>acc++("":Str).cps++p.cps) acc).toList=acc.toList++cs:=by
 have e:("":Str).cps=#[]:=by decide +kernel
 induction cs with
 | nil=>intro acc; simp
 | cons c cs ih =>
  intro acc;rw [bc,jh,ih,e];simp
theorem AU (cs:List Nat):(wk "" (cs.map fun c=>(⟨#[c]⟩:Str))).cps.toList=cs:=by
 unfold wk b_.Str.glued;cases cs with
 | nil=>rfl
 | cons c cs =>
  rw [bc];show ((cs.map fun c=>(⟨#[c]⟩:Str)).foldl (fun acc p=>acc++("":Str).cps++p.cps) #[c]).toList=_;rw [uK]
  rfl
theorem FY {a b:Str}(h:a.cps.toList=b.cps.toList):a=b:=by
 cases a with | mk x=>cases b with | mk y=>exact congrArg Str.mk (Array.toList_inj.mp h)
theorem fA (a:Str):a.length=a.cps.toList.length:=by simp [Str.length]
theorem xM (a b:Str):(a++b).cps.toList=a.cps.toList++b.cps.toList:=by
 show (a.cps++b.cps).toList=_;simp
theorem Fq (z:Str) (m:Nat):(tR z none (some (m:Int))).cps.toList=z.cps.toList.take m:=by
 unfold tR;rw [HT.sIx_none,HT.sIx_nat,j1,Nat.sub_zero,fA];show List.take _ _=_;rw [List.take_eq_take_iff];omega
theorem Fs (z:Str) (m:Nat):(tR z (some (m:Int)) none).cps.toList=z.cps.toList.drop m:=by
 unfold tR;rw [HT.sIx_none,HT.sIx_nat,fA];show List.take _ _=_;rw [List.take_of_length_le (by rw [fR]; omega)];by_cases h:m<=z.cps.toList.length
 ·rw [vY h]
 ·rw [Nat.min_eq_right (by omega),List.drop_length,we (by omega)]
def fo (way size k:Nat):Nat:=(size+k * (way % 2)) % 8
def zV (way m:Nat):Nat:=if way=0 then 0 else if way=1 then m else m / 2
def mO (b:List Nat) (way turn size k:Nat):List Nat :=
 (b.take (fo way size k)).take (zV way (fo way size k))++[97+(turn+3 * k) % 26]++(b.take (fo way size k)).drop (zV way (fo way size k))
def yi (b:List Nat) (way turn size k:Nat):Str:=⟨(mO b way turn size k).toArray⟩
theorem pT {b:List Nat}(hb:b.length=7) (way turn size k:Nat):(mO b way turn size k).length=fo way size k+1:=by
 have h8:fo way size k<8:=r8 _ (by decide);unfold mO;rw [ay,ay,aX,fR,aX,hb];have:zV way (fo way size k)<=fo way size k:=by unfold zV; split; omega; split; omega; omega
 simp;omega
theorem FN {b:List Nat}(hb:b.length=7) (hl:∀c∈b,xm c) (way turn size k:Nat):qx (yi b way turn size k):=by
 have h8:fo way size k<8:=r8 _ (by decide);have hlen:=pT hb way turn size k;have e:(yi b way turn size k).cps.toList=mO b way turn size k:=by simp [yi]
 refine ⟨?_,?_,?_⟩
 ·rw [fA,e]; omega
 ·rw [fA,e]; omega
 ·rw [e];intro c hc;unfold mO at hc;rcases bd.mp hc with hc | hc
  ·rcases bd.mp hc with hc | hc
   ·exact hl c (fj (fj hc))
   ·have:c=97+(turn+3 * k) % 26:=by simpa using hc
    subst this;have:(turn+3 * k) % 26<26:=r8 _ (by decide);exact ⟨by omega,by omega⟩
  ·exact hl c (fj (vX hc))
theorem DS {b:List Nat}(hb:b.length=7) {way turn size:Nat}(hw:way<3) {j k:Nat}(hj:j<26) (hk:k<26) (h:yi b way turn size j=yi b way turn size k):j=k:=by
 have h8:∀i,fo way size i<8:=fun i=>r8 _ (by decide);have e:mO b way turn size j=mO b way turn size k:=by
  have:=congrArg (fun s=>Str.cps s |>.toList) h;simpa [yi] using this
 have el:fo way size j=fo way size k:=by
  have:=congrArg List.length e;rw [pT hb,pT hb] at this;omega
 have key:97+(turn+3 * j) % 26=97+(turn+3 * k) % 26:=by
  have hat:∀i,zV way (fo way size i)<=fo way size i:=fun i=>by unfold zV; split; omega; split; omega; omega
  have get:∀i,(mO b way turn size i)[zV way (fo way size i)]?=some (97+(turn+3 * i) % 26):=by
   intro i;unfold mO;have hl:((b.take (fo way size i)).take (zV way (fo way size i))).length=zV way (fo way size i):=by
    rw [aX,aX,hb];have:=h8 i;have:=hat i;omega
   rw [df,lc (by omega),hl,Nat.sub_self]
   rfl
  have g1:=get j;have g2:=get k;rw [e,el] at g1;rw [g1] at g2;exact fg g2
 omega
def km (ws:Zb):Prop:=ws.Nodup/\∀w∈ws,qx w
def j3 (b:List Nat) (way turn size n:Nat):List Str:=(jz n).map (yi b way turn size)
theorem z0 {b:List Nat}(hb:b.length=7) (hl:∀c∈b,xm c) {way turn size n:Nat}(hw:way<3) (hn:n<=26):km (j3 b way turn size n):=by
 refine ⟨?_,fun w hm=>?_⟩
 ·unfold j3;rw [pK,List.pairwise_map];refine (List.nodup_range (n:=n)).imp_of_mem ?_;intro j k hj hk hne h;exact hne (DS hb hw (by have:=List.mem_range.mp hj; omega) (by have:=List.mem_range.mp hk; omega) h)
 ·obtain ⟨k,_,rfl⟩:=aB.mp hm;exact FN hb hl _ _ _ _
inductive lA  (vs:List V) (H:Hp) (Q:VK) (E:XK):Prop
 | mk (p c:Addr) (n:Nat):(vs=[.ref p,.int n])->(gC H p c)->(n<=26)->(∀(l:Addr) (ws:Zb) (H':Hp),km ws->ws.length=n->H l=none->H' l=some (.lst (ws.map V.str))->gC H' p c->cX p H H'->Q (.ref l) H')->lA  vs H Q E
theorem En {K:Za}{vs:List V}{H:Hp}{Q:VK}{E:XK}(h:lA vs H Q E):yr K fB (bJ Q) (start zR vs) H:=by
 obtain ⟨p,c,n,rfl,hp,hn,k⟩:=h;refine ⟨rfl,7,rfl,by decide,by decide,fun l hl=>?_⟩;refine A_ (lo:=0) (n:=Int.toNat 7) (fun i vs H'=>∃cs:List Nat,vs=cs.map (fun c=>V.str ⟨#[c]⟩)/\cs.length=i/\(∀c∈cs,xm c)/\gC H' p c/\cX p H H'/\H' l=some (.lst vs))
  ⟨[],rfl,rfl,(fun _ h=>nomatch h),hp.ex (ab.new hl),cX.new hl,aa⟩ (fun i vs H' _ ⟨_,_,_,_,_,_,h⟩=>h) ?_ ?_
 rotate_left
 ·rintro i vs H' hi ⟨cs,rfl,hlen,hlet,hp',hex,hl'⟩;have hlp:=hp.nep hl;have hlc:=hp.nec hl;refine gN (sE ?_);refine ⟨_,rfl,_,rfl,dI hp' (by decide) (by decide) fun r H2 h0 h1 hp2 hex2=>⟨_,r,_,rfl,rfl,Cw,Fz h0 h1,?_⟩⟩;have hl2:=hex2 l _ hl' hlp.symm;refine ⟨hl2,by rw [ai,hlen]; exact au (by omega),o0 hi ⟨cs++[97+r.toNat],by rw [aq]; rfl,by rw [ay,hlen]; rfl,?_,hp2.upd hlp hlc,?_,aa⟩⟩
  ·intro x hc;rcases bd.mp hc with hc | hc
   ·exact hlet x hc
   ·have:x=97+r.toNat:=by simpa using hc
    subst this;exact ⟨by omega,by omega⟩
  ·intro b o' e nb;rw [af (ae e hl)];exact hex2 b o' (hex b o' e nb) nb
 ·rintro vs H1 ⟨cs,rfl,hlen,hlet,hp1,hex1,hl1⟩;refine ⟨"",l,cs.map fun c=>(⟨#[c]⟩:Str),rfl,rfl,az.of (by rw [hl1,rZ]; rfl),?_,?_⟩
  ·have e0:("":Str).length=0:=by decide +kernel
   rw [e0,Nat.mul_zero,rZ];have:∀cs:List Nat,(cs.map ((fun x=>Str.length x) ∘ fun c=>(⟨#[c]⟩:Str))).sum=cs.length:=by
    intro cs
    induction cs with
    | nil=>rfl
    | cons c cs ih=>rw [bc,List.sum_cons,ih,em]; show 1+_=_; omega
   rw [this,hlen]; decide
  refine ⟨_,rfl,dI hp1 (by decide) (by decide) fun way H2 w0 w1 hp2 hex2=>?_⟩;refine ⟨_,rfl,dI hp2 (by decide) (by decide) fun turn H3 t0 t1 hp3 hex3=>?_⟩;refine ⟨_,rfl,dI hp3 (by decide) (by decide) fun size H4 s0 s1 hp4 hex4=>?_⟩;have ex4:cX p H H4:=((hex1.trans hex2).trans hex3).trans hex4;obtain ⟨wy,rfl⟩:=iE w0;obtain ⟨tn,rfl⟩:=iE t0;obtain ⟨sz,rfl⟩:=iE s0;have hb:=AU cs;generalize wk "" (cs.map fun c=>(⟨#[c]⟩:Str))=base at hb ⊢;refine ⟨(by show 0<=aj; decide),fun f hf=>?_⟩;obtain ⟨op,hop⟩:=hp4.pen;have hfH:H f=none:=ex4.free hop hf;have hfp:=hp.nep hfH;have hfc:=hp.nec hfH;refine ⟨_,rfl,n,rfl,by omega,by omega,mh (lo:=0) (n:=((n:Int)).toNat) (fun i σ H'=>∃(a b c' d:Option V),σ=[some (.ref p),some (.int n),some (.str "abcdefghijklmnopqrstuvwxyz"),some (.str base),some (.int wy),some (.int tn),some (.int sz),some (.ref f),a,b,c',d] /\
   gC H' p c/\cX p H H'/\H' f=some (.lst ((j3 cs wy tn sz i).map V.str)))
   ⟨_,_,_,_,rfl,hp4.upd hfp hfc,ex4.trans (cX.new hf),aa⟩ ?_ ?_⟩
  ·rintro i σ H' hi ⟨a,b,c',d,rfl,hp',hex',hf'⟩;have hi':i<n:=by omega
   have hwy:wy<3:=by omega
   have e26:((tn:Int)+3 * (0+(i:Int))) % 26=(((tn+3 * i) % 26:Nat):Int):=by omega
   refine ⟨_,rfl,_,rfl,_,rfl,_,_,rfl,rfl,.inl ⟨by decide,by decide⟩,_,_,rfl,rfl,_,_,rfl,rfl,(by show (0:Int)<26; decide),_,_,_,rfl,rfl,Cw,Fz (m9 _ (by decide)) (m8 _ (by decide)),?_⟩;have blen:base.length<=aj:=by rw [fA,hb,hlen]; decide
   have e8:((sz:Int)+(0+(i:Int)) * ((wy:Int) % 2)) % 8=((fo wy sz i:Nat):Int):=by
    unfold fo;have:wy=0∨wy=1∨wy=2:=by omega
    rcases this with rfl | rfl | rfl <;> simp <;> omega
   refine ⟨_,rfl,_,rfl,_,rfl,_,rfl,_,_,rfl,rfl,(by show (0:Int)<2; decide),_,_,rfl,rfl,.inr ⟨by omega,by omega⟩,_,_,rfl,rfl,_,_,rfl,rfl,(by show (0:Int)<8; decide),_,rfl,base,rfl,blen,?_⟩;rw [e8];have hpart:=Fq base (fo wy sz i);rw [hb] at hpart;generalize tR base none (some ((fo wy sz i:Nat):Int))=part at hpart ⊢;have h8:fo wy sz i<8:=r8 _ (by decide);have plen:part.length=fo wy sz i:=by rw [fA,hpart,aX,hlen]; omega
   have pz:part.length<=aj:=by rw [plen]; exact eo (au (by omega))
   refine ⟨_,rfl,.inr ⟨part,rfl,pz,_,rfl,.inr ⟨part,rfl,pz,_,_,rfl,rfl,⟨by decide,by decide⟩,(by show 3<=aj; decide),fun q hq=>?_⟩⟩⟩;have hqH:H q=none:=by
    obtain ⟨op',hop'⟩:=hp'.pen;exact hex'.free hop' hq
   have hat:pD [V.int 0,V.int (part.length:Nat),V.int ((part.length:Int) / 2)] (wy:Int)=some (.int (zV wy (fo wy sz i):Nat)):=by
    rw [plen];have:wy=0∨wy=1∨wy=2:=by omega
    rcases this with rfl | rfl | rfl
    ·rfl
    ·rfl
    ·show some (V.int (((fo 2 sz i:Nat):Int) / 2))=some (V.int ((zV 2 (fo 2 sz i):Nat):Int));have:zV 2 (fo 2 sz i)=fo 2 sz i / 2:=rfl;rw [this];congr 2
   refine ⟨_,rfl,q,_,_,_,rfl,rfl,az.of aa,hat,?_⟩;have hf2:upd H' q (.lst [V.int 0,V.int (part.length:Nat),V.int ((part.length:Int) / 2)]) f=some (.lst ((j3 cs wy tn sz i).map V.str)):=kp hf' hq;have c1:=Fq part (zV wy (fo wy sz i));have c2:=Fs part (zV wy (fo wy sz i));have l1:(tR part none (some ((zV wy (fo wy sz i):Nat):Int))).length<=8:=by rw [fA,c1,aX,hpart,aX,hlen]; omega
   have l2:(tR part (some ((zV wy (fo wy sz i):Nat):Int)) none).length<=8:=by rw [fA,c2,fR,hpart,aX,hlen]; omega
   refine ⟨_,rfl,.inl ⟨rfl,_,az.of hf2⟩,_,rfl,_,rfl,_,rfl,part,rfl,pz,_,rfl,_,_,rfl,rfl,?_,_,rfl,_,rfl,_,rfl,part,rfl,pz,_,_,rfl,rfl,?_,f,_,_,rfl,rfl,hf2,?_,?_⟩
   ·have:Str.length ⟨#[97+(((tn:Int)+3 * (0+(i:Int))) % 26).toNat]⟩=1:=rfl;rw [this];exact eo (au (by omega))
   ·rw [fA,xM,ay,<-fA,<-fA];have:Str.length ⟨#[97+(((tn:Int)+3 * (0+(i:Int))) % 26).toNat]⟩=1:=rfl;rw [this];exact eo (au (by omega))
   ·rw [ai];unfold j3;rw [ai,si];exact au (by omega)
   ·refine ⟨_,_,_,_,rfl,(hp'.upd (hp.nep hqH) (hp.nec hqH)).upd hfp hfc,?_,?_⟩
    ·intro b' o' e nb;rw [af (ae e hfH)];exact kp (hex' b' o' e nb) hq
    ·rw [aa];unfold j3;rw [List.range_succ,aq,aq];congr 3;show [V.str _]=[V.str _];congr 2;refine FY ?_;rw [xM,xM,c1,c2,hpart,e26,jk];simp [yi,mO]
  ·rintro σ H' ⟨a,b,c',d,rfl,hp',hex',hf'⟩;have en:((n:Int)).toNat=n:=by omega
   rw [en] at hf';exact ⟨_,rfl,k f _ H' (z0 hlen hlet (by omega) hn) (by unfold j3; rw [ai,si]) hfH hf' hp' hex'⟩
structure am where
 a:Str
 sg:List Str
 b:Str
deriving DecidableEq
def SignAt (H:Hp) (s:Addr) (sg:Zb):Prop:=H s=some (.tup (sg.map V.str))
def gL (H:Hp) (t:Addr) (d:am):Prop:=∃s,H t=some (.tup [.str d.a,.ref s,.str d.b])/\SignAt H s d.sg
def fP (H H':Hp):Prop:=∀b xs,H b=some (.tup xs)->H' b=some (.tup xs)
theorem gL.kt {H H':Hp}{t:Addr}{d:am}(k:fP H H') (h:gL H t d):gL H' t d:=by
 obtain ⟨s,h1,h2⟩:=h;exact ⟨s,k _ _ h1,k _ _ h2⟩
theorem cX.kt {p:Addr}{H H':Hp}{xs:List V}(e:cX p H H') (hp:H p=some (.lst xs)):fP H H':=fun b ys h=>e b _ h (fun z=>by rw [z,hp] at h; cases h)
theorem ab.kt {H H':Hp}(e:ab H H'):fP H H':=fun b ys h=>e b _ h
theorem fP.trans {H H1 H2:Hp}(a:fP H H1) (b:fP H1 H2):fP H H2:=fun x xs h=>b x xs (a x xs h)
theorem cr {H:Hp}{l:Addr}{xs:List V}{o:HO}(h:H l=some (.lst xs)):fP H (upd H l o):=fun b ys e=>by
 rw [af (fun z=>by rw [z,h] at e; cases e)]; exact e
abbrev cB (H:Hp) (ts:Ze) (ds:List am):Prop:=Paired (gL H) ts ds
theorem Paired.get {α β:Type}{R:α->β->Prop}:∀{xs:List α}{ys:List β}{i:Nat}{y:β},Paired R xs ys->ys[i]?=some y->∃x,xs[i]?=some x/\R x y
 | _,_,i,y,.nil,h=>by simp at h
 | _,_,0,y,.cons r t,h=>by simp at h; subst h; exact ⟨_,rfl,r⟩
 | _,_,i+1,y,.cons r t,h=>by
  simp at h;obtain ⟨x,h1,h2⟩:=Paired.get t h;exact ⟨x,by simpa using h1,h2⟩
theorem Paired.getL {α β:Type}{R:α->β->Prop}:∀{xs:List α}{ys:List β}{i:Nat}{x:α},Paired R xs ys->xs[i]?=some x->∃y,ys[i]?=some y/\R x y
 | _,_,i,y,.nil,h=>by simp at h
 | _,_,0,y,.cons r t,h=>by simp at h; subst h; exact ⟨_,rfl,r⟩
 | _,_,i+1,y,.cons r t,h=>by
  simp at h;obtain ⟨x,h1,h2⟩:=Paired.getL t h;exact ⟨x,by simpa using h1,h2⟩
theorem cB.kt {H H':Hp}{ts:Ze}{ds:List am}(k:fP H H') (h:cB H ts ds):cB H' ts ds:=Paired.mapP h fun _ _ r=>r.kt k
theorem Hl {H:Hp}{a:Addr}{o:HO}(h:H a=some o):upd H a o=H:=by
 funext b;by_cases e:b=a
 ·subst e; rw [aa,h]
 ·rw [af e]
def gu (x:Str):DT:=.k (.inr x)
def tQ (d:am):DT:=.t [gu d.a,.t (d.sg.map gu),gu d.b]
theorem oR {x y:Str}(h:gu x=gu y):x=y:=by
 unfold gu at h;injection h with h;injection h
theorem hE:∀{x y:Zb},x.map gu=y.map gu->x=y
 | [],[],_=>rfl
 | [],_::_,h=>by cases h
 | _::_,[],h=>by cases h
 | a::x,b::y,h=>by
  rw [bc,bc] at h;injection h with h1 h2;rw [oR h1,hE h2]
theorem GP {x y:am}(h:tQ x=tQ y):x=y:=by
 unfold tQ at h;injection h with h;injection h with h1 h;injection h with h2 h;injection h with h3 h;injection h2 with h2;cases x; cases y;simp only at *;rw [oR h1,hE h2,oR h3]
theorem eP (xs:Zb):DT.depths (xs.map gu)=0:=by
 induction xs with
 | nil=>rfl
 | cons x xs ih=>rw [bc]; show max (DT.depth (gu x)) (DT.depths _)=0; rw [ih]; rfl
theorem xF (d:am):(tQ d).depth=2:=by
 show DT.depths [gu d.a,.t (d.sg.map gu),gu d.b]+1=2;show max (DT.depth (gu d.a)) (max (DT.depths (d.sg.map gu)+1) (max (DT.depth (gu d.b)) 0))+1=2;rw [eP]
 rfl
theorem Dr (ds:List am):DT.depths (ds.map tQ)<=8:=by
 induction ds with
 | nil=>exact cV _
 | cons x xs ih=>rw [bc]; show max (DT.depth (tQ x)) (DT.depths _)<=8; rw [xF]; omega
theorem ki {K:Za}{H:Hp}:∀xs:List Str,DIns K H (xs.map gu) (xs.map V.str)
 | []=>by show DIns K H [] []; unfold DIns; rfl
 | x::xs=>by
  rw [bc,bc];unfold DIns;refine ⟨_,_,rfl,?_,ki xs⟩;unfold gu jc
  rfl
theorem kN {K:Za}{H:Hp}(x:Str):jc K H (gu x) (.str x):=by unfold gu jc; rfl
theorem bD {K:Za}{H:Hp}{s:Addr}{sg:Zb}(h:bj K H s (sg.map V.str)):jc K H (.t (sg.map gu)) (.ref s):=by
 unfold jc;exact ⟨s,_,rfl,h,ki _⟩
theorem gL.dIn {K:Za}{H:Hp}{t:Addr}{d:am}(h:gL H t d):jc K H (tQ d) (.ref t):=by
 obtain ⟨s,h1,h2⟩:=h;unfold tQ;unfold jc;refine ⟨t,_,rfl,bj.of h1,?_⟩;unfold DIns;refine ⟨_,_,rfl,kN _,?_⟩;unfold DIns;refine ⟨_,_,rfl,bD (bj.of h2),?_⟩;unfold DIns;refine ⟨_,_,rfl,kN _,?_⟩;unfold DIns
 rfl
theorem cB.dIns {K:Za}{H:Hp}:∀{ts:Ze}{ds:List am},cB H ts ds->DIns K H (ds.map tQ) (ts.map V.ref)
 | _,_,.nil=>by show DIns K H [] []; unfold DIns; rfl
 | _,_,.cons r t=>by
  rw [bc,bc];unfold DIns;exact ⟨_,_,rfl,r.dIn,cB.dIns t⟩
theorem Cd {d:am}{ds:List am}:tQ d∈ds.map tQ↔d∈ds:=by
 constructor
 ·intro h;obtain ⟨x,hx,e⟩:=aB.mp h;rw [<-GP e]; exact hx
 ·exact jZ
def lD (ds:List am) (d:am):List am:=if d∈ds then ds else ds++[d]
inductive j9  (vs:List V) (H:Hp) (Q:VK) (E:XK):Prop
 | mk (l t:Addr) (ts:Ze) (ds:List am) (d:am):(vs=[.ref l,.ref t])->(H l=some (.lst (ts.map V.ref)))->(cB H ts ds)->(gL H t d)->(ds.length<=1000)->(∀ts':List Addr,cB H ts' (lD ds d)->Q .non (upd H l (.lst (ts'.map V.ref))))->j9  vs H Q E
theorem Hr {K:Za}{vs:List V}{H:Hp}{Q:VK}{E:XK}(h:j9 vs H Q E):CN K (bJ Q) (start DB vs) H:=by
 obtain ⟨l,t,ts,ds,d,rfl,hl,hd,ht,hz,k⟩:=h;refine ⟨_,rfl,_,rfl,tQ d,ds.map tQ,l,_,ht.dIn,rfl,.inl (az.of hl),hd.dIns,by rw [xF]; decide,Dr ds,_,rfl,?_⟩;by_cases hm:d∈ds
 ·rw [if_pos rfl,zzr1 (Cd.mpr hm)];refine ck ?_;have:=k ts (by unfold lD; rw [if_pos hm]; exact hd);rw [Hl hl] at this;exact this
 ·rw [if_pos rfl,zzr0 (fun z=>hm (Cd.mp z))];refine dh ?_;refine ⟨_,rfl,.inl ⟨rfl,_,az.of hl⟩,_,rfl,l,_,_,rfl,rfl,hl,?_,?_⟩
  ·rw [ai,Paired.length hd];exact au hz
  ·have:=k (ts++[t]) (by unfold lD; rw [if_neg hm]; exact cp hd ht);rw [aq] at this;exact this
structure DI (R:am->Prop) (H0:Hp) (p c l:Addr) (m:Nat) (H:Hp):Prop where
 pen:gC H p c
 ds:∃ts ds,H l=some (.lst (ts.map V.ref))/\cB H ts ds/\ds.Nodup/\(∀d∈ds,R d)/\ds.length<=m
 ex:cX p H0 H
 fr:H0 l=none
 pl:p≠l
 cl:c≠l
section
variable {R:am->Prop}{H0 H H':Hp}{p c l:Addr}{m:Nat}
theorem gC.lst {H:Hp}{p c:Addr}(h:gC H p c):∃xs,H p=some (.lst xs):=by
 obtain ⟨a,r,ns,h1,_⟩:=h;exact ⟨_,h1⟩
theorem DI.took (h:DI R H0 p c l m H) (hp:gC H' p c) (e:cX p H H'):DI R H0 p c l m H':=by
 obtain ⟨ts,ds,h1,h2,h3⟩:=h.ds;obtain ⟨xs,hx⟩:=h.pen.lst;exact ⟨hp,⟨ts,ds,e _ _ h1 h.pl.symm,h2.kt (e.kt hx),h3⟩,h.ex.trans e,h.fr,h.pl,h.cl⟩
theorem DI.new (h:DI R H0 p c l m H) {q:Addr}{o:HO}(hq:H q=none):DI R H0 p c l m (upd H q o) :=
 h.took (h.pen.ex (ab.new hq)) (cX.new hq)
theorem DI.up (h:DI R H0 p c l m H) {n:Nat}(hn:m<=n):DI R H0 p c l n H:=by
 obtain ⟨ts,ds,h1,h2,h3,h4,h5⟩:=h.ds;exact ⟨h.pen,⟨ts,ds,h1,h2,h3,h4,bv h5 hn⟩,h.ex,h.fr,h.pl,h.cl⟩
theorem DI.put (h:DI R H0 p c l m H) {t:Addr}{d:am}{Q:VK}{E:XK}(ht:gL H t d) (hR:R d) (hm:m<=1000) (k:∀H',DI R H0 p c l (m+1) H'->Q .non H'):j9 [.ref l,.ref t] H Q E:=by
 obtain ⟨ts,ds,h1,h2,h3,h4,h5⟩:=h.ds;refine ⟨l,t,ts,ds,d,rfl,h1,h2,ht,bv h5 hm,fun ts' h'=>k _ ⟨h.pen.upd h.pl h.cl,⟨ts',lD ds d,aa,h'.kt (cr h1),?_,?_,?_⟩,?_,h.fr,h.pl,h.cl⟩⟩
 ·unfold lD;split
  ·exact h3
  ·next hn =>
   rw [cH];refine ⟨h3,by simp,?_⟩;intro a ha b hb e;have:b=d:=by simpa using hb
   subst this;exact hn (e ▸ ha)
 ·intro x hx;unfold lD at hx;split at hx
  ·exact h4 x hx
  ·rcases bd.mp hx with hx | hx
   ·exact h4 x hx
   ·have:x=d:=by simpa using hx
    rw [this]; exact hR
 ·unfold lD;split
  ·omega
  ·rw [ay]; show ds.length+1<=m+1; omega
 ·intro b o e n;rw [af (ae e h.fr)];exact h.ex b o e n
end
theorem gC.ne_strs {H:Hp}{p c a:Addr}{ws:Zb}(hp:gC H p c) (ha:H a=some (.lst (ws.map V.str))):a≠p:=by
 intro e;obtain ⟨x,y,ns,h1,_⟩:=hp;rw [e,h1] at ha;injection ha with ha;injection ha with ha;cases ws with
 | nil=>cases ha
 | cons w ws=>injection ha with ha; cases ha
theorem i0 {K:Za}{r:R2}(hr:∀x y H Q,cU K x y H Q->r x y H Q) {σ:L2.St}{H:Hp}{Q:VK}{p c a:Addr}{j:Nat}{ws:Zb}(h0:σ[0]?=some (some (.ref p))) (hj:σ[j]?=some (some (.ref a))) (hp:gC H p c)
  (ha:H a=some (.lst (ws.map V.str))) (hne:ws≠[]) (hlen:ws.length<=1000) (k:∀w∈ws,∀H',gC H' p c->cX p H H'->Q (.str w) H') :
  ∃v,σ[j]?=some (some v)/\∃v0,σ[0]?=some (some v0)/\∃v1,σ[j]?=some (some v1)/\d9 K [v1] H fun y H1=>fB [v0,y] H1 (fun y H2=>r v y H2 Q) E0:=by
 have hl:0<ws.length:=by cases ws with | nil=>exact absurd rfl hne | cons _ _=>simp
 have la:(V.int ((ws.map V.str).length:Nat))=V.int (ws.length:Nat):=by rw [ai]
 have hpa:=hp.ne_strs ha;have fin:∀(x:Int) (H':Hp),0<=x->x<(ws.length:Int)->gC H' p c->cX p H H'->cU K (.ref a) (.int x) H' Q:=by
  intro x H' x0 x1 hp' ex;obtain ⟨n,rfl⟩:=iE x0;have hn:n<ws.length:=by omega
  exact ⟨a,_,(n:Int),.str ws[n],rfl,rfl,az.of (ex _ _ ha hpa),bt (by simp [hn]),k _ (jY hn) H' hp' ex⟩
 exact ⟨_,hj,_,h0,_,hj,.inl ⟨a,_,rfl,.inl (az.of ha),by rw [la]; exact dI hp (by omega) (by omega) fun x H' x0 x1 hp' ex=>hr _ _ _ _ (fin x H' x0 x1 hp' ex)⟩⟩
def Up (up:Bool) (J2:Zb) (a b:Str):Prop:=∃i j:Nat,J2[i]?=some a/\J2[j]?=some b/\(if up=true then i<j else j<i)
structure lQ (J0 J1 J2:Zb) (up:Bool) (d:am):Prop where
 a:d.a∈J2
 b:d.b∈J2
 sg:(∃w∈J0,d.sg=[("ask":Str),w])∨(∃w∈J1,d.sg=[("say":Str),w])∨(d.sg=[("still":Str)]/\Up up J2 d.a d.b)
def ax:List Str:=[("still":Str)]
structure zT (J0 J1 J2:Zb) (d:am):Prop where
 a:d.a∈J2
 b:d.b∈J2
 sg:(∃w∈J0,d.sg=[("ask":Str),w])∨(∃w∈J1,d.sg=[("say":Str),w])∨d.sg=ax
theorem lQ.d {J0 J1 J2:Zb}{up:Bool}{d:am}(h:lQ J0 J1 J2 up d):zT J0 J1 J2 d:=⟨h.a,h.b,h.sg.imp id (Or.imp id And.left)⟩
inductive Reach (ds:List am) (a:Str):Str->Prop
 | one {b:Str}(h:(⟨a,ax,b⟩:am)∈ds):Reach ds a b
 | step {b c:Str}(r:Reach ds a b) (h:(⟨b,ax,c⟩:am)∈ds):Reach ds a c
theorem rO {J2:Zb}(nd:J2.Nodup) {i j:Nat}{a:Str}(hi:J2[i]?=some a) (hj:J2[j]?=some a):i=j:=by
 obtain ⟨h1,e1⟩:=bP.mp hi;obtain ⟨h2,e2⟩:=bP.mp hj;have pw:=List.pairwise_iff_getElem.mp nd;rcases vW i j with h | h | h
 ·exact absurd (e1.trans e2.symm) (pw i j h1 h2 h)
 ·exact h
 ·exact absurd (e2.trans e1.symm) (pw j i h2 h1 h)
theorem Up.trans {up:Bool}{J2:Zb}(nd:J2.Nodup) {a b c:Str}(h1:Up up J2 a b) (h2:Up up J2 b c):Up up J2 a c:=by
 obtain ⟨i,j,e1,e2,h⟩:=h1;obtain ⟨j',k,e3,e4,h'⟩:=h2;have:=rO nd e2 e3;subst this;refine ⟨i,k,e1,e4,?_⟩;cases up
 ·simp at h h' ⊢; omega
 ·simp at h h' ⊢; omega
theorem Up.irr {up:Bool}{J2:Zb}(nd:J2.Nodup) {a:Str}(h:Up up J2 a a):False:=by
 obtain ⟨i,j,e1,e2,h⟩:=h;have:=rO nd e1 e2;subst this;cases up
 ·simp at h
 ·simp at h
theorem DW {J0 J1 J2:Zb}{ds:List am}{up:Bool}(nd:J2.Nodup) (m:∀d∈ds,lQ J0 J1 J2 up d) {a b:Str}(h:Reach ds a b):Up up J2 a b:=by
 have edge:∀{a b:Str},(⟨a,ax,b⟩:am)∈ds->Up up J2 a b:=by
  intro a b h;rcases (m _ h).sg with ⟨w,_,e⟩ | ⟨w,_,e⟩ | ⟨_,e⟩
  ·cases e
  ·cases e
  ·exact e
 induction h with
 | one h=>exact edge h
 | step r h ih=>exact ih.trans nd (edge h)
inductive gU  (vs:List V) (H:Hp) (Q:VK) (E:XK):Prop
 | mk (p c l1 l2 l3:Addr) (J0 J1 J2:Zb) (full:Int):(vs=[.ref p,.ref l1,.ref l2,.ref l3,.int full])->(gC H p c)->(H l1=some (.lst (J0.map V.str)))->(H l2=some (.lst (J1.map V.str)))->(H l3=some (.lst (J2.map V.str)))->(J0.length<=4)->(J1≠[])->(J1.length<=4)->(J2≠[])->(J2.length<=26)->(0<=full)->(full<=2)->(∀(l:Addr) (ts:Ze) (ds:List am) (up:Bool) (H':Hp),H l=none->H' l=some (.lst (ts.map V.ref))->cB H' ts ds->ds.Nodup->(∀d∈ds,lQ J0 J1 J2 up d)->ds.length<=600->gC H' p c->cX p H H'->Q (.ref l) H')->gU  vs H Q E
theorem at4 {x r:Int}(x0:0<=x) (x2:x<=2) (r0:0<=r) (r4:r<4):∃j:Int,pD [V.int x,.int 1,.int 1,.int 2] r=some (.int j)/\0<=j/\j<=2:=by
 have:r=0∨r=1∨r=2∨r=3:=by omega
 rcases this with rfl | rfl | rfl | rfl
 ·exact ⟨x,rfl,x0,x2⟩
 ·exact ⟨1,rfl,by decide,by decide⟩
 ·exact ⟨1,rfl,by decide,by decide⟩
 ·exact ⟨2,rfl,by decide,by decide⟩
theorem vH (ws:Zb) (k:Nat):fz (ws.map V.str) (some (k:Int)) none=(ws.drop k).map V.str:=by
 unfold fz;rw [HT.sIx_none,HT.sIx_nat,ai,List.take_of_length_le (by rw [fR,ai]; omega),vZ];by_cases h:k<=ws.length
 ·rw [vY h]
 ·rw [Nat.min_eq_right (by omega),we (by simp),we (by rw [ai]; omega)]
theorem ph (ws:Zb) (k:Nat):fz (ws.map V.str) none (some (k:Int))=(ws.take k).map V.str:=by
 unfold fz;rw [HT.sIx_none,HT.sIx_nat,ai,j1,Nat.sub_zero,mZ,List.take_eq_take_iff,ai];omega
theorem tP {K:Za}{H:Hp}{a:Addr}{ws:Zb}(h:az K H a (ws.map V.str)):jc K H (.s (ws.map gu)) (.ref a):=by
 unfold jc;exact ⟨a,_,rfl,h,ki _⟩
theorem Ct {K:Za}{H:Hp}{a:Addr}(h:az K H a []):jc K H (.s []) (.ref a):=by
 unfold jc;refine ⟨a,_,rfl,h,?_⟩;unfold DIns
 rfl
theorem uG {K:Za}{vs:List V}{H:Hp}{Q:VK}{E:XK}(h:gU vs H Q E):pV K fB j9 (bJ Q) (start qt vs) H:=by
 obtain ⟨p,c,l1,l2,l3,J0,J1,J2,full,rfl,hp,h1,h2,h3,ha,hs0,hs,hr0,hr,f0,f2,k⟩:=h;have n1:=hp.ne_strs h1;have n2:=hp.ne_strs h2;have n3:=hp.ne_strs h3;refine ⟨(by show 0<=aj; decide),fun l hl=>?_⟩;have hpl:=hp.nep hl;have hcl:=hp.nec hl;refine ⟨_,rfl,dI (hp.ex (ab.new hl)) (by decide) (by decide) fun dn H1 d0 d1 hp1 ex1=>?_⟩;generalize hG:lQ J0 J1 J2 (decide (dn=0))=G;have base:DI G H p c l 0 H1:=⟨hp1,⟨[],[],ex1 _ _ aa hpl.symm,.nil,pR,by simp,cV _⟩,(cX.new hl).trans ex1,hl,hpl,hcl⟩;refine ⟨_,rfl,l3,rfl,⟨_,az.of (base.ex _ _ h3 n3)⟩,?_⟩;refine jR (xs:=J2.map V.str) (fun i σ H'=>∃a7 a8 a9 a10 a11 a12:Option V,σ=[some (.ref p),some (.ref l1),some (.ref l2),some (.ref l3),some (.int full),some (.ref l),some (.int dn),a7,a8,a9,a10,a11,a12]/\DI G H p c l (11 * i) H')
  ⟨_,_,_,_,_,_,rfl,base⟩ (fun i σ H' _ ⟨_,_,_,_,_,_,_,D⟩=>az.of (D.ex _ _ h3 n3)) ?_ ?_
 ·rintro i x σ H' t hi ⟨a7,a8,a9,a10,a11,a12,rfl,D⟩ ht;obtain ⟨room,hroom,rfl⟩:∃room,J2[i]?=some room/\x=V.str room:=by
   rw [bZ] at hi;cases q:J2[i]? with
   | none=>rw [q] at hi; cases hi
   | some r=>rw [q] at hi; exact ⟨r,rfl,(fg hi).symm⟩
  have hiL:i<J2.length:=(bP.mp hroom).1;have hmem:room∈J2:=aP hroom;refine ⟨t,_,rfl,bj.of aa,rfl,_,_,rfl,_,_,rfl,rfl,?_⟩;have D1:=D.new ht (o:=.tup [.int i,.str room]);refine ⟨(by show 4<=aj; decide),fun q hq=>⟨_,rfl,dI (D1.new hq).pen (by decide) (by decide) fun r H2 r0 r1 hp2 ex2=>?_⟩⟩;obtain ⟨j,hj,j0,j2⟩:=at4 (x:=0) (by decide) (by decide) r0 r1;have D2:=(D1.new hq).took hp2 ex2;refine ⟨q,_,_,_,rfl,rfl,az.of (ex2 q _ aa (D1.pen.nep hq).symm),hj,j,rfl,by omega,by omega,?_⟩;refine mh (lo:=0) (n:=j.toNat) (fun i' σ H''=>∃a9 a10:Option V,σ=[some (.ref p),some (.ref l1),some (.ref l2),some (.ref l3),some (.int full),some (.ref l),some (.int dn),some (.int i),some (.str room),a9,a10,a11,a12]/\DI G H p c l (11 * i+i') H'')
   ⟨_,_,rfl,D2⟩ ?_ ?_
  ·rintro i' σ H3 hi' ⟨a9,a10,rfl,D3⟩;refine i0 (fun _ _ _ _ h=>h) rfl rfl D3.pen (D3.ex _ _ h2 n2) hs0 (by omega) fun w hw H4 hp4 ex4=>?_;have D4:=D3.took hp4 ex4;refine ⟨(by show 2<=aj; decide),fun sg hsg=>?_⟩;have D5:=D4.new hsg (o:=.tup [.str "say",.str w]);refine ⟨_,rfl,_,rfl,_,rfl,i0 (fun _ _ _ _ h=>h) rfl rfl D5.pen (D5.ex _ _ h3 n3) hr0 (by omega) fun w2 hw2 H6 hp6 ex6=>?_⟩;have D6:=D5.took hp6 ex6;refine ⟨(by show 3<=aj; decide),fun dr hdr=>?_⟩;have D7:=D6.new hdr (o:=.tup [.str room,.ref sg,.str w2]);have hsg6:H6 sg=some (.tup [.str "say",.str w]):=ex6 _ _ aa (D4.pen.nep hsg).symm;refine D7.put (d:=⟨room,["say",w],w2⟩) ⟨sg,aa,kp hsg6 hdr⟩ ?_ (by omega) fun H8 D8=>⟨_,_,rfl,D8⟩;rw [<-hG];exact ⟨hmem,hw2,.inr (.inl ⟨w,hw,rfl⟩)⟩
  rintro σ H3 ⟨a9,a10,rfl,D3'⟩;have D3:DI G H p c l (11 * i+2) H3:=D3'.up (by omega);clear D3';refine ⟨_,rfl,l1,rfl,⟨_,az.of (D3.ex _ _ h1 n1)⟩,?_⟩;refine cn (xs:=J0.map V.str) (fun i' σ H''=>∃a9 a11:Option V,σ=[some (.ref p),some (.ref l1),some (.ref l2),some (.ref l3),some (.int full),some (.ref l),some (.int dn),some (.int i),some (.str room),a9,a10,a11,a12]/\DI G H p c l (11 * i+2+2 * i') H'')
   ⟨_,_,rfl,D3⟩ (fun i σ H' _ ⟨_,_,_,D⟩=>az.of (D.ex _ _ h1 n1)) ?_ ?_
  ·rintro i' x σ H4 hi' ⟨a9,a11,rfl,D4⟩;obtain ⟨ask,hask,rfl⟩:∃ask,J0[i']?=some ask/\x=V.str ask:=by
    rw [bZ] at hi';cases q:J0[i']? with
    | none=>rw [q] at hi'; cases hi'
    | some r=>rw [q] at hi'; exact ⟨r,rfl,(fg hi').symm⟩
   have hi2:i'<J0.length:=(bP.mp hask).1;have hm2:ask∈J0:=aP hask;refine ⟨_,rfl,(by show 4<=aj; decide),fun q hq=>⟨_,rfl,dI (D4.new hq).pen (by decide) (by decide) fun r H5 r0 r1 hp5 ex5=>?_⟩⟩;obtain ⟨j,hj,j0,j2⟩:=at4 f0 f2 r0 r1;have D5:=(D4.new hq).took hp5 ex5;refine ⟨q,_,_,_,rfl,rfl,az.of (ex5 q _ aa (D4.pen.nep hq).symm),hj,j,rfl,by omega,by omega,?_⟩;refine mh (lo:=0) (n:=j.toNat) (fun i'' σ H''=>∃a9:Option V,σ=[some (.ref p),some (.ref l1),some (.ref l2),some (.ref l3),some (.int full),some (.ref l),some (.int dn),some (.int i),some (.str room),a9,a10,some (.str ask),a12]/\DI G H p c l (11 * i+2+2 * i'+i'') H'')
    ⟨_,rfl,D5⟩ ?_ ?_
   ·rintro i'' σ H6 hi'' ⟨a9,rfl,D6⟩;refine ⟨_,rfl,_,rfl,_,rfl,(by show 2<=aj; decide),fun sg hsg=>?_⟩;have D7:=D6.new hsg (o:=.tup [.str "ask",.str ask]);refine i0 (fun _ _ _ _ h=>h) rfl rfl D7.pen (D7.ex _ _ h3 n3) hr0 (by omega) fun w2 hw2 H8 hp8 ex8=>?_;have D8:=D7.took hp8 ex8;refine ⟨(by show 3<=aj; decide),fun dr hdr=>?_⟩;have D9:=D8.new hdr (o:=.tup [.str room,.ref sg,.str w2]);have hsg8:H8 sg=some (.tup [.str "ask",.str ask]):=ex8 _ _ aa (D6.pen.nep hsg).symm;refine D9.put (d:=⟨room,["ask",ask],w2⟩) ⟨sg,aa,kp hsg8 hdr⟩ ?_ (by omega) fun H8 D8=>⟨_,rfl,D8⟩;rw [<-hG];exact ⟨hmem,hw2,.inl ⟨ask,hm2,rfl⟩⟩
   ·rintro σ H6 ⟨a9,rfl,D6⟩;exact ⟨_,_,rfl,D6.up (by omega)⟩
  rintro σ H4 ⟨a9,a11,rfl,D4'⟩;have D4:DI G H p c l (11 * i+10) H4:=D4'.up (by rw [ai]; omega);clear D4';have hnext:∀(H9:Hp) (a12:Option V),DI G H p c l (11 * i+11) H9->∃a7 a8 a9' a10' a11' a12':Option V,[some (.ref p),some (.ref l1),some (.ref l2),some (.ref l3),some (.int full),some (.ref l),some (.int dn),some (.int i),some (.str room),a9,a10,a11,a12] =
    [some (.ref p),some (.ref l1),some (.ref l2),some (.ref l3),some (.int full),some (.ref l),some (.int dn),a7,a8,a9',a10',a11',a12']/\DI G H p c l (11 * (i+1)) H9:=fun H9 a12 D9=>⟨_,_,_,_,_,_,rfl,D9.up (by omega)⟩
  refine ⟨_,rfl,_,rfl,_,_,rfl,rfl,_,rfl,l3,_,rfl,az.of (D4.ex _ _ h3 n3),fun q1 hq1=>?_⟩;have D5:=D4.new hq1 (o:=.lst (fz (J2.map V.str) (some ((i:Int)+1)) none));refine ⟨_,rfl,_,rfl,_,rfl,l3,_,rfl,az.of (D5.ex _ _ h3 n3),fun q2 hq2=>?_⟩;have e1:fz (J2.map V.str) (some ((i:Int)+1)) none=(J2.drop (i+1)).map V.str:=vH J2 (i+1);rw [ph];have D6:=D5.new hq2 (o:=.lst ((J2.take i).map V.str));refine ⟨(by show 2<=aj; decide),fun q3 hq3=>?_⟩;have D7:=D6.new hq3 (o:=.lst [.ref q1,.ref q2]);obtain ⟨lt,q,hq,hlt,hgood⟩:∃(lt:Zb) (q:Addr),pD [V.ref q1,.ref q2] dn=some (.ref q) /\
    upd (upd (upd H4 q1 (.lst (fz (J2.map V.str) (some ((i:Int)+1)) none))) q2 (.lst ((J2.take i).map V.str))) q3 (.lst [.ref q1,.ref q2]) q=some (.lst (lt.map V.str))/\lt.length<=26 /\
    ∀w∈lt,w∈J2/\Up (decide (dn=0)) J2 room w:=by
   have:dn=0∨dn=1:=by omega
   rcases this with rfl | rfl
   ·refine ⟨J2.drop (i+1),q1,rfl,?_,by rw [fR]; omega,fun w hw=>⟨vX hw,?_⟩⟩
    ·refine (kp (kp aa hq2) hq3).trans ?_;rw [e1]
    ·obtain ⟨n,hn⟩:=fh hw;rw [List.getElem?_drop] at hn;exact ⟨i,i+1+n,hroom,hn,by rw [if_pos (by decide)]; omega⟩
   ·refine ⟨J2.take i,q2,rfl,?_,by rw [aX]; omega,fun w hw=>⟨fj hw,?_⟩⟩
    ·exact kp aa hq3
    ·obtain ⟨n,hn⟩:=fh hw;have hnl:n<i:=by
      have:=(bP.mp hn).1;rw [aX] at this;omega
     rw [List.getElem?_take_of_lt hnl] at hn;exact ⟨i,n,hroom,hn,by rw [if_neg (by decide)]; omega⟩
  refine ⟨_,rfl,q3,_,_,_,rfl,rfl,az.of aa,hq,?_⟩;generalize upd (upd (upd H4 q1 (.lst (fz (J2.map V.str) (some ((i:Int)+1)) none))) q2 (.lst ((J2.take i).map V.str))) q3 (.lst [.ref q1,.ref q2])=H7 at D7 hlt ⊢;refine ⟨_,rfl,(by show 0<=aj; decide),fun e he=>⟨.s (lt.map gu),.s [],tP (az.of (kp hlt he)),Ct (az.of aa),?_,by decide,_,rfl,?_⟩⟩
  ·show DT.depths (lt.map gu)+1<=8;rw [eP]; decide
  have D8:=D7.new he (o:=.lst []);by_cases hz:lt=[]
  ·have ez:(!decide (DT.s (lt.map gu)=DT.s []))=false:=by rw [hz,zzr1 (by rfl)]; rfl
   rw [ez];exact ck (ck (hnext _ _ (D8.up (by omega))))
  ·have ez:(!decide (DT.s (lt.map gu)=DT.s []))=true:=by
    rw [zzr0 (fun z=>hz (hE (y:=[]) (by injection z)))]; rfl
   rw [ez];refine dh ?_;refine ⟨_,rfl,dI D8.pen (by decide) (by decide) fun r H9 r0 r1 hp9 ex9=>⟨rfl,_,rfl,?_⟩⟩;have D9:=D8.took hp9 ex9;refine iN (fun _=>?_) (fun _=>hnext _ _ (D9.up (by omega)));refine ⟨_,rfl,_,rfl,(by show 1<=aj; decide),fun sg hsg=>?_⟩;have D10:=D9.new hsg (o:=.tup [.str "still"]);have hlt10:upd H9 sg (.tup [.str "still"]) q=some (.lst (lt.map V.str)):=kp (ex9 _ _ (kp hlt he) (D8.pen.ne_strs (kp hlt he))) hsg;refine i0 (fun _ _ _ _ h=>.inl h) rfl rfl D10.pen hlt10 hz (by omega) fun w2 hw2 H11 hp11 ex11=>?_;have D11:=D10.took hp11 ex11;refine ⟨(by show 3<=aj; decide),fun dr hdr=>?_⟩;have D12:=D11.new hdr (o:=.tup [.str room,.ref sg,.str w2]);have hsg11:H11 sg=some (.tup [.str "still"]):=ex11 _ _ aa (D9.pen.nep hsg).symm;refine D12.put (d:=⟨room,[("still":Str)],w2⟩) ⟨sg,aa,kp hsg11 hdr⟩ ?_ (by omega) fun H13 D13=>hnext _ _ D13;rw [<-hG];exact ⟨hmem,(hgood.2 w2 hw2).1,.inr (.inr ⟨rfl,(hgood.2 w2 hw2).2⟩)⟩
 ·rintro σ H' ⟨a7,a8,a9,a10,a11,a12,rfl,D⟩;obtain ⟨ts,ds,g1,g2,g3,g4,g5⟩:=D.ds;rw [ai] at g5;rw [<-hG] at g4;exact ⟨_,rfl,k l ts ds _ H' hl g1 g2 g3 g4 (by omega) D.pen D.ex⟩
structure aJ (J0 J1 J2:Zb) (ds:List am):Prop where
 okA:km J0
 okS:km J1
 apart:∀w∈J1,w∉J0
 okR:km J2
 asks0:J0≠[]
 says0:J1≠[]
 rooms0:J2≠[]
 asks4:J0.length<=4
 says4:J1.length<=4
 rooms26:J2.length<=150
 nodup:ds.Nodup
 good:∀d∈ds,zT J0 J1 J2 d
 few:ds.length<=1000
 noround:∀r,¬Reach ds r r
structure im (H:Hp) (t l1 l2 l3 l4:Addr) (ts:Ze) (J0 J1 J2:Zb) (ds:List am):Prop where
 t:H t=some (.tup [.ref l1,.ref l2,.ref l3,.ref l4])
 a1:H l1=some (.lst (J0.map V.str))
 a2:H l2=some (.lst (J1.map V.str))
 a3:H l3=some (.lst (J2.map V.str))
 a4:H l4=some (.lst (ts.map V.ref))
 ds:cB H ts ds
theorem gC.ne_refs {H:Hp}{p c a:Addr}{ts:Ze}(hp:gC H p c) (ha:H a=some (.lst (ts.map V.ref))):a≠p:=by
 intro e;obtain ⟨x,y,ns,h1,_⟩:=hp;rw [e,h1] at ha;injection ha with ha;injection ha with ha;cases ts with
 | nil=>cases ha
 | cons w ws =>
  injection ha with _ ha;cases ws with
  | nil=>cases ha
  | cons w ws=>injection ha with ha; cases ha
theorem im.ex {H H':Hp}{p c t l1 l2 l3 l4:Addr}{ts:Ze}{J0 J1 J2:Zb}{ds:List am}(h:im H t l1 l2 l3 l4 ts J0 J1 J2 ds) (hp:gC H p c) (e:cX p H H'):im H' t l1 l2 l3 l4 ts J0 J1 J2 ds:=by
 obtain ⟨xs,hx⟩:=hp.lst;exact ⟨e.kt hx _ _ h.t,e _ _ h.a1 (hp.ne_strs h.a1),e _ _ h.a2 (hp.ne_strs h.a2),e _ _ h.a3 (hp.ne_strs h.a3),e _ _ h.a4 (hp.ne_refs h.a4),h.ds.kt (e.kt hx)⟩
theorem im.same {H H':Hp}{t l1 l2 l3 l4:Addr}{ts:Ze}{J0 J1 J2:Zb}{ds:List am}(h:im H t l1 l2 l3 l4 ts J0 J1 J2 ds) (e:ab H H'):im H' t l1 l2 l3 l4 ts J0 J1 J2 ds :=
 ⟨e _ _ h.t,e _ _ h.a1,e _ _ h.a2,e _ _ h.a3,e _ _ h.a4,h.ds.kt (ab.kt e)⟩
inductive oJ  (vs:List V) (H:Hp) (Q:VK) (E:XK):Prop
 | mk (p c:Addr) (most full:Int):(vs=[.ref p,.int most,.int full])->(gC H p c)->(0<most)->(most<=25)->(0<=full)->(full<=2)->(∀(t l1 l2 l3 l4:Addr) (ts:Ze) (J0 J1 J2:Zb) (ds:List am) (H':Hp),im H' t l1 l2 l3 l4 ts J0 J1 J2 ds->aJ J0 J1 J2 ds->J2.length<=most.toNat->ds.length<=600->gC H' p c->cX p H H'->Q (.ref t) H')->oJ  vs H Q E
theorem at6 {r:Int}(r0:0<=r) (r6:r<6):∃n:Nat,pD [V.int 0,.int 1,.int 1,.int 2,.int 2,.int 3] r=some (.int n)/\n<=3:=by
 have:r=0∨r=1∨r=2∨r=3∨r=4∨r=5:=by omega
 rcases this with rfl | rfl | rfl | rfl | rfl | rfl
 ·exact ⟨0,rfl,by decide⟩
 ·exact ⟨1,rfl,by decide⟩
 ·exact ⟨1,rfl,by decide⟩
 ·exact ⟨2,rfl,by decide⟩
 ·exact ⟨2,rfl,by decide⟩
 ·exact ⟨3,rfl,by decide⟩
theorem Ft {ws:Zb}(hw:ws.length=8) {n:Nat}(hn:n<=3):fz (ws.map V.str) (some 4) (some (5+(n:Int)))=((ws.drop 4).take (1+n)).map V.str:=by
 unfold fz;have s1:HT.sIx (ws.map V.str).length 0 (some 4)=min 4 (ws.map V.str).length:=HT.sIx_nat _ _ 4;have s2:HT.sIx (ws.map V.str).length (ws.map V.str).length (some (5+(n:Int)))=min (5+n) (ws.map V.str).length:=HT.sIx_nat _ _ (5+n);rw [s1,s2,ai,hw,mZ,vZ];have e1:min 4 8=4:=by decide
 have e2:min (5+n) 8-4=1+n:=by omega
 rw [e1,e2]
theorem Eo {K:Za}{vs:List V}{H:Hp}{Q:VK}{E:XK}(h:oJ vs H Q E):yt K gU lA fB rM (bJ Q) (start zS vs) H:=by
 obtain ⟨p,c,most,full,rfl,hp,m0,m1,f0,f2,k⟩:=h;refine ⟨_,rfl,p,c,rfl,hp,fun H1 hp1 ex1=>?_⟩;refine ⟨_,rfl,p,c,8,rfl,hp1,by decide,fun lw ws H2 ok len fr hl hp2 ex2=>?_⟩;have e2:=ex1.trans ex2;have nw:=hp2.ne_strs hl;refine ⟨_,rfl,(by show 6<=aj; decide),fun q hq=>⟨_,rfl,dI (hp2.ex (ab.new hq)) (by decide) (by decide) fun r H3 r0 r1 hp3 ex3=>?_⟩⟩;obtain ⟨n,hn,n3⟩:=at6 r0 r1;have hl3:H3 lw=some (.lst (ws.map V.str)):=ex3 _ _ (kp hl hq) nw;refine ⟨q,_,_,_,rfl,rfl,az.of (ex3 _ _ aa (hp2.nep hq).symm),hn,_,_,rfl,rfl,_,rfl,lw,_,rfl,az.of hl3,fun l1 hl1=>?_⟩;have ea:fz (ws.map V.str) none (some (1+(n:Int)))=(ws.take (1+n)).map V.str:=ph ws (1+n);rw [ea];have e3:cX p H H3:=e2.trans ((cX.new hq).trans ex3);have hp4:gC (upd H3 l1 (.lst ((ws.take (1+n)).map V.str))) p c:=hp3.ex (ab.new hl1);have e4:cX p H (upd H3 l1 (.lst ((ws.take (1+n)).map V.str))):=e3.trans (cX.new hl1);have hl4:upd H3 l1 (.lst ((ws.take (1+n)).map V.str)) lw=some (.lst (ws.map V.str)):=kp hl3 hl1;have ha4:upd H3 l1 (.lst ((ws.take (1+n)).map V.str)) l1=some (.lst ((ws.take (1+n)).map V.str)):=aa;generalize upd H3 l1 (.lst ((ws.take (1+n)).map V.str))=H4 at hp4 e4 hl4 ha4 ⊢;refine ⟨_,rfl,_,rfl,(by show 6<=aj; decide),fun q hq=>⟨_,rfl,dI (hp4.ex (ab.new hq)) (by decide) (by decide) fun r H5 r0 r1 hp5 ex5=>?_⟩⟩;obtain ⟨m,hm,m3⟩:=at6 r0 r1;have hl5:H5 lw=some (.lst (ws.map V.str)):=ex5 _ _ (kp hl4 hq) nw;have ha5:H5 l1=some (.lst ((ws.take (1+n)).map V.str)):=ex5 _ _ (kp ha4 hq) (hp4.ne_strs ha4);refine ⟨q,_,_,_,rfl,rfl,az.of (ex5 _ _ aa (hp4.nep hq).symm),hm,_,_,rfl,rfl,_,rfl,lw,_,rfl,az.of hl5,fun l2 hl2=>?_⟩;rw [Ft len m3];have e5:cX p H H5:=e4.trans ((cX.new hq).trans ex5);have hp6:gC (upd H5 l2 (.lst (((ws.drop 4).take (1+m)).map V.str))) p c:=hp5.ex (ab.new hl2);have e6:cX p H (upd H5 l2 (.lst (((ws.drop 4).take (1+m)).map V.str))):=e5.trans (cX.new hl2);have ha6:upd H5 l2 (.lst (((ws.drop 4).take (1+m)).map V.str)) l1=some (.lst ((ws.take (1+n)).map V.str)):=kp ha5 hl2;have hb6:upd H5 l2 (.lst (((ws.drop 4).take (1+m)).map V.str)) l2=some (.lst (((ws.drop 4).take (1+m)).map V.str)):=aa;generalize upd H5 l2 (.lst (((ws.drop 4).take (1+m)).map V.str))=H6 at hp6 e6 ha6 hb6 ⊢;refine ⟨_,rfl,_,rfl,_,rfl,dI hp6 m0 (by omega) fun r H7 r0 r1 hp7 ex7=>?_⟩;obtain ⟨rn,rfl⟩:=iE r0;have ha7:=ex7 _ _ ha6 (hp6.ne_strs ha6);have hb7:=ex7 _ _ hb6 (hp6.ne_strs hb6);refine ⟨_,_,rfl,rfl,p,c,1+rn,rfl,hp7,by omega,fun l3 J2 H8 okr lenr fr3 hl3' hp8 ex8=>?_⟩;have ha8:=ex8 _ _ ha7 (hp7.ne_strs ha7);have hb8:=ex8 _ _ hb7 (hp7.ne_strs hb7);have hs0:(ws.drop 4).take (1+m)≠[]:=by
  intro z;have:=congrArg List.length z;rw [aX,fR,len] at this;simp at this
 have ha0:ws.take (1+n)≠[]:=by
  intro z;have:=congrArg List.length z;rw [aX,len] at this;simp at this
 have hr0:J2≠[]:=by
  intro z;rw [z] at lenr;simp at lenr;omega
 refine ⟨_,rfl,_,rfl,_,rfl,_,rfl,_,rfl,p,c,l1,l2,l3,_,_,J2,full,rfl,hp8,ha8,hb8,hl3',by rw [aX]; omega,hs0,by rw [aX]; omega,hr0,by omega,f0,f2,fun l4 ts ds up H9 fr4 hl4' hds nod good few hp9 ex9=>?_⟩;have ha9:=ex9 _ _ ha8 (hp8.ne_strs ha8);have hb9:=ex9 _ _ hb8 (hp8.ne_strs hb8);have hc9:=ex9 _ _ hl3' (hp8.ne_strs hl3');refine ⟨_,rfl,_,rfl,_,rfl,_,rfl,(by show 4<=aj; decide),fun t ht=>k t l1 l2 l3 l4 ts _ _ J2 ds _ ⟨aa,kp ha9 ht,kp hb9 ht,kp hc9 ht,kp hl4' ht,hds.kt (ab.kt (ab.new ht))⟩ ?_ ?_ few (hp9.ex (ab.new ht)) ?_⟩
 ·refine ⟨⟨?_,fun w h=>ok.2 w (fj h)⟩,⟨?_,fun w h=>ok.2 w (vX (fj h))⟩,?_,okr,ha0,hs0,hr0,by rw [aX]; omega,by rw [aX]; omega,by omega,nod,fun d hd=>(good d hd).d,by omega,fun r z=>(DW okr.1 good z).irr okr.1⟩
  ·exact ok.1.sublist (List.take_sublist _ _)
  ·exact ok.1.sublist ((List.take_sublist _ _).trans (List.drop_sublist _ _))
  ·intro w h1 h2;have h3:w∈ws.drop 4:=fj h1;have h4:w∈ws.take 4:=by
    have:ws.take (1+n)=(ws.take 4).take (1+n):=by rw [List.take_take]; congr 1; omega
    rw [this] at h2;exact fj h2
   have:=ok.1;rw [<-rY 4 ws,cH] at this;exact this.2.2 w h4 w h3 rfl
 ·omega
 ·exact (((e6.trans ex7).trans ex8).trans ex9).trans (cX.new ht)
theorem bC {ws:Zb}{i:Nat}{x:V}(h:(ws.map V.str)[i]?=some x):∃w,ws[i]?=some w/\x=.str w:=by
 rw [bZ] at h;cases q:ws[i]? with
 | none=>rw [q] at h; cases h
 | some r=>rw [q] at h; exact ⟨r,rfl,(fg h).symm⟩
theorem take_snoc {α:Type}{ws:List α}{i:Nat}{w:α}(h:ws[i]?=some w):ws.take (i+1)=ws.take i++[w]:=by
 obtain ⟨hi,rfl⟩:=bP.mp h;rw [List.take_succ_eq_append_getElem hi]
def o6 (w:Str):Bool:=!decide (w=("":Str)) && (decide (w.length<=8) && w.cps.toList.all fun c=>decide (c∈("abcdefghijklmnopqrstuvwxyz":Str).cps.toList))
theorem qx.b {w:Str}(h:qx w):o6 w=true:=by
 unfold o6;have h1:¬(w=("":Str)):=fun e=>by
  have:=h.lo;rw [e] at this;exact absurd this (by decide +kernel)
 rw [zzr0 h1,zzr1 h.hi,Bool.not_false,rX,rX,List.all_eq_true];intro c hc;obtain ⟨c1,c2⟩:=h.al c hc;refine zzr1 ?_;have:=Cy (c-97) (by omega);have e:97+(c-97)=c:=by omega
 rw [e] at this;exact aP this
inductive sp_is_name  (vs:List V) (H:Hp) (Q:VK) (E:XK):Prop
 | mk (w:Str):(vs=[.str w])->(w.length<=1000)->(∀H',ab H H'->Q (.bl (o6 w)) H')->sp_is_name  vs H Q E
theorem Ay {K:Za}{vs:List V}{H:Hp}{Q:VK}{E:XK}(h:sp_is_name vs H Q E):CP K (bJ Q) (start DD vs) H:=by
 obtain ⟨w,rfl,hz,k⟩:=h;refine ⟨_,rfl,rfl,_,rfl,?_⟩;have ed:(!decide (V.str w=V.str ("":Str)))=!decide (w=("":Str)):=by
  congr 1;by_cases e:w=("":Str)
  ·rw [zzr1 e,zzr1 (by rw [e])]
  ·rw [zzr0 e,zzr0 (fun z=>e (by injection z))]
 rw [ed];refine iN (fun h1=>?_) (fun h1=>?_)
 ·refine ⟨_,rfl,.inr ⟨w,rfl,eo (au hz),_,_,rfl,rfl,_,rfl,?_⟩⟩;refine iN (fun h2=>?_) (fun h2=>?_)
  ·refine ⟨_,rfl,w,rfl,fun l hl=>?_⟩;refine Fu (fun i vs H'=>vs=((w.cps.toList.take i).map fun c=>V.bl (decide (c∈("abcdefghijklmnopqrstuvwxyz":Str).cps.toList)))/\ab H H'/\H' l=some (.lst vs))
    ⟨rfl,ab.new hl,aa⟩ (fun i vs H' _ h=>h.2.2) ?_ ?_
   ·rintro vs H' ⟨rfl,hS,hl'⟩;refine ⟨l,w.cps.toList.map fun c=>decide (c∈("abcdefghijklmnopqrstuvwxyz":Str).cps.toList),rfl,az.of ?_,?_⟩
    ·rw [hl',rZ];have:w.cps.toList.take w.cps.size=w.cps.toList:=by
      rw [List.take_of_length_le]; simp
     rw [this]
     rfl
    ·have:=k H' hS;have h2':decide (w.length<=8)=true:=zzr1 (by have:=of_decide_eq_true h2; omega);unfold o6 at this;rw [h1,h2',rX,rX] at this;rw [List.all_map];exact this
   ·rintro i vs H' c hc hi ⟨rfl,hS,hl'⟩;refine gN (sE ?_);refine ⟨_,rfl,c,_,rfl,rfl,hl',?_,o0 hi ⟨?_,?_,aa⟩⟩
    ·rw [ai,aX];have:w.length=w.cps.toList.length:=fA w;exact au (by omega)
    ·rw [take_snoc (by rw [<-hc]; simp),aq]
     rfl
    ·intro b o e;rw [af (ae e hl)];exact hS b o e
  ·have:=k H (ab.refl H);have h2':decide (w.length<=8)=false:=zzr0 (fun z=>h2 (zzr1 (by omega)));unfold o6 at this;rw [h1,h2',rX,BA] at this;exact this
 ·have:=k H (ab.refl H);unfold o6 at this;rw [Bool.eq_false_iff.mpr h1,BA] at this;exact this
def aU (ws:Zb):List (eQ×V):=ws.foldl (fun acc w=>cO acc (.inr w) (.bl true)) []
theorem dH (ws:Zb) (w:Str):aU (ws++[w])=cO (aU ws) (.inr w) (.bl true):=by
 unfold aU;rw [jX]
 rfl
theorem tp {κ:Type} [DecidableEq κ] (kvs:List (κ×V)) (k:κ) (v:V):(cO kvs k v).length<=kvs.length+1:=by
 unfold cO;split
 ·rw [ai]; omega
 ·rw [ay]; exact aE _
theorem jC {α:Type}(P:List α->Prop) (h0:P []) (hs:∀ws w,P ws->P (ws++[w])) (ws:List α):P ws:=by
 have:∀n (ws:List α),ws.length=n->P ws:=by
  intro n
  induction n with
  | zero=>intro ws h; rw [List.length_eq_zero_iff.mp h]; exact h0
  | succ n ih =>
   intro ws h;have hne:ws≠[]:=fun z=>by rw [z] at h; cases h
   rw [<-List.dropLast_concat_getLast hne];exact hs _ _ (ih _ (by rw [List.length_dropLast,h]; rfl))
 exact this _ ws rfl
theorem kh (ws:Zb):(aU ws).length<=ws.length:=by
 refine jC (fun ws=>(aU ws).length<=ws.length) (aE _) (fun ws w h=>?_) ws;show (aU (ws++[w])).length<=(ws++[w]).length;rw [dH,ay];have:=tp (aU ws) (.inr w) (.bl true);show _<=ws.length+1;omega
theorem tH (ws:Zb) (x:Str):bQ (aU ws) (.inr x)=if x∈ws then some (.bl true) else none:=by
 refine jC (fun ws=>bQ (aU ws) (.inr x)=if x∈ws then some (.bl true) else none) rfl (fun ws w h=>?_) ws
 show bQ (aU (ws++[w])) (.inr x)=_;rw [dH,oz,h];by_cases e:x=w
 ·subst e;rw [if_pos rfl,if_pos (by simp)]
 ·have e1:¬((Sum.inr x:eQ)=.inr w):=fun z=>e (by injection z);rw [if_neg e1];by_cases m:x∈ws
  ·rw [if_pos m,if_pos (cW _ m)]
  ·rw [if_neg m,if_neg (fun z=>by rcases bd.mp z with z | z; exact m z; exact e (by simpa using z))]
theorem fe (ws:Zb) (x:Str):(bQ (aU ws) (.inr x)).isSome=decide (x∈ws):=by
 rw [tH];by_cases m:x∈ws
 ·rw [if_pos m,zzr1 m]; rfl
 ·rw [if_neg m,zzr0 m]; rfl
inductive sp_as_keys (K:Za) (vs:List V) (H:Hp) (Q:VK) (E:XK):Prop
 | mk (l:Addr) (ws:Zb):(vs=[.ref l])->(az K H l (ws.map V.str))->(ws.length<=1000)->(∀d,H d=none->Q (.ref d) (upd H d (.dK (aU ws))))->sp_as_keys K vs H Q E
theorem Az {K:Za}{vs:List V}{H:Hp}{Q:VK}{E:XK}(h:sp_as_keys K vs H Q E):CQ K (bJ Q) (start DE vs) H:=by
 obtain ⟨l,ws,rfl,hl,hz,k⟩:=h;refine fun d hd=>?_;have key:∀kvs,az K (upd H d (.dK kvs)) l (ws.map V.str):=fun kvs=>(ab.new hd).seq hl;refine ⟨_,rfl,l,rfl,⟨_,key _⟩,?_⟩;refine cn (xs:=ws.map V.str) (fun i σ H'=>∃x,σ=[some (.ref l),some (.ref d),x]/\H'=upd H d (.dK (aU (ws.take i)))) ⟨_,rfl,rfl⟩ (fun i σ H' _ ⟨_,_,e⟩=>by rw [e]; exact key _) ?_ ?_
 ·rintro i x σ H' hi ⟨y,rfl,rfl⟩;obtain ⟨w,hw,rfl⟩:=bC hi;have hlen:(aU (ws.take i)).length<aj:=au (bv (kh _) (by rw [aX]; omega));refine ⟨_,rfl,_,rfl,d,_,rfl,.inl ⟨_,.inr w,aa,rfl,hlen,rfl⟩,_,rfl,?_⟩;rw [rF,take_snoc hw,dH]
 ·rintro σ H' ⟨x,rfl,rfl⟩;rw [ai,bh];exact ⟨_,rfl,k d hd⟩
def Fh (most:Nat):Nat->List Str->List Str->Option Nat
 | _,_,[]=>none
 | i,ahead,n::ns=>if i=most∨n∈ahead∨o6 n=false then some i else Fh most (i+1) (ahead++[n]) ns
def cS (names:Zb) (most:Nat) (taken:Zb):Option Nat:=if names=[] then some 0 else Fh most 0 taken names
def oV:Option Nat->V
 | none=>.non
 | some i=>.int i
inductive sp_first_wrong_name (K:Za) (vs:List V) (H:Hp) (Q:VK) (E:XK):Prop
 | mk (l t:Addr) (names taken:Zb) (most:Nat):(vs=[.ref l,.int most,.ref t])->(az K H l (names.map V.str))->(az K H t (taken.map V.str))->(names.length+taken.length<=1000)->((∀w∈names,w.length<=1000))->(∀H',ab H H'->Q (oV (cS names most taken)) H')->sp_first_wrong_name K vs H Q E
theorem qp {K:Za}{H:Hp}{Q:VK}{E:XK}{l:Addr}{ws:Zb}(hl:az K H l (ws.map V.str)) (hz:ws.length<=1000) (k:∀d,H d=none->Q (.ref d) (upd H d (.dK (aU ws)))):sp_as_keys K [.ref l] H Q E:=by
 exact ⟨l,ws,rfl,hl,hz,k⟩
theorem Dj {H:Hp}{Q:VK}{E:XK}{w:Str}(hz:w.length<=1000) (k:∀H',ab H H'->Q (.bl (o6 w)) H'):sp_is_name [.str w] H Q E:=by
 exact ⟨w,rfl,hz,k⟩
theorem mC {K:Za}{vs:List V}{H:Hp}{Q:VK}{E:XK}(h:sp_first_wrong_name K vs H Q E):nA K sp_is_name (sp_as_keys K) (bJ Q) (start nS vs) H:=by
 obtain ⟨l,t,names,taken,most,rfl,hl,ht,hz,hw,k⟩:=h;refine ⟨_,rfl,.inl ⟨l,_,rfl,.inl hl,rfl,_,rfl,?_⟩⟩;by_cases h0:names=[]
 ·subst h0;refine dh ?_;have:=k H (ab.refl H);exact this
 have e0:decide (V.int ((names.map V.str).length:Nat)=V.int 0)=false:=zzr0 (fun z=>h0 (by
  injection z with z;rw [ai] at z;exact List.length_eq_zero_iff.mp (by omega)))
 rw [e0];refine ck ?_;have hk:∀H',ab H H'->Q (oV (Fh most 0 taken names)) H':=by
  unfold cS at k;rw [if_neg h0] at k;exact k
 refine ⟨_,rfl,qp ht (by omega) fun d hd=>?_⟩;refine ⟨_,rfl,l,rfl,⟨_,(ab.new hd).seq hl⟩,?_⟩;refine jR (xs:=names.map V.str) (fun i σ H'=>∃x y,σ=[some (.ref l),some (.int most),some (.ref t),some (.ref d),x,y]/\ab H H'/\H' d=some (.dK (aU (taken++names.take i)))/\Fh most i (taken++names.take i) (names.drop i)=Fh most 0 taken names)
  ⟨_,_,rfl,ab.new hd,by rw [rW,fD]; exact aa,by rw [rW,fD,j1]⟩ (fun i σ H' _ ⟨_,_,_,hS,_⟩=>hS.seq hl) ?_ ?_
 ·rintro i x σ H' q hi ⟨x4,x5,rfl,hS,hd',hf⟩ hq;obtain ⟨w,hw',rfl⟩:=bC hi;have hil:i<names.length:=(bP.mp hw').1;have ed:names.drop i=w::names.drop (i+1):=by
   rw [sf hil];congr 1;exact (bP.mp hw').2
  rw [ed] at hf;have hd2:upd H' q (.tup [.int i,.str w]) d=some (.dK (aU (taken++names.take i))):=kp hd' hq;have hS2:ab H (upd H' q (.tup [.int i,.str w])):=hS.trans (ab.new hq);have hww:w.length<=1000:=hw w (aP hw');refine ⟨q,_,rfl,bj.of aa,rfl,_,_,rfl,_,_,rfl,rfl,?_⟩;generalize upd H' q (.tup [.int i,.str w])=H2 at hd2 hS2 ⊢;refine ⟨_,rfl,_,rfl,rfl,_,rfl,?_⟩;by_cases c1:i=most
  ·have e1:decide (V.int (i:Nat)=V.int (most:Nat))=true:=zzr1 (by rw [c1]);rw [e1];refine dh (dh ?_);refine ⟨_,rfl,?_⟩;have:=hk H2 hS2;rw [<-hf] at this;unfold Fh at this;rw [if_pos (.inl c1)] at this;exact this
  have e1:decide (V.int (i:Nat)=V.int (most:Nat))=false:=zzr0 (fun z=>c1 (by injection z with z; omega));rw [e1];refine ck ?_;refine ⟨_,rfl,_,rfl,d,_,rfl,.inl ⟨_,.inr w,.inl hd2,rfl,rfl⟩,_,rfl,?_⟩;rw [fe];by_cases c2:w∈taken++names.take i
  ·rw [zzr1 c2];refine dh (dh ?_);refine ⟨_,rfl,?_⟩;have:=hk H2 hS2;rw [<-hf] at this;unfold Fh at this;rw [if_pos (.inr (.inl c2))] at this;exact this
  rw [zzr0 c2];refine ck ?_;refine ⟨_,rfl,Dj hww fun H3 hS3=>⟨_,rfl,?_⟩⟩;have hd3:=hS3 _ _ hd2;cases c3:o6 w with
  | false =>
   refine dh ?_;refine ⟨_,rfl,?_⟩;have:=hk H3 (hS2.trans hS3);rw [<-hf] at this;unfold Fh at this;rw [if_pos (.inr (.inr c3))] at this;exact this
  | true =>
   refine ck ?_;have hlen:(aU (taken++names.take i)).length<aj:=au (bv (kh _) (by rw [ay,aX]; omega));refine ⟨_,rfl,_,rfl,d,_,rfl,.inl ⟨_,.inr w,hd3,rfl,hlen,rfl⟩,_,_,rfl,?_,?_,?_⟩
   ·intro b o e;rw [af (ae e hd)];exact hS3 _ _ (hS2 _ _ e)
   ·rw [aa,take_snoc hw',<-df,dH]
   ·rw [<-hf,take_snoc hw',<-df]
    conv=>rhs; unfold Fh
    rw [if_neg];rintro (z | z | z)
    ·exact c1 z
    ·exact c2 z
    ·rw [c3] at z; cases z
 ·rintro σ H' ⟨x,y,rfl,hS,_,hf⟩;rw [ai,List.drop_length] at hf;have:=hk H' hS;rw [<-hf] at this;exact this
theorem zA {most:Nat}:∀(ns ahead:Zb) (i:Nat),i+ns.length<=most->(ahead++ns).Nodup->(∀w∈ns,qx w)->Fh most i ahead ns=none
 | [],_,_,_,_,_=>rfl
 | n::ns,ahead,i,h1,h2,h3=>by
  rw [em] at h1;unfold Fh;rw [if_neg]
  ·refine zA ns (ahead++[n]) (i+1) (by omega) (by rw [df]; exact h2) fun w hw=>h3 w (fx _ hw)
  ·rintro (z | z | z)
   ·omega
   ·rw [cH] at h2;exact h2.2.2 n z n (dA) rfl
   ·rw [(h3 n dA).b] at z; cases z
theorem h_ {most:Nat}{ns taken:Zb}(h0:ns≠[]) (h1:ns.length<=most) (h2:(taken++ns).Nodup) (h3:∀w∈ns,qx w):cS ns most taken=none:=by
 unfold cS;rw [if_neg h0];exact zA ns taken 0 (by omega) h2 h3
theorem gF {n:Nat}(h:n<=9000):n<aj:=Nat.lt_of_le_of_lt h (by decide)
def oP (x:Str):TK:=.k (.inr x)
def iW (sg:Zb):TK:=.t (sg.map oP)
def Cr (d:am):TK:=.t [oP d.a,iW d.sg,oP d.b]
theorem rN {x y:Str}(h:oP x=oP y):x=y:=by
 unfold oP at h;injection h with h;injection h
theorem qO:∀{x y:Zb},x.map oP=y.map oP->x=y
 | [],[],_=>rfl
 | [],_::_,h=>by cases h
 | _::_,[],h=>by cases h
 | a::x,b::y,h=>by
  rw [bc,bc] at h;injection h with h1 h2;rw [rN h1,qO h2]
theorem i7 {x y:Zb}(h:iW x=iW y):x=y:=by
 unfold iW at h;injection h with h;exact qO h
theorem GO {x y:am}(h:Cr x=Cr y):x=y:=by
 unfold Cr at h;injection h with h;injection h with h1 h;injection h with h2 h;injection h with h3 h;cases x; cases y;simp only at *;rw [rN h1,i7 h2,rN h3]
theorem z9 (xs:Zb):TK.depths (xs.map oP)=0:=by
 induction xs with
 | nil=>rfl
 | cons x xs ih=>rw [bc]; show max (TK.depth (oP x)) (TK.depths _)=0; rw [ih]; rfl
theorem lR (sg:Zb):(iW sg).depth=1:=by
 show TK.depths (sg.map oP)+1=1;rw [z9]
theorem u_ (d:am):(Cr d).depth=2:=by
 show max (TK.depth (oP d.a)) (max (TK.depth (iW d.sg)) (max (TK.depth (oP d.b)) 0))+1=2;rw [lR]
 rfl
theorem BJ {H:Hp}:∀xs:List Str,TKAts H (xs.map oP) (xs.map V.str)
 | []=>by show TKAts H [] []; unfold TKAts; rfl
 | x::xs=>by
  rw [bc,bc];unfold TKAts;refine ⟨_,_,rfl,?_,BJ xs⟩;unfold oP cT
  rfl
theorem wJ {H:Hp}(x:Str):cT H (oP x) (.str x):=by unfold oP cT; rfl
theorem SignAt.tk {H:Hp}{s:Addr}{sg:Zb}(h:SignAt H s sg):cT H (iW sg) (.ref s):=by
 unfold iW cT;exact ⟨s,_,rfl,h,BJ _⟩
theorem gL.tk {H:Hp}{t:Addr}{d:am}(h:gL H t d):cT H (Cr d) (.ref t):=by
 obtain ⟨s,h1,h2⟩:=h;unfold Cr cT;refine ⟨t,_,rfl,h1,?_⟩;unfold TKAts;refine ⟨_,_,rfl,wJ _,?_⟩;unfold TKAts;refine ⟨_,_,rfl,SignAt.tk h2,?_⟩;unfold TKAts;refine ⟨_,_,rfl,wJ _,?_⟩;unfold TKAts
 rfl
section
variable {κ:Type} [DecidableEq κ]
def kM (ks:List κ):List (κ×V):=ks.foldl (fun acc k=>cO acc k (.bl true)) []
theorem nM (ws:List κ) (w:κ):kM (ws++[w])=cO (kM ws) w (.bl true):=by
 unfold kM;rw [jX]
 rfl
theorem Dg (ws:List κ):(kM ws).length<=ws.length:=by
 refine jC (fun ws=>(kM ws).length<=ws.length) (aE _) (fun ws w h=>?_) ws;show (kM (ws++[w])).length<=(ws++[w]).length;rw [nM,ay];have:=tp (kM ws) w (.bl true);show _<=ws.length+1;omega
theorem EZ (ws:List κ) (x:κ):(bQ (kM ws) x).isSome=decide (x∈ws):=by
 refine jC (fun ws=>(bQ (kM ws) x).isSome=decide (x∈ws)) rfl (fun ws w h=>?_) ws;show (bQ (kM (ws++[w])) x).isSome=_;rw [nM,oz];by_cases e:x=w
 ·subst e;rw [if_pos rfl,zzr1 (by simp)]
  rfl
 ·rw [if_neg e,h];by_cases m:x∈ws
  ·rw [zzr1 m,zzr1 (cW _ m)]
  ·rw [zzr0 m,zzr0 (fun z=>by rcases bd.mp z with z | z; exact m z; exact e (by simpa using z))]
end
theorem Cc {d:am}{ds:List am}:Cr d∈ds.map Cr↔d∈ds:=by
 constructor
 ·intro h;obtain ⟨x,hx,e⟩:=aB.mp h;rw [<-GO e]; exact hx
 ·exact jZ
def nQ (K:Za) (H:Hp) (v:V) (sg:Zb):Prop:=∃s,v=.ref s/\bj K H s (sg.map V.str)
theorem ab.sqT {K:Za}{H H':Hp}{a:Addr}{xs:List V}(e:ab H H') (h:bj K H a xs):bj K H' a xs:=by
 rcases h with (h | ⟨o,h⟩) | h
 ·exact .inl (.inl (e _ _ h))
 ·exact .inl (.inr ⟨o,e _ _ h⟩)
 ·exact .inr h
theorem Signs.same {K:Za}{H H':Hp}(e:ab H H') {xs:List V}{sgs:List (List Str)}(h:Paired (nQ K H) xs sgs):Paired (nQ K H') xs sgs :=
 Paired.mapP h fun _ _ ⟨s,h1,h2⟩=>⟨s,h1,ab.sqT e h2⟩
def jW (sg:Zb):DT:=.t (sg.map gu)
theorem xD {x y:Zb}(h:jW x=jW y):x=y:=by
 unfold jW at h;injection h with h;exact hE h
theorem b0 (sg:Zb):(jW sg).depth=1:=by
 show DT.depths (sg.map gu)+1=1;rw [eP]
theorem Dq (sgs:List (List Str)):DT.depths (sgs.map jW)<=8:=by
 induction sgs with
 | nil=>exact cV _
 | cons x xs ih=>rw [bc]; show max (DT.depth (jW x)) (DT.depths _)<=8; rw [b0]; omega
theorem Signs.dIns {K:Za}{H:Hp}:∀{xs:List V}{sgs:List (List Str)},Paired (nQ K H) xs sgs->DIns K H (sgs.map jW) xs
 | _,_,.nil=>by show DIns K H [] []; unfold DIns; rfl
 | _,_,.cons ⟨s,e,r⟩ t=>by
  rw [bc];unfold DIns;refine ⟨_,_,rfl,?_,Signs.dIns t⟩;rw [e];exact bD r
theorem Cb {d:Zb}{ds:List (List Str)}:jW d∈ds.map jW↔d∈ds:=by
 constructor
 ·intro h;obtain ⟨x,hx,e⟩:=aB.mp h;rw [<-xD e]; exact hx
 ·exact jZ
theorem Paired.app {α β:Type}{R:α->β->Prop}:∀{a:List α}{b:List β}{c:List α}{d:List β},Paired R a b->Paired R c d->Paired R (a++c) (b++d)
 | _,_,_,_,.nil,h=>h
 | _,_,_,_,.cons r t,h=>.cons r (Paired.app t h)
def dq (w:Str):List Str:=[("ask":Str),w]
def oO (w:Str):List Str:=[("say":Str),w]
def jS (J0 J1:Zb):List (List Str):=J0.map dq++J1.map oO++[ax]
theorem sX {K:Za}{kw:Str}{σ:L2.St}{H:Hp}{a l:Addr}{ws:Zb}{Q:Hp->Prop}(ha:H a=some (.lst (ws.map V.str))) (hl:H l=none) (hz:ws.length<=1000)
  (k:∀(xs:List V) (H':Hp),Paired (nQ K H') xs (ws.map fun w=>[kw,w])->ab H H'->H' l=some (.lst xs)->Q H') :
  gk 1 [] σ (FL K a) U0 j5 (be (aS (tC (.str kw)) V0)) H l Q:=by
 refine cC (xs:=ws.map V.str) (fun i vs H'=>Paired (nQ K H') vs ((ws.take i).map fun w=>[kw,w])/\ab H H'/\H' l=some (.lst vs))
  ⟨.nil,ab.new hl,aa⟩ (fun i vs H' _ ⟨_,hS,h'⟩=>⟨h',az.of (hS _ _ ha)⟩) ?_ ?_
 ·rintro vs H' ⟨h1,h2,h3⟩;rw [ai,bh] at h1;exact k vs H' h1 h2 h3
 ·rintro i vs H' x hx hi ⟨h1,h2,h3⟩;obtain ⟨w,hw,rfl⟩:=bC hx;refine gN (sE ?_);refine ⟨_,rfl,(by show 2<=aj; decide),fun t ht=>⟨kp h3 ht,?_,o0 hi ⟨?_,?_,aa⟩⟩⟩
  ·rw [Paired.length h1,ai,aX]; exact au (by omega)
  ·rw [take_snoc hw,aq];have hS2:fP (upd H' t (.tup [.str kw,.str w])) (upd (upd H' t (.tup [.str kw,.str w])) l (.lst (vs++[.ref t]))):=cr (kp h3 ht);have hS3:fP H' (upd (upd H' t (.tup [.str kw,.str w])) l (.lst (vs++[.ref t]))):=(ab.kt (ab.new ht)).trans hS2;refine Paired.app (Paired.mapP h1 fun v sg ⟨s,e1,e2⟩=>⟨s,e1,?_⟩) (.cons ⟨t,rfl,bj.of (hS2 _ _ aa)⟩ .nil);rcases e2 with (e2 | ⟨o,e2⟩) | e2
   ·exact .inl (.inl (hS3 _ _ e2))
   ·refine .inl (.inr ⟨o,?_⟩);rw [af (fun z=>by rw [z,h3] at e2; cases e2)];exact kp e2 ht
   ·exact .inr e2
  ·intro b o e;rw [af (ae e hl)];exact kp (h2 _ _ e) ht
inductive sp_door_signs (K:Za) (vs:List V) (H:Hp) (Q:VK) (E:XK):Prop
 | mk (l1 l2:Addr) (J0 J1:Zb):(vs=[.ref l1,.ref l2])->(H l1=some (.lst (J0.map V.str)))->(H l2=some (.lst (J1.map V.str)))->(J0.length<=100)->(J1.length<=100)->(∀(l:Addr) (xs:List V) (H':Hp),Paired (nQ K H') xs (jS J0 J1)->ab H H'->H' l=some (.lst xs)->Q (.ref l) H')->sp_door_signs K vs H Q E
theorem uI {K:Za}{st:Addr}(hst:∀H,bj K H st (ax.map V.str)) {vs:List V}{H:Hp}{Q:VK}{E:XK}(h:sp_door_signs K vs H Q E):wR K st (bJ Q) (start xV vs) H:=by
 obtain ⟨l1,l2,J0,J1,rfl,h1,h2,z1,z2,k⟩:=h;refine ⟨_,rfl,l1,rfl,⟨_,az.of h1⟩,fun a ha=>?_⟩;refine sX h1 ha (by omega) fun xs1 H1 p1 s1 g1=>?_;refine ⟨_,rfl,l2,rfl,⟨_,az.of (s1 _ _ h2)⟩,fun b hb=>?_⟩;refine sX (s1 _ _ h2) hb (by omega) fun xs2 H2 p2 s2 g2=>?_;have len1:xs1.length<=100:=by rw [Paired.length p1,ai]; exact z1
 have len2:xs2.length<=100:=by rw [Paired.length p2,ai]; exact z2
 refine ⟨a,b,xs1,xs2,rfl,rfl,s2 _ _ g1,g2,eo (au (by omega)),fun c hc=>?_⟩;refine ⟨(by show 1<=aj; decide),fun d hd=>?_⟩;refine ⟨c,d,_,_,rfl,rfl,kp aa hd,aa,?_,fun e he=>k e _ _ ?_ ?_ aa⟩
 ·rw [ay];show _+1<=aj;exact eo (au (by omega))
 ·have sx:ab H2 (upd (upd (upd H2 c (.lst (xs1++xs2))) d (.lst [.ref st])) e (.lst (xs1++xs2++[.ref st]))):=((ab.new hc).trans (ab.new hd)).trans (ab.new he);exact Paired.app (Paired.app (Signs.same (s2.trans sx) p1) (Signs.same sx p2)) (.cons ⟨st,rfl,hst _⟩ .nil)
 ·exact (((s1.trans s2).trans (ab.new hc)).trans (ab.new hd)).trans (ab.new he)
def GJ (J2:Zb) (sgs:List (List Str)):Nat->List am->List am->Option Nat
 | _,_,[]=>none
 | i,ahead,d::ds=>if i=2000∨d∈ahead∨d.a∉J2∨d.sg∉sgs∨d.b∉J2 then some i else GJ J2 sgs (i+1) (ahead++[d]) ds
inductive sp_first_wrong_door (K:Za) (vs:List V) (H:Hp) (Q:VK) (E:XK):Prop
 | mk (l l3 sl:Addr) (ts:Ze) (ds:List am) (J2:Zb) (xs:List V) (sgs:List (List Str)):(vs=[.ref l,.ref l3,.ref sl])->(H l=some (.lst (ts.map V.ref)))->(cB H ts ds)->(H l3=some (.lst (J2.map V.str)))->(J2.length<=1000)->(H sl=some (.lst xs))->(Paired (nQ K H) xs sgs)->(ds.length<=9000)->(∀H',ab H H'->Q (oV (GJ J2 sgs 0 [] ds)) H')->sp_first_wrong_door K vs H Q E
theorem cP {ws:Ze}{i:Nat}{x:V}(h:(ws.map V.ref)[i]?=some x):∃w,ws[i]?=some w/\x=.ref w:=by
 rw [bZ] at h;cases q:ws[i]? with
 | none=>rw [q] at h; cases h
 | some r=>rw [q] at h; exact ⟨r,rfl,(fg h).symm⟩
theorem mD {K:Za}{vs:List V}{H:Hp}{Q:VK}{E:XK}(h:sp_first_wrong_door K vs H Q E):nB K (sp_as_keys K) (bJ Q) (start nT vs) H:=by
 obtain ⟨l,l3,sl,ts,ds,J2,xs,sgs,rfl,hl,hds,h3,hr,hsl,hsg,hz,k⟩:=h;refine ⟨_,rfl,qp (az.of h3) hr fun d hd=>?_⟩;refine fun e he=>?_;have hS0:ab H (upd (upd H d (.dK (aU J2))) e (.dT [])):=(ab.new hd).trans (ab.new he);have heH:H e=none:=(ab.new hd).free he;refine ⟨_,rfl,l,rfl,⟨_,az.of (hS0 _ _ hl)⟩,?_⟩;refine jR (xs:=ts.map V.ref) (fun i σ H'=>∃x y,σ=[some (.ref l),some (.ref l3),some (.ref sl),some (.ref d),some (.ref e),x,y]/\ab H H'/\H' d=some (.dK (aU J2))/\H' e=some (.dT (kM ((ds.take i).map Cr)))/\GJ J2 sgs i (ds.take i) (ds.drop i)=GJ J2 sgs 0 [] ds)
  ⟨_,_,rfl,hS0,kp aa he,aa,rfl⟩ (fun i σ H' _ ⟨_,_,_,hS,_⟩=>az.of (hS _ _ hl)) ?_ ?_
 ·rintro i x σ H' q hi ⟨x5,x6,rfl,hS,hd',he',hf⟩ hq;obtain ⟨t,ht,rfl⟩:=cP hi;obtain ⟨dr,hdr,hat⟩:=Paired.getL hds ht;have hil:i<ds.length:=(bP.mp hdr).1;have ed:ds.drop i=dr::ds.drop (i+1):=by
   rw [sf hil];congr 1;exact (bP.mp hdr).2
  rw [ed] at hf;have hS2:ab H (upd H' q (.tup [.int i,.ref t])):=hS.trans (ab.new hq);have hd2:upd H' q (.tup [.int i,.ref t]) d=_:=kp hd' hq;have he2:upd H' q (.tup [.int i,.ref t]) e=_:=kp he' hq;refine ⟨q,_,rfl,bj.of aa,rfl,_,_,rfl,_,_,rfl,rfl,?_⟩;generalize upd H' q (.tup [.int i,.ref t])=H2 at hd2 he2 hS2 ⊢;have hat2:=hat.kt (ab.kt hS2);have hin:lN K H2 (Cr dr) (.ref t):=cT.isIn 8 (by rw [u_]; decide) hat2.tk;have hd8:(Cr dr).depth<=8:=by rw [u_]; decide
  obtain ⟨s,ht2,hs2⟩:=hat2;have bad:(i=2000∨dr∈ds.take i∨dr.a∉J2∨dr.sg∉sgs∨dr.b∉J2)->Q (.int i) H2:=by
   intro c;have:=k H2 hS2;rw [<-hf] at this;unfold GJ at this;rw [if_pos c] at this;exact this
  refine ⟨_,rfl,rfl,_,rfl,?_⟩;by_cases c1:i=2000
  ·have e1:decide (V.int (i:Nat)=V.int 2000)=true:=zzr1 (by rw [c1]; rfl);rw [e1];exact dh (dh ⟨_,rfl,bad (.inl c1)⟩)
  have e1:decide (V.int (i:Nat)=V.int 2000)=false:=zzr0 (fun z=>c1 (by injection z with z; omega));rw [e1];refine ck ?_;refine ⟨_,rfl,_,rfl,e,_,rfl,.inr ⟨_,Cr dr,t,.inl he2,rfl,hin,hd8,rfl⟩,_,rfl,?_⟩;rw [EZ];by_cases c2:dr∈ds.take i
  ·rw [zzr1 (Cc.mpr c2)];exact dh ⟨_,rfl,bad (.inr (.inl c2))⟩
  rw [zzr0 (fun z=>c2 (Cc.mp z))];refine ck ?_;refine ⟨_,rfl,.inr (.inl ⟨t,_,0,_,rfl,rfl,bj.of ht2,rfl,_,rfl,d,_,rfl,.inl ⟨_,.inr dr.a,.inl hd2,rfl,rfl⟩,_,rfl,?_⟩)⟩;rw [fe];by_cases c3:dr.a∈J2;rotate_left
  ·rw [zzr0 c3];exact dh (dh ⟨_,rfl,bad (.inr (.inr (.inl c3)))⟩)
  rw [zzr1 c3];refine ck ?_;refine ⟨_,rfl,.inr (.inl ⟨t,_,1,_,rfl,rfl,bj.of ht2,rfl,_,rfl,jW dr.sg,sgs.map jW,sl,xs,bD (bj.of hs2),rfl,.inl (az.of (hS2 _ _ hsl)),Signs.dIns (Signs.same hS2 hsg),by rw [b0]; decide,Dq _,_,rfl,?_⟩)⟩;rw [if_pos rfl];by_cases c4:dr.sg∈sgs;rotate_left
  ·rw [zzr0 (fun z=>c4 (Cb.mp z))];exact dh (dh ⟨_,rfl,bad (.inr (.inr (.inr (.inl c4))))⟩)
  rw [zzr1 (Cb.mpr c4)];refine ck ?_;refine ⟨_,rfl,.inr (.inl ⟨t,_,2,_,rfl,rfl,bj.of ht2,rfl,_,rfl,d,_,rfl,.inl ⟨_,.inr dr.b,.inl hd2,rfl,rfl⟩,_,rfl,?_⟩)⟩;rw [fe];by_cases c5:dr.b∈J2;rotate_left
  ·rw [zzr0 c5];exact dh ⟨_,rfl,bad (.inr (.inr (.inr (.inr c5))))⟩
  rw [zzr1 c5];refine ck ?_;have hlen:(kM ((ds.take i).map Cr)).length<aj:=gF (bv (Dg _) (by rw [ai,aX]; omega));refine ⟨_,rfl,_,rfl,e,_,rfl,.inr ⟨_,Cr dr,t,he2,rfl,gL.tk ⟨s,ht2,hs2⟩,hd8,hlen,rfl⟩,_,_,rfl,?_,?_,?_,?_⟩
  ·intro b o q;rw [af (ae q heH)];exact hS2 _ _ q
  ·rw [af (fun z=>by rw [z,he2] at hd2; cases hd2)]; exact hd2
  ·rw [aa,take_snoc hdr,aq];exact congrArg (fun z=>some (HO.dT z)) (nM _ _).symm
  ·rw [<-hf,take_snoc hdr]
   conv=>rhs; unfold GJ
   rw [if_neg];rintro (z | z | z | z | z)
   ·exact c1 z
   ·exact c2 z
   ·exact z c3
   ·exact z c4
   ·exact z c5
 ·rintro σ H' ⟨x,y,rfl,hS,_,_,hf⟩;have:=k H' hS;rw [<-hf,ai,Paired.length hds,List.drop_length] at this;exact this
theorem zB {J2:Zb}{sgs:List (List Str)}:∀(ds ahead:List am) (i:Nat),i+ds.length<=2000->(ahead++ds).Nodup->(∀d∈ds,d.a∈J2/\d.sg∈sgs/\d.b∈J2)->GJ J2 sgs i ahead ds=none
 | [],_,_,_,_,_=>rfl
 | n::ns,ahead,i,h1,h2,h3=>by
  rw [em] at h1;unfold GJ;rw [if_neg]
  ·refine zB ns (ahead++[n]) (i+1) (by omega) (by rw [df]; exact h2) fun w hw=>h3 w (fx _ hw)
  ·have:=h3 n dA;rintro (z | z | z | z | z)
   ·omega
   ·rw [cH] at h2;exact h2.2.2 n z n (dA) rfl
   ·exact z this.1
   ·exact z this.2.1
   ·exact z this.2.2
inductive sp_need_none  (vs:List V) (H:Hp) (Q:VK) (E:XK):Prop
 | mk (x:V):(vs=[x,.non])->(Q .non H)->sp_need_none  vs H Q E
theorem xa {K:Za}{vs:List V}{H:Hp}{Q:VK}{E:XK}(h:sp_need_none vs H Q E):yo K (bJ Q) (start zP vs) H:=by
 obtain ⟨x,rfl,k⟩:=h;refine ⟨_,rfl,_,rfl,?_⟩;have e:(!decide (V.non=V.non))=false:=by rw [zzr1 rfl]; rfl
 rw [e];exact ck k
structure Lists (H:Hp) (l1 l2 l3 l4:Addr) (ts:Ze) (J0 J1 J2:Zb) (ds:List am):Prop where
 a1:H l1=some (.lst (J0.map V.str))
 a2:H l2=some (.lst (J1.map V.str))
 a3:H l3=some (.lst (J2.map V.str))
 a4:H l4=some (.lst (ts.map V.ref))
 ds:cB H ts ds
theorem Lists.same {H H':Hp}{l1 l2 l3 l4:Addr}{ts:Ze}{J0 J1 J2:Zb}{ds:List am}(h:Lists H l1 l2 l3 l4 ts J0 J1 J2 ds) (e:ab H H'):Lists H' l1 l2 l3 l4 ts J0 J1 J2 ds :=
 ⟨e _ _ h.a1,e _ _ h.a2,e _ _ h.a3,e _ _ h.a4,h.ds.kt (ab.kt e)⟩
inductive sp_need_parts  (vs:List V) (H:Hp) (Q:VK) (E:XK):Prop
 | mk (l1 l2 l3 l4:Addr) (ts:Ze) (J0 J1 J2:Zb) (ds:List am):(vs=[.ref l1,.ref l2,.ref l3,.ref l4])->(Lists H l1 l2 l3 l4 ts J0 J1 J2 ds)->(aJ J0 J1 J2 ds)->(∀H',ab H H'->Q .non H')->sp_need_parts  vs H Q E
theorem aJ.signs {J0 J1 J2:Zb}{ds:List am}(m:aJ J0 J1 J2 ds):∀d∈ds,d.a∈J2/\d.sg∈jS J0 J1/\d.b∈J2:=by
 intro d hd;have g:=m.good d hd;refine ⟨g.a,?_,g.b⟩;unfold jS;rcases g.sg with ⟨w,hw,e⟩ | ⟨w,hw,e⟩ | e
 ·rw [e]; exact cW _ (cW _ (aB.mpr ⟨w,hw,rfl⟩))
 ·rw [e]; exact cW _ (dk _ (aB.mpr ⟨w,hw,rfl⟩))
 ·rw [e]; exact dk _ (by simp [ax])
theorem qd {ws:Zb}(h:km ws):∀w∈ws,w.length<=1000:=fun w hw=>bv (h.2 w hw).hi (by decide)
theorem uD {K:Za}{vs:List V}{H:Hp}{Q:VK}{E:XK}(h:sp_need_parts vs H Q E):wM K sp_need_none (sp_first_wrong_door K) (sp_door_signs K) (sp_first_wrong_name K) (bJ Q) (start xQ vs) H:=by
 obtain ⟨l1,l2,l3,l4,ts,J0,J1,J2,ds,rfl,L,m,k⟩:=h;have w1:cS J0 4 []=none:=h_ m.asks0 m.asks4 m.okA.1 m.okA.2;have w2:cS J1 4 J0=none:=h_ m.says0 m.says4 (by
  rw [cH];exact ⟨m.okA.1,m.okS.1,fun a ha b hb e=>m.apart b hb (e ▸ ha)⟩) m.okS.2
 have w3:cS J2 150 []=none:=h_ m.rooms0 (by have:=m.rooms26; omega) m.okR.1 m.okR.2;have w4:GJ J2 (jS J0 J1) 0 [] ds=none:=zB ds [] 0 (by have:=m.few; omega) m.nodup m.signs;have z1:=m.asks4;have z2:=m.says4;have z3:=m.rooms26;have z4:=m.few;refine ⟨_,rfl,(by show 0<=aj; decide),fun e he=>⟨l1,e,J0,[],4,rfl,az.of (kp L.a1 he),az.of aa,by simp; omega,qd m.okA,fun H1 s1=>?_⟩⟩;rw [w1];refine ⟨_,rfl,?_⟩;have S1:=(ab.new he).trans s1;refine ⟨_,rfl,_,rfl,l2,l1,J1,J0,4,rfl,az.of (S1 _ _ L.a2),az.of (S1 _ _ L.a1),by omega,qd m.okS,fun H2 s2=>?_⟩;rw [w2];refine ⟨_,rfl,?_⟩;have S2:=S1.trans s2;refine ⟨_,rfl,(by show 0<=aj; decide),fun e he=>⟨l3,e,J2,[],150,rfl,az.of (kp (S2 _ _ L.a3) he),az.of aa,by simp; omega,qd m.okR,fun H3 s3=>?_⟩⟩;rw [w3];refine ⟨_,rfl,?_⟩;have S3:=(S2.trans (ab.new he)).trans s3;refine ⟨_,rfl,_,rfl,_,rfl,_,rfl,l1,l2,J0,J1,rfl,S3 _ _ L.a1,S3 _ _ L.a2,by omega,by omega,fun sl xs H4 hx s4 hsl=>?_⟩;have S4:=S3.trans s4;have L4:=L.same S4;refine ⟨l4,l3,sl,ts,ds,J2,xs,jS J0 J1,rfl,L4.a4,L4.ds,L4.a3,by omega,hsl,hx,by omega,fun H5 s5=>?_⟩;rw [w4];exact ⟨_,rfl,k H5 (S4.trans s5)⟩
section
variable {κ ι:Type} [DecidableEq κ] {e:ι->κ}
def dW (e:ι->κ) (ps:List (ι×Addr)):List (κ×V):=ps.map fun x=>(e x.1,V.ref x.2)
theorem me (inj:∀x y,e x=e y->x=y) {i:ι}:∀{ps:List (ι×Addr)},i∉ps.map (·.1)->bQ (dW e ps) (e i)=none
 | [],_=>rfl
 | x::ps,h=>by
  rw [bc,c9] at h;show bQ ((e x.1,V.ref x.2)::dW e ps) (e i)=none;rw [cz (fun z=>h (.inl (inj _ _ z).symm))];exact me inj (fun z=>h (.inr z))
theorem eB (inj:∀x y,e x=e y->x=y) {i:ι}{a:Addr}:∀{ps:List (ι×Addr)},(ps.map (·.1)).Nodup->(i,a)∈ps->bQ (dW e ps) (e i)=some (.ref a)
 | [],_,h=>by cases h
 | x::ps,nd,h=>by
  rw [bc,mK] at nd;show bQ ((e x.1,V.ref x.2)::dW e ps) (e i)=_;rcases c9.mp h with h | h
  ·rw [<-h]; exact cD rfl
  ·rw [cz (fun z=>nd.1 (by rw [inj _ _ z]; exact aB.mpr ⟨_,h,rfl⟩))];exact eB inj nd.2 h
theorem vy (ps:List (ι×Addr)) (i:ι) (a:Addr):dW e (ps++[(i,a)])=dW e ps++[(e i,.ref a)]:=by
 unfold dW;rw [aq]
 rfl
end
structure DL {ι:Type}(H0 H:Hp) (d:Addr) (ps:List (ι×Addr)):Prop where
 nd:(ps.map (·.1)).Nodup
 na:(ps.map (·.2)).Nodup
 fr:∀x∈ps,H0 x.2=none
 frd:H0 d=none
 ned:∀x∈ps,x.2≠d
 same:ab H0 H
theorem DL.snoc {ι:Type}{H0 H H':Hp}{d:Addr}{ps:List (ι×Addr)}{i:ι}{a:Addr}(h:DL H0 H d ps) (hi:i∉ps.map (·.1)) (ha:∀x∈ps,x.2≠a) (fr:H0 a=none) (nd:a≠d) (s:ab H0 H'):DL H0 H' d (ps++[(i,a)]):=by
 refine ⟨?_,?_,?_,h.frd,?_,s⟩
 ·rw [aq,cH];refine ⟨h.nd,by simp,fun x hx y hy e=>?_⟩;have:y=i:=by simpa using hy
  exact hi (by rw [<-this,<-e]; exact hx)
 ·rw [aq,cH];refine ⟨h.na,by simp,fun x hx y hy e=>?_⟩;have:y=a:=by simpa using hy
  obtain ⟨z,hz,rfl⟩:=aB.mp hx;exact ha z hz (e.trans this)
 ·intro x hx;rcases bd.mp hx with hx | hx
  ·exact h.fr x hx
  ·have:x=(i,a):=by simpa using hx
   rw [this]; exact fr
 ·intro x hx;rcases bd.mp hx with hx | hx
  ·exact h.ned x hx
  ·have:x=(i,a):=by simpa using hx
   rw [this]; exact nd
theorem EQ {ι:Type}:∀{ps:List (ι×Addr)},(ps.map (·.2)).Nodup->∀{x y:ι×Addr},x∈ps->y∈ps->x.2=y.2->x=y
 | [],_,x,_,h,_,_=>by cases h
 | p::ps,nd,x,y,hx,hy,e=>by
  rw [bc,mK] at nd;rcases c9.mp hx with hx' | hx' <;> rcases c9.mp hy with hy' | hy'
  ·rw [hx',hy']
  ·exact absurd (aB.mpr ⟨y,hy',by rw [<-e,hx']⟩) nd.1
  ·exact absurd (aB.mpr ⟨x,hx',by rw [e,hy']⟩) nd.1
  ·exact EQ nd.2 hx' hy' e
theorem ij:∀x y:Str,(Sum.inr x:eQ)=Sum.inr y->x=y:=fun x y h=>by injection h
def bz (ds:List am) (r:Str):List am:=ds.filter fun d=>decide (d.a=r)
inductive sp_doors_by_start  (vs:List V) (H:Hp) (Q:VK) (E:XK):Prop
 | mk (l3 l4:Addr) (ts:Ze) (J2:Zb) (ds:List am):(vs=[.ref l3,.ref l4])->(H l3=some (.lst (J2.map V.str)))->(H l4=some (.lst (ts.map V.ref)))->(cB H ts ds)->(J2.Nodup)->(J2.length<=1000)->(ds.length<=9000)->((∀d∈ds,d.a∈J2))->(∀(d:Addr) (ps:List (Str×Addr)) (H':Hp),ps.map (·.1)=J2->H' d=some (.dK (dW Sum.inr ps))->(∀x∈ps,∃us,H' x.2=some (.lst (us.map V.ref))/\cB H' us (bz ds x.1))->ab H H'->Q (.ref d) H')->sp_doors_by_start  vs H Q E
theorem oU {K:Za}{vs:List V}{H:Hp}{Q:VK}{E:XK}(h:sp_doors_by_start vs H Q E):pX K (bJ Q) (start qw vs) H:=by
 obtain ⟨l3,l4,ts,J2,ds,rfl,h3,h4,hds,nod,hz,hz2,hin,k⟩:=h;refine fun d hd=>?_;refine ⟨_,rfl,l3,rfl,⟨_,az.of (kp h3 hd)⟩,?_⟩;refine cn (xs:=J2.map V.str) (fun i σ H'=>∃x y,σ=[some (.ref l3),some (.ref l4),some (.ref d),x,y]/\∃ps:List (Str×Addr),ps.map (·.1)=J2.take i/\H' d=some (.dK (dW Sum.inr ps))/\DL H H' d ps/\∀x∈ps,H' x.2=some (.lst []))
  ⟨_,_,rfl,[],rfl,aa,⟨by simp,by simp,by simp,hd,by simp,ab.new hd⟩,by simp⟩ (fun i σ H' _ ⟨_,_,_,_,_,_,D,_⟩=>az.of (D.same _ _ h3)) ?_ ?_
 ·rintro i x σ H' hi ⟨x3,x4,rfl,ps,hps,hd',D,hls⟩;obtain ⟨w,hw,rfl⟩:=bC hi;have hnew:w∉ps.map (·.1):=by
   rw [hps];intro z;have:=nod;rw [<-rY (i+1) J2,take_snoc hw,cH] at this;have:=this.1;rw [cH] at this;exact this.2.2 w z w (by simp) rfl
  refine ⟨(by show 0<=aj; decide),fun a ha=>?_⟩;have hlen:(dW (Sum.inr:Str->eQ) ps).length<aj:=au (by
   unfold dW;rw [ai,<-ai (f:=(·.1)) (as:=ps),hps,aX]; omega)
  have haH:H a=none:=D.same.free ha;have nda:a≠d:=(ae hd' ha).symm;have hneA:∀x∈ps,x.2≠a:=fun x hx=>ae (hls x hx) ha;refine ⟨_,rfl,_,rfl,d,_,rfl,.inl ⟨_,.inr w,kp hd' ha,rfl,hlen,rfl⟩,_,_,rfl,ps++[(w,a)],?_,?_,?_,?_⟩
  ·rw [aq,hps,take_snoc hw]; rfl
  ·rw [aa,fX _ (me ij hnew),vy]
  ·refine D.snoc hnew hneA haH nda ?_;intro b o q;rw [af (ae q hd)];exact kp (D.same _ _ q) ha
  ·intro x hx;rcases bd.mp hx with hx | hx
   ·rw [af (D.ned x hx)];exact kp (hls x hx) ha
   ·have:x=(w,a):=by simpa using hx
    rw [this,af nda];exact aa
 ·rintro σ H1 ⟨x3,x4,rfl,ps,hps,hd1,D1,hls⟩;rw [ai,bh] at hps;refine ⟨_,rfl,l4,rfl,⟨_,az.of (D1.same _ _ h4)⟩,?_⟩;refine cn (xs:=ts.map V.ref) (fun i σ H'=>∃x4,σ=[some (.ref l3),some (.ref l4),some (.ref d),x3,x4]/\H' d=some (.dK (dW Sum.inr ps))/\DL H H' d ps/\∀x∈ps,∃us,H' x.2=some (.lst (us.map V.ref))/\cB H' us (bz (ds.take i) x.1))
   ⟨_,rfl,hd1,D1,fun x hx=>⟨[],hls x hx,.nil⟩⟩ (fun i σ H' _ ⟨_,_,_,D,_⟩=>az.of (D.same _ _ h4)) ?_ ?_
  ·rintro i x σ H' hi ⟨x4,rfl,hd',D,hls⟩;obtain ⟨t,ht,rfl⟩:=cP hi;obtain ⟨dr,hdr,hat⟩:=Paired.getL hds ht;have hat':=hat.kt (ab.kt D.same);have hat2:=hat';obtain ⟨s,ht2,hs2⟩:=hat';have hmem:dr.a∈ps.map (·.1):=by rw [hps]; exact hin dr (aP hdr)
   obtain ⟨⟨r,a⟩,hra,er⟩:=aB.mp hmem;obtain rfl:r=dr.a:=er;obtain ⟨us,hus,hdo⟩:=hls _ hra;have hil:i<ds.length:=(bP.mp hdr).1;have hlu:us.length<=9000:=by
    rw [Paired.length hdo];refine bv (de _ _) ?_;rw [aX]; omega
   have KT:fP H' (upd H' a (.lst (us.map V.ref++[.ref t]))):=cr hus;refine ⟨_,rfl,_,rfl,.inr (.inl ⟨t,_,0,_,rfl,rfl,bj.of ht2,rfl,d,.ref a,rfl,.inl ⟨_,.inr dr.a,.inl hd',rfl,(eB ij D.nd hra).symm⟩,.inl ⟨rfl,_,az.of hus⟩,_,rfl,a,_,_,rfl,rfl,hus,?_,_,rfl,?_,?_,?_⟩)⟩
   ·rw [ai]; exact gF hlu
   ·rw [af (D.ned _ hra).symm]; exact hd'
   ·refine ⟨D.nd,D.na,D.fr,D.frd,D.ned,fun b o q=>?_⟩;rw [af (ae q (D.fr _ hra))];exact D.same _ _ q
   ·intro x hx;have hfl:∀r',bz (ds.take (i+1)) r'=bz (ds.take i) r'++(if dr.a=r' then [dr] else []):=by
     intro r';unfold bz;rw [take_snoc hdr,pJ];congr 1;by_cases c:dr.a=r'
     ·rw [if_pos c]; simp [c]
     ·rw [if_neg c]; simp [c]
    by_cases c:x.2=a
    ·have ex:=EQ D.na hx hra c;subst ex;refine ⟨us++[t],?_,?_⟩
     ·show upd H' a _ a=_;rw [aa,aq]; rfl
     ·rw [hfl];show cB _ _ (bz (ds.take i) dr.a++(if dr.a=dr.a then [dr] else []))
      rw [if_pos rfl];exact Paired.app (hdo.kt KT) (.cons (hat2.kt KT) .nil)
    ·obtain ⟨us',h1,h2⟩:=hls x hx;have hne:¬(dr.a=x.1):=fun z=>by
      have e1:=eB (e:=(Sum.inr:Str->eQ)) ij D.nd hra;have e2:=eB (e:=(Sum.inr:Str->eQ)) (i:=x.1) (a:=x.2) ij D.nd hx;rw [<-z,e1] at e2;injection e2 with e2;injection e2 with e2;exact c e2.symm
     refine ⟨us',by rw [af c]; exact h1,?_⟩;rw [hfl,if_neg hne,fD];exact h2.kt KT
  ·rintro σ H' ⟨x4,rfl,hd',D,hls⟩;rw [ai,Paired.length hds,bh] at hls;exact ⟨_,rfl,k d ps H' hps hd' hls D.same⟩
def gb (d:am):Bool:=match d.sg with
 | s::_=>decide (s=("ask":Str))
 | []=>false
inductive sp_has_asks_alone  (vs:List V) (H:Hp) (Q:VK) (E:XK):Prop
 | mk (a:Addr) (us:Ze) (ds:List am):(vs=[.ref a])->(H a=some (.lst (us.map V.ref)))->(cB H us ds)->(ds.length<=9000)->((∀d∈ds,d.sg≠[]))->(∀H',ab H H'->Q (.bl (ds.all gb)) H')->sp_has_asks_alone  vs H Q E
theorem oT {K:Za}{vs:List V}{H:Hp}{Q:VK}{E:XK}(h:sp_has_asks_alone vs H Q E):pW K (bJ Q) (start qv vs) H:=by
 obtain ⟨a,us,ds,rfl,ha,hds,hz,hne,k⟩:=h;refine ⟨_,rfl,a,rfl,⟨_,az.of ha⟩,fun l hl=>?_⟩;refine cC (xs:=us.map V.ref) (fun i vs H'=>vs=(ds.take i).map (fun d=>V.bl (gb d))/\ab H H'/\H' l=some (.lst vs))
  ⟨rfl,ab.new hl,aa⟩ (fun i vs H' _ ⟨_,hS,h'⟩=>⟨h',az.of (hS _ _ ha)⟩) ?_ ?_
 ·rintro vs H' ⟨rfl,hS,h'⟩;rw [ai,Paired.length hds,bh] at h';refine ⟨l,ds.map gb,rfl,az.of (by rw [h',rZ]; rfl),?_⟩;rw [List.all_map];exact k H' hS
 ·rintro i vs H' x hx hi ⟨rfl,hS,h'⟩;obtain ⟨t,ht,rfl⟩:=cP hx;obtain ⟨dr,hdr,hat⟩:=Paired.getL hds ht;obtain ⟨s,ht2,hs2⟩:=hat.kt (ab.kt hS);have hmem:=aP hdr;obtain ⟨s0,rest,hsg⟩:∃s0 rest,dr.sg=s0::rest:=by
   cases q:dr.sg with
   | nil=>exact absurd q (hne dr hmem)
   | cons x y=>exact ⟨x,y,rfl⟩
  unfold SignAt at hs2;rw [hsg] at hs2;refine gN (sE ?_);refine ⟨_,rfl,.inr (.inl ⟨t,_,1,_,rfl,rfl,bj.of ht2,rfl,.inr (.inl ⟨s,_,0,.str s0,rfl,rfl,bj.of hs2,bt (j:=0) rfl,rfl,h',?_,o0 hi ⟨?_,?_,aa⟩⟩)⟩)⟩
  ·rw [ai,aX]; exact gF (by omega)
  ·rw [take_snoc hdr,aq];congr 1;show [V.bl _]=[V.bl _];congr 2;unfold gb;rw [hsg];show decide (V.str s0=V.str _)=decide (s0=_);by_cases c:s0=("ask":Str)
   ·rw [zzr1 c,zzr1 (by rw [c])]
   ·rw [zzr0 c,zzr0 (fun z=>c (by injection z))]
  ·intro b o e;rw [af (ae e hl)];exact hS _ _ e
def ue (x:Str×List Str):TK:=.t [oP x.1,iW x.2]
theorem ig:∀x y:Str×List Str,ue x=ue y->x=y:=by
 intro x y h;unfold ue at h;injection h with h;injection h with h1 h;injection h with h2 h;cases x; cases y;simp only at *;rw [rN h1,i7 h2]
theorem lY (x:Str×List Str):(ue x).depth<=8:=by
 show max (TK.depth (oP x.1)) (max (TK.depth (iW x.2)) 0)+1<=8;rw [lR];show max 0 (max 1 0)+1<=8
 decide
def bm (ds:List am) (x:Str×List Str):List Str:=(ds.filter fun d=>decide (d.a=x.1/\d.sg=x.2)).map (·.b)
theorem xC (ds:List am) (d:am) (x:Str×List Str):bm (ds++[d]) x=bm ds x++(if (d.a,d.sg)=x then [d.b] else []):=by
 unfold bm;rw [pJ,aq];congr 1;by_cases c:(d.a,d.sg)=x
 ·subst c;simp
 ·rw [if_neg c];have:¬(d.a=x.1/\d.sg=x.2):=fun z=>c (by cases x; simp only at z; rw [z.1,z.2]);simp [List.filter_cons];intro h1 h2;exact this ⟨h1,h2⟩
theorem lI {ds:List am}{x:Str×List Str}(h:∀d∈ds,(d.a,d.sg)≠x):bm ds x=[]:=by
 unfold bm;rw [mY,vV];intro d hd;have:¬(d.a=x.1/\d.sg=x.2):=fun z=>h d hd (by cases x; simp only at z; rw [z.1,z.2]);simp;intro h1 h2;exact this ⟨h1,h2⟩
theorem eL {ds:List am}{x:Str×List Str}{b:Str}:b∈bm ds x↔(⟨x.1,x.2,b⟩:am)∈ds:=by
 unfold bm;rw [aB];constructor
 ·rintro ⟨d,hd,rfl⟩;rw [cj] at hd;obtain ⟨h1,h2⟩:=hd;obtain ⟨h3,h4⟩:=of_decide_eq_true h2;cases d;simp only at h3 h4;rw [<-h3,<-h4]; exact h1
 ·intro h;exact ⟨_,cj.mpr ⟨h,zzr1 ⟨rfl,rfl⟩⟩,rfl⟩
structure jb (H:Hp) (g:Addr) (ps:List ((Str×List Str)×Addr)) (ds:List am):Prop where
 nd:(ps.map (·.1)).Nodup
 g:H g=some (.dT (dW ue ps))
 ls:∀x∈ps,H x.2=some (.lst ((bm ds x.1).map V.str))
 all:∀d∈ds,(d.a,d.sg)∈ps.map (·.1)
theorem jb.same {H H':Hp}{g:Addr}{ps:List ((Str×List Str)×Addr)}{ds:List am}(h:jb H g ps ds) (s:ab H H'):jb H' g ps ds:=⟨h.nd,s _ _ h.g,fun x hx=>s _ _ (h.ls x hx),h.all⟩
inductive oK  (vs:List V) (H:Hp) (Q:VK) (E:XK):Prop
 | mk (l4:Addr) (ts:Ze) (ds:List am):(vs=[.ref l4])->(H l4=some (.lst (ts.map V.ref)))->(cB H ts ds)->(ds.length<=9000)->(∀(g:Addr) (ps:List ((Str×List Str)×Addr)) (H':Hp),jb H' g ps ds->ab H H'->Q (.ref g) H')->oK  vs H Q E
theorem iM {K:Za}{vs:List V}{H:Hp}{Q:VK}{E:XK}(h:oK vs H Q E):iU K (bJ Q) (start iX vs) H:=by
 obtain ⟨l4,ts,ds,rfl,h4,hds,hz,k⟩:=h;refine fun g hg=>?_;refine ⟨_,rfl,l4,rfl,⟨_,az.of (kp h4 hg)⟩,?_⟩;refine cn (xs:=ts.map V.ref) (fun i σ H'=>∃x y z,σ=[some (.ref l4),some (.ref g),x,y,z]/\∃ps:List ((Str×List Str)×Addr),DL H H' g ps/\H' g=some (.dT (dW ue ps))/\ps.length<=i/\(∀x∈ps,H' x.2=some (.lst ((bm (ds.take i) x.1).map V.str)))/\∀d∈ds.take i,(d.a,d.sg)∈ps.map (·.1))
  ⟨_,_,_,rfl,[],⟨by simp,by simp,by simp,hg,by simp,ab.new hg⟩,aa,by simp,by simp,by simp⟩ (fun i σ H' _ ⟨_,_,_,_,_,D,_⟩=>az.of (D.same _ _ h4)) ?_ ?_
 ·rintro i x σ H' hi ⟨x2,x3,x4,rfl,ps,D,hg',hlen,hls,hall⟩;obtain ⟨t,ht,rfl⟩:=cP hi;obtain ⟨dr,hdr,hat⟩:=Paired.getL hds ht;have hil:i<ds.length:=(bP.mp hdr).1;obtain ⟨s,ht2,hs2⟩:=hat.kt (ab.kt D.same);refine ⟨t,_,rfl,bj.of ht2,rfl,_,_,rfl,_,_,rfl,_,_,rfl,rfl,?_⟩;refine ⟨_,rfl,.inr (.inr (.inl ⟨rfl,.inr ⟨_,hg'⟩⟩)),_,rfl,_,rfl,(by show 2<=aj; decide),fun kt hkt=>⟨(by show 0<=aj; decide),fun nl hnl=>?_⟩⟩;have S2:ab H' (upd (upd H' kt (.tup [.str dr.a,.ref s])) nl (.lst [])):=(ab.new hkt).trans (ab.new hnl);have hkt2:upd (upd H' kt (.tup [.str dr.a,.ref s])) nl (.lst []) kt=some (.tup [.str dr.a,.ref s]):=kp aa hnl;have hnl2:upd (upd H' kt (.tup [.str dr.a,.ref s])) nl (.lst []) nl=some (.lst []):=aa;have hnlH':H' nl=none:=(ab.new hkt).free hnl;generalize upd (upd H' kt (.tup [.str dr.a,.ref s])) nl (.lst [])=H2 at S2 hkt2 hnl2 ⊢;have htk:cT H2 (ue (dr.a,dr.sg)) (.ref kt):=by
   unfold ue cT;refine ⟨kt,_,rfl,hkt2,?_⟩;unfold TKAts;refine ⟨_,_,rfl,wJ _,?_⟩;unfold TKAts;refine ⟨_,_,rfl,SignAt.tk (S2 _ _ hs2),?_⟩;unfold TKAts
   rfl
  have hlk:(dW ue ps).length<aj:=gF (by unfold dW; rw [ai]; omega);have hgo:∀x,bm (ds.take (i+1)) x=bm (ds.take i) x++(if (dr.a,dr.sg)=x then [dr.b] else []):=fun x=>by rw [take_snoc hdr,xC]
  have hgl:∀x,(bm (ds.take i) x).length<=9000:=fun x=>by
   unfold bm;rw [ai];refine bv (de _ _) ?_;rw [aX]; omega
  refine ⟨g,kt,_,ue (dr.a,dr.sg),.ref nl,rfl,rfl,S2 _ _ hg',htk,lY _,hlk,fun v hv=>?_,fun hv=>?_⟩
  ·-- there already
   have hmem:(dr.a,dr.sg)∈ps.map (·.1):=by
    refine sm fun z=>?_;rw [me ig z] at hv;cases hv
   obtain ⟨⟨r,a⟩,hra,er⟩:=aB.mp hmem;obtain rfl:r=(dr.a,dr.sg):=er;rw [eB ig D.nd hra] at hv;injection hv with hv;subst hv;have hla:=S2 _ _ (hls _ hra);refine ⟨.inl ⟨rfl,_,az.of hla⟩,_,rfl,a,_,_,rfl,rfl,hla,by rw [ai]; exact gF (hgl _),_,_,_,rfl,ps,⟨D.nd,D.na,D.fr,D.frd,D.ned,fun b o q=>?_⟩,?_,by omega,?_,?_⟩
   ·rw [af (ae q (D.fr _ hra))];exact S2 _ _ (D.same _ _ q)
   ·rw [af (D.ned _ hra).symm]; exact S2 _ _ hg'
   ·intro x hx;by_cases c:x.2=a
    ·have ex:=EQ D.na hx hra c;subst ex;show upd H2 a _ a=_;rw [aa,hgo,if_pos rfl,aq]; rfl
    ·have hne:¬((dr.a,dr.sg)=x.1):=fun z=>by
      have e1:=eB (e:=ue) ig D.nd hra;have e2:=eB (e:=ue) (i:=x.1) (a:=x.2) ig D.nd hx;rw [<-z,e1] at e2;injection e2 with e2;injection e2 with e2;exact c e2.symm
     rw [af c,hgo,if_neg hne,fD];exact S2 _ _ (hls x hx)
   ·intro d hd;rw [take_snoc hdr] at hd;rcases bd.mp hd with hd | hd
    ·exact hall d hd
    ·have:d=dr:=by simpa using hd
     rw [this]; exact hmem
  ·-- a new list
   have hnew:(dr.a,dr.sg)∉ps.map (·.1):=by
    intro z;obtain ⟨⟨r,a⟩,hra,er⟩:=aB.mp z;obtain rfl:r=(dr.a,dr.sg):=er;rw [eB ig D.nd hra] at hv;cases hv
   have hgne:nl≠g:=(ae hg' hnlH').symm;have hnl3:upd H2 g (.dT (dW ue ps++[(ue (dr.a,dr.sg),.ref nl)])) nl=some (.lst []):=by rw [af hgne]; exact hnl2
   refine ⟨.inl ⟨rfl,_,az.of hnl3⟩,_,rfl,nl,_,_,rfl,rfl,hnl3,(by show 0<aj; decide),_,_,_,rfl,ps++[((dr.a,dr.sg),nl)],?_,?_,?_,?_,?_⟩
   ·refine D.snoc hnew (fun x hx=>ae (hls x hx) hnlH') (D.same.free hnlH') hgne ?_;intro b o q;rw [af (ae q (D.same.free hnlH')),af (ae q hg)];exact S2 _ _ (D.same _ _ q)
   ·rw [af hgne.symm,aa,vy]
   ·rw [ay]; show _+1<=_; omega
   ·intro x hx;rcases bd.mp hx with hx | hx
    ·have hne:¬((dr.a,dr.sg)=x.1):=fun z=>hnew (by rw [z]; exact aB.mpr ⟨x,hx,rfl⟩);rw [af (ae (hls x hx) hnlH'),af (D.ned x hx),hgo,if_neg hne,fD];exact S2 _ _ (hls x hx)
    ·have:x=((dr.a,dr.sg),nl):=by simpa using hx
     subst this;have hnil:bm (ds.take i) (dr.a,dr.sg)=[]:=lI fun d hd z=>hnew (by rw [<-z]; exact hall d hd);show upd _ nl _ nl=_;rw [aa,hgo,if_pos rfl,hnil]
     rfl
   ·intro d hd;rw [aq];rw [take_snoc hdr] at hd;rcases bd.mp hd with hd | hd
    ·exact cW _ (hall d hd)
    ·have:d=dr:=by simpa using hd
     rw [this]; exact dk _ (by simp)
 ·rintro σ H' ⟨x2,x3,x4,rfl,ps,D,hg',hlen,hls,hall⟩;rw [ai,Paired.length hds,bh] at hls hall;exact ⟨_,rfl,k g ps H' ⟨D.nd,hg',hls,hall⟩ D.same⟩
theorem lG:∀{L R:Zb},L.Nodup->(∀y∈L,y∈R)->L.length<=R.length
 | [],_,_,_=>cV _
 | x::L,R,nd,h=>by
  rw [mK] at nd;have hx:=h x dA;have:=lG (L:=L) (R:=R.erase x) nd.2 fun y hy=>(List.mem_erase_of_ne (fun e:y=x=>nd.1 (by rw [<-e]; exact hy))).mpr (h y (fx _ hy));rw [List.length_erase_of_mem hx] at this;have:0<R.length:=List.length_pos_of_mem hx;rw [em];omega
theorem Reach.in_ {ds:List am}{a b:Str}{J2:Zb}(hr:∀d∈ds,d.b∈J2) (h:Reach ds a b):b∈J2:=by
 cases h with
 | one h=>exact hr _ h
 | step r h=>exact hr _ h
inductive w6  (vs:List V) (H:Hp) (Q:VK) (E:XK):Prop
 | mk (g:Addr) (room:Str) (ps:List ((Str×List Str)×Addr)) (ds:List am) (J2:Zb):(vs=[.ref g,.str room])->(jb H g ps ds)->((∀d∈ds,d.b∈J2))->(J2.length<=1000)->(∀(d:Addr) (L:Zb) (H':Hp),H' d=some (.dK (aU L))->L.Nodup->(∀w,w∈L↔Reach ds room w)->H d=none->ab H H'->Q (.ref d) H')->w6  vs H Q E
structure Ic (H0 H:Hp) (ds:List am) (room:Str) (d w:Addr) (L W:Zb) (open_:Str->Prop):Prop where
 d:H d=some (.dK (aU L))
 w:H w=some (.lst (W.map V.str))
 same:ab H0 H
 nd:L.Nodup
 sound:∀y∈L,Reach ds room y
 wait:∀y∈W,y=room∨y∈L
 closed:∀y,(y=room∨y∈L)->y∉W->¬open_ y->∀c∈bm ds (y,ax),c∈L
theorem rm {K:Za}{st:Addr}(hst:∀H,bj K H st (ax.map V.str)) {vs:List V}{H:Hp}{Q:VK}{E:XK}(h:w6 vs H Q E):sH K st (bJ Q) (start t4 vs) H:=by
 obtain ⟨g,room,ps,ds,J2,rfl,G,hin,hz,k⟩:=h;refine fun d hd=>?_;refine ⟨_,rfl,(by show 1<=aj; decide),fun w hw=>?_⟩;have hwH:H w=none:=(ab.new hd).free hw;have hdw:d≠w:=ae aa hw;refine ⟨fun m σ H'=>∃(L W:Zb) (x y:Option V),σ=[some (.ref g),some (.str room),some (.ref d),some (.ref w),x,y]/\Ic H H' ds room d w L W (fun _=>False)/\m=2 * (J2.length-L.length)+W.length/\m<=2 * J2.length+1,
  ⟨_,[],[room],_,_,rfl,⟨kp aa hw,aa,(ab.new hd).trans (ab.new hw),pR,by simp,by simp,?_⟩,rfl,aE _⟩,?_⟩
 ·intro y hy hn;rcases hy with rfl | hy
  ·simp at hn
  ·cases hy
 rintro m σ H1 ⟨L,W,x4,x5,rfl,D,rfl,hbound⟩;have lenL:∀{L':Zb},L'.Nodup->(∀y∈L',Reach ds room y)->L'.length<=J2.length:=fun nd sd=>lG nd fun y hy=>(sd y hy).in_ hin;refine ⟨_,rfl,.inl ⟨w,_,rfl,.inl (az.of D.w),_,_,rfl,rfl,_,rfl,?_⟩⟩;refine iN (fun hpos=>?_) (fun hpos=>?_)
 ·have hne:W≠[]:=by
   intro z;rw [z] at hpos;exact absurd (of_decide_eq_true hpos) (by decide)
  obtain ⟨W',here,rfl⟩:∃W' here,W=W'++[here]:=⟨W.dropLast,W.getLast hne,(List.dropLast_concat_getLast hne).symm⟩;have hhere:here=room∨here∈L:=D.wait here (by simp);refine ⟨fun σ' H'=>∃(L' W2:Zb) (x y:Option V),σ'=[some (.ref g),some (.str room),some (.ref d),some (.ref w),x,y]/\Ic H H' ds room d w L' W2 (fun _=>False)/\2 * (J2.length-L'.length)+W2.length<2 * (J2.length-L.length)+(W'++[here]).length,
   fun σ' H' ⟨L',W2,x,y,e,D',hm⟩=>⟨_,hm,L',W2,x,y,e,D',rfl,by omega⟩,?_⟩
  have hlast:((W'++[here]).map V.str)[((W'++[here]).map V.str).length-1]?=some (.str here):=by simp
  have hdrop:((W'++[here]).map V.str).dropLast=W'.map V.str:=by rw [aq]; simp
  refine ⟨_,rfl,.inl ⟨rfl,_,az.of D.w⟩,w,_,_,rfl,rfl,D.w,hlast,?_⟩;rw [hdrop];have hd1:upd H1 w (.lst (W'.map V.str)) d=some (.dK (aU L)):=by rw [af hdw]; exact D.d
  have hw1:upd H1 w (.lst (W'.map V.str)) w=some (.lst (W'.map V.str)):=aa;have S1:ab H (upd H1 w (.lst (W'.map V.str))):=fun b o q=>by rw [af (ae q hwH)]; exact D.same _ _ q
  generalize upd H1 w (.lst (W'.map V.str))=H2 at hd1 hw1 S1 ⊢;have G2:=G.same S1;refine ⟨_,rfl,g,rfl,.inr ⟨_,.inl G2.g⟩,_,rfl,(by show 2<=aj; decide),fun kt hkt=>⟨(by show 0<=aj; decide),fun et het=>⟨bQ (dW ue ps) (ue (here,ax)),.inr ⟨_,ue (here,ax),kt,.inl ?_,rfl,?_,lY _,rfl⟩,?_⟩⟩⟩
  ·exact kp (kp G2.g hkt) het
  ·unfold ue lN;refine ⟨kt,_,rfl,bj.of (kp aa het),?_⟩;unfold TKIns;refine ⟨_,_,rfl,?_,?_⟩
   ·unfold oP lN; rfl
   unfold TKIns;refine ⟨_,_,rfl,?_,?_⟩
   ·unfold iW lN;refine ⟨st,_,rfl,hst _,?_⟩;unfold ax;show TKIns K _ [oP _] [V.str _];unfold TKIns;refine ⟨_,_,rfl,?_,?_⟩
    ·unfold oP lN; rfl
    unfold TKIns; rfl
   unfold TKIns; rfl
  have S3:ab H2 (upd (upd H2 kt (.tup [.str here,.ref st])) et (.tup [])):=(ab.new hkt).trans (ab.new het);have het3:upd (upd H2 kt (.tup [.str here,.ref st])) et (.tup []) et=some (.tup []):=aa;generalize upd (upd H2 kt (.tup [.str here,.ref st])) et (.tup [])=H3 at S3 het3 ⊢;have D3:Ic H H3 ds room d w L W' (fun y=>y=here):=⟨S3 _ _ hd1,S3 _ _ hw1,S1.trans S3,D.nd,D.sound,fun y hy=>D.wait y (cW _ hy),fun y hy hn ho=>D.closed y hy (fun z=>by rcases bd.mp z with z | z; exact hn z; exact ho (by simpa using z)) (fun z=>z)⟩;have hm3:2 * (J2.length-L.length)+W'.length<2 * (J2.length-L.length)+(W'++[here]).length:=by rw [ay]; show _<_+(_+1); omega
  have fin:∀(H4:Hp) (L' W2:Zb) (x y:Option V),Ic H H4 ds room d w L' W2 (fun y=>y=here)->(∀c∈bm ds (here,ax),c∈L')->2 * (J2.length-L'.length)+W2.length<2 * (J2.length-L.length)+(W'++[here]).length ->
    ∃(L' W2:Zb) (x' y':Option V),[some (V.ref g),some (.str room),some (.ref d),some (.ref w),x,y]=[some (.ref g),some (.str room),some (.ref d),some (.ref w),x',y']/\Ic H H4 ds room d w L' W2 (fun _=>False)/\2 * (J2.length-L'.length)+W2.length<2 * (J2.length-L.length)+(W'++[here]).length:=by
   intro H4 L' W2 x y D4 hc hm;refine ⟨L',W2,x,y,rfl,⟨D4.d,D4.w,D4.same,D4.nd,D4.sound,D4.wait,fun y hy hn _=>?_⟩,hm⟩;by_cases e:y=here
   ·rw [e]; exact hc
   ·exact D4.closed y hy hn e
  by_cases hmem:(here,ax)∈ps.map (·.1)
  ·obtain ⟨⟨r,a⟩,hra,er⟩:=aB.mp hmem;obtain rfl:r=(here,ax):=er;rw [eB ig G.nd hra];have hla:=G.ls _ hra;refine ⟨a,rfl,.inl ⟨⟨_,az.of ((S1.trans S3) _ _ hla)⟩,?_⟩⟩;refine cn (xs:=(bm ds (here,ax)).map V.str) (fun j σ H'=>∃(L' W2:Zb) (y:Option V),σ=[some (.ref g),some (.str room),some (.ref d),some (.ref w),some (.str here),y]/\Ic H H' ds room d w L' W2 (fun y=>y=here)/\(here=room∨here∈L')/\(∀c∈(bm ds (here,ax)).take j,c∈L') /\
     2 * (J2.length-L'.length)+W2.length<2 * (J2.length-L.length)+(W'++[here]).length)
    ⟨L,W',_,rfl,D3,hhere,by simp,hm3⟩ (fun j σ H' _ ⟨_,_,_,_,D',_⟩=>az.of (D'.same _ _ hla)) ?_ ?_
   ·rintro j x σ H4 hj ⟨L',W2,y,rfl,D4,hh,hc,hm⟩;obtain ⟨goal,hgoal,rfl⟩:=bC hj;have hedge:(⟨here,ax,goal⟩:am)∈ds:=eL.mp (aP hgoal);have hreach:Reach ds room goal:=by
     rcases hh with hh | hh
     ·rw [hh] at hedge; exact .one hedge
     ·exact .step (D4.sound _ hh) hedge
    have hlen':=lenL D4.nd D4.sound;refine ⟨_,rfl,_,rfl,d,_,rfl,.inl ⟨_,.inr goal,.inl D4.d,rfl,rfl⟩,_,rfl,?_⟩;rw [fe];by_cases c:goal∈L'
    ·rw [zzr1 c];refine ck ⟨L',W2,_,rfl,D4,hh,?_,hm⟩;intro c' hc';rw [take_snoc hgoal] at hc';rcases bd.mp hc' with h | h
     ·exact hc c' h
     ·have:c'=goal:=by simpa using h
      rw [this]; exact c
    ·rw [zzr0 c];refine dh ?_;have nd':(L'++[goal]).Nodup:=by
      rw [cH];refine ⟨D4.nd,by simp,fun a ha b hb e=>?_⟩;have:b=goal:=by simpa using hb
      exact c (by rw [<-this,<-e]; exact ha)
     have sd':∀y∈L'++[goal],Reach ds room y:=by
      intro y hy;rcases bd.mp hy with hy | hy
      ·exact D4.sound y hy
      ·have:y=goal:=by simpa using hy
       rw [this]; exact hreach
     have hlen2:=lenL nd' sd';rw [ay] at hlen2;have hlen3:L'.length+1<=J2.length:=hlen2;have hWl:W2.length<=9000:=by omega
     refine ⟨_,rfl,_,rfl,d,_,rfl,.inl ⟨_,.inr goal,D4.d,rfl,au (bv (kh _) (by omega)),rfl⟩,?_⟩;have hw5:upd H4 d (.dK (cO (aU L') (.inr goal) (.bl true))) w=some (.lst (W2.map V.str)):=by rw [af hdw.symm]; exact D4.w
     refine ⟨_,rfl,.inl ⟨rfl,_,az.of hw5⟩,_,rfl,w,_,_,rfl,rfl,hw5,by rw [ai]; exact gF hWl,L'++[goal],W2++[goal],_,rfl,⟨?_,?_,?_,nd',sd',?_,?_⟩,?_,?_,?_⟩
     ·rw [af hdw,aa,dH]
     ·rw [aa,aq]; rfl
     ·intro b o q;rw [af (ae q hwH),af (ae q hd)];exact D4.same _ _ q
     ·intro y hy;rcases bd.mp hy with hy | hy
      ·rcases D4.wait y hy with h | h
       ·exact .inl h
       ·exact .inr (cW _ h)
      ·exact .inr (dk _ hy)
     ·intro y hy hn ho c' hc';have hn1:y∉W2:=fun z=>hn (cW _ z);have hyg:y≠goal:=fun z=>hn (dk _ (by simp [z]));refine cW _ (D4.closed y ?_ hn1 ho c' hc');rcases hy with hy | hy
      ·exact .inl hy
      ·rcases bd.mp hy with hy | hy
       ·exact .inr hy
       ·exact absurd (by simpa using hy) hyg
     ·rcases hh with h | h
      ·exact .inl h
      ·exact .inr (cW _ h)
     ·intro c' hc';rw [take_snoc hgoal] at hc';rcases bd.mp hc' with h | h
      ·exact cW _ (hc c' h)
      ·exact dk _ h
     ·rw [ay,ay];show 2 * (J2.length-(L'.length+1))+(W2.length+1)<_;omega
   ·rintro σ H4 ⟨L',W2,y,rfl,D4,hh,hc,hm⟩;rw [ai,bh] at hc;exact fin H4 L' W2 _ _ D4 hc hm
  ·rw [me ig hmem];refine ⟨et,rfl,.inr ⟨⟨_,bj.of het3⟩,?_⟩⟩;have hnil:bm ds (here,ax)=[]:=lI fun x hx z=>hmem (by rw [<-z]; exact G.all x hx);refine Ci (xs:=[]) (fun j σ H'=>σ=[some (.ref g),some (.str room),some (.ref d),some (.ref w),some (.str here),x5]/\H'=H3) ⟨rfl,rfl⟩ (fun j σ H' _ ⟨_,e⟩=>by rw [e]; exact bj.of het3) (fun j x σ H' hj=>by cases hj) ?_;rintro σ H' ⟨rfl,rfl⟩;exact fin _ L W' _ _ D3 (by rw [hnil]; simp) hm3
 ·have hnil:W=[]:=by
   cases W with
   | nil=>rfl
   | cons a W=>exact absurd (zzr1 (by rw [ai,em]; omega)) hpos
  subst hnil;refine ⟨_,rfl,k d L H1 D.d D.nd (fun w=>⟨D.sound w,fun hr=>?_⟩) hd D.same⟩
  induction hr with
  | one h=>exact D.closed room (.inl rfl) (by simp) (fun z=>z) _ (eL.mpr h)
  | step r h ih=>exact D.closed _ (.inr ih) (by simp) (fun z=>z) _ (eL.mpr h)
inductive sp_first_led_round  (vs:List V) (H:Hp) (Q:VK) (E:XK):Prop
 | mk (l3 d:Addr) (J2:Zb) (ps:List (Str×Addr)):(vs=[.ref l3,.ref d])->(H l3=some (.lst (J2.map V.str)))->(H d=some (.dK (dW Sum.inr ps)))->(ps.map (·.1)=J2)->(J2.Nodup)->((∀x∈ps,∃L,H x.2=some (.dK (aU L))/\x.1∉L))->(∀H',ab H H'->Q .non H')->sp_first_led_round  vs H Q E
theorem nK {K:Za}{vs:List V}{H:Hp}{Q:VK}{E:XK}(h:sp_first_led_round vs H Q E):oA K (bJ Q) (start pA vs) H:=by
 obtain ⟨l3,d,J2,ps,rfl,h3,hd,hps,nod,hL,k⟩:=h;refine ⟨_,rfl,l3,rfl,⟨_,az.of h3⟩,?_⟩;refine jR (xs:=J2.map V.str) (fun i σ H'=>∃x y,σ=[some (.ref l3),some (.ref d),x,y]/\ab H H') ⟨_,_,rfl,ab.refl H⟩ (fun i σ H' _ ⟨_,_,_,S⟩=>az.of (S _ _ h3)) ?_ ?_
 ·rintro i x σ H' t hi ⟨x2,x3,rfl,S⟩ ht;obtain ⟨w,hw,rfl⟩:=bC hi;refine ⟨t,_,rfl,bj.of aa,rfl,_,_,rfl,_,_,rfl,rfl,?_⟩;have S2:ab H (upd H' t (.tup [.int i,.str w])):=S.trans (ab.new ht);generalize upd H' t (.tup [.int i,.str w])=H2 at S2 ⊢;have hmem:w∈ps.map (·.1):=by rw [hps]; exact aP hw
  obtain ⟨⟨r,a⟩,hra,er⟩:=aB.mp hmem;obtain rfl:r=w:=er;obtain ⟨L,hLa,hn⟩:=hL _ hra;refine ⟨_,rfl,_,rfl,_,rfl,d,.ref a,rfl,.inl ⟨_,.inr r,.inl (S2 _ _ hd),rfl,(eB ij (by rw [hps]; exact nod) hra).symm⟩,a,_,rfl,.inl ⟨_,.inr r,.inl (S2 _ _ hLa),rfl,rfl⟩,_,rfl,?_⟩;rw [fe,zzr0 hn];exact ck ⟨_,_,rfl,S2⟩
 ·rintro σ H' ⟨x,y,rfl,S⟩;exact k H' S
abbrev lk (f:Str) (fs:List (Str×V)):Option V:=fs.lookup f
def fq (ds:List am) (r:Str):Bool:=(bz ds r).all gb
structure bx (C:Addr) (H:Hp) (x:Addr) (J0 J1 J2:Zb) (ds:List am):Prop where
 at_:∃(dx:Addr) (fs:List (Str×V)) (o1 o2 o3 o4 lv qu sg sl:Addr) (ts:Ze) (lps:List (Str×Addr)) (gps:List ((Str×List Str)×Addr)) (sps:List (Str×Addr)),
  H x=some (.ins C dx fs)/\lk "is_quiet" fs=none/\lk "goals" fs=none/\lk "led_from" fs=none/\lk "rooms" fs=none /\
  lk "own_asks" fs=some (.ref o1)/\lk "own_says" fs=some (.ref o2)/\lk "own_rooms" fs=some (.ref o3)/\lk "own_doors" fs=some (.ref o4) /\
  lk "leaving" fs=some (.ref lv)/\lk "quiet" fs=some (.ref qu)/\lk "sign_goals" fs=some (.ref sg)/\lk "still_led" fs=some (.ref sl) /\
  Lists H o1 o2 o3 o4 ts J0 J1 J2 ds /\
  lps.map (·.1)=J2/\H lv=some (.dK (dW Sum.inr lps))/\(∀x∈lps,∃us,H x.2=some (.lst (us.map V.ref))/\cB H us (bz ds x.1)) /\
  H qu=some (.dK (aU (J2.filter (fq ds))))/\jb H sg gps ds /\
  sps.map (·.1)=J2/\H sl=some (.dK (dW Sum.inr sps))/\(∀x∈sps,∃L,H x.2=some (.dK (aU L))/\L.Nodup/\∀w,w∈L↔Reach ds x.1 w)
 ok:aJ J0 J1 J2 ds
 more:∃(dx:Addr) (fs:List (Str×V)),H x=some (.ins C dx fs)/\lk "asks" fs=none/\lk "says" fs=none/\lk "doors" fs=none/\lk "doors_from" fs=none
theorem dU (f:Str) (v:V):∀fs:List (Str×V),(cI f v fs).length<=fs.length+1
 | []=>aE _
 | (g,x)::r=>by
  unfold cI;split
  ·exact mL _
  ·rw [em,em];have:=dU f v r;omega
theorem tE:∀(ps qs:List (Str×Addr)),((qs++ps).map (·.1)).Nodup->jo (dW Sum.inr qs) (dW Sum.inr ps)=dW Sum.inr (qs++ps)
 | [],qs,_=>by rw [fD]; rfl
 | p::ps,qs,nd=>by
  show jo (cO (dW Sum.inr qs) (Sum.inr p.1) (.ref p.2)) (dW Sum.inr ps)=_;have e:qs++p::ps=(qs++[p])++ps:=by simp
  rw [e] at nd ⊢;have hnew:p.1∉qs.map (·.1):=by
   rw [aq,aq,cH] at nd;have:=nd.1;rw [cH] at this;intro z;exact this.2.2 _ z _ (by simp) rfl
  rw [fX _ (me ij hnew)];have:=tE ps (qs++[p]) nd;rw [<-this];have e2:dW (Sum.inr:Str->eQ) (qs++[p])=dW Sum.inr qs++[(Sum.inr p.1,V.ref p.2)]:=by
   unfold dW; rw [aq]; rfl
  rw [e2]
inductive rJ (C:Addr) (vs:List V) (H:Hp) (Q:VK) (E:XK):Prop
 | mk (x dx l1 l2 l3 l4:Addr) (ts:Ze) (J0 J1 J2:Zb) (ds:List am):(vs=[.ref x,.ref l1,.ref l2,.ref l3,.ref l4])->(H x=some (.ins C dx []))->(Lists H l1 l2 l3 l4 ts J0 J1 J2 ds)->(aJ J0 J1 J2 ds)->(∀H',bx C H' x J0 J1 J2 ds->cX x H H'->Q .non H')->rJ C vs H Q E
theorem Lists.exI {H H':Hp}{x C dx:Addr}{fs:List (Str×V)}{l1 l2 l3 l4:Addr}{ts:Ze}{J0 J1 J2:Zb}{ds:List am}(h:Lists H l1 l2 l3 l4 ts J0 J1 J2 ds) (hx:H x=some (.ins C dx fs)) (e:cX x H H'):Lists H' l1 l2 l3 l4 ts J0 J1 J2 ds:=by
 have ne:∀{b:Addr}{xs:List V},H b=some (.lst xs)->b≠x:=fun hb z=>by rw [z,hx] at hb; cases hb
 exact ⟨e _ _ h.a1 (ne h.a1),e _ _ h.a2 (ne h.a2),e _ _ h.a3 (ne h.a3),e _ _ h.a4 (ne h.a4),h.ds.kt fun b xs hb=>e _ _ hb fun z=>by rw [z,hx] at hb; cases hb⟩
theorem cX.ktI {H H':Hp}{x C dx:Addr}{fs:List (Str×V)}(e:cX x H H') (hx:H x=some (.ins C dx fs)):fP H H':=fun b xs hb=>e _ _ hb fun z=>by rw [z,hx] at hb; cases hb
theorem cX.neI {H:Hp}{x C dx:Addr}{fs:List (Str×V)}(hx:H x=some (.ins C dx fs)) {b:Addr}{xs:List V}(hb:H b=some (.lst xs)):b≠x:=fun z=>by rw [z,hx] at hb; cases hb
theorem EO {H:Hp}{x C dx:Addr}{fs:List (Str×V)}(hx:H x=some (.ins C dx fs)) {b:Addr}{kvs:List (eQ×V)}(hb:H b=some (.dK kvs)):b≠x:=fun z=>by rw [z,hx] at hb; cases hb
theorem Hb {H:Hp}{x C dx:Addr}{fs:List (Str×V)}(hx:H x=some (.ins C dx fs)) {b:Addr}{kvs:List (TK×V)}(hb:H b=some (.dT kvs)):b≠x:=fun z=>by rw [z,hx] at hb; cases hb
structure MC (K:Za) (C:Addr):Prop where
 cls:DG K C
 a1:dO K C "own_asks"
 a2:dO K C "own_says"
 a3:dO K C "own_rooms"
 a4:dO K C "own_doors"
 a5:dO K C "leaving"
 a6:dO K C "quiet"
 a7:dO K C "sign_goals"
 a8:dO K C "still_led"
theorem qo {H:Hp}{x C dx:Addr}{fs:List (Str×V)}(f:Str) (y:V) (hx:H x=some (.ins C dx fs)):∃H',H'=upd H x (.ins C dx (cI f y fs))/\H' x=some (.ins C dx (cI f y fs))/\cX x H H' :=
 ⟨_,rfl,aa,cX.upd _ _ _⟩
theorem cN {p:Str->Bool}{ws:Zb}{i:Nat}{w:Str}(h:ws[i]?=some w):(ws.take (i+1)).filter p=(ws.take i).filter p++(if p w=true then [w] else []):=by
 rw [take_snoc h,pJ];congr 1;by_cases c:p w=true
 ·rw [if_pos c]; simp [c]
 ·rw [if_neg c]; simp [c]
theorem AO (ds:List am) (r:Str):(bz ds r).length<=ds.length:=de _ _
theorem aJ.sg0 {J0 J1 J2:Zb}{ds:List am}(m:aJ J0 J1 J2 ds) {r:Str}:∀d∈bz ds r,d.sg≠[]:=by
 intro d hd;have:=m.good d (cj.mp hd).1;rcases this.sg with ⟨w,_,e⟩ | ⟨w,_,e⟩ | e <;> rw [e] <;> exact List.cons_ne_nil _ _
theorem Gh {K:Za}{C:Addr}(M:MC K C) {vs:List V}{H:Hp}{Q:VK}{E:XK}(h:rJ C vs H Q E) :
  nE K sp_need_none sp_first_led_round w6 oK (sp_as_keys K) sp_has_asks_alone sp_doors_by_start sp_need_parts (bJ Q) (start nW vs) H:=by
 obtain ⟨x,dx,l1,l2,l3,l4,ts,J0,J1,J2,ds,rfl,hx,L,m,k⟩:=h;have z3:=m.rooms26;have z4:=m.few;refine ⟨_,rfl,_,rfl,_,rfl,_,rfl,l1,l2,l3,l4,ts,J0,J1,J2,ds,rfl,L,m,fun H1 S1=>?_⟩;have hx1:=S1 _ _ hx;have L1:=L.same S1;have E1:cX x H H1:=ab.exB S1;refine ⟨_,rfl,.inl ⟨l1,_,rfl,.inl (az.of L1.a1),fun o1 ho1=>⟨_,rfl,x,C,dx,_,rfl,kp hx1 ho1,M.cls,M.a1,(by show 0<1000; decide),?_⟩⟩⟩;obtain ⟨H2,e2,hx2,F2⟩:=qo "own_asks" (.ref o1) (kp (x:=.lst (J0.map V.str)) hx1 ho1);rw [<-e2];have n1:o1≠x:=(ae hx1 ho1).symm;have f1:=F2 _ _ aa n1;have E2:cX x H1 H2:=(cX.new ho1).trans F2;have L2':=L1.exI hx1 E2;have len2:(cI ("own_asks":Str) (.ref o1) []).length<=1:=dU _ _ _;clear e2 F2;refine ⟨_,rfl,.inl ⟨l2,_,rfl,.inl (az.of L2'.a2),fun o2 ho2=>⟨_,rfl,x,C,dx,_,rfl,kp hx2 ho2,M.cls,M.a2,by omega,?_⟩⟩⟩;obtain ⟨H3,e3,hx3,F3⟩:=qo "own_says" (.ref o2) (kp (x:=.lst (J1.map V.str)) hx2 ho2);rw [<-e3];have n2:o2≠x:=(ae hx2 ho2).symm;have f2:=F3 _ _ aa n2;have E3:cX x H2 H3:=(cX.new ho2).trans F3;have L3:=L2'.exI hx2 E3;have len3:=dU ("own_says":Str) (.ref o2) (cI ("own_asks":Str) (.ref o1) []);clear e3 F3;refine ⟨_,rfl,.inl ⟨l3,_,rfl,.inl (az.of L3.a3),fun o3 ho3=>⟨_,rfl,x,C,dx,_,rfl,kp hx3 ho3,M.cls,M.a3,by omega,?_⟩⟩⟩;obtain ⟨H4,e4,hx4,F4⟩:=qo "own_rooms" (.ref o3) (kp (x:=.lst (J2.map V.str)) hx3 ho3);rw [<-e4];have n3:o3≠x:=(ae hx3 ho3).symm;have f3:=F4 _ _ aa n3;have E4:cX x H3 H4:=(cX.new ho3).trans F4;have L4:=L3.exI hx3 E4;have len4:=dU ("own_rooms":Str) (.ref o3) (cI ("own_says":Str) (.ref o2) (cI ("own_asks":Str) (.ref o1) []));clear e4 F4;refine ⟨_,rfl,.inl ⟨l4,_,rfl,.inl (az.of L4.a4),fun o4 ho4=>⟨_,rfl,x,C,dx,_,rfl,kp hx4 ho4,M.cls,M.a4,by omega,?_⟩⟩⟩;obtain ⟨H5,e5,hx5,F5⟩:=qo "own_doors" (.ref o4) (kp (x:=.lst (ts.map V.ref)) hx4 ho4);rw [<-e5];have n4:o4≠x:=(ae hx4 ho4).symm;have f4:=F5 _ _ aa n4;have E5:cX x H4 H5:=(cX.new ho4).trans F5;have L5:=L4.exI hx4 E5;generalize hfs4:cI ("own_doors":Str) (.ref o4) (cI ("own_rooms":Str) (.ref o3) (cI ("own_says":Str) (.ref o2) (cI ("own_asks":Str) (.ref o1) [])))=fs4 at hx5;have len5:fs4.length<=4:=by
  rw [<-hfs4];have:=dU ("own_doors":Str) (.ref o4) (cI ("own_rooms":Str) (.ref o3) (cI ("own_says":Str) (.ref o2) (cI ("own_asks":Str) (.ref o1) [])));omega
 clear e5 F5;refine ⟨_,rfl,_,rfl,l3,l4,ts,J2,ds,rfl,L5.a3,L5.a4,L5.ds,m.okR.1,by omega,by omega,fun d hd=>(m.good d hd).a,fun lv lps H6' hlps flv' hlv' S6=>⟨_,rfl,x,C,dx,fs4,rfl,S6 _ _ hx5,M.cls,M.a5,by omega,?_⟩⟩;obtain ⟨H6,e6,hx6,F6⟩:=qo "leaving" (.ref lv) (S6 _ _ hx5);rw [<-e6];have E6:cX x H5 H6:=(ab.exB S6).trans F6;have L6:=L5.exI hx5 E6;have flv:=F6 _ _ flv' (EO (S6 _ _ hx5) flv');have hlv:∀y∈lps,∃us,H6 y.2=some (.lst (us.map V.ref))/\cB H6 us (bz ds y.1):=fun y hy=>by
  obtain ⟨us,g1,g2⟩:=hlv' y hy;exact ⟨us,F6 _ _ g1 (cX.neI (S6 _ _ hx5) g1),g2.kt (F6.ktI (S6 _ _ hx5))⟩
 have ndl:(lps.map (·.1)).Nodup:=by rw [hlps]; exact m.okR.1
 have len6:=dU ("leaving":Str) (.ref lv) fs4;have lk5:lk "leaving" (cI ("leaving":Str) (.ref lv) fs4)=some (.ref lv):=by
  show kJ _ _=_;rw [eM,if_pos rfl]
 clear e6 F6 flv' hlv';refine ⟨_,rfl,l3,rfl,⟨_,az.of L6.a3⟩,fun f hf=>?_⟩;refine cC (xs:=J2.map V.str) (fun i vs H'=>vs=((J2.take i).filter (fq ds)).map V.str/\ab H6 H'/\H' f=some (.lst vs)) ⟨rfl,ab.new hf,aa⟩ (fun i vs H' _ ⟨_,S,h'⟩=>⟨h',az.of (S _ _ L6.a3)⟩) ?_ ?_;rotate_left
 ·rintro i vs H' x' hx' hi ⟨rfl,S,f'⟩;obtain ⟨r,hr,rfl⟩:=bC hx';obtain ⟨⟨r',a⟩,hra,er⟩:=aB.mp (show r∈lps.map (·.1) by rw [hlps]; exact aP hr);obtain rfl:r'=r:=er;obtain ⟨us,hus,hdo⟩:=hlv _ hra;refine gN ?_;refine ⟨_,rfl,x,C,dx,_,.ref lv,rfl,S _ _ hx6,M.cls,M.a5,lk5,_,rfl,lv,.ref a,rfl,.inl ⟨_,.inr r',.inl (S _ _ flv),rfl,(eB ij ndl hra).symm⟩,a,us,bz ds r',rfl,S _ _ hus,hdo.kt (ab.kt S),bv (AO _ _) (by omega),m.sg0,fun H'' S''=>⟨_,rfl,?_⟩⟩;have hlen:(((J2.take i).filter (fq ds)).map V.str).length<aj:=by
   rw [ai];refine au (bv (de _ _) ?_);rw [aX]; omega
  refine iN (fun hq=>?_) (fun hq=>?_)
  ·refine ⟨_,rfl,S'' _ _ f',hlen,o0 hi ⟨?_,?_,aa⟩⟩
   ·rw [cN hr,if_pos (show fq ds r'=true from hq),aq]; rfl
   ·intro b o q;rw [af (ae q hf)];exact S'' _ _ (S _ _ q)
  ·refine o0 hi ⟨?_,S.trans S'',?_⟩
   ·rw [cN hr,if_neg (show ¬fq ds r'=true from hq),fD]
   ·exact S'' _ _ f'
 rintro vs H7' ⟨rfl,S7,f7⟩;rw [ai,bh] at f7;refine qp (ws:=J2.filter (fq ds)) (az.of f7) (bv (de _ _) (by omega)) fun qu hqu=>⟨_,rfl,x,C,dx,_,rfl,kp (S7 _ _ hx6) hqu,M.cls,M.a6,by omega,?_⟩;obtain ⟨H7,e7,hx7,F7⟩:=qo "quiet" (.ref qu) (kp (x:=.dK (aU (J2.filter (fq ds)))) (S7 _ _ hx6) hqu);rw [<-e7];have n7:qu≠x:=(ae (S7 _ _ hx6) hqu).symm;have fqu:=F7 _ _ aa n7;have E7:cX x H6 H7:=((ab.exB S7).trans (cX.new hqu)).trans F7;have L7:=L6.exI hx6 E7;have len7:=dU ("quiet":Str) (.ref qu) (cI ("leaving":Str) (.ref lv) fs4);clear e7 F7;refine ⟨_,rfl,l4,ts,ds,rfl,L7.a4,L7.ds,by omega,fun sg gps H8' G' S8=>⟨_,rfl,x,C,dx,_,rfl,S8 _ _ hx7,M.cls,M.a7,by omega,?_⟩⟩;obtain ⟨H8,e8,hx8,F8⟩:=qo "sign_goals" (.ref sg) (S8 _ _ hx7);rw [<-e8];have E8:cX x H7 H8:=(ab.exB S8).trans F8;have L8:=L7.exI hx7 E8;have G8:jb H8 sg gps ds:=⟨G'.nd,F8 _ _ G'.g (Hb (S8 _ _ hx7) G'.g),fun y hy=>F8 _ _ (G'.ls y hy) (cX.neI (S8 _ _ hx7) (G'.ls y hy)),G'.all⟩;have len8:=dU ("sign_goals":Str) (.ref sg) (cI ("quiet":Str) (.ref qu) (cI ("leaving":Str) (.ref lv) fs4));have lk7:lk "sign_goals" (cI ("sign_goals":Str) (.ref sg) (cI ("quiet":Str) (.ref qu) (cI ("leaving":Str) (.ref lv) fs4)))=some (.ref sg):=by
  show kJ _ _=_;rw [eM,if_pos rfl]
 clear e8 F8 G';refine ⟨_,rfl,l3,rfl,⟨_,az.of L8.a3⟩,fun f2' hf2=>?_⟩;refine cC (xs:=J2.map V.str) (fun i vs H'=>∃(us:Ze) (pl:List (Str×Addr)),vs=us.map V.ref/\Paired (fun t (p:Str×Addr)=>H' t=some (.tup [.str p.1,.ref p.2])) us pl/\pl.map (·.1)=J2.take i/\(∀p∈pl,∃L,H' p.2=some (.dK (aU L))/\L.Nodup/\∀w,w∈L↔Reach ds p.1 w)/\ab H8 H'/\H' f2'=some (.lst vs))
  ⟨[],[],rfl,.nil,rfl,by simp,ab.new hf2,aa⟩ (fun i vs H' _ ⟨_,_,_,_,_,_,S,h'⟩=>⟨h',az.of (S _ _ L8.a3)⟩) ?_ ?_
 rotate_left
 ·rintro i vs H' x' hx' hi ⟨us,pl,rfl,hpa,hpl,hle,S,f'⟩;obtain ⟨r,hr,rfl⟩:=bC hx';have hilen:us.length<=150:=by
   rw [Paired.length hpa,<-ai (f:=(·.1)) (as:=pl),hpl,aX]; omega
  refine gN (sE ?_);refine ⟨_,rfl,_,rfl,x,C,dx,_,.ref sg,rfl,S _ _ hx8,M.cls,M.a7,lk7,_,rfl,sg,r,gps,ds,J2,rfl,G8.same S,fun d hd=>(m.good d hd).b,by omega,fun ld Lr H'' hld nd hLr hfr S''=>⟨(by show 2<=aj; decide),fun t ht=>⟨?_,?_,o0 hi ⟨us++[t],pl++[(r,ld)],?_,?_,?_,?_,?_,aa⟩⟩⟩⟩
  ·exact kp (S'' _ _ f') ht
  ·rw [ai]; exact au (by omega)
  ·rw [aq]; rfl
  ·have KT:fP (upd H'' t (.tup [.str r,.ref ld])) (upd (upd H'' t (.tup [.str r,.ref ld])) f2' (.lst (us.map V.ref++[.ref t]))):=cr (kp (S'' _ _ f') ht);exact Paired.app (Paired.mapP hpa fun t' p' e=>KT _ _ (kp (S'' _ _ e) ht)) (.cons (KT _ _ aa) .nil)
  ·rw [aq,hpl,take_snoc hr]; rfl
  ·have ned:∀{b:Addr}{kvs:List (eQ×V)},upd H'' t (.tup [.str r,.ref ld]) b=some (.dK kvs)->b≠f2':=fun hb z=>by rw [z,kp (S'' _ _ f') ht] at hb; cases hb
   intro p hp;rcases bd.mp hp with hp | hp
   ·obtain ⟨L0,g1,g2⟩:=hle p hp;refine ⟨L0,?_,g2⟩;have:=kp (x:=.tup [.str r,.ref ld]) (S'' _ _ g1) ht;rw [af (ned this)]; exact this
   ·have:p=(r,ld):=by simpa using hp
    subst this;refine ⟨Lr,?_,nd,hLr⟩;have:=kp (x:=.tup [.str r,.ref ld]) hld ht;rw [af (ned this)]; exact this
  ·intro b o q;rw [af (ae q hf2)];exact kp (S'' _ _ (S _ _ q)) ht
 rintro vs H9' ⟨us,sps,rfl,hpa,hsps,hled,S9,f9⟩;rw [ai,bh] at hsps;have nds:(sps.map (·.1)).Nodup:=by rw [hsps]; exact m.okR.1
 refine ⟨f2',us,dW Sum.inr sps,rfl,az.of f9,?_,?_,fun sl hsl=>⟨_,rfl,x,C,dx,_,rfl,kp (S9 _ _ hx8) hsl,M.cls,M.a8,by omega,?_⟩⟩
 ·rw [Paired.length hpa]; unfold dW; rw [ai]
 ·intro j t kv hj hkv;obtain ⟨p,hp,e⟩:=Paired.getL hpa hj;unfold dW at hkv;rw [bZ,hp] at hkv;have:=fg hkv;rw [<-this];exact e
 have emerge:jo [] (dW Sum.inr sps)=dW Sum.inr sps:=tE sps [] nds;rw [emerge];obtain ⟨H9,e9,hx9,F9⟩:=qo "still_led" (.ref sl) (kp (x:=.dK (dW Sum.inr sps)) (S9 _ _ hx8) hsl);rw [<-e9];have n9:sl≠x:=(ae (S9 _ _ hx8) hsl).symm;have fsl:=F9 _ _ aa n9;have E9:cX x H8 H9:=((ab.exB S9).trans (cX.new hsl)).trans F9;have L9:=L8.exI hx8 E9;have hled9:∀p∈sps,∃L,H9 p.2=some (.dK (aU L))/\L.Nodup/\∀w,w∈L↔Reach ds p.1 w:=fun p hp=>by
  obtain ⟨L0,g1,g2⟩:=hled p hp;have g3:=kp (x:=.dK (dW Sum.inr sps)) g1 hsl;exact ⟨L0,F9 _ _ g3 (EO (kp (S9 _ _ hx8) hsl) g3),g2⟩
 clear e9 F9;have lk8:lk "still_led" (cI ("still_led":Str) (.ref sl) (cI ("sign_goals":Str) (.ref sg) (cI ("quiet":Str) (.ref qu) (cI ("leaving":Str) (.ref lv) fs4))))=some (.ref sl):=by
  show kJ _ _=_;rw [eM,if_pos rfl]
 refine ⟨_,rfl,_,rfl,x,C,dx,_,.ref sl,rfl,hx9,M.cls,M.a8,lk8,l3,sl,J2,sps,rfl,L9.a3,fsl,hsps,m.okR.1,fun p hp=>?_,fun H10 S10=>⟨_,rfl,k H10 ?_ ?_⟩⟩
 ·obtain ⟨L0,g1,g2,g3⟩:=hled9 p hp;exact ⟨L0,g1,fun z=>m.noround _ ((g3 _).mp z)⟩
 ·have X69:cX x H6 H9:=(E7.trans E8).trans E9;have X59:=((E6.trans E7).trans E8).trans E9;have Y:∀{b:Addr}{o:HO},H9 b=some o->H10 b=some o:=fun h=>S10 _ _ h;have LL:Lists H5 o1 o2 o3 o4 ts J0 J1 J2 ds:=⟨(E3.trans (E4.trans E5)) _ _ f1 n1,(E4.trans E5) _ _ f2 n2,E5 _ _ f3 n3,f4,L5.ds⟩;refine ⟨⟨dx,_,o1,o2,o3,o4,lv,qu,sg,sl,ts,lps,gps,sps,Y hx9,?_,?_,?_,?_,?_,?_,?_,?_,?_,?_,?_,lk8,(LL.exI hx5 X59).same S10,hlps,?_,?_,?_,?_,hsps,Y fsl,fun p hp=>?_⟩,m,⟨dx,_,Y hx9,?_,?_,?_,?_⟩⟩
  rotate_right 9
  ·exact Y (X69 _ _ flv (EO hx6 flv))
  ·intro y hy;obtain ⟨us',g1,g2⟩:=hlv y hy;exact ⟨us',Y (X69 _ _ g1 (cX.neI hx6 g1)),(g2.kt (X69.ktI hx6)).kt (ab.kt S10)⟩
  ·exact Y ((E8.trans E9) _ _ fqu n7)
  ·exact jb.same ⟨G8.nd,E9 _ _ G8.g (Hb hx8 G8.g),fun y hy=>E9 _ _ (G8.ls y hy) (cX.neI hx8 (G8.ls y hy)),G8.all⟩ S10
  ·obtain ⟨L0,g1,g2⟩:=hled9 p hp;exact ⟨L0,Y g1,g2⟩
  all_goals (show kJ _ _=_; subst hfs4; repeat (rw [eM]; first | rw [if_pos rfl] | rw [if_neg (by decide +kernel)]))
  all_goals rfl
 ·exact ((((((((E1.trans E2).trans E3).trans E4).trans E5).trans E6).trans E7).trans E8).trans E9).trans (ab.exB S10)
theorem Cn (a b:Str):decide (gu a=gu b)=decide (a=b):=by
 by_cases e:a=b
 ·rw [zzr1 e,zzr1 (by rw [e])]
 ·rw [zzr0 e,zzr0 (fun z=>e (oR z))]
theorem bx.by {C:Addr}{H H':Hp}{x:Addr}{J0 J1 J2:Zb}{ds:List am}(h:bx C H x J0 J1 J2 ds)
  (hs:∀b ws,H b=some (.lst (List.map V.str ws))->H' b=some (.lst (List.map V.str ws))) (hr:∀b ts,H b=some (.lst (List.map V.ref ts))->H' b=some (.lst (List.map V.ref ts))) (ht:fP H H')
  (hd:∀b kvs,H b=some (.dK kvs)->H' b=some (.dK kvs)) (hT:∀b kvs,H b=some (.dT kvs)->H' b=some (.dT kvs)) (hi:∀b C dx fs,H b=some (.ins C dx fs)->H' b=some (.ins C dx fs)):bx C H' x J0 J1 J2 ds:=by
 obtain ⟨dx,fs,o1,o2,o3,o4,lv,qu,sg,sl,ts,lps,gps,sps,g1,a1,a2,a3,a4,b1,b2,b3,b4,b5,b6,b7,b8,L,c1,c2,c3,c4,G,d1,d2,d3⟩:=h.at_;refine ⟨⟨dx,fs,o1,o2,o3,o4,lv,qu,sg,sl,ts,lps,gps,sps,hi _ _ _ _ g1,a1,a2,a3,a4,b1,b2,b3,b4,b5,b6,b7,b8,⟨hs _ _ L.a1,hs _ _ L.a2,hs _ _ L.a3,hr _ _ L.a4,L.ds.kt ht⟩,c1,hd _ _ c2,fun y hy=>?_,hd _ _ c4,⟨G.nd,hT _ _ G.g,fun y hy=>hs _ _ (G.ls y hy),G.all⟩,d1,hd _ _ d2,fun y hy=>?_⟩,h.ok,by obtain ⟨dx,fs,g,r⟩:=h.more; exact ⟨dx,fs,hi _ _ _ _ g,r⟩⟩
 ·obtain ⟨us,e1,e2⟩:=c3 y hy;exact ⟨us,hr _ _ e1,e2.kt ht⟩
 ·obtain ⟨L0,e1,e2⟩:=d3 y hy;exact ⟨L0,hd _ _ e1,e2⟩
theorem bx.same {C:Addr}{H H':Hp}{x:Addr}{J0 J1 J2:Zb}{ds:List am}(h:bx C H x J0 J1 J2 ds) (S:ab H H'):bx C H' x J0 J1 J2 ds :=
 h.by (fun _ _ e=>S _ _ e) (fun _ _ e=>S _ _ e) (ab.kt S) (fun _ _ e=>S _ _ e) (fun _ _ e=>S _ _ e) (fun _ _ _ _ e=>S _ _ e)
inductive g_ (C:Addr) (vs:List V) (H:Hp) (Q:VK) (E:XK):Prop
 | mk (x:Addr) (w:Str) (J0 J1 J2:Zb) (ds:List am):(vs=[.ref x,.str w])->(bx C H x J0 J1 J2 ds)->(Q (.bl (decide (w∈J2.filter (fq ds)))) H)->g_ C vs H Q E
theorem yO {K:Za}{C:Addr}(M:MC K C) {vs:List V}{H:Hp}{Q:VK}{E:XK}(h:g_ C vs H Q E):nD K (bJ Q) (start nV vs) H:=by
 obtain ⟨x,w,J0,J1,J2,ds,rfl,h,k⟩:=h;obtain ⟨dx,fs,o1,o2,o3,o4,lv,qu,sg,sl,ts,lps,gps,sps,g1,a1,a2,a3,a4,b1,b2,b3,b4,b5,b6,b7,b8,L,c1,c2,c3,c4,_⟩:=h.at_;refine ⟨_,rfl,_,rfl,x,C,dx,fs,.ref qu,rfl,g1,M.cls,M.a6,b6,qu,_,rfl,.inl ⟨_,.inr w,.inl c4,rfl,rfl⟩,?_⟩;rw [fe];exact k
def bT:List Str:=[("hush":Str)]
inductive ka (C:Addr) (vs:List V) (H:Hp) (Q:VK) (E:XK):Prop
 | mk (t l1 l2 l3 l4:Addr) (ts:Ze) (J0 J1 J2:Zb) (ds:List am):(vs=[.ref t])->(im H t l1 l2 l3 l4 ts J0 J1 J2 ds)->(aJ J0 J1 J2 ds)->(∀(x:Addr) (H':Hp),bx C H' x J0 J1 J2 ds->ab H H'->Q (.ref x) H')->ka C vs H Q E
theorem Ax {K:Za}{C:Addr}{vs:List V}{H:Hp}{Q:VK}{E:XK}(h:ka C vs H Q E):uo K C (rJ C) (bJ Q) (start uT vs) H:=by
 obtain ⟨t,l1,l2,l3,l4,ts,J0,J1,J2,ds,rfl,T,m,k⟩:=h;refine ⟨_,rfl,.inr (.inl ⟨t,_,0,_,rfl,rfl,bj.of T.t,rfl,.inl ⟨l1,_,rfl,.inl (az.of T.a1),fun m1 h1=>?_⟩⟩)⟩;have T1:=T.same (ab.new (o:=.lst (J0.map V.str)) h1);refine ⟨_,rfl,.inr (.inl ⟨t,_,1,_,rfl,rfl,bj.of T1.t,rfl,.inl ⟨l2,_,rfl,.inl (az.of T1.a2),fun m2 h2=>?_⟩⟩)⟩;have T2:=T1.same (ab.new (o:=.lst (J1.map V.str)) h2);refine ⟨_,rfl,.inr (.inl ⟨t,_,2,_,rfl,rfl,bj.of T2.t,rfl,.inl ⟨l3,_,rfl,.inl (az.of T2.a3),fun m3 h3=>?_⟩⟩)⟩;have T3:=T2.same (ab.new (o:=.lst (J2.map V.str)) h3);refine ⟨_,rfl,.inr (.inl ⟨t,_,3,_,rfl,rfl,bj.of T3.t,rfl,.inl ⟨l4,_,rfl,.inl (az.of T3.a4),fun m4 h4=>?_⟩⟩)⟩;have T4:=T3.same (ab.new (o:=.lst (ts.map V.ref)) h4);have S4:=(((ab.new (o:=.lst (J0.map V.str)) h1).trans (ab.new (o:=.lst (J1.map V.str)) h2)).trans (ab.new (o:=.lst (J2.map V.str)) h3)).trans (ab.new (o:=.lst (ts.map V.ref)) h4);refine fun x dx hx hdx hne=>?_;have S5:ab H (upd (upd (upd (upd (upd (upd H m1 (.lst (J0.map V.str))) m2 (.lst (J1.map V.str))) m3 (.lst (J2.map V.str))) m4 (.lst (ts.map V.ref))) dx (.own x)) x (.ins C dx [])) :=
  (S4.trans (ab.new hdx)).trans (ab.new (by rw [af hne.symm]; exact hx))
 have hxx:upd (upd (upd (upd (upd H m1 (.lst (J0.map V.str))) m2 (.lst (J1.map V.str))) m3 (.lst (J2.map V.str))) m4 (.lst (ts.map V.ref))) dx (.own x) x=none:=by rw [af hne.symm]; exact hx
 refine ⟨x,dx,m1,m2,m3,m4,ts,J0,J1,J2,ds,rfl,aa,⟨?_,?_,?_,?_,T.ds.kt (ab.kt S5)⟩,m,fun H' M ex=>⟨rfl,k x H' M fun b o q=>?_⟩⟩
 ·exact kp (kp (kp (kp (kp aa h2) h3) h4) hdx) hxx
 ·exact kp (kp (kp (kp aa h3) h4) hdx) hxx
 ·exact kp (kp (kp aa h4) hdx) hxx
 ·exact kp (kp aa hdx) hxx
 ·have hq:=S5 _ _ q;exact ex _ _ hq (ae (S4.trans (ab.new hdx) _ _ q) hxx)
def h7 (ds:List am):List Str:=(ds.filter fun d=>!gb d).map (·.a)
theorem tm (ds:List am) (r:Str):fq ds r=decide (r∉h7 ds):=by
 unfold fq h7 bz;rw [uX,List.all_eq_true,decide_eq_true_iff];constructor
 ·intro h z;obtain ⟨d,hd,rfl⟩:=aB.mp z;rw [cj] at hd;have:=h d (cj.mpr ⟨hd.1,zzr1 rfl⟩);rw [this] at hd;exact absurd hd.2 (by decide)
 ·intro h d hd;rw [cj] at hd;cases q:gb d with
  | true=>rfl
  | false =>
   refine absurd (aB.mpr ⟨d,cj.mpr ⟨hd.1,by rw [q]; rfl⟩,?_⟩) h;exact of_decide_eq_true hd.2
theorem l_ {w:Str}{ws:Zb}:gu w∈ws.map gu↔w∈ws:=by
 constructor
 ·intro h;obtain ⟨x,hx,e⟩:=aB.mp h;rw [<-oR e]; exact hx
 ·exact jZ
def wL (K:Za) (C_Machine:Addr) (sp_Machine_rooms:Sp) (sp_Machine_led_from:Sp):TS :=
 ap (aK (p4) U2)
 (ap (eC (cb K V1) U3 (cx (tB (eV K V3 V2)) (ap (kL V2 V3 (tC (.bl true)))
 (eC (cb K (dB C_Machine "led_from" sp_Machine_led_from [] E0 V0 (aA V3))) U4 (kL V2 V4 (tC (.bl true))))) (bG)))
 (bB (fu (BN K) (aA (dC 1 [2] (cb K (dB C_Machine "rooms" sp_Machine_rooms [] E0 V0 aT)) U0 (tB (An K V0 V1)) V0)))))
def xP:List Str:=["M","rooms","found","room","led"]
def q_ (K:Za) :TS :=
 bB (fu (dD K) (aA (fT K V0 "own_rooms")))
def rD:List Str:=["self"]
def nC (K:Za) :TS :=
 bB (fu (dD K) (aA (sT K (fT K V0 "still_led") V1 (be (aT)))))
def nU:List Str:=["self","room"]
def rc (K:Za) :TS :=
 bB (fu (dD K) (aA (sT K (fT K V0 "sign_goals") (be (aS V1 V2)) (be (aT)))))
def rE:List Str:=["self","room","sign"]
def sI (K:Za) :TS :=
 ap (aK (fu (dD K) (aA V1)) U2)
 (ap (aK (tC (.int 0)) U3)
 (ap (nG (aO (aD C4 V3 (fu (d9 K) (aA V2)))) (ap (eC (cb K V0) (fG K 3 (aN U4 (aN U5 (aN U6 (fy))))) (cx (mB (aO (aD (jn K) V4 (aD (og K) V2 V3))) (mB (aO (aD (jn K) V5 (be (aA (tC (.str "still")))))) (aO (aD (oW K true) V6 V2)))) (bH (oG K "list" bX V2 (aA V6))) (bG)))
 (aK (aD eA V3 (tC (.int 1))) U3)))
 (bB V2)))
def t5:List Str:=["doors","rooms","found","at","room","sign","other"]
inductive iL (C:Addr) (vs:List V) (H:Hp) (Q:VK) (E:XK):Prop
 | mk (x:Addr) (J0 J1 J2:Zb) (ds:List am):(vs=[.ref x])->(bx C H x J0 J1 J2 ds)->(∀l,H l=none->Q (.ref l) (upd H l (.lst (J2.map V.str))))->iL C vs H Q E
theorem El {K:Za}{C:Addr}(M:MC K C) {vs:List V}{H:Hp}{Q:VK}{E:XK}(h:iL C vs H Q E):q_ K (bJ Q) (start rD vs) H:=by
 obtain ⟨x,J0,J1,J2,ds,rfl,h,k⟩:=h;obtain ⟨dx,fs,o1,o2,o3,o4,lv,qu,sg,sl,ts,lps,gps,sps,g1,a1,a2,a3,a4,b1,b2,b3,b4,b5,b6,b7,b8,L,_⟩:=h.at_;exact ⟨_,rfl,x,C,dx,fs,.ref o3,rfl,g1,M.cls,M.a3,b3,.inl ⟨o3,_,rfl,.inl (az.of L.a3),k⟩⟩
theorem zj:∀{L:Zb},L.Nodup->(aU L).map (fun kv=>kV kv.1)=L.map V.str:=by
 intro L;refine jC (fun L=>L.Nodup->(aU L).map (fun kv=>kV kv.1)=L.map V.str) (fun _=>rfl) (fun ws w ih nd=>?_) L;rw [cH] at nd;have hn:bQ (aU ws) (.inr w)=none:=by
  rw [tH,if_neg (fun z=>nd.2.2 w z w (by simp) rfl)]
 show (aU (ws++[w])).map _=_;rw [dH,fX _ hn,aq,ih nd.1,aq]
 rfl
inductive gZ (C:Addr) (vs:List V) (H:Hp) (Q:VK) (E:XK):Prop
 | mk (x:Addr) (r:Str) (J0 J1 J2:Zb) (ds:List am):(vs=[.ref x,.str r])->(bx C H x J0 J1 J2 ds)->(r∈J2)->(∀(l:Addr) (L:Zb) (H':Hp),H' l=some (.lst (L.map V.str))->L.Nodup->(∀w,w∈L↔Reach ds r w)->H l=none->ab H H'->Q (.ref l) H')->gZ C vs H Q E
theorem yN {K:Za}{C:Addr}(M:MC K C) {vs:List V}{H:Hp}{Q:VK}{E:XK}(h:gZ C vs H Q E):nC K (bJ Q) (start nU vs) H:=by
 obtain ⟨x,r,J0,J1,J2,ds,rfl,h,hr,k⟩:=h;obtain ⟨dx,fs,o1,o2,o3,o4,lv,qu,sg,sl,ts,lps,gps,sps,g1,a1,a2,a3,a4,b1,b2,b3,b4,b5,b6,b7,b8,L,c1,c2,c3,c4,G,d1,d2,d3⟩:=h.at_;have nod:=h.ok.okR.1;obtain ⟨⟨r',a⟩,hra,er⟩:=aB.mp (show r∈sps.map (·.1) by rw [d1]; exact hr);obtain rfl:r'=r:=er;obtain ⟨L0,e1,e2,e3⟩:=d3 _ hra;refine ⟨_,rfl,x,C,dx,fs,.ref sl,rfl,g1,M.cls,M.a8,b8,sl,rfl,.inl ⟨_,.inl d2⟩,_,rfl,(by show 0<=aj; decide),fun et het=>⟨_,.inl ⟨_,.inr r',.inl (kp d2 het),rfl,rfl⟩,?_⟩⟩;rw [eB ij (by rw [d1]; exact nod) hra];refine .inr ⟨a,_,rfl,.inl (kp e1 het),fun l hl=>k l L0 _ ?_ e2 e3 ((ab.new het).free hl) ((ab.new het).trans (ab.new hl))⟩;rw [aa,zj e2]
inductive ix (C:Addr) (vs:List V) (H:Hp) (Q:VK) (E:XK):Prop
 | mk (x s:Addr) (r:Str) (sg J0 J1 J2:Zb) (ds:List am):(vs=[.ref x,.str r,.ref s])->(bx C H x J0 J1 J2 ds)->(H s=some (.tup (sg.map V.str)))->(∀(l:Addr) (H':Hp),H' l=some (.lst ((bm ds (r,sg)).map V.str))->H l=none->ab H H'->Q (.ref l) H')->ix C vs H Q E
theorem CY {K:Za}{C:Addr}(M:MC K C) {vs:List V}{H:Hp}{Q:VK}{E:XK}(h:ix C vs H Q E):rc K (bJ Q) (start rE vs) H:=by
 obtain ⟨x,s,r,sgn,J0,J1,J2,ds,rfl,h,hs,k⟩:=h;obtain ⟨dx,fs,o1,o2,o3,o4,lv,qu,sg,sl,ts,lps,gps,sps,g1,a1,a2,a3,a4,b1,b2,b3,b4,b5,b6,b7,b8,L,c1,c2,c3,c4,G,d1,d2,d3⟩:=h.at_;have nod:=h.ok.okR.1;refine ⟨_,rfl,x,C,dx,fs,.ref sg,rfl,g1,M.cls,M.a7,b7,sg,rfl,.inr ⟨_,.inl G.g⟩,_,rfl,_,rfl,(by show 2<=aj; decide),fun kt hkt=>⟨(by show 0<=aj; decide),fun et het=>⟨bQ (dW ue gps) (ue (r,sgn)),.inr ⟨_,ue (r,sgn),kt,.inl (kp (kp G.g hkt) het),rfl,?_,lY _,rfl⟩,?_⟩⟩⟩
 ·refine cT.isIn 8 (lY _) ?_;unfold ue cT;refine ⟨kt,_,rfl,kp aa het,?_⟩;unfold TKAts;refine ⟨_,_,rfl,wJ _,?_⟩;unfold TKAts;refine ⟨_,_,rfl,SignAt.tk (kp (kp hs hkt) het),?_⟩;unfold TKAts
  rfl
 have S2:ab H (upd (upd H kt (.tup [.str r,.ref s])) et (.tup [])):=(ab.new hkt).trans (ab.new het);by_cases hmem:(r,sgn)∈gps.map (·.1)
 ·obtain ⟨⟨y,a⟩,hra,er⟩:=aB.mp hmem;obtain rfl:y=(r,sgn):=er;rw [eB ig G.nd hra];exact .inl ⟨a,_,rfl,.inl (az.of (S2 _ _ (G.ls _ hra))),fun l hl=>k l _ aa (S2.free hl) (S2.trans (ab.new hl))⟩
 ·rw [me ig hmem];have hnil:bm ds (r,sgn)=[]:=lI fun y hy z=>hmem (by rw [<-z]; exact G.all y hy);refine .inl ⟨et,[],rfl,.inr (bj.of aa),fun l hl=>k l _ ?_ (S2.free hl) (S2.trans (ab.new hl))⟩;rw [hnil];exact aa
theorem Reach.trans {ds:List am}{a b c:Str}(h1:Reach ds a b) (h2:Reach ds b c):Reach ds a c:=by
 induction h2 with
 | one h=>exact .step h1 h
 | step r h ih=>exact .step ih h
def gK (ds:List am) (gs:Zb) (w:Str):Prop:=∃g∈gs,w=g∨Reach ds g w
theorem gK.in_ {ds:List am}{gs J2:Zb}{w:Str}(hg:∀g∈gs,g∈J2) (hd:∀d∈ds,d.b∈J2) (h:gK ds gs w):w∈J2:=by
 obtain ⟨g,h1,rfl | h2⟩:=h
 ·exact hg _ h1
 ·exact h2.in_ hd
def rA (F:Zb) (w:Str):List Str:=if w∈F then F else F++[w]
theorem zi (F:Zb):∀kv∈aU F,kv.2=.bl true:=by
 refine jC (fun F=>∀kv∈aU F,kv.2=.bl true) (by intro kv h; cases h) (fun ws w ih=>?_) F;intro kv hkv;rw [dH] at hkv;unfold cO at hkv;split at hkv
 ·obtain ⟨x,hx,rfl⟩:=aB.mp hkv;split
  ·rfl
  ·exact ih x hx
 ·rcases bd.mp hkv with h | h
  ·exact ih kv h
  ·have:kv=(.inr w,.bl true):=by simpa using h
   rw [this]
theorem tI (F:Zb) (w:Str):cO (aU F) (.inr w) (.bl true)=aU (rA F w):=by
 unfold rA;by_cases c:w∈F
 ·rw [if_pos c];have h1:((aU F).any fun kv=>decide (kv.1=(.inr w:eQ)))=true:=by
   rw [jB,fe,zzr1 c]
  unfold cO;rw [if_pos h1];have:∀l:List (eQ×V),(∀kv∈l,kv.2=.bl true)->l.map (fun kv=>if kv.1=(.inr w:eQ) then (kv.1,V.bl true) else kv)=l:=by
   intro l
   induction l with
   | nil=>intro _; rfl
   | cons x l ih =>
    intro h;rw [bc,ih fun kv hkv=>h kv (fx _ hkv)];congr 1;split
    ·rw [<-h x dA]
    ·rfl
  exact this _ (zi F)
 ·rw [if_neg c,dH]
theorem tX {F:Zb}(h:F.Nodup) (w:Str):(rA F w).Nodup:=by
 unfold rA;split
 ·exact h
 ·next c =>
  rw [cH];refine ⟨h,by simp,fun a ha b hb e=>?_⟩;have:b=w:=by simpa using hb
  exact c (by rw [<-this,<-e]; exact ha)
theorem y8 {F:Zb}{w y:Str}:y∈rA F w↔y∈F∨y=w:=by
 unfold rA;split
 ·next c=>exact ⟨.inl,fun h=>h.elim id fun e=>by rw [e]; exact c⟩
 ·rw [bd]; simp
inductive sp_with_still (C:Addr) (vs:List V) (H:Hp) (Q:VK) (E:XK):Prop
 | mk (x l:Addr) (gs J0 J1 J2:Zb) (ds:List am):(vs=[.ref x,.ref l])->(bx C H x J0 J1 J2 ds)->(H l=some (.lst (gs.map V.str)))->((∀g∈gs,g∈J2))->(∀(t:Addr) (F:Zb) (H':Hp),H' t=some (.tup ((J2.filter fun r=>decide (r∈F)).map V.str))->(∀w,w∈F↔gK ds gs w)->ab H H'->Q (.ref t) H')->sp_with_still C vs H Q E
theorem uC {K:Za}{C:Addr}{vs:List V}{H:Hp}{Q:VK}{E:XK}(h:sp_with_still C vs H Q E):wL K C (iL C) (gZ C) (bJ Q) (start xP vs) H:=by
 obtain ⟨x,l,gs,J0,J1,J2,ds,rfl,M,hl,hg,k⟩:=h;have hdb:∀d∈ds,d.b∈J2:=fun d hd=>(M.ok.good d hd).b;have z3:=M.ok.rooms26;refine fun d hd=>?_;refine ⟨_,rfl,l,rfl,⟨_,az.of (kp hl hd)⟩,?_⟩;refine cn (xs:=gs.map V.str) (fun i σ H'=>∃(F:Zb) (x3 x4:Option V),σ=[some (.ref x),some (.ref l),some (.ref d),x3,x4]/\H' d=some (.dK (aU F))/\ab H H'/\F.Nodup/\∀w,w∈F↔gK ds (gs.take i) w)
  ⟨[],_,_,rfl,aa,ab.new hd,pR,fun w=>⟨fun h=>(by cases h),fun ⟨g,h,_⟩=>(by cases h)⟩⟩ (fun i σ H' _ ⟨_,_,_,_,_,S,_⟩=>az.of (S _ _ hl)) ?_ ?_
 ·rintro i y σ H1 hi ⟨F,x3,x4,rfl,hd1,S1,nd,hF⟩;obtain ⟨r,hr,rfl⟩:=bC hi;have hrm:r∈J2:=hg r (aP hr);have hsub:∀w∈F,w∈J2:=fun w hw=>((hF w).mp hw).in_ (fun g hg'=>hg g (fj hg')) hdb;refine ⟨_,rfl,_,rfl,d,_,rfl,.inl ⟨_,.inr r,.inl hd1,rfl,rfl⟩,_,rfl,?_⟩;rw [fe];have hstep:∀w,gK ds (gs.take (i+1)) w↔(gK ds (gs.take i) w∨w=r∨Reach ds r w):=by
   intro w;rw [take_snoc hr];constructor
   ·rintro ⟨g,hg',h⟩;rcases bd.mp hg' with hg' | hg'
    ·exact .inl ⟨g,hg',h⟩
    ·have:g=r:=by simpa using hg'
     subst this;exact .inr h
   ·rintro (⟨g,hg',h⟩ | h)
    ·exact ⟨g,cW _ hg',h⟩
    ·exact ⟨r,dk _ (by simp),h⟩
  by_cases c:r∈F
  ·rw [zzr1 c];refine ck ⟨F,_,_,rfl,hd1,S1,nd,fun w=>?_⟩;rw [hstep,hF];refine ⟨.inl,fun h=>h.elim id fun h=>?_⟩;obtain ⟨g,hg',hgr⟩:=(hF r).mp c;rcases h with h | h
   ·rw [h]; exact ⟨g,hg',hgr⟩
   ·refine ⟨g,hg',.inr ?_⟩;rcases hgr with e | hgr
    ·rw [<-e]; exact h
    ·exact hgr.trans h
  ·rw [zzr0 c];refine dh ?_;have hlen:∀{F:Zb},F.Nodup->(∀w∈F,w∈J2)->(aU F).length<aj:=fun nd hs=>au (bv (kh _) (bv (lG nd hs) (by omega)));refine ⟨_,rfl,_,rfl,d,_,rfl,.inl ⟨_,.inr r,hd1,rfl,hlen nd hsub,rfl⟩,?_⟩;rw [tI];have S2:ab H (upd H1 d (.dK (aU (rA F r)))):=fun b o q=>by rw [af (ae q hd)]; exact S1 _ _ q
   have hd2:upd H1 d (.dK (aU (rA F r))) d=some (.dK (aU (rA F r))):=aa;generalize upd H1 d (.dK (aU (rA F r)))=H2 at S2 hd2 ⊢;have M2:=M.same S2;obtain ⟨dx,fs,o1,o2,o3,o4,lv,qu,sg,sl,ts,lps,gps,sps,g1,a1,a2,a3,a4,_⟩:=M2.at_;refine ⟨_,rfl,x,dx,fs,rfl,g1,a3,_,rfl,x,r,J0,J1,J2,ds,rfl,M2,hrm,fun ll L H3 hll ndL hL frl S3=>⟨ll,rfl,⟨_,az.of hll⟩,?_⟩⟩;have hd3:=S3 _ _ hd2;have llH:H ll=none:=S2.free frl;have lld:ll≠d:=fun z=>by rw [z,hd2] at frl; cases frl
   refine cn (xs:=L.map V.str) (fun j σ H'=>∃(F':Zb) (x4:Option V),σ=[some (.ref x),some (.ref l),some (.ref d),some (.str r),x4]/\H' d=some (.dK (aU F'))/\H' ll=some (.lst (L.map V.str))/\ab H H'/\F'.Nodup/\∀w,w∈F'↔(gK ds (gs.take i) w∨w=r∨w∈L.take j))
    ⟨rA F r,_,rfl,hd3,hll,S2.trans S3,tX nd r,fun w=>?_⟩ (fun j σ H' _ ⟨_,_,_,_,h,_⟩=>az.of h) ?_ ?_
   ·rw [y8,hF]; simp
   ·rintro j y σ H4 hj ⟨F',x4',rfl,hd4,hll4,S4,nd4,hF4⟩;obtain ⟨v,hv,rfl⟩:=bC hj;have hsub4:∀w∈F',w∈J2:=by
     intro w hw;rcases (hF4 w).mp hw with h | h | h
     ·exact h.in_ (fun g hg'=>hg g (fj hg')) hdb
     ·rw [h]; exact hrm
     ·exact ((hL w).mp (fj h)).in_ hdb
    refine ⟨_,rfl,_,rfl,d,_,rfl,.inl ⟨_,.inr v,hd4,rfl,hlen nd4 hsub4,rfl⟩,rA F' v,_,rfl,?_,?_,?_,tX nd4 v,fun w=>?_⟩
    ·rw [aa,tI]
    ·rw [af lld]; exact hll4
    ·intro b o q;rw [af (ae q hd)]; exact S4 _ _ q
    ·rw [y8,hF4,take_snoc hv,bd];simp only [bF];constructor
     ·rintro ((h | h | h) | h)
      ·exact .inl h
      ·exact .inr (.inl h)
      ·exact .inr (.inr (.inl h))
      ·exact .inr (.inr (.inr h))
     ·rintro (h | h | h | h)
      ·exact .inl (.inl h)
      ·exact .inl (.inr (.inl h))
      ·exact .inl (.inr (.inr h))
      ·exact .inr h
   ·rintro σ H4 ⟨F',x4',rfl,hd4,hll4,S4,nd4,hF4⟩;rw [ai,bh] at hF4;refine ⟨F',_,_,rfl,hd4,S4,nd4,fun w=>?_⟩;rw [hstep,hF4,hL]
 ·rintro σ H1 ⟨F,x3,x4,rfl,hd1,S1,nd,hF⟩;rw [ai,bh] at hF;have M1:=M.same S1;obtain ⟨dx,fs,o1,o2,o3,o4,lv,qu,sg,sl,ts,lps,gps,sps,g1,a1,a2,a3,a4,_⟩:=M1.at_;refine ⟨_,rfl,x,dx,fs,rfl,g1,a4,x,J0,J1,J2,ds,rfl,M1,fun rl hrl=>⟨rl,rfl,⟨_,az.of aa⟩,fun f hf=>?_⟩⟩;have S2:ab H (upd H1 rl (.lst (J2.map V.str))):=S1.trans (ab.new hrl);have hd2:upd H1 rl (.lst (J2.map V.str)) d=some (.dK (aU F)):=kp hd1 hrl;have hrl2:upd H1 rl (.lst (J2.map V.str)) rl=some (.lst (J2.map V.str)):=aa;generalize upd H1 rl (.lst (J2.map V.str))=H2 at S2 hd2 hrl2 hf ⊢;refine cC (xs:=J2.map V.str) (fun i vs H'=>vs=((J2.take i).filter fun r=>decide (r∈F)).map V.str/\ab H2 H'/\H' f=some (.lst vs)) ⟨rfl,ab.new hf,aa⟩ (fun i vs H' _ ⟨_,S,h'⟩=>⟨h',az.of (S _ _ hrl2)⟩) ?_ ?_
  ·rintro vs H' ⟨rfl,S,f'⟩;rw [ai,bh] at f';exact ⟨f,_,rfl,.inl ⟨az.of f',fun t ht=>k t F _ aa hF (S2.trans (S.trans (ab.new ht)))⟩⟩
  ·rintro i vs H' x' hx' hi ⟨rfl,S,f'⟩;obtain ⟨r,hr,rfl⟩:=bC hx';refine gN ?_;refine ⟨_,rfl,_,rfl,d,_,rfl,.inl ⟨_,.inr r,.inl (S _ _ hd2),rfl,rfl⟩,_,rfl,?_⟩;rw [fe];have hlen:(((J2.take i).filter fun r=>decide (r∈F)).map V.str).length<aj:=by
    rw [ai];refine au (bv (de _ _) ?_);rw [aX]; omega
   refine iN (fun hq=>?_) (fun hq=>?_)
   ·refine ⟨_,rfl,f',hlen,o0 hi ⟨?_,?_,aa⟩⟩
    ·rw [cN hr,if_pos hq,aq]; rfl
    ·intro b o q;rw [af (ae q hf)];exact S _ _ q
   ·refine o0 hi ⟨?_,S,f'⟩;rw [cN hr,if_neg hq,fD]
inductive eG (K:Za) (vs:List V) (H:Hp) (Q:VK) (E:XK):Prop
 | mk (l4 l:Addr) (ts:Ze) (ds:List am) (gs J2:Zb):(vs=[.ref l4,.ref l])->(H l4=some (.lst (ts.map V.ref)))->(cB H ts ds)->(H l=some (.lst (gs.map V.str)))->((∀d∈ds,d.b∈J2))->(J2.length<=1000)->(gs.length<=1000)->(∀(f:Addr) (F:Zb) (H':Hp),H' f=some (.lst (F.map V.str))->(∀w,w∈F↔gK ds gs w)->F.length<=2000->H f=none->ab H H'->Q (.ref f) H')->eG K vs H Q E
structure SO (H0 H:Hp) (ds:List am) (gs:Zb) (f:Addr) (X:Zb):Prop where
 f:H f=some (.lst ((gs++X).map V.str))
 same:ab H0 H
 nd:X.Nodup
 new:∀y∈X,y∉gs
 sound:∀y∈X,gK ds gs y
theorem gK.step {ds:List am}{gs:Zb}{a b:Str}(h:gK ds gs a) (e:(⟨a,ax,b⟩:am)∈ds):gK ds gs b:=by
 obtain ⟨g,hg,rfl | h⟩:=h
 ·exact ⟨_,hg,.inr (.one e)⟩
 ·exact ⟨g,hg,.inr (.step h e)⟩
theorem mj (a b:Zb):decide (jW a=jW b)=decide (a=b):=by
 by_cases e:a=b
 ·rw [zzr1 e,zzr1 (by rw [e])]
 ·rw [zzr0 e,zzr0 (fun z=>e (xD z))]
theorem yJ {K:Za}{vs:List V}{H:Hp}{Q:VK}{E:XK}(h:eG K vs H Q E):sI K (bJ Q) (start t5 vs) H:=by
 obtain ⟨l4,l,ts,ds,gs,J2,rfl,h4,hds,hl,hin,hz,hz2,k⟩:=h;refine ⟨_,rfl,.inl ⟨l,_,rfl,.inl (az.of hl),fun f hf=>?_⟩⟩;have lenX:∀{X:Zb},X.Nodup->(∀y∈X,y∉gs)->(∀y∈X,gK ds gs y)->X.length<=J2.length:=fun nd nw sd=>lG nd fun y hy=>by
  obtain ⟨g,hg,e | h⟩:=sd y hy
  ·exact absurd (by rw [e]; exact hg) (nw y hy)
  ·exact h.in_ hin
 refine ⟨fun m σ H'=>∃(X:Zb) (at_:Nat) (x y z:Option V),σ=[some (.ref l4),some (.ref l),some (.ref f),some (.int at_),x,y,z]/\SO H H' ds gs f X/\at_<=(gs++X).length/\(∀i y,i<at_->(gs++X)[i]?=some y->∀c,(⟨y,ax,c⟩:am)∈ds->c∈gs++X)/\m=gs.length+J2.length-at_,
  ⟨_,[],0,_,_,_,rfl,⟨by rw [fD]; exact aa,ab.new hf,pR,by simp,by simp⟩,cV _,fun i y h=>by omega,rfl⟩,?_⟩
 rintro m σ H1 ⟨X,at_,x4,x5,x6,rfl,D,hat,hcl,rfl⟩;have hXl:=lenX D.nd D.new D.sound;refine ⟨_,rfl,_,rfl,.inl ⟨f,_,rfl,.inl (az.of D.f),_,_,rfl,rfl,_,rfl,?_⟩⟩;refine iN (fun hlt=>?_) (fun hlt=>?_)
 ·have hlt':at_<(gs++X).length:=by
   have:=of_decide_eq_true hlt;rw [ai] at this;omega
  have hat0:at_<gs.length+J2.length:=by rw [ay] at hlt'; omega
  generalize hhere:(gs++X)[at_]=here;have hget:(gs++X)[at_]?=some here:=by rw [<-hhere]; exact bE hlt'
  have hfrom:∀{Y:Zb}{y:Str},(∀y∈Y,gK ds gs y)->y∈gs++Y->gK ds gs y:=fun sd hy=>by
   rcases bd.mp hy with hy | hy
   ·exact ⟨_,hy,.inl rfl⟩
   ·exact sd _ hy
  refine ⟨fun σ' H'=>∃(X':Zb) (x y z:Option V),σ'=[some (.ref l4),some (.ref l),some (.ref f),some (.int ((at_+1:Nat):Int)),x,y,z]/\SO H H' ds gs f X'/\at_+1<=(gs++X').length/\(∀i y,i<at_+1->(gs++X')[i]?=some y->∀c,(⟨y,ax,c⟩:am)∈ds->c∈gs++X'),
   fun σ' H' ⟨X',x,y,z,e,D',h1,h2⟩=>⟨_,(by omega:gs.length+J2.length-(at_+1)<gs.length+J2.length-at_),X',at_+1,x,y,z,e,D',h1,h2,rfl⟩,?_⟩
  refine ⟨_,rfl,l4,rfl,⟨_,az.of (D.same _ _ h4)⟩,?_⟩;refine cn (xs:=ts.map V.ref) (fun j σ H'=>∃(X' Y:Zb) (x y z:Option V),σ=[some (.ref l4),some (.ref l),some (.ref f),some (.int at_),x,y,z]/\X'=X++Y/\SO H H' ds gs f X'/\∀d∈ds.take j,d.a=here->d.sg=ax->d.b∈gs++X')
   ⟨X,[],_,_,_,rfl,by simp,D,by simp⟩ (fun j σ H' _ ⟨_,_,_,_,_,_,_,D',_⟩=>az.of (D'.same _ _ h4)) ?_ ?_
  ·rintro j y σ H2 hj ⟨X',Y,x4',x5',x6',rfl,rfl,D2,hdone⟩;obtain ⟨t,ht,rfl⟩:=cP hj;obtain ⟨dr,hdr,hatd⟩:=Paired.getL hds ht;obtain ⟨s,ht2,hs2⟩:=hatd.kt (ab.kt D2.same);have hmem:=aP hdr;have hXl2:=lenX D2.nd D2.new D2.sound;have hget2:(gs++(X++Y))[at_]?=some here:=by
    rw [<-df,dg hlt']; exact hget
   refine ⟨t,_,rfl,bj.of ht2,rfl,_,_,rfl,_,_,rfl,_,_,rfl,rfl,?_⟩;have nextI:∀(H3:Hp) (X3 Y3:Zb) (q4 q5 q6:Option V),X3=X++Y3->SO H H3 ds gs f X3->(∀y∈X++Y,y∈X3)->(dr.a=here->dr.sg=ax->dr.b∈gs++X3) ->
     ∃(X' Y:Zb) (x y z:Option V),[some (.ref l4),some (.ref l),some (.ref f),some (.int at_),q4,q5,q6]=[some (.ref l4),some (.ref l),some (.ref f),some (.int at_),x,y,z]/\X'=X++Y/\SO H H3 ds gs f X'/\∀d∈ds.take (j+1),d.a=here->d.sg=ax->d.b∈gs++X':=by
    intro H3 X3 Y3 q4 q5 q6 e D3 hsub hnew;refine ⟨X3,Y3,q4,q5,q6,rfl,e,D3,fun d hd e1 e2=>?_⟩;rw [take_snoc hdr] at hd;rcases bd.mp hd with hd | hd
    ·rcases bd.mp (hdone d hd e1 e2) with h | h
     ·exact cW _ h
     ·exact dk _ (hsub _ h)
    ·have:d=dr:=by simpa using hd
     subst this;exact hnew e1 e2
   refine ⟨_,rfl,_,rfl,_,rfl,.inl ⟨f,_,_,_,rfl,rfl,az.of D2.f,bt (j:=at_) (by rw [bZ,hget2]; rfl),gu dr.a,gu here,kN _,kN _,(by show 0<=8; decide),(by show 0<=8; decide),_,rfl,?_⟩⟩;rw [Cn];by_cases c1:dr.a=here;rotate_left
   ·rw [zzr0 c1];exact ck (ck (nextI H2 _ _ _ _ _ rfl D2 (fun _ h=>h) fun e=>absurd e c1))
   rw [zzr1 c1];refine dh ?_;refine ⟨_,rfl,(by show 1<=aj; decide),fun st hst=>⟨jW dr.sg,jW ax,bD (bj.of (kp hs2 hst)),bD (bj.of aa),by rw [b0]; decide,by rw [b0]; decide,_,rfl,?_⟩⟩;rw [mj];have D3:SO H (upd H2 st (.tup [.str "still"])) ds gs f (X++Y):=⟨kp D2.f hst,D2.same.trans (ab.new hst),D2.nd,D2.new,D2.sound⟩;have hstS:H st=none:=D2.same.free hst;generalize upd H2 st (.tup [.str "still"])=H3 at D3 ⊢;by_cases c2:dr.sg=ax;rotate_left
   ·rw [zzr0 c2];exact ck (ck (nextI H3 _ _ _ _ _ rfl D3 (fun _ h=>h) fun _ e=>absurd e c2))
   rw [zzr1 c2];refine dh ?_;refine ⟨_,rfl,_,rfl,gu dr.b,(gs++(X++Y)).map gu,f,_,kN _,rfl,.inl (az.of D3.f),ki _,(by show 0<=8; decide),by rw [eP]; decide,_,rfl,?_⟩;rw [if_pos rfl];by_cases c3:dr.b∈gs++(X++Y)
   ·rw [zzr1 (l_.mpr c3)];exact ck (nextI H3 _ _ _ _ _ rfl D3 (fun _ h=>h) fun _ _=>c3)
   rw [zzr0 (fun z=>c3 (l_.mp z))];refine dh ?_;refine ⟨_,rfl,.inl ⟨rfl,_,az.of D3.f⟩,_,rfl,f,_,_,rfl,rfl,D3.f,by rw [ai,ay]; exact gF (by omega),?_⟩;have hedge:(⟨here,ax,dr.b⟩:am)∈ds:=by
    have:dr=⟨here,ax,dr.b⟩:=by cases dr; simp only at c1 c2; rw [c1,c2]
    rw [<-this]; exact hmem
   refine nextI _ (X++(Y++[dr.b])) _ _ _ _ rfl ⟨?_,?_,?_,?_,?_⟩ ?_ ?_
   ·rw [aa];have:gs++(X++(Y++[dr.b]))=gs++(X++Y)++[dr.b]:=by simp
    rw [this,aq (l₂:=[dr.b])]
    rfl
   ·intro b o q;rw [af (ae q hf)]; exact D3.same _ _ q
   ·rw [<-df,cH];refine ⟨D3.nd,by simp,fun a ha b hb e=>?_⟩;have:b=dr.b:=by simpa using hb
    exact c3 (dk _ (by rw [<-this,<-e]; exact ha))
   ·intro y hy;rw [<-df] at hy;rcases bd.mp hy with hy | hy
    ·exact D3.new y hy
    ·have:y=dr.b:=by simpa using hy
     rw [this];exact fun z=>c3 (cW _ z)
   ·intro y hy;rw [<-df] at hy;rcases bd.mp hy with hy | hy
    ·exact D3.sound y hy
    ·have:y=dr.b:=by simpa using hy
     rw [this];exact (hfrom D.sound (aP hget)).step hedge
   ·intro y hy;rw [<-df];exact cW _ hy
   ·intro _ _;exact dk _ (by simp)
  ·rintro σ H2 ⟨X',Y,x4',x5',x6',rfl,rfl,D2,hdone⟩;rw [ai,Paired.length hds,bh] at hdone;refine ⟨_,rfl,_,_,rfl,rfl,X++Y,_,_,_,rfl,D2,?_,fun i y hi hy c hc=>?_⟩
   ·rw [<-df,ay]; omega
   ·by_cases e:i=at_
    ·subst e;rw [<-df,dg hlt',hget] at hy;have:=fg hy;subst this;exact hdone _ hc rfl rfl
    ·have hi':i<at_:=by omega
     rw [<-df,dg (by omega)] at hy;have:=hcl i y hi' hy c hc;rw [<-df];exact cW _ this
 ·have hend:at_=(gs++X).length:=by
   have:¬(at_<(gs++X).length):=fun z=>hlt (zzr1 (by rw [ai]; omega));omega
  refine ⟨_,rfl,k f (gs++X) H1 D.f (fun w=>⟨fun hw=>?_,fun hw=>?_⟩) (by rw [ay]; omega) hf D.same⟩
  ·rcases bd.mp hw with hw | hw
   ·exact ⟨_,hw,.inl rfl⟩
   ·exact D.sound _ hw
  ·have closed:∀y∈gs++X,∀c,(⟨y,ax,c⟩:am)∈ds->c∈gs++X:=fun y hy c hc=>by
    obtain ⟨n,hn⟩:=fh hy;exact hcl n y (by rw [hend]; exact (bP.mp hn).1) hn c hc
   obtain ⟨g,hg,rfl | h⟩:=hw
   ·exact cW _ hg
   ·induction h with
    | one e=>exact closed _ (cW _ hg) _ e
    | step r e ih=>exact closed _ ih _ e

theorem As {ds:List am}{a b:Str}(h:¬gK ds [b] a) {x y:Str}(r:Reach (ds++[⟨a,ax,b⟩]) x y):Reach ds x y∨((x=a∨Reach ds x a)/\(y=b∨Reach ds b y)):=by
 have edge:∀{u v:Str},(⟨u,ax,v⟩:am)∈ds++[⟨a,ax,b⟩]->(⟨u,ax,v⟩:am)∈ds∨(u=a/\v=b):=by
  intro u v e;rcases bd.mp e with e | e
  ·exact .inl e
  ·have:(⟨u,ax,v⟩:am)=⟨a,ax,b⟩:=by simpa using e
   injection this with h1 h2 h3;exact .inr ⟨h1,h3⟩
 induction r with
 | one e =>
  rcases edge e with e | ⟨rfl,rfl⟩
  ·exact .inl (.one e)
  ·exact .inr ⟨.inl rfl,.inl rfl⟩
 | step r e0 ih =>
  rcases edge e0 with e | ⟨rfl,rfl⟩
  ·rcases ih with ih | ⟨h1,h2⟩
   ·exact .inl (.step ih e)
   ·refine .inr ⟨h1,.inr ?_⟩;rcases h2 with h2 | h2
    ·exact .one (by rw [<-h2]; exact e)
    ·exact .step h2 e
  ·rcases ih with ih | ⟨h1,h2⟩
   ·exact .inr ⟨.inr ih,.inl rfl⟩
   ·exact absurd ⟨_,by simp,h2⟩ h
theorem xh {ds:List am}{a b:Str}(hn:∀r,¬Reach ds r r) (h:¬gK ds [b] a):∀r,¬Reach (ds++[⟨a,ax,b⟩]) r r:=by
 intro r z;have no:¬(a=b∨Reach ds b a):=fun z=>h ⟨b,by simp,z⟩;rcases As h z with z | ⟨h1,h2⟩
 ·exact hn r z
 ·rcases h1 with rfl | h1
  ·exact no h2
  ·rcases h2 with rfl | h2
   ·exact no (.inr h1)
   ·exact no (.inr (h2.trans h1))
theorem aJ.putStill {J0 J1 J2:Zb}{ds:List am}{a b:Str}(m:aJ J0 J1 J2 ds) (ha:a∈J2) (hb:b∈J2) (h:¬gK ds [b] a) (hf:ds.length<=699):aJ J0 J1 J2 (lD ds ⟨a,ax,b⟩):=by
 unfold lD;split
 ·exact m
 ·next hn =>
  refine { m with nodup:=?_,good:=?_,few:=?_,noround:=xh m.noround h }
  ·rw [cH];refine ⟨m.nodup,by simp,fun x hx y hy e=>?_⟩;have:y=⟨a,ax,b⟩:=by simpa using hy
   subst this;exact hn (e ▸ hx)
  ·intro d hd;rcases bd.mp hd with hd | hd
   ·exact m.good d hd
   ·have:d=⟨a,ax,b⟩:=by simpa using hd
    subst this;exact ⟨ha,hb,.inr (.inr rfl)⟩
  ·rw [ay]; show ds.length+1<=1000; omega
theorem tq (ds:List am) (d:am):(lD ds d).length<=ds.length+1:=by
 unfold lD;split
 ·omega
 ·rw [ay]; exact aE _
def db (ds:List am) (sg:Zb) (J6:Zb):List Str:=J6.flatMap fun r=>bm ds (r,sg)
theorem uL {ds:List am}{sg J6:Zb}{i:Nat}{r:Str}(h:J6[i]?=some r):db ds sg (J6.take (i+1))=db ds sg (J6.take i)++bm ds (r,sg):=by
 unfold db;rw [take_snoc h,vU];simp
theorem qW (ds:List am) (x:Str×List Str):(bm ds x).length<=ds.length:=by
 unfold bm;rw [ai];exact de _ _
theorem pc (ds:List am) (sg:Zb):∀J6:List Str,(db ds sg J6).length<=J6.length * ds.length
 | []=>cV _
 | r::J6=>by
  show ((bm ds (r,sg))++db ds sg J6).length<=(J6.length+1) * ds.length;rw [ay,vT];have h1:=qW ds (r,sg);have h2:=pc ds sg J6;omega
theorem o8 {ds:List am}{sg J6:Zb}{b:Str}:b∈db ds sg J6↔∃r∈J6,(⟨r,sg,b⟩:am)∈ds:=by
 unfold db;rw [pI];constructor
 ·rintro ⟨r,hr,h⟩;exact ⟨r,hr,eL.mp h⟩
 ·rintro ⟨r,hr,h⟩;exact ⟨r,hr,eL.mpr h⟩
inductive oM (C:Addr) (vs:List V) (H:Hp) (Q:VK) (E:XK):Prop
 | mk (x t s:Addr) (J6 sg J0 J1 J2:Zb) (ds:List am):(vs=[.ref x,.ref t,.ref s])->(bx C H x J0 J1 J2 ds)->(H t=some (.tup (J6.map V.str)))->(H s=some (.tup (sg.map V.str)))->(sg≠bT)->(J6.length<=1000)->(∀(t':Addr) (F:Zb) (H':Hp),H' t'=some (.tup ((J2.filter fun r=>decide (r∈F)).map V.str))->(∀w,w∈F↔gK ds (db ds sg J6) w)->ab H H'->Q (.ref t') H')->oM C vs H Q E
theorem xc {K:Za}{C hu:Addr}(hhu:∀H,bj K H hu (bT.map V.str)) {sp2:Sp}{vs:List V}{H:Hp}{Q:VK}{E:XK}(h:oM C vs H Q E) :
  mP K (sp_with_still C) C (ix C) hu sp2 (bJ Q) (start mS vs) H:=by
 obtain ⟨x,t,s,J6,sg,J0,J1,J2,ds,rfl,M,ht,hs,hne,hz,k⟩:=h;have hdb:∀d∈ds,d.b∈J2:=fun d hd=>(M.ok.good d hd).b;have z4:=M.ok.few;refine ⟨_,rfl,jW sg,jW bT,bD (bj.of hs),bD (hhu _),by rw [b0]; decide,by rw [b0]; decide,_,rfl,?_⟩;rw [mj,zzr0 hne];refine ck ?_;refine ⟨(by show 0<=aj; decide),fun g hg=>?_⟩;refine ⟨_,rfl,t,rfl,⟨_,bj.of (kp ht hg)⟩,?_⟩;refine Ci (xs:=J6.map V.str) (fun i σ H'=>∃x4:Option V,σ=[some (.ref x),some (.ref t),some (.ref s),some (.ref g),x4]/\H' g=some (.lst ((db ds sg (J6.take i)).map V.str))/\ab H H')
  ⟨_,rfl,aa,ab.new hg⟩ (fun i σ H' _ ⟨_,_,_,S⟩=>bj.of (S _ _ ht)) ?_ ?_
 ·rintro i y σ H1 hi ⟨x4,rfl,hg1,S1⟩;obtain ⟨r,hr,rfl⟩:=bC hi;have M1:=M.same S1;obtain ⟨dx,fs,o1,o2,o3,o4,lv,qu,sgA,sl,ts,lps,gps,sps,g1,a1,a2,a3,a4,_⟩:=M1.at_;refine ⟨_,rfl,.inl ⟨rfl,_,az.of hg1⟩,_,rfl,x,dx,fs,rfl,g1,a2,_,rfl,_,rfl,x,s,r,sg,J0,J1,J2,ds,rfl,M1,S1 _ _ hs,fun l H2 hl fr S2=>?_⟩;have hg2:=S2 _ _ hg1;have hlen:((db ds sg (J6.take i)).map V.str).length+((bm ds (r,sg)).map V.str).length<=aj:=by
   rw [ai,ai];have h1:=pc ds sg (J6.take i);have h2:=qW ds (r,sg);have h3:(J6.take i).length * ds.length<=1000 * 1000:=pH (by rw [aX]; omega) z4;have:(1001000:Nat)<=aj:=by decide
   omega
  refine ⟨g,l,_,_,rfl,rfl,hg2,hl,hlen,_,rfl,?_,?_⟩
  ·rw [aa,uL hr,aq]
  ·intro b o q;rw [af (ae q hg)];exact S2 _ _ (S1 _ _ q)
 ·rintro σ H1 ⟨x4,rfl,hg1,S1⟩;rw [ai,bh] at hg1;refine ⟨_,rfl,_,rfl,x,g,db ds sg J6,J0,J1,J2,ds,rfl,M.same S1,hg1,fun w hw=>?_,fun t' F H' h1 h2 S2=>k t' F H' h1 h2 (S1.trans S2)⟩;obtain ⟨r,_,h⟩:=o8.mp hw;exact hdb _ h
theorem gg {ds:List am}{i:Nat}{d:am}{p:am->Bool}(h:ds[i]?=some d):(ds.take (i+1)).filter p=(ds.take i).filter p++(if p d=true then [d] else []):=by
 rw [take_snoc h,pJ];congr 1;by_cases c:p d=true
 ·rw [if_pos c]; simp [c]
 ·rw [if_neg c]; simp [c]
def wQ (K:Za) (sp_with_still:Sp) (C_Machine:Addr) (sp_Machine_rooms:Sp):TS :=
 bB (aM sp_with_still (aS V0 (vc (lC K) (dB C_Machine "rooms" sp_Machine_rooms [] E0 V0 aT) (da) (eF (tC (.int 1))))))
def xU:List Str:=["M"]
def um (K:Za) (sp_law_take:Sp) (sp_law_names:Sp):TS :=
 ap (aK V1 (fG K 4 (aN U2 (aN U3 (aN U4 (aN U5 (fy)))))))
 (ap (aK (p4) U6)
 (ap (eC (Hc K (ar V4 (aA (aM sp_law_names (aS V0 (fu (d9 K) (aA V4))))))) (fG K 2 (aN U7 (aN U8 (fy)))) (kL V6 V7 V8))
 (ap (aK (dC 1 [6] (cb K V4) U0 (j5) (fU K V1 V0)) U9)
 (ap (aK (aD eA (tC (.int 1)) (aM sp_law_take (aS V0 (fu (d9 K) (aA V4))))) H_)
 (ap (aK (aD kQ (aD kQ (vc (lC K) V9 (da) (eF (tC (.int 1)))) (vc (lC K) V9 (eF DN) (da))) (vc (lC K) V9 (eF (tC (.int 1))) (eF DN))) U9)
 (ap (aK (dC 3 [6] (cb K V5) (fG K 3 (aN U0 (aN U1 (aN U2 (fy))))) (j5) (be (eU (fU K V3 V0) V1 (fU K V3 V2)))) U5)
 (bB (be (ar V2 (eU V3 V9 V5))))))))))
def uS:List Str:=["pen","told","asks","says","rooms","doors","names","room","name","some","at"]
inductive dY (C:Addr) (vs:List V) (H:Hp) (Q:VK) (E:XK):Prop
 | mk (x:Addr) (J0 J1 J2:Zb) (ds:List am):(vs=[.ref x])->(bx C H x J0 J1 J2 ds)->(∀(t':Addr) (F:Zb) (H':Hp),H' t'=some (.tup ((J2.filter fun r=>decide (r∈F)).map V.str))->(∀w,w∈F↔gK ds (J2.take 1) w)->ab H H'->Q (.ref t') H')->dY C vs H Q E
theorem uF {K:Za}{C:Addr}{vs:List V}{H:Hp}{Q:VK}{E:XK}(h:dY C vs H Q E):wQ K (sp_with_still C) C (iL C) (bJ Q) (start xU vs) H:=by
 obtain ⟨x,J0,J1,J2,ds,rfl,M,k⟩:=h;obtain ⟨dx,fs,o1,o2,o3,o4,lv,qu,sgA,sl,ts,lps,gps,sps,g1,a1,a2,a3,a4,_⟩:=M.at_;have c1:fz (J2.map V.str) none (some 1)=(J2.take 1).map V.str:=ph J2 1;refine ⟨_,rfl,_,rfl,x,dx,fs,rfl,g1,a4,x,J0,J1,J2,ds,rfl,M,fun rl hrl=>⟨_,rfl,rl,_,rfl,az.of aa,fun l hl=>?_⟩⟩;rw [c1];have S:ab H (upd (upd H rl (.lst (J2.map V.str))) l (.lst ((J2.take 1).map V.str))):=(ab.new hrl).trans (ab.new hl);exact ⟨x,l,J2.take 1,J0,J1,J2,ds,rfl,M.same S,aa,fun g hg=>fj hg,fun t' F H' h1 h2 S2=>k t' F H' h1 h2 (S.trans S2)⟩
theorem Fj {K:Za}{a b:Addr}{xs ys:List V}{g:TG}{tb:TS}{D:mJ}{σ:L2.St}{H:Hp}(hxy:xs.length=ys.length) (Pv:Nat->L2.St->Hp->Prop) (h0:Pv 0 σ H) (hl:∀i σ H,i<=xs.length->Pv i σ H->az K H a xs/\az K H b ys)
  (hs:∀i x y σ H p,xs[i]?=some x->ys[i]?=some y->Pv i σ H->H p=none->g (.ref p) σ (upd H p (.tup [x,y])) fun σ2 H2=>tb { D with nx:=Pv (i+1),ct:=Pv (i+1),bk:=D.nx } σ2 H2) (hd:∀σ H,Pv xs.length σ H->D.nx σ H) :
  ∃W:Nat->Nat->L2.St->Hp->Prop,(∃m,W 0 m σ H)/\∀i m σ H,W i m σ H ->
   ((IF K a b).stop i H/\D.nx σ H)∨((IF K a b).go i H/\∃N:L2.St->Hp->Prop,(∀σ' H',N σ' H'->∃m',m'<m/\W (i+1) m' σ' H')/\∀x H',(IF K a b).yld i H x H'->g x σ H' fun σ2 H2=>tb { D with nx:=N,ct:=N,bk:=D.nx } σ2 H2):=by
 refine ⟨fun i m σ H=>m=xs.length-i/\i<=xs.length/\Pv i σ H,⟨xs.length,by simp,cV _,h0⟩,?_⟩;rintro i m σ H ⟨rfl,hi,p⟩;obtain ⟨q1,q2⟩:=hl i σ H hi p;by_cases hlt:i<xs.length
 ·have hlt2:i<ys.length:=by omega
  refine .inr ⟨⟨xs,ys,xs[i],ys[i],q1,q2,by simp [hlt],by simp [hlt2]⟩,Pv (i+1),fun σ' H' p'=>⟨xs.length-(i+1),by omega,rfl,hlt,p'⟩,fun x H' y=>?_⟩;obtain ⟨t,u,v,rfl,hn,hu,hv,rfl⟩:=y;exact hs i u v σ H t (hu xs q1) (hv ys q2) p hn
 ·have e:i=xs.length:=by omega
  subst e;exact .inl ⟨⟨xs,ys,q1,q2,.inl (aE _)⟩,hd σ H p⟩
def DJ (ps:List (Str×Str)):List (eQ×V):=ps.map fun x=>(.inr x.1,.str x.2)
def FI:List (Str×Str)->Str->Str
 | [],r=>r
 | (a,b)::ps,r=>if a=r then b else FI ps r
theorem B1 {r:Str}:∀{ps:List (Str×Str)},r∈ps.map (·.1)->bQ (DJ ps) (.inr r:eQ)=some (.str (FI ps r))
 | [],h=>by cases h
 | (a,b)::ps,h=>by
  unfold DJ bQ FI;rw [bc,lb];by_cases c:a=r
  ·rw [if_pos c,zzr1 (by rw [c])]
   rfl
  ·rw [if_neg c,zzr0 (fun z=>c (by injection z))];have:r∈ps.map (·.1):=by
    rcases c9.mp h with z | z
    ·exact absurd z.symm c
    ·exact z
   exact B1 this
theorem y3 {r:Str}:∀{ps:List (Str×Str)},r∉ps.map (·.1)->bQ (DJ ps) (.inr r:eQ)=none
 | [],_=>rfl
 | (a,b)::ps,h=>by
  unfold DJ bQ;rw [bc,lb,zzr0 (fun z=>h (by injection z with z; rw [bc]; exact c9.mpr (.inl z.symm)))];exact y3 fun z=>h (by rw [bc]; exact fx _ z)
theorem EL {ps:List (Str×Str)}{r w:Str}(h:r∉ps.map (·.1)):cO (DJ ps) (.inr r) (.str w)=DJ (ps++[(r,w)]):=by
 rw [fX _ (y3 h)];unfold DJ;rw [aq]
 rfl
theorem wG:∀{rs ws:Zb},ws.length=rs.length->(rs.zip ws).map (·.1)=rs
 | [],_,_=>by simp
 | _::_,[],h=>by cases h
 | r::rs,w::ws,h=>by
  rw [List.zip_cons_cons,bc,wG (by simpa using h)]
theorem BM:∀{rs ws:Zb},rs.Nodup->ws.length=rs.length->rs.map (FI (rs.zip ws))=ws
 | [],[],_,_=>rfl
 | [],_::_,_,h=>by cases h
 | _::_,[],_,h=>by cases h
 | r::rs,w::ws,nd,h=>by
  rw [List.zip_cons_cons,bc];have nd':=mK.mp nd;have e1:FI ((r,w)::rs.zip ws) r=w:=by unfold FI; rw [if_pos rfl]
  have e2:rs.map (FI ((r,w)::rs.zip ws))=rs.map (FI (rs.zip ws)):=by
   refine List.map_congr_left fun x hx=>?_;show (if r=x then w else FI (rs.zip ws) x)=_
   rw [if_neg (fun z=>nd'.1 (by rw [z]; exact hx))]
  rw [e1,e2,BM nd'.2 (by simpa using h)]
def uB (f:Str->Str) (d:am):am:=⟨f d.a,d.sg,f d.b⟩
theorem HL {J2 ws:Zb}{f:Str->Str}(hf:J2.map f=ws) (nd:ws.Nodup) {a b:Str}(ha:a∈J2) (hb:b∈J2) (e:f a=f b):a=b:=by
 obtain ⟨i,hi⟩:=fh ha;obtain ⟨j,hj⟩:=fh hb;have h1:ws[i]?=some (f a):=by rw [<-hf,bZ,hi]; rfl
 have h2:ws[j]?=some (f a):=by rw [<-hf,bZ,hj,e]; rfl
 have:=rO nd h1 h2;subst this;rw [hi] at hj;exact fg hj
theorem CU {J2:Zb}{f:Str->Str}{ds:List am}(inj:∀a∈J2,∀b∈J2,f a=f b->a=b) (hin:∀d∈ds,d.a∈J2/\d.b∈J2) {x y:Str}(h:Reach (ds.map (uB f)) x y) :
  ∃a∈J2,∃b∈J2,x=f a/\y=f b/\Reach ds a b:=by
 have edge:∀{u v:Str},(⟨u,ax,v⟩:am)∈ds.map (uB f)->∃a b,(⟨a,ax,b⟩:am)∈ds/\u=f a/\v=f b:=by
  intro u v e;obtain ⟨⟨a,s,b⟩,hd,e⟩:=aB.mp e;unfold uB at e;injection e with e1 e2 e3;simp only at e2;subst e2;exact ⟨a,b,hd,e1.symm,e3.symm⟩
 induction h with
 | one e =>
  obtain ⟨a,b,hd,rfl,rfl⟩:=edge e;exact ⟨a,(hin _ hd).1,b,(hin _ hd).2,rfl,rfl,.one hd⟩
 | step r e ih =>
  obtain ⟨a,ha,b,hb,e1,e2,hr⟩:=ih;obtain ⟨a',b',hd,e3,rfl⟩:=edge e;have:b=a':=inj b hb a' (hin _ hd).1 (e2.symm.trans e3);subst this;exact ⟨a,ha,b',(hin _ hd).2,e1,rfl,.step hr hd⟩
theorem aJ.renamed {J0 J1 J2 ws rooms':Zb}{ds:List am}{f:Str->Str}(m:aJ J0 J1 J2 ds) (okw:km ws) (hf:J2.map f=ws) (hp:rooms'.Perm ws):aJ J0 J1 rooms' (ds.map (uB f)):=by
 have hlen:rooms'.length=J2.length:=by rw [hp.length_eq,<-hf,ai]
 have inj:∀a∈J2,∀b∈J2,f a=f b->a=b:=fun a ha b hb e=>HL hf okw.1 ha hb e;have hin:∀d∈ds,d.a∈J2/\d.b∈J2:=fun d hd=>⟨(m.good d hd).a,(m.good d hd).b⟩;have hmem:∀a∈J2,f a∈rooms':=fun a ha=>hp.mem_iff.mpr (by rw [<-hf]; exact jZ ha);refine { m with okR:=⟨hp.nodup_iff.mpr okw.1,fun w hw=>okw.2 w (hp.mem_iff.mp hw)⟩,rooms0:=?_,rooms26:=by rw [hlen]; exact m.rooms26,nodup:=?_,good:=?_,few:=by rw [ai]; exact m.few,noround:=?_ }
 ·intro z;rw [z] at hlen;exact m.rooms0 (List.eq_nil_of_length_eq_zero hlen.symm)
 ·refine List.Pairwise.map _ ?_ (List.Pairwise.and_mem.mp m.nodup);rintro ⟨a,s,b⟩ ⟨a',s',b'⟩ ⟨h1,h2,hne⟩ e;unfold uB at e;injection e with e1 e2 e3;simp only at e1 e2 e3;refine hne ?_;rw [inj a (hin _ h1).1 a' (hin _ h2).1 e1,e2,inj b (hin _ h1).2 b' (hin _ h2).2 e3]
 ·intro d hd;obtain ⟨d0,hd0,rfl⟩:=aB.mp hd;exact ⟨hmem _ (hin _ hd0).1,hmem _ (hin _ hd0).2,(m.good d0 hd0).sg⟩
 ·intro r z;obtain ⟨a,ha,b,hb,e1,e2,hr⟩:=CU inj hin z;have:=inj a ha b hb (e1.symm.trans e2);subst this;exact m.noround a hr
theorem Du (ws:Zb) {j k:Nat}(hj:j<=k) (hk:k<=ws.length):fz (ws.map V.str) (some (j:Int)) (some (k:Int))=((ws.drop j).take (k-j)).map V.str:=by
 unfold fz;rw [HT.sIx_nat,HT.sIx_nat,ai,vY hk,vY (bv hj hk),mZ,vZ]
theorem yk (ws:Zb) (n:Nat):(ws.take 1++ws.drop (1+n)++(ws.drop 1).take (1+n-1)).Perm ws:=by
 have e:ws.drop (1+n)=(ws.drop 1).drop n:=by rw [List.drop_drop]
 have e2:1+n-1=n:=by omega
 rw [e,e2,df];have h:ws=ws.take 1++((ws.drop 1).take n++(ws.drop 1).drop n):=by rw [rY,rY]
 exact (List.Perm.append_left _ List.perm_append_comm).trans (by rw [<-h])
theorem rP (o:Str) (L:Zb):decide (gu o∈L.map gu)=decide (o∈L):=by
 by_cases c:o∈L
 ·rw [zzr1 (l_.mpr c),zzr1 c]
 ·rw [zzr0 (fun z=>c (l_.mp z)),zzr0 c]
theorem bj.same {K:Za}{H H':Hp}{a:Addr}{xs:List V}(S:ab H H') (h:bj K H a xs):bj K H' a xs:=by
 rcases h with (h | ⟨o,h⟩) | h
 ·exact .inl (.inl (S _ _ h))
 ·exact .inl (.inr ⟨o,S _ _ h⟩)
 ·exact .inr h
theorem az.same {K:Za}{H H':Hp}{a:Addr}{xs:List V}(S:ab H H') (h:az K H a xs):az K H' a xs:=by
 rcases h with (h | ⟨o,h⟩) | h
 ·exact .inl (.inl (S _ _ h))
 ·exact .inl (.inr ⟨o,S _ _ h⟩)
 ·exact .inr h
mutual
theorem jc.same {K:Za}{H H':Hp}(S:ab H H'):∀{d:DT}{v:V},jc K H d v->jc K H' d v
 | .k a,v,h=>by unfold jc at h ⊢; exact h
 | .t l,v,h=>by
  unfold jc at h ⊢;obtain ⟨b,xs,e,q,r⟩:=h;exact ⟨b,xs,e,bj.same S q,DIns.same S r⟩
 | .s l,v,h=>by
  unfold jc at h ⊢;obtain ⟨b,xs,e,q,r⟩:=h;exact ⟨b,xs,e,az.same S q,DIns.same S r⟩
theorem DIns.same {K:Za}{H H':Hp}(S:ab H H'):∀{ds:List DT}{vs:List V},DIns K H ds vs->DIns K H' ds vs
 | [],vs,h=>by unfold DIns at h ⊢; exact h
 | d::ds,vs,h=>by
  unfold DIns at h ⊢;obtain ⟨v,us,e,q,r⟩:=h;exact ⟨v,us,e,jc.same S q,DIns.same S r⟩
end
def D0 (K:Za) (sp_law_still_on:Sp):TS :=
 ap (aK (aM sp_law_still_on (aS (aD (og K) V0 (tC (.int 3))) V1)) U2)
 (bB (fu (BN K) (ar (dC 1 [2] (cb K (aD (og K) V0 (tC (.int 2)))) U0 (aO (aD (oW K false) V0 V1)) V0) aT)))
def FB:List Str:=["told","some","there"]
def sJ (K:Za) :TS :=
 bB (aD (jn K) (dC 1 [1] (cb K (aD (og K) V0 (tC (.int 3)))) U0 (mB (aO (aD (jn K) (aD (og K) V0 (tC (.int 0))) V1)) (aO (aD Hu (aD (og K) (aD (og K) V0 (tC (.int 1))) (tC (.int 0))) (tC (.str "ask"))))) V0) (cq (aT)))
def t6:List Str:=["told","room"]
def wP (K:Za) (sp_law_on:Sp) (sp_law_is_quiet:Sp):TS :=
 ap (cx (aO (aD (jn K) V2 (be (aA (tC (.str "hush")))))) (bB (fu (BN K) (aA (dC 1 [0] (GH K V1) U0 (tB (aM sp_law_is_quiet (aS V1 V0))) V0)))) (bG))
 (bB (aM sp_law_on (ar V0 (ar (dC 1 [1,2] (cb K (aD (og K) V0 (tC (.int 3)))) U0 (mB (aO (aD (oW K false) (aD (og K) V0 (tC (.int 0))) V1)) (aO (aD (jn K) (aD (og K) V0 (tC (.int 1))) V2))) (aD (og K) V0 (tC (.int 2)))) aT))))
def xT:List Str:=["told","face","sign"]
def yq (K:Za) :TS :=
 bB (aD kQ (aD kQ (dC 1 [] (cb K (aD (og K) V0 (tC (.int 0)))) U0 (j5) (be (aS (tC (.str "ask")) V0))) (dC 1 [] (cb K (aD (og K) V0 (tC (.int 1)))) U0 (j5) (be (aS (tC (.str "say")) V0)))) (cq (aA (be (aA (tC (.str "hush")))))))
def zQ:List Str:=["told"]
open Classical in
def closF (J2:Zb) (ds:List am) (gs:Zb):List Str:=J2.filter fun r=>decide (gK ds gs r)
open Classical in
theorem tV {J2 F gs:Zb}{ds:List am}(hF:∀w,w∈F↔gK ds gs w):J2.filter (fun r=>decide (r∈F))=closF J2 ds gs:=by
 unfold closF;refine List.filter_congr fun r _=>?_;by_cases c:r∈F
 ·rw [zzr1 c,zzr1 ((hF r).mp c)]
 ·rw [zzr0 c,zzr0 fun z=>c ((hF r).mpr z)]
open Classical in
theorem zH {J2 gs gs':Zb}{ds:List am}(h:∀g,g∈gs↔g∈gs'):closF J2 ds gs=closF J2 ds gs':=by
 have:∀r,gK ds gs r↔gK ds gs' r:=fun r=>⟨fun ⟨g,hg,e⟩=>⟨g,(h g).mp hg,e⟩,fun ⟨g,hg,e⟩=>⟨g,(h g).mpr hg,e⟩⟩;unfold closF;refine List.filter_congr fun r _=>?_;by_cases c:gK ds gs r
 ·rw [zzr1 c,zzr1 ((this r).mp c)]
 ·rw [zzr0 c,zzr0 fun z=>c ((this r).mpr z)]
def behF (J2:Zb) (ds:List am) (J6 sg:Zb):List Str:=if sg=bT then J6.filter (fun r=>decide (r∉h7 ds)) else closF J2 ds (db ds sg J6)
theorem Ez {J2:Zb}{ds:List am}{fc:Zb}(hfc:∀r∈fc,r∈J2):(fc.filter fun r=>decide (r∈J2.filter (fq ds)))=fc.filter fun r=>decide (r∉h7 ds):=by
 refine List.filter_congr fun r hr=>?_;rw [<-tm];cases q:fq ds r with
 | true=>exact zzr1 (cj.mpr ⟨hfc r hr,q⟩)
 | false=>exact zzr0 (fun z=>by rw [(cj.mp z).2] at q; cases q)
inductive rK (K:Za) (C:Addr) (vs:List V) (H:Hp) (Q:VK) (E:XK):Prop
 | mk (x t s:Addr) (J6 sg J0 J1 J2:Zb) (ds:List am):(vs=[.ref x,.ref t,.ref s])->(bx C H x J0 J1 J2 ds)->(H t=some (.tup (J6.map V.str)))->(bj K H s (sg.map V.str))->((sg=bT∨H s=some (.tup (sg.map V.str))))->((∀r∈J6,r∈J2))->(J6.length<=1000)->(∀(t':Addr) (H':Hp),H' t'=some (.tup ((behF J2 ds J6 sg).map V.str))->ab H H'->Q (.ref t') H')->rK K C vs H Q E
theorem Gi {K:Za}{C hu:Addr}(hhu:∀H,bj K H hu (bT.map V.str)) {vs:List V}{H:Hp}{Q:VK}{E:XK}(h:rK K C vs H Q E) :
  mP K (sp_with_still C) C (ix C) hu (g_ C) (bJ Q) (start mS vs) H:=by
 obtain ⟨x,t,s,J6,sg,J0,J1,J2,ds,rfl,M,ht,hs,hor,hsub,hz,k⟩:=h;by_cases hh:sg=bT;rotate_left
 ·refine xc (E:=E) hhu ⟨x,t,s,J6,sg,J0,J1,J2,ds,rfl,M,ht,hor.resolve_left hh,hh,hz,fun t' F H' h1 hF S=>k t' H' ?_ S⟩;rw [h1,tV hF];unfold behF;rw [if_neg hh]
 subst hh;refine ⟨_,rfl,jW bT,jW bT,bD hs,bD (hhu _),by rw [b0]; decide,by rw [b0]; decide,_,rfl,?_⟩;rw [zzr1 rfl];refine dh ?_;refine ⟨_,rfl,t,rfl,⟨_,bj.of ht⟩,fun f hf=>?_⟩;refine zG (xs:=J6.map V.str) (fun i vs H'=>vs=((J6.take i).filter fun r=>decide (r∈J2.filter (fq ds))).map V.str/\ab H H'/\H' f=some (.lst vs)) ⟨rfl,ab.new hf,aa⟩ (fun i vs H' _ ⟨_,S,h'⟩=>⟨h',bj.of (S _ _ ht)⟩) ?_ ?_
 ·rintro vs H' ⟨rfl,S,f'⟩;rw [ai,bh] at f';refine ⟨f,_,rfl,.inl ⟨az.of f',fun t' ht'=>k t' _ ?_ (S.trans (ab.new ht'))⟩⟩;rw [aa,Ez hsub];unfold behF;rw [if_pos rfl]
 ·rintro i vs H' x' hx' hi ⟨rfl,S,f'⟩;obtain ⟨r,hr,rfl⟩:=bC hx';have M':=M.same S;obtain ⟨dx,fs,o1,o2,o3,o4,lv,qu,sgA,sl,ts,lps,gps,sps,g1,a1,_⟩:=M'.at_;refine gN ?_;refine ⟨_,rfl,x,dx,fs,rfl,g1,a1,_,rfl,x,r,J0,J1,J2,ds,rfl,M',_,rfl,?_⟩;have hlen:(((J6.take i).filter fun r=>decide (r∈J2.filter (fq ds))).map V.str).length<aj:=by
   rw [ai];refine au (bv (de _ _) ?_);rw [aX]; omega
  refine iN (fun hq=>?_) (fun hq=>?_)
  ·refine ⟨_,rfl,f',hlen,o0 hi ⟨?_,?_,aa⟩⟩
   ·rw [cN hr,if_pos hq,aq]; rfl
   ·intro b o q;rw [af (ae q hf)];exact S _ _ q
  ·refine o0 hi ⟨?_,S,f'⟩;rw [cN hr,if_neg hq,fD]
inductive sW  (vs:List V) (H:Hp) (Q:VK) (E:XK):Prop
 | mk (t l l1 l2 l3 l4:Addr) (ts:Ze) (J0 J1 J2 gs:Zb) (ds:List am):(vs=[.ref t,.ref l])->(im H t l1 l2 l3 l4 ts J0 J1 J2 ds)->(aJ J0 J1 J2 ds)->(H l=some (.lst (gs.map V.str)))->(gs.length<=1000)->(∀(t':Addr) (H':Hp),H' t'=some (.tup ((closF J2 ds gs).map V.str))->ab H H'->Q (.ref t') H')->sW  vs H Q E
theorem Ik {K:Za}{vs:List V}{H:Hp}{Q:VK}{E:XK}(h:sW vs H Q E):D0 K (eG K) (bJ Q) (start FB vs) H:=by
 obtain ⟨t,l,l1,l2,l3,l4,ts,J0,J1,J2,gs,ds,rfl,T,m,hl,hz,k⟩:=h;have z3:=m.rooms26;refine ⟨_,rfl,.inr (.inl ⟨t,_,3,_,rfl,rfl,bj.of T.t,rfl,_,rfl,l4,l,ts,ds,gs,J2,rfl,T.a4,T.ds,hl,fun d hd=>(m.good d hd).b,by omega,hz,fun th F H1 hth hF hFl fr S1=>?_⟩)⟩;have T1:=T.same S1;refine ⟨_,rfl,.inr (.inl ⟨t,_,2,_,rfl,rfl,bj.of T1.t,rfl,l3,rfl,⟨_,az.of T1.a3⟩,fun f hf=>?_⟩)⟩;refine cC (xs:=J2.map V.str) (fun i vs H'=>vs=((J2.take i).filter fun r=>decide (r∈F)).map V.str/\ab H1 H'/\H' f=some (.lst vs)) ⟨rfl,ab.new hf,aa⟩ (fun i vs H' _ ⟨_,S,h'⟩=>⟨h',az.of (S _ _ T1.a3)⟩) ?_ ?_
 ·rintro vs H' ⟨rfl,S,f'⟩;rw [ai,bh,tV hF] at f';exact ⟨f,_,rfl,.inl ⟨az.of f',fun t' ht'=>k t' _ aa ((S1.trans S).trans (ab.new ht'))⟩⟩
 ·rintro i vs H' x' hx' hi ⟨rfl,S,f'⟩;obtain ⟨r,hr,rfl⟩:=bC hx';refine gN ?_;refine ⟨_,rfl,_,rfl,gu r,F.map gu,th,_,kN r,rfl,.inl (az.of (S _ _ hth)),ki _,(by show 0<=8; decide),by rw [eP]; decide,_,rfl,?_⟩;rw [if_neg fN,rP];have hlen:(((J2.take i).filter fun r=>decide (r∈F)).map V.str).length<aj:=by
   rw [ai];refine au (bv (de _ _) ?_);rw [aX]; omega
  refine iN (fun hq=>?_) (fun hq=>?_)
  ·refine ⟨_,rfl,f',hlen,o0 hi ⟨?_,?_,aa⟩⟩
   ·rw [cN hr,if_pos hq,aq]; rfl
   ·intro b o q;rw [af (ae q hf)];exact S _ _ q
  ·refine o0 hi ⟨?_,S,f'⟩;rw [cN hr,if_neg hq,fD]
theorem nN (ds:List am):DT.depths (ds.map tQ)<=2:=by
 induction ds with
 | nil=>exact cV _
 | cons x xs ih=>rw [bc]; show max (DT.depth (tQ x)) (DT.depths _)<=2; rw [xF]; omega
theorem p5 {J0 J1 J2:Zb}{dr:am}(g:zT J0 J1 J2 dr):∃s0 rest,dr.sg=s0::rest/\(!decide (V.str s0=V.str ("ask":Str)))=!gb dr:=by
 obtain ⟨s0,rest,hsg⟩:∃s0 rest,dr.sg=s0::rest:=by
  rcases g.sg with ⟨w,_,e⟩ | ⟨w,_,e⟩ | e <;> exact ⟨_,_,e⟩
 refine ⟨s0,rest,hsg,?_⟩;unfold gb;rw [hsg];congr 1;show _=decide (s0=("ask":Str));by_cases c:s0=("ask":Str)
 ·rw [zzr1 c,zzr1 (by rw [c])]
 ·rw [zzr0 c,zzr0 (fun z=>c (by injection z))]
inductive lU  (vs:List V) (H:Hp) (Q:VK) (E:XK):Prop
 | mk (t l1 l2 l3 l4:Addr) (ts:Ze) (J0 J1 J2:Zb) (ds:List am) (r:Str):(vs=[.ref t,.str r])->(im H t l1 l2 l3 l4 ts J0 J1 J2 ds)->(aJ J0 J1 J2 ds)->(∀H',ab H H'->Q (.bl (decide (r∉h7 ds))) H')->lU  vs H Q E
theorem CZ {K:Za}{vs:List V}{H:Hp}{Q:VK}{E:XK}(h:lU vs H Q E):sJ K (bJ Q) (start t6 vs) H:=by
 obtain ⟨t,l1,l2,l3,l4,ts,J0,J1,J2,ds,r,rfl,T,m,k⟩:=h;have z4:=m.few;refine ⟨_,rfl,.inr (.inl ⟨t,_,3,_,rfl,rfl,bj.of T.t,rfl,l4,rfl,⟨_,az.of T.a4⟩,fun f hf=>?_⟩)⟩;refine cC (xs:=ts.map V.ref) (fun i vs H'=>∃us:List Addr,vs=us.map V.ref/\ab H H'/\H' f=some (.lst vs)/\cB H' us ((ds.take i).filter fun d=>decide (d.a=r) && !gb d)) ⟨[],rfl,ab.new hf,aa,.nil⟩ (fun i vs H' _ ⟨_,_,S,h',_⟩=>⟨h',az.of (S _ _ T.a4)⟩) ?_ ?_;rotate_left
 ·rintro i vs H' x' hx' hi ⟨us,rfl,S,f',hP⟩;obtain ⟨u,hu,rfl⟩:=cP hx';obtain ⟨dr,hdr,hatd⟩:=Paired.getL T.ds hu;have hat':=hatd.kt (ab.kt S);obtain ⟨sb,ht2,hs2⟩:=hatd.kt (ab.kt S);obtain ⟨s0,rest,hsg,ea⟩:=p5 (m.good dr (aP hdr));unfold SignAt at hs2;rw [hsg] at hs2;have keep:(decide (dr.a=r) && !gb dr)=false->∃m',m'<(ts.map V.ref).length-i/\Wc (ts.map V.ref).length (fun i vs H'=>∃us:List Addr,vs=us.map V.ref/\ab H H'/\H' f=some (.lst vs)/\cB H' us ((ds.take i).filter fun d=>decide (d.a=r) && !gb d)) (i+1) m' (us.map V.ref) H':=by
   intro z;refine o0 hi ⟨us,rfl,S,f',?_⟩;rw [gg hdr,if_neg (by rw [z]; decide),fD];exact hP
  refine gN ?_;refine ⟨_,rfl,.inr (.inl ⟨u,_,0,_,rfl,rfl,bj.of ht2,rfl,_,rfl,gu dr.a,gu r,kN _,kN _,(by show 0<=8; decide),(by show 0<=8; decide),_,rfl,?_⟩)⟩;rw [Cn];by_cases c1:dr.a=r;rotate_left
  ·rw [zzr0 c1];exact ck (ck (keep (by rw [zzr0 c1]; rfl)))
  rw [zzr1 c1];refine dh ?_;refine ⟨_,rfl,.inr (.inl ⟨u,_,1,_,rfl,rfl,bj.of ht2,rfl,.inr (.inl ⟨sb,_,0,.str s0,rfl,rfl,bj.of hs2,bt (j:=0) rfl,rfl,_,rfl,?_⟩)⟩)⟩;rw [ea];cases q:gb dr with
  | true=>exact ck (keep (by rw [q,zzr1 c1]; rfl))
  | false =>
   refine dh ?_;refine ⟨_,rfl,f',?_,o0 hi ⟨us++[u],by rw [aq]; rfl,?_,aa,?_⟩⟩
   ·rw [ai,Paired.length hP];refine au (bv (de _ _) ?_);rw [aX]; omega
   ·intro b o q;rw [af (ae q hf)];exact S _ _ q
   ·rw [gg hdr,if_pos (by rw [q,zzr1 c1]; rfl)];have hk:fP H' (upd H' f (.lst (us.map V.ref++[.ref u]))):=cr f';exact cp (hP.kt hk) (hat'.kt hk)
 rintro vs H1 ⟨us,rfl,S1,f1,hP⟩;rw [ai,Paired.length T.ds,bh] at hP;refine ⟨(by show 0<=aj; decide),fun e he=>⟨.s ((ds.filter fun d=>decide (d.a=r) && !gb d).map tQ),.s [],?_,Ct (az.of aa),?_,by decide,?_⟩⟩
 ·unfold jc;exact ⟨f,_,rfl,az.of (kp f1 he),cB.dIns (hP.kt (ab.kt (ab.new he)))⟩
 ·show DT.depths _+1<=8;have:=nN (ds.filter fun d=>decide (d.a=r) && !gb d);omega
 have ed:decide (DT.s ((ds.filter fun d=>decide (d.a=r) && !gb d).map tQ)=DT.s [])=decide (r∉h7 ds):=by
  by_cases c:r∈h7 ds
  ·have e0:decide (r∉h7 ds)=false:=zzr0 (fun z=>z c);rw [e0];refine zzr0 fun z=>?_;injection z with z;unfold h7 at c;obtain ⟨d,hd,e1⟩:=aB.mp c;obtain ⟨h1,h2⟩:=cj.mp hd;have:tQ d∈(ds.filter fun d=>decide (d.a=r) && !gb d).map tQ:=jZ (cj.mpr ⟨h1,by rw [zzr1 e1,h2]; rfl⟩);rw [z] at this;cases this
  ·have e0:decide (r∉h7 ds)=true:=zzr1 c;rw [e0];refine zzr1 ?_;have:(ds.filter fun d=>decide (d.a=r) && !gb d)=[]:=by
    rw [vV];intro d hd z;rw [su] at z;exact c (aB.mpr ⟨d,cj.mpr ⟨hd,z.2⟩,of_decide_eq_true z.1⟩)
   rw [this]
   rfl
 rw [ed];exact k _ (S1.trans (ab.new he))
abbrev io (H:Hp) (us:Ze) (L:List (List Str)):Prop:=Paired (SignAt H) us L
theorem io.kt {H H':Hp}{us:Ze}{L:List (List Str)}(k:fP H H') (h:io H us L):io H' us L:=Paired.mapP h fun _ _ r=>k _ _ r
theorem io.dIns {K:Za}{H:Hp}:∀{us:Ze}{L:List (List Str)},io H us L->DIns K H (L.map jW) (us.map V.ref)
 | _,_,.nil=>by show DIns K H [] []; unfold DIns; rfl
 | _,_,.cons r t=>by
  rw [bc,bc];unfold DIns;exact ⟨_,_,rfl,bD (bj.of r),io.dIns t⟩
theorem A2 (L:List (List Str)):DT.depths (L.map jW)<=1:=by
 induction L with
 | nil=>exact cV _
 | cons x xs ih=>rw [bc]; show max (DT.depth (jW x)) (DT.depths _)<=1; rw [b0]; omega
theorem zE {K:Za}{H:Hp}{a:Addr}(h:bj K H a []):jc K H (.t []) (.ref a):=by
 unfold jc;refine ⟨a,_,rfl,h,?_⟩;unfold DIns
 rfl
def ao (J0 J1:Zb):List (List Str):=J0.map dq++J1.map oO++[bT]
inductive lq  (vs:List V) (H:Hp) (Q:VK) (E:XK):Prop
 | mk (t l1 l2 l3 l4:Addr) (ts:Ze) (J0 J1 J2:Zb) (ds:List am):(vs=[.ref t])->(im H t l1 l2 l3 l4 ts J0 J1 J2 ds)->(aJ J0 J1 J2 ds)->(∀(l:Addr) (us:Ze) (H':Hp),H' l=some (.lst (us.map V.ref))->io H' us (ao J0 J1)->H l=none->ab H H'->Q (.ref l) H')->lq  vs H Q E
theorem kj {K:Za}{σ:L2.St}{H:Hp}{a l:Addr}{ws:Zb}{kd:Str}{Q:Hp->Prop}(ha:H a=some (.lst (ws.map V.str))) (hz:ws.length<=1000) (hl:H l=none)
  (k:∀(us:Ze) (H':Hp),H' l=some (.lst (us.map V.ref))->io H' us (ws.map fun w=>[kd,w])->ab H H'->Q H') :
  gk 1 [] σ (FL K a) U0 j5 (be (aS (tC (.str kd)) V0)) H l Q:=by
 refine cC (xs:=ws.map V.str) (fun i vs H'=>∃us:List Addr,vs=us.map V.ref/\ab H H'/\H' l=some (.lst vs)/\io H' us ((ws.take i).map fun w=>[kd,w])) ⟨[],rfl,ab.new hl,aa,.nil⟩ (fun i vs H' _ ⟨_,_,S,h',_⟩=>⟨h',az.of (S _ _ ha)⟩) ?_ ?_
 ·rintro vs H' ⟨us,rfl,S,h',hP⟩;rw [ai,bh] at hP;exact k us H' h' hP S
 ·rintro i vs H' x' hx' hi ⟨us,rfl,S,f',hP⟩;obtain ⟨w,hw,rfl⟩:=bC hx';refine gN (sE ?_);refine ⟨_,rfl,(by show 2<=aj; decide),fun u hu=>⟨kp f' hu,?_,o0 hi ⟨us++[u],by rw [aq]; rfl,?_,aa,?_⟩⟩⟩
  ·rw [ai,Paired.length hP,ai,aX];exact au (by omega)
  ·intro b o q;rw [af (ae q hl)];exact kp (S _ _ q) hu
  ·rw [take_snoc hw,aq];have hk:fP H' (upd (upd H' u (.tup [.str kd,.str w])) l (.lst (us.map V.ref++[.ref u]))):=(ab.kt (ab.new hu)).trans (cr (kp f' hu));exact cp (io.kt hk hP) ((cr (kp f' hu)) _ _ aa)
theorem Ej {K:Za}{vs:List V}{H:Hp}{Q:VK}{E:XK}(h:lq vs H Q E):yq K (bJ Q) (start zQ vs) H:=by
 obtain ⟨t,l1,l2,l3,l4,ts,J0,J1,J2,ds,rfl,T,m,k⟩:=h;have z1:=m.asks4;have z2:=m.says4;refine ⟨_,rfl,.inr (.inl ⟨t,_,0,_,rfl,rfl,bj.of T.t,rfl,l1,rfl,⟨_,az.of T.a1⟩,fun la hla=>?_⟩)⟩;refine kj (kd:="ask") T.a1 (by omega) hla fun ua H1 h1 hP1 S1=>?_;have T1:=T.same S1;refine ⟨_,rfl,.inr (.inl ⟨t,_,1,_,rfl,rfl,bj.of T1.t,rfl,l2,rfl,⟨_,az.of T1.a2⟩,fun ls hls=>?_⟩)⟩;refine kj (kd:="say") T1.a2 (by omega) hls fun us H2 h2 hP2 S2=>?_;have h12:=S2 _ _ h1;have hP12:=io.kt (ab.kt S2) hP1;refine ⟨la,ls,_,_,rfl,rfl,h12,h2,?_,fun c1 hc1=>?_⟩
 ·rw [ai,ai,Paired.length hP1,Paired.length hP2,ai,ai];exact eo (au (by omega))
 refine ⟨(by show 1<=aj; decide),fun hh hhh=>⟨(by show 1<=aj; decide),fun hl hhl=>?_⟩⟩;refine ⟨c1,hl,_,_,rfl,rfl,kp (kp aa hhh) hhl,aa,?_,fun r hr=>?_⟩
 ·rw [ay,ai,ai,Paired.length hP1,Paired.length hP2,ai,ai];exact eo (au (by show _+1<=1000; omega))
 have S3:=(((ab.new (o:=.lst (ua.map V.ref++us.map V.ref)) hc1).trans (ab.new (o:=.tup [.str "hush"]) hhh)).trans (ab.new (o:=.lst [.ref hh]) hhl)).trans (ab.new (o:=.lst (ua.map V.ref++us.map V.ref++[.ref hh])) hr);refine k r (ua++us++[hh]) _ ?_ ?_ ?_ ((S1.trans S2).trans S3)
 ·rw [aa,aq,aq]; rfl
 ·refine Paired.app (Paired.app (io.kt (ab.kt S3) hP12) (io.kt (ab.kt S3) hP2)) (.cons ?_ .nil);exact kp (kp aa hhl) hr
 ·exact (((S1.trans S2).trans ((ab.new hc1).trans (ab.new hhh))).trans (ab.new hhl)).free hr
theorem Paired.takeP {α β:Type}{R:α->β->Prop}:∀(n:Nat) {xs:List α}{ys:List β},Paired R xs ys->Paired R (xs.take n) (ys.take n)
 | 0,_,_,_=>by rw [rW,rW]; exact .nil
 | _+1,_,_,.nil=>.nil
 | n+1,_,_,.cons r t=>.cons r (Paired.takeP n t)
def sL (K:Za) :TS :=
 bB (fu (dD K) (aA (fT K V0 "own_asks")))
def t9:List Str:=["self"]
def sK (K:Za) :TS :=
 bB (fu (dD K) (aA (fT K V0 "own_says")))
def t8:List Str:=["self"]
def lh (K:Za) :TS :=
 bB (fu (dD K) (aA (sT K (fT K V0 "leaving") V1 (be (aT)))))
def lP:List Str:=["self","room"]
theorem nJ {C x:Addr}{H:Hp}{J0 J1 J2:Zb}{ds:List am}(h:bx C H x J0 J1 J2 ds):∃(dx:Addr) (fs:List (Str×V)) (o1 o2 lv:Addr) (lps:List (Str×Addr)),H x=some (.ins C dx fs)/\lk "asks" fs=none/\lk "says" fs=none/\lk "doors_from" fs=none/\lk "is_quiet" fs=none/\lk "own_asks" fs=some (.ref o1)/\lk "own_says" fs=some (.ref o2)/\lk "leaving" fs=some (.ref lv) /\
  H o1=some (.lst (J0.map V.str))/\H o2=some (.lst (J1.map V.str))/\lps.map (·.1)=J2/\H lv=some (.dK (dW Sum.inr lps))/\(∀x∈lps,∃us,H x.2=some (.lst (us.map V.ref))/\cB H us (bz ds x.1)):=by
 obtain ⟨dx,fs,o1,o2,o3,o4,lv,qu,sg,sl,ts,lps,gps,sps,g1,a1,a2,a3,a4,b1,b2,b3,b4,b5,b6,b7,b8,L,c1,c2,c3,c4,G,d1,d2,d3⟩:=h.at_;obtain ⟨dx',fs',g1',e1,e2,e3,e4⟩:=h.more;rw [g1] at g1';cases g1';exact ⟨dx,fs,o1,o2,lv,lps,g1,e1,e2,e4,a1,b1,b2,b5,L.a1,L.a2,c1,c2,c3⟩
inductive lX (C:Addr) (vs:List V) (H:Hp) (Q:VK) (E:XK):Prop
 | mk (x:Addr) (J0 J1 J2:Zb) (ds:List am):(vs=[.ref x])->(bx C H x J0 J1 J2 ds)->(∀l,H l=none->Q (.ref l) (upd H l (.lst (J0.map V.str))))->lX C vs H Q E
theorem Gk {K:Za}{C:Addr}(M:MC K C) {vs:List V}{H:Hp}{Q:VK}{E:XK}(h:lX C vs H Q E):sL K (bJ Q) (start t9 vs) H:=by
 obtain ⟨x,J0,J1,J2,ds,rfl,h,k⟩:=h;obtain ⟨dx,fs,o1,o2,lv,lps,g1,a1,a2,a3,a4,b1,b2,b3,c1,c2,_⟩:=nJ h;exact ⟨_,rfl,x,C,dx,fs,.ref o1,rfl,g1,M.cls,M.a1,b1,.inl ⟨o1,_,rfl,.inl (az.of c1),k⟩⟩
inductive oH (C:Addr) (vs:List V) (H:Hp) (Q:VK) (E:XK):Prop
 | mk (x:Addr) (J0 J1 J2:Zb) (ds:List am):(vs=[.ref x])->(bx C H x J0 J1 J2 ds)->(∀l,H l=none->Q (.ref l) (upd H l (.lst (J1.map V.str))))->oH C vs H Q E
theorem Gd {K:Za}{C:Addr}(M:MC K C) {vs:List V}{H:Hp}{Q:VK}{E:XK}(h:oH C vs H Q E):sK K (bJ Q) (start t8 vs) H:=by
 obtain ⟨x,J0,J1,J2,ds,rfl,h,k⟩:=h;obtain ⟨dx,fs,o1,o2,lv,lps,g1,a1,a2,a3,a4,b1,b2,b3,c1,c2,_⟩:=nJ h;exact ⟨_,rfl,x,C,dx,fs,.ref o2,rfl,g1,M.cls,M.a2,b2,.inl ⟨o2,_,rfl,.inl (az.of c2),k⟩⟩
inductive gV (C:Addr) (vs:List V) (H:Hp) (Q:VK) (E:XK):Prop
 | mk (x:Addr) (r:Str) (J0 J1 J2:Zb) (ds:List am):(vs=[.ref x,.str r])->(bx C H x J0 J1 J2 ds)->(r∈J2)->(∀(l:Addr) (us:Ze) (H':Hp),H' l=some (.lst (us.map V.ref))->cB H' us (bz ds r)->H l=none->ab H H'->Q (.ref l) H')->gV C vs H Q E
theorem uH {K:Za}{C:Addr}(M:MC K C) {vs:List V}{H:Hp}{Q:VK}{E:XK}(h:gV C vs H Q E):lh K (bJ Q) (start lP vs) H:=by
 obtain ⟨x,r,J0,J1,J2,ds,rfl,h,hr,k⟩:=h;obtain ⟨dx,fs,o1,o2,lv,lps,g1,a1,a2,a3,a4,b1,b2,b3,c1,c2,c3,c4,c5⟩:=nJ h;have nod:=h.ok.okR.1;obtain ⟨⟨r',a⟩,hra,er⟩:=aB.mp (show r∈lps.map (·.1) by rw [c3]; exact hr);obtain rfl:r'=r:=er;obtain ⟨us,e1,e2⟩:=c5 _ hra;refine ⟨_,rfl,x,C,dx,fs,.ref lv,rfl,g1,M.cls,M.a5,b3,lv,rfl,.inl ⟨_,.inl c4⟩,_,rfl,(by show 0<=aj; decide),fun et het=>⟨_,.inl ⟨_,.inr r',.inl (kp c4 het),rfl,rfl⟩,?_⟩⟩;rw [eB ij (by rw [c3]; exact nod) hra];have S1:ab H (upd H et (.tup [])):=ab.new het;refine .inl ⟨a,_,rfl,.inl (az.of (S1 _ _ e1)),fun l hl=>k l us _ aa ?_ (S1.free hl) (S1.trans (ab.new hl))⟩;exact e2.kt (ab.kt (S1.trans (ab.new hl)))

theorem GG {n j:Nat}(h:j<n):FK n (j:Int)=some j:=by
 unfold FK;rw [if_pos (Int.natCast_nonneg j),if_pos (by omega)]
 rfl
theorem Reach.mono {ds ds':List am}(h:∀a b,(⟨a,ax,b⟩:am)∈ds->(⟨a,ax,b⟩:am)∈ds') {a b:Str}(r:Reach ds a b):Reach ds' a b:=by
 induction r with
 | one e=>exact .one (h _ _ e)
 | step _ e ih=>exact .step ih (h _ _ e)
theorem EN {K:Za}{H:Hp}{l q:Addr}{ts:Ze}{ds:List am}{Q:VK}(hl:H l=some (.lst (ts.map V.ref))) (hd:cB H ts ds) (hq:H q=some (.lst [])) (h1:ds≠[]->Q (.bl true) H) (h2:ds=[]->Q (.bl false) H):p9 K (.ref l) (.ref q) H Q:=by
 refine ⟨.s (ds.map tQ),.s [],(by unfold jc; exact ⟨l,_,rfl,az.of hl,hd.dIns⟩),(by unfold jc; exact ⟨q,_,rfl,az.of hq,by unfold DIns; rfl⟩),?_,(by decide),?_⟩
 ·show DT.depths _+1<=8;have:=nN ds;omega
 ·by_cases c:ds=[]
  ·subst c;rw [zzr1 (show DT.s (([]:List am).map tQ)=DT.s [] from rfl)];exact h2 rfl
  ·rw [zzr0 (fun z=>c (by injection z with z; exact mY.mp z))];exact h1 c
def FS (K:Za) (C_Machine:Addr) (sp_Machine_led_from:Sp) (sp_Machine_goals:Sp):TS :=
 bB (fu (rAny K) (ar (dC 1 [0,2] (cb K (aD kQ (cq (aA V1)) (dB C_Machine "led_from" sp_Machine_led_from [] E0 V0 (aA V1)))) U0 (j5) (aD Ey (fu (d9 K) (ar (dB C_Machine "goals" sp_Machine_goals [] E0 V1 (aS V0 (be (ar (tC (.str "ask")) (aA V2))))) aT)) (tC (.int 0)))) aT))
def GY:List Str:=["I","room","ask"]
def uk (K:Za) (sp_law_put:Sp) (sp_law_take:Sp) (sp_law_still_on:Sp):TS :=
 ap (aK V1 (fG K 4 (aN U2 (aN U3 (aN U4 (aN U5 (fy)))))))
 (ap (aK (fu (dD K) (aA V5)) U5)
 (ap (eC (cb K V4) U6 (eC (cb K V2) U7 (ap (aK (aM sp_law_still_on (aS V5 (cq (aA V6)))) U8)
 (cx (aO (aD (jn K) (dC 1 [8,7] (cb K V5) U0 (mB (aO (aD (oW K false) (aD (og K) V0 (tC (.int 0))) V1)) (aO (aD (jn K) (aD (og K) V0 (tC (.int 1))) (be (aS (tC (.str "ask")) V2))))) V0) (cq (aT)))) (ap (aK (aD (cU K) (cq (ar V6 (ar (aD (cU K) V4 (aM sp_law_take (aS V0 (fu (d9 K) (aA V4))))) aT))) (aM sp_law_take (aS V0 (tC (.int 2))))) U9)
 (bH (aM sp_law_put (ar V5 (ar (be (eU V6 (be (aS (tC (.str "ask")) V7)) V9)) aT))))) (bG)))))
 (bB (be (ar V2 (eU V3 V4 V5))))))
def uR:List Str:=["pen","told","asks","says","rooms","doors","room","ask","there","other"]
def gB (ds:List am) (r a:Str):Prop:=∃h,(h=r∨Reach ds r h)/\∃b,(⟨h,dq a,b⟩:am)∈ds
open Classical in
def takesB (ds:List am) (r a:Str):Bool:=decide (gB ds r a)
theorem lg {ds:List am}{r a:Str}:takesB ds r a=true↔gB ds r a:=by unfold takesB; exact @decide_eq_true_iff _ (Classical.propDecidable _)
theorem wK {ds:List am}{r a:Str}:takesB ds r a=false↔¬gB ds r a:=by unfold takesB; exact @decide_eq_false_iff_not _ (Classical.propDecidable _)
theorem qV {ds:List am}{h:Str}{sg:Zb}:0<(bm ds (h,sg)).length↔∃b,(⟨h,sg,b⟩:am)∈ds:=by
 rw [List.length_pos_iff_exists_mem];constructor
 ·rintro ⟨b,hb⟩; exact ⟨b,eL.mp hb⟩
 ·rintro ⟨b,hb⟩; exact ⟨b,eL.mpr hb⟩
theorem CM {ds:List am}{r a:Str}{L:Zb}(hL:∀w,w∈L↔Reach ds r w):((r::L).map fun h=>decide ((0:Int)<(bm ds (h,dq a)).length)).any id=takesB ds r a:=by
 rw [uX,lg,List.any_eq_true];constructor
 ·rintro ⟨b,hb,e⟩;obtain ⟨h,hh,rfl⟩:=aB.mp hb;have:=of_decide_eq_true e;refine ⟨h,?_,qV.mp (by omega)⟩;rcases c9.mp hh with e | e
  ·exact .inl e
  ·exact .inr ((hL h).mp e)
 ·rintro ⟨h,hh,hb⟩;refine ⟨true,aB.mpr ⟨h,?_,zzr1 (by have:=qV.mpr hb; omega)⟩,rfl⟩;rcases hh with e | e
  ·rw [e]; exact dA
  ·exact fx _ ((hL h).mpr e)
inductive jG (C:Addr) (vs:List V) (H:Hp) (Q:VK) (E:XK):Prop
 | mk (x:Addr) (r a:Str) (J0 J1 J2:Zb) (ds:List am):(vs=[.ref x,.str r,.str a])->(bx C H x J0 J1 J2 ds)->(r∈J2)->(∀H',ab H H'->Q (.bl (takesB ds r a)) H')->jG C vs H Q E
theorem Ei {K:Za}{C:Addr}{vs:List V}{H:Hp}{Q:VK}{E:XK}(h:jG C vs H Q E):FS K C (gZ C) (ix C) (bJ Q) (start GY vs) H:=by
 obtain ⟨x,r,a,J0,J1,J2,ds,rfl,M,hr,k⟩:=h;refine ⟨_,rfl,(by show 1<=aj; decide),fun l1 hl1=>?_⟩;have S1:ab H (upd H l1 (.lst [.str r])):=ab.new hl1;have e1:upd H l1 (.lst [.str r]) l1=some (.lst [.str r]):=aa;generalize upd H l1 (.lst [.str r])=H1 at S1 e1 ⊢;have M1:=M.same S1;obtain ⟨dx,fs,o1,o2,o3,o4,lv,qu,sgA,sl,ts,lps,gps,sps,g1,a1,a2,a3,a4,_⟩:=id M1.at_;refine ⟨_,rfl,x,dx,fs,rfl,g1,a3,_,rfl,x,r,J0,J1,J2,ds,rfl,M1,hr,fun l2 L H2 e2 nd hL _ S2=>?_⟩;have hin:∀w∈L,w∈J2:=fun w hw=>((hL w).mp hw).in_ fun d hd=>(M.ok.good d hd).b;have zL:=lG nd hin;have z3:=M.ok.rooms26;refine ⟨l1,l2,_,_,rfl,rfl,S2 _ _ e1,e2,by rw [ai]; show 1+L.length<=aj; exact eo (au (by omega)),fun l3 hl3=>?_⟩;have eq:([.str r]++L.map V.str:List V)=(r::L).map V.str:=rfl;rw [eq];have S3:ab H (upd H2 l3 (.lst ((r::L).map V.str))):=(S1.trans S2).trans (ab.new hl3);have e3:upd H2 l3 (.lst ((r::L).map V.str)) l3=some (.lst ((r::L).map V.str)):=aa;generalize upd H2 l3 (.lst ((r::L).map V.str))=H3 at S3 e3 ⊢;refine ⟨l3,rfl,⟨_,az.of e3⟩,fun q hq=>?_⟩;refine cC (xs:=(r::L).map V.str) (fun i vs H'=>vs=(((r::L).take i).map fun h=>decide ((0:Int)<(bm ds (h,dq a)).length)).map V.bl/\ab H3 H'/\H' q=some (.lst vs)) ⟨rfl,ab.new hq,aa⟩ (fun i vs H' _ ⟨_,S,h⟩=>⟨h,az.of (S _ _ e3)⟩) ?_ ?_
 ·rintro vs H' ⟨rfl,S,h⟩;rw [ai,bh] at h;refine ⟨q,_,rfl,az.of h,?_⟩;rw [CM hL];exact k H' (S3.trans S)
 ·rintro i vs H' y hy hi ⟨rfl,S,h⟩;obtain ⟨w,hw,rfl⟩:=bC hy;refine gN (sE ?_);have M':=M.same (S3.trans S);obtain ⟨dx,fs,o1,o2,o3,o4,lv,qu,sgA,sl,ts,lps,gps,sps,g1,a1,a2,a3,a4,_⟩:=id M'.at_;refine ⟨_,rfl,x,dx,fs,rfl,g1,a2,_,rfl,_,rfl,(by show 2<=aj; decide),fun s hs=>?_⟩;have S4:ab H' (upd H' s (.tup ((dq a).map V.str))):=ab.new hs;refine ⟨x,s,w,dq a,J0,J1,J2,ds,rfl,M'.same S4,aa,fun g H5 hg _ S5=>?_⟩;have S45:=S4.trans S5;refine .inl ⟨g,_,rfl,.inl (az.of hg),_,_,rfl,rfl,S45 _ _ h,?_,?_⟩
  ·rw [ai,ai,aX]; exact au (by rw [em]; omega)
  refine o0 hi ⟨?_,fun b o e=>?_,aa⟩
  ·rw [take_snoc hw,aq,aq];show _++[V.bl (decide ((0:Int)<(((bm ds (w,dq a)).map V.str).length:Nat)))]=_;rw [ai]; rfl
  ·rw [af (ae e hq)]; exact S45 _ _ (S _ _ e)
theorem B_ {K:Za}{H:Hp}{l m:Addr}{a b:Zb}{Q:VK}(hl:H l=some (.lst (a.map V.str))) (hm:H m=some (.lst (b.map V.str))) (k:Q (.bl (!decide (a=b))) H):p9 K (.ref l) (.ref m) H Q:=by
 refine ⟨.s (a.map gu),.s (b.map gu),tP (az.of hl),tP (az.of hm),?_,?_,?_⟩
 ·show DT.depths _+1<=8; rw [eP]; decide
 ·show DT.depths _+1<=8; rw [eP]; decide
 ·rw [decide_eq_decide.mpr (show DT.s (a.map gu)=DT.s (b.map gu)↔a=b from ⟨fun h=>hE (by injection h),fun h=>by rw [h]⟩)]; exact k
def zN (F:Zb) (a:Str) (d:am):Bool:=decide (d.a∈F) && decide (d.sg=dq a)
theorem zM {ds:List am}{F:Zb}{r a:Str}(hF:∀w,w∈F↔gK ds [r] w):ds.filter (zN F a)=[]↔takesB ds r a=false:=by
 rw [wK,vV];constructor
 ·rintro h ⟨w,hw,b,hb⟩;refine h _ hb ?_;unfold zN;rw [zzr1,zzr1]
  ·rfl
  ·rfl
  ·exact (hF w).mpr ⟨r,dA,hw⟩
 ·intro n d hd q;unfold zN at q;rw [su] at q;have q1:=of_decide_eq_true q.1;have q2:=of_decide_eq_true q.2;obtain ⟨g,hg,e⟩:=(hF _).mp q1;have:g=r:=by simpa using hg
  subst this;obtain ⟨x,sg,b⟩:=d;exact n ⟨x,e,b,by rw [<-q2]; exact hd⟩
theorem Fy {K:Za}{σ:L2.St}{jt ja:Nat}{l4 f l:Addr}{ts:Ze}{ds:List am}{F:Zb}{a:Str}{H1:Hp}{Q:Hp->Prop}(st:σ[jt]?=some (some (.ref f))) (sa:σ[ja]?=some (some (.str a)))
  (h4:H1 l4=some (.lst (ts.map V.ref))) (hd:cB H1 ts ds) (hf:H1 f=some (.lst (F.map V.str))) (z:ds.length<=1000) (hl:H1 l=none)
  (k:∀(us:Ze) (H':Hp),H' l=some (.lst (us.map V.ref))->cB H' us (ds.filter (zN F a))->ab H1 H'->Q H') :
  gk 1 [jt,ja] σ (FL K l4) U0 (mB (aO (aD (oW K false) (aD (og K) V0 (tC (.int 0))) V1)) (aO (aD (jn K) (aD (og K) V0 (tC (.int 1))) (be (aS (tC (.str "ask")) V2))))) V0 H1 l Q:=by
 have cs:dJ 1 [jt,ja] σ=[none,some (.ref f),some (.str a)]:=by simp [dJ,st,sa]
 refine cC (xs:=ts.map V.ref) (fun i vs H'=>∃us:List Addr,vs=us.map V.ref/\cB H' us ((ds.take i).filter (zN F a))/\ab H1 H'/\H' l=some (.lst vs))
  ⟨[],rfl,.nil,ab.new hl,aa⟩ (fun i vs H' _ ⟨_,_,_,S,h'⟩=>⟨h',az.of (S _ _ h4)⟩) ?_ ?_
 ·rintro vs H' ⟨us,rfl,D,S,h'⟩;rw [ai,Paired.length hd,bh] at D;exact k us H' h' D S
 ·rintro i vs H' y hy hi ⟨us,rfl,D,S,h'⟩;obtain ⟨u,hu,rfl⟩:=cP hy;obtain ⟨dr,hdr,hat⟩:=Paired.getL hd hu;obtain ⟨sb,ht2,hs2⟩:=hat.kt (ab.kt S);have hi':i<ds.length:=(bP.mp hdr).1;have zu:us.length<=i:=by
   have:=Paired.length D;rw [this];refine bv (de _ _) ?_;rw [aX]; omega
  rw [cs];refine gN ?_;refine ⟨_,rfl,.inr (.inl ⟨u,_,0,_,rfl,rfl,bj.of ht2,rfl,_,rfl,gu dr.a,F.map gu,f,_,kN _,rfl,.inl (az.of (S _ _ hf)),ki _,(by show 0<=8; decide),by rw [eP]; decide,_,rfl,?_⟩)⟩;rw [if_neg fN,rP];by_cases c1:dr.a∈F;rotate_left
  ·rw [zzr0 c1];refine ck (ck (o0 hi ⟨us,rfl,?_,S,h'⟩));rw [gg hdr,if_neg (by unfold zN; rw [zzr0 c1,BA]; decide),fD]; exact D
  rw [zzr1 c1];refine dh ?_;refine ⟨_,rfl,.inr (.inl ⟨u,_,1,_,rfl,rfl,bj.of ht2,rfl,_,rfl,(by show 2<=aj; decide),fun s hs=>?_⟩)⟩;have S2:ab H' (upd H' s (.tup ((dq a).map V.str))):=ab.new hs;have e2:upd H' s (.tup ((dq a).map V.str)) s=some (.tup ((dq a).map V.str)):=aa;have e2':(.tup [.str "ask",.str a]:HO)=.tup ((dq a).map V.str):=rfl;rw [e2'];generalize upd H' s (.tup ((dq a).map V.str))=H2 at S2 e2 ⊢;have D2:=D.kt (ab.kt S2);refine ⟨jW dr.sg,jW (dq a),bD (bj.of (S2 _ _ hs2)),bD (bj.of e2),by rw [b0]; decide,by rw [b0]; decide,_,rfl,?_⟩;rw [mj];by_cases c2:dr.sg=dq a;rotate_left
  ·rw [zzr0 c2];refine ck (o0 hi ⟨us,rfl,?_,S.trans S2,S2 _ _ h'⟩);rw [gg hdr,if_neg (by unfold zN; rw [zzr0 c2,wA]; decide),fD]; exact D2
  rw [zzr1 c2];refine dh ?_;have S3:ab H1 (upd H2 l (.lst (us.map V.ref++[.ref u]))):=fun b o q=>by
   rw [af (ae q hl)];exact S2 _ _ (S _ _ q)
  have kt:fP H2 (upd H2 l (.lst (us.map V.ref++[.ref u]))):=fun b xs q=>by
   rw [af (fun z=>by rw [z,S2 _ _ h'] at q; cases q)]; exact q
  refine ⟨_,rfl,S2 _ _ h',by rw [ai]; exact au (by omega),o0 hi ⟨us++[u],by rw [aq]; rfl,?_,S3,aa⟩⟩;rw [gg hdr,if_pos (by unfold zN; rw [zzr1 c1,zzr1 c2]; rfl)];exact cp (D2.kt kt) ⟨sb,kt _ _ (S2 _ _ ht2),kt _ _ (S2 _ _ hs2)⟩
theorem Fl {K:Za}{H:Hp}{l q:Addr}{ts:Ze}{ds:List am}{Q:VK}(hl:H l=some (.lst (ts.map V.ref))) (hd:cB H ts ds) (hq:H q=some (.lst [])) (h:Q (.bl (decide (ds=[]))) H):jn K (.ref l) (.ref q) H Q:=by
 refine ⟨.s (ds.map tQ),.s [],(by unfold jc; exact ⟨l,_,rfl,az.of hl,hd.dIns⟩),(by unfold jc; exact ⟨q,_,rfl,az.of hq,by unfold DIns; rfl⟩),?_,(by decide),?_⟩
 ·show DT.depths _+1<=8;have:=nN ds;omega
 ·rw [decide_eq_decide.mpr (show DT.s (ds.map tQ)=DT.s []↔ds=[] from ⟨fun z=>mY.mp (by injection z),fun z=>by rw [z]; rfl⟩)];exact h
theorem Reach.unask {ds:List am}{d:am}(n:d.sg≠ax) {a b:Str}(r:Reach (ds++[d]) a b):Reach ds a b:=by
 have key:∀{x y:Str},(⟨x,ax,y⟩:am)∈ds++[d]->(⟨x,ax,y⟩:am)∈ds:=fun q=>by
  rcases bd.mp q with q | q
  ·exact q
  ·have e:=bF.mp q;exact absurd (by rw [<-e]) n
 induction r with
 | one q=>exact .one (key q)
 | step _ q ih=>exact .step ih (key q)
theorem gB.mono {ds es:List am}(h:∀d∈ds,d∈es) {r a:Str}:gB ds r a->gB es r a:=fun ⟨w,hw,b,hb⟩=>⟨w,hw.imp id (Reach.mono fun x y=>h _),b,h _ hb⟩
theorem mem_putD {ds:List am}{d x:am}:x∈lD ds d↔x∈ds∨x=d:=by
 unfold lD;split
 ·rename_i h; exact ⟨.inl,fun z=>z.elim id fun e=>by rw [e]; exact h⟩
 ·simp
theorem aJ.putOne {J0 J1 J2:Zb}{ds:List am}{d:am}(m:aJ J0 J1 J2 ds) (g:zT J0 J1 J2 d) (n:d.sg≠ax) (z:ds.length+1<=1000):aJ J0 J1 J2 (lD ds d):=by
 refine ⟨m.okA,m.okS,m.apart,m.okR,m.asks0,m.says0,m.rooms0,m.asks4,m.says4,m.rooms26,?_,fun x hx=>?_,?_,fun r q=>?_⟩
 ·unfold lD;split
  ·exact m.nodup
  ·rename_i h;rw [cH];exact ⟨m.nodup,by simp,fun a ha b hb e=>h (by rw [<-bF.1 hb,<-e]; exact ha)⟩
 ·rcases mem_putD.mp hx with h | h
  ·exact m.good x h
  ·rw [h]; exact g
 ·have:=tq ds d; omega
 ·refine m.noround r ?_;unfold lD at q;split at q
  ·exact q
  ·exact q.unask n
theorem vM (a:Str):dq a≠ax:=by unfold dq ax; intro h; injection h with _ h; cases h
structure TX (H0:Hp) (p c l:Addr) (R:List am->Prop) (H:Hp):Prop where
 pen:gC H p c
 ds:∃ts ds,H l=some (.lst (ts.map V.ref))/\cB H ts ds/\R ds
 ex:cX p H0 H
 fr:H0 l=none
 pl:p≠l
 cl:c≠l
section
variable {H0 H H':Hp}{p c l:Addr}{R R':List am->Prop}
theorem TX.took (h:TX H0 p c l R H) (hp:gC H' p c) (e:cX p H H'):TX H0 p c l R H':=by
 obtain ⟨ts,ds,h1,h2,h3⟩:=h.ds;obtain ⟨xs,hx⟩:=h.pen.lst;exact ⟨hp,⟨ts,ds,e _ _ h1 h.pl.symm,h2.kt (e.kt hx),h3⟩,h.ex.trans e,h.fr,h.pl,h.cl⟩
theorem TX.same (h:TX H0 p c l R H) (S:ab H H'):TX H0 p c l R H':=h.took (h.pen.ex S) (ab.exB S)
theorem TX.imp (h:TX H0 p c l R H) (q:∀ds,R ds->R' ds):TX H0 p c l R' H:=by
 obtain ⟨ts,ds,h1,h2,h3⟩:=h.ds;exact ⟨h.pen,⟨ts,ds,h1,h2,q _ h3⟩,h.ex,h.fr,h.pl,h.cl⟩
theorem TX.put {ts:Ze}{ds:List am}(h:TX H0 p c l R H) (hl:∃xs,H l=some (.lst xs)) (hd:cB H ts ds) (r:R' ds):TX H0 p c l R' (upd H l (.lst (ts.map V.ref))):=by
 obtain ⟨xs,hx⟩:=hl;refine ⟨h.pen.upd h.pl h.cl,⟨ts,ds,aa,hd.kt fun b ys q=>?_,r⟩,fun b o q n=>?_,h.fr,h.pl,h.cl⟩
 ·rw [af (fun z=>by rw [z,hx] at q; cases q)]; exact q
 ·rw [af (ae q h.fr)]; exact h.ex _ _ q n
end
def WR (J0 J1 J2:Zb) (D:List (Str×Str)) (n:Nat) (ds:List am):Prop:=aJ J0 J1 J2 ds/\ds.length<=n/\∀x∈D,gB ds x.1 x.2
theorem WR.up {J0 J1 J2:Zb}{D:List (Str×Str)}{n n':Nat}{ds:List am}(h:WR J0 J1 J2 D n ds) (z:n<=n'):WR J0 J1 J2 D n' ds:=⟨h.1,bv h.2.1 z,h.2.2⟩
inductive j7  (vs:List V) (H:Hp) (Q:VK) (E:XK):Prop
 | mk (p c t l1 l2 l3 l4:Addr) (ts:Ze) (J0 J1 J2:Zb) (ds:List am):(vs=[.ref p,.ref t])->(gC H p c)->(im H t l1 l2 l3 l4 ts J0 J1 J2 ds)->(aJ J0 J1 J2 ds)->(J2.length<=26)->(ds.length<=800)->(∀(t' l4':Addr) (ts':Ze) (ds':List am) (H':Hp),im H' t' l1 l2 l3 l4' ts' J0 J1 J2 ds'->aJ J0 J1 J2 ds'->(∀r∈J2,∀a∈J0,gB ds' r a)->ds'.length<=ds.length+4 * J2.length->gC H' p c->cX p H H'->Q (.ref t') H')->j7  vs H Q E
theorem At {K:Za}{vs:List V}{H:Hp}{Q:VK}{E:XK}(h:j7 vs H Q E):uk K j9 fB (eG K) (bJ Q) (start uR vs) H:=by
 obtain ⟨p,c,t,l1,l2,l3,l4,ts,J0,J1,J2,ds,rfl,hp,T,m,z26,z8,k⟩:=h;have a4:=m.asks4;refine ⟨_,rfl,t,_,rfl,bj.of T.t,rfl,_,_,rfl,_,_,rfl,_,_,rfl,_,_,rfl,rfl,?_⟩;refine ⟨_,rfl,.inl ⟨l4,_,rfl,.inl (az.of T.a4),fun f hf=>?_⟩⟩;have B0:TX H p c f (WR J0 J1 J2 [] ds.length) (upd H f (.lst (ts.map V.ref))):=⟨hp.ex (ab.new hf),⟨ts,ds,aa,T.ds.kt (ab.kt (ab.new hf)),m,aE _,by simp⟩,cX.new hf,hf,hp.nep hf,hp.nec hf⟩;generalize upd H f (.lst (ts.map V.ref))=H1 at B0 ⊢;have keep:∀{H':Hp}{R:List am->Prop},TX H p c f R H'->H' l1=some (.lst (J0.map V.str))/\H' l2=some (.lst (J1.map V.str))/\H' l3=some (.lst (J2.map V.str)):=fun B =>
  ⟨B.ex _ _ T.a1 (hp.ne_strs T.a1),B.ex _ _ T.a2 (hp.ne_strs T.a2),B.ex _ _ T.a3 (hp.ne_strs T.a3)⟩
 refine ⟨_,rfl,l3,rfl,⟨_,az.of (keep B0).2.2⟩,?_⟩;refine cn (xs:=J2.map V.str) (fun i σ H'=>∃a6 a7 a8 a9:Option V,σ=[some (.ref p),some (.ref t),some (.ref l1),some (.ref l2),some (.ref l3),some (.ref f),a6,a7,a8,a9]/\TX H p c f (WR J0 J1 J2 ((J2.take i).flatMap fun r=>J0.map fun a=>(r,a)) (ds.length+4 * i)) H')
  ⟨_,_,_,_,rfl,B0⟩ (fun i σ H' _ ⟨_,_,_,_,_,B⟩=>az.of (keep B).2.2) ?_ ?_
 ·rintro i v σ H2 hi ⟨a6,a7,a8,a9,rfl,B2⟩;obtain ⟨r,hr,rfl⟩:=bC hi;have hir:i<J2.length:=(bP.mp hr).1;have hrm:=aP hr;refine ⟨_,rfl,l1,rfl,⟨_,az.of (keep B2).1⟩,?_⟩;refine cn (xs:=J0.map V.str) (fun j σ H'=>∃a7 a8 a9:Option V,σ=[some (.ref p),some (.ref t),some (.ref l1),some (.ref l2),some (.ref l3),some (.ref f),some (.str r),a7,a8,a9]/\TX H p c f (WR J0 J1 J2 ((J2.take i).flatMap (fun r=>J0.map fun a=>(r,a))++(J0.take j).map fun a=>(r,a)) (ds.length+4 * i+j)) H')
   ⟨_,_,_,rfl,B2.imp fun ds h=>by simpa using h⟩ (fun i σ H' _ ⟨_,_,_,_,B⟩=>az.of (keep B).1) ?_ ?_
  ·rintro j v σ H3 hj ⟨a7,a8,a9,rfl,B3⟩;obtain ⟨a,ha,rfl⟩:=bC hj;have hja:j<J0.length:=(bP.mp ha).1;have ham:=aP ha;have fin:∀es n,WR J0 J1 J2 ((J2.take i).flatMap (fun r=>J0.map fun a=>(r,a))++(J0.take j).map fun a=>(r,a)) n es->gB es r a->WR J0 J1 J2 ((J2.take i).flatMap (fun r=>J0.map fun a=>(r,a))++(J0.take (j+1)).map fun a=>(r,a)) n es:=fun es n w tk=>by
    refine ⟨w.1,w.2.1,fun x hx=>?_⟩;rw [take_snoc ha,aq,<-df] at hx;rcases bd.mp hx with h | h
    ·exact w.2.2 x h
    ·have:x=(r,a):=by simpa using h
     rw [this]; exact tk
   refine ⟨_,rfl,_,rfl,(by show 1<=aj; decide),fun q hq=>?_⟩;have B4:=B3.same (ab.new (o:=.lst [.str r]) hq);have q4:upd H3 q (.lst [.str r]) q=some (.lst [.str r]):=aa;generalize upd H3 q (.lst [.str r])=H4 at B4 q4 ⊢;obtain ⟨us,es,g1,g2,g3⟩:=B4.ds;refine ⟨f,q,us,es,[r],J2,rfl,g1,g2,q4,fun d hd=>(g3.1.good d hd).b,by omega,(by show 1<=1000; decide),fun th F H5 hth hF _ _ S5=>?_⟩;have B5:=B4.same S5;have f5:=S5 _ _ g1;have d5:=g2.kt (ab.kt S5);refine ⟨_,rfl,f,rfl,⟨_,az.of f5⟩,fun l hl=>?_⟩;refine Fy (K:=K) (jt:=8) (ja:=7) rfl rfl f5 d5 hth g3.1.few hl fun vs H6 h6 D6 S6=>⟨(by show 0<=aj; decide),fun e he=>?_⟩;refine Fl (kp h6 he) (D6.kt (ab.kt (ab.new he))) aa ⟨_,rfl,?_⟩;have S7:ab H5 (upd H6 e (.lst [])):=S6.trans (ab.new he);generalize upd H6 e (.lst [])=H7 at S7 ⊢;have f7:=S7 _ _ f5;have d7:=d5.kt (ab.kt S7);have B7:TX H p c f (fun ds'=>ds'=es) H7:=by
    have B:=B5.same S7;exact ⟨B.pen,⟨us,es,f7,d7,rfl⟩,B.ex,B.fr,B.pl,B.cl⟩
   cases q:takesB es r a with
   | true =>
    rw [zzr0 (fun z=>by rw [zM hF,q] at z; cases z)];exact ck ⟨_,_,_,rfl,B7.imp fun ds' e=>by rw [e]; exact fin _ _ (g3.up (by omega)) (lg.mp q)⟩
   | false =>
    rw [zzr1 ((zM hF).mpr q)];refine dh ?_;have l37:=(keep B7).2.2;refine ⟨_,rfl,_,rfl,_,rfl,_,rfl,.inl ⟨l3,_,rfl,.inl (az.of l37),?_⟩⟩;rw [ai];refine dI B7.pen (by omega) (by omega) fun x H8 x0 x1 hp8 ex8=>?_;obtain ⟨n,rfl⟩:=iE x0;have B8:=B7.took hp8 ex8;obtain ⟨w,hw⟩:∃w,J2[n]?=some w:=⟨_,bE (by omega)⟩;refine ⟨l3,_,(n:Int),.str w,rfl,rfl,az.of (keep B8).2.2,bt (j:=n) (by rw [bZ,hw]; rfl),(by show 2<=aj; decide),fun u hu=>?_⟩;have B9:=B8.same (ab.new (o:=.lst [.str r,.str w]) hu);have u9:upd H8 u (.lst [.str r,.str w]) u=some (.lst ([r,w].map V.str)):=aa;generalize upd H8 u (.lst [.str r,.str w])=H9 at B9 u9 ⊢;refine ⟨_,rfl,dI B9.pen (by decide) (by decide) fun y H10 y0 y1 hp10 ex10=>?_⟩;have B10:=B9.took hp10 ex10;obtain ⟨g,hg,hgm⟩:∃g,pD ([r,w].map V.str) y=some (.str g)/\g∈J2:=by
     have:y=0∨y=1:=by omega
     rcases this with rfl | rfl
     ·exact ⟨r,rfl,hrm⟩
     ·exact ⟨w,rfl,aP hw⟩
    refine ⟨u,_,y,.str g,rfl,rfl,az.of (ex10 _ _ u9 (B9.pen.ne_strs u9)),hg,?_⟩;refine ⟨_,rfl,_,rfl,_,rfl,(by show 2<=aj; decide),fun s hs=>⟨_,rfl,(by show 3<=aj; decide),fun d hd=>?_⟩⟩;have S12:ab H10 (upd (upd H10 s (.tup [.str "ask",.str a])) d (.tup [.str r,.ref s,.str g])):=(ab.new hs).trans (ab.new hd);have at12:gL (upd (upd H10 s (.tup [.str "ask",.str a])) d (.tup [.str r,.ref s,.str g])) d ⟨r,dq a,g⟩:=⟨s,aa,kp aa hd⟩;generalize upd (upd H10 s (.tup [.str "ask",.str a])) d (.tup [.str r,.ref s,.str g])=H12 at S12 at12 ⊢;have B12:=B10.same S12;obtain ⟨us',es',k1,k2,rfl⟩:=id B12.ds;have zz:=g3.2.1;have good:zT J0 J1 J2 ⟨r,dq a,g⟩:=⟨hrm,hgm,.inl ⟨a,ham,rfl⟩⟩;refine ⟨f,d,us',_,⟨r,dq a,g⟩,rfl,k1,k2,at12,g3.1.few,fun us2 D2=>?_⟩;refine ⟨_,_,_,rfl,B12.put ⟨_,k1⟩ D2 (fin _ _ ⟨g3.1.putOne good (vM a) (by omega),?_,fun x hx=>(g3.2.2 x hx).mono fun y hy=>mem_putD.mpr (.inl hy)⟩ ⟨r,.inl rfl,g,mem_putD.mpr (.inr rfl)⟩)⟩;have:=tq es' ⟨r,dq a,g⟩;omega
  ·rintro σ H3 ⟨a7,a8,a9,rfl,B3⟩;refine ⟨_,_,_,_,rfl,B3.imp fun es h=>?_⟩;rw [ai] at h;refine ⟨h.1,by have:=h.2.1; omega,fun x hx=>h.2.2 x ?_⟩;rw [take_snoc hr,vU] at hx;rw [bh];simpa using hx
 ·rintro σ H2 ⟨a6,a7,a8,a9,rfl,B2⟩;rw [ai,bh] at B2;obtain ⟨us,es,g1,g2,g3⟩:=B2.ds;obtain ⟨q1,q2,q3⟩:=keep B2;refine ⟨_,rfl,_,rfl,_,rfl,_,rfl,(by show 4<=aj; decide),fun t' ht'=>?_⟩;have S3:=ab.new (o:=.tup [.ref l1,.ref l2,.ref l3,.ref f]) ht';exact k t' f us es _ ⟨aa,S3 _ _ q1,S3 _ _ q2,S3 _ _ q3,S3 _ _ g1,g2.kt (ab.kt S3)⟩ g3.1 (fun r hr a ha=>g3.2.2 (r,a) (pI.mpr ⟨r,hr,aB.mpr ⟨a,ha,rfl⟩⟩)) g3.2.1 (B2.pen.ex S3) (B2.ex.trans (ab.exB S3))
def pU (K:Za) (C_Machine:Addr) (sp_Machine_asks:Sp) (sp_Machine_says:Sp) (a_HUSH:Addr):TS :=
 bB (aD kQ (aD kQ (dC 1 [] (cb K (dB C_Machine "asks" sp_Machine_asks [] E0 V0 aT)) U0 (j5) (be (aS (tC (.str "ask")) V0))) (dC 1 [] (cb K (dB C_Machine "says" sp_Machine_says [] E0 V0 aT)) U0 (j5) (be (aS (tC (.str "say")) V0)))) (cq (aA (tC (.ref a_HUSH)))))
def qr:List Str:=["M"]
def Aa (K:Za) (sp_signs_in_order:Sp) (sp_face_behind:Sp):TS :=
 ap (aK (lp) U2)
 (ap (eC (cb K (aM sp_signs_in_order (aA V0))) U3 (ap (aK (aM sp_face_behind (eU V0 V1 V3)) U4)
 (cx (aO (aD Ey (fu (d9 K) (aA V4)) (tC (.int 0)))) (p6 K V2 V3 V4) (bG))))
 (bB V2))
def Bj:List Str:=["M","face","steps","sign","behind"]
def mr (K:Za) :TS :=
 ap (cx (tB (eV K V1 (fT K V0 "numbers"))) (ap (cx (aO (aD AA (fu (d9 K) (aA (fT K V0 "faces"))) (tC (.int 400)))) (sM) (bG))
 (ap (kL (fT K V0 "numbers") V1 (fu (d9 K) (aA (fT K V0 "faces"))))
 (ap (bH (oG K "list" bX (fT K V0 "faces") (aA V1)))
 (bH (oG K "list" bX (fT K V0 "first_stories") (aA V2)))))) (bG))
 (bB (fU K (fT K V0 "numbers") V1))
def mG:List Str:=["self","face","story"]
def jm (K:Za) (sp_steps_at:Sp) (C_FaceMap:Addr) (sp_FaceMap_number_at:Sp):TS :=
 ap (aK (lp) U2)
 (ap (eC (xA K (aM sp_steps_at (aS (fT K V0 "machine") (aD (cU K) (fT K V0 "faces") V1)))) (fG K 2 (aN U3 (aN U4 (fy)))) (p6 K V2 V3 (dB C_FaceMap "number_at" sp_FaceMap_number_at [] E0 V0 (aS V4 (aD kQ (aD (cU K) (fT K V0 "first_stories") V1) (cq (aA V3)))))))
 (bB V2))
def jp:List Str:=["self","number","steps","sign","face"]
def nF (K:Za) (C_FaceMap:Addr) (sp_FaceMap_numbered_steps:Sp) (sp_FaceMap_number_at:Sp) (dY:Sp):TS :=
 ap (oQ K V0 V1 "machine")
 (ap (oQ K V0 (cq (aT)) "faces")
 (ap (oQ K V0 (cq (aT)) "first_stories")
 (ap (oQ K V0 (lp) "numbers")
 (ap (oQ K V0 (cq (aT)) "steps")
 (ap (bH (dB C_FaceMap "number_at" sp_FaceMap_number_at [] E0 V0 (aS (aM dY (aA V1)) (cq (aT)))))
 (nG (aO (aD C4 (fu (d9 K) (aA (fT K V0 "steps"))) (fu (d9 K) (aA (fT K V0 "faces"))))) (bH (oG K "list" bX (fT K V0 "steps") (ar (dB C_FaceMap "numbered_steps" sp_FaceMap_numbered_steps [] E0 V0 (aA (fu (d9 K) (aA (fT K V0 "steps"))))) aT)))))))))
def nX:List Str:=["self","M"]
abbrev Sg:=List Str
def stepsF (J0 J1 J2:Zb) (ds:List am) (J6:Zb):List (Sg×List Str):=((ao J0 J1).map fun sg=>(sg,behF J2 ds J6 sg)).filter fun p=>decide (p.2≠[])
structure gD where
 fs:List (List Str)
 ss:List (List Sg)
def gD.add (m:gD) (f:Zb) (s:List Sg):gD:=if f∈m.fs then m else ⟨m.fs++[f],m.ss++[s]⟩
def BZ (s:List Sg) (q:gD×List (Sg×Nat)) (p:Sg×List Str):gD×List (Sg×Nat):=(q.1.add p.2 (s++[p.1]),q.2++[(p.1,(q.1.add p.2 (s++[p.1])).fs.idxOf p.2)])
def eK (s:List Sg) (m:gD) (L:List (Sg×List Str)):gD×List (Sg×Nat):=L.foldl (BZ s) (m,[])
abbrev qz:=gD×List (List (Sg×Nat))
def initF (J2:Zb) (ds:List am):qz:=((⟨[],[]⟩:gD).add (closF J2 ds (J2.take 1)) [],[])
def nextF (J0 J1 J2:Zb) (ds:List am) (S:qz):qz :=
 ((eK (S.1.ss.getD S.2.length []) S.1 (stepsF J0 J1 J2 ds (S.1.fs.getD S.2.length []))).1,S.2++[(eK (S.1.ss.getD S.2.length []) S.1 (stepsF J0 J1 J2 ds (S.1.fs.getD S.2.length []))).2])
def itF (J0 J1 J2:Zb) (ds:List am):Nat->qz
 | 0=>initF J2 ds
 | k+1=>nextF J0 J1 J2 ds (itF J0 J1 J2 ds k)
def jF:List Str->List (List Str)
 | []=>[[]]
 | r::rs=>(jF rs).map (r::·)++jF rs
theorem jE:∀rs:List Str,(jF rs).length=2 ^ rs.length
 | []=>rfl
 | r::rs=>by
  show ((jF rs).map (r::·)++jF rs).length=2 ^ (rs.length+1);rw [ay,ai,jE rs,Nat.pow_succ]; omega
theorem jD (p:Str->Bool):∀rs:List Str,rs.filter p∈jF rs
 | []=>by show []∈[[]]; simp
 | r::rs=>by
  show (r::rs).filter p∈(jF rs).map (r::·)++jF rs;have ih:=jD p rs;rw [List.filter_cons];split
  ·exact cW _ (jZ ih)
  ·exact dk _ ih
theorem iz {α:Type} [DecidableEq α]:∀{L R:List α},L.Nodup->(∀y∈L,y∈R)->L.length<=R.length
 | [],_,_,_=>cV _
 | x::L,R,h,hs=>by
  rw [mK] at h;have hx:x∈R:=hs x dA;have h1:∀y∈L,y∈R.erase x:=fun y hy=>(List.mem_erase_of_ne (fun e=>h.1 (by rw [<-e]; exact hy))).2 (hs y (fx _ hy));have h2:=iz h.2 h1;rw [List.length_erase_of_mem hx] at h2;have h3:0<R.length:=List.length_pos_of_mem hx;rw [em]; omega
def kr (J2 f:Zb):Prop:=∃p:Str->Bool,f=J2.filter p
theorem xx {J2 f sg:Zb}{ds:List am}(h:kr J2 f):kr J2 (behF J2 ds f sg):=by
 classical
 unfold behF;split
 ·obtain ⟨p,rfl⟩:=h;rw [List.filter_filter];exact ⟨_,rfl⟩
 ·unfold closF;exact ⟨_,rfl⟩
theorem qk {J2:Zb}{ds:List am}{gs:Zb}:kr J2 (closF J2 ds gs):=by
 classical
 unfold closF;exact ⟨_,rfl⟩
theorem kr.sub {J2 f:Zb}(h:kr J2 f):∀r∈f,r∈J2:=by
 obtain ⟨p,rfl⟩:=h;exact fun r hr=>(cj.1 hr).1
theorem kr.len {J2 f:Zb}(h:kr J2 f):f.length<=J2.length:=by
 obtain ⟨p,rfl⟩:=h;exact de _ _
structure Good (J2:Zb) (m:gD):Prop where
 nd:m.fs.Nodup
 len:m.ss.length=m.fs.length
 isF:∀f∈m.fs,kr J2 f
 sl:∀(i:Nat) (s:List Sg),m.ss[i]?=some s->s.length<=i
theorem Good.few {J2:Zb}{m:gD}(g:Good J2 m) (hr:J2.length<=8):m.fs.length<=256:=by
 have h:=iz g.nd (R:=jF J2) (fun f hf=>by obtain ⟨p,rfl⟩:=g.isF f hf; exact jD p J2);rw [jE] at h;have:2 ^ J2.length<=2 ^ 8:=vS (by decide) hr;omega
theorem gD.add_in {m:gD}{f:Zb}{s:List Sg}(h:f∈m.fs):m.add f s=m:=if_pos h
theorem gD.add_new {m:gD}{f:Zb}{s:List Sg}(h:¬f∈m.fs):m.add f s=⟨m.fs++[f],m.ss++[s]⟩:=if_neg h
theorem Good.add {J2 f:Zb}{m:gD}{s:List Sg}(g:Good J2 m) (h:kr J2 f) (hs:s.length<=m.fs.length):Good J2 (m.add f s):=by
 by_cases c:f∈m.fs
 ·rw [gD.add_in c]; exact g
 ·rw [gD.add_new c];refine ⟨?_,?_,?_,?_⟩;rotate_left 3
  ·intro i s' e
   change (m.ss++[s])[i]?=some s' at e
   rcases eE i m.ss.length with z | z
   ·rw [dg z] at e;exact g.sl i s' e
   ·rw [lc z] at e;have h0:i-m.ss.length=0:=by
     rcases vR (i-m.ss.length) with q | q
     ·exact q
     ·rw [fE (by show 1<=_; omega)] at e; cases e
    rw [h0] at e;injection e with e;rw [<-e];have:=g.len;omega
  ·rw [cH];exact ⟨g.nd,by simp,fun x hx y hy e=>c (by rw [bF.1 hy] at e; rw [<-e]; exact hx)⟩
  ·show (m.ss++[s]).length=(m.fs++[f]).length;rw [ay,ay,g.len]; rfl
  ·intro x hx;rcases bd.1 hx with hx | hx
   ·exact g.isF x hx
   ·rw [bF.1 hx]; exact h
theorem GU {m:gD}{f:Zb}{s:List Sg}:f∈(m.add f s).fs:=by
 by_cases c:f∈m.fs
 ·rw [gD.add_in c]; exact c
 ·rw [gD.add_new c]; simp
def pB (m m':gD):Prop:=(∃r,m'.fs=m.fs++r)/\∃r,m'.ss=m.ss++r
theorem pB.refl (m:gD):pB m m:=⟨⟨[],(fD _).symm⟩,⟨[],(fD _).symm⟩⟩
theorem pB.trans {a b c:gD}(h:pB a b) (k:pB b c):pB a c:=by
 obtain ⟨⟨r,e⟩,⟨s,f⟩⟩:=h;obtain ⟨⟨r',e'⟩,⟨s',f'⟩⟩:=k;exact ⟨⟨r++r',by rw [e',e,df]⟩,⟨s++s',by rw [f',f,df]⟩⟩
theorem zo {m:gD}{f:Zb}{s:List Sg}:pB m (m.add f s):=by
 by_cases c:f∈m.fs
 ·rw [gD.add_in c]; exact .refl _
 ·rw [gD.add_new c]; exact ⟨⟨[f],rfl⟩,⟨[s],rfl⟩⟩
theorem jN (s:List Sg) (m:gD) (L:List (Sg×List Str)) (p:Sg×List Str):eK s m (L++[p])=BZ s (eK s m L) p:=by
 unfold eK; rw [jX]; rfl
theorem pB.at {m m':gD}(h:pB m m') {i:Nat}{f:Zb}(e:m.fs[i]?=some f):m'.fs[i]?=some f:=by
 obtain ⟨⟨r,q⟩,_⟩:=h;rw [q,dg (by rcases eE i m.fs.length with z | z; exact z; rw [fE z] at e; cases e),e]
theorem vm {J2:Zb}{s:List Sg}{m:gD}(g:Good J2 m) (hs:s.length<m.fs.length) (L:List (Sg×List Str)) (hL:∀p∈L,kr J2 p.2) :
  Good J2 (eK s m L).1/\pB m (eK s m L).1/\Paired (fun (a:Sg×Nat) (p:Sg×List Str)=>a.1=p.1/\(eK s m L).1.fs[a.2]?=some p.2) (eK s m L).2 L:=by
 have key:∀n,n<=L.length->Good J2 (eK s m (L.take n)).1/\pB m (eK s m (L.take n)).1/\Paired (fun (a:Sg×Nat) (p:Sg×List Str)=>a.1=p.1/\(eK s m (L.take n)).1.fs[a.2]?=some p.2) (eK s m (L.take n)).2 (L.take n):=by
  intro n
  induction n with
  | zero=>intro _; exact ⟨g,.refl _,.nil⟩
  | succ n ih =>
   intro hn;obtain ⟨h1,h2,h3⟩:=ih (by omega);have hp:L[n]?=some L[n]:=bE (by omega);rw [take_snoc hp,jN];have hf:=hL L[n] (jY _);have hl:m.fs.length<=(eK s m (L.take n)).1.fs.length:=by
    obtain ⟨⟨r,q⟩,_⟩:=h2;rw [q,ay]; omega
   refine ⟨h1.add hf (by rw [ay]; show _+1<=_; omega),h2.trans zo,?_⟩;refine cp (Paired.mapP h3 fun a p r=>⟨r.1,zo.at r.2⟩) ⟨rfl,?_⟩;show (gD.add _ _ _).fs[(gD.add _ _ _).fs.idxOf L[n].2]?=some L[n].2;have hm:=GU (m:=(eK s m (L.take n)).1) (f:=L[n].2) (s:=s++[L[n].1]);have hi:=List.idxOf_lt_length_of_mem hm;rw [bE hi,List.getElem_idxOf]
 have:=key L.length (aE _);rw [bh] at this;exact this
structure qy (J0 J1 J2:Zb) (ds:List am) (S:qz):Prop where
 good:Good J2 S.1
 le:S.2.length<=S.1.fs.length
 zero:S.1.fs[0]?=some (closF J2 ds (J2.take 1))
 st:∀(i:Nat) (l:List (Sg×Nat)),S.2[i]?=some l->∃f,S.1.fs[i]?=some f/\Paired (fun (a:Sg×Nat) (p:Sg×List Str)=>a.1=p.1/\S.1.fs[a.2]?=some p.2) l (stepsF J0 J1 J2 ds f)
theorem sV {J0 J1 J2 f:Zb}{ds:List am}(h:kr J2 f):∀p∈stepsF J0 J1 J2 ds f,kr J2 p.2:=by
 intro p hp;obtain ⟨sg,_,rfl⟩:=aB.1 (cj.1 hp).1;exact xx h
theorem Dp {J0 J1 J2:Zb}{ds:List am}:qy J0 J1 J2 ds (initF J2 ds):=by
 have e:(⟨[],[]⟩:gD).add (closF J2 ds (J2.take 1)) []=⟨[closF J2 ds (J2.take 1)],[[]]⟩:=gD.add_new (by simp);refine ⟨?_,cV _,?_,fun i l h=>?_⟩
 ·exact Good.add (m:=⟨[],[]⟩) ⟨pR,rfl,(fun f hf=>nomatch hf),(fun i s (e:([]:List (List Sg))[i]?=some s)=>by rw [List.getElem?_nil] at e; cases e)⟩ qk (cV _)
 ·show ((⟨[],[]⟩:gD).add _ _).fs[0]?=_;rw [e]; rfl
 ·simp [initF] at h
theorem Do {J0 J1 J2:Zb}{ds:List am}{S:qz}(h:qy J0 J1 J2 ds S) (lt:S.2.length<S.1.fs.length):qy J0 J1 J2 ds (nextF J0 J1 J2 ds S):=by
 have e0:S.1.fs[S.2.length]?=some S.1.fs[S.2.length]:=by simp [lt]
 have hd:S.1.fs.getD S.2.length []=S.1.fs[S.2.length]:=by simp [lt]
 have hF:=h.good.isF S.1.fs[S.2.length] (jY _);obtain ⟨g,gr,pr⟩:=vm (s:=S.1.ss.getD S.2.length []) h.good (by
  have l2:S.2.length<S.1.ss.length:=by rw [h.good.len]; exact lt
  have e:S.1.ss[S.2.length]?=some (S.1.ss[S.2.length]'l2):=bE l2;have:=h.good.sl _ _ e;rw [rV,e];show (S.1.ss[S.2.length]'l2).length<_;omega) (stepsF J0 J1 J2 ds S.1.fs[S.2.length]) (sV hF)
 unfold nextF;rw [hd];generalize eK (S.1.ss.getD S.2.length []) S.1 (stepsF J0 J1 J2 ds S.1.fs[S.2.length])=q at g gr pr;refine ⟨g,?_,gr.at h.zero,fun i l hl=>?_⟩
 ·obtain ⟨⟨r,e⟩,_⟩:=gr;show (S.2++[q.2]).length<=q.1.fs.length;rw [e,ay,ay];show S.2.length+1<=_;omega
 ·change (S.2++[q.2])[i]?=some l at hl
  rcases vW i S.2.length with c | c | c
  ·rw [dg c] at hl;obtain ⟨f,e,p⟩:=h.st i l hl;exact ⟨f,gr.at e,Paired.mapP p fun a p r=>⟨r.1,gr.at r.2⟩⟩
  ·subst c;rw [lc (aE _),Nat.sub_self] at hl;injection hl with hl;subst hl;exact ⟨S.1.fs[S.2.length],gr.at e0,pr⟩
  ·rw [lc (eo c)] at hl;obtain ⟨k,hk⟩:=Nat.exists_eq_succ_of_ne_zero (show i-S.2.length≠0 by omega);rw [hk] at hl;cases hl
def GV (hu:Addr) (H:Hp) (u:Addr) (sg:Zb):Prop:=H u=some (.tup (sg.map V.str))∨(u=hu/\sg=bT)
theorem GV.same {hu:Addr}{H H':Hp}{u:Addr}{sg:Zb}(h:GV hu H u sg) (S:ab H H'):GV hu H' u sg:=h.imp (S _ _) id
theorem BH {K:Za}{a:Addr}{xs:List V}(h:∀H,bj K H a xs) (H:Hp):bV K H a xs:=by
 rcases h (fun _=>none) with (h | ⟨o,h⟩) | h
 ·cases h
 ·cases h
 ·exact .inr h
section
variable {K:Za}{hu:Addr}(hh:∀H,bj K H hu (bT.map V.str))
include hh
theorem GV.tup {H:Hp}{u:Addr}{sg:Zb}(h:GV hu H u sg):bV K H u (sg.map V.str):=by
 rcases h with h | ⟨rfl,rfl⟩
 ·exact .inl h
 ·exact BH hh H
theorem GV.sq {H:Hp}{u:Addr}{sg:Zb}(h:GV hu H u sg):bj K H u (sg.map V.str):=by
 rcases h with h | ⟨rfl,rfl⟩
 ·exact bj.of h
 ·exact hh H
end
inductive wZ (C hu:Addr) (vs:List V) (H:Hp) (Q:VK) (E:XK):Prop
 | mk (x:Addr) (J0 J1 J2:Zb) (ds:List am):(vs=[.ref x])->(bx C H x J0 J1 J2 ds)->(∀(l:Addr) (us:Ze) (H':Hp),H' l=some (.lst (us.map V.ref))->Paired (GV hu H') us (ao J0 J1)->ab H H'->Q (.ref l) H')->wZ C hu vs H Q E
theorem Hq {K:Za}{C hu:Addr}{vs:List V}{H:Hp}{Q:VK}{E:XK}(h:wZ C hu vs H Q E):pU K C (lX C) (oH C) hu (bJ Q) (start qr vs) H:=by
 obtain ⟨x,J0,J1,J2,ds,rfl,M,k⟩:=h;have z1:=M.ok.asks4;have z2:=M.ok.says4;obtain ⟨dx,fs,o1,o2,lv,lps,g1,a1,a2,_⟩:=nJ M;refine ⟨_,rfl,x,dx,fs,rfl,g1,a1,x,J0,J1,J2,ds,rfl,M,fun w1 hw1=>⟨w1,rfl,⟨_,az.of aa⟩,fun la hla=>?_⟩⟩;have S0:ab H (upd H w1 (.lst (J0.map V.str))):=ab.new hw1;refine kj (kd:="ask") (ws:=J0) aa (by omega) hla fun ua H1 h1 hP1 S1=>?_;have M1:=M.same (S0.trans S1);obtain ⟨dx,fs,o1,o2,lv,lps,g1,a1,a2,_⟩:=nJ M1;refine ⟨_,rfl,x,dx,fs,rfl,g1,a2,x,J0,J1,J2,ds,rfl,M1,fun w2 hw2=>⟨w2,rfl,⟨_,az.of aa⟩,fun ls hls=>?_⟩⟩;have S2:ab H1 (upd H1 w2 (.lst (J1.map V.str))):=ab.new hw2;refine kj (kd:="say") (ws:=J1) aa (by omega) hls fun us H2 h2 hP2 S3=>?_;have S23:=S2.trans S3;have h12:=S23 _ _ h1;have hP12:=io.kt (ab.kt S23) hP1;refine ⟨la,ls,_,_,rfl,rfl,h12,h2,?_,fun c1 hc1=>?_⟩
 ·rw [ai,ai,Paired.length hP1,Paired.length hP2,ai,ai];exact eo (au (by omega))
 refine ⟨(by show 1<=aj; decide),fun hl hhl=>?_⟩;refine ⟨c1,hl,_,_,rfl,rfl,kp aa hhl,aa,?_,fun r hr=>?_⟩
 ·rw [ay,ai,ai,Paired.length hP1,Paired.length hP2,ai,ai];exact eo (au (by show _+1<=1000; omega))
 have S4:=((ab.new (o:=.lst (ua.map V.ref++us.map V.ref)) hc1).trans (ab.new (o:=.lst [.ref hu]) hhl)).trans (ab.new (o:=.lst (ua.map V.ref++us.map V.ref++[.ref hu])) hr);refine k r (ua++us++[hu]) _ ?_ ?_ (((S0.trans S1).trans S23).trans S4)
 ·rw [aa,aq,aq]; rfl
 ·exact Paired.app (Paired.app (Paired.mapP (io.kt (ab.kt S4) hP12) fun _ _ r=>.inl r) (Paired.mapP (io.kt (ab.kt S4) hP2) fun _ _ r=>.inl r)) (.cons (.inr ⟨rfl,rfl⟩) .nil)
theorem eO {J0 J1 J2:Zb}{ds:List am}(m:aJ J0 J1 J2 ds):(ao J0 J1).Nodup:=by
 unfold ao;have i1:∀a b:Str,dq a=dq b->a=b:=fun a b h=>by unfold dq at h; injection h with _ h; injection h
 have i2:∀a b:Str,oO a=oO b->a=b:=fun a b h=>by unfold oO at h; injection h with _ h; injection h
 have nd:∀{f:Str->List Str}{l:Zb},(∀a b,f a=f b->a=b)->l.Nodup->(l.map f).Nodup:=by
  intro f l hf hl;rw [pK,List.pairwise_map];exact (pK.1 hl).imp fun h e=>h (hf _ _ e)
 rw [cH,cH];refine ⟨⟨nd i1 m.okA.1,nd i2 m.okS.1,?_⟩,by simp,?_⟩
 ·intro x hx y hy e;obtain ⟨a,_,rfl⟩:=aB.1 hx;obtain ⟨b,_,rfl⟩:=aB.1 hy;unfold dq oO at e;injection e with e _;exact absurd e (by decide)
 ·intro x hx y hy e;rw [bF.1 hy] at e;rcases bd.1 hx with hx | hx
  ·obtain ⟨a,_,rfl⟩:=aB.1 hx;unfold dq bT at e;injection e with _ e;cases e
  ·obtain ⟨a,_,rfl⟩:=aB.1 hx;unfold oO bT at e;injection e with _ e;cases e
abbrev Bf (H:Hp) (kvs:List (TK×V)) (L:List (Sg×List Str)):Prop:=Paired (fun (kv:TK×V) (p:Sg×List Str)=>kv.1=iW p.1/\∃u,kv.2=.ref u/\H u=some (.tup (p.2.map V.str))) kvs L
theorem wH {κ:Type} [DecidableEq κ] {kvs:List (κ×V)}{k:κ}(h:∀kv∈kvs,kv.1≠k):bQ kvs k=none:=by
 unfold bQ;rw [List.find?_eq_none.2 fun kv hkv=>by simpa using h kv hkv]
 rfl
theorem dZ (sg:Zb):(iW sg).depth<=8:=by
 have:∀l:List Str,TK.depths (l.map oP)=0:=by
  intro l
  induction l with
  | nil=>rfl
  | cons a l ih=>show max (TK.depth (oP a)) (TK.depths _)=0; rw [ih]; rfl
 show TK.depths (sg.map oP)+1<=8;rw [this]; decide
def stG (J2:Zb) (ds:List am) (J6:Zb) (L:List (List Str)):List (Sg×List Str):=(L.map fun sg=>(sg,behF J2 ds J6 sg)).filter fun p=>decide (p.2≠[])
theorem yH (J2:Zb) (ds:List am) (J6:Zb) (L:List (List Str)) (sg:Zb):stG J2 ds J6 (L++[sg])=stG J2 ds J6 L++if behF J2 ds J6 sg=[] then [] else [(sg,behF J2 ds J6 sg)]:=by
 unfold stG;rw [aq,pJ];congr 1;by_cases c:behF J2 ds J6 sg=[]
 ·rw [if_pos c]; simp [c]
 ·rw [if_neg c]; simp [c]
theorem FZ {J2:Zb}{ds:List am}{J6:Zb}{L:List (List Str)}{p:Sg×List Str}(h:p∈stG J2 ds J6 L):p.1∈L:=by
 obtain ⟨sg,hs,rfl⟩:=aB.1 (cj.1 h).1;exact hs
theorem BK {J2:Zb}{ds:List am}{J6:Zb}{L:List (List Str)}:(stG J2 ds J6 L).length<=L.length:=by
 unfold stG;exact bv (de _ _) (by rw [ai]; exact aE _)
theorem Bf.kt {H H':Hp}{kvs:List (TK×V)}{L:List (Sg×List Str)}(k:fP H H') (h:Bf H kvs L):Bf H' kvs L:=Paired.mapP h fun _ _ ⟨e,u,e2,r⟩=>⟨e,u,e2,k _ _ r⟩
theorem Bf.no {H:Hp}{kvs:List (TK×V)}{L:List (Sg×List Str)}(h:Bf H kvs L) {sg:Sg}(n:∀p∈L,p.1≠sg):bQ kvs (iW sg)=none:=by
 refine wH ?_
 induction h with
 | nil=>intro kv hk; exact nomatch hk
 | @cons a b as bs r t ih =>
  intro kv hk;rcases c9.1 hk with rfl | hk
  ·rw [r.1]; exact fun e=>n b dA (i7 e)
  ·exact ih (fun p hp=>n p (fx _ hp)) kv hk
theorem o7 {α:Type}{L:List α}(nd:L.Nodup) {i:Nat}{x:α}(e:L[i]?=some x):¬x∈L.take i:=by
 intro h;obtain ⟨j,hj,ej⟩:=vQ h;rw [aX] at hj;have hi:i<L.length:=by rcases eE i L.length with z | z; exact z; rw [fE z] at e; cases e
 rw [List.getElem_take] at ej;rw [bE hi] at e;injection e with e;exact List.pairwise_iff_getElem.1 (pK.1 nd) j i (by omega) hi (by omega) (ej.trans e.symm)
theorem Df {H:Hp}{d:Addr}{kvs:List (TK×V)}{o:HO}(h:H d=some (.dT kvs)):fP H (upd H d o):=fun b xs e=>by rw [af (fun z=>by rw [z,h] at e; cases e)]; exact e
theorem Dl {b:Bool}{P X Y:Prop}(h:b=true↔P) (h1:P->X) (h2:¬P->Y):if b=true then X else Y:=by
 cases b with
 | true=>exact h1 (h.1 rfl)
 | false=>exact h2 fun z=>by cases h.2 z
inductive j8 (C:Addr) (vs:List V) (H:Hp) (Q:VK) (E:XK):Prop
 | mk (x t:Addr) (J6 J0 J1 J2:Zb) (ds:List am):(vs=[.ref x,.ref t])->(bx C H x J0 J1 J2 ds)->(H t=some (.tup (J6.map V.str)))->((∀r∈J6,r∈J2))->(J6.length<=1000)->(∀(d:Addr) (kvs:List (TK×V)) (H':Hp),H' d=some (.dT kvs)->Bf H' kvs (stepsF J0 J1 J2 ds J6)->H d=none->ab H H'->Q (.ref d) H')->j8 C vs H Q E
theorem Av {K:Za}{C hu:Addr}(hh:∀H,bj K H hu (bT.map V.str)) {vs:List V}{H:Hp}{Q:VK}{E:XK}(h:j8 C vs H Q E):Aa K (wZ C hu) (rK K C) (bJ Q) (start Bj vs) H:=by
 obtain ⟨x,t,J6,J0,J1,J2,ds,rfl,M,ht,hsub,hz,k⟩:=h;have z1:=M.ok.asks4;have z2:=M.ok.says4;have zl:(ao J0 J1).length<=9:=by unfold ao; rw [ay,ay,ai,ai]; show _+1<=9; omega
 have nd:=eO M.ok;refine fun d hd=>?_;have S0:ab H (upd H d (.dT [])):=ab.new hd;refine ⟨_,rfl,x,J0,J1,J2,ds,rfl,M.same S0,fun l us H1 hl hP S1=>⟨l,rfl,⟨_,az.of hl⟩,?_⟩⟩;refine cn (xs:=us.map V.ref) (fun i σ H'=>∃(kvs:List (TK×V)) (x3 x4:Option V),σ=[some (.ref x),some (.ref t),some (.ref d),x3,x4]/\H' d=some (.dT kvs)/\ab H H'/\(∀b o,H1 b=some o->b≠d->H' b=some o)/\Bf H' kvs (stG J2 ds J6 ((ao J0 J1).take i)))
  ⟨[],_,_,rfl,S1 _ _ aa,S0.trans S1,fun _ _ e _=>e,.nil⟩ (fun i σ H' _ ⟨_,_,_,_,_,_,S,_⟩=>az.of (S _ _ hl fun e=>by subst e; have:=S1 _ _ (aa (H:=H) (a:=l) (o:=.dT [])); rw [hl] at this; cases this)) ?_ ?_
 ·rintro i y σ H2 hi ⟨kvs,x3,x4,rfl,h2,S2,S12,st⟩;obtain ⟨u,hu',rfl⟩:=cP hi;obtain ⟨sg,hsg,hat⟩:=Paired.getL hP hu';have hat2:GV hu H2 u sg:=hat.imp (fun e=>S12 _ _ e fun z=>by subst z; have:=S1 _ _ (aa (H:=H) (a:=u) (o:=.dT [])); rw [e] at this; cases this) id;refine ⟨_,rfl,_,rfl,_,rfl,x,t,u,J6,sg,J0,J1,J2,ds,rfl,M.same S2,S2 _ _ ht,hat2.sq hh,hat2.symm.imp (fun e=>e.2) id,hsub,hz,fun f H3 hf S3=>?_⟩;have h3:=S3 _ _ h2;refine ⟨_,rfl,.inl ⟨f,_,rfl,.inr (bj.of hf),_,_,rfl,rfl,?_⟩⟩;refine ⟨_,rfl,?_⟩;have hat3:=hat2.same S3;have S13:∀b o,H1 b=some o->b≠d->H3 b=some o:=fun b o e n=>S3 _ _ (S12 b o e n);have st3:=st.kt (ab.kt S3);refine Dl (P:=behF J2 ds J6 sg≠[]) ?_ (fun c=>?_) (fun c=>?_)
  ·rw [ai];constructor
   ·intro h z; rw [z] at h; exact absurd h (by decide)
   ·intro h; exact zzr1 (by have:=List.length_pos_iff.mpr h; omega)
  rotate_left
  ·have c:=Classical.not_not.1 c;refine ⟨kvs,_,_,rfl,h3,S2.trans S3,S13,?_⟩;rw [take_snoc hsg,yH,if_pos c,fD];exact st3
  ·have no:bQ kvs (iW sg)=none:=st3.no fun p hp e=>by
    have h1:=FZ hp;rw [e] at h1;exact o7 nd hsg h1
   have ll:kvs.length<aj:=by
    rw [Paired.length st];refine au ?_;have h1:=BK (J2:=J2) (ds:=ds) (J6:=J6) (L:=(ao J0 J1).take i);rw [aX] at h1;omega
   refine ⟨_,rfl,_,rfl,_,rfl,d,u,kvs,iW sg,rfl,rfl,h3,yn (hat3.tup hh),dZ sg,ll,_,_,_,rfl,aa,?_,?_,?_⟩
   ·intro b o e;rw [af (ae e hd)];exact S3 _ _ (S2 _ _ e)
   ·intro b o e n;rw [af n];exact S13 b o e n
   ·rw [fX _ no,take_snoc hsg,yH,if_neg c];have kt:fP H3 (upd H3 d (.dT (kvs++[(iW sg,.ref f)]))):=Df h3;exact cp (st3.kt kt) ⟨rfl,f,rfl,kt _ _ hf⟩
 ·rintro σ H2 ⟨kvs,x3,x4,rfl,h2,S2,_,st⟩;rw [ai,Paired.length hP,bh] at st;exact ⟨_,rfl,k d kvs H2 h2 st hd S2⟩
def o5:Nat->List (List Str)->List (TK×V)
 | _,[]=>[]
 | n,f::r=>(iW f,.int (n:Nat))::o5 (n+1) r
theorem vo (f:Zb):∀(fs:List (List Str)) (n:Nat),o5 n (fs++[f])=o5 n fs++[(iW f,.int ((n+fs.length:Nat)))]
 | [],n=>rfl
 | x::r,n=>by
  show _::o5 (n+1) (r++[f])=_::(o5 (n+1) r++_);rw [vo f r (n+1),em,show n+1+r.length=n+(r.length+1) by omega]
theorem yX:∀(fs:List (List Str)) (n:Nat),(o5 n fs).length=fs.length
 | [],n=>rfl
 | x::r,n=>by show _+1=_+1; rw [yX r (n+1)]
theorem lF (f:Zb):∀(fs:List (List Str)) (n:Nat),bQ (o5 n fs) (iW f)=if f∈fs then some (.int ((n+fs.idxOf f:Nat))) else none
 | [],n=>rfl
 | x::r,n=>by
  by_cases c:x=f
  ·subst c;rw [if_pos dA];show bQ ((iW x,_)::_) _=_;rw [cD rfl];rw [List.idxOf_cons_self]; rfl
  ·show bQ ((iW x,_)::_) _=_;rw [cz (fun e=>c (i7 e)),lF f r (n+1)];by_cases d:f∈r
   ·rw [if_pos d,if_pos (fx _ d)];have e:(x::r).idxOf f=r.idxOf f+1:=by rw [List.idxOf_cons,show (x == f)=false from beq_false_of_ne c]; rfl
    rw [e,show n+1+r.idxOf f=n+(r.idxOf f+1) by omega]
   ·rw [if_neg d,if_neg (by simp [dz c,d])]
abbrev i_ (K:Za) (H:Hp) (w:Addr) (s:List Sg):Prop:=∃gs:List Addr,H w=some (.lst (gs.map V.ref))/\Paired (fun g (sg:Sg)=>bV K H g (sg.map V.str)) gs s
structure FC (K:Za) (C:Addr):Prop where
 cls:DG K C
 a1:dO K C "machine"
 a2:dO K C "faces"
 a3:dO K C "first_stories"
 a4:dO K C "numbers"
 a5:dO K C "steps"
def IK (C:Addr) (H:Hp) (x M fa sa na ta:Addr):Prop:=∃(dx:Addr) (fs:List (Str×V)),H x=some (.ins C dx fs)/\lk "machine" fs=some (.ref M)/\lk "faces" fs=some (.ref fa)/\lk "first_stories" fs=some (.ref sa)/\lk "numbers" fs=some (.ref na)/\lk "steps" fs=some (.ref ta)/\lk "number_at" fs=none/\lk "numbered_steps" fs=none
structure hJ (K:Za) (C:Addr) (H:Hp) (x M fa sa na ta:Addr) (us ws:Ze) (m:gD):Prop where
 ob:IK C H x M fa sa na ta
 hfa:H fa=some (.lst (us.map V.ref))
 faces:Paired (fun u (f:Zb)=>H u=some (.tup (f.map V.str))) us m.fs
 hsa:H sa=some (.lst (ws.map V.ref))
 stories:Paired (fun w s=>(w≠fa/\w≠sa/\w≠ta)/\i_ K H w s) ws m.ss
 hna:H na=some (.dT (o5 0 m.fs))
 ne:fa≠sa/\fa≠ta/\sa≠ta
theorem bV.kt {K:Za}{H H':Hp}{a:Addr}{xs:List V}(k:fP H H') (h:bV K H a xs):bV K H' a xs:=h.keeps k
theorem i_.kt {K:Za}{H H':Hp}{w:Addr}{s:List Sg}(k:fP H H') (e:∀o,H w=some o->H' w=some o) (h:i_ K H w s):i_ K H' w s:=by
 obtain ⟨gs,h1,h2⟩:=h;exact ⟨gs,e _ h1,Paired.mapP h2 fun _ _ r=>bV.kt k r⟩
def HV (fa sa na:Addr) (H H':Hp):Prop:=∀b o,H b=some o->b≠fa->b≠sa->b≠na->H' b=some o
theorem HV.refl (fa sa na:Addr) (H:Hp):HV fa sa na H H:=fun _ _ e _ _ _=>e
theorem hJ.same {K:Za}{C x M fa sa na ta:Addr}{us ws:Ze}{m:gD}{H H':Hp}(h:hJ K C H x M fa sa na ta us ws m) (S:ab H H'):hJ K C H' x M fa sa na ta us ws m:=by
 obtain ⟨⟨dx,fs,g,r⟩,h1,h2,h3,h4,h5,h6⟩:=h;exact ⟨⟨dx,fs,S _ _ g,r⟩,S _ _ h1,Paired.mapP h2 fun _ _ r=>S _ _ r,S _ _ h3,Paired.mapP h4 fun _ _ r=>⟨r.1,r.2.kt (ab.kt S) fun o e=>S _ _ e⟩,S _ _ h5,h6⟩
theorem hJ.move {K:Za}{C x M fa sa na ta:Addr}{us ws:Ze}{m:gD}{H:Hp}{d:Addr}{o:HO}{kvs:List (TK×V)}(h:hJ K C H x M fa sa na ta us ws m) (hd:H d=some (.dT kvs)) (n:d≠na):hJ K C (upd H d o) x M fa sa na ta us ws m:=by
 have k:fP H (upd H d o):=Df hd;obtain ⟨⟨dx,fs,g,r⟩,h1,h2,h3,h4,h5,h6⟩:=h;refine ⟨⟨dx,fs,by rw [af (fun z=>by rw [z,hd] at g; cases g)]; exact g,r⟩,by rw [af (fun z=>by rw [z,hd] at h1; cases h1)]; exact h1,Paired.mapP h2 fun _ _ r=>k _ _ r,by rw [af (fun z=>by rw [z,hd] at h3; cases h3)]; exact h3,Paired.mapP h4 fun w s r=>⟨r.1,?_⟩,by rw [af n.symm]; exact h5,h6⟩;obtain ⟨gs,g1,g2⟩:=r.2;exact ⟨gs,by rw [af (fun z=>by rw [z,hd] at g1; cases g1)]; exact g1,Paired.mapP g2 fun _ _ r=>bV.kt k r⟩
inductive lr (K:Za) (C:Addr) (vs:List V) (H:Hp) (Q:VK) (E:XK):Prop
 | mk (x M fa sa na ta u st:Addr) (us ws:Ze) (m:gD) (J6:Zb) (story:List Sg):(vs=[.ref x,.ref u,.ref st])->(hJ K C H x M fa sa na ta us ws m)->(H u=some (.tup (J6.map V.str)))->(i_ K H st story)->((st≠fa/\st≠sa/\st≠ta))->(m.fs.length<400)->(m.ss.length<400)->(∀(us' ws':Ze) (H':Hp),hJ K C H' x M fa sa na ta us' ws' (m.add J6 story)->HV fa sa na H H'->Q (.int (((m.add J6 story).fs.idxOf J6:Nat))) H')->lr K C vs H Q E
theorem Em {K:Za}{C:Addr}(c:FC K C) {vs:List V}{H:Hp}{Q:VK}{E:XK}(h:lr K C vs H Q E):mr K (bJ Q) (start mG vs) H:=by
 obtain ⟨x,M,fa,sa,na,ta,u,st,us,ws,m,J6,story,rfl,F,hu,hst,ns,z1,z2,k⟩:=h;obtain ⟨dx,fs,g,l1,l2,l3,l4,l5,l6,l7⟩:=F.ob;have tk:lN K H (iW J6) (.ref u):=cT.isIn 8 (dZ J6) (SignAt.tk hu);have g1:kz K H na (.ref u) (bQ (o5 0 m.fs) (iW J6)):=.inr ⟨_,_,_,.inl F.hna,rfl,tk,dZ J6,rfl⟩;refine ⟨_,rfl,_,rfl,x,C,dx,fs,.ref na,rfl,g,c.cls,c.a4,l4,na,_,rfl,g1,_,rfl,?_⟩;rw [lF];refine Dl (P:=¬J6∈m.fs) (by by_cases c:J6∈m.fs <;> simp [c]) (fun nin=>?_) (fun nin=>?_);rotate_left
 ·have hin:=Classical.not_not.1 nin;have e:=gD.add_in (s:=story) hin;refine ⟨_,rfl,x,C,dx,fs,.ref na,rfl,g,c.cls,c.a4,l4,_,rfl,na,.int ((m.fs.idxOf J6:Nat)),rfl,?_,?_⟩
  ·rw [lF,if_pos hin,vP] at g1;exact g1
  ·have:=k us ws H (by rw [e]; exact F) (.refl _ _ _ _);rw [e] at this;exact this
 have e:=gD.add_new (s:=story) nin;have zl:(us.map V.ref).length=m.fs.length:=by rw [ai,Paired.length F.faces]
 have zs:(ws.map V.ref).length=m.ss.length:=by rw [ai,Paired.length F.stories]
 refine ⟨_,rfl,x,C,dx,fs,.ref fa,rfl,g,c.cls,c.a2,l2,.inl ⟨fa,_,rfl,.inl (az.of F.hfa),rfl,_,rfl,?_⟩⟩;refine Dl (P:=False) (by rw [zl]; simp; omega) (fun z=>z.elim) fun _=>?_;have tka:cT H (iW J6) (.ref u):=SignAt.tk hu;refine ⟨_,rfl,x,C,dx,fs,.ref fa,rfl,g,c.cls,c.a2,l2,.inl ⟨fa,_,rfl,.inl (az.of F.hfa),_,rfl,x,C,dx,fs,.ref na,rfl,g,c.cls,c.a4,l4,_,rfl,na,_,rfl,.inr ⟨_,_,u,F.hna,rfl,tka,dZ J6,?_,rfl⟩,?_⟩⟩
 ·rw [yX]; exact au (by omega)
 rw [fX _ (by rw [lF,if_neg nin]),zl];have e1:o5 0 m.fs++[(iW J6,V.int (m.fs.length:Nat))]=o5 0 (m.fs++[J6]):=by rw [vo,vP]
 rw [e1];have kna:fP H (upd H na (.dT (o5 0 (m.fs++[J6])))):=Df F.hna;generalize hH1:upd H na (.dT (o5 0 (m.fs++[J6])))=H1 at kna ⊢;have nx:x≠na:=fun z=>by rw [z,F.hna] at g; cases g
 have nxf:x≠fa:=fun z=>by rw [z,F.hfa] at g; cases g
 have nxs:x≠sa:=fun z=>by rw [z,F.hsa] at g; cases g
 have nfa:fa≠na:=fun z=>by have:=F.hfa; rw [z,F.hna] at this; cases this
 have nsa:sa≠na:=fun z=>by have:=F.hsa; rw [z,F.hna] at this; cases this
 have fa1:H1 fa=some (.lst (us.map V.ref)):=by rw [<-hH1,af nfa]; exact F.hfa
 have sa1:H1 sa=some (.lst (ws.map V.ref)):=by rw [<-hH1,af nsa]; exact F.hsa
 have g1':H1 x=some (.ins C dx fs):=by rw [<-hH1,af nx]; exact g
 refine ⟨_,rfl,x,C,dx,fs,.ref fa,rfl,g1',c.cls,c.a2,l2,.inl ⟨rfl,_,az.of fa1⟩,_,rfl,fa,_,.ref u,rfl,rfl,fa1,?_,?_⟩
 ·rw [zl]; exact au (by omega)
 generalize hH2:upd H1 fa (.lst (us.map V.ref++[.ref u]))=H2;have k2:fP H1 H2:=by rw [<-hH2]; exact cr fa1
 have sa2:H2 sa=some (.lst (ws.map V.ref)):=by rw [<-hH2,af F.ne.1.symm]; exact sa1
 have g2:H2 x=some (.ins C dx fs):=by rw [<-hH2,af nxf]; exact g1'
 refine ⟨_,rfl,x,C,dx,fs,.ref sa,rfl,g2,c.cls,c.a3,l3,.inl ⟨rfl,_,az.of sa2⟩,_,rfl,sa,_,.ref st,rfl,rfl,sa2,?_,?_⟩
 ·rw [zs]; exact au (by omega)
 generalize hH3:upd H2 sa (.lst (ws.map V.ref++[.ref st]))=H3;have k3:fP H2 H3:=by rw [<-hH3]; exact cr sa2
 have kt:fP H H3:=(kna.trans k2).trans k3;have ex:HV fa sa na H H3:=fun b o e n1 n2 n3=>by rw [<-hH3,af n2,<-hH2,af n1,<-hH1,af n3]; exact e
 have g3:H3 x=some (.ins C dx fs):=ex _ _ g nxf nxs nx;have na3:H3 na=some (.dT (o5 0 (m.fs++[J6]))):=by rw [<-hH3,af nsa.symm,<-hH2,af nfa.symm,<-hH1,aa]
 have fa3:H3 fa=some (.lst ((us++[u]).map V.ref)):=by rw [<-hH3,af F.ne.1,<-hH2,aa,aq]; rfl
 have sa3:H3 sa=some (.lst ((ws++[st]).map V.ref)):=by rw [<-hH3,aa,aq]; rfl
 have sto:∀{w:Addr}{s:List Sg},(w≠fa/\w≠sa/\w≠ta)->i_ K H w s->i_ K H3 w s:=fun n r=>by
  obtain ⟨gs,q1,q2⟩:=r;exact ⟨gs,ex _ _ q1 n.1 n.2.1 (fun z=>by rw [z,F.hna] at q1; cases q1),Paired.mapP q2 fun _ _ r=>bV.kt kt r⟩
 have F3:hJ K C H3 x M fa sa na ta (us++[u]) (ws++[st]) (m.add J6 story):=by
  rw [e];exact ⟨⟨dx,fs,g3,l1,l2,l3,l4,l5,l6,l7⟩,fa3,cp (Paired.mapP F.faces fun _ _ r=>kt _ _ r) (kt _ _ hu),sa3,cp (Paired.mapP F.stories fun _ _ r=>⟨r.1,sto r.1 r.2⟩) ⟨ns,sto ns hst⟩,na3,F.ne⟩
 have tk3:lN K H3 (iW J6) (.ref u):=cT.isIn 8 (dZ J6) (SignAt.tk (kt _ _ hu));have hin:J6∈m.fs++[J6]:=by simp
 have g5:kz K H3 na (.ref u) (some (.int ((m.add J6 story).fs.idxOf J6:Nat))):=by
  refine .inr ⟨_,iW J6,u,.inl na3,rfl,tk3,dZ J6,?_⟩;rw [lF,if_pos hin,vP,e]
 exact ⟨_,rfl,x,C,dx,fs,.ref na,rfl,g3,c.cls,c.a4,l4,_,rfl,na,_,rfl,g5,k _ _ H3 F3 ex⟩
theorem vD {d:Addr}{o:Obj}{u:HO}{n:Nat}{ent:Nat->Hp->V->V->Prop}{g:TG}{tb:TS}{D:mJ}{σ:L2.St}{H:Hp}(Pv:Nat->L2.St->Hp->Prop) (h0:Pv 0 σ H) (hl:∀i σ H,i<=n->Pv i σ H->H d=some (.frz o u))
  (hs:∀i σ H p a b,i<n->Pv i σ H->H p=none->ent i H a b->g (.ref p) σ (upd H p (.tup [a,b])) fun σ2 H2=>tb { D with nx:=Pv (i+1),ct:=Pv (i+1),bk:=D.nx } σ2 H2) (hd:∀σ H,Pv n σ H->D.nx σ H) :
  ∃W:Nat->Nat->L2.St->Hp->Prop,(∃m,W 0 m σ H)/\∀i m σ H,W i m σ H ->
   ((G3 d o u n ent).stop i H/\D.nx σ H)∨((G3 d o u n ent).go i H/\∃N:L2.St->Hp->Prop,(∀σ' H',N σ' H'->∃m',m'<m/\W (i+1) m' σ' H')/\∀x H',(G3 d o u n ent).yld i H x H'->g x σ H' fun σ2 H2=>tb { D with nx:=N,ct:=N,bk:=D.nx } σ2 H2):=by
 refine ⟨fun i m σ H=>m=n-i/\i<=n/\Pv i σ H,⟨n,by simp,cV _,h0⟩,?_⟩;rintro i m σ H ⟨rfl,hi,p⟩;have q:=hl i σ H hi p;by_cases lt:i<n
 ·refine .inr ⟨⟨q,lt⟩,Pv (i+1),fun σ' H' p'=>⟨n-(i+1),by omega,rfl,lt,p'⟩,fun x H' y=>?_⟩;obtain ⟨t,a,b,hn,rfl,en,rfl⟩:=y;exact hs i σ H t a b lt p hn en
 ·have e:i=n:=by omega
  subst e;exact .inl ⟨⟨q,aE _⟩,hd σ H p⟩
def stK (l:List (Sg×Nat)):List (TK×V):=l.map fun a=>(iW a.1,.int (a.2:Nat))
def DF (L:Ze) (H H':Hp):Prop:=∀b o,H b=some o->b∉L->H' b=some o
theorem DF.refl (L:Ze) (H:Hp):DF L H H:=fun _ _ e _=>e
theorem DF.trans {L:Ze}{H H1 H2:Hp}(a:DF L H H1) (b:DF L H1 H2):DF L H H2:=fun c o e n=>b c o (a c o e n) n
theorem ab.exL {L:Ze}{H H':Hp}(S:ab H H'):DF L H H':=fun b o e _=>S b o e
theorem HV.exL {fa sa na:Addr}{L:Ze}{H H':Hp}(a:HV fa sa na H H') (s:fa∈L/\sa∈L/\na∈L):DF L H H':=fun b o e n=>a b o e (fun z=>n (z ▸ s.1)) (fun z=>n (z ▸ s.2.1)) (fun z=>n (z ▸ s.2.2))
theorem DF.upd {L:Ze}{H:Hp}{d:Addr}{o:HO}(h:d∈L):DF L H (upd H d o):=fun b u e n=>by rw [af (fun z:b=d=>n (by rw [z]; exact h))]; exact e
theorem Good.grow_len {J2:Zb}{m:gD}(g:Good J2 m) (hr:J2.length<=8):m.fs.length<400/\m.ss.length<400:=by
 have h1:=g.few hr;have h2:=g.len;omega
theorem va {K:Za}{H:Hp}:∀{sg:Zb}{xs:List V},TKCs K H (sg.map oP) xs->xs=sg.map V.str
 | [],xs,h=>by rw [wF] at h; unfold TKCs at h; exact h
 | s::sg,xs,h=>by
  rw [bc] at h;unfold TKCs at h;obtain ⟨v,us,rfl,h1,h2⟩:=h;unfold oP nP at h1;rw [h1,va h2]
  rfl
theorem ym {K:Za}{H:Hp}{sg:Zb}{a:V}(h:nP K H (iW sg) a):∃b,a=.ref b/\bV K H b (sg.map V.str):=by
 unfold iW nP at h;obtain ⟨b,xs,rfl,h1,h2⟩:=h;rw [va h2] at h1;exact ⟨b,rfl,h1⟩
theorem wY {J0 J1 J2 J6:Zb}{ds:List am}(m:aJ J0 J1 J2 ds):((stepsF J0 J1 J2 ds J6).map (·.1)).Nodup:=by
 have nd:=eO m;unfold stepsF;refine List.Nodup.sublist (List.Sublist.map _ List.filter_sublist) ?_;rw [rZ];have e:((fun p:Sg×List Str=>p.1) ∘ fun sg=>(sg,behF J2 ds J6 sg))=id:=rfl;rw [e,List.map_id];exact nd
theorem vk (s:List Sg) (m:gD) (L:List (Sg×List Str)):(eK s m L).2.map (·.1)=L.map (·.1):=by
 have key:∀n,n<=L.length->(eK s m (L.take n)).2.map (·.1)=(L.take n).map (·.1):=by
  intro n
  induction n with
  | zero=>intro _; rfl
  | succ n ih =>
   intro hn;have hp:L[n]?=some L[n]:=bE (by omega);rw [take_snoc hp,jN];show ((eK s m (L.take n)).2++[(L[n].1,_)]).map (fun a:Sg×Nat=>a.1)=_;rw [aq,aq,ih (by omega)]
   rfl
 have:=key L.length (aE _);rw [bh] at this;exact this
theorem pB.atS {m m':gD}(h:pB m m') {i:Nat}{f:List Sg}(e:m.ss[i]?=some f):m'.ss[i]?=some f:=by
 obtain ⟨_,⟨r,q⟩⟩:=h;rw [q,dg (by rcases eE i m.ss.length with z | z; exact z; rw [fE z] at e; cases e),e]
theorem hJ.ex3 {K:Za}{C x M fa sa na ta:Addr}{us ws:Ze}{m:gD}{H H':Hp}(h:hJ K C H x M fa sa na ta us ws m) (e:HV fa sa na H H'):fP H H':=fun b xs q =>
 e b _ q (fun z=>by rw [z,h.hfa] at q; cases q) (fun z=>by rw [z,h.hsa] at q; cases q) (fun z=>by rw [z,h.hna] at q; cases q)
inductive iZ (K:Za) (C Cm:Addr) (vs:List V) (H:Hp) (Q:VK) (E:XK):Prop
 | mk (x M fa sa na ta:Addr) (us ws:Ze) (m:gD) (n:Nat) (J0 J1 J2:Zb) (ds:List am):(vs=[.ref x,.int (n:Nat)])->(hJ K C H x M fa sa na ta us ws m)->(bx Cm H M J0 J1 J2 ds)->(Good J2 m)->(J2.length<=8)->(n<m.fs.length)->((∃vs,H ta=some (.lst vs)))->(∀(d:Addr) (us' ws':Ze) (H':Hp),hJ K C H' x M fa sa na ta us' ws' (eK (m.ss.getD n []) m (stepsF J0 J1 J2 ds (m.fs.getD n []))).1->H' d=some (.dT (stK (eK (m.ss.getD n []) m (stepsF J0 J1 J2 ds (m.fs.getD n []))).2))->H d=none->DF [fa,sa,na] H H'->Q (.ref d) H')->iZ K C Cm vs H Q E
theorem yM {K:Za}{C Cm:Addr}(c:FC K C) {vs:List V}{H:Hp}{Q:VK}{E:XK}(h:iZ K C Cm vs H Q E):jm K (j8 Cm) C (lr K C) (bJ Q) (start jp vs) H:=by
 obtain ⟨x,M,fa,sa,na,ta,us,ws,m,n,J0,J1,J2,ds,rfl,F,MA,gd,hr,hn,⟨tvs,hta⟩,k⟩:=h;have hfn:m.fs[n]?=some m.fs[n]:=bE hn;have hsn:n<m.ss.length:=by rw [gd.len]; exact hn
 have hss:m.ss[n]?=some m.ss[n]:=bE hsn;have ef:m.fs.getD n []=m.fs[n]:=by simp [hn]
 have es:m.ss.getD n []=m.ss[n]:=by simp [hsn]
 rw [ef,es] at k;have hF:=gd.isF m.fs[n] (jY _);have hFl:=hF.len;obtain ⟨u,hu,hut⟩:=Paired.get F.faces hfn;obtain ⟨w,hw,hwn,hwt⟩:=Paired.get F.stories hss;have atw:pD (ws.map V.ref) n=some (.ref w):=bt (by rw [bZ,hw]; rfl);have atu:pD (us.map V.ref) n=some (.ref u):=bt (by rw [bZ,hu]; rfl);refine fun d hd=>?_;have S0:ab H (upd H d (.dT [])):=ab.new hd;have F0:=F.same S0;obtain ⟨dx,fs,g,l1,l2,l3,l4,l5,l6,l7⟩:=F0.ob;refine ⟨_,rfl,x,C,dx,fs,.ref M,rfl,g,c.cls,c.a1,l1,_,rfl,x,C,dx,fs,.ref fa,rfl,g,c.cls,c.a2,l2,_,rfl,fa,_,_,_,rfl,rfl,az.of F0.hfa,atu,M,u,m.fs[n],J0,J1,J2,ds,rfl,MA.same S0,S0 _ _ hut,hF.sub,by omega,fun d0 kvs H1 hd0 st hd0' S1=>?_⟩;have F1:=F0.same S1;have nd0:d0≠d:=fun z=>by rw [z,aa] at hd0'; cases hd0'
 have fr:∀{b:Addr}{o:HO},H b=some o->b≠d0:=fun e=>ae (S0 _ _ e) hd0';have frd:∀{b:Addr}{o:HO},H b=some o->b≠d:=fun e=>ae e hd;obtain ⟨dx',fs',gx,_⟩:=F.ob;refine ⟨d0,kvs,rfl,.inl ⟨hd0,fun o=>?_⟩⟩;have F2:=F1.move (o:=.frz o (.dT kvs)) hd0 (dz (fr F.hna));have kt12:fP H1 (upd H1 d0 (.frz o (.dT kvs))):=Df hd0;have d2:upd H1 d0 (.frz o (.dT kvs)) d=some (.dT []):=by rw [af nd0.symm]; exact S1 _ _ aa
 have ta2:upd H1 d0 (.frz o (.dT kvs)) ta=some (.lst tvs):=by rw [af (fr hta)]; exact S1 _ _ (S0 _ _ hta)
 have f2:upd H1 d0 (.frz o (.dT kvs)) d0=some (.frz o (.dT kvs)):=aa;have e02:∀b o',H b=some o'->upd H1 d0 (.frz o (.dT kvs)) b=some o':=fun b o' e=>by rw [af (fr e)]; exact S1 _ _ (S0 _ _ e)
 have st2:=st.kt kt12;generalize upd H1 d0 (.frz o (.dT kvs))=H2 at F2 kt12 d2 ta2 f2 st2 e02 ⊢;have hLF:∀p∈stepsF J0 J1 J2 ds m.fs[n],kr J2 p.2:=sV hF;have zL:(stepsF J0 J1 J2 ds m.fs[n]).length<=9:=by
  have z1:=MA.ok.asks4;have z2:=MA.ok.says4;refine bv (BK (L:=ao J0 J1)) ?_;unfold ao; rw [ay,ay,ai,ai]; show _+1<=9; omega
 have ndL:=wY (J6:=m.fs[n]) MA.ok;generalize stepsF J0 J1 J2 ds m.fs[n]=L at st st2 hLF ndL zL k ⊢;have gq:∀i,Good J2 (eK m.ss[n] m (L.take i)).1/\pB m (eK m.ss[n] m (L.take i)).1:=fun i=>by
  obtain ⟨h1,h2,_⟩:=vm (s:=m.ss[n]) gd (by have:=gd.sl _ _ hss; omega) (L.take i) fun p hp=>hLF p (fj hp);exact ⟨h1,h2⟩
 have nfd:fa≠d:=frd F.hfa;have nsd:sa≠d:=frd F.hsa;have nnd:na≠d:=frd F.hna;refine vD (fun i σ H'=>∃(us' ws':Ze) (x3 x4:Option V),σ=[some (.ref x),some (.int (n:Nat)),some (.ref d),x3,x4]/\hJ K C H' x M fa sa na ta us' ws' (eK m.ss[n] m (L.take i)).1/\H' d=some (.dT (stK (eK m.ss[n] m (L.take i)).2))/\DF [fa,sa,na,d] H2 H'/\fP H2 H')
  ⟨us,ws,_,_,rfl,F2,d2,.refl _ _,fun _ _ e=>e⟩ ?_ ?_ ?_
 ·rintro i σ H' _ ⟨_,_,_,_,_,_,_,ex,_⟩;exact ex _ _ f2 (by simp [dz (fr F.hfa),dz (fr F.hsa),dz (fr F.hna),nd0])
 ·rintro i σ H3 p a b hi ⟨us',ws',x3,x4,rfl,F3,d3,ex3,kt3⟩ hp ⟨key,ek,tkc⟩;obtain ⟨pr,hpr,rfl,uf,rfl,huf⟩:=Paired.getL st2 ek;obtain ⟨sga,rfl,hsga⟩:=ym tkc;obtain ⟨gd3,gr3⟩:=gq i;obtain ⟨z1,z2⟩:=gd3.grow_len hr;obtain ⟨w',hw',hwn',gs,hg1,hg2⟩:=Paired.get F3.stories (gr3.atS hss);have atw':pD (ws'.map V.ref) n=some (.ref w'):=bt (by rw [bZ,hw']; rfl);have Sp:ab H3 (upd H3 p (.tup [.ref sga,.ref uf])):=ab.new hp;have hp4:upd H3 p (.tup [.ref sga,.ref uf]) p=some (.tup [.ref sga,.ref uf]):=aa;generalize upd H3 p (.tup [.ref sga,.ref uf])=H4 at Sp hp4 ⊢;refine ⟨p,_,rfl,bj.of hp4,rfl,_,_,rfl,_,_,rfl,rfl,?_⟩;have F4:=F3.same Sp;obtain ⟨dx4,fs4,g4,m1,m2,m3,m4,m5,m6,m7⟩:=F4.ob;have hw4:=Sp _ _ hg1;refine ⟨_,rfl,x,dx4,fs4,rfl,g4,m6,_,rfl,_,rfl,x,C,dx4,fs4,.ref sa,rfl,g4,c.cls,c.a3,m3,_,rfl,sa,_,_,_,rfl,rfl,az.of F4.hsa,atw',_,rfl,(by show 1<=aj; decide),fun ll hll=>?_⟩;have Sl:ab H4 (upd H4 ll (.lst [.ref sga])):=ab.new hll;have hl5:upd H4 ll (.lst [.ref sga]) ll=some (.lst [.ref sga]):=aa;generalize upd H4 ll (.lst [.ref sga])=H5 at Sl hl5 ⊢;have zw:gs.length<=400:=by rw [Paired.length hg2]; have:=gd.sl _ _ hss; have:=gd.few hr; omega
  refine ⟨w',ll,_,_,rfl,rfl,Sl _ _ hw4,hl5,(by rw [ai]; exact eo (au (by show _+1<=1000; omega))),fun p2 hp2=>?_⟩;have S2:ab H5 (upd H5 p2 (.lst (gs.map V.ref++[.ref sga]))):=ab.new hp2;have hp6:upd H5 p2 (.lst (gs.map V.ref++[.ref sga])) p2=some (.lst ((gs++[sga]).map V.ref)):=by rw [aa,aq]; rfl
  generalize upd H5 p2 (.lst (gs.map V.ref++[.ref sga]))=H6 at S2 hp6 ⊢;have S36:ab H3 H6:=(Sp.trans Sl).trans S2;have F6:=F3.same S36;have ta3:H3 ta=some (.lst tvs):=ex3 _ _ ta2 (by simp [F.ne.2.1.symm,F.ne.2.2.symm,frd hta]; exact fun z=>by rw [z,F.hna] at hta; cases hta);have np:∀{b:Addr}{o:HO},H3 b=some o->p2≠b:=fun e=>dz (ae (Sl _ _ (Sp _ _ e)) hp2);have sto:i_ K H6 p2 (m.ss[n]++[pr.1]):=⟨gs++[sga],hp6,cp (Paired.mapP hg2 fun _ _ r=>bV.kt (ab.kt S36) r) (bV.kt (ab.kt S36) hsga)⟩;refine ⟨x,M,fa,sa,na,ta,uf,p2,us',ws',_,pr.2,m.ss[n]++[pr.1],rfl,F6,S36 _ _ (kt3 _ _ huf),sto,⟨np F3.hfa,np F3.hsa,np ta3⟩,z1,z2,fun us'' ws'' H7 F7 e7=>?_⟩;have k67:=F6.ex3 e7;have k37:fP H3 H7:=(ab.kt S36).trans k67;have d7:H7 d=some (.dT (stK (eK m.ss[n] m (L.take i)).2)):=e7 _ _ (S36 _ _ d3) nfd.symm nsd.symm nnd.symm;have ek7:bQ (stK (eK m.ss[n] m (L.take i)).2) (iW pr.1)=none:=by
   refine wH fun kv hkv e=>?_;obtain ⟨q,hq,rfl⟩:=aB.1 hkv;have h1:q.1∈(L.take i).map (·.1):=by rw [<-vk m.ss[n] m]; exact jZ hq
   rw [i7 e,mZ] at h1;exact o7 ndL (by rw [bZ,hpr]; rfl) h1
  have l7:(stK (eK m.ss[n] m (L.take i)).2).length<aj:=by
   have h1:=congrArg List.length (vk m.ss[n] m (L.take i));rw [ai,ai,aX] at h1;unfold stK;rw [ai,h1];exact au (by omega)
  refine ⟨_,rfl,_,rfl,d,sga,_,iW pr.1,rfl,rfl,d7,yn (bV.kt k37 hsga),dZ _,l7,us'',ws'',_,_,rfl,?_,?_,?_,?_⟩
  ·rw [take_snoc hpr,jN];exact F7.move d7 (dz nnd)
  ·rw [aa,fX _ ek7,take_snoc hpr,jN];show _=some (HO.dT (stK ((eK m.ss[n] m (L.take i)).2++[_])));unfold stK;rw [aq]
   rfl
  ·exact (ex3.trans (ab.exL S36)).trans ((e7.exL ⟨by simp,by simp,by simp⟩).trans (DF.upd (by simp)))
  ·exact (kt3.trans k37).trans (Df d7)
 ·rintro σ H3 ⟨us',ws',x3,x4,rfl,F3,d3,ex3,kt3⟩;rw [Paired.length st,bh] at F3 d3;refine ⟨_,rfl,k d us' ws' H3 F3 d3 hd fun b o' e nb=>ex3 _ _ (e02 _ _ e) ?_⟩;simp at nb ⊢;exact ⟨nb.1,nb.2.1,nb.2.2,frd e⟩
abbrev pq (H0:Hp) (na:Addr) (H:Hp) (ts:Ze) (st:List (List (Sg×Nat))):Prop:=Paired (fun d l=>H0 d=none/\d≠na/\H d=some (.dT (stK l))) ts st
inductive lW (K:Za) (C Cm:Addr) (vs:List V) (H:Hp) (Q:VK) (E:XK):Prop
 | mk (H0:Hp) (x dx M:Addr) (J0 J1 J2:Zb) (ds:List am):(vs=[.ref x,.ref M])->(H x=some (.ins C dx []))->(bx Cm H0 M J0 J1 J2 ds)->(H0 x=none)->(ab H0 H)->(J2.length<=8)->(∀(fa sa na ta:Addr) (us ws ts:Ze) (S:qz) (j:Nat) (H':Hp),hJ K C H' x M fa sa na ta us ws S.1->H' ta=some (.lst (ts.map V.ref))->pq H0 na H' ts S.2->qy J0 J1 J2 ds S->S.2.length=S.1.fs.length->S=itF J0 J1 J2 ds j->ab H0 H'->Q .non H')->lW K C Cm vs H Q E
theorem hJ.moveT {K:Za}{C x M fa sa na ta:Addr}{us ws:Ze}{m:gD}{H:Hp}{xs ys:List V}(h:hJ K C H x M fa sa na ta us ws m) (ht:H ta=some (.lst xs)):hJ K C (upd H ta (.lst ys)) x M fa sa na ta us ws m:=by
 have k:fP H (upd H ta (.lst ys)):=cr ht;obtain ⟨⟨dx,fs,g,r⟩,h1,h2,h3,h4,h5,h6⟩:=h;refine ⟨⟨dx,fs,by rw [af (fun z=>by rw [z,ht] at g; cases g)]; exact g,r⟩,by rw [af h6.2.1]; exact h1,Paired.mapP h2 fun _ _ r=>k _ _ r,by rw [af h6.2.2]; exact h3,Paired.mapP h4 fun w s r=>⟨r.1,?_⟩,by rw [af (fun z=>by rw [z,ht] at h5; cases h5)]; exact h5,h6⟩;obtain ⟨gs,g1,g2⟩:=r.2;exact ⟨gs,by rw [af r.1.2.2]; exact g1,Paired.mapP g2 fun _ _ r=>bV.kt k r⟩
theorem C0 {K:Za}{C Cm:Addr}(c:FC K C) {vs:List V}{H:Hp}{Q:VK}{E:XK}(h:lW K C Cm vs H Q E):nF K C (iZ K C Cm) (lr K C) (dY Cm) (bJ Q) (start nX vs) H:=by
 obtain ⟨H0,x,dx,M,J0,J1,J2,ds,rfl,hx,MA,hx0,S0,hr,k⟩:=h;have up:∀{H1 H2:Hp}{o:HO},ab H0 H1->H2=upd H1 x o->ab H0 H2:=fun S e b o q=>by rw [e,af (ae q hx0)]; exact S _ _ q
 refine ⟨_,rfl,_,rfl,x,C,dx,[],rfl,hx,c.cls,c.a1,(by decide),?_⟩;obtain ⟨H1,e1,hx1,X1⟩:=qo "machine" (.ref M) hx;rw [<-e1];have S1:=up S0 e1;have len1:(cI ("machine":Str) (.ref M) []).length<=1:=dU _ _ _;refine ⟨(by show 0<=aj; decide),fun fa hfa=>⟨_,rfl,x,C,dx,_,rfl,kp hx1 hfa,c.cls,c.a2,by omega,?_⟩⟩;obtain ⟨H2,e2,hx2,X2⟩:=qo "faces" (.ref fa) (kp (x:=.lst []) hx1 hfa);rw [<-e2];have S2:=up (S1.trans (ab.new hfa)) e2;have nf:fa≠x:=(ae hx1 hfa).symm;have fa2:=X2 _ _ aa nf;have len2:=dU ("faces":Str) (.ref fa) (cI ("machine":Str) (.ref M) []);refine ⟨(by show 0<=aj; decide),fun sa hsa=>⟨_,rfl,x,C,dx,_,rfl,kp hx2 hsa,c.cls,c.a3,by omega,?_⟩⟩;obtain ⟨H3,e3,hx3,X3⟩:=qo "first_stories" (.ref sa) (kp (x:=.lst []) hx2 hsa);rw [<-e3];have S3:=up (S2.trans (ab.new hsa)) e3;have ns:sa≠x:=(ae hx2 hsa).symm;have sa3:=X3 _ _ aa ns;have fa3:=X3 _ _ (kp (x:=.lst []) fa2 hsa) nf;have nfs:fa≠sa:=ae fa2 hsa;have len3:=dU ("first_stories":Str) (.ref sa) (cI ("faces":Str) (.ref fa) (cI ("machine":Str) (.ref M) []));refine fun na hna=>⟨_,rfl,x,C,dx,_,rfl,kp hx3 hna,c.cls,c.a4,by omega,?_⟩;obtain ⟨H4,e4,hx4,X4⟩:=qo "numbers" (.ref na) (kp (x:=.dT []) hx3 hna);rw [<-e4];have S4:=up (S3.trans (ab.new hna)) e4;have nn:na≠x:=(ae hx3 hna).symm;have na4:=X4 _ _ aa nn;have fa4:=X4 _ _ (kp (x:=.dT []) fa3 hna) nf;have sa4:=X4 _ _ (kp (x:=.dT []) sa3 hna) ns;have len4:=dU ("numbers":Str) (.ref na) (cI ("first_stories":Str) (.ref sa) (cI ("faces":Str) (.ref fa) (cI ("machine":Str) (.ref M) [])));refine ⟨(by show 0<=aj; decide),fun ta hta=>⟨_,rfl,x,C,dx,_,rfl,kp hx4 hta,c.cls,c.a5,by omega,?_⟩⟩;obtain ⟨H5,e5,hx5,X5⟩:=qo "steps" (.ref ta) (kp (x:=.lst []) hx4 hta);rw [<-e5];have S5:=up (S4.trans (ab.new hta)) e5;have nt:ta≠x:=(ae hx4 hta).symm;have ta5:=X5 _ _ aa nt;have fa5:=X5 _ _ (kp (x:=.lst []) fa4 hta) nf;have sa5:=X5 _ _ (kp (x:=.lst []) sa4 hta) ns;have na5:=X5 _ _ (kp (x:=.lst []) na4 hta) nn;have F5:hJ K C H5 x M fa sa na ta [] [] ⟨[],[]⟩:=by
  refine ⟨⟨dx,_,hx5,?_,?_,?_,?_,?_,?_,?_⟩,fa5,.nil,sa5,.nil,na5,nfs,ae fa4 hta,ae sa4 hta⟩
  all_goals (show kJ _ _=_; repeat (rw [eM]; first | rw [if_pos rfl] | rw [if_neg (by decide +kernel)]))
  all_goals rfl
 clear e1 hx1 X1 len1 e2 hx2 X2 fa2 len2 e3 hx3 X3 sa3 fa3 len3 e4 hx4 X4 na4 fa4 sa4 len4 e5 hx5 X5 up;obtain ⟨dx5,fs5,g5,l1,l2,l3,l4,l5,l6,l7⟩:=id F5.ob;have M5:=MA.same S5;refine ⟨_,rfl,x,dx5,fs5,rfl,g5,l6,_,rfl,M,J0,J1,J2,ds,rfl,M5,fun f0 FF H6 hf0 hF S6=>⟨(by show 0<=aj; decide),fun st hst=>?_⟩⟩;rw [tV hF] at hf0;have S7:ab H6 (upd H6 st (.lst [])):=ab.new hst;have st7:upd H6 st (.lst []) st=some (.lst []):=aa;generalize upd H6 st (.lst [])=H7 at S7 st7 ⊢;have S57:ab H5 H7:=ab.trans S6 S7;have F7:=F5.same S57;have np:∀{b:Addr}{o:HO},H5 b=some o->st≠b:=fun e=>dz (ae (S6 _ _ e) hst);refine ⟨x,M,fa,sa,na,ta,f0,st,[],[],⟨[],[]⟩,_,[],rfl,F7,S7 _ _ hf0,⟨[],st7,.nil⟩,⟨np fa5,np sa5,np ta5⟩,(by show 0<400; decide),(by show 0<400; decide),fun us ws H8 F8 e8=>?_⟩;have nta:ta≠na:=fun z=>by rw [z,na5] at ta5; cases ta5
 have ta8:H8 ta=some (.lst (([]:Ze).map V.ref)):=e8 _ _ (S57 _ _ ta5) F5.ne.2.1.symm F5.ne.2.2.symm nta;have in0:∀{b:Addr}{o:HO},H0 b=some o->b≠fa/\b≠sa/\b≠na:=fun e=>⟨ae (S1 _ _ e) hfa,ae (S2 _ _ e) hsa,ae (S3 _ _ e) hna⟩;have S08:ab H0 H8:=fun b o e=>by
  obtain ⟨n1,n2,n3⟩:=in0 e;exact e8 _ _ (S57 _ _ (S5 _ _ e)) n1 n2 n3
 refine ⟨fun m σ H'=>σ=[some (.ref x),some (.ref M)]/\∃(us ws ts:Ze) (j:Nat),m=300-j/\hJ K C H' x M fa sa na ta us ws (itF J0 J1 J2 ds j).1/\H' ta=some (.lst (ts.map V.ref))/\pq H0 na H' ts (itF J0 J1 J2 ds j).2/\qy J0 J1 J2 ds (itF J0 J1 J2 ds j)/\(itF J0 J1 J2 ds j).2.length=j/\ab H0 H',⟨300,rfl,us,ws,[],0,rfl,F8,ta8,.nil,Dp,rfl,S08⟩,?_⟩;rintro m σ H9 ⟨rfl,us9,ws9,ts,j,rfl,F9,ta9,st9,ok9,lj,S09⟩;obtain ⟨dx9,fs9,g9,m1,m2,m3,m4,m5,m6,m7⟩:=id F9.ob;refine ⟨_,rfl,x,C,dx9,fs9,.ref ta,rfl,g9,c.cls,c.a5,m5,.inl ⟨ta,_,rfl,.inl (az.of ta9),_,rfl,x,C,dx9,fs9,.ref fa,rfl,g9,c.cls,c.a2,m2,.inl ⟨fa,_,rfl,.inl (az.of F9.hfa),_,_,rfl,rfl,_,rfl,?_⟩⟩⟩;have z1:(ts.map V.ref).length=j:=by rw [ai,Paired.length st9,lj]
 have z2:(us9.map V.ref).length=(itF J0 J1 J2 ds j).1.fs.length:=by rw [ai,Paired.length F9.faces]
 have z3:=ok9.good.few hr;refine Dl (P:=j<(itF J0 J1 J2 ds j).1.fs.length) (by rw [z1,z2]; simp) (fun lt=>?_) (fun ge=>?_)
 ·have o0:nextF J0 J1 J2 ds (itF J0 J1 J2 ds j)=itF J0 J1 J2 ds (j+1):=rfl;have ok10:qy J0 J1 J2 ds (itF J0 J1 J2 ds (j+1)):=Do ok9 (by rw [lj]; exact lt);have fr9:∀{b:Addr}{o:HO},H9 b=some o->∀{d:Addr},H9 d=none->d≠b:=fun e d h=>dz (ae e h);refine ⟨fun σ' H'=>σ'=[some (.ref x),some (.ref M)]/\∃(us ws ts:Ze),hJ K C H' x M fa sa na ta us ws (itF J0 J1 J2 ds (j+1)).1/\H' ta=some (.lst (ts.map V.ref))/\pq H0 na H' ts (itF J0 J1 J2 ds (j+1)).2/\ab H0 H',fun σ' H' ⟨e,us,ws,ts,q1,q2,q3,q4⟩=>⟨300-(j+1),by omega,e,us,ws,ts,j+1,rfl,q1,q2,q3,ok10,?_,q4⟩,?_⟩
  ·show (_++[_]).length=j+1;rw [ay,lj]; rfl
  refine ⟨_,rfl,x,C,dx9,fs9,.ref ta,rfl,g9,c.cls,c.a5,m5,.inl ⟨rfl,_,az.of ta9⟩,_,rfl,x,dx9,fs9,rfl,g9,m7,_,rfl,x,C,dx9,fs9,.ref ta,rfl,g9,c.cls,c.a5,m5,.inl ⟨ta,_,rfl,.inl (az.of ta9),?_⟩⟩;refine ⟨x,M,fa,sa,na,ta,us9,ws9,_,j,J0,J1,J2,ds,by rw [z1]; rfl,F9,MA.same S09,ok9.good,hr,lt,⟨_,ta9⟩,fun d us' ws' H10 F10 hd hdn ex=>?_⟩;have nta9:ta∉[fa,sa,na]:=by simp [F9.ne.2.1.symm,F9.ne.2.2.symm,nta]
  have ta10:=ex _ _ ta9 nta9;have S010:ab H0 H10:=fun b o e=>by
   obtain ⟨n1,n2,n3⟩:=in0 e;exact ex _ _ (S09 _ _ e) (by simp [n1,n2,n3])
  have st10:pq H0 na H10 ts (itF J0 J1 J2 ds j).2:=Paired.mapP st9 fun d l ⟨q1,q2,q3⟩=>⟨q1,q2,ex _ _ q3 (by
   simp [q2];exact ⟨(fun z=>by rw [z,F9.hfa] at q3; cases q3),(fun z=>by rw [z,F9.hsa] at q3; cases q3)⟩)⟩
  have d0:H0 d=none:=S09.free hdn;have ndt:d≠ta:=fr9 ta9 hdn;refine ⟨ta,_,.ref d,rfl,rfl,ta10,?_,rfl,us',ws',ts++[d],?_,?_,?_,?_⟩
  ·rw [z1]; exact au (by omega)
  ·have e:(itF J0 J1 J2 ds (j+1)).1=(eK ((itF J0 J1 J2 ds j).1.ss.getD j []) (itF J0 J1 J2 ds j).1 (stepsF J0 J1 J2 ds ((itF J0 J1 J2 ds j).1.fs.getD j []))).1:=by
    show (nextF J0 J1 J2 ds (itF J0 J1 J2 ds j)).1=_;unfold nextF; rw [lj]
   rw [e];exact F10.moveT ta10
  ·rw [aa,aq]; rfl
  ·have e:(itF J0 J1 J2 ds (j+1)).2=(itF J0 J1 J2 ds j).2++[(eK ((itF J0 J1 J2 ds j).1.ss.getD j []) (itF J0 J1 J2 ds j).1 (stepsF J0 J1 J2 ds ((itF J0 J1 J2 ds j).1.fs.getD j []))).2]:=by
    show (nextF J0 J1 J2 ds (itF J0 J1 J2 ds j)).2=_;unfold nextF; rw [lj]
   rw [e];exact cp (Paired.mapP st10 fun d l ⟨q1,q2,q3⟩=>⟨q1,q2,by rw [af (fun z=>by rw [z,ta10] at q3; cases q3)]; exact q3⟩) ⟨d0,fr9 F9.hna hdn,by rw [af ndt]; exact hd⟩
  ·intro b o e;have h1:=S010 _ _ e;rw [af (fun z=>?_)]
   ·exact h1
   ·have h4:=S4 _ _ e;rw [z,hta] at h4; cases h4
 ·have e:=ok9.le;exact k fa sa na ta us9 ws9 ts _ j H9 F9 ta9 st9 ok9 (by omega) rfl S09
abbrev zW (H0 H:Hp) (ts:Ze) (st:List (List (Sg×Nat))):Prop:=Paired (fun d l=>H0 d=none/\Rd H d (.dT (stK l))) ts st
theorem Rd.same {H H':Hp}{a:Addr}{u:HO}(S:ab H H') (h:Rd H a u):Rd H' a u:=by
 rcases h with h | ⟨o,h⟩
 ·exact .inl (S _ _ h)
 ·exact .inr ⟨o,S _ _ h⟩
theorem Rd.frz {H:Hp}{a d:Addr}{k kvs:List (TK×V)}{o:Obj}(hd:H d=some (.dT kvs)) (h:Rd H a (.dT k)):Rd (upd H d (.frz o (.dT kvs))) a (.dT k):=by
 by_cases z:a=d
 ·subst z;rcases h with h | ⟨q,h⟩
  ·rw [hd] at h; cases h; exact .inr ⟨o,aa⟩
  ·rw [hd] at h; cases h
 ·rcases h with h | ⟨q,h⟩
  ·exact .inl (by rw [af z]; exact h)
  ·exact .inr ⟨q,by rw [af z]; exact h⟩
def II (J:It) (g:TG) (tb:TS) (D:mJ) (σ:L2.St) (H:Hp):Prop:=∃W:Nat->Nat->L2.St->Hp->Prop,(∃m,W 0 m σ H)/\∀i m σ H,W i m σ H ->
 (J.stop i H/\D.nx σ H)∨(J.go i H/\∃N:L2.St->Hp->Prop,(∀σ' H',N σ' H'->∃m',m'<m/\W (i+1) m' σ' H')/\∀x H',J.yld i H x H'->g x σ H' fun σ2 H2=>tb { D with nx:=N,ct:=N,bk:=D.nx } σ2 H2)
inductive rL (K:Za) (vs:List V) (H:Hp) (Q:VK) (E:XK):Prop
 | mk (t ft s l1 l2 l3 l4:Addr) (ts:Ze) (J0 J1 J2 J6 sg:Zb) (ds:List am):(vs=[.ref t,.ref ft,.ref s])->(im H t l1 l2 l3 l4 ts J0 J1 J2 ds)->(aJ J0 J1 J2 ds)->(bj K H ft (J6.map V.str))->(bj K H s (sg.map V.str))->(J6.length<=1000)->(∀(t':Addr) (H':Hp),H' t'=some (.tup ((behF J2 ds J6 sg).map V.str))->ab H H'->Q (.ref t') H')->rL K vs H Q E
theorem Gj {K:Za}{vs:List V}{H:Hp}{Q:VK}{E:XK}(h:rL K vs H Q E):wP K sW lU (bJ Q) (start xT vs) H:=by
 obtain ⟨t,ft,s,l1,l2,l3,l4,ts,J0,J1,J2,J6,sg,ds,rfl,T,m,hft,hs,hz,k⟩:=h;have z4:=m.few;refine ⟨_,rfl,(by show 1<=aj; decide),fun hh hhh=>⟨jW sg,jW bT,bD (bj.same (ab.new hhh) hs),bD (bj.of aa),by rw [b0]; decide,by rw [b0]; decide,_,rfl,?_⟩⟩;rw [mj];have Sn:ab H (upd H hh (.tup [.str "hush"])):=ab.new hhh;generalize upd H hh (.tup [.str "hush"])=H1 at Sn ⊢;have T1:=T.same Sn;have ft1:=bj.same Sn hft;have hs1:=bj.same Sn hs;by_cases c:sg=bT
 ·rw [zzr1 c];refine dh ?_;refine ⟨_,rfl,ft,rfl,⟨_,ft1⟩,fun f hf=>?_⟩;refine zG (xs:=J6.map V.str) (fun i vs H'=>vs=((J6.take i).filter fun r=>decide (r∉h7 ds)).map V.str/\ab H1 H'/\H' f=some (.lst vs)) ⟨rfl,ab.new hf,aa⟩ (fun i vs H' _ ⟨_,S,h'⟩=>⟨h',bj.same S ft1⟩) ?_ ?_
  ·rintro vs H' ⟨rfl,S,f'⟩;rw [ai,bh] at f';refine ⟨f,_,rfl,.inl ⟨az.of f',fun t' ht'=>k t' _ ?_ ((Sn.trans S).trans (ab.new ht'))⟩⟩;rw [aa];unfold behF;rw [if_pos c]
  ·rintro i vs H' x' hx' hi ⟨rfl,S,f'⟩;obtain ⟨r,hr,rfl⟩:=bC hx';refine gN ?_;refine ⟨_,rfl,_,rfl,t,l1,l2,l3,l4,ts,J0,J1,J2,ds,r,rfl,T1.same S,m,fun H2 S2=>⟨_,rfl,?_⟩⟩;have hlen:(((J6.take i).filter fun r=>decide (r∉h7 ds)).map V.str).length<aj:=by
    rw [ai];refine au (bv (de _ _) ?_);rw [aX]; omega
   refine iN (fun hq=>?_) (fun hq=>?_)
   ·refine ⟨_,rfl,S2 _ _ f',hlen,o0 hi ⟨?_,?_,aa⟩⟩
    ·rw [cN hr,if_pos hq,aq]; rfl
    ·intro b o q;rw [af (ae q hf)];exact S2 _ _ (S _ _ q)
   ·refine o0 hi ⟨?_,S.trans S2,S2 _ _ f'⟩;rw [cN hr,if_neg hq,fD]
 ·rw [zzr0 c];refine ck ?_;refine ⟨_,rfl,_,rfl,.inr (.inl ⟨t,_,3,_,rfl,rfl,bj.of T1.t,rfl,l4,rfl,⟨_,az.of T1.a4⟩,fun f hf=>?_⟩)⟩;refine cC (xs:=ts.map V.ref) (fun i vs H'=>∃G:List Str,vs=G.map V.str/\ab H1 H'/\H' f=some (.lst vs)/\G.length<=i/\∀g,g∈G↔∃d∈ds.take i,d.a∈J6/\d.sg=sg/\d.b=g)
   ⟨[],rfl,ab.new hf,aa,aE _,fun g=>⟨fun h=>(by cases h),fun ⟨_,h,_⟩=>by simp at h⟩⟩ (fun i vs H' _ ⟨_,_,S,h',_⟩=>⟨h',az.of (S _ _ T1.a4)⟩) ?_ ?_
  rotate_left
  ·rintro i vs H' x' hx' hi ⟨G,rfl,S,f',hl,hG⟩;obtain ⟨u,hu,rfl⟩:=cP hx';obtain ⟨dr,hdr,hatd⟩:=Paired.getL T1.ds hu;obtain ⟨sb,ht2,hs2⟩:=hatd.kt (ab.kt S);have hi':i<ds.length:=(bP.mp hdr).1;have hstep:∀g,(∃d∈ds.take (i+1),d.a∈J6/\d.sg=sg/\d.b=g)↔((∃d∈ds.take i,d.a∈J6/\d.sg=sg/\d.b=g)∨(dr.a∈J6/\dr.sg=sg/\dr.b=g)):=by
    intro g;rw [take_snoc hdr];constructor
    ·rintro ⟨d,hd,h⟩;rcases bd.mp hd with hd | hd
     ·exact .inl ⟨d,hd,h⟩
     ·have:d=dr:=by simpa using hd
      subst this;exact .inr h
    ·rintro (⟨d,hd,h⟩ | h)
     ·exact ⟨d,cW _ hd,h⟩
     ·exact ⟨dr,dk _ (by simp),h⟩
   have keep:¬(dr.a∈J6/\dr.sg=sg)->∃m',m'<(ts.map V.ref).length-i/\Wc (ts.map V.ref).length (fun i vs H'=>∃G:List Str,vs=G.map V.str/\ab H1 H'/\H' f=some (.lst vs)/\G.length<=i/\∀g,g∈G↔∃d∈ds.take i,d.a∈J6/\d.sg=sg/\d.b=g) (i+1) m' (G.map V.str) H':=by
    intro z;refine o0 hi ⟨G,rfl,S,f',by omega,fun g=>?_⟩;rw [hstep,hG];exact ⟨.inl,fun h=>h.elim id fun h=>absurd ⟨h.1,h.2.1⟩ z⟩
   refine gN ?_;refine ⟨_,rfl,.inr (.inl ⟨u,_,0,_,rfl,rfl,bj.of ht2,rfl,_,rfl,gu dr.a,J6.map gu,ft,_,kN _,rfl,.inr (bj.same S ft1),ki _,(by show 0<=8; decide),by rw [eP]; decide,_,rfl,?_⟩)⟩;rw [if_neg fN,rP];by_cases c1:dr.a∈J6;rotate_left
   ·rw [zzr0 c1];exact ck (ck (keep fun z=>c1 z.1))
   rw [zzr1 c1];refine dh ?_;refine ⟨_,rfl,.inr (.inl ⟨u,_,1,_,rfl,rfl,bj.of ht2,rfl,_,rfl,jW dr.sg,jW sg,bD (bj.of hs2),bD (bj.same S hs1),by rw [b0]; decide,by rw [b0]; decide,_,rfl,?_⟩)⟩;rw [mj];by_cases c2:dr.sg=sg;rotate_left
   ·rw [zzr0 c2];exact ck (keep fun z=>c2 z.2)
   rw [zzr1 c2];refine dh ?_;refine ⟨_,rfl,.inr (.inl ⟨u,_,2,_,rfl,rfl,bj.of ht2,rfl,f',by rw [ai]; exact au (by omega),o0 hi ⟨G++[dr.b],by rw [aq]; rfl,?_,aa,by rw [ay]; show G.length+1<=i+1; omega,fun g=>?_⟩⟩)⟩
   ·intro b o q;rw [af (ae q hf)];exact S _ _ q
   ·rw [hstep,<-hG,bd];simp only [bF];exact ⟨fun h=>h.imp id fun h=>⟨c1,c2,h.symm⟩,fun h=>h.imp id fun h=>h.2.2.symm⟩
  rintro vs H2 ⟨G,rfl,S2,f2,hl,hG⟩;rw [ai,Paired.length T.ds] at hl;rw [ai,Paired.length T.ds,bh] at hG;refine ⟨t,f,l1,l2,l3,l4,ts,J0,J1,J2,G,ds,rfl,T1.same S2,m,f2,by omega,fun t' H' h1 S'=>k t' H' ?_ ((Sn.trans S2).trans S')⟩;rw [h1];unfold behF;rw [if_neg c]
  suffices e0:closF J2 ds G=closF J2 ds (db ds sg J6) by rw [e0]
  refine zH fun g=>?_;rw [hG,o8];constructor
  ·rintro ⟨⟨a,sgd,b⟩,hd,h1,h2,h3⟩;simp only at h1 h2 h3;subst h2 h3;exact ⟨a,h1,hd⟩
  ·rintro ⟨r,hr,h⟩;exact ⟨_,h,hr,rfl,rfl⟩
theorem BI {K:Za}{H:Hp}:∀xs:List Str,TKIns K H (xs.map oP) (xs.map V.str)
 | []=>by show TKIns K H [] []; unfold TKIns; rfl
 | x::xs=>by
  rw [bc,bc];unfold TKIns;refine ⟨_,_,rfl,?_,BI xs⟩;unfold oP lN
  rfl
theorem bV.sq {K:Za}{H:Hp}{a:Addr}{xs:List V}(h:bV K H a xs):bj K H a xs:=h.imp .inl id
theorem wI {K:Za}{H:Hp}{a:Addr}{f:Zb}(h:bV K H a (f.map V.str)):lN K H (iW f) (.ref a):=by
 unfold iW lN;exact ⟨a,_,rfl,bV.sq h,BI f⟩
def z_ (K:Za) :TS :=
 ap (aK (cq (aT)) U2)
 (ap (nG (tB (Ea (fU K V0 V1))) (ap (aK (fU K V0 V1) (fG K 2 (aN U1 (aN U3 (fy)))))
 (bH (oG K "list" bX V2 (aA V3)))))
 (ap (bH (FV K "list" yP V2))
 (bB V2)))
def Bi:List Str:=["came","place","story","sign"]
def uj (K:Za) (sp_story_to:Sp):TS :=
 ap (aK (wS K (be (aS (tC (.int 0)) (tC (.int 0)))) (tC .non)) U2)
 (ap (aK (cq (aA (be (aS (tC (.int 0)) (tC (.int 0)))))) U3)
 (ap (aK (tC (.int 0)) U4)
 (ap (nG (aO (aD C4 V4 (fu (d9 K) (aA V3)))) (ap (aK (aD (cU K) V3 V4) U5)
 (ap (Ii 4 (tC (.int 1)) (ipI fun i j=>i+j))
 (ap (aK (aD (cU K) V0 (aD (fO K) V5 (tC (.int 0)))) U6)
 (eC (xA K (aD (cU K) V1 (aD (fO K) V5 (tC (.int 1))))) (fG K 2 (aN U7 (aN U8 (fy)))) (cx (tB (eV K V7 V6)) (cx (aO (aD Hu (aD (fO K) V7 (tC (.int 0))) (tC (.str "ask")))) (bB (be (aS (aM sp_story_to (ar V2 (aA V5))) V7))) (bG)) (cx (tB (eV K (be (aS (fU K V6 V7) V8)) V2)) (ap (p6 K V2 (be (aS (fU K V6 V7) V8)) (be (aS V5 V7)))
 (bH (oG K "list" bX V3 (aA (be (aS (fU K V6 V7) V8)))))) (bG))))))))
 (bB (tC .non)))))
def uQ:List Str:=["model_steps","machine_steps","came","pairs","looked","here","wanted","sign","goal"]
def ug (K:Za) (C_Machine:Addr) (sp_Machine_is_quiet:Sp) (a_HUSH:Addr) (sp_Machine_doors_from:Sp) (a_STILL:Addr):TS :=
 ap (aK (cq (aT)) U4)
 (ap (eC (cb K (dB C_Machine "doors_from" sp_Machine_doors_from [] E0 V0 (aA V1))) (fG K 3 (aN U5 (aN U6 (aN U7 (fy))))) (cx (aO (aD (jn K) V6 (tC (.ref a_STILL)))) (bH (oG K "list" bX V4 (aA (be (aS V7 V2))))) (cx (D_ (tB (An K V6 V3)) (aO (aD AA (aD (fO K) V6 (tC (.int 0))) (tC (.str "say"))))) (bH (oG K "list" bX V4 (aA (be (aS V7 (wX K V3 V6)))))) (bG))))
 (ap (cx (tB (dB C_Machine "is_quiet" sp_Machine_is_quiet [] E0 V0 (aA V1))) (bH (oG K "list" bX V4 (ar (be (aS V1 (wX K V3 (tC (.ref a_HUSH))))) aT))) (bG))
 (bB V4)))
def uN:List Str:=["I","room","face","steps","rows","start","sign","goal"]
def Ab (K:Za) (sp_rows_needed:Sp) (C_Machine:Addr) (sp_Machine_rooms:Sp):TS :=
 ap (aK (be (aS (aD (cU K) (dB C_Machine "rooms" sp_Machine_rooms [] E0 V1 aT) (tC (.int 0))) (tC (.int 0)))) U2)
 (ap (aK (wS K V2 (tC (.bl true))) U3)
 (ap (aK (cq (aA V2)) U4)
 (ap (nG (aO (aD Ey (fu (d9 K) (aA V4)) (tC (.int 0)))) (ap (aK (FV K "list" Ht V4) (fG K 2 (aN U5 (aN U6 (fy)))))
 (eC (cb K (aM sp_rows_needed (ar V1 (eU V5 V6 (aD (cU K) (fT K V0 "steps") V6))))) U7 (cx (tB (eV K V7 V3)) (ap (p6 K V3 V7 (tC (.bl true)))
 (bH (oG K "list" bX V4 (aA V7)))) (bG)))))
 (bB (dC 2 [0] (Fd K V3) (fG K 2 (aN U0 (aN U1 (fy)))) (j5) (be (aS V0 (aD (cU K) (fT K V2 "faces") V1))))))))
def Bk:List Str:=["model","I","first","rows","waiting","room","number","row"]
def FU (K:Za) (sp_paper_of:Sp) (sp_least_fault:Sp) (C_FaceMap:Addr) (sp_FaceMap_init:Sp) (sp_need_taker:Sp):TS :=
 ap (bH (aM sp_need_taker (aS V0 V1)))
 (ap (aK (yu C_FaceMap sp_FaceMap_init [] E0 (aA V0)) U2)
 (ap (aK (aM sp_least_fault (aS (fT K V2 "steps") (fT K (yu C_FaceMap sp_FaceMap_init [] E0 (aA V1)) "steps"))) U3)
 (ap (cx (tB (Ih V3)) (bB (be (aS (tC (.str "keeps")) (aM sp_paper_of (ar V2 (aA V1)))))) (bG))
 (ap (aK V3 (fG K 2 (aN U4 (aN U5 (fy)))))
 (bB (be (eU (tC (.str "fault")) V4 V5)))))))
def GZ:List Str:=["M","I","model","fault","story","sign"]
abbrev Pr:=Nat×Nat
structure br where
 key:Pr
 from_:Option (Pr×Sg)
 story:List Sg
def iO (P:List br) (k:Pr):Bool:=P.any fun c=>decide (c.key=k)
def bM (l:List (Sg×Nat)) (sg:Sg):Option Nat:=(l.find? fun p=>decide (p.1=sg)).map (·.2)
def eN (wanted:List (Sg×Nat)) (here:br) (q:List br×Option Sg) (p:Sg×Nat):List br×Option Sg :=
 match q.2 with
 | some _=>q
 | none=>match bM wanted p.1 with
  | none=>if p.1.head?=some ("ask":Str) then q else (q.1,some p.1)
  | some w=>if iO q.1 (w,p.2)=true then q else (q.1++[⟨(w,p.2),some (here.key,p.1),here.story++[p.1]⟩],none)
def cw (wanted:List (Sg×Nat)) (here:br) (P:List br) (l:List (Sg×Nat)):List br×Option Sg:=l.foldl (eN wanted here) (P,none)
structure qA (ms ws:List (List (Sg×Nat))) (P:List br):Prop where
 zero:∃r,P=⟨(0,0),none,[]⟩::r
 nd:(P.map (·.key)).Nodup
 back:∀(i:Nat) (c:br),P[i]?=some c->i=0∨∃(j:Nat) (b:br) (sg:Sg),j<i/\P[j]?=some b/\c.from_=some (b.key,sg)/\c.story=b.story++[sg]/\bM (ws.getD b.key.1 []) sg=some c.key.1/\(sg,c.key.2)∈ms.getD b.key.2 []
theorem lH {P:List br}{k:Pr}:iO P k=true↔k∈P.map (·.key):=by
 unfold iO;rw [List.any_eq_true,aB];exact ⟨fun ⟨c,h,e⟩=>⟨c,h,of_decide_eq_true e⟩,fun ⟨c,h,e⟩=>⟨c,h,zzr1 e⟩⟩
theorem Dw (ms ws:List (List (Sg×Nat))):qA ms ws [⟨(0,0),none,[]⟩]:=by
 refine ⟨⟨[],rfl⟩,by simp,fun i c h=>?_⟩;rcases vR i with z | z
 ·exact .inl z
 ·rw [fE (by show 1<=i; exact z)] at h; cases h
theorem qA.add {ms ws:List (List (Sg×Nat))}{P:List br}(h:qA ms ws P) {j:Nat}{b:br}{sg:Sg}{w g:Nat}(hj:P[j]?=some b) (hn:iO P (w,g)=false) (hw:bM (ws.getD b.key.1 []) sg=some w) (hg:(sg,g)∈ms.getD b.key.2 []) :
  qA ms ws (P++[⟨(w,g),some (b.key,sg),b.story++[sg]⟩]):=by
 have lt:j<P.length:=by
  rcases eE j P.length with z | z
  ·exact z
  ·rw [fE z] at hj; cases hj
 obtain ⟨r,e⟩:=h.zero;refine ⟨⟨r++[⟨(w,g),some (b.key,sg),b.story++[sg]⟩],by rw [e]; rfl⟩,?_,fun i c hc=>?_⟩
 ·rw [aq,cH];refine ⟨h.nd,by simp,fun x hx y hy z=>?_⟩;have:iO P (w,g)=true:=lH.2 (by rw [<-show y=(w,g) from by simpa using hy,<-z]; exact hx);rw [hn] at this; cases this
 ·rcases eE i P.length with z | z
  ·rw [dg z] at hc;rcases h.back i c hc with q | ⟨j',b',sg',q1,q2,q3⟩
   ·exact .inl q
   ·exact .inr ⟨j',b',sg',q1,by rw [dg (by omega)]; exact q2,q3⟩
  ·rw [lc z] at hc;have h0:i-P.length=0:=by
    rcases vR (i-P.length) with q | q
    ·exact q
    ·rw [fE (by show 1<=_; exact q)] at hc; cases hc
   rw [h0] at hc;injection hc with hc;subst hc;exact .inr ⟨j,b,sg,by omega,by rw [dg lt]; exact hj,rfl,rfl,hw,hg⟩
theorem EW {ms ws:List (List (Sg×Nat))}{P:List br}(h:qA ms ws P) {j:Nat}{b:br}(hj:P[j]?=some b) (l:List (Sg×Nat)) (hl:∀p∈l,p∈ms.getD b.key.2 []) :
  (∃r,(cw (ws.getD b.key.1 []) b P l).1=P++r)/\qA ms ws (cw (ws.getD b.key.1 []) b P l).1/\∀sg,(cw (ws.getD b.key.1 []) b P l).2=some sg->(∃g,(sg,g)∈l)/\bM (ws.getD b.key.1 []) sg=none/\sg.head?≠some ("ask":Str):=by
 have key:∀n,n<=l.length->(∃r,(cw (ws.getD b.key.1 []) b P (l.take n)).1=P++r)/\qA ms ws (cw (ws.getD b.key.1 []) b P (l.take n)).1/\∀sg,(cw (ws.getD b.key.1 []) b P (l.take n)).2=some sg->(∃g,(sg,g)∈l)/\bM (ws.getD b.key.1 []) sg=none/\sg.head?≠some ("ask":Str):=by
  intro n
  induction n with
  | zero=>intro _; exact ⟨⟨[],(fD _).symm⟩,h,fun sg e=>by cases e⟩
  | succ n ih =>
   intro hn;obtain ⟨⟨r,e1⟩,h2,h3⟩:=ih (by omega);have hp:l[n]?=some l[n]:=bE (by omega);have es:cw (ws.getD b.key.1 []) b P (l.take (n+1))=eN (ws.getD b.key.1 []) b (cw (ws.getD b.key.1 []) b P (l.take n)) l[n]:=by
    unfold cw; rw [take_snoc hp,jX]; rfl
   rw [es];generalize cw (ws.getD b.key.1 []) b P (l.take n)=q at e1 h2 h3;have hm:l[n]∈l:=jY _;generalize l[n]=p at hm;unfold eN;cases e2:q.2 with
   | some s=>exact ⟨⟨r,e1⟩,h2,fun sg e=>h3 sg e⟩
   | none =>
    cases e3:bM (ws.getD b.key.1 []) p.1 with
    | none =>
     by_cases c:p.1.head?=some ("ask":Str)
     ·simp only [c,if_true];exact ⟨⟨r,e1⟩,h2,fun sg e=>h3 sg e⟩
     ·simp only [c,if_false];refine ⟨⟨r,e1⟩,h2,fun sg e=>?_⟩;injection e with e;subst e;exact ⟨⟨p.2,hm⟩,e3,c⟩
    | some w =>
     cases e4:iO q.1 (w,p.2) with
     | true =>
      simp only [e4,if_true];exact ⟨⟨r,e1⟩,h2,fun sg e=>h3 sg e⟩
     | false =>
      simp only [e4,k_,if_false];refine ⟨⟨r++[⟨(w,p.2),some (b.key,p.1),b.story++[p.1]⟩],by rw [e1,df]⟩,h2.add (j:=j) (b:=b) ?_ e4 e3 (hl p hm),fun sg e=>by cases e⟩;rw [e1,dg (by rcases eE j P.length with z | z; exact z; rw [fE z] at hj; cases hj)];exact hj
 have:=key l.length (aE _);rw [bh] at this;exact this
def oh (k:Pr):TK:=.t [.k (.inl (k.1:Int)),.k (.inl (k.2:Int))]
theorem BX {a b:Pr}(h:oh a=oh b):a=b:=by
 unfold oh at h;injection h with h;injection h with h1 h2;injection h2 with h2 _;injection h1 with h1;injection h2 with h2;injection h1 with h1;injection h2 with h2;obtain ⟨a1,a2⟩:=a;obtain ⟨b1,b2⟩:=b;simp only at h1 h2;rw [show a1=b1 by omega,show a2=b2 by omega]
theorem fM (k:Pr):(oh k).depth<=8:=by
 show max 0 (max 0 0)+1<=8
 decide
abbrev lO (H:Hp) (a:Addr) (k:Pr):Prop:=H a=some (.tup [.int (k.1:Nat),.int (k.2:Nat)])
theorem lO.tk {H:Hp}{a:Addr}{k:Pr}(h:lO H a k):cT H (oh k) (.ref a):=by
 unfold oh cT;refine ⟨a,_,rfl,h,?_⟩;unfold TKAts;refine ⟨_,_,rfl,?_,?_⟩
 ·unfold cT; rfl
 unfold TKAts;refine ⟨_,_,rfl,?_,?_⟩
 ·unfold cT; rfl
 unfold TKAts
 rfl
def pC (K:Za) (H:Hp) (c:br) (v:V):Prop:=match c.from_ with
 | none=>v=.non
 | some (k,sg)=>∃t ha g,v=.ref t/\H t=some (.tup [.ref ha,.ref g])/\lO H ha k/\bV K H g (sg.map V.str)
theorem pC.kt {K:Za}{H H':Hp}{c:br}{v:V}(k:fP H H') (h:pC K H c v):pC K H' c v:=by
 unfold pC at h ⊢;cases e:c.from_ with
 | none=>rw [e] at h; exact h
 | some p =>
  rw [e] at h;obtain ⟨t,ha,g,h1,h2,h3,h4⟩:=h;exact ⟨t,ha,g,h1,k _ _ h2,k _ _ h3,bV.kt k h4⟩
abbrev ia (K:Za) (H:Hp) (kvs:List (TK×V)) (P:List br):Prop:=Paired (fun (kv:TK×V) (c:br)=>kv.1=oh c.key/\pC K H c kv.2) kvs P
theorem ia.kt {K:Za}{H H':Hp}{kvs:List (TK×V)}{P:List br}(k:fP H H') (h:ia K H kvs P):ia K H' kvs P:=Paired.mapP h fun _ _ r=>⟨r.1,r.2.kt k⟩
theorem ia.val {K:Za}{H:Hp}:∀{kvs:List (TK×V)}{P:List br},ia K H kvs P->(P.map (·.key)).Nodup->∀{i:Nat}{c:br},P[i]?=some c->∃v,bQ kvs (oh c.key)=some v/\pC K H c v
 | _,_,.nil,_,i,c,h=>by simp at h
 | _,_,.cons (a:=kv) (b:=b) r t,nd,0,c,h=>by
  injection h with h;subst h;exact ⟨kv.2,cD r.1,r.2⟩
 | _,_,.cons (a:=kv) (b:=b) r t,nd,i+1,c,h=>by
  rw [bc,mK] at nd;rw [List.getElem?_cons_succ] at h;obtain ⟨v,h1,h2⟩:=ia.val t nd.2 (i:=i) h;refine ⟨v,?_,h2⟩;rw [cz,h1];intro z;rw [r.1] at z;exact nd.1 (by rw [BX z]; exact jZ (f:=(·.key)) (aP h))
theorem ia.none {K:Za}{H:Hp}{kvs:List (TK×V)}{P:List br}(h:ia K H kvs P) {k:Pr}(n:iO P k=false):bQ kvs (oh k)=.none:=by
 refine wH ?_
 induction h with
 | nil=>intro kv hk; exact nomatch hk
 | @cons a b as bs r t ih =>
  intro kv hk;have n':decide (b.key=k)=false/\iO bs k=false:=by
   unfold iO at n ⊢;rw [nh,Bool.or_eq_false_iff] at n;exact n
  rcases c9.1 hk with rfl | hk
  ·rw [r.1]; exact fun e=>of_decide_eq_false n'.1 (BX e)
  ·exact ih n'.2 kv hk
theorem Paired.rev {α β:Type}{R:α->β->Prop}:∀{a:List α}{b:List β},Paired R a b->Paired R a.reverse b.reverse
 | _,_,.nil=>.nil
 | _,_,.cons r t=>by
  rw [wB,wB];exact Paired.app (Paired.rev t) (.cons r .nil)
inductive fF (K:Za) (vs:List V) (H:Hp) (Q:VK) (E:XK):Prop
 | mk (cd pa:Addr) (kvs:List (TK×V)) (ms ws:List (List (Sg×Nat))) (P:List br) (i:Nat) (c:br):(vs=[.ref cd,.ref pa])->(H cd=some (.dT kvs))->(ia K H kvs P)->(qA ms ws P)->(P[i]?=some c)->(lO H pa c.key)->(P.length<=100000)->(∀(l:Addr) (gs:Ze) (H':Hp),H' l=some (.lst (gs.map V.ref))->Paired (fun g (sg:Sg)=>bV K H' g (sg.map V.str)) gs c.story->H l=none->ab H H'->Q (.ref l) H')->fF K vs H Q E
theorem Au {K:Za}{vs:List V}{H:Hp}{Q:VK}{E:XK}(h:fF K vs H Q E):z_ K (bJ Q) (start Bi vs) H:=by
 obtain ⟨cd,pa,kvs,ms,ws,P,i,c,rfl,hcd,hP,ok,hc,hpa,hz,k⟩:=h;refine ⟨(by show 0<=aj; decide),fun l hl=>?_⟩;have hi:i<P.length:=by
  rcases eE i P.length with z | z
  ·exact z
  ·rw [fE z] at hc; cases hc
 refine ⟨fun m σ H'=>∃(pa:Addr) (c':br) (gs:Ze) (L:List Sg) (x3:Option V),σ=[some (.ref cd),some (.ref pa),some (.ref l),x3]/\P[m]?=some c'/\H' l=some (.lst (gs.map V.ref))/\Paired (fun g (sg:Sg)=>bV K H' g (sg.map V.str)) gs L/\c.story=c'.story++L.reverse/\lO H' pa c'.key/\L.length+m<=i/\ab H H',
  ⟨i,pa,c,[],[],_,rfl,hc,aa,.nil,(fD _).symm,kp hpa hl,by simp,ab.new hl⟩,?_⟩
 rintro m σ H1 ⟨pa,c',gs,L,x3,rfl,hc',hl1,hg,es,hpa1,hlen,S1⟩;have P1:=hP.kt (ab.kt S1);have cd1:=S1 _ _ hcd;obtain ⟨v,hv,cv⟩:=P1.val ok.nd hc';have g1:kz K H1 cd (.ref pa) (some v):=.inr ⟨_,oh c'.key,pa,.inl cd1,rfl,cT.isIn 8 (fM _) hpa1.tk,fM _,hv.symm⟩;refine ⟨_,rfl,_,rfl,cd,v,rfl,g1,_,rfl,?_⟩;unfold pC at cv;cases ef:c'.from_ with
 | none =>
  rw [ef] at cv;subst cv;refine ck ?_;have m0:m=0:=by
   rcases ok.back m c' hc' with q | ⟨j,b,sg,_,_,q,_⟩
   ·exact q
   ·rw [ef] at q; cases q
  subst m0;obtain ⟨r,er⟩:=ok.zero;rw [er] at hc';injection hc' with hc';have es':c.story=L.reverse:=by rw [es,<-hc']; rfl
  refine ⟨_,rfl,.inl ⟨rfl,_,az.of hl1⟩,l,_,rfl,rfl,hl1,?_⟩;have kt:fP H1 (upd H1 l (.lst (gs.map V.ref).reverse)):=cr hl1;refine ⟨_,rfl,k l gs.reverse _ (by rw [aa,List.map_reverse]) ?_ hl fun b o e=>by rw [af (ae e hl)]; exact S1 _ _ e⟩;rw [es'];exact Paired.rev (Paired.mapP hg fun _ _ r=>bV.kt kt r)
 | some kp' =>
  obtain ⟨kk,sg⟩:=kp';rw [ef] at cv;obtain ⟨t,ha,g,rfl,ht,hha,hgs⟩:=cv;refine dh ?_;have par:∃(j:Nat) (b:br),j<m/\P[j]?=some b/\b.key=kk/\c'.story=b.story++[sg]:=by
   rcases ok.back m c' hc' with q | ⟨j,b,sg',lt,hb,q,e,_⟩
   ·subst q;obtain ⟨r,er⟩:=ok.zero;rw [er] at hc';injection hc' with hc';rw [<-hc'] at ef;cases ef
   ·rw [ef] at q;injection q with q;injection q with q1 q2;subst q2;exact ⟨j,b,lt,hb,q1.symm,e⟩
  obtain ⟨j,b,lt,hb,rfl,eb⟩:=par;refine ⟨fun σ' H'=>∃(pa:Addr) (gs:Ze) (x3:Option V),σ'=[some (.ref cd),some (.ref pa),some (.ref l),x3]/\H' l=some (.lst (gs.map V.ref))/\Paired (fun g (sg:Sg)=>bV K H' g (sg.map V.str)) gs (L++[sg])/\lO H' pa b.key/\ab H H',fun σ' H' ⟨pa,gs,x3,q1,q2,q3,q4,q5⟩=>⟨j,lt,pa,b,gs,L++[sg],x3,q1,hb,q2,q3,?_,q4,?_,q5⟩,?_⟩
  ·rw [es,eb,List.reverse_append,df]; rfl
  ·rw [ay]; show L.length+1+j<=i; omega
  refine ⟨_,rfl,_,rfl,cd,_,rfl,g1,t,_,rfl,bj.of ht,rfl,_,_,rfl,_,_,rfl,rfl,?_⟩;refine ⟨_,rfl,.inl ⟨rfl,_,az.of hl1⟩,_,rfl,l,_,.ref g,rfl,rfl,hl1,?_,ha,gs++[g],_,rfl,?_,?_,?_,?_⟩
  ·rw [ai,Paired.length hg,gv]; omega
  ·rw [aa,aq]; rfl
  ·have kt:fP H1 (upd H1 l (.lst (gs.map V.ref++[.ref g]))):=cr hl1;exact cp (Paired.mapP hg fun _ _ r=>bV.kt kt r) (bV.kt kt hgs)
  ·exact cr hl1 _ _ hha
  ·intro b' o e;rw [af (ae e hl)];exact S1 _ _ e
theorem C5 {P:List Pr}{a b:Nat}(nd:P.Nodup) (h:∀p∈P,p.1<a/\p.2<b):P.length<=a * b:=by
 have h1:=iz (L:=P.map fun p=>p.1 * b+p.2) (R:=jz (a * b)) ?_ ?_
 ·rw [ai,si] at h1; exact h1
 ·rw [pK,List.pairwise_map];refine List.Pairwise.imp_of_mem (fun {x y} hx hy hne e=>hne ?_) (pK.1 nd);obtain ⟨x1,x2⟩:=x;obtain ⟨y1,y2⟩:=y;have hx:=(h _ hx).2;have hy:=(h _ hy).2;simp only at hx hy e;have bp:0<b:=by omega
  have e1:x1=y1:=by
   have:=congrArg (· / b) e;simp only [Nat.add_comm (x1 * b),Nat.add_comm (y1 * b),Nat.add_mul_div_right _ _ bp,Nat.div_eq_of_lt hx,Nat.div_eq_of_lt hy,vP] at this;exact this
  subst e1;rw [show x2=y2 by omega]
 ·intro x hx;obtain ⟨p,hp,rfl⟩:=aB.1 hx;obtain ⟨h2,h3⟩:=h p hp;rw [List.mem_range];have:(p.1+1) * b<=a * b:=Nat.mul_le_mul_right b h2;rw [vT] at this;omega
def kO (ms ws:List (List (Sg×Nat))) (P:List br) (c:br):Prop:=∀p∈ms.getD c.key.2 [],match bM (ws.getD c.key.1 []) p.1 with
 | none=>p.1.head?=some ("ask":Str)
 | some w=>iO P (w,p.2)=true
theorem zm {P r:List br}{k:Pr}(h:iO P k=true):iO (P++r) k=true:=by
 unfold iO at h ⊢;rw [List.any_append,h]; rfl
theorem kO.mono {ms ws:List (List (Sg×Nat))}{P r:List br}{c:br}(h:kO ms ws P c):kO ms ws (P++r) c:=fun p hp=>by
 have:=h p hp;cases e:bM (ws.getD c.key.1 []) p.1 with
 | none=>rw [e] at this; exact this
 | some w=>rw [e] at this; exact zm this
theorem AM {ws:List (List (Sg×Nat))}{P:List br}{b:br}(l:List (Sg×Nat)) (h:(cw (ws.getD b.key.1 []) b P l).2=none):∀p∈l,match bM (ws.getD b.key.1 []) p.1 with
 | none=>p.1.head?=some ("ask":Str)
 | some w=>iO (cw (ws.getD b.key.1 []) b P l).1 (w,p.2)=true:=by
 have key:∀n,n<=l.length->(cw (ws.getD b.key.1 []) b P (l.take n)).2=none->∀p∈l.take n,match bM (ws.getD b.key.1 []) p.1 with
  | none=>p.1.head?=some ("ask":Str)
  | some w=>iO (cw (ws.getD b.key.1 []) b P (l.take n)).1 (w,p.2)=true:=by
  intro n
  induction n with
  | zero=>intro _ _ p hp; rw [rW] at hp; exact nomatch hp
  | succ n ih =>
   intro hn;have hp:l[n]?=some l[n]:=bE (by omega);have es:cw (ws.getD b.key.1 []) b P (l.take (n+1))=eN (ws.getD b.key.1 []) b (cw (ws.getD b.key.1 []) b P (l.take n)) l[n]:=by
    unfold cw; rw [take_snoc hp,jX]; rfl
   rw [es,take_snoc hp];have ih:=ih (by omega);generalize cw (ws.getD b.key.1 []) b P (l.take n)=q at ih;generalize l[n]=p at *;intro h0 x hx;have q0:q.2=none:=by
    unfold eN at h0;cases e:q.2 with
    | none=>rfl
    | some s=>rw [e] at h0; simp only at h0; rw [e] at h0; exact h0
   unfold eN at h0 ⊢;rw [q0] at h0 ⊢;rcases bd.1 hx with hx | hx
   ·have:=ih q0 x hx;cases e:bM (ws.getD b.key.1 []) x.1 with
    | none=>rw [e] at this; exact this
    | some w =>
     rw [e] at this;simp only at this ⊢;cases e3:bM (ws.getD b.key.1 []) p.1 with
     | none =>
      by_cases c:p.1.head?=some ("ask":Str)
      ·simp only [c,if_true]; exact this
      ·simp only [c,if_false]; exact this
     | some w' =>
      cases e4:iO q.1 (w',p.2) with
      | true=>simp only [e4,if_true]; exact this
      | false=>simp only [e4,k_,if_false]; exact zm this
   ·have:x=p:=by simpa using hx
    subst this;cases e3:bM (ws.getD b.key.1 []) x.1 with
    | none =>
     rw [e3] at h0;by_cases c:x.1.head?=some ("ask":Str)
     ·exact c
     ·simp only [c,if_false] at h0; cases h0
    | some w =>
     simp only;cases e4:iO q.1 (w,x.2) with
     | true=>simp only [e4,if_true]
     | false =>
      simp only [e4,k_,if_false];exact lH.2 (by rw [aq]; exact dk _ (by simp))
 have:=key l.length (aE _);rw [bh] at this;exact this h
theorem qh {l:List (Sg×Nat)}{sg:Sg}:bQ (stK l) (iW sg)=(bM l sg).map fun n=>V.int (n:Nat):=by
 unfold bM stK
 induction l with
 | nil=>rfl
 | cons p l ih =>
  rw [bc];by_cases c:p.1=sg
  ·rw [cD (by show iW p.1=iW sg; rw [c]),List.find?_cons_of_pos (by simpa using c)]; rfl
  ·rw [cz (fun z=>c (i7 z)),List.find?_cons_of_neg (by simpa using c),ih]
structure mH (H0 H:Hp) (a1 a2:Addr) (ts1 ts2:Ze) (ws ms:List (List (Sg×Nat))):Prop where
 h1:H a1=some (.lst (ts1.map V.ref))
 h2:H a2=some (.lst (ts2.map V.ref))
 r1:zW H0 H ts1 ws
 r2:zW H0 H ts2 ms
 S:ab H0 H
theorem mH.same {H0 H H':Hp}{a1 a2:Addr}{ts1 ts2:Ze}{ws ms:List (List (Sg×Nat))}(h:mH H0 H a1 a2 ts1 ts2 ws ms) (S:ab H H'):mH H0 H' a1 a2 ts1 ts2 ws ms :=
 ⟨S _ _ h.h1,S _ _ h.h2,Paired.mapP h.r1 fun _ _ r=>⟨r.1,Rd.same S r.2⟩,Paired.mapP h.r2 fun _ _ r=>⟨r.1,Rd.same S r.2⟩,h.S.trans S⟩
theorem Rd.ne {H:Hp}{a d:Addr}{k:List (TK×V)}{o:HO}(n:a≠d) (h:Rd H a (.dT k)):Rd (upd H d o) a (.dT k):=by
 rcases h with h | ⟨q,h⟩
 ·exact .inl (by rw [af n]; exact h)
 ·exact .inr ⟨q,by rw [af n]; exact h⟩
theorem mH.own {H0 H:Hp}{a1 a2 d:Addr}{o:HO}{ts1 ts2:Ze}{ws ms:List (List (Sg×Nat))}(h:mH H0 H a1 a2 ts1 ts2 ws ms) (d0:H0 d=none) (n1:a1≠d) (n2:a2≠d) (m1:∀t∈ts1,t≠d) (m2:∀t∈ts2,t≠d):mH H0 (upd H d o) a1 a2 ts1 ts2 ws ms:=by
 have mem:∀{ts:Ze}{st:List (List (Sg×Nat))},zW H0 H ts st->(∀t∈ts,t≠d)->zW H0 (upd H d o) ts st:=by
  intro ts st r
  induction r with
  | nil=>intro _; exact .nil
  | @cons a b as bs q t ih=>intro m; exact .cons ⟨q.1,Rd.ne (m a dA) q.2⟩ (ih fun x hx=>m x (fx _ hx))
 exact ⟨by rw [af n1]; exact h.h1,by rw [af n2]; exact h.h2,mem h.r1 m1,mem h.r2 m2,fun b q e=>by rw [af (ae e d0)]; exact h.S _ _ e⟩
theorem mH.frz {H0 H:Hp}{a1 a2 d:Addr}{o:Obj}{kvs:List (TK×V)}{ts1 ts2:Ze}{ws ms:List (List (Sg×Nat))}(h:mH H0 H a1 a2 ts1 ts2 ws ms) (d0:H0 d=none) (hd:H d=some (.dT kvs)):mH H0 (upd H d (.frz o (.dT kvs))) a1 a2 ts1 ts2 ws ms :=
 ⟨by rw [af (fun z=>by have:=h.h1; rw [z,hd] at this; cases this)]; exact h.h1,by rw [af (fun z=>by have:=h.h2; rw [z,hd] at this; cases this)]; exact h.h2,
  Paired.mapP h.r1 fun _ _ r=>⟨r.1,Rd.frz hd r.2⟩,Paired.mapP h.r2 fun _ _ r=>⟨r.1,Rd.frz hd r.2⟩,fun b q e=>by rw [af (ae e d0)]; exact h.S _ _ e⟩
theorem zW.ne {H0 H:Hp}{d:Addr}{ts:Ze}{st:List (List (Sg×Nat))}(h:zW H0 H ts st) (n:∀k,¬Rd H d (.dT k)):∀t∈ts,t≠d:=by
 induction h with
 | nil=>intro t ht; exact nomatch ht
 | @cons a b as bs q t ih =>
  intro x hx;rcases c9.1 hx with rfl | hx
  ·intro z; subst z; exact n _ q.2
  ·exact ih x hx
structure ip (K:Za) (H0 H:Hp) (a1 a2 cd pl:Addr) (ts1 ts2 prs:Ze) (kvs:List (TK×V)) (ws ms:List (List (Sg×Nat))) (P:List br):Prop where
 i:mH H0 H a1 a2 ts1 ts2 ws ms
 hcd:H cd=some (.dT kvs)
 came:ia K H kvs P
 hpl:H pl=some (.lst (prs.map V.ref))
 hprs:Paired (fun a (c:br)=>lO H a c.key) prs P
 ok:qA ms ws P
 rg:∀c∈P,c.key.1<ts1.length/\c.key.2<ts2.length
 c0:H0 cd=none
 p0:H0 pl=none
 nc1:∀t∈ts1,t≠cd
 nc2:∀t∈ts2,t≠cd
 np1:a1≠pl
 np2:a2≠pl
theorem ip.same {K:Za}{H0 H H':Hp}{a1 a2 cd pl:Addr}{ts1 ts2 prs:Ze}{kvs:List (TK×V)}{ws ms:List (List (Sg×Nat))}{P:List br}(h:ip K H0 H a1 a2 cd pl ts1 ts2 prs kvs ws ms P) (S:ab H H'):ip K H0 H' a1 a2 cd pl ts1 ts2 prs kvs ws ms P :=
 ⟨h.i.same S,S _ _ h.hcd,h.came.kt (ab.kt S),S _ _ h.hpl,Paired.mapP h.hprs fun _ _ r=>S _ _ r,h.ok,h.rg,h.c0,h.p0,h.nc1,h.nc2,h.np1,h.np2⟩
theorem ip.few2 {K:Za}{H0 H:Hp}{a1 a2 cd pl:Addr}{ts1 ts2 prs:Ze}{kvs:List (TK×V)}{ws ms:List (List (Sg×Nat))}{P:List br}(h:ip K H0 H a1 a2 cd pl ts1 ts2 prs kvs ws ms P):P.length<=ts1.length * ts2.length:=by
 have:=C5 (P:=P.map (·.key)) (a:=ts1.length) (b:=ts2.length) h.ok.nd fun p hp=>by
  obtain ⟨c,hc,rfl⟩:=aB.1 hp;exact h.rg c hc
 rw [ai] at this;exact this
theorem ip.few {K:Za}{H0 H:Hp}{a1 a2 cd pl:Addr}{ts1 ts2 prs:Ze}{kvs:List (TK×V)}{ws ms:List (List (Sg×Nat))}{P:List br}(h:ip K H0 H a1 a2 cd pl ts1 ts2 prs kvs ws ms P) (z1:ts1.length<=256) (z2:ts2.length<=256):P.length<=65536:=by
 have:=h.few2;have h2:ts1.length * ts2.length<=256 * 256:=pH z1 z2;omega
theorem ip.frz {K:Za}{H0 H:Hp}{a1 a2 cd pl d:Addr}{o:Obj}{ts1 ts2 prs:Ze}{kvs kd:List (TK×V)}{ws ms:List (List (Sg×Nat))}{P:List br}(h:ip K H0 H a1 a2 cd pl ts1 ts2 prs kvs ws ms P) (d0:H0 d=none) (hd:H d=some (.dT kd)) (n:d≠cd):ip K H0 (upd H d (.frz o (.dT kd))) a1 a2 cd pl ts1 ts2 prs kvs ws ms P :=
 ⟨h.i.frz d0 hd,by rw [af n.symm]; exact h.hcd,h.came.kt (Df hd),by rw [af (fun z=>by have:=h.hpl; rw [z,hd] at this; cases this)]; exact h.hpl,Paired.mapP h.hprs fun _ _ r=>Df hd _ _ r,h.ok,h.rg,h.c0,h.p0,h.nc1,h.nc2,h.np1,h.np2⟩
theorem ip.add {K:Za}{H0 H:Hp}{a1 a2 cd pl:Addr}{ts1 ts2 prs:Ze}{kvs:List (TK×V)}{ws ms:List (List (Sg×Nat))}{P:List br}(h:ip K H0 H a1 a2 cd pl ts1 ts2 prs kvs ws ms P) {c:br}{v:V}{pa:Addr}(hn:iO P c.key=false) (hv:pC K H c v) (hpa:lO H pa c.key) (ok:qA ms ws (P++[c])) (rg:c.key.1<ts1.length/\c.key.2<ts2.length) :
  ip K H0 (upd (upd H cd (.dT (cO kvs (oh c.key) v))) pl (.lst (prs.map V.ref++[.ref pa]))) a1 a2 cd pl ts1 ts2 (prs++[pa]) (kvs++[(oh c.key,v)]) ws ms (P++[c]):=by
 have npc:pl≠cd:=fun z=>by have:=h.hpl; rw [z,h.hcd] at this; cases this
 have k1:fP H (upd H cd (.dT (cO kvs (oh c.key) v))):=Df h.hcd;have pl1:upd H cd (.dT (cO kvs (oh c.key) v)) pl=some (.lst (prs.map V.ref)):=by rw [af npc]; exact h.hpl
 have k2:fP H (upd (upd H cd (.dT (cO kvs (oh c.key) v))) pl (.lst (prs.map V.ref++[.ref pa]))):=k1.trans (cr pl1);have na1:a1≠cd:=fun z=>by have:=h.i.h1; rw [z,h.hcd] at this; cases this
 have na2:a2≠cd:=fun z=>by have:=h.i.h2; rw [z,h.hcd] at this; cases this
 have i1:=h.i.own (o:=.dT (cO kvs (oh c.key) v)) h.c0 na1 na2 h.nc1 h.nc2;have nr:∀k,¬Rd (upd H cd (.dT (cO kvs (oh c.key) v))) pl (.dT k):=fun k r=>by
  rcases r with r | ⟨o,r⟩
  ·rw [pl1] at r; cases r
  ·rw [pl1] at r; cases r
 refine ⟨i1.own h.p0 h.np1 h.np2 (zW.ne i1.r1 nr) (zW.ne i1.r2 nr),?_,?_,?_,?_,ok,?_,h.c0,h.p0,h.nc1,h.nc2,h.np1,h.np2⟩
 ·rw [af npc.symm,aa,fX _ (h.came.none hn)]
 ·exact cp (h.came.kt k2) ⟨rfl,hv.kt k2⟩
 ·rw [aa,aq]; rfl
 ·exact cp (Paired.mapP h.hprs fun _ _ r=>k2 _ _ r) (k2 _ _ hpa)
 ·intro x hx;rcases bd.1 hx with hx | hx
  ·exact h.rg x hx
  ·rw [bF.1 hx]; exact rg
structure Ja (ts1 ts2:Ze) (ws ms:List (List (Sg×Nat))):Prop where
 z1:ts1.length<=256
 z2:ts2.length<=256
 c1:∀i,∀p∈ws.getD i [],p.2<ts1.length
 c2:∀i,∀p∈ms.getD i [],p.2<ts2.length
 ne:∀i,∀p∈ms.getD i [],p.1≠[]
theorem ze {l:List (Sg×Nat)}{sg:Sg}{w:Nat}(h:bM l sg=some w):(sg,w)∈l:=by
 unfold bM at h;obtain ⟨p,hp,e⟩:=mW.1 h;have h1:=List.find?_some hp;have h2:=List.mem_of_find?_eq_some hp;obtain ⟨a,b⟩:=p;have h1:a=sg:=of_decide_eq_true h1;subst h1;have e:b=w:=e;subst e;exact h2
theorem DU {H:Hp}{a b:Addr}{x y:HO}(n:a≠b):upd (upd H a x) b y=upd (upd H b y) a x:=by
 funext c;unfold upd;by_cases h1:c=b
 ·by_cases h2:c=a
  ·exact absurd (h2.symm.trans h1) n
  ·simp [h1,h2,n.symm]
 ·by_cases h2:c=a
  ·simp [h1,h2,n]
  ·simp [h1,h2]
theorem ia.has {K:Za}{H:Hp}{kvs:List (TK×V)}{P:List br}(h:ia K H kvs P) (nd:(P.map (·.key)).Nodup) (k:Pr):(bQ kvs (oh k)).isSome=iO P k:=by
 cases e:iO P k with
 | false=>rw [h.none e]; rfl
 | true =>
  obtain ⟨c,hc,rfl⟩:=aB.1 (lH.1 e);obtain ⟨i,hi,ei⟩:=vQ hc;obtain ⟨v,h1,_⟩:=h.val nd (i:=i) (c:=c) (by rw [bE hi,ei]);rw [h1]; rfl
def AN (K:Za) (sp:Sp):TS :=
 cx (tB (eV K V7 V6)) (cx (aO (aD Hu (aD (fO K) V7 (tC (.int 0))) (tC (.str "ask")))) (bB (be (aS (aM sp (ar V2 (aA V5))) V7))) (bG)) (cx (tB (eV K (be (aS (fU K V6 V7) V8)) V2)) (ap (p6 K V2 (be (aS (fU K V6 V7) V8)) (be (aS V5 V7)))
 (bH (oG K "list" bX V3 (aA (be (aS (fU K V6 V7) V8)))))) (bG))
section
variable {K:Za}{H0:Hp}{a1 a2 cd pl ha wd md:Addr}{ts1 ts2:Ze}{ws ms:List (List (Sg×Nat))}{n:Nat}{b:br}{wl l:List (Sg×Nat)}{o:Obj}{D:mJ}
theorem GD (C:Ja ts1 ts2 ws ms) {H H':Hp}{prs:Ze}{kvs:List (TK×V)}{P:List br}{p:Sg×Nat}{sb pp:Addr}{x7 x8:Option V}(A:ip K H0 H a1 a2 cd pl ts1 ts2 prs kvs ws ms P) (hb:P[n]?=some b) (hha:lO H ha b.key) (hwd:Rd H wd (.dT (stK wl))) (ewl:wl=ws.getD b.key.1 []) (hp:p∈ms.getD b.key.2 []) (hsb:bV K H sb (p.1.map V.str)) (nwc:wd≠cd)
  (fault:∀(t lst:Addr) (gs:Ze) (H2:Hp),bM wl p.1=none->p.1.head?≠some ("ask":Str)->H2 t=some (.tup [.ref lst,.ref sb])->H2 lst=some (.lst (gs.map V.ref))->Paired (fun g (sg:Sg)=>bV K H2 g (sg.map V.str)) gs b.story->bV K H2 sb (p.1.map V.str)->H0 t=none->H0 lst=none->mH H0 H2 a1 a2 ts1 ts2 ws ms->D.rt (.ref t) H2)
  (next:∀(prs':Ze) (kvs':List (TK×V)) (H2:Hp),(eN wl b (P,none) p).2=none->ip K H0 H2 a1 a2 cd pl ts1 ts2 prs' kvs' ws ms (eN wl b (P,none) p).1->(∀x u,H x=some u->x≠cd->x≠pl->H2 x=some u)->D.nx [some (.ref a1),some (.ref a2),some (.ref cd),some (.ref pl),some (.int ((n:Int)+1)),some (.ref ha),some (.ref wd),some (.ref sb),some (.int (p.2:Nat))] H2) :
  AN K (fF K) D [some (.ref a1),some (.ref a2),some (.ref cd),some (.ref pl),some (.int ((n:Int)+1)),some (.ref ha),some (.ref wd),some (.ref sb),some (.int (p.2:Nat))] H:=by
 have few:=A.few C.z1 C.z2;have gw:∀{H:Hp},Rd H wd (.dT (stK wl))->bV K H sb (p.1.map V.str)->kz K H wd (.ref sb) ((bM wl p.1).map fun n=>V.int (n:Nat)):=fun hwd hsb=>.inr ⟨_,iW p.1,sb,hwd,rfl,wI hsb,dZ _,qh.symm⟩;refine ⟨_,rfl,_,rfl,wd,_,rfl,gw hwd hsb,_,rfl,?_⟩;cases e:bM wl p.1 with
 | none =>
  refine dh ?_;obtain ⟨s0,rest,es⟩:=List.exists_cons_of_ne_nil (C.ne _ p hp);have at0:pD (p.1.map V.str) 0=some (.str s0):=by rw [es]; exact bt (j:=0) rfl
  refine ⟨_,rfl,sb,_,0,_,rfl,rfl,bV.sq hsb,at0,rfl,_,rfl,?_⟩;refine Dl (P:=p.1.head?≠some ("ask":Str)) (by rw [es]; simp) (fun c=>?_) (fun c=>?_)
  ·refine ⟨_,rfl,_,rfl,cd,ha,kvs,ms,ws,P,n,b,rfl,A.hcd,A.came,A.ok,hb,hha,by omega,fun lst gs H2 hl hg hl0 S2=>⟨_,rfl,(by show 2<=aj; decide),fun t ht=>?_⟩⟩;have S3:ab H2 (upd H2 t (.tup [.ref lst,.ref sb])):=ab.new ht;exact fault t lst gs _ e c aa (S3 _ _ hl) (Paired.mapP hg fun _ _ r=>bV.kt (ab.kt S3) r) (bV.kt ((ab.kt S2).trans (ab.kt S3)) hsb) ((A.i.S.trans S2).free ht) (A.i.S.free hl0) (A.i.same (S2.trans S3))
  ·have c':=Classical.not_not.1 c;have e1:eN wl b (P,none) p=(P,none):=by unfold eN; simp only [e,c',if_true]
   exact next prs kvs H (by rw [e1]) (by rw [e1]; exact A) fun x u q _ _=>q
 | some w =>
  refine ck ?_;have gw1:∀{H:Hp},Rd H wd (.dT (stK wl))->bV K H sb (p.1.map V.str)->kz K H wd (.ref sb) (some (.int (w:Nat))):=fun h1 h2=>by
   have:=gw h1 h2;rw [e] at this;exact this
  have hw:=ze e;rw [ewl] at hw;have rg:w<ts1.length/\p.2<ts2.length:=⟨C.c1 _ _ hw,C.c2 _ _ hp⟩;have l2:([V.int (w:Nat),V.int (p.2:Nat)]:List V).length<=aj:=by show 2<=aj; decide
  refine ⟨_,rfl,_,rfl,wd,_,rfl,gw1 hwd hsb,_,rfl,l2,fun p1 hp1=>?_⟩;have S1:ab H (upd H p1 (.tup [.int (w:Nat),.int (p.2:Nat)])):=ab.new hp1;have pr1:lO (upd H p1 (.tup [.int (w:Nat),.int (p.2:Nat)])) p1 (w,p.2):=aa;generalize upd H p1 (.tup [.int (w:Nat),.int (p.2:Nat)])=H1 at S1 pr1 ⊢;have A1:=A.same S1;refine ⟨_,rfl,cd,_,rfl,.inr ⟨_,oh (w,p.2),p1,.inl A1.hcd,rfl,cT.isIn 8 (fM _) pr1.tk,fM _,rfl⟩,_,rfl,?_⟩;rw [A1.came.has A1.ok.nd];cases eh:iO P (w,p.2) with
  | true =>
   refine ck ?_;have e1:eN wl b (P,none) p=(P,none):=by unfold eN; simp only [e,eh,if_true]
   exact next prs kvs H1 (by rw [e1]) (by rw [e1]; exact A1) fun x u q _ _=>S1 _ _ q
  | false =>
   refine dh ?_;have e1:eN wl b (P,none) p=(P++[⟨(w,p.2),some (b.key,p.1),b.story++[p.1]⟩],none):=by unfold eN; simp only [e,eh,k_,if_false]
   refine ⟨_,rfl,_,rfl,(by show 2<=aj; decide),fun t ht=>⟨_,rfl,_,rfl,_,rfl,wd,_,rfl,gw1 (Rd.same (S1.trans (ab.new ht)) hwd) (bV.kt (ab.kt (S1.trans (ab.new ht))) hsb),_,rfl,l2,fun p2 hp2=>?_⟩⟩;have S2:ab H1 (upd H1 t (.tup [.ref ha,.ref sb])):=ab.new ht;have t2:upd H1 t (.tup [.ref ha,.ref sb]) t=some (.tup [.ref ha,.ref sb]):=aa;generalize upd H1 t (.tup [.ref ha,.ref sb])=H2 at S2 t2 hp2 ⊢;have S3:ab H2 (upd H2 p2 (.tup [.int (w:Nat),.int (p.2:Nat)])):=ab.new hp2;have pr3:lO (upd H2 p2 (.tup [.int (w:Nat),.int (p.2:Nat)])) p2 (w,p.2):=aa;generalize upd H2 p2 (.tup [.int (w:Nat),.int (p.2:Nat)])=H3 at S3 pr3 ⊢;have S03:=(S1.trans S2).trans S3;have A3:=A.same S03;have lk:kvs.length<aj:=by rw [Paired.length A.came,gv]; omega
   refine ⟨cd,p2,kvs,oh (w,p.2),rfl,rfl,A3.hcd,cT.c 8 (fM _) pr3.tk,fM _,lk,?_⟩;have npc:pl≠cd:=fun z=>by have:=A.hpl; rw [z,A.hcd] at this; cases this
   have pl4:upd H3 cd (.dT (cO kvs (oh (w,p.2)) (.ref t))) pl=some (.lst (prs.map V.ref)):=by rw [af npc]; exact A3.hpl
   have wd4:Rd (upd H3 cd (.dT (cO kvs (oh (w,p.2)) (.ref t)))) wd (.dT (stK wl)):=Rd.ne nwc (Rd.same S03 hwd);refine ⟨_,rfl,.inl ⟨rfl,_,az.of pl4⟩,_,rfl,_,rfl,wd,_,rfl,gw1 wd4 (bV.kt ((ab.kt S03).trans (Df A3.hcd)) hsb),_,rfl,l2,fun p3 hp3=>?_⟩;have ncp:cd≠p3:=fun z=>by rw [<-z,aa] at hp3; cases hp3
   have hp3':H3 p3=none:=by rw [af ncp.symm] at hp3; exact hp3
   rw [DU ncp];have S4:ab H3 (upd H3 p3 (.tup [.int (w:Nat),.int (p.2:Nat)])):=ab.new hp3';have pr4:lO (upd H3 p3 (.tup [.int (w:Nat),.int (p.2:Nat)])) p3 (w,p.2):=aa;generalize upd H3 p3 (.tup [.int (w:Nat),.int (p.2:Nat)])=H4 at S4 pr4 ⊢;have A4:=A3.same S4;have S04:=S03.trans S4;have pl5:upd H4 cd (.dT (cO kvs (oh (w,p.2)) (.ref t))) pl=some (.lst (prs.map V.ref)):=by rw [af npc]; exact A4.hpl
   refine ⟨pl,_,.ref p3,rfl,rfl,pl5,?_,?_⟩
   ·rw [ai,Paired.length A.hprs,gv]; omega
   have cv:pC K H4 ⟨(w,p.2),some (b.key,p.1),b.story++[p.1]⟩ (.ref t):=⟨t,ha,sb,rfl,S4 _ _ (S3 _ _ t2),S04 _ _ hha,bV.kt (ab.kt S04) hsb⟩;refine next (prs++[p3]) (kvs++[(oh (w,p.2),.ref t)]) _ (by rw [e1]) ?_ fun x u q n1 n2=>by rw [af n2,af n1]; exact S04 _ _ q
   rw [e1];exact A4.add (c:=⟨(w,p.2),some (b.key,p.1),b.story++[p.1]⟩) eh cv pr4 (A.ok.add hb eh (by rw [<-ewl]; exact e) hp) rg
end
def h9 (ms ws:List (List (Sg×Nat))):Nat->List br×Option (List Sg×Sg)
 | 0=>([⟨(0,0),none,[]⟩],none)
 | n+1=>match (h9 ms ws n).2 with
  | some _=>h9 ms ws n
  | none=>match (h9 ms ws n).1[n]? with
   | none=>h9 ms ws n
   | some c=>((cw (ws.getD c.key.1 []) c (h9 ms ws n).1 (ms.getD c.key.2 [])).1,(cw (ws.getD c.key.1 []) c (h9 ms ws n).1 (ms.getD c.key.2 [])).2.map fun sg=>(c.story,sg))
theorem zg {ms ws:List (List (Sg×Nat))}{n:Nat}{P:List br}{c:br}(h:h9 ms ws n=(P,none)) (hc:P[n]?=some c):h9 ms ws (n+1)=((cw (ws.getD c.key.1 []) c P (ms.getD c.key.2 [])).1,(cw (ws.getD c.key.1 []) c P (ms.getD c.key.2 [])).2.map fun sg=>(c.story,sg)):=by
 show (match (h9 ms ws n).2 with | some _=>_ | none=>_)=_
 rw [h];simp only [hc]
theorem qR (w:List (Sg×Nat)) (b:br):∀(l:List (Sg×Nat)) (q:List br×Option Sg) (s:Sg),q.2=some s->(l.foldl (eN w b) q).2=some s
 | [],_,_,h=>h
 | p::l,q,s,h=>by
  rw [jh];have e:eN w b q p=q:=by unfold eN; rw [h]
  rw [e];exact qR w b l q s h
theorem zf {w:List (Sg×Nat)}{b:br}{P:List br}{l:List (Sg×Nat)}{i:Nat}{p:Sg×Nat}(h:(cw w b P (l.take i)).2=none) (hp:l[i]?=some p) (h1:bM w p.1=none) (h2:p.1.head?≠some ("ask":Str)):(cw w b P l).2=some p.1:=by
 have e:l=l.take i++p::l.drop (i+1):=by
  obtain ⟨hi,ei⟩:=bP.1 hp;rw [<-ei,List.getElem_cons_drop hi,rY]
 unfold cw at h ⊢;rw [e,jX,jh];refine qR w b _ _ _ ?_;generalize (l.take i).foldl (eN w b) (P,none)=q at h;unfold eN;simp only [h,h1,h2,if_false]
theorem zW.rd {H0 H:Hp}{ts:Ze}{st:List (List (Sg×Nat))}(h:zW H0 H ts st) {i:Nat}{d:Addr}(e:ts[i]?=some d):H0 d=none/\Rd H d (.dT (stK (st.getD i []))):=by
 obtain ⟨l,hl,h0,hr⟩:=Paired.getL h e;have:st.getD i []=l:=by rw [rV,hl]; rfl
 rw [this];exact ⟨h0,hr⟩
theorem HG {K:Za}{H0:Hp}{a1 a2 cd pl ha wd md:Addr}{ts1 ts2:Ze}{ws ms:List (List (Sg×Nat))}{n:Nat}{b:br}{o:Obj}{D:mJ}(C:Ja ts1 ts2 ws ms) {H:Hp}{prs:Ze}{kvs:List (TK×V)}{P:List br}{x7 x8:Option V}(A:ip K H0 H a1 a2 cd pl ts1 ts2 prs kvs ws ms P) (hb:P[n]?=some b) (hha:lO H ha b.key)
  (ewd:ts1[b.key.1]?=some wd) (emd:ts2[b.key.2]?=some md) (hmd:H md=some (.frz o (.dT (stK (ms.getD b.key.2 [])))))
  (fault:∀(P':List br) (p:Sg×Nat) (sb t lst:Addr) (gs:Ze) (H2:Hp),qA ms ws P'->(∃r,P'=P++r)->(cw (ws.getD b.key.1 []) b P (ms.getD b.key.2 [])).2=some p.1->p∈ms.getD b.key.2 []->bM (ws.getD b.key.1 []) p.1=none->p.1.head?≠some ("ask":Str)->H2 t=some (.tup [.ref lst,.ref sb])->H2 lst=some (.lst (gs.map V.ref))->Paired (fun g (sg:Sg)=>bV K H2 g (sg.map V.str)) gs b.story->bV K H2 sb (p.1.map V.str)->H0 t=none->H0 lst=none->mH H0 H2 a1 a2 ts1 ts2 ws ms->D.rt (.ref t) H2)
  (next:∀(P':List br) (prs':Ze) (kvs':List (TK×V)) (x7 x8:Option V) (H2:Hp),(∃r,P'=P++r)->cw (ws.getD b.key.1 []) b P (ms.getD b.key.2 [])=(P',none)->kO ms ws P' b->ip K H0 H2 a1 a2 cd pl ts1 ts2 prs' kvs' ws ms P'->D.nx [some (.ref a1),some (.ref a2),some (.ref cd),some (.ref pl),some (.int ((n:Int)+1)),some (.ref ha),some (.ref wd),x7,x8] H2) :
  II (G3 md o (.dT (stK (ms.getD b.key.2 []))) (stK (ms.getD b.key.2 [])).length (A0 K (stK (ms.getD b.key.2 [])))) (fG K 2 (aN U7 (aN U8 (fy)))) (AN K (fF K)) D [some (.ref a1),some (.ref a2),some (.ref cd),some (.ref pl),some (.int ((n:Int)+1)),some (.ref ha),some (.ref wd),x7,x8] H:=by
 have ell:(stK (ms.getD b.key.2 [])).length=(ms.getD b.key.2 []).length:=by unfold stK; rw [ai]
 have lfok:=fun i=>EW A.ok hb ((ms.getD b.key.2 []).take i) fun p hp=>fj hp;have lt:n<P.length:=by
  rcases eE n P.length with z | z
  ·exact z
  ·rw [fE z] at hb; cases hb
 refine vD (fun i σ H'=>∃(prs':Ze) (kvs':List (TK×V)) (x7 x8:Option V),σ=[some (.ref a1),some (.ref a2),some (.ref cd),some (.ref pl),some (.int ((n:Int)+1)),some (.ref ha),some (.ref wd),x7,x8]/\(cw (ws.getD b.key.1 []) b P ((ms.getD b.key.2 []).take i)).2=none/\ip K H0 H' a1 a2 cd pl ts1 ts2 prs' kvs' ws ms (cw (ws.getD b.key.1 []) b P ((ms.getD b.key.2 []).take i)).1/\H' md=some (.frz o (.dT (stK (ms.getD b.key.2 []))))/\lO H' ha b.key)
  ⟨prs,kvs,_,_,rfl,rfl,A,hmd,hha⟩ ?_ ?_ ?_
 ·rintro i σ H' _ ⟨_,_,_,_,_,_,_,h,_⟩;exact h
 ·rintro i σ H3 pp a v hi ⟨prs',kvs',x7,x8,rfl,q0,A3,md3,ha3⟩ hpp ⟨key,ek,tkc⟩;unfold stK at ek;rw [bZ] at ek;obtain ⟨p,hp,ep⟩:=mW.1 ek;cases ep;obtain ⟨sb,rfl,hsb⟩:=ym tkc;have S:ab H3 (upd H3 pp (.tup [.ref sb,.int (p.2:Nat)])):=ab.new hpp;have hpp4:upd H3 pp (.tup [.ref sb,.int (p.2:Nat)]) pp=some (.tup [.ref sb,.int (p.2:Nat)]):=aa;generalize upd H3 pp (.tup [.ref sb,.int (p.2:Nat)])=H4 at S hpp4 ⊢;refine ⟨pp,_,rfl,bj.of hpp4,rfl,_,_,rfl,_,_,rfl,rfl,?_⟩;have A4:=A3.same S;obtain ⟨⟨r,er⟩,okr,_⟩:=lfok i;have es:cw (ws.getD b.key.1 []) b P ((ms.getD b.key.2 []).take (i+1))=eN (ws.getD b.key.1 []) b (cw (ws.getD b.key.1 []) b P ((ms.getD b.key.2 []).take i)) p:=by
   unfold cw; rw [take_snoc hp,jX]; rfl
  have e2:cw (ws.getD b.key.1 []) b P ((ms.getD b.key.2 []).take i)=((cw (ws.getD b.key.1 []) b P ((ms.getD b.key.2 []).take i)).1,none):=by rw [<-q0]
  have hb4:(cw (ws.getD b.key.1 []) b P ((ms.getD b.key.2 []).take i)).1[n]?=some b:=by rw [er,dg lt]; exact hb
  obtain ⟨w0,hwd⟩:=zW.rd A4.i.r1 ewd;have ncm:md≠cd:=A.nc2 md (aP emd);have ncw:wd≠cd:=A.nc1 wd (aP ewd);refine GD C (n:=n) (b:=b) (p:=p) (sb:=sb) (x7:=none) (x8:=none) (pp:=pp) (H':=H4) A4 hb4 (S _ _ ha3) hwd rfl (aP hp) (bV.kt (ab.kt S) hsb) ncw ?_ ?_
  ·intro t lst gs H2 f1 f2 f3 f4 f5 f6 f7 f8 f9;exact fault _ p sb t lst gs H2 okr ⟨r,er⟩ (zf q0 hp f1 f2) (aP hp) f1 f2 f3 f4 f5 f6 f7 f8 f9
  ·intro prs'' kvs'' H2 g1 g2 g3;rw [es,e2];refine ⟨prs'',kvs'',_,_,rfl,g1,g2,?_,?_⟩
   ·refine g3 _ _ (S _ _ md3) ncm fun z=>?_;have:=A4.hpl;rw [<-z,S _ _ md3] at this; cases this
   ·refine g3 _ _ (S _ _ ha3) (fun z=>?_) fun z=>?_
    ·have:=A4.hcd; rw [<-z,S _ _ ha3] at this; cases this
    ·have:=A4.hpl; rw [<-z,S _ _ ha3] at this; cases this
 ·rintro σ H3 ⟨prs',kvs',x7,x8,rfl,q0,A3,md3,ha3⟩;rw [ell,bh] at q0 A3;obtain ⟨⟨r,er⟩,_⟩:=lfok (ms.getD b.key.2 []).length;rw [bh] at er;exact next _ prs' kvs' x7 x8 H3 ⟨r,er⟩ (by rw [<-q0]) (fun p hp=>AM _ q0 p hp) A3
inductive gS (K:Za) (vs:List V) (H:Hp) (Q:VK) (E:XK):Prop
 | mk (H0:Hp) (a1 a2:Addr) (ts1 ts2:Ze) (ws ms:List (List (Sg×Nat))):(vs=[.ref a1,.ref a2])->(mH H0 H a1 a2 ts1 ts2 ws ms)->(Ja ts1 ts2 ws ms)->(0<ts1.length)->(0<ts2.length)->((∀(P:List br) (H':Hp),qA ms ws P->h9 ms ws P.length=(P,none)->P.length<=ts1.length * ts2.length->(∀c∈P,kO ms ws P c)->mH H0 H' a1 a2 ts1 ts2 ws ms->Q .non H'))->(∀(P:List br) (i:Nat) (c:br) (p:Sg×Nat) (sb t lst:Addr) (gs:Ze) (H':Hp),qA ms ws P->(h9 ms ws (i+1)).2=some (c.story,p.1)->i<ts1.length * ts2.length->P[i]?=some c->(∀(j:Nat) (c':br),j<i->P[j]?=some c'->kO ms ws P c')->p∈ms.getD c.key.2 []->bM (ws.getD c.key.1 []) p.1=none->p.1.head?≠some ("ask":Str)->H' t=some (.tup [.ref lst,.ref sb])->H' lst=some (.lst (gs.map V.ref))->Paired (fun g (sg:Sg)=>bV K H' g (sg.map V.str)) gs c.story->bV K H' sb (p.1.map V.str)->H0 t=none->H0 lst=none->mH H0 H' a1 a2 ts1 ts2 ws ms->Q (.ref t) H')->gS K vs H Q E
theorem uE {K:Za}{vs:List V}{H:Hp}{Q:VK}{E:XK}(h:gS K vs H Q E):uj K (fF K) (bJ Q) (start uQ vs) H:=by
 obtain ⟨H0,a1,a2,ts1,ts2,ws,ms,rfl,I,C,z1,z2,kn,kf⟩:=h;have l2:([V.int 0,V.int 0]:List V).length<=aj:=by show 2<=aj; decide
 refine fun cd hcd=>⟨l2,fun p0 hp0=>?_⟩;have S1:ab H (upd H cd (.dT [])):=ab.new hcd;have S2:ab (upd H cd (.dT [])) (upd (upd H cd (.dT [])) p0 (.tup [.int 0,.int 0])):=ab.new hp0;have cd2:=S2 _ _ (aa (H:=H) (a:=cd) (o:=.dT []));have pr2:lO (upd (upd H cd (.dT [])) p0 (.tup [.int 0,.int 0])) p0 (0,0):=aa;have I2:=I.same (S1.trans S2);have c0:H0 cd=none:=I.S.free hcd;have nc:∀{ts:Ze}{st:List (List (Sg×Nat))},zW H0 H ts st->∀t∈ts,t≠cd:=fun r=>zW.ne r fun k q=>by
  rcases q with q | ⟨o,q⟩
  ·rw [hcd] at q; cases q
  ·rw [hcd] at q; cases q
 have nc1:=nc I.r1;have nc2:=nc I.r2;have na1:a1≠cd:=ae I.h1 hcd;have na2:a2≠cd:=ae I.h2 hcd;generalize upd (upd H cd (.dT [])) p0 (.tup [.int 0,.int 0])=H2 at cd2 pr2 I2 ⊢;refine ⟨cd2,p0,oh (0,0),rfl,cT.c 8 (fM _) pr2.tk,fM _,?_⟩;have I3:=I2.own (o:=.dT [(oh (0,0),.non)]) c0 na1 na2 nc1 nc2;have cd3:upd H2 cd (.dT [(oh (0,0),.non)]) cd=some (.dT [(oh (0,0),.non)]):=aa;generalize upd H2 cd (.dT [(oh (0,0),.non)])=H3 at I3 cd3 ⊢;refine ⟨l2,fun p1 hp1=>⟨(by show 1<=aj; decide),fun pl hpl=>?_⟩⟩;have S4:ab H3 (upd H3 p1 (.tup [.int 0,.int 0])):=ab.new hp1;have pr4:lO (upd H3 p1 (.tup [.int 0,.int 0])) p1 (0,0):=aa;generalize upd H3 p1 (.tup [.int 0,.int 0])=H4 at S4 pr4 hpl ⊢;have S5:ab H4 (upd H4 pl (.lst [.ref p1])):=ab.new hpl;have pl5:upd H4 pl (.lst [.ref p1]) pl=some (.lst (([p1]:Ze).map V.ref)):=aa;have I5:=(I3.same S4).same S5;have A5:ip K H0 (upd H4 pl (.lst [.ref p1])) a1 a2 cd pl ts1 ts2 [p1] [(oh (0,0),.non)] ws ms [⟨(0,0),none,[]⟩]:=by
  refine ⟨I5,S5 _ _ (S4 _ _ cd3),.cons ⟨rfl,rfl⟩ .nil,pl5,.cons (S5 _ _ pr4) .nil,Dw ms ws,fun c hc=>?_,c0,(I3.same S4).S.free hpl,nc1,nc2,ae (I3.same S4).h1 hpl,ae (I3.same S4).h2 hpl⟩;rw [bF.1 hc]; exact ⟨z1,z2⟩
 generalize upd H4 pl (.lst [.ref p1])=H5 at A5 ⊢;clear S1 S2 cd2 pr2 I2 I3 cd3 S4 pr4 S5 pl5 I5;refine ⟨fun m σ H'=>∃(n:Nat) (P:List br) (prs:Ze) (kvs:List (TK×V)) (x5 x6 x7 x8:Option V),m=70000-n/\n<=P.length/\σ=[some (.ref a1),some (.ref a2),some (.ref cd),some (.ref pl),some (.int (n:Int)),x5,x6,x7,x8]/\ip K H0 H' a1 a2 cd pl ts1 ts2 prs kvs ws ms P/\h9 ms ws n=(P,none)/\∀(j:Nat) (c:br),j<n->P[j]?=some c->kO ms ws P c,
  ⟨70000,0,_,_,_,_,_,_,_,rfl,cV _,rfl,A5,rfl,fun j c hj=>by omega⟩,?_⟩
 rintro m σ H6 ⟨n,P,prs,kvs,x5,x6,x7,x8,rfl,hn,rfl,A,eit,rows⟩;have few:=A.few C.z1 C.z2;have few2:=A.few2;refine ⟨_,rfl,_,rfl,.inl ⟨pl,_,rfl,.inl (az.of A.hpl),_,_,rfl,rfl,_,rfl,?_⟩⟩;have zp:(prs.map V.ref).length=P.length:=by rw [ai,Paired.length A.hprs]
 refine Dl (P:=n<P.length) (by rw [zp]; simp) (fun lt=>?_) (fun ge=>?_);rotate_left
 ·have e:n=P.length:=by omega
  refine kn P H6 A.ok (by rw [<-e]; exact eit) few2 (fun c hc=>?_) A.i;obtain ⟨j,hj,ej⟩:=vQ hc;exact rows j c (by omega) (by rw [bE hj,ej])
 have hb:P[n]?=some P[n]:=bE lt;obtain ⟨ha,eha,hha⟩:=Paired.get A.hprs hb;have hrg:=A.rg P[n] (jY _);generalize P[n]=b at hb hha hrg;have ath:pD (prs.map V.ref) n=some (.ref ha):=bt (by rw [bZ,eha]; rfl);have ewd:ts1[b.key.1]?=some ts1[b.key.1]:=bE hrg.1;have emd:ts2[b.key.2]?=some ts2[b.key.2]:=bE hrg.2;have atw:pD (ts1.map V.ref) (b.key.1:Nat)=some (.ref ts1[b.key.1]):=bt (by rw [bZ,ewd]; rfl);have atm:pD (ts2.map V.ref) (b.key.2:Nat)=some (.ref ts2[b.key.2]):=bt (by rw [bZ,emd]; rfl);generalize ts1[b.key.1]=wd at ewd atw;generalize ts2[b.key.2]=md at emd atm;have ncm:md≠cd:=A.nc2 md (aP emd);refine ⟨fun σ' H'=>∃m',m'<70000-n/\∃(n:Nat) (P:List br) (prs:Ze) (kvs:List (TK×V)) (x5 x6 x7 x8:Option V),m'=70000-n/\n<=P.length/\σ'=[some (.ref a1),some (.ref a2),some (.ref cd),some (.ref pl),some (.int (n:Int)),x5,x6,x7,x8]/\ip K H0 H' a1 a2 cd pl ts1 ts2 prs kvs ws ms P/\h9 ms ws n=(P,none)/\∀(j:Nat) (c:br),j<n->P[j]?=some c->kO ms ws P c,fun σ' H' h=>h,?_⟩;refine ⟨_,rfl,_,rfl,pl,_,_,_,rfl,rfl,az.of A.hpl,ath,?_⟩;refine ⟨_,rfl,_,_,rfl,rfl,?_⟩;refine ⟨_,rfl,_,rfl,ha,_,0,_,rfl,rfl,bj.of hha,bt (j:=0) rfl,a1,_,_,_,rfl,rfl,az.of A.i.h1,atw,?_⟩;refine ⟨_,rfl,_,rfl,ha,_,1,_,rfl,rfl,bj.of hha,bt (j:=1) rfl,a2,_,_,_,rfl,rfl,az.of A.i.h2,atm,md,stK (ms.getD b.key.2 []),rfl,?_⟩;obtain ⟨md0,hmd⟩:=zW.rd A.i.r2 emd;have up:∀{P':List br},(∃r,P'=P++r)->(∀(j:Nat) (c:br),j<n->P'[j]?=some c->kO ms ws P' c)/\P'[n]?=some b/\n+1<=P'.length:=by
  rintro P' ⟨r,rfl⟩;refine ⟨fun j c hj hc=>?_,by rw [dg lt]; exact hb,by rw [ay]; omega⟩;rw [dg (by omega)] at hc;exact (rows j c hj hc).mono
 have fin:∀{H7:Hp}{o:Obj},ip K H0 H7 a1 a2 cd pl ts1 ts2 prs kvs ws ms P->lO H7 ha b.key->H7 md=some (.frz o (.dT (stK (ms.getD b.key.2 []))))->II (G3 md o (.dT (stK (ms.getD b.key.2 []))) (stK (ms.getD b.key.2 [])).length (A0 K (stK (ms.getD b.key.2 [])))) (fG K 2 (aN U7 (aN U8 (fy)))) (AN K (fF K)) { nx:=fun σ' H'=>∃m',m'<70000-n/\∃(n:Nat) (P:List br) (prs:Ze) (kvs:List (TK×V)) (x5 x6 x7 x8:Option V),m'=70000-n/\n<=P.length/\σ'=[some (.ref a1),some (.ref a2),some (.ref cd),some (.ref pl),some (.int (n:Int)),x5,x6,x7,x8]/\ip K H0 H' a1 a2 cd pl ts1 ts2 prs kvs ws ms P/\h9 ms ws n=(P,none)/\∀(j:Nat) (c:br),j<n->P[j]?=some c->kO ms ws P c,rt:=Q,ct:=fun σ' H'=>∃m',m'<70000-n/\∃(n:Nat) (P:List br) (prs:Ze) (kvs:List (TK×V)) (x5 x6 x7 x8:Option V),m'=70000-n/\n<=P.length/\σ'=[some (.ref a1),some (.ref a2),some (.ref cd),some (.ref pl),some (.int (n:Int)),x5,x6,x7,x8]/\ip K H0 H' a1 a2 cd pl ts1 ts2 prs kvs ws ms P/\h9 ms ws n=(P,none)/\∀(j:Nat) (c:br),j<n->P[j]?=some c->kO ms ws P c,bk:=fun σ H'=>bB (tC .non) (bJ Q) σ H' } [some (.ref a1),some (.ref a2),some (.ref cd),some (.ref pl),some (.int ((n:Int)+1)),some (.ref ha),some (.ref wd),x7,x8] H7:=by
  intro H7 o A7 ha7 md7;refine HG C A7 hb ha7 ewd emd md7 ?_ ?_
  ·intro P' p sb t lst gs H2 ok' ex fr f0 f1 f2 f3 f4 f5 f6 f7 f8 f9;obtain ⟨u1,u2,_⟩:=up ex;exact kf P' n b p sb t lst gs H2 ok' (by rw [zg eit hb,fr]; rfl) (by omega) u2 u1 f0 f1 f2 f3 f4 f5 f6 f7 f8 f9
  ·intro P' prs' kvs' x7 x8 H2 ex fr ro A';obtain ⟨u1,u2,u3⟩:=up ex;refine ⟨70000-(n+1),by omega,n+1,P',prs',kvs',_,_,x7,x8,rfl,u3,by rw [show ((n+1:Nat):Int)=(n:Int)+1 from by omega],A',by rw [zg eit hb,fr]; rfl,fun j c hj hc=>?_⟩;rcases eE j n with z | z
   ·exact u1 j c z hc
   ·have:j=n:=by omega
    subst this;rw [u2] at hc;injection hc with hc;subst hc;exact ro
 rcases hmd with e | ⟨o,e⟩
 ·exact .inl ⟨e,fun o=>fin (A.frz md0 e ncm) (Df e _ _ hha) aa⟩
 ·exact .inr ⟨o,e,fin A hha e⟩
def yU:Option Nat->V
 | none=>.non
 | some n=>.int (n:Nat)
def dE (fc:Nat) (st:List (Sg×Nat)) (d:am):List (Str×Option Nat) :=
 if d.sg=ax then [(d.b,some fc)] else if (bM st d.sg).isSome=true∨d.sg.head?=some ("say":Str) then [(d.b,bM st d.sg)] else []
def sZ (J2:Zb) (ds:List am) (room:Str) (fc:Nat) (st:List (Sg×Nat)):List (Str×Option Nat) :=
 (bz ds room).flatMap (dE fc st)++if room∈J2.filter (fq ds) then [(room,bM st bT)] else []
abbrev iR (H:Hp) (us:Ze) (L:List (Str×Option Nat)):Prop:=Paired (fun u (r:Str×Option Nat)=>H u=some (.tup [.str r.1,yU r.2])) us L
theorem iR.kt {H H':Hp}{us:Ze}{L:List (Str×Option Nat)}(k:fP H H') (h:iR H us L):iR H' us L:=Paired.mapP h fun _ _ r=>k _ _ r
theorem xE (fc:Nat) (st:List (Sg×Nat)) (d:am):(dE fc st d).length<=1:=by
 unfold dE;split
 ·exact aE _
 ·split
  ·exact aE _
  ·exact cV _
theorem sY (fc:Nat) (st:List (Sg×Nat)):∀L:List am,(L.flatMap (dE fc st)).length<=L.length
 | []=>aE _
 | d::L=>by
  rw [rU,ay,em];have:=xE fc st d;have:=sY fc st L;omega
inductive oI (K:Za) (C:Addr) (vs:List V) (H:Hp) (Q:VK) (E:XK):Prop
 | mk (x sd:Addr) (room:Str) (fc:Nat) (st:List (Sg×Nat)) (J0 J1 J2:Zb) (ds:List am):(vs=[.ref x,.str room,.int (fc:Nat),.ref sd])->(bx C H x J0 J1 J2 ds)->(room∈J2)->(Rd H sd (.dT (stK st)))->(∀(l:Addr) (us:Ze) (H':Hp),H' l=some (.lst (us.map V.ref))->iR H' us (sZ J2 ds room fc st)->H l=none->ab H H'->Q (.ref l) H')->oI K C vs H Q E
theorem yT {l:List (Sg×Nat)}{sg:Sg}:((bM l sg).map fun n=>V.int (n:Nat)).getD .non=yU (bM l sg):=by
 cases bM l sg <;> rfl
theorem Ek {K:Za}{C hu sa:Addr}(hh:∀H,bj K H hu (bT.map V.str)) (hs:∀H,bj K H sa (ax.map V.str)) {vs:List V}{H:Hp}{Q:VK}{E:XK}(h:oI K C vs H Q E):ug K C (g_ C) hu (gV C) sa (bJ Q) (start uN vs) H:=by
 obtain ⟨x,sd,room,fc,st,J0,J1,J2,ds,rfl,M,hr,hsd,k⟩:=h;have z4:=M.ok.few;refine ⟨(by show 0<=aj; decide),fun l hl=>?_⟩;have S0:ab H (upd H l (.lst [])):=ab.new hl;obtain ⟨dx,fs,o1,o2,lv,lps,g1,a1,a2,a3,a4,_⟩:=nJ (M.same S0);refine ⟨_,rfl,x,dx,fs,rfl,g1,a3,_,rfl,x,room,J0,J1,J2,ds,rfl,M.same S0,hr,fun dl du H1 hdl hD hdl0 S1=>⟨dl,rfl,⟨_,az.of hdl⟩,?_⟩⟩;have lz:(bz ds room).length<=1000:=bv (de _ _) (by omega);have ndl:dl≠l:=fun z=>by rw [z,aa] at hdl0; cases hdl0
 refine cn (xs:=du.map V.ref) (fun i σ H'=>∃(us:Ze) (x5 x6 x7:Option V),σ=[some (.ref x),some (.str room),some (.int (fc:Nat)),some (.ref sd),some (.ref l),x5,x6,x7]/\H' l=some (.lst (us.map V.ref))/\iR H' us (((bz ds room).take i).flatMap (dE fc st))/\ab H H'/\∀b o,H1 b=some o->b≠l->H' b=some o)
  ⟨[],_,_,_,rfl,S1 _ _ aa,.nil,S0.trans S1,fun _ _ e _=>e⟩ (fun i σ H' _ ⟨_,_,_,_,_,_,_,_,e⟩=>az.of (e _ _ hdl ndl)) ?_ ?_
 ·rintro i y σ H2 hi ⟨us,x5,x6,x7,rfl,hl2,hR,S2,e2⟩;obtain ⟨u,hu',rfl⟩:=cP hi;obtain ⟨d,hd,hat⟩:=Paired.getL hD hu';have k12:fP H1 H2:=fun b xs e=>e2 _ _ e fun z=>by have:=S1 _ _ (aa (H:=H) (a:=l) (o:=.lst [])); rw [<-z,e] at this; cases this
  obtain ⟨sb,ht2,hs2⟩:=hat.kt k12;have hgood:=M.ok.good d (cj.1 (aP hd)).1;obtain ⟨s0,rest,hsg,_⟩:=p5 hgood;have il:i<(bz ds room).length:=(bP.mp hd).1;have ul:us.length<=1000:=by
   rw [Paired.length hR];refine bv (sY fc st _) ?_;rw [aX]; omega
  have sd2:Rd H2 sd (.dT (stK st)):=Rd.same S2 hsd;have row:∀{H3:Hp}(r:Str×Option Nat) (p:Addr),ab H2 H3->H3 p=none->dE fc st d=[r]->∃(us':Ze) (x5 x6 x7:Option V),([some (.ref x),some (.str room),some (.int (fc:Nat)),some (.ref sd),some (.ref l),some (.str d.a),some (.ref sb),some (.str d.b)]:L2.St)=[some (.ref x),some (.str room),some (.int (fc:Nat)),some (.ref sd),some (.ref l),x5,x6,x7]/\upd (upd H3 p (.tup [.str r.1,yU r.2])) l (.lst (us.map V.ref++[.ref p])) l=some (.lst (us'.map V.ref))/\iR (upd (upd H3 p (.tup [.str r.1,yU r.2])) l (.lst (us.map V.ref++[.ref p]))) us' (((bz ds room).take (i+1)).flatMap (dE fc st))/\ab H (upd (upd H3 p (.tup [.str r.1,yU r.2])) l (.lst (us.map V.ref++[.ref p])))/\∀b o,H1 b=some o->b≠l->upd (upd H3 p (.tup [.str r.1,yU r.2])) l (.lst (us.map V.ref++[.ref p])) b=some o:=by
   intro H3 r p S3 hp er;have hk:fP H2 (upd (upd H3 p (.tup [.str r.1,yU r.2])) l (.lst (us.map V.ref++[.ref p]))):=((ab.kt S3).trans (ab.kt (ab.new hp))).trans (cr (kp (S3 _ _ hl2) hp));refine ⟨us++[p],_,_,_,rfl,by rw [aa,aq]; rfl,?_,fun b o e=>by rw [af (ae e hl)]; exact kp (S3 _ _ (S2 _ _ e)) hp,fun b o e nb=>by rw [af nb]; exact kp (S3 _ _ (e2 _ _ e nb)) hp⟩;rw [take_snoc hd,vU,rU,er];refine cp (iR.kt hk hR) ?_;rw [af (ae (S3 _ _ hl2) hp).symm];exact aa
  refine ⟨u,_,rfl,bj.of ht2,rfl,_,_,rfl,_,_,rfl,_,_,rfl,rfl,?_⟩;refine ⟨_,rfl,jW d.sg,jW ax,bD (bj.of hs2),bD (hs H2),by rw [b0]; decide,by rw [b0]; decide,_,rfl,?_⟩;rw [mj];refine Dl (P:=d.sg=ax) (by simp) (fun c=>?_) (fun c=>?_)
  ·refine ⟨_,rfl,.inl ⟨rfl,_,az.of hl2⟩,_,rfl,_,rfl,(by show 2<=aj; decide),fun p hp=>⟨l,_,.ref p,rfl,rfl,kp hl2 hp,by rw [ai]; exact au ul,?_⟩⟩;exact row (d.b,some fc) p (.refl _) hp (by unfold dE; rw [if_pos c])
  ·have gd:kz K H2 sd (.ref sb) ((bM st d.sg).map fun n=>V.int (n:Nat)):=.inr ⟨_,iW d.sg,sb,sd2,rfl,wI (.inl hs2),dZ _,qh.symm⟩;have isd:Jc H2 sd:=.inr ⟨_,sd2⟩;have at0:pD (d.sg.map V.str) 0=some (.str s0):=by rw [hsg]; exact bt (j:=0) rfl
   have put:(bM st d.sg).isSome=true∨d.sg.head?=some ("say":Str)->bH (oG K "list" bX V4 (aA (be (aS V7 (wX K V3 V6))))) { nx:=fun σ H'=>∃(us:Ze) (x5 x6 x7:Option V),σ=[some (.ref x),some (.str room),some (.int (fc:Nat)),some (.ref sd),some (.ref l),x5,x6,x7]/\H' l=some (.lst (us.map V.ref))/\iR H' us (((bz ds room).take (i+1)).flatMap (dE fc st))/\ab H H'/\∀b o,H1 b=some o->b≠l->H' b=some o,rt:=Q } [some (.ref x),some (.str room),some (.int (fc:Nat)),some (.ref sd),some (.ref l),some (.str d.a),some (.ref sb),some (.str d.b)] H2:=by
    intro cc;refine ⟨_,rfl,.inl ⟨rfl,_,az.of hl2⟩,_,rfl,_,rfl,sd,rfl,isd,_,rfl,_,gd,?_⟩;rw [yT];refine ⟨(by show 2<=aj; decide),fun p hp=>⟨l,_,.ref p,rfl,rfl,kp hl2 hp,by rw [ai]; exact au ul,?_⟩⟩;exact row (d.b,bM st d.sg) p (.refl _) hp (by unfold dE; rw [if_neg c,if_pos cc])
   refine ⟨_,rfl,_,rfl,sd,_,rfl,gd,_,rfl,?_⟩;cases hv:bM st d.sg with
   | some w=>exact dh (dh (put (.inl (by rw [hv]; rfl))))
   | none =>
    refine ck ?_;refine ⟨_,rfl,sb,_,0,_,rfl,rfl,bj.of hs2,at0,rfl,_,rfl,?_⟩;refine Dl (P:=d.sg.head?=some ("say":Str)) (by rw [hsg]; simp) (fun c2=>put (.inr c2)) (fun c2=>?_);refine ⟨us,_,_,_,rfl,hl2,?_,S2,e2⟩;have er:dE fc st d=[]:=by
     unfold dE;rw [if_neg c,if_neg];rintro (z | z)
     ·rw [hv] at z; cases z
     ·exact c2 z
    rw [take_snoc hd,vU,rU,er];simpa using hR
 ·rintro σ H2 ⟨us,x5,x6,x7,rfl,hl2,hR,S2,e2⟩;rw [ai,Paired.length hD,bh] at hR;have M2:=M.same S2;obtain ⟨dx,fs,o1,o2,lv,lps,g1,a1,a2,a3,a4,_⟩:=nJ M2;have ul:us.length<=1000:=by
   rw [Paired.length hR];exact bv (sY fc st _) lz
  have sd2:Rd H2 sd (.dT (stK st)):=Rd.same S2 hsd;refine ⟨_,rfl,x,dx,fs,rfl,g1,a4,_,rfl,x,room,J0,J1,J2,ds,rfl,M2,_,rfl,?_⟩;refine Dl (P:=room∈J2.filter (fq ds)) (by simp) (fun c=>?_) (fun c=>?_)
  ·have gd:kz K H2 sd (.ref hu) ((bM st bT).map fun n=>V.int (n:Nat)):=.inr ⟨_,iW bT,hu,sd2,rfl,wI (BH hh H2),dZ _,qh.symm⟩;refine ⟨_,rfl,.inl ⟨rfl,_,az.of hl2⟩,_,rfl,_,rfl,sd,rfl,.inr ⟨_,sd2⟩,_,gd,?_⟩;rw [yT];refine ⟨(by show 2<=aj; decide),fun p hp=>⟨l,_,.ref p,rfl,rfl,kp hl2 hp,by rw [ai]; exact au ul,?_⟩⟩;have hk:fP H2 (upd (upd H2 p (.tup [.str room,yU (bM st bT)])) l (.lst (us.map V.ref++[.ref p]))):=(ab.kt (ab.new hp)).trans (cr (kp hl2 hp));refine ⟨_,rfl,k l (us++[p]) _ (by rw [aa,aq]; rfl) ?_ hl fun b o e=>by rw [af (ae e hl)]; exact kp (S2 _ _ e) hp⟩;unfold sZ;rw [if_pos c];refine cp (iR.kt hk hR) ?_;rw [af (ae hl2 hp).symm];exact aa
  ·refine ⟨_,rfl,k l us H2 hl2 ?_ hl S2⟩;unfold sZ;rw [if_neg c,fD];exact hR
def FA (ds:List am) (f:Zb):Prop:=∀d∈ds,d.sg=ax->d.a∈f->d.b∈f
theorem ve {J2 gs:Zb}{ds:List am}(hb:∀d∈ds,d.b∈J2):FA ds (closF J2 ds gs):=by
 classical
 intro d hd hs ha;unfold closF at ha ⊢;rw [cj] at ha ⊢;obtain ⟨a,sg,b⟩:=d;have hs:sg=ax:=hs;subst hs;exact ⟨hb _ hd,zzr1 (gK.step (of_decide_eq_true ha.2) hd)⟩
theorem Ef {J2 f sg:Zb}{ds:List am}(hb:∀d∈ds,d.b∈J2):FA ds (behF J2 ds f sg):=by
 unfold behF;split
 ·intro d hd hs ha;have h:=of_decide_eq_true (cj.1 ha).2;refine absurd (aB.2 ⟨d,cj.2 ⟨hd,?_⟩,rfl⟩) h;unfold gb;rw [hs]
  decide
 ·exact ve hb
theorem EI {s:List Sg}{m:gD}(L:List (Sg×List Str)):∀f∈(eK s m L).1.fs,f∈m.fs∨∃p∈L,f=p.2:=by
 have key:∀n,n<=L.length->∀f∈(eK s m (L.take n)).1.fs,f∈m.fs∨∃p∈L,f=p.2:=by
  intro n
  induction n with
  | zero=>intro _ f hf; exact .inl hf
  | succ n ih =>
   intro hn f hf;have hp:L[n]?=some L[n]:=bE (by omega);rw [take_snoc hp,jN] at hf;have hf:f∈((eK s m (L.take n)).1.add L[n].2 (s++[L[n].1])).fs:=hf;by_cases c:L[n].2∈(eK s m (L.take n)).1.fs
   ·rw [gD.add_in c] at hf;exact ih (by omega) f hf
   ·rw [gD.add_new c] at hf;rcases bd.1 hf with hf | hf
    ·exact ih (by omega) f hf
    ·exact .inr ⟨L[n],jY _,bF.1 hf⟩
 have:=key L.length (aE _);rw [bh] at this;exact this
theorem BL {J0 J1 J2:Zb}{ds:List am}(hb:∀d∈ds,d.b∈J2):∀k,∀f∈(itF J0 J1 J2 ds k).1.fs,FA ds f
 | 0,f,hf=>by
  have e:(⟨[],[]⟩:gD).add (closF J2 ds (J2.take 1)) []=⟨[closF J2 ds (J2.take 1)],[[]]⟩:=gD.add_new (fun z=>nomatch z);have hf:f∈((⟨[],[]⟩:gD).add (closF J2 ds (J2.take 1)) []).fs:=hf;rw [e] at hf;rw [bF.1 hf];exact ve hb
 | k+1,f,hf=>by
  rcases EI _ f hf with h | ⟨p,hp,rfl⟩
  ·exact BL hb k f h
  ·obtain ⟨sg,_,rfl⟩:=aB.1 (cj.1 hp).1;exact Ef hb
theorem Ff {J2 f:Zb}{ds:List am}{d:am}(hd:d∈ds) (hr:d.b∈J2) (ha:d.a∈f) (hn:d.sg≠bT):d.b∈behF J2 ds f d.sg:=by
 classical
 unfold behF;rw [if_neg hn];unfold closF;refine cj.2 ⟨hr,zzr1 ⟨d.b,?_,.inl rfl⟩⟩;unfold db;rw [pI];refine ⟨d.a,ha,?_⟩;unfold bm;exact aB.2 ⟨d,cj.2 ⟨hd,zzr1 ⟨rfl,rfl⟩⟩,rfl⟩
def vN (P:List br) (SI:qz) (room:Str) (num:Nat):Prop:=∃c∈P,c.key.1=num/\∃F,SI.1.fs[c.key.2]?=some F/\room∈F
section
variable {J0 J1 J2:Zb}{ds:List am}{SI:qz}{ws:List (List (Sg×Nat))}{P:List br}(m:aJ J0 J1 J2 ds) (ok:qy J0 J1 J2 ds SI) (le:SI.2.length=SI.1.fs.length) (ro:∀c∈P,kO SI.2 ws P c)
include m ok le ro
theorem yG {c:br}(hc:c∈P) {F:Zb}(hF:SI.1.fs[c.key.2]?=some F) {sg:Sg}(hs:sg∈ao J0 J1) {r:Str}(hr:r∈behF J2 ds F sg) :
  (bM (ws.getD c.key.1 []) sg=none->sg.head?=some ("ask":Str))/\∀w,bM (ws.getD c.key.1 []) sg=some w->vN P SI r w:=by
 have lt:c.key.2<SI.2.length:=by
  rw [le];rcases eE c.key.2 SI.1.fs.length with z | z
  ·exact z
  ·rw [fE z] at hF; cases hF
 have hl:SI.2[c.key.2]?=some SI.2[c.key.2]:=bE lt;obtain ⟨f,hf,pr⟩:=ok.st _ _ hl;rw [hF] at hf;injection hf with hf;subst hf;have hm:(sg,behF J2 ds F sg)∈stepsF J0 J1 J2 ds F:=cj.2 ⟨aB.2 ⟨sg,hs,rfl⟩,zzr1 fun z=>by rw [show behF J2 ds F sg=[] from z] at hr; cases hr⟩;obtain ⟨k,hk,ek⟩:=vQ hm;obtain ⟨a,ha,e1,e2⟩:=Paired.get pr (i:=k) (y:=(sg,behF J2 ds F sg)) (by rw [bE hk,ek]);have hp:a∈SI.2.getD c.key.2 []:=by
  rw [rV,hl];exact aP ha
 have row:=ro c hc a hp;rw [e1] at row;constructor
 ·intro z;rw [show bM (ws.getD c.key.1 []) (sg,behF J2 ds F sg).1=none from z] at row;exact row
 ·intro w z;rw [show bM (ws.getD c.key.1 []) (sg,behF J2 ds F sg).1=some w from z] at row;obtain ⟨c',hc',ec⟩:=aB.1 (lH.1 row);exact ⟨c',hc',by rw [ec],behF J2 ds F sg,by rw [ec]; exact e2,hr⟩
theorem Ga (sh:∀f∈SI.1.fs,FA ds f) {room:Str}{num:Nat}(h:vN P SI room num):∀r∈sZ J2 ds room num (ws.getD num []),∃n',r.2=some n'/\vN P SI r.1 n':=by
 obtain ⟨c,hc,rfl,F,hF,hroom⟩:=h;intro r hr;unfold sZ at hr;rcases bd.1 hr with hr | hr
 ·obtain ⟨d,hd,hrd⟩:=pI.1 hr;have hd1:d∈ds:=(cj.1 hd).1;have hda:d.a=room:=of_decide_eq_true (cj.1 hd).2;have good:=m.good d hd1;unfold dE at hrd;split at hrd
  ·rename_i c1;rw [bF.1 hrd];exact ⟨_,rfl,c,hc,rfl,F,hF,sh F (aP hF) d hd1 c1 (by rw [hda]; exact hroom)⟩
  ·rename_i c1;split at hrd
   ·rename_i c2;rw [bF.1 hrd];have hsg:d.sg∈ao J0 J1/\d.sg≠bT:=by
     unfold ao;rcases good.sg with ⟨w,hw,e⟩ | ⟨w,hw,e⟩ | e
     ·exact ⟨cW _ (cW _ (aB.2 ⟨w,hw,e.symm⟩)),by rw [e]; unfold bT; intro z; injection z with _ z; cases z⟩
     ·exact ⟨cW _ (dk _ (aB.2 ⟨w,hw,e.symm⟩)),by rw [e]; unfold bT; intro z; injection z with _ z; cases z⟩
     ·exact absurd e c1
    obtain ⟨s1,s2⟩:=yG m ok le ro hc hF hsg.1 (Ff hd1 good.b (by rw [hda]; exact hroom) hsg.2);cases e:bM (ws.getD c.key.1 []) d.sg with
    | some w=>exact ⟨w,rfl,s2 w e⟩
    | none =>
     have h1:=s1 e;rcases c2 with z | z
     ·rw [e] at z; cases z
     ·rw [h1] at z; exact absurd z (by decide)
   ·cases hrd
 ·split at hr
  ·rename_i q;rw [bF.1 hr];have hq:=(cj.1 q).2;rw [tm] at hq;have hb:room∈behF J2 ds F bT:=by
    unfold behF;rw [if_pos rfl];exact cj.2 ⟨hroom,hq⟩
   obtain ⟨s1,s2⟩:=yG m ok le ro hc hF (sg:=bT) (by unfold ao; exact dk _ dA) hb;cases e:bM (ws.getD c.key.1 []) bT with
   | some w=>exact ⟨w,rfl,s2 w e⟩
   | none=>exact absurd (s1 e) (by decide)
  ·cases hr
end
theorem Dv {k:Nat}{fi:List Nat}{d l:Addr}{o:Obj}{u:HO}{n:Nat}{ent:Nat->Hp->V->V->Prop}{g:TG}{tc:TT}{te:TE}{σ:L2.St}{H1:Hp}{Q:Hp->Prop}(Pv:Nat->List V->Hp->Prop) (h0:Pv 0 [] (upd H1 l (.lst [])))
  (hl:∀i vs H,i<=n->Pv i vs H->H l=some (.lst vs)/\H d=some (.frz o u)) (hd:∀vs H,Pv n vs H->Q H)
  (hs:∀i vs H a b,i<n->Pv i vs H->ent i H a b->g a (dJ k fi σ) H fun σ2 H4=>tc σ2 H4 fun b H5 =>
   if b=true then te σ2 H5 fun v H6=>H6 l=some (.lst vs)/\vs.length<aj/\∃m',m'<n-i/\Wc n Pv (i+1) m' (vs++[v]) (upd H6 l (.lst (vs++[v]))) else ∃m',m'<n-i/\Wc n Pv (i+1) m' vs H5) :
  gk k fi σ (IG d o u n ent) g tc te H1 l Q:=by
 refine lM n Pv h0 (fun i vs H hi p=>(hl i vs H hi p).1) (fun i vs H hi p=>⟨(hl i vs H (eo hi) p).2,hi⟩) (fun vs H p=>⟨⟨(hl n vs H (aE _) p).2,aE _⟩,hd vs H p⟩) fun i vs H x H3 hi p y=>?_;obtain ⟨rfl,b,en⟩:=y;exact hs i vs _ x b hi p en
abbrev Row:=Str×Nat
def p8 (r:Row):TK:=.t [.k (.inr r.1),.k (.inl (r.2:Int))]
theorem Go {a b:Row}(h:p8 a=p8 b):a=b:=by
 unfold p8 at h;injection h with h;injection h with h1 h2;injection h2 with h2 _;injection h1 with h1;injection h2 with h2;injection h1 with h1;injection h2 with h2;obtain ⟨a1,a2⟩:=a;obtain ⟨b1,b2⟩:=b;simp only at h1 h2;rw [h1,show a2=b2 by omega]
theorem iB (k:Row):(p8 k).depth<=8:=by
 show max 0 (max 0 0)+1<=8
 decide
abbrev tZ (H:Hp) (a:Addr) (k:Row):Prop:=H a=some (.tup [.str k.1,.int (k.2:Nat)])
theorem tZ.tk {H:Hp}{a:Addr}{k:Row}(h:tZ H a k):cT H (p8 k) (.ref a):=by
 unfold p8 cT;refine ⟨a,_,rfl,h,?_⟩;unfold TKAts;refine ⟨_,_,rfl,?_,?_⟩
 ·unfold cT; rfl
 unfold TKAts;refine ⟨_,_,rfl,?_,?_⟩
 ·unfold cT; rfl
 unfold TKAts
 rfl
theorem FP {K:Za}{H:Hp}{k:Row}{a:V}(h:nP K H (p8 k) a):∃b,a=.ref b/\bV K H b [.str k.1,.int (k.2:Nat)]:=by
 unfold p8 nP at h;obtain ⟨b,xs,rfl,h1,h2⟩:=h;unfold TKCs at h2;obtain ⟨v,us,rfl,h3,h4⟩:=h2;unfold TKCs at h4;obtain ⟨v',us',rfl,h5,h6⟩:=h4;unfold TKCs at h6;unfold nP at h3 h5;subst h3 h5 h6;exact ⟨b,rfl,h1⟩
def tG (L:List Row):List (TK×V):=L.map fun r=>(p8 r,.bl true)
theorem xo (r:Row):∀L:List Row,(bQ (tG L) (p8 r)).isSome=decide (r∈L)
 | []=>rfl
 | x::L=>by
  show (bQ ((p8 x,V.bl true)::tG L) (p8 r)).isSome=_;by_cases c:x=r
  ·rw [cD (by show p8 x=p8 r; rw [c])];simp [c]
  ·rw [cz (fun z=>c (Go z)),xo r L];simp [dz c]
theorem yI {J2:Zb}{n:Nat}{L:List Row}(nd:L.Nodup) (h:∀r∈L,r.1∈J2/\r.2<n):L.length<=J2.length * n:=by
 have h1:=iz nd (R:=J2.flatMap fun x=>(jz n).map fun i=>(x,i)) fun r hr=>by
  obtain ⟨h2,h3⟩:=h r hr;exact pI.2 ⟨r.1,h2,aB.2 ⟨r.2,List.mem_range.2 h3,rfl⟩⟩
 have:∀l:List Str,(l.flatMap fun x=>(jz n).map fun i=>(x,i)).length=l.length * n:=by
  intro l
  induction l with
  | nil=>simp
  | cons x l ih=>rw [rU,ay,ih,ai,si,em,vT]; omega
 rw [this] at h1;exact h1
structure RowP (J2:Zb) (ds:List am) (ws:List (List (Sg×Nat))) (n:Nat) (R:Row->Prop):Prop where
 rg:∀r,R r->r.1∈J2/\r.2<n
 next:∀r,R r->∀x∈sZ J2 ds r.1 r.2 (ws.getD r.2 []),∃n',x.2=some n'/\R (x.1,n')
structure rC (H0 H:Hp) (rd wl:Addr) (ps:Ze) (L W:List Row) (R:Row->Prop):Prop where
 hrd:H rd=some (.dT (tG L))
 hwl:H wl=some (.lst (ps.map V.ref))
 hps:Paired (fun a r=>tZ H a r) ps W
 nd:L.Nodup
 all:∀r∈L,R r
 sub:∀r∈W,r∈L
 S:ab H0 H
 r0:H0 rd=none
 w0:H0 wl=none
theorem rC.same {H0 H H':Hp}{rd wl:Addr}{ps:Ze}{L W:List Row}{R:Row->Prop}(h:rC H0 H rd wl ps L W R) (S:ab H H'):rC H0 H' rd wl ps L W R :=
 ⟨S _ _ h.hrd,S _ _ h.hwl,Paired.mapP h.hps fun _ _ r=>S _ _ r,h.nd,h.all,h.sub,h.S.trans S,h.r0,h.w0⟩
theorem rC.add {H0 H:Hp}{rd wl u:Addr}{ps:Ze}{L W:List Row}{R:Row->Prop}(h:rC H0 H rd wl ps L W R) {r:Row}(hu:tZ H u r) (hn:¬r∈L) (hr:R r) :
  rC H0 (upd (upd H rd (.dT (cO (tG L) (p8 r) (.bl true)))) wl (.lst (ps.map V.ref++[.ref u]))) rd wl (ps++[u]) (L++[r]) (W++[r]) R:=by
 have nwr:wl≠rd:=fun z=>by have:=h.hwl; rw [z,h.hrd] at this; cases this
 have k1:fP H (upd H rd (.dT (cO (tG L) (p8 r) (.bl true)))):=Df h.hrd;have wl1:upd H rd (.dT (cO (tG L) (p8 r) (.bl true))) wl=some (.lst (ps.map V.ref)):=by rw [af nwr]; exact h.hwl
 have k2:=k1.trans (cr (o:=.lst (ps.map V.ref++[.ref u])) wl1);have vn:bQ (tG L) (p8 r)=none:=by
  have:=xo r L;rw [zzr0 hn] at this;cases e:bQ (tG L) (p8 r) with
  | none=>rfl
  | some v=>rw [e] at this; cases this
 refine ⟨?_,?_,cp (Paired.mapP h.hps fun _ _ q=>k2 _ _ q) (k2 _ _ hu),?_,?_,?_,?_,h.r0,h.w0⟩
 ·rw [af nwr.symm,aa,fX _ vn];unfold tG;rw [aq]; rfl
 ·rw [aa,aq]; rfl
 ·rw [cH];exact ⟨h.nd,by simp,fun a ha b hb e=>hn (by rw [<-bF.1 hb,<-e]; exact ha)⟩
 ·intro x hx;rcases bd.1 hx with hx | hx
  ·exact h.all x hx
  ·rw [bF.1 hx]; exact hr
 ·intro x hx;rcases bd.1 hx with hx | hx
  ·exact cW _ (h.sub x hx)
  ·exact dk _ hx
 ·intro b q e;rw [af (ae e h.w0),af (ae e h.r0)];exact h.S _ _ e
inductive j_ (K:Za) (C Cm:Addr) (vs:List V) (H:Hp) (Q:VK) (E:XK):Prop
 | mk (H0:Hp) (mo I M fa sa na ta:Addr) (us ws' ts:Ze) (m:gD) (ws:List (List (Sg×Nat))) (J0 J1 J2:Zb) (ds:List am) (R:Row->Prop) (f0:Str):(vs=[.ref mo,.ref I])->(hJ K C H mo M fa sa na ta us ws' m)->(H ta=some (.lst (ts.map V.ref)))->(zW H0 H ts ws)->(bx Cm H I J0 J1 J2 ds)->(RowP J2 ds ws ts.length R)->(ts.length=m.fs.length)->(ts.length<=256)->(J2[0]?=some f0)->(R (f0,0))->(∀(l:Addr) (ps:Ze) (L:List Row) (H':Hp),H' l=some (.lst (ps.map V.ref))->Paired (fun u (r:Row)=>∃ft f,H' u=some (.tup [.str r.1,.ref ft])/\m.fs[r.2]?=some f/\H' ft=some (.tup (f.map V.str))) ps L->L.Nodup->(∀r∈L,R r)->H l=none->ab H H'->Q (.ref l) H')->j_ K C Cm vs H Q E
theorem Aw {K:Za}{C Cm:Addr}(c:FC K C) {vs:List V}{H:Hp}{Q:VK}{E:XK}(h:j_ K C Cm vs H Q E):Ab K (oI K Cm) Cm (iL Cm) (bJ Q) (start Bk vs) H:=by
 obtain ⟨H0,mo,I,M,fa,sa,na,ta,us,ws',ts,m,ws,J0,J1,J2,ds,R,f0,rfl,F,hta,st,MA,rp,zt,z256,hf0,hR0,k⟩:=h;have z3:=MA.ok.rooms26;obtain ⟨dx,fs,o1,o2,o3,o4,lv,qu,sg,sl,tt,lps,gps,sps,g1,a1,a2,a3,a4,_⟩:=MA.at_;have at0:pD (J2.map V.str) 0=some (.str f0):=bt (j:=0) (by rw [bZ,hf0]; rfl);have lt0:=(rp.rg _ hR0).2;refine ⟨_,rfl,I,dx,fs,rfl,g1,a4,I,J0,J1,J2,ds,rfl,MA,fun rl hrl=>⟨rl,_,0,_,rfl,rfl,az.of aa,at0,(by show 2<=aj; decide),fun p0 hp0=>?_⟩⟩;have S1:ab H (upd (upd H rl (.lst (J2.map V.str))) p0 (.tup [.str f0,.int 0])):=(ab.new hrl).trans (ab.new hp0);have r1:tZ (upd (upd H rl (.lst (J2.map V.str))) p0 (.tup [.str f0,.int 0])) p0 (f0,0):=aa;generalize upd (upd H rl (.lst (J2.map V.str))) p0 (.tup [.str f0,.int 0])=H1 at S1 r1 ⊢;refine fun rd hrd=>⟨_,rfl,aa,p0,p8 (f0,0),rfl,cT.c 8 (iB _) (tZ.tk (kp r1 hrd)),iB _,?_⟩;have S2:ab H1 (upd (upd H1 rd (.dT [])) rd (.dT [(p8 (f0,0),.bl true)])):=fun b o e=>by rw [af (ae e hrd)]; exact kp e hrd
 have rd2:upd (upd H1 rd (.dT [])) rd (.dT [(p8 (f0,0),.bl true)]) rd=some (.dT (tG [(f0,0)])):=aa;generalize upd (upd H1 rd (.dT [])) rd (.dT [(p8 (f0,0),.bl true)])=H2 at S2 rd2 ⊢;refine ⟨_,rfl,(by show 1<=aj; decide),fun wl hwl=>?_⟩;have S3:ab H2 (upd H2 wl (.lst [.ref p0])):=ab.new hwl;have A3:rC H (upd H2 wl (.lst [.ref p0])) rd wl [p0] [(f0,0)] [(f0,0)] R :=
  ⟨S3 _ _ rd2,aa,.cons (S3 _ _ (S2 _ _ r1)) .nil,by simp,fun r hr=>by rw [bF.1 hr]; exact hR0,fun r hr=>hr,(S1.trans S2).trans S3,S1.free hrd,(S1.trans S2).free hwl⟩
 generalize upd H2 wl (.lst [.ref p0])=H3 at S3 A3 ⊢;have few:∀{H':Hp}{ps:Ze}{L W:List Row},rC H H' rd wl ps L W R->L.length<=40000:=fun A=>by
  have h1:=yI A.nd fun r hr=>rp.rg r (A.all r hr);have h2:J2.length * ts.length<=150 * 256:=pH z3 z256;omega
 refine ⟨fun mm σ H'=>∃(ps:Ze) (L W:List Row) (x5 x6 x7:Option V),mm=2 * (40000-L.length)+W.length/\mm<=80000/\σ=[some (.ref mo),some (.ref I),some (.ref p0),some (.ref rd),some (.ref wl),x5,x6,x7]/\rC H H' rd wl ps L W R,⟨_,[p0],[(f0,0)],[(f0,0)],_,_,_,rfl,(by show 2 * (40000-1)+1<=80000; decide),rfl,A3⟩,?_⟩;rintro mm σ H4 ⟨ps,L,W,x5,x6,x7,rfl,hmm,rfl,A⟩;have fw:=few A;refine ⟨_,rfl,.inl ⟨wl,_,rfl,.inl (az.of A.hwl),_,_,rfl,rfl,_,rfl,?_⟩⟩;have zp:(ps.map V.ref).length=W.length:=by rw [ai,Paired.length A.hps]
 refine Dl (P:=0<W.length) (by rw [zp]; simp) (fun pos=>?_) (fun nil=>?_)
 ·have hr:W[W.length-1]?=some W[W.length-1]:=bE (by omega);obtain ⟨a,ea,hat⟩:=Paired.get A.hps hr;have hrL:=A.sub W[W.length-1] (jY _);have hRr:=A.all _ hrL;have hrg:=rp.rg _ hRr;have hnext:=rp.next _ hRr;generalize W[W.length-1]=r at hr hat hrL hRr hrg hnext;have last:(ps.map V.ref)[(ps.map V.ref).length-1]?=some (.ref a):=by rw [zp,bZ,ea]; rfl
  have kt:fP H4 (upd H4 wl (.lst (ps.map V.ref).dropLast)):=cr A.hwl;have nwr:wl≠rd:=fun z=>by have:=A.hwl; rw [z,A.hrd] at this; cases this
  have A5:rC H (upd H4 wl (.lst (ps.map V.ref).dropLast)) rd wl (ps.take (W.length-1)) L (W.take (W.length-1)) R:=by
   refine ⟨by rw [af nwr.symm]; exact A.hrd,?_,Paired.mapP (Paired.takeP _ A.hps) fun _ _ q=>kt _ _ q,A.nd,A.all,fun x hx=>A.sub x (fj hx),fun b q e=>by rw [af (ae e A.w0)]; exact A.S _ _ e,A.r0,A.w0⟩;rw [aa,List.dropLast_eq_take,zp,mZ]
  have hat5:=kt _ _ hat;have zw:(W.take (W.length-1)).length=W.length-1:=by rw [aX]; omega
  refine ⟨fun σ' H'=>∃m',m'<2 * (40000-L.length)+W.length/\∃(ps:Ze) (L W:List Row) (x5 x6 x7:Option V),m'=2 * (40000-L.length)+W.length/\m'<=80000/\σ'=[some (.ref mo),some (.ref I),some (.ref p0),some (.ref rd),some (.ref wl),x5,x6,x7]/\rC H H' rd wl ps L W R,fun σ' H' h=>h,?_⟩;refine ⟨_,rfl,.inl ⟨rfl,_,az.of A.hwl⟩,wl,_,.ref a,rfl,rfl,A.hwl,last,a,_,rfl,bj.of hat5,rfl,_,_,rfl,_,_,rfl,rfl,?_⟩;generalize upd H4 wl (.lst (ps.map V.ref).dropLast)=H5 at A5 hat5 kt ⊢;have F5:=F.same A5.S;obtain ⟨dx5,fs5,g5,m1,m2,m3,m4,m5,_⟩:=F5.ob;have ed:ts[r.2]?=some (ts[r.2]'hrg.2):=bE hrg.2;have atd:pD (ts.map V.ref) (r.2:Nat)=some (.ref (ts[r.2]'hrg.2)):=bt (by rw [bZ,ed]; rfl);obtain ⟨_,hrd5⟩:=zW.rd st ed;generalize ts[r.2]'hrg.2=sd at ed atd hrd5;refine ⟨_,rfl,_,rfl,_,rfl,_,rfl,mo,C,dx5,fs5,.ref ta,rfl,g5,c.cls,c.a5,m5,_,rfl,ta,_,_,_,rfl,rfl,az.of (A5.S _ _ hta),atd,I,sd,r.1,r.2,ws.getD r.2 [],J0,J1,J2,ds,rfl,MA.same A5.S,hrg.1,Rd.same A5.S hrd5,fun nl nu H6 hnl hR6 hnl0 S6=>⟨nl,rfl,⟨_,az.of hnl⟩,?_⟩⟩;have nnw:nl≠wl:=dz (ae A5.hwl hnl0);refine cn (xs:=nu.map V.ref) (fun i σ H'=>∃(ps:Ze) (L' W':List Row) (x7:Option V),σ=[some (.ref mo),some (.ref I),some (.ref p0),some (.ref rd),some (.ref wl),some (.str r.1),some (.int (r.2:Nat)),x7]/\rC H H' rd wl ps L' W' R/\2 * (40000-L'.length)+W'.length<2 * (40000-L.length)+W.length/\H' nl=some (.lst (nu.map V.ref))/\iR H' nu (sZ J2 ds r.1 r.2 (ws.getD r.2 [])))
   ⟨_,_,_,_,rfl,A5.same S6,by rw [zw]; omega,hnl,hR6⟩ (fun i σ H' _ ⟨_,_,_,_,_,_,_,q,_⟩=>az.of q) ?_ ?_
  ·rintro i y σ H7 hi ⟨ps7,L7,W7,x7,rfl,A7,lt7,nl7,R7⟩;obtain ⟨u,hu,rfl⟩:=cP hi;obtain ⟨row,hrow,hut⟩:=Paired.getL R7 hu;obtain ⟨n',en,hRn⟩:=hnext row (aP hrow);have hu7:tZ H7 u (row.1,n'):=by rw [en] at hut; exact hut
   have gd:kz K H7 rd (.ref u) (bQ (tG L7) (p8 (row.1,n'))):=.inr ⟨_,p8 (row.1,n'),u,.inl A7.hrd,rfl,cT.isIn 8 (iB _) hu7.tk,iB _,rfl⟩;refine ⟨_,rfl,_,rfl,rd,_,rfl,gd,_,rfl,?_⟩;rw [xo];have fw7:=few A7;refine Dl (P:=¬(row.1,n')∈L7) (by by_cases q:(row.1,n')∈L7 <;> simp [q]) (fun new=>?_) (fun old=>⟨ps7,L7,W7,_,rfl,A7,lt7,nl7,R7⟩);have A8:=A7.add hu7 new hRn;have fw8:=few A8;rw [ay] at fw8;have fw8:L7.length+1<=40000:=fw8;have nwr:wl≠rd:=fun z=>by have:=A7.hwl; rw [z,A7.hrd] at this; cases this
   refine ⟨_,rfl,_,rfl,rd,u,tG L7,p8 (row.1,n'),rfl,rfl,A7.hrd,cT.c 8 (iB _) hu7.tk,iB _,by unfold tG; rw [ai,gv]; omega,?_⟩;have wl8:upd H7 rd (.dT (cO (tG L7) (p8 (row.1,n')) (.bl true))) wl=some (.lst (ps7.map V.ref)):=by rw [af nwr]; exact A7.hwl
   have w7:W7.length<=1000000:=by omega
   refine ⟨_,rfl,.inl ⟨rfl,_,az.of wl8⟩,_,rfl,wl,_,.ref u,rfl,rfl,wl8,by rw [ai,Paired.length A7.hps,gv]; omega,?_⟩;refine ⟨_,_,_,_,rfl,A8,?_,?_,?_⟩
   ·rw [ay,ay];show 2 * (40000-(L7.length+1))+(W7.length+1)<_;omega
   ·rw [af nnw,af (fun z=>by have:=A7.hrd; rw [<-z,nl7] at this; cases this)]; exact nl7
   ·exact iR.kt ((Df A7.hrd).trans (cr wl8)) R7
  ·rintro σ H7 ⟨ps7,L7,W7,x7,rfl,A7,lt7,_⟩;exact ⟨_,lt7,ps7,L7,W7,_,_,_,rfl,by omega,rfl,A7⟩
 ·refine ⟨_,rfl,rd,tG L,rfl,.inl ⟨A.hrd,fun o l hl=>?_⟩⟩;have S5:ab H (upd H4 rd (.frz o (.dT (tG L)))):=fun b q e=>by rw [af (ae e A.r0)]; exact A.S _ _ e
  have rd5:upd H4 rd (.frz o (.dT (tG L))) rd=some (.frz o (.dT (tG L))):=aa;generalize upd H4 rd (.frz o (.dT (tG L)))=H5 at S5 rd5 hl ⊢;have el:(tG L).length=L.length:=by unfold tG; rw [ai]
  have nrl:rd≠l:=ae rd5 hl;refine Dv (fun i vs H'=>∃qs:List Addr,vs=qs.map V.ref/\H' l=some (.lst vs)/\H' rd=some (.frz o (.dT (tG L)))/\Paired (fun u (r:Row)=>∃ft f,H' u=some (.tup [.str r.1,.ref ft])/\m.fs[r.2]?=some f/\H' ft=some (.tup (f.map V.str))) qs (L.take i)/\ab H H')
   ⟨[],rfl,aa,kp rd5 hl,.nil,S5.trans (ab.new hl)⟩ (fun i vs H' _ ⟨_,_,q1,q2,_⟩=>⟨q1,q2⟩) ?_ ?_
  ·rintro vs H' ⟨qs,rfl,q1,_,q3,q4⟩;rw [el,bh] at q3;exact k l qs L H' q1 q3 A.nd A.all (S5.free hl) q4
  ·rintro i vs H' x b hi ⟨qs,rfl,q1,q2,q3,q4⟩ ⟨key,ek,tkc⟩;unfold tG at ek;rw [bZ] at ek;obtain ⟨r,hr,er⟩:=mW.1 ek;cases er;obtain ⟨rb,rfl,hrb⟩:=FP tkc;have hrg:=rp.rg r (A.all r (aP hr));have F':=F.same q4;obtain ⟨dx',fs',g',m1,m2,_⟩:=F'.ob;have hfn:m.fs[r.2]?=some (m.fs[r.2]'(by omega)):=bE (by omega);obtain ⟨u,eu,hut⟩:=Paired.get F'.faces hfn;have atu:pD (us.map V.ref) (r.2:Nat)=some (.ref u):=bt (by rw [bZ,eu]; rfl);refine ⟨rb,_,rfl,bV.sq hrb,rfl,_,_,rfl,_,_,rfl,rfl,sE ?_⟩;refine ⟨_,rfl,_,rfl,mo,C,dx',fs',.ref fa,rfl,g',c.cls,c.a2,m2,_,rfl,fa,_,_,_,rfl,rfl,az.of F'.hfa,atu,(by show 2<=aj; decide),fun v hv=>⟨kp q1 hv,?_,o0 hi ⟨qs++[v],by rw [aq]; rfl,aa,?_,?_,?_⟩⟩⟩
   ·rw [ai,Paired.length q3,aX,gv]; omega
   ·rw [af (fun z=>by rw [z,q1] at q2; cases q2)]; exact kp q2 hv
   ·rw [take_snoc hr];have hk:fP H' (upd (upd H' v (.tup [.str r.1,.ref u])) l (.lst (qs.map V.ref++[.ref v]))):=(ab.kt (ab.new hv)).trans (cr (kp q1 hv));refine cp (Paired.mapP q3 fun _ _ ⟨ft,f,w1,w2,w3⟩=>⟨ft,f,hk _ _ w1,w2,hk _ _ w3⟩) ⟨u,_,?_,hfn,hk _ _ hut⟩;rw [af (ae q1 hv).symm];exact aa
   ·intro b q e;rw [af (ae e (S5.free hl))];exact kp (q4 _ _ e) hv
def ui (K:Za) (C_Machine:Addr) (sp_Machine_says:Sp) (sp_Machine_asks:Sp):TS :=
 cx (D_ (aO (aD (p9 K) (dB C_Machine "asks" sp_Machine_asks [] E0 V0 aT) (dB C_Machine "asks" sp_Machine_asks [] E0 V1 aT))) (aO (aD (p9 K) (dB C_Machine "says" sp_Machine_says [] E0 V0 aT) (dB C_Machine "says" sp_Machine_says [] E0 V1 aT)))) (sM) (bG)
def uP:List Str:=["M","I"]
def j4 (K:Za) (C_Machine:Addr) (sp_Machine_rooms:Sp) (sp_Machine_asks:Sp) (jG:Sp):TS :=
 eC (cb K (dB C_Machine "rooms" sp_Machine_rooms [] E0 V0 aT)) U1 (eC (cb K (dB C_Machine "asks" sp_Machine_asks [] E0 V0 aT)) U2 (cx (Ho (tB (aM jG (eU V0 V1 V2)))) (sM) (bG)))
def ko:List Str:=["I","room","ask"]
def uh (K:Za) (sp_need_all_asks_taken:Sp) (sp_need_match:Sp):TS :=
 ap (bH (aM sp_need_match (aS V0 V1)))
 (bH (aM sp_need_all_asks_taken (aA V1)))
def uO:List Str:=["M","I"]
def wN (K:Za) (sp_law_put:Sp) (sp_law_take:Sp) (sp_law_still_on:Sp):TS :=
 ap (aK V1 (fG K 4 (aN U2 (aN U3 (aN U4 (aN U5 (fy)))))))
 (ap (aK (fu (dD K) (aA V5)) U5)
 (ap (aK (aM sp_law_take (aS V0 (tC (.int 6)))) U6)
 (ap (aK (aM sp_law_take (ar V0 (aA (fu Il (aS (tC (.int 1)) (fu (d9 K) (aA V5))))))) U7)
 (ap (aK (aD (cU K) V4 (aM sp_law_take (aS V0 (fu (d9 K) (aA V4))))) U8)
 (ap (aK (aD (cU K) V4 (aM sp_law_take (aS V0 (fu (d9 K) (aA V4))))) U9)
 (ap (cx (aO (aD AA V6 (tC (.int 0)))) (bH (aM sp_law_put (ar V5 (ar (be (ar V8 (ar (be (ar (tC (.str "say")) (ar (aD (cU K) V3 (aM sp_law_take (aS V0 (fu (d9 K) (aA V3))))) aT))) (aA V9)))) aT)))) (cx (aO (aD AA V6 (tC (.int 1)))) (bH (aM sp_law_put (ar V5 (ar (be (ar V8 (ar (be (ar (tC (.str "ask")) (ar (aD (cU K) V2 (aM sp_law_take (aS V0 (fu (d9 K) (aA V2))))) aT))) (aA V9)))) aT)))) (cx (mB (aO (aD C4 V6 (tC (.int 4)))) (mB (aO (aD (p9 K) V5 (cq (aT)))) (aO (aD Hu (aD (fO K) (aD (fO K) (aD (cU K) V5 V7) (tC (.int 1))) (tC (.int 0))) (tC (.str "still")))))) (ap (aK (oG K "list" Ew V5 (aA V7)) H_)
 (cx (aO (aD AA V6 (tC (.int 3)))) (bH (aM sp_law_put (ar V5 (ar (be (eU (aD (fO K) DN (tC (.int 0))) (aD (fO K) DN (tC (.int 1))) V9)) aT)))) (bG))) (cx (mB (aO (aD AA V6 (tC (.int 4)))) (aO (aD (oW K true) V8 (aM sp_law_still_on (aS V5 (cq (aA V9))))))) (bH (aM sp_law_put (ar V5 (ar (be (eU V8 (be (aA (tC (.str "still")))) V9)) aT)))) (bG)))))
 (bB (be (ar V2 (eU V3 V4 V5))))))))))
def xR:List Str:=["pen","told","asks","says","rooms","doors","way","at","room","other","door"]
def Ae (K:Za) (sp_law_take:Sp) (sp_law_renamed:Sp) (sp_law_willing:Sp) (sp_law_turned:Sp) (sp_law_anew:Sp):TS :=
 ap (bH (aM sp_law_anew (aA V0)))
 (ap (eC (vB (ar (aM sp_law_take (aS V0 (aD eA V2 (tC (.int 1))))) aT)) U3 (aK (aM sp_law_turned (aS V0 V1)) U1))
 (ap (aK (aM sp_law_willing (aS V0 V1)) U1)
 (ap (cx (aO (aD AA (aM sp_law_take (aS V0 (tC (.int 2)))) (tC (.int 0)))) (aK (aM sp_law_renamed (aS V0 V1)) U1) (bG))
 (bB V1))))
def Bn:List Str:=["pen","told","most","turn"]
inductive fW (C:Addr) (vs:List V) (H:Hp) (Q:VK) (E:XK):Prop
 | mk (x y:Addr) (J0 J1 J2 rooms':Zb) (ds ds':List am):(vs=[.ref x,.ref y])->(bx C H x J0 J1 J2 ds)->(bx C H y J0 J1 rooms' ds')->(∀H',ab H H'->Q .non H')->fW C vs H Q E
theorem tf {K:Za}{C:Addr}{vs:List V}{H:Hp}{Q:VK}{E:XK}(h:fW C vs H Q E):ui K C (oH C) (lX C) (bJ Q) (start uP vs) H:=by
 obtain ⟨x,y,J0,J1,J2,rooms',ds,ds',rfl,M,N,k⟩:=h;obtain ⟨dx,fs,g1,a1,a2,_⟩:=id M.more;obtain ⟨dy,gs,g2,b1,b2,_⟩:=id N.more;refine ⟨_,rfl,x,dx,fs,rfl,g1,a1,x,J0,J1,J2,ds,rfl,M,fun l1 h1=>?_⟩;have S1:ab H (upd H l1 (.lst (J0.map V.str))):=ab.new h1;have e1:upd H l1 (.lst (J0.map V.str)) l1=some (.lst (J0.map V.str)):=aa;generalize upd H l1 (.lst (J0.map V.str))=H1 at S1 e1 ⊢;refine ⟨_,rfl,y,dy,gs,rfl,S1 _ _ g2,b1,y,J0,J1,rooms',ds',rfl,N.same S1,fun l2 h2=>?_⟩;have S2:ab H (upd H1 l2 (.lst (J0.map V.str))):=S1.trans (ab.new h2);refine B_ (kp e1 h2) aa ⟨_,rfl,?_⟩;generalize upd H1 l2 (.lst (J0.map V.str))=H2 at S2 ⊢;rw [zzr1 rfl];refine ck ?_;refine ⟨_,rfl,x,dx,fs,rfl,S2 _ _ g1,a2,x,J0,J1,J2,ds,rfl,M.same S2,fun l3 h3=>?_⟩;have S3:ab H (upd H2 l3 (.lst (J1.map V.str))):=S2.trans (ab.new h3);have e3:upd H2 l3 (.lst (J1.map V.str)) l3=some (.lst (J1.map V.str)):=aa;generalize upd H2 l3 (.lst (J1.map V.str))=H3 at S3 e3 ⊢;refine ⟨_,rfl,y,dy,gs,rfl,S3 _ _ g2,b2,y,J0,J1,rooms',ds',rfl,N.same S3,fun l4 h4=>?_⟩;have S4:ab H (upd H3 l4 (.lst (J1.map V.str))):=S3.trans (ab.new h4);refine B_ (kp e3 h4) aa ⟨_,rfl,?_⟩;rw [zzr1 rfl];exact ck (k _ S4)
inductive ie (C:Addr) (vs:List V) (H:Hp) (Q:VK) (E:XK):Prop
 | mk (x:Addr) (J0 J1 J2:Zb) (ds:List am):(vs=[.ref x])->(bx C H x J0 J1 J2 ds)->((∀r∈J2,∀a∈J0,gB ds r a))->(∀H',ab H H'->Q .non H')->ie C vs H Q E
theorem xb {K:Za}{C:Addr}{vs:List V}{H:Hp}{Q:VK}{E:XK}(h:ie C vs H Q E):j4 K C (iL C) (lX C) (jG C) (bJ Q) (start ko vs) H:=by
 obtain ⟨x,J0,J1,J2,ds,rfl,M,tk,k⟩:=h;obtain ⟨dx,fs,o1,o2,o3,o4,lv,qu,sgA,sl,ts,lps,gps,sps,g1,a1,a2,a3,a4,_⟩:=id M.at_;refine ⟨_,rfl,x,dx,fs,rfl,g1,a4,x,J0,J1,J2,ds,rfl,M,fun l1 h1=>?_⟩;have S1:ab H (upd H l1 (.lst (J2.map V.str))):=ab.new h1;have e1:upd H l1 (.lst (J2.map V.str)) l1=some (.lst (J2.map V.str)):=aa;generalize upd H l1 (.lst (J2.map V.str))=H1 at S1 e1 ⊢;refine ⟨l1,rfl,⟨_,az.of e1⟩,?_⟩;refine cn (xs:=J2.map V.str) (fun i σ H'=>∃y z,σ=[some (.ref x),y,z]/\ab H1 H') ⟨_,_,rfl,ab.refl _⟩ (fun i σ H' _ ⟨_,_,_,S⟩=>az.of (S _ _ e1)) ?_ ?_
 ·rintro i v σ H2 hi ⟨y,z,rfl,S2⟩;obtain ⟨r,hr,rfl⟩:=bC hi;have M2:=M.same (S1.trans S2);obtain ⟨dx,fs,g1,a1,_⟩:=id M2.more;refine ⟨_,rfl,x,dx,fs,rfl,g1,a1,x,J0,J1,J2,ds,rfl,M2,fun l2 h2=>?_⟩;have S3:ab H1 (upd H2 l2 (.lst (J0.map V.str))):=S2.trans (ab.new h2);have e2:upd H2 l2 (.lst (J0.map V.str)) l2=some (.lst (J0.map V.str)):=aa;generalize upd H2 l2 (.lst (J0.map V.str))=H3 at S3 e2 ⊢;refine ⟨l2,rfl,⟨_,az.of e2⟩,?_⟩;refine cn (xs:=J0.map V.str) (fun j σ H'=>∃z,σ=[some (.ref x),some (.str r),z]/\ab H3 H') ⟨_,rfl,ab.refl _⟩ (fun i σ H' _ ⟨_,_,S⟩=>az.of (S _ _ e2)) ?_ ?_
  ·rintro j v σ H4 hj ⟨z,rfl,S4⟩;obtain ⟨a,ha,rfl⟩:=bC hj;refine ⟨_,rfl,_,rfl,_,rfl,x,r,a,J0,J1,J2,ds,rfl,M.same ((S1.trans S3).trans S4),aP hr,fun H5 S5=>⟨_,rfl,?_⟩⟩;rw [lg.2 (tk r (aP hr) a (aP ha))];exact ck ⟨_,rfl,S4.trans S5⟩
  ·rintro σ H4 ⟨z,rfl,S4⟩;exact ⟨_,_,rfl,S3.trans S4⟩
 ·rintro σ H2 ⟨y,z,rfl,S2⟩;exact k H2 (S1.trans S2)
inductive fV (C:Addr) (vs:List V) (H:Hp) (Q:VK) (E:XK):Prop
 | mk (x y:Addr) (J0 J1 J2 rooms':Zb) (ds ds':List am):(vs=[.ref x,.ref y])->(bx C H x J0 J1 J2 ds)->(bx C H y J0 J1 rooms' ds')->((∀r∈rooms',∀a∈J0,gB ds' r a))->(∀H',ab H H'->Q .non H')->fV C vs H Q E
theorem s_ {K:Za}{C:Addr}{vs:List V}{H:Hp}{Q:VK}{E:XK}(h:fV C vs H Q E):uh K (ie C) (fW C) (bJ Q) (start uO vs) H:=by
 obtain ⟨x,y,J0,J1,J2,rooms',ds,ds',rfl,M,N,tk,k⟩:=h;exact ⟨_,rfl,_,rfl,x,y,J0,J1,J2,rooms',ds,ds',rfl,M,N,fun H1 S1=>⟨_,rfl,y,J0,J1,rooms',ds',rfl,N.same S1,tk,fun H2 S2=>k H2 (S1.trans S2)⟩⟩
theorem aJ.out {J0 J1 J2:Zb}{ds:List am}(m:aJ J0 J1 J2 ds) (k:Nat):aJ J0 J1 J2 (ds.eraseIdx k):=by
 have sub:(ds.eraseIdx k).Sublist ds:=List.eraseIdx_sublist ds k;exact { m with nodup:=m.nodup.sublist sub,good:=fun d hd=>m.good d (sub.mem hd),few:=bv sub.length_le m.few,noround:=fun r z=>m.noround r (z.mono fun x y h=>sub.mem h) }
theorem Paired.out {α β:Type}{R:α->β->Prop}:∀{as:List α}{bs:List β}(k:Nat),Paired R as bs->Paired R (as.eraseIdx k) (bs.eraseIdx k)
 | _,_,_,.nil=>.nil
 | _,_,0,.cons _ t=>t
 | _,_,k+1,.cons r t=>.cons r (Paired.out k t)
theorem vE {α β:Type}(f:α->β):∀(l:List α) (n:Nat),(l.map f).eraseIdx n=(l.eraseIdx n).map f
 | [],_=>rfl
 | _::_,0=>rfl
 | a::l,n+1=>by show f a::_=f a::_; rw [vE f l n]
def TR (J0 J1 J2:Zb) (n:Nat) (ds:List am):Prop:=aJ J0 J1 J2 ds/\ds.length<=n
inductive lS  (vs:List V) (H:Hp) (Q:VK) (E:XK):Prop
 | mk (p c t l1 l2 l3 l4:Addr) (ts:Ze) (J0 J1 J2:Zb) (ds:List am):(vs=[.ref p,.ref t])->(gC H p c)->(im H t l1 l2 l3 l4 ts J0 J1 J2 ds)->(aJ J0 J1 J2 ds)->(ds.length<=690)->(∀(t' l4':Addr) (ts':Ze) (ds':List am) (H':Hp),im H' t' l1 l2 l3 l4' ts' J0 J1 J2 ds'->aJ J0 J1 J2 ds'->ds'.length<=ds.length+1->gC H' p c->cX p H H'->Q (.ref t') H')->lS  vs H Q E
theorem CV {K:Za}{vs:List V}{H:Hp}{Q:VK}{E:XK}(h:lS vs H Q E):wN K j9 fB (eG K) (bJ Q) (start xR vs) H:=by
 obtain ⟨p,c,t,l1,l2,l3,l4,ts,J0,J1,J2,ds,rfl,hp,T,m,z8,k⟩:=h;have a4:=m.asks4;have s4:=m.says4;have r4:=m.rooms26;refine ⟨_,rfl,t,_,rfl,bj.of T.t,rfl,_,_,rfl,_,_,rfl,_,_,rfl,_,_,rfl,rfl,?_⟩;refine ⟨_,rfl,.inl ⟨l4,_,rfl,.inl (az.of T.a4),fun f hf=>?_⟩⟩;have B0:TX H p c f (fun x=>x=ds) (upd H f (.lst (ts.map V.ref))):=⟨hp.ex (ab.new hf),⟨ts,ds,aa,T.ds.kt (ab.kt (ab.new hf)),rfl⟩,cX.new hf,hf,hp.nep hf,hp.nec hf⟩;generalize upd H f (.lst (ts.map V.ref))=H1 at B0 ⊢;have keep:∀{H':Hp}{R:List am->Prop},TX H p c f R H'->H' l1=some (.lst (J0.map V.str))/\H' l2=some (.lst (J1.map V.str))/\H' l3=some (.lst (J2.map V.str)):=fun B =>
  ⟨B.ex _ _ T.a1 (hp.ne_strs T.a1),B.ex _ _ T.a2 (hp.ne_strs T.a2),B.ex _ _ T.a3 (hp.ne_strs T.a3)⟩
 refine ⟨_,rfl,dI B0.pen (by decide) (by decide) fun way H2 w0 w1 hp2 ex2=>?_⟩;have B2:=B0.took hp2 ex2;obtain ⟨us,es,g1,g2,rfl⟩:=id B2.ds;refine ⟨_,rfl,_,rfl,.inl ⟨f,_,rfl,.inl (az.of g1),_,_,rfl,?_⟩⟩;have lu:us.length=es.length:=Paired.length g2;refine dI B2.pen (by split <;> omega) (by rw [ai,lu]; split <;> omega) fun at_ H3 n0 n1 hp3 ex3=>?_;have B3:=B2.took hp3 ex3;rw [ai,lu] at n1;refine i0 (fun _ _ _ _ h=>h) rfl rfl B3.pen (keep B3).2.2 m.rooms0 (by omega) fun room hroom H4 hp4 ex4=>?_;have B4:=B3.took hp4 ex4;refine i0 (fun _ _ _ _ h=>h) rfl rfl B4.pen (keep B4).2.2 m.rooms0 (by omega) fun other hother H5 hp5 ex5=>?_;have B5:=B4.took hp5 ex5;clear B0 B2 B3 B4 hp2 hp3 hp4 hp5 ex2 ex3 ex4 ex5 g1 g2;have fin:∀{H6:Hp}(x10:Option V),TX H p c f (TR J0 J1 J2 (es.length+1)) H6->(bB (be (ar V2 (eU V3 V4 V5)))) (bJ Q) [some (.ref p),some (.ref t),some (.ref l1),some (.ref l2),some (.ref l3),some (.ref f),some (.int way),some (.int at_),some (.str room),some (.str other),x10] H6:=fun x10 B=>by
  obtain ⟨us,fs,g1,g2,g3⟩:=B.ds;obtain ⟨q1,q2,q3⟩:=keep B;refine ⟨_,rfl,_,rfl,_,rfl,_,rfl,(by show 4<=aj; decide),fun t' ht'=>?_⟩;have S3:=ab.new (o:=.tup [.ref l1,.ref l2,.ref l3,.ref f]) ht';exact k t' f us fs _ ⟨aa,S3 _ _ q1,S3 _ _ q2,S3 _ _ q3,S3 _ _ g1,g2.kt (ab.kt S3)⟩ g3.1 g3.2 (B.pen.ex S3) (B.ex.trans (ab.exB S3))
 have put:∀{H6:Hp}{fs:List am}{d:Addr}{x:am}(x10:Option V),TX H p c f (fun y=>y=fs) H6->fs.length<=es.length->gL H6 d x->aJ J0 J1 J2 (lD fs x)->j9 [.ref f,.ref d] H6 (fun _ H'=>(bB (be (ar V2 (eU V3 V4 V5)))) (bJ Q) [some (.ref p),some (.ref t),some (.ref l1),some (.ref l2),some (.ref l3),some (.ref f),some (.int way),some (.int at_),some (.str room),some (.str other),x10] H') E0:=fun x10 B le hat ok=>by
  obtain ⟨us',fs',k1,k2,rfl⟩:=id B.ds;refine ⟨f,_,us',_,_,rfl,k1,k2,hat,by omega,fun us2 D2=>fin x10 (B.put ⟨_,k1⟩ D2 ⟨ok,?_⟩)⟩;exact bv (tq _ _) (by omega)
 refine ⟨_,rfl,rfl,_,rfl,?_⟩;refine iN (fun _=>?_) (fun _=>?_)
 ·refine ⟨_,rfl,_,rfl,i0 (fun _ _ _ _ h=>h) rfl rfl B5.pen (keep B5).2.1 m.says0 (by omega) fun w hw H6 hp6 ex6=>⟨(by show 2<=aj; decide),fun s hs=>⟨_,rfl,(by show 3<=aj; decide),fun d hd=>?_⟩⟩⟩;have B6:=B5.took hp6 ex6;have S:ab H6 (upd (upd H6 s (.tup [.str "say",.str w])) d (.tup [.str room,.ref s,.str other])):=(ab.new hs).trans (ab.new hd);exact put (x:=⟨room,oO w,other⟩) _ (B6.same S) (aE _) ⟨s,aa,kp aa hd⟩ (m.putOne ⟨hroom,hother,.inr (.inl ⟨w,hw,rfl⟩)⟩ (by unfold oO ax; intro h; injection h with _ h; cases h) (by omega))
 refine ⟨_,rfl,rfl,_,rfl,?_⟩;refine iN (fun _=>?_) (fun _=>?_)
 ·refine ⟨_,rfl,_,rfl,i0 (fun _ _ _ _ h=>h) rfl rfl B5.pen (keep B5).1 m.asks0 (by omega) fun w hw H6 hp6 ex6=>⟨(by show 2<=aj; decide),fun s hs=>⟨_,rfl,(by show 3<=aj; decide),fun d hd=>?_⟩⟩⟩;have B6:=B5.took hp6 ex6;have S:ab H6 (upd (upd H6 s (.tup [.str "ask",.str w])) d (.tup [.str room,.ref s,.str other])):=(ab.new hs).trans (ab.new hd);exact put (x:=⟨room,dq w,other⟩) _ (B6.same S) (aE _) ⟨s,aa,kp aa hd⟩ (m.putOne ⟨hroom,hother,.inl ⟨w,hw,rfl⟩⟩ (vM w) (by omega))
 have still:∀{H6:Hp},TX H p c f (fun y=>y=es) H6->(cx (mB (aO (aD AA V6 (tC (.int 4)))) (aO (aD (oW K true) V8 (aM (eG K) (aS V5 (cq (aA V9))))))) (bH (aM j9 (ar V5 (ar (be (eU V8 (be (aA (tC (.str "still")))) V9)) aT)))) (bG)) { nx:=(bB (be (ar V2 (eU V3 V4 V5)))) (bJ Q),rt:=Q } [some (.ref p),some (.ref t),some (.ref l1),some (.ref l2),some (.ref l3),some (.ref f),some (.int way),some (.int at_),some (.str room),some (.str other),none] H6:=fun {H6} B=>by
  have idle:TX H p c f (TR J0 J1 J2 (es.length+1)) H6:=B.imp fun y e=>by rw [e]; exact ⟨m,mL _⟩
  refine ⟨_,rfl,rfl,_,rfl,?_⟩;refine iN (fun _=>?_) (fun _=>ck (fin _ idle));refine ⟨_,rfl,_,rfl,_,rfl,(by show 1<=aj; decide),fun bl hbl=>?_⟩;have B7:=B.same (ab.new (o:=.lst [.str other]) hbl);have e7:upd H6 bl (.lst [.str other]) bl=some (.lst [.str other]):=aa;generalize upd H6 bl (.lst [.str other])=H7 at B7 e7 ⊢;obtain ⟨us,fs,g1,g2,rfl⟩:=id B7.ds;refine ⟨f,bl,us,fs,[other],J2,rfl,g1,g2,e7,fun d hd=>(m.good d hd).b,by omega,(by show 1<=1000; decide),fun g F H8 hg hF _ _ S8=>?_⟩;have B8:=B7.same S8;refine ⟨gu room,F.map gu,g,_,kN room,rfl,.inl (az.of hg),ki _,(by show 0<=8; decide),by rw [eP]; decide,_,rfl,?_⟩;rw [if_pos rfl];by_cases c1:room∈F
  ·rw [zzr1 (l_.mpr c1)];exact ck (fin _ (B8.imp fun y e=>by rw [e]; exact ⟨m,mL _⟩))
  rw [zzr0 (fun z=>c1 (l_.mp z))];refine dh ?_;refine ⟨_,rfl,_,rfl,(by show 1<=aj; decide),fun s hs=>⟨_,rfl,(by show 3<=aj; decide),fun d hd=>?_⟩⟩;have S:ab H8 (upd (upd H8 s (.tup [.str "still"])) d (.tup [.str room,.ref s,.str other])):=(ab.new hs).trans (ab.new hd);exact put (x:=⟨room,ax,other⟩) _ (B8.same S) (aE _) ⟨s,aa,kp aa hd⟩ (m.putStill hroom hother (fun z=>c1 ((hF room).mpr z)) (by omega))
 refine ⟨_,rfl,_,_,rfl,rfl,_,rfl,?_⟩;refine iN (fun _=>?_) (fun _=>ck (still B5));refine ⟨_,rfl,(by show 0<=aj; decide),fun q hq=>?_⟩;have B6:=B5.same (ab.new (o:=.lst []) hq);have e6:upd H5 q (.lst []) q=some (.lst []):=aa;generalize upd H5 q (.lst [])=H6 at B6 e6 ⊢;obtain ⟨us,fs,g1,g2,rfl⟩:=id B6.ds;refine EN g1 g2 e6 (fun c1=>⟨_,rfl,dh ?_⟩) (fun _=>⟨_,rfl,ck (ck (still B6))⟩);have fl:0<fs.length:=List.length_pos_iff.2 c1;have n2:at_<fs.length:=by split at n1 <;> omega
 obtain ⟨n,rfl⟩:=iE n0;have n3:n<fs.length:=by omega
 have hdr:fs[n]?=some fs[n]:=bE n3;obtain ⟨u,hu,hat⟩:=Paired.get g2 hdr;generalize fs[n]=dr at hdr hat;have hm:=aP hdr;obtain ⟨sb,ht2,hs2⟩:=hat;obtain ⟨s0,rest,hsg,_⟩:=p5 (m.good dr hm);have at0:pD (dr.sg.map V.str) 0=some (.str s0):=by rw [hsg]; exact bt (j:=0) rfl
 have atu:(us.map V.ref)[n]?=some (.ref u):=by rw [bZ,hu]; rfl
 refine ⟨_,rfl,_,rfl,f,_,_,_,rfl,rfl,az.of g1,bt atu,u,_,1,_,rfl,rfl,bj.of ht2,rfl,sb,_,0,_,rfl,rfl,bj.of hs2,at0,rfl,_,rfl,?_⟩;refine iN (fun c2=>?_) (fun _=>still B6);have ns:dr.sg≠ax:=fun z=>by
  rw [hsg] at z;injection z with z;rw [z] at c2;simp at c2
 have six:wE (n:Int) (us.map V.ref).length=some n:=(xw (GG (by rw [ai,Paired.length g2]; exact n3))).1;refine ⟨_,rfl,.inl ⟨rfl,_,az.of g1⟩,_,rfl,f,_,_,n,.ref u,rfl,rfl,g1,by omega,by omega,six,atu,?_⟩;have ee:(us.map V.ref).eraseIdx n=(us.eraseIdx n).map V.ref:=vE _ us n;rw [ee];have k6:fP H6 (upd H6 f (.lst ((us.eraseIdx n).map V.ref))):=cr g1;have B7:TX H p c f (fun y=>y=fs.eraseIdx n) (upd H6 f (.lst ((us.eraseIdx n).map V.ref))):=B6.put ⟨_,g1⟩ (Paired.out n g2) rfl;have t7:=k6 _ _ ht2;have s7:=k6 _ _ hs2;generalize upd H6 f (.lst ((us.eraseIdx n).map V.ref))=H7 at B7 t7 s7 ⊢;have m7:=m.out n;have l7:(fs.eraseIdx n).length<=fs.length:=(List.eraseIdx_sublist fs n).length_le;refine ⟨_,rfl,rfl,_,rfl,?_⟩;refine iN (fun _=>?_) (fun _=>fin _ (B7.imp fun y e=>by rw [e]; exact ⟨m7,by omega⟩));refine ⟨_,rfl,_,rfl,u,_,0,_,rfl,rfl,bj.of t7,rfl,_,rfl,u,_,1,_,rfl,rfl,bj.of t7,rfl,_,rfl,(by show 3<=aj; decide),fun d hd=>?_⟩;have S:ab H7 (upd H7 d (.tup [.str dr.a,.ref sb,.str other])):=ab.new hd;exact put (x:=⟨dr.a,dr.sg,other⟩) _ (B7.same S) l7 ⟨sb,aa,S _ _ s7⟩ (m7.putOne ⟨(m.good dr hm).a,hother,(m.good dr hm).sg⟩ ns (by omega))
theorem Reach.ren {ds:List am}{f:Str->Str}{x y:Str}(h:Reach ds x y):Reach (ds.map (uB f)) (f x) (f y):=by
 induction h with
 | one e=>exact .one (aB.2 ⟨_,e,rfl⟩)
 | step _ e ih=>exact .step ih (aB.2 ⟨_,e,rfl⟩)
theorem gB.ren {ds:List am}{f:Str->Str}{r a:Str}:gB ds r a->gB (ds.map (uB f)) (f r) a:=fun ⟨w,hw,b,hb⟩ =>
 ⟨f w,hw.imp (fun e=>by rw [e]) Reach.ren,f b,aB.2 ⟨_,hb,rfl⟩⟩
inductive iY  (vs:List V) (H:Hp) (Q:VK) (E:XK):Prop
 | mk (p c t l1 l2 l3 l4:Addr) (ts:Ze) (J0 J1 J2:Zb) (ds:List am):(vs=[.ref p,.ref t])->(gC H p c)->(im H t l1 l2 l3 l4 ts J0 J1 J2 ds)->(aJ J0 J1 J2 ds)->(J2.length<=26)->(∀(t' l3' l4':Addr) (ts':Ze) (rooms':Zb) (f:Str->Str) (H':Hp),im H' t' l1 l2 l3' l4' ts' J0 J1 rooms' (ds.map (uB f))->aJ J0 J1 rooms' (ds.map (uB f))->rooms'.Perm (J2.map f)->gC H' p c->cX p H H'->Q (.ref t') H')->iY  vs H Q E
theorem yL {K:Za}{vs:List V}{H:Hp}{Q:VK}{E:XK}(h:iY vs H Q E):um K fB lA (bJ Q) (start uS vs) H:=by
 obtain ⟨p,c,t,l1,l2,l3,l4,ts,J0,J1,J2,ds,rfl,hp,T,m,z3,k⟩:=h;have z4:=m.few;have hr0:0<J2.length:=by
  cases hq:J2 with
  | nil=>exact absurd hq m.rooms0
  | cons _ _=>simp
 refine ⟨_,rfl,t,_,rfl,bj.of T.t,rfl,_,_,rfl,_,_,rfl,_,_,rfl,_,_,rfl,rfl,?_⟩;refine fun d hd=>?_;have dp:=hp.nep hd;have dc:=hp.nec hd;have T1:=T.same (ab.new (o:=.dK []) hd);have hp1:=hp.ex (ab.new (o:=.dK []) hd);have hd1:upd H d (.dK []) d=some (.dK (DJ [])):=aa;have ex1:cX p H (upd H d (.dK [])):=cX.new hd;generalize upd H d (.dK [])=H1 at T1 hp1 hd1 ex1 ⊢;refine ⟨_,rfl,_,rfl,_,rfl,.inl ⟨l3,_,rfl,.inl (az.of T1.a3),p,c,(J2.map V.str).length,rfl,hp1,by rw [ai]; exact z3,fun lw ws H2 okw lenw frw hlw hp2 ex2=>?_⟩⟩;rw [ai] at lenw;have T2:=T1.ex hp1 ex2;have hd2:=ex2 _ _ hd1 dp.symm;have lwd:lw≠d:=fun z=>by rw [z,hd1] at frw; cases frw
 have lwp:=hp2.ne_strs hlw;refine ⟨l3,lw,rfl,.inl ⟨⟨_,az.of T2.a3⟩,⟨_,az.of hlw⟩,?_⟩⟩;have ez:(J2.zip ws).length=J2.length:=by rw [List.length_zip,lenw,Nat.min_self]
 refine Fj (xs:=J2.map V.str) (ys:=ws.map V.str) (by rw [ai,ai,lenw]) (fun i σ H'=>∃x7 x8:Option V,σ=[some (.ref p),some (.ref t),some (.ref l1),some (.ref l2),some (.ref l3),some (.ref l4),some (.ref d),x7,x8,none,none]/\H' d=some (.dK (DJ ((J2.zip ws).take i)))/\H' lw=some (.lst (ws.map V.str))/\gC H' p c/\cX p H H')
  ⟨_,_,rfl,hd2,hlw,hp2,ex1.trans ex2⟩ (fun i σ H' _ ⟨_,_,_,_,h1,_,ex⟩=>⟨az.of (ex _ _ T.a3 (hp.ne_strs T.a3)),az.of h1⟩) ?_ ?_
 ·rintro i x y σ H3 q hx hy ⟨x7,x8,rfl,hd3,hlw3,hp3,ex3⟩ hq;obtain ⟨r,hr,rfl⟩:=bC hx;obtain ⟨w,hw,rfl⟩:=bC hy;have hi:i<J2.length:=(bP.mp hr).1;refine ⟨q,_,rfl,bj.of aa,rfl,_,_,rfl,_,_,rfl,rfl,?_⟩;have hlen:(DJ ((J2.zip ws).take i)).length<aj:=by
   unfold DJ;rw [ai,aX];exact au (by omega)
  refine ⟨_,rfl,_,rfl,_,rfl,d,_,rfl,.inl ⟨_,.inr r,kp hd3 hq,rfl,hlen,rfl⟩,_,_,rfl,?_,?_,?_,?_⟩
  ·have hz:(J2.zip ws)[i]?=some (r,w):=by
    rw [List.getElem?_zip_eq_some]; exact ⟨hr,hw⟩
   have hn:r∉((J2.zip ws).take i).map (·.1):=by
    rw [mZ,wG lenw];intro z;obtain ⟨j,hj⟩:=fh z;have hjl:j<i:=by
     have:=(bP.mp hj).1;rw [aX] at this;omega
    rw [List.getElem?_take_of_lt hjl] at hj;have:=rO m.okR.1 hj hr;omega
   rw [aa,EL hn,take_snoc hz]
  ·rw [af lwd]; exact kp hlw3 hq
  ·exact (hp3.ex (ab.new hq)).upd dp dc
  ·intro b o e n;rw [af (ae e hd)];exact kp (ex3 _ _ e n) hq
 rintro σ H3 ⟨x7,x8,rfl,hd3,hlw3,hp3,ex3⟩;rw [ai,<-ez,bh] at hd3;have T3:=T.ex hp ex3;generalize hρ:FI (J2.zip ws)=ρ;have hmap:J2.map ρ=ws:=by rw [<-hρ]; exact BM m.okR.1 lenw
 have hval:∀r∈J2,bQ (DJ (J2.zip ws)) (.inr r:eQ)=some (.str (ρ r)):=fun r hr=>by
  rw [<-hρ]; exact B1 (by rw [wG lenw]; exact hr)
 refine ⟨_,rfl,l3,rfl,⟨_,az.of T3.a3⟩,fun f hf=>?_⟩;refine cC (xs:=J2.map V.str) (fun i vs H'=>vs=((J2.take i).map ρ).map V.str/\ab H3 H'/\H' f=some (.lst vs)) ⟨rfl,ab.new hf,aa⟩ (fun i vs H' _ ⟨_,S,h'⟩=>⟨h',az.of (S _ _ T3.a3)⟩) ?_ ?_;rotate_left
 ·rintro i vs H' x' hx' hi ⟨rfl,S,f'⟩;obtain ⟨r,hr,rfl⟩:=bC hx';refine gN (sE ?_);refine ⟨_,rfl,_,rfl,d,.str (ρ r),rfl,.inl ⟨_,.inr r,.inl (S _ _ hd3),rfl,(hval r (aP hr)).symm⟩,f',?_,o0 hi ⟨?_,?_,aa⟩⟩
  ·rw [ai,ai,aX];exact au (by omega)
  ·rw [take_snoc hr,aq,aq]; rfl
  ·intro b o q;rw [af (ae q hf)];exact S _ _ q
 rintro vs H4 ⟨rfl,S4,f4⟩;rw [ai,bh,hmap] at f4;have T4:=T3.same S4;have hp4:=hp3.ex S4;have hd4:=S4 _ _ hd3;refine ⟨_,rfl,_,rfl,.inl ⟨l3,_,rfl,.inl (az.of T4.a3),dI (m:=((J2.map V.str).length:Nat)) hp4 (by rw [ai]; omega) (by rw [ai]; omega) fun r H5 r0 r1 hp5 ex5=>⟨_,_,rfl,rfl,?_⟩⟩⟩;rw [ai] at r1;obtain ⟨n,rfl⟩:=iE r0;have T5:=T4.ex hp4 ex5;have f5:=ex5 _ _ f4 (hp4.ne_strs f4);have hd5:=ex5 _ _ hd4 dp.symm;have exx5:cX p H H5:=(ex3.trans (ab.exB S4)).trans ex5;have c1:fz (ws.map V.str) none (some 1)=(ws.take 1).map V.str:=ph ws 1;have c2:fz (ws.map V.str) (some (1+(n:Int))) none=(ws.drop (1+n)).map V.str:=vH ws (1+n);have c3:fz (ws.map V.str) (some 1) (some (1+(n:Int)))=((ws.drop 1).take (1+n-1)).map V.str:=Du ws (j:=1) (k:=1+n) (by omega) (by omega);refine ⟨_,rfl,_,rfl,f,_,rfl,az.of f5,fun q1 hq1=>⟨_,rfl,_,rfl,_,rfl,f,_,rfl,az.of (kp f5 hq1),fun q2 hq2=>⟨q1,q2,_,_,rfl,rfl,kp aa hq2,aa,?_,fun q3 hq3=>⟨_,rfl,_,rfl,_,rfl,_,rfl,f,_,rfl,az.of (kp (kp (kp f5 hq1) hq2) hq3),fun q4 hq4=>⟨q3,q4,_,_,rfl,rfl,kp aa hq4,aa,?_,fun q5 hq5=>?_⟩⟩⟩⟩⟩
 ·rw [c1,c2,ai,ai,aX,fR];exact eo (au (by omega))
 ·rw [c1,c2,c3,ay,ai,ai,ai,aX,fR,aX,fR];exact eo (au (by omega))
 rw [c1,c2,c3] at hq5 ⊢;have m1:(ws.take 1).map V.str++(ws.drop (1+n)).map V.str=(ws.take 1++ws.drop (1+n)).map V.str:=aq.symm;have m2:(ws.take 1++ws.drop (1+n)).map V.str++((ws.drop 1).take (1+n-1)).map V.str=(ws.take 1++ws.drop (1+n)++(ws.drop 1).take (1+n-1)).map V.str:=aq.symm;rw [m1] at hq5 ⊢;rw [m2];have S6:=((((ab.new (o:=.lst ((ws.take 1).map V.str)) hq1).trans (ab.new (o:=.lst ((ws.drop (1+n)).map V.str)) (by rw [<-c1]; exact hq2))).trans (ab.new (o:=.lst ((ws.take 1++ws.drop (1+n)).map V.str)) (by rw [<-c1,<-c2]; exact hq3))).trans (ab.new (o:=.lst (((ws.drop 1).take (1+n-1)).map V.str)) (by rw [aq,<-c1,<-c2]; exact hq4))).trans (ab.new (o:=.lst ((ws.take 1++ws.drop (1+n)++(ws.drop 1).take (1+n-1)).map V.str)) hq5);have hperm:=yk ws n;generalize ws.take 1++ws.drop (1+n)++(ws.drop 1).take (1+n-1)=rooms' at S6 hperm hq5 ⊢;have hr':(upd (upd (upd (upd (upd H5 q1 (.lst ((ws.take 1).map V.str))) q2 (.lst ((ws.drop (1+n)).map V.str))) q3 (.lst ((ws.take 1++ws.drop (1+n)).map V.str))) q4 (.lst (((ws.drop 1).take (1+n-1)).map V.str))) q5 (.lst (rooms'.map V.str))) q5=some (.lst (rooms'.map V.str)):=aa;generalize (upd (upd (upd (upd (upd H5 q1 (.lst ((ws.take 1).map V.str))) q2 (.lst ((ws.drop (1+n)).map V.str))) q3 (.lst ((ws.take 1++ws.drop (1+n)).map V.str))) q4 (.lst (((ws.drop 1).take (1+n-1)).map V.str))) q5 (.lst (rooms'.map V.str)))=H6 at S6 hr' ⊢;have T6:=T5.same S6;have hd6:=S6 _ _ hd5;refine ⟨_,rfl,l4,rfl,⟨_,az.of T6.a4⟩,fun g hg=>?_⟩;refine cC (xs:=ts.map V.ref) (fun i vs H'=>∃us:List Addr,vs=us.map V.ref/\ab H6 H'/\H' g=some (.lst vs)/\cB H' us ((ds.take i).map (uB ρ))) ⟨[],rfl,ab.new hg,aa,.nil⟩ (fun i vs H' _ ⟨_,_,S,h',_⟩=>⟨h',az.of (S _ _ T6.a4)⟩) ?_ ?_;rotate_left
 ·rintro i vs H' x' hx' hi ⟨us,rfl,S,g',hP⟩;obtain ⟨u,hu,rfl⟩:=cP hx';obtain ⟨dr,hdr,hatd⟩:=Paired.getL T6.ds hu;obtain ⟨sb,ht2,hs2⟩:=hatd.kt (ab.kt S);have hmem:=aP hdr;have hda:=hval dr.a (m.good dr hmem).a;have hdb:=hval dr.b (m.good dr hmem).b;refine ⟨u,_,rfl,bj.of ht2,rfl,_,_,rfl,_,_,rfl,_,_,rfl,rfl,?_⟩;refine sE ?_;refine ⟨_,rfl,_,rfl,d,.str (ρ dr.a),rfl,.inl ⟨_,.inr dr.a,.inl (S _ _ hd6),rfl,hda.symm⟩,_,rfl,_,rfl,_,rfl,d,.str (ρ dr.b),rfl,.inl ⟨_,.inr dr.b,.inl (S _ _ hd6),rfl,hdb.symm⟩,(by show 3<=aj; decide),fun w hw=>⟨kp g' hw,?_,o0 hi ⟨us++[w],by rw [aq]; rfl,?_,aa,?_⟩⟩⟩
  ·rw [ai,Paired.length hP,ai,aX];exact au (by omega)
  ·intro b o q;rw [af (ae q hg)];exact kp (S _ _ q) hw
  ·rw [take_snoc hdr,aq];have hk:fP H' (upd (upd H' w (.tup [.str (ρ dr.a),.ref sb,.str (ρ dr.b)])) g (.lst (us.map V.ref++[.ref w]))):=(ab.kt (ab.new hw)).trans (cr (kp g' hw));refine cp (hP.kt hk) ⟨sb,?_,hk _ _ hs2⟩;exact (cr (kp g' hw)) _ _ aa
 rintro vs H7 ⟨us,rfl,S7,g7,hP⟩;rw [ai,Paired.length T.ds,bh] at hP;have T7:=T6.same S7;have hp7:=(hp5.ex S6).ex S7;have ex7:cX p H H7:=exx5.trans (ab.exB (S6.trans S7));refine ⟨_,rfl,_,rfl,_,rfl,_,rfl,(by show 4<=aj; decide),fun t' ht'=>k t' q5 g us rooms' ρ _ ⟨aa,kp T7.a1 ht',kp T7.a2 ht',kp (S7 _ _ hr') ht',kp g7 ht',hP.kt (ab.kt (ab.new ht'))⟩ (m.renamed okw hmap hperm) (by rw [hmap]; exact hperm) (hp7.ex (ab.new ht')) (ex7.trans (cX.new ht'))⟩
inductive rH  (vs:List V) (H:Hp) (Q:VK) (E:XK):Prop
 | mk (p c t l1 l2 l3 l4:Addr) (ts:Ze) (J0 J1 J2:Zb) (ds:List am) (n:Nat):(vs=[.ref p,.ref t,.int (n:Nat)])->(gC H p c)->(im H t l1 l2 l3 l4 ts J0 J1 J2 ds)->(aJ J0 J1 J2 ds)->(J2.length<=26)->(ds.length<=650)->(n<=8)->(∀(t' l3' l4':Addr) (ts':Ze) (rooms':Zb) (ds':List am) (H':Hp),im H' t' l1 l2 l3' l4' ts' J0 J1 rooms' ds'->aJ J0 J1 rooms' ds'->(∀r∈rooms',∀a∈J0,gB ds' r a)->rooms'.length=J2.length->ds'.length<=ds.length+n+4 * J2.length->gC H' p c->cX p H H'->Q (.ref t') H')->rH  vs H Q E
theorem Gf {K:Za}{vs:List V}{H:Hp}{Q:VK}{E:XK}(h:rH vs H Q E):Ae K fB iY j7 lS rM (bJ Q) (start Bn vs) H:=by
 obtain ⟨p,c,t,l1,l2,l3,l4,ts,J0,J1,J2,ds,n,rfl,hp,T,m,z3,z4,zn,k⟩:=h;refine ⟨_,rfl,p,c,rfl,hp,fun H1 hp1 ex1=>?_⟩;have T1:=T.ex hp ex1;refine ⟨_,rfl,_,rfl,_,_,rfl,rfl,dI hp1 (by omega) (by omega) fun x H2 x0 x1 hp2 ex2=>?_⟩;have T2:=T1.ex hp1 ex2;refine ⟨x,rfl,by omega,by omega,?_⟩;refine mh (lo:=0) (n:=x.toNat) (fun i σ H'=>∃(t' l4':Addr) (ts':Ze) (ds':List am) (x3:Option V),σ=[some (.ref p),some (.ref t'),some (.int (n:Nat)),x3]/\im H' t' l1 l2 l3 l4' ts' J0 J1 J2 ds'/\aJ J0 J1 J2 ds'/\ds'.length<=ds.length+i/\gC H' p c/\cX p H H')
  ⟨t,l4,ts,ds,_,rfl,T2,m,aE _,hp2,ex1.trans ex2⟩ ?_ ?_
 ·rintro i σ H3 hi ⟨t',l4',ts',ds',x3,rfl,T3,m3,z,hp3,ex3⟩;refine ⟨_,rfl,_,rfl,p,c,t',l1,l2,l3,l4',ts',J0,J1,J2,ds',rfl,hp3,T3,m3,by omega,fun t2 l42 ts2 ds2 H4 T4 m4 z4 hp4 ex4=>?_⟩;exact ⟨t2,l42,ts2,ds2,_,rfl,T4,m4,by omega,hp4,ex3.trans ex4⟩
 ·rintro σ H3 ⟨t',l4',ts',ds',x3,rfl,T3,m3,z,hp3,ex3⟩;refine ⟨_,rfl,_,rfl,p,c,t',l1,l2,l3,l4',ts',J0,J1,J2,ds',rfl,hp3,T3,m3,z3,by omega,fun t2 l42 ts2 ds2 H4 T4 m4 tk4 zw hp4 ex4=>?_⟩;refine ⟨_,rfl,dI hp4 (by decide) (by decide) fun w H5 w0 w1 hp5 ex5=>⟨rfl,_,rfl,?_⟩⟩;have T5:=T4.ex hp4 ex5;refine iN (fun _=>?_) (fun _=>?_)
  ·refine ⟨_,rfl,_,rfl,p,c,t2,l1,l2,l3,l42,ts2,J0,J1,J2,ds2,rfl,hp5,T5,m4,z3,fun t3 l33 l43 ts3 rooms3 f H6 T6 m6 pr hp6 ex6=>⟨_,rfl,?_⟩⟩;refine k t3 l33 l43 ts3 rooms3 _ H6 T6 m6 (fun r hr a ha=>?_) (by rw [pr.length_eq,ai]) (by rw [ai]; omega) hp6 (((ex3.trans ex4).trans ex5).trans ex6);obtain ⟨r0,hr0,rfl⟩:=aB.1 (pr.mem_iff.1 hr);exact (tk4 r0 hr0 a ha).ren
  ·exact ⟨_,rfl,k t2 l3 l42 ts2 J2 ds2 H5 T5 m4 tk4 rfl (by omega) hp5 ((ex3.trans ex4).trans ex5)⟩
abbrev LP:=(List Str×List Str)×List Sg
section
variable (A B:List Str->Sg->List Str)
def cR (here:LP) (q:List LP×Option Sg) (sg:Sg):List LP×Option Sg :=
 match q.2 with
 | some _=>q
 | none=>if sg.head?≠some ("ask":Str)/\A here.1.1 sg=[]/\B here.1.2 sg≠[] then (q.1,some sg)
  else if A here.1.1 sg≠[]/\B here.1.2 sg≠[]/\¬(A here.1.1 sg,B here.1.2 sg)∈q.1.map (·.1) then (q.1++[((A here.1.1 sg,B here.1.2 sg),here.2++[sg])],none) else q
def qP (here:LP) (L:List LP) (ss:List Sg):List LP×Option Sg:=ss.foldl (cR A B here) (L,none)
def cK (ss:List Sg) (k:List Str×List Str):Nat->List LP×Option (List Sg×Sg)
 | 0=>([(k,[])],none)
 | n+1=>match (cK ss k n).2 with
  | some _=>cK ss k n
  | none=>match (cK ss k n).1[n]? with
   | none=>cK ss k n
   | some c=>((qP A B c (cK ss k n).1 ss).1,(qP A B c (cK ss k n).1 ss).2.map fun sg=>(c.2,sg))
end
abbrev Ib (fm fi:List (List Str)) (P:List br) (L:List LP):Prop:=Paired (fun (c:br) (x:LP)=>fm[c.key.1]?=some x.1.1/\fi[c.key.2]?=some x.1.2/\c.story=x.2) P L
theorem zq {l:List (List Str)}(nd:l.Nodup) {i j:Nat}{r:Zb}(hi:l[i]?=some r) (hj:l[j]?=some r):i=j:=(List.getElem?_inj (bP.1 hi).1 nd).1 (hi.trans hj.symm)
theorem Ib.has {fm fi:List (List Str)}{P:List br}{L:List LP}(h:Ib fm fi P L) (n1:fm.Nodup) (n2:fi.Nodup) {w g:Nat}{a b:Zb}(hw:fm[w]?=some a) (hg:fi[g]?=some b):iO P (w,g)=true↔(a,b)∈L.map (·.1):=by
 rw [lH];constructor
 ·intro z;obtain ⟨c,hc,e⟩:=aB.1 z;obtain ⟨i,hi⟩:=fh hc;obtain ⟨x,hx,e1,e2,_⟩:=Paired.getL h hi;rw [e] at e1 e2;rw [hw] at e1;rw [hg] at e2;injection e1 with e1;injection e2 with e2;exact aB.2 ⟨x,aP hx,by rw [e1,e2]⟩
 ·intro z;obtain ⟨x,hx,e⟩:=aB.1 z;obtain ⟨i,hi⟩:=fh hx;obtain ⟨c,hc,e1,e2,_⟩:=Paired.get h hi;rw [e] at e1 e2;refine aB.2 ⟨c,aP hc,?_⟩;have:=zq n1 e1 hw;have:=zq n2 e2 hg;obtain ⟨⟨u,v⟩,_,_⟩:=c
  simp_all
theorem Dd {J0 J1 J2 f:Zb}{ds:List am}{fm:List (List Str)}{l:List (Sg×Nat)}(pr:Paired (fun (a:Sg×Nat) (p:Sg×List Str)=>a.1=p.1/\fm[a.2]?=some p.2) l (stepsF J0 J1 J2 ds f)) {sg:Sg}(hs:sg∈ao J0 J1) :
  match bM l sg with | none=>behF J2 ds f sg=[] | some w=>behF J2 ds f sg≠[]/\fm[w]?=some (behF J2 ds f sg):=by
 cases e:bM l sg with
 | some w =>
  obtain ⟨i,hi⟩:=fh (ze e);obtain ⟨p,hp,e1,e2⟩:=Paired.getL pr hi;have hp:=aP hp;obtain ⟨s,_,e3⟩:=aB.1 (cj.1 hp).1;have h3:=of_decide_eq_true (cj.1 hp).2;rw [<-e3] at e1 e2 h3;have e1:sg=s:=e1;subst e1;exact ⟨h3,e2⟩
 | none =>
  simp only;refine sm fun n=>?_;have hm:(sg,behF J2 ds f sg)∈stepsF J0 J1 J2 ds f:=cj.2 ⟨aB.2 ⟨sg,hs,rfl⟩,zzr1 n⟩;obtain ⟨i,hi⟩:=fh hm;obtain ⟨a,ha,e1,_⟩:=Paired.get pr hi;unfold bM at e;rw [Option.map_eq_none_iff,List.find?_eq_none] at e;exact e a (aP ha) (zzr1 e1)
section
variable {J0 J1 J2 rooms':Zb}{ds ds':List am}{SM SI:qz}
theorem w_ (nm:SM.1.fs.Nodup) (ni:SI.1.fs.Nodup) {wl:List (Sg×Nat)}{c:br}{x:LP}
  (pm:Paired (fun (a:Sg×Nat) (p:Sg×List Str)=>a.1=p.1/\SM.1.fs[a.2]?=some p.2) wl (stepsF J0 J1 J2 ds x.1.1)) (es:c.story=x.2) :
  ∀(ss:List Sg) (l:List (Sg×Nat)) (q:List br×Option Sg) (q':List LP×Option Sg),(∀s∈ss,s∈ao J0 J1) ->
   Paired (fun (a:Sg×Nat) (p:Sg×List Str)=>a.1=p.1/\SI.1.fs[a.2]?=some p.2) l ((ss.map fun s=>(s,behF rooms' ds' x.1.2 s)).filter fun p=>decide (p.2≠[]))->Ib SM.1.fs SI.1.fs q.1 q'.1->q.2=q'.2 ->
   Ib SM.1.fs SI.1.fs (l.foldl (eN wl c) q).1 (ss.foldl (cR (behF J2 ds) (behF rooms' ds') x) q').1/\(l.foldl (eN wl c) q).2=(ss.foldl (cR (behF J2 ds) (behF rooms' ds') x) q').2
 | [],l,q,q',_,pl,s1,s2=>by
  cases pl;exact ⟨s1,s2⟩
 | s::ss,l,q,q',hs,pl,s1,s2=>by
  have hs':=fun y hy=>hs y (fx _ hy);have hs0:=hs s dA;rw [bc] at pl;rw [jh];by_cases c1:behF rooms' ds' x.1.2 s=[]
  ·rw [List.filter_cons_of_neg (by simp [c1])] at pl;have e:cR (behF J2 ds) (behF rooms' ds') x q' s=q':=by
    unfold cR;cases q'.2 with
    | some _=>rfl
    | none =>
     simp only;rw [if_neg (fun z=>z.2.2 c1),if_neg (fun z=>z.2.1 c1)]
   rw [e];exact w_ nm ni pm es ss l q q' hs' pl s1 s2
  rw [List.filter_cons_of_pos (by simp [c1])] at pl;cases pl with
  | @cons a p l ps r t =>
  rw [jh];obtain ⟨e1,e2⟩:=r;have e1:a.1=s:=e1;have e2:SI.1.fs[a.2]?=some (behF rooms' ds' x.1.2 s):=e2;refine w_ nm ni pm es ss l _ _ hs' t ?_ ?_
  all_goals
   have lk:=Dd pm hs0;unfold eN cR;rw [<-s2,e1];cases q.2 with
   | some _=>first | exact s1 | exact s2
   | none =>
    simp only;cases e3:bM wl s with
    | none =>
     rw [e3] at lk;simp only at lk ⊢;rw [if_neg (c:=behF J2 ds x.1.1 s≠[]/\_) (fun z=>z.1 lk)];by_cases ca:s.head?=some ("ask":Str)
     ·rw [if_pos ca,if_neg (fun z=>z.1 ca)]; first | exact s1 | exact s2
     ·rw [if_neg ca,if_pos ⟨ca,lk,c1⟩]; try exact s1
    | some w =>
     rw [e3] at lk;simp only at lk ⊢;rw [if_neg (c:=s.head?≠_/\_) (fun z=>lk.1 z.2.1)];have hh:=Ib.has s1 nm ni lk.2 e2;by_cases ch:iO q.1 (w,a.2)=true
     ·rw [if_pos ch,if_neg (fun z=>z.2.2 (hh.1 ch))]; first | exact s1 | exact s2
     ·rw [if_neg ch,if_pos ⟨lk.1,c1,fun z=>ch (hh.2 z)⟩]; try exact cp s1 ⟨lk.2,e2,by show c.story++[s]=x.2++[s]; rw [es]⟩
theorem Ee (om:qy J0 J1 J2 ds SM) (oi:qy J0 J1 rooms' ds' SI) (lm:SM.2.length=SM.1.fs.length) (li:SI.2.length=SI.1.fs.length) :
  ∀n,Ib SM.1.fs SI.1.fs (h9 SI.2 SM.2 n).1 (cK (behF J2 ds) (behF rooms' ds') (ao J0 J1) (closF J2 ds (J2.take 1),closF rooms' ds' (rooms'.take 1)) n).1/\(h9 SI.2 SM.2 n).2=(cK (behF J2 ds) (behF rooms' ds') (ao J0 J1) (closF J2 ds (J2.take 1),closF rooms' ds' (rooms'.take 1)) n).2
 | 0=>⟨.cons ⟨om.zero,oi.zero,rfl⟩ .nil,rfl⟩
 | n+1=>by
  obtain ⟨s1,s2⟩:=Ee om oi lm li n;unfold h9 cK;generalize h9 SI.2 SM.2 n=q at s1 s2;generalize cK (behF J2 ds) (behF rooms' ds') (ao J0 J1) (closF J2 ds (J2.take 1),closF rooms' ds' (rooms'.take 1)) n=q' at s1 s2;rw [<-s2];cases e:q.2 with
  | some y=>simp only; exact ⟨s1,s2⟩
  | none =>
   simp only;cases e1:q.1[n]? with
   | none =>
    have e2:q'.1[n]?=none:=by
     rw [List.getElem?_eq_none_iff] at e1 ⊢;rw [<-Paired.length s1]; exact e1
    rw [e2];exact ⟨s1,s2⟩
   | some c =>
    obtain ⟨x,hx,f1,f2,es⟩:=Paired.getL s1 e1;rw [hx];simp only;have row:∀{S:qz}{rs f:Zb}{es:List am}{i:Nat},qy J0 J1 rs es S->S.2.length=S.1.fs.length->S.1.fs[i]?=some f->Paired (fun (a:Sg×Nat) (p:Sg×List Str)=>a.1=p.1/\S.1.fs[a.2]?=some p.2) (S.2.getD i []) (stepsF J0 J1 rs es f):=by
     intro S rs f es i ok le hf;have lt:i<S.2.length:=by rw [le]; exact (bP.1 hf).1
     have hl:S.2[i]?=some S.2[i]:=bE lt;obtain ⟨f',hf',pr⟩:=ok.st _ _ hl;rw [hf] at hf';injection hf' with hf';rw [rV,hl,hf'];exact pr
    have:=w_ (rooms':=rooms') (ds':=ds') om.good.nd oi.good.nd (row om lm f1) es (ao J0 J1) _ (q.1,none) (q'.1,none) (fun _ h=>h) (row oi li f2) s1 rfl;unfold cw qP;rw [this.2,es];exact ⟨this.1,rfl⟩
end
theorem vw {ms ws:List (List (Sg×Nat))}{n:Nat}{x:List Sg×Sg}(h:(h9 ms ws n).2=some x):∀m,(h9 ms ws (n+m)).2=some x
 | 0=>h
 | m+1=>by
  have ih:=vw h m;show (match (h9 ms ws (n+m)).2 with | some _=>_ | none=>_:List br×Option (List Sg×Sg)).2=_
  rw [ih];exact ih
theorem vv {ms ws:List (List (Sg×Nat))}{P:List br}(h:h9 ms ws P.length=(P,none)):∀m,h9 ms ws (P.length+m)=(P,none)
 | 0=>h
 | m+1=>by
  have ih:=vv h m;rw [<-DQ];unfold h9;rw [ih];simp only;rw [fE (Nat.le_add_right _ _)]
theorem zb {A B:List Str->Sg->List Str}{ss:List Sg}{k:List Str×List Str}:∀n,(∀x∈(cK A B ss k n).1,x.2.length<=n)/\∀x,(cK A B ss k n).2=some x->x.1.length<=n
 | 0=>⟨fun x hx=>by rw [bF.1 (show x∈[(k,([]:List Sg))] from hx)]; exact aE _,fun x h=>nomatch h⟩
 | n+1=>by
  obtain ⟨h1,h2⟩:=zb (A:=A) (B:=B) (ss:=ss) (k:=k) n;unfold cK;generalize cK A B ss k n=q at h1 h2;cases e:q.2 with
  | some y=>simp only; exact ⟨fun x hx=>pG (h1 x hx),fun x h=>pG (h2 x h)⟩
  | none =>
   simp only;cases e1:q.1[n]? with
   | none=>simp only; exact ⟨fun x hx=>pG (h1 x hx),fun x h=>pG (h2 x h)⟩
   | some c =>
    have hc:=h1 c (aP e1);simp only;refine ⟨?_,fun x h=>?_⟩
    ·have:∀(l:List Sg) (r:List LP×Option Sg),(∀x∈r.1,x.2.length<=n+1)->∀x∈(l.foldl (cR A B c) r).1,x.2.length<=n+1:=by
      intro l
      induction l with
      | nil=>intro r h; exact h
      | cons s l ih =>
       intro r h;rw [jh];refine ih _ fun x hx=>?_;unfold cR at hx;cases er:r.2 with
       | some _=>rw [er] at hx; exact h x hx
       | none =>
        rw [er] at hx;simp only at hx;split at hx
        ·exact h x hx
        ·split at hx
         ·rcases bd.1 hx with hx | hx
          ·exact h x hx
          ·rw [bF.1 hx];show (c.2++[s]).length<=n+1;rw [ay]; simpa using hc
         ·exact h x hx
     exact this ss _ fun x hx=>pG (h1 x hx)
    ·obtain ⟨sg,_,e2⟩:=mW.1 h;rw [<-e2];exact pG hc
def leastF (J0 J1 J2 rooms':Zb) (ds ds':List am):Option (List Sg×Sg):=(cK (behF J2 ds) (behF rooms' ds') (ao J0 J1) (closF J2 ds (J2.take 1),closF rooms' ds' (rooms'.take 1)) 300).2
theorem hJ.part {K:Za}{C x M fa sa na ta:Addr}{us ws:Ze}{m:gD}{H H':Hp}(h:hJ K C H x M fa sa na ta us ws m) (e:∀b o,H b=some o->(∀k,o=.dT k->b=na)->H' b=some o):hJ K C H' x M fa sa na ta us ws m:=by
 have k:fP H H':=fun b xs q=>e _ _ q fun _ z=>nomatch z;obtain ⟨⟨dx,fs,g,r⟩,h1,h2,h3,h4,h5,h6⟩:=h;refine ⟨⟨dx,fs,e _ _ g fun _ z=>(nomatch z),r⟩,e _ _ h1 fun _ z=>(nomatch z),Paired.mapP h2 fun _ _ r=>k _ _ r,e _ _ h3 fun _ z=>(nomatch z),Paired.mapP h4 fun w s r=>⟨r.1,?_⟩,e _ _ h5 fun _ _=>rfl,h6⟩;obtain ⟨gs,g1,g2⟩:=r.2;exact ⟨gs,e _ _ g1 fun _ z=>(nomatch z),Paired.mapP g2 fun _ _ r=>bV.kt k r⟩
theorem Eg {J0 J1:Zb}{sg:Sg}(h:sg∈ao J0 J1):sg≠[]:=by
 unfold ao at h;intro z;subst z;rcases bd.1 h with h | h
 ·rcases bd.1 h with h | h
  ·obtain ⟨w,_,e⟩:=aB.1 h; cases e
  ·obtain ⟨w,_,e⟩:=aB.1 h; cases e
 ·have:=bF.1 h; cases this
theorem qy.steps {J0 J1 J2:Zb}{ds:List am}{S:qz}(ok:qy J0 J1 J2 ds S) {i:Nat}{p:Sg×Nat}(hp:p∈S.2.getD i []):p.2<S.1.fs.length/\p.1≠[]:=by
 rw [rV] at hp;cases e:S.2[i]? with
 | none=>rw [e] at hp; cases hp
 | some l =>
  rw [e] at hp;obtain ⟨f,_,pr⟩:=ok.st i l e;obtain ⟨j,hj⟩:=fh hp;obtain ⟨q,hq,e1,e2⟩:=Paired.getL pr hj;obtain ⟨s,hs,e3⟩:=aB.1 (cj.1 (aP hq)).1;exact ⟨(bP.1 e2).1,by rw [e1,<-e3]; exact Eg hs⟩
theorem Good.few4 {J2:Zb}{m:gD}(g:Good J2 m) (hr:J2.length<=4):m.fs.length<=16:=by
 have h:=iz g.nd (R:=jF J2) (fun f hf=>by obtain ⟨p,rfl⟩:=g.isF f hf; exact jD p J2);rw [jE] at h;have:2 ^ J2.length<=2 ^ 4:=vS (by decide) hr;omega
theorem iw {H0 H:Hp}{na:Addr}{ts:Ze}{st:List (List (Sg×Nat))}(h:pq H0 na H ts st):∀t∈ts,H0 t=none/\t≠na/\∃l,H t=some (.dT l):=fun t ht=>by
 obtain ⟨i,hi⟩:=fh ht;obtain ⟨l,_,r⟩:=Paired.getL h hi;exact ⟨r.1,r.2.1,_,r.2.2⟩
theorem Paired.mapM {α β:Type}{F G:α->β->Prop}:∀{as:List α}{bs:List β},Paired F as bs->(∀a b,a∈as->F a b->G a b)->Paired G as bs
 | _,_,.nil,_=>.nil
 | _,_,.cons r t,h=>.cons (h _ _ dA r) (Mum.Paired.mapM t fun a b ha=>h a b (fx _ ha))
inductive g6 (K:Za) (Cm:Addr) (vs:List V) (H:Hp) (Q:VK) (E:XK):Prop
 | mk (x y:Addr) (J0 J1 J2 rooms':Zb) (ds ds':List am):(vs=[.ref x,.ref y])->(bx Cm H x J0 J1 J2 ds)->(bx Cm H y J0 J1 rooms' ds')->((∀r∈rooms',∀a∈J0,gB ds' r a))->(J2.length<=4)->(rooms'.length<=4)->((leastF J0 J1 J2 rooms' ds ds'=none->∀(u l:Addr) (ps:Ze) (H':Hp),H' u=some (.tup [.str "keeps",.ref l])->H' l=some (.lst (ps.map V.ref))->ps.length<=64->H l=none->ab H H'->Q (.ref u) H'))->(∀(s:List Sg) (g:Sg),leastF J0 J1 J2 rooms' ds ds'=some (s,g)->∀(u l b:Addr) (gs:Ze) (H':Hp),H' u=some (.tup [.str "fault",.ref l,.ref b])->H' l=some (.lst (gs.map V.ref))->Paired (fun g (sg:Sg)=>bV K H' g (sg.map V.str)) gs s->bV K H' b (g.map V.str)->H l=none->ab H H'->Q (.ref u) H')->g6 K Cm vs H Q E
theorem E_ {K:Za}{Cm:Addr}{H:Hp}{Q:VK}{E:XK}{x y:Addr}{J0 J1 J2 rooms':Zb}{ds ds':List am}(M:bx Cm H x J0 J1 J2 ds) (N:bx Cm H y J0 J1 rooms' ds') (tk:∀r∈rooms',∀a∈J0,gB ds' r a) (z1:J2.length<=4) (z2:rooms'.length<=4)
  (kn:leastF J0 J1 J2 rooms' ds ds'=none->∀(u l:Addr) (ps:Ze) (H':Hp),H' u=some (.tup [.str "keeps",.ref l])->H' l=some (.lst (ps.map V.ref))->ps.length<=64->H l=none->ab H H'->Q (.ref u) H')
  (kf:∀(s:List Sg) (g:Sg),leastF J0 J1 J2 rooms' ds ds'=some (s,g)->∀(u l b:Addr) (gs:Ze) (H':Hp),H' u=some (.tup [.str "fault",.ref l,.ref b])->H' l=some (.lst (gs.map V.ref))->Paired (fun g (sg:Sg)=>bV K H' g (sg.map V.str)) gs s->bV K H' b (g.map V.str)->H l=none->ab H H'->Q (.ref u) H'):g6 K Cm [.ref x,.ref y] H Q E:=by
 exact ⟨x,y,J0,J1,J2,rooms',ds,ds',rfl,M,N,tk,z1,z2,kn,kf⟩
theorem Er {K:Za}{C Cm:Addr}(c:FC K C) {vs:List V}{H:Hp}{Q:VK}{E:XK}(h:g6 K Cm vs H Q E):FU K (j_ K C Cm) (gS K) C (lW K C Cm) (fV Cm) (bJ Q) (start GZ vs) H:=by
 classical
 obtain ⟨x,y,J0,J1,J2,rooms',ds,ds',rfl,MX,MY,tk,z4,z4',kn,kf⟩:=h;refine ⟨_,rfl,_,rfl,x,y,J0,J1,J2,rooms',ds,ds',rfl,MX,MY,tk,fun H1 S1=>?_⟩;have MX1:=MX.same S1;have MY1:=MY.same S1;refine ⟨_,rfl,fun o1 d1 ho1 hd1 ne1=>?_⟩;have S2:ab H1 (upd (upd H1 d1 (.own o1)) o1 (.ins C d1 [])):=fun b o e=>by rw [af (ae e ho1)]; exact kp e hd1
 refine ⟨H1,o1,d1,x,J0,J1,J2,ds,rfl,aa,MX1,ho1,S2,by omega,fun fa sa na ta us ws ts S j H3 F3 ta3 st3 ok3 len3 _ S3=>⟨rfl,?_⟩⟩;clear S2;obtain ⟨dx1,fs1,g1,l1,l2,l3,l4,l5,l6,l7⟩:=F3.ob;refine ⟨_,rfl,o1,C,dx1,fs1,.ref ta,rfl,g1,c.cls,c.a5,l5,?_⟩;refine ⟨_,rfl,fun o2 d2 ho2 hd2 ne2=>?_⟩;have S4:ab H3 (upd (upd H3 d2 (.own o2)) o2 (.ins C d2 [])):=fun b o e=>by rw [af (ae e ho2)]; exact kp e hd2
 refine ⟨H3,o2,d2,y,J0,J1,rooms',ds',rfl,aa,MY1.same S3,ho2,S4,by omega,fun fa' sa' na' ta' us' ws' ts' SI j' H5 F5 ta5 st5 ok5 len5 itI S5=>⟨rfl,?_⟩⟩;clear S4;obtain ⟨dx2,fs2,g2,m1,m2,m3,m4,m5,m6,m7⟩:=F5.ob;refine ⟨o2,C,dx2,fs2,.ref ta',rfl,g2,c.cls,c.a5,m5,?_⟩
 let H0:Hp:=fun b=>if b∈ts∨b∈ts' then none else H5 b
 have hz:∀{b:Addr},b∈ts∨b∈ts'->H0 b=none:=fun h=>if_pos h;have hk:∀{b:Addr}{o:HO},H5 b=some o->(∀k,o=.dT k->b∉ts/\b∉ts')->H0 b=some o:=fun {b o} e n=>by
  have:¬(b∈ts∨b∈ts'):=fun z=>by
   have hd:∃l,H5 b=some (.dT l):=by
    rcases z with z | z
    ·obtain ⟨_,_,l,hl⟩:=iw st3 b z; exact ⟨l,S5 _ _ hl⟩
    ·exact (iw st5 b z).2.2
   obtain ⟨l,hl⟩:=hd;rw [e] at hl;injection hl with hl;obtain ⟨n1,n2⟩:=n _ hl;exact z.elim n1 n2
  show (if b∈ts∨b∈ts' then none else H5 b)=some o
  rw [if_neg this]; exact e
 have SH:ab H H0:=fun b o e=>by
  have e1:=S3 _ _ (S1 _ _ e);refine hk (S5 _ _ e1) fun k _=>⟨fun z=>?_,fun z=>?_⟩
  ·have:=(iw st3 b z).1; rw [S1 _ _ e] at this; cases this
  ·have:=(iw st5 b z).1; rw [e1] at this; cases this
 have F0:hJ K C H0 o1 x fa sa na ta us ws S.1:=(F3.same S5).part fun b o e n=>hk e fun k z=>by
  have:=n k z;subst this;refine ⟨fun z=>(iw st3 b z).2.1 rfl,fun z=>?_⟩;have:=(iw st5 b z).1;rw [F3.hna] at this; cases this
 have ta5':=S5 _ _ ta3;have I:mH H0 H5 ta ta' ts ts' S.2 SI.2:=by
  refine ⟨ta5',ta5,?_,?_,fun b o e=>?_⟩
  ·refine Mum.Paired.mapM st3 fun t _ ht r=>⟨hz (.inl ht),.inl (S5 _ _ r.2.2)⟩
  ·refine Mum.Paired.mapM st5 fun t _ ht r=>⟨hz (.inr ht),.inl r.2.2⟩
  ·have e:(if b∈ts∨b∈ts' then none else H5 b)=some o:=e
   split at e
   ·cases e
   ·exact e
 have zt:ts.length=S.1.fs.length:=by rw [Paired.length st3,len3]
 have zt':ts'.length=SI.1.fs.length:=by rw [Paired.length st5,len5]
 have f16:=ok3.good.few4 z4;have f16':=ok5.good.few4 z4';have pos:∀{rs:Zb}{es:List am}{S:qz},qy J0 J1 rs es S->0<S.1.fs.length:=fun {rs es S} ok=>by
  rcases vR S.1.fs.length with z | z
  ·have:=ok.zero; rw [fE (by omega)] at this; cases this
  ·exact z
 have LC:Ja ts ts' S.2 SI.2:=⟨by omega,by omega,fun i p hp=>by rw [zt]; exact (ok3.steps hp).1,fun i p hp=>by rw [zt']; exact (ok5.steps hp).1,fun i p hp=>(ok5.steps hp).2⟩;have prod:ts.length * ts'.length<=16 * 16:=pH (by omega) (by omega);have sim:=Ee ok3 ok5 len3 len5;refine ⟨H0,ta,ta',ts,ts',S.2,SI.2,rfl,I,LC,by rw [zt]; exact pos ok3,by rw [zt']; exact pos ok5,fun P H6 okP itP lenP ro I6=>?_,fun P i cm p sb t lst gs H6 okP itP lt _ _ _ _ _ ht hl hg hb t0 l0 I6=>?_⟩
 ·refine ⟨_,rfl,_,rfl,?_⟩;rw [zzr1 rfl];refine dh ?_;have lf:leastF J0 J1 J2 rooms' ds ds'=none:=by
   unfold leastF;rw [<-(sim 300).2];have:=vv itP (300-P.length);rw [show P.length+(300-P.length)=300 by omega] at this;rw [this]
  have simP:=(sim P.length).1;rw [itP] at simP;have F6:=F0.same I6.S;have ins:∀r:Row,vN P SI r.1 r.2->r.1∈rooms'/\r.2<ts.length:=fun r ⟨cm,hc,e,F,hF,hr⟩=>by
   obtain ⟨i,hi⟩:=fh hc;obtain ⟨w,_,e1,_⟩:=Paired.getL simP hi;refine ⟨(ok5.good.isF F (aP hF)).sub _ hr,?_⟩;rw [zt,<-e];exact (bP.1 e1).1
  have r0:rooms'[0]?=some (rooms'.headD ""):=by
   cases e:rooms' with
   | nil=>exact absurd e MY.ok.rooms0
   | cons a b=>rfl
  have hb:∀d∈ds',d.b∈rooms':=fun d hd=>(MY.ok.good d hd).b;have first:vN P SI (rooms'.headD "") 0:=by
   obtain ⟨r,e⟩:=okP.zero;refine ⟨⟨(0,0),none,[]⟩,by rw [e]; exact dA,rfl,_,ok5.zero,?_⟩;unfold closF;refine cj.2 ⟨aP r0,zzr1 ⟨rooms'.headD "",?_,.inl rfl⟩⟩;cases e:rooms' with
   | nil=>exact absurd e MY.ok.rooms0
   | cons a b=>exact dA
  have shut:∀f∈SI.1.fs,FA ds' f:=by rw [itI]; exact BL hb j'
  refine ⟨_,rfl,_,rfl,H0,o1,y,x,fa,sa,na,ta,us,ws,ts,S.1,S.2,J0,J1,rooms',ds',fun r:Row=>vN P SI r.1 r.2,rooms'.headD "",rfl,F6,I6.h1,I6.r1,(MY.same SH).same I6.S,⟨ins,fun r hr=>Ga MY.ok ok5 len5 ro shut hr⟩,zt,by omega,r0,first,fun l ps L H7 hl pr nd all hl0 S7=>⟨(by show 2<=aj; decide),fun u hu=>?_⟩⟩
  have S8:ab H7 (upd H7 u (.tup [.str "keeps",.ref l])):=ab.new hu;refine kn lf u l ps _ aa (S8 _ _ hl) ?_ ((SH.trans I6.S).free hl0) (((SH.trans I6.S).trans S7).trans S8);rw [Paired.length pr];have:=yI nd fun r hr=>ins r (all r hr);have:rooms'.length * ts.length<=4 * 16:=pH z4' (by omega);omega
 ·refine ⟨_,rfl,_,rfl,?_⟩;rw [zzr0 (fun z=>by cases z)];refine ck ?_;have lf:leastF J0 J1 J2 rooms' ds ds'=some (cm.story,p.1):=by
   unfold leastF;rw [<-(sim 300).2];have:=vw itP (300-(i+1));rw [show i+1+(300-(i+1))=300 by omega] at this;exact this
  refine ⟨_,rfl,t,_,rfl,bj.of ht,rfl,_,_,rfl,_,_,rfl,rfl,?_⟩;refine ⟨_,rfl,_,rfl,(by show 3<=aj; decide),fun u hu=>?_⟩;have S8:ab H6 (upd H6 u (.tup [.str "fault",.ref lst,.ref sb])):=ab.new hu;exact kf cm.story p.1 lf u lst sb gs _ aa (S8 _ _ hl) (Paired.mapP hg fun _ _ r=>bV.kt (ab.kt S8) r) (bV.kt (ab.kt S8) hb) (SH.free l0) ((SH.trans I6.S).trans S8)
abbrev nZ:=List Str×List Str
def mE (k:nZ):TK:=.t [iW k.1,iW k.2]
theorem EE {a b:nZ}(h:mE a=mE b):a=b:=by
 unfold mE at h;injection h with h;injection h with h1 h2;injection h2 with h2 _;obtain ⟨a1,a2⟩:=a;obtain ⟨b1,b2⟩:=b;rw [show a1=b1 from i7 h1,show a2=b2 from i7 h2]
theorem iP (k:nZ):(mE k).depth<=8:=by
 show max (iW k.1).depth (max (iW k.2).depth 0)+1<=8;rw [lR,lR]
 decide
def uU (H:Hp) (b:Addr) (k:nZ):Prop:=∃u v,H b=some (.tup [.ref u,.ref v])/\SignAt H u k.1/\SignAt H v k.2
theorem uU.kt {H H':Hp}{b:Addr}{k:nZ}(kt:fP H H'):uU H b k->uU H' b k:=fun ⟨u,v,h1,h2,h3⟩=>⟨u,v,kt _ _ h1,kt _ _ h2,kt _ _ h3⟩
theorem uU.tk {H:Hp}{b:Addr}{k:nZ}(h:uU H b k):cT H (mE k) (.ref b):=by
 obtain ⟨u,v,h1,h2,h3⟩:=h;unfold mE cT;refine ⟨b,_,rfl,h1,?_⟩;unfold TKAts;refine ⟨_,_,rfl,SignAt.tk h2,?_⟩;unfold TKAts;refine ⟨_,_,rfl,SignAt.tk h3,?_⟩;unfold TKAts
 rfl
theorem GL {K:Za}{H:Hp}{a:Addr}{f:Zb}{Q:VK}(ha:SignAt H a f) (k:∀q,H q=none->Q (.bl (decide (f=[]))) (upd H q (.tup []))):(∀σ,(be aT) σ H fun y H2=>jn K (.ref a) y H2 Q):=fun σ =>
 ⟨(by show 0<=aj; decide),fun q hq=>⟨.t (f.map gu),.t [],bD (bj.of (kp ha hq)),zE (bj.of aa),by have:=b0 f; unfold jW at this; rw [this]; decide,by decide,by
  rw [decide_eq_decide.mpr (show DT.t (f.map gu)=DT.t []↔f=[] from ⟨fun z=>mY.mp (by injection z),fun z=>by rw [z]; rfl⟩)]; exact k q hq⟩⟩
theorem xk {K:Za}{H:Hp}{a:Addr}{f:Zb}{Q:VK}(ha:SignAt H a f) (k:∀q,H q=none->Q (.bl (!decide (f=[]))) (upd H q (.tup []))):(∀σ,(be aT) σ H fun y H2=>p9 K (.ref a) y H2 Q):=fun σ =>
 ⟨(by show 0<=aj; decide),fun q hq=>⟨.t (f.map gu),.t [],bD (bj.of (kp ha hq)),zE (bj.of aa),by have:=b0 f; unfold jW at this; rw [this]; decide,by decide,by
  rw [decide_eq_decide.mpr (show DT.t (f.map gu)=DT.t []↔f=[] from ⟨fun z=>mY.mp (by injection z),fun z=>by rw [z]; rfl⟩)]; exact k q hq⟩⟩
structure Ia (H:Hp) (t t':Addr) (J0 J1 J2 rooms':Zb) (ds ds':List am):Prop where
 a:∃l1 l2 l3 l4 ts,im H t l1 l2 l3 l4 ts J0 J1 J2 ds
 b:∃l1 l2 l3 l4 ts,im H t' l1 l2 l3 l4 ts J0 J1 rooms' ds'
 ma:aJ J0 J1 J2 ds
 mb:aJ J0 J1 rooms' ds'
theorem Ia.same {H H':Hp}{t t':Addr}{J0 J1 J2 rooms':Zb}{ds ds':List am}(h:Ia H t t' J0 J1 J2 rooms' ds ds') (S:ab H H'):Ia H' t t' J0 J1 J2 rooms' ds ds':=by
 obtain ⟨⟨l1,l2,l3,l4,ts,T⟩,⟨m1,m2,m3,m4,us,U⟩,ma,mb⟩:=h;exact ⟨⟨l1,l2,l3,l4,ts,T.same S⟩,⟨m1,m2,m3,m4,us,U.same S⟩,ma,mb⟩
section
variable {A B:List Str->Sg->List Str}
theorem vp {c:LP}{P:nZ->Prop}(hp:∀sg,P (A c.1.1 sg,B c.1.2 sg)):∀(l:List Sg) (r:List LP×Option Sg),(∀x∈r.1,P x.1)->(∀x∈(l.foldl (cR A B c) r).1,P x.1)/\(l.foldl (cR A B c) r).1.length<=r.1.length+l.length/\∃w,(l.foldl (cR A B c) r).1=r.1++w
 | [],r,h=>⟨h,aE _,[],(fD _).symm⟩
 | s::l,r,h=>by
  have key:(∀x∈(cR A B c r s).1,P x.1)/\(cR A B c r s).1.length<=r.1.length+1/\∃w,(cR A B c r s).1=r.1++w:=by
   unfold cR;cases er:r.2 with
   | some _=>simp only; exact ⟨h,mL _,[],(fD _).symm⟩
   | none =>
    simp only;split
    ·exact ⟨h,mL _,[],(fD _).symm⟩
    ·split
     ·refine ⟨fun x hx=>?_,by rw [ay]; exact aE _,_,rfl⟩;rcases bd.1 hx with hx | hx
      ·exact h x hx
      ·rw [bF.1 hx]; exact hp s
     ·exact ⟨h,mL _,[],(fD _).symm⟩
  obtain ⟨k1,k2,w,k3⟩:=key;obtain ⟨i1,i2,v,i3⟩:=vp hp l _ k1;rw [jh,em];exact ⟨i1,by omega,w++v,by rw [i3,k3,df]⟩
theorem qQ {c:LP}:∀(l:List Sg) (q:List LP×Option Sg) (s:Sg),q.2=some s->(l.foldl (cR A B c) q).2=some s
 | [],_,_,h=>h
 | p::l,q,s,h=>by
  rw [jh];have e:cR A B c q p=q:=by unfold cR; rw [h]
  rw [e];exact qQ l q s h
theorem za {ss:List Sg}{k:nZ}{n:Nat}{L:List LP}{c:LP}(h:cK A B ss k n=(L,none)) (hc:L[n]?=some c):cK A B ss k (n+1)=((qP A B c L ss).1,(qP A B c L ss).2.map fun sg=>(c.2,sg)):=by
 show (match (cK A B ss k n).2 with | some _=>_ | none=>_)=_
 rw [h];simp only [hc]
theorem vt {ss:List Sg}{k:nZ}{n:Nat}{L:List LP}(h:cK A B ss k n=(L,none)) (hc:L[n]?=none):cK A B ss k (n+1)=(L,none):=by
 show (match (cK A B ss k n).2 with | some _=>_ | none=>_)=_
 rw [h];simp only [hc]
theorem qg {ss:List Sg}{k:nZ}{n:Nat}{x:List Sg×Sg}(h:(cK A B ss k n).2=some x):∀m,(cK A B ss k (n+m)).2=some x
 | 0=>h
 | m+1=>by
  have ih:=qg h m;show (match (cK A B ss k (n+m)).2 with | some _=>_ | none=>_:List LP×Option (List Sg×Sg)).2=_
  rw [ih];exact ih
end
theorem Cu {J2 f sg:Zb}{ds:List am}(hr:J2.length<=1000) (hf:f.length<=1000):(behF J2 ds f sg).length<=1000:=by
 unfold behF;split
 ·exact bv (de _ _) hf
 ·exact bv (de _ _) hr
def CO (K:Za) (sp_law_signs:Sp):TS :=
 ap (aK (aM sp_law_signs (aA V0)) U2)
 (bB (aD kQ (cq (aA (fu (d9 K) (aA V1)))) (dC 1 [2] (cb K V1) U0 (j5) (oG K "list" (BP K) V1 (aA V0)))))
def DC:List Str:=["told","story","signs"]
theorem AL:∀xs:List Int,HT.lexLt xs xs=false
 | []=>rfl
 | x::xs=>by rw [HT.lexLt_cons,if_pos rfl]; exact AL xs
theorem y9:∀{xs ys zs:List Int},HT.lexLt xs ys=true->HT.lexLt ys zs=true->HT.lexLt xs zs=true
 | [],[],_,h,_=>by cases h
 | _::_,[],_,h,_=>by cases h
 | _,_::_,[],_,h=>by cases h
 | [],_::_,_::_,_,_=>rfl
 | x::xs,y::ys,z::zs,h,k=>by
  rw [HT.lexLt_cons] at h k ⊢;by_cases e1:x=y
  ·rw [if_pos e1] at h;by_cases e2:y=z
   ·rw [if_pos e2] at k;rw [if_pos (e1.trans e2)];exact y9 h k
   ·rw [if_neg e2] at k;rw [if_neg (fun q=>e2 (e1.symm.trans q)),e1];exact k
  ·rw [if_neg e1] at h;have h':=of_decide_eq_true h;by_cases e2:y=z
   ·rw [if_neg (fun q=>e1 (q.trans e2.symm)),<-e2];exact h
   ·rw [if_neg e2] at k;have k':=of_decide_eq_true k;rw [if_neg (by omega)];exact zzr1 (by omega)
theorem EU:∀{xs ys:List Int},HT.lexLt xs ys=false->HT.lexLt ys xs=false->xs=ys
 | [],[],_,_=>rfl
 | [],_::_,h,_=>by cases h
 | _::_,[],_,h=>by cases h
 | x::xs,y::ys,h,k=>by
  rw [HT.lexLt_cons] at h k;by_cases e:x=y
  ·rw [if_pos e] at h;rw [if_pos e.symm] at k;rw [e,EU h k]
  ·rw [if_neg e] at h;rw [if_neg (fun q=>e q.symm)] at k;have:=of_decide_eq_false h;have:=of_decide_eq_false k;omega
theorem EV:∀{xs ys:List Int}{a b:Int},xs.length=ys.length->HT.lexLt xs ys=true->HT.lexLt (xs++[a]) (ys++[b])=true
 | [],[],_,_,_,h=>by cases h
 | [],_::_,_,_,e,_=>by cases e
 | _::_,[],_,_,e,_=>by cases e
 | x::xs,y::ys,a,b,e,h=>by
  rw [sA,sA];rw [HT.lexLt_cons] at h ⊢;by_cases q:x=y
  ·rw [if_pos q] at h ⊢;exact EV (by simpa using e) h
  ·rw [if_neg q] at h ⊢;exact h
theorem Ce {a b:Int}:∀xs:List Int,HT.lexLt (xs++[a]) (xs++[b])=decide (a<b)
 | []=>by
  show HT.lexLt [a] [b]=_;rw [HT.lexLt_cons];by_cases e:a=b
  ·rw [if_pos e,zzr0 (by omega)]; rfl
  ·rw [if_neg e]
 | x::xs=>by rw [sA,sA,HT.lexLt_cons,if_pos rfl]; exact Ce xs
def FJ (ss:List Sg) (s:List Sg):List Int:=s.map fun x=>((ss.idxOf x:Nat):Int)
def tL (ss:List Sg) (s:List Sg):List Int:=(s.length:Int)::FJ ss s
def fL (ss:List Sg) (s t:List Sg):Prop:=HT.lexLt (tL ss s) (tL ss t)=true
section
variable {ss:List Sg}{s t u:List Sg}{a b:Sg}
theorem o_:fL ss s t↔s.length<t.length∨(s.length=t.length/\HT.lexLt (FJ ss s) (FJ ss t)=true):=by
 unfold fL tL;rw [HT.lexLt_cons];by_cases e:s.length=t.length
 ·rw [if_pos (by omega)];exact ⟨fun h=>.inr ⟨e,h⟩,fun h=>h.elim (fun z=>by omega) fun z=>z.2⟩
 ·rw [if_neg (by omega),decide_eq_true_eq];exact ⟨fun h=>.inl (by omega),fun h=>h.elim (fun z=>by omega) fun z=>absurd z.1 e⟩
theorem fL.irr:¬fL ss s s:=fun h=>by unfold fL at h; rw [AL] at h; cases h
theorem fL.trans (h:fL ss s t) (k:fL ss t u):fL ss s u:=y9 h k
theorem fL.asym (h:fL ss s t):¬fL ss t s:=fun k=>fL.irr (h.trans k)
theorem AT (h:¬fL ss s t) (k:¬fL ss t s):tL ss s=tL ss t:=EU (by simpa [fL] using h) (by simpa [fL] using k)
theorem fL.of_le (h:¬fL ss t s) (k:fL ss t u):fL ss s u:=by
 by_cases c:fL ss s t
 ·exact c.trans k
 ·have:=AT c h;unfold fL at k ⊢;rw [this]; exact k
theorem fL.le_of (h:fL ss s t) (k:¬fL ss u t):fL ss s u:=by
 by_cases c:fL ss t u
 ·exact h.trans c
 ·have:=AT c k;unfold fL at h ⊢;rw [<-this]; exact h
theorem fL.app (h:fL ss s t):fL ss (s++[a]) (t++[b]):=by
 rw [o_] at h ⊢;rw [ay,ay];rcases h with h | ⟨h1,h2⟩
 ·exact .inl (Nat.add_lt_add_right h _)
 ·refine .inr ⟨by rw [h1]; rfl,?_⟩;unfold FJ at h2 ⊢;rw [aq,aq];exact EV (by rw [ai,ai]; exact h1) h2
theorem fL.last:fL ss (s++[a]) (s++[b])↔ss.idxOf a<ss.idxOf b:=by
 rw [o_,ay,ay];unfold FJ;rw [aq,aq];show _∨(_/\HT.lexLt (_++[((ss.idxOf a:Nat):Int)]) (_++[((ss.idxOf b:Nat):Int)])=true)↔_;rw [Ce,decide_eq_true_eq];exact ⟨fun h=>h.elim (fun z=>by simp at z) fun z=>by omega,fun h=>.inr ⟨rfl,by omega⟩⟩
theorem leS.app (h:¬fL ss t s):¬fL ss (t++[a]) (s++[a]):=fun k=>by
 by_cases c:fL ss s t
 ·exact (c.app (a:=a) (b:=a)).asym k
 ·have e:=AT c h;unfold tL at e;injection e with e1 e2;rw [o_,ay,ay] at k;unfold FJ at k e2;rw [aq,aq,e2] at k;rcases k with k | ⟨_,k⟩
  ·simp only [nj] at k; omega
  ·rw [AL] at k; cases k
theorem fL.short (h:s.length<t.length):fL ss s t:=o_.2 (.inl h)
theorem fL.len (h:fL ss s t):s.length<=t.length:=by
 rcases o_.1 h with h | h
 ·exact eo h
 ·exact Nat.le_of_eq h.1
end
abbrev tN (g:Sg):Prop:=g.head?=some ("ask":Str)
section
variable (A B:List Str->Sg->List Str) (ss:List Sg) (k:nZ)
def mT (x:nZ) (g:Sg):Prop:=¬tN g/\A x.1 g=[]/\B x.2 g≠[]
def oS (s:List Sg):nZ:=(s.foldl A k.1,s.foldl B k.2)
def Flt (s:List Sg) (g:Sg):Prop:=(∀x∈s,x∈ss)/\g∈ss/\(oS A B k s).1≠[]/\mT A B (oS A B k s) g
structure zU (n:Nat) (L:List LP):Prop where
 run:∀x∈L,oS A B k x.2=x.1/\x.1.1≠[]/\x.1.2≠[]/\∀y∈x.2,y∈ss
 zero:∃r,L=(k,[])::r
 sorted:∀(i j:Nat) (x y:LP),i<j->L[i]?=some x->L[j]?=some y->fL ss x.2 y.2
 from_:∀y∈L,y.2=[]∨∃(i:Nat) (x:LP) (sg:Sg),i<n/\L[i]?=some x/\y.2=x.2++[sg]
 clean:∀(i:Nat) (x:LP),i<n->L[i]?=some x->∀sg∈ss,¬mT A B x.1 sg
 shut:∀(i:Nat) (x:LP),i<n->L[i]?=some x->∀sg∈ss,A x.1.1 sg≠[]->B x.1.2 sg≠[]->∃y∈L,y.1=(A x.1.1 sg,B x.1.2 sg)/\¬fL ss (x.2++[sg]) y.2
end
section
variable {A B:List Str->Sg->List Str}{ss:List Sg}{k:nZ}
theorem p7 (s:List Sg) (g:Sg):oS A B k (s++[g])=(A (oS A B k s).1 g,B (oS A B k s).2 g):=by
 unfold oS;rw [jX,jX]; rfl
structure ic (A B:List Str->Sg->List Str) (ss:List Sg) (k:nZ) (n:Nat) (c:LP) (j:Nat) (L:List LP):Prop where
 run:∀x∈L,oS A B k x.2=x.1/\x.1.1≠[]/\x.1.2≠[]/\∀y∈x.2,y∈ss
 zero:∃r,L=(k,[])::r
 at_:L[n]?=some c
 sorted:∀(i j:Nat) (x y:LP),i<j->L[i]?=some x->L[j]?=some y->fL ss x.2 y.2
 from_:∀y∈L,y.2=[]∨(∃(i:Nat) (x:LP) (sg:Sg),i<n/\L[i]?=some x/\y.2=x.2++[sg])∨∃sg∈ss,ss.idxOf sg<j/\y.2=c.2++[sg]
 clean:∀(i:Nat) (x:LP),i<n->L[i]?=some x->∀sg∈ss,¬mT A B x.1 sg
 shut:∀(i:Nat) (x:LP),i<n->L[i]?=some x->∀sg∈ss,A x.1.1 sg≠[]->B x.1.2 sg≠[]->∃y∈L,y.1=(A x.1.1 sg,B x.1.2 sg)/\¬fL ss (x.2++[sg]) y.2
 clean1:∀sg∈ss,ss.idxOf sg<j->¬mT A B c.1 sg
 shut1:∀sg∈ss,ss.idxOf sg<j->A c.1.1 sg≠[]->B c.1.2 sg≠[]->∃y∈L,y.1=(A c.1.1 sg,B c.1.2 sg)/\¬fL ss (c.2++[sg]) y.2
theorem pb {j:Nat}{sg g:Sg}(hj:ss[j]?=some sg) (hg:g∈ss) (h:ss.idxOf g<j+1):ss.idxOf g<j∨g=sg:=by
 rcases eE (ss.idxOf g) j with z | z
 ·exact .inl z
 ·have e:ss.idxOf g=j:=by omega
  have hl:ss.idxOf g<ss.length:=mV.2 hg;have:=List.getElem_idxOf hl;rw [<-e,bE hl,this] at hj;injection hj with hj;exact .inr hj
theorem xz (nd:ss.Nodup) {j:Nat}{sg:Sg}(hj:ss[j]?=some sg):ss.idxOf sg=j:=by
 obtain ⟨hl,e⟩:=bP.1 hj;rw [<-e];exact nd.idxOf_getElem _ hl
theorem ic.skip {n j:Nat}{c:LP}{L:List LP}(h:ic A B ss k n c j L) {sg:Sg}(hj:ss[j]?=some sg) (nf:¬mT A B c.1 sg) (sh:A c.1.1 sg≠[]->B c.1.2 sg≠[]->∃y∈L,y.1=(A c.1.1 sg,B c.1.2 sg)/\¬fL ss (c.2++[sg]) y.2):ic A B ss k n c (j+1) L:=by
 refine { h with from_:=fun y hy=>?_,clean1:=fun g hg hi=>?_,shut1:=fun g hg hi h1 h2=>?_ }
 ·rcases h.from_ y hy with e | e | ⟨g,gm,hg,e⟩
  ·exact .inl e
  ·exact .inr (.inl e)
  ·exact .inr (.inr ⟨g,gm,by omega,e⟩)
 ·rcases pb hj hg hi with z | z
  ·exact h.clean1 g hg z
  ·rw [z]; exact nf
 ·rcases pb hj hg hi with z | z
  ·exact h.shut1 g hg z h1 h2
  ·subst z; exact sh h1 h2
theorem ic.add (nd:ss.Nodup) {n j:Nat}{c:LP}{L:List LP}(h:ic A B ss k n c j L) {sg:Sg}(hj:ss[j]?=some sg) (ha:A c.1.1 sg≠[]) (hb:B c.1.2 sg≠[]):ic A B ss k n c (j+1) (L++[((A c.1.1 sg,B c.1.2 sg),c.2++[sg])]):=by
 have hs:=aP hj;have ej:=xz nd hj;have hc:=aP h.at_;have lt:n<L.length:=(bP.1 h.at_).1;have up:∀{i:Nat}{x:LP},L[i]?=some x->(L++[((A c.1.1 sg,B c.1.2 sg),c.2++[sg])])[i]?=some x:=fun {i x} e=>by
  rw [dg (bP.1 e).1]; exact e
 have dn:∀{i:Nat}{x:LP},i<n->(L++[((A c.1.1 sg,B c.1.2 sg),c.2++[sg])])[i]?=some x->L[i]?=some x:=fun {i x} hi e=>by
  rw [dg (by omega)] at e; exact e
 have less:∀y∈L,fL ss y.2 (c.2++[sg]):=fun y hy=>by
  rcases h.from_ y hy with e | ⟨i,x,g,hi,hx,e⟩ | ⟨g,gm,hg,e⟩
  ·rw [e]; exact fL.short (by rw [ay]; show 0<_+1; omega)
  ·rw [e]; exact (h.sorted i n x c hi hx h.at_).app
  ·rw [e]; exact fL.last.2 (by omega)
 obtain ⟨r,er⟩:=h.zero;refine ⟨fun x hx=>?_,⟨r++[((A c.1.1 sg,B c.1.2 sg),c.2++[sg])],by rw [er]; rfl⟩,up h.at_,fun i j' x y hij hx hy=>?_,fun y hy=>?_,fun i x hi hx=>h.clean i x hi (dn hi hx),fun i x hi hx g hg h1 h2=>?_,fun g hg hi=>?_,fun g hg hi h1 h2=>?_⟩
 ·rcases bd.1 hx with hx | hx
  ·exact h.run x hx
  ·rw [bF.1 hx];obtain ⟨q1,_,_,q4⟩:=h.run c hc;refine ⟨by rw [p7,q1],ha,hb,fun y hy=>?_⟩;rcases bd.1 hy with hy | hy
   ·exact q4 y hy
   ·rw [bF.1 hy]; exact hs
 ·rcases eE j' L.length with z | z
  ·rw [dg (by omega)] at hx;rw [dg z] at hy;exact h.sorted i j' x y hij hx hy
  ·have hj:j'<L.length+1:=by
    have:=(bP.1 hy).1;rw [ay] at this; exact this
   have e:j'=L.length:=by omega
   subst e;rw [dg hij] at hx;rw [lc (aE _),Nat.sub_self] at hy;injection hy with hy;subst hy;exact less x (aP hx)
 ·rcases bd.1 hy with hy | hy
  ·rcases h.from_ y hy with e | ⟨i,x,g,hi,hx,e⟩ | ⟨g,gm,hg,e⟩
   ·exact .inl e
   ·exact .inr (.inl ⟨i,x,g,hi,up hx,e⟩)
   ·exact .inr (.inr ⟨g,gm,by omega,e⟩)
  ·rw [bF.1 hy];exact .inr (.inr ⟨sg,hs,by omega,rfl⟩)
 ·obtain ⟨y,hy,e⟩:=h.shut i x hi (dn hi hx) g hg h1 h2;exact ⟨y,cW _ hy,e⟩
 ·rcases pb hj hg hi with z | z
  ·exact h.clean1 g hg z
  ·rw [z]; exact fun q=>ha q.2.1
 ·rcases pb hj hg hi with z | z
  ·obtain ⟨y,hy,e⟩:=h.shut1 g hg z h1 h2;exact ⟨y,cW _ hy,e⟩
  ·subst z;exact ⟨_,dk _ (bF.2 rfl),rfl,fL.irr⟩
theorem ic.next (nd:ss.Nodup) {n j:Nat}{c:LP}{L:List LP}(h:ic A B ss k n c j L) {sg:Sg}(hj:ss[j]?=some sg) :
  (mT A B c.1 sg/\(cR A B c (L,none) sg).2=some sg)∨((cR A B c (L,none) sg).2=none/\ic A B ss k n c (j+1) (cR A B c (L,none) sg).1):=by
 have e:cR A B c (L,none) sg=if ¬tN sg/\A c.1.1 sg=[]/\B c.1.2 sg≠[] then (L,some sg) else if A c.1.1 sg≠[]/\B c.1.2 sg≠[]/\¬(A c.1.1 sg,B c.1.2 sg)∈L.map (·.1) then (L++[((A c.1.1 sg,B c.1.2 sg),c.2++[sg])],none) else (L,none):=rfl
 by_cases c1:¬tN sg/\A c.1.1 sg=[]/\B c.1.2 sg≠[]
 ·rw [e,if_pos c1];exact .inl ⟨c1,rfl⟩
 rw [e,if_neg c1];by_cases c2:A c.1.1 sg≠[]/\B c.1.2 sg≠[]/\¬(A c.1.1 sg,B c.1.2 sg)∈L.map (·.1)
 ·rw [if_pos c2];exact .inr ⟨rfl,h.add nd hj c2.1 c2.2.1⟩
 ·rw [if_neg c2];refine .inr ⟨rfl,h.skip hj c1 fun h1 h2=>?_⟩;have hm:(A c.1.1 sg,B c.1.2 sg)∈L.map (·.1):=sm fun z=>c2 ⟨h1,h2,z⟩;obtain ⟨y,hy,ey⟩:=aB.1 hm;refine ⟨y,hy,ey,?_⟩;rcases h.from_ y hy with e | ⟨i,x,g,hi,hx,e⟩ | ⟨g,gm,hg,e⟩
  ·rw [e]; exact fun z=>by have:=z.len; rw [ay] at this; simp at this
  ·rw [e]; exact ((h.sorted i n x c hi hx h.at_).app).asym
  ·rw [e]; exact (fL.last.2 (by rw [xz nd hj]; exact hg)).asym
theorem ic.row (nd:ss.Nodup) {n:Nat}{c:LP}:∀(m j:Nat) {L:List LP},ss.length-j=m->ic A B ss k n c j L ->
  (∃g∈ss,mT A B c.1 g/\(∀g'∈ss,ss.idxOf g'<ss.idxOf g->¬mT A B c.1 g')/\((ss.drop j).foldl (cR A B c) (L,none)).2=some g)∨(((ss.drop j).foldl (cR A B c) (L,none)).2=none/\ic A B ss k n c ss.length ((ss.drop j).foldl (cR A B c) (L,none)).1)
 | 0,j,L,hm,h=>by
  rw [List.drop_eq_nil_of_le (by omega)];refine .inr ⟨rfl,{ h with from_:=fun y hy=>?_,clean1:=fun g hg _=>h.clean1 g hg ?_,shut1:=fun g hg _=>h.shut1 g hg ?_ }⟩
  ·rcases h.from_ y hy with e | e | ⟨g,gm,hg,e⟩
   ·exact .inl e
   ·exact .inr (.inl e)
   ·exact .inr (.inr ⟨g,gm,mV.2 gm,e⟩)
  ·have:=mV.2 hg; omega
  ·have:=mV.2 hg; omega
 | m+1,j,L,hm,h=>by
  have hl:j<ss.length:=by omega
  have hj:ss[j]?=some ss[j]:=bE hl;rw [sf hl,jh];rcases h.next nd hj with ⟨f,e⟩ | ⟨e,h'⟩
  ·refine .inl ⟨ss[j],jY hl,f,fun g' hg' lt=>?_,qQ _ _ _ e⟩;rw [xz nd hj] at lt;exact h.clean1 g' hg' lt
  ·have e2:cR A B c (L,none) ss[j]=((cR A B c (L,none) ss[j]).1,none):=Prod.ext rfl e;rw [e2];exact ic.row nd m (j+1) (by omega) h'
end
section
variable {A B:List Str->Sg->List Str}{ss:List Sg}{k:nZ}
theorem zU.row0 {n:Nat}{c:LP}{L:List LP}(h:zU A B ss k n L) (hc:L[n]?=some c):ic A B ss k n c 0 L :=
 ⟨h.run,h.zero,hc,h.sorted,fun y hy=>(h.from_ y hy).imp id .inl,h.clean,h.shut,fun g _ z=>by omega,fun g _ z=>by omega⟩
theorem Dc {n:Nat}(h:(cK A B ss k (n+1)).2=none):(cK A B ss k n).2=none:=by
 cases e:(cK A B ss k n).2 with
 | none=>rfl
 | some x=>rw [qg e 1] at h; cases h
theorem Fx (nd:ss.Nodup) (h1:k.1≠[]) (h2:k.2≠[]):∀n,(cK A B ss k n).2=none->zU A B ss k n (cK A B ss k n).1
 | 0,_=>by
  have one:∀{i:Nat}{x:LP},[((k,[]):LP)][i]?=some x->i=0/\x=(k,[]):=fun {i x} e=>by
   have:=(bP.1 e).1;have e0:i=0:=by simpa using this
   subst e0;injection e with e;exact ⟨rfl,e.symm⟩
  refine ⟨fun x hx=>?_,⟨[],rfl⟩,fun i j x y hij hx hy=>?_,fun y hy=>?_,fun i x hi=>by omega,fun i x hi=>by omega⟩
  ·rw [bF.1 hx];exact ⟨rfl,h1,h2,fun y hy=>nomatch hy⟩
  ·have:=(one hx).1; have:=(one hy).1; omega
  ·rw [bF.1 hy]; exact .inl rfl
 | n+1,e=>by
  have e0:=Dc e;have ih:=Fx nd h1 h2 n e0;have ep:cK A B ss k n=((cK A B ss k n).1,none):=Prod.ext rfl e0;cases hc:(cK A B ss k n).1[n]? with
  | none =>
   rw [vt ep hc];have no:∀{i:Nat}{x:LP},i<n+1->(cK A B ss k n).1[i]?=some x->i<n:=fun {i x} hi hx=>by
    rcases eE i n with z | z
    ·exact z
    ·have:i=n:=by omega
     rw [this,hc] at hx; cases hx
   exact { ih with from_:=fun y hy=>(ih.from_ y hy).imp id fun ⟨i,x,g,hi,hx,e⟩=>⟨i,x,g,by omega,hx,e⟩,clean:=fun i x hi hx=>ih.clean i x (no hi hx) hx,shut:=fun i x hi hx=>ih.shut i x (no hi hx) hx }
  | some c =>
   have er:=za ep hc;rcases ic.row nd _ 0 rfl (ih.row0 hc) with ⟨g,_,_,_,f⟩ | ⟨f,R⟩
   ·rw [er] at e;unfold qP at e;rw [j1] at f;rw [f] at e; cases e
   ·rw [j1] at R;rw [er];show zU A B ss k (n+1) (qP A B c (cK A B ss k n).1 ss).1;unfold qP;generalize ss.foldl (cR A B c) ((cK A B ss k n).1,none)=q at R;have at_:∀{i:Nat}{x:LP},i<n+1->q.1[i]?=some x->i<n∨x=c:=fun {i x} hi hx=>by
     rcases eE i n with z | z
     ·exact .inl z
     ·have:i=n:=by omega
      rw [this,R.at_] at hx;injection hx with hx;exact .inr hx.symm
    refine ⟨R.run,R.zero,R.sorted,fun y hy=>?_,fun i x hi hx g hg=>?_,fun i x hi hx g hg=>?_⟩
    ·rcases R.from_ y hy with e | ⟨i,x,g,hi,hx,e⟩ | ⟨g,_,_,e⟩
     ·exact .inl e
     ·exact .inr ⟨i,x,g,by omega,hx,e⟩
     ·exact .inr ⟨n,c,g,by omega,R.at_,e⟩
    ·rcases at_ hi hx with z | rfl
     ·exact R.clean i x z hx g hg
     ·exact R.clean1 g hg (mV.2 hg)
    ·rcases at_ hi hx with z | rfl
     ·exact R.shut i x z hx g hg
     ·exact R.shut1 g hg (mV.2 hg)
theorem zU.reach {n m:Nat}{L:List LP}(h:zU A B ss k n L) (hA:∀g,A [] g=[]) (hB:∀g,B [] g=[]) (hm:∀(i:Nat) (y:LP),L[i]?=some y->y.2.length<m->i<n):∀(l:Nat) (s:List Sg),s.length=l->l<=m->(∀x∈s,x∈ss)->(oS A B k s).1≠[]->(oS A B k s).2≠[]->∃y∈L,y.1=oS A B k s/\¬fL ss s y.2
 | 0,s,e,_,_,_,_=>by
  rw [List.eq_nil_of_length_eq_zero e];obtain ⟨r,er⟩:=h.zero;exact ⟨(k,[]),by rw [er]; exact dA,rfl,fL.irr⟩
 | l+1,s,e,hl,hs,h1,h2=>by
  obtain ⟨t,g,rfl⟩:∃t g,s=t++[g]:=⟨s.dropLast,s.getLast (fun z=>by rw [z] at e; cases e),(List.dropLast_concat_getLast _).symm⟩;rw [p7] at h1 h2 ⊢;rw [ay] at e;have et:t.length=l:=by simpa using e
  obtain ⟨y,hy,e1,e2⟩:=zU.reach h hA hB hm l t et (by omega) (fun x hx=>hs x (cW _ hx)) (fun z=>h1 (by show A (oS A B k t).1 g=[]; rw [z]; exact hA g)) (fun z=>h2 (by show B (oS A B k t).2 g=[]; rw [z]; exact hB g));obtain ⟨i,hi⟩:=fh hy;have yl:y.2.length<=t.length:=by
   rcases eE t.length y.2.length with z | z
   ·exact absurd (fL.short z) e2
   ·exact z
  rw [<-e1] at h1 h2 ⊢;obtain ⟨z,hz,e3,e4⟩:=h.shut i y (hm i y hi (by omega)) hi g (hs g (dk _ dA)) h1 h2;exact ⟨z,hz,e3,fun q=>leS.app e2 (q.le_of e4)⟩
theorem y_:∀{N:Nat}{x:List Sg×Sg},(cK A B ss k N).2=some x->∃(n:Nat) (c:LP) (L:List LP),cK A B ss k n=(L,none)/\L[n]?=some c/\c.2=x.1/\(ss.foldl (cR A B c) (L,none)).2=some x.2
 | 0,x,h=>by cases h
 | N+1,x,h=>by
  cases e:(cK A B ss k N).2 with
  | some y =>
   have:=qg e 1;rw [h] at this;injection this with this;rw [this];exact y_ e
  | none =>
   have ep:cK A B ss k N=((cK A B ss k N).1,none):=Prod.ext rfl e;cases hc:(cK A B ss k N).1[N]? with
   | none=>rw [vt ep hc] at h; cases h
   | some c =>
    rw [za ep hc] at h;obtain ⟨g,hg,eg⟩:=mW.1 h;exact ⟨N,c,_,ep,hc,by rw [<-eg],by rw [<-eg]; exact hg⟩
theorem AQ (nd:ss.Nodup) (h1:k.1≠[]) (h2:k.2≠[]) (hA:∀g,A [] g=[]) (hB:∀g,B [] g=[]) {N:Nat}{s:List Sg}{g:Sg}(h:(cK A B ss k N).2=some (s,g)):Flt A B ss k s g/\∀s' g',Flt A B ss k s' g'->¬fL ss (s'++[g']) (s++[g]):=by
 obtain ⟨n,c,L,ep,hc,es,ef⟩:=y_ h;have es:c.2=s:=es;subst es;have bf:zU A B ss k n L:=by
  have:=Fx (A:=A) (B:=B) (ss:=ss) (k:=k) nd h1 h2 n (by rw [ep]);rw [ep] at this;exact this
 have hcm:=aP hc;obtain ⟨q1,q2,q3,q4⟩:=bf.run c hcm;rcases ic.row nd _ 0 rfl (bf.row0 hc) with ⟨g0,hg0,f0,pre,e0⟩ | ⟨e0,_⟩;rotate_left
 ·rw [j1,ef] at e0; cases e0
 rw [j1,ef] at e0;injection e0 with e0;have e0:g=g0:=e0;subst e0;refine ⟨⟨q4,hg0,by rw [q1]; exact q2,by rw [q1]; exact f0⟩,fun s' g' hf lt=>?_⟩;obtain ⟨a1,a2,a3,a4⟩:=hf;have hm:∀(i:Nat) (y:LP),L[i]?=some y->y.2.length<c.2.length->i<n:=fun i y hi hl=>by
  rcases vW i n with z | z | z
  ·exact z
  ·rw [z,hc] at hi;injection hi with hi;rw [hi] at hl; omega
  ·exact absurd (fL.short hl) (bf.sorted n i c y z hc hi).asym
 have hl:s'.length<=c.2.length:=by
  have:=lt.len;rw [ay,ay] at this;simpa using this
 obtain ⟨y,hy,e1,e2⟩:=bf.reach hA hB hm _ s' rfl hl a1 a3 (fun z=>a4.2.2 (by rw [z]; exact hB g'));obtain ⟨i,hi⟩:=fh hy;rw [<-e1] at a4;have ylt:fL ss (y.2++[g']) (c.2++[g]):=(leS.app e2 |> fun q=>fL.of_le q lt);rcases vW i n with z | z | z
 ·exact bf.clean i y z hi g' a2 a4
 ·rw [z,hc] at hi;injection hi with hi;subst hi;exact pre g' a2 (fL.last.1 ylt) a4
 ·exact (bf.sorted n i c y z hc hi).app.asym ylt
theorem AR (nd:ss.Nodup) (h1:k.1≠[]) (h2:k.2≠[]) (hA:∀g,A [] g=[]) (hB:∀g,B [] g=[]) {N:Nat}(h:(cK A B ss k N).2=none) (hl:(cK A B ss k N).1.length<=N) (s:List Sg) (g:Sg):¬Flt A B ss k s g:=fun ⟨a1,a2,a3,a4⟩=>by
 have bf:=Fx nd h1 h2 N h;obtain ⟨y,hy,e1,_⟩:=bf.reach (m:=s.length) hA hB (fun i y hi _=>by have:=(bP.1 hi).1; omega) _ s rfl (aE _) a1 a3 (fun z=>a4.2.2 (by rw [z]; exact hB g));obtain ⟨i,hi⟩:=fh hy;rw [<-e1] at a4;exact bf.clean i y (by have:=(bP.1 hi).1; omega) hi g a2 a4
end
theorem pj {J2 sg:Zb}{ds:List am}:behF J2 ds [] sg=[]:=by
 classical
 unfold behF;split
 ·rfl
 ·unfold closF;rw [vV];rintro r _ z;obtain ⟨g,hg,_⟩:=of_decide_eq_true z;exact nomatch hg
theorem jT {J0 J1 J2:Zb}{ds:List am}(m:aJ J0 J1 J2 ds):closF J2 ds (J2.take 1)≠[]:=by
 classical
 cases e:J2 with
 | nil=>exact absurd e m.rooms0
 | cons r rs =>
  intro z;have:r∈closF (r::rs) ds ((r::rs).take 1):=by
   unfold closF;exact cj.2 ⟨dA,zzr1 ⟨r,dA,.inl rfl⟩⟩
  rw [z] at this;exact nomatch this
theorem vq {A B:List Str->Sg->List Str}{c:LP}:∀(l:List Sg) (r:List LP×Option Sg),(r.1.map (·.1)).Nodup->((l.foldl (cR A B c) r).1.map (·.1)).Nodup
 | [],_,h=>h
 | s::l,r,h=>by
  rw [jh];refine vq l _ ?_;unfold cR;cases er:r.2 with
  | some _=>exact h
  | none =>
   simp only;split
   ·exact h
   ·split
    ·rename_i q;rw [aq,cH];exact ⟨h,by simp,fun a ha b hb e=>by subst e; have hb:a=(A c.1.1 s,B c.1.2 s):=bF.1 hb; subst hb; exact q.2.2 ha⟩
    ·exact h
theorem HF {ss:List Sg}{J2 rooms':Zb}{ds ds':List am}{k:nZ}(h1:kr J2 k.1) (h2:kr rooms' k.2) {a b:Nat}(z1:J2.length<=a) (z2:rooms'.length<=b) (n:Nat):(cK (behF J2 ds) (behF rooms' ds') ss k n).1.length<=2 ^ a * 2 ^ b:=by
 have key:∀n,((cK (behF J2 ds) (behF rooms' ds') ss k n).1.map (·.1)).Nodup/\∀x∈(cK (behF J2 ds) (behF rooms' ds') ss k n).1,kr J2 x.1.1/\kr rooms' x.1.2:=by
  intro n
  induction n with
  | zero=>exact ⟨by show ([k]:List nZ).Nodup; simp,fun x hx=>by rw [bF.1 (show x∈[(k,([]:List Sg))] from hx)]; exact ⟨h1,h2⟩⟩
  | succ n ih =>
   unfold cK;generalize cK (behF J2 ds) (behF rooms' ds') ss k n=q at ih;cases q.2 with
   | some y=>exact ih
   | none =>
    simp only;cases e1:q.1[n]? with
    | none=>exact ih
    | some c =>
     have hc:=ih.2 c (aP e1);exact ⟨vq ss (q.1,none) ih.1,(vp (P:=fun k=>kr J2 k.1/\kr rooms' k.2) (fun sg=>⟨xx hc.1,xx hc.2⟩) ss (q.1,none) ih.2).1⟩
 obtain ⟨q1,q2⟩:=key n;have h:=iz q1 (R:=(jF J2).flatMap fun f=>(jF rooms').map fun g=>(f,g)) fun x hx=>by
  obtain ⟨y,hy,rfl⟩:=aB.1 hx;obtain ⟨⟨p,ep⟩,⟨p',ep'⟩⟩:=q2 y hy;exact pI.2 ⟨y.1.1,by rw [ep]; exact jD p J2,aB.2 ⟨y.1.2,by rw [ep']; exact jD p' rooms',rfl⟩⟩
 have len:∀l:List (List Str),(l.flatMap fun f=>(jF rooms').map fun g=>(f,g)).length=l.length * 2 ^ rooms'.length:=by
  intro l
  induction l with
  | nil=>simp
  | cons x l ih=>rw [rU,ay,ih,ai,jE,em,vT]; omega
 rw [ai,len,jE] at h;exact bv h (pH (vS (by decide) z1) (vS (by decide) z2))
abbrev G4 (J0 J1 J2 rooms':Zb) (ds ds':List am):List Sg->Sg->Prop:=Flt (behF J2 ds) (behF rooms' ds') (ao J0 J1) (closF J2 ds (J2.take 1),closF rooms' ds' (rooms'.take 1))
section
variable {J0 J1 J2 rooms':Zb}{ds ds':List am}(m:aJ J0 J1 J2 ds) (m':aJ J0 J1 rooms' ds')
include m m'
theorem qT {s:List Sg}{g:Sg}(h:leastF J0 J1 J2 rooms' ds ds'=some (s,g)):G4 J0 J1 J2 rooms' ds ds' s g/\∀s' g',G4 J0 J1 J2 rooms' ds ds' s' g'->¬fL (ao J0 J1) (s'++[g']) (s++[g]) :=
 AQ (eO m) (jT m) (jT m') (fun _=>pj) (fun _=>pj) h
theorem zh (z1:J2.length<=4) (z2:rooms'.length<=4) (h:leastF J0 J1 J2 rooms' ds ds'=none) (s:List Sg) (g:Sg):¬G4 J0 J1 J2 rooms' ds ds' s g :=
 AR (eO m) (jT m) (jT m') (fun _=>pj) (fun _=>pj) h (bv (HF qk qk z1 z2 300) (by decide)) s g
end
abbrev Be (K:Za) (H:Hp) (gs:Ze) (s:List Sg):Prop:=Paired (fun g (sg:Sg)=>bV K H g (sg.map V.str)) gs s
theorem Be.same {K:Za}{H H':Hp}{gs:Ze}{s:List Sg}(S:ab H H') (h:Be K H gs s):Be K H' gs s:=Paired.mapP h fun _ _ r=>bV.kt (ab.kt S) r
inductive nI (K:Za) (vs:List V) (H:Hp) (Q:VK) (E:XK):Prop
 | mk (t st l1 l2 l3 l4:Addr) (ts gs:Ze) (J0 J1 J2:Zb) (ds:List am) (s:List Sg):(vs=[.ref t,.ref st])->(im H t l1 l2 l3 l4 ts J0 J1 J2 ds)->(aJ J0 J1 J2 ds)->(H st=some (.lst (gs.map V.ref)))->(Be K H gs s)->((∀x∈s,x∈ao J0 J1))->(s.length<=2000)->(∀(l:Addr) (H':Hp),H' l=some (.lst ((tL (ao J0 J1) s).map V.int))->ab H H'->Q (.ref l) H')->nI K vs H Q E
theorem Hs {K:Za}{vs:List V}{H:Hp}{Q:VK}{E:XK}(h:nI K vs H Q E):CO K lq (bJ Q) (start DC vs) H:=by
 obtain ⟨t,st,l1,l2,l3,l4,ts,gs,J0,J1,J2,ds,s,rfl,T,m,hst,hg,hs,zl,k⟩:=h;have zs:(ao J0 J1).length<=9:=by
  unfold ao;have:=m.asks4;have:=m.says4;simp only [ay,ai,nj];omega
 refine ⟨_,rfl,t,l1,l2,l3,l4,ts,J0,J1,J2,ds,rfl,T,m,fun sl us H1 hsl hus _ S1=>?_⟩;have st1:=S1 _ _ hst;refine ⟨_,rfl,.inl ⟨st,_,rfl,.inl (az.of st1),(by show 1<=aj; decide),fun p hp=>?_⟩⟩;have S2:ab H1 (upd H1 p (.lst [.int ((gs.map V.ref).length:Nat)])):=ab.new hp;have p2:upd H1 p (.lst [.int ((gs.map V.ref).length:Nat)]) p=some (.lst [.int ((gs.map V.ref).length:Nat)]):=aa;generalize upd H1 p (.lst [.int ((gs.map V.ref).length:Nat)])=H2 at S2 p2 ⊢;have S12:=S1.trans S2;refine ⟨_,rfl,st,rfl,⟨_,az.of (S12 _ _ hst)⟩,fun l hl=>?_⟩;refine cC (xs:=gs.map V.ref) (fun i vs H'=>vs=(FJ (ao J0 J1) (s.take i)).map V.int/\ab H2 H'/\H' l=some (.lst vs)) ⟨rfl,ab.new hl,aa⟩ (fun i vs H' _ ⟨_,S,h'⟩=>⟨h',az.of (S _ _ (S12 _ _ hst))⟩) ?_ ?_
 ·rintro vs H' ⟨rfl,S,h'⟩;rw [ai,Paired.length hg,bh] at h';refine ⟨p,l,_,_,rfl,rfl,S _ _ p2,h',?_,fun q hq=>k q _ ?_ ((S12.trans S).trans (ab.new hq))⟩
  ·simp only [FJ,ai,nj];rw [gv]; omega
  ·rw [aa];unfold tL;rw [ai,Paired.length hg]; rfl
 ·rintro i vs H' y hy hi ⟨rfl,S,h'⟩;obtain ⟨g,hg',rfl⟩:=cP hy;obtain ⟨sg,hsg,hat⟩:=Paired.getL hg hg';refine gN (sE ?_);have hm:=hs sg (aP hsg);have hx:=mV.2 hm;have sl':=S _ _ (S2 _ _ hsl);have nod:=eO m;refine ⟨_,rfl,.inl ⟨rfl,_,az.of sl'⟩,_,rfl,sl,_,_,jW sg,(ao J0 J1).map jW,(ao J0 J1).idxOf sg,rfl,rfl,sl',(hus.kt (ab.kt (S2.trans S))).dIns,bD (bV.sq (bV.kt (ab.kt (S12.trans S)) hat)),by rw [b0]; decide,bv (A2 _) (by decide),by rw [ai,Paired.length hus]; omega,?_,fun m' lt z=>?_,h',?_,o0 hi ⟨?_,fun b o e=>by rw [af (ae e hl)]; exact S _ _ e,aa⟩⟩
  ·rw [bZ,bE hx,List.getElem_idxOf hx]; rfl
  ·rw [bZ] at z;obtain ⟨w,hw,e⟩:=mW.1 z;have e:w=sg:=xD e;subst e;have:=xz nod hw;omega
  ·unfold FJ;rw [ai,ai,aX,gv]; omega
  ·unfold FJ;rw [take_snoc hsg,aq,aq]; rfl
def xX (K:Za) (J0 J1:Zb) (H:Hp) (u:Addr):Option (List Sg×Sg)->Prop
 | none=>∃l ps,H u=some (.tup [.str "keeps",.ref l])/\H l=some (.lst (ps:List V))
 | some x=>∃l b gs,H u=some (.tup [.str "fault",.ref l,.ref b])/\H l=some (.lst (gs.map V.ref))/\Be K H gs x.1/\bV K H b (x.2.map V.str)/\(∀y∈x.1++[x.2],y∈ao J0 J1)/\x.1.length<=1100
theorem xX.same {K:Za}{J0 J1:Zb}{H H':Hp}{u:Addr}(S:ab H H'):∀{o:Option (List Sg×Sg)},xX K J0 J1 H u o->xX K J0 J1 H' u o
 | none,⟨l,ps,h1,h2⟩=>⟨l,ps,S _ _ h1,S _ _ h2⟩
 | some x,⟨l,b,gs,h1,h2,h3,h4,h5⟩=>⟨l,b,gs,S _ _ h1,S _ _ h2,Be.same S h3,bV.kt (ab.kt S) h4,h5⟩
def GK (ss:List Sg):Option (List Sg×Sg)->List Int
 | none=>[]
 | some x=>tL ss (x.1++[x.2])
theorem GF {K:Za}{C:Addr}{H:Hp}{Q:VK}{E:XK}{x y:Addr}{J0 J1 J2 rooms':Zb}{ds ds':List am}(M:bx C H x J0 J1 J2 ds) (N:bx C H y J0 J1 rooms' ds') (tk:∀r∈rooms',∀a∈J0,gB ds' r a) (z1:J2.length<=4) (z2:rooms'.length<=4)
  (k:∀(u:Addr) (H':Hp),xX K J0 J1 H' u (leastF J0 J1 J2 rooms' ds ds')->ab H H'->Q (.ref u) H'):g6 K C [.ref x,.ref y] H Q E:=by
 refine E_ M N tk z1 z2 (fun lf u l ps H' hu hl _ _ S=>k u H' ?_ S) (fun s g lf u l b gs H' hu hl hg hb _ S=>k u H' ?_ S)
 ·rw [lf]; exact ⟨l,_,hu,hl⟩
 ·rw [lf];obtain ⟨⟨a1,a2,_⟩,_⟩:=qT M.ok N.ok lf;refine ⟨l,b,gs,hu,hl,hg,hb,fun y hy=>?_,bv ((zb (A:=behF J2 ds) (B:=behF rooms' ds') (ss:=ao J0 J1) (k:=(closF J2 ds (J2.take 1),closF rooms' ds' (rooms'.take 1))) 300).2 _ lf) (by decide)⟩;rcases bd.1 hy with z | z
  ·exact a1 y z
  ·rw [bF.1 z]; exact a2
theorem EM {K:Za}{H:Hp}{l q:Addr}{ns:List Int}(hl:H l=some (.lst (ns.map V.int))) (hq:H q=some (.lst [])):∃d e:DT,jc K H d (.ref l)/\jc K H e (.ref q)/\d.depth<=8/\e.depth<=8/\decide (d=e)=decide (ns=[]):=by
 have dep:∀ns:List Int,DT.depths (ns.map fun i=>DT.k (.inl i))=0:=by
  intro ns
  induction ns with
  | nil=>rfl
  | cons n ns ih=>rw [bc]; show max 0 (DT.depths _)=0; rw [ih]; rfl
 have ins:∀ns:List Int,DIns K H (ns.map fun i=>DT.k (.inl i)) (ns.map V.int):=by
  intro ns
  induction ns with
  | nil=>show DIns K H [] []; unfold DIns; rfl
  | cons n ns ih =>
   rw [bc,bc];unfold DIns;refine ⟨_,_,rfl,?_,ih⟩;unfold jc; rfl
 refine ⟨.s (ns.map fun i=>DT.k (.inl i)),.s [],(by unfold jc; exact ⟨l,_,rfl,az.of hl,ins ns⟩),(by unfold jc; exact ⟨q,_,rfl,az.of hq,by unfold DIns; rfl⟩),?_,(by decide),decide_eq_decide.2 ⟨fun z=>mY.mp (by injection z),fun z=>by rw [z]; rfl⟩⟩;show DT.depths _+1<=8;rw [dep]; decide
def Af (K:Za) (sp_law_signs:Sp) (sp_law_behind:Sp):TS :=
 ap (aK (cq (aT)) U3)
 (ap (aK (cq (aT)) U4)
 (ap (eC (cb K (aM sp_law_signs (aA V0))) U5 (ap (aK (be (ar (aM sp_law_behind (eU V0 (aD (fO K) V2 (tC (.int 0))) V5)) (ar (aM sp_law_behind (eU V1 (aD (fO K) V2 (tC (.int 1))) V5)) aT))) U6)
 (ap (cx (mB (aO (aD (jn K) (aD (fO K) V6 (tC (.int 0))) (be (aT)))) (mB (aO (aD (p9 K) (aD (fO K) V6 (tC (.int 1))) (be (aT)))) (aO (aD Hu (aD (fO K) V5 (tC (.int 0))) (tC (.str "ask")))))) (bH (oG K "list" bX V3 (aA V5))) (bG))
 (cx (mB (aO (aD (p9 K) (aD (fO K) V6 (tC (.int 0))) (be (aT)))) (aO (aD (p9 K) (aD (fO K) V6 (tC (.int 1))) (be (aT))))) (bH (oG K "list" bX V4 (aA (be (aS V5 V6))))) (bG)))))
 (bB (be (aS V3 V4)))))
def Bo:List Str:=["told","some","pair","wrong","ways","sign","behind"]
def FT (K:Za) (sp_law_key:Sp) (sp_law_look:Sp) (sp_law_on:Sp) (g6:Sp) (sp_law_machine:Sp) (sp_law_near:Sp) (sp_law_model:Sp) (sp_law_open:Sp):TS :=
 ap (aK (aM sp_law_open (aA V0)) U1)
 (ap (aK (aM sp_law_model (eU V1 (tC (.int 4)) (tC (.int 0)))) U2)
 (ap (aK (aM sp_law_near (eU V1 V2 (tC (.int 3)))) U3)
 (ap (aK (aM g6 (aS (aM sp_law_machine (aA V2)) (aM sp_law_machine (aA V3)))) U4)
 (ap (aK (cq (aT)) U5)
 (ap (cx (aO (aD AA (aD (fO K) V4 (tC (.int 0))) (tC (.str "fault")))) (aK (aM sp_law_key (ar V2 (ar (aD kQ (aD (fO K) V4 (tC (.int 1))) (cq (aA (aD (fO K) V4 (tC (.int 2)))))) aT))) U5) (bG))
 (ap (aK (be (ar (aM sp_law_on (aS V2 (vc (lC K) (aD (fO K) V2 (tC (.int 2))) (da) (eF (tC (.int 1)))))) (ar (aM sp_law_on (aS V3 (vc (lC K) (aD (fO K) V3 (tC (.int 2))) (da) (eF (tC (.int 1)))))) aT))) U6)
 (ap (aK (lp) U7)
 (ap (aK (cq (aT)) U8)
 (ap (eC (qU K (ar (aD kQ (vc (lC K) V0 (da) (eF (tC (.int 63)))) (cq (aA (tC (.int 0))))) aT)) (fG K 2 (aN U9 (aN H_ (fy)))) (ap (cx (tB (eV K V6 V7)) (kL V7 V6 (aM sp_law_look (eU V2 V3 V6))) (bG))
 (ap (aK (fU K V7 V6) (fG K 2 (aN IB (aN IW (fy)))))
 (ap (eC (cb K HY) HZ (cx (D_ (aO (aD (jn K) V5 (cq (aT)))) (aO (aD (Gq K) (aM sp_law_key (aS V2 (aD kQ V8 (cq (aA HX))))) V5))) (bB (tC (.bl false))) (bG)))
 (ap (cx (aO (aD (jn K) DM (cq (aT)))) (bB (tC (.bl true))) (bG))
 (ap (aK (aD (cU K) DM (aD hC (aD eA (aD vf DN (tC (.int 7))) (aD i4 V9 V9)) (fu (d9 K) (aA DM)))) (fG K 2 (aN HZ (aN U6 (fy)))))
 (bH (oG K "list" bX V8 (aA HX)))))))))
 (bB (aD (oW K false) (aD (fO K) V4 (tC (.int 0))) (be (aS (tC (.str "keeps")) (tC (.str "fault")))))))))))))))
def CB:List Str:=["script","pen","told","some","found","last","pair","seen","story","k","cell","wrong","ways","sign"]
def EC:List Str:=["script"]
open Classical in
def wrongL (A B:List Str->Sg->List Str) (k:nZ) (ss:List Sg):List Sg:=ss.filter fun g=>decide (mT A B k g)
def jA (A B:List Str->Sg->List Str) (k:nZ) (ss:List Sg):List (Sg×nZ):=(ss.filter fun g=>decide (A k.1 g≠[]/\B k.2 g≠[])).map fun g=>(g,(A k.1 g,B k.2 g))
def qq (H:Hp) (e:Addr) (x:Sg×nZ):Prop:=∃g b,H e=some (.tup [.ref g,.ref b])/\SignAt H g x.1/\uU H b x.2
theorem qq.kt {H H':Hp}{e:Addr}{x:Sg×nZ}(k:fP H H'):qq H e x->qq H' e x:=fun ⟨g,b,h1,h2,h3⟩=>⟨g,b,k _ _ h1,k _ _ h2,h3.kt k⟩
def LkAt (A B:List Str->Sg->List Str) (ss:List Sg) (H:Hp) (k:nZ) (v:V):Prop:=∃(u wl yl:Addr) (ws ys:Ze),v=.ref u/\H u=some (.tup [.ref wl,.ref yl])/\H wl=some (.lst (ws.map V.ref))/\io H ws (wrongL A B k ss)/\H yl=some (.lst (ys.map V.ref))/\Paired (qq H) ys (jA A B k ss)
theorem i8 {α:Type}{p:α->Bool}{L:List α}{i:Nat}{x:α}(h:L[i]?=some x):(L.take (i+1)).filter p=(L.take i).filter p++if p x=true then [x] else []:=by
 rw [take_snoc h,pJ];congr 1;by_cases c:p x=true
 ·rw [if_pos c,List.filter_cons_of_pos c]; rfl
 ·rw [if_neg c,List.filter_cons_of_neg c]; rfl
inductive lV (K:Za) (vs:List V) (H:Hp) (Q:VK) (E:XK):Prop
 | mk (t t' b:Addr) (J0 J1 J2 rooms':Zb) (ds ds':List am) (k:nZ):(vs=[.ref t,.ref t',.ref b])->(Ia H t t' J0 J1 J2 rooms' ds ds')->(uU H b k)->(k.1.length<=1000)->(k.2.length<=1000)->(∀(v:V) (H':Hp),LkAt (behF J2 ds) (behF rooms' ds') (ao J0 J1) H' k v->(∀u,v=.ref u->∀wl yl,H' u=some (.tup [.ref wl,.ref yl])->H wl=none/\H yl=none)->ab H H'->Q v H')->lV K vs H Q E
theorem Gg {K:Za}{vs:List V}{H:Hp}{Q:VK}{E:XK}(h:lV K vs H Q E):Af K lq (rL K) (bJ Q) (start Bo vs) H:=by
 classical
 obtain ⟨t,t',b,J0,J1,J2,rooms',ds,ds',k,rfl,Tw,fp,z1,z2,kk⟩:=h;have zs:(ao J0 J1).length<=9:=by
  unfold ao;have:=Tw.ma.asks4;have:=Tw.ma.says4;simp only [ay,ai,nj];omega
 refine ⟨(by show 0<=aj; decide),fun wl hwl=>⟨(by show 0<=aj; decide),fun yl hyl=>?_⟩⟩;have S0:ab H (upd (upd H wl (.lst [])) yl (.lst [])):=(ab.new hwl).trans (ab.new hyl);have nwy:wl≠yl:=fun z=>by rw [<-z,aa] at hyl; cases hyl
 have hyl0:H yl=none:=(ab.new (o:=.lst []) hwl).free hyl;have w0:upd (upd H wl (.lst [])) yl (.lst []) wl=some (.lst []):=by rw [af nwy]; exact aa
 have y0:upd (upd H wl (.lst [])) yl (.lst []) yl=some (.lst []):=aa;generalize upd (upd H wl (.lst [])) yl (.lst [])=H1 at S0 w0 y0 ⊢;obtain ⟨l1,l2,l3,l4,ts,T⟩:=(Tw.same S0).a;refine ⟨_,rfl,t,l1,l2,l3,l4,ts,J0,J1,J2,ds,rfl,T,Tw.ma,fun sl us H2 hsl hus sl0 S2=>⟨sl,rfl,⟨_,az.of hsl⟩,?_⟩⟩;have nsw:sl≠wl:=fun z=>by rw [z,w0] at sl0; cases sl0
 have nsy:sl≠yl:=fun z=>by rw [z,y0] at sl0; cases sl0
 refine cn (xs:=us.map V.ref) (fun i σ H'=>∃(ws ys:Ze) (x5 x6:Option V),σ=[some (.ref t),some (.ref t'),some (.ref b),some (.ref wl),some (.ref yl),x5,x6]/\ab H H'/\(∀c o,H2 c=some o->c≠wl->c≠yl->H' c=some o)/\H' wl=some (.lst (ws.map V.ref))/\io H' ws (wrongL (behF J2 ds) (behF rooms' ds') k ((ao J0 J1).take i))/\H' yl=some (.lst (ys.map V.ref))/\Paired (qq H') ys (jA (behF J2 ds) (behF rooms' ds') k ((ao J0 J1).take i)))
  ⟨[],[],_,_,rfl,S0.trans S2,fun _ _ e _ _=>e,S2 _ _ w0,.nil,S2 _ _ y0,.nil⟩ (fun i σ H' _ ⟨_,_,_,_,_,_,e,_⟩=>az.of (e _ _ hsl nsw nsy)) ?_ ?_
 ·rintro i y σ H3 hi ⟨ws,ys,x5,x6,rfl,S3,e3,hw,sw,hy,sy⟩;obtain ⟨g,hg,rfl⟩:=cP hi;obtain ⟨sg,hsg,hat⟩:=Paired.getL hus hg;have hil:i<(ao J0 J1).length:=(bP.1 hsg).1;have k23:fP H2 H3:=fun c xs e=>e3 _ _ e (fun z=>by have:=S2 _ _ w0; rw [<-z,e] at this; cases this) fun z=>by have:=S2 _ _ y0; rw [<-z,e] at this; cases this
  have g3:SignAt H3 g sg:=k23 _ _ hat;obtain ⟨fa,mi,b3,f3,m3⟩:=fp.kt (ab.kt S3);have wl9:ws.length<=9:=by
   rw [Paired.length sw];unfold wrongL;exact bv (de _ _) (by rw [aX]; omega)
  have yl9:ys.length<=9:=by
   rw [Paired.length sy];unfold jA;rw [ai];exact bv (de _ _) (by rw [aX]; omega)
  obtain ⟨l1,l2,l3,l4,ts,T⟩:=(Tw.same S3).a;refine ⟨_,rfl,_,rfl,b,_,0,_,rfl,rfl,bj.of b3,rfl,_,rfl,t,fa,g,l1,l2,l3,l4,ts,J0,J1,J2,k.1,sg,ds,rfl,T,Tw.ma,bj.of f3,bj.of g3,z1,fun ba H4 hba S4=>?_⟩;obtain ⟨m1,m2,m3',m4,ts',T'⟩:=(Tw.same (S3.trans S4)).b;refine ⟨_,rfl,_,rfl,b,_,1,_,rfl,rfl,bj.of (S4 _ _ b3),rfl,_,rfl,t',mi,g,m1,m2,m3',m4,ts',J0,J1,rooms',k.2,sg,ds',rfl,T',Tw.mb,bj.of (S4 _ _ m3),bj.of (S4 _ _ g3),z2,fun bb H5 hbb S5=>⟨(by show 2<=aj; decide),fun bq hbq=>?_⟩⟩;have S36:ab H3 (upd H5 bq (.tup [.ref ba,.ref bb])):=(S4.trans S5).trans (ab.new hbq);have b6:upd H5 bq (.tup [.ref ba,.ref bb]) bq=some (.tup [.ref ba,.ref bb]):=aa;have ba6:SignAt (upd H5 bq (.tup [.ref ba,.ref bb])) ba (behF J2 ds k.1 sg):=kp (S5 _ _ hba) hbq;have bb6:SignAt (upd H5 bq (.tup [.ref ba,.ref bb])) bb (behF rooms' ds' k.2 sg):=kp hbb hbq;generalize upd H5 bq (.tup [.ref ba,.ref bb])=H6 at S36 b6 ba6 bb6 ⊢;obtain ⟨s0,rst,hs0⟩:=List.exists_cons_of_ne_nil (Eg (aP hsg));have at0:pD (sg.map V.str) 0=some (.str s0):=by rw [hs0]; exact bt (j:=0) rfl
  have second:∀{H7:Hp}{ws:Ze},ab H H7->(∀c o,H2 c=some o->c≠wl->c≠yl->H7 c=some o)->fP H6 H7->H7 wl=some (.lst (ws.map V.ref))->io H7 ws (wrongL (behF J2 ds) (behF rooms' ds') k ((ao J0 J1).take (i+1)))->H7 yl=some (.lst (ys.map V.ref)) ->
    (cx (mB (aO (aD (p9 K) (aD (fO K) V6 (tC (.int 0))) (be (aT)))) (aO (aD (p9 K) (aD (fO K) V6 (tC (.int 1))) (be (aT))))) (bH (oG K "list" bX V4 (aA (be (aS V5 V6))))) (bG)) { nx:=fun σ H'=>∃(ws ys:Ze) (x5 x6:Option V),σ=[some (.ref t),some (.ref t'),some (.ref b),some (.ref wl),some (.ref yl),x5,x6]/\ab H H'/\(∀c o,H2 c=some o->c≠wl->c≠yl->H' c=some o)/\H' wl=some (.lst (ws.map V.ref))/\io H' ws (wrongL (behF J2 ds) (behF rooms' ds') k ((ao J0 J1).take (i+1)))/\H' yl=some (.lst (ys.map V.ref))/\Paired (qq H') ys (jA (behF J2 ds) (behF rooms' ds') k ((ao J0 J1).take (i+1))),rt:=Q } [some (.ref t),some (.ref t'),some (.ref b),some (.ref wl),some (.ref yl),some (.ref g),some (.ref bq)] H7:=by
   intro H7 ws S7 e7 k7 hw sw hy;have sy7:Paired (qq H7) ys (jA (behF J2 ds) (behF rooms' ds') k ((ao J0 J1).take i)):=Paired.mapP sy fun _ _ r=>r.kt ((ab.kt S36).trans k7);have b7:=k7 _ _ b6;have ba7:SignAt H7 ba _:=k7 _ _ ba6;have bb7:SignAt H7 bb _:=k7 _ _ bb6;have g7:SignAt H7 g sg:=k7 _ _ (S36 _ _ g3);have idle:¬(behF J2 ds k.1 sg≠[]/\behF rooms' ds' k.2 sg≠[])->∀{H8:Hp},ab H7 H8->∃(ws ys:Ze) (x5 x6:Option V),([some (.ref t),some (.ref t'),some (.ref b),some (.ref wl),some (.ref yl),some (.ref g),some (.ref bq)]:L2.St)=[some (.ref t),some (.ref t'),some (.ref b),some (.ref wl),some (.ref yl),x5,x6]/\ab H H8/\(∀c o,H2 c=some o->c≠wl->c≠yl->H8 c=some o)/\H8 wl=some (.lst (ws.map V.ref))/\io H8 ws (wrongL (behF J2 ds) (behF rooms' ds') k ((ao J0 J1).take (i+1)))/\H8 yl=some (.lst (ys.map V.ref))/\Paired (qq H8) ys (jA (behF J2 ds) (behF rooms' ds') k ((ao J0 J1).take (i+1))):=fun n H8 S8=>by
    refine ⟨ws,ys,_,_,rfl,S7.trans S8,fun c o q n1 n2=>S8 _ _ (e7 c o q n1 n2),S8 _ _ hw,sw.kt (ab.kt S8),S8 _ _ hy,?_⟩;unfold jA at sy7 ⊢;rw [i8 hsg,if_neg (by simpa using n),fD];exact Paired.mapP sy7 fun _ _ r=>r.kt (ab.kt S8)
   refine ⟨_,rfl,bq,_,0,_,rfl,rfl,bj.of b7,rfl,xk ba7 (fun q hq=>⟨_,rfl,?_⟩) _⟩;have S8:ab H7 (upd H7 q (.tup [])):=ab.new hq;generalize upd H7 q (.tup [])=H8 at S8 ⊢;by_cases c1:behF J2 ds k.1 sg=[]
   ·rw [zzr1 c1];exact ck (ck (idle (fun z=>z.1 c1) S8))
   rw [zzr0 c1];refine dh ?_;refine ⟨_,rfl,bq,_,1,_,rfl,rfl,bj.of (S8 _ _ b7),rfl,xk (S8 _ _ bb7) (fun q hq=>⟨_,rfl,?_⟩) _⟩;have S9:ab H7 (upd H8 q (.tup [])):=S8.trans (ab.new hq);generalize upd H8 q (.tup [])=H9 at S9 ⊢;by_cases c2:behF rooms' ds' k.2 sg=[]
   ·rw [zzr1 c2];exact ck (idle (fun z=>z.2 c2) S9)
   rw [zzr0 c2];refine dh ?_;have hy9:=S9 _ _ hy;refine ⟨_,rfl,.inl ⟨rfl,_,az.of hy9⟩,_,rfl,_,rfl,(by show 2<=aj; decide),fun e he=>⟨yl,_,.ref e,rfl,rfl,kp hy9 he,by rw [ai,gv]; omega,?_⟩⟩;have S10:ab H7 (upd H9 e (.tup [.ref g,.ref bq])):=S9.trans (ab.new he);have e10:upd H9 e (.tup [.ref g,.ref bq]) e=some (.tup [.ref g,.ref bq]):=aa;generalize upd H9 e (.tup [.ref g,.ref bq])=H10 at S10 e10 ⊢;have kt:fP H7 (upd H10 yl (.lst (ys.map V.ref++[.ref e]))):=(ab.kt S10).trans (cr (S10 _ _ hy));have kt':fP H10 (upd H10 yl (.lst (ys.map V.ref++[.ref e]))):=cr (S10 _ _ hy);refine ⟨ws,ys++[e],_,_,rfl,fun c o q=>by rw [af (ae q hyl0)]; exact S10 _ _ (S7 _ _ q),fun c o q n1 n2=>by rw [af n2]; exact S10 _ _ (e7 c o q n1 n2),by rw [af nwy]; exact S10 _ _ hw,sw.kt kt,by rw [aa,aq]; rfl,?_⟩;unfold jA at sy7 ⊢;rw [i8 hsg,if_pos (zzr1 ⟨c1,c2⟩),aq];exact cp (Paired.mapP sy7 fun _ _ r=>r.kt kt) ⟨g,bq,kt' _ _ e10,kt _ _ g7,⟨ba,bb,kt _ _ b7,kt _ _ ba7,kt _ _ bb7⟩⟩
  have kt6:fP H2 H6:=k23.trans (ab.kt S36);have e6:∀c o,H2 c=some o->c≠wl->c≠yl->H6 c=some o:=fun c o q n1 n2=>S36 _ _ (e3 c o q n1 n2);have calm:¬mT (behF J2 ds) (behF rooms' ds') k sg->∀{H7:Hp},ab H6 H7->_:=fun n H7 S7=>second ((S3.trans S36).trans S7) (fun c o q n1 n2=>S7 _ _ (e6 c o q n1 n2)) (ab.kt S7) (ws:=ws) (S7 _ _ (S36 _ _ hw)) (by unfold wrongL at sw ⊢; rw [i8 hsg,if_neg (by simpa using n),fD]; exact sw.kt (ab.kt (S36.trans S7))) (S7 _ _ (S36 _ _ hy));refine ⟨_,rfl,bq,_,0,_,rfl,rfl,bj.of b6,rfl,GL ba6 (fun q hq=>⟨_,rfl,?_⟩) _⟩;have S7:ab H6 (upd H6 q (.tup [])):=ab.new hq;generalize upd H6 q (.tup [])=H7 at S7 ⊢;by_cases c1:behF J2 ds k.1 sg=[];rotate_left
  ·rw [zzr0 c1];exact ck (ck (calm (fun z=>c1 z.2.1) S7))
  rw [zzr1 c1];refine dh ?_;refine ⟨_,rfl,bq,_,1,_,rfl,rfl,bj.of (S7 _ _ b6),rfl,xk (S7 _ _ bb6) (fun q hq=>⟨_,rfl,?_⟩) _⟩;have S8:ab H6 (upd H7 q (.tup [])):=S7.trans (ab.new hq);generalize upd H7 q (.tup [])=H8 at S8 ⊢;by_cases c2:behF rooms' ds' k.2 sg=[]
  ·rw [zzr1 c2];exact ck (ck (calm (fun z=>z.2.2 c2) S8))
  rw [zzr0 c2];refine dh ?_;have g8:SignAt H8 g sg:=S8 _ _ (S36 _ _ g3);refine ⟨_,rfl,g,_,0,_,rfl,rfl,bj.of g8,at0,rfl,_,rfl,?_⟩;refine Dl (P:=¬tN sg) (by rw [hs0]; simp [tN]) (fun c0=>?_) (fun c0=>calm (fun z=>c0 z.1) S8);have hw8:=S8 _ _ (S36 _ _ hw);refine ⟨_,rfl,.inl ⟨rfl,_,az.of hw8⟩,_,rfl,wl,_,.ref g,rfl,rfl,hw8,by rw [ai,gv]; omega,?_⟩;have kt9:fP H8 (upd H8 wl (.lst (ws.map V.ref++[.ref g]))):=cr hw8;refine second (ws:=ws++[g]) (fun c o q=>by rw [af (ae q hwl)]; exact S8 _ _ (S36 _ _ (S3 _ _ q))) (fun c o q n1 n2=>by rw [af n1]; exact S8 _ _ (e6 c o q n1 n2)) ((ab.kt S8).trans kt9) (by rw [aa,aq]; rfl) ?_ (by rw [af nwy.symm]; exact S8 _ _ (S36 _ _ hy));unfold wrongL at sw ⊢;rw [i8 hsg,if_pos (zzr1 ⟨c0,c1,c2⟩)];exact cp (sw.kt (((ab.kt S36).trans (ab.kt S8)).trans kt9)) (kt9 _ _ g8)
 ·rintro σ H3 ⟨ws,ys,x5,x6,rfl,S3,e3,hw,sw,hy,sy⟩;rw [ai,Paired.length hus,bh] at sw sy;refine ⟨_,rfl,_,rfl,(by show 2<=aj; decide),fun u hu=>?_⟩;have S4:ab H3 (upd H3 u (.tup [.ref wl,.ref yl])):=ab.new hu;refine kk (.ref u) _ ⟨u,wl,yl,ws,ys,rfl,aa,S4 _ _ hw,sw.kt (ab.kt S4),S4 _ _ hy,Paired.mapP sy fun _ _ r=>r.kt (ab.kt S4)⟩ (fun u' e w' y' hu'=>?_) (S3.trans S4);cases e;rw [aa] at hu';injection hu' with hu';injection hu' with hu';injection hu' with e1 e2;injection e2 with e2 _;injection e1 with e1;injection e2 with e2;rw [<-e1,<-e2];exact ⟨hwl,hyl0⟩
def iQ (A B:List Str->Sg->List Str) (ss:List Sg) (st:Addr) (H:Hp) (kv:List (TK×V)):Prop:=∀(k:nZ) (v:V),bQ kv (mE k)=some v->∃(u wl yl:Addr) (ws ys:Ze),v=.ref u/\H u=some (.tup [.ref wl,.ref yl])/\H wl=some (.lst (ws.map V.ref))/\io H ws (wrongL A B k ss)/\H yl=some (.lst (ys.map V.ref))/\Paired (qq H) ys (jA A B k ss)/\wl≠st/\yl≠st
theorem iQ.part {A B:List Str->Sg->List Str}{ss:List Sg}{st:Addr}{H H':Hp}{kv:List (TK×V)}(h:iQ A B ss st H kv) (e:∀c o,H c=some o->(∀l,o≠.dT l)->c≠st->H' c=some o) (hs:∃xs,H st=some (.lst xs)):iQ A B ss st H' kv:=fun k v hv=>by
 obtain ⟨xs,hs⟩:=hs;obtain ⟨u,wl,yl,ws,ys,e0,h1,h2,h3,h4,h5,n1,n2⟩:=h k v hv;have kt:fP H H':=fun b ys q=>e _ _ q (fun _ z=>nomatch z) fun z=>by rw [z,hs] at q; cases q
 exact ⟨u,wl,yl,ws,ys,e0,kt _ _ h1,e _ _ h2 (fun _ z=>nomatch z) n1,h3.kt kt,e _ _ h4 (fun _ z=>nomatch z) n2,Paired.mapP h5 fun _ _ r=>r.kt kt,n1,n2⟩
theorem GQ {ns:List Int}{lo hi:Option Int}{x:V}(h:x∈fz (ns.map V.int) lo hi++[.int 0]):∃n:Int,x=.int n:=by
 rcases bd.1 h with h | h
 ·unfold fz at h;obtain ⟨n,_,e⟩:=aB.1 (vX (fj h));exact ⟨n,e.symm⟩
 ·exact ⟨0,bF.1 h⟩
theorem az.exB {K:Za}{H H':Hp}{p c a:Addr}{ns:List Int}(h:az K H a (ns.map V.int)) (hp:gC H p c) (e:cX p H H'):az K H' a (ns.map V.int):=by
 obtain ⟨at_,r,ms,hp⟩:=hp;rcases h with (h | ⟨o,h⟩) | h
 ·refine .inl (.inl (e _ _ h fun z=>?_));rw [z,hp.pen] at h;injection h with h;injection h with h;cases ns with
  | nil=>cases h
  | cons n ns=>injection h with h _; cases h
 ·refine .inl (.inr ⟨o,e _ _ h fun z=>?_⟩);rw [z,hp.pen] at h; cases h
 ·exact .inr h
abbrev HI (K:Za) (sp_law_key:Sp):TS :=
 (ap (aK (fU K V7 V6) (fG K 2 (aN IB (aN IW (fy)))))
 (ap (eC (cb K HY) HZ (cx (D_ (aO (aD (jn K) V5 (cq (aT)))) (aO (aD (Gq K) (aM sp_law_key (aS V2 (aD kQ V8 (cq (aA HX))))) V5))) (bB (tC (.bl false))) (bG)))
 (ap (cx (aO (aD (jn K) DM (cq (aT)))) (bB (tC (.bl true))) (bG))
 (ap (aK (aD (cU K) DM (aD hC (aD eA (aD vf DN (tC (.int 7))) (aD i4 V9 V9)) (fu (d9 K) (aA DM)))) (fG K 2 (aN HZ (aN U6 (fy)))))
 (bH (oG K "list" bX V8 (aA HX)))))))
def zZ (x:Sg×nZ):DT:=.t [jW x.1,.t [jW x.2.1,jW x.2.2]]
theorem Hk {K:Za}{H:Hp}{e:Addr}{x:Sg×nZ}(h:qq H e x):jc K H (zZ x) (.ref e):=by
 obtain ⟨g,b,h1,h2,f,f',h3,h4,h5⟩:=h;unfold zZ jc;refine ⟨e,_,rfl,bj.of h1,?_⟩;unfold DIns;refine ⟨_,_,rfl,bD (bj.of h2),?_⟩;unfold DIns;refine ⟨_,_,rfl,?_,by unfold DIns; rfl⟩;unfold jc;refine ⟨b,_,rfl,bj.of h3,?_⟩;unfold DIns;refine ⟨_,_,rfl,bD (bj.of h4),?_⟩;unfold DIns;exact ⟨_,_,rfl,bD (bj.of h5),by unfold DIns; rfl⟩
theorem yh {K:Za}{H:Hp}:∀{ys:Ze}{L:List (Sg×nZ)},Paired (qq H) ys L->DIns K H (L.map zZ) (ys.map V.ref)
 | _,_,.nil=>by show DIns K H [] []; unfold DIns; rfl
 | _,_,.cons r t=>by
  rw [bc,bc];unfold DIns;exact ⟨_,_,rfl,Hk r,yh t⟩
theorem vF:∀L:List (Sg×nZ),DT.depths (L.map zZ)<=3
 | []=>cV _
 | x::L=>by
  rw [bc];show max (zZ x).depth (DT.depths _)<=3;have:=vF L;have:(zZ x).depth<=3:=by
   show max (jW x.1).depth (max (max (jW x.2.1).depth (max (jW x.2.2).depth 0)+1) 0)+1<=3;rw [b0,b0,b0]; decide
  omega
abbrev EY (K:Za) (sp_law_key sp_law_look sp_law_on:Sp):TS :=
 (ap (aK (be (ar (aM sp_law_on (aS V2 (vc (lC K) (aD (fO K) V2 (tC (.int 2))) (da) (eF (tC (.int 1)))))) (ar (aM sp_law_on (aS V3 (vc (lC K) (aD (fO K) V3 (tC (.int 2))) (da) (eF (tC (.int 1)))))) aT))) U6)
 (ap (aK (lp) U7)
 (ap (aK (cq (aT)) U8)
 (ap (eC (qU K (ar (aD kQ (vc (lC K) V0 (da) (eF (tC (.int 63)))) (cq (aA (tC (.int 0))))) aT)) (fG K 2 (aN U9 (aN H_ (fy)))) (ap (cx (tB (eV K V6 V7)) (kL V7 V6 (aM sp_law_look (eU V2 V3 V6))) (bG))
 (ap (aK (fU K V7 V6) (fG K 2 (aN IB (aN IW (fy)))))
 (ap (eC (cb K HY) HZ (cx (D_ (aO (aD (jn K) V5 (cq (aT)))) (aO (aD (Gq K) (aM sp_law_key (aS V2 (aD kQ V8 (cq (aA HX))))) V5))) (bB (tC (.bl false))) (bG)))
 (ap (cx (aO (aD (jn K) DM (cq (aT)))) (bB (tC (.bl true))) (bG))
 (ap (aK (aD (cU K) DM (aD hC (aD eA (aD vf DN (tC (.int 7))) (aD i4 V9 V9)) (fu (d9 K) (aA DM)))) (fG K 2 (aN HZ (aN U6 (fy)))))
 (bH (oG K "list" bX V8 (aA HX)))))))))
 (bB (aD (oW K false) (aD (fO K) V4 (tC (.int 0))) (be (aS (tC (.str "keeps")) (tC (.str "fault"))))))))))
inductive I25 (a p t t' u lt cl sd st:Addr) (cv:List V) (H5:Hp) (J0 J1 J2 rooms':Zb) (ds ds':List am) (i:Nat) (σ:L2.St) (H':Hp):Prop
 | mk (bq:Addr) (kp_:nZ) (gs:Ze) (s:List Sg) (kv:List (TK×V)) (x9 x10 x11 x12 x13:Option V):(σ=[some (.ref a),some (.ref p),some (.ref t),some (.ref t'),some (.ref u),some (.ref lt),some (.ref bq),some (.ref sd),some (.ref st),x9,x10,x11,x12,x13])->(ab H5 H')->(H' cl=some (.lst (cv++[.int 0])))->(uU H' bq kp_)->(oS (behF J2 ds) (behF rooms' ds') (closF J2 ds (J2.take 1),closF rooms' ds' (rooms'.take 1)) s=kp_)->(kp_.1≠[])->(kp_.2≠[])->(kp_.1.length<=1000)->(kp_.2.length<=1000)->((∀x∈s,x∈ao J0 J1))->(s.length<=i)->(H' st=some (.lst (gs.map V.ref)))->(io H' gs s)->(H' sd=some (.dT kv))->(kv.length<=i)->(iQ (behF J2 ds) (behF rooms' ds') (ao J0 J1) st H' kv)->I25 a p t t' u lt cl sd st cv H5 J0 J1 J2 rooms' ds ds' i σ H'
theorem AS {K:Za}{H:Hp}{Q:VK}{a p t t' u lt:Addr}{ns:List Int}{J0 J1 J2 rooms':Zb}{ds ds':List am}{o:Option (List Sg×Sg)}(hlf:leastF J0 J1 J2 rooms' ds ds'=o) (hs:az K H a (ns.map V.int)) (hn:ns.length<=63) (Tw:Ia H t t' J0 J1 J2 rooms' ds ds') (hu:xX K J0 J1 H u o) (hlt:H lt=some (.lst ((GK (ao J0 J1) o).map V.int))) (zr:J2.length<=4) (zr':rooms'.length<=4) (k:∀H',Q (.bl true) H') :
  EY K (nI K) (lV K) sW (bJ Q) [some (.ref a),some (.ref p),some (.ref t),some (.ref t'),some (.ref u),some (.ref lt),none,none,none,none,none,none,none,none] H:=by
 classical
 have m:=Tw.ma;have m':=Tw.mb;have c1:∀rs:List Str,fz (rs.map V.str) none (some 1)=(rs.take 1).map V.str:=fun rs=>ph rs 1;obtain ⟨l1,l2,l3,l4,ts,T⟩:=Tw.a;refine ⟨_,rfl,_,rfl,t,_,2,_,rfl,rfl,bj.of T.t,rfl,_,rfl,l3,_,rfl,az.of T.a3,fun fl hfl=>?_⟩;rw [c1];have S1:ab H (upd H fl (.lst ((J2.take 1).map V.str))):=ab.new hfl;refine ⟨t,fl,l1,l2,l3,l4,ts,J0,J1,J2,J2.take 1,ds,rfl,T.same S1,m,aa,by rw [aX]; omega,fun f0 H2 hf0 S2=>?_⟩;have S12:=S1.trans S2;obtain ⟨m1,m2,m3,m4,ts',T'⟩:=(Tw.same S12).b;refine ⟨_,rfl,_,rfl,t',_,2,_,rfl,rfl,bj.of T'.t,rfl,_,rfl,m3,_,rfl,az.of T'.a3,fun fl hfl=>?_⟩;rw [c1];have S3:ab H2 (upd H2 fl (.lst ((rooms'.take 1).map V.str))):=ab.new hfl;refine ⟨t',fl,m1,m2,m3,m4,ts',J0,J1,rooms',rooms'.take 1,ds',rfl,T'.same S3,m',aa,by rw [aX]; omega,fun g0 H4 hg0 S4=>⟨(by show 2<=aj; decide),fun bg hbg=>?_⟩⟩;have S24:=S3.trans S4;have S5:ab H4 (upd H4 bg (.tup [.ref f0,.ref g0])):=ab.new hbg;have fp:uU (upd H4 bg (.tup [.ref f0,.ref g0])) bg (closF J2 ds (J2.take 1),closF rooms' ds' (rooms'.take 1)):=⟨f0,g0,aa,S5 _ _ (S24 _ _ hf0),S5 _ _ hg0⟩;have S05:ab H (upd H4 bg (.tup [.ref f0,.ref g0])):=(S12.trans S24).trans S5;generalize upd H4 bg (.tup [.ref f0,.ref g0])=H5 at fp S05 ⊢;clear S12 S3 S4 S24 S5 T T' S1 S2;have Tw5:=Tw.same S05;have hs5:=S05.seq hs;have hlt5:=S05 _ _ hlt;have hu5:=xX.same S05 hu;refine fun sd hsd=>⟨(by show 0<=aj; decide),fun st hst=>?_⟩;have st0:H5 st=none:=(ab.new (o:=.dT []) hsd).free hst;have S6:ab H5 (upd (upd H5 sd (.dT [])) st (.lst [])):=(ab.new hsd).trans (ab.new hst);have nsd:sd≠st:=fun z=>by rw [<-z,aa] at hst; cases hst
 have sd6:upd (upd H5 sd (.dT [])) st (.lst []) sd=some (.dT []):=by rw [af nsd]; exact aa
 have st6:upd (upd H5 sd (.dT [])) st (.lst []) st=some (.lst (([]:Ze).map V.ref)):=aa;generalize upd (upd H5 sd (.dT [])) st (.lst [])=H6 at S6 sd6 st6 ⊢;refine ⟨_,rfl,_,rfl,a,_,rfl,S6.seq hs5,fun q hq=>⟨(by show 1<=aj; decide),fun q2 hq2=>⟨q,q2,_,_,rfl,rfl,kp aa hq2,aa,?_,fun cl hcl=>?_⟩⟩⟩
 ·have:=lL (ns.map V.int) none (some 63);rw [ai] at this;show _+1<=aj;rw [gv]; omega
 have zc:(fz (ns.map V.int) none (some 63)++[V.int 0]).length<=64:=by
  have:=lL (ns.map V.int) none (some 63);rw [ai] at this;rw [ay];show _+1<=64;omega
 have intz:∀x∈fz (ns.map V.int) none (some 63)++[V.int 0],∃n:Int,x=.int n:=fun x hx=>GQ hx;generalize fz (ns.map V.int) none (some 63)=cv at hq2 hcl zc intz ⊢;have S7:ab H6 (upd (upd (upd H6 q (.lst cv)) q2 (.lst [.int 0])) cl (.lst (cv++[.int 0]))):=((ab.new hq).trans (ab.new hq2)).trans (ab.new hcl);have cl7:upd (upd (upd H6 q (.lst cv)) q2 (.lst [.int 0])) cl (.lst (cv++[.int 0])) cl=some (.lst (cv++[.int 0])):=aa;have ncs:cl≠st:=(ae ((ab.new hq2) _ _ ((ab.new hq) _ _ st6)) hcl).symm;have cl0:H5 cl=none:=(((S6.trans (ab.new hq)).trans (ab.new hq2))).free hcl;generalize upd (upd (upd H6 q (.lst cv)) q2 (.lst [.int 0])) cl (.lst (cv++[.int 0]))=H7 at S7 cl7 ⊢;refine ⟨cl,rfl,⟨_,az.of cl7⟩,?_⟩;refine jR (xs:=cv++[.int 0]) (I25 a p t t' u lt cl sd st cv H5 J0 J1 J2 rooms' ds ds')
  ⟨bg,_,[],[],[],_,_,_,_,_,rfl,S6.trans S7,cl7,fp.kt (ab.kt (S6.trans S7)),rfl,jT m,jT m',bv (de _ _) (by omega),bv (de _ _) (by omega),(fun x hx=>nomatch hx),cV _,S7 _ _ st6,.nil,S7 _ _ sd6,cV _,fun k v hv=>nomatch hv⟩ (fun i σ H' _ h=>by obtain ⟨_,_,_,_,_,_,_,_,_,_,_,_,h,_⟩:=h; exact az.of h) ?_ ?_
 rotate_left
 ·rintro σ H8 ⟨bq,kq,gs,s,kv,x9,x10,x11,x12,x13,rfl,S8,_⟩;have two:∀w:Str,w="keeps"∨w="fault"->∀{H9:Hp}{e:Addr},H9 e=some (.tup [.str "keeps",.str "fault"])->oW K false (.str w) (.ref e) H9 Q:=fun w hw H9 e he=>by
   refine ⟨gu w,([("keeps":Str),"fault"]).map gu,e,_,kN _,rfl,.inr (bj.of (show H9 e=some (.tup (([("keeps":Str),"fault"]).map V.str)) from he)),ki _,(by show 0<=8; decide),(by rw [eP]; decide),?_⟩;rw [if_neg fN,rP,zzr1 (by rcases hw with rfl | rfl <;> simp)];exact k _
  have hu8:=xX.same S8 hu5;cases o with
  | none =>
   obtain ⟨l,ps,u1,_⟩:=hu8;exact ⟨_,rfl,u,_,0,_,rfl,rfl,bj.of u1,bt (j:=0) rfl,(by show 2<=aj; decide),fun e he=>two _ (.inl rfl) aa⟩
  | some x =>
   obtain ⟨l,b,gs,u1,_⟩:=hu8;exact ⟨_,rfl,u,_,0,_,rfl,rfl,bj.of u1,bt (j:=0) rfl,(by show 2<=aj; decide),fun e he=>two _ (.inr rfl) aa⟩
 rintro i y σ H8 pp hi ⟨bq,kq,gs,s,kv,x9,x10,x11,x12,x13,rfl,S8,cl8,fp8,run,k1,k2,z1,z2,sin,sl,st8,sg8,sd8,zkv,seen⟩ hpp;have il:i<64:=by have:=(bP.1 hi).1; omega
 obtain ⟨cell,rfl⟩:=intz y (aP hi);have S9:ab H8 (upd H8 pp (.tup [.int i,.int cell])):=ab.new hpp;have pp9:upd H8 pp (.tup [.int i,.int cell]) pp=some (.tup [.int i,.int cell]):=aa;generalize upd H8 pp (.tup [.int i,.int cell])=H9 at S9 pp9 ⊢;refine ⟨pp,_,rfl,bj.of pp9,rfl,_,_,rfl,_,_,rfl,rfl,?_⟩;have S59:=S8.trans S9;have fp9:=fp8.kt (ab.kt S9);have sd9:=S9 _ _ sd8;have st9:=S9 _ _ st8;have flt:∀g∈wrongL (behF J2 ds) (behF rooms' ds') kq (ao J0 J1),G4 J0 J1 J2 rooms' ds ds' s g:=fun g hg=>by
  unfold wrongL at hg;obtain ⟨h1,h2⟩:=cj.1 hg;have h2:=of_decide_eq_true h2;exact ⟨sin,h1,by rw [run]; exact k1,by rw [run]; exact h2⟩
 have cont:∀{H':Hp}{kv':List (TK×V)}{v:V}{x11 x12 x13:Option V},ab H5 H'->H' cl=some (.lst (cv++[.int 0]))->uU H' bq kq->H' st=some (.lst (gs.map V.ref))->io H' gs s->H' sd=some (.dT kv')->kv'.length<=i+1->iQ (behF J2 ds) (behF rooms' ds') (ao J0 J1) st H' kv'->bQ kv' (mE kq)=some v ->
   HI K (nI K) { nx:=I25 a p t t' u lt cl sd st cv H5 J0 J1 J2 rooms' ds ds' (i+1),rt:=Q } [some (.ref a),some (.ref p),some (.ref t),some (.ref t'),some (.ref u),some (.ref lt),some (.ref bq),some (.ref sd),some (.ref st),some (.int (i:Nat)),some (.int cell),x11,x12,x13] H':=by
  intro H' kv' v x11 x12 x13 S' cl' fp' st' sg' sd' zk' seen' hv;obtain ⟨v',wl,yl,ws,ys,rfl,v1,v2,v3,v4,v5,n1,n2⟩:=seen' kq v hv;refine ⟨_,rfl,_,rfl,sd,_,rfl,.inr ⟨_,mE kq,bq,.inl sd',rfl,cT.isIn 8 (iP _) fp'.tk,iP _,hv.symm⟩,v',_,rfl,bj.of v1,rfl,_,_,rfl,_,_,rfl,rfl,?_⟩;refine ⟨_,rfl,wl,rfl,⟨_,az.of v2⟩,?_⟩;refine cn (xs:=ws.map V.ref) (fun j σ H2=>∃x13:Option V,σ=[some (.ref a),some (.ref p),some (.ref t),some (.ref t'),some (.ref u),some (.ref lt),some (.ref bq),some (.ref sd),some (.ref st),some (.int (i:Nat)),some (.int cell),some (.ref wl),some (.ref yl),x13]/\ab H' H2) ⟨_,rfl,ab.refl _⟩ (fun j σ H2 _ ⟨_,_,S⟩=>az.of (S _ _ v2)) ?_ ?_
  ·rintro j y σ H2 hj ⟨x13,rfl,S2⟩;obtain ⟨g,hg,rfl⟩:=cP hj;obtain ⟨sg,hsg,hat⟩:=Paired.getL v3 hg;have f:=flt sg (aP hsg);have sgin:=f.2.1;have S52:=S'.trans S2;obtain ⟨x,ex,least⟩:∃x,o=some x/\¬fL (ao J0 J1) (s++[sg]) (x.1++[x.2]):=by
    cases o with
    | none=>exact absurd f (zh m m' zr zr' hlf s sg)
    | some x=>exact ⟨x,rfl,(qT m m' hlf).2 s sg f⟩
   subst ex;have lt2:=S52 _ _ hlt5;refine ⟨_,rfl,(by show 0<=aj; decide),fun q hq=>?_⟩;obtain ⟨d,e,q1,q2,q3,q4,q5⟩:=EM (K:=K) (kp (x:=.lst []) lt2 hq) aa;refine ⟨d,e,q1,q2,q3,q4,_,rfl,?_⟩;rw [q5,zzr0 (fun z=>by cases z)];refine ck ?_;have S3:ab H' (upd H2 q (.lst [])):=S2.trans (ab.new hq);generalize upd H2 q (.lst [])=H3 at S3 ⊢;refine ⟨_,rfl,_,rfl,_,rfl,(by show 1<=aj; decide),fun r hr=>⟨st,r,_,_,rfl,rfl,kp (S3 _ _ st') hr,aa,?_,fun w hw=>?_⟩⟩
   ·rw [ai,Paired.length sg',gv]; show s.length+1<=_; omega
   have S4:ab H' (upd (upd H3 r (.lst [.ref g])) w (.lst (gs.map V.ref++[.ref g]))):=(S3.trans (ab.new hr)).trans (ab.new hw);obtain ⟨l1,l2,l3,l4,ts,T⟩:=(Tw5.same (S'.trans S4)).a;refine ⟨t,w,l1,l2,l3,l4,ts,gs++[g],J0,J1,J2,ds,s++[sg],rfl,T,m,by rw [aa,aq]; rfl,?_,fun z hz=>?_,by rw [ay]; show s.length+1<=2000; omega,fun kl H5' hkl S5'=>?_⟩
   ·exact cp (Paired.mapP (sg'.kt (ab.kt S4)) fun _ _ r=>.inl r) (.inl (S4 _ _ hat))
   ·rcases bd.1 hz with hz | hz
    ·exact sin z hz
    ·rw [bF.1 hz]; exact sgin
   have lf:HT.lexLt (tL (ao J0 J1) (s++[sg])) (GK (ao J0 J1) (some x))=false:=by
    cases e:HT.lexLt (tL (ao J0 J1) (s++[sg])) (GK (ao J0 J1) (some x)) with
    | false=>rfl
    | true=>exact absurd e least
   refine ⟨_,rfl,kl,lt,_,_,rfl,rfl,az.of hkl,az.of ((S'.trans S4).trans S5' _ _ hlt5),_,rfl,?_⟩;rw [lf];exact ck ⟨_,rfl,S4.trans S5'⟩
  ·rintro σ H2 ⟨x13,rfl,S2⟩;have S52:=S'.trans S2;have yl2:=S2 _ _ v4;have v52:Paired (qq H2) ys _:=Paired.mapP v5 fun _ _ r=>r.kt (ab.kt S2);refine ⟨_,rfl,(by show 0<=aj; decide),fun q hq=>?_⟩;have S3:ab H2 (upd H2 q (.lst [])):=ab.new hq;refine ⟨.s ((jA (behF J2 ds) (behF rooms' ds') kq (ao J0 J1)).map zZ),.s [],(by unfold jc; exact ⟨yl,_,rfl,az.of (S3 _ _ yl2),yh (Paired.mapP v52 fun _ _ r=>r.kt (ab.kt S3))⟩),(by unfold jc; exact ⟨q,_,rfl,az.of aa,by unfold DIns; rfl⟩),(by show DT.depths _+1<=8; have:=vF (jA (behF J2 ds) (behF rooms' ds') kq (ao J0 J1)); omega),(by decide),_,rfl,?_⟩;generalize upd H2 q (.lst [])=H3 at S3 ⊢;refine Dl (P:=jA (behF J2 ds) (behF rooms' ds') kq (ao J0 J1)=[]) (by rw [decide_eq_true_eq]; exact ⟨fun z=>mY.mp (by injection z),fun z=>by rw [z]; rfl⟩) (fun _=>k _) (fun nw=>?_);have S23:=S2.trans S3;have yl3:=S3 _ _ yl2;have v53:Paired (qq H3) ys _:=Paired.mapP v52 fun _ _ r=>r.kt (ab.kt S3);have yp:0<ys.length:=by rw [Paired.length v5]; exact List.length_pos_iff.2 nw
   refine ⟨_,rfl,_,rfl,_,_,rfl,rfl,⟨by decide,by decide⟩,_,rfl,_,rfl,_,_,rfl,rfl,.inl ⟨by omega,by omega⟩,_,_,rfl,rfl,_,rfl,.inl ⟨yl,_,rfl,.inl (az.of yl3),_,_,rfl,rfl,?_,?_⟩⟩
   ·rw [ai]; omega
   rw [ai];have r0:=m9 (cell / 7+(i:Int) * (i:Int)) (show ((ys.length:Nat):Int)≠0 by omega);have r1:=m8 (cell / 7+(i:Int) * (i:Int)) (show (0:Int)<((ys.length:Nat):Int) by omega);obtain ⟨n,en⟩:=iE r0;have hn':n<ys.length:=by omega
   have hye:ys[n]?=some ys[n]:=bE hn';obtain ⟨⟨sg,k'⟩,hL,hat⟩:=Paired.getL v53 hye;generalize ys[n]=e at hye hat;obtain ⟨g,b,w1,w2,w3⟩:=hat;have hm:=aP hL;unfold jA at hm;obtain ⟨sgx,hf,ek⟩:=aB.1 hm;obtain ⟨hsin,hne⟩:=cj.1 hf;have hne:=of_decide_eq_true hne;injection ek with ek1 ek2;subst ek1;subst ek2;refine ⟨yl,ys.map V.ref,_,.ref e,rfl,rfl,az.of yl3,(by rw [en]; exact bt (by rw [bZ,hye]; rfl)),e,_,rfl,bj.of w1,rfl,_,_,rfl,_,_,rfl,rfl,?_⟩;have st3:=S23 _ _ st';have kt:fP H3 (upd H3 st (.lst (gs.map V.ref++[.ref g]))):=cr st3;have sd3:=S23 _ _ sd';refine ⟨_,rfl,.inl ⟨rfl,_,az.of st3⟩,_,rfl,st,_,.ref g,rfl,rfl,st3,by rw [ai,Paired.length sg',gv]; omega,?_⟩;refine ⟨b,_,gs++[g],s++[sgx],kv',_,_,_,_,_,rfl,fun c o q=>by rw [af (ae q st0)]; exact S23 _ _ (S' _ _ q),by rw [af ncs]; exact S23 _ _ cl',w3.kt kt,by rw [p7,run],hne.1,hne.2,Cu (by have:=m.rooms26; omega) z1,Cu (by have:=m'.rooms26; omega) z2,fun z hz=>?_,by rw [ay]; show s.length+1<=i+1; omega,by rw [aa,aq]; rfl,cp ((sg'.kt (ab.kt S23)).kt kt) (kt _ _ w2),by rw [af nsd]; exact sd3,zk',?_⟩
   ·rcases bd.1 hz with hz | hz
    ·exact sin z hz
    ·rw [bF.1 hz]; exact hsin
   ·exact iQ.part (iQ.part seen' (fun c o q _ _=>S23 _ _ q) ⟨_,st'⟩) (fun c o q _ n=>by rw [af n]; exact q) ⟨_,st3⟩
 refine ⟨_,rfl,_,rfl,sd,_,rfl,.inr ⟨_,mE kq,bq,.inl sd9,rfl,cT.isIn 8 (iP _) fp9.tk,iP _,rfl⟩,_,rfl,?_⟩;have seen9:iQ (behF J2 ds) (behF rooms' ds') (ao J0 J1) st H9 kv:=iQ.part seen (fun c o q _ _=>S9 _ _ q) ⟨_,st8⟩;cases hv:bQ kv (mE kq) with
 | some v=>exact ck (cont S59 (S9 _ _ cl8) fp9 st9 (sg8.kt (ab.kt S9)) sd9 (by omega) seen9 hv)
 | none =>
  refine dh ?_;refine ⟨_,rfl,_,rfl,_,rfl,t,t',bq,J0,J1,J2,rooms',ds,ds',kq,rfl,Tw5.same S59,fp9,z1,z2,fun v H10 lk fr S10=>?_⟩;have fp10:=fp9.kt (ab.kt S10);have sd10:=S10 _ _ sd9;have st10:=S10 _ _ st9;refine ⟨_,rfl,_,rfl,sd,_,rfl,.inr ⟨_,mE kq,bq,sd10,rfl,fp10.tk,iP _,by rw [gv]; omega,rfl⟩,?_⟩;have kt:fP H10 (upd H10 sd (.dT (cO kv (mE kq) v))):=Df sd10;have sk:∀c o,H10 c=some o->(∀l,o≠.dT l)->upd H10 sd (.dT (cO kv (mE kq) v)) c=some o:=fun c o q n=>by rw [af (fun z=>by rw [z,sd10] at q; injection q with q; exact n _ q.symm)]; exact q
  refine cont (v:=v) (fun c o q=>by rw [af (ae q hsd)]; exact S10 _ _ (S59 _ _ q)) (sk _ _ (S10 _ _ (S9 _ _ cl8)) (fun _ z=>nomatch z)) (fp10.kt kt) (sk _ _ st10 (fun _ z=>nomatch z)) (((sg8.kt (ab.kt S9)).kt (ab.kt S10)).kt kt) aa (bv (tp _ _ _) (by omega)) (fun k' v' hv'=>?_) (by rw [oz,if_pos rfl]);rw [oz] at hv';by_cases c:mE k'=mE kq
  ·rw [if_pos c] at hv';injection hv' with hv';have c:=EE c;subst c;subst hv';obtain ⟨v0,wl,yl,ws,ys,rfl,v1,v2,v3,v4,v5⟩:=lk;obtain ⟨f1,f2⟩:=fr v0 rfl wl yl v1;exact ⟨v0,wl,yl,ws,ys,rfl,kt _ _ v1,sk _ _ v2 (fun _ z=>nomatch z),v3.kt kt,sk _ _ v4 (fun _ z=>nomatch z),Paired.mapP v5 fun _ _ r=>r.kt kt,(fun z=>by rw [z,st9] at f1; cases f1),(fun z=>by rw [z,st9] at f2; cases f2)⟩
  ·rw [if_neg c] at hv';exact iQ.part (iQ.part seen9 (fun c o q _ _=>S10 _ _ q) ⟨_,st9⟩) (fun c o q n _=>sk c o q n) ⟨_,st10⟩ k' v' hv'
inductive sp_law25 (K:Za) (vs:List V) (H:Hp) (Q:VK) (E:XK):Prop
 | mk (a:Addr) (ns:List Int):(vs=[.ref a])->(az K H a (ns.map V.int))->(ns.length<=63)->(∀H',Q (.bl true) H')->sp_law25 K vs H Q E
theorem Ep {K:Za}{C:Addr}{vs:List V}{H:Hp}{Q:VK}{E:XK}(h:sp_law25 K vs H Q E):FT K (nI K) (lV K) sW (g6 K C) (ka C) rH oJ (rG K) (bJ Q) (start CB vs) H:=by
 obtain ⟨a,ns,rfl,hs,hn,k⟩:=h;refine ⟨_,rfl,a,ns,rfl,hs,hn,fun p c H1 _ hp1 S1=>?_⟩;have hs1:=S1.seq hs;refine ⟨_,rfl,p,c,4,0,rfl,hp1,by decide,by decide,by decide,by decide,fun t l1 l2 l3 l4 ts J0 J1 J2 ds H2 T m zr zd hp2 ex2=>?_⟩;have zr:J2.length<=4:=zr;refine ⟨_,rfl,_,rfl,p,c,t,l1,l2,l3,l4,ts,J0,J1,J2,ds,3,rfl,hp2,T,m,by omega,by omega,by omega,fun t' m3 m4 ts' rooms' ds' H3 T' m' tk len _ hp3 ex3=>?_⟩;have T3:=T.ex hp2 ex3;have hs3:az K H3 a (ns.map V.int):=az.exB (az.exB hs1 hp1 ex2) hp2 ex3;refine ⟨_,rfl,t,l1,l2,l3,l4,ts,J0,J1,J2,ds,rfl,T3,m,fun x H4 M4 S4=>?_⟩;refine ⟨_,rfl,t',l1,l2,m3,m4,ts',J0,J1,rooms',ds',rfl,T'.same S4,m',fun y H5 N5 S5=>?_⟩;refine GF (M4.same S5) N5 tk zr (by omega) fun u H6 hu S6=>?_;have S36:=(S4.trans S5).trans S6;have Tw6:Ia H6 t t' J0 J1 J2 rooms' ds ds':=⟨⟨l1,l2,l3,l4,ts,T3.same S36⟩,⟨l1,l2,m3,m4,ts',T'.same S36⟩,m,m'⟩;have hs6:=S36.seq hs3;clear S4 S5 S6 S36 M4 N5 T3 T' T;generalize hlf:leastF J0 J1 J2 rooms' ds ds'=o at hu;refine ⟨(by show 0<=aj; decide),fun lt0 hlt0=>?_⟩;have S7:ab H6 (upd H6 lt0 (.lst [])):=ab.new hlt0;have lt7:upd H6 lt0 (.lst []) lt0=some (.lst []):=aa;generalize upd H6 lt0 (.lst [])=H7 at S7 lt7 ⊢;have hu7:=xX.same S7 hu;have Tw7:=Tw6.same S7;have hs7:=S7.seq hs6;have rest:∀(lt:Addr) (H8:Hp),ab H7 H8->H8 lt=some (.lst ((GK (ao J0 J1) o).map V.int))->EY K (nI K) (lV K) sW (bJ Q) [some (.ref a),some (.ref p),some (.ref t),some (.ref t'),some (.ref u),some (.ref lt),none,none,none,none,none,none,none,none] H8:=fun lt H8 S8 hlt=>AS hlf (S8.seq hs7) hn (Tw7.same S8) (xX.same S8 hu7) hlt zr (by omega) k;cases o with
 | none =>
  obtain ⟨l,ps,u1,u2⟩:=hu7;refine ⟨_,rfl,u,_,0,_,rfl,rfl,bj.of u1,bt (j:=0) rfl,rfl,_,rfl,?_⟩;have nk:("keeps":Str)≠"fault":=by decide
  refine iN (fun z=>absurd z (by simp [nk])) fun _=>?_;exact rest lt0 H7 (.refl _) lt7
 | some x =>
  obtain ⟨l,b,gs,u1,u2,u3,u4,u5,u6⟩:=hu7;refine ⟨_,rfl,u,_,0,_,rfl,rfl,bj.of u1,bt (j:=0) rfl,rfl,_,rfl,?_⟩;refine iN (fun _=>?_) fun z=>absurd (zzr1 rfl) z;refine ⟨_,rfl,_,rfl,u,_,1,_,rfl,rfl,bj.of u1,bt (j:=1) rfl,_,rfl,u,_,2,_,rfl,rfl,bj.of u1,bt (j:=2) rfl,(by show 1<=aj; decide),fun q hq=>⟨l,q,_,_,rfl,rfl,kp u2 hq,aa,?_,fun r hr=>?_⟩⟩
  ·rw [ai,Paired.length u3,gv]; show x.1.length+1<=_; omega
  have S8:ab H7 (upd (upd H7 q (.lst [.ref b])) r (.lst (gs.map V.ref++[.ref b]))):=(ab.new hq).trans (ab.new hr);obtain ⟨l1,l2,l3,l4,ts,T⟩:=(Tw7.same S8).a;refine ⟨t,r,l1,l2,l3,l4,ts,gs++[b],J0,J1,J2,ds,x.1++[x.2],rfl,T,m,by rw [aa,aq]; rfl,cp (Be.same S8 u3) (bV.kt (ab.kt S8) u4),u5,by rw [ay]; show x.1.length+1<=2000; omega,fun lt H9 hlt S9=>?_⟩;exact rest lt H9 (S8.trans S9) hlt
def fQ (i:Nat):Stmt:=PySem.Challenge.pw_mumtrial_k25_along_stories.main.body.getD i (.Pass ⟨0,0,0,0⟩)
local macro_rules | `(tactic| walk_at "s")=>`(tactic| exact ⟨rfl,rfl,rfl,by decide +kernel,rfl,by decide +kernel,by decide +kernel⟩)
local macro_rules | `(tactic| walk_at "l")=>`(tactic| (intro _ _ _ _ h; first | exact len_h h | exact len_g h | (cases h; subst_vars; rfl) | (obtain ⟨_,_,h,_⟩:=h; subst h; rfl) | ((repeat obtain ⟨_,h⟩:=h); subst_vars; rfl)))
theorem zzlS {us:List Value} {n:Nat} (h:us.length=n+1):∃ a t,us=a::t∧t.length=n:=by
  cases us with
  | nil=>cases h
  | cons a t=>exact ⟨a,t,rfl,Nat.succ.inj h⟩
local macro_rules | `(tactic| walk_at "b")=>`(tactic| (intro _ _ _ _ _ _ us hl; (repeat (have h:=zzlS hl; clear hl; obtain ⟨_,_,e,hl⟩:=h; subst e)); cases List.eq_nil_of_length_eq_zero hl; rfl))
def IJ (K:Za) (x qual:Str) (st:Stmt) (f:Addr):Prop:=∃(oc:Value) (od an:Option Addr) (sl:Array (Option Value)) (kV dc pm cd ct:Value),
 K.lookup f=some ⟨oc,od,.func (iI x qual (ik st) (gh st) (b9 st) .none kV dc pm an cd ct),sl⟩/\nz K cd qual=true/\iC K (.ref f)=true
theorem Fk {K:Za}{x qual:Str}{st:Stmt}{f:Addr}{oc:Value}{od an:Option Addr}{sl:Array (Option Value)}{kV dc pm cd ct:Value}(l:K.lookup f=some ⟨oc,od,.func (iI x qual (ik st) (gh st) (b9 st) .none kV dc pm an cd ct),sl⟩)
  (c:nz K cd qual=true) (k:iC K (.ref f)=true):IJ K x qual st f:=⟨oc,od,an,sl,kV,dc,pm,cd,ct,l,c,k⟩
def iq (K:Za) (x:Str) (st:Stmt):Prop:=∃f,cY K cu x=some (some (.ref f))/\IJ K x x st f
theorem fnG_mk {K:Za}{x:Str}{st:Stmt}{f:Addr}{oc:Value}{od an:Option Addr}{sl:Array (Option Value)}{kV dc pm cd ct:Value}(a:cY K cu x=some (some (.ref f))) (l:K.lookup f=some ⟨oc,od,.func (iI x x (ik st) (gh st) (b9 st) .none kV dc pm an cd ct),sl⟩)
  (c:nz K cd x=true) (k:iC K (.ref f)=true):iq K x st:=⟨f,a,Fk l c k⟩
def CD (K:Za) (C:Addr) (m qual:Str) (st:Stmt):Prop:=∃f,dF K (.ref C) m=some (some (.ref f))/\yb K (.ref f)=true/\IJ K m qual st f
theorem fnM_mk {K:Za}{C:Addr}{m qual:Str}{st:Stmt}{f:Addr}{oc:Value}{od an:Option Addr}{sl:Array (Option Value)}{kV dc pm cd ct:Value}(a:dF K (.ref C) m=some (some (.ref f))) (i:yb K (.ref f)=true)
  (l:K.lookup f=some ⟨oc,od,.func (iI m qual (ik st) (gh st) (b9 st) .none kV dc pm an cd ct),sl⟩) (c:nz K cd qual=true) (k:iC K (.ref f)=true):CD K C m qual st:=⟨f,a,i,Fk l c k⟩
theorem IJ.fun_ {K:Za}{x qual:Str}{st:Stmt}{f:Addr}(T:IJ K x qual st f):∃fd,Ie K x qual st f fd:=by
 obtain ⟨oc,od,an,sl,kV,dc,pm,cd,ct,l,c,k⟩:=T;exact ⟨_,Fi (st:=st) l c k⟩
def HQ (K:Za) (a:Addr) (ws:Zb):Prop:=∀H,bj K H a (ws.map V.str)
theorem BG {K:Za}{a:Addr}{ws:Zb}{o:Obj}{its:Array Value}{n:Nat}(l:K.lookup a=some o) (c:o.cls=.type "tuple") (d:o.data=.seq its n) (z:its.size<=aj) (v:a_ (ws.map V.str) its.toList):HQ K a ws :=
 fun _=>.inr ⟨o,its,n,l,c,d,z,v⟩
section
variable {P:bW}{w:World}{K:Za}{mg:Str->Option Value}{base h:Heap}{C:Addr}{x qual:Str}{st:Stmt}{N ps:Zb}{k:Nat}{sp:Sp}
abbrev FE (ps:Zb) (sp:Sp):Prop:=∀vs H Q E,sp vs H Q E->vs.length=ps.length
abbrev BodyOk (CX:DP) (P:bW) (w:World) (K:Za) (mg:Str->Option Value) (base:Heap) (qual:Str) (st:Stmt) (N:Zb) (k:Nat) (sp:Sp) (nox:Cx->Cx):Prop:=N.Nodup->∀(f:Addr) (cdv:Value) (A:Around) (outer:List Env) (s:Shared) (H:Hp) (vs:List V) (Q:VK) (E:XK),ff k (A.deeper (envOfC qual (b9 st) s.heap.objs.size f cdv))->(A.deeper (envOfC qual (b9 st) s.heap.objs.size f cdv)).units+16<cLine->sp vs H Q E ->
 ∃t,zX (nox (A9 CX P w K mg base N qual (b9 st) f cdv A outer s H E)) (gh st) t/\t (bJ Q) (start N vs) H
abbrev Br (x qual:Str) (st:Stmt) (ps:Zb):Prop:=∀(kV doc pm:Value) (an:Option Addr) (cdv ct:Value) (us:Zf),us.length=ps.length->bindArgs (iI x qual (ik st) (gh st) (b9 st) .none kV doc pm an cdv ct) ⟨us,[]⟩=pure (ps.zip us)
theorem dG (X:K.In h) (G:h.Ns cu mg) (T:iq K x st) (b:BodyOk CX0 P w K mg base x st N k sp Cx.nox) (bi:Br x x st ps) (S:ky N ps (b9 st):=by walk_at "s") (l:FE ps sp:=by walk_at "l"):ir P w K mg base x ps (k+1) sp:=by
 obtain ⟨f,a,t⟩:=T;obtain ⟨fd,F⟩:=t.fun_;exact ⟨f,fd,F.ok S l fun cdv A outer s H vs Q E hr h=>b S.nd f cdv A outer s H vs Q E hr (Ch hr) h,hU X G a,F.kp,F.binds bi⟩
theorem dM (cl:DG K C) (T:CD K C x qual st) (b:BodyOk CX0 P w K mg base qual st N k sp Cx.nox) (bi:Br x qual st ps) (S:ky N ps (b9 st):=by walk_at "s") (l:FE ps sp:=by walk_at "l"):CC P w K mg base C x ps (k+1) sp:=by
 obtain ⟨f,a,i,t⟩:=T;obtain ⟨fd,F⟩:=t.fun_;exact ⟨f,fd,F.ok S l fun cdv A outer s H vs Q E hr h=>b S.nd f cdv A outer s H vs Q E hr (Ch hr) h,cl,⟨a,i,F.kp⟩,F.binds bi⟩
theorem dN {y:Str}(cm:mg y=some (.ref C)) (mk:rS K C=true) (kc:iC K (.ref C)=true) (T:CD K C "__init__" qual st) (b:BodyOk CX0 P w K mg base qual st N k sp Cx.nox) (bi:Br "__init__" qual st ps) (S:ky N ps (b9 st):=by walk_at "s") (l:FE ps sp:=by walk_at "l"):I_ P w K mg base y C ps (k+1) sp:=by
 obtain ⟨f,a,i,t⟩:=T;obtain ⟨fd,F⟩:=t.fun_;exact ⟨f,fd,F.ok S l fun cdv A outer s H vs Q E hr h=>b S.nd f cdv A outer s H vs Q E hr (Ch hr) h,cm,⟨mk,a,i,kc⟩,F.binds bi⟩
end
structure Zs (mg:Str->Option Value):Prop where
 all:mg "all"=none
 any:mg "any"=none
 dict:mg "dict"=none
 enumerate:mg "enumerate"=none
 len:mg "len"=none
 list:mg "list"=none
 max:mg "max"=none
 range:mg "range"=none
 tuple:mg "tuple"=none
 zip:mg "zip"=none
structure Cs (K:Za) (mg:Str->Option Value) (C Cf a_STILL a_HUSH:Addr):Prop where
 LETTERS:Gc mg "LETTERS" (.str "abcdefghijklmnopqrstuvwxyz")
 LONGEST_NAME:Gc mg "LONGEST_NAME" (.int 8)
 MOST_WORDS:Gc mg "MOST_WORDS" (.int 4)
 MOST_ROOMS:Gc mg "MOST_ROOMS" (.int 150)
 MOST_DOORS:Gc mg "MOST_DOORS" (.int 2000)
 MOST_FACES:Gc mg "MOST_FACES" (.int 400)
 STILL:Gc mg "STILL" (.ref a_STILL)
 HUSH:Gc mg "HUSH" (.ref a_HUSH)
 still:HQ K a_STILL ax
 hush:HQ K a_HUSH bT
 mc:MC K C
 cm:mg "Machine"=some (.ref C)
 makes:rS K C=true
 kc:iC K (.ref C)=true
 fc:FC K Cf
 cmf:mg "FaceMap"=some (.ref Cf)
 makesf:rS K Cf=true
 kcf:iC K (.ref Cf)=true
structure Ts (K:Za) (C Cf:Addr):Prop where
 f_law_spread:iq K "_law_spread" (fQ 47)
 f_law_open:iq K "_law_open" (fQ 48)
 f_law_anew:iq K "_law_anew" (fQ 49)
 f_law_take:iq K "_law_take" (fQ 50)
 f_law_names:iq K "_law_names" (fQ 51)
 f_law_put:iq K "_law_put" (fQ 52)
 f_law_draw_doors:iq K "_law_draw_doors" (fQ 53)
 f_law_model:iq K "_law_model" (fQ 54)
 f_is_name:iq K "is_name" (fQ 23)
 f_as_keys:iq K "as_keys" (fQ 24)
 f_first_wrong_name:iq K "first_wrong_name" (fQ 25)
 f_door_signs:iq K "door_signs" (fQ 26)
 f_first_wrong_door:iq K "first_wrong_door" (fQ 27)
 f_goals_by_start_and_sign:iq K "goals_by_start_and_sign" (fQ 28)
 f_led_by_still:iq K "led_by_still" (fQ 29)
 f_first_led_round:iq K "first_led_round" (fQ 30)
 f_need_none:iq K "need_none" (fQ 31)
 f_need_parts:iq K "need_parts" (fQ 32)
 f_doors_by_start:iq K "doors_by_start" (fQ 33)
 f_has_asks_alone:iq K "has_asks_alone" (fQ 34)
 f_Machine___init__:CD K C "__init__" "Machine.__init__" (gf (fQ 35) 0)
 f_law_machine:iq K "_law_machine" (fQ 60)
 f_Machine_rooms:CD K C "rooms" "Machine.rooms" (gf (fQ 35) 3)
 f_Machine_led_from:CD K C "led_from" "Machine.led_from" (gf (fQ 35) 8)
 f_with_still:iq K "with_still" (fQ 9)
 f_Machine_goals:CD K C "goals" "Machine.goals" (gf (fQ 35) 7)
 f_Machine_is_quiet:CD K C "is_quiet" "Machine.is_quiet" (gf (fQ 35) 5)
 f_law_still_on:iq K "_law_still_on" (fQ 55)
 f_law_on:iq K "_law_on" (fQ 61)
 f_law_is_quiet:iq K "_law_is_quiet" (fQ 62)
 f_law_behind:iq K "_law_behind" (fQ 63)
 f_law_signs:iq K "_law_signs" (fQ 64)
 f_Machine_asks:CD K C "asks" "Machine.asks" (gf (fQ 35) 1)
 f_Machine_says:CD K C "says" "Machine.says" (gf (fQ 35) 2)
 f_first_face:iq K "first_face" (fQ 10)
 f_face_behind:iq K "face_behind" (fQ 11)
 f_signs_in_order:iq K "signs_in_order" (fQ 8)
 f_steps_at:iq K "steps_at" (fQ 12)
 f_FaceMap_number_at:CD K Cf "number_at" "FaceMap.number_at" (gf (fQ 15) 1)
 f_FaceMap_numbered_steps:CD K Cf "numbered_steps" "FaceMap.numbered_steps" (gf (fQ 15) 2)
 f_FaceMap___init__:CD K Cf "__init__" "FaceMap.__init__" (gf (fQ 15) 0)
 f_takes:iq K "takes" (fQ 38)
 f_need_match:iq K "need_match" (fQ 37)
 f_need_all_asks_taken:iq K "need_all_asks_taken" (fQ 39)
 f_need_taker:iq K "need_taker" (fQ 40)
 f_Machine_doors_from:CD K C "doors_from" "Machine.doors_from" (gf (fQ 35) 6)
 f_story_to:iq K "story_to" (fQ 41)
 f_least_fault:iq K "least_fault" (fQ 42)
 f_rows_needed:iq K "rows_needed" (fQ 43)
 f_paper_of:iq K "paper_of" (fQ 44)
 f_keeps:iq K "keeps" (fQ 45)
 f_law_willing:iq K "_law_willing" (fQ 56)
 f_law_turned:iq K "_law_turned" (fQ 57)
 f_law_renamed:iq K "_law_renamed" (fQ 58)
 f_law_near:iq K "_law_near" (fQ 59)
 f_law_key:iq K "_law_key" (fQ 65)
 f_law_look:iq K "_law_look" (fQ 66)
 f_law25:iq K "law" (fQ 67)
section
variable {P:bW}{w:World}{K:Za}{mg:Str->Option Value}{base h:Heap}{C Cf a_STILL a_HUSH:Addr}
section
variable (P:bW) (w:World) (K:Za) (mg:Str->Option Value) (C Cf a_STILL a_HUSH:Addr)
abbrev kE:Prop:=∀base,ir P w K mg base "_law_spread" ["cell","at"] 1 lT
abbrev t_:Prop:=∀base,ir P w K mg base "_law_open" ["script"] 1 (rG K)
abbrev kG:Prop:=∀base,ir P w K mg base "_law_anew" ["pen"] 1 rM
abbrev dP:Prop:=∀base,ir P w K mg base "_law_take" ["pen","many"] 2 fB
abbrev jf:Prop:=∀base,ir P w K mg base "_law_names" ["pen","many"] 3 lA
abbrev jU:Prop:=∀base,ir P w K mg base "_law_put" ["doors","door"] 1 j9
abbrev gP:Prop:=∀base,ir P w K mg base "_law_draw_doors" ["pen","asks","says","rooms","full"] 3 gU
abbrev qZ:Prop:=∀base,ir P w K mg base "_law_model" ["pen","most","full"] 4 oJ
abbrev qC:Prop:=∀base,ir P w K mg base "is_name" ["text"] 1 sp_is_name
abbrev jV:Prop:=∀base,ir P w K mg base "as_keys" ["things"] 1 (sp_as_keys K)
abbrev fH:Prop:=∀base,ir P w K mg base "first_wrong_name" ["names","most","taken"] 2 (sp_first_wrong_name K)
abbrev kI:Prop:=∀base,ir P w K mg base "door_signs" ["asks","says"] 1 (sp_door_signs K)
abbrev fI:Prop:=∀base,ir P w K mg base "first_wrong_door" ["doors","rooms","signs"] 2 (sp_first_wrong_door K)
abbrev c7:Prop:=∀base,ir P w K mg base "goals_by_start_and_sign" ["doors"] 1 oK
abbrev iS:Prop:=∀base,ir P w K mg base "led_by_still" ["goals","room"] 1 w6
abbrev gl:Prop:=∀base,ir P w K mg base "first_led_round" ["rooms","led"] 1 sp_first_led_round
abbrev jd:Prop:=∀base,ir P w K mg base "need_none" ["part","number"] 1 sp_need_none
abbrev kB:Prop:=∀base,ir P w K mg base "need_parts" ["asks","says","rooms","doors"] 3 sp_need_parts
abbrev gR:Prop:=∀base,ir P w K mg base "doors_by_start" ["rooms","doors"] 1 sp_doors_by_start
abbrev gQ:Prop:=∀base,ir P w K mg base "has_asks_alone" ["doors"] 1 sp_has_asks_alone
abbrev qD:Prop:=∀base,I_ P w K mg base "Machine" C ["self","asks","says","rooms","doors"] 4 (rJ C)
abbrev mU:Prop:=∀base,ir P w K mg base "_law_machine" ["told"] 6 (ka C)
abbrev c8:Prop:=∀base,CC P w K mg base C "rooms" ["self"] 1 (iL C)
abbrev dQ:Prop:=∀base,CC P w K mg base C "led_from" ["self","room"] 1 (gZ C)
abbrev iu:Prop:=∀base,ir P w K mg base "with_still" ["M","rooms"] 2 (sp_with_still C)
abbrev fC:Prop:=∀base,CC P w K mg base C "goals" ["self","room","sign"] 1 (ix C)
abbrev dR:Prop:=∀base,CC P w K mg base C "is_quiet" ["self","room"] 1 (g_ C)
abbrev eR:Prop:=∀base,ir P w K mg base "_law_still_on" ["doors","rooms"] 1 (eG K)
abbrev ub:Prop:=∀base,ir P w K mg base "_law_on" ["told","some"] 2 sW
abbrev iT:Prop:=∀base,ir P w K mg base "_law_is_quiet" ["told","room"] 1 lU
abbrev kF:Prop:=∀base,ir P w K mg base "_law_behind" ["told","face","sign"] 3 (rL K)
abbrev je:Prop:=∀base,ir P w K mg base "_law_signs" ["told"] 1 lq
abbrev eT:Prop:=∀base,CC P w K mg base C "asks" ["self"] 1 (lX C)
abbrev gp:Prop:=∀base,CC P w K mg base C "says" ["self"] 1 (oH C)
abbrev kH:Prop:=∀base,ir P w K mg base "first_face" ["M"] 3 (dY C)
abbrev jv:Prop:=∀base,ir P w K mg base "face_behind" ["M","face","sign"] 3 (rK K C)
abbrev gM:Prop:=∀base,ir P w K mg base "signs_in_order" ["M"] 2 (wZ C a_HUSH)
abbrev n8:Prop:=∀base,ir P w K mg base "steps_at" ["M","face"] 4 (j8 C)
abbrev dw:Prop:=∀base,CC P w K mg base Cf "number_at" ["self","face","story"] 1 (lr K Cf)
abbrev dj:Prop:=∀base,CC P w K mg base Cf "numbered_steps" ["self","number"] 5 (iZ K Cf C)
abbrev qE:Prop:=∀base,I_ P w K mg base "FaceMap" Cf ["self","M"] 6 (lW K Cf C)
abbrev xZ:Prop:=∀base,ir P w K mg base "takes" ["I","room","ask"] 2 (jG C)
abbrev kC:Prop:=∀base,ir P w K mg base "need_match" ["M","I"] 2 (fW C)
abbrev d_:Prop:=∀base,ir P w K mg base "need_all_asks_taken" ["I"] 4 (ie C)
abbrev kA:Prop:=∀base,ir P w K mg base "need_taker" ["M","I"] 5 (fV C)
abbrev eS:Prop:=∀base,CC P w K mg base C "doors_from" ["self","room"] 1 (gV C)
abbrev n6:Prop:=∀base,ir P w K mg base "story_to" ["came","place"] 1 (fF K)
abbrev jr:Prop:=∀base,ir P w K mg base "least_fault" ["model_steps","machine_steps"] 2 (gS K)
abbrev jq:Prop:=∀base,ir P w K mg base "rows_needed" ["I","room","face","steps"] 2 (oI K C)
abbrev n_:Prop:=∀base,ir P w K mg base "paper_of" ["model","I"] 3 (j_ K Cf C)
abbrev CF:Prop:=∀base,ir P w K mg base "keeps" ["M","I"] 8 (g6 K C)
abbrev js:Prop:=∀base,ir P w K mg base "_law_willing" ["pen","told"] 3 j7
abbrev kD:Prop:=∀base,ir P w K mg base "_law_turned" ["pen","told"] 3 lS
abbrev ju:Prop:=∀base,ir P w K mg base "_law_renamed" ["pen","told"] 4 iY
abbrev uc:Prop:=∀base,ir P w K mg base "_law_near" ["pen","told","most"] 5 rH
abbrev vO:Prop:=∀base,ir P w K mg base "_law_key" ["told","story"] 2 (nI K)
abbrev ud:Prop:=∀base,ir P w K mg base "_law_look" ["told","some","pair"] 4 (lV K)
end
section
variable (X:K.In h) (G:h.Ns cu mg) (z:Zs mg) (c:Cs K mg C Cf a_STILL a_HUSH) (T:Ts K C Cf)
include X G z c T
theorem uw :kE P w K mg:=fun base=>dG X G T.f_law_spread (fun S _ _ _ _ _ _ _ _ _ hr hu h=>bK (CW (K:=K) h) (ac (bR (iJ Iq (pv 0) (aQ EH ah ah)) (ag (aG (pv 0))) aV) (ac (qs 2 S (aQ f_ (aQ c6 (aQ c6 (aQ hZ (aQ f_ (pv 0) ah) ah) (aQ hZ (pv 1) ah)) ah) ah)) (ac (qs 3 S (aQ f_ (aQ c6 (aQ c6 (aQ hZ (pv 2) (pv 2)) (aQ hZ (pv 1) ah)) (aQ f_ (pv 0) ah)) ah)) (ac (qs 4 S (aQ f_ (aQ c6 (aQ c6 (aQ hZ (pv 3) (pv 3)) (aQ hZ (pv 2) ah)) ah) ah)) (ag (aG (aQ c6 (aQ hZ (aQ c6 (aQ hZ (pv 2) ah) (pv 3)) ah) (pv 4))))))))) (by walk_at "b")
theorem yC :t_ P w K mg:=fun base=>dG X G T.f_law_open (fun S _ _ _ _ _ _ _ _ _ hr hu h=>bK (Ge h) (ac (qs 1 S (qL rfl z.list (a1 (cE eW (pv 0) eX (cJ ah))))) (ac (bS bw rfl (lZ rfl z.enumerate (a1 (cE eW (pv 0) (cJ ah) (cJ ah)))) (cZ rfl (av (gn 2 S) (av (gn 3 S) cg))) (ag (gH (aQ c6 (xl (pv 1) (aQ f_ (pv 2) ah)) (pv 3)) (tw (pv 1) (aQ f_ (pv 2) ah) lB)))) (ag (aG (aW (a3 (pv 1) ah ah))))))) (by walk_at "b")
theorem yF :kG P w K mg:=fun base=>dG X G T.f_law_anew (fun S _ _ _ _ _ _ _ _ _ hr hu h=>bK (Gm (K:=K) h) (ac (gH ah (tw (pv 0) ah lB)) (ag (aG (pv 0))))) (by walk_at "b")
theorem yB (D_law_spread:kE P w K mg):dP P w K mg:=fun base=>dG X G T.f_law_take (fun S _ _ _ _ _ _ _ _ _ hr hu h=>bK (Gb h) (ac (bR (iJ vj (xl (pv 0) ah) (pv 1)) (ac (qs 2 S (xl (pv 0) ah)) (ac (qs 3 S ah) (ac (bR (iJ vj (pv 2) (ql z.len (a1 (xl (pv 0) ah)))) (ag (qs 3 S (xl (xl (pv 0) ah) (pv 2)))) (ag (bR (iJ yW (ql z.len (a1 (xl (pv 0) ah))) ah) (ag (qs 3 S (aQ f_ (xl (xl (pv 0) ah) (aQ f_ (aQ c6 (aQ hZ (pv 2) ah) ah) (ql z.len (a1 (xl (pv 0) ah))))) (aQ c6 (aQ EH ah ah) (pv 2))))) aV))) (ac (gH (aQ c6 (pv 2) ah) (tw (pv 0) ah lB)) (ag (gH (qf hr (D_law_spread base) (a2 (pv 3) (pv 2))) (tw (pv 0) ah lB))))))) aV) (ac (qs 4 S (aQ f_ (xl (pv 0) ah) (pv 1))) (ac (gH (aQ xg (xl (pv 0) ah) (pv 1)) (tw (pv 0) ah lB)) (ag (aG (pv 4))))))) (by walk_at "b") (l:=(fun vs H Q E h=>by obtain ⟨_,_,_,rfl,_⟩:=h; rfl))
theorem wV (D_law_take:dP P w K mg):jf P w K mg:=fun base=>dG X G T.f_law_names (fun S _ _ _ _ _ _ _ _ _ hr hu h=>bK (En h) (ac (qs 2 S bA) (ac (qs 3 S (eJ PySem.F.plainAttrs_str PySem.F.slot_str_join PySem.F.type_str_join GC bA (a1 (qc (jI rfl z.range (a1 ah)) (bo (by decide)) fun _ _ _ _ _ _=>⟨gc 0,cQ,xs' (pv 1) (qf hr (D_law_take base) (a2 (pv 2) ah))⟩)))) (ac (qs 4 S (qf hr (D_law_take base) (a2 (pv 0) ah))) (ac (qs 5 S (qf hr (D_law_take base) (a2 (pv 0) ah))) (ac (qs 6 S (qf hr (D_law_take base) (a2 (pv 0) ah))) (ac (qs 7 S (aW bO)) (ac (bS bw rfl (jI rfl z.range (a1 (pv 1))) (gn 8 S) (ac (qs 9 S (xs' (pv 2) (aQ f_ (aQ c6 (pv 5) (aQ hZ ah (pv 8))) ah))) (ac (qs 10 S (cE Ap (pv 3) eX (cJ (aQ f_ (aQ c6 (pv 6) (aQ hZ (pv 8) (aQ f_ (pv 4) ah))) ah)))) (ac (qs 11 S (xl (aW (a3 ah (ql z.len (a1 (pv 10))) (aQ xg (ql z.len (a1 (pv 10))) ah))) (pv 4))) (ag (aR (eJ cG d6 d4 bL (pv 7) (a1 (aQ tD (aQ tD (cE Ap (pv 10) eX (cJ (pv 11))) (pv 9)) (cE Ap (pv 10) (cJ (pv 11)) eX)))))))))) (ag (aG (pv 7))))))))))) (by walk_at "b")
theorem Ah :jU P w K mg:=fun base=>dG X G T.f_law_put (fun S _ _ _ _ _ _ _ _ _ hr hu h=>bK (Hr h) (ag (bR (Hn (l9 hu) (pv 1) (pv 0)) (ag (aR (eJ cG d6 d4 bL (pv 0) (a1 (pv 1))))) aV))) (by walk_at "b") (l:=(fun vs H Q E h=>by obtain ⟨_,_,_,_,_,rfl,_⟩:=h; rfl))
theorem oC (D_law_take:dP P w K mg) (D_law_put:jU P w K mg):gP P w K mg:=fun base=>dG X G T.f_law_draw_doors (fun S _ _ _ _ _ _ _ _ _ hr hu h=>bK (uG h) (ac (qs 5 S (aW bO)) (ac (qs 6 S (qf hr (D_law_take base) (a2 (pv 0) ah))) (ac (bS bw rfl (lZ rfl z.enumerate (a1 (pv 3))) (cZ rfl (av (gn 7 S) (av (gn 8 S) cg))) (ac (bS bw rfl (jI rfl z.range (a1 (xl (aW (cy ah (a3 ah ah ah))) (qf hr (D_law_take base) (a2 (pv 0) ah))))) (gn 9 S) (ac (qs 10 S (aH (a2 bA (xl (pv 2) (qf hr (D_law_take base) (a2 (pv 0) (ql z.len (a1 (pv 2))))))))) (ag (aR (qf hr (D_law_put base) (a2 (pv 5) (aH (a3 (pv 8) (pv 10) (xl (pv 3) (qf hr (D_law_take base) (a2 (pv 0) (ql z.len (a1 (pv 3)))))))))))))) (ac (bS bw rfl (aZ (pv 1)) (gn 11 S) (ag (bS bw rfl (jI rfl z.range (a1 (xl (aW (cy (pv 4) (a3 ah ah ah))) (qf hr (D_law_take base) (a2 (pv 0) ah))))) (gn 9 S) (ag (aR (qf hr (D_law_put base) (a2 (pv 5) (aH (a3 (pv 8) (aH (a2 bA (pv 11))) (xl (pv 3) (qf hr (D_law_take base) (a2 (pv 0) (ql z.len (a1 (pv 3))))))))))))))) (ac (qs 12 S (xl (aW (a2 (cE eW (pv 3) (cJ (aQ c6 (pv 7) ah)) eX) (cE eW (pv 3) eX (cJ (pv 7))))) (pv 6))) (ag (bR (PW.pt (hW (iJ (nL hu) (pv 12) (aW bO)) (ii (iJ jM (qf hr (D_law_take base) (a2 (pv 0) ah)) ah)))) (ag (aR (qf hr (D_law_put base) (a2 (pv 5) (aH (a3 (pv 8) (aH (a1 bA)) (xq (pv 12) (qf hr (D_law_take base) (a2 (pv 0) (ql z.len (a1 (pv 12)))))))))))) aV)))))) (ag (aG (pv 5))))))) (by walk_at "b")
theorem wW (D_law_anew:kG P w K mg) (D_law_take:dP P w K mg) (D_law_names:jf P w K mg) (D_law_draw_doors:gP P w K mg):qZ P w K mg:=fun base=>dG X G T.f_law_model (fun S _ _ _ _ _ _ _ _ _ hr hu h=>bK (Eo h) (ac (aR (qf hr (D_law_anew base) (a1 (pv 0)))) (ac (qs 3 S (qf hr (D_law_names base) (a2 (pv 0) ah))) (ac (qs 4 S (cE eW (pv 3) eX (cJ (aQ c6 ah (xl (aW (cy ah (cy ah (cy ah (a3 ah ah ah))))) (qf hr (D_law_take base) (a2 (pv 0) ah))))))) (ac (qs 5 S (cE eW (pv 3) (cJ ah) (cJ (aQ c6 ah (xl (aW (cy ah (cy ah (cy ah (a3 ah ah ah))))) (qf hr (D_law_take base) (a2 (pv 0) ah))))))) (ac (qs 6 S (qf hr (D_law_names base) (a2 (pv 0) (aQ c6 ah (qf hr (D_law_take base) (a2 (pv 0) (pv 1))))))) (ac (qs 7 S (qf hr (D_law_draw_doors base) (cy (pv 0) (cy (pv 4) (a3 (pv 5) (pv 6) (pv 2)))))) (ag (aG (aH (cy (pv 4) (a3 (pv 5) (pv 6) (pv 7))))))))))))) (by walk_at "b")
theorem Aj :qC P w K mg:=fun base=>dG X G T.f_is_name (fun S _ _ _ _ _ _ _ _ _ hr hu h=>bK (Ay h) (ag (aG (EG (Ix yV (pv 0) bA) (EG (Ix Ip (ql z.len (a1 (pv 0))) (jJ rfl c.LONGEST_NAME)) (HA (qB (qY rfl) z.all boot_all (a1 (qc (Hx (pv 0)) (bo (by decide)) fun _ _ _ _ _ _=>⟨gc 0,cQ,eci AF (pv 0) (jJ rfl c.LETTERS)⟩))))))))) (by walk_at "b") (l:=(fun vs H Q E h=>by obtain ⟨_,rfl,_⟩:=h; rfl))
theorem Ak :jV P w K mg:=fun base=>dG X G T.f_as_keys (fun S _ _ _ _ _ _ _ _ _ hr hu h=>bK (Az h) (ac (qs 1 S lE) (ac (bS bw rfl (aZ (pv 0)) (gn 2 S) (ag (gW hu (pv 1) (pv 2) mQ rfl))) (ag (aG (pv 1)))))) (by walk_at "b") (l:=(fun vs H Q E h=>by obtain ⟨_,_,rfl,_⟩:=h; rfl))
theorem my (D_is_name:qC P w K mg) (D_as_keys:jV P w K mg):fH P w K mg:=fun base=>dG X G T.f_first_wrong_name (fun S _ _ _ _ _ _ _ _ _ hr hu h=>bK (mC h) (ac (bR (iJ jM (ql z.len (a1 (pv 0))) ah) (ag (aG ah)) aV) (ac (qs 3 S (qf hr (D_as_keys base) (a1 (pv 2)))) (ac (bS bw rfl (lZ rfl z.enumerate (a1 (pv 0))) (cZ rfl (av (gn 4 S) (av (gn 5 S) cg))) (ac (bR (PW.pt (qM (iJ jM (pv 4) (pv 1)) (qM (eI (qb hu (pv 5) (pv 3))) (p_ (EB (qa (qf hr (D_is_name base) (a1 (pv 5))))))))) (ag (aG (pv 4))) aV) (ag (gW hu (pv 3) (pv 5) mQ rfl)))) (ag (aG tz)))))) (by walk_at "b")
theorem uz :kI P w K mg:=fun base=>dG X G T.f_door_signs (fun S _ _ _ _ _ _ _ _ _ hr hu h=>bK (uI c.still h) (ag (aG (aQ ga (aQ ga (qc (aZ (pv 0)) (bo (by decide)) fun _ _ _ _ _ _=>⟨gc 0,cQ,aH (a2 bA (pv 0))⟩) (qc (aZ (pv 1)) (bo (by decide)) fun _ _ _ _ _ _=>⟨gc 0,cQ,aH (a2 bA (pv 0))⟩)) (aW (a1 (jJ rfl c.STILL))))))) (by walk_at "b")
theorem mz (D_as_keys:jV P w K mg):fI P w K mg:=fun base=>dG X G T.f_first_wrong_door (fun S _ _ _ _ _ _ _ _ _ hr hu h=>bK (mD h) (ac (qs 3 S (qf hr (D_as_keys base) (a1 (pv 1)))) (ac (qs 4 S jK) (ac (bS bw rfl (lZ rfl z.enumerate (a1 (pv 0))) (cZ rfl (av (gn 5 S) (av (gn 6 S) cg))) (ac (bR (PW.pt (qM (iJ jM (pv 5) (jJ rfl c.MOST_DOORS)) (p_ (eI (qb hu (pv 6) (pv 4)))))) (ag (aG (pv 5))) aV) (ac (bR (PW.pt (qM (eI (e_ hu (xq (pv 6) ah) (pv 3))) (qM (Hn (l9 hu) (xq (pv 6) ah) (pv 2)) (p_ (eI (e_ hu (xq (pv 6) ah) (pv 3))))))) (ag (aG (pv 5))) aV) (ag (gW hu (pv 4) (pv 6) mQ rfl))))) (ag (aG tz)))))) (by walk_at "b")
theorem iK :c7 P w K mg:=fun base=>dG X G T.f_goals_by_start_and_sign (fun S _ _ _ _ _ _ _ _ _ hr hu h=>bK (iM h) (ac (qs 1 S jK) (ac (bS bw rfl (aZ (pv 0)) (cZ rfl (av (gn 2 S) (av (gn 3 S) (av (gn 4 S) cg)))) (ag (aR (eJ cG d6 d4 bL (eJ PySem.F.plainAttrs_dict PySem.F.slot_dict_setdefault PySem.F.type_dict_setdefault (C8 hu) (pv 1) (a2 (aH (a2 (pv 2) (pv 3))) (aW bO))) (a1 (pv 4)))))) (ag (aG (pv 1)))))) (by walk_at "b")
theorem rh :iS P w K mg:=fun base=>dG X G T.f_led_by_still (fun S _ _ _ _ _ _ _ _ _ hr hu h=>bK (rm c.still h) (ac (qs 2 S lE) (ac (qs 3 S (aW (a1 (pv 1)))) (ac (jH bw (iJ yW (ql z.len (a1 (pv 3))) ah) (ac (qs 4 S (AE cG PySem.F.slot_list_pop PySem.F.type_list_pop ES (pv 3))) (ag (bS bw rfl (Hy (oZ hu (pv 0) (aH (a2 (pv 4) (jJ rfl c.STILL))) (aH bO) ⟨rfl,rfl,rfl,rfl⟩)) (gn 5 S) (ag (bR (eI (e_ hu (pv 5) (pv 2))) (ac (gW hu (pv 2) (pv 5) mQ rfl) (ag (aR (eJ cG d6 d4 bL (pv 3) (a1 (pv 5)))))) aV)))))) (ag (aG (pv 2))))))) (by walk_at "b")
theorem nH :gl P w K mg:=fun base=>dG X G T.f_first_led_round (fun S _ _ _ _ _ _ _ _ _ hr hu h=>bK (nK h) (ac (bS bw rfl (lZ rfl z.enumerate (a1 (pv 0))) (cZ rfl (av (gn 2 S) (av (gn 3 S) cg))) (ag (bR (eI (qb hu (pv 3) (eZ hu (pv 1) (pv 3) (fun _ _=>rfl)))) (ag (aG (pv 2))) aV))) (ag (aG tz)))) (by walk_at "b")
theorem wT :jd P w K mg:=fun base=>dG X G T.f_need_none (fun S _ _ _ _ _ _ _ _ _ hr hu h=>bK (xa (K:=K) h) (ag (bR (eI (BV (pv 1))) (ag (oX)) aV))) (by walk_at "b")
theorem ut (D_first_wrong_name:fH P w K mg) (D_door_signs:kI P w K mg) (D_first_wrong_door:fI P w K mg) (D_need_none:jd P w K mg):kB P w K mg:=fun base=>dG X G T.f_need_parts (fun S _ _ _ _ _ _ _ _ _ hr hu h=>bK (uD (K:=K) h) (ac (aR (qf hr (D_need_none base) (a2 bA (qf hr (D_first_wrong_name base) (a3 (pv 0) (jJ rfl c.MOST_WORDS) (aW bO)))))) (ac (aR (qf hr (D_need_none base) (a2 bA (qf hr (D_first_wrong_name base) (a3 (pv 1) (jJ rfl c.MOST_WORDS) (pv 0)))))) (ac (aR (qf hr (D_need_none base) (a2 bA (qf hr (D_first_wrong_name base) (a3 (pv 2) (jJ rfl c.MOST_ROOMS) (aW bO)))))) (ag (aR (qf hr (D_need_none base) (a2 bA (qf hr (D_first_wrong_door base) (a3 (pv 3) (pv 2) (qf hr (D_door_signs base) (a2 (pv 0) (pv 1))))))))))))) (by walk_at "b")
theorem oF :gR P w K mg:=fun base=>dG X G T.f_doors_by_start (fun S _ _ _ _ _ _ _ _ _ hr hu h=>bK (oU h) (ac (qs 2 S lE) (ac (bS bw rfl (aZ (pv 0)) (gn 3 S) (ag (gW hu (pv 2) (pv 3) (aW bO) rfl))) (ac (bS bw rfl (aZ (pv 1)) (gn 4 S) (ag (aR (eJ cG d6 d4 bL (eZ hu (pv 2) (xq (pv 4) ah) (fun _ _=>rfl)) (a1 (pv 4)))))) (ag (aG (pv 2))))))) (by walk_at "b")
theorem oE :gQ P w K mg:=fun base=>dG X G T.f_has_asks_alone (fun S _ _ _ _ _ _ _ _ _ hr hu h=>bK (oT h) (ag (aG (qB (qY rfl) z.all boot_all (a1 (qc (aZ (pv 0)) (bo (by decide)) fun _ _ _ _ _ _=>⟨gc 0,cQ,Ix jM (xq (xq (pv 0) ah) ah) bA⟩)))))) (by walk_at "b")
theorem Al (D_as_keys:jV P w K mg) (D_goals_by_start_and_sign:c7 P w K mg) (D_led_by_still:iS P w K mg) (D_first_led_round:gl P w K mg) (D_need_none:jd P w K mg) (D_need_parts:kB P w K mg) (D_doors_by_start:gR P w K mg) (D_has_asks_alone:gQ P w K mg):qD P w K mg C:=fun base=>dN c.cm c.makes c.kc T.f_Machine___init__ (fun S _ _ _ _ _ _ _ _ _ hr hu h=>bK (Gh c.mc h) (ac (aR (qf hr (D_need_parts base) (cy (pv 1) (a3 (pv 2) (pv 3) (pv 4))))) (ac (gG (pv 0) (qL rfl z.list (a1 (pv 1))) rfl) (ac (gG (pv 0) (qL rfl z.list (a1 (pv 2))) rfl) (ac (gG (pv 0) (qL rfl z.list (a1 (pv 3))) rfl) (ac (gG (pv 0) (qL rfl z.list (a1 (pv 4))) rfl) (ac (gG (pv 0) (qf hr (D_doors_by_start base) (a2 (pv 3) (pv 4))) rfl) (ac (gG (pv 0) (qf hr (D_as_keys base) (a1 (qc (aZ (pv 3)) (bo (by decide)) fun _ _ _ _ _ _=>⟨gc 0,i5 (qa (qf hr (D_has_asks_alone base) (a1 (eZ hu (cf (pv 1) rfl) (pv 0) (fun _ _=>rfl))))),pv 0⟩))) rfl) (ac (gG (pv 0) (qf hr (D_goals_by_start_and_sign base) (a1 (pv 4))) rfl) (ac (gG (pv 0) (iy (xK rfl) rfl z.dict Bd (a1 (qc (aZ (pv 3)) (bo (by decide)) fun _ _ _ _ _ _=>⟨gc 0,cQ,aH (a2 (pv 0) (qf hr (D_led_by_still base) (a2 (cf (pv 1) rfl) (pv 0))))⟩))) rfl) (ag (aR (qf hr (D_need_none base) (a2 bA (qf hr (D_first_led_round base) (a2 (pv 3) (cf (pv 0) rfl))))))))))))))))) (by walk_at "b")
theorem sR (D_Machine:qD P w K mg C):mU P w K mg C:=fun base=>dG X G T.f_law_machine (fun S _ _ _ _ _ _ _ _ _ hr hu h=>bK (Ax h) (ag (aG (AD (D_Machine base) (hr.mono (by decide)) rfl (cy (qL rfl z.list (a1 (xq (pv 0) ah))) (a3 (qL rfl z.list (a1 (xq (pv 0) ah))) (qL rfl z.list (a1 (xq (pv 0) ah))) (qL rfl z.list (a1 (xq (pv 0) ah))))))))) (by walk_at "b")
theorem pY :c8 P w K mg C:=fun base=>dM c.mc.cls T.f_Machine_rooms (fun S _ _ _ _ _ _ _ _ _ hr hu h=>bK (El c.mc h) (ag (aG (qL rfl z.list (a1 (cf (pv 0) rfl)))))) (by walk_at "b")
theorem mw :dQ P w K mg C:=fun base=>dM c.mc.cls T.f_Machine_led_from (fun S _ _ _ _ _ _ _ _ _ hr hu h=>bK (yN c.mc h) (ag (aG (qL rfl z.list (a1 (oZ hu (cf (pv 0) rfl) (pv 1) (aH bO) ⟨rfl,rfl,rfl,rfl⟩)))))) (by walk_at "b")
theorem uq (M_Machine_rooms:c8 P w K mg C) (M_Machine_led_from:dQ P w K mg C):iu P w K mg C:=fun base=>dG X G T.f_with_still (fun S _ _ _ _ _ _ _ _ _ hr hu h=>bK (uC h) (ac (qs 2 S lE) (ac (bS bw rfl (aZ (pv 1)) (gn 3 S) (ag (bR (eI (e_ hu (pv 3) (pv 2))) (ac (gW hu (pv 2) (pv 3) mQ rfl) (ag (bS bw rfl (aZ (qm hr (M_Machine_led_from base) (pv 0) (a1 (pv 3)))) (gn 4 S) (ag (gW hu (pv 2) (pv 4) mQ rfl))))) aV))) (ag (aG (iy gX rfl z.tuple i9 (a1 (qc (aZ (EA hr (M_Machine_rooms base) (pv 0))) (bo (by decide)) fun _ _ _ _ _ _=>⟨gc 0,i5 (eI (qb hu (pv 0) (pv 1))),pv 0⟩)))))))) (by walk_at "b")
theorem pZ :fC P w K mg C:=fun base=>dM c.mc.cls T.f_Machine_goals (fun S _ _ _ _ _ _ _ _ _ hr hu h=>bK (CY c.mc h) (ag (aG (qL rfl z.list (a1 (oZ hu (cf (pv 0) rfl) (aH (a2 (pv 1) (pv 2))) (aH bO) ⟨rfl,rfl,rfl,rfl⟩)))))) (by walk_at "b")
theorem mx :dR P w K mg C:=fun base=>dM c.mc.cls T.f_Machine_is_quiet (fun S _ _ _ _ _ _ _ _ _ hr hu h=>bK (yO c.mc h) (ag (aG (HC (qb hu (pv 1) (cf (pv 0) rfl)))))) (by walk_at "b")
theorem rj :eR P w K mg:=fun base=>dG X G T.f_law_still_on (fun S _ _ _ _ _ _ _ _ _ hr hu h=>bK (yJ h) (ac (qs 2 S (qL rfl z.list (a1 (pv 1)))) (ac (qs 3 S ah) (ac (jH bw (iJ vj (pv 3) (ql z.len (a1 (pv 2)))) (ac (bS bw rfl (aZ (pv 0)) (cZ rfl (av (gn 4 S) (av (gn 5 S) (av (gn 6 S) cg)))) (ag (bR (PW.pt (hW (iJ (gJ hu) (pv 4) (xq (pv 2) (pv 3))) (hW (iJ (gJ hu) (pv 5) (aH (a1 bA))) (ii (Hn (l9 hu) (pv 6) (pv 2)))))) (ag (aR (eJ cG d6 d4 bL (pv 2) (a1 (pv 6))))) aV))) (ag (qs 3 S (aQ c6 (pv 3) ah))))) (ag (aG (pv 2))))))) (by walk_at "b")
theorem CS (D_law_still_on:eR P w K mg):ub P w K mg:=fun base=>dG X G T.f_law_on (fun S _ _ _ _ _ _ _ _ _ hr hu h=>bK (Ik h) (ac (qs 2 S (qf hr (D_law_still_on base) (a2 (xq (pv 0) ah) (pv 1)))) (ag (aG (iy gX rfl z.tuple i9 (a1 (qc (aZ (xq (pv 0) ah)) (bo (by decide)) fun _ _ _ _ _ _=>⟨gc 0,i5 (Hn (xf hu) (pv 0) (pv 1)),pv 0⟩))))))) (by walk_at "b")
theorem rk :iT P w K mg:=fun base=>dG X G T.f_law_is_quiet (fun S _ _ _ _ _ _ _ _ _ hr hu h=>bK (CZ h) (ag (aG (Ix (gJ hu) (qc (aZ (xq (pv 0) ah)) (bo (by decide)) fun _ _ _ _ _ _=>⟨gc 0,i5 (PW.pt (hW (iJ (gJ hu) (xq (pv 0) ah) (pv 1)) (ii (iJ yV (xq (xq (pv 0) ah) ah) bA)))),pv 0⟩) (aW bO))))) (by walk_at "b")
theorem ux (D_law_on:ub P w K mg) (D_law_is_quiet:iT P w K mg):kF P w K mg:=fun base=>dG X G T.f_law_behind (fun S _ _ _ _ _ _ _ _ _ hr hu h=>bK (Gj h) (ac (bR (iJ (gJ hu) (pv 2) (aH (a1 bA))) (ag (aG (iy gX rfl z.tuple i9 (a1 (qc (AC (pv 1)) (bo (by decide)) fun _ _ _ _ _ _=>⟨gc 0,i5 (qa (qf hr (D_law_is_quiet base) (a2 (pv 1) (pv 0)))),pv 0⟩))))) aV) (ag (aG (qf hr (D_law_on base) (a2 (pv 0) (qc (aZ (xq (pv 0) ah)) (bo (by decide)) fun _ _ _ _ _ _=>⟨gc 0,i5 (PW.pt (hW (Hn (xf hu) (xq (pv 0) ah) (pv 1)) (ii (iJ (gJ hu) (xq (pv 0) ah) (pv 2))))),xq (pv 0) ah⟩))))))) (by walk_at "b")
theorem wU :je P w K mg:=fun base=>dG X G T.f_law_signs (fun S _ _ _ _ _ _ _ _ _ hr hu h=>bK (Ej h) (ag (aG (aQ ga (aQ ga (qc (aZ (xq (pv 0) ah)) (bo (by decide)) fun _ _ _ _ _ _=>⟨gc 0,cQ,aH (a2 bA (pv 0))⟩) (qc (aZ (xq (pv 0) ah)) (bo (by decide)) fun _ _ _ _ _ _=>⟨gc 0,cQ,aH (a2 bA (pv 0))⟩)) (aW (a1 (aH (a1 bA)))))))) (by walk_at "b")
theorem rf :eT P w K mg C:=fun base=>dM c.mc.cls T.f_Machine_asks (fun S _ _ _ _ _ _ _ _ _ hr hu h=>bK (Gk c.mc h) (ag (aG (qL rfl z.list (a1 (cf (pv 0) rfl)))))) (by walk_at "b")
theorem re :gp P w K mg C:=fun base=>dM c.mc.cls T.f_Machine_says (fun S _ _ _ _ _ _ _ _ _ hr hu h=>bK (Gd c.mc h) (ag (aG (qL rfl z.list (a1 (cf (pv 0) rfl)))))) (by walk_at "b")
theorem uy (M_Machine_rooms:c8 P w K mg C) (D_with_still:iu P w K mg C):kH P w K mg C:=fun base=>dG X G T.f_first_face (fun S _ _ _ _ _ _ _ _ _ hr hu h=>bK (uF h) (ag (aG (qf hr (D_with_still base) (a2 (pv 0) (cE eW (EA hr (M_Machine_rooms base) (pv 0)) eX (cJ ah))))))) (by walk_at "b")
theorem sS (D_with_still:iu P w K mg C) (M_Machine_goals:fC P w K mg C) (M_Machine_is_quiet:dR P w K mg C):jv P w K mg C:=fun base=>dG X G T.f_face_behind (fun S _ _ _ _ _ _ _ _ _ hr hu h=>bK (Gi c.hush h) (ac (bR (iJ (gJ hu) (pv 2) (jJ rfl c.HUSH)) (ag (aG (iy gX rfl z.tuple i9 (a1 (qc (AC (pv 1)) (bo (by decide)) fun _ _ _ _ _ _=>⟨gc 0,i5 (qa (qm hr (M_Machine_is_quiet base) (pv 1) (a1 (pv 0)))),pv 0⟩))))) aV) (ac (qs 3 S (aW bO)) (ac (bS bw rfl (AC (pv 1)) (gn 4 S) (ag (aR (eJ cG PySem.F.slot_list_extend PySem.F.type_list_extend C_ (pv 3) (a1 (qm hr (M_Machine_goals base) (pv 0) (a2 (pv 4) (pv 2)))))))) (ag (aG (qf hr (D_with_still base) (a2 (pv 0) (pv 3))))))))) (by walk_at "b")
theorem oB (M_Machine_asks:eT P w K mg C) (M_Machine_says:gp P w K mg C):gM P w K mg C a_HUSH:=fun base=>dG X G T.f_signs_in_order (fun S _ _ _ _ _ _ _ _ _ hr hu h=>bK (Hq h) (ag (aG (aQ ga (aQ ga (qc (aZ (EA hr (M_Machine_asks base) (pv 0))) (bo (by decide)) fun _ _ _ _ _ _=>⟨gc 0,cQ,aH (a2 bA (pv 0))⟩) (qc (aZ (EA hr (M_Machine_says base) (pv 0))) (bo (by decide)) fun _ _ _ _ _ _=>⟨gc 0,cQ,aH (a2 bA (pv 0))⟩)) (aW (a1 (jJ rfl c.HUSH))))))) (by walk_at "b")
theorem yy (D_face_behind:jv P w K mg C) (D_signs_in_order:gM P w K mg C a_HUSH):n8 P w K mg C:=fun base=>dG X G T.f_steps_at (fun S _ _ _ _ _ _ _ _ _ hr hu h=>bK (Av c.hush h) (ac (qs 2 S jK) (ac (bS bw rfl (aZ (qf hr (D_signs_in_order base) (a1 (pv 0)))) (gn 3 S) (ac (qs 4 S (qf hr (D_face_behind base) (a3 (pv 0) (pv 1) (pv 3)))) (ag (bR (iJ yW (ql z.len (a1 (pv 4))) ah) (ag (oY hu (pv 2) (pv 3) (pv 4) rfl)) aV)))) (ag (aG (pv 2)))))) (by walk_at "b")
theorem ln :dw P w K mg Cf:=fun base=>dM c.fc.cls T.f_FaceMap_number_at (fun S _ _ _ _ _ _ _ _ _ hr hu h=>bK (Em c.fc h) (ac (bR (eI (e_ hu (pv 1) (cf (pv 0) rfl))) (ac (bR (iJ jM (ql z.len (a1 (cf (pv 0) rfl))) (jJ rfl c.MOST_FACES)) (ag (oX)) aV) (ac (gW hu (cf (pv 0) rfl) (pv 1) (ql z.len (a1 (cf (pv 0) rfl))) rfl) (ac (aR (eJ cG d6 d4 bL (cf (pv 0) rfl) (a1 (pv 1)))) (ag (aR (eJ cG d6 d4 bL (cf (pv 0) rfl) (a1 (pv 2)))))))) aV) (ag (aG (eZ hu (cf (pv 0) rfl) (pv 1) (fun _ _=>rfl)))))) (by walk_at "b")
theorem iV (D_steps_at:n8 P w K mg C) (M_FaceMap_number_at:dw P w K mg Cf):dj P w K mg C Cf:=fun base=>dM c.fc.cls T.f_FaceMap_numbered_steps (fun S _ _ _ _ _ _ _ _ _ hr hu h=>bK (yM c.fc h) (ac (qs 2 S jK) (ac (bS bw rfl (vg (qf hr (D_steps_at base) (a2 (cf (pv 0) rfl) (xl (cf (pv 0) rfl) (pv 1))))) (cZ rfl (av (gn 3 S) (av (gn 4 S) cg))) (ag (oY hu (pv 2) (pv 3) (qm hr (M_FaceMap_number_at base) (pv 0) (a2 (pv 4) (aQ ga (xl (cf (pv 0) rfl) (pv 1)) (aW (a1 (pv 3)))))) rfl))) (ag (aG (pv 2)))))) (by walk_at "b")
theorem Am (D_first_face:kH P w K mg C) (M_FaceMap_number_at:dw P w K mg Cf) (M_FaceMap_numbered_steps:dj P w K mg C Cf):qE P w K mg C Cf:=fun base=>dN c.cmf c.makesf c.kcf T.f_FaceMap___init__ (fun S _ _ _ _ _ _ _ _ _ hr hu h=>bK (C0 c.fc h) (ac (gG (pv 0) (pv 1) rfl) (ac (gG (pv 0) (aW bO) rfl) (ac (gG (pv 0) (aW bO) rfl) (ac (gG (pv 0) jK rfl) (ac (gG (pv 0) (aW bO) rfl) (ac (aR (qm hr (M_FaceMap_number_at base) (pv 0) (a2 (qf hr (D_first_face base) (a1 (pv 1))) (aW bO)))) (ag (jH bw (iJ vj (ql z.len (a1 (cf (pv 0) rfl))) (ql z.len (a1 (cf (pv 0) rfl)))) (ag (aR (eJ cG d6 d4 bL (cf (pv 0) rfl) (a1 (qm hr (M_FaceMap_numbered_steps base) (pv 0) (a1 (ql z.len (a1 (cf (pv 0) rfl)))))))))))))))))) (by walk_at "b")
theorem Eb (M_Machine_led_from:dQ P w K mg C) (M_Machine_goals:fC P w K mg C):xZ P w K mg C:=fun base=>dG X G T.f_takes (fun S _ _ _ _ _ _ _ _ _ hr hu h=>bK (Ei h) (ag (aG (qB (zK rfl) z.any boot_any (a1 (qc (aZ (aQ ga (aW (a1 (pv 1))) (qm hr (M_Machine_led_from base) (pv 0) (a1 (pv 1))))) (bo (by decide)) fun _ _ _ _ _ _=>⟨gc 0,cQ,Ix yW (ql z.len (a1 (qm hr (M_Machine_goals base) (pv 1) (a2 (pv 0) (aH (a2 bA (pv 2))))))) ah⟩)))))) (by walk_at "b")
theorem uu (M_Machine_asks:eT P w K mg C) (M_Machine_says:gp P w K mg C):kC P w K mg C:=fun base=>dG X G T.f_need_match (fun S _ _ _ _ _ _ _ _ _ hr hu h=>bK (tf h) (ag (bR (PW.pt (qM (iJ (nL hu) (EA hr (M_Machine_asks base) (pv 0)) (EA hr (M_Machine_asks base) (pv 1))) (p_ (iJ (nL hu) (EA hr (M_Machine_says base) (pv 0)) (EA hr (M_Machine_says base) (pv 1)))))) (ag (oX)) aV))) (by walk_at "b")
theorem j6 (M_Machine_rooms:c8 P w K mg C) (M_Machine_asks:eT P w K mg C) (D_takes:xZ P w K mg C):d_ P w K mg C:=fun base=>dG X G T.f_need_all_asks_taken (fun S _ _ _ _ _ _ _ _ _ hr hu h=>bK (xb h) (ag (bS bw rfl (aZ (EA hr (M_Machine_rooms base) (pv 0))) (gn 1 S) (ag (bS bw rfl (aZ (EA hr (M_Machine_asks base) (pv 0))) (gn 2 S) (ag (bR (EB (qa (qf hr (D_takes base) (a3 (pv 0) (pv 1) (pv 2))))) (ag (oX)) aV))))))) (by walk_at "b")
theorem ur (D_need_match:kC P w K mg C) (D_need_all_asks_taken:d_ P w K mg C):kA P w K mg C:=fun base=>dG X G T.f_need_taker (fun S _ _ _ _ _ _ _ _ _ hr hu h=>bK (s_ (K:=K) h) (ac (aR (qf hr (D_need_match base) (a2 (pv 0) (pv 1)))) (ag (aR (qf hr (D_need_all_asks_taken base) (a1 (pv 1))))))) (by walk_at "b")
theorem kP :eS P w K mg C:=fun base=>dM c.mc.cls T.f_Machine_doors_from (fun S _ _ _ _ _ _ _ _ _ hr hu h=>bK (uH c.mc h) (ag (aG (qL rfl z.list (a1 (oZ hu (cf (pv 0) rfl) (pv 1) (aH bO) ⟨rfl,rfl,rfl,rfl⟩)))))) (by walk_at "b")
theorem yv :n6 P w K mg:=fun base=>dG X G T.f_story_to (fun S _ _ _ _ _ _ _ _ _ hr hu h=>bK (Au h) (ac (qs 2 S (aW bO)) (ac (jH bw (eI (BV (eZ hu (pv 0) (pv 1) (fun _ _=>rfl)))) (ac (gH (eZ hu (pv 0) (pv 1) (fun _ _=>rfl)) (cZ rfl (av (gn 1 S) (av (gn 3 S) cg)))) (ag (aR (eJ cG d6 d4 bL (pv 2) (a1 (pv 3))))))) (ac (aR (AE cG PySem.F.slot_list_reverse PySem.F.type_list_reverse AG (pv 2))) (ag (aG (pv 2))))))) (by walk_at "b")
theorem sO (D_story_to:n6 P w K mg):jr P w K mg:=fun base=>dG X G T.f_least_fault (fun S _ _ _ _ _ _ _ _ _ hr hu h=>bK (uE h) (ac (qs 2 S (vh hu (aH (a2 ah ah)) tz)) (ac (qs 3 S (aW (a1 (aH (a2 ah ah))))) (ac (qs 4 S ah) (ac (jH bw (iJ vj (pv 4) (ql z.len (a1 (pv 3)))) (ac (qs 5 S (xl (pv 3) (pv 4))) (ac (Hw (i:=4) S rfl (Or.inl rfl) ah HK) (ac (qs 6 S (xl (pv 0) (xt (pv 5) ah))) (ag (bS bw rfl (vg (xl (pv 1) (xt (pv 5) ah))) (cZ rfl (av (gn 7 S) (av (gn 8 S) cg))) (ag (bR (eI (e_ hu (pv 7) (pv 6))) (ag (bR (iJ yV (xt (pv 7) ah) bA) (ag (aG (aH (a2 (qf hr (D_story_to base) (a2 (pv 2) (pv 5))) (pv 7))))) aV)) (ag (bR (eI (e_ hu (aH (a2 (eZ hu (pv 6) (pv 7) (fun _ _=>rfl)) (pv 8))) (pv 2))) (ac (oY hu (pv 2) (aH (a2 (eZ hu (pv 6) (pv 7) (fun _ _=>rfl)) (pv 8))) (aH (a2 (pv 5) (pv 7))) rfl) (ag (aR (eJ cG d6 d4 bL (pv 3) (a1 (aH (a2 (eZ hu (pv 6) (pv 7) (fun _ _=>rfl)) (pv 8)))))))) aV)))))))))) (ag (aG tz))))))) (by walk_at "b")
theorem sN (M_Machine_is_quiet:dR P w K mg C) (M_Machine_doors_from:eS P w K mg C):jq P w K mg C:=fun base=>dG X G T.f_rows_needed (fun S _ _ _ _ _ _ _ _ _ hr hu h=>bK (Ek c.hush c.still h) (ac (qs 4 S (aW bO)) (ac (bS bw rfl (aZ (qm hr (M_Machine_doors_from base) (pv 0) (a1 (pv 1)))) (cZ rfl (av (gn 5 S) (av (gn 6 S) (av (gn 7 S) cg)))) (ag (bR (iJ (gJ hu) (pv 6) (jJ rfl c.STILL)) (ag (aR (eJ cG d6 d4 bL (pv 4) (a1 (aH (a2 (pv 7) (pv 2))))))) (ag (bR (PW.pt (qM (eI (qb hu (pv 6) (pv 3))) (p_ (iJ jM (xt (pv 6) ah) bA)))) (ag (aR (eJ cG d6 d4 bL (pv 4) (a1 (aH (a2 (pv 7) (yQ hu (pv 3) (pv 6) ⟨rfl,rfl,rfl,rfl⟩))))))) aV))))) (ac (bR (qa (qm hr (M_Machine_is_quiet base) (pv 0) (a1 (pv 1)))) (ag (aR (eJ cG d6 d4 bL (pv 4) (a1 (aH (a2 (pv 1) (yQ hu (pv 3) (jJ rfl c.HUSH) ⟨rfl,rfl,rfl,rfl⟩))))))) aV) (ag (aG (pv 4))))))) (by walk_at "b")
theorem yz (M_Machine_rooms:c8 P w K mg C) (D_rows_needed:jq P w K mg C):n_ P w K mg C Cf:=fun base=>dG X G T.f_paper_of (fun S _ _ _ _ _ _ _ _ _ hr hu h=>bK (Aw c.fc h) (ac (qs 2 S (aH (a2 (xl (EA hr (M_Machine_rooms base) (pv 1)) ah) ah))) (ac (qs 3 S (vh hu (pv 2) mQ)) (ac (qs 4 S (aW (a1 (pv 2)))) (ac (jH bw (iJ yW (ql z.len (a1 (pv 4))) ah) (ac (gH (AE cG PySem.F.slot_list_pop PySem.F.type_list_pop ES (pv 4)) (cZ rfl (av (gn 5 S) (av (gn 6 S) cg)))) (ag (bS bw rfl (aZ (qf hr (D_rows_needed base) (cy (pv 1) (a3 (pv 5) (pv 6) (xl (cf (pv 0) rfl) (pv 6)))))) (gn 7 S) (ag (bR (eI (e_ hu (pv 7) (pv 3))) (ac (oY hu (pv 3) (pv 7) mQ rfl) (ag (aR (eJ cG d6 d4 bL (pv 4) (a1 (pv 7)))))) aV)))))) (ag (aG (qc (ED (pv 3)) (BY (jL (bo (by decide)) fb (jL (bo (by decide)) fb (yS) (jO)) (ke fb (jO)))) fun _ _ _ _ _ _=>⟨cZ rfl (av (gc 0) (av (gc 1) cg)),cQ,aH (a2 (pv 0) (xl (cf (pv 2) rfl) (pv 1)))⟩)))))))) (by walk_at "b")
theorem Ec (D_FaceMap:qE P w K mg C Cf) (D_need_taker:kA P w K mg C) (D_least_fault:jr P w K mg) (D_paper_of:n_ P w K mg C Cf):CF P w K mg C:=fun base=>dG X G T.f_keeps (fun S _ _ _ _ _ _ _ _ _ hr hu h=>bK (Er c.fc h) (ac (aR (qf hr (D_need_taker base) (a2 (pv 0) (pv 1)))) (ac (qs 2 S (AD (D_FaceMap base) (hr.mono (by decide)) rfl (a1 (pv 0)))) (ac (qs 3 S (qf hr (D_least_fault base) (a2 (cf (pv 2) rfl) (cf (AD (D_FaceMap base) (hr.mono (by decide)) rfl (a1 (pv 1))) rfl)))) (ac (bR (eI (HD (pv 3))) (ag (aG (aH (a2 bA (qf hr (D_paper_of base) (a2 (pv 2) (pv 1))))))) aV) (ac (gH (pv 3) (cZ rfl (av (gn 4 S) (av (gn 5 S) cg)))) (ag (aG (aH (a3 bA (pv 4) (pv 5))))))))))) (by walk_at "b") (l:=(fun vs H Q E h=>by obtain ⟨_,_,_,_,_,_,_,_,rfl,_⟩:=h; rfl))
theorem sP (D_law_take:dP P w K mg) (D_law_put:jU P w K mg) (D_law_still_on:eR P w K mg):js P w K mg:=fun base=>dG X G T.f_law_willing (fun S _ _ _ _ _ _ _ _ _ hr hu h=>bK (At h) (ac (gH (pv 1) (cZ rfl (av (gn 2 S) (av (gn 3 S) (av (gn 4 S) (av (gn 5 S) cg)))))) (ac (qs 5 S (qL rfl z.list (a1 (pv 5)))) (ac (bS bw rfl (aZ (pv 4)) (gn 6 S) (ag (bS bw rfl (aZ (pv 2)) (gn 7 S) (ac (qs 8 S (qf hr (D_law_still_on base) (a2 (pv 5) (aW (a1 (pv 6)))))) (ag (bR (iJ (gJ hu) (qc (aZ (pv 5)) (bo (by decide)) fun _ _ _ _ _ _=>⟨gc 0,i5 (PW.pt (hW (Hn (xf hu) (xq (pv 0) ah) (pv 1)) (ii (iJ (gJ hu) (xq (pv 0) ah) (aH (a2 bA (pv 2))))))),pv 0⟩) (aW bO)) (ac (qs 9 S (xl (aW (a2 (pv 6) (xl (pv 4) (qf hr (D_law_take base) (a2 (pv 0) (ql z.len (a1 (pv 4)))))))) (qf hr (D_law_take base) (a2 (pv 0) ah)))) (ag (aR (qf hr (D_law_put base) (a2 (pv 5) (aH (a3 (pv 6) (aH (a2 bA (pv 7))) (pv 9)))))))) aV)))))) (ag (aG (aH (cy (pv 2) (a3 (pv 3) (pv 4) (pv 5)))))))))) (by walk_at "b")
theorem uv (D_law_take:dP P w K mg) (D_law_put:jU P w K mg) (D_law_still_on:eR P w K mg):kD P w K mg:=fun base=>dG X G T.f_law_turned (fun S _ _ _ _ _ _ _ _ _ hr hu h=>bK (CV h) (ac (gH (pv 1) (cZ rfl (av (gn 2 S) (av (gn 3 S) (av (gn 4 S) (av (gn 5 S) cg)))))) (ac (qs 5 S (qL rfl z.list (a1 (pv 5)))) (ac (qs 6 S (qf hr (D_law_take base) (a2 (pv 0) ah))) (ac (qs 7 S (qf hr (D_law_take base) (a2 (pv 0) (qB (Dy rfl) z.max PyProof.Rows.boot_max (a2 ah (ql z.len (a1 (pv 5)))))))) (ac (qs 8 S (xl (pv 4) (qf hr (D_law_take base) (a2 (pv 0) (ql z.len (a1 (pv 4))))))) (ac (qs 9 S (xl (pv 4) (qf hr (D_law_take base) (a2 (pv 0) (ql z.len (a1 (pv 4))))))) (ac (bR (iJ jM (pv 6) ah) (ag (aR (qf hr (D_law_put base) (a2 (pv 5) (aH (a3 (pv 8) (aH (a2 bA (xl (pv 3) (qf hr (D_law_take base) (a2 (pv 0) (ql z.len (a1 (pv 3)))))))) (pv 9))))))) (ag (bR (iJ jM (pv 6) ah) (ag (aR (qf hr (D_law_put base) (a2 (pv 5) (aH (a3 (pv 8) (aH (a2 bA (xl (pv 2) (qf hr (D_law_take base) (a2 (pv 0) (ql z.len (a1 (pv 2)))))))) (pv 9))))))) (ag (bR (PW.pt (hW (iJ vj (pv 6) ah) (hW (iJ (nL hu) (pv 5) (aW bO)) (ii (iJ yV (xt (xt (xl (pv 5) (pv 7)) ah) ah) bA))))) (ac (qs 10 S (eJ cG PySem.F.slot_list_pop PySem.F.type_list_pop ER (pv 5) (a1 (pv 7)))) (ag (bR (iJ jM (pv 6) ah) (ag (aR (qf hr (D_law_put base) (a2 (pv 5) (aH (a3 (xt (pv 10) ah) (xt (pv 10) ah) (pv 9))))))) aV))) (ag (bR (PW.pt (hW (iJ jM (pv 6) ah) (ii (Hn (l9 hu) (pv 8) (qf hr (D_law_still_on base) (a2 (pv 5) (aW (a1 (pv 9))))))))) (ag (aR (qf hr (D_law_put base) (a2 (pv 5) (aH (a3 (pv 8) (aH (a1 bA)) (pv 9))))))) aV))))))) (ag (aG (aH (cy (pv 2) (a3 (pv 3) (pv 4) (pv 5)))))))))))))) (by walk_at "b")
theorem sQ (D_law_take:dP P w K mg) (D_law_names:jf P w K mg):ju P w K mg:=fun base=>dG X G T.f_law_renamed (fun S _ _ _ _ _ _ _ _ _ hr hu h=>bK (yL h) (ac (gH (pv 1) (cZ rfl (av (gn 2 S) (av (gn 3 S) (av (gn 4 S) (av (gn 5 S) cg)))))) (ac (qs 6 S lE) (ac (bS bw rfl (Gs rfl z.zip (a2 (pv 4) (qf hr (D_law_names base) (a2 (pv 0) (ql z.len (a1 (pv 4))))))) (cZ rfl (av (gn 7 S) (av (gn 8 S) cg))) (ag (gW hu (pv 6) (pv 7) (pv 8) rfl))) (ac (qsc 9 S (aZ (pv 4)) (bo (by decide)) fun _ _ _ _ _ _=>⟨gc 0,cQ,eZ hu (pv 1) (pv 0) (fun _ _=>rfl)⟩) (ac (qs 10 S (aQ c6 ah (qf hr (D_law_take base) (a2 (pv 0) (ql z.len (a1 (pv 4))))))) (ac (qs 9 S (aQ ga (aQ ga (cE eW (pv 9) eX (cJ ah)) (cE eW (pv 9) (cJ (pv 10)) eX)) (cE eW (pv 9) (cJ ah) (cJ (pv 10))))) (ac (qsc 5 S (aZ (pv 5)) (BY (jL (bo (by decide)) fb (jL (bo (by decide)) fb (jL (bo (by decide)) fb (yS) (jO)) (ke fb (jO))) (ke fb (ke fb (jO))))) fun _ _ _ _ _ _=>⟨cZ rfl (av (gc 0) (av (gc 1) (av (gc 2) cg))),cQ,aH (a3 (eZ hu (pv 3) (pv 0) (fun _ _=>rfl)) (pv 1) (eZ hu (pv 3) (pv 2) (fun _ _=>rfl)))⟩) (ag (aG (aH (cy (pv 2) (a3 (pv 3) (pv 9) (pv 5)))))))))))))) (by walk_at "b")
theorem yD (D_law_anew:kG P w K mg) (D_law_take:dP P w K mg) (D_law_willing:js P w K mg) (D_law_turned:kD P w K mg) (D_law_renamed:ju P w K mg):uc P w K mg:=fun base=>dG X G T.f_law_near (fun S _ _ _ _ _ _ _ _ _ hr hu h=>bK (Gf (K:=K) h) (ac (aR (qf hr (D_law_anew base) (a1 (pv 0)))) (ac (bS bw rfl (jI rfl z.range (a1 (qf hr (D_law_take base) (a2 (pv 0) (aQ c6 (pv 2) ah))))) (gn 3 S) (ag (qs 1 S (qf hr (D_law_turned base) (a2 (pv 0) (pv 1)))))) (ac (qs 1 S (qf hr (D_law_willing base) (a2 (pv 0) (pv 1)))) (ac (bR (iJ jM (qf hr (D_law_take base) (a2 (pv 0) ah)) ah) (ag (qs 1 S (qf hr (D_law_renamed base) (a2 (pv 0) (pv 1))))) aV) (ag (aG (pv 1)))))))) (by walk_at "b")
theorem Ai (D_law_signs:je P w K mg):vO P w K mg:=fun base=>dG X G T.f_law_key (fun S _ _ _ _ _ _ _ _ _ hr hu h=>bK (Hs h) (ac (qs 2 S (qf hr (D_law_signs base) (a1 (pv 0)))) (ag (aG (aQ ga (aW (a1 (ql z.len (a1 (pv 1))))) (qc (aZ (pv 1)) (bo (by decide)) fun _ _ _ _ _ _=>⟨gc 0,cQ,eJ cG PySem.F.slot_list_index PySem.F.type_list_index (C9 hu) (pv 1) (a1 (pv 0))⟩)))))) (by walk_at "b")
theorem yE (D_law_behind:kF P w K mg) (D_law_signs:je P w K mg):ud P w K mg:=fun base=>dG X G T.f_law_look (fun S _ _ _ _ _ _ _ _ _ hr hu h=>bK (Gg h) (ac (qs 3 S (aW bO)) (ac (qs 4 S (aW bO)) (ac (bS bw rfl (aZ (qf hr (D_law_signs base) (a1 (pv 0)))) (gn 5 S) (ac (qs 6 S (aH (a2 (qf hr (D_law_behind base) (a3 (pv 0) (xt (pv 2) ah) (pv 5))) (qf hr (D_law_behind base) (a3 (pv 1) (xt (pv 2) ah) (pv 5)))))) (ac (bR (PW.pt (hW (iJ (gJ hu) (xt (pv 6) ah) (aH bO)) (hW (iJ (nL hu) (xt (pv 6) ah) (aH bO)) (ii (iJ yV (xt (pv 5) ah) bA))))) (ag (aR (eJ cG d6 d4 bL (pv 3) (a1 (pv 5))))) aV) (ag (bR (PW.pt (hW (iJ (nL hu) (xt (pv 6) ah) (aH bO)) (ii (iJ (nL hu) (xt (pv 6) ah) (aH bO))))) (ag (aR (eJ cG d6 d4 bL (pv 4) (a1 (aH (a2 (pv 5) (pv 6))))))) aV))))) (ag (aG (aH (a2 (pv 3) (pv 4))))))))) (by walk_at "b")
end
theorem HH (X:K.In h) (G:h.Ns cu mg) (z:Zs mg) (c:Cs K mg C Cf a_STILL a_HUSH) (T:Ts K C Cf):∃f fd,mg "law"=some (.ref f)/\(∀(s:Shared) (v:Value),rQ s fd ⟨[v],[]⟩ [("script",v)])/\∀base:Heap,mI P w K mg base CX0 9 f fd ["script"] (sp_law25 K):=by
 have D_law_spread:kE P w K mg:=uw X G z c T;have D_law_open:t_ P w K mg:=yC X G z c T;have D_law_anew:kG P w K mg:=yF X G z c T;have D_law_take:dP P w K mg:=yB X G z c T D_law_spread;have D_law_names:jf P w K mg:=wV X G z c T D_law_take;have D_law_put:jU P w K mg:=Ah X G z c T;have D_law_draw_doors:gP P w K mg:=oC X G z c T D_law_take D_law_put;have D_law_model:qZ P w K mg:=wW X G z c T D_law_anew D_law_take D_law_names D_law_draw_doors;have D_is_name:qC P w K mg:=Aj X G z c T;have D_as_keys:jV P w K mg:=Ak X G z c T;have D_first_wrong_name:fH P w K mg:=my X G z c T D_is_name D_as_keys;have D_door_signs:kI P w K mg:=uz X G z c T;have D_first_wrong_door:fI P w K mg:=mz X G z c T D_as_keys;have D_goals_by_start_and_sign:c7 P w K mg:=iK X G z c T;have D_led_by_still:iS P w K mg:=rh X G z c T;have D_first_led_round:gl P w K mg:=nH X G z c T;have D_need_none:jd P w K mg:=wT X G z c T;have D_need_parts:kB P w K mg:=ut X G z c T D_first_wrong_name D_door_signs D_first_wrong_door D_need_none;have D_doors_by_start:gR P w K mg:=oF X G z c T;have D_has_asks_alone:gQ P w K mg:=oE X G z c T;have D_Machine:qD P w K mg C:=Al X G z c T D_as_keys D_goals_by_start_and_sign D_led_by_still D_first_led_round D_need_none D_need_parts D_doors_by_start D_has_asks_alone;have D_law_machine:mU P w K mg C:=sR X G z c T D_Machine;have M_Machine_rooms:c8 P w K mg C:=pY X G z c T;have M_Machine_led_from:dQ P w K mg C:=mw X G z c T;have D_with_still:iu P w K mg C:=uq X G z c T M_Machine_rooms M_Machine_led_from
 have M_Machine_goals:fC P w K mg C:=pZ X G z c T;have M_Machine_is_quiet:dR P w K mg C:=mx X G z c T;have D_law_still_on:eR P w K mg:=rj X G z c T;have D_law_on:ub P w K mg:=CS X G z c T D_law_still_on;have D_law_is_quiet:iT P w K mg:=rk X G z c T;have D_law_behind:kF P w K mg:=ux X G z c T D_law_on D_law_is_quiet;have D_law_signs:je P w K mg:=wU X G z c T;have M_Machine_asks:eT P w K mg C:=rf X G z c T;have M_Machine_says:gp P w K mg C:=re X G z c T;have D_first_face:kH P w K mg C:=uy X G z c T M_Machine_rooms D_with_still;have D_face_behind:jv P w K mg C:=sS X G z c T D_with_still M_Machine_goals M_Machine_is_quiet;have D_signs_in_order:gM P w K mg C a_HUSH:=oB X G z c T M_Machine_asks M_Machine_says;have D_steps_at:n8 P w K mg C:=yy X G z c T D_face_behind D_signs_in_order;have M_FaceMap_number_at:dw P w K mg Cf:=ln X G z c T;have M_FaceMap_numbered_steps:dj P w K mg C Cf:=iV X G z c T D_steps_at M_FaceMap_number_at;have D_FaceMap:qE P w K mg C Cf:=Am X G z c T D_first_face M_FaceMap_number_at M_FaceMap_numbered_steps;have D_takes:xZ P w K mg C:=Eb X G z c T M_Machine_led_from M_Machine_goals;have D_need_match:kC P w K mg C:=uu X G z c T M_Machine_asks M_Machine_says;have D_need_all_asks_taken:d_ P w K mg C:=j6 X G z c T M_Machine_rooms M_Machine_asks D_takes;have D_need_taker:kA P w K mg C:=ur X G z c T D_need_match D_need_all_asks_taken;have M_Machine_doors_from:eS P w K mg C:=kP X G z c T;have D_story_to:n6 P w K mg:=yv X G z c T;have D_least_fault:jr P w K mg:=sO X G z c T D_story_to;have D_rows_needed:jq P w K mg C:=sN X G z c T M_Machine_is_quiet M_Machine_doors_from
 have D_paper_of:n_ P w K mg C Cf:=yz X G z c T M_Machine_rooms D_rows_needed;have D_keeps:CF P w K mg C:=Ec X G z c T D_FaceMap D_need_taker D_least_fault D_paper_of;have D_law_willing:js P w K mg:=sP X G z c T D_law_take D_law_put D_law_still_on;have D_law_turned:kD P w K mg:=uv X G z c T D_law_take D_law_put D_law_still_on;have D_law_renamed:ju P w K mg:=sQ X G z c T D_law_take D_law_names;have D_law_near:uc P w K mg:=yD X G z c T D_law_anew D_law_take D_law_willing D_law_turned D_law_renamed;have D_law_key:vO P w K mg:=Ai X G z c T D_law_signs;have D_law_look:ud P w K mg:=yE X G z c T D_law_behind D_law_signs;obtain ⟨f,a,t⟩:=T.f_law25;obtain ⟨oc,od,an,sl,kV,dc,pm,cd,ct,l,c1,k1⟩:=t;have F:=Fi (st:=(fQ 67)) l c1 k1;have sc:ky CB EC (b9 (fQ 67)):=by walk_at "s"
 have S:=sc.nd;exact ⟨f,_,hU X G a,fun s v=>.of_eq rfl,fun base=>F.ok (k:=8) sc (by walk_at "l") (fun _ _ _ _ _ _ _ _ hr h=>by have hu:=Ch hr; exact bK (Ep (C:=C) h) (ac (qs 1 S (qf hr (D_law_open base) (a1 (pv 0)))) (ac (qs 2 S (qf hr (D_law_model base) (a3 (pv 1) ah ah))) (ac (qs 3 S (qf hr (D_law_near base) (a3 (pv 1) (pv 2) ah))) (ac (qs 4 S (qf hr (D_keeps base) (a2 (qf hr (D_law_machine base) (a1 (pv 2))) (qf hr (D_law_machine base) (a1 (pv 3)))))) (ac (qs 5 S (aW bO)) (ac (bR (iJ jM (xt (pv 4) ah) bA) (ag (qs 5 S (qf hr (D_law_key base) (a2 (pv 2) (aQ ga (xt (pv 4) ah) (aW (a1 (xt (pv 4) ah)))))))) aV) (ac (qs 6 S (aH (a2 (qf hr (D_law_on base) (a2 (pv 2) (cE eW (xt (pv 2) ah) eX (cJ ah)))) (qf hr (D_law_on base) (a2 (pv 3) (cE eW (xt (pv 3) ah) eX (cJ ah))))))) (ac (qs 7 S jK) (ac (qs 8 S (aW bO)) (ac (bS bw rfl (lZ rfl z.enumerate (a1 (aQ ga (cE eW (pv 0) eX (cJ ah)) (aW (a1 ah))))) (cZ rfl (av (gn 9 S) (av (gn 10 S) cg))) (ac (bR (eI (e_ hu (pv 6) (pv 7))) (ag (gW hu (pv 7) (pv 6) (qf hr (D_law_look base) (a3 (pv 2) (pv 3) (pv 6))) rfl)) aV) (ac (gH (eZ hu (pv 7) (pv 6) (fun _ _=>rfl)) (cZ rfl (av (gn 11 S) (av (gn 12 S) cg)))) (ac (bS bw rfl (aZ (pv 11)) (gn 13 S) (ag (bR (PW.pt (qM (iJ (gJ hu) (pv 5) (aW bO)) (p_ (iJ (HE hu) (qf hr (D_law_key base) (a2 (pv 2) (aQ ga (pv 8) (aW (a1 (pv 13)))))) (pv 5))))) (ag (aG mQ)) aV))) (ac (bR (iJ (gJ hu) (pv 12) (aW bO)) (ag (aG mQ)) aV) (ac (gH (xl (pv 12) (aQ f_ (aQ c6 (aQ xg (pv 10) ah) (aQ hZ (pv 9) (pv 9))) (ql z.len (a1 (pv 12))))) (cZ rfl (av (gn 13 S) (av (gn 6 S) cg)))) (ag (aR (eJ cG d6 d4 bL (pv 8) (a1 (pv 13))))))))))) (ag (aG (eci (xf hu) (xt (pv 4) ah) (aH (a2 bA bA))))))))))))))))⟩
theorem all_mk {l:PySem.W.OpenLaw}{fa:Addr}{u_LETTERS:Value}{u_LONGEST_NAME:Value}{u_MOST_WORDS:Value}{u_MOST_ROOMS:Value}{u_MOST_DOORS:Value}{u_MOST_FACES:Value}{o_STILL:Obj}{i_STILL:Array Value}{n_STILL:Nat}{o_HUSH:Obj}{i_HUSH:Array Value}{n_HUSH:Nat}(X:K.In h) (G:h.Ns cu mg) (hfa:mg "law"=some (.ref fa))
  (aC:cY K cu "Machine"=some (some (.ref C)))
  (pg:uW K C Str.empty=true)
  (hd:yd K C=true)
  (po:Bw K C=true)
  (sa:dF K (.ref C) "__setattr__"=some (some (.builtin "object.__setattr__")))
  (mk:rS K C=true)
  (kc:iC K (.ref C)=true)
  (na1:dF K (.ref C) "own_asks"=some none)
  (na2:dF K (.ref C) "own_says"=some none)
  (na3:dF K (.ref C) "own_rooms"=some none)
  (na4:dF K (.ref C) "own_doors"=some none)
  (na5:dF K (.ref C) "leaving"=some none)
  (na6:dF K (.ref C) "quiet"=some none)
  (na7:dF K (.ref C) "sign_goals"=some none)
  (na8:dF K (.ref C) "still_led"=some none)
  (aF:cY K cu "FaceMap"=some (some (.ref Cf)))
  (pgF:uW K Cf Str.empty=true)
  (hdF:yd K Cf=true)
  (poF:Bw K Cf=true)
  (saF:dF K (.ref Cf) "__setattr__"=some (some (.builtin "object.__setattr__")))
  (mkF:rS K Cf=true)
  (kcF:iC K (.ref Cf)=true)
  (nf1:dF K (.ref Cf) "machine"=some none)
  (nf2:dF K (.ref Cf) "faces"=some none)
  (nf3:dF K (.ref Cf) "first_stories"=some none)
  (nf4:dF K (.ref Cf) "numbers"=some none)
  (nf5:dF K (.ref Cf) "steps"=some none)
  (z_all:cY K cu "all"=some none)
  (z_any:cY K cu "any"=some none)
  (z_dict:cY K cu "dict"=some none)
  (z_enumerate:cY K cu "enumerate"=some none)
  (z_len:cY K cu "len"=some none)
  (z_list:cY K cu "list"=some none)
  (z_max:cY K cu "max"=some none)
  (z_range:cY K cu "range"=some none)
  (z_tuple:cY K cu "tuple"=some none)
  (z_zip:cY K cu "zip"=some none)
  (g_LETTERS:cY K cu "LETTERS"=some (some u_LETTERS))
  (r_LETTERS:RelV (.str "abcdefghijklmnopqrstuvwxyz") u_LETTERS)
  (g_LONGEST_NAME:cY K cu "LONGEST_NAME"=some (some u_LONGEST_NAME))
  (r_LONGEST_NAME:RelV (.int 8) u_LONGEST_NAME)
  (g_MOST_WORDS:cY K cu "MOST_WORDS"=some (some u_MOST_WORDS))
  (r_MOST_WORDS:RelV (.int 4) u_MOST_WORDS)
  (g_MOST_ROOMS:cY K cu "MOST_ROOMS"=some (some u_MOST_ROOMS))
  (r_MOST_ROOMS:RelV (.int 150) u_MOST_ROOMS)
  (g_MOST_DOORS:cY K cu "MOST_DOORS"=some (some u_MOST_DOORS))
  (r_MOST_DOORS:RelV (.int 2000) u_MOST_DOORS)
  (g_MOST_FACES:cY K cu "MOST_FACES"=some (some u_MOST_FACES))
  (r_MOST_FACES:RelV (.int 400) u_MOST_FACES)
  (g_STILL:cY K cu "STILL"=some (some (.ref a_STILL)))
  (l_STILL:K.lookup a_STILL=some o_STILL)
  (c_STILL:o_STILL.cls=.type "tuple")
  (d_STILL:o_STILL.data=.seq i_STILL n_STILL)
  (s_STILL:i_STILL.size<=aj)
  (v_STILL:a_ (ax.map V.str) i_STILL.toList)
  (g_HUSH:cY K cu "HUSH"=some (some (.ref a_HUSH)))
  (l_HUSH:K.lookup a_HUSH=some o_HUSH)
  (c_HUSH:o_HUSH.cls=.type "tuple")
  (d_HUSH:o_HUSH.data=.seq i_HUSH n_HUSH)
  (s_HUSH:i_HUSH.size<=aj)
  (v_HUSH:a_ (bT.map V.str) i_HUSH.toList)
  (T:Ts K C Cf)
 :∃fd:kS,(∀(s:Shared) (v:Value),rQ s fd ⟨[v],[]⟩ [("script",v)])/\∀base:Heap,K.In base->base.Ns cu mg->mI l.prog w K mg base CX0 9 fa fd ["script"] (sp_law25 K):=by
 have z:Zs mg:=⟨jg X G z_all,jg X G z_any,jg X G z_dict,jg X G z_enumerate,jg X G z_len,jg X G z_list,jg X G z_max,jg X G z_range,jg X G z_tuple,jg X G z_zip⟩;have c:Cs K mg C Cf a_STILL a_HUSH:=⟨⟨_,hU X G g_LETTERS,r_LETTERS⟩,⟨_,hU X G g_LONGEST_NAME,r_LONGEST_NAME⟩,⟨_,hU X G g_MOST_WORDS,r_MOST_WORDS⟩,⟨_,hU X G g_MOST_ROOMS,r_MOST_ROOMS⟩,⟨_,hU X G g_MOST_DOORS,r_MOST_DOORS⟩,⟨_,hU X G g_MOST_FACES,r_MOST_FACES⟩,⟨_,hU X G g_STILL,rfl⟩,⟨_,hU X G g_HUSH,rfl⟩,BG l_STILL c_STILL d_STILL s_STILL v_STILL,BG l_HUSH c_HUSH d_HUSH s_HUSH v_HUSH,⟨⟨pg,hd,po,sa⟩,na1,na2,na3,na4,na5,na6,na7,na8⟩,hU X G aC,mk,kc,⟨⟨pgF,hdF,poF,saF⟩,nf1,nf2,nf3,nf4,nf5⟩,hU X G aF,mkF,kcF⟩;obtain ⟨f,fd,e,b,k⟩:=HH (P:=l.prog) (w:=w) X G z c T;have e0:=hfa.symm.trans e;cases e0;exact ⟨fd,b,fun base _ _=>k base⟩
end
end Mum
namespace PySem.W.Fast
def tw5303801164856821328:=0
def tw17284746164746579154:=0
def tw7853603230337257596:=0
def tw8168923538129459410:=0
def tw1427113136409586519:=0
def tw178050327966858501:=0
def tw9063946871409303489:=0
def tw1512475118569928143:=0
def tw3342800437902041393:=0
def tw4396958390708660180:=0
def tw16766812967706609155:=0
def tw2851740857654971318:=0
def tw2637801202373983152:=0
def tw1652374917240440960:=0
def tw10212717656547378101:=0
def tw5050091867615041168:=0
def tw3193887090071588000:=0
def tw4990741408466100358:=0
def tw7838369465091567356:=0
def tw3158423333631477618:=0
def tw7186524476451788749:=0
def tw1437787529061811534:=0
def tw11911810884483423637:=0
def tw11620941489938069192:=0
def tw3248269258065961842:=0
def tw2967560852771823344:=0
def tw8715591745972218180:=0
def tw13292310278149532474:=0
def tw4770308639777108886:=0
def tw13380942713224690722:=0
def tw13569211447660882608:=0
def tw6401485417014991135:=0
def tw6352345650694152823:=0
def tw15086524454224767773:=0
def tw9570250011920908658:=0
def tw2773419726819028530:=0
def tw4936877860481512114:=0
def tw13981715426915695679:=0
def tw12706008144644801891:=0
def tw12025077462283947525:=0
def tw1303854785613308199:=0
def tw15132653117101587855:=0
def tw4261623980797844495:=0
def tw1438623340860971040:=0
def tw8402041630971090556:=0
def tw15303995156577637671:=0
def tw12009013042777204076:=0
def tw14643897364011777094:=0
def tw16331953675991657959:=0
def tw9652231012137382513:=0
def tw66438322511221530:=0
def tw17705976648415833567:=0
def tw3140121616896166730:=0
def tw13262278676756922027:=0
def tw5457111204611321161:=0
def tw11801656553331108669:=0
def tw12888739445758298334:=0
def tw8380976308537167681:=0
def tw924406873514417383:=0
def tw13885324751117853208:=0
def tw387426941735934047:=0
def tw8407655628888832204:=0
def tw6500246284242072740:=0
def tw16903458735118142356:=0
def tw5673688246218967268:=0
def tw17919325899588382494:=0
def tw18356405335292209112:=0
def tw12462107630541586170:=0
def tw10895260787974652667:=0
def tw1719373121552245234:=0
def tw1165224144141492732:=0
def tw12607454486032761056:=0
def tw11576687960376928718:=0
def tw3291489649760326375:=0
def tw14606862562506412795:=0
def tw13948438800645726788:=0
def tw13053707789153247323:=0
def tw4408770886077752493:=0
def tw5740133236239854678:=0
def tw16001413977411872646:=0
def tw17025761140974427850:=0
def tw13102133386519822758:=0
def tw11962824827665783890:=0
def tw8202589237981124393:=0
def tw1665976139123429604:=0
def tw5446485930182847903:=0
def tw7442696518490620104:=0
def tw10840052824843515629:=0
def tw8030581471989306046:=0
def tw12170827420533243466:=0
def tw13786629307455692167:=0
def tw7086386507601699548:=0
def tw13643587601121743945:=0
def tw7221290136264321944:=0
def tw18341774522415544925:=0
def tw2243646404986729969:=0
def tw9834011332158464526:=0
def tw16831306093606716939:=0
def tw12542849308991811306:=0
def tw12194964813760427884:=0
def tw12355399302221362573:=0
def tw17831271461173731455:=0
def tw15660596559817285616:=0
def tw6043699589074442470:=0
def tw8141250567648475617:=0
def tw1416560275941113646:=0
def tw5845212498668190206:=0
def tw5508791992535523682:=0
def tw3468522583398659493:=0
def tw5440913818773195797:=0
def tw12486684045310731681:=0
def tw3842739717278578401:=0
def tw13959146098393404541:=0
def tw7272657083496961829:=0
def tw3844236966320165187:=0
def tw7877874824161109494:=0
def tw14411615052827918715:=0
def tw5038488934182368449:=0
def tw5181948319771082336:=0
def tw16638770980611454575:=0
def tw15639297251658475037:=0
def tw7270557656433642302:=0
def tw2918556094069474206:=0
def tw466455971735080146:=0
def tw9391149977095806390:=0
def tw7185716333280144575:=0
def tw3753101525265791854:=0
def tw13221536684390494875:=0
def tw7574903018527418337:=0
def tw8612352587612331906:=0
def tw1983195442460902653:=0
def tw12824234848964645979:=0
def tw10256266300429078866:=0
def tw5419925857916901642:=0
def tw15954280220528800214:=0
def tw10527503445737420827:=0
def tw12231461996519990945:=0
def tw12946333290058994093:=0
def tw268239549731130194:=0
def tw8728557052150573652:=0
def tw10951564704841603988:=0
def tw13768455129759658993:=0
def tw16298199935801057186:=0
def tw13876680398475086889:=0
def tw15989808638560813329:=0
def tw3176122143483272572:=0
def tw1203318207420486652:=0
def tw2026531025252053757:=0
def tw745619900727752176:=0
def tw16381021287138759674:=0
def tw9975481746956427961:=0
def tw13361875717520791878:=0
def tw2851522792528845969:=0
def tw10512693684494380050:=0
def tw2263867855807545572:=0
def tw11974738388546320446:=0
def tw3190689267484177976:=0
def tw11011268538201286999:=0
def tw12994436732929227157:=0
def tw11624802351355573111:=0
def tw502072088830372479:=0
def tw4000705192734076649:=0
def tw8767381855372352127:=0
def tw3538052100210907036:=0
def tw12267733879296516445:=0
def tw3520294577464275661:=0
def tw14730351605622996084:=0
def tw13782072536668909222:=0
def tw14521111254477793574:=0
def tw15118821802821114161:=0
def tw9500732275402474464:=0
def tw14702072907520295408:=0
def tw6595555321750112434:=0
def tw4111631899927606126:=0
def tw7755972312204073156:=0
def tw2973424970813260299:=0
def tw5321560004456256564:=0
def tw12408203539198184696:=0
def tw7068869118995312447:=0
def tw13115759898822931295:=0
def tw1976583738922312090:=0
def tw7687236564532542990:=0
def tw17616060296075690156:=0
def tw10853482950268698791:=0
def tw8388489261956374455:=0
def tw3332886967131040318:=0
def tw12015967886986985057:=0
def tw12306439704865436610:=0
def tw1560840576804550609:=0
def tw17940292572717998238:=0
def tw7347222394802224487:=0
def tw3707372670468686111:=0
def tw17568649684339290681:=0
def tw4637117343537480241:=0
def tw1936990027293083831:=0
def tw17881473173782572437:=0
def tw18114638780725649030:=0
def tw6457072541421949883:=0
def tw15847474480706510889:=0
def tw5436226899164722518:=0
def tw6461063954843265569:=0
def tw7164718770124223124:=0
def tw6353718007011074737:=0
def tw13733953820732823918:=0
def tw16304088603922106768:=0
def tw16769734397633361420:=0
def tw4936000521757511029:=0
def tw12284619521959955468:=0
def tw13173410775131771259:=0
def tw9002056980055045497:=0
def tw4712917344202276689:=0
def tw15305004383147910376:=0
def tw10636783147153511662:=0
def tw12589177892266281030:=0
def tw3536285033913823492:=0
def tw8865701970419036025:=0
def tw17455460716599220327:=0
def tw3111242228876821192:=0
def tw7305881466347938827:=0
def tw7094303474498463298:=0
def tw11925177600277259384:=0
def tw231775882811481025:=0
def tw18392746329119798570:=0
def tw14118127041244900871:=0
def tw17176674635787506622:=0
def tw5592415264638549461:=0
def tw12060599390262314257:=0
def tw6375350114940027260:=0
def tw15015603577392208054:=0
def tw9333437282164511208:=0
def tw15036195396899354862:=0
def tw6820051168289277785:=0
def tw13542058093870224487:=0
def tw838872309901625575:=0
def tw3446837451711577733:=0
def tw12428586279385279296:=0
def tw15618975488189277534:=0
def tw10508888697879653186:=0
def tw10003578917379865772:=0
def tw7255070452707612521:=0
def tw3988723636550939972:=0
def tw12467752840202670047:=0
def tw5484273706654678793:=0
def tw7413764663225834655:=0
def tw2124399390968518022:=0
def tw16832961638292666647:=0
def tw3430709558350195823:=0
def tw5143250424823520422:=0
def tw12765941518506367253:=0
def tw15279736199956720736:=0
def tw5399311954738240172:=0
def tw7681032086761077271:=0
def tw10733626135650758236:=0
def tw11116435221299303449:=0
def tw12142896666489352346:=0
def tw3502702706720015631:=0
def tw13630176722227992626:=0
def tw16849879967300705624:=0
def tw6877554923615236795:=0
def tw4982140478187215756:=0
def tw3711099275095691510:=0
def tw14472447597994731253:=0
def tw8527717485331238895:=0
def tw7080772049053274887:=0
def tw1245955853865937727:=0
def tw385321678514239749:=0
def tw18081321723384499461:=0
def tw12149916039691276024:=0
def tw17654510654517382005:=0
def tw3954970614403190482:=0
def tw9417040824189926526:=0
def tw13476331705291903813:=0
def tw8500379651571147072:=0
def tw13324436675940643393:=0
def tw10954518208889879182:=0
def tw6017081204030724487:=0
def tw1021283327922860571:=0
def tw13483084984143627:=0
def tw9146742003667981416:=0
def tw10586075916587189729:=0
def tw13980738370167201232:=0
def tw11909833934878934022:=0
def tw11774113901282858047:=0
def tw1610887205469153358:=0
def tw8603275191668454586:=0
def tw14854026589534813967:=0
def tw2809941749759932132:=0
def tw3254481887116264519:=0
def tw14506205262092174243:=0
def tw17562171163599197572:=0
def tw11650462506336995403:=0
def tw4440191110704241359:=0
def tw10936871577594058932:=0
def tw1895902218608006464:=0
def tw9719096753157972770:=0
def tw10352574128258527969:=0
def tw5697342263167518070:=0
def tw16149673029164583826:=0
def tw2151984036125781275:=0
def tw8624282400080107267:=0
def tw4385169244186490466:=0
def tw2822396486854889633:=0
def tw8887745622647148601:=0
def tw17470473415842087673:=0
def tw17865711244828989019:=0
def tw14685489117192964085:=0
def tw203158947689446507:=0
def tw5402319569556502903:=0
def tw15526043552364028626:=0
def tw14297778164517625864:=0
def tw11661225431650930908:=0
def tw5445886918419627858:=0
def tw11022306282231016393:=0
def tw5258205764945510247:=0
def tw15737840352371620246:=0
def tw16886847480121071490:=0
def tw11274851005712965744:=0
def tw5030069254832259315:=0
def tw12874749230305314647:=0
def tw9827619494603037428:=0
def tw17245127029111364052:=0
def tw6957623825587448626:=0
def tw17849918665705313791:=0
def tw4222425890470861367:=0
def tw11510234649934469545:=0
def tw6831632050965196542:=0
def tw7582562036983455761:=0
def tw1910105517879129838:=0
def tw2205870044033106809:=0
def tw18355030095019397304:=0
def tw12374406508993932399:=0
def tw18091283431763733515:=0
def tw13372354421802754364:=0
def tw9943093888831725205:=0
def tw1090859858689371338:=0
def tw3186011522062369825:=0
def tw16023848188736540444:=0
def tw5171185187501404294:=0
def tw5189408165610230113:=0
def tw10145140158365004522:=0
def tw13402215104893723165:=0
def tw12668966229413108875:=0
def tw11345813347212462919:=0
def tw4374426140593988832:=0
def tw15449424992854438663:=0
def tw15730759930548072354:=0
def tw3362315051557892421:=0
def tw6685141336298102973:=0
def tw15370039331761774395:=0
def tw10590872879123915024:=0
def tw9929443564571496176:=0
def tw4263486858905395316:=0
def tw13738654509715361531:=0
def tw3747869011804013730:=0
def tw12607805119050045222:=0
def tw6788799317670951002:=0
def tw3351939308998700052:=0
def tw3631288703321610081:=0
def tw16809753988219699707:=0
def tw13570403231121120402:=0
def tw9011219046443203638:=0
def tw12513846815464036805:=0
def tw12414651838409906718:=0
def tw12445659634271825646:=0
def tw14622856409305527761:=0
def tw16841298020274984964:=0
def tw14881569801767418944:=0
def tw16022683629052215554:=0
def tw13605800507314907731:=0
def tw12357220231558853613:=0
def tw16989229301445641079:=0
def tw14033351681695665029:=0
def tw4170708845344955887:=0
def tw17315713883684568947:=0
def tw5379007431214280310:=0
def tw14139415309103000170:=0
def tw10831202244814031932:=0
def tw3421676768996117607:=0
def tw1930051952457571682:=0
def tw11933685568075263251:=0
def tw2557824219418235865:=0
def tw14531322933162930563:=0
def tw3521287408250241319:=0
def tw6198013469066986550:=0
def tw6895599864238208334:=0
def tw8362846406029976998:=0
def tw2705503930763972078:=0
def tw5834112357188896403:=0
def tw16838762574049893281:=0
def tw12519808074147033054:=0
def tw14963285302233182790:=0
def tw7986551202336701201:=0
def tw16982329552980829408:=0
def tw6750119314113673148:=0
def tw14979265686864628850:=0
def tw13595875432567701900:=0
def tw693625306523467196:=0
def tw10567388134472173509:=0
def tw1319061894846061117:=0
def tw13386296518337784738:=0
end PySem.W.Fast
open PySem PySem.W PyProof.Rows
set_option maxRecDepth 100000 in
set_option maxHeartbeats 0 in
theorem PySem.Challenge.cw_mumtrial_k25_along_stories_holds : PySem.Challenge.rw_mumtrial_k25_along_stories.Holds := by
 w_on; o_law; k_head; (case hw=>w_witness2)
 k_fill
 refine L2.walk_ofK (l:=PySem.Challenge.rw_mumtrial_k25_along_stories) (n:=63) (k:=9) (x:="script") (CX:=L2.CX0) (sp:=Mum.sp_law25) rfl (by decide) rfl ⟨rfl,by decide,by decide⟩ (fun w h Y=>PySem.W.kIn_of Y) ?F (fun _ _ a ns hl _ hS=>⟨a,ns,rfl,hS,hl,fun _=>rfl⟩) (fun _ _ _ _ z=>z)
 case F =>
  intro w mg fa h KX G hmg;refine' Mum.all_mk KX G hmg ?aC ?pg ?hd ?po ?sa ?mk ?kc ?na1 ?na2 ?na3 ?na4 ?na5 ?na6 ?na7 ?na8 ?aF ?pgF ?hdF ?poF ?saF ?mkF ?kcF ?nf1 ?nf2 ?nf3 ?nf4 ?nf5 ?z_all ?z_any ?z_dict ?z_enumerate ?z_len ?z_list ?z_max ?z_range ?z_tuple ?z_zip ?g_LETTERS ?r_LETTERS ?g_LONGEST_NAME ?r_LONGEST_NAME ?g_MOST_WORDS ?r_MOST_WORDS ?g_MOST_ROOMS ?r_MOST_ROOMS ?g_MOST_DOORS ?r_MOST_DOORS ?g_MOST_FACES ?r_MOST_FACES ?g_STILL ?l_STILL ?c_STILL ?d_STILL ?s_STILL ?v_STILL ?g_HUSH ?l_HUSH ?c_HUSH ?d_HUSH ?s_HUSH ?v_HUSH ?T
  (case aC | pg | hd | po | sa | mk | kc | na1 | na2 | na3 | na4 | na5 | na6 | na7 | na8 | aF | pgF | hdF | poF | saF | mkF | kcF | nf1 | nf2 | nf3 | nf4 | nf5 | z_all | z_any | z_dict | z_enumerate | z_len | z_list | z_max | z_range | z_tuple | z_zip | g_LETTERS=>k_is)
  (case r_LETTERS=>exact ⟨_,rfl⟩)
  (case g_LONGEST_NAME=>k_is)
  (case r_LONGEST_NAME=>exact ⟨_,rfl⟩)
  (case g_MOST_WORDS=>k_is)
  (case r_MOST_WORDS=>exact ⟨_,rfl⟩)
  (case g_MOST_ROOMS=>k_is)
  (case r_MOST_ROOMS=>exact ⟨_,rfl⟩)
  (case g_MOST_DOORS=>k_is)
  (case r_MOST_DOORS=>exact ⟨_,rfl⟩)
  (case g_MOST_FACES=>k_is)
  (case r_MOST_FACES=>exact ⟨_,rfl⟩)
  (case g_STILL | l_STILL=>k_is)
  (case c_STILL | d_STILL=>rfl)
  (case s_STILL=>decide)
  (case v_STILL=>exact .cons ⟨_,rfl⟩ .nil)
  (case g_HUSH | l_HUSH=>k_is)
  (case c_HUSH | d_HUSH=>rfl)
  (case s_HUSH=>decide)
  (case v_HUSH=>exact .cons ⟨_,rfl⟩ .nil)
  (case T=>constructor <;> first | (refine' Mum.fnG_mk ?a ?l ?c ?k; (case a=>k_is); (case l=>k_is); (case c=>k_is); (case k=>k_is)) | (refine' Mum.fnM_mk ?a ?i ?l ?c ?k; (case a=>k_is); (case i=>k_is); (case l=>k_is); (case c=>k_is); (case k=>k_is)))
